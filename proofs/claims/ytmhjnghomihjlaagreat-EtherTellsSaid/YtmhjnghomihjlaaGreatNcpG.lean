/-
  What the program's Get of layer 16 answers. No condition beyond: at most 2^30 octets.
-/
import Derived.Test.YtmhjnghomihjlaaGreatNcpP
import Derived.Test.YtmhjnghomihjlaaGreatGPkt
import Derived.Test.YtmhjnghomihjlaaGreatGOps
import Derived.Test.YtmhjnghomihjlaaGreatGCtl
namespace Go.Proofs.YtmhjnghomihjlaaGreat
set_option maxRecDepth 8000
set_option maxHeartbeats 80000000
set_option linter.unusedVariables false
open Go.RowKit
theorem ngt_kind (t:Nat) (b:List Nat) (n c:Nat) (A:Option Addr) (w:World) (ht:¬ (t=32801∨t=32855)) :
  Calls Tryz.prog 134 #[.int .u16 (t:Int),.slice A n c] w (GetN w pk0 8):=by
 have C:=hI (GeC.made 40 w)
 have HI:=hI (decide_eq_false ht)
 clear ht
 go_enter Tryz.func134,Tryz.ntmps134
 go_wp2_with (first
  | (go_at_call 81;(with_reducible refine (nis_any t _ HI.out _).mono ?_);rintro e wi ⟨rfl,hb⟩;replace C:=hI (C.out.step hb);clear hb;obtain ⟨y0,y1,y2,y3,y4,y5,y6,y7,y8,y9⟩:=C.out.res.all;obtain ⟨z0,z1,z2,z3,z4,z5,z6,z7,z8,z9⟩:=C.out.res.free)
)
 refine bodyPost_ret (v:=.tuple #[pk0.val pl0,.int .i64 8]) ?_ rfl (GetN.mk pl0 rfl pwF0 (put10_below C.out.bel (Nat.le_refl _) pk0 pl0))
 exact results_row_tmpP rfl _ _ _ w.heap.size 40 _ _ _ rfl rfl (put10_px C.out.res pk0 pl0) Tryz.underlying40 (by kernel_rfl)
theorem ngt_no (t:Nat) (b:List Nat) (n c:Nat) (A:Option Addr) (w:World) (ht:t=32801∨t=32855) (h:Rd w w.heap.size A b) (hb:By b) (hl:b.length=n) (hn:n≤1073741824) (hc:n≤c) (x y:Nat) (d:List Nat) (k:Nat) (hg:kgetB b=(x,y,d,k)) (hk:¬ k=0) :
  Calls Tryz.prog 134 #[.int .u16 (t:Int),.slice A n c] w (GetN w pk0 k):=by
 have C:=hI (GeC.made 40 w)
 have HI:=hI (decide_eq_true ht)
 have HR:=hI h
 have HB:=hI hb
 have HL:=hI hl
 have HG:=hI hg
 have j1:((k:Int) != 0)=true:=by rw [bne_iff_ne];omega
 clear h hb hl hg hk ht
 go_enter Tryz.func134,Tryz.ntmps134
 go_wp2_with (first
  | (go_at_call 81;(with_reducible refine (nis_any t _ HI.out _).mono ?_);rintro e wi ⟨rfl,hb⟩;replace C:=hI (C.out.step hb);clear hb)
  | (go_at_call 107;(with_reducible refine (cget_v b x y d k HG.out d.length rfl n c A _ (HR.out.on C.out.bel) HB.out HL.out (by omega) hc).mono ?_);rintro e wn ⟨A1,c1,rfl,k1,r1,hb⟩;replace C:=hI (C.out.step hb);clear hb r1;obtain ⟨y0,y1,y2,y3,y4,y5,y6,y7,y8,y9⟩:=C.out.res.all;obtain ⟨z0,z1,z2,z3,z4,z5,z6,z7,z8,z9⟩:=C.out.res.free))
 refine bodyPost_ret (v:=.tuple #[pk0.val pl0,.int .i64 (k:Int)]) ?_ rfl (GetN.mk pl0 rfl pwF0 (put10_below C.out.bel (Nat.le_refl _) pk0 pl0))
 exact results_row_tmpP rfl _ _ _ w.heap.size 40 _ _ _ rfl rfl (put10_px C.out.res pk0 pl0) Tryz.underlying40 (by kernel_rfl)
theorem ngt_data (t:Nat) (b:List Nat) (n c:Nat) (A:Option Addr) (w:World) (ht:t=32801∨t=32855) (h:Rd w w.heap.size A b) (hb:By b) (hl:b.length=n) (hn:n≤1073741824) (hc:n≤c) (x y:Nat) (d:List Nat) (hg:kgetB b=(x,y,d,0)) (hk:¬ (1≤x∧x≤4))  :
  Calls Tryz.prog 134 #[.int .u16 (t:Int),.slice A n c] w (GetN w ⟨t,x,y,[],0,0,[],[],d,[]⟩ 0):=by
 have C:=hI (GeC.made 40 w)
 have HI:=hI (decide_eq_true ht)
 have HR:=hI h
 have HB:=hI hb
 have HL:=hI hl
 have HG:=hI hg
 have HK:=hI (decide_eq_false hk)
 obtain ⟨n2,hn2⟩:∃ n2,Hid (d.length=n2):=⟨_,hI rfl⟩
 have hd1:=kget_bytes hb hg
 have HD:=hI hd1.1
 have n2le:n2≤1073741824:=by have:=hd1.2;have:=hn2.out;omega
 clear h hb hl hg hk hd1 ht
 go_enter Tryz.func134,Tryz.ntmps134
 go_wp2_with (first
  | (go_at_call 81;(with_reducible refine (nis_any t _ HI.out _).mono ?_);rintro e wi ⟨rfl,hb⟩;replace C:=hI (C.out.step hb);clear hb)
  | (go_at_call 107;(with_reducible refine (cgetN_v b x y d _ HG.out n2 hn2.out n c A _ (HR.out.on C.out.bel) HB.out HL.out (by omega) hc).mono ?_);rintro e wn ⟨A1,c1,rfl,k1,r1,hb⟩;have LT:=C.out.res.lt;have R1:=hI (r1.mono (G:=fun i=>w.heap.size<i∧i<wn.heap.size) (fun i hi hf=>⟨Nat.lt_of_lt_of_le LT hf,hi⟩));replace C:=hI (C.out.step hb);clear hb r1 LT)
  | (go_at_call 136;(with_reducible refine (nlisted_any x _ HK.out _).mono ?_);rintro e wm ⟨rfl,hb⟩;have BA:=((Below.refl wn.heap.size wn).alloc (Nat.le_refl _) (.cells #[.int .u16 (t:Int),.int .u8 (x:Int),.int .u8 (y:Int),.slice none 0 0,.int .u16 0,.int .u32 0,.slice none 0 0,.slice none 0 0,.slice none 0 0,.slice none 0 0] 40));have R2:=hI ((R1.out.keep (.of_below (BA.trans (hb.mono BA.size)))).mono (G:=Ngt w.heap.size wn.heap.size) (fun i _ hf=>⟨hf.1,Nat.ne_of_lt hf.2⟩));have P:=hI ((C.out.pk ⟨t,x,y,[],0,0,[],[],[],[]⟩ pl0).step hb);obtain ⟨g,hgg⟩:∃ g,Hid (wn.heap.size=g):=⟨_,hI rfl⟩;rw [hgg.out] at P R2 ⊢;have nq1:=Nat.ne_of_lt P.out.lt;have nq3:=Nat.ne_of_gt P.out.lt;clear hb BA R1 C;obtain ⟨x0,x1,x2,x3,x4,x5,x6,x7,x8,x9⟩:=P.out.cf.all;obtain ⟨u0,u1,u2,u3,u4,u5,u6,u7,u8,u9⟩:=P.out.cf.free;obtain ⟨y0,y1,y2,y3,y4,y5,y6,y7,y8,y9⟩:=P.out.res.all;obtain ⟨z0,z1,z2,z3,z4,z5,z6,z7,z8,z9⟩:=P.out.res.free))
 refine bodyPost_ret (v:=.tuple #[Pk.val ⟨t,x,y,[],0,0,[],[],d,[]⟩ { pl0 with ad:=A1,nd:=n2,cd:=c1 },.int .i64 0]) ?_ rfl (GetN.mk { pl0 with ad:=A1,nd:=n2,cd:=c1 } rfl ?_ (put10_below (P.out.set 8 (.slice A1 n2 c1) (P.out.cf.setData A1 n2 c1 d)).bel (Nat.le_refl _) ⟨t,x,y,[],0,0,[],[],d,[]⟩ { pl0 with ad:=A1,nd:=n2,cd:=c1 }))
 ·exact results_row_tmpP rfl _ _ _ w.heap.size 40 _ _ _ rfl rfl (put10_px (P.out.set 8 (.slice A1 n2 c1) (P.out.cf.setData A1 n2 c1 d)).res ⟨t,x,y,[],0,0,[],[],d,[]⟩ { pl0 with ad:=A1,nd:=n2,cd:=c1 }) Tryz.underlying40 (by kernel_rfl)
 ·exact ((pwF_data t x y 0 0 hn2.out R2.out k1).keep ((keeps_g1 wm w.heap.size g 8 (.slice A1 n2 c1)).trans (keeps_g2 _ w.heap.size g ⟨t,x,y,[],0,0,[],[],d,[]⟩ { pl0 with ad:=A1,nd:=n2,cd:=c1 }))).mono (fun _ _ h=>h.le)
theorem ngt_opts (t:Nat) (b:List Nat) (n c:Nat) (A:Option Addr) (w:World) (ht:t=32801∨t=32855) (h:Rd w w.heap.size A b) (hb:By b) (hl:b.length=n) (hn:n≤1073741824) (hc:n≤c) (x y:Nat) (d:List Nat) (hg:kgetB b=(x,y,d,0)) (hk:1≤x∧x≤4) (l:List (Nat × List Nat)) (ho:getO t d=(l,0)) :
  Calls Tryz.prog 134 #[.int .u16 (t:Int),.slice A n c] w (GetN w ⟨t,x,y,l,0,0,[],[],[],[]⟩ 0):=by
 have C:=hI (GeC.made 40 w)
 have HI:=hI (decide_eq_true ht)
 have HR:=hI h
 have HB:=hI hb
 have HL:=hI hl
 have HG:=hI hg
 have HK:=hI (decide_eq_true hk)
 obtain ⟨n2,hn2⟩:∃ n2,Hid (d.length=n2):=⟨_,hI rfl⟩
 have hd1:=kget_bytes hb hg
 have HD:=hI hd1.1
 have n2le:n2≤1073741824:=by have:=hd1.2;have:=hn2.out;omega
 have HO:=hI ho
 obtain ⟨n3,hn3⟩:∃ n3,Hid (l.length=n3):=⟨_,hI rfl⟩
 clear h hb hl hg hk hd1 ho ht
 go_enter Tryz.func134,Tryz.ntmps134
 go_wp2_with (first
  | (go_at_call 81;(with_reducible refine (nis_any t _ HI.out _).mono ?_);rintro e wi ⟨rfl,hb⟩;replace C:=hI (C.out.step hb);clear hb)
  | (go_at_call 107;(with_reducible refine (cgetN_v b x y d _ HG.out n2 hn2.out n c A _ (HR.out.on C.out.bel) HB.out HL.out (by omega) hc).mono ?_);rintro e wn ⟨A1,c1,rfl,k1,r1,hb⟩;have LT:=C.out.res.lt;have R1:=hI (r1.mono (G:=fun i=>w.heap.size<i∧i<wn.heap.size) (fun i hi hf=>⟨Nat.lt_of_lt_of_le LT hf,hi⟩));replace C:=hI (C.out.step hb);clear hb r1 LT)
  | (go_at_call 136;(with_reducible refine (nlisted_any x _ HK.out _).mono ?_);rintro e wm ⟨rfl,hb⟩;have BA:=((Below.refl wn.heap.size wn).alloc (Nat.le_refl _) (.cells #[.int .u16 (t:Int),.int .u8 (x:Int),.int .u8 (y:Int),.slice none 0 0,.int .u16 0,.int .u32 0,.slice none 0 0,.slice none 0 0,.slice none 0 0,.slice none 0 0] 40));have R2:=hI ((R1.out.keep (.of_below (BA.trans (hb.mono BA.size)))).mono (G:=Ngt w.heap.size wn.heap.size) (fun i _ hf=>⟨hf.1,Nat.ne_of_lt hf.2⟩));have P:=hI ((C.out.pk ⟨t,x,y,[],0,0,[],[],[],[]⟩ pl0).step hb);obtain ⟨g,hgg⟩:∃ g,Hid (wn.heap.size=g):=⟨_,hI rfl⟩;rw [hgg.out] at P R2 ⊢;have nq1:=Nat.ne_of_lt P.out.lt;have nq3:=Nat.ne_of_gt P.out.lt;clear hb BA R1 C;obtain ⟨x0,x1,x2,x3,x4,x5,x6,x7,x8,x9⟩:=P.out.cf.all;obtain ⟨u0,u1,u2,u3,u4,u5,u6,u7,u8,u9⟩:=P.out.cf.free;obtain ⟨y0,y1,y2,y3,y4,y5,y6,y7,y8,y9⟩:=P.out.res.all;obtain ⟨z0,z1,z2,z3,z4,z5,z6,z7,z8,z9⟩:=P.out.res.free)
  | (go_at_call 109;(with_reducible refine (pgetN_any t d l _ HO.out n3 hn3.out n2 c1 A1 _ R2.out.rd HD.out hn2.out n2le k1).mono ?_);rintro e wk ⟨A3,c3,rfl,r3,hb⟩;have LT:=P.out.cf.lt;have LT2:=P.out.lt;have R3:=hI (r3.mono (G:=Ngt w.heap.size g) (fun i _ hf=>⟨Nat.lt_of_lt_of_le (Nat.lt_trans LT2 LT) hf,Nat.ne_of_gt (Nat.lt_of_lt_of_le LT hf)⟩));replace P:=hI (P.out.step hb);clear hb r3 LT LT2 R2;clear x0 x1 x2 x3 x4 x5 x6 x7 x8 x9 u0 u1 u2 u3 u4 u5 u6 u7 u8 u9 y0 y1 y2 y3 y4 y5 y6 y7 y8 y9 z0 z1 z2 z3 z4 z5 z6 z7 z8 z9;obtain ⟨x0,x1,x2,x3,x4,x5,x6,x7,x8,x9⟩:=P.out.cf.all;obtain ⟨u0,u1,u2,u3,u4,u5,u6,u7,u8,u9⟩:=P.out.cf.free;obtain ⟨y0,y1,y2,y3,y4,y5,y6,y7,y8,y9⟩:=P.out.res.all;obtain ⟨z0,z1,z2,z3,z4,z5,z6,z7,z8,z9⟩:=P.out.res.free))
 refine bodyPost_ret (v:=.tuple #[Pk.val ⟨t,x,y,l,0,0,[],[],[],[]⟩ { pl0 with ao:=A3,no:=n3,co:=c3 },.int .i64 0]) ?_ rfl (GetN.mk { pl0 with ao:=A3,no:=n3,co:=c3 } rfl ?_ (put10_below (P.out.set 3 (.slice A3 n3 c3) (P.out.cf.setOpts A3 n3 c3 l)).bel (Nat.le_refl _) ⟨t,x,y,l,0,0,[],[],[],[]⟩ { pl0 with ao:=A3,no:=n3,co:=c3 }))
 ·exact results_row_tmpP rfl _ _ _ w.heap.size 40 _ _ _ rfl rfl (put10_px (P.out.set 3 (.slice A3 n3 c3) (P.out.cf.setOpts A3 n3 c3 l)).res ⟨t,x,y,l,0,0,[],[],[],[]⟩ { pl0 with ao:=A3,no:=n3,co:=c3 }) Tryz.underlying40 (by kernel_rfl)
 ·exact ((pwF_opts t x y 0 0 hn3.out R3.out).keep ((keeps_g1 wk w.heap.size g 3 (.slice A3 n3 c3)).trans (keeps_g2 _ w.heap.size g ⟨t,x,y,l,0,0,[],[],[],[]⟩ { pl0 with ao:=A3,no:=n3,co:=c3 }))).mono (fun _ _ h=>h.le)
theorem ngt_opts_no (t:Nat) (b:List Nat) (n c:Nat) (A:Option Addr) (w:World) (ht:t=32801∨t=32855) (h:Rd w w.heap.size A b) (hb:By b) (hl:b.length=n) (hn:n≤1073741824) (hc:n≤c) (x y:Nat) (d:List Nat) (hg:kgetB b=(x,y,d,0)) (hk:1≤x∧x≤4) (l:List (Nat × List Nat)) (kk:Nat) (ho:getO t d=(l,kk)) (hkk:¬ kk=0) :
  Calls Tryz.prog 134 #[.int .u16 (t:Int),.slice A n c] w (GetN w pk0 kk):=by
 have C:=hI (GeC.made 40 w)
 have HI:=hI (decide_eq_true ht)
 have HR:=hI h
 have HB:=hI hb
 have HL:=hI hl
 have HG:=hI hg
 have HK:=hI (decide_eq_true hk)
 obtain ⟨n2,hn2⟩:∃ n2,Hid (d.length=n2):=⟨_,hI rfl⟩
 have hd1:=kget_bytes hb hg
 have HD:=hI hd1.1
 have n2le:n2≤1073741824:=by have:=hd1.2;have:=hn2.out;omega
 have HO:=hI ho
 obtain ⟨n3,hn3⟩:∃ n3,Hid (l.length=n3):=⟨_,hI rfl⟩
 have j1:((kk:Int) != 0)=true:=by rw [bne_iff_ne];omega
 clear h hb hl hg hk hd1 ho hkk ht
 go_enter Tryz.func134,Tryz.ntmps134
 go_wp2_with (first
  | (go_at_call 81;(with_reducible refine (nis_any t _ HI.out _).mono ?_);rintro e wi ⟨rfl,hb⟩;replace C:=hI (C.out.step hb);clear hb)
  | (go_at_call 107;(with_reducible refine (cgetN_v b x y d _ HG.out n2 hn2.out n c A _ (HR.out.on C.out.bel) HB.out HL.out (by omega) hc).mono ?_);rintro e wn ⟨A1,c1,rfl,k1,r1,hb⟩;have LT:=C.out.res.lt;have R1:=hI (r1.mono (G:=fun i=>w.heap.size<i∧i<wn.heap.size) (fun i hi hf=>⟨Nat.lt_of_lt_of_le LT hf,hi⟩));replace C:=hI (C.out.step hb);clear hb r1 LT)
  | (go_at_call 136;(with_reducible refine (nlisted_any x _ HK.out _).mono ?_);rintro e wm ⟨rfl,hb⟩;have BA:=((Below.refl wn.heap.size wn).alloc (Nat.le_refl _) (.cells #[.int .u16 (t:Int),.int .u8 (x:Int),.int .u8 (y:Int),.slice none 0 0,.int .u16 0,.int .u32 0,.slice none 0 0,.slice none 0 0,.slice none 0 0,.slice none 0 0] 40));have R2:=hI ((R1.out.keep (.of_below (BA.trans (hb.mono BA.size)))).mono (G:=Ngt w.heap.size wn.heap.size) (fun i _ hf=>⟨hf.1,Nat.ne_of_lt hf.2⟩));have P:=hI ((C.out.pk ⟨t,x,y,[],0,0,[],[],[],[]⟩ pl0).step hb);obtain ⟨g,hgg⟩:∃ g,Hid (wn.heap.size=g):=⟨_,hI rfl⟩;rw [hgg.out] at P R2 ⊢;have nq1:=Nat.ne_of_lt P.out.lt;have nq3:=Nat.ne_of_gt P.out.lt;clear hb BA R1 C;obtain ⟨x0,x1,x2,x3,x4,x5,x6,x7,x8,x9⟩:=P.out.cf.all;obtain ⟨u0,u1,u2,u3,u4,u5,u6,u7,u8,u9⟩:=P.out.cf.free;obtain ⟨y0,y1,y2,y3,y4,y5,y6,y7,y8,y9⟩:=P.out.res.all;obtain ⟨z0,z1,z2,z3,z4,z5,z6,z7,z8,z9⟩:=P.out.res.free)
  | (go_at_call 109;(with_reducible refine (pgetN_any t d l _ HO.out n3 hn3.out n2 c1 A1 _ R2.out.rd HD.out hn2.out n2le k1).mono ?_);rintro e wk ⟨A3,c3,rfl,r3,hb⟩;have LT:=P.out.cf.lt;have LT2:=P.out.lt;have R3:=hI (r3.mono (G:=Ngt w.heap.size g) (fun i _ hf=>⟨Nat.lt_of_lt_of_le (Nat.lt_trans LT2 LT) hf,Nat.ne_of_gt (Nat.lt_of_lt_of_le LT hf)⟩));replace P:=hI (P.out.step hb);clear hb r3 LT LT2 R2;clear x0 x1 x2 x3 x4 x5 x6 x7 x8 x9 u0 u1 u2 u3 u4 u5 u6 u7 u8 u9 y0 y1 y2 y3 y4 y5 y6 y7 y8 y9 z0 z1 z2 z3 z4 z5 z6 z7 z8 z9;obtain ⟨x0,x1,x2,x3,x4,x5,x6,x7,x8,x9⟩:=P.out.cf.all;obtain ⟨u0,u1,u2,u3,u4,u5,u6,u7,u8,u9⟩:=P.out.cf.free;obtain ⟨y0,y1,y2,y3,y4,y5,y6,y7,y8,y9⟩:=P.out.res.all;obtain ⟨z0,z1,z2,z3,z4,z5,z6,z7,z8,z9⟩:=P.out.res.free))
 refine bodyPost_ret (v:=.tuple #[Pk.val pk0 pl0,.int .i64 (kk:Int)]) ?_ rfl (GetN.mk pl0 rfl ?_ (put10_below P.out.bel (Nat.le_refl _) pk0 pl0))
 ·exact results_row_tmpP rfl _ _ _ w.heap.size 40 _ _ _ rfl rfl (put10_px P.out.res pk0 pl0) Tryz.underlying40 (by kernel_rfl)
 ·exact pwF0
theorem nget_any (t:Nat) (b:List Nat) (n c:Nat) (A:Option Addr) (w:World) (h:Rd w w.heap.size A b) (hb:By b) (hl:b.length=n) (hn:n≤1073741824) (hc:n≤c) (p:Pk) (k:Nat) (hp:ngetB t b=(p,k)) :
  Calls Tryz.prog 134 #[.int .u16 (t:Int),.slice A n c] w (GetN w p k):=by
 by_cases ht:t=32801∨t=32855
 case neg =>
  rw [nget_kind ht] at hp
  obtain ⟨rfl,rfl⟩:=Prod.mk.inj hp
  exact ngt_kind t b n c A w ht
 obtain ⟨x,y,d,e,hg⟩:∃ x y d e,kgetB b=(x,y,d,e):=⟨_,_,_,_,rfl⟩
 by_cases he:e=0
 case neg =>
  rw [nget_no ht hg he] at hp
  obtain ⟨rfl,rfl⟩:=Prod.mk.inj hp
  exact ngt_no t b n c A w ht h hb hl hn hc x y d e hg he
 subst he
 rw [nget_of ht hg,nrdB] at hp
 by_cases hk:1≤x∧x≤4
 case neg =>
  rw [if_neg hk] at hp
  obtain ⟨rfl,rfl⟩:=Prod.mk.inj hp
  exact ngt_data t b n c A w ht h hb hl hn hc x y d hg hk
 rw [if_pos hk] at hp
 obtain ⟨l,kk,ho⟩:∃ l kk,getO t d=(l,kk):=⟨_,_,rfl⟩
 rw [ho] at hp
 dsimp only at hp
 by_cases h0:kk=0
 ·subst h0
  rw [if_pos rfl] at hp
  obtain ⟨rfl,rfl⟩:=Prod.mk.inj hp
  exact ngt_opts t b n c A w ht h hb hl hn hc x y d hg hk l ho
 ·rw [if_neg h0] at hp
  obtain ⟨rfl,rfl⟩:=Prod.mk.inj hp
  exact ngt_opts_no t b n c A w ht h hb hl hn hc x y d hg hk l kk ho h0
end Go.Proofs.YtmhjnghomihjlaaGreat
