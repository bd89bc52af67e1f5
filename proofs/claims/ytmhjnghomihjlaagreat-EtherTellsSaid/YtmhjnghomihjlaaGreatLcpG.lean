/-
  What the program's Get of layer 15 answers. No condition beyond: at most 2^30 octets.
-/
import Derived.Test.YtmhjnghomihjlaaGreatGLcq
import Derived.Test.YtmhjnghomihjlaaGreatGPkt
import Derived.Test.YtmhjnghomihjlaaGreatGOps
import Derived.Test.YtmhjnghomihjlaaGreatGCtl
import Derived.Deep.CutRange
import Derived.Deep.RegionHeld3
namespace Go.Proofs.YtmhjnghomihjlaaGreat
set_option maxRecDepth 8000
set_option maxHeartbeats 80000000
set_option linter.unusedVariables false
open Go.RowKit
theorem lgt_no (b:List Nat) (n c:Nat) (A:Option Addr) (w:World) (h:Rd w w.heap.size A b) (hb:By b) (hl:b.length=n) (hn:n≤1073741824) (hc:n≤c) (x y:Nat) (d:List Nat) (k:Nat) (hg:kgetB b=(x,y,d,k)) (hk:¬ k=0) :
  Calls Tryz.prog 105 #[.slice A n c] w (GetN w pk0 k):=by
 have C:=hI (GeC.made 40 w)
 have HR:=hI h
 have HB:=hI hb
 have HL:=hI hl
 have HG:=hI hg
 have j1:((k:Int) != 0)=true:=by rw [bne_iff_ne];omega
 clear h hb hl hg hk
 go_enter Tryz.func105,Tryz.ntmps105
 go_wp2_with (first
  | (go_at_call 107;(with_reducible refine (cget_v b x y d k HG.out d.length rfl n c A _ (HR.out.on C.out.bel) HB.out HL.out (by omega) hc).mono ?_);rintro e wn ⟨A1,c1,rfl,k1,r1,hb⟩;replace C:=hI (C.out.step hb);clear hb r1;obtain ⟨y0,y1,y2,y3,y4,y5,y6,y7,y8,y9⟩:=C.out.res.all;obtain ⟨z0,z1,z2,z3,z4,z5,z6,z7,z8,z9⟩:=C.out.res.free))
 refine bodyPost_ret (v:=.tuple #[pk0.val pl0,.int .i64 (k:Int)]) ?_ rfl (GetN.mk pl0 rfl pwF0 (put10_below C.out.bel (Nat.le_refl _) pk0 pl0))
 exact results_row_tmpP rfl _ _ _ w.heap.size 40 _ _ _ rfl rfl (put10_px C.out.res pk0 pl0) Tryz.underlying40 (by kernel_rfl)
theorem splitF_yes (d:List Nat) (n c z:Nat) (Z:Int) (hZ:Z=(z:Int)) (A:Option Addr) (w:World) (F:Nat→Prop) (hF:RdF F w A d) (hb:By d) (hl:d.length=n) (hc:n≤c) (hn:n≤274877906944) (hz0:0<z) (hz8:z≤8) (hz:z≤n) (m:Nat) (hm:n - z=m) :
  Calls Tryz.prog 110 #[.slice A n c,.int .i64 Z] w fun e w'=>∃ A' c',e=.returned (.tuple #[.int .u64 (valN (d.take z):Int),.slice A' m c',.int .i64 0])∧m≤c'∧RdF F w' A' (d.drop z)∧Below w.heap.size w w':=by
 subst hZ
 have h:=hF.rd
 obtain ⟨bb,oo,x,rfl,hbb,hx,hcx⟩:=h.at_ (k:=0) (by omega)
 obtain ⟨v,hv⟩:∃ v,Hid (valN (d.take z)=v):=⟨_,hI rfl⟩
 have ht:(d.take z).length=z:=by rw [List.length_take];omega
 have HV:=hI (show valB (d.take z)=v by rw [←hv.out];exact (valB_small (hb.take z) z ht hz8).1)
 have HT:=hI ht
 have HR:=hI (h.take z)
 have HB:=hI (hb.take z)
 have HC:=hI (RdF.cutAt (c:=c) (f:=z) hF (by omega))
 have B:=hI (Below.refl w.heap.size w)
 have j1:¬ (n:Int)<(z:Int):=by omega
 have j2:(0:Int)≤(z:Int):=by omega
 have j3:(z:Int)≤c:=by omega
 have j4:(z:Int)≤n:=by omega
 clear h hF hb hx hcx ht
 rw [hv.out]
 go_enter Tryz.func110,Tryz.ntmps110
 go_wp2_with fail
 go_region_held3 (fun _=>True) (trivial) (first
  | (go_at_call 119;(first | (with_reducible refine (value_any 0 (d.take z) z c _ _ HR.out HB.out HT.out (by omega) v HV.out).mono ?_) | (with_reducible refine (value_any 0 (d.take z) z c _ _ (HR.out.on (Below.refl w.heap.size w).drew) HB.out HT.out (by omega) v HV.out).mono ?_));rintro e wn ⟨rfl,hb⟩;replace B:=hI (Below.trans (Below.refl w.heap.size w).drew hb);clear hb;dsimp only))
 have K:=hI (show m≤c - z by omega)
 replace HC:=HC.out.keep (.of_below B.out)
 generalize (if c=z then (some (⟨bb,oo,none⟩:Addr)) else some ⟨bb,oo+z,none⟩)=A' at HC
 clear j1 j2 j3 j4
 go_wp2_with fail
 go_ret3
 exact ⟨_,_,rfl,K.out,HC,B.out⟩
theorem splitF_2 (d:List Nat) (n c:Nat) (A:Option Addr) (w:World) (F:Nat→Prop) (hF:RdF F w A d) (hb:By d) (hl:d.length=n) (hc:n≤c) (hn:n≤1073741824) (hz:2≤n) (m:Nat) (hm:n - 2=m) (v:Nat) (hv:valN (d.take 2)=v) :
  Calls Tryz.prog 110 #[.slice A n c,.int .i64 2] w fun e w'=>∃ A' c',e=.returned (.tuple #[.int .u64 (v:Int),.slice A' m c',.int .i64 0])∧m≤c'∧RdF F w' A' (d.drop 2)∧Below w.heap.size w w':=hv ▸ splitF_yes d n c 2 2 rfl A w F hF hb hl hc (by omega) (by omega) (by omega) hz m hm
theorem splitF_4 (d:List Nat) (n c:Nat) (A:Option Addr) (w:World) (F:Nat→Prop) (hF:RdF F w A d) (hb:By d) (hl:d.length=n) (hc:n≤c) (hn:n≤1073741824) (hz:4≤n) (m:Nat) (hm:n - 4=m) (v:Nat) (hv:valN (d.take 4)=v) :
  Calls Tryz.prog 110 #[.slice A n c,.int .i64 4] w fun e w'=>∃ A' c',e=.returned (.tuple #[.int .u64 (v:Int),.slice A' m c',.int .i64 0])∧m≤c'∧RdF F w' A' (d.drop 4)∧Below w.heap.size w w':=hv ▸ splitF_yes d n c 4 4 rfl A w F hF hb hl hc (by omega) (by omega) (by omega) hz m hm
theorem lgt_data (b:List Nat) (n c:Nat) (A:Option Addr) (w:World) (h:Rd w w.heap.size A b) (hb:By b) (hl:b.length=n) (hn:n≤1073741824) (hc:n≤c) (x y:Nat) (d:List Nat) (hg:kgetB b=(x,y,d,0)) (hk:hasL x=0)  :
  Calls Tryz.prog 105 #[.slice A n c] w (GetN w ⟨49185,x,y,[],0,0,[],[],d,[]⟩ 0):=by
 have C:=hI (GeC.made 40 w)
 have HR:=hI h
 have HB:=hI hb
 have HL:=hI hl
 have HG:=hI hg
 have HK:=hI hk
 obtain ⟨n2,hn2⟩:∃ n2,Hid (d.length=n2):=⟨_,hI rfl⟩
 have hd1:=kget_bytes hb hg
 have HD:=hI hd1.1
 have n2le:n2≤1073741824:=by have:=hd1.2;have:=hn2.out;omega
 clear h hb hl hg hk hd1
 go_enter Tryz.func105,Tryz.ntmps105
 go_wp2_with (first
  | (go_at_call 107;(with_reducible refine (cgetN_v b x y d _ HG.out n2 hn2.out n c A _ (HR.out.on C.out.bel) HB.out HL.out (by omega) hc).mono ?_);rintro e wn ⟨A1,c1,rfl,k1,r1,hb⟩;have LT:=C.out.res.lt;have R1:=hI (r1.mono (G:=fun i=>w.heap.size<i∧i<wn.heap.size) (fun i hi hf=>⟨Nat.lt_of_lt_of_le LT hf,hi⟩));replace C:=hI (C.out.step hb);clear hb r1 LT)
  | (go_at_call 108;(with_reducible refine (lhas_v x _ HK.out _).mono ?_);rintro e wm ⟨rfl,hb⟩;have BA:=((Below.refl wn.heap.size wn).alloc (Nat.le_refl _) (.cells #[.int .u16 49185,.int .u8 (x:Int),.int .u8 (y:Int),.slice none 0 0,.int .u16 0,.int .u32 0,.slice none 0 0,.slice none 0 0,.slice none 0 0,.slice none 0 0] 40));have R2:=hI ((R1.out.keep (.of_below (BA.trans (hb.mono BA.size)))).mono (G:=Ngt w.heap.size wn.heap.size) (fun i _ hf=>⟨hf.1,Nat.ne_of_lt hf.2⟩));have P:=hI ((C.out.pk ⟨49185,x,y,[],0,0,[],[],[],[]⟩ pl0).step hb);obtain ⟨g,hgg⟩:∃ g,Hid (wn.heap.size=g):=⟨_,hI rfl⟩;rw [hgg.out] at P R2 ⊢;have nq1:=Nat.ne_of_lt P.out.lt;have nq3:=Nat.ne_of_gt P.out.lt;clear hb BA R1 C;obtain ⟨x0,x1,x2,x3,x4,x5,x6,x7,x8,x9⟩:=P.out.cf.all;obtain ⟨u0,u1,u2,u3,u4,u5,u6,u7,u8,u9⟩:=P.out.cf.free;obtain ⟨y0,y1,y2,y3,y4,y5,y6,y7,y8,y9⟩:=P.out.res.all;obtain ⟨z0,z1,z2,z3,z4,z5,z6,z7,z8,z9⟩:=P.out.res.free))
 refine bodyPost_ret (v:=.tuple #[Pk.val ⟨49185,x,y,[],0,0,[],[],d,[]⟩ { pl0 with ad:=A1,nd:=n2,cd:=c1 },.int .i64 0]) ?_ rfl (GetN.mk { pl0 with ad:=A1,nd:=n2,cd:=c1 } rfl ?_ (put10_below (P.out.set 8 (.slice A1 n2 c1) (P.out.cf.setData A1 n2 c1 d)).bel (Nat.le_refl _) ⟨49185,x,y,[],0,0,[],[],d,[]⟩ { pl0 with ad:=A1,nd:=n2,cd:=c1 }))
 ·exact results_row_tmpP rfl _ _ _ w.heap.size 40 _ _ _ rfl rfl (put10_px (P.out.set 8 (.slice A1 n2 c1) (P.out.cf.setData A1 n2 c1 d)).res ⟨49185,x,y,[],0,0,[],[],d,[]⟩ { pl0 with ad:=A1,nd:=n2,cd:=c1 }) Tryz.underlying40 (by kernel_rfl)
 ·exact ((pwF_data 49185 x y 0 0 hn2.out R2.out k1).keep ((keeps_g1 wm w.heap.size g 8 (.slice A1 n2 c1)).trans (keeps_g2 _ w.heap.size g ⟨49185,x,y,[],0,0,[],[],d,[]⟩ { pl0 with ad:=A1,nd:=n2,cd:=c1 }))).mono (fun _ _ h=>h.le)
theorem lgt_opts (b:List Nat) (n c:Nat) (A:Option Addr) (w:World) (h:Rd w w.heap.size A b) (hb:By b) (hl:b.length=n) (hn:n≤1073741824) (hc:n≤c) (x y:Nat) (d:List Nat) (hg:kgetB b=(x,y,d,0)) (hk:hasL x=1) (l:List (Nat × List Nat)) (ho:getO 49185 d=(l,0)) :
  Calls Tryz.prog 105 #[.slice A n c] w (GetN w ⟨49185,x,y,l,0,0,[],[],[],[]⟩ 0):=by
 have C:=hI (GeC.made 40 w)
 have HR:=hI h
 have HB:=hI hb
 have HL:=hI hl
 have HG:=hI hg
 have HK:=hI hk
 obtain ⟨n2,hn2⟩:∃ n2,Hid (d.length=n2):=⟨_,hI rfl⟩
 have hd1:=kget_bytes hb hg
 have HD:=hI hd1.1
 have n2le:n2≤1073741824:=by have:=hd1.2;have:=hn2.out;omega
 have HO:=hI ho
 obtain ⟨n3,hn3⟩:∃ n3,Hid (l.length=n3):=⟨_,hI rfl⟩
 clear h hb hl hg hk hd1 ho
 go_enter Tryz.func105,Tryz.ntmps105
 go_wp2_with (first
  | (go_at_call 107;(with_reducible refine (cgetN_v b x y d _ HG.out n2 hn2.out n c A _ (HR.out.on C.out.bel) HB.out HL.out (by omega) hc).mono ?_);rintro e wn ⟨A1,c1,rfl,k1,r1,hb⟩;have LT:=C.out.res.lt;have R1:=hI (r1.mono (G:=fun i=>w.heap.size<i∧i<wn.heap.size) (fun i hi hf=>⟨Nat.lt_of_lt_of_le LT hf,hi⟩));replace C:=hI (C.out.step hb);clear hb r1 LT)
  | (go_at_call 108;(with_reducible refine (lhas_v x _ HK.out _).mono ?_);rintro e wm ⟨rfl,hb⟩;have BA:=((Below.refl wn.heap.size wn).alloc (Nat.le_refl _) (.cells #[.int .u16 49185,.int .u8 (x:Int),.int .u8 (y:Int),.slice none 0 0,.int .u16 0,.int .u32 0,.slice none 0 0,.slice none 0 0,.slice none 0 0,.slice none 0 0] 40));have R2:=hI ((R1.out.keep (.of_below (BA.trans (hb.mono BA.size)))).mono (G:=Ngt w.heap.size wn.heap.size) (fun i _ hf=>⟨hf.1,Nat.ne_of_lt hf.2⟩));have P:=hI ((C.out.pk ⟨49185,x,y,[],0,0,[],[],[],[]⟩ pl0).step hb);obtain ⟨g,hgg⟩:∃ g,Hid (wn.heap.size=g):=⟨_,hI rfl⟩;rw [hgg.out] at P R2 ⊢;have nq1:=Nat.ne_of_lt P.out.lt;have nq3:=Nat.ne_of_gt P.out.lt;clear hb BA R1 C;obtain ⟨x0,x1,x2,x3,x4,x5,x6,x7,x8,x9⟩:=P.out.cf.all;obtain ⟨u0,u1,u2,u3,u4,u5,u6,u7,u8,u9⟩:=P.out.cf.free;obtain ⟨y0,y1,y2,y3,y4,y5,y6,y7,y8,y9⟩:=P.out.res.all;obtain ⟨z0,z1,z2,z3,z4,z5,z6,z7,z8,z9⟩:=P.out.res.free)
  | (go_at_call 109;(with_reducible refine (pgetN_lcp d l _ HO.out n3 hn3.out n2 c1 A1 _ R2.out.rd HD.out hn2.out n2le k1).mono ?_);rintro e wk ⟨A3,c3,rfl,r3,hb⟩;have LT:=P.out.cf.lt;have LT2:=P.out.lt;have R3:=hI (r3.mono (G:=Ngt w.heap.size g) (fun i _ hf=>⟨by omega,by omega⟩));replace P:=hI (P.out.step hb);clear hb r3 LT LT2 R2;clear x0 x1 x2 x3 x4 x5 x6 x7 x8 x9 u0 u1 u2 u3 u4 u5 u6 u7 u8 u9 y0 y1 y2 y3 y4 y5 y6 y7 y8 y9 z0 z1 z2 z3 z4 z5 z6 z7 z8 z9;obtain ⟨x0,x1,x2,x3,x4,x5,x6,x7,x8,x9⟩:=P.out.cf.all;obtain ⟨u0,u1,u2,u3,u4,u5,u6,u7,u8,u9⟩:=P.out.cf.free;obtain ⟨y0,y1,y2,y3,y4,y5,y6,y7,y8,y9⟩:=P.out.res.all;obtain ⟨z0,z1,z2,z3,z4,z5,z6,z7,z8,z9⟩:=P.out.res.free))
 refine bodyPost_ret (v:=.tuple #[Pk.val ⟨49185,x,y,l,0,0,[],[],[],[]⟩ { pl0 with ao:=A3,no:=n3,co:=c3 },.int .i64 0]) ?_ rfl (GetN.mk { pl0 with ao:=A3,no:=n3,co:=c3 } rfl ?_ (put10_below (P.out.set 3 (.slice A3 n3 c3) (P.out.cf.setOpts A3 n3 c3 l)).bel (Nat.le_refl _) ⟨49185,x,y,l,0,0,[],[],[],[]⟩ { pl0 with ao:=A3,no:=n3,co:=c3 }))
 ·exact results_row_tmpP rfl _ _ _ w.heap.size 40 _ _ _ rfl rfl (put10_px (P.out.set 3 (.slice A3 n3 c3) (P.out.cf.setOpts A3 n3 c3 l)).res ⟨49185,x,y,l,0,0,[],[],[],[]⟩ { pl0 with ao:=A3,no:=n3,co:=c3 }) Tryz.underlying40 (by kernel_rfl)
 ·exact ((pwF_opts 49185 x y 0 0 hn3.out R3.out).keep ((keeps_g1 wk w.heap.size g 3 (.slice A3 n3 c3)).trans (keeps_g2 _ w.heap.size g ⟨49185,x,y,l,0,0,[],[],[],[]⟩ { pl0 with ao:=A3,no:=n3,co:=c3 }))).mono (fun _ _ h=>h.le)
theorem lgt_opts_no (b:List Nat) (n c:Nat) (A:Option Addr) (w:World) (h:Rd w w.heap.size A b) (hb:By b) (hl:b.length=n) (hn:n≤1073741824) (hc:n≤c) (x y:Nat) (d:List Nat) (hg:kgetB b=(x,y,d,0)) (hk:hasL x=1) (l:List (Nat × List Nat)) (kk:Nat) (ho:getO 49185 d=(l,kk)) (hkk:¬ kk=0) :
  Calls Tryz.prog 105 #[.slice A n c] w (GetN w pk0 kk):=by
 have C:=hI (GeC.made 40 w)
 have HR:=hI h
 have HB:=hI hb
 have HL:=hI hl
 have HG:=hI hg
 have HK:=hI hk
 obtain ⟨n2,hn2⟩:∃ n2,Hid (d.length=n2):=⟨_,hI rfl⟩
 have hd1:=kget_bytes hb hg
 have HD:=hI hd1.1
 have n2le:n2≤1073741824:=by have:=hd1.2;have:=hn2.out;omega
 have HO:=hI ho
 obtain ⟨n3,hn3⟩:∃ n3,Hid (l.length=n3):=⟨_,hI rfl⟩
 have j1:((kk:Int) != 0)=true:=by rw [bne_iff_ne];omega
 clear h hb hl hg hk hd1 ho hkk
 go_enter Tryz.func105,Tryz.ntmps105
 go_wp2_with (first
  | (go_at_call 107;(with_reducible refine (cgetN_v b x y d _ HG.out n2 hn2.out n c A _ (HR.out.on C.out.bel) HB.out HL.out (by omega) hc).mono ?_);rintro e wn ⟨A1,c1,rfl,k1,r1,hb⟩;have LT:=C.out.res.lt;have R1:=hI (r1.mono (G:=fun i=>w.heap.size<i∧i<wn.heap.size) (fun i hi hf=>⟨Nat.lt_of_lt_of_le LT hf,hi⟩));replace C:=hI (C.out.step hb);clear hb r1 LT)
  | (go_at_call 108;(with_reducible refine (lhas_v x _ HK.out _).mono ?_);rintro e wm ⟨rfl,hb⟩;have BA:=((Below.refl wn.heap.size wn).alloc (Nat.le_refl _) (.cells #[.int .u16 49185,.int .u8 (x:Int),.int .u8 (y:Int),.slice none 0 0,.int .u16 0,.int .u32 0,.slice none 0 0,.slice none 0 0,.slice none 0 0,.slice none 0 0] 40));have R2:=hI ((R1.out.keep (.of_below (BA.trans (hb.mono BA.size)))).mono (G:=Ngt w.heap.size wn.heap.size) (fun i _ hf=>⟨hf.1,Nat.ne_of_lt hf.2⟩));have P:=hI ((C.out.pk ⟨49185,x,y,[],0,0,[],[],[],[]⟩ pl0).step hb);obtain ⟨g,hgg⟩:∃ g,Hid (wn.heap.size=g):=⟨_,hI rfl⟩;rw [hgg.out] at P R2 ⊢;have nq1:=Nat.ne_of_lt P.out.lt;have nq3:=Nat.ne_of_gt P.out.lt;clear hb BA R1 C;obtain ⟨x0,x1,x2,x3,x4,x5,x6,x7,x8,x9⟩:=P.out.cf.all;obtain ⟨u0,u1,u2,u3,u4,u5,u6,u7,u8,u9⟩:=P.out.cf.free;obtain ⟨y0,y1,y2,y3,y4,y5,y6,y7,y8,y9⟩:=P.out.res.all;obtain ⟨z0,z1,z2,z3,z4,z5,z6,z7,z8,z9⟩:=P.out.res.free)
  | (go_at_call 109;(with_reducible refine (pgetN_lcp d l _ HO.out n3 hn3.out n2 c1 A1 _ R2.out.rd HD.out hn2.out n2le k1).mono ?_);rintro e wk ⟨A3,c3,rfl,r3,hb⟩;have LT:=P.out.cf.lt;have LT2:=P.out.lt;have R3:=hI (r3.mono (G:=Ngt w.heap.size g) (fun i _ hf=>⟨by omega,by omega⟩));replace P:=hI (P.out.step hb);clear hb r3 LT LT2 R2;clear x0 x1 x2 x3 x4 x5 x6 x7 x8 x9 u0 u1 u2 u3 u4 u5 u6 u7 u8 u9 y0 y1 y2 y3 y4 y5 y6 y7 y8 y9 z0 z1 z2 z3 z4 z5 z6 z7 z8 z9;obtain ⟨x0,x1,x2,x3,x4,x5,x6,x7,x8,x9⟩:=P.out.cf.all;obtain ⟨u0,u1,u2,u3,u4,u5,u6,u7,u8,u9⟩:=P.out.cf.free;obtain ⟨y0,y1,y2,y3,y4,y5,y6,y7,y8,y9⟩:=P.out.res.all;obtain ⟨z0,z1,z2,z3,z4,z5,z6,z7,z8,z9⟩:=P.out.res.free))
 refine bodyPost_ret (v:=.tuple #[Pk.val pk0 pl0,.int .i64 (kk:Int)]) ?_ rfl (GetN.mk pl0 rfl ?_ (put10_below (P.out.set 3 (.slice A3 n3 c3) (P.out.cf.setOpts A3 n3 c3 l)).bel (Nat.le_refl _) pk0 pl0))
 ·exact results_row_tmpP rfl _ _ _ w.heap.size 40 _ _ _ rfl rfl (put10_px (P.out.set 3 (.slice A3 n3 c3) (P.out.cf.setOpts A3 n3 c3 l)).res pk0 pl0) Tryz.underlying40 (by kernel_rfl)
 ·exact pwF0
theorem lgt_sub (b:List Nat) (n c:Nat) (A:Option Addr) (w:World) (h:Rd w w.heap.size A b) (hb:By b) (hl:b.length=n) (hn:n≤1073741824) (hc:n≤c) (x y:Nat) (d:List Nat) (hg:kgetB b=(x,y,d,0)) (hk:hasL x=2) (hz:2≤d.length) :
  Calls Tryz.prog 105 #[.slice A n c] w (GetN w ⟨49185,x,y,[],valN (d.take 2),0,[],[],d.drop 2,[]⟩ 0):=by
 have C:=hI (GeC.made 40 w)
 have HR:=hI h
 have HB:=hI hb
 have HL:=hI hl
 have HG:=hI hg
 have HK:=hI hk
 obtain ⟨n2,hn2⟩:∃ n2,Hid (d.length=n2):=⟨_,hI rfl⟩
 have hd1:=kget_bytes hb hg
 have HD:=hI hd1.1
 have n2le:n2≤1073741824:=by have:=hd1.2;have:=hn2.out;omega
 have hz2:2≤n2:=by rw [←hn2.out];exact hz
 obtain ⟨m3,hm3⟩:∃ m3,n2 - 2=m3:=⟨_,rfl⟩
 have HM:=hI (show (d.drop 2).length=m3 by rw [List.length_drop,hn2.out,hm3])
 obtain ⟨v,hv⟩:∃ v,Hid (valN (d.take 2)=v):=⟨_,hI rfl⟩
 have v9:v<65536:=by
  have h1:=valN_lt (HD.out.take 2)
  rw [List.length_take,hn2.out,Nat.min_eq_left hz2] at h1
  rw [←hv.out]
  exact h1
 have i1:IntKind.u16.wrap (v:Int)=(v:Int):=by rw [IntKind.wrap_u16];omega
 rw [hv.out]
 clear h hb hl hg hk hd1 hz
 go_enter Tryz.func105,Tryz.ntmps105
 go_wp2_with (first
  | (go_at_call 107;(with_reducible refine (cgetN_v b x y d _ HG.out n2 hn2.out n c A _ (HR.out.on C.out.bel) HB.out HL.out (by omega) hc).mono ?_);rintro e wn ⟨A1,c1,rfl,k1,r1,hb⟩;have LT:=C.out.res.lt;have R1:=hI (r1.mono (G:=fun i=>w.heap.size<i∧i<wn.heap.size) (fun i hi hf=>⟨Nat.lt_of_lt_of_le LT hf,hi⟩));replace C:=hI (C.out.step hb);clear hb r1 LT)
  | (go_at_call 108;(with_reducible refine (lhas_v x _ HK.out _).mono ?_);rintro e wm ⟨rfl,hb⟩;have BA:=((Below.refl wn.heap.size wn).alloc (Nat.le_refl _) (.cells #[.int .u16 49185,.int .u8 (x:Int),.int .u8 (y:Int),.slice none 0 0,.int .u16 0,.int .u32 0,.slice none 0 0,.slice none 0 0,.slice none 0 0,.slice none 0 0] 40));have R2:=hI ((R1.out.keep (.of_below (BA.trans (hb.mono BA.size)))).mono (G:=Ngt w.heap.size wn.heap.size) (fun i _ hf=>⟨hf.1,Nat.ne_of_lt hf.2⟩));have P:=hI ((C.out.pk ⟨49185,x,y,[],0,0,[],[],[],[]⟩ pl0).step hb);obtain ⟨g,hgg⟩:∃ g,Hid (wn.heap.size=g):=⟨_,hI rfl⟩;rw [hgg.out] at P R2 ⊢;have nq1:=Nat.ne_of_lt P.out.lt;have nq3:=Nat.ne_of_gt P.out.lt;clear hb BA R1 C;obtain ⟨x0,x1,x2,x3,x4,x5,x6,x7,x8,x9⟩:=P.out.cf.all;obtain ⟨u0,u1,u2,u3,u4,u5,u6,u7,u8,u9⟩:=P.out.cf.free;obtain ⟨y0,y1,y2,y3,y4,y5,y6,y7,y8,y9⟩:=P.out.res.all;obtain ⟨z0,z1,z2,z3,z4,z5,z6,z7,z8,z9⟩:=P.out.res.free)
  | (go_at_call 110;(with_reducible refine (splitF_2 d n2 c1 A1 _ (Ngt w.heap.size g) R2.out HD.out hn2.out k1 n2le hz2 m3 hm3 v hv.out).mono ?_);rintro e wk ⟨A3,c3,rfl,k3,r3,hb⟩;have R3:=hI r3;replace P:=hI (P.out.step hb);clear hb r3 R2;clear x0 x1 x2 x3 x4 x5 x6 x7 x8 x9 u0 u1 u2 u3 u4 u5 u6 u7 u8 u9 y0 y1 y2 y3 y4 y5 y6 y7 y8 y9 z0 z1 z2 z3 z4 z5 z6 z7 z8 z9;obtain ⟨x0,x1,x2,x3,x4,x5,x6,x7,x8,x9⟩:=P.out.cf.all;obtain ⟨u0,u1,u2,u3,u4,u5,u6,u7,u8,u9⟩:=P.out.cf.free;obtain ⟨y0,y1,y2,y3,y4,y5,y6,y7,y8,y9⟩:=P.out.res.all;obtain ⟨z0,z1,z2,z3,z4,z5,z6,z7,z8,z9⟩:=P.out.res.free)
)
 refine bodyPost_ret (v:=.tuple #[Pk.val ⟨49185,x,y,[],v,0,[],[],d.drop 2,[]⟩ { pl0 with ad:=A3,nd:=m3,cd:=c3 },.int .i64 0]) ?_ rfl (GetN.mk { pl0 with ad:=A3,nd:=m3,cd:=c3 } rfl ?_ (put10_below ((P.out.set 8 (.slice A3 m3 c3) (P.out.cf.setData A3 m3 c3 (d.drop 2))).set 4 (.int .u16 (v:Int)) ((P.out.cf.setData A3 m3 c3 (d.drop 2)).setSub v)).bel (Nat.le_refl _) ⟨49185,x,y,[],v,0,[],[],d.drop 2,[]⟩ { pl0 with ad:=A3,nd:=m3,cd:=c3 }))
 ·exact results_row_tmpP rfl _ _ _ w.heap.size 40 _ _ _ rfl rfl (put10_px ((P.out.set 8 (.slice A3 m3 c3) (P.out.cf.setData A3 m3 c3 (d.drop 2))).set 4 (.int .u16 (v:Int)) ((P.out.cf.setData A3 m3 c3 (d.drop 2)).setSub v)).res ⟨49185,x,y,[],v,0,[],[],d.drop 2,[]⟩ { pl0 with ad:=A3,nd:=m3,cd:=c3 }) Tryz.underlying40 (by kernel_rfl)
 ·exact ((pwF_data 49185 x y v 0 HM.out R3.out k3).keep (((keeps_g1 wk w.heap.size g 8 (.slice A3 m3 c3)).trans (keeps_g1 _ w.heap.size g 4 (.int .u16 (v:Int)))).trans (keeps_g2 _ w.heap.size g ⟨49185,x,y,[],v,0,[],[],d.drop 2,[]⟩ { pl0 with ad:=A3,nd:=m3,cd:=c3 }))).mono (fun _ _ h=>h.le)
theorem lgt_sub_no (b:List Nat) (n c:Nat) (A:Option Addr) (w:World) (h:Rd w w.heap.size A b) (hb:By b) (hl:b.length=n) (hn:n≤1073741824) (hc:n≤c) (x y:Nat) (d:List Nat) (hg:kgetB b=(x,y,d,0)) (hk:hasL x=2) (hz:d.length<2) :
  Calls Tryz.prog 105 #[.slice A n c] w (GetN w pk0 2):=by
 have C:=hI (GeC.made 40 w)
 have HR:=hI h
 have HB:=hI hb
 have HL:=hI hl
 have HG:=hI hg
 have HK:=hI hk
 obtain ⟨n2,hn2⟩:∃ n2,Hid (d.length=n2):=⟨_,hI rfl⟩
 have hd1:=kget_bytes hb hg
 have HD:=hI hd1.1
 have n2le:n2≤1073741824:=by have:=hd1.2;have:=hn2.out;omega
 have hz2:n2<2:=by rw [←hn2.out];exact hz
 clear h hb hl hg hk hd1 hz
 go_enter Tryz.func105,Tryz.ntmps105
 go_wp2_with (first
  | (go_at_call 107;(with_reducible refine (cgetN_v b x y d _ HG.out n2 hn2.out n c A _ (HR.out.on C.out.bel) HB.out HL.out (by omega) hc).mono ?_);rintro e wn ⟨A1,c1,rfl,k1,r1,hb⟩;have LT:=C.out.res.lt;have R1:=hI (r1.mono (G:=fun i=>w.heap.size<i∧i<wn.heap.size) (fun i hi hf=>⟨Nat.lt_of_lt_of_le LT hf,hi⟩));replace C:=hI (C.out.step hb);clear hb r1 LT)
  | (go_at_call 108;(with_reducible refine (lhas_v x _ HK.out _).mono ?_);rintro e wm ⟨rfl,hb⟩;have BA:=((Below.refl wn.heap.size wn).alloc (Nat.le_refl _) (.cells #[.int .u16 49185,.int .u8 (x:Int),.int .u8 (y:Int),.slice none 0 0,.int .u16 0,.int .u32 0,.slice none 0 0,.slice none 0 0,.slice none 0 0,.slice none 0 0] 40));have R2:=hI ((R1.out.keep (.of_below (BA.trans (hb.mono BA.size)))).mono (G:=Ngt w.heap.size wn.heap.size) (fun i _ hf=>⟨hf.1,Nat.ne_of_lt hf.2⟩));have P:=hI ((C.out.pk ⟨49185,x,y,[],0,0,[],[],[],[]⟩ pl0).step hb);obtain ⟨g,hgg⟩:∃ g,Hid (wn.heap.size=g):=⟨_,hI rfl⟩;rw [hgg.out] at P R2 ⊢;have nq1:=Nat.ne_of_lt P.out.lt;have nq3:=Nat.ne_of_gt P.out.lt;clear hb BA R1 C;obtain ⟨x0,x1,x2,x3,x4,x5,x6,x7,x8,x9⟩:=P.out.cf.all;obtain ⟨u0,u1,u2,u3,u4,u5,u6,u7,u8,u9⟩:=P.out.cf.free;obtain ⟨y0,y1,y2,y3,y4,y5,y6,y7,y8,y9⟩:=P.out.res.all;obtain ⟨z0,z1,z2,z3,z4,z5,z6,z7,z8,z9⟩:=P.out.res.free)
  | (go_at_call 110;(with_reducible refine (split_no n2 c1 2 2 rfl A1 _ hz2).mono ?_);rintro e wk ⟨rfl,hb⟩;replace P:=hI (P.out.step hb);clear hb R2;clear x0 x1 x2 x3 x4 x5 x6 x7 x8 x9 u0 u1 u2 u3 u4 u5 u6 u7 u8 u9 y0 y1 y2 y3 y4 y5 y6 y7 y8 y9 z0 z1 z2 z3 z4 z5 z6 z7 z8 z9;obtain ⟨x0,x1,x2,x3,x4,x5,x6,x7,x8,x9⟩:=P.out.cf.all;obtain ⟨u0,u1,u2,u3,u4,u5,u6,u7,u8,u9⟩:=P.out.cf.free;obtain ⟨y0,y1,y2,y3,y4,y5,y6,y7,y8,y9⟩:=P.out.res.all;obtain ⟨z0,z1,z2,z3,z4,z5,z6,z7,z8,z9⟩:=P.out.res.free)
)
 refine bodyPost_ret (v:=.tuple #[Pk.val pk0 pl0,.int .i64 2]) ?_ rfl (GetN.mk pl0 rfl ?_ (put10_below ((P.out.set 8 (.slice none 0 0) (P.out.cf.setData none 0 0 [])).set 4 (.int .u16 ((0:Nat):Int)) ((P.out.cf.setData none 0 0 []).setSub 0)).bel (Nat.le_refl _) pk0 pl0))
 ·exact results_row_tmpP rfl _ _ _ w.heap.size 40 _ _ _ rfl rfl (put10_px ((P.out.set 8 (.slice none 0 0) (P.out.cf.setData none 0 0 [])).set 4 (.int .u16 ((0:Nat):Int)) ((P.out.cf.setData none 0 0 []).setSub 0)).res pk0 pl0) Tryz.underlying40 (by kernel_rfl)
 ·exact pwF0
theorem lgt_magic (b:List Nat) (n c:Nat) (A:Option Addr) (w:World) (h:Rd w w.heap.size A b) (hb:By b) (hl:b.length=n) (hn:n≤1073741824) (hc:n≤c) (x y:Nat) (d:List Nat) (hg:kgetB b=(x,y,d,0)) (hk:hasL x=3) (hz:4≤d.length) :
  Calls Tryz.prog 105 #[.slice A n c] w (GetN w ⟨49185,x,y,[],0,valN (d.take 4),[],[],d.drop 4,[]⟩ 0):=by
 have C:=hI (GeC.made 40 w)
 have HR:=hI h
 have HB:=hI hb
 have HL:=hI hl
 have HG:=hI hg
 have HK:=hI hk
 obtain ⟨n2,hn2⟩:∃ n2,Hid (d.length=n2):=⟨_,hI rfl⟩
 have hd1:=kget_bytes hb hg
 have HD:=hI hd1.1
 have n2le:n2≤1073741824:=by have:=hd1.2;have:=hn2.out;omega
 have hz2:4≤n2:=by rw [←hn2.out];exact hz
 obtain ⟨m3,hm3⟩:∃ m3,n2 - 4=m3:=⟨_,rfl⟩
 have HM:=hI (show (d.drop 4).length=m3 by rw [List.length_drop,hn2.out,hm3])
 obtain ⟨v,hv⟩:∃ v,Hid (valN (d.take 4)=v):=⟨_,hI rfl⟩
 have v9:v<4294967296:=by
  have h1:=valN_lt (HD.out.take 4)
  rw [List.length_take,hn2.out,Nat.min_eq_left hz2] at h1
  rw [←hv.out]
  exact h1
 have i1:IntKind.u32.wrap (v:Int)=(v:Int):=by rw [IntKind.wrap_u32];omega
 rw [hv.out]
 clear h hb hl hg hk hd1 hz
 go_enter Tryz.func105,Tryz.ntmps105
 go_wp2_with (first
  | (go_at_call 107;(with_reducible refine (cgetN_v b x y d _ HG.out n2 hn2.out n c A _ (HR.out.on C.out.bel) HB.out HL.out (by omega) hc).mono ?_);rintro e wn ⟨A1,c1,rfl,k1,r1,hb⟩;have LT:=C.out.res.lt;have R1:=hI (r1.mono (G:=fun i=>w.heap.size<i∧i<wn.heap.size) (fun i hi hf=>⟨Nat.lt_of_lt_of_le LT hf,hi⟩));replace C:=hI (C.out.step hb);clear hb r1 LT)
  | (go_at_call 108;(with_reducible refine (lhas_v x _ HK.out _).mono ?_);rintro e wm ⟨rfl,hb⟩;have BA:=((Below.refl wn.heap.size wn).alloc (Nat.le_refl _) (.cells #[.int .u16 49185,.int .u8 (x:Int),.int .u8 (y:Int),.slice none 0 0,.int .u16 0,.int .u32 0,.slice none 0 0,.slice none 0 0,.slice none 0 0,.slice none 0 0] 40));have R2:=hI ((R1.out.keep (.of_below (BA.trans (hb.mono BA.size)))).mono (G:=Ngt w.heap.size wn.heap.size) (fun i _ hf=>⟨hf.1,Nat.ne_of_lt hf.2⟩));have P:=hI ((C.out.pk ⟨49185,x,y,[],0,0,[],[],[],[]⟩ pl0).step hb);obtain ⟨g,hgg⟩:∃ g,Hid (wn.heap.size=g):=⟨_,hI rfl⟩;rw [hgg.out] at P R2 ⊢;have nq1:=Nat.ne_of_lt P.out.lt;have nq3:=Nat.ne_of_gt P.out.lt;clear hb BA R1 C;obtain ⟨x0,x1,x2,x3,x4,x5,x6,x7,x8,x9⟩:=P.out.cf.all;obtain ⟨u0,u1,u2,u3,u4,u5,u6,u7,u8,u9⟩:=P.out.cf.free;obtain ⟨y0,y1,y2,y3,y4,y5,y6,y7,y8,y9⟩:=P.out.res.all;obtain ⟨z0,z1,z2,z3,z4,z5,z6,z7,z8,z9⟩:=P.out.res.free)
  | (go_at_call 110;(with_reducible refine (splitF_4 d n2 c1 A1 _ (Ngt w.heap.size g) R2.out HD.out hn2.out k1 n2le hz2 m3 hm3 v hv.out).mono ?_);rintro e wk ⟨A3,c3,rfl,k3,r3,hb⟩;have R3:=hI r3;replace P:=hI (P.out.step hb);clear hb r3 R2;clear x0 x1 x2 x3 x4 x5 x6 x7 x8 x9 u0 u1 u2 u3 u4 u5 u6 u7 u8 u9 y0 y1 y2 y3 y4 y5 y6 y7 y8 y9 z0 z1 z2 z3 z4 z5 z6 z7 z8 z9;obtain ⟨x0,x1,x2,x3,x4,x5,x6,x7,x8,x9⟩:=P.out.cf.all;obtain ⟨u0,u1,u2,u3,u4,u5,u6,u7,u8,u9⟩:=P.out.cf.free;obtain ⟨y0,y1,y2,y3,y4,y5,y6,y7,y8,y9⟩:=P.out.res.all;obtain ⟨z0,z1,z2,z3,z4,z5,z6,z7,z8,z9⟩:=P.out.res.free)
)
 refine bodyPost_ret (v:=.tuple #[Pk.val ⟨49185,x,y,[],0,v,[],[],d.drop 4,[]⟩ { pl0 with ad:=A3,nd:=m3,cd:=c3 },.int .i64 0]) ?_ rfl (GetN.mk { pl0 with ad:=A3,nd:=m3,cd:=c3 } rfl ?_ (put10_below ((P.out.set 8 (.slice A3 m3 c3) (P.out.cf.setData A3 m3 c3 (d.drop 4))).set 5 (.int .u32 (v:Int)) ((P.out.cf.setData A3 m3 c3 (d.drop 4)).setMagic v)).bel (Nat.le_refl _) ⟨49185,x,y,[],0,v,[],[],d.drop 4,[]⟩ { pl0 with ad:=A3,nd:=m3,cd:=c3 }))
 ·exact results_row_tmpP rfl _ _ _ w.heap.size 40 _ _ _ rfl rfl (put10_px ((P.out.set 8 (.slice A3 m3 c3) (P.out.cf.setData A3 m3 c3 (d.drop 4))).set 5 (.int .u32 (v:Int)) ((P.out.cf.setData A3 m3 c3 (d.drop 4)).setMagic v)).res ⟨49185,x,y,[],0,v,[],[],d.drop 4,[]⟩ { pl0 with ad:=A3,nd:=m3,cd:=c3 }) Tryz.underlying40 (by kernel_rfl)
 ·exact ((pwF_data 49185 x y 0 v HM.out R3.out k3).keep (((keeps_g1 wk w.heap.size g 8 (.slice A3 m3 c3)).trans (keeps_g1 _ w.heap.size g 5 (.int .u32 (v:Int)))).trans (keeps_g2 _ w.heap.size g ⟨49185,x,y,[],0,v,[],[],d.drop 4,[]⟩ { pl0 with ad:=A3,nd:=m3,cd:=c3 }))).mono (fun _ _ h=>h.le)
theorem lgt_magic_no (b:List Nat) (n c:Nat) (A:Option Addr) (w:World) (h:Rd w w.heap.size A b) (hb:By b) (hl:b.length=n) (hn:n≤1073741824) (hc:n≤c) (x y:Nat) (d:List Nat) (hg:kgetB b=(x,y,d,0)) (hk:hasL x=3) (hz:d.length<4) :
  Calls Tryz.prog 105 #[.slice A n c] w (GetN w pk0 2):=by
 have C:=hI (GeC.made 40 w)
 have HR:=hI h
 have HB:=hI hb
 have HL:=hI hl
 have HG:=hI hg
 have HK:=hI hk
 obtain ⟨n2,hn2⟩:∃ n2,Hid (d.length=n2):=⟨_,hI rfl⟩
 have hd1:=kget_bytes hb hg
 have HD:=hI hd1.1
 have n2le:n2≤1073741824:=by have:=hd1.2;have:=hn2.out;omega
 have hz2:n2<4:=by rw [←hn2.out];exact hz
 clear h hb hl hg hk hd1 hz
 go_enter Tryz.func105,Tryz.ntmps105
 go_wp2_with (first
  | (go_at_call 107;(with_reducible refine (cgetN_v b x y d _ HG.out n2 hn2.out n c A _ (HR.out.on C.out.bel) HB.out HL.out (by omega) hc).mono ?_);rintro e wn ⟨A1,c1,rfl,k1,r1,hb⟩;have LT:=C.out.res.lt;have R1:=hI (r1.mono (G:=fun i=>w.heap.size<i∧i<wn.heap.size) (fun i hi hf=>⟨Nat.lt_of_lt_of_le LT hf,hi⟩));replace C:=hI (C.out.step hb);clear hb r1 LT)
  | (go_at_call 108;(with_reducible refine (lhas_v x _ HK.out _).mono ?_);rintro e wm ⟨rfl,hb⟩;have BA:=((Below.refl wn.heap.size wn).alloc (Nat.le_refl _) (.cells #[.int .u16 49185,.int .u8 (x:Int),.int .u8 (y:Int),.slice none 0 0,.int .u16 0,.int .u32 0,.slice none 0 0,.slice none 0 0,.slice none 0 0,.slice none 0 0] 40));have R2:=hI ((R1.out.keep (.of_below (BA.trans (hb.mono BA.size)))).mono (G:=Ngt w.heap.size wn.heap.size) (fun i _ hf=>⟨hf.1,Nat.ne_of_lt hf.2⟩));have P:=hI ((C.out.pk ⟨49185,x,y,[],0,0,[],[],[],[]⟩ pl0).step hb);obtain ⟨g,hgg⟩:∃ g,Hid (wn.heap.size=g):=⟨_,hI rfl⟩;rw [hgg.out] at P R2 ⊢;have nq1:=Nat.ne_of_lt P.out.lt;have nq3:=Nat.ne_of_gt P.out.lt;clear hb BA R1 C;obtain ⟨x0,x1,x2,x3,x4,x5,x6,x7,x8,x9⟩:=P.out.cf.all;obtain ⟨u0,u1,u2,u3,u4,u5,u6,u7,u8,u9⟩:=P.out.cf.free;obtain ⟨y0,y1,y2,y3,y4,y5,y6,y7,y8,y9⟩:=P.out.res.all;obtain ⟨z0,z1,z2,z3,z4,z5,z6,z7,z8,z9⟩:=P.out.res.free)
  | (go_at_call 110;(with_reducible refine (split_no n2 c1 4 4 rfl A1 _ hz2).mono ?_);rintro e wk ⟨rfl,hb⟩;replace P:=hI (P.out.step hb);clear hb R2;clear x0 x1 x2 x3 x4 x5 x6 x7 x8 x9 u0 u1 u2 u3 u4 u5 u6 u7 u8 u9 y0 y1 y2 y3 y4 y5 y6 y7 y8 y9 z0 z1 z2 z3 z4 z5 z6 z7 z8 z9;obtain ⟨x0,x1,x2,x3,x4,x5,x6,x7,x8,x9⟩:=P.out.cf.all;obtain ⟨u0,u1,u2,u3,u4,u5,u6,u7,u8,u9⟩:=P.out.cf.free;obtain ⟨y0,y1,y2,y3,y4,y5,y6,y7,y8,y9⟩:=P.out.res.all;obtain ⟨z0,z1,z2,z3,z4,z5,z6,z7,z8,z9⟩:=P.out.res.free)
)
 refine bodyPost_ret (v:=.tuple #[Pk.val pk0 pl0,.int .i64 2]) ?_ rfl (GetN.mk pl0 rfl ?_ (put10_below ((P.out.set 8 (.slice none 0 0) (P.out.cf.setData none 0 0 [])).set 5 (.int .u32 ((0:Nat):Int)) ((P.out.cf.setData none 0 0 []).setMagic 0)).bel (Nat.le_refl _) pk0 pl0))
 ·exact results_row_tmpP rfl _ _ _ w.heap.size 40 _ _ _ rfl rfl (put10_px ((P.out.set 8 (.slice none 0 0) (P.out.cf.setData none 0 0 [])).set 5 (.int .u32 ((0:Nat):Int)) ((P.out.cf.setData none 0 0 []).setMagic 0)).res pk0 pl0) Tryz.underlying40 (by kernel_rfl)
 ·exact pwF0
theorem lgetN_any (b:List Nat) (n c:Nat) (A:Option Addr) (w:World) (h:Rd w w.heap.size A b) (hb:By b) (hl:b.length=n) (hn:n≤1073741824) (hc:n≤c) (p:Pk) (k:Nat) (hp:lgetB b=(p,k)) :
  Calls Tryz.prog 105 #[.slice A n c] w (GetN w p k):=by
 obtain ⟨x,y,d,e,hg⟩:∃ x y d e,kgetB b=(x,y,d,e):=⟨_,_,_,_,rfl⟩
 by_cases he:e=0
 case neg =>
  rw [lget_no hg he] at hp
  obtain ⟨rfl,rfl⟩:=Prod.mk.inj hp
  exact lgt_no b n c A w h hb hl hn hc x y d e hg he
 subst he
 rw [lget_of hg,lrdB] at hp
 rcases hasL_cases x with hk | hk | hk | hk
 ·rw [hk] at hp
  obtain ⟨rfl,rfl⟩:=Prod.mk.inj hp
  exact lgt_data b n c A w h hb hl hn hc x y d hg hk
 ·rw [if_pos hk] at hp
  obtain ⟨l,kk,ho⟩:∃ l kk,getO 49185 d=(l,kk):=⟨_,_,rfl⟩
  rw [ho] at hp
  dsimp only at hp
  by_cases h0:kk=0
  ·subst h0
   rw [if_pos rfl] at hp
   obtain ⟨rfl,rfl⟩:=Prod.mk.inj hp
   exact lgt_opts b n c A w h hb hl hn hc x y d hg hk l ho
  ·rw [if_neg h0] at hp
   obtain ⟨rfl,rfl⟩:=Prod.mk.inj hp
   exact lgt_opts_no b n c A w h hb hl hn hc x y d hg hk l kk ho h0
 ·rw [if_neg (by omega),if_pos hk] at hp
  by_cases hz:d.length<2
  ·rw [if_pos hz] at hp
   obtain ⟨rfl,rfl⟩:=Prod.mk.inj hp
   exact lgt_sub_no b n c A w h hb hl hn hc x y d hg hk hz
  ·rw [if_neg hz] at hp
   obtain ⟨rfl,rfl⟩:=Prod.mk.inj hp
   exact lgt_sub b n c A w h hb hl hn hc x y d hg hk (by omega)
 ·rw [if_neg (by omega),if_neg (by omega),if_pos hk] at hp
  by_cases hz:d.length<4
  ·rw [if_pos hz] at hp
   obtain ⟨rfl,rfl⟩:=Prod.mk.inj hp
   exact lgt_magic_no b n c A w h hb hl hn hc x y d hg hk hz
  ·rw [if_neg hz] at hp
   obtain ⟨rfl,rfl⟩:=Prod.mk.inj hp
   exact lgt_magic b n c A w h hb hl hn hc x y d hg hk (by omega)
end Go.Proofs.YtmhjnghomihjlaaGreat
