/-
  What the document's Text and Get of layer 17 answer. No condition beyond: at most 2^30 octets.
-/
import Derived.Test.YtmhjnghomihjlaaGreatPapG
import Derived.Test.YtmhjnghomihjlaaGreatGPks
import Derived.Test.YtmhjnghomihjlaaGreatGCtl
import Derived.Deep.CutRange
import Derived.Deep.RegionHeld3
namespace Go.Proofs.YtmhjnghomihjlaaGreat
set_option maxRecDepth 8000
set_option maxHeartbeats 80000000
set_option linter.unusedVariables false
open Go.RowKit
theorem arg_no (b:List Nat) (n c:Nat) (A:Option Addr) (w:World) (F:Nat→Prop) (hF:∀ i,w.heap.size≤i→F i) (h:RdF F w A b) (hb:By b) (hl:b.length=n) (hn:n≤1073741824) (hc:n≤c) (x y:Nat) (d:List Nat) (k:Nat) (hg:kgetB b=(x,y,d,k)) (hk:¬ k=0) :
  Calls Tryz.prog 57 #[.slice A n c] w (GetF F w pk0 k):=by
 have C:=hI (GeC.made 29 w)
 have HR:=hI h.rd
 have HFF:=hI hF
 have HB:=hI hb
 have HL:=hI hl
 have HG:=hI hg
 obtain ⟨pd,hpd⟩:∃ pd,Hid (kpadB b=pd):=⟨_,hI rfl⟩
 have j1:((k:Int) != 0)=true:=by rw [bne_iff_ne];omega
 clear hF h hb hl hg hk
 go_enter Tryz.func57,Tryz.ntmps57
 go_wp2_with (first
  | (go_at_call 71;(with_reducible refine (krget_v b x y d k HG.out d.length rfl pd hpd.out n c A _ (HR.out.on C.out.bel) HB.out HL.out (by omega) hc).mono ?_);rintro e wn ⟨A1,c1,rfl,k1,r1,hb⟩;replace C:=hI (C.out.step hb);clear hb r1;obtain ⟨y0,y1,y2,y3,y4,y5,y6,y7,y8,y9⟩:=C.out.res.all;obtain ⟨z0,z1,z2,z3,z4,z5,z6,z7,z8,z9⟩:=C.out.res.free))
 refine bodyPost_ret (v:=.tuple #[pk0.val pl0,.int .i64 (k:Int)]) ?_ rfl (GetF.mk pl0 rfl pwF0 (put10_below C.out.bel (Nat.le_refl _) pk0 pl0))
 exact results_row_tmpP rfl _ _ _ w.heap.size 29 _ _ _ rfl rfl (put10_px C.out.res pk0 pl0) Tryz.underlying29 (by kernel_rfl)
theorem arg_zero (b:List Nat) (n c:Nat) (A:Option Addr) (w:World) (F:Nat→Prop) (hF:∀ i,w.heap.size≤i→F i) (h:RdF F w A b) (hb:By b) (hl:b.length=n) (hn:n≤1073741824) (hc:n≤c) (x y:Nat) (d:List Nat) (hg:kgetB b=(x,y,d,0)) (hk:x=0) :
  Calls Tryz.prog 57 #[.slice A n c] w (GetF F w ⟨49187,x,y,[],0,0,[],[],d,[]⟩ 0):=by
 have C:=hI (GeC.made 29 w)
 have HR:=hI h.rd
 have HFF:=hI hF
 have HF:=hI h.ltF
 have HB:=hI hb
 have HL:=hI hl
 have HG:=hI hg
 obtain ⟨pd,hpd⟩:∃ pd,Hid (kpadB b=pd):=⟨_,hI rfl⟩
 obtain ⟨n2,hn2⟩:∃ n2,Hid (d.length=n2):=⟨_,hI rfl⟩
 have hd1:=kget_bytes hb hg
 have HD:=hI hd1.1
 have n2le:n2≤1073741824:=by have:=hd1.2;have:=hn2.out;omega
 have f0:((x:Int) == 0)=true:=by simp;omega
 clear hF h hb hl hg hk hd1
 go_enter Tryz.func57,Tryz.ntmps57
 go_upto_region 5 with (first
  | (go_at_call 71;(with_reducible refine (krgetF_v b x y d _ HG.out n2 hn2.out pd hpd.out n c A _ (HR.out.on C.out.bel) HB.out HL.out (by omega) hc (fun i=>F i∧i<w.heap.size) (HF.out.keep (.of_below C.out.bel))).mono ?_);rintro e wn ⟨A1,c1,rfl,k1c,r1,hb⟩;have R1:=hI r1;replace C:=hI (C.out.step hb);clear hb r1))
 have BA:=hI ((Below.refl wn.heap.size wn).alloc (Nat.le_refl _) (Pk.obj ⟨49187,x,y,[],0,0,[],[],[],[]⟩ pl0 29))
 have P:=hI (C.out.pk ⟨49187,x,y,[],0,0,[],[],[],[]⟩ pl0)
 have LT:=C.out.res.lt
 obtain ⟨g,hgg⟩:∃ g,Hid (wn.heap.size=g):=⟨_,hI rfl⟩
 rw [hgg.out] at P LT ⊢
 have R2:=hI ((R1.out.keep (.of_below BA.out)).mono (G:=Nf F w.heap.size g) (fun i _ hf=>⟨hf.1,Nat.ne_of_lt hf.2,Nat.ne_of_lt (Nat.lt_trans hf.2 LT)⟩))
 refine at_worldP (fun W=>Hid (GpC 29 w W g ⟨49187,x,y,[],0,0,[],[],[],[]⟩ pl0)∧Hid (RdF (Nf F w.heap.size g) W A1 d)) ⟨P,R2⟩ ?_
 clear P R2 BA LT R1 C HR HF HB HL HG hgg
 rintro wm ⟨P,R2⟩
 have nq1:=Nat.ne_of_lt P.out.lt
 have nq3:=Nat.ne_of_gt P.out.lt
 obtain ⟨x0,x1,x2,x3,x4,x5,x6,x7,x8,x9⟩:=P.out.cf.all;obtain ⟨u0,u1,u2,u3,u4,u5,u6,u7,u8,u9⟩:=P.out.cf.free;obtain ⟨y0,y1,y2,y3,y4,y5,y6,y7,y8,y9⟩:=P.out.res.all;obtain ⟨z0,z1,z2,z3,z4,z5,z6,z7,z8,z9⟩:=P.out.res.free
 go_wp2_with fail
 refine bodyPost_ret (v:=.tuple #[Pk.val ⟨49187,x,y,[],0,0,[],[],d,[]⟩ { pl0 with ad:=A1,nd:=n2,cd:=c1 },.int .i64 0]) ?_ rfl (GetF.mk { pl0 with ad:=A1,nd:=n2,cd:=c1 } rfl ?_ (put10_below (P.out.set 8 (.slice A1 n2 c1) (P.out.cf.setData A1 n2 c1 d)).bel (Nat.le_refl _) ⟨49187,x,y,[],0,0,[],[],d,[]⟩ { pl0 with ad:=A1,nd:=n2,cd:=c1 }))
 ·exact results_row_tmpP rfl _ _ _ w.heap.size 29 _ _ _ rfl rfl (put10_px (P.out.set 8 (.slice A1 n2 c1) (P.out.cf.setData A1 n2 c1 d)).res ⟨49187,x,y,[],0,0,[],[],d,[]⟩ { pl0 with ad:=A1,nd:=n2,cd:=c1 }) Tryz.underlying29 (by kernel_rfl)
 ·exact ((pwF_data 49187 x y 0 0 hn2.out R2.out k1c).keep ((keeps_f1 F wm w.heap.size g 8 (.slice A1 n2 c1)).trans (keeps_f2 F _ w.heap.size g ⟨49187,x,y,[],0,0,[],[],d,[]⟩ { pl0 with ad:=A1,nd:=n2,cd:=c1 }))).mono (fun _ _ h=>h.1)
theorem arg_high (b:List Nat) (n c:Nat) (A:Option Addr) (w:World) (F:Nat→Prop) (hF:∀ i,w.heap.size≤i→F i) (h:RdF F w A b) (hb:By b) (hl:b.length=n) (hn:n≤1073741824) (hc:n≤c) (x y:Nat) (d:List Nat) (hg:kgetB b=(x,y,d,0)) (hk:3<x) :
  Calls Tryz.prog 57 #[.slice A n c] w (GetF F w ⟨49187,x,y,[],0,0,[],[],d,[]⟩ 0):=by
 have C:=hI (GeC.made 29 w)
 have HR:=hI h.rd
 have HFF:=hI hF
 have HF:=hI h.ltF
 have HB:=hI hb
 have HL:=hI hl
 have HG:=hI hg
 obtain ⟨pd,hpd⟩:∃ pd,Hid (kpadB b=pd):=⟨_,hI rfl⟩
 obtain ⟨n2,hn2⟩:∃ n2,Hid (d.length=n2):=⟨_,hI rfl⟩
 have hd1:=kget_bytes hb hg
 have HD:=hI hd1.1
 have n2le:n2≤1073741824:=by have:=hd1.2;have:=hn2.out;omega
 have f0:((x:Int) == 0)=false:=by simp;omega
 have f3:(3:Int)<(x:Int):=by omega
 clear hF h hb hl hg hk hd1
 go_enter Tryz.func57,Tryz.ntmps57
 go_upto_region 5 with (first
  | (go_at_call 71;(with_reducible refine (krgetF_v b x y d _ HG.out n2 hn2.out pd hpd.out n c A _ (HR.out.on C.out.bel) HB.out HL.out (by omega) hc (fun i=>F i∧i<w.heap.size) (HF.out.keep (.of_below C.out.bel))).mono ?_);rintro e wn ⟨A1,c1,rfl,k1c,r1,hb⟩;have R1:=hI r1;replace C:=hI (C.out.step hb);clear hb r1))
 have BA:=hI ((Below.refl wn.heap.size wn).alloc (Nat.le_refl _) (Pk.obj ⟨49187,x,y,[],0,0,[],[],[],[]⟩ pl0 29))
 have P:=hI (C.out.pk ⟨49187,x,y,[],0,0,[],[],[],[]⟩ pl0)
 have LT:=C.out.res.lt
 obtain ⟨g,hgg⟩:∃ g,Hid (wn.heap.size=g):=⟨_,hI rfl⟩
 rw [hgg.out] at P LT ⊢
 have R2:=hI ((R1.out.keep (.of_below BA.out)).mono (G:=Nf F w.heap.size g) (fun i _ hf=>⟨hf.1,Nat.ne_of_lt hf.2,Nat.ne_of_lt (Nat.lt_trans hf.2 LT)⟩))
 refine at_worldP (fun W=>Hid (GpC 29 w W g ⟨49187,x,y,[],0,0,[],[],[],[]⟩ pl0)∧Hid (RdF (Nf F w.heap.size g) W A1 d)) ⟨P,R2⟩ ?_
 clear P R2 BA LT R1 C HR HF HB HL HG hgg
 rintro wm ⟨P,R2⟩
 have nq1:=Nat.ne_of_lt P.out.lt
 have nq3:=Nat.ne_of_gt P.out.lt
 obtain ⟨x0,x1,x2,x3,x4,x5,x6,x7,x8,x9⟩:=P.out.cf.all;obtain ⟨u0,u1,u2,u3,u4,u5,u6,u7,u8,u9⟩:=P.out.cf.free;obtain ⟨y0,y1,y2,y3,y4,y5,y6,y7,y8,y9⟩:=P.out.res.all;obtain ⟨z0,z1,z2,z3,z4,z5,z6,z7,z8,z9⟩:=P.out.res.free
 go_wp2_with fail
 refine bodyPost_ret (v:=.tuple #[Pk.val ⟨49187,x,y,[],0,0,[],[],d,[]⟩ { pl0 with ad:=A1,nd:=n2,cd:=c1 },.int .i64 0]) ?_ rfl (GetF.mk { pl0 with ad:=A1,nd:=n2,cd:=c1 } rfl ?_ (put10_below (P.out.set 8 (.slice A1 n2 c1) (P.out.cf.setData A1 n2 c1 d)).bel (Nat.le_refl _) ⟨49187,x,y,[],0,0,[],[],d,[]⟩ { pl0 with ad:=A1,nd:=n2,cd:=c1 }))
 ·exact results_row_tmpP rfl _ _ _ w.heap.size 29 _ _ _ rfl rfl (put10_px (P.out.set 8 (.slice A1 n2 c1) (P.out.cf.setData A1 n2 c1 d)).res ⟨49187,x,y,[],0,0,[],[],d,[]⟩ { pl0 with ad:=A1,nd:=n2,cd:=c1 }) Tryz.underlying29 (by kernel_rfl)
 ·exact ((pwF_data 49187 x y 0 0 hn2.out R2.out k1c).keep ((keeps_f1 F wm w.heap.size g 8 (.slice A1 n2 c1)).trans (keeps_f2 F _ w.heap.size g ⟨49187,x,y,[],0,0,[],[],d,[]⟩ { pl0 with ad:=A1,nd:=n2,cd:=c1 }))).mono (fun _ _ h=>h.1)
theorem arg_one_cut1 (b:List Nat) (n c:Nat) (A:Option Addr) (w:World) (F:Nat→Prop) (hF:∀ i,w.heap.size≤i→F i) (h:RdF F w A b) (hb:By b) (hl:b.length=n) (hn:n≤1073741824) (hc:n≤c) (x y:Nat) (d:List Nat) (hg:kgetB b=(x,y,d,0)) (hk:x=2∨x=3) (hd:cutT d=([],[],2)) :
  Calls Tryz.prog 57 #[.slice A n c] w (GetF F w pk0 2):=by
 have C:=hI (GeC.made 29 w)
 have HR:=hI h.rd
 have HFF:=hI hF
 have HF:=hI h.ltF
 have HB:=hI hb
 have HL:=hI hl
 have HG:=hI hg
 obtain ⟨pd,hpd⟩:∃ pd,Hid (kpadB b=pd):=⟨_,hI rfl⟩
 obtain ⟨n2,hn2⟩:∃ n2,Hid (d.length=n2):=⟨_,hI rfl⟩
 have hd1:=kget_bytes hb hg
 have HD:=hI hd1.1
 have n2le:n2≤1073741824:=by have:=hd1.2;have:=hn2.out;omega
 have f0:((x:Int) == 0)=false:=by simp;omega
 have f3:¬ (3:Int)<(x:Int):=by omega
 have f1:((x:Int) == 1)=false:=by simp;omega
 have HC1:=hI (show cutT (d.drop 0)=_ from hd)
 have T1:=hI trivial
 clear hd
 clear hF h hb hl hg hk hd1
 go_enter Tryz.func57,Tryz.ntmps57
 go_upto_region 5 with (first
  | (go_at_call 71;(with_reducible refine (krgetF_v b x y d _ HG.out n2 hn2.out pd hpd.out n c A _ (HR.out.on C.out.bel) HB.out HL.out (by omega) hc (fun i=>F i∧i<w.heap.size) (HF.out.keep (.of_below C.out.bel))).mono ?_);rintro e wn ⟨A1,c1,rfl,k1c,r1,hb⟩;have R1:=hI r1;replace C:=hI (C.out.step hb);clear hb r1))
 have BA:=hI ((Below.refl wn.heap.size wn).alloc (Nat.le_refl _) (Pk.obj ⟨49187,x,y,[],0,0,[],[],[],[]⟩ pl0 29))
 have P:=hI (C.out.pk ⟨49187,x,y,[],0,0,[],[],[],[]⟩ pl0)
 have LT:=C.out.res.lt
 obtain ⟨g,hgg⟩:∃ g,Hid (wn.heap.size=g):=⟨_,hI rfl⟩
 rw [hgg.out] at P LT ⊢
 have R2:=hI ((R1.out.keep (.of_below BA.out)).mono (G:=Nf F w.heap.size g) (fun i _ hf=>⟨hf.1,Nat.ne_of_lt hf.2,Nat.ne_of_lt (Nat.lt_trans hf.2 LT)⟩))
 refine at_worldP (fun W=>Hid (GpC 29 w W g ⟨49187,x,y,[],0,0,[],[],[],[]⟩ pl0)∧Hid (RdF (Nf F w.heap.size g) W A1 d)) ⟨P,R2⟩ ?_
 clear P R2 BA LT R1 C HR HF HB HL HG hgg
 rintro wm ⟨P,R2⟩
 have nq1:=Nat.ne_of_lt P.out.lt
 have nq3:=Nat.ne_of_gt P.out.lt
 obtain ⟨x0,x1,x2,x3,x4,x5,x6,x7,x8,x9⟩:=P.out.cf.all;obtain ⟨u0,u1,u2,u3,u4,u5,u6,u7,u8,u9⟩:=P.out.cf.free;obtain ⟨y0,y1,y2,y3,y4,y5,y6,y7,y8,y9⟩:=P.out.res.all;obtain ⟨z0,z1,z2,z3,z4,z5,z6,z7,z8,z9⟩:=P.out.res.free
 go_wp2_with (first
  | (go_at_call 74;have _g:=T1;clear _g;(with_reducible refine (rtext_no d n2 c1 A1 _ R2.out.rd hn2.out HD.out (by omega) 0 0 rfl (Nat.zero_le _) HC1.out).mono ?_);rintro e wt ⟨rfl,hb⟩;replace P:=hI (P.out.step hb);clear hb T1;clear x0 x1 x2 x3 x4 x5 x6 x7 x8 x9 u0 u1 u2 u3 u4 u5 u6 u7 u8 u9 y0 y1 y2 y3 y4 y5 y6 y7 y8 y9 z0 z1 z2 z3 z4 z5 z6 z7 z8 z9;obtain ⟨x0,x1,x2,x3,x4,x5,x6,x7,x8,x9⟩:=P.out.cf.all;obtain ⟨u0,u1,u2,u3,u4,u5,u6,u7,u8,u9⟩:=P.out.cf.free;obtain ⟨y0,y1,y2,y3,y4,y5,y6,y7,y8,y9⟩:=P.out.res.all;obtain ⟨z0,z1,z2,z3,z4,z5,z6,z7,z8,z9⟩:=P.out.res.free))
 refine bodyPost_ret (v:=.tuple #[pk0.val pl0,.int .i64 2]) ?_ rfl (GetF.mk pl0 rfl pwF0 (put10_below P.out.bel (Nat.le_refl _) pk0 pl0))
 exact results_row_tmpP rfl _ _ _ w.heap.size 29 _ _ _ rfl rfl (put10_px P.out.res pk0 pl0) Tryz.underlying29 (by kernel_rfl)
theorem arg_two_cut1 (b:List Nat) (n c:Nat) (A:Option Addr) (w:World) (F:Nat→Prop) (hF:∀ i,w.heap.size≤i→F i) (h:RdF F w A b) (hb:By b) (hl:b.length=n) (hn:n≤1073741824) (hc:n≤c) (x y:Nat) (d:List Nat) (hg:kgetB b=(x,y,d,0)) (hk:x=1) (hd:cutT d=([],[],2)) :
  Calls Tryz.prog 57 #[.slice A n c] w (GetF F w pk0 2):=by
 have C:=hI (GeC.made 29 w)
 have HR:=hI h.rd
 have HFF:=hI hF
 have HF:=hI h.ltF
 have HB:=hI hb
 have HL:=hI hl
 have HG:=hI hg
 obtain ⟨pd,hpd⟩:∃ pd,Hid (kpadB b=pd):=⟨_,hI rfl⟩
 obtain ⟨n2,hn2⟩:∃ n2,Hid (d.length=n2):=⟨_,hI rfl⟩
 have hd1:=kget_bytes hb hg
 have HD:=hI hd1.1
 have n2le:n2≤1073741824:=by have:=hd1.2;have:=hn2.out;omega
 have f0:((x:Int) == 0)=false:=by simp;omega
 have f3:¬ (3:Int)<(x:Int):=by omega
 have f1:((x:Int) == 1)=true:=by simp;omega
 have HC1:=hI (show cutT (d.drop 0)=_ from hd)
 have T1:=hI trivial
 clear hd
 clear hF h hb hl hg hk hd1
 go_enter Tryz.func57,Tryz.ntmps57
 go_upto_region 5 with (first
  | (go_at_call 71;(with_reducible refine (krgetF_v b x y d _ HG.out n2 hn2.out pd hpd.out n c A _ (HR.out.on C.out.bel) HB.out HL.out (by omega) hc (fun i=>F i∧i<w.heap.size) (HF.out.keep (.of_below C.out.bel))).mono ?_);rintro e wn ⟨A1,c1,rfl,k1c,r1,hb⟩;have R1:=hI r1;replace C:=hI (C.out.step hb);clear hb r1))
 have BA:=hI ((Below.refl wn.heap.size wn).alloc (Nat.le_refl _) (Pk.obj ⟨49187,x,y,[],0,0,[],[],[],[]⟩ pl0 29))
 have P:=hI (C.out.pk ⟨49187,x,y,[],0,0,[],[],[],[]⟩ pl0)
 have LT:=C.out.res.lt
 obtain ⟨g,hgg⟩:∃ g,Hid (wn.heap.size=g):=⟨_,hI rfl⟩
 rw [hgg.out] at P LT ⊢
 have R2:=hI ((R1.out.keep (.of_below BA.out)).mono (G:=Nf F w.heap.size g) (fun i _ hf=>⟨hf.1,Nat.ne_of_lt hf.2,Nat.ne_of_lt (Nat.lt_trans hf.2 LT)⟩))
 refine at_worldP (fun W=>Hid (GpC 29 w W g ⟨49187,x,y,[],0,0,[],[],[],[]⟩ pl0)∧Hid (RdF (Nf F w.heap.size g) W A1 d)) ⟨P,R2⟩ ?_
 clear P R2 BA LT R1 C HR HF HB HL HG hgg
 rintro wm ⟨P,R2⟩
 have nq1:=Nat.ne_of_lt P.out.lt
 have nq3:=Nat.ne_of_gt P.out.lt
 obtain ⟨x0,x1,x2,x3,x4,x5,x6,x7,x8,x9⟩:=P.out.cf.all;obtain ⟨u0,u1,u2,u3,u4,u5,u6,u7,u8,u9⟩:=P.out.cf.free;obtain ⟨y0,y1,y2,y3,y4,y5,y6,y7,y8,y9⟩:=P.out.res.all;obtain ⟨z0,z1,z2,z3,z4,z5,z6,z7,z8,z9⟩:=P.out.res.free
 go_wp2_with (first
  | (go_at_call 74;have _g:=T1;clear _g;(with_reducible refine (rtext_no d n2 c1 A1 _ R2.out.rd hn2.out HD.out (by omega) 0 0 rfl (Nat.zero_le _) HC1.out).mono ?_);rintro e wt ⟨rfl,hb⟩;replace P:=hI (P.out.step hb);clear hb T1;clear x0 x1 x2 x3 x4 x5 x6 x7 x8 x9 u0 u1 u2 u3 u4 u5 u6 u7 u8 u9 y0 y1 y2 y3 y4 y5 y6 y7 y8 y9 z0 z1 z2 z3 z4 z5 z6 z7 z8 z9;obtain ⟨x0,x1,x2,x3,x4,x5,x6,x7,x8,x9⟩:=P.out.cf.all;obtain ⟨u0,u1,u2,u3,u4,u5,u6,u7,u8,u9⟩:=P.out.cf.free;obtain ⟨y0,y1,y2,y3,y4,y5,y6,y7,y8,y9⟩:=P.out.res.all;obtain ⟨z0,z1,z2,z3,z4,z5,z6,z7,z8,z9⟩:=P.out.res.free))
 refine bodyPost_ret (v:=.tuple #[pk0.val pl0,.int .i64 2]) ?_ rfl (GetF.mk pl0 rfl pwF0 (put10_below P.out.bel (Nat.le_refl _) pk0 pl0))
 exact results_row_tmpP rfl _ _ _ w.heap.size 29 _ _ _ rfl rfl (put10_px P.out.res pk0 pl0) Tryz.underlying29 (by kernel_rfl)
theorem arg_one_left (b:List Nat) (n c:Nat) (A:Option Addr) (w:World) (F:Nat→Prop) (hF:∀ i,w.heap.size≤i→F i) (h:RdF F w A b) (hb:By b) (hl:b.length=n) (hn:n≤1073741824) (hc:n≤c) (x y:Nat) (d:List Nat) (hg:kgetB b=(x,y,d,0)) (hk:x=2∨x=3) (l r:List Nat) (hd:cutT d=(l,r,0)) (hr:¬ r=[]) :
  Calls Tryz.prog 57 #[.slice A n c] w (GetF F w pk0 4):=by
 have C:=hI (GeC.made 29 w)
 have HR:=hI h.rd
 have HFF:=hI hF
 have HF:=hI h.ltF
 have HB:=hI hb
 have HL:=hI hl
 have HG:=hI hg
 obtain ⟨pd,hpd⟩:∃ pd,Hid (kpadB b=pd):=⟨_,hI rfl⟩
 obtain ⟨n2,hn2⟩:∃ n2,Hid (d.length=n2):=⟨_,hI rfl⟩
 have hd1:=kget_bytes hb hg
 have HD:=hI hd1.1
 have n2le:n2≤1073741824:=by have:=hd1.2;have:=hn2.out;omega
 have f0:((x:Int) == 0)=false:=by simp;omega
 have f3:¬ (3:Int)<(x:Int):=by omega
 have f1:((x:Int) == 1)=false:=by simp;omega
 obtain ⟨k1,HA1⟩:∃ n,Hid (l.length=n):=⟨_,hI rfl⟩
 obtain ⟨z,hz⟩:∃ z,Hid (0+1+k1=z):=⟨_,hI rfl⟩
 have zle:z≤n2:=by have e:=congrArg List.length (cutT_said hd);rw [List.length_append,lenT_len,HA1.out,hn2.out] at e;have:=hz.out;omega
 have zlt:¬ (z:Int)<0:=by omega
 have jl:(z:Int)<(n2:Int):=by have e:=congrArg List.length (cutT_said hd);rw [List.length_append,lenT_len,HA1.out,hn2.out] at e;have:=hz.out;have:r.length≠0:=fun e=>hr (List.eq_nil_of_length_eq_zero e);omega
 clear hr
 have HC1:=hI (show cutT (d.drop 0)=_ from hd)
 have T1:=hI trivial
 clear hd
 clear hF h hb hl hg hk hd1
 go_enter Tryz.func57,Tryz.ntmps57
 go_upto_region 5 with (first
  | (go_at_call 71;(with_reducible refine (krgetF_v b x y d _ HG.out n2 hn2.out pd hpd.out n c A _ (HR.out.on C.out.bel) HB.out HL.out (by omega) hc (fun i=>F i∧i<w.heap.size) (HF.out.keep (.of_below C.out.bel))).mono ?_);rintro e wn ⟨A1,c1,rfl,k1c,r1,hb⟩;have R1:=hI r1;replace C:=hI (C.out.step hb);clear hb r1))
 have BA:=hI ((Below.refl wn.heap.size wn).alloc (Nat.le_refl _) (Pk.obj ⟨49187,x,y,[],0,0,[],[],[],[]⟩ pl0 29))
 have P:=hI (C.out.pk ⟨49187,x,y,[],0,0,[],[],[],[]⟩ pl0)
 have LT:=C.out.res.lt
 obtain ⟨g,hgg⟩:∃ g,Hid (wn.heap.size=g):=⟨_,hI rfl⟩
 rw [hgg.out] at P LT ⊢
 have R2:=hI ((R1.out.keep (.of_below BA.out)).mono (G:=Nf F w.heap.size g) (fun i _ hf=>⟨hf.1,Nat.ne_of_lt hf.2,Nat.ne_of_lt (Nat.lt_trans hf.2 LT)⟩))
 refine at_worldP (fun W=>Hid (GpC 29 w W g ⟨49187,x,y,[],0,0,[],[],[],[]⟩ pl0)∧Hid (RdF (Nf F w.heap.size g) W A1 d)) ⟨P,R2⟩ ?_
 clear P R2 BA LT R1 C HR HF HB HL HG hgg
 rintro wm ⟨P,R2⟩
 have nq1:=Nat.ne_of_lt P.out.lt
 have nq3:=Nat.ne_of_gt P.out.lt
 obtain ⟨x0,x1,x2,x3,x4,x5,x6,x7,x8,x9⟩:=P.out.cf.all;obtain ⟨u0,u1,u2,u3,u4,u5,u6,u7,u8,u9⟩:=P.out.cf.free;obtain ⟨y0,y1,y2,y3,y4,y5,y6,y7,y8,y9⟩:=P.out.res.all;obtain ⟨z0,z1,z2,z3,z4,z5,z6,z7,z8,z9⟩:=P.out.res.free
 go_upto_region 12 with (first
  | (go_at_call 74;have _g:=T1;clear _g;(with_reducible refine (rtext_ok (Nf F w.heap.size g) d n2 c1 A1 _ R2.out hn2.out HD.out (by omega) k1c 0 0 rfl (Nat.zero_le _) l r HC1.out k1 HA1.out z hz.out).mono ?_);rintro e wt ⟨A3,c3,rfl,e3,r1,hb⟩;have S1:=hI r1;replace R2:=hI (R2.out.keep (.of_below hb));replace P:=hI (P.out.step hb);clear hb r1 T1;clear x0 x1 x2 x3 x4 x5 x6 x7 x8 x9 u0 u1 u2 u3 u4 u5 u6 u7 u8 u9 y0 y1 y2 y3 y4 y5 y6 y7 y8 y9 z0 z1 z2 z3 z4 z5 z6 z7 z8 z9;obtain ⟨x0,x1,x2,x3,x4,x5,x6,x7,x8,x9⟩:=P.out.cf.all;obtain ⟨u0,u1,u2,u3,u4,u5,u6,u7,u8,u9⟩:=P.out.cf.free;obtain ⟨y0,y1,y2,y3,y4,y5,y6,y7,y8,y9⟩:=P.out.res.all;obtain ⟨z0,z1,z2,z3,z4,z5,z6,z7,z8,z9⟩:=P.out.res.free))
 refine at_worldP (fun W=>Hid (GpC 29 w W g ⟨49187,x,y,[],0,0,l,[],[],[]⟩ { pl0 with a1:=A3,n1:=k1,c1:=c3 })∧Hid (RdF (Nf F w.heap.size g) W A3 l)∧Hid (RdF (Nf F w.heap.size g) W A1 d)) ⟨hI (P.out.set 6 (.slice A3 k1 c3) (P.out.cf.setOne A3 k1 c3 l)),hI (S1.out.keep (keeps_f1 F wt w.heap.size g 6 (.slice A3 k1 c3))),hI (R2.out.keep (keeps_f1 F wt w.heap.size g 6 (.slice A3 k1 c3)))⟩ ?_
 clear x0 x1 x2 x3 x4 x5 x6 x7 x8 x9 u0 u1 u2 u3 u4 u5 u6 u7 u8 u9 y0 y1 y2 y3 y4 y5 y6 y7 y8 y9 z0 z1 z2 z3 z4 z5 z6 z7 z8 z9
 clear P R2 S1
 rintro wv ⟨P,S1,R2⟩
 obtain ⟨x0,x1,x2,x3,x4,x5,x6,x7,x8,x9⟩:=P.out.cf.all;obtain ⟨u0,u1,u2,u3,u4,u5,u6,u7,u8,u9⟩:=P.out.cf.free;obtain ⟨y0,y1,y2,y3,y4,y5,y6,y7,y8,y9⟩:=P.out.res.all;obtain ⟨z0,z1,z2,z3,z4,z5,z6,z7,z8,z9⟩:=P.out.res.free
 go_wp2_with fail
 refine bodyPost_ret (v:=.tuple #[pk0.val pl0,.int .i64 4]) ?_ rfl (GetF.mk pl0 rfl pwF0 (put10_below P.out.bel (Nat.le_refl _) pk0 pl0))
 exact results_row_tmpP rfl _ _ _ w.heap.size 29 _ _ _ rfl rfl (put10_px P.out.res pk0 pl0) Tryz.underlying29 (by kernel_rfl)
theorem arg_one (b:List Nat) (n c:Nat) (A:Option Addr) (w:World) (F:Nat→Prop) (hF:∀ i,w.heap.size≤i→F i) (h:RdF F w A b) (hb:By b) (hl:b.length=n) (hn:n≤1073741824) (hc:n≤c) (x y:Nat) (d:List Nat) (hg:kgetB b=(x,y,d,0)) (hk:x=2∨x=3) (l:List Nat) (hd:cutT d=(l,[],0)) :
  Calls Tryz.prog 57 #[.slice A n c] w (GetF F w ⟨49187,x,y,[],0,0,l,[],[],[]⟩ 0):=by
 have C:=hI (GeC.made 29 w)
 have HR:=hI h.rd
 have HFF:=hI hF
 have HF:=hI h.ltF
 have HB:=hI hb
 have HL:=hI hl
 have HG:=hI hg
 obtain ⟨pd,hpd⟩:∃ pd,Hid (kpadB b=pd):=⟨_,hI rfl⟩
 obtain ⟨n2,hn2⟩:∃ n2,Hid (d.length=n2):=⟨_,hI rfl⟩
 have hd1:=kget_bytes hb hg
 have HD:=hI hd1.1
 have n2le:n2≤1073741824:=by have:=hd1.2;have:=hn2.out;omega
 have f0:((x:Int) == 0)=false:=by simp;omega
 have f3:¬ (3:Int)<(x:Int):=by omega
 have f1:((x:Int) == 1)=false:=by simp;omega
 obtain ⟨k1,HA1⟩:∃ n,Hid (l.length=n):=⟨_,hI rfl⟩
 obtain ⟨z,hz⟩:∃ z,Hid (0+1+k1=z):=⟨_,hI rfl⟩
 have zle:z≤n2:=by have e:=congrArg List.length (cutT_said hd);rw [List.length_append,lenT_len,HA1.out,hn2.out] at e;have:=hz.out;omega
 have zlt:¬ (z:Int)<0:=by omega
 have jl:¬ (z:Int)<(n2:Int):=by have e:=congrArg List.length (cutT_said hd);rw [List.length_append,lenT_len,HA1.out,hn2.out] at e;have:=hz.out;simp at e;omega
 have HC1:=hI (show cutT (d.drop 0)=_ from hd)
 have T1:=hI trivial
 clear hd
 clear hF h hb hl hg hk hd1
 go_enter Tryz.func57,Tryz.ntmps57
 go_upto_region 5 with (first
  | (go_at_call 71;(with_reducible refine (krgetF_v b x y d _ HG.out n2 hn2.out pd hpd.out n c A _ (HR.out.on C.out.bel) HB.out HL.out (by omega) hc (fun i=>F i∧i<w.heap.size) (HF.out.keep (.of_below C.out.bel))).mono ?_);rintro e wn ⟨A1,c1,rfl,k1c,r1,hb⟩;have R1:=hI r1;replace C:=hI (C.out.step hb);clear hb r1))
 have BA:=hI ((Below.refl wn.heap.size wn).alloc (Nat.le_refl _) (Pk.obj ⟨49187,x,y,[],0,0,[],[],[],[]⟩ pl0 29))
 have P:=hI (C.out.pk ⟨49187,x,y,[],0,0,[],[],[],[]⟩ pl0)
 have LT:=C.out.res.lt
 obtain ⟨g,hgg⟩:∃ g,Hid (wn.heap.size=g):=⟨_,hI rfl⟩
 rw [hgg.out] at P LT ⊢
 have R2:=hI ((R1.out.keep (.of_below BA.out)).mono (G:=Nf F w.heap.size g) (fun i _ hf=>⟨hf.1,Nat.ne_of_lt hf.2,Nat.ne_of_lt (Nat.lt_trans hf.2 LT)⟩))
 refine at_worldP (fun W=>Hid (GpC 29 w W g ⟨49187,x,y,[],0,0,[],[],[],[]⟩ pl0)∧Hid (RdF (Nf F w.heap.size g) W A1 d)) ⟨P,R2⟩ ?_
 clear P R2 BA LT R1 C HR HF HB HL HG hgg
 rintro wm ⟨P,R2⟩
 have nq1:=Nat.ne_of_lt P.out.lt
 have nq3:=Nat.ne_of_gt P.out.lt
 obtain ⟨x0,x1,x2,x3,x4,x5,x6,x7,x8,x9⟩:=P.out.cf.all;obtain ⟨u0,u1,u2,u3,u4,u5,u6,u7,u8,u9⟩:=P.out.cf.free;obtain ⟨y0,y1,y2,y3,y4,y5,y6,y7,y8,y9⟩:=P.out.res.all;obtain ⟨z0,z1,z2,z3,z4,z5,z6,z7,z8,z9⟩:=P.out.res.free
 go_upto_region 12 with (first
  | (go_at_call 74;have _g:=T1;clear _g;(with_reducible refine (rtext_ok (Nf F w.heap.size g) d n2 c1 A1 _ R2.out hn2.out HD.out (by omega) k1c 0 0 rfl (Nat.zero_le _) l [] HC1.out k1 HA1.out z hz.out).mono ?_);rintro e wt ⟨A3,c3,rfl,e3,r1,hb⟩;have S1:=hI r1;replace R2:=hI (R2.out.keep (.of_below hb));replace P:=hI (P.out.step hb);clear hb r1 T1;clear x0 x1 x2 x3 x4 x5 x6 x7 x8 x9 u0 u1 u2 u3 u4 u5 u6 u7 u8 u9 y0 y1 y2 y3 y4 y5 y6 y7 y8 y9 z0 z1 z2 z3 z4 z5 z6 z7 z8 z9;obtain ⟨x0,x1,x2,x3,x4,x5,x6,x7,x8,x9⟩:=P.out.cf.all;obtain ⟨u0,u1,u2,u3,u4,u5,u6,u7,u8,u9⟩:=P.out.cf.free;obtain ⟨y0,y1,y2,y3,y4,y5,y6,y7,y8,y9⟩:=P.out.res.all;obtain ⟨z0,z1,z2,z3,z4,z5,z6,z7,z8,z9⟩:=P.out.res.free))
 refine at_worldP (fun W=>Hid (GpC 29 w W g ⟨49187,x,y,[],0,0,l,[],[],[]⟩ { pl0 with a1:=A3,n1:=k1,c1:=c3 })∧Hid (RdF (Nf F w.heap.size g) W A3 l)∧Hid (RdF (Nf F w.heap.size g) W A1 d)) ⟨hI (P.out.set 6 (.slice A3 k1 c3) (P.out.cf.setOne A3 k1 c3 l)),hI (S1.out.keep (keeps_f1 F wt w.heap.size g 6 (.slice A3 k1 c3))),hI (R2.out.keep (keeps_f1 F wt w.heap.size g 6 (.slice A3 k1 c3)))⟩ ?_
 clear x0 x1 x2 x3 x4 x5 x6 x7 x8 x9 u0 u1 u2 u3 u4 u5 u6 u7 u8 u9 y0 y1 y2 y3 y4 y5 y6 y7 y8 y9 z0 z1 z2 z3 z4 z5 z6 z7 z8 z9
 clear P R2 S1
 rintro wv ⟨P,S1,R2⟩
 obtain ⟨x0,x1,x2,x3,x4,x5,x6,x7,x8,x9⟩:=P.out.cf.all;obtain ⟨u0,u1,u2,u3,u4,u5,u6,u7,u8,u9⟩:=P.out.cf.free;obtain ⟨y0,y1,y2,y3,y4,y5,y6,y7,y8,y9⟩:=P.out.res.all;obtain ⟨z0,z1,z2,z3,z4,z5,z6,z7,z8,z9⟩:=P.out.res.free
 go_wp2_with fail
 refine bodyPost_ret (v:=.tuple #[Pk.val ⟨49187,x,y,[],0,0,l,[],[],[]⟩ { pl0 with a1:=A3,n1:=k1,c1:=c3 },.int .i64 0]) ?_ rfl (GetF.mk { pl0 with a1:=A3,n1:=k1,c1:=c3 } rfl ?_ (put10_below P.out.bel (Nat.le_refl _) ⟨49187,x,y,[],0,0,l,[],[],[]⟩ { pl0 with a1:=A3,n1:=k1,c1:=c3 }))
 ·exact results_row_tmpP rfl _ _ _ w.heap.size 29 _ _ _ rfl rfl (put10_px P.out.res ⟨49187,x,y,[],0,0,l,[],[],[]⟩ { pl0 with a1:=A3,n1:=k1,c1:=c3 }) Tryz.underlying29 (by kernel_rfl)
 ·exact ((pwF_texts 49187 x y HA1.out S1.out e3 rfl RdF.nil (Nat.le_refl _)).keep (keeps_f2 F _ w.heap.size g ⟨49187,x,y,[],0,0,l,[],[],[]⟩ { pl0 with a1:=A3,n1:=k1,c1:=c3 })).mono (fun _ _ h=>h.1)
theorem arg_two_cut2 (b:List Nat) (n c:Nat) (A:Option Addr) (w:World) (F:Nat→Prop) (hF:∀ i,w.heap.size≤i→F i) (h:RdF F w A b) (hb:By b) (hl:b.length=n) (hn:n≤1073741824) (hc:n≤c) (x y:Nat) (d:List Nat) (hg:kgetB b=(x,y,d,0)) (hk:x=1) (l r:List Nat) (hd:cutT d=(l,r,0)) (hd2:cutT r=([],[],2)) :
  Calls Tryz.prog 57 #[.slice A n c] w (GetF F w pk0 2):=by
 have C:=hI (GeC.made 29 w)
 have HR:=hI h.rd
 have HFF:=hI hF
 have HF:=hI h.ltF
 have HB:=hI hb
 have HL:=hI hl
 have HG:=hI hg
 obtain ⟨pd,hpd⟩:∃ pd,Hid (kpadB b=pd):=⟨_,hI rfl⟩
 obtain ⟨n2,hn2⟩:∃ n2,Hid (d.length=n2):=⟨_,hI rfl⟩
 have hd1:=kget_bytes hb hg
 have HD:=hI hd1.1
 have n2le:n2≤1073741824:=by have:=hd1.2;have:=hn2.out;omega
 have f0:((x:Int) == 0)=false:=by simp;omega
 have f3:¬ (3:Int)<(x:Int):=by omega
 have f1:((x:Int) == 1)=true:=by simp;omega
 obtain ⟨k1,HA1⟩:∃ n,Hid (l.length=n):=⟨_,hI rfl⟩
 obtain ⟨z,hz⟩:∃ z,Hid (0+1+k1=z):=⟨_,hI rfl⟩
 have zle:z≤n2:=by have e:=congrArg List.length (cutT_said hd);rw [List.length_append,lenT_len,HA1.out,hn2.out] at e;have:=hz.out;omega
 have zlt:¬ (z:Int)<0:=by omega
 have HC2:=hI (show cutT (d.drop z)=([],[],2) from by rw [show z=l.length+1 by have:=hz.out;have:=HA1.out;omega,cutT_drop hd];exact hd2)
 have T2:=hI trivial
 clear hd2
 have HC1:=hI (show cutT (d.drop 0)=_ from hd)
 have T1:=hI trivial
 clear hd
 clear hF h hb hl hg hk hd1
 go_enter Tryz.func57,Tryz.ntmps57
 go_upto_region 5 with (first
  | (go_at_call 71;(with_reducible refine (krgetF_v b x y d _ HG.out n2 hn2.out pd hpd.out n c A _ (HR.out.on C.out.bel) HB.out HL.out (by omega) hc (fun i=>F i∧i<w.heap.size) (HF.out.keep (.of_below C.out.bel))).mono ?_);rintro e wn ⟨A1,c1,rfl,k1c,r1,hb⟩;have R1:=hI r1;replace C:=hI (C.out.step hb);clear hb r1))
 have BA:=hI ((Below.refl wn.heap.size wn).alloc (Nat.le_refl _) (Pk.obj ⟨49187,x,y,[],0,0,[],[],[],[]⟩ pl0 29))
 have P:=hI (C.out.pk ⟨49187,x,y,[],0,0,[],[],[],[]⟩ pl0)
 have LT:=C.out.res.lt
 obtain ⟨g,hgg⟩:∃ g,Hid (wn.heap.size=g):=⟨_,hI rfl⟩
 rw [hgg.out] at P LT ⊢
 have R2:=hI ((R1.out.keep (.of_below BA.out)).mono (G:=Nf F w.heap.size g) (fun i _ hf=>⟨hf.1,Nat.ne_of_lt hf.2,Nat.ne_of_lt (Nat.lt_trans hf.2 LT)⟩))
 refine at_worldP (fun W=>Hid (GpC 29 w W g ⟨49187,x,y,[],0,0,[],[],[],[]⟩ pl0)∧Hid (RdF (Nf F w.heap.size g) W A1 d)) ⟨P,R2⟩ ?_
 clear P R2 BA LT R1 C HR HF HB HL HG hgg
 rintro wm ⟨P,R2⟩
 have nq1:=Nat.ne_of_lt P.out.lt
 have nq3:=Nat.ne_of_gt P.out.lt
 obtain ⟨x0,x1,x2,x3,x4,x5,x6,x7,x8,x9⟩:=P.out.cf.all;obtain ⟨u0,u1,u2,u3,u4,u5,u6,u7,u8,u9⟩:=P.out.cf.free;obtain ⟨y0,y1,y2,y3,y4,y5,y6,y7,y8,y9⟩:=P.out.res.all;obtain ⟨z0,z1,z2,z3,z4,z5,z6,z7,z8,z9⟩:=P.out.res.free
 go_upto_region 12 with (first
  | (go_at_call 74;have _g:=T1;clear _g;(with_reducible refine (rtext_ok (Nf F w.heap.size g) d n2 c1 A1 _ R2.out hn2.out HD.out (by omega) k1c 0 0 rfl (Nat.zero_le _) l r HC1.out k1 HA1.out z hz.out).mono ?_);rintro e wt ⟨A3,c3,rfl,e3,r1,hb⟩;have S1:=hI r1;replace R2:=hI (R2.out.keep (.of_below hb));replace P:=hI (P.out.step hb);clear hb r1 T1;clear x0 x1 x2 x3 x4 x5 x6 x7 x8 x9 u0 u1 u2 u3 u4 u5 u6 u7 u8 u9 y0 y1 y2 y3 y4 y5 y6 y7 y8 y9 z0 z1 z2 z3 z4 z5 z6 z7 z8 z9;obtain ⟨x0,x1,x2,x3,x4,x5,x6,x7,x8,x9⟩:=P.out.cf.all;obtain ⟨u0,u1,u2,u3,u4,u5,u6,u7,u8,u9⟩:=P.out.cf.free;obtain ⟨y0,y1,y2,y3,y4,y5,y6,y7,y8,y9⟩:=P.out.res.all;obtain ⟨z0,z1,z2,z3,z4,z5,z6,z7,z8,z9⟩:=P.out.res.free))
 refine at_worldP (fun W=>Hid (GpC 29 w W g ⟨49187,x,y,[],0,0,l,[],[],[]⟩ { pl0 with a1:=A3,n1:=k1,c1:=c3 })∧Hid (RdF (Nf F w.heap.size g) W A3 l)∧Hid (RdF (Nf F w.heap.size g) W A1 d)) ⟨hI (P.out.set 6 (.slice A3 k1 c3) (P.out.cf.setOne A3 k1 c3 l)),hI (S1.out.keep (keeps_f1 F wt w.heap.size g 6 (.slice A3 k1 c3))),hI (R2.out.keep (keeps_f1 F wt w.heap.size g 6 (.slice A3 k1 c3)))⟩ ?_
 clear x0 x1 x2 x3 x4 x5 x6 x7 x8 x9 u0 u1 u2 u3 u4 u5 u6 u7 u8 u9 y0 y1 y2 y3 y4 y5 y6 y7 y8 y9 z0 z1 z2 z3 z4 z5 z6 z7 z8 z9
 clear P R2 S1
 rintro wv ⟨P,S1,R2⟩
 obtain ⟨x0,x1,x2,x3,x4,x5,x6,x7,x8,x9⟩:=P.out.cf.all;obtain ⟨u0,u1,u2,u3,u4,u5,u6,u7,u8,u9⟩:=P.out.cf.free;obtain ⟨y0,y1,y2,y3,y4,y5,y6,y7,y8,y9⟩:=P.out.res.all;obtain ⟨z0,z1,z2,z3,z4,z5,z6,z7,z8,z9⟩:=P.out.res.free
 go_wp2_with (first
  | (go_at_call 74;have _g:=T2;clear _g;(with_reducible refine (rtext_no d n2 c1 A1 _ R2.out.rd hn2.out HD.out (by omega) z (z:Int) rfl zle HC2.out).mono ?_);rintro e wt ⟨rfl,hb⟩;replace P:=hI (P.out.step hb);clear hb T2;clear x0 x1 x2 x3 x4 x5 x6 x7 x8 x9 u0 u1 u2 u3 u4 u5 u6 u7 u8 u9 y0 y1 y2 y3 y4 y5 y6 y7 y8 y9 z0 z1 z2 z3 z4 z5 z6 z7 z8 z9;obtain ⟨x0,x1,x2,x3,x4,x5,x6,x7,x8,x9⟩:=P.out.cf.all;obtain ⟨u0,u1,u2,u3,u4,u5,u6,u7,u8,u9⟩:=P.out.cf.free;obtain ⟨y0,y1,y2,y3,y4,y5,y6,y7,y8,y9⟩:=P.out.res.all;obtain ⟨z0,z1,z2,z3,z4,z5,z6,z7,z8,z9⟩:=P.out.res.free))
 refine bodyPost_ret (v:=.tuple #[pk0.val pl0,.int .i64 2]) ?_ rfl (GetF.mk pl0 rfl pwF0 (put10_below P.out.bel (Nat.le_refl _) pk0 pl0))
 exact results_row_tmpP rfl _ _ _ w.heap.size 29 _ _ _ rfl rfl (put10_px P.out.res pk0 pl0) Tryz.underlying29 (by kernel_rfl)
theorem arg_two_left (b:List Nat) (n c:Nat) (A:Option Addr) (w:World) (F:Nat→Prop) (hF:∀ i,w.heap.size≤i→F i) (h:RdF F w A b) (hb:By b) (hl:b.length=n) (hn:n≤1073741824) (hc:n≤c) (x y:Nat) (d:List Nat) (hg:kgetB b=(x,y,d,0)) (hk:x=1) (l r:List Nat) (hd:cutT d=(l,r,0)) (l2 r2:List Nat) (hd2:cutT r=(l2,r2,0)) (hr:¬ r2=[]) :
  Calls Tryz.prog 57 #[.slice A n c] w (GetF F w pk0 4):=by
 have C:=hI (GeC.made 29 w)
 have HR:=hI h.rd
 have HFF:=hI hF
 have HF:=hI h.ltF
 have HB:=hI hb
 have HL:=hI hl
 have HG:=hI hg
 obtain ⟨pd,hpd⟩:∃ pd,Hid (kpadB b=pd):=⟨_,hI rfl⟩
 obtain ⟨n2,hn2⟩:∃ n2,Hid (d.length=n2):=⟨_,hI rfl⟩
 have hd1:=kget_bytes hb hg
 have HD:=hI hd1.1
 have n2le:n2≤1073741824:=by have:=hd1.2;have:=hn2.out;omega
 have f0:((x:Int) == 0)=false:=by simp;omega
 have f3:¬ (3:Int)<(x:Int):=by omega
 have f1:((x:Int) == 1)=true:=by simp;omega
 obtain ⟨k1,HA1⟩:∃ n,Hid (l.length=n):=⟨_,hI rfl⟩
 obtain ⟨z,hz⟩:∃ z,Hid (0+1+k1=z):=⟨_,hI rfl⟩
 have zle:z≤n2:=by have e:=congrArg List.length (cutT_said hd);rw [List.length_append,lenT_len,HA1.out,hn2.out] at e;have:=hz.out;omega
 have zlt:¬ (z:Int)<0:=by omega
 obtain ⟨k3,HA2⟩:∃ n,Hid (l2.length=n):=⟨_,hI rfl⟩
 obtain ⟨z',hz'⟩:∃ z',Hid (z+1+k3=z'):=⟨_,hI rfl⟩
 have zlt2:¬ (z':Int)<0:=by omega
 have jl:(z':Int)<(n2:Int):=by have e:=congrArg List.length (cutT_said hd);rw [List.length_append,lenT_len,HA1.out,hn2.out] at e;have e2:=congrArg List.length (cutT_said hd2);rw [List.length_append,lenT_len,HA2.out] at e2;have:=hz.out;have:=hz'.out;have:r2.length≠0:=fun e=>hr (List.eq_nil_of_length_eq_zero e);omega
 clear hr
 have HC2:=hI (show cutT (d.drop z)=(l2,r2,0) from by rw [show z=l.length+1 by have:=hz.out;have:=HA1.out;omega,cutT_drop hd];exact hd2)
 have T2:=hI trivial
 clear hd2
 have HC1:=hI (show cutT (d.drop 0)=_ from hd)
 have T1:=hI trivial
 clear hd
 clear hF h hb hl hg hk hd1
 go_enter Tryz.func57,Tryz.ntmps57
 go_upto_region 5 with (first
  | (go_at_call 71;(with_reducible refine (krgetF_v b x y d _ HG.out n2 hn2.out pd hpd.out n c A _ (HR.out.on C.out.bel) HB.out HL.out (by omega) hc (fun i=>F i∧i<w.heap.size) (HF.out.keep (.of_below C.out.bel))).mono ?_);rintro e wn ⟨A1,c1,rfl,k1c,r1,hb⟩;have R1:=hI r1;replace C:=hI (C.out.step hb);clear hb r1))
 have BA:=hI ((Below.refl wn.heap.size wn).alloc (Nat.le_refl _) (Pk.obj ⟨49187,x,y,[],0,0,[],[],[],[]⟩ pl0 29))
 have P:=hI (C.out.pk ⟨49187,x,y,[],0,0,[],[],[],[]⟩ pl0)
 have LT:=C.out.res.lt
 obtain ⟨g,hgg⟩:∃ g,Hid (wn.heap.size=g):=⟨_,hI rfl⟩
 rw [hgg.out] at P LT ⊢
 have R2:=hI ((R1.out.keep (.of_below BA.out)).mono (G:=Nf F w.heap.size g) (fun i _ hf=>⟨hf.1,Nat.ne_of_lt hf.2,Nat.ne_of_lt (Nat.lt_trans hf.2 LT)⟩))
 refine at_worldP (fun W=>Hid (GpC 29 w W g ⟨49187,x,y,[],0,0,[],[],[],[]⟩ pl0)∧Hid (RdF (Nf F w.heap.size g) W A1 d)) ⟨P,R2⟩ ?_
 clear P R2 BA LT R1 C HR HF HB HL HG hgg
 rintro wm ⟨P,R2⟩
 have nq1:=Nat.ne_of_lt P.out.lt
 have nq3:=Nat.ne_of_gt P.out.lt
 obtain ⟨x0,x1,x2,x3,x4,x5,x6,x7,x8,x9⟩:=P.out.cf.all;obtain ⟨u0,u1,u2,u3,u4,u5,u6,u7,u8,u9⟩:=P.out.cf.free;obtain ⟨y0,y1,y2,y3,y4,y5,y6,y7,y8,y9⟩:=P.out.res.all;obtain ⟨z0,z1,z2,z3,z4,z5,z6,z7,z8,z9⟩:=P.out.res.free
 go_upto_region 12 with (first
  | (go_at_call 74;have _g:=T1;clear _g;(with_reducible refine (rtext_ok (Nf F w.heap.size g) d n2 c1 A1 _ R2.out hn2.out HD.out (by omega) k1c 0 0 rfl (Nat.zero_le _) l r HC1.out k1 HA1.out z hz.out).mono ?_);rintro e wt ⟨A3,c3,rfl,e3,r1,hb⟩;have S1:=hI r1;replace R2:=hI (R2.out.keep (.of_below hb));replace P:=hI (P.out.step hb);clear hb r1 T1;clear x0 x1 x2 x3 x4 x5 x6 x7 x8 x9 u0 u1 u2 u3 u4 u5 u6 u7 u8 u9 y0 y1 y2 y3 y4 y5 y6 y7 y8 y9 z0 z1 z2 z3 z4 z5 z6 z7 z8 z9;obtain ⟨x0,x1,x2,x3,x4,x5,x6,x7,x8,x9⟩:=P.out.cf.all;obtain ⟨u0,u1,u2,u3,u4,u5,u6,u7,u8,u9⟩:=P.out.cf.free;obtain ⟨y0,y1,y2,y3,y4,y5,y6,y7,y8,y9⟩:=P.out.res.all;obtain ⟨z0,z1,z2,z3,z4,z5,z6,z7,z8,z9⟩:=P.out.res.free))
 refine at_worldP (fun W=>Hid (GpC 29 w W g ⟨49187,x,y,[],0,0,l,[],[],[]⟩ { pl0 with a1:=A3,n1:=k1,c1:=c3 })∧Hid (RdF (Nf F w.heap.size g) W A3 l)∧Hid (RdF (Nf F w.heap.size g) W A1 d)) ⟨hI (P.out.set 6 (.slice A3 k1 c3) (P.out.cf.setOne A3 k1 c3 l)),hI (S1.out.keep (keeps_f1 F wt w.heap.size g 6 (.slice A3 k1 c3))),hI (R2.out.keep (keeps_f1 F wt w.heap.size g 6 (.slice A3 k1 c3)))⟩ ?_
 clear x0 x1 x2 x3 x4 x5 x6 x7 x8 x9 u0 u1 u2 u3 u4 u5 u6 u7 u8 u9 y0 y1 y2 y3 y4 y5 y6 y7 y8 y9 z0 z1 z2 z3 z4 z5 z6 z7 z8 z9
 clear P R2 S1
 rintro wv ⟨P,S1,R2⟩
 obtain ⟨x0,x1,x2,x3,x4,x5,x6,x7,x8,x9⟩:=P.out.cf.all;obtain ⟨u0,u1,u2,u3,u4,u5,u6,u7,u8,u9⟩:=P.out.cf.free;obtain ⟨y0,y1,y2,y3,y4,y5,y6,y7,y8,y9⟩:=P.out.res.all;obtain ⟨z0,z1,z2,z3,z4,z5,z6,z7,z8,z9⟩:=P.out.res.free
 go_wp2_with (first
  | (go_at_call 74;have _g:=T2;clear _g;(with_reducible refine (rtext_ok (Nf F w.heap.size g) d n2 c1 A1 _ R2.out hn2.out HD.out (by omega) k1c z (z:Int) rfl zle l2 r2 HC2.out k3 HA2.out z' hz'.out).mono ?_);rintro e wu ⟨A4,c4,rfl,e4,r1,hb⟩;have S2:=hI r1;replace S1:=hI (S1.out.keep (.of_below hb));replace R2:=hI (R2.out.keep (.of_below hb));replace P:=hI (P.out.step hb);clear hb r1 T2;clear x0 x1 x2 x3 x4 x5 x6 x7 x8 x9 u0 u1 u2 u3 u4 u5 u6 u7 u8 u9 y0 y1 y2 y3 y4 y5 y6 y7 y8 y9 z0 z1 z2 z3 z4 z5 z6 z7 z8 z9;obtain ⟨x0,x1,x2,x3,x4,x5,x6,x7,x8,x9⟩:=P.out.cf.all;obtain ⟨u0,u1,u2,u3,u4,u5,u6,u7,u8,u9⟩:=P.out.cf.free;obtain ⟨y0,y1,y2,y3,y4,y5,y6,y7,y8,y9⟩:=P.out.res.all;obtain ⟨z0,z1,z2,z3,z4,z5,z6,z7,z8,z9⟩:=P.out.res.free))
 refine bodyPost_ret (v:=.tuple #[pk0.val pl0,.int .i64 4]) ?_ rfl (GetF.mk pl0 rfl pwF0 (put10_below (P.out.set 7 (.slice A4 k3 c4) (P.out.cf.setTwo A4 k3 c4 l2)).bel (Nat.le_refl _) pk0 pl0))
 exact results_row_tmpP rfl _ _ _ w.heap.size 29 _ _ _ rfl rfl (put10_px (P.out.set 7 (.slice A4 k3 c4) (P.out.cf.setTwo A4 k3 c4 l2)).res pk0 pl0) Tryz.underlying29 (by kernel_rfl)
theorem arg_two (b:List Nat) (n c:Nat) (A:Option Addr) (w:World) (F:Nat→Prop) (hF:∀ i,w.heap.size≤i→F i) (h:RdF F w A b) (hb:By b) (hl:b.length=n) (hn:n≤1073741824) (hc:n≤c) (x y:Nat) (d:List Nat) (hg:kgetB b=(x,y,d,0)) (hk:x=1) (l r:List Nat) (hd:cutT d=(l,r,0)) (l2:List Nat) (hd2:cutT r=(l2,[],0)) :
  Calls Tryz.prog 57 #[.slice A n c] w (GetF F w ⟨49187,x,y,[],0,0,l,l2,[],[]⟩ 0):=by
 have C:=hI (GeC.made 29 w)
 have HR:=hI h.rd
 have HFF:=hI hF
 have HF:=hI h.ltF
 have HB:=hI hb
 have HL:=hI hl
 have HG:=hI hg
 obtain ⟨pd,hpd⟩:∃ pd,Hid (kpadB b=pd):=⟨_,hI rfl⟩
 obtain ⟨n2,hn2⟩:∃ n2,Hid (d.length=n2):=⟨_,hI rfl⟩
 have hd1:=kget_bytes hb hg
 have HD:=hI hd1.1
 have n2le:n2≤1073741824:=by have:=hd1.2;have:=hn2.out;omega
 have f0:((x:Int) == 0)=false:=by simp;omega
 have f3:¬ (3:Int)<(x:Int):=by omega
 have f1:((x:Int) == 1)=true:=by simp;omega
 obtain ⟨k1,HA1⟩:∃ n,Hid (l.length=n):=⟨_,hI rfl⟩
 obtain ⟨z,hz⟩:∃ z,Hid (0+1+k1=z):=⟨_,hI rfl⟩
 have zle:z≤n2:=by have e:=congrArg List.length (cutT_said hd);rw [List.length_append,lenT_len,HA1.out,hn2.out] at e;have:=hz.out;omega
 have zlt:¬ (z:Int)<0:=by omega
 obtain ⟨k3,HA2⟩:∃ n,Hid (l2.length=n):=⟨_,hI rfl⟩
 obtain ⟨z',hz'⟩:∃ z',Hid (z+1+k3=z'):=⟨_,hI rfl⟩
 have zlt2:¬ (z':Int)<0:=by omega
 have jl:¬ (z':Int)<(n2:Int):=by have e:=congrArg List.length (cutT_said hd);rw [List.length_append,lenT_len,HA1.out,hn2.out] at e;have e2:=congrArg List.length (cutT_said hd2);rw [List.length_append,lenT_len,HA2.out] at e2;have:=hz.out;have:=hz'.out;simp at e2;omega
 have HC2:=hI (show cutT (d.drop z)=(l2,[],0) from by rw [show z=l.length+1 by have:=hz.out;have:=HA1.out;omega,cutT_drop hd];exact hd2)
 have T2:=hI trivial
 clear hd2
 have HC1:=hI (show cutT (d.drop 0)=_ from hd)
 have T1:=hI trivial
 clear hd
 clear hF h hb hl hg hk hd1
 go_enter Tryz.func57,Tryz.ntmps57
 go_upto_region 5 with (first
  | (go_at_call 71;(with_reducible refine (krgetF_v b x y d _ HG.out n2 hn2.out pd hpd.out n c A _ (HR.out.on C.out.bel) HB.out HL.out (by omega) hc (fun i=>F i∧i<w.heap.size) (HF.out.keep (.of_below C.out.bel))).mono ?_);rintro e wn ⟨A1,c1,rfl,k1c,r1,hb⟩;have R1:=hI r1;replace C:=hI (C.out.step hb);clear hb r1))
 have BA:=hI ((Below.refl wn.heap.size wn).alloc (Nat.le_refl _) (Pk.obj ⟨49187,x,y,[],0,0,[],[],[],[]⟩ pl0 29))
 have P:=hI (C.out.pk ⟨49187,x,y,[],0,0,[],[],[],[]⟩ pl0)
 have LT:=C.out.res.lt
 obtain ⟨g,hgg⟩:∃ g,Hid (wn.heap.size=g):=⟨_,hI rfl⟩
 rw [hgg.out] at P LT ⊢
 have R2:=hI ((R1.out.keep (.of_below BA.out)).mono (G:=Nf F w.heap.size g) (fun i _ hf=>⟨hf.1,Nat.ne_of_lt hf.2,Nat.ne_of_lt (Nat.lt_trans hf.2 LT)⟩))
 refine at_worldP (fun W=>Hid (GpC 29 w W g ⟨49187,x,y,[],0,0,[],[],[],[]⟩ pl0)∧Hid (RdF (Nf F w.heap.size g) W A1 d)) ⟨P,R2⟩ ?_
 clear P R2 BA LT R1 C HR HF HB HL HG hgg
 rintro wm ⟨P,R2⟩
 have nq1:=Nat.ne_of_lt P.out.lt
 have nq3:=Nat.ne_of_gt P.out.lt
 obtain ⟨x0,x1,x2,x3,x4,x5,x6,x7,x8,x9⟩:=P.out.cf.all;obtain ⟨u0,u1,u2,u3,u4,u5,u6,u7,u8,u9⟩:=P.out.cf.free;obtain ⟨y0,y1,y2,y3,y4,y5,y6,y7,y8,y9⟩:=P.out.res.all;obtain ⟨z0,z1,z2,z3,z4,z5,z6,z7,z8,z9⟩:=P.out.res.free
 go_upto_region 12 with (first
  | (go_at_call 74;have _g:=T1;clear _g;(with_reducible refine (rtext_ok (Nf F w.heap.size g) d n2 c1 A1 _ R2.out hn2.out HD.out (by omega) k1c 0 0 rfl (Nat.zero_le _) l r HC1.out k1 HA1.out z hz.out).mono ?_);rintro e wt ⟨A3,c3,rfl,e3,r1,hb⟩;have S1:=hI r1;replace R2:=hI (R2.out.keep (.of_below hb));replace P:=hI (P.out.step hb);clear hb r1 T1;clear x0 x1 x2 x3 x4 x5 x6 x7 x8 x9 u0 u1 u2 u3 u4 u5 u6 u7 u8 u9 y0 y1 y2 y3 y4 y5 y6 y7 y8 y9 z0 z1 z2 z3 z4 z5 z6 z7 z8 z9;obtain ⟨x0,x1,x2,x3,x4,x5,x6,x7,x8,x9⟩:=P.out.cf.all;obtain ⟨u0,u1,u2,u3,u4,u5,u6,u7,u8,u9⟩:=P.out.cf.free;obtain ⟨y0,y1,y2,y3,y4,y5,y6,y7,y8,y9⟩:=P.out.res.all;obtain ⟨z0,z1,z2,z3,z4,z5,z6,z7,z8,z9⟩:=P.out.res.free))
 refine at_worldP (fun W=>Hid (GpC 29 w W g ⟨49187,x,y,[],0,0,l,[],[],[]⟩ { pl0 with a1:=A3,n1:=k1,c1:=c3 })∧Hid (RdF (Nf F w.heap.size g) W A3 l)∧Hid (RdF (Nf F w.heap.size g) W A1 d)) ⟨hI (P.out.set 6 (.slice A3 k1 c3) (P.out.cf.setOne A3 k1 c3 l)),hI (S1.out.keep (keeps_f1 F wt w.heap.size g 6 (.slice A3 k1 c3))),hI (R2.out.keep (keeps_f1 F wt w.heap.size g 6 (.slice A3 k1 c3)))⟩ ?_
 clear x0 x1 x2 x3 x4 x5 x6 x7 x8 x9 u0 u1 u2 u3 u4 u5 u6 u7 u8 u9 y0 y1 y2 y3 y4 y5 y6 y7 y8 y9 z0 z1 z2 z3 z4 z5 z6 z7 z8 z9
 clear P R2 S1
 rintro wv ⟨P,S1,R2⟩
 obtain ⟨x0,x1,x2,x3,x4,x5,x6,x7,x8,x9⟩:=P.out.cf.all;obtain ⟨u0,u1,u2,u3,u4,u5,u6,u7,u8,u9⟩:=P.out.cf.free;obtain ⟨y0,y1,y2,y3,y4,y5,y6,y7,y8,y9⟩:=P.out.res.all;obtain ⟨z0,z1,z2,z3,z4,z5,z6,z7,z8,z9⟩:=P.out.res.free
 go_wp2_with (first
  | (go_at_call 74;have _g:=T2;clear _g;(with_reducible refine (rtext_ok (Nf F w.heap.size g) d n2 c1 A1 _ R2.out hn2.out HD.out (by omega) k1c z (z:Int) rfl zle l2 [] HC2.out k3 HA2.out z' hz'.out).mono ?_);rintro e wu ⟨A4,c4,rfl,e4,r1,hb⟩;have S2:=hI r1;replace S1:=hI (S1.out.keep (.of_below hb));replace R2:=hI (R2.out.keep (.of_below hb));replace P:=hI (P.out.step hb);clear hb r1 T2;clear x0 x1 x2 x3 x4 x5 x6 x7 x8 x9 u0 u1 u2 u3 u4 u5 u6 u7 u8 u9 y0 y1 y2 y3 y4 y5 y6 y7 y8 y9 z0 z1 z2 z3 z4 z5 z6 z7 z8 z9;obtain ⟨x0,x1,x2,x3,x4,x5,x6,x7,x8,x9⟩:=P.out.cf.all;obtain ⟨u0,u1,u2,u3,u4,u5,u6,u7,u8,u9⟩:=P.out.cf.free;obtain ⟨y0,y1,y2,y3,y4,y5,y6,y7,y8,y9⟩:=P.out.res.all;obtain ⟨z0,z1,z2,z3,z4,z5,z6,z7,z8,z9⟩:=P.out.res.free))
 refine bodyPost_ret (v:=.tuple #[Pk.val ⟨49187,x,y,[],0,0,l,l2,[],[]⟩ { pl0 with a1:=A3,n1:=k1,c1:=c3,a2:=A4,n2:=k3,c2:=c4 },.int .i64 0]) ?_ rfl (GetF.mk { pl0 with a1:=A3,n1:=k1,c1:=c3,a2:=A4,n2:=k3,c2:=c4 } rfl ?_ (put10_below (P.out.set 7 (.slice A4 k3 c4) (P.out.cf.setTwo A4 k3 c4 l2)).bel (Nat.le_refl _) ⟨49187,x,y,[],0,0,l,l2,[],[]⟩ { pl0 with a1:=A3,n1:=k1,c1:=c3,a2:=A4,n2:=k3,c2:=c4 }))
 ·exact results_row_tmpP rfl _ _ _ w.heap.size 29 _ _ _ rfl rfl (put10_px (P.out.set 7 (.slice A4 k3 c4) (P.out.cf.setTwo A4 k3 c4 l2)).res ⟨49187,x,y,[],0,0,l,l2,[],[]⟩ { pl0 with a1:=A3,n1:=k1,c1:=c3,a2:=A4,n2:=k3,c2:=c4 }) Tryz.underlying29 (by kernel_rfl)
 ·exact ((pwF_texts 49187 x y HA1.out S1.out e3 HA2.out S2.out e4).keep ((keeps_f1 F wu w.heap.size g 7 (.slice A4 k3 c4)).trans (keeps_f2 F _ w.heap.size g ⟨49187,x,y,[],0,0,l,l2,[],[]⟩ { pl0 with a1:=A3,n1:=k1,c1:=c3,a2:=A4,n2:=k3,c2:=c4 }))).mono (fun _ _ h=>h.1)
theorem argF_any (b:List Nat) (n c:Nat) (A:Option Addr) (w:World) (F:Nat→Prop) (hF:∀ i,w.heap.size≤i→F i) (h:RdF F w A b) (hb:By b) (hl:b.length=n) (hn:n≤1073741824) (hc:n≤c) (p:Pk) (k:Nat) (hp:agetB b=(p,k)) :
  Calls Tryz.prog 57 #[.slice A n c] w (GetF F w p k):=by
 obtain ⟨x,y,d,e,hg⟩:∃ x y d e,kgetB b=(x,y,d,e):=⟨_,_,_,_,rfl⟩
 by_cases he:e=0
 case neg =>
  rw [aget_no hg he] at hp
  obtain ⟨rfl,rfl⟩:=Prod.mk.inj hp
  exact arg_no b n c A w F hF h hb hl hn hc x y d e hg he
 subst he
 rw [aget_of hg,ardB] at hp
 rcases txtB_cases x with ⟨hx,hk⟩ | ⟨hx,hk⟩ | ⟨hx,hk⟩
 ·rw [if_pos hk] at hp
  rcases cutT_get d with ⟨l,r,e1,-⟩ | e1
  ·rw [e1] at hp
   dsimp only at hp
   rw [if_pos rfl] at hp
   rcases cutT_get r with ⟨l2,r2,e2,-⟩ | e2
   ·rw [e2] at hp
    dsimp only at hp
    rw [if_pos rfl] at hp
    by_cases hr:r2=[]
    ·rw [if_pos hr] at hp
     obtain ⟨rfl,rfl⟩:=Prod.mk.inj hp
     subst hr
     exact arg_two b n c A w F hF h hb hl hn hc x y d hg hx l r e1 l2 e2
    ·rw [if_neg hr] at hp
     obtain ⟨rfl,rfl⟩:=Prod.mk.inj hp
     exact arg_two_left b n c A w F hF h hb hl hn hc x y d hg hx l r e1 l2 r2 e2 hr
   ·rw [e2] at hp
    dsimp only at hp
    rw [if_neg (by decide)] at hp
    obtain ⟨rfl,rfl⟩:=Prod.mk.inj hp
    exact arg_two_cut2 b n c A w F hF h hb hl hn hc x y d hg hx l r e1 e2
  ·rw [e1] at hp
   dsimp only at hp
   rw [if_neg (by decide)] at hp
   obtain ⟨rfl,rfl⟩:=Prod.mk.inj hp
   exact arg_two_cut1 b n c A w F hF h hb hl hn hc x y d hg hx e1
 ·rw [if_neg (by omega),if_pos hk] at hp
  rcases cutT_get d with ⟨l,r,e1,-⟩ | e1
  ·rw [e1] at hp
   dsimp only at hp
   rw [if_pos rfl] at hp
   by_cases hr:r=[]
   ·rw [if_pos hr] at hp
    obtain ⟨rfl,rfl⟩:=Prod.mk.inj hp
    subst hr
    exact arg_one b n c A w F hF h hb hl hn hc x y d hg hx l e1
   ·rw [if_neg hr] at hp
    obtain ⟨rfl,rfl⟩:=Prod.mk.inj hp
    exact arg_one_left b n c A w F hF h hb hl hn hc x y d hg hx l r e1 hr
  ·rw [e1] at hp
   dsimp only at hp
   rw [if_neg (by decide)] at hp
   obtain ⟨rfl,rfl⟩:=Prod.mk.inj hp
   exact arg_one_cut1 b n c A w F hF h hb hl hn hc x y d hg hx e1
 ·rw [if_neg (by omega),if_neg (by omega)] at hp
  obtain ⟨rfl,rfl⟩:=Prod.mk.inj hp
  by_cases h0:x=0
  ·exact arg_zero b n c A w F hF h hb hl hn hc x y d hg h0
  ·exact arg_high b n c A w F hF h hb hl hn hc x y d hg (by omega)
end Go.Proofs.YtmhjnghomihjlaaGreat
