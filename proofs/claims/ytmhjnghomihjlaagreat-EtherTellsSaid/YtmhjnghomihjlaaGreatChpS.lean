/-
  What the document's Get of layer 18 answers. No condition beyond: at most 2^30 octets.
-/
import Derived.Test.YtmhjnghomihjlaaGreatGMat
import Derived.Test.YtmhjnghomihjlaaGreatGPks
import Derived.Test.YtmhjnghomihjlaaGreatGCtl
import Derived.Deep.CutRange
import Derived.Deep.RegionHeld3
namespace Go.Proofs.YtmhjnghomihjlaaGreat
set_option maxRecDepth 8000
set_option maxHeartbeats 80000000
set_option linter.unusedVariables false
open Go.RowKit
theorem chrg_no (b:List Nat) (n c:Nat) (A:Option Addr) (w:World) (F:Nat→Prop) (hF:∀ i,w.heap.size≤i→F i) (h:RdF F w A b) (hb:By b) (hl:b.length=n) (hn:n≤1073741824) (hc:n≤c) (x y:Nat) (d:List Nat) (k:Nat) (hg:kgetB b=(x,y,d,k)) (hk:¬ k=0) :
  Calls Tryz.prog 58 #[.slice A n c] w (GetF F w pk0 k):=by
 have C:=hI (GeC.made 29 w)
 have HR:=hI h.rd
 have HFF:=hI hF
 have HB:=hI hb
 have HL:=hI hl
 have HG:=hI hg
 obtain ⟨pd,hpd⟩:∃ pd,Hid (kpadB b=pd):=⟨_,hI rfl⟩
 have j1:((k:Int) != 0)=true:=by rw [bne_iff_ne];omega
 clear hF h hb hl hg hk
 go_enter Tryz.func58,Tryz.ntmps58
 go_wp2_with (first
  | (go_at_call 71;(with_reducible refine (krget_v b x y d k HG.out d.length rfl pd hpd.out n c A _ (HR.out.on C.out.bel) HB.out HL.out (by omega) hc).mono ?_);rintro e wn ⟨A1,c1,rfl,k1,r1,hb⟩;replace C:=hI (C.out.step hb);clear hb r1;obtain ⟨y0,y1,y2,y3,y4,y5,y6,y7,y8,y9⟩:=C.out.res.all;obtain ⟨z0,z1,z2,z3,z4,z5,z6,z7,z8,z9⟩:=C.out.res.free))
 refine bodyPost_ret (v:=.tuple #[pk0.val pl0,.int .i64 (k:Int)]) ?_ rfl (GetF.mk pl0 rfl pwF0 (put10_below C.out.bel (Nat.le_refl _) pk0 pl0))
 exact results_row_tmpP rfl _ _ _ w.heap.size 29 _ _ _ rfl rfl (put10_px C.out.res pk0 pl0) Tryz.underlying29 (by kernel_rfl)
theorem chrg_data (b:List Nat) (n c:Nat) (A:Option Addr) (w:World) (F:Nat→Prop) (hF:∀ i,w.heap.size≤i→F i) (h:RdF F w A b) (hb:By b) (hl:b.length=n) (hn:n≤1073741824) (hc:n≤c) (x y:Nat) (d:List Nat) (hg:kgetB b=(x,y,d,0)) (hk:¬ (x=1∨x=2)) :
  Calls Tryz.prog 58 #[.slice A n c] w (GetF F w ⟨49699,x,y,[],0,0,[],[],d,[]⟩ 0):=by
 have C:=hI (GeC.made 29 w)
 have HR:=hI h.rd
 have HFF:=hI hF
 have HF:=hI h.ltF
 have HB:=hI hb
 have HL:=hI hl
 have HG:=hI hg
 obtain ⟨pd,hpd⟩:∃ pd,Hid (kpadB b=pd):=⟨_,hI rfl⟩
 obtain ⟨n2,hn2⟩:∃ n2,Hid (d.length=n2):=⟨_,hI rfl⟩
 have hd1:=kget_bytes hb hg
 have HD:=hI hd1.1
 have n2le:n2≤1073741824:=by have:=hd1.2;have:=hn2.out;omega
 have f1:((x:Int) != 1)=true:=by rw [bne_iff_ne];omega
 have f2:((x:Int) != 2)=true:=by rw [bne_iff_ne];omega
 clear hF h hb hl hg hk hd1
 go_enter Tryz.func58,Tryz.ntmps58
 go_upto_region 5 with (first
  | (go_at_call 71;(with_reducible refine (krgetF_v b x y d _ HG.out n2 hn2.out pd hpd.out n c A _ (HR.out.on C.out.bel) HB.out HL.out (by omega) hc (fun i=>F i∧i<w.heap.size) (HF.out.keep (.of_below C.out.bel))).mono ?_);rintro e wn ⟨A1,c1,rfl,k1c,r1,hb⟩;have R1:=hI r1;replace C:=hI (C.out.step hb);clear hb r1))
 have BA:=hI ((Below.refl wn.heap.size wn).alloc (Nat.le_refl _) (Pk.obj ⟨49699,x,y,[],0,0,[],[],[],[]⟩ pl0 29))
 have P:=hI (C.out.pk ⟨49699,x,y,[],0,0,[],[],[],[]⟩ pl0)
 have LT:=C.out.res.lt
 obtain ⟨g,hgg⟩:∃ g,Hid (wn.heap.size=g):=⟨_,hI rfl⟩
 rw [hgg.out] at P LT ⊢
 have R2:=hI ((R1.out.keep (.of_below BA.out)).mono (G:=Nf F w.heap.size g) (fun i _ hf=>⟨hf.1,Nat.ne_of_lt hf.2,Nat.ne_of_lt (Nat.lt_trans hf.2 LT)⟩))
 refine at_worldP (fun W=>Hid (GpC 29 w W g ⟨49699,x,y,[],0,0,[],[],[],[]⟩ pl0)∧Hid (RdF (Nf F w.heap.size g) W A1 d)) ⟨P,R2⟩ ?_
 clear P R2 BA LT R1 C HR HF HB HL HG hgg
 rintro wm ⟨P,R2⟩
 have nq1:=Nat.ne_of_lt P.out.lt
 have nq3:=Nat.ne_of_gt P.out.lt
 obtain ⟨x0,x1,x2,x3,x4,x5,x6,x7,x8,x9⟩:=P.out.cf.all;obtain ⟨u0,u1,u2,u3,u4,u5,u6,u7,u8,u9⟩:=P.out.cf.free;obtain ⟨y0,y1,y2,y3,y4,y5,y6,y7,y8,y9⟩:=P.out.res.all;obtain ⟨z0,z1,z2,z3,z4,z5,z6,z7,z8,z9⟩:=P.out.res.free
 go_wp2_with fail
 refine bodyPost_ret (v:=.tuple #[Pk.val ⟨49699,x,y,[],0,0,[],[],d,[]⟩ { pl0 with ad:=A1,nd:=n2,cd:=c1 },.int .i64 0]) ?_ rfl (GetF.mk { pl0 with ad:=A1,nd:=n2,cd:=c1 } rfl ?_ (put10_below (P.out.set 8 (.slice A1 n2 c1) (P.out.cf.setData A1 n2 c1 d)).bel (Nat.le_refl _) ⟨49699,x,y,[],0,0,[],[],d,[]⟩ { pl0 with ad:=A1,nd:=n2,cd:=c1 }))
 ·exact results_row_tmpP rfl _ _ _ w.heap.size 29 _ _ _ rfl rfl (put10_px (P.out.set 8 (.slice A1 n2 c1) (P.out.cf.setData A1 n2 c1 d)).res ⟨49699,x,y,[],0,0,[],[],d,[]⟩ { pl0 with ad:=A1,nd:=n2,cd:=c1 }) Tryz.underlying29 (by kernel_rfl)
 ·exact ((pwF_data 49699 x y 0 0 hn2.out R2.out k1c).keep ((keeps_f1 F wm w.heap.size g 8 (.slice A1 n2 c1)).trans (keeps_f2 F _ w.heap.size g ⟨49699,x,y,[],0,0,[],[],d,[]⟩ { pl0 with ad:=A1,nd:=n2,cd:=c1 }))).mono (fun _ _ h=>h.1)
theorem chrg_nil_1 (b:List Nat) (n c:Nat) (A:Option Addr) (w:World) (F:Nat→Prop) (hF:∀ i,w.heap.size≤i→F i) (h:RdF F w A b) (hb:By b) (hl:b.length=n) (hn:n≤1073741824) (hc:n≤c) (x y:Nat) (hg:kgetB b=(x,y,[],0)) (hk:x=1) :
  Calls Tryz.prog 58 #[.slice A n c] w (GetF F w pk0 2):=by
 have C:=hI (GeC.made 29 w)
 have HR:=hI h.rd
 have HFF:=hI hF
 have HF:=hI h.ltF
 have HB:=hI hb
 have HL:=hI hl
 have HG:=hI hg
 obtain ⟨pd,hpd⟩:∃ pd,Hid (kpadB b=pd):=⟨_,hI rfl⟩
 have hn2:=hI (show ([]:List Nat).length=0 from rfl)
 have hd1:=kget_bytes hb hg
 have HD:=hI hd1.1
 have n2le:0≤1073741824:=by have:=hd1.2;have:=hn2.out;omega
 have f1:((x:Int) != 1)=false:=by simp;omega
 have HC1:=hI (show cutT (([]:List Nat).drop 0)=([],[],2) from rfl)
 have T1:=hI trivial
 clear hF h hb hl hg hk hd1
 go_enter Tryz.func58,Tryz.ntmps58
 go_upto_region 5 with (first
  | (go_at_call 71;(with_reducible refine (krgetF_v b x y [] _ HG.out 0 hn2.out pd hpd.out n c A _ (HR.out.on C.out.bel) HB.out HL.out (by omega) hc (fun i=>F i∧i<w.heap.size) (HF.out.keep (.of_below C.out.bel))).mono ?_);rintro e wn ⟨A1,c1,rfl,k1c,r1,hb⟩;have R1:=hI r1;replace C:=hI (C.out.step hb);clear hb r1))
 have BA:=hI ((Below.refl wn.heap.size wn).alloc (Nat.le_refl _) (Pk.obj ⟨49699,x,y,[],0,0,[],[],[],[]⟩ pl0 29))
 have P:=hI (C.out.pk ⟨49699,x,y,[],0,0,[],[],[],[]⟩ pl0)
 have LT:=C.out.res.lt
 obtain ⟨g,hgg⟩:∃ g,Hid (wn.heap.size=g):=⟨_,hI rfl⟩
 rw [hgg.out] at P LT ⊢
 have R2:=hI ((R1.out.keep (.of_below BA.out)).mono (G:=Nf F w.heap.size g) (fun i _ hf=>⟨hf.1,Nat.ne_of_lt hf.2,Nat.ne_of_lt (Nat.lt_trans hf.2 LT)⟩))
 refine at_worldP (fun W=>Hid (GpC 29 w W g ⟨49699,x,y,[],0,0,[],[],[],[]⟩ pl0)∧Hid (RdF (Nf F w.heap.size g) W A1 [])) ⟨P,R2⟩ ?_
 clear P R2 BA LT R1 C HR HF HB HL HG hgg
 rintro wm ⟨P,R2⟩
 have nq1:=Nat.ne_of_lt P.out.lt
 have nq3:=Nat.ne_of_gt P.out.lt
 obtain ⟨x0,x1,x2,x3,x4,x5,x6,x7,x8,x9⟩:=P.out.cf.all;obtain ⟨u0,u1,u2,u3,u4,u5,u6,u7,u8,u9⟩:=P.out.cf.free;obtain ⟨y0,y1,y2,y3,y4,y5,y6,y7,y8,y9⟩:=P.out.res.all;obtain ⟨z0,z1,z2,z3,z4,z5,z6,z7,z8,z9⟩:=P.out.res.free
 go_wp2_with (first
  | (go_at_call 74;have _g:=T1;clear _g;(with_reducible refine (rtext_no [] 0 c1 A1 _ R2.out.rd hn2.out HD.out (by omega) 0 0 rfl (Nat.zero_le _) HC1.out).mono ?_);rintro e wt ⟨rfl,hb⟩;replace P:=hI (P.out.step hb);clear hb T1;clear x0 x1 x2 x3 x4 x5 x6 x7 x8 x9 u0 u1 u2 u3 u4 u5 u6 u7 u8 u9 y0 y1 y2 y3 y4 y5 y6 y7 y8 y9 z0 z1 z2 z3 z4 z5 z6 z7 z8 z9;obtain ⟨x0,x1,x2,x3,x4,x5,x6,x7,x8,x9⟩:=P.out.cf.all;obtain ⟨u0,u1,u2,u3,u4,u5,u6,u7,u8,u9⟩:=P.out.cf.free;obtain ⟨y0,y1,y2,y3,y4,y5,y6,y7,y8,y9⟩:=P.out.res.all;obtain ⟨z0,z1,z2,z3,z4,z5,z6,z7,z8,z9⟩:=P.out.res.free))
 refine bodyPost_ret (v:=.tuple #[pk0.val pl0,.int .i64 2]) ?_ rfl (GetF.mk pl0 rfl pwF0 (put10_below P.out.bel (Nat.le_refl _) pk0 pl0))
 exact results_row_tmpP rfl _ _ _ w.heap.size 29 _ _ _ rfl rfl (put10_px P.out.res pk0 pl0) Tryz.underlying29 (by kernel_rfl)
theorem chrg_zero_1 (b:List Nat) (n c:Nat) (A:Option Addr) (w:World) (F:Nat→Prop) (hF:∀ i,w.heap.size≤i→F i) (h:RdF F w A b) (hb:By b) (hl:b.length=n) (hn:n≤1073741824) (hc:n≤c) (x y:Nat) (d:List Nat) (hg:kgetB b=(x,y,d,0)) (hk:x=1) (hd:d[0]?=some 0) :
  Calls Tryz.prog 58 #[.slice A n c] w (GetF F w pk0 4):=by
 have C:=hI (GeC.made 29 w)
 have HR:=hI h.rd
 have HFF:=hI hF
 have HF:=hI h.ltF
 have HB:=hI hb
 have HL:=hI hl
 have HG:=hI hg
 obtain ⟨pd,hpd⟩:∃ pd,Hid (kpadB b=pd):=⟨_,hI rfl⟩
 obtain ⟨n2,hn2⟩:∃ n2,Hid (d.length=n2):=⟨_,hI rfl⟩
 have hd1:=kget_bytes hb hg
 have HD:=hI hd1.1
 have n2le:n2≤1073741824:=by have:=hd1.2;have:=hn2.out;omega
 have f1:((x:Int) != 1)=false:=by simp;omega
 have np:0<n2:=by have:=(List.getElem?_eq_some_iff.1 hd).1;have:=hn2.out;omega
 have i0:(0:Int)<(n2:Int):=by omega
 have HZ:=hI hd
 clear hF h hb hl hg hk hd1 hd
 go_enter Tryz.func58,Tryz.ntmps58
 go_upto_region 5 with (first
  | (go_at_call 71;(with_reducible refine (krgetF_v b x y d _ HG.out n2 hn2.out pd hpd.out n c A _ (HR.out.on C.out.bel) HB.out HL.out (by omega) hc (fun i=>F i∧i<w.heap.size) (HF.out.keep (.of_below C.out.bel))).mono ?_);rintro e wn ⟨A1,c1,rfl,k1c,r1,hb⟩;have R1:=hI r1;replace C:=hI (C.out.step hb);clear hb r1))
 have BA:=hI ((Below.refl wn.heap.size wn).alloc (Nat.le_refl _) (Pk.obj ⟨49699,x,y,[],0,0,[],[],[],[]⟩ pl0 29))
 have P:=hI (C.out.pk ⟨49699,x,y,[],0,0,[],[],[],[]⟩ pl0)
 have LT:=C.out.res.lt
 obtain ⟨g,hgg⟩:∃ g,Hid (wn.heap.size=g):=⟨_,hI rfl⟩
 rw [hgg.out] at P LT ⊢
 have R2:=hI ((R1.out.keep (.of_below BA.out)).mono (G:=Nf F w.heap.size g) (fun i _ hf=>⟨hf.1,Nat.ne_of_lt hf.2,Nat.ne_of_lt (Nat.lt_trans hf.2 LT)⟩))
 refine at_worldP (fun W=>Hid (GpC 29 w W g ⟨49699,x,y,[],0,0,[],[],[],[]⟩ pl0)∧Hid (RdF (Nf F w.heap.size g) W A1 d)) ⟨P,R2⟩ ?_
 clear P R2 BA LT R1 C HR HF HB HL HG hgg
 rintro wm ⟨P,R2⟩
 have nq1:=Nat.ne_of_lt P.out.lt
 have nq3:=Nat.ne_of_gt P.out.lt
 obtain ⟨x0,x1,x2,x3,x4,x5,x6,x7,x8,x9⟩:=P.out.cf.all;obtain ⟨u0,u1,u2,u3,u4,u5,u6,u7,u8,u9⟩:=P.out.cf.free;obtain ⟨y0,y1,y2,y3,y4,y5,y6,y7,y8,y9⟩:=P.out.res.all;obtain ⟨z0,z1,z2,z3,z4,z5,z6,z7,z8,z9⟩:=P.out.res.free
 obtain ⟨bb,oo,v,rfl,hbb,hx,hcx⟩:=R2.out.rd.at_ (k:=0) (by have:=hn2.out;omega)
 replace hcx:wm.cell? ⟨bb,oo,none⟩=some (.int .u8 (v:Int)):=hcx
 obtain rfl:v=0:=by have:=HZ.out;rw [hx] at this;injection this
 replace hcx:wm.cell? ⟨bb,oo,none⟩=some (.int .u8 0):=hcx
 clear hx HZ
 go_wp2_with fail
 refine bodyPost_ret (v:=.tuple #[pk0.val pl0,.int .i64 4]) ?_ rfl (GetF.mk pl0 rfl pwF0 (put10_below P.out.bel (Nat.le_refl _) pk0 pl0))
 exact results_row_tmpP rfl _ _ _ w.heap.size 29 _ _ _ rfl rfl (put10_px P.out.res pk0 pl0) Tryz.underlying29 (by kernel_rfl)
theorem chrg_cut_1 (b:List Nat) (n c:Nat) (A:Option Addr) (w:World) (F:Nat→Prop) (hF:∀ i,w.heap.size≤i→F i) (h:RdF F w A b) (hb:By b) (hl:b.length=n) (hn:n≤1073741824) (hc:n≤c) (x y:Nat) (d:List Nat) (hg:kgetB b=(x,y,d,0)) (hk:x=1) (hne:d≠[]) (hz0:¬ d[0]?=some 0) (hd:cutT d=([],[],2)) :
  Calls Tryz.prog 58 #[.slice A n c] w (GetF F w pk0 2):=by
 have C:=hI (GeC.made 29 w)
 have HR:=hI h.rd
 have HFF:=hI hF
 have HF:=hI h.ltF
 have HB:=hI hb
 have HL:=hI hl
 have HG:=hI hg
 obtain ⟨pd,hpd⟩:∃ pd,Hid (kpadB b=pd):=⟨_,hI rfl⟩
 obtain ⟨n2,hn2⟩:∃ n2,Hid (d.length=n2):=⟨_,hI rfl⟩
 have hd1:=kget_bytes hb hg
 have HD:=hI hd1.1
 have n2le:n2≤1073741824:=by have:=hd1.2;have:=hn2.out;omega
 have f1:((x:Int) != 1)=false:=by simp;omega
 have np:0<n2:=by have:=hn2.out;have:d.length≠0:=fun e=>hne (List.eq_nil_of_length_eq_zero e);omega
 have i0:(0:Int)<(n2:Int):=by omega
 have HZ:=hI hz0
 have HC1:=hI (show cutT (d.drop 0)=_ from hd)
 have T1:=hI trivial
 clear hF h hb hl hg hk hd1 hd hne hz0
 go_enter Tryz.func58,Tryz.ntmps58
 go_upto_region 5 with (first
  | (go_at_call 71;(with_reducible refine (krgetF_v b x y d _ HG.out n2 hn2.out pd hpd.out n c A _ (HR.out.on C.out.bel) HB.out HL.out (by omega) hc (fun i=>F i∧i<w.heap.size) (HF.out.keep (.of_below C.out.bel))).mono ?_);rintro e wn ⟨A1,c1,rfl,k1c,r1,hb⟩;have R1:=hI r1;replace C:=hI (C.out.step hb);clear hb r1))
 have BA:=hI ((Below.refl wn.heap.size wn).alloc (Nat.le_refl _) (Pk.obj ⟨49699,x,y,[],0,0,[],[],[],[]⟩ pl0 29))
 have P:=hI (C.out.pk ⟨49699,x,y,[],0,0,[],[],[],[]⟩ pl0)
 have LT:=C.out.res.lt
 obtain ⟨g,hgg⟩:∃ g,Hid (wn.heap.size=g):=⟨_,hI rfl⟩
 rw [hgg.out] at P LT ⊢
 have R2:=hI ((R1.out.keep (.of_below BA.out)).mono (G:=Nf F w.heap.size g) (fun i _ hf=>⟨hf.1,Nat.ne_of_lt hf.2,Nat.ne_of_lt (Nat.lt_trans hf.2 LT)⟩))
 refine at_worldP (fun W=>Hid (GpC 29 w W g ⟨49699,x,y,[],0,0,[],[],[],[]⟩ pl0)∧Hid (RdF (Nf F w.heap.size g) W A1 d)) ⟨P,R2⟩ ?_
 clear P R2 BA LT R1 C HR HF HB HL HG hgg
 rintro wm ⟨P,R2⟩
 have nq1:=Nat.ne_of_lt P.out.lt
 have nq3:=Nat.ne_of_gt P.out.lt
 obtain ⟨x0,x1,x2,x3,x4,x5,x6,x7,x8,x9⟩:=P.out.cf.all;obtain ⟨u0,u1,u2,u3,u4,u5,u6,u7,u8,u9⟩:=P.out.cf.free;obtain ⟨y0,y1,y2,y3,y4,y5,y6,y7,y8,y9⟩:=P.out.res.all;obtain ⟨z0,z1,z2,z3,z4,z5,z6,z7,z8,z9⟩:=P.out.res.free
 obtain ⟨bb,oo,v,rfl,hbb,hx,hcx⟩:=R2.out.rd.at_ (k:=0) (by have:=hn2.out;omega)
 replace hcx:wm.cell? ⟨bb,oo,none⟩=some (.int .u8 (v:Int)):=hcx
 have v0:((v:Int) == 0)=false:=by
  have e1:¬ v=0:=fun e=>HZ.out (by rw [hx,e])
  simp;omega
 clear hx HZ
 go_wp2_with (first
  | (go_at_call 74;have _g:=T1;clear _g;(with_reducible refine (rtext_no d n2 c1 (some ⟨bb,oo,none⟩) _ R2.out.rd hn2.out HD.out (by omega) 0 0 rfl (Nat.zero_le _) HC1.out).mono ?_);rintro e wt ⟨rfl,hb⟩;replace P:=hI (P.out.step hb);clear hb T1;clear x0 x1 x2 x3 x4 x5 x6 x7 x8 x9 u0 u1 u2 u3 u4 u5 u6 u7 u8 u9 y0 y1 y2 y3 y4 y5 y6 y7 y8 y9 z0 z1 z2 z3 z4 z5 z6 z7 z8 z9;obtain ⟨x0,x1,x2,x3,x4,x5,x6,x7,x8,x9⟩:=P.out.cf.all;obtain ⟨u0,u1,u2,u3,u4,u5,u6,u7,u8,u9⟩:=P.out.cf.free;obtain ⟨y0,y1,y2,y3,y4,y5,y6,y7,y8,y9⟩:=P.out.res.all;obtain ⟨z0,z1,z2,z3,z4,z5,z6,z7,z8,z9⟩:=P.out.res.free))
 refine bodyPost_ret (v:=.tuple #[pk0.val pl0,.int .i64 2]) ?_ rfl (GetF.mk pl0 rfl pwF0 (put10_below P.out.bel (Nat.le_refl _) pk0 pl0))
 exact results_row_tmpP rfl _ _ _ w.heap.size 29 _ _ _ rfl rfl (put10_px P.out.res pk0 pl0) Tryz.underlying29 (by kernel_rfl)
theorem chrg_ok_1 (b:List Nat) (n c:Nat) (A:Option Addr) (w:World) (F:Nat→Prop) (hF:∀ i,w.heap.size≤i→F i) (h:RdF F w A b) (hb:By b) (hl:b.length=n) (hn:n≤1073741824) (hc:n≤c) (x y:Nat) (d:List Nat) (hg:kgetB b=(x,y,d,0)) (hk:x=1) (l r:List Nat) (hne:d≠[]) (hz0:¬ d[0]?=some 0) (hd:cutT d=(l,r,0)) :
  Calls Tryz.prog 58 #[.slice A n c] w (GetF F w ⟨49699,x,y,[],0,0,l,r,[],[]⟩ 0):=by
 have C:=hI (GeC.made 29 w)
 have HR:=hI h.rd
 have HFF:=hI hF
 have HF:=hI h.ltF
 have HB:=hI hb
 have HL:=hI hl
 have HG:=hI hg
 obtain ⟨pd,hpd⟩:∃ pd,Hid (kpadB b=pd):=⟨_,hI rfl⟩
 obtain ⟨n2,hn2⟩:∃ n2,Hid (d.length=n2):=⟨_,hI rfl⟩
 have hd1:=kget_bytes hb hg
 have HD:=hI hd1.1
 have n2le:n2≤1073741824:=by have:=hd1.2;have:=hn2.out;omega
 have f1:((x:Int) != 1)=false:=by simp;omega
 obtain ⟨k1,HA1⟩:∃ n,Hid (l.length=n):=⟨_,hI rfl⟩
 obtain ⟨z,hz⟩:∃ z,Hid (0+1+k1=z):=⟨_,hI rfl⟩
 have zle:z≤n2:=by have e:=congrArg List.length (cutT_said hd);rw [List.length_append,lenT_len,HA1.out,hn2.out] at e;have:=hz.out;omega
 have ER:=hI (show d.drop z=r by rw [show z=l.length+1 by have:=hz.out;have:=HA1.out;omega,cutT_drop hd])
 have zlt:¬ (z:Int)<0:=by omega
 have z0':(0:Int)≤(z:Int):=by omega
 have z1':(z:Int)≤(n2:Int):=by omega
 have np:0<n2:=by have:=hn2.out;have:d.length≠0:=fun e=>hne (List.eq_nil_of_length_eq_zero e);omega
 have i0:(0:Int)<(n2:Int):=by omega
 have HZ:=hI hz0
 have HC1:=hI (show cutT (d.drop 0)=_ from hd)
 have T1:=hI trivial
 clear hF h hb hl hg hk hd1 hd hne hz0
 go_enter Tryz.func58,Tryz.ntmps58
 go_upto_region 5 with (first
  | (go_at_call 71;(with_reducible refine (krgetF_v b x y d _ HG.out n2 hn2.out pd hpd.out n c A _ (HR.out.on C.out.bel) HB.out HL.out (by omega) hc (fun i=>F i∧i<w.heap.size) (HF.out.keep (.of_below C.out.bel))).mono ?_);rintro e wn ⟨A1,c1,rfl,k1c,r1,hb⟩;have R1:=hI r1;replace C:=hI (C.out.step hb);clear hb r1))
 have BA:=hI ((Below.refl wn.heap.size wn).alloc (Nat.le_refl _) (Pk.obj ⟨49699,x,y,[],0,0,[],[],[],[]⟩ pl0 29))
 have P:=hI (C.out.pk ⟨49699,x,y,[],0,0,[],[],[],[]⟩ pl0)
 have LT:=C.out.res.lt
 obtain ⟨g,hgg⟩:∃ g,Hid (wn.heap.size=g):=⟨_,hI rfl⟩
 rw [hgg.out] at P LT ⊢
 have R2:=hI ((R1.out.keep (.of_below BA.out)).mono (G:=Nf F w.heap.size g) (fun i _ hf=>⟨hf.1,Nat.ne_of_lt hf.2,Nat.ne_of_lt (Nat.lt_trans hf.2 LT)⟩))
 refine at_worldP (fun W=>Hid (GpC 29 w W g ⟨49699,x,y,[],0,0,[],[],[],[]⟩ pl0)∧Hid (RdF (Nf F w.heap.size g) W A1 d)) ⟨P,R2⟩ ?_
 clear P R2 BA LT R1 C HR HF HB HL HG hgg
 rintro wm ⟨P,R2⟩
 have nq1:=Nat.ne_of_lt P.out.lt
 have nq3:=Nat.ne_of_gt P.out.lt
 obtain ⟨x0,x1,x2,x3,x4,x5,x6,x7,x8,x9⟩:=P.out.cf.all;obtain ⟨u0,u1,u2,u3,u4,u5,u6,u7,u8,u9⟩:=P.out.cf.free;obtain ⟨y0,y1,y2,y3,y4,y5,y6,y7,y8,y9⟩:=P.out.res.all;obtain ⟨z0,z1,z2,z3,z4,z5,z6,z7,z8,z9⟩:=P.out.res.free
 obtain ⟨bb,oo,v,rfl,hbb,hx,hcx⟩:=R2.out.rd.at_ (k:=0) (by have:=hn2.out;omega)
 replace hcx:wm.cell? ⟨bb,oo,none⟩=some (.int .u8 (v:Int)):=hcx
 have v0:((v:Int) == 0)=false:=by
  have e1:¬ v=0:=fun e=>HZ.out (by rw [hx,e])
  simp;omega
 clear hx HZ
 by_cases hcz:c1=z
 ·have hnz:n2=z:=by omega
  subst hcz
  subst hnz
  go_upto_region 15 with (first
   | (go_at_call 74;have _g:=T1;clear _g;(with_reducible refine (rtext_ok (Nf F w.heap.size g) d n2 n2 (some ⟨bb,oo,none⟩) _ R2.out hn2.out HD.out (by omega) k1c 0 0 rfl (Nat.zero_le _) l r HC1.out k1 HA1.out n2 hz.out).mono ?_);rintro e wt ⟨A3,c3,rfl,e3,r1,hb⟩;have S1:=hI r1;replace R2:=hI (R2.out.keep (.of_below hb));replace P:=hI (P.out.step hb);clear hb r1 T1;clear x0 x1 x2 x3 x4 x5 x6 x7 x8 x9 u0 u1 u2 u3 u4 u5 u6 u7 u8 u9 y0 y1 y2 y3 y4 y5 y6 y7 y8 y9 z0 z1 z2 z3 z4 z5 z6 z7 z8 z9;obtain ⟨x0,x1,x2,x3,x4,x5,x6,x7,x8,x9⟩:=P.out.cf.all;obtain ⟨u0,u1,u2,u3,u4,u5,u6,u7,u8,u9⟩:=P.out.cf.free;obtain ⟨y0,y1,y2,y3,y4,y5,y6,y7,y8,y9⟩:=P.out.res.all;obtain ⟨z0,z1,z2,z3,z4,z5,z6,z7,z8,z9⟩:=P.out.res.free))
  have HT:=hI (show RdF (Nf F w.heap.size g) wt (some ⟨bb,oo,none⟩) r by have:=RdF.cutAt (c:=n2) (f:=n2) R2.out (by have:=hn2.out;omega);rw [if_pos rfl,ER.out] at this;exact this)
  have HR2:=hI (show r.length=0 by rw [←ER.out,List.length_drop,hn2.out];omega)
  have KC:=hI (Nat.le_refl 0)
  refine at_worldP (fun W=>Hid (GpC 29 w W g ⟨49699,x,y,[],0,0,l,r,[],[]⟩ { pl0 with a1:=A3,n1:=k1,c1:=c3,a2:=(some ⟨bb,oo,none⟩),n2:=0,c2:=0 })∧Hid (RdF (Nf F w.heap.size g) W A3 l)∧Hid (RdF (Nf F w.heap.size g) W (some ⟨bb,oo,none⟩) r)) ⟨hI ((P.out.set 6 (.slice A3 k1 c3) (P.out.cf.setOne A3 k1 c3 l)).set 7 (.slice (some ⟨bb,oo,none⟩) 0 0) ((P.out.set 6 (.slice A3 k1 c3) (P.out.cf.setOne A3 k1 c3 l)).cf.setTwo (some ⟨bb,oo,none⟩) 0 0 r)),hI (S1.out.keep ((keeps_f1 F wt w.heap.size g 6 (.slice A3 k1 c3)).trans (keeps_f1 F _ w.heap.size g 7 (.slice (some ⟨bb,oo,none⟩) 0 0)))),hI (HT.out.keep ((keeps_f1 F wt w.heap.size g 6 (.slice A3 k1 c3)).trans (keeps_f1 F _ w.heap.size g 7 (.slice (some ⟨bb,oo,none⟩) 0 0))))⟩ ?_
  clear x0 x1 x2 x3 x4 x5 x6 x7 x8 x9 u0 u1 u2 u3 u4 u5 u6 u7 u8 u9 y0 y1 y2 y3 y4 y5 y6 y7 y8 y9 z0 z1 z2 z3 z4 z5 z6 z7 z8 z9
  clear P S1 R2 HT hcx
  rintro wv ⟨P,S1,HT⟩
  obtain ⟨x0,x1,x2,x3,x4,x5,x6,x7,x8,x9⟩:=P.out.cf.all;obtain ⟨u0,u1,u2,u3,u4,u5,u6,u7,u8,u9⟩:=P.out.cf.free;obtain ⟨y0,y1,y2,y3,y4,y5,y6,y7,y8,y9⟩:=P.out.res.all;obtain ⟨z0,z1,z2,z3,z4,z5,z6,z7,z8,z9⟩:=P.out.res.free
  go_wp2_with fail
  refine bodyPost_ret (v:=.tuple #[Pk.val ⟨49699,x,y,[],0,0,l,r,[],[]⟩ { pl0 with a1:=A3,n1:=k1,c1:=c3,a2:=(some ⟨bb,oo,none⟩),n2:=0,c2:=0 },.int .i64 0]) ?_ rfl (GetF.mk { pl0 with a1:=A3,n1:=k1,c1:=c3,a2:=(some ⟨bb,oo,none⟩),n2:=0,c2:=0 } rfl ?_ (put10_below P.out.bel (Nat.le_refl _) ⟨49699,x,y,[],0,0,l,r,[],[]⟩ { pl0 with a1:=A3,n1:=k1,c1:=c3,a2:=(some ⟨bb,oo,none⟩),n2:=0,c2:=0 }))
  ·exact results_row_tmpP rfl _ _ _ w.heap.size 29 _ _ _ rfl rfl (put10_px P.out.res ⟨49699,x,y,[],0,0,l,r,[],[]⟩ { pl0 with a1:=A3,n1:=k1,c1:=c3,a2:=(some ⟨bb,oo,none⟩),n2:=0,c2:=0 }) Tryz.underlying29 (by kernel_rfl)
  ·exact ((pwF_texts 49699 x y HA1.out S1.out e3 HR2.out HT.out KC.out).keep (keeps_f2 F _ w.heap.size g ⟨49699,x,y,[],0,0,l,r,[],[]⟩ { pl0 with a1:=A3,n1:=k1,c1:=c3,a2:=(some ⟨bb,oo,none⟩),n2:=0,c2:=0 })).mono (fun _ _ h=>h.1)
 ·
  go_upto_region 15 with (first
   | (go_at_call 74;have _g:=T1;clear _g;(with_reducible refine (rtext_ok (Nf F w.heap.size g) d n2 c1 (some ⟨bb,oo,none⟩) _ R2.out hn2.out HD.out (by omega) k1c 0 0 rfl (Nat.zero_le _) l r HC1.out k1 HA1.out z hz.out).mono ?_);rintro e wt ⟨A3,c3,rfl,e3,r1,hb⟩;have S1:=hI r1;replace R2:=hI (R2.out.keep (.of_below hb));replace P:=hI (P.out.step hb);clear hb r1 T1;clear x0 x1 x2 x3 x4 x5 x6 x7 x8 x9 u0 u1 u2 u3 u4 u5 u6 u7 u8 u9 y0 y1 y2 y3 y4 y5 y6 y7 y8 y9 z0 z1 z2 z3 z4 z5 z6 z7 z8 z9;obtain ⟨x0,x1,x2,x3,x4,x5,x6,x7,x8,x9⟩:=P.out.cf.all;obtain ⟨u0,u1,u2,u3,u4,u5,u6,u7,u8,u9⟩:=P.out.cf.free;obtain ⟨y0,y1,y2,y3,y4,y5,y6,y7,y8,y9⟩:=P.out.res.all;obtain ⟨z0,z1,z2,z3,z4,z5,z6,z7,z8,z9⟩:=P.out.res.free))
  have HT:=hI (show RdF (Nf F w.heap.size g) wt (some ⟨bb,oo+z,none⟩) r by have:=RdF.cutAt (c:=c1) (f:=z) R2.out (by have:=hn2.out;omega);rw [if_neg hcz,ER.out] at this;exact this)
  have HR2:=hI (show r.length=n2 - z by rw [←ER.out,List.length_drop,hn2.out])
  have KC:=hI (show n2 - z≤c1 - z by omega)
  refine at_worldP (fun W=>Hid (GpC 29 w W g ⟨49699,x,y,[],0,0,l,r,[],[]⟩ { pl0 with a1:=A3,n1:=k1,c1:=c3,a2:=(some ⟨bb,oo+z,none⟩),n2:=(n2 - z),c2:=(c1 - z) })∧Hid (RdF (Nf F w.heap.size g) W A3 l)∧Hid (RdF (Nf F w.heap.size g) W (some ⟨bb,oo+z,none⟩) r)) ⟨hI ((P.out.set 6 (.slice A3 k1 c3) (P.out.cf.setOne A3 k1 c3 l)).set 7 (.slice (some ⟨bb,oo+z,none⟩) (n2 - z) (c1 - z)) ((P.out.set 6 (.slice A3 k1 c3) (P.out.cf.setOne A3 k1 c3 l)).cf.setTwo (some ⟨bb,oo+z,none⟩) (n2 - z) (c1 - z) r)),hI (S1.out.keep ((keeps_f1 F wt w.heap.size g 6 (.slice A3 k1 c3)).trans (keeps_f1 F _ w.heap.size g 7 (.slice (some ⟨bb,oo+z,none⟩) (n2 - z) (c1 - z))))),hI (HT.out.keep ((keeps_f1 F wt w.heap.size g 6 (.slice A3 k1 c3)).trans (keeps_f1 F _ w.heap.size g 7 (.slice (some ⟨bb,oo+z,none⟩) (n2 - z) (c1 - z)))))⟩ ?_
  clear x0 x1 x2 x3 x4 x5 x6 x7 x8 x9 u0 u1 u2 u3 u4 u5 u6 u7 u8 u9 y0 y1 y2 y3 y4 y5 y6 y7 y8 y9 z0 z1 z2 z3 z4 z5 z6 z7 z8 z9
  clear P S1 R2 HT hcx
  rintro wv ⟨P,S1,HT⟩
  obtain ⟨x0,x1,x2,x3,x4,x5,x6,x7,x8,x9⟩:=P.out.cf.all;obtain ⟨u0,u1,u2,u3,u4,u5,u6,u7,u8,u9⟩:=P.out.cf.free;obtain ⟨y0,y1,y2,y3,y4,y5,y6,y7,y8,y9⟩:=P.out.res.all;obtain ⟨z0,z1,z2,z3,z4,z5,z6,z7,z8,z9⟩:=P.out.res.free
  go_wp2_with fail
  refine bodyPost_ret (v:=.tuple #[Pk.val ⟨49699,x,y,[],0,0,l,r,[],[]⟩ { pl0 with a1:=A3,n1:=k1,c1:=c3,a2:=(some ⟨bb,oo+z,none⟩),n2:=(n2 - z),c2:=(c1 - z) },.int .i64 0]) ?_ rfl (GetF.mk { pl0 with a1:=A3,n1:=k1,c1:=c3,a2:=(some ⟨bb,oo+z,none⟩),n2:=(n2 - z),c2:=(c1 - z) } rfl ?_ (put10_below P.out.bel (Nat.le_refl _) ⟨49699,x,y,[],0,0,l,r,[],[]⟩ { pl0 with a1:=A3,n1:=k1,c1:=c3,a2:=(some ⟨bb,oo+z,none⟩),n2:=(n2 - z),c2:=(c1 - z) }))
  ·exact results_row_tmpP rfl _ _ _ w.heap.size 29 _ _ _ rfl rfl (put10_px P.out.res ⟨49699,x,y,[],0,0,l,r,[],[]⟩ { pl0 with a1:=A3,n1:=k1,c1:=c3,a2:=(some ⟨bb,oo+z,none⟩),n2:=(n2 - z),c2:=(c1 - z) }) Tryz.underlying29 (by kernel_rfl)
  ·exact ((pwF_texts 49699 x y HA1.out S1.out e3 HR2.out HT.out KC.out).keep (keeps_f2 F _ w.heap.size g ⟨49699,x,y,[],0,0,l,r,[],[]⟩ { pl0 with a1:=A3,n1:=k1,c1:=c3,a2:=(some ⟨bb,oo+z,none⟩),n2:=(n2 - z),c2:=(c1 - z) })).mono (fun _ _ h=>h.1)
theorem chrg_nil_2 (b:List Nat) (n c:Nat) (A:Option Addr) (w:World) (F:Nat→Prop) (hF:∀ i,w.heap.size≤i→F i) (h:RdF F w A b) (hb:By b) (hl:b.length=n) (hn:n≤1073741824) (hc:n≤c) (x y:Nat) (hg:kgetB b=(x,y,[],0)) (hk:x=2) :
  Calls Tryz.prog 58 #[.slice A n c] w (GetF F w pk0 2):=by
 have C:=hI (GeC.made 29 w)
 have HR:=hI h.rd
 have HFF:=hI hF
 have HF:=hI h.ltF
 have HB:=hI hb
 have HL:=hI hl
 have HG:=hI hg
 obtain ⟨pd,hpd⟩:∃ pd,Hid (kpadB b=pd):=⟨_,hI rfl⟩
 have hn2:=hI (show ([]:List Nat).length=0 from rfl)
 have hd1:=kget_bytes hb hg
 have HD:=hI hd1.1
 have n2le:0≤1073741824:=by have:=hd1.2;have:=hn2.out;omega
 have f1:((x:Int) != 1)=true:=by rw [bne_iff_ne];omega
 have f2:((x:Int) != 2)=false:=by simp;omega
 have HC1:=hI (show cutT (([]:List Nat).drop 0)=([],[],2) from rfl)
 have T1:=hI trivial
 clear hF h hb hl hg hk hd1
 go_enter Tryz.func58,Tryz.ntmps58
 go_upto_region 5 with (first
  | (go_at_call 71;(with_reducible refine (krgetF_v b x y [] _ HG.out 0 hn2.out pd hpd.out n c A _ (HR.out.on C.out.bel) HB.out HL.out (by omega) hc (fun i=>F i∧i<w.heap.size) (HF.out.keep (.of_below C.out.bel))).mono ?_);rintro e wn ⟨A1,c1,rfl,k1c,r1,hb⟩;have R1:=hI r1;replace C:=hI (C.out.step hb);clear hb r1))
 have BA:=hI ((Below.refl wn.heap.size wn).alloc (Nat.le_refl _) (Pk.obj ⟨49699,x,y,[],0,0,[],[],[],[]⟩ pl0 29))
 have P:=hI (C.out.pk ⟨49699,x,y,[],0,0,[],[],[],[]⟩ pl0)
 have LT:=C.out.res.lt
 obtain ⟨g,hgg⟩:∃ g,Hid (wn.heap.size=g):=⟨_,hI rfl⟩
 rw [hgg.out] at P LT ⊢
 have R2:=hI ((R1.out.keep (.of_below BA.out)).mono (G:=Nf F w.heap.size g) (fun i _ hf=>⟨hf.1,Nat.ne_of_lt hf.2,Nat.ne_of_lt (Nat.lt_trans hf.2 LT)⟩))
 refine at_worldP (fun W=>Hid (GpC 29 w W g ⟨49699,x,y,[],0,0,[],[],[],[]⟩ pl0)∧Hid (RdF (Nf F w.heap.size g) W A1 [])) ⟨P,R2⟩ ?_
 clear P R2 BA LT R1 C HR HF HB HL HG hgg
 rintro wm ⟨P,R2⟩
 have nq1:=Nat.ne_of_lt P.out.lt
 have nq3:=Nat.ne_of_gt P.out.lt
 obtain ⟨x0,x1,x2,x3,x4,x5,x6,x7,x8,x9⟩:=P.out.cf.all;obtain ⟨u0,u1,u2,u3,u4,u5,u6,u7,u8,u9⟩:=P.out.cf.free;obtain ⟨y0,y1,y2,y3,y4,y5,y6,y7,y8,y9⟩:=P.out.res.all;obtain ⟨z0,z1,z2,z3,z4,z5,z6,z7,z8,z9⟩:=P.out.res.free
 go_wp2_with (first
  | (go_at_call 74;have _g:=T1;clear _g;(with_reducible refine (rtext_no [] 0 c1 A1 _ R2.out.rd hn2.out HD.out (by omega) 0 0 rfl (Nat.zero_le _) HC1.out).mono ?_);rintro e wt ⟨rfl,hb⟩;replace P:=hI (P.out.step hb);clear hb T1;clear x0 x1 x2 x3 x4 x5 x6 x7 x8 x9 u0 u1 u2 u3 u4 u5 u6 u7 u8 u9 y0 y1 y2 y3 y4 y5 y6 y7 y8 y9 z0 z1 z2 z3 z4 z5 z6 z7 z8 z9;obtain ⟨x0,x1,x2,x3,x4,x5,x6,x7,x8,x9⟩:=P.out.cf.all;obtain ⟨u0,u1,u2,u3,u4,u5,u6,u7,u8,u9⟩:=P.out.cf.free;obtain ⟨y0,y1,y2,y3,y4,y5,y6,y7,y8,y9⟩:=P.out.res.all;obtain ⟨z0,z1,z2,z3,z4,z5,z6,z7,z8,z9⟩:=P.out.res.free))
 refine bodyPost_ret (v:=.tuple #[pk0.val pl0,.int .i64 2]) ?_ rfl (GetF.mk pl0 rfl pwF0 (put10_below P.out.bel (Nat.le_refl _) pk0 pl0))
 exact results_row_tmpP rfl _ _ _ w.heap.size 29 _ _ _ rfl rfl (put10_px P.out.res pk0 pl0) Tryz.underlying29 (by kernel_rfl)
theorem chrg_zero_2 (b:List Nat) (n c:Nat) (A:Option Addr) (w:World) (F:Nat→Prop) (hF:∀ i,w.heap.size≤i→F i) (h:RdF F w A b) (hb:By b) (hl:b.length=n) (hn:n≤1073741824) (hc:n≤c) (x y:Nat) (d:List Nat) (hg:kgetB b=(x,y,d,0)) (hk:x=2) (hd:d[0]?=some 0) :
  Calls Tryz.prog 58 #[.slice A n c] w (GetF F w pk0 4):=by
 have C:=hI (GeC.made 29 w)
 have HR:=hI h.rd
 have HFF:=hI hF
 have HF:=hI h.ltF
 have HB:=hI hb
 have HL:=hI hl
 have HG:=hI hg
 obtain ⟨pd,hpd⟩:∃ pd,Hid (kpadB b=pd):=⟨_,hI rfl⟩
 obtain ⟨n2,hn2⟩:∃ n2,Hid (d.length=n2):=⟨_,hI rfl⟩
 have hd1:=kget_bytes hb hg
 have HD:=hI hd1.1
 have n2le:n2≤1073741824:=by have:=hd1.2;have:=hn2.out;omega
 have f1:((x:Int) != 1)=true:=by rw [bne_iff_ne];omega
 have f2:((x:Int) != 2)=false:=by simp;omega
 have np:0<n2:=by have:=(List.getElem?_eq_some_iff.1 hd).1;have:=hn2.out;omega
 have i0:(0:Int)<(n2:Int):=by omega
 have HZ:=hI hd
 clear hF h hb hl hg hk hd1 hd
 go_enter Tryz.func58,Tryz.ntmps58
 go_upto_region 5 with (first
  | (go_at_call 71;(with_reducible refine (krgetF_v b x y d _ HG.out n2 hn2.out pd hpd.out n c A _ (HR.out.on C.out.bel) HB.out HL.out (by omega) hc (fun i=>F i∧i<w.heap.size) (HF.out.keep (.of_below C.out.bel))).mono ?_);rintro e wn ⟨A1,c1,rfl,k1c,r1,hb⟩;have R1:=hI r1;replace C:=hI (C.out.step hb);clear hb r1))
 have BA:=hI ((Below.refl wn.heap.size wn).alloc (Nat.le_refl _) (Pk.obj ⟨49699,x,y,[],0,0,[],[],[],[]⟩ pl0 29))
 have P:=hI (C.out.pk ⟨49699,x,y,[],0,0,[],[],[],[]⟩ pl0)
 have LT:=C.out.res.lt
 obtain ⟨g,hgg⟩:∃ g,Hid (wn.heap.size=g):=⟨_,hI rfl⟩
 rw [hgg.out] at P LT ⊢
 have R2:=hI ((R1.out.keep (.of_below BA.out)).mono (G:=Nf F w.heap.size g) (fun i _ hf=>⟨hf.1,Nat.ne_of_lt hf.2,Nat.ne_of_lt (Nat.lt_trans hf.2 LT)⟩))
 refine at_worldP (fun W=>Hid (GpC 29 w W g ⟨49699,x,y,[],0,0,[],[],[],[]⟩ pl0)∧Hid (RdF (Nf F w.heap.size g) W A1 d)) ⟨P,R2⟩ ?_
 clear P R2 BA LT R1 C HR HF HB HL HG hgg
 rintro wm ⟨P,R2⟩
 have nq1:=Nat.ne_of_lt P.out.lt
 have nq3:=Nat.ne_of_gt P.out.lt
 obtain ⟨x0,x1,x2,x3,x4,x5,x6,x7,x8,x9⟩:=P.out.cf.all;obtain ⟨u0,u1,u2,u3,u4,u5,u6,u7,u8,u9⟩:=P.out.cf.free;obtain ⟨y0,y1,y2,y3,y4,y5,y6,y7,y8,y9⟩:=P.out.res.all;obtain ⟨z0,z1,z2,z3,z4,z5,z6,z7,z8,z9⟩:=P.out.res.free
 obtain ⟨bb,oo,v,rfl,hbb,hx,hcx⟩:=R2.out.rd.at_ (k:=0) (by have:=hn2.out;omega)
 replace hcx:wm.cell? ⟨bb,oo,none⟩=some (.int .u8 (v:Int)):=hcx
 obtain rfl:v=0:=by have:=HZ.out;rw [hx] at this;injection this
 replace hcx:wm.cell? ⟨bb,oo,none⟩=some (.int .u8 0):=hcx
 clear hx HZ
 go_wp2_with fail
 refine bodyPost_ret (v:=.tuple #[pk0.val pl0,.int .i64 4]) ?_ rfl (GetF.mk pl0 rfl pwF0 (put10_below P.out.bel (Nat.le_refl _) pk0 pl0))
 exact results_row_tmpP rfl _ _ _ w.heap.size 29 _ _ _ rfl rfl (put10_px P.out.res pk0 pl0) Tryz.underlying29 (by kernel_rfl)
theorem chrg_cut_2 (b:List Nat) (n c:Nat) (A:Option Addr) (w:World) (F:Nat→Prop) (hF:∀ i,w.heap.size≤i→F i) (h:RdF F w A b) (hb:By b) (hl:b.length=n) (hn:n≤1073741824) (hc:n≤c) (x y:Nat) (d:List Nat) (hg:kgetB b=(x,y,d,0)) (hk:x=2) (hne:d≠[]) (hz0:¬ d[0]?=some 0) (hd:cutT d=([],[],2)) :
  Calls Tryz.prog 58 #[.slice A n c] w (GetF F w pk0 2):=by
 have C:=hI (GeC.made 29 w)
 have HR:=hI h.rd
 have HFF:=hI hF
 have HF:=hI h.ltF
 have HB:=hI hb
 have HL:=hI hl
 have HG:=hI hg
 obtain ⟨pd,hpd⟩:∃ pd,Hid (kpadB b=pd):=⟨_,hI rfl⟩
 obtain ⟨n2,hn2⟩:∃ n2,Hid (d.length=n2):=⟨_,hI rfl⟩
 have hd1:=kget_bytes hb hg
 have HD:=hI hd1.1
 have n2le:n2≤1073741824:=by have:=hd1.2;have:=hn2.out;omega
 have f1:((x:Int) != 1)=true:=by rw [bne_iff_ne];omega
 have f2:((x:Int) != 2)=false:=by simp;omega
 have np:0<n2:=by have:=hn2.out;have:d.length≠0:=fun e=>hne (List.eq_nil_of_length_eq_zero e);omega
 have i0:(0:Int)<(n2:Int):=by omega
 have HZ:=hI hz0
 have HC1:=hI (show cutT (d.drop 0)=_ from hd)
 have T1:=hI trivial
 clear hF h hb hl hg hk hd1 hd hne hz0
 go_enter Tryz.func58,Tryz.ntmps58
 go_upto_region 5 with (first
  | (go_at_call 71;(with_reducible refine (krgetF_v b x y d _ HG.out n2 hn2.out pd hpd.out n c A _ (HR.out.on C.out.bel) HB.out HL.out (by omega) hc (fun i=>F i∧i<w.heap.size) (HF.out.keep (.of_below C.out.bel))).mono ?_);rintro e wn ⟨A1,c1,rfl,k1c,r1,hb⟩;have R1:=hI r1;replace C:=hI (C.out.step hb);clear hb r1))
 have BA:=hI ((Below.refl wn.heap.size wn).alloc (Nat.le_refl _) (Pk.obj ⟨49699,x,y,[],0,0,[],[],[],[]⟩ pl0 29))
 have P:=hI (C.out.pk ⟨49699,x,y,[],0,0,[],[],[],[]⟩ pl0)
 have LT:=C.out.res.lt
 obtain ⟨g,hgg⟩:∃ g,Hid (wn.heap.size=g):=⟨_,hI rfl⟩
 rw [hgg.out] at P LT ⊢
 have R2:=hI ((R1.out.keep (.of_below BA.out)).mono (G:=Nf F w.heap.size g) (fun i _ hf=>⟨hf.1,Nat.ne_of_lt hf.2,Nat.ne_of_lt (Nat.lt_trans hf.2 LT)⟩))
 refine at_worldP (fun W=>Hid (GpC 29 w W g ⟨49699,x,y,[],0,0,[],[],[],[]⟩ pl0)∧Hid (RdF (Nf F w.heap.size g) W A1 d)) ⟨P,R2⟩ ?_
 clear P R2 BA LT R1 C HR HF HB HL HG hgg
 rintro wm ⟨P,R2⟩
 have nq1:=Nat.ne_of_lt P.out.lt
 have nq3:=Nat.ne_of_gt P.out.lt
 obtain ⟨x0,x1,x2,x3,x4,x5,x6,x7,x8,x9⟩:=P.out.cf.all;obtain ⟨u0,u1,u2,u3,u4,u5,u6,u7,u8,u9⟩:=P.out.cf.free;obtain ⟨y0,y1,y2,y3,y4,y5,y6,y7,y8,y9⟩:=P.out.res.all;obtain ⟨z0,z1,z2,z3,z4,z5,z6,z7,z8,z9⟩:=P.out.res.free
 obtain ⟨bb,oo,v,rfl,hbb,hx,hcx⟩:=R2.out.rd.at_ (k:=0) (by have:=hn2.out;omega)
 replace hcx:wm.cell? ⟨bb,oo,none⟩=some (.int .u8 (v:Int)):=hcx
 have v0:((v:Int) == 0)=false:=by
  have e1:¬ v=0:=fun e=>HZ.out (by rw [hx,e])
  simp;omega
 clear hx HZ
 go_wp2_with (first
  | (go_at_call 74;have _g:=T1;clear _g;(with_reducible refine (rtext_no d n2 c1 (some ⟨bb,oo,none⟩) _ R2.out.rd hn2.out HD.out (by omega) 0 0 rfl (Nat.zero_le _) HC1.out).mono ?_);rintro e wt ⟨rfl,hb⟩;replace P:=hI (P.out.step hb);clear hb T1;clear x0 x1 x2 x3 x4 x5 x6 x7 x8 x9 u0 u1 u2 u3 u4 u5 u6 u7 u8 u9 y0 y1 y2 y3 y4 y5 y6 y7 y8 y9 z0 z1 z2 z3 z4 z5 z6 z7 z8 z9;obtain ⟨x0,x1,x2,x3,x4,x5,x6,x7,x8,x9⟩:=P.out.cf.all;obtain ⟨u0,u1,u2,u3,u4,u5,u6,u7,u8,u9⟩:=P.out.cf.free;obtain ⟨y0,y1,y2,y3,y4,y5,y6,y7,y8,y9⟩:=P.out.res.all;obtain ⟨z0,z1,z2,z3,z4,z5,z6,z7,z8,z9⟩:=P.out.res.free))
 refine bodyPost_ret (v:=.tuple #[pk0.val pl0,.int .i64 2]) ?_ rfl (GetF.mk pl0 rfl pwF0 (put10_below P.out.bel (Nat.le_refl _) pk0 pl0))
 exact results_row_tmpP rfl _ _ _ w.heap.size 29 _ _ _ rfl rfl (put10_px P.out.res pk0 pl0) Tryz.underlying29 (by kernel_rfl)
theorem chrg_ok_2 (b:List Nat) (n c:Nat) (A:Option Addr) (w:World) (F:Nat→Prop) (hF:∀ i,w.heap.size≤i→F i) (h:RdF F w A b) (hb:By b) (hl:b.length=n) (hn:n≤1073741824) (hc:n≤c) (x y:Nat) (d:List Nat) (hg:kgetB b=(x,y,d,0)) (hk:x=2) (l r:List Nat) (hne:d≠[]) (hz0:¬ d[0]?=some 0) (hd:cutT d=(l,r,0)) :
  Calls Tryz.prog 58 #[.slice A n c] w (GetF F w ⟨49699,x,y,[],0,0,l,r,[],[]⟩ 0):=by
 have C:=hI (GeC.made 29 w)
 have HR:=hI h.rd
 have HFF:=hI hF
 have HF:=hI h.ltF
 have HB:=hI hb
 have HL:=hI hl
 have HG:=hI hg
 obtain ⟨pd,hpd⟩:∃ pd,Hid (kpadB b=pd):=⟨_,hI rfl⟩
 obtain ⟨n2,hn2⟩:∃ n2,Hid (d.length=n2):=⟨_,hI rfl⟩
 have hd1:=kget_bytes hb hg
 have HD:=hI hd1.1
 have n2le:n2≤1073741824:=by have:=hd1.2;have:=hn2.out;omega
 have f1:((x:Int) != 1)=true:=by rw [bne_iff_ne];omega
 have f2:((x:Int) != 2)=false:=by simp;omega
 obtain ⟨k1,HA1⟩:∃ n,Hid (l.length=n):=⟨_,hI rfl⟩
 obtain ⟨z,hz⟩:∃ z,Hid (0+1+k1=z):=⟨_,hI rfl⟩
 have zle:z≤n2:=by have e:=congrArg List.length (cutT_said hd);rw [List.length_append,lenT_len,HA1.out,hn2.out] at e;have:=hz.out;omega
 have ER:=hI (show d.drop z=r by rw [show z=l.length+1 by have:=hz.out;have:=HA1.out;omega,cutT_drop hd])
 have zlt:¬ (z:Int)<0:=by omega
 have z0':(0:Int)≤(z:Int):=by omega
 have z1':(z:Int)≤(n2:Int):=by omega
 have np:0<n2:=by have:=hn2.out;have:d.length≠0:=fun e=>hne (List.eq_nil_of_length_eq_zero e);omega
 have i0:(0:Int)<(n2:Int):=by omega
 have HZ:=hI hz0
 have HC1:=hI (show cutT (d.drop 0)=_ from hd)
 have T1:=hI trivial
 clear hF h hb hl hg hk hd1 hd hne hz0
 go_enter Tryz.func58,Tryz.ntmps58
 go_upto_region 5 with (first
  | (go_at_call 71;(with_reducible refine (krgetF_v b x y d _ HG.out n2 hn2.out pd hpd.out n c A _ (HR.out.on C.out.bel) HB.out HL.out (by omega) hc (fun i=>F i∧i<w.heap.size) (HF.out.keep (.of_below C.out.bel))).mono ?_);rintro e wn ⟨A1,c1,rfl,k1c,r1,hb⟩;have R1:=hI r1;replace C:=hI (C.out.step hb);clear hb r1))
 have BA:=hI ((Below.refl wn.heap.size wn).alloc (Nat.le_refl _) (Pk.obj ⟨49699,x,y,[],0,0,[],[],[],[]⟩ pl0 29))
 have P:=hI (C.out.pk ⟨49699,x,y,[],0,0,[],[],[],[]⟩ pl0)
 have LT:=C.out.res.lt
 obtain ⟨g,hgg⟩:∃ g,Hid (wn.heap.size=g):=⟨_,hI rfl⟩
 rw [hgg.out] at P LT ⊢
 have R2:=hI ((R1.out.keep (.of_below BA.out)).mono (G:=Nf F w.heap.size g) (fun i _ hf=>⟨hf.1,Nat.ne_of_lt hf.2,Nat.ne_of_lt (Nat.lt_trans hf.2 LT)⟩))
 refine at_worldP (fun W=>Hid (GpC 29 w W g ⟨49699,x,y,[],0,0,[],[],[],[]⟩ pl0)∧Hid (RdF (Nf F w.heap.size g) W A1 d)) ⟨P,R2⟩ ?_
 clear P R2 BA LT R1 C HR HF HB HL HG hgg
 rintro wm ⟨P,R2⟩
 have nq1:=Nat.ne_of_lt P.out.lt
 have nq3:=Nat.ne_of_gt P.out.lt
 obtain ⟨x0,x1,x2,x3,x4,x5,x6,x7,x8,x9⟩:=P.out.cf.all;obtain ⟨u0,u1,u2,u3,u4,u5,u6,u7,u8,u9⟩:=P.out.cf.free;obtain ⟨y0,y1,y2,y3,y4,y5,y6,y7,y8,y9⟩:=P.out.res.all;obtain ⟨z0,z1,z2,z3,z4,z5,z6,z7,z8,z9⟩:=P.out.res.free
 obtain ⟨bb,oo,v,rfl,hbb,hx,hcx⟩:=R2.out.rd.at_ (k:=0) (by have:=hn2.out;omega)
 replace hcx:wm.cell? ⟨bb,oo,none⟩=some (.int .u8 (v:Int)):=hcx
 have v0:((v:Int) == 0)=false:=by
  have e1:¬ v=0:=fun e=>HZ.out (by rw [hx,e])
  simp;omega
 clear hx HZ
 by_cases hcz:c1=z
 ·have hnz:n2=z:=by omega
  subst hcz
  subst hnz
  go_upto_region 15 with (first
   | (go_at_call 74;have _g:=T1;clear _g;(with_reducible refine (rtext_ok (Nf F w.heap.size g) d n2 n2 (some ⟨bb,oo,none⟩) _ R2.out hn2.out HD.out (by omega) k1c 0 0 rfl (Nat.zero_le _) l r HC1.out k1 HA1.out n2 hz.out).mono ?_);rintro e wt ⟨A3,c3,rfl,e3,r1,hb⟩;have S1:=hI r1;replace R2:=hI (R2.out.keep (.of_below hb));replace P:=hI (P.out.step hb);clear hb r1 T1;clear x0 x1 x2 x3 x4 x5 x6 x7 x8 x9 u0 u1 u2 u3 u4 u5 u6 u7 u8 u9 y0 y1 y2 y3 y4 y5 y6 y7 y8 y9 z0 z1 z2 z3 z4 z5 z6 z7 z8 z9;obtain ⟨x0,x1,x2,x3,x4,x5,x6,x7,x8,x9⟩:=P.out.cf.all;obtain ⟨u0,u1,u2,u3,u4,u5,u6,u7,u8,u9⟩:=P.out.cf.free;obtain ⟨y0,y1,y2,y3,y4,y5,y6,y7,y8,y9⟩:=P.out.res.all;obtain ⟨z0,z1,z2,z3,z4,z5,z6,z7,z8,z9⟩:=P.out.res.free))
  have HT:=hI (show RdF (Nf F w.heap.size g) wt (some ⟨bb,oo,none⟩) r by have:=RdF.cutAt (c:=n2) (f:=n2) R2.out (by have:=hn2.out;omega);rw [if_pos rfl,ER.out] at this;exact this)
  have HR2:=hI (show r.length=0 by rw [←ER.out,List.length_drop,hn2.out];omega)
  have KC:=hI (Nat.le_refl 0)
  refine at_worldP (fun W=>Hid (GpC 29 w W g ⟨49699,x,y,[],0,0,l,r,[],[]⟩ { pl0 with a1:=A3,n1:=k1,c1:=c3,a2:=(some ⟨bb,oo,none⟩),n2:=0,c2:=0 })∧Hid (RdF (Nf F w.heap.size g) W A3 l)∧Hid (RdF (Nf F w.heap.size g) W (some ⟨bb,oo,none⟩) r)) ⟨hI ((P.out.set 6 (.slice A3 k1 c3) (P.out.cf.setOne A3 k1 c3 l)).set 7 (.slice (some ⟨bb,oo,none⟩) 0 0) ((P.out.set 6 (.slice A3 k1 c3) (P.out.cf.setOne A3 k1 c3 l)).cf.setTwo (some ⟨bb,oo,none⟩) 0 0 r)),hI (S1.out.keep ((keeps_f1 F wt w.heap.size g 6 (.slice A3 k1 c3)).trans (keeps_f1 F _ w.heap.size g 7 (.slice (some ⟨bb,oo,none⟩) 0 0)))),hI (HT.out.keep ((keeps_f1 F wt w.heap.size g 6 (.slice A3 k1 c3)).trans (keeps_f1 F _ w.heap.size g 7 (.slice (some ⟨bb,oo,none⟩) 0 0))))⟩ ?_
  clear x0 x1 x2 x3 x4 x5 x6 x7 x8 x9 u0 u1 u2 u3 u4 u5 u6 u7 u8 u9 y0 y1 y2 y3 y4 y5 y6 y7 y8 y9 z0 z1 z2 z3 z4 z5 z6 z7 z8 z9
  clear P S1 R2 HT hcx
  rintro wv ⟨P,S1,HT⟩
  obtain ⟨x0,x1,x2,x3,x4,x5,x6,x7,x8,x9⟩:=P.out.cf.all;obtain ⟨u0,u1,u2,u3,u4,u5,u6,u7,u8,u9⟩:=P.out.cf.free;obtain ⟨y0,y1,y2,y3,y4,y5,y6,y7,y8,y9⟩:=P.out.res.all;obtain ⟨z0,z1,z2,z3,z4,z5,z6,z7,z8,z9⟩:=P.out.res.free
  go_wp2_with fail
  refine bodyPost_ret (v:=.tuple #[Pk.val ⟨49699,x,y,[],0,0,l,r,[],[]⟩ { pl0 with a1:=A3,n1:=k1,c1:=c3,a2:=(some ⟨bb,oo,none⟩),n2:=0,c2:=0 },.int .i64 0]) ?_ rfl (GetF.mk { pl0 with a1:=A3,n1:=k1,c1:=c3,a2:=(some ⟨bb,oo,none⟩),n2:=0,c2:=0 } rfl ?_ (put10_below P.out.bel (Nat.le_refl _) ⟨49699,x,y,[],0,0,l,r,[],[]⟩ { pl0 with a1:=A3,n1:=k1,c1:=c3,a2:=(some ⟨bb,oo,none⟩),n2:=0,c2:=0 }))
  ·exact results_row_tmpP rfl _ _ _ w.heap.size 29 _ _ _ rfl rfl (put10_px P.out.res ⟨49699,x,y,[],0,0,l,r,[],[]⟩ { pl0 with a1:=A3,n1:=k1,c1:=c3,a2:=(some ⟨bb,oo,none⟩),n2:=0,c2:=0 }) Tryz.underlying29 (by kernel_rfl)
  ·exact ((pwF_texts 49699 x y HA1.out S1.out e3 HR2.out HT.out KC.out).keep (keeps_f2 F _ w.heap.size g ⟨49699,x,y,[],0,0,l,r,[],[]⟩ { pl0 with a1:=A3,n1:=k1,c1:=c3,a2:=(some ⟨bb,oo,none⟩),n2:=0,c2:=0 })).mono (fun _ _ h=>h.1)
 ·
  go_upto_region 15 with (first
   | (go_at_call 74;have _g:=T1;clear _g;(with_reducible refine (rtext_ok (Nf F w.heap.size g) d n2 c1 (some ⟨bb,oo,none⟩) _ R2.out hn2.out HD.out (by omega) k1c 0 0 rfl (Nat.zero_le _) l r HC1.out k1 HA1.out z hz.out).mono ?_);rintro e wt ⟨A3,c3,rfl,e3,r1,hb⟩;have S1:=hI r1;replace R2:=hI (R2.out.keep (.of_below hb));replace P:=hI (P.out.step hb);clear hb r1 T1;clear x0 x1 x2 x3 x4 x5 x6 x7 x8 x9 u0 u1 u2 u3 u4 u5 u6 u7 u8 u9 y0 y1 y2 y3 y4 y5 y6 y7 y8 y9 z0 z1 z2 z3 z4 z5 z6 z7 z8 z9;obtain ⟨x0,x1,x2,x3,x4,x5,x6,x7,x8,x9⟩:=P.out.cf.all;obtain ⟨u0,u1,u2,u3,u4,u5,u6,u7,u8,u9⟩:=P.out.cf.free;obtain ⟨y0,y1,y2,y3,y4,y5,y6,y7,y8,y9⟩:=P.out.res.all;obtain ⟨z0,z1,z2,z3,z4,z5,z6,z7,z8,z9⟩:=P.out.res.free))
  have HT:=hI (show RdF (Nf F w.heap.size g) wt (some ⟨bb,oo+z,none⟩) r by have:=RdF.cutAt (c:=c1) (f:=z) R2.out (by have:=hn2.out;omega);rw [if_neg hcz,ER.out] at this;exact this)
  have HR2:=hI (show r.length=n2 - z by rw [←ER.out,List.length_drop,hn2.out])
  have KC:=hI (show n2 - z≤c1 - z by omega)
  refine at_worldP (fun W=>Hid (GpC 29 w W g ⟨49699,x,y,[],0,0,l,r,[],[]⟩ { pl0 with a1:=A3,n1:=k1,c1:=c3,a2:=(some ⟨bb,oo+z,none⟩),n2:=(n2 - z),c2:=(c1 - z) })∧Hid (RdF (Nf F w.heap.size g) W A3 l)∧Hid (RdF (Nf F w.heap.size g) W (some ⟨bb,oo+z,none⟩) r)) ⟨hI ((P.out.set 6 (.slice A3 k1 c3) (P.out.cf.setOne A3 k1 c3 l)).set 7 (.slice (some ⟨bb,oo+z,none⟩) (n2 - z) (c1 - z)) ((P.out.set 6 (.slice A3 k1 c3) (P.out.cf.setOne A3 k1 c3 l)).cf.setTwo (some ⟨bb,oo+z,none⟩) (n2 - z) (c1 - z) r)),hI (S1.out.keep ((keeps_f1 F wt w.heap.size g 6 (.slice A3 k1 c3)).trans (keeps_f1 F _ w.heap.size g 7 (.slice (some ⟨bb,oo+z,none⟩) (n2 - z) (c1 - z))))),hI (HT.out.keep ((keeps_f1 F wt w.heap.size g 6 (.slice A3 k1 c3)).trans (keeps_f1 F _ w.heap.size g 7 (.slice (some ⟨bb,oo+z,none⟩) (n2 - z) (c1 - z)))))⟩ ?_
  clear x0 x1 x2 x3 x4 x5 x6 x7 x8 x9 u0 u1 u2 u3 u4 u5 u6 u7 u8 u9 y0 y1 y2 y3 y4 y5 y6 y7 y8 y9 z0 z1 z2 z3 z4 z5 z6 z7 z8 z9
  clear P S1 R2 HT hcx
  rintro wv ⟨P,S1,HT⟩
  obtain ⟨x0,x1,x2,x3,x4,x5,x6,x7,x8,x9⟩:=P.out.cf.all;obtain ⟨u0,u1,u2,u3,u4,u5,u6,u7,u8,u9⟩:=P.out.cf.free;obtain ⟨y0,y1,y2,y3,y4,y5,y6,y7,y8,y9⟩:=P.out.res.all;obtain ⟨z0,z1,z2,z3,z4,z5,z6,z7,z8,z9⟩:=P.out.res.free
  go_wp2_with fail
  refine bodyPost_ret (v:=.tuple #[Pk.val ⟨49699,x,y,[],0,0,l,r,[],[]⟩ { pl0 with a1:=A3,n1:=k1,c1:=c3,a2:=(some ⟨bb,oo+z,none⟩),n2:=(n2 - z),c2:=(c1 - z) },.int .i64 0]) ?_ rfl (GetF.mk { pl0 with a1:=A3,n1:=k1,c1:=c3,a2:=(some ⟨bb,oo+z,none⟩),n2:=(n2 - z),c2:=(c1 - z) } rfl ?_ (put10_below P.out.bel (Nat.le_refl _) ⟨49699,x,y,[],0,0,l,r,[],[]⟩ { pl0 with a1:=A3,n1:=k1,c1:=c3,a2:=(some ⟨bb,oo+z,none⟩),n2:=(n2 - z),c2:=(c1 - z) }))
  ·exact results_row_tmpP rfl _ _ _ w.heap.size 29 _ _ _ rfl rfl (put10_px P.out.res ⟨49699,x,y,[],0,0,l,r,[],[]⟩ { pl0 with a1:=A3,n1:=k1,c1:=c3,a2:=(some ⟨bb,oo+z,none⟩),n2:=(n2 - z),c2:=(c1 - z) }) Tryz.underlying29 (by kernel_rfl)
  ·exact ((pwF_texts 49699 x y HA1.out S1.out e3 HR2.out HT.out KC.out).keep (keeps_f2 F _ w.heap.size g ⟨49699,x,y,[],0,0,l,r,[],[]⟩ { pl0 with a1:=A3,n1:=k1,c1:=c3,a2:=(some ⟨bb,oo+z,none⟩),n2:=(n2 - z),c2:=(c1 - z) })).mono (fun _ _ h=>h.1)
theorem chrgF_any (b:List Nat) (n c:Nat) (A:Option Addr) (w:World) (F:Nat→Prop) (hF:∀ i,w.heap.size≤i→F i) (h:RdF F w A b) (hb:By b) (hl:b.length=n) (hn:n≤1073741824) (hc:n≤c) (p:Pk) (k:Nat) (hp:chgetB b=(p,k)) :
  Calls Tryz.prog 58 #[.slice A n c] w (GetF F w p k):=by
 obtain ⟨x,y,d,e,hg⟩:∃ x y d e,kgetB b=(x,y,d,e):=⟨_,_,_,_,rfl⟩
 by_cases he:e=0
 case neg =>
  rw [chget_no hg he] at hp
  obtain ⟨rfl,rfl⟩:=Prod.mk.inj hp
  exact chrg_no b n c A w F hF h hb hl hn hc x y d e hg he
 subst he
 rw [chget_of hg,chrdB] at hp
 cases hk:isvB x
 ·rw [hk,if_neg (by decide)] at hp
  obtain ⟨rfl,rfl⟩:=Prod.mk.inj hp
  exact chrg_data b n c A w F hF h hb hl hn hc x y d hg (isvB_no hk)
 ·rw [if_pos hk] at hp
  by_cases hd0:d=[]
  ·subst hd0
   obtain ⟨rfl,rfl⟩:=Prod.mk.inj hp
   rcases isvB_yes hk with hx | hx
   ·exact chrg_nil_1 b n c A w F hF h hb hl hn hc x y hg hx
   ·exact chrg_nil_2 b n c A w F hF h hb hl hn hc x y hg hx
  rcases cutH_get d with ⟨l,r,e1,e2,e4,e3⟩ | ⟨e1,e2,e3⟩ | ⟨e1,e3⟩
  ·have hz0:¬ d[0]?=some 0:=fun e=>by
    rw [e4] at e
    injection e with e
    exact e3 (List.eq_nil_of_length_eq_zero e)
   rw [e1] at hp
   dsimp only at hp
   rw [if_pos rfl] at hp
   obtain ⟨rfl,rfl⟩:=Prod.mk.inj hp
   rcases isvB_yes hk with hx | hx
   ·exact chrg_ok_1 b n c A w F hF h hb hl hn hc x y d hg hx l r hd0 hz0 e2
   ·exact chrg_ok_2 b n c A w F hF h hb hl hn hc x y d hg hx l r hd0 hz0 e2
  ·rw [e1] at hp
   dsimp only at hp
   rw [if_neg (by decide)] at hp
   obtain ⟨rfl,rfl⟩:=Prod.mk.inj hp
   rcases isvB_yes hk with hx | hx
   ·exact chrg_cut_1 b n c A w F hF h hb hl hn hc x y d hg hx hd0 e3 e2
   ·exact chrg_cut_2 b n c A w F hF h hb hl hn hc x y d hg hx hd0 e3 e2
  ·rw [e1] at hp
   dsimp only at hp
   rw [if_neg (by decide)] at hp
   obtain ⟨rfl,rfl⟩:=Prod.mk.inj hp
   rcases isvB_yes hk with hx | hx
   ·exact chrg_zero_1 b n c A w F hF h hb hl hn hc x y d hg hx e3
   ·exact chrg_zero_2 b n c A w F hF h hb hl hn hc x y d hg hx e3
end Go.Proofs.YtmhjnghomihjlaaGreat
