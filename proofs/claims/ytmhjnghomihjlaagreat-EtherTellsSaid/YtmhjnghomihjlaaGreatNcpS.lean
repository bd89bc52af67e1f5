/-
  What the document's Get of layer 16 answers. No condition beyond: at most 2^30 octets.
-/
import Derived.Test.YtmhjnghomihjlaaGreatNcpG
import Derived.Test.YtmhjnghomihjlaaGreatGPks
import Derived.Test.YtmhjnghomihjlaaGreatGCtl
import Derived.Deep.CutRange
import Derived.Deep.RegionHeld3
namespace Go.Proofs.YtmhjnghomihjlaaGreat
set_option maxRecDepth 8000
set_option maxHeartbeats 80000000
set_option linter.unusedVariables false
open Go.RowKit
theorem nrg_kind (t:Nat) (b:List Nat) (n c:Nat) (A:Option Addr) (w:World) (F:Nat→Prop) (ht:¬ (t=32801∨t=32855)) :
  Calls Tryz.prog 56 #[.int .i64 (t:Int),.slice A n c] w (GetF F w pk0 8):=by
 have C:=hI (GeC.made 29 w)
 have q1:((t:Int) != 32801)=true:=by rw [bne_iff_ne];omega
 have q2:((t:Int) != 32855)=true:=by rw [bne_iff_ne];omega
 clear ht
 go_enter Tryz.func56,Tryz.ntmps56
 go_upto_region 1 with fail
 obtain ⟨wm,hwm⟩:∃ wm,wm=w.alloc (obj0P 29):=⟨_,rfl⟩
 rw [←hwm] at C ⊢
 clear hwm
 obtain ⟨y0,y1,y2,y3,y4,y5,y6,y7,y8,y9⟩:=C.out.res.all;obtain ⟨z0,z1,z2,z3,z4,z5,z6,z7,z8,z9⟩:=C.out.res.free
 have b0:w.heap.size<wm.heap.size:=C.out.res.lt
 go_wp2_with fail
 refine bodyPost_ret (v:=.tuple #[pk0.val pl0,.int .i64 8]) ?_ rfl (GetF.mk pl0 rfl pwF0 (put10_below C.out.bel (Nat.le_refl _) pk0 pl0))
 exact results_row_tmpP rfl _ _ _ w.heap.size 29 _ _ _ rfl rfl (put10_px C.out.res pk0 pl0) Tryz.underlying29 (by kernel_rfl)
theorem nrg_no (t:Nat) (b:List Nat) (n c:Nat) (A:Option Addr) (w:World) (ht:t=32801∨t=32855) (F:Nat→Prop) (hF:∀ i,w.heap.size≤i→F i) (h:RdF F w A b) (hb:By b) (hl:b.length=n) (hn:n≤1073741824) (hc:n≤c) (x y:Nat) (d:List Nat) (k:Nat) (hg:kgetB b=(x,y,d,k)) (hk:¬ k=0) :
  Calls Tryz.prog 56 #[.int .i64 (t:Int),.slice A n c] w (GetF F w pk0 k):=by
 have C:=hI (GeC.made 29 w)
 have HR:=hI h.rd
 have HFF:=hI hF
 have HB:=hI hb
 have HL:=hI hl
 have HG:=hI hg
 obtain ⟨pd,hpd⟩:∃ pd,Hid (kpadB b=pd):=⟨_,hI rfl⟩
 have j1:((k:Int) != 0)=true:=by rw [bne_iff_ne];omega
 clear hF h hb hl hg hk
 rcases ht with ht | ht
 ·have q1:((t:Int) != 32801)=false:=by simp;omega
  clear ht
  go_enter Tryz.func56,Tryz.ntmps56
  go_wp2_with (first
   | (go_at_call 71;(with_reducible refine (krget_v b x y d k HG.out d.length rfl pd hpd.out n c A _ (HR.out.on C.out.bel) HB.out HL.out (by omega) hc).mono ?_);rintro e wn ⟨A1,c1,rfl,k1,r1,hb⟩;replace C:=hI (C.out.step hb);clear hb r1;obtain ⟨y0,y1,y2,y3,y4,y5,y6,y7,y8,y9⟩:=C.out.res.all;obtain ⟨z0,z1,z2,z3,z4,z5,z6,z7,z8,z9⟩:=C.out.res.free))
  refine bodyPost_ret (v:=.tuple #[pk0.val pl0,.int .i64 (k:Int)]) ?_ rfl (GetF.mk pl0 rfl pwF0 (put10_below C.out.bel (Nat.le_refl _) pk0 pl0))
  exact results_row_tmpP rfl _ _ _ w.heap.size 29 _ _ _ rfl rfl (put10_px C.out.res pk0 pl0) Tryz.underlying29 (by kernel_rfl)
 ·have q1:((t:Int) != 32801)=true:=by rw [bne_iff_ne];omega
  have q2:((t:Int) != 32855)=false:=by simp;omega
  clear ht
  go_enter Tryz.func56,Tryz.ntmps56
  go_wp2_with (first
   | (go_at_call 71;(with_reducible refine (krget_v b x y d k HG.out d.length rfl pd hpd.out n c A _ (HR.out.on C.out.bel) HB.out HL.out (by omega) hc).mono ?_);rintro e wn ⟨A1,c1,rfl,k1,r1,hb⟩;replace C:=hI (C.out.step hb);clear hb r1;obtain ⟨y0,y1,y2,y3,y4,y5,y6,y7,y8,y9⟩:=C.out.res.all;obtain ⟨z0,z1,z2,z3,z4,z5,z6,z7,z8,z9⟩:=C.out.res.free))
  refine bodyPost_ret (v:=.tuple #[pk0.val pl0,.int .i64 (k:Int)]) ?_ rfl (GetF.mk pl0 rfl pwF0 (put10_below C.out.bel (Nat.le_refl _) pk0 pl0))
  exact results_row_tmpP rfl _ _ _ w.heap.size 29 _ _ _ rfl rfl (put10_px C.out.res pk0 pl0) Tryz.underlying29 (by kernel_rfl)
theorem nrg_zero (t:Nat) (b:List Nat) (n c:Nat) (A:Option Addr) (w:World) (ht:t=32801∨t=32855) (F:Nat→Prop) (hF:∀ i,w.heap.size≤i→F i) (h:RdF F w A b) (hb:By b) (hl:b.length=n) (hn:n≤1073741824) (hc:n≤c) (x y:Nat) (d:List Nat) (hg:kgetB b=(x,y,d,0)) (hk:x=0)  :
  Calls Tryz.prog 56 #[.int .i64 (t:Int),.slice A n c] w (GetF F w ⟨t,x,y,[],0,0,[],[],d,[]⟩ 0):=by
 have C:=hI (GeC.made 29 w)
 have HR:=hI h.rd
 have HFF:=hI hF
 have HF:=hI h.ltF
 have HB:=hI hb
 have HL:=hI hl
 have HG:=hI hg
 obtain ⟨pd,hpd⟩:∃ pd,Hid (kpadB b=pd):=⟨_,hI rfl⟩
 obtain ⟨n2,hn2⟩:∃ n2,Hid (d.length=n2):=⟨_,hI rfl⟩
 have hd1:=kget_bytes hb hg
 have HD:=hI hd1.1
 have n2le:n2≤1073741824:=by have:=hd1.2;have:=hn2.out;omega
 have wt:IntKind.u16.wrap (t:Int)=(t:Int):=by rw [IntKind.wrap_u16];omega
 have f0:((x:Int) == 0)=true:=by simp;omega
 clear hF h hb hl hg hk hd1
 rcases ht with ht | ht
 ·have q1:((t:Int) != 32801)=false:=by simp;omega
  clear ht
  go_enter Tryz.func56,Tryz.ntmps56
  go_upto_region 7 with (first
   | (go_at_call 71;(with_reducible refine (krgetF_v b x y d _ HG.out n2 hn2.out pd hpd.out n c A _ (HR.out.on C.out.bel) HB.out HL.out (by omega) hc (fun i=>F i∧i<w.heap.size) (HF.out.keep (.of_below C.out.bel))).mono ?_);rintro e wn ⟨A1,c1,rfl,k1,r1,hb⟩;have R1:=hI r1;replace C:=hI (C.out.step hb);clear hb r1))
  have BA:=hI ((Below.refl wn.heap.size wn).alloc (Nat.le_refl _) (Pk.obj ⟨t,x,y,[],0,0,[],[],[],[]⟩ pl0 29))
  have P:=hI (C.out.pk ⟨t,x,y,[],0,0,[],[],[],[]⟩ pl0)
  have LT:=C.out.res.lt
  obtain ⟨g,hgg⟩:∃ g,Hid (wn.heap.size=g):=⟨_,hI rfl⟩
  rw [hgg.out] at P LT ⊢
  have R2:=hI ((R1.out.keep (.of_below BA.out)).mono (G:=Nf F w.heap.size g) (fun i _ hf=>⟨hf.1,Nat.ne_of_lt hf.2,Nat.ne_of_lt (Nat.lt_trans hf.2 LT)⟩))
  refine at_worldP (fun W=>Hid (GpC 29 w W g ⟨t,x,y,[],0,0,[],[],[],[]⟩ pl0)∧Hid (RdF (Nf F w.heap.size g) W A1 d)) ⟨P,R2⟩ ?_
  clear P R2 BA LT R1 C HR HF HB HL HG hgg
  rintro wm ⟨P,R2⟩
  have nq1:=Nat.ne_of_lt P.out.lt
  have nq3:=Nat.ne_of_gt P.out.lt
  obtain ⟨x0,x1,x2,x3,x4,x5,x6,x7,x8,x9⟩:=P.out.cf.all;obtain ⟨u0,u1,u2,u3,u4,u5,u6,u7,u8,u9⟩:=P.out.cf.free;obtain ⟨y0,y1,y2,y3,y4,y5,y6,y7,y8,y9⟩:=P.out.res.all;obtain ⟨z0,z1,z2,z3,z4,z5,z6,z7,z8,z9⟩:=P.out.res.free
  go_wp2_with fail
  refine bodyPost_ret (v:=.tuple #[Pk.val ⟨t,x,y,[],0,0,[],[],d,[]⟩ { pl0 with ad:=A1,nd:=n2,cd:=c1 },.int .i64 0]) ?_ rfl (GetF.mk { pl0 with ad:=A1,nd:=n2,cd:=c1 } rfl ?_ (put10_below (P.out.set 8 (.slice A1 n2 c1) (P.out.cf.setData A1 n2 c1 d)).bel (Nat.le_refl _) ⟨t,x,y,[],0,0,[],[],d,[]⟩ { pl0 with ad:=A1,nd:=n2,cd:=c1 }))
  ·exact results_row_tmpP rfl _ _ _ w.heap.size 29 _ _ _ rfl rfl (put10_px (P.out.set 8 (.slice A1 n2 c1) (P.out.cf.setData A1 n2 c1 d)).res ⟨t,x,y,[],0,0,[],[],d,[]⟩ { pl0 with ad:=A1,nd:=n2,cd:=c1 }) Tryz.underlying29 (by kernel_rfl)
  ·exact ((pwF_data t x y 0 0 hn2.out R2.out k1).keep ((keeps_f1 F wm w.heap.size g 8 (.slice A1 n2 c1)).trans (keeps_f2 F _ w.heap.size g ⟨t,x,y,[],0,0,[],[],d,[]⟩ { pl0 with ad:=A1,nd:=n2,cd:=c1 }))).mono (fun _ _ h=>h.1)
 ·have q1:((t:Int) != 32801)=true:=by rw [bne_iff_ne];omega
  have q2:((t:Int) != 32855)=false:=by simp;omega
  clear ht
  go_enter Tryz.func56,Tryz.ntmps56
  go_upto_region 7 with (first
   | (go_at_call 71;(with_reducible refine (krgetF_v b x y d _ HG.out n2 hn2.out pd hpd.out n c A _ (HR.out.on C.out.bel) HB.out HL.out (by omega) hc (fun i=>F i∧i<w.heap.size) (HF.out.keep (.of_below C.out.bel))).mono ?_);rintro e wn ⟨A1,c1,rfl,k1,r1,hb⟩;have R1:=hI r1;replace C:=hI (C.out.step hb);clear hb r1))
  have BA:=hI ((Below.refl wn.heap.size wn).alloc (Nat.le_refl _) (Pk.obj ⟨t,x,y,[],0,0,[],[],[],[]⟩ pl0 29))
  have P:=hI (C.out.pk ⟨t,x,y,[],0,0,[],[],[],[]⟩ pl0)
  have LT:=C.out.res.lt
  obtain ⟨g,hgg⟩:∃ g,Hid (wn.heap.size=g):=⟨_,hI rfl⟩
  rw [hgg.out] at P LT ⊢
  have R2:=hI ((R1.out.keep (.of_below BA.out)).mono (G:=Nf F w.heap.size g) (fun i _ hf=>⟨hf.1,Nat.ne_of_lt hf.2,Nat.ne_of_lt (Nat.lt_trans hf.2 LT)⟩))
  refine at_worldP (fun W=>Hid (GpC 29 w W g ⟨t,x,y,[],0,0,[],[],[],[]⟩ pl0)∧Hid (RdF (Nf F w.heap.size g) W A1 d)) ⟨P,R2⟩ ?_
  clear P R2 BA LT R1 C HR HF HB HL HG hgg
  rintro wm ⟨P,R2⟩
  have nq1:=Nat.ne_of_lt P.out.lt
  have nq3:=Nat.ne_of_gt P.out.lt
  obtain ⟨x0,x1,x2,x3,x4,x5,x6,x7,x8,x9⟩:=P.out.cf.all;obtain ⟨u0,u1,u2,u3,u4,u5,u6,u7,u8,u9⟩:=P.out.cf.free;obtain ⟨y0,y1,y2,y3,y4,y5,y6,y7,y8,y9⟩:=P.out.res.all;obtain ⟨z0,z1,z2,z3,z4,z5,z6,z7,z8,z9⟩:=P.out.res.free
  go_wp2_with fail
  refine bodyPost_ret (v:=.tuple #[Pk.val ⟨t,x,y,[],0,0,[],[],d,[]⟩ { pl0 with ad:=A1,nd:=n2,cd:=c1 },.int .i64 0]) ?_ rfl (GetF.mk { pl0 with ad:=A1,nd:=n2,cd:=c1 } rfl ?_ (put10_below (P.out.set 8 (.slice A1 n2 c1) (P.out.cf.setData A1 n2 c1 d)).bel (Nat.le_refl _) ⟨t,x,y,[],0,0,[],[],d,[]⟩ { pl0 with ad:=A1,nd:=n2,cd:=c1 }))
  ·exact results_row_tmpP rfl _ _ _ w.heap.size 29 _ _ _ rfl rfl (put10_px (P.out.set 8 (.slice A1 n2 c1) (P.out.cf.setData A1 n2 c1 d)).res ⟨t,x,y,[],0,0,[],[],d,[]⟩ { pl0 with ad:=A1,nd:=n2,cd:=c1 }) Tryz.underlying29 (by kernel_rfl)
  ·exact ((pwF_data t x y 0 0 hn2.out R2.out k1).keep ((keeps_f1 F wm w.heap.size g 8 (.slice A1 n2 c1)).trans (keeps_f2 F _ w.heap.size g ⟨t,x,y,[],0,0,[],[],d,[]⟩ { pl0 with ad:=A1,nd:=n2,cd:=c1 }))).mono (fun _ _ h=>h.1)
theorem nrg_high (t:Nat) (b:List Nat) (n c:Nat) (A:Option Addr) (w:World) (ht:t=32801∨t=32855) (F:Nat→Prop) (hF:∀ i,w.heap.size≤i→F i) (h:RdF F w A b) (hb:By b) (hl:b.length=n) (hn:n≤1073741824) (hc:n≤c) (x y:Nat) (d:List Nat) (hg:kgetB b=(x,y,d,0)) (hk:4<x)  :
  Calls Tryz.prog 56 #[.int .i64 (t:Int),.slice A n c] w (GetF F w ⟨t,x,y,[],0,0,[],[],d,[]⟩ 0):=by
 have C:=hI (GeC.made 29 w)
 have HR:=hI h.rd
 have HFF:=hI hF
 have HF:=hI h.ltF
 have HB:=hI hb
 have HL:=hI hl
 have HG:=hI hg
 obtain ⟨pd,hpd⟩:∃ pd,Hid (kpadB b=pd):=⟨_,hI rfl⟩
 obtain ⟨n2,hn2⟩:∃ n2,Hid (d.length=n2):=⟨_,hI rfl⟩
 have hd1:=kget_bytes hb hg
 have HD:=hI hd1.1
 have n2le:n2≤1073741824:=by have:=hd1.2;have:=hn2.out;omega
 have wt:IntKind.u16.wrap (t:Int)=(t:Int):=by rw [IntKind.wrap_u16];omega
 have f0:((x:Int) == 0)=false:=by simp;omega
 have f4:(4:Int)<(x:Int):=by omega
 clear hF h hb hl hg hk hd1
 rcases ht with ht | ht
 ·have q1:((t:Int) != 32801)=false:=by simp;omega
  clear ht
  go_enter Tryz.func56,Tryz.ntmps56
  go_upto_region 7 with (first
   | (go_at_call 71;(with_reducible refine (krgetF_v b x y d _ HG.out n2 hn2.out pd hpd.out n c A _ (HR.out.on C.out.bel) HB.out HL.out (by omega) hc (fun i=>F i∧i<w.heap.size) (HF.out.keep (.of_below C.out.bel))).mono ?_);rintro e wn ⟨A1,c1,rfl,k1,r1,hb⟩;have R1:=hI r1;replace C:=hI (C.out.step hb);clear hb r1))
  have BA:=hI ((Below.refl wn.heap.size wn).alloc (Nat.le_refl _) (Pk.obj ⟨t,x,y,[],0,0,[],[],[],[]⟩ pl0 29))
  have P:=hI (C.out.pk ⟨t,x,y,[],0,0,[],[],[],[]⟩ pl0)
  have LT:=C.out.res.lt
  obtain ⟨g,hgg⟩:∃ g,Hid (wn.heap.size=g):=⟨_,hI rfl⟩
  rw [hgg.out] at P LT ⊢
  have R2:=hI ((R1.out.keep (.of_below BA.out)).mono (G:=Nf F w.heap.size g) (fun i _ hf=>⟨hf.1,Nat.ne_of_lt hf.2,Nat.ne_of_lt (Nat.lt_trans hf.2 LT)⟩))
  refine at_worldP (fun W=>Hid (GpC 29 w W g ⟨t,x,y,[],0,0,[],[],[],[]⟩ pl0)∧Hid (RdF (Nf F w.heap.size g) W A1 d)) ⟨P,R2⟩ ?_
  clear P R2 BA LT R1 C HR HF HB HL HG hgg
  rintro wm ⟨P,R2⟩
  have nq1:=Nat.ne_of_lt P.out.lt
  have nq3:=Nat.ne_of_gt P.out.lt
  obtain ⟨x0,x1,x2,x3,x4,x5,x6,x7,x8,x9⟩:=P.out.cf.all;obtain ⟨u0,u1,u2,u3,u4,u5,u6,u7,u8,u9⟩:=P.out.cf.free;obtain ⟨y0,y1,y2,y3,y4,y5,y6,y7,y8,y9⟩:=P.out.res.all;obtain ⟨z0,z1,z2,z3,z4,z5,z6,z7,z8,z9⟩:=P.out.res.free
  go_wp2_with fail
  refine bodyPost_ret (v:=.tuple #[Pk.val ⟨t,x,y,[],0,0,[],[],d,[]⟩ { pl0 with ad:=A1,nd:=n2,cd:=c1 },.int .i64 0]) ?_ rfl (GetF.mk { pl0 with ad:=A1,nd:=n2,cd:=c1 } rfl ?_ (put10_below (P.out.set 8 (.slice A1 n2 c1) (P.out.cf.setData A1 n2 c1 d)).bel (Nat.le_refl _) ⟨t,x,y,[],0,0,[],[],d,[]⟩ { pl0 with ad:=A1,nd:=n2,cd:=c1 }))
  ·exact results_row_tmpP rfl _ _ _ w.heap.size 29 _ _ _ rfl rfl (put10_px (P.out.set 8 (.slice A1 n2 c1) (P.out.cf.setData A1 n2 c1 d)).res ⟨t,x,y,[],0,0,[],[],d,[]⟩ { pl0 with ad:=A1,nd:=n2,cd:=c1 }) Tryz.underlying29 (by kernel_rfl)
  ·exact ((pwF_data t x y 0 0 hn2.out R2.out k1).keep ((keeps_f1 F wm w.heap.size g 8 (.slice A1 n2 c1)).trans (keeps_f2 F _ w.heap.size g ⟨t,x,y,[],0,0,[],[],d,[]⟩ { pl0 with ad:=A1,nd:=n2,cd:=c1 }))).mono (fun _ _ h=>h.1)
 ·have q1:((t:Int) != 32801)=true:=by rw [bne_iff_ne];omega
  have q2:((t:Int) != 32855)=false:=by simp;omega
  clear ht
  go_enter Tryz.func56,Tryz.ntmps56
  go_upto_region 7 with (first
   | (go_at_call 71;(with_reducible refine (krgetF_v b x y d _ HG.out n2 hn2.out pd hpd.out n c A _ (HR.out.on C.out.bel) HB.out HL.out (by omega) hc (fun i=>F i∧i<w.heap.size) (HF.out.keep (.of_below C.out.bel))).mono ?_);rintro e wn ⟨A1,c1,rfl,k1,r1,hb⟩;have R1:=hI r1;replace C:=hI (C.out.step hb);clear hb r1))
  have BA:=hI ((Below.refl wn.heap.size wn).alloc (Nat.le_refl _) (Pk.obj ⟨t,x,y,[],0,0,[],[],[],[]⟩ pl0 29))
  have P:=hI (C.out.pk ⟨t,x,y,[],0,0,[],[],[],[]⟩ pl0)
  have LT:=C.out.res.lt
  obtain ⟨g,hgg⟩:∃ g,Hid (wn.heap.size=g):=⟨_,hI rfl⟩
  rw [hgg.out] at P LT ⊢
  have R2:=hI ((R1.out.keep (.of_below BA.out)).mono (G:=Nf F w.heap.size g) (fun i _ hf=>⟨hf.1,Nat.ne_of_lt hf.2,Nat.ne_of_lt (Nat.lt_trans hf.2 LT)⟩))
  refine at_worldP (fun W=>Hid (GpC 29 w W g ⟨t,x,y,[],0,0,[],[],[],[]⟩ pl0)∧Hid (RdF (Nf F w.heap.size g) W A1 d)) ⟨P,R2⟩ ?_
  clear P R2 BA LT R1 C HR HF HB HL HG hgg
  rintro wm ⟨P,R2⟩
  have nq1:=Nat.ne_of_lt P.out.lt
  have nq3:=Nat.ne_of_gt P.out.lt
  obtain ⟨x0,x1,x2,x3,x4,x5,x6,x7,x8,x9⟩:=P.out.cf.all;obtain ⟨u0,u1,u2,u3,u4,u5,u6,u7,u8,u9⟩:=P.out.cf.free;obtain ⟨y0,y1,y2,y3,y4,y5,y6,y7,y8,y9⟩:=P.out.res.all;obtain ⟨z0,z1,z2,z3,z4,z5,z6,z7,z8,z9⟩:=P.out.res.free
  go_wp2_with fail
  refine bodyPost_ret (v:=.tuple #[Pk.val ⟨t,x,y,[],0,0,[],[],d,[]⟩ { pl0 with ad:=A1,nd:=n2,cd:=c1 },.int .i64 0]) ?_ rfl (GetF.mk { pl0 with ad:=A1,nd:=n2,cd:=c1 } rfl ?_ (put10_below (P.out.set 8 (.slice A1 n2 c1) (P.out.cf.setData A1 n2 c1 d)).bel (Nat.le_refl _) ⟨t,x,y,[],0,0,[],[],d,[]⟩ { pl0 with ad:=A1,nd:=n2,cd:=c1 }))
  ·exact results_row_tmpP rfl _ _ _ w.heap.size 29 _ _ _ rfl rfl (put10_px (P.out.set 8 (.slice A1 n2 c1) (P.out.cf.setData A1 n2 c1 d)).res ⟨t,x,y,[],0,0,[],[],d,[]⟩ { pl0 with ad:=A1,nd:=n2,cd:=c1 }) Tryz.underlying29 (by kernel_rfl)
  ·exact ((pwF_data t x y 0 0 hn2.out R2.out k1).keep ((keeps_f1 F wm w.heap.size g 8 (.slice A1 n2 c1)).trans (keeps_f2 F _ w.heap.size g ⟨t,x,y,[],0,0,[],[],d,[]⟩ { pl0 with ad:=A1,nd:=n2,cd:=c1 }))).mono (fun _ _ h=>h.1)
theorem nrg_opts (t:Nat) (b:List Nat) (n c:Nat) (A:Option Addr) (w:World) (ht:t=32801∨t=32855) (F:Nat→Prop) (hF:∀ i,w.heap.size≤i→F i) (h:RdF F w A b) (hb:By b) (hl:b.length=n) (hn:n≤1073741824) (hc:n≤c) (x y:Nat) (d:List Nat) (hg:kgetB b=(x,y,d,0)) (hk:1≤x∧x≤4) (l:List (Nat × List Nat)) (ho:getO t d=(l,0)) :
  Calls Tryz.prog 56 #[.int .i64 (t:Int),.slice A n c] w (GetF F w ⟨t,x,y,l,0,0,[],[],[],[]⟩ 0):=by
 have C:=hI (GeC.made 29 w)
 have HR:=hI h.rd
 have HFF:=hI hF
 have HF:=hI h.ltF
 have HB:=hI hb
 have HL:=hI hl
 have HG:=hI hg
 obtain ⟨pd,hpd⟩:∃ pd,Hid (kpadB b=pd):=⟨_,hI rfl⟩
 obtain ⟨n2,hn2⟩:∃ n2,Hid (d.length=n2):=⟨_,hI rfl⟩
 have hd1:=kget_bytes hb hg
 have HD:=hI hd1.1
 have n2le:n2≤1073741824:=by have:=hd1.2;have:=hn2.out;omega
 have wt:IntKind.u16.wrap (t:Int)=(t:Int):=by rw [IntKind.wrap_u16];omega
 have f0:((x:Int) == 0)=false:=by simp;omega
 have f4:¬ (4:Int)<(x:Int):=by omega
 have HO:=hI ho
 obtain ⟨n3,hn3⟩:∃ n3,Hid (l.length=n3):=⟨_,hI rfl⟩
 clear ho
 clear hF h hb hl hg hk hd1
 rcases ht with ht | ht
 ·have q1:((t:Int) != 32801)=false:=by simp;omega
  clear ht
  go_enter Tryz.func56,Tryz.ntmps56
  go_upto_region 7 with (first
   | (go_at_call 71;(with_reducible refine (krgetF_v b x y d _ HG.out n2 hn2.out pd hpd.out n c A _ (HR.out.on C.out.bel) HB.out HL.out (by omega) hc (fun i=>F i∧i<w.heap.size) (HF.out.keep (.of_below C.out.bel))).mono ?_);rintro e wn ⟨A1,c1,rfl,k1,r1,hb⟩;have R1:=hI r1;replace C:=hI (C.out.step hb);clear hb r1))
  have BA:=hI ((Below.refl wn.heap.size wn).alloc (Nat.le_refl _) (Pk.obj ⟨t,x,y,[],0,0,[],[],[],[]⟩ pl0 29))
  have P:=hI (C.out.pk ⟨t,x,y,[],0,0,[],[],[],[]⟩ pl0)
  have LT:=C.out.res.lt
  obtain ⟨g,hgg⟩:∃ g,Hid (wn.heap.size=g):=⟨_,hI rfl⟩
  rw [hgg.out] at P LT ⊢
  have R2:=hI ((R1.out.keep (.of_below BA.out)).mono (G:=Nf F w.heap.size g) (fun i _ hf=>⟨hf.1,Nat.ne_of_lt hf.2,Nat.ne_of_lt (Nat.lt_trans hf.2 LT)⟩))
  refine at_worldP (fun W=>Hid (GpC 29 w W g ⟨t,x,y,[],0,0,[],[],[],[]⟩ pl0)∧Hid (RdF (Nf F w.heap.size g) W A1 d)) ⟨P,R2⟩ ?_
  clear P R2 BA LT R1 C HR HF HB HL HG hgg
  rintro wm ⟨P,R2⟩
  have nq1:=Nat.ne_of_lt P.out.lt
  have nq3:=Nat.ne_of_gt P.out.lt
  obtain ⟨x0,x1,x2,x3,x4,x5,x6,x7,x8,x9⟩:=P.out.cf.all;obtain ⟨u0,u1,u2,u3,u4,u5,u6,u7,u8,u9⟩:=P.out.cf.free;obtain ⟨y0,y1,y2,y3,y4,y5,y6,y7,y8,y9⟩:=P.out.res.all;obtain ⟨z0,z1,z2,z3,z4,z5,z6,z7,z8,z9⟩:=P.out.res.free
  go_wp2_with (first
   | (go_at_call 72;(with_reducible refine (prgetF_any t d l _ HO.out n3 hn3.out n2 c1 A1 _ R2.out.rd HD.out hn2.out n2le k1 (Nf F w.heap.size g) R2.out (P.out.farF HFF.out)).mono ?_);rintro e wk ⟨A3,c3,rfl,r3,hb⟩;have R3:=hI r3;replace P:=hI (P.out.step hb);clear hb r3 R2;clear x0 x1 x2 x3 x4 x5 x6 x7 x8 x9 u0 u1 u2 u3 u4 u5 u6 u7 u8 u9 y0 y1 y2 y3 y4 y5 y6 y7 y8 y9 z0 z1 z2 z3 z4 z5 z6 z7 z8 z9;obtain ⟨x0,x1,x2,x3,x4,x5,x6,x7,x8,x9⟩:=P.out.cf.all;obtain ⟨u0,u1,u2,u3,u4,u5,u6,u7,u8,u9⟩:=P.out.cf.free;obtain ⟨y0,y1,y2,y3,y4,y5,y6,y7,y8,y9⟩:=P.out.res.all;obtain ⟨z0,z1,z2,z3,z4,z5,z6,z7,z8,z9⟩:=P.out.res.free))
  refine bodyPost_ret (v:=.tuple #[Pk.val ⟨t,x,y,l,0,0,[],[],[],[]⟩ { pl0 with ao:=A3,no:=n3,co:=c3 },.int .i64 0]) ?_ rfl (GetF.mk { pl0 with ao:=A3,no:=n3,co:=c3 } rfl ?_ (put10_below (P.out.set 3 (.slice A3 n3 c3) (P.out.cf.setOpts A3 n3 c3 l)).bel (Nat.le_refl _) ⟨t,x,y,l,0,0,[],[],[],[]⟩ { pl0 with ao:=A3,no:=n3,co:=c3 }))
  ·exact results_row_tmpP rfl _ _ _ w.heap.size 29 _ _ _ rfl rfl (put10_px (P.out.set 3 (.slice A3 n3 c3) (P.out.cf.setOpts A3 n3 c3 l)).res ⟨t,x,y,l,0,0,[],[],[],[]⟩ { pl0 with ao:=A3,no:=n3,co:=c3 }) Tryz.underlying29 (by kernel_rfl)
  ·exact ((pwF_opts t x y 0 0 hn3.out R3.out).keep ((keeps_f1 F wk w.heap.size g 3 (.slice A3 n3 c3)).trans (keeps_f2 F _ w.heap.size g ⟨t,x,y,l,0,0,[],[],[],[]⟩ { pl0 with ao:=A3,no:=n3,co:=c3 }))).mono (fun _ _ h=>h.1)
 ·have q1:((t:Int) != 32801)=true:=by rw [bne_iff_ne];omega
  have q2:((t:Int) != 32855)=false:=by simp;omega
  clear ht
  go_enter Tryz.func56,Tryz.ntmps56
  go_upto_region 7 with (first
   | (go_at_call 71;(with_reducible refine (krgetF_v b x y d _ HG.out n2 hn2.out pd hpd.out n c A _ (HR.out.on C.out.bel) HB.out HL.out (by omega) hc (fun i=>F i∧i<w.heap.size) (HF.out.keep (.of_below C.out.bel))).mono ?_);rintro e wn ⟨A1,c1,rfl,k1,r1,hb⟩;have R1:=hI r1;replace C:=hI (C.out.step hb);clear hb r1))
  have BA:=hI ((Below.refl wn.heap.size wn).alloc (Nat.le_refl _) (Pk.obj ⟨t,x,y,[],0,0,[],[],[],[]⟩ pl0 29))
  have P:=hI (C.out.pk ⟨t,x,y,[],0,0,[],[],[],[]⟩ pl0)
  have LT:=C.out.res.lt
  obtain ⟨g,hgg⟩:∃ g,Hid (wn.heap.size=g):=⟨_,hI rfl⟩
  rw [hgg.out] at P LT ⊢
  have R2:=hI ((R1.out.keep (.of_below BA.out)).mono (G:=Nf F w.heap.size g) (fun i _ hf=>⟨hf.1,Nat.ne_of_lt hf.2,Nat.ne_of_lt (Nat.lt_trans hf.2 LT)⟩))
  refine at_worldP (fun W=>Hid (GpC 29 w W g ⟨t,x,y,[],0,0,[],[],[],[]⟩ pl0)∧Hid (RdF (Nf F w.heap.size g) W A1 d)) ⟨P,R2⟩ ?_
  clear P R2 BA LT R1 C HR HF HB HL HG hgg
  rintro wm ⟨P,R2⟩
  have nq1:=Nat.ne_of_lt P.out.lt
  have nq3:=Nat.ne_of_gt P.out.lt
  obtain ⟨x0,x1,x2,x3,x4,x5,x6,x7,x8,x9⟩:=P.out.cf.all;obtain ⟨u0,u1,u2,u3,u4,u5,u6,u7,u8,u9⟩:=P.out.cf.free;obtain ⟨y0,y1,y2,y3,y4,y5,y6,y7,y8,y9⟩:=P.out.res.all;obtain ⟨z0,z1,z2,z3,z4,z5,z6,z7,z8,z9⟩:=P.out.res.free
  go_wp2_with (first
   | (go_at_call 72;(with_reducible refine (prgetF_any t d l _ HO.out n3 hn3.out n2 c1 A1 _ R2.out.rd HD.out hn2.out n2le k1 (Nf F w.heap.size g) R2.out (P.out.farF HFF.out)).mono ?_);rintro e wk ⟨A3,c3,rfl,r3,hb⟩;have R3:=hI r3;replace P:=hI (P.out.step hb);clear hb r3 R2;clear x0 x1 x2 x3 x4 x5 x6 x7 x8 x9 u0 u1 u2 u3 u4 u5 u6 u7 u8 u9 y0 y1 y2 y3 y4 y5 y6 y7 y8 y9 z0 z1 z2 z3 z4 z5 z6 z7 z8 z9;obtain ⟨x0,x1,x2,x3,x4,x5,x6,x7,x8,x9⟩:=P.out.cf.all;obtain ⟨u0,u1,u2,u3,u4,u5,u6,u7,u8,u9⟩:=P.out.cf.free;obtain ⟨y0,y1,y2,y3,y4,y5,y6,y7,y8,y9⟩:=P.out.res.all;obtain ⟨z0,z1,z2,z3,z4,z5,z6,z7,z8,z9⟩:=P.out.res.free))
  refine bodyPost_ret (v:=.tuple #[Pk.val ⟨t,x,y,l,0,0,[],[],[],[]⟩ { pl0 with ao:=A3,no:=n3,co:=c3 },.int .i64 0]) ?_ rfl (GetF.mk { pl0 with ao:=A3,no:=n3,co:=c3 } rfl ?_ (put10_below (P.out.set 3 (.slice A3 n3 c3) (P.out.cf.setOpts A3 n3 c3 l)).bel (Nat.le_refl _) ⟨t,x,y,l,0,0,[],[],[],[]⟩ { pl0 with ao:=A3,no:=n3,co:=c3 }))
  ·exact results_row_tmpP rfl _ _ _ w.heap.size 29 _ _ _ rfl rfl (put10_px (P.out.set 3 (.slice A3 n3 c3) (P.out.cf.setOpts A3 n3 c3 l)).res ⟨t,x,y,l,0,0,[],[],[],[]⟩ { pl0 with ao:=A3,no:=n3,co:=c3 }) Tryz.underlying29 (by kernel_rfl)
  ·exact ((pwF_opts t x y 0 0 hn3.out R3.out).keep ((keeps_f1 F wk w.heap.size g 3 (.slice A3 n3 c3)).trans (keeps_f2 F _ w.heap.size g ⟨t,x,y,l,0,0,[],[],[],[]⟩ { pl0 with ao:=A3,no:=n3,co:=c3 }))).mono (fun _ _ h=>h.1)
theorem nrg_opts_no (t:Nat) (b:List Nat) (n c:Nat) (A:Option Addr) (w:World) (ht:t=32801∨t=32855) (F:Nat→Prop) (hF:∀ i,w.heap.size≤i→F i) (h:RdF F w A b) (hb:By b) (hl:b.length=n) (hn:n≤1073741824) (hc:n≤c) (x y:Nat) (d:List Nat) (hg:kgetB b=(x,y,d,0)) (hk:1≤x∧x≤4) (l:List (Nat × List Nat)) (kk:Nat) (ho:getO t d=(l,kk)) (hkk:¬ kk=0) :
  Calls Tryz.prog 56 #[.int .i64 (t:Int),.slice A n c] w (GetF F w pk0 kk):=by
 have C:=hI (GeC.made 29 w)
 have HR:=hI h.rd
 have HFF:=hI hF
 have HF:=hI h.ltF
 have HB:=hI hb
 have HL:=hI hl
 have HG:=hI hg
 obtain ⟨pd,hpd⟩:∃ pd,Hid (kpadB b=pd):=⟨_,hI rfl⟩
 obtain ⟨n2,hn2⟩:∃ n2,Hid (d.length=n2):=⟨_,hI rfl⟩
 have hd1:=kget_bytes hb hg
 have HD:=hI hd1.1
 have n2le:n2≤1073741824:=by have:=hd1.2;have:=hn2.out;omega
 have wt:IntKind.u16.wrap (t:Int)=(t:Int):=by rw [IntKind.wrap_u16];omega
 have f0:((x:Int) == 0)=false:=by simp;omega
 have f4:¬ (4:Int)<(x:Int):=by omega
 have HO:=hI ho
 obtain ⟨n3,hn3⟩:∃ n3,Hid (l.length=n3):=⟨_,hI rfl⟩
 clear ho
 have j1:((kk:Int) != 0)=true:=by rw [bne_iff_ne];omega
 clear hkk
 clear hF h hb hl hg hk hd1
 rcases ht with ht | ht
 ·have q1:((t:Int) != 32801)=false:=by simp;omega
  clear ht
  go_enter Tryz.func56,Tryz.ntmps56
  go_upto_region 7 with (first
   | (go_at_call 71;(with_reducible refine (krgetF_v b x y d _ HG.out n2 hn2.out pd hpd.out n c A _ (HR.out.on C.out.bel) HB.out HL.out (by omega) hc (fun i=>F i∧i<w.heap.size) (HF.out.keep (.of_below C.out.bel))).mono ?_);rintro e wn ⟨A1,c1,rfl,k1,r1,hb⟩;have R1:=hI r1;replace C:=hI (C.out.step hb);clear hb r1))
  have BA:=hI ((Below.refl wn.heap.size wn).alloc (Nat.le_refl _) (Pk.obj ⟨t,x,y,[],0,0,[],[],[],[]⟩ pl0 29))
  have P:=hI (C.out.pk ⟨t,x,y,[],0,0,[],[],[],[]⟩ pl0)
  have LT:=C.out.res.lt
  obtain ⟨g,hgg⟩:∃ g,Hid (wn.heap.size=g):=⟨_,hI rfl⟩
  rw [hgg.out] at P LT ⊢
  have R2:=hI ((R1.out.keep (.of_below BA.out)).mono (G:=Nf F w.heap.size g) (fun i _ hf=>⟨hf.1,Nat.ne_of_lt hf.2,Nat.ne_of_lt (Nat.lt_trans hf.2 LT)⟩))
  refine at_worldP (fun W=>Hid (GpC 29 w W g ⟨t,x,y,[],0,0,[],[],[],[]⟩ pl0)∧Hid (RdF (Nf F w.heap.size g) W A1 d)) ⟨P,R2⟩ ?_
  clear P R2 BA LT R1 C HR HF HB HL HG hgg
  rintro wm ⟨P,R2⟩
  have nq1:=Nat.ne_of_lt P.out.lt
  have nq3:=Nat.ne_of_gt P.out.lt
  obtain ⟨x0,x1,x2,x3,x4,x5,x6,x7,x8,x9⟩:=P.out.cf.all;obtain ⟨u0,u1,u2,u3,u4,u5,u6,u7,u8,u9⟩:=P.out.cf.free;obtain ⟨y0,y1,y2,y3,y4,y5,y6,y7,y8,y9⟩:=P.out.res.all;obtain ⟨z0,z1,z2,z3,z4,z5,z6,z7,z8,z9⟩:=P.out.res.free
  go_wp2_with (first
   | (go_at_call 72;(with_reducible refine (prgetF_any t d l _ HO.out n3 hn3.out n2 c1 A1 _ R2.out.rd HD.out hn2.out n2le k1 (Nf F w.heap.size g) R2.out (P.out.farF HFF.out)).mono ?_);rintro e wk ⟨A3,c3,rfl,r3,hb⟩;have R3:=hI r3;replace P:=hI (P.out.step hb);clear hb r3 R2;clear x0 x1 x2 x3 x4 x5 x6 x7 x8 x9 u0 u1 u2 u3 u4 u5 u6 u7 u8 u9 y0 y1 y2 y3 y4 y5 y6 y7 y8 y9 z0 z1 z2 z3 z4 z5 z6 z7 z8 z9;obtain ⟨x0,x1,x2,x3,x4,x5,x6,x7,x8,x9⟩:=P.out.cf.all;obtain ⟨u0,u1,u2,u3,u4,u5,u6,u7,u8,u9⟩:=P.out.cf.free;obtain ⟨y0,y1,y2,y3,y4,y5,y6,y7,y8,y9⟩:=P.out.res.all;obtain ⟨z0,z1,z2,z3,z4,z5,z6,z7,z8,z9⟩:=P.out.res.free))
  refine bodyPost_ret (v:=.tuple #[Pk.val pk0 pl0,.int .i64 (kk:Int)]) ?_ rfl (GetF.mk pl0 rfl ?_ (put10_below P.out.bel (Nat.le_refl _) pk0 pl0))
  ·exact results_row_tmpP rfl _ _ _ w.heap.size 29 _ _ _ rfl rfl (put10_px P.out.res pk0 pl0) Tryz.underlying29 (by kernel_rfl)
  ·exact pwF0
 ·have q1:((t:Int) != 32801)=true:=by rw [bne_iff_ne];omega
  have q2:((t:Int) != 32855)=false:=by simp;omega
  clear ht
  go_enter Tryz.func56,Tryz.ntmps56
  go_upto_region 7 with (first
   | (go_at_call 71;(with_reducible refine (krgetF_v b x y d _ HG.out n2 hn2.out pd hpd.out n c A _ (HR.out.on C.out.bel) HB.out HL.out (by omega) hc (fun i=>F i∧i<w.heap.size) (HF.out.keep (.of_below C.out.bel))).mono ?_);rintro e wn ⟨A1,c1,rfl,k1,r1,hb⟩;have R1:=hI r1;replace C:=hI (C.out.step hb);clear hb r1))
  have BA:=hI ((Below.refl wn.heap.size wn).alloc (Nat.le_refl _) (Pk.obj ⟨t,x,y,[],0,0,[],[],[],[]⟩ pl0 29))
  have P:=hI (C.out.pk ⟨t,x,y,[],0,0,[],[],[],[]⟩ pl0)
  have LT:=C.out.res.lt
  obtain ⟨g,hgg⟩:∃ g,Hid (wn.heap.size=g):=⟨_,hI rfl⟩
  rw [hgg.out] at P LT ⊢
  have R2:=hI ((R1.out.keep (.of_below BA.out)).mono (G:=Nf F w.heap.size g) (fun i _ hf=>⟨hf.1,Nat.ne_of_lt hf.2,Nat.ne_of_lt (Nat.lt_trans hf.2 LT)⟩))
  refine at_worldP (fun W=>Hid (GpC 29 w W g ⟨t,x,y,[],0,0,[],[],[],[]⟩ pl0)∧Hid (RdF (Nf F w.heap.size g) W A1 d)) ⟨P,R2⟩ ?_
  clear P R2 BA LT R1 C HR HF HB HL HG hgg
  rintro wm ⟨P,R2⟩
  have nq1:=Nat.ne_of_lt P.out.lt
  have nq3:=Nat.ne_of_gt P.out.lt
  obtain ⟨x0,x1,x2,x3,x4,x5,x6,x7,x8,x9⟩:=P.out.cf.all;obtain ⟨u0,u1,u2,u3,u4,u5,u6,u7,u8,u9⟩:=P.out.cf.free;obtain ⟨y0,y1,y2,y3,y4,y5,y6,y7,y8,y9⟩:=P.out.res.all;obtain ⟨z0,z1,z2,z3,z4,z5,z6,z7,z8,z9⟩:=P.out.res.free
  go_wp2_with (first
   | (go_at_call 72;(with_reducible refine (prgetF_any t d l _ HO.out n3 hn3.out n2 c1 A1 _ R2.out.rd HD.out hn2.out n2le k1 (Nf F w.heap.size g) R2.out (P.out.farF HFF.out)).mono ?_);rintro e wk ⟨A3,c3,rfl,r3,hb⟩;have R3:=hI r3;replace P:=hI (P.out.step hb);clear hb r3 R2;clear x0 x1 x2 x3 x4 x5 x6 x7 x8 x9 u0 u1 u2 u3 u4 u5 u6 u7 u8 u9 y0 y1 y2 y3 y4 y5 y6 y7 y8 y9 z0 z1 z2 z3 z4 z5 z6 z7 z8 z9;obtain ⟨x0,x1,x2,x3,x4,x5,x6,x7,x8,x9⟩:=P.out.cf.all;obtain ⟨u0,u1,u2,u3,u4,u5,u6,u7,u8,u9⟩:=P.out.cf.free;obtain ⟨y0,y1,y2,y3,y4,y5,y6,y7,y8,y9⟩:=P.out.res.all;obtain ⟨z0,z1,z2,z3,z4,z5,z6,z7,z8,z9⟩:=P.out.res.free))
  refine bodyPost_ret (v:=.tuple #[Pk.val pk0 pl0,.int .i64 (kk:Int)]) ?_ rfl (GetF.mk pl0 rfl ?_ (put10_below P.out.bel (Nat.le_refl _) pk0 pl0))
  ·exact results_row_tmpP rfl _ _ _ w.heap.size 29 _ _ _ rfl rfl (put10_px P.out.res pk0 pl0) Tryz.underlying29 (by kernel_rfl)
  ·exact pwF0
theorem nrgF_any (t:Nat) (b:List Nat) (n c:Nat) (A:Option Addr) (w:World) (F:Nat→Prop) (hF:∀ i,w.heap.size≤i→F i) (h:RdF F w A b) (hb:By b) (hl:b.length=n) (hn:n≤1073741824) (hc:n≤c) (p:Pk) (k:Nat) (hp:ngetB t b=(p,k)) :
  Calls Tryz.prog 56 #[.int .i64 (t:Int),.slice A n c] w (GetF F w p k):=by
 by_cases ht:t=32801∨t=32855
 case neg =>
  rw [nget_kind ht] at hp
  obtain ⟨rfl,rfl⟩:=Prod.mk.inj hp
  exact nrg_kind t b n c A w F ht
 obtain ⟨x,y,d,e,hg⟩:∃ x y d e,kgetB b=(x,y,d,e):=⟨_,_,_,_,rfl⟩
 by_cases he:e=0
 case neg =>
  rw [nget_no ht hg he] at hp
  obtain ⟨rfl,rfl⟩:=Prod.mk.inj hp
  exact nrg_no t b n c A w ht F hF h hb hl hn hc x y d e hg he
 subst he
 rw [nget_of ht hg,nrdB] at hp
 by_cases hk:1≤x∧x≤4
 case neg =>
  rw [if_neg hk] at hp
  obtain ⟨rfl,rfl⟩:=Prod.mk.inj hp
  by_cases h0:x=0
  ·exact nrg_zero t b n c A w ht F hF h hb hl hn hc x y d hg h0
  ·exact nrg_high t b n c A w ht F hF h hb hl hn hc x y d hg (by omega)
 rw [if_pos hk] at hp
 obtain ⟨l,kk,ho⟩:∃ l kk,getO t d=(l,kk):=⟨_,_,rfl⟩
 rw [ho] at hp
 dsimp only at hp
 by_cases h0:kk=0
 ·subst h0
  rw [if_pos rfl] at hp
  obtain ⟨rfl,rfl⟩:=Prod.mk.inj hp
  exact nrg_opts t b n c A w ht F hF h hb hl hn hc x y d hg hk l ho
 ·rw [if_neg h0] at hp
  obtain ⟨rfl,rfl⟩:=Prod.mk.inj hp
  exact nrg_opts_no t b n c A w ht F hF h hb hl hn hc x y d hg hk l kk ho h0
end Go.Proofs.YtmhjnghomihjlaaGreat
