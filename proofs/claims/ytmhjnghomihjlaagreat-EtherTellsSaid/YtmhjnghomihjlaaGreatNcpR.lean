/-
  What the document's Put of layer 16 answers, case by case of the code. No condition beyond: packets that Go may have, at most 2^30 elements in each slice.
-/
import Derived.Test.YtmhjnghomihjlaaGreatNcpP
import Derived.Deep.CutRange
import Derived.Deep.RegionHeld3
namespace Go.Proofs.YtmhjnghomihjlaaGreat
set_option maxRecDepth 8000
set_option maxHeartbeats 80000000
set_option linter.unusedVariables false
open Go.RowKit
theorem nrp_kind (p:Pk) (q:Pl) (w:World) (h1:¬ (p.proto=32801∨p.proto=32855)) :
  Calls Tryz.prog 49 #[p.val q] w (PutR w [] 0 8):=by
 have C:=hI (BxC.made 29 w p q)
 have j1:((p.proto:Int) != 32801)=true:=by rw [bne_iff_ne];omega
 have j2:((p.proto:Int) != 32855)=true:=by rw [bne_iff_ne];omega
 clear h1
 go_enter Tryz.func49,Tryz.ntmps49
 go_upto_region 1 with fail
 obtain ⟨wm,hwm⟩:∃ wm,wm=w.alloc (p.obj q 29):=⟨_,rfl⟩
 rw [←hwm] at C ⊢
 clear hwm
 obtain ⟨x0,x1,x2,x3,x4,x5,x6,x7,x8,x9⟩:=C.out.cf.all
 have b0:w.heap.size<wm.heap.size:=C.out.cf.lt
 go_wp2_with fail
 go_ret2
 exact PutR.mk none 0 rfl Rd.nil (Nat.le_refl _) C.out.bel
theorem nrp_bad_1 (p : Pk) (q : Pl) (w : World) (h : Pw w p q) (hok : p.ok) (hs : p.sm) (h1 : p.proto = 32801 ∨ p.proto = 32855) (hc : p.code = 1) (hr : nothL (restN p) = false) :
    Calls Tryz.prog 49 #[p.val q] w (PutR w [] 0 9) := by
  have C := Lib.hid (BxC.made 29 w p q)
  have BAD := Lib.hid (show ¬ (q.nd = 0 ∧ p.sub = 0 ∧ p.magic = 0 ∧ q.n1 = 0 ∧ q.n2 = 0 ∧ q.nn = 0) from fun hh => by
    have := (nothN_iff p).2 ⟨fun _ => by rw [h.ld]; exact hh.1, fun _ => by omega, hh.2.1, hh.2.2.1, by rw [h.l1]; exact hh.2.2.2.1, by rw [h.l2]; exact hh.2.2.2.2.1, by rw [h.ln]; exact hh.2.2.2.2.2⟩
    rw [hr] at this
    cases this)
  have t1 : ((p.code : Int) == 1) = true := by simp; omega
  clear hc hr h hs hok
  rcases h1 with h1 | h1
  · have j1 : ((p.proto : Int) != 32801) = false := by simp; omega
    clear h1
    go_enter Tryz.func49, Tryz.ntmps49
    go_upto_region 1 with fail
    obtain ⟨wm, hwm⟩ : ∃ wm, wm = w.alloc (p.obj q 29) := ⟨_, rfl⟩
    rw [← hwm] at C ⊢
    clear hwm
    obtain ⟨x0, x1, x2, x3, x4, x5, x6, x7, x8, x9⟩ := C.out.cf.all
    have b0 : w.heap.size < wm.heap.size := C.out.cf.lt
    go_wp2_with fail
    all_goals first
      | (go_ret2
         exact PutR.mk none 0 rfl Rd.nil (Nat.le_refl _) C.out.bel)
      | (exfalso
         refine BAD.out ⟨?_, ?_, ?_, ?_, ?_, ?_⟩ <;> first | assumption | omega | (simp_all; done) | (simp_all; omega))
  · have j1 : ((p.proto : Int) != 32801) = true := by rw [bne_iff_ne]; omega
    have j2 : ((p.proto : Int) != 32855) = false := by simp; omega
    clear h1
    go_enter Tryz.func49, Tryz.ntmps49
    go_upto_region 1 with fail
    obtain ⟨wm, hwm⟩ : ∃ wm, wm = w.alloc (p.obj q 29) := ⟨_, rfl⟩
    rw [← hwm] at C ⊢
    clear hwm
    obtain ⟨x0, x1, x2, x3, x4, x5, x6, x7, x8, x9⟩ := C.out.cf.all
    have b0 : w.heap.size < wm.heap.size := C.out.cf.lt
    go_wp2_with fail
    all_goals first
      | (go_ret2
         exact PutR.mk none 0 rfl Rd.nil (Nat.le_refl _) C.out.bel)
      | (exfalso
         refine BAD.out ⟨?_, ?_, ?_, ?_, ?_, ?_⟩ <;> first | assumption | omega | (simp_all; done) | (simp_all; omega))
theorem nrp_err_1 (p:Pk) (q:Pl) (w:World) (h:Pw w p q) (hok:p.ok) (hs:p.sm) (h1:p.proto=32801∨p.proto=32855) (hc:p.code=1) (hr:nothL (restN p)=true) (m2:List Nat) (k2:Nat) (hw:putO p.proto p.opts=(m2,k2)) (hk2:¬ k2=0) :
  Calls Tryz.prog 49 #[p.val q] w (PutR w [] 0 k2):=by
 have C:=hI (BxC.made 29 w p q)
 have H:=hI h
 obtain ⟨g1,g2,g3,g4,g5,g6,g7⟩:=(nothN_iff p).1 hr
 have d1:¬ (0:Int)<(q.nd:Int):=by have:=g1 (by omega);rw [h.ld] at this;omega
 have d2:((p.sub:Int) != 0)=false:=by simp;omega
 have d3:((p.magic:Int) != 0)=false:=by simp;omega
 have d4:¬ (0:Int)<(q.n1:Int):=by rw [h.l1] at g5;omega
 have d5:¬ (0:Int)<(q.n2:Int):=by rw [h.l2] at g6;omega
 have d6:¬ (0:Int)<(q.nn:Int):=by rw [h.ln] at g7;omega
 have s8:q.nd≤1073741824:=by rw [←h.ld];exact hs.nd
 have HD:=hI (Nat.le_trans hs.d (by decide):datB p.opts≤68719476736)
 have s1:q.no≤68719476736:=by rw [←h.lo];exact Nat.le_trans hs.o (by decide)
 have fp:IntKind.i64.wrap (p.proto:Int)=(p.proto:Int):=IntWalk.i64_in _ (by have:=hok.proto;omega)
 have t1:((p.code:Int) == 1)=true:=by simp;omega
 have HW:=hI hw
 have j9:((k2:Int) != 0)=true:=by rw [bne_iff_ne];omega
 clear hc hr h hs hok g1 g2 g3 g4 g5 g6 g7 hw hk2
 rcases h1 with h1 | h1
 ·have j1:((p.proto:Int) != 32801)=false:=by simp;omega
  clear h1
  go_enter Tryz.func49,Tryz.ntmps49
  go_upto_region 1 with fail
  obtain ⟨wm,hwm⟩:∃ wm,wm=w.alloc (p.obj q 29):=⟨_,rfl⟩
  rw [←hwm] at C ⊢
  clear hwm
  obtain ⟨x0,x1,x2,x3,x4,x5,x6,x7,x8,x9⟩:=C.out.cf.all
  have b0:w.heap.size<wm.heap.size:=C.out.cf.lt
  go_wp2_with (first
   | (go_at_call 67;(with_reducible refine (prput_any p.proto p.opts m2 k2 HW.out m2.length rfl q.no q.co q.ao _ _ (H.out.on C.out.bel).ro H.out.lo s1 HD.out).mono ?_);rintro e wn ⟨A4,c4,rfl,h4,h4c,hb⟩;replace C:=hI (C.out.step hb);clear h4 h4c hb x0 x1 x2 x3 x4 x5 x6 x7 x8 x9))
  go_ret2
  exact PutR.mk none 0 rfl Rd.nil (Nat.le_refl _) C.out.bel
 ·have j1:((p.proto:Int) != 32801)=true:=by rw [bne_iff_ne];omega
  have j2:((p.proto:Int) != 32855)=false:=by simp;omega
  clear h1
  go_enter Tryz.func49,Tryz.ntmps49
  go_upto_region 1 with fail
  obtain ⟨wm,hwm⟩:∃ wm,wm=w.alloc (p.obj q 29):=⟨_,rfl⟩
  rw [←hwm] at C ⊢
  clear hwm
  obtain ⟨x0,x1,x2,x3,x4,x5,x6,x7,x8,x9⟩:=C.out.cf.all
  have b0:w.heap.size<wm.heap.size:=C.out.cf.lt
  go_wp2_with (first
   | (go_at_call 67;(with_reducible refine (prput_any p.proto p.opts m2 k2 HW.out m2.length rfl q.no q.co q.ao _ _ (H.out.on C.out.bel).ro H.out.lo s1 HD.out).mono ?_);rintro e wn ⟨A4,c4,rfl,h4,h4c,hb⟩;replace C:=hI (C.out.step hb);clear h4 h4c hb x0 x1 x2 x3 x4 x5 x6 x7 x8 x9))
  go_ret2
  exact PutR.mk none 0 rfl Rd.nil (Nat.le_refl _) C.out.bel
theorem nrp_ok_1 (p:Pk) (q:Pl) (w:World) (h:Pw w p q) (hok:p.ok) (hs:p.sm) (h1:p.proto=32801∨p.proto=32855) (hc:p.code=1) (hr:nothL (restN p)=true) (m2:List Nat) (k2:Nat) (hw:putO p.proto p.opts=(m2,k2)) (hk2:k2=0) (m:List Nat) (k:Nat) (hm:kputA p.code p.id m2=m) (he:kerrP m2=k) (n:Nat) (hn:m.length=n) :
  Calls Tryz.prog 49 #[p.val q] w (PutR w m n k):=by
 have C:=hI (BxC.made 29 w p q)
 have H:=hI h
 obtain ⟨g1,g2,g3,g4,g5,g6,g7⟩:=(nothN_iff p).1 hr
 have d1:¬ (0:Int)<(q.nd:Int):=by have:=g1 (by omega);rw [h.ld] at this;omega
 have d2:((p.sub:Int) != 0)=false:=by simp;omega
 have d3:((p.magic:Int) != 0)=false:=by simp;omega
 have d4:¬ (0:Int)<(q.n1:Int):=by rw [h.l1] at g5;omega
 have d5:¬ (0:Int)<(q.n2:Int):=by rw [h.l2] at g6;omega
 have d6:¬ (0:Int)<(q.nn:Int):=by rw [h.ln] at g7;omega
 have s8:q.nd≤1073741824:=by rw [←h.ld];exact hs.nd
 have HD:=hI (Nat.le_trans hs.d (by decide):datB p.opts≤68719476736)
 have s1:q.no≤68719476736:=by rw [←h.lo];exact Nat.le_trans hs.o (by decide)
 have fp:IntKind.i64.wrap (p.proto:Int)=(p.proto:Int):=IntWalk.i64_in _ (by have:=hok.proto;omega)
 have t1:((p.code:Int) == 1)=true:=by simp;omega
 subst hk2
 have HW:=hI hw
 have HM:=hI hm
 have HE:=hI he
 have HN:=hI hn
 obtain ⟨n2,hn2⟩:∃ n2,Hid (m2.length=n2):=⟨_,hI rfl⟩
 have s2:n2≤274877906944:=by
  have e:=hw
  unfold putO at e
  split at e
  ·have e2:=(Prod.mk.inj e).1
   rw [←hn2.out,← e2,put_len]
   have:=hs.o;have:=hs.d;omega
  ·rw [←hn2.out,← (Prod.mk.inj e).1];simp
 clear hc hr h hs hok g1 g2 g3 g4 g5 g6 g7 hw hm he hn
 rcases h1 with h1 | h1
 ·have j1:((p.proto:Int) != 32801)=false:=by simp;omega
  clear h1
  go_enter Tryz.func49,Tryz.ntmps49
  go_upto_region 1 with fail
  obtain ⟨wm,hwm⟩:∃ wm,wm=w.alloc (p.obj q 29):=⟨_,rfl⟩
  rw [←hwm] at C ⊢
  clear hwm
  obtain ⟨x0,x1,x2,x3,x4,x5,x6,x7,x8,x9⟩:=C.out.cf.all
  have b0:w.heap.size<wm.heap.size:=C.out.cf.lt
  go_wp2_with (first
   | (go_at_call 67;(with_reducible refine (prput_any p.proto p.opts m2 _ HW.out n2 hn2.out q.no q.co q.ao _ _ (H.out.on C.out.bel).ro H.out.lo s1 HD.out).mono ?_);rintro e wn ⟨A4,c4,rfl,h4,h4c,hb⟩;replace C:=hI (C.out.step hb);have X:=hI h4;clear h4 h4c hb x0 x1 x2 x3 x4 x5 x6 x7 x8 x9;obtain ⟨x0,x1,x2,x3,x4,x5,x6,x7,x8,x9⟩:=C.out.cf.all)
   | (go_at_call 68;(with_reducible refine (krput_v p.code p.id m2 _ HE.out m HM.out n HN.out n2 _ _ _ X.out hn2.out s2).mono ?_);rintro e wn ⟨A5,c5,rfl,h5,h5c,hb⟩;replace C:=hI (C.out.step hb);clear X;have X:=hI h5;have K:=hI h5c;clear h5 h5c hb))
  go_ret2
  exact PutR.mk _ _ rfl X.out K.out C.out.bel
 ·have j1:((p.proto:Int) != 32801)=true:=by rw [bne_iff_ne];omega
  have j2:((p.proto:Int) != 32855)=false:=by simp;omega
  clear h1
  go_enter Tryz.func49,Tryz.ntmps49
  go_upto_region 1 with fail
  obtain ⟨wm,hwm⟩:∃ wm,wm=w.alloc (p.obj q 29):=⟨_,rfl⟩
  rw [←hwm] at C ⊢
  clear hwm
  obtain ⟨x0,x1,x2,x3,x4,x5,x6,x7,x8,x9⟩:=C.out.cf.all
  have b0:w.heap.size<wm.heap.size:=C.out.cf.lt
  go_wp2_with (first
   | (go_at_call 67;(with_reducible refine (prput_any p.proto p.opts m2 _ HW.out n2 hn2.out q.no q.co q.ao _ _ (H.out.on C.out.bel).ro H.out.lo s1 HD.out).mono ?_);rintro e wn ⟨A4,c4,rfl,h4,h4c,hb⟩;replace C:=hI (C.out.step hb);have X:=hI h4;clear h4 h4c hb x0 x1 x2 x3 x4 x5 x6 x7 x8 x9;obtain ⟨x0,x1,x2,x3,x4,x5,x6,x7,x8,x9⟩:=C.out.cf.all)
   | (go_at_call 68;(with_reducible refine (krput_v p.code p.id m2 _ HE.out m HM.out n HN.out n2 _ _ _ X.out hn2.out s2).mono ?_);rintro e wn ⟨A5,c5,rfl,h5,h5c,hb⟩;replace C:=hI (C.out.step hb);clear X;have X:=hI h5;have K:=hI h5c;clear h5 h5c hb))
  go_ret2
  exact PutR.mk _ _ rfl X.out K.out C.out.bel
theorem nrp_bad_2 (p : Pk) (q : Pl) (w : World) (h : Pw w p q) (hok : p.ok) (hs : p.sm) (h1 : p.proto = 32801 ∨ p.proto = 32855) (hc : p.code = 2) (hr : nothL (restN p) = false) :
    Calls Tryz.prog 49 #[p.val q] w (PutR w [] 0 9) := by
  have C := Lib.hid (BxC.made 29 w p q)
  have BAD := Lib.hid (show ¬ (q.nd = 0 ∧ p.sub = 0 ∧ p.magic = 0 ∧ q.n1 = 0 ∧ q.n2 = 0 ∧ q.nn = 0) from fun hh => by
    have := (nothN_iff p).2 ⟨fun _ => by rw [h.ld]; exact hh.1, fun _ => by omega, hh.2.1, hh.2.2.1, by rw [h.l1]; exact hh.2.2.2.1, by rw [h.l2]; exact hh.2.2.2.2.1, by rw [h.ln]; exact hh.2.2.2.2.2⟩
    rw [hr] at this
    cases this)
  have t1 : ((p.code : Int) == 1) = false := by simp; omega
  have t2 : ((p.code : Int) == 2) = true := by simp; omega
  clear hc hr h hs hok
  rcases h1 with h1 | h1
  · have j1 : ((p.proto : Int) != 32801) = false := by simp; omega
    clear h1
    go_enter Tryz.func49, Tryz.ntmps49
    go_upto_region 1 with fail
    obtain ⟨wm, hwm⟩ : ∃ wm, wm = w.alloc (p.obj q 29) := ⟨_, rfl⟩
    rw [← hwm] at C ⊢
    clear hwm
    obtain ⟨x0, x1, x2, x3, x4, x5, x6, x7, x8, x9⟩ := C.out.cf.all
    have b0 : w.heap.size < wm.heap.size := C.out.cf.lt
    go_wp2_with fail
    all_goals first
      | (go_ret2
         exact PutR.mk none 0 rfl Rd.nil (Nat.le_refl _) C.out.bel)
      | (exfalso
         refine BAD.out ⟨?_, ?_, ?_, ?_, ?_, ?_⟩ <;> first | assumption | omega | (simp_all; done) | (simp_all; omega))
  · have j1 : ((p.proto : Int) != 32801) = true := by rw [bne_iff_ne]; omega
    have j2 : ((p.proto : Int) != 32855) = false := by simp; omega
    clear h1
    go_enter Tryz.func49, Tryz.ntmps49
    go_upto_region 1 with fail
    obtain ⟨wm, hwm⟩ : ∃ wm, wm = w.alloc (p.obj q 29) := ⟨_, rfl⟩
    rw [← hwm] at C ⊢
    clear hwm
    obtain ⟨x0, x1, x2, x3, x4, x5, x6, x7, x8, x9⟩ := C.out.cf.all
    have b0 : w.heap.size < wm.heap.size := C.out.cf.lt
    go_wp2_with fail
    all_goals first
      | (go_ret2
         exact PutR.mk none 0 rfl Rd.nil (Nat.le_refl _) C.out.bel)
      | (exfalso
         refine BAD.out ⟨?_, ?_, ?_, ?_, ?_, ?_⟩ <;> first | assumption | omega | (simp_all; done) | (simp_all; omega))
theorem nrp_err_2 (p:Pk) (q:Pl) (w:World) (h:Pw w p q) (hok:p.ok) (hs:p.sm) (h1:p.proto=32801∨p.proto=32855) (hc:p.code=2) (hr:nothL (restN p)=true) (m2:List Nat) (k2:Nat) (hw:putO p.proto p.opts=(m2,k2)) (hk2:¬ k2=0) :
  Calls Tryz.prog 49 #[p.val q] w (PutR w [] 0 k2):=by
 have C:=hI (BxC.made 29 w p q)
 have H:=hI h
 obtain ⟨g1,g2,g3,g4,g5,g6,g7⟩:=(nothN_iff p).1 hr
 have d1:¬ (0:Int)<(q.nd:Int):=by have:=g1 (by omega);rw [h.ld] at this;omega
 have d2:((p.sub:Int) != 0)=false:=by simp;omega
 have d3:((p.magic:Int) != 0)=false:=by simp;omega
 have d4:¬ (0:Int)<(q.n1:Int):=by rw [h.l1] at g5;omega
 have d5:¬ (0:Int)<(q.n2:Int):=by rw [h.l2] at g6;omega
 have d6:¬ (0:Int)<(q.nn:Int):=by rw [h.ln] at g7;omega
 have s8:q.nd≤1073741824:=by rw [←h.ld];exact hs.nd
 have HD:=hI (Nat.le_trans hs.d (by decide):datB p.opts≤68719476736)
 have s1:q.no≤68719476736:=by rw [←h.lo];exact Nat.le_trans hs.o (by decide)
 have fp:IntKind.i64.wrap (p.proto:Int)=(p.proto:Int):=IntWalk.i64_in _ (by have:=hok.proto;omega)
 have t1:((p.code:Int) == 1)=false:=by simp;omega
 have t2:((p.code:Int) == 2)=true:=by simp;omega
 have HW:=hI hw
 have j9:((k2:Int) != 0)=true:=by rw [bne_iff_ne];omega
 clear hc hr h hs hok g1 g2 g3 g4 g5 g6 g7 hw hk2
 rcases h1 with h1 | h1
 ·have j1:((p.proto:Int) != 32801)=false:=by simp;omega
  clear h1
  go_enter Tryz.func49,Tryz.ntmps49
  go_upto_region 1 with fail
  obtain ⟨wm,hwm⟩:∃ wm,wm=w.alloc (p.obj q 29):=⟨_,rfl⟩
  rw [←hwm] at C ⊢
  clear hwm
  obtain ⟨x0,x1,x2,x3,x4,x5,x6,x7,x8,x9⟩:=C.out.cf.all
  have b0:w.heap.size<wm.heap.size:=C.out.cf.lt
  go_wp2_with (first
   | (go_at_call 67;(with_reducible refine (prput_any p.proto p.opts m2 k2 HW.out m2.length rfl q.no q.co q.ao _ _ (H.out.on C.out.bel).ro H.out.lo s1 HD.out).mono ?_);rintro e wn ⟨A4,c4,rfl,h4,h4c,hb⟩;replace C:=hI (C.out.step hb);clear h4 h4c hb x0 x1 x2 x3 x4 x5 x6 x7 x8 x9))
  go_ret2
  exact PutR.mk none 0 rfl Rd.nil (Nat.le_refl _) C.out.bel
 ·have j1:((p.proto:Int) != 32801)=true:=by rw [bne_iff_ne];omega
  have j2:((p.proto:Int) != 32855)=false:=by simp;omega
  clear h1
  go_enter Tryz.func49,Tryz.ntmps49
  go_upto_region 1 with fail
  obtain ⟨wm,hwm⟩:∃ wm,wm=w.alloc (p.obj q 29):=⟨_,rfl⟩
  rw [←hwm] at C ⊢
  clear hwm
  obtain ⟨x0,x1,x2,x3,x4,x5,x6,x7,x8,x9⟩:=C.out.cf.all
  have b0:w.heap.size<wm.heap.size:=C.out.cf.lt
  go_wp2_with (first
   | (go_at_call 67;(with_reducible refine (prput_any p.proto p.opts m2 k2 HW.out m2.length rfl q.no q.co q.ao _ _ (H.out.on C.out.bel).ro H.out.lo s1 HD.out).mono ?_);rintro e wn ⟨A4,c4,rfl,h4,h4c,hb⟩;replace C:=hI (C.out.step hb);clear h4 h4c hb x0 x1 x2 x3 x4 x5 x6 x7 x8 x9))
  go_ret2
  exact PutR.mk none 0 rfl Rd.nil (Nat.le_refl _) C.out.bel
theorem nrp_ok_2 (p:Pk) (q:Pl) (w:World) (h:Pw w p q) (hok:p.ok) (hs:p.sm) (h1:p.proto=32801∨p.proto=32855) (hc:p.code=2) (hr:nothL (restN p)=true) (m2:List Nat) (k2:Nat) (hw:putO p.proto p.opts=(m2,k2)) (hk2:k2=0) (m:List Nat) (k:Nat) (hm:kputA p.code p.id m2=m) (he:kerrP m2=k) (n:Nat) (hn:m.length=n) :
  Calls Tryz.prog 49 #[p.val q] w (PutR w m n k):=by
 have C:=hI (BxC.made 29 w p q)
 have H:=hI h
 obtain ⟨g1,g2,g3,g4,g5,g6,g7⟩:=(nothN_iff p).1 hr
 have d1:¬ (0:Int)<(q.nd:Int):=by have:=g1 (by omega);rw [h.ld] at this;omega
 have d2:((p.sub:Int) != 0)=false:=by simp;omega
 have d3:((p.magic:Int) != 0)=false:=by simp;omega
 have d4:¬ (0:Int)<(q.n1:Int):=by rw [h.l1] at g5;omega
 have d5:¬ (0:Int)<(q.n2:Int):=by rw [h.l2] at g6;omega
 have d6:¬ (0:Int)<(q.nn:Int):=by rw [h.ln] at g7;omega
 have s8:q.nd≤1073741824:=by rw [←h.ld];exact hs.nd
 have HD:=hI (Nat.le_trans hs.d (by decide):datB p.opts≤68719476736)
 have s1:q.no≤68719476736:=by rw [←h.lo];exact Nat.le_trans hs.o (by decide)
 have fp:IntKind.i64.wrap (p.proto:Int)=(p.proto:Int):=IntWalk.i64_in _ (by have:=hok.proto;omega)
 have t1:((p.code:Int) == 1)=false:=by simp;omega
 have t2:((p.code:Int) == 2)=true:=by simp;omega
 subst hk2
 have HW:=hI hw
 have HM:=hI hm
 have HE:=hI he
 have HN:=hI hn
 obtain ⟨n2,hn2⟩:∃ n2,Hid (m2.length=n2):=⟨_,hI rfl⟩
 have s2:n2≤274877906944:=by
  have e:=hw
  unfold putO at e
  split at e
  ·have e2:=(Prod.mk.inj e).1
   rw [←hn2.out,← e2,put_len]
   have:=hs.o;have:=hs.d;omega
  ·rw [←hn2.out,← (Prod.mk.inj e).1];simp
 clear hc hr h hs hok g1 g2 g3 g4 g5 g6 g7 hw hm he hn
 rcases h1 with h1 | h1
 ·have j1:((p.proto:Int) != 32801)=false:=by simp;omega
  clear h1
  go_enter Tryz.func49,Tryz.ntmps49
  go_upto_region 1 with fail
  obtain ⟨wm,hwm⟩:∃ wm,wm=w.alloc (p.obj q 29):=⟨_,rfl⟩
  rw [←hwm] at C ⊢
  clear hwm
  obtain ⟨x0,x1,x2,x3,x4,x5,x6,x7,x8,x9⟩:=C.out.cf.all
  have b0:w.heap.size<wm.heap.size:=C.out.cf.lt
  go_wp2_with (first
   | (go_at_call 67;(with_reducible refine (prput_any p.proto p.opts m2 _ HW.out n2 hn2.out q.no q.co q.ao _ _ (H.out.on C.out.bel).ro H.out.lo s1 HD.out).mono ?_);rintro e wn ⟨A4,c4,rfl,h4,h4c,hb⟩;replace C:=hI (C.out.step hb);have X:=hI h4;clear h4 h4c hb x0 x1 x2 x3 x4 x5 x6 x7 x8 x9;obtain ⟨x0,x1,x2,x3,x4,x5,x6,x7,x8,x9⟩:=C.out.cf.all)
   | (go_at_call 68;(with_reducible refine (krput_v p.code p.id m2 _ HE.out m HM.out n HN.out n2 _ _ _ X.out hn2.out s2).mono ?_);rintro e wn ⟨A5,c5,rfl,h5,h5c,hb⟩;replace C:=hI (C.out.step hb);clear X;have X:=hI h5;have K:=hI h5c;clear h5 h5c hb))
  go_ret2
  exact PutR.mk _ _ rfl X.out K.out C.out.bel
 ·have j1:((p.proto:Int) != 32801)=true:=by rw [bne_iff_ne];omega
  have j2:((p.proto:Int) != 32855)=false:=by simp;omega
  clear h1
  go_enter Tryz.func49,Tryz.ntmps49
  go_upto_region 1 with fail
  obtain ⟨wm,hwm⟩:∃ wm,wm=w.alloc (p.obj q 29):=⟨_,rfl⟩
  rw [←hwm] at C ⊢
  clear hwm
  obtain ⟨x0,x1,x2,x3,x4,x5,x6,x7,x8,x9⟩:=C.out.cf.all
  have b0:w.heap.size<wm.heap.size:=C.out.cf.lt
  go_wp2_with (first
   | (go_at_call 67;(with_reducible refine (prput_any p.proto p.opts m2 _ HW.out n2 hn2.out q.no q.co q.ao _ _ (H.out.on C.out.bel).ro H.out.lo s1 HD.out).mono ?_);rintro e wn ⟨A4,c4,rfl,h4,h4c,hb⟩;replace C:=hI (C.out.step hb);have X:=hI h4;clear h4 h4c hb x0 x1 x2 x3 x4 x5 x6 x7 x8 x9;obtain ⟨x0,x1,x2,x3,x4,x5,x6,x7,x8,x9⟩:=C.out.cf.all)
   | (go_at_call 68;(with_reducible refine (krput_v p.code p.id m2 _ HE.out m HM.out n HN.out n2 _ _ _ X.out hn2.out s2).mono ?_);rintro e wn ⟨A5,c5,rfl,h5,h5c,hb⟩;replace C:=hI (C.out.step hb);clear X;have X:=hI h5;have K:=hI h5c;clear h5 h5c hb))
  go_ret2
  exact PutR.mk _ _ rfl X.out K.out C.out.bel
theorem nrp_bad_3 (p : Pk) (q : Pl) (w : World) (h : Pw w p q) (hok : p.ok) (hs : p.sm) (h1 : p.proto = 32801 ∨ p.proto = 32855) (hc : p.code = 3) (hr : nothL (restN p) = false) :
    Calls Tryz.prog 49 #[p.val q] w (PutR w [] 0 9) := by
  have C := Lib.hid (BxC.made 29 w p q)
  have BAD := Lib.hid (show ¬ (q.nd = 0 ∧ p.sub = 0 ∧ p.magic = 0 ∧ q.n1 = 0 ∧ q.n2 = 0 ∧ q.nn = 0) from fun hh => by
    have := (nothN_iff p).2 ⟨fun _ => by rw [h.ld]; exact hh.1, fun _ => by omega, hh.2.1, hh.2.2.1, by rw [h.l1]; exact hh.2.2.2.1, by rw [h.l2]; exact hh.2.2.2.2.1, by rw [h.ln]; exact hh.2.2.2.2.2⟩
    rw [hr] at this
    cases this)
  have t1 : ((p.code : Int) == 1) = false := by simp; omega
  have t2 : ((p.code : Int) == 2) = false := by simp; omega
  have t3 : ((p.code : Int) == 3) = true := by simp; omega
  clear hc hr h hs hok
  rcases h1 with h1 | h1
  · have j1 : ((p.proto : Int) != 32801) = false := by simp; omega
    clear h1
    go_enter Tryz.func49, Tryz.ntmps49
    go_upto_region 1 with fail
    obtain ⟨wm, hwm⟩ : ∃ wm, wm = w.alloc (p.obj q 29) := ⟨_, rfl⟩
    rw [← hwm] at C ⊢
    clear hwm
    obtain ⟨x0, x1, x2, x3, x4, x5, x6, x7, x8, x9⟩ := C.out.cf.all
    have b0 : w.heap.size < wm.heap.size := C.out.cf.lt
    go_wp2_with fail
    all_goals first
      | (go_ret2
         exact PutR.mk none 0 rfl Rd.nil (Nat.le_refl _) C.out.bel)
      | (exfalso
         refine BAD.out ⟨?_, ?_, ?_, ?_, ?_, ?_⟩ <;> first | assumption | omega | (simp_all; done) | (simp_all; omega))
  · have j1 : ((p.proto : Int) != 32801) = true := by rw [bne_iff_ne]; omega
    have j2 : ((p.proto : Int) != 32855) = false := by simp; omega
    clear h1
    go_enter Tryz.func49, Tryz.ntmps49
    go_upto_region 1 with fail
    obtain ⟨wm, hwm⟩ : ∃ wm, wm = w.alloc (p.obj q 29) := ⟨_, rfl⟩
    rw [← hwm] at C ⊢
    clear hwm
    obtain ⟨x0, x1, x2, x3, x4, x5, x6, x7, x8, x9⟩ := C.out.cf.all
    have b0 : w.heap.size < wm.heap.size := C.out.cf.lt
    go_wp2_with fail
    all_goals first
      | (go_ret2
         exact PutR.mk none 0 rfl Rd.nil (Nat.le_refl _) C.out.bel)
      | (exfalso
         refine BAD.out ⟨?_, ?_, ?_, ?_, ?_, ?_⟩ <;> first | assumption | omega | (simp_all; done) | (simp_all; omega))
theorem nrp_err_3 (p:Pk) (q:Pl) (w:World) (h:Pw w p q) (hok:p.ok) (hs:p.sm) (h1:p.proto=32801∨p.proto=32855) (hc:p.code=3) (hr:nothL (restN p)=true) (m2:List Nat) (k2:Nat) (hw:putO p.proto p.opts=(m2,k2)) (hk2:¬ k2=0) :
  Calls Tryz.prog 49 #[p.val q] w (PutR w [] 0 k2):=by
 have C:=hI (BxC.made 29 w p q)
 have H:=hI h
 obtain ⟨g1,g2,g3,g4,g5,g6,g7⟩:=(nothN_iff p).1 hr
 have d1:¬ (0:Int)<(q.nd:Int):=by have:=g1 (by omega);rw [h.ld] at this;omega
 have d2:((p.sub:Int) != 0)=false:=by simp;omega
 have d3:((p.magic:Int) != 0)=false:=by simp;omega
 have d4:¬ (0:Int)<(q.n1:Int):=by rw [h.l1] at g5;omega
 have d5:¬ (0:Int)<(q.n2:Int):=by rw [h.l2] at g6;omega
 have d6:¬ (0:Int)<(q.nn:Int):=by rw [h.ln] at g7;omega
 have s8:q.nd≤1073741824:=by rw [←h.ld];exact hs.nd
 have HD:=hI (Nat.le_trans hs.d (by decide):datB p.opts≤68719476736)
 have s1:q.no≤68719476736:=by rw [←h.lo];exact Nat.le_trans hs.o (by decide)
 have fp:IntKind.i64.wrap (p.proto:Int)=(p.proto:Int):=IntWalk.i64_in _ (by have:=hok.proto;omega)
 have t1:((p.code:Int) == 1)=false:=by simp;omega
 have t2:((p.code:Int) == 2)=false:=by simp;omega
 have t3:((p.code:Int) == 3)=true:=by simp;omega
 have HW:=hI hw
 have j9:((k2:Int) != 0)=true:=by rw [bne_iff_ne];omega
 clear hc hr h hs hok g1 g2 g3 g4 g5 g6 g7 hw hk2
 rcases h1 with h1 | h1
 ·have j1:((p.proto:Int) != 32801)=false:=by simp;omega
  clear h1
  go_enter Tryz.func49,Tryz.ntmps49
  go_upto_region 1 with fail
  obtain ⟨wm,hwm⟩:∃ wm,wm=w.alloc (p.obj q 29):=⟨_,rfl⟩
  rw [←hwm] at C ⊢
  clear hwm
  obtain ⟨x0,x1,x2,x3,x4,x5,x6,x7,x8,x9⟩:=C.out.cf.all
  have b0:w.heap.size<wm.heap.size:=C.out.cf.lt
  go_wp2_with (first
   | (go_at_call 67;(with_reducible refine (prput_any p.proto p.opts m2 k2 HW.out m2.length rfl q.no q.co q.ao _ _ (H.out.on C.out.bel).ro H.out.lo s1 HD.out).mono ?_);rintro e wn ⟨A4,c4,rfl,h4,h4c,hb⟩;replace C:=hI (C.out.step hb);clear h4 h4c hb x0 x1 x2 x3 x4 x5 x6 x7 x8 x9))
  go_ret2
  exact PutR.mk none 0 rfl Rd.nil (Nat.le_refl _) C.out.bel
 ·have j1:((p.proto:Int) != 32801)=true:=by rw [bne_iff_ne];omega
  have j2:((p.proto:Int) != 32855)=false:=by simp;omega
  clear h1
  go_enter Tryz.func49,Tryz.ntmps49
  go_upto_region 1 with fail
  obtain ⟨wm,hwm⟩:∃ wm,wm=w.alloc (p.obj q 29):=⟨_,rfl⟩
  rw [←hwm] at C ⊢
  clear hwm
  obtain ⟨x0,x1,x2,x3,x4,x5,x6,x7,x8,x9⟩:=C.out.cf.all
  have b0:w.heap.size<wm.heap.size:=C.out.cf.lt
  go_wp2_with (first
   | (go_at_call 67;(with_reducible refine (prput_any p.proto p.opts m2 k2 HW.out m2.length rfl q.no q.co q.ao _ _ (H.out.on C.out.bel).ro H.out.lo s1 HD.out).mono ?_);rintro e wn ⟨A4,c4,rfl,h4,h4c,hb⟩;replace C:=hI (C.out.step hb);clear h4 h4c hb x0 x1 x2 x3 x4 x5 x6 x7 x8 x9))
  go_ret2
  exact PutR.mk none 0 rfl Rd.nil (Nat.le_refl _) C.out.bel
theorem nrp_ok_3 (p:Pk) (q:Pl) (w:World) (h:Pw w p q) (hok:p.ok) (hs:p.sm) (h1:p.proto=32801∨p.proto=32855) (hc:p.code=3) (hr:nothL (restN p)=true) (m2:List Nat) (k2:Nat) (hw:putO p.proto p.opts=(m2,k2)) (hk2:k2=0) (m:List Nat) (k:Nat) (hm:kputA p.code p.id m2=m) (he:kerrP m2=k) (n:Nat) (hn:m.length=n) :
  Calls Tryz.prog 49 #[p.val q] w (PutR w m n k):=by
 have C:=hI (BxC.made 29 w p q)
 have H:=hI h
 obtain ⟨g1,g2,g3,g4,g5,g6,g7⟩:=(nothN_iff p).1 hr
 have d1:¬ (0:Int)<(q.nd:Int):=by have:=g1 (by omega);rw [h.ld] at this;omega
 have d2:((p.sub:Int) != 0)=false:=by simp;omega
 have d3:((p.magic:Int) != 0)=false:=by simp;omega
 have d4:¬ (0:Int)<(q.n1:Int):=by rw [h.l1] at g5;omega
 have d5:¬ (0:Int)<(q.n2:Int):=by rw [h.l2] at g6;omega
 have d6:¬ (0:Int)<(q.nn:Int):=by rw [h.ln] at g7;omega
 have s8:q.nd≤1073741824:=by rw [←h.ld];exact hs.nd
 have HD:=hI (Nat.le_trans hs.d (by decide):datB p.opts≤68719476736)
 have s1:q.no≤68719476736:=by rw [←h.lo];exact Nat.le_trans hs.o (by decide)
 have fp:IntKind.i64.wrap (p.proto:Int)=(p.proto:Int):=IntWalk.i64_in _ (by have:=hok.proto;omega)
 have t1:((p.code:Int) == 1)=false:=by simp;omega
 have t2:((p.code:Int) == 2)=false:=by simp;omega
 have t3:((p.code:Int) == 3)=true:=by simp;omega
 subst hk2
 have HW:=hI hw
 have HM:=hI hm
 have HE:=hI he
 have HN:=hI hn
 obtain ⟨n2,hn2⟩:∃ n2,Hid (m2.length=n2):=⟨_,hI rfl⟩
 have s2:n2≤274877906944:=by
  have e:=hw
  unfold putO at e
  split at e
  ·have e2:=(Prod.mk.inj e).1
   rw [←hn2.out,← e2,put_len]
   have:=hs.o;have:=hs.d;omega
  ·rw [←hn2.out,← (Prod.mk.inj e).1];simp
 clear hc hr h hs hok g1 g2 g3 g4 g5 g6 g7 hw hm he hn
 rcases h1 with h1 | h1
 ·have j1:((p.proto:Int) != 32801)=false:=by simp;omega
  clear h1
  go_enter Tryz.func49,Tryz.ntmps49
  go_upto_region 1 with fail
  obtain ⟨wm,hwm⟩:∃ wm,wm=w.alloc (p.obj q 29):=⟨_,rfl⟩
  rw [←hwm] at C ⊢
  clear hwm
  obtain ⟨x0,x1,x2,x3,x4,x5,x6,x7,x8,x9⟩:=C.out.cf.all
  have b0:w.heap.size<wm.heap.size:=C.out.cf.lt
  go_wp2_with (first
   | (go_at_call 67;(with_reducible refine (prput_any p.proto p.opts m2 _ HW.out n2 hn2.out q.no q.co q.ao _ _ (H.out.on C.out.bel).ro H.out.lo s1 HD.out).mono ?_);rintro e wn ⟨A4,c4,rfl,h4,h4c,hb⟩;replace C:=hI (C.out.step hb);have X:=hI h4;clear h4 h4c hb x0 x1 x2 x3 x4 x5 x6 x7 x8 x9;obtain ⟨x0,x1,x2,x3,x4,x5,x6,x7,x8,x9⟩:=C.out.cf.all)
   | (go_at_call 68;(with_reducible refine (krput_v p.code p.id m2 _ HE.out m HM.out n HN.out n2 _ _ _ X.out hn2.out s2).mono ?_);rintro e wn ⟨A5,c5,rfl,h5,h5c,hb⟩;replace C:=hI (C.out.step hb);clear X;have X:=hI h5;have K:=hI h5c;clear h5 h5c hb))
  go_ret2
  exact PutR.mk _ _ rfl X.out K.out C.out.bel
 ·have j1:((p.proto:Int) != 32801)=true:=by rw [bne_iff_ne];omega
  have j2:((p.proto:Int) != 32855)=false:=by simp;omega
  clear h1
  go_enter Tryz.func49,Tryz.ntmps49
  go_upto_region 1 with fail
  obtain ⟨wm,hwm⟩:∃ wm,wm=w.alloc (p.obj q 29):=⟨_,rfl⟩
  rw [←hwm] at C ⊢
  clear hwm
  obtain ⟨x0,x1,x2,x3,x4,x5,x6,x7,x8,x9⟩:=C.out.cf.all
  have b0:w.heap.size<wm.heap.size:=C.out.cf.lt
  go_wp2_with (first
   | (go_at_call 67;(with_reducible refine (prput_any p.proto p.opts m2 _ HW.out n2 hn2.out q.no q.co q.ao _ _ (H.out.on C.out.bel).ro H.out.lo s1 HD.out).mono ?_);rintro e wn ⟨A4,c4,rfl,h4,h4c,hb⟩;replace C:=hI (C.out.step hb);have X:=hI h4;clear h4 h4c hb x0 x1 x2 x3 x4 x5 x6 x7 x8 x9;obtain ⟨x0,x1,x2,x3,x4,x5,x6,x7,x8,x9⟩:=C.out.cf.all)
   | (go_at_call 68;(with_reducible refine (krput_v p.code p.id m2 _ HE.out m HM.out n HN.out n2 _ _ _ X.out hn2.out s2).mono ?_);rintro e wn ⟨A5,c5,rfl,h5,h5c,hb⟩;replace C:=hI (C.out.step hb);clear X;have X:=hI h5;have K:=hI h5c;clear h5 h5c hb))
  go_ret2
  exact PutR.mk _ _ rfl X.out K.out C.out.bel
theorem nrp_bad_4 (p : Pk) (q : Pl) (w : World) (h : Pw w p q) (hok : p.ok) (hs : p.sm) (h1 : p.proto = 32801 ∨ p.proto = 32855) (hc : p.code = 4) (hr : nothL (restN p) = false) :
    Calls Tryz.prog 49 #[p.val q] w (PutR w [] 0 9) := by
  have C := Lib.hid (BxC.made 29 w p q)
  have BAD := Lib.hid (show ¬ (q.nd = 0 ∧ p.sub = 0 ∧ p.magic = 0 ∧ q.n1 = 0 ∧ q.n2 = 0 ∧ q.nn = 0) from fun hh => by
    have := (nothN_iff p).2 ⟨fun _ => by rw [h.ld]; exact hh.1, fun _ => by omega, hh.2.1, hh.2.2.1, by rw [h.l1]; exact hh.2.2.2.1, by rw [h.l2]; exact hh.2.2.2.2.1, by rw [h.ln]; exact hh.2.2.2.2.2⟩
    rw [hr] at this
    cases this)
  have t1 : ((p.code : Int) == 1) = false := by simp; omega
  have t2 : ((p.code : Int) == 2) = false := by simp; omega
  have t3 : ((p.code : Int) == 3) = false := by simp; omega
  have t4 : ((p.code : Int) == 4) = true := by simp; omega
  clear hc hr h hs hok
  rcases h1 with h1 | h1
  · have j1 : ((p.proto : Int) != 32801) = false := by simp; omega
    clear h1
    go_enter Tryz.func49, Tryz.ntmps49
    go_upto_region 1 with fail
    obtain ⟨wm, hwm⟩ : ∃ wm, wm = w.alloc (p.obj q 29) := ⟨_, rfl⟩
    rw [← hwm] at C ⊢
    clear hwm
    obtain ⟨x0, x1, x2, x3, x4, x5, x6, x7, x8, x9⟩ := C.out.cf.all
    have b0 : w.heap.size < wm.heap.size := C.out.cf.lt
    go_wp2_with fail
    all_goals first
      | (go_ret2
         exact PutR.mk none 0 rfl Rd.nil (Nat.le_refl _) C.out.bel)
      | (exfalso
         refine BAD.out ⟨?_, ?_, ?_, ?_, ?_, ?_⟩ <;> first | assumption | omega | (simp_all; done) | (simp_all; omega))
  · have j1 : ((p.proto : Int) != 32801) = true := by rw [bne_iff_ne]; omega
    have j2 : ((p.proto : Int) != 32855) = false := by simp; omega
    clear h1
    go_enter Tryz.func49, Tryz.ntmps49
    go_upto_region 1 with fail
    obtain ⟨wm, hwm⟩ : ∃ wm, wm = w.alloc (p.obj q 29) := ⟨_, rfl⟩
    rw [← hwm] at C ⊢
    clear hwm
    obtain ⟨x0, x1, x2, x3, x4, x5, x6, x7, x8, x9⟩ := C.out.cf.all
    have b0 : w.heap.size < wm.heap.size := C.out.cf.lt
    go_wp2_with fail
    all_goals first
      | (go_ret2
         exact PutR.mk none 0 rfl Rd.nil (Nat.le_refl _) C.out.bel)
      | (exfalso
         refine BAD.out ⟨?_, ?_, ?_, ?_, ?_, ?_⟩ <;> first | assumption | omega | (simp_all; done) | (simp_all; omega))
theorem nrp_err_4 (p:Pk) (q:Pl) (w:World) (h:Pw w p q) (hok:p.ok) (hs:p.sm) (h1:p.proto=32801∨p.proto=32855) (hc:p.code=4) (hr:nothL (restN p)=true) (m2:List Nat) (k2:Nat) (hw:putO p.proto p.opts=(m2,k2)) (hk2:¬ k2=0) :
  Calls Tryz.prog 49 #[p.val q] w (PutR w [] 0 k2):=by
 have C:=hI (BxC.made 29 w p q)
 have H:=hI h
 obtain ⟨g1,g2,g3,g4,g5,g6,g7⟩:=(nothN_iff p).1 hr
 have d1:¬ (0:Int)<(q.nd:Int):=by have:=g1 (by omega);rw [h.ld] at this;omega
 have d2:((p.sub:Int) != 0)=false:=by simp;omega
 have d3:((p.magic:Int) != 0)=false:=by simp;omega
 have d4:¬ (0:Int)<(q.n1:Int):=by rw [h.l1] at g5;omega
 have d5:¬ (0:Int)<(q.n2:Int):=by rw [h.l2] at g6;omega
 have d6:¬ (0:Int)<(q.nn:Int):=by rw [h.ln] at g7;omega
 have s8:q.nd≤1073741824:=by rw [←h.ld];exact hs.nd
 have HD:=hI (Nat.le_trans hs.d (by decide):datB p.opts≤68719476736)
 have s1:q.no≤68719476736:=by rw [←h.lo];exact Nat.le_trans hs.o (by decide)
 have fp:IntKind.i64.wrap (p.proto:Int)=(p.proto:Int):=IntWalk.i64_in _ (by have:=hok.proto;omega)
 have t1:((p.code:Int) == 1)=false:=by simp;omega
 have t2:((p.code:Int) == 2)=false:=by simp;omega
 have t3:((p.code:Int) == 3)=false:=by simp;omega
 have t4:((p.code:Int) == 4)=true:=by simp;omega
 have HW:=hI hw
 have j9:((k2:Int) != 0)=true:=by rw [bne_iff_ne];omega
 clear hc hr h hs hok g1 g2 g3 g4 g5 g6 g7 hw hk2
 rcases h1 with h1 | h1
 ·have j1:((p.proto:Int) != 32801)=false:=by simp;omega
  clear h1
  go_enter Tryz.func49,Tryz.ntmps49
  go_upto_region 1 with fail
  obtain ⟨wm,hwm⟩:∃ wm,wm=w.alloc (p.obj q 29):=⟨_,rfl⟩
  rw [←hwm] at C ⊢
  clear hwm
  obtain ⟨x0,x1,x2,x3,x4,x5,x6,x7,x8,x9⟩:=C.out.cf.all
  have b0:w.heap.size<wm.heap.size:=C.out.cf.lt
  go_wp2_with (first
   | (go_at_call 67;(with_reducible refine (prput_any p.proto p.opts m2 k2 HW.out m2.length rfl q.no q.co q.ao _ _ (H.out.on C.out.bel).ro H.out.lo s1 HD.out).mono ?_);rintro e wn ⟨A4,c4,rfl,h4,h4c,hb⟩;replace C:=hI (C.out.step hb);clear h4 h4c hb x0 x1 x2 x3 x4 x5 x6 x7 x8 x9))
  go_ret2
  exact PutR.mk none 0 rfl Rd.nil (Nat.le_refl _) C.out.bel
 ·have j1:((p.proto:Int) != 32801)=true:=by rw [bne_iff_ne];omega
  have j2:((p.proto:Int) != 32855)=false:=by simp;omega
  clear h1
  go_enter Tryz.func49,Tryz.ntmps49
  go_upto_region 1 with fail
  obtain ⟨wm,hwm⟩:∃ wm,wm=w.alloc (p.obj q 29):=⟨_,rfl⟩
  rw [←hwm] at C ⊢
  clear hwm
  obtain ⟨x0,x1,x2,x3,x4,x5,x6,x7,x8,x9⟩:=C.out.cf.all
  have b0:w.heap.size<wm.heap.size:=C.out.cf.lt
  go_wp2_with (first
   | (go_at_call 67;(with_reducible refine (prput_any p.proto p.opts m2 k2 HW.out m2.length rfl q.no q.co q.ao _ _ (H.out.on C.out.bel).ro H.out.lo s1 HD.out).mono ?_);rintro e wn ⟨A4,c4,rfl,h4,h4c,hb⟩;replace C:=hI (C.out.step hb);clear h4 h4c hb x0 x1 x2 x3 x4 x5 x6 x7 x8 x9))
  go_ret2
  exact PutR.mk none 0 rfl Rd.nil (Nat.le_refl _) C.out.bel
theorem nrp_ok_4 (p:Pk) (q:Pl) (w:World) (h:Pw w p q) (hok:p.ok) (hs:p.sm) (h1:p.proto=32801∨p.proto=32855) (hc:p.code=4) (hr:nothL (restN p)=true) (m2:List Nat) (k2:Nat) (hw:putO p.proto p.opts=(m2,k2)) (hk2:k2=0) (m:List Nat) (k:Nat) (hm:kputA p.code p.id m2=m) (he:kerrP m2=k) (n:Nat) (hn:m.length=n) :
  Calls Tryz.prog 49 #[p.val q] w (PutR w m n k):=by
 have C:=hI (BxC.made 29 w p q)
 have H:=hI h
 obtain ⟨g1,g2,g3,g4,g5,g6,g7⟩:=(nothN_iff p).1 hr
 have d1:¬ (0:Int)<(q.nd:Int):=by have:=g1 (by omega);rw [h.ld] at this;omega
 have d2:((p.sub:Int) != 0)=false:=by simp;omega
 have d3:((p.magic:Int) != 0)=false:=by simp;omega
 have d4:¬ (0:Int)<(q.n1:Int):=by rw [h.l1] at g5;omega
 have d5:¬ (0:Int)<(q.n2:Int):=by rw [h.l2] at g6;omega
 have d6:¬ (0:Int)<(q.nn:Int):=by rw [h.ln] at g7;omega
 have s8:q.nd≤1073741824:=by rw [←h.ld];exact hs.nd
 have HD:=hI (Nat.le_trans hs.d (by decide):datB p.opts≤68719476736)
 have s1:q.no≤68719476736:=by rw [←h.lo];exact Nat.le_trans hs.o (by decide)
 have fp:IntKind.i64.wrap (p.proto:Int)=(p.proto:Int):=IntWalk.i64_in _ (by have:=hok.proto;omega)
 have t1:((p.code:Int) == 1)=false:=by simp;omega
 have t2:((p.code:Int) == 2)=false:=by simp;omega
 have t3:((p.code:Int) == 3)=false:=by simp;omega
 have t4:((p.code:Int) == 4)=true:=by simp;omega
 subst hk2
 have HW:=hI hw
 have HM:=hI hm
 have HE:=hI he
 have HN:=hI hn
 obtain ⟨n2,hn2⟩:∃ n2,Hid (m2.length=n2):=⟨_,hI rfl⟩
 have s2:n2≤274877906944:=by
  have e:=hw
  unfold putO at e
  split at e
  ·have e2:=(Prod.mk.inj e).1
   rw [←hn2.out,← e2,put_len]
   have:=hs.o;have:=hs.d;omega
  ·rw [←hn2.out,← (Prod.mk.inj e).1];simp
 clear hc hr h hs hok g1 g2 g3 g4 g5 g6 g7 hw hm he hn
 rcases h1 with h1 | h1
 ·have j1:((p.proto:Int) != 32801)=false:=by simp;omega
  clear h1
  go_enter Tryz.func49,Tryz.ntmps49
  go_upto_region 1 with fail
  obtain ⟨wm,hwm⟩:∃ wm,wm=w.alloc (p.obj q 29):=⟨_,rfl⟩
  rw [←hwm] at C ⊢
  clear hwm
  obtain ⟨x0,x1,x2,x3,x4,x5,x6,x7,x8,x9⟩:=C.out.cf.all
  have b0:w.heap.size<wm.heap.size:=C.out.cf.lt
  go_wp2_with (first
   | (go_at_call 67;(with_reducible refine (prput_any p.proto p.opts m2 _ HW.out n2 hn2.out q.no q.co q.ao _ _ (H.out.on C.out.bel).ro H.out.lo s1 HD.out).mono ?_);rintro e wn ⟨A4,c4,rfl,h4,h4c,hb⟩;replace C:=hI (C.out.step hb);have X:=hI h4;clear h4 h4c hb x0 x1 x2 x3 x4 x5 x6 x7 x8 x9;obtain ⟨x0,x1,x2,x3,x4,x5,x6,x7,x8,x9⟩:=C.out.cf.all)
   | (go_at_call 68;(with_reducible refine (krput_v p.code p.id m2 _ HE.out m HM.out n HN.out n2 _ _ _ X.out hn2.out s2).mono ?_);rintro e wn ⟨A5,c5,rfl,h5,h5c,hb⟩;replace C:=hI (C.out.step hb);clear X;have X:=hI h5;have K:=hI h5c;clear h5 h5c hb))
  go_ret2
  exact PutR.mk _ _ rfl X.out K.out C.out.bel
 ·have j1:((p.proto:Int) != 32801)=true:=by rw [bne_iff_ne];omega
  have j2:((p.proto:Int) != 32855)=false:=by simp;omega
  clear h1
  go_enter Tryz.func49,Tryz.ntmps49
  go_upto_region 1 with fail
  obtain ⟨wm,hwm⟩:∃ wm,wm=w.alloc (p.obj q 29):=⟨_,rfl⟩
  rw [←hwm] at C ⊢
  clear hwm
  obtain ⟨x0,x1,x2,x3,x4,x5,x6,x7,x8,x9⟩:=C.out.cf.all
  have b0:w.heap.size<wm.heap.size:=C.out.cf.lt
  go_wp2_with (first
   | (go_at_call 67;(with_reducible refine (prput_any p.proto p.opts m2 _ HW.out n2 hn2.out q.no q.co q.ao _ _ (H.out.on C.out.bel).ro H.out.lo s1 HD.out).mono ?_);rintro e wn ⟨A4,c4,rfl,h4,h4c,hb⟩;replace C:=hI (C.out.step hb);have X:=hI h4;clear h4 h4c hb x0 x1 x2 x3 x4 x5 x6 x7 x8 x9;obtain ⟨x0,x1,x2,x3,x4,x5,x6,x7,x8,x9⟩:=C.out.cf.all)
   | (go_at_call 68;(with_reducible refine (krput_v p.code p.id m2 _ HE.out m HM.out n HN.out n2 _ _ _ X.out hn2.out s2).mono ?_);rintro e wn ⟨A5,c5,rfl,h5,h5c,hb⟩;replace C:=hI (C.out.step hb);clear X;have X:=hI h5;have K:=hI h5c;clear h5 h5c hb))
  go_ret2
  exact PutR.mk _ _ rfl X.out K.out C.out.bel
theorem nrp_bad_o (p : Pk) (q : Pl) (w : World) (h : Pw w p q) (hok : p.ok) (hs : p.sm) (h1 : p.proto = 32801 ∨ p.proto = 32855) (hc : ¬ (1 ≤ p.code ∧ p.code ≤ 4)) (hr : nothL (restN p) = false) :
    Calls Tryz.prog 49 #[p.val q] w (PutR w [] 0 9) := by
  have C := Lib.hid (BxC.made 29 w p q)
  have BAD := Lib.hid (show ¬ (q.no = 0 ∧ p.sub = 0 ∧ p.magic = 0 ∧ q.n1 = 0 ∧ q.n2 = 0 ∧ q.nn = 0) from fun hh => by
    have := (nothN_iff p).2 ⟨fun _ => by omega, fun _ => by rw [h.lo]; exact hh.1, hh.2.1, hh.2.2.1, by rw [h.l1]; exact hh.2.2.2.1, by rw [h.l2]; exact hh.2.2.2.2.1, by rw [h.ln]; exact hh.2.2.2.2.2⟩
    rw [hr] at this
    cases this)
  have t1 : ((p.code : Int) == 1) = false := by simp; omega
  have t2 : ((p.code : Int) == 2) = false := by simp; omega
  have t3 : ((p.code : Int) == 3) = false := by simp; omega
  have t4 : ((p.code : Int) == 4) = false := by simp; omega
  clear hc hr h hs hok
  rcases h1 with h1 | h1
  · have j1 : ((p.proto : Int) != 32801) = false := by simp; omega
    clear h1
    go_enter Tryz.func49, Tryz.ntmps49
    go_upto_region 1 with fail
    obtain ⟨wm, hwm⟩ : ∃ wm, wm = w.alloc (p.obj q 29) := ⟨_, rfl⟩
    rw [← hwm] at C ⊢
    clear hwm
    obtain ⟨x0, x1, x2, x3, x4, x5, x6, x7, x8, x9⟩ := C.out.cf.all
    have b0 : w.heap.size < wm.heap.size := C.out.cf.lt
    go_wp2_with fail
    all_goals first
      | (go_ret2
         exact PutR.mk none 0 rfl Rd.nil (Nat.le_refl _) C.out.bel)
      | (exfalso
         refine BAD.out ⟨?_, ?_, ?_, ?_, ?_, ?_⟩ <;> first | assumption | omega | (simp_all; done) | (simp_all; omega))
  · have j1 : ((p.proto : Int) != 32801) = true := by rw [bne_iff_ne]; omega
    have j2 : ((p.proto : Int) != 32855) = false := by simp; omega
    clear h1
    go_enter Tryz.func49, Tryz.ntmps49
    go_upto_region 1 with fail
    obtain ⟨wm, hwm⟩ : ∃ wm, wm = w.alloc (p.obj q 29) := ⟨_, rfl⟩
    rw [← hwm] at C ⊢
    clear hwm
    obtain ⟨x0, x1, x2, x3, x4, x5, x6, x7, x8, x9⟩ := C.out.cf.all
    have b0 : w.heap.size < wm.heap.size := C.out.cf.lt
    go_wp2_with fail
    all_goals first
      | (go_ret2
         exact PutR.mk none 0 rfl Rd.nil (Nat.le_refl _) C.out.bel)
      | (exfalso
         refine BAD.out ⟨?_, ?_, ?_, ?_, ?_, ?_⟩ <;> first | assumption | omega | (simp_all; done) | (simp_all; omega))
theorem nrp_ok_o (p:Pk) (q:Pl) (w:World) (h:Pw w p q) (hok:p.ok) (hs:p.sm) (h1:p.proto=32801∨p.proto=32855) (hc:¬ (1≤p.code∧p.code≤4)) (hr:nothL (restN p)=true) (m:List Nat) (k:Nat) (hm:kputA p.code p.id p.data=m) (he:kerrP p.data=k) (n:Nat) (hn:m.length=n) :
  Calls Tryz.prog 49 #[p.val q] w (PutR w m n k):=by
 have C:=hI (BxC.made 29 w p q)
 have H:=hI h
 obtain ⟨g1,g2,g3,g4,g5,g6,g7⟩:=(nothN_iff p).1 hr
 have d1:¬ (0:Int)<(q.no:Int):=by have:=g2 hc;rw [h.lo] at this;omega
 have d2:((p.sub:Int) != 0)=false:=by simp;omega
 have d3:((p.magic:Int) != 0)=false:=by simp;omega
 have d4:¬ (0:Int)<(q.n1:Int):=by rw [h.l1] at g5;omega
 have d5:¬ (0:Int)<(q.n2:Int):=by rw [h.l2] at g6;omega
 have d6:¬ (0:Int)<(q.nn:Int):=by rw [h.ln] at g7;omega
 have s8:q.nd≤1073741824:=by rw [←h.ld];exact hs.nd
 have t1:((p.code:Int) == 1)=false:=by simp;omega
 have t2:((p.code:Int) == 2)=false:=by simp;omega
 have t3:((p.code:Int) == 3)=false:=by simp;omega
 have t4:((p.code:Int) == 4)=false:=by simp;omega
 have HM:=hI hm
 have HE:=hI he
 have HN:=hI hn
 clear hc hr h hs hok g1 g2 g3 g4 g5 g6 g7 hm he hn
 rcases h1 with h1 | h1
 ·have j1:((p.proto:Int) != 32801)=false:=by simp;omega
  clear h1
  go_enter Tryz.func49,Tryz.ntmps49
  go_upto_region 1 with fail
  obtain ⟨wm,hwm⟩:∃ wm,wm=w.alloc (p.obj q 29):=⟨_,rfl⟩
  rw [←hwm] at C ⊢
  clear hwm
  obtain ⟨x0,x1,x2,x3,x4,x5,x6,x7,x8,x9⟩:=C.out.cf.all
  have b0:w.heap.size<wm.heap.size:=C.out.cf.lt
  go_wp2_with (first
   | (go_at_call 68;(with_reducible refine (krput_v p.code p.id p.data _ HE.out m HM.out n HN.out q.nd q.cd q.ad _ (H.out.on C.out.bel).rd H.out.ld (by omega)).mono ?_);rintro e wn ⟨A5,c5,rfl,h5,h5c,hb⟩;replace C:=hI (C.out.step hb);have X:=hI h5;have K:=hI h5c;clear h5 h5c hb))
  go_ret2
  exact PutR.mk _ _ rfl X.out K.out C.out.bel
 ·have j1:((p.proto:Int) != 32801)=true:=by rw [bne_iff_ne];omega
  have j2:((p.proto:Int) != 32855)=false:=by simp;omega
  clear h1
  go_enter Tryz.func49,Tryz.ntmps49
  go_upto_region 1 with fail
  obtain ⟨wm,hwm⟩:∃ wm,wm=w.alloc (p.obj q 29):=⟨_,rfl⟩
  rw [←hwm] at C ⊢
  clear hwm
  obtain ⟨x0,x1,x2,x3,x4,x5,x6,x7,x8,x9⟩:=C.out.cf.all
  have b0:w.heap.size<wm.heap.size:=C.out.cf.lt
  go_wp2_with (first
   | (go_at_call 68;(with_reducible refine (krput_v p.code p.id p.data _ HE.out m HM.out n HN.out q.nd q.cd q.ad _ (H.out.on C.out.bel).rd H.out.ld (by omega)).mono ?_);rintro e wn ⟨A5,c5,rfl,h5,h5c,hb⟩;replace C:=hI (C.out.step hb);have X:=hI h5;have K:=hI h5c;clear h5 h5c hb))
  go_ret2
  exact PutR.mk _ _ rfl X.out K.out C.out.bel
theorem nrp_any (p:Pk) (q:Pl) (w:World) (h:Pw w p q) (hok:p.ok) (hs:p.sm) (m:List Nat) (k:Nat) (hm:nputB p=(m,k)) (n:Nat) (hn:m.length=n) :
  Calls Tryz.prog 49 #[p.val q] w (PutR w m n k):=by
 by_cases h1:p.proto=32801∨p.proto=32855
 case neg =>
  rw [nput_kind h1] at hm
  obtain ⟨rfl,rfl⟩:=Prod.mk.inj hm
  obtain rfl:0=n:=hn
  exact nrp_kind p q w h1
 cases hr:nothL (restN p)
 ·rw [nputB,if_pos h1,hr] at hm
  obtain ⟨rfl,rfl⟩:=Prod.mk.inj hm
  obtain rfl:0=n:=hn
  rcases (show p.code=1∨p.code=2∨p.code=3∨p.code=4∨¬ (1≤p.code∧p.code≤4) by omega) with hc | hc | hc | hc | hc
  ·exact nrp_bad_1 p q w h hok hs h1 hc hr
  ·exact nrp_bad_2 p q w h hok hs h1 hc hr
  ·exact nrp_bad_3 p q w h hok hs h1 hc hr
  ·exact nrp_bad_4 p q w h hok hs h1 hc hr
  ·exact nrp_bad_o p q w h hok hs h1 hc hr
 rw [nputB,if_pos h1,if_pos hr,wrN] at hm
 by_cases hk:1≤p.code∧p.code≤4
 case neg =>
  rw [if_neg hk] at hm
  dsimp only at hm
  rw [if_pos rfl] at hm
  obtain ⟨e1,e2⟩:=Prod.mk.inj hm
  exact nrp_ok_o p q w h hok hs h1 hk hr m k e1 e2 n hn
 rw [if_pos hk] at hm
 obtain ⟨m2,k2,hw⟩:∃ m2 k2,putO p.proto p.opts=(m2,k2):=⟨_,_,rfl⟩
 rw [hw] at hm
 dsimp only at hm
 by_cases h2:k2=0
 ·rw [if_pos h2] at hm
  obtain ⟨e1,e2⟩:=Prod.mk.inj hm
  rcases (show p.code=1∨p.code=2∨p.code=3∨p.code=4 by omega) with hc | hc | hc | hc
  ·exact nrp_ok_1 p q w h hok hs h1 hc hr m2 k2 hw h2 m k e1 e2 n hn
  ·exact nrp_ok_2 p q w h hok hs h1 hc hr m2 k2 hw h2 m k e1 e2 n hn
  ·exact nrp_ok_3 p q w h hok hs h1 hc hr m2 k2 hw h2 m k e1 e2 n hn
  ·exact nrp_ok_4 p q w h hok hs h1 hc hr m2 k2 hw h2 m k e1 e2 n hn
 ·rw [if_neg h2] at hm
  obtain ⟨rfl,rfl⟩:=Prod.mk.inj hm
  obtain rfl:0=n:=hn
  rcases (show p.code=1∨p.code=2∨p.code=3∨p.code=4 by omega) with hc | hc | hc | hc
  ·exact nrp_err_1 p q w h hok hs h1 hc hr m2 k2 hw h2
  ·exact nrp_err_2 p q w h hok hs h1 hc hr m2 k2 hw h2
  ·exact nrp_err_3 p q w h hok hs h1 hc hr m2 k2 hw h2
  ·exact nrp_err_4 p q w h hok hs h1 hc hr m2 k2 hw h2
end Go.Proofs.YtmhjnghomihjlaaGreat
