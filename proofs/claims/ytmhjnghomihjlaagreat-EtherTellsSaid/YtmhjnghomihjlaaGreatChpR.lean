/-
  What the document's Put of layer 18 answers, case by case of the code. No condition beyond: packets that Go may have, at most 2^30 elements in each slice.
-/
import Derived.Test.YtmhjnghomihjlaaGreatGMat
import Derived.Test.YtmhjnghomihjlaaGreatGPks
import Derived.Deep.CutRange
import Derived.Deep.RegionHeld3
namespace Go.Proofs.YtmhjnghomihjlaaGreat
set_option maxRecDepth 8000
set_option maxHeartbeats 80000000
set_option linter.unusedVariables false
open Go.RowKit
theorem BxC.c67 {T:TypeId} {w W:World} {p:Pk} {q:Pl} (h:BxC T w W p q):W.cell? ⟨w.heap.size,6,none⟩=some (.slice q.a1 q.n1 q.c1)∧W.cell? ⟨w.heap.size,7,none⟩=some (.slice q.a2 q.n2 q.c2):=⟨h.c6,h.c7⟩
theorem chrp_kind (p:Pk) (q:Pl) (w:World) (h1:¬ p.proto=49699) :
  Calls Tryz.prog 51 #[p.val q] w (PutR w [] 0 8):=by
 have C:=hI (BxC.made 29 w p q)
 have j1:((p.proto:Int) != 49699)=true:=by rw [bne_iff_ne];omega
 clear h1
 go_enter Tryz.func51,Tryz.ntmps51
 go_upto_region 1 with fail
 obtain ⟨wm,hwm⟩:∃ wm,wm=w.alloc (p.obj q 29):=⟨_,rfl⟩
 rw [←hwm] at C ⊢
 clear hwm
 obtain ⟨x0,x1,x2,x3,x4,x5,x6,x7,x8,x9⟩:=C.out.cf.all
 have b0:w.heap.size<wm.heap.size:=C.out.cf.lt
 go_wp2_with fail
 go_ret2
 exact PutR.mk none 0 rfl Rd.nil (Nat.le_refl _) C.out.bel
theorem chrp_bad_1 (p : Pk) (q : Pl) (w : World) (h : Pw w p q) (hs : p.sm) (h1 : p.proto = 49699) (hc : p.code = 1) (hr : nothL (restH p) = false) :
    Calls Tryz.prog 51 #[p.val q] w (PutR w [] 0 9) := by
  have C := Lib.hid (BxC.made 29 w p q)
  have j1 : ((p.proto : Int) != 49699) = false := by simp; omega
  have BAD := Lib.hid (show ¬ (q.no = 0 ∧ p.sub = 0 ∧ p.magic = 0 ∧ q.nn = 0 ∧ q.nd = 0) from fun hh => by
    have e0 := h.lo
    have e1 := h.l1
    have e2 := h.l2
    have e3 := h.ld
    have e4 := h.ln
    have hv := (show isvB p.code = true from decide_eq_true (by omega))
    have := (nothH_iff p).2 ⟨fun _ => by omega, fun e => absurd hv e, by omega, by omega, by omega, by omega⟩
    rw [hr] at this
    cases this)
  have u1 : ((p.code : Int) == 1) = true := by simp; omega
  clear h1 hc hr h hs
  go_enter Tryz.func51, Tryz.ntmps51
  go_upto_region 1 with fail
  obtain ⟨wm, hwm⟩ : ∃ wm, wm = w.alloc (p.obj q 29) := ⟨_, rfl⟩
  rw [← hwm] at C ⊢
  clear hwm
  obtain ⟨x0, x1, x2, x3, x4, x5, x6, x7, x8, x9⟩ := C.out.cf.all
  have b0 : w.heap.size < wm.heap.size := C.out.cf.lt
  go_wp2_with fail
  all_goals first
    | (go_ret2
       exact PutR.mk none 0 rfl Rd.nil (Nat.le_refl _) C.out.bel)
    | (exfalso
       refine BAD.out ⟨?_, ?_, ?_, ?_, ?_⟩ <;> first | assumption | omega | (simp_all; done) | (simp_all; omega))
theorem chrp_none_1 (p:Pk) (q:Pl) (w:World) (h:Pw w p q) (hs:p.sm) (h1:p.proto=49699) (hc:p.code=1) (hr:nothL (restH p)=true) (hl:q.n1=0) :
  Calls Tryz.prog 51 #[p.val q] w (PutR w [] 0 4):=by
 have C:=hI (BxC.made 29 w p q)
 have H:=hI h
 have j1:((p.proto:Int) != 49699)=false:=by simp;omega
 obtain ⟨g1,g2,g4,g5,g6,g7⟩:=(nothH_iff p).1 hr
 have hv:=(show isvB p.code=true from decide_eq_true (by omega))
 have e0:=h.lo
 have e1:=h.l1
 have e2:=h.l2
 have e3:=h.ld
 have e4:=h.ln
 have s1:q.n1≤1073741824:=by rw [←e1];exact hs.n1
 have s2:q.n2≤1073741824:=by rw [←e2];exact hs.n2
 have s8:q.nd≤1073741824:=by rw [←e3];exact hs.nd
 have d1:¬ (0:Int)<(q.no:Int):=by omega
 have d2:((p.sub:Int) != 0)=false:=by simp;omega
 have d3:((p.magic:Int) != 0)=false:=by simp;omega
 have d4:¬ (0:Int)<(q.nn:Int):=by omega
 have HD0:=hI (show p.data.length=0 from g1 hv)
 have d5:¬ (0:Int)<(q.nd:Int):=by have:=g1 hv;omega
 have u1:((p.code:Int) == 1)=true:=by simp;omega
 have l0:((q.n1:Int) == 0)=true:=by simp;omega
 clear h1 hc hr h hs g1 g2 g4 g5 g6 g7 e0 e1 e2 e3 e4 hv hl
 go_enter Tryz.func51,Tryz.ntmps51
 go_upto_region 1 with fail
 obtain ⟨wm,hwm⟩:∃ wm,wm=w.alloc (p.obj q 29):=⟨_,rfl⟩
 rw [←hwm] at C ⊢
 clear hwm
 obtain ⟨x0,x1,x2,x3,x4,x5,x6,x7,x8,x9⟩:=C.out.cf.all
 have b0:w.heap.size<wm.heap.size:=C.out.cf.lt
 go_wp2_with fail
 go_ret2
 exact PutR.mk none 0 rfl Rd.nil (Nat.le_refl _) C.out.bel
theorem chrp_long_1 (p:Pk) (q:Pl) (w:World) (h:Pw w p q) (hs:p.sm) (h1:p.proto=49699) (hc:p.code=1) (hr:nothL (restH p)=true) (hl:255<q.n1) :
  Calls Tryz.prog 51 #[p.val q] w (PutR w [] 0 3):=by
 have C:=hI (BxC.made 29 w p q)
 have H:=hI h
 have j1:((p.proto:Int) != 49699)=false:=by simp;omega
 obtain ⟨g1,g2,g4,g5,g6,g7⟩:=(nothH_iff p).1 hr
 have hv:=(show isvB p.code=true from decide_eq_true (by omega))
 have e0:=h.lo
 have e1:=h.l1
 have e2:=h.l2
 have e3:=h.ld
 have e4:=h.ln
 have s1:q.n1≤1073741824:=by rw [←e1];exact hs.n1
 have s2:q.n2≤1073741824:=by rw [←e2];exact hs.n2
 have s8:q.nd≤1073741824:=by rw [←e3];exact hs.nd
 have d1:¬ (0:Int)<(q.no:Int):=by omega
 have d2:((p.sub:Int) != 0)=false:=by simp;omega
 have d3:((p.magic:Int) != 0)=false:=by simp;omega
 have d4:¬ (0:Int)<(q.nn:Int):=by omega
 have HD0:=hI (show p.data.length=0 from g1 hv)
 have d5:¬ (0:Int)<(q.nd:Int):=by have:=g1 hv;omega
 have u1:((p.code:Int) == 1)=true:=by simp;omega
 have l0:((q.n1:Int) == 0)=false:=by simp;omega
 have l1:(255:Int)<(q.n1:Int):=by omega
 clear h1 hc hr h hs g1 g2 g4 g5 g6 g7 e0 e1 e2 e3 e4 hv hl
 go_enter Tryz.func51,Tryz.ntmps51
 go_upto_region 1 with fail
 obtain ⟨wm,hwm⟩:∃ wm,wm=w.alloc (p.obj q 29):=⟨_,rfl⟩
 rw [←hwm] at C ⊢
 clear hwm
 obtain ⟨x0,x1,x2,x3,x4,x5,x6,x7,x8,x9⟩:=C.out.cf.all
 have b0:w.heap.size<wm.heap.size:=C.out.cf.lt
 go_wp2_with fail
 go_ret2
 exact PutR.mk none 0 rfl Rd.nil (Nat.le_refl _) C.out.bel
theorem chrp_ok_1 (p:Pk) (q:Pl) (w:World) (h:Pw w p q) (hs:p.sm) (h1:p.proto=49699) (hc:p.code=1) (hr:nothL (restH p)=true) (hl0:¬ q.n1=0) (hl:q.n1≤255) (m:List Nat) (k:Nat) (hm:kputA p.code p.id (p.data ++ [q.n1] ++ p.one ++ p.two)=m) (he:kerrP (p.data ++ [q.n1] ++ p.one ++ p.two)=k) (n:Nat) (hn:m.length=n) :
  Calls Tryz.prog 51 #[p.val q] w (PutR w m n k):=by
 obtain ⟨i0,hi,hz0,hz1,hz2⟩:=info_parts byte_info
 have C:=hI (BxC.made 29 w p q)
 have H:=hI h
 have j1:((p.proto:Int) != 49699)=false:=by simp;omega
 obtain ⟨g1,g2,g4,g5,g6,g7⟩:=(nothH_iff p).1 hr
 have hv:=(show isvB p.code=true from decide_eq_true (by omega))
 have e0:=h.lo
 have e1:=h.l1
 have e2:=h.l2
 have e3:=h.ld
 have e4:=h.ln
 have s1:q.n1≤1073741824:=by rw [←e1];exact hs.n1
 have s2:q.n2≤1073741824:=by rw [←e2];exact hs.n2
 have s8:q.nd≤1073741824:=by rw [←e3];exact hs.nd
 have d1:¬ (0:Int)<(q.no:Int):=by omega
 have d2:((p.sub:Int) != 0)=false:=by simp;omega
 have d3:((p.magic:Int) != 0)=false:=by simp;omega
 have d4:¬ (0:Int)<(q.nn:Int):=by omega
 have HD0:=hI (show p.data.length=0 from g1 hv)
 have d5:¬ (0:Int)<(q.nd:Int):=by have:=g1 hv;omega
 have u1:((p.code:Int) == 1)=true:=by simp;omega
 have l1:¬ (255:Int)<(q.n1:Int):=by omega
 have l0:((q.n1:Int) == 0)=false:=by simp;omega
 have z1:IntKind.u8.wrap (q.n1:Int)=(q.n1:Int):=by rw [IntKind.wrap_u8];omega
 have HM:=hI hm
 have HE:=hI he
 have HN:=hI hn
 have HL:=hI (show (p.data ++ [q.n1] ++ p.one ++ p.two).length=1+q.n1+q.n2 by simp only [List.length_append,List.length_cons,List.length_nil];omega)
 clear h1 hc hr h hs g1 g2 g4 g5 g6 g7 e0 e1 e2 e3 e4 hv hm he hn hl hl0
 go_enter Tryz.func51,Tryz.ntmps51
 go_upto_region 1 with fail
 obtain ⟨wm,hwm⟩:∃ wm,wm=w.alloc (p.obj q 29):=⟨_,rfl⟩
 rw [←hwm] at C ⊢
 clear hwm
 obtain ⟨x0,x1,x2,x3,x4,x5,x6,x7,x8,x9⟩:=C.out.cf.all
 have b0:w.heap.size<wm.heap.size:=C.out.cf.lt
 have OX:=hI (show (wm.alloc (.cells #[] 5)).ownsRow wm.heap.size 5 1 (.slice (some ⟨wm.heap.size,0,none⟩) 0 0) 0 (bvs []) from World.ownsRow_lit wm #[] 0 (Nat.le_refl _) (by unfold maxLen;omega) rfl)
 have G0:=hI trivial
 go_upto_region 13 with (first
  | (at_builtin;have _g:=G0;clear _g;refine list_app rfl _ _ _ rfl _ i0 Tryz.underlying26 hi hz0 hz1 hz2 wm.heap.size _ 0 [] rfl OX.out _ _ 0 _ p.data rfl (H.out.on (C.out.al (.cells #[] 5)).bel).rd HD0.out (by omega) (by rw [World.size_alloc];exact Nat.le_succ _) ?_;intro A3 c3 w3 ho3 hg3;rw [List.nil_append,Nat.zero_add] at ho3;rw [Nat.zero_add];replace C:=hI (C.out.grown hg3 (fun k hk=>Nat.lt_of_lt_of_le b0 (OX.out.lt k hk).1) ((Below.refl _ _).alloc (Nat.le_refl _) _));have HZ:=hI (Nat.le_trans (show wm.heap.size≤(wm.alloc (.cells #[] 5)).heap.size by rw [World.size_alloc];exact Nat.le_succ _) hg3.size);have HO:=hI ho3;clear ho3 hg3 OX G0;have G1:=hI trivial;clear x0 x1 x2 x3 x4 x5 x6 x7 x8 x9;obtain ⟨x0,x1,x2,x3,x4,x5,x6,x7,x8,x9⟩:=C.out.cf.all)
  | (at_builtin;have _g:=G1;clear _g;refine list_app rfl _ _ _ rfl _ i0 Tryz.underlying26 hi hz0 hz1 hz2 wm.heap.size _ 0 p.data rfl (own_below HO.out ((Below.refl _ _).alloc (Nat.le_refl _) _)) _ _ 1 _ [q.n1] rfl (show Rd (w3.alloc (.cells #[.int .u8 (q.n1:Int)] 5)) (w3.alloc (.cells #[.int .u8 (q.n1:Int)] 5)).heap.size (some ⟨w3.heap.size,0,none⟩) [q.n1] from Rd.lit_ w3 [q.n1]) rfl (by omega) (by rw [World.size_alloc];exact Nat.le_succ_of_le HZ.out) ?_;intro A4 c4 w5 ho4 hg4;rw [Nat.zero_add] at ho4 ⊢;replace C:=hI (C.out.grown hg4 (fun k hk=>Nat.lt_of_lt_of_le b0 (HO.out.lt k hk).1) ((Below.refl _ _).alloc (Nat.le_refl _) _));replace HZ:=hI (Nat.le_trans (Nat.le_trans HZ.out (show w3.heap.size≤(w3.alloc (.cells #[.int .u8 (q.n1:Int)] 5)).heap.size by rw [World.size_alloc];exact Nat.le_succ _)) hg4.size);clear HO;have HO:=hI ho4;clear ho4 hg4 G1;have G2:=hI trivial;clear x0 x1 x2 x3 x4 x5 x6 x7 x8 x9;obtain ⟨x0,x1,x2,x3,x4,x5,x6,x7,x8,x9⟩:=C.out.cf.all))
 have BA:=hI (show Below w5.heap.size w5 w5.drew from (Below.refl w5.heap.size w5).drew)
 clear x0 x1 x2 x3 x4 x5 x6 x7 x8 x9
 obtain ⟨x6,x7⟩:=C.out.c67
 go_region_held3 (fun W=>W.cell? ⟨w.heap.size,6,none⟩=some (.slice q.a1 q.n1 q.c1)∧W.cell? ⟨w.heap.size,7,none⟩=some (.slice q.a2 q.n2 q.c2)) (first | (with_reducible exact C.out.c67) | (with_reducible exact C.out.drew.c67)) (first
  | (have _g:=G2;clear _g;(first | (with_reducible refine at_step (w5.drew) ?_) | (with_reducible refine at_step (w5) ?_));(refine step_app _ (by rfl) _ _ _ (by rfl) _ i0 Tryz.underlying26 hi hz0 hz1 hz2 wm.heap.size _ 1 (p.data ++ [q.n1]) (by rfl) (own_below HO.out BA.out) _ _ q.n1 _ p.one (by rfl) (H.out.on C.out.drew.bel).r1 H.out.l1 (by omega) (Nat.le_trans HZ.out BA.out.size) ?_);intro A4 c4 w6 ho4 hg4;replace C:=hI (C.out.grown hg4 (fun k hk=>Nat.lt_of_lt_of_le b0 (HO.out.lt k hk).1) BA.out);replace HZ:=hI (Nat.le_trans (Nat.le_trans HZ.out BA.out.size) hg4.size);clear HO;have HO:=hI ho4;clear ho4 hg4 BA G2;have G3:=hI trivial;dsimp only)
  | (have _g:=G3;clear _g;(with_reducible refine at_step (w6) ?_);(refine step_app _ (by rfl) _ _ _ (by rfl) _ i0 Tryz.underlying26 hi hz0 hz1 hz2 wm.heap.size _ (1+q.n1) (p.data ++ [q.n1] ++ p.one) (by rfl) HO.out _ _ q.n2 _ p.two (by rfl) (H.out.on C.out.bel).r2 H.out.l2 (by omega) HZ.out ?_);intro A4 c4 w7 ho4 hg4;replace C:=hI (C.out.grown hg4 (fun k hk=>Nat.lt_of_lt_of_le b0 (HO.out.lt k hk).1));replace HZ:=hI (Nat.le_trans HZ.out hg4.size);clear HO;have HO:=hI ho4;clear ho4 hg4 G3;dsimp only))
 clear x6 x7
 obtain ⟨x0,x1,x2,x3,x4,x5,x6,x7,x8,x9⟩:=C.out.cf.all
 go_wp2_with (first
  | (go_at_call 68;(with_reducible refine (krput_v p.code p.id (p.data ++ [q.n1] ++ p.one ++ p.two) _ HE.out m HM.out n HN.out (1+q.n1+q.n2) _ _ _ (Rd.own HO.out) HL.out (by omega)).mono ?_);rintro e wn ⟨A5,c5,rfl,h5,h5c,hb⟩;replace C:=hI (C.out.step hb);have X:=hI h5;have K:=hI h5c;clear h5 h5c hb))
 go_ret2
 exact PutR.mk _ _ rfl X.out K.out C.out.bel
theorem chrp_bad_2 (p : Pk) (q : Pl) (w : World) (h : Pw w p q) (hs : p.sm) (h1 : p.proto = 49699) (hc : p.code = 2) (hr : nothL (restH p) = false) :
    Calls Tryz.prog 51 #[p.val q] w (PutR w [] 0 9) := by
  have C := Lib.hid (BxC.made 29 w p q)
  have j1 : ((p.proto : Int) != 49699) = false := by simp; omega
  have BAD := Lib.hid (show ¬ (q.no = 0 ∧ p.sub = 0 ∧ p.magic = 0 ∧ q.nn = 0 ∧ q.nd = 0) from fun hh => by
    have e0 := h.lo
    have e1 := h.l1
    have e2 := h.l2
    have e3 := h.ld
    have e4 := h.ln
    have hv := (show isvB p.code = true from decide_eq_true (by omega))
    have := (nothH_iff p).2 ⟨fun _ => by omega, fun e => absurd hv e, by omega, by omega, by omega, by omega⟩
    rw [hr] at this
    cases this)
  have u1 : ((p.code : Int) == 1) = false := by simp; omega
  have u2 : ((p.code : Int) == 2) = true := by simp; omega
  clear h1 hc hr h hs
  go_enter Tryz.func51, Tryz.ntmps51
  go_upto_region 1 with fail
  obtain ⟨wm, hwm⟩ : ∃ wm, wm = w.alloc (p.obj q 29) := ⟨_, rfl⟩
  rw [← hwm] at C ⊢
  clear hwm
  obtain ⟨x0, x1, x2, x3, x4, x5, x6, x7, x8, x9⟩ := C.out.cf.all
  have b0 : w.heap.size < wm.heap.size := C.out.cf.lt
  go_wp2_with fail
  all_goals first
    | (go_ret2
       exact PutR.mk none 0 rfl Rd.nil (Nat.le_refl _) C.out.bel)
    | (exfalso
       refine BAD.out ⟨?_, ?_, ?_, ?_, ?_⟩ <;> first | assumption | omega | (simp_all; done) | (simp_all; omega))
theorem chrp_none_2 (p:Pk) (q:Pl) (w:World) (h:Pw w p q) (hs:p.sm) (h1:p.proto=49699) (hc:p.code=2) (hr:nothL (restH p)=true) (hl:q.n1=0) :
  Calls Tryz.prog 51 #[p.val q] w (PutR w [] 0 4):=by
 have C:=hI (BxC.made 29 w p q)
 have H:=hI h
 have j1:((p.proto:Int) != 49699)=false:=by simp;omega
 obtain ⟨g1,g2,g4,g5,g6,g7⟩:=(nothH_iff p).1 hr
 have hv:=(show isvB p.code=true from decide_eq_true (by omega))
 have e0:=h.lo
 have e1:=h.l1
 have e2:=h.l2
 have e3:=h.ld
 have e4:=h.ln
 have s1:q.n1≤1073741824:=by rw [←e1];exact hs.n1
 have s2:q.n2≤1073741824:=by rw [←e2];exact hs.n2
 have s8:q.nd≤1073741824:=by rw [←e3];exact hs.nd
 have d1:¬ (0:Int)<(q.no:Int):=by omega
 have d2:((p.sub:Int) != 0)=false:=by simp;omega
 have d3:((p.magic:Int) != 0)=false:=by simp;omega
 have d4:¬ (0:Int)<(q.nn:Int):=by omega
 have HD0:=hI (show p.data.length=0 from g1 hv)
 have d5:¬ (0:Int)<(q.nd:Int):=by have:=g1 hv;omega
 have u1:((p.code:Int) == 1)=false:=by simp;omega
 have u2:((p.code:Int) == 2)=true:=by simp;omega
 have l0:((q.n1:Int) == 0)=true:=by simp;omega
 clear h1 hc hr h hs g1 g2 g4 g5 g6 g7 e0 e1 e2 e3 e4 hv hl
 go_enter Tryz.func51,Tryz.ntmps51
 go_upto_region 1 with fail
 obtain ⟨wm,hwm⟩:∃ wm,wm=w.alloc (p.obj q 29):=⟨_,rfl⟩
 rw [←hwm] at C ⊢
 clear hwm
 obtain ⟨x0,x1,x2,x3,x4,x5,x6,x7,x8,x9⟩:=C.out.cf.all
 have b0:w.heap.size<wm.heap.size:=C.out.cf.lt
 go_wp2_with fail
 go_ret2
 exact PutR.mk none 0 rfl Rd.nil (Nat.le_refl _) C.out.bel
theorem chrp_long_2 (p:Pk) (q:Pl) (w:World) (h:Pw w p q) (hs:p.sm) (h1:p.proto=49699) (hc:p.code=2) (hr:nothL (restH p)=true) (hl:255<q.n1) :
  Calls Tryz.prog 51 #[p.val q] w (PutR w [] 0 3):=by
 have C:=hI (BxC.made 29 w p q)
 have H:=hI h
 have j1:((p.proto:Int) != 49699)=false:=by simp;omega
 obtain ⟨g1,g2,g4,g5,g6,g7⟩:=(nothH_iff p).1 hr
 have hv:=(show isvB p.code=true from decide_eq_true (by omega))
 have e0:=h.lo
 have e1:=h.l1
 have e2:=h.l2
 have e3:=h.ld
 have e4:=h.ln
 have s1:q.n1≤1073741824:=by rw [←e1];exact hs.n1
 have s2:q.n2≤1073741824:=by rw [←e2];exact hs.n2
 have s8:q.nd≤1073741824:=by rw [←e3];exact hs.nd
 have d1:¬ (0:Int)<(q.no:Int):=by omega
 have d2:((p.sub:Int) != 0)=false:=by simp;omega
 have d3:((p.magic:Int) != 0)=false:=by simp;omega
 have d4:¬ (0:Int)<(q.nn:Int):=by omega
 have HD0:=hI (show p.data.length=0 from g1 hv)
 have d5:¬ (0:Int)<(q.nd:Int):=by have:=g1 hv;omega
 have u1:((p.code:Int) == 1)=false:=by simp;omega
 have u2:((p.code:Int) == 2)=true:=by simp;omega
 have l0:((q.n1:Int) == 0)=false:=by simp;omega
 have l1:(255:Int)<(q.n1:Int):=by omega
 clear h1 hc hr h hs g1 g2 g4 g5 g6 g7 e0 e1 e2 e3 e4 hv hl
 go_enter Tryz.func51,Tryz.ntmps51
 go_upto_region 1 with fail
 obtain ⟨wm,hwm⟩:∃ wm,wm=w.alloc (p.obj q 29):=⟨_,rfl⟩
 rw [←hwm] at C ⊢
 clear hwm
 obtain ⟨x0,x1,x2,x3,x4,x5,x6,x7,x8,x9⟩:=C.out.cf.all
 have b0:w.heap.size<wm.heap.size:=C.out.cf.lt
 go_wp2_with fail
 go_ret2
 exact PutR.mk none 0 rfl Rd.nil (Nat.le_refl _) C.out.bel
theorem chrp_ok_2 (p:Pk) (q:Pl) (w:World) (h:Pw w p q) (hs:p.sm) (h1:p.proto=49699) (hc:p.code=2) (hr:nothL (restH p)=true) (hl0:¬ q.n1=0) (hl:q.n1≤255) (m:List Nat) (k:Nat) (hm:kputA p.code p.id (p.data ++ [q.n1] ++ p.one ++ p.two)=m) (he:kerrP (p.data ++ [q.n1] ++ p.one ++ p.two)=k) (n:Nat) (hn:m.length=n) :
  Calls Tryz.prog 51 #[p.val q] w (PutR w m n k):=by
 obtain ⟨i0,hi,hz0,hz1,hz2⟩:=info_parts byte_info
 have C:=hI (BxC.made 29 w p q)
 have H:=hI h
 have j1:((p.proto:Int) != 49699)=false:=by simp;omega
 obtain ⟨g1,g2,g4,g5,g6,g7⟩:=(nothH_iff p).1 hr
 have hv:=(show isvB p.code=true from decide_eq_true (by omega))
 have e0:=h.lo
 have e1:=h.l1
 have e2:=h.l2
 have e3:=h.ld
 have e4:=h.ln
 have s1:q.n1≤1073741824:=by rw [←e1];exact hs.n1
 have s2:q.n2≤1073741824:=by rw [←e2];exact hs.n2
 have s8:q.nd≤1073741824:=by rw [←e3];exact hs.nd
 have d1:¬ (0:Int)<(q.no:Int):=by omega
 have d2:((p.sub:Int) != 0)=false:=by simp;omega
 have d3:((p.magic:Int) != 0)=false:=by simp;omega
 have d4:¬ (0:Int)<(q.nn:Int):=by omega
 have HD0:=hI (show p.data.length=0 from g1 hv)
 have d5:¬ (0:Int)<(q.nd:Int):=by have:=g1 hv;omega
 have u1:((p.code:Int) == 1)=false:=by simp;omega
 have u2:((p.code:Int) == 2)=true:=by simp;omega
 have l1:¬ (255:Int)<(q.n1:Int):=by omega
 have l0:((q.n1:Int) == 0)=false:=by simp;omega
 have z1:IntKind.u8.wrap (q.n1:Int)=(q.n1:Int):=by rw [IntKind.wrap_u8];omega
 have HM:=hI hm
 have HE:=hI he
 have HN:=hI hn
 have HL:=hI (show (p.data ++ [q.n1] ++ p.one ++ p.two).length=1+q.n1+q.n2 by simp only [List.length_append,List.length_cons,List.length_nil];omega)
 clear h1 hc hr h hs g1 g2 g4 g5 g6 g7 e0 e1 e2 e3 e4 hv hm he hn hl hl0
 go_enter Tryz.func51,Tryz.ntmps51
 go_upto_region 1 with fail
 obtain ⟨wm,hwm⟩:∃ wm,wm=w.alloc (p.obj q 29):=⟨_,rfl⟩
 rw [←hwm] at C ⊢
 clear hwm
 obtain ⟨x0,x1,x2,x3,x4,x5,x6,x7,x8,x9⟩:=C.out.cf.all
 have b0:w.heap.size<wm.heap.size:=C.out.cf.lt
 have OX:=hI (show (wm.alloc (.cells #[] 5)).ownsRow wm.heap.size 5 1 (.slice (some ⟨wm.heap.size,0,none⟩) 0 0) 0 (bvs []) from World.ownsRow_lit wm #[] 0 (Nat.le_refl _) (by unfold maxLen;omega) rfl)
 have G0:=hI trivial
 go_upto_region 13 with (first
  | (at_builtin;have _g:=G0;clear _g;refine list_app rfl _ _ _ rfl _ i0 Tryz.underlying26 hi hz0 hz1 hz2 wm.heap.size _ 0 [] rfl OX.out _ _ 0 _ p.data rfl (H.out.on (C.out.al (.cells #[] 5)).bel).rd HD0.out (by omega) (by rw [World.size_alloc];exact Nat.le_succ _) ?_;intro A3 c3 w3 ho3 hg3;rw [List.nil_append,Nat.zero_add] at ho3;rw [Nat.zero_add];replace C:=hI (C.out.grown hg3 (fun k hk=>Nat.lt_of_lt_of_le b0 (OX.out.lt k hk).1) ((Below.refl _ _).alloc (Nat.le_refl _) _));have HZ:=hI (Nat.le_trans (show wm.heap.size≤(wm.alloc (.cells #[] 5)).heap.size by rw [World.size_alloc];exact Nat.le_succ _) hg3.size);have HO:=hI ho3;clear ho3 hg3 OX G0;have G1:=hI trivial;clear x0 x1 x2 x3 x4 x5 x6 x7 x8 x9;obtain ⟨x0,x1,x2,x3,x4,x5,x6,x7,x8,x9⟩:=C.out.cf.all)
  | (at_builtin;have _g:=G1;clear _g;refine list_app rfl _ _ _ rfl _ i0 Tryz.underlying26 hi hz0 hz1 hz2 wm.heap.size _ 0 p.data rfl (own_below HO.out ((Below.refl _ _).alloc (Nat.le_refl _) _)) _ _ 1 _ [q.n1] rfl (show Rd (w3.alloc (.cells #[.int .u8 (q.n1:Int)] 5)) (w3.alloc (.cells #[.int .u8 (q.n1:Int)] 5)).heap.size (some ⟨w3.heap.size,0,none⟩) [q.n1] from Rd.lit_ w3 [q.n1]) rfl (by omega) (by rw [World.size_alloc];exact Nat.le_succ_of_le HZ.out) ?_;intro A4 c4 w5 ho4 hg4;rw [Nat.zero_add] at ho4 ⊢;replace C:=hI (C.out.grown hg4 (fun k hk=>Nat.lt_of_lt_of_le b0 (HO.out.lt k hk).1) ((Below.refl _ _).alloc (Nat.le_refl _) _));replace HZ:=hI (Nat.le_trans (Nat.le_trans HZ.out (show w3.heap.size≤(w3.alloc (.cells #[.int .u8 (q.n1:Int)] 5)).heap.size by rw [World.size_alloc];exact Nat.le_succ _)) hg4.size);clear HO;have HO:=hI ho4;clear ho4 hg4 G1;have G2:=hI trivial;clear x0 x1 x2 x3 x4 x5 x6 x7 x8 x9;obtain ⟨x0,x1,x2,x3,x4,x5,x6,x7,x8,x9⟩:=C.out.cf.all))
 have BA:=hI (show Below w5.heap.size w5 w5.drew from (Below.refl w5.heap.size w5).drew)
 clear x0 x1 x2 x3 x4 x5 x6 x7 x8 x9
 obtain ⟨x6,x7⟩:=C.out.c67
 go_region_held3 (fun W=>W.cell? ⟨w.heap.size,6,none⟩=some (.slice q.a1 q.n1 q.c1)∧W.cell? ⟨w.heap.size,7,none⟩=some (.slice q.a2 q.n2 q.c2)) (first | (with_reducible exact C.out.c67) | (with_reducible exact C.out.drew.c67)) (first
  | (have _g:=G2;clear _g;(first | (with_reducible refine at_step (w5.drew) ?_) | (with_reducible refine at_step (w5) ?_));(refine step_app _ (by rfl) _ _ _ (by rfl) _ i0 Tryz.underlying26 hi hz0 hz1 hz2 wm.heap.size _ 1 (p.data ++ [q.n1]) (by rfl) (own_below HO.out BA.out) _ _ q.n1 _ p.one (by rfl) (H.out.on C.out.drew.bel).r1 H.out.l1 (by omega) (Nat.le_trans HZ.out BA.out.size) ?_);intro A4 c4 w6 ho4 hg4;replace C:=hI (C.out.grown hg4 (fun k hk=>Nat.lt_of_lt_of_le b0 (HO.out.lt k hk).1) BA.out);replace HZ:=hI (Nat.le_trans (Nat.le_trans HZ.out BA.out.size) hg4.size);clear HO;have HO:=hI ho4;clear ho4 hg4 BA G2;have G3:=hI trivial;dsimp only)
  | (have _g:=G3;clear _g;(with_reducible refine at_step (w6) ?_);(refine step_app _ (by rfl) _ _ _ (by rfl) _ i0 Tryz.underlying26 hi hz0 hz1 hz2 wm.heap.size _ (1+q.n1) (p.data ++ [q.n1] ++ p.one) (by rfl) HO.out _ _ q.n2 _ p.two (by rfl) (H.out.on C.out.bel).r2 H.out.l2 (by omega) HZ.out ?_);intro A4 c4 w7 ho4 hg4;replace C:=hI (C.out.grown hg4 (fun k hk=>Nat.lt_of_lt_of_le b0 (HO.out.lt k hk).1));replace HZ:=hI (Nat.le_trans HZ.out hg4.size);clear HO;have HO:=hI ho4;clear ho4 hg4 G3;dsimp only))
 clear x6 x7
 obtain ⟨x0,x1,x2,x3,x4,x5,x6,x7,x8,x9⟩:=C.out.cf.all
 go_wp2_with (first
  | (go_at_call 68;(with_reducible refine (krput_v p.code p.id (p.data ++ [q.n1] ++ p.one ++ p.two) _ HE.out m HM.out n HN.out (1+q.n1+q.n2) _ _ _ (Rd.own HO.out) HL.out (by omega)).mono ?_);rintro e wn ⟨A5,c5,rfl,h5,h5c,hb⟩;replace C:=hI (C.out.step hb);have X:=hI h5;have K:=hI h5c;clear h5 h5c hb))
 go_ret2
 exact PutR.mk _ _ rfl X.out K.out C.out.bel
theorem chrp_bad_o (p : Pk) (q : Pl) (w : World) (h : Pw w p q) (hs : p.sm) (h1 : p.proto = 49699) (hc : ¬ (p.code = 1 ∨ p.code = 2)) (hr : nothL (restH p) = false) :
    Calls Tryz.prog 51 #[p.val q] w (PutR w [] 0 9) := by
  have C := Lib.hid (BxC.made 29 w p q)
  have j1 : ((p.proto : Int) != 49699) = false := by simp; omega
  have BAD := Lib.hid (show ¬ (q.no = 0 ∧ p.sub = 0 ∧ p.magic = 0 ∧ q.nn = 0 ∧ q.n1 = 0 ∧ q.n2 = 0) from fun hh => by
    have e0 := h.lo
    have e1 := h.l1
    have e2 := h.l2
    have e3 := h.ld
    have e4 := h.ln
    have hv := (show isvB p.code = false from decide_eq_false hc)
    have := (nothH_iff p).2 ⟨fun e => (by rw [hv] at e; cases e), fun _ => ⟨by omega, by omega⟩, by omega, by omega, by omega, by omega⟩
    rw [hr] at this
    cases this)
  have u1 : ((p.code : Int) == 1) = false := by simp; omega
  have u2 : ((p.code : Int) == 2) = false := by simp; omega
  clear h1 hc hr h hs
  go_enter Tryz.func51, Tryz.ntmps51
  go_upto_region 1 with fail
  obtain ⟨wm, hwm⟩ : ∃ wm, wm = w.alloc (p.obj q 29) := ⟨_, rfl⟩
  rw [← hwm] at C ⊢
  clear hwm
  obtain ⟨x0, x1, x2, x3, x4, x5, x6, x7, x8, x9⟩ := C.out.cf.all
  have b0 : w.heap.size < wm.heap.size := C.out.cf.lt
  go_wp2_with fail
  all_goals first
    | (go_ret2
       exact PutR.mk none 0 rfl Rd.nil (Nat.le_refl _) C.out.bel)
    | (exfalso
       refine BAD.out ⟨?_, ?_, ?_, ?_, ?_, ?_⟩ <;> first | assumption | omega | (simp_all; done) | (simp_all; omega))
theorem chrp_ok_o (p:Pk) (q:Pl) (w:World) (h:Pw w p q) (hs:p.sm) (h1:p.proto=49699) (hc:¬ (p.code=1∨p.code=2)) (hr:nothL (restH p)=true) (m:List Nat) (k:Nat) (hm:kputA p.code p.id (p.data)=m) (he:kerrP (p.data)=k) (n:Nat) (hn:m.length=n) :
  Calls Tryz.prog 51 #[p.val q] w (PutR w m n k):=by
 obtain ⟨i0,hi,hz0,hz1,hz2⟩:=info_parts byte_info
 have C:=hI (BxC.made 29 w p q)
 have H:=hI h
 have j1:((p.proto:Int) != 49699)=false:=by simp;omega
 obtain ⟨g1,g2,g4,g5,g6,g7⟩:=(nothH_iff p).1 hr
 have hv:=(show isvB p.code=false from decide_eq_false hc)
 have e0:=h.lo
 have e1:=h.l1
 have e2:=h.l2
 have e3:=h.ld
 have e4:=h.ln
 have s1:q.n1≤1073741824:=by rw [←e1];exact hs.n1
 have s2:q.n2≤1073741824:=by rw [←e2];exact hs.n2
 have s8:q.nd≤1073741824:=by rw [←e3];exact hs.nd
 have d1:¬ (0:Int)<(q.no:Int):=by omega
 have d2:((p.sub:Int) != 0)=false:=by simp;omega
 have d3:((p.magic:Int) != 0)=false:=by simp;omega
 have d4:¬ (0:Int)<(q.nn:Int):=by omega
 have d6:¬ (0:Int)<(q.n2:Int):=by have:=(g2 (by rw [hv];decide)).2;omega
 have d7:¬ (0:Int)<(q.n1:Int):=by have:=(g2 (by rw [hv];decide)).1;omega
 have u1:((p.code:Int) == 1)=false:=by simp;omega
 have u2:((p.code:Int) == 2)=false:=by simp;omega
 have l1:¬ (255:Int)<(q.n1:Int):=by omega
 have HM:=hI hm
 have HE:=hI he
 have HN:=hI hn
 have HL:=hI (show (p.data).length=q.nd by omega)
 clear h1 hc hr h hs g1 g2 g4 g5 g6 g7 e0 e1 e2 e3 e4 hv hm he hn
 go_enter Tryz.func51,Tryz.ntmps51
 go_upto_region 1 with fail
 obtain ⟨wm,hwm⟩:∃ wm,wm=w.alloc (p.obj q 29):=⟨_,rfl⟩
 rw [←hwm] at C ⊢
 clear hwm
 obtain ⟨x0,x1,x2,x3,x4,x5,x6,x7,x8,x9⟩:=C.out.cf.all
 have b0:w.heap.size<wm.heap.size:=C.out.cf.lt
 have OX:=hI (show (wm.alloc (.cells #[] 5)).ownsRow wm.heap.size 5 1 (.slice (some ⟨wm.heap.size,0,none⟩) 0 0) 0 (bvs []) from World.ownsRow_lit wm #[] 0 (Nat.le_refl _) (by unfold maxLen;omega) rfl)
 have G0:=hI trivial
 go_wp2_with (first
  | (at_builtin;have _g:=G0;clear _g;refine list_app rfl _ _ _ rfl _ i0 Tryz.underlying26 hi hz0 hz1 hz2 wm.heap.size _ 0 [] rfl OX.out _ _ q.nd _ p.data rfl (H.out.on (C.out.al (.cells #[] 5)).bel).rd H.out.ld (by omega) (by rw [World.size_alloc];exact Nat.le_succ _) ?_;intro A3 c3 w3 ho3 hg3;rw [List.nil_append,Nat.zero_add] at ho3;rw [Nat.zero_add];replace C:=hI (C.out.grown hg3 (fun k hk=>Nat.lt_of_lt_of_le b0 (OX.out.lt k hk).1) ((Below.refl _ _).alloc (Nat.le_refl _) _));have HZ:=hI (Nat.le_trans (show wm.heap.size≤(wm.alloc (.cells #[] 5)).heap.size by rw [World.size_alloc];exact Nat.le_succ _) hg3.size);have HO:=hI ho3;clear ho3 hg3 OX G0;have G1:=hI trivial;clear x0 x1 x2 x3 x4 x5 x6 x7 x8 x9;obtain ⟨x0,x1,x2,x3,x4,x5,x6,x7,x8,x9⟩:=C.out.cf.all)
  | (go_at_call 68;(with_reducible refine (krput_v p.code p.id (p.data) _ HE.out m HM.out n HN.out (q.nd) _ _ _ (Rd.own HO.out) HL.out (by omega)).mono ?_);rintro e wn ⟨A5,c5,rfl,h5,h5c,hb⟩;replace C:=hI (C.out.step hb);have X:=hI h5;have K:=hI h5c;clear h5 h5c hb))
 go_ret2
 exact PutR.mk _ _ rfl X.out K.out C.out.bel
theorem chrp_any (p:Pk) (q:Pl) (w:World) (h:Pw w p q) (hs:p.sm) (m:List Nat) (k:Nat) (hm:chputB p=(m,k)) (n:Nat) (hn:m.length=n) :
  Calls Tryz.prog 51 #[p.val q] w (PutR w m n k):=by
 have e1:=h.l1
 have e3:=h.ld
 by_cases h1:p.proto=49699
 case neg =>
  rw [chput_kind h1] at hm
  obtain ⟨rfl,rfl⟩:=Prod.mk.inj hm
  obtain rfl:0=n:=hn
  exact chrp_kind p q w h1
 cases hr:nothL (restH p)
 ·rw [chputB,if_pos h1,hr] at hm
  obtain ⟨rfl,rfl⟩:=Prod.mk.inj hm
  obtain rfl:0=n:=hn
  by_cases hc:p.code=1
  ·exact chrp_bad_1 p q w h hs h1 hc hr
  by_cases hc2:p.code=2
  ·exact chrp_bad_2 p q w h hs h1 hc2 hr
  ·exact chrp_bad_o p q w h hs h1 (by omega) hr
 rw [chputB,if_pos h1,if_pos hr] at hm
 obtain ⟨g1,g2,-,-,-,-⟩:=(nothH_iff p).1 hr
 have bad:∀ {a:List Nat × Nat} {j:Nat},wrH p=a→a=([],j)→j≠0→[]=m∧j=k∧0=n:=by
  rintro a j h5 rfl hj
  rw [h5] at hm
  dsimp only at hm
  rw [if_neg hj] at hm
  obtain ⟨rfl,rfl⟩:=Prod.mk.inj hm
  exact ⟨rfl,rfl,hn⟩
 cases hv:isvB p.code
 ·have hw:wrH p=(p.data,0):=by rw [wrH,hv,if_neg (by decide)]
  rw [hw] at hm
  dsimp only at hm
  rw [if_pos rfl] at hm
  exact chrp_ok_o p q w h hs h1 (isvB_no hv) hr m k (Prod.mk.inj hm).1 (Prod.mk.inj hm).2 n hn
 ·have ed:p.data=[]:=List.eq_nil_of_length_eq_zero (g1 hv)
  have hw:wrH p=(if p.one=[] then ([],4) else if p.one.length≤255 then (lenT p.one ++ p.two,0) else ([],3)):=by rw [wrH,if_pos hv]
  by_cases h0:q.n1=0
  ·obtain ⟨rfl,rfl,rfl⟩:=bad hw (if_pos (List.eq_nil_of_length_eq_zero (e1.trans h0))) (by decide)
   rcases isvB_yes hv with hc | hc
   ·exact chrp_none_1 p q w h hs h1 hc hr h0
   ·exact chrp_none_2 p q w h hs h1 hc hr h0
  ·rw [if_neg (fun e=>h0 (by rw [←e1,e];rfl))] at hw
   by_cases hl:q.n1≤255
   ·rw [if_pos (by omega),show lenT p.one ++ p.two=p.data ++ [q.n1] ++ p.one ++ p.two by rw [←e1,ed];simp [lenT]] at hw
    rw [hw] at hm
    dsimp only at hm
    rw [if_pos rfl] at hm
    rcases isvB_yes hv with hc | hc
    ·exact chrp_ok_1 p q w h hs h1 hc hr h0 hl m k (Prod.mk.inj hm).1 (Prod.mk.inj hm).2 n hn
    ·exact chrp_ok_2 p q w h hs h1 hc hr h0 hl m k (Prod.mk.inj hm).1 (Prod.mk.inj hm).2 n hn
   ·obtain ⟨rfl,rfl,rfl⟩:=bad hw (if_neg (by omega)) (by decide)
    rcases isvB_yes hv with hc | hc
    ·exact chrp_long_1 p q w h hs h1 hc hr (by omega)
    ·exact chrp_long_2 p q w h hs h1 hc hr (by omega)
end Go.Proofs.YtmhjnghomihjlaaGreat
