
/-
  What both Answers of layer 18 answer. No condition.
-/
import Derived.Test.YtcmapiaacimbeaaChpM
import Derived.Test.YtcmapiaacimbeaaPktC
import Derived.Deep.CutRange
import Derived.Deep.RegionHeld3
namespace Go.Proofs.Ytcmapiaacimbeaa
open Go.RowKit
set_option linter.unusedVariables false

/-- What a call of two packets knows of the world it stands in. -/
structure AnC (T : TypeId) (w W : World) (p o : Pk) (q r : Pl) : Prop where
  bel : Below w.heap.size w W
  c1 : Px W w.heap.size T p q
  c2 : Px W (w.heap.size + 1) T o r
theorem AnC.made (T : TypeId) (w : World) (p o : Pk) (q r : Pl) : AnC T w ((w.alloc (p.obj q T)).alloc (o.obj r T)) p o q r := by
  have e1 : (w.alloc (p.obj q T)).heap.size = w.heap.size + 1 := World.size_alloc _ _
  refine ⟨belowP_two w _ _, heap_alloc2_old w _ _, ?_⟩
  have := heap_alloc_new (w.alloc (p.obj q T)) (o.obj r T)
  rw [e1] at this
  exact this
theorem AnC.step {T : TypeId} {w W X W' : World} {p o : Pk} {q r : Pl} (h : AnC T w W p o q r) (hb : Below X.heap.size X W') (hX : Below W.heap.size W X := by first | exact Below.refl _ _ | exact (Below.refl _ _).drew) : AnC T w W' p o q r :=
  have hh := hX.trans (hb.mono hX.size)
  ⟨h.bel.trans (hh.mono h.bel.size), h.c1.below hh, h.c2.below hh⟩
theorem AnC.drew {T : TypeId} {w W : World} {p o : Pk} {q r : Pl} (h : AnC T w W p o q r) : AnC T w W.drew p o q r := h.step (X := W) (Below.refl _ _).drew

set_option maxHeartbeats 8000000 in
theorem chans_any (p o : Pk) (q r : Pl) (w : World) (b : Bool) (hb : chansB p o = b) :
    Calls Try.prog 16 #[p.val q, o.val r] w fun e w' => e = .returned (.bool b) ∧ Below w.heap.size w w' := by
  have C := Lib.hid (AnC.made 36 w p o q r)
  have E := Lib.hid hb
  clear hb
  go_enter Try.func16, Try.ntmps16
  go_upto_region 1 with fail
  obtain ⟨wm, hwm⟩ : ∃ wm, wm = (w.alloc (p.obj q 36)).alloc (o.obj r 36) := ⟨_, rfl⟩
  rw [← hwm] at C ⊢
  clear hwm
  obtain ⟨x0, x1, x2, x3, x4, x5, x6, x7, x8, x9⟩ := C.out.c1.all
  obtain ⟨y0, y1, y2, y3, y4, y5, y6, y7, y8, y9⟩ := C.out.c2.all
  clear x3 x4 x5 x6 x7 x8 x9 y3 y4 y5 y6 y7 y8 y9
  go_wp2_with fail
  all_goals
    clear x0 x1 x2 y0 y1 y2
    go_ret
    refine ⟨?_, C.out.bel⟩
    show Ending.returned (.bool _) = _
    have W' := E.out
    clear E C
    congr 2
    rw [← W']
    clear W'
    unfold chansB
    first
      | (symm; rw [decide_eq_true_eq]; simp_all; omega)
      | (symm; rw [decide_eq_false_iff_not]; simp_all; omega)
      | (rw [Bool.eq_iff_iff]; simp_all; omega)

set_option maxHeartbeats 8000000 in
theorem chrans_any (p o : Pk) (q r : Pl) (w : World) (b : Bool) (hb : chansB p o = b) :
    Calls Try.prog 17 #[p.val q, o.val r] w fun e w' => e = .returned (.bool b) ∧ Below w.heap.size w w' := by
  have C := Lib.hid (AnC.made 28 w p o q r)
  have E := Lib.hid hb
  clear hb
  go_enter Try.func17, Try.ntmps17
  go_upto_region 1 with fail
  obtain ⟨wm, hwm⟩ : ∃ wm, wm = (w.alloc (p.obj q 28)).alloc (o.obj r 28) := ⟨_, rfl⟩
  rw [← hwm] at C ⊢
  clear hwm
  obtain ⟨x0, x1, x2, x3, x4, x5, x6, x7, x8, x9⟩ := C.out.c1.all
  obtain ⟨y0, y1, y2, y3, y4, y5, y6, y7, y8, y9⟩ := C.out.c2.all
  clear x3 x4 x5 x6 x7 x8 x9 y3 y4 y5 y6 y7 y8 y9
  go_wp2_with fail
  all_goals
    clear x0 x1 x2 y0 y1 y2
    go_ret
    refine ⟨?_, C.out.bel⟩
    show Ending.returned (.bool _) = _
    have W' := E.out
    clear E C
    congr 2
    rw [← W']
    clear W'
    unfold chansB
    first
      | (symm; rw [decide_eq_true_eq]; simp_all; omega)
      | (symm; rw [decide_eq_false_iff_not]; simp_all; omega)
      | (rw [Bool.eq_iff_iff]; simp_all; omega)
end Go.Proofs.Ytcmapiaacimbeaa
