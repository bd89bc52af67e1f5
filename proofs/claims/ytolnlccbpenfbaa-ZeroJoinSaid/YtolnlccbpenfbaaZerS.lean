
/-
  The example of the document for layer 6. No condition.
-/
import Derived.Test.YtolnlccbpenfbaaZerC
namespace Go.Proofs.Ytolnlccbpenfbaa
open Go.RowKit

set_option maxHeartbeats 400000 in
theorem speaks6_any (w : World) : Calls Try.prog 7 #[] w fun e w' => e = .returned (.bool true) ∧ Below w.heap.size w w' := by
  have hby : By [1, 1, 1, 1, 1, 1] := by intro x hx; simp at hx; omega
  go_enter Try.func7, Try.ntmps7
  go_wp2_with fail
  refine (insert_any [1, 1, 1, 1, 1, 1] 6 _ _ _ (Rd.lit_ w [1, 1, 1, 1, 1, 1]) hby rfl (by omega)).mono ?_
  rintro e w1 ⟨A1, c1, n1, rfl, hl1, -, hr1, hb1⟩
  have hn1 : n1 = 7 := by rw [← hl1]; decide
  subst hn1
  have HL1 := Lib.hid hl1
  have hB1 : Below w.heap.size w w1 := ((Below.refl w.heap.size w).alloc (Nat.le_refl _) _).trans (hb1.mono (by simp))
  clear hl1 hb1
  go_wp2_with fail
  refine (equal_yes (insB [1, 1, 1, 1, 1, 1]) [1, 1, 1, 1, 1, 0, 1] 7 7 _ _ _ _ _ ((hr1.alloc (Nat.le_refl _) _).more (by simp)) (Rd.lit_ w1 [1, 1, 1, 1, 1, 0, 1]) HL1.out rfl (by omega) (by decide)).mono ?_
  rintro e w2 ⟨rfl, hb2⟩
  have hB2 := (hB1.alloc hB1.size _).trans (hb2.mono (B' := w.heap.size) (by have := hB1.size; simp; omega))
  clear hb2 hB1 hr1
  go_wp2_with fail
  refine (flag_any w2).mono ?_
  rintro e w3 ⟨A3, c3, rfl, -, -, hr3, hb3⟩
  have hB3 := hB2.trans (hb3.mono hB2.size)
  clear hb3
  go_wp2_with fail
  refine (equal_yes [0, 1, 1, 1, 1, 1, 1, 0] [0, 1, 1, 1, 1, 1, 1, 0] 8 8 _ _ _ _ _ ((hr3.alloc (Nat.le_refl _) _).more (by simp)) (Rd.lit_ w3 [0, 1, 1, 1, 1, 1, 1, 0]) rfl rfl (by omega) rfl).mono ?_
  rintro e w4 ⟨rfl, hb4⟩
  have hB4 := (hB3.alloc hB3.size _).trans (hb4.mono (B' := w.heap.size) (by have := hB3.size; simp; omega))
  clear hb4 hB3
  go_wp2_with fail
  go_ret
  exact ⟨rfl, hB4⟩

end Go.Proofs.Ytolnlccbpenfbaa
