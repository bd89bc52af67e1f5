
/-
  bytes.Clone: a copy of the call's own; of nil: nil. No condition beyond: at most 2^38 elements.
-/
import Derived.Test.YtamdaepeogmboaaDoorAppn
import Derived.Lib.SliceRun
namespace Go.Proofs.YtamdaepeogmboaaDoor
set_option maxRecDepth 4000
open Go.RowKit

set_option maxHeartbeats 400000 in
theorem clone_any (l : List Nat) (n : Nat) (A : Option Addr) (c : Nat) (w : World) (h : Rd w w.heap.size A l) (hl : l.length = n) (hn : n ≤ 274877906944) :
    Calls Tryd.prog 34 #[.slice A n c] w fun e w' => ∃ A' c', e = .returned (.slice A' n c') ∧ New w w' A' c' n l := by
  obtain ⟨i0, hi, hz0, hz1, hz2⟩ := info_parts byte_info
  have q22 : ∀ (w : World) (a : Option Addr) (n c n' c' : Nat), (binOp .eql 30 (.slice a n c) (.slice none n' c')).run Tryd.prog w = .ok (.bool a.isNone) w := fun w a n c n' c' => Lib.run_eql_slice_nil w _ _ a n c n' c' Tryd.underlying30
  rcases A with _ | a
  · have hnil : n = 0 := by
      rcases Nat.eq_zero_or_pos n with h0 | h0
      · exact h0
      · obtain ⟨_, _, h, _⟩ := h (by omega)
        cases h
    subst hnil
    obtain rfl : l = [] := List.eq_nil_of_length_eq_zero hl
    go_enter Tryd.func34, Tryd.ntmps34
    go_wp2
    go_ret
    exact ⟨none, 0, rfl, rfl, ⟨rfl, .inl ⟨rfl, rfl⟩⟩, Rd.nil, Below.refl _ _⟩
  · have HR := Lib.hid h
    have HL := Lib.hid hl
    clear h hl
    go_enter Tryd.func34, Tryd.ntmps34
    have hown1 : (w.alloc (.cells #[] 5)).ownsRow w.heap.size 5 1 (.slice (some ⟨w.heap.size, 0, none⟩) 0 0) 0 (bvs []) := World.ownsRow_lit w #[] 0 (Nat.le_refl _) (by unfold maxLen; omega) rfl
    go_wp2_with (at_builtin; refine list_app rfl _ _ 30 rfl 5 i0 Tryd.underlying30 hi hz0 hz1 hz2 w.heap.size _ 0 [] rfl hown1 w.heap.size (some a) n c l rfl (HR.out.alloc (Nat.le_refl _) _) HL.out (by omega) (by simp) ?_; intro A' c' w3 hown3 hgrow3)
    go_ret
    have hb1 : Below w.heap.size w (w.alloc (.cells #[] 5)) := (Below.refl _ _).alloc (Nat.le_refl _) _
    have hb3 : Below w.heap.size w w3 := hb1.grown hgrow3 (by simp) (fun k hk => (hown1.lt k hk).1)
    rw [Nat.zero_add] at hown3
    obtain ⟨A2, c2, e, hN⟩ := New.mk hown3 hb3
    injection e with e1 e2 e3
    subst e1; subst e3
    exact ⟨_, _, rfl, hN⟩

end Go.Proofs.YtamdaepeogmboaaDoor
