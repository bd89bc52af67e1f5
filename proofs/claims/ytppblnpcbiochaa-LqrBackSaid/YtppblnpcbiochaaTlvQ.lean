
/-
  What the calls of layer 12 answer that go over lists: Size, Put's search for data that are too long, Same. No condition beyond: lists of at most 2^38 options.
-/
import Derived.Test.YtppblnpcbiochaaTlvP
namespace Go.Proofs.Ytppblnpcbiochaa
open Go.RowKit

/-- A function as a value. -/
abbrev fvF (f : Nat) : Value := .func (.func f) #[] #[]

theorem long_take {l : List (Nat × List Nat)} {k : Nat} {x : Nat × List Nat} (h : l[k]? = some x) : longB (l.take (k + 1)) = (longB (l.take k) || decide (253 < x.2.length)) := by
  rw [List.take_add_one, h, Option.toList_some, long_app]; simp [longB]
theorem long_of {l : List (Nat × List Nat)} {k : Nat} {x : Nat × List Nat} (h : l[k]? = some x) (hx : decide (253 < x.2.length) = true) : longB l = true :=
  List.any_eq_true.2 ⟨x, List.mem_of_getElem? h, hx⟩

theorem same_take {a b : List (Nat × List Nat)} {k : Nat} {x y : Nat × List Nat} (h : a.take k = b.take k) (hx : a[k]? = some x) (hy : b[k]? = some y) (e : decide (x = y) = true) : a.take (k + 1) = b.take (k + 1) := by
  rw [List.take_add_one, List.take_add_one, h, hx, hy, of_decide_eq_true e]
theorem same_ne {a b : List (Nat × List Nat)} {k : Nat} {x y : Nat × List Nat} (hx : a[k]? = some x) (hy : b[k]? = some y) (e : decide (x = y) = false) : a ≠ b := by
  rintro rfl
  rw [hx] at hy
  injection hy with h
  exact of_decide_eq_false e h

end Go.Proofs.Ytppblnpcbiochaa
