
/-
  What zero's Remove and the document's own Insert and Remove answer; the example of the document. No condition beyond: bytes below 256, lists of at most 2^38 elements.
-/
import Derived.Test.YteicednlgajpgaaZerA
namespace Go.Proofs.Yteicednlgajpgaa
open Go.RowKit

theorem rem_bad {l : List Nat} (h : 5 < best l) : remB l = [] ∧ remE l = 10 := ⟨by rw [remB, if_pos h], by rw [remE, if_pos h]⟩
theorem rem_good {l : List Nat} (h : ¬ 5 < best l) : remB l = (remP l).1 ∧ remE l = 0 := ⟨by rw [remB, if_neg h], by rw [remE, if_neg h]⟩

/-- A bit of a byte, appended to what is written. -/
theorem mod2 {x : Nat} : ((x : Int) % 2) = ((x % 2 : Nat) : Int) := by omega

/-- Of what the document's answer looks at: the last five that are written. -/
theorem step_tail {l : List Nat} {k x y : Nat} (h : l[k]? = some x) (hy : x % 2 = y) :
    (tail5 ((insP (l.take k)).1 ++ [y]) → (insP (l.take (k + 1))).1 = (insP (l.take k)).1 ++ [y] ++ [0]) ∧ (¬ tail5 ((insP (l.take k)).1 ++ [y]) → (insP (l.take (k + 1))).1 = (insP (l.take k)).1 ++ [y]) := by
  rw [take_snoc h, insP_snoc, stepI]
  by_cases h0 : x % 2 = 0
  · have : y = 0 := by omega
    subst this
    rw [if_pos h0]
    exact ⟨fun ht => absurd ht (tail_no0 _), fun _ => rfl⟩
  · have : y = 1 := by omega
    subst this
    rw [if_neg h0]
    by_cases h4 : (insP (l.take k)).2 = 4
    · rw [if_pos h4]
      exact ⟨fun _ => rfl, fun hn => absurd (tail_yes h4) hn⟩
    · rw [if_neg h4]
      exact ⟨fun ht => absurd ht (tail_no1 h4), fun _ => rfl⟩

end Go.Proofs.Yteicednlgajpgaa
