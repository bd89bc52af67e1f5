
/-
  What Put and Get answer, and the document's. No condition beyond: lists of at most 2^36 options and octets, at most 2^30 octets read.
-/
import Derived.Test.YtcmapiaacimbeaaOpsC
namespace Go.Proofs.Ytcmapiaacimbeaa
open Go.RowKit

/-- What Put answers. -/
def putO (p : Nat) (l : List (Nat × List Nat)) : List Nat × Nat := if okL (tabB p) l then (putB l, 0) else ([], 4)
/-- What Get answers. -/
def getO (p : Nat) (b : List Nat) : List (Nat × List Nat) × Nat := if (getB b).2 = 0 then (if okL (tabB p) (getB b).1 then ((getB b).1, 0) else ([], 4)) else ([], (getB b).2)
theorem okL_short {p : Nat} {l : List (Nat × List Nat)} (h : okL (tabB p) l = true) : longB l = false := by
  unfold longB
  rw [Bool.eq_false_iff]
  intro hl
  obtain ⟨o, ho, hlo⟩ := List.any_eq_true.1 hl
  have h1 := (okO_yes (List.all_eq_true.1 h o ho)).2
  have h2 := (span_le p o.1).2
  simp at hlo
  omega

end Go.Proofs.Ytcmapiaacimbeaa
