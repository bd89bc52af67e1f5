
/-
  What Get answers, the program's and the document's, with the blocks that options lie in. No condition beyond: at most 2^30 octets.
-/
import Derived.Test.YtcmapiaacimbeaaOpsG
namespace Go.Proofs.Ytcmapiaacimbeaa
open Go.RowKit

theorem RdF.cutAt {F : Nat → Prop} {w : World} {b o : Nat} {l : List Nat} (h : RdF F w (some ⟨b, o, none⟩) l) {f c : Nat} (hc : l.length ≤ c) : RdF F w (if c = f then some ⟨b, o, none⟩ else some ⟨b, o + f, none⟩) (l.drop f) := by
  intro hl
  rw [List.length_drop] at hl
  rw [if_neg (by omega)]
  obtain ⟨b', off, e, hb, hF, hcell⟩ := h (by omega)
  injection e with e
  injection e with e1 e2
  subst e1; subst e2
  exact ⟨b, o + f, rfl, hb, hF, fun k x hx => by rw [Nat.add_assoc]; exact hcell (f + k) x (by rw [← List.getElem?_drop]; exact hx)⟩
theorem RdF.take {F : Nat → Prop} {w : World} {A : Option Addr} {l : List Nat} (h : RdF F w A l) (k : Nat) : RdF F w A (l.take k) := by
  intro hl
  rw [List.length_take] at hl
  obtain ⟨b, off, e, hb, hF, hc⟩ := h (by omega)
  refine ⟨b, off, e, hb, hF, fun j x hx => hc j x ?_⟩
  rw [List.getElem?_take] at hx
  split at hx
  · exact hx
  · cases hx

end Go.Proofs.Ytcmapiaacimbeaa
