
/-
  What tells of an option whether it may not be: wrong, its closure, the library's search by it, Right; the document's Right. No condition beyond: types below 256, lists of at most 2^38 options.
-/
import Derived.Test.YtcmapiaacimbeaaOpsA
import Derived.Test.YtcmapiaacimbeaaOpsB
import Derived.Test.YtcmapiaacimbeaaTlvV
namespace Go.Proofs.Ytcmapiaacimbeaa
open Go.RowKit

/-- The closure's cell holds a map. -/
def Wr (w : World) (g : Nat) (T : Tab) : Prop := g < w.heap.size ∧ ∃ m, w.cell? ⟨g, 0, none⟩ = some (.map m) ∧ Mp w m T
theorem Wr.below {w w' : World} {g : Nat} {T : Tab} (h : Wr w g T) (hb : Below w.heap.size w w') : Wr w' g T := by
  obtain ⟨h1, m, h2, h3⟩ := h
  exact ⟨Nat.lt_of_lt_of_le h1 hb.size, m, (hb.cell (p := ⟨g, 0, none⟩) h1).trans h2, h3.below hb⟩
/-- What Right knows of the world it stands in: its option lies at block b. -/
structure BoC (w W : World) (b : Nat) (T : TypeId) (t : Nat) (A : Option Addr) (n c : Nat) : Prop where
  bel : Below w.heap.size w W
  box : W.heap[b]? = some (.cells #[.int .u8 (t : Int), .slice A n c] T (0, 0))
section
variable {w W X W' : World} {b : Nat} {T : TypeId} {t : Nat} {A : Option Addr} {n c : Nat}
theorem BoC.cells (h : BoC w W b T t A n c) : W.cell? ⟨b, 0, none⟩ = some (.int .u8 (t : Int)) ∧ W.cell? ⟨b, 1, none⟩ = some (.slice A n c) :=
  ⟨by rw [cell_of_row W _ 0 _ _ _ h.box]; rfl, by rw [cell_of_row W _ 1 _ _ _ h.box]; rfl⟩
theorem BoC.lt (h : BoC w W b T t A n c) : b < W.heap.size := (Array.getElem?_eq_some_iff.1 h.box).1
theorem BoC.step (h : BoC w W b T t A n c) (hb : Below X.heap.size X W') (hX : Below W.heap.size W X := by first | exact Below.refl _ _ | exact (Below.refl _ _).drew) : BoC w W' b T t A n c :=
  ⟨h.bel.trans ((hX.trans (hb.mono hX.size)).mono h.bel.size), ((hX.trans (hb.mono hX.size)).block b h.lt).trans h.box⟩
theorem BoC.drew (h : BoC w W b T t A n c) : BoC w W.drew b T t A n c := h.step (X := W) (Below.refl _ _).drew
theorem BoC.made (w : World) (T : TypeId) (t : Nat) (A : Option Addr) (n c : Nat) : BoC w (w.alloc (.cells #[.int .u8 (t : Int), .slice A n c] T)) w.heap.size T t A n c :=
  ⟨(Below.refl _ _).alloc (Nat.le_refl _) _, heap_alloc_new _ _⟩
end

end Go.Proofs.Ytcmapiaacimbeaa
