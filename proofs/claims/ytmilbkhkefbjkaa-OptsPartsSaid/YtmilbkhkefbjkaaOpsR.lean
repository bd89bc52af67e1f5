
/-
  What a region knows of the variable that it answers a config into, whatever the order. No condition.
-/
import Derived.Test.YtmilbkhkefbjkaaOpsW
import Derived.Test.YtmilbkhkefbjkaaOpsSW
namespace Go.Proofs.Ytmilbkhkefbjkaa
open Go.RowKit

/-- The variable that a config is answered into, not yet filled: it was made behind w. -/
structure QxR (w W : World) (b : Nat) : Prop where
  ge : w.heap.size ≤ b
  bx : Bx W b 56 cf0
section
variable {w W X W' : World} {b : Nat}
theorem QxR.new (h : Below w.heap.size w W) : QxR w (W.alloc (obj0 56)) W.heap.size := ⟨h.size, heap_alloc_new W (obj0 56)⟩
theorem QxR.step (h : QxR w W b) (hb : Below X.heap.size X W') (hX : Below W.heap.size W X := by first | exact Below.refl _ _ | exact (Below.refl _ _).drew) : QxR w W' b := ⟨h.ge, h.bx.below (hX.trans (hb.mono hX.size))⟩
theorem QxR.lt (h : QxR w W b) : b < W.heap.size := h.bx.lt
theorem QxR.grown {row : Option Nat} (h : QxR w W b) (hg : W.grownBy W' row) (hne : row ≠ some b) : QxR w W' b := ⟨h.ge, (hg.block b h.lt (fun e => hne e.symm)).trans h.bx⟩
theorem QxR.put (h : QxR w W b) (hb : Below w.heap.size w W) (d : Cf) : Below w.heap.size w (put7 W b d) ∧ Bx (put7 W b d) b 56 d := ⟨put7_below hb h.ge d, put7_bx h.bx d⟩
end
/-- .. or made at the last. -/
theorem new_put {w W : World} (hb : Below w.heap.size w W) (d : Cf) : Below w.heap.size w (W.alloc (d.obj 56)) ∧ Bx (W.alloc (d.obj 56)) W.heap.size 56 d := ⟨hb.alloc hb.size _, bx_new W _ d⟩
end Go.Proofs.Ytmilbkhkefbjkaa
