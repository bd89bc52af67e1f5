
/-
  What a region knows of the variable that it answers a packet into, whatever the order. No condition.
-/
import Derived.Test.YtppblnpcbiochaaPktN
namespace Go.Proofs.Ytppblnpcbiochaa
open Go.RowKit
set_option linter.unusedVariables false

/-- The variable that a packet is answered into, not yet filled: it was made behind w. -/
structure QpR (w W : World) (b : Nat) : Prop where
  ge : w.heap.size ≤ b
  bx : Px W b 36 pk0 pl0
/-- The variable holds a packet. -/
def VaP (W : World) (b : Nat) (p : Pk) (r : Pl) : Prop := Px W b 36 p r ∧ Pw W p r
section
variable {w W X W' : World} {b : Nat} {p : Pk} {r : Pl}
theorem QpR.new (h : Below w.heap.size w W) : QpR w (W.alloc (obj0P 36)) W.heap.size := ⟨h.size, px0 (heap_alloc_new W _)⟩
theorem QpR.newAt (h : Below w.heap.size w W) (g : Nat) (hg : W.heap.size = g) : QpR w (W.alloc (obj0P 36)) g := hg ▸ QpR.new h
theorem QpR.step (h : QpR w W b) (hb : Below X.heap.size X W') (hX : Below W.heap.size W X := by first | exact Below.refl _ _ | exact (Below.refl _ _).drew) : QpR w W' b := ⟨h.ge, h.bx.below (hX.trans (hb.mono hX.size))⟩
theorem QpR.lt (h : QpR w W b) : b < W.heap.size := h.bx.lt
theorem QpR.grown {row : Option Nat} (h : QpR w W b) (hg : W.grownBy W' row) (hne : row ≠ some b) : QpR w W' b := ⟨h.ge, (hg.block b h.lt (fun e => hne e.symm)).trans h.bx⟩
theorem QpR.put {F : Nat → Prop} (h : QpR w W b) (hb : Below w.heap.size w W) (hp : PwF F W p r) (hF : ¬ F b) : Below w.heap.size w (put10 W b p r) ∧ VaP (put10 W b p r) b p r :=
  ⟨put10_below hb h.ge p r, put10_px h.bx p r, (hp.keep ((put10_keeps W b p r).less (fun i _ hi e => hF (e ▸ hi)))).pw⟩
theorem newP_put (hb : Below w.heap.size w W) (hp : Pw W p r) : Below w.heap.size w (W.alloc (p.obj r 36)) ∧ VaP (W.alloc (p.obj r 36)) W.heap.size p r :=
  ⟨hb.alloc hb.size _, px_new W _ p r, hp.on ((Below.refl _ _).alloc (Nat.le_refl _) _)⟩
theorem VaP.on (h : VaP W b p r) (hb : Below W.heap.size W W') : VaP W' b p r := ⟨h.1.below hb, h.2.on hb⟩
end
/-- An empty row, made at the last. -/
theorem own_new (w : World) (B : Nat) (hB : B ≤ w.heap.size) : (w.alloc (.cells #[] 5)).ownsRow B 5 1 (.slice (some ⟨w.heap.size, 0, none⟩) 0 0) 0 (bvs []) :=
  own_lo (World.ownsRow_lit (base := w.heap.size) (e := 5) (size := 1) w #[] 0 (Nat.le_refl _) (by unfold maxLen; omega) rfl) hB
theorem own_newAt (w : World) (B : Nat) (hB : B ≤ w.heap.size) (g : Nat) (hg : w.heap.size = g) : (w.alloc (.cells #[] 5)).ownsRow B 5 1 (.slice (some ⟨g, 0, none⟩) 0 0) 0 (bvs []) := hg ▸ own_new w B hB
/-- A row of bytes and a packet's block are apart. -/
theorem own_px {w : World} {B n b : Nat} {v : Value} {xs : List Value} {p : Pk} {q : Pl} (h : w.ownsRow B 5 1 v n xs) (hx : Px w b 36 p q) : v.ownBlock ≠ some b := by
  intro hg
  obtain ⟨cur, hc⟩ := own_blk h hg
  unfold Px at hx
  rw [hc] at hx
  injection hx with hx
  injection hx with h1 h2
  exact absurd h2 (by decide)
/-- A step of a drawn region stands in the world W: to be said under 'with_reducible', ahead of what fits that world alone. -/
theorem at_step {P : Program} (W : World) {ops : Array Oper} {o : Oper} {a : Act} {K : Act → World → Prop} {Q : Exit → Act → World → Prop} {E : Prop} (h : if Region.wanted o (yielded ops a.tmps) = true then Oper.wp P o a W K Q else E) :
    if Region.wanted o (yielded ops a.tmps) = true then Oper.wp P o a W K Q else E := h
end Go.Proofs.Ytppblnpcbiochaa
