
/-
  The example of the document for layer 8; what hinders but the maps; a config in a variable of the law's. No condition.
-/
import Derived.Test.YtmilbkhkefbjkaaCfg
import Derived.Deep.RegionHeld3
namespace Go.Proofs.Ytmilbkhkefbjkaa
open Go.RowKit

/-- A config lies at block b. -/
def Bx (w : World) (b : Nat) (t : TypeId) (c : Cf) : Prop := w.heap[b]? = some (.cells #[.bool c.sync, .bool c.wide, .bool c.acfc, .bool c.pfc, .int .u32 (c.send : Int), .int .u32 (c.recv : Int), .int .i64 c.mru] t (0, 0))
theorem Bx.lt {w : World} {b : Nat} {t : TypeId} {c : Cf} (h : Bx w b t c) : b < w.heap.size := (Array.getElem?_eq_some_iff.1 h).1
/-- Its cells. -/
abbrev Bc (w : World) (b : Nat) (c : Cf) : Prop := w.cell? ⟨b, 0, none⟩ = some (.bool c.sync) ∧ w.cell? ⟨b, 1, none⟩ = some (.bool c.wide) ∧ w.cell? ⟨b, 2, none⟩ = some (.bool c.acfc) ∧ w.cell? ⟨b, 3, none⟩ = some (.bool c.pfc) ∧ w.cell? ⟨b, 4, none⟩ = some (.int .u32 (c.send : Int)) ∧ w.cell? ⟨b, 5, none⟩ = some (.int .u32 (c.recv : Int)) ∧ w.cell? ⟨b, 6, none⟩ = some (.int .i64 c.mru)
theorem Bx.all {w : World} {b : Nat} {t : TypeId} {c : Cf} (h : Bx w b t c) : Bc w b c := by
  refine ⟨?_, ?_, ?_, ?_, ?_, ?_, ?_⟩ <;> (rw [cell_of_row w b _ _ _ _ h]; rfl)
theorem Bx.below {w w' : World} {b : Nat} {t : TypeId} {c : Cf} (h : Bx w b t c) (hb : Below w.heap.size w w') : Bx w' b t c := (hb.block b h.lt).trans h

/-- A walk goes on in a world of which a few things alone are known. -/
theorem at_world {F : Act → World → Prop} {x : Act} {W : World} (R : World → Prop) (C : R W) (h : ∀ W', R W' → F x W') : F x W := h W C
abbrev Cf.obj (c : Cf) (t : TypeId) : Obj := .cells #[.bool c.sync, .bool c.wide, .bool c.acfc, .bool c.pfc, .int .u32 (c.send : Int), .int .u32 (c.recv : Int), .int .i64 c.mru] t (0, 0)

/-- The law's four variables, in a world behind w0. -/
structure Cur (w0 W : World) (b1 b2 p5 p6 : Nat) (a b : Cf) : Prop where
  a1 : Bx W b1 55 a
  b1 : Bx W b2 55 b
  a2 : Bx W p5 56 a
  b2 : Bx W p6 56 b
  bel : Below w0.heap.size w0 W
theorem Cur.step {w0 W W' : World} {b1 b2 p5 p6 : Nat} {a b : Cf} (h : Cur w0 W b1 b2 p5 p6 a b) (hb : Below W.heap.size W W') : Cur w0 W' b1 b2 p5 p6 a b :=
  ⟨h.a1.below hb, h.b1.below hb, h.a2.below hb, h.b2.below hb, h.bel.trans (hb.mono h.bel.size)⟩
theorem Cur.drew {w0 W : World} {b1 b2 p5 p6 : Nat} {a b : Cf} (h : Cur w0 W b1 b2 p5 p6 a b) : Cur w0 W.drew b1 b2 p5 p6 a b := ⟨h.a1, h.b1, h.a2, h.b2, h.bel.drew⟩

theorem flat2 {W : World} {b1 b2 : Nat} {t u : TypeId} {a b : Cf} (h : Bx W b1 t a) (g : Bx W b2 u b) : W.cell? ⟨b1, 0, none⟩ = some (.bool a.sync) ∧ W.cell? ⟨b1, 1, none⟩ = some (.bool a.wide) ∧ W.cell? ⟨b1, 2, none⟩ = some (.bool a.acfc) ∧ W.cell? ⟨b1, 3, none⟩ = some (.bool a.pfc) ∧ W.cell? ⟨b1, 4, none⟩ = some (.int .u32 (a.send : Int)) ∧ W.cell? ⟨b1, 5, none⟩ = some (.int .u32 (a.recv : Int)) ∧ W.cell? ⟨b1, 6, none⟩ = some (.int .i64 a.mru) ∧ W.cell? ⟨b2, 0, none⟩ = some (.bool b.sync) ∧ W.cell? ⟨b2, 1, none⟩ = some (.bool b.wide) ∧ W.cell? ⟨b2, 2, none⟩ = some (.bool b.acfc) ∧ W.cell? ⟨b2, 3, none⟩ = some (.bool b.pfc) ∧ W.cell? ⟨b2, 4, none⟩ = some (.int .u32 (b.send : Int)) ∧ W.cell? ⟨b2, 5, none⟩ = some (.int .u32 (b.recv : Int)) ∧ W.cell? ⟨b2, 6, none⟩ = some (.int .i64 b.mru) := by
  obtain ⟨x0, x1, x2, x3, x4, x5, x6⟩ := h.all
  exact ⟨x0, x1, x2, x3, x4, x5, x6, g.all⟩
theorem Cur.step' {w0 W X W' : World} {b1 b2 p5 p6 : Nat} {a b : Cf} (h : Cur w0 W b1 b2 p5 p6 a b) (hb : Below X.heap.size X W') (hX : Below W.heap.size W X := by first | exact Below.refl _ _ | exact (Below.refl _ _).drew) : Cur w0 W' b1 b2 p5 p6 a b :=
  (h.step hX).step hb
theorem flat4 {W : World} {b1 b2 b3 b4 : Nat} {t u v x : TypeId} {a b c d : Cf} (h1 : Bx W b1 t a) (h2 : Bx W b2 u b) (h3 : Bx W b3 v c) (h4 : Bx W b4 x d) : W.cell? ⟨b1, 0, none⟩ = some (.bool a.sync) ∧ W.cell? ⟨b1, 1, none⟩ = some (.bool a.wide) ∧ W.cell? ⟨b1, 2, none⟩ = some (.bool a.acfc) ∧ W.cell? ⟨b1, 3, none⟩ = some (.bool a.pfc) ∧ W.cell? ⟨b1, 4, none⟩ = some (.int .u32 (a.send : Int)) ∧ W.cell? ⟨b1, 5, none⟩ = some (.int .u32 (a.recv : Int)) ∧ W.cell? ⟨b1, 6, none⟩ = some (.int .i64 a.mru) ∧ W.cell? ⟨b2, 0, none⟩ = some (.bool b.sync) ∧ W.cell? ⟨b2, 1, none⟩ = some (.bool b.wide) ∧ W.cell? ⟨b2, 2, none⟩ = some (.bool b.acfc) ∧ W.cell? ⟨b2, 3, none⟩ = some (.bool b.pfc) ∧ W.cell? ⟨b2, 4, none⟩ = some (.int .u32 (b.send : Int)) ∧ W.cell? ⟨b2, 5, none⟩ = some (.int .u32 (b.recv : Int)) ∧ W.cell? ⟨b2, 6, none⟩ = some (.int .i64 b.mru) ∧ W.cell? ⟨b3, 0, none⟩ = some (.bool c.sync) ∧ W.cell? ⟨b3, 1, none⟩ = some (.bool c.wide) ∧ W.cell? ⟨b3, 2, none⟩ = some (.bool c.acfc) ∧ W.cell? ⟨b3, 3, none⟩ = some (.bool c.pfc) ∧ W.cell? ⟨b3, 4, none⟩ = some (.int .u32 (c.send : Int)) ∧ W.cell? ⟨b3, 5, none⟩ = some (.int .u32 (c.recv : Int)) ∧ W.cell? ⟨b3, 6, none⟩ = some (.int .i64 c.mru) ∧ W.cell? ⟨b4, 0, none⟩ = some (.bool d.sync) ∧ W.cell? ⟨b4, 1, none⟩ = some (.bool d.wide) ∧ W.cell? ⟨b4, 2, none⟩ = some (.bool d.acfc) ∧ W.cell? ⟨b4, 3, none⟩ = some (.bool d.pfc) ∧ W.cell? ⟨b4, 4, none⟩ = some (.int .u32 (d.send : Int)) ∧ W.cell? ⟨b4, 5, none⟩ = some (.int .u32 (d.recv : Int)) ∧ W.cell? ⟨b4, 6, none⟩ = some (.int .i64 d.mru) := by
  obtain ⟨x0, x1, x2, x3, x4, x5, x6⟩ := h1.all
  obtain ⟨y0, y1, y2, y3, y4, y5, y6⟩ := h2.all
  obtain ⟨z0, z1, z2, z3, z4, z5, z6⟩ := h3.all
  exact ⟨x0, x1, x2, x3, x4, x5, x6, y0, y1, y2, y3, y4, y5, y6, z0, z1, z2, z3, z4, z5, z6, h4.all⟩
theorem Cur.new1 {w0 w1 : World} {b1 b2 p5 p6 : Nat} {a b : Cf} (h1 : Bx w1 b1 55 a) (h2 : Bx w1 b2 55 b) (hb : Below w0.heap.size w0 w1) (h5 : w1.heap.size = p5) (h6 : w1.heap.size + 1 = p6) :
    Cur w0 ((w1.alloc (a.obj 56)).alloc (b.obj 56)).drew b1 b2 p5 p6 a b :=
  ⟨h1.below (below_two _ _ _).drew, h2.below (below_two _ _ _).drew, h5 ▸ heap_alloc2_old w1 _ _, h6 ▸ heap_alloc2_new w1 _ _, hb.trans ((below_two _ _ _).drew.mono hb.size)⟩
theorem Cur.new2 {w0 w1 : World} {b1 b2 p5 p6 : Nat} {a b : Cf} (h1 : Bx w1 b1 55 a) (h2 : Bx w1 b2 55 b) (hb : Below w0.heap.size w0 w1) (h5 : w1.heap.size = p5) (h6 : w1.heap.size + 1 = p6) :
    Cur w0 ((w1.alloc (b.obj 56)).alloc (a.obj 56)).drew b1 b2 p6 p5 a b :=
  ⟨h1.below (below_two _ _ _).drew, h2.below (below_two _ _ _).drew, h6 ▸ heap_alloc2_new w1 _ _, h5 ▸ heap_alloc2_old w1 _ _, hb.trans ((below_two _ _ _).drew.mono hb.size)⟩

end Go.Proofs.Ytmilbkhkefbjkaa
