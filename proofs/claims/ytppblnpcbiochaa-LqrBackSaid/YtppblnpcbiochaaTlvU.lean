
/-
  What Put answers, the program's and the document's. No condition beyond: lists of at most 2^38 options, with at most 2^36 octets.
-/
import Derived.Test.YtppblnpcbiochaaTlvQ
import Derived.Test.YtppblnpcbiochaaAppn
import Derived.Deep.RegionHeld3
namespace Go.Proofs.Ytppblnpcbiochaa
open Go.RowKit

/-- The octets that Put answers. -/
def putA (l : List (Nat × List Nat)) : List Nat := if longB l = true then [] else putB l
/-- The error's number that Put answers. -/
def errP (l : List (Nat × List Nat)) : Nat := if longB l = true then 3 else 0

/-- What a round of Put knows: its own row, and the option's own block. -/
structure PC (w W : World) (q : Nat) (T : TypeId) (t n : Nat) (A : Option Addr) (c : Nat) (v : Value) (m : Nat) (xs : List Nat) : Prop where
  bel : Below w.heap.size w W
  own : W.ownsRow w.heap.size 5 1 v m (bvs xs)
  blk : W.heap[q]? = some (.cells #[.int .u8 (t : Int), .slice A n c] T (0, 0))
section
variable {w W X W' : World} {q : Nat} {T : TypeId} {t n : Nat} {A : Option Addr} {c : Nat} {v v' : Value} {m m' : Nat} {xs xs' : List Nat}
theorem PC.cells (h : PC w W q T t n A c v m xs) : W.cell? ⟨q, 0, none⟩ = some (.int .u8 (t : Int)) ∧ W.cell? ⟨q, 1, none⟩ = some (.slice A n c) := by
  constructor
  · rw [cell_of_row W q 0 _ _ _ h.blk]; rfl
  · rw [cell_of_row W q 1 _ _ _ h.blk]; rfl
theorem PC.step (h : PC w W q T t n A c v m xs) (hb : Below X.heap.size X W') (hX : Below W.heap.size W X := by first | exact Below.refl _ _ | exact (Below.refl _ _).drew) : PC w W' q T t n A c v m xs := by
  have hb' : Below W.heap.size W W' := hX.trans (hb.mono hX.size)
  exact ⟨h.bel.trans (hb'.mono h.bel.size), own_below h.own hb', (hb'.block _ (Array.getElem?_eq_some_iff.1 h.blk).1).trans h.blk⟩
theorem PC.al (h : PC w W q T t n A c v m xs) (o : Obj) : PC w (W.alloc o) q T t n A c v m xs := h.step (X := W) ((Below.refl _ _).alloc (Nat.le_refl _) o)
theorem PC.app (h : PC w W q T t n A c v m xs) (hT : T ≠ 5) (ho : W'.ownsRow w.heap.size 5 1 v' m' (bvs xs')) (hg : W.grownBy W' v.ownBlock) : PC w W' q T t n A c v' m' xs' := by
  refine ⟨h.bel.grown hg h.bel.size (fun k hk => (h.own.lt k hk).1), ho, (hg.block q (Array.getElem?_eq_some_iff.1 h.blk).1 fun e => ?_).trans h.blk⟩
  obtain ⟨cur, hc⟩ := own_blk h.own (g := q) e.symm
  rw [h.blk] at hc
  injection hc with hc
  injection hc with _ hc
  exact hT hc
end
theorem bv_two {x y : Nat} : bvs [x, y] = [.int .u8 (x : Int), .int .u8 (y : Int)] := rfl

/-- What a round of the document's Put knows: its own row, the cells of the option at hand. -/
structure RC (w W : World) (a0 a1 : Addr) (t n : Nat) (A : Option Addr) (c : Nat) (v : Value) (m : Nat) (xs : List Nat) : Prop where
  bel : Below w.heap.size w W
  own : W.ownsRow w.heap.size 5 1 v m (bvs xs)
  lt0 : a0.block < w.heap.size
  lt1 : a1.block < w.heap.size
  f0 : w.cell? a0 = some (.int .u8 (t : Int))
  f1 : w.cell? a1 = some (.slice A n c)
section
variable {w W X W' : World} {a0 a1 : Addr} {t n : Nat} {A : Option Addr} {c : Nat} {v v' : Value} {m m' : Nat} {xs xs' : List Nat}
theorem RC.cells (h : RC w W a0 a1 t n A c v m xs) : W.cell? a0 = some (.int .u8 (t : Int)) ∧ W.cell? a1 = some (.slice A n c) := ⟨(h.bel.cell h.lt0).trans h.f0, (h.bel.cell h.lt1).trans h.f1⟩
theorem RC.step (h : RC w W a0 a1 t n A c v m xs) (hb : Below X.heap.size X W') (hX : Below W.heap.size W X := by first | exact Below.refl _ _ | exact (Below.refl _ _).drew) : RC w W' a0 a1 t n A c v m xs := by
  have hb' : Below W.heap.size W W' := hX.trans (hb.mono hX.size)
  exact ⟨h.bel.trans (hb'.mono h.bel.size), own_below h.own hb', h.lt0, h.lt1, h.f0, h.f1⟩
theorem RC.drew (h : RC w W a0 a1 t n A c v m xs) : RC w W.drew a0 a1 t n A c v m xs := h.step (X := W) (Below.refl _ _).drew
theorem RC.al (h : RC w W a0 a1 t n A c v m xs) (o : Obj) : RC w (W.alloc o) a0 a1 t n A c v m xs := h.step (X := W) ((Below.refl _ _).alloc (Nat.le_refl _) o)
theorem RC.app (h : RC w W a0 a1 t n A c v m xs) (ho : W'.ownsRow w.heap.size 5 1 v' m' (bvs xs')) (hg : W.grownBy W' v.ownBlock) : RC w W' a0 a1 t n A c v' m' xs' :=
  ⟨h.bel.grown hg h.bel.size (fun k hk => (h.own.lt k hk).1), ho, h.lt0, h.lt1, h.f0, h.f1⟩
end

end Go.Proofs.Ytppblnpcbiochaa
