
/-
  What layers 17 and 18 both call: the document's Text; packets with two texts; a constant's octets. No condition beyond: at most 2^38 octets.
-/
import Derived.Test.YthebckidjhenlaaPapM
import Derived.Test.YthebckidjhenlaaGPkt
import Derived.Test.YthebckidjhenlaaGCtl
import Derived.Deep.CutRange
import Derived.Deep.RegionHeld3
namespace Go.Proofs.Ythebckidjhenlaa
set_option maxRecDepth 4000
open Go.RowKit
set_option linter.unusedVariables false

section
variable {T : TypeId} {w W : World} {p : Pk} {q : Pl}
theorem BxC.drew (h : BxC T w W p q) : BxC T w W.drew p q := h.step (X := W) (Below.refl _ _).drew
theorem BxC.al (h : BxC T w W p q) (o : Obj) : BxC T w (W.alloc o) p q := h.step (X := W) ((Below.refl _ _).alloc (Nat.le_refl _) o)
theorem BxC.c6 (h : BxC T w W p q) : W.cell? ⟨w.heap.size, 6, none⟩ = some (.slice q.a1 q.n1 q.c1) := h.cf.all.2.2.2.2.2.2.1
theorem BxC.c7 (h : BxC T w W p q) : W.cell? ⟨w.heap.size, 7, none⟩ = some (.slice q.a2 q.n2 q.c2) := h.cf.all.2.2.2.2.2.2.2.1
end
theorem pwF_texts {F : Nat → Prop} {w : World} (t c i : Nat) {A B : Option Addr} {n k m j : Nat} {l l2 : List Nat} (hl : l.length = n) (hr : RdF F w A l) (hk : n ≤ k) (hl2 : l2.length = m) (hr2 : RdF F w B l2) (hk2 : m ≤ j) : PwF F w ⟨t, c, i, [], 0, 0, l, l2, [], []⟩ { pl0 with a1 := A, n1 := n, c1 := k, a2 := B, n2 := m, c2 := j } :=
  ⟨rfl, Rws.nilO, hl, hr, hl2, hr2, rfl, RdF.nil, rfl, Rws.nil, hk, hk2, Nat.le_refl _⟩
/-- A constant's octets in a new block, marked behind their end. -/
theorem Rd.markP (w : World) (l : List Nat) (C : Array Value) (hC : C = (bvs l).toArray) (m : Nat × Nat) : Rd (w.alloc (.cells C 5 m)) (w.alloc (.cells C 5 m)).heap.size (some ⟨w.heap.size, 0, none⟩) l := by
  intro hl
  refine ⟨w.heap.size, 0, rfl, by simp, fun k x hx => ?_⟩
  have := bvs_get l k x hx
  subst hC
  have hh : (w.alloc (.cells (bvs l).toArray 5 m)).heap[w.heap.size]? = some (.cells (bvs l).toArray 5 m) := heap_alloc_new w _
  unfold World.cell?
  dsimp only
  rw [hh]
  simpa using this

theorem cutT_drop {d l r : List Nat} (h : cutT d = (l, r, 0)) : d.drop (l.length + 1) = r := by
  rw [cutT_said h, show lenT l ++ r = l.length :: (l ++ r) from rfl, List.drop_succ_cons, List.drop_left']
  rfl

/-- What Text answers where there is one: a text, and where it ends. -/
def TextR (F : Nat → Prop) (w : World) (l : List Nat) (k1 z : Nat) (e : Ending) (w' : World) : Prop := ∃ A1 c1, e = .returned (.tuple #[.slice A1 k1 c1, .int .i64 (z : Int)]) ∧ k1 ≤ c1 ∧ RdF F w' A1 l ∧ Below w.heap.size w w'

end Go.Proofs.Ythebckidjhenlaa
