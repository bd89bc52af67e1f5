
/-
  What the document's comparison of two lists of bytes answers; lists that a call made; a literal list. No condition beyond: lists of at most 2^40 elements.
-/
import Derived.Test.YtnllejajimobbaaWords
namespace Go.Proofs.Ytnllejajimobbaa
open Go.RowKit

theorem take_snoc_eq {a b : List Nat} {k x y : Nat} (h : a.take k = b.take k) (hx : a[k]? = some x) (hy : b[k]? = some y) (e : x = y) : a.take (k + 1) = b.take (k + 1) := by
  rw [List.take_add_one, List.take_add_one, h, hx, hy, e]
theorem ne_of_at {a b : List Nat} {k x y : Nat} (hx : a[k]? = some x) (hy : b[k]? = some y) (e : x ≠ y) : a ≠ b := by
  rintro rfl
  rw [hx] at hy
  injection hy with h
  exact e h

/-- A new list of bytes: what it reads as, and that it is the call's own. -/
def New (w w' : World) (A : Option Addr) (c n : Nat) (l : List Nat) : Prop :=
  l.length = n ∧ w'.ownsRow w.heap.size 5 1 (.slice A n c) n (bvs l) ∧ Rd w' w'.heap.size A l ∧ Below w.heap.size w w'
theorem New.mk {w w' : World} {v : Value} {n : Nat} {l : List Nat} (hown : w'.ownsRow w.heap.size 5 1 v n (bvs l)) (hb : Below w.heap.size w w') : ∃ A c, v = .slice A n c ∧ New w w' A c n l := by
  obtain ⟨A, c, rfl, _, _⟩ := own_form hown
  refine ⟨A, c, rfl, ?_, hown, Rd.own hown, hb⟩
  have := hown.1
  rw [bvs_len] at this; omega

/-- One byte appended to an owned row. -/
theorem push_row {w3 : World} {base n m : Nat} {e : TypeId} {v : Value} {l : List Nat} {x : Nat} (h : w3.ownsRow base e 1 v n (bvs l ++ [.int .u8 (x : Int)])) (hm : n = m) : w3.ownsRow base e 1 v m (bvs (l ++ [x])) := by
  subst hm
  rw [bvs_app]; exact h
theorem push_below {w wr w3 : World} {e : TypeId} {v : Value} {n : Nat} {xs : List Value} {o : Obj} (hb : Below w.heap.size w wr) (hown : wr.ownsRow w.heap.size e 1 v n xs) (hg : (wr.alloc o).grownBy w3 v.ownBlock) : Below w.heap.size w w3 :=
  (hb.alloc hb.size _).grown hg (by have := hb.size; simp; omega) (fun k hk => (hown.lt k hk).1)

/-- A literal in a new block. -/
theorem Rd.lit (w : World) (l : List Nat) : Rd (w.alloc (.cells (bvs l).toArray 5)) (w.heap.size + 1) (some ⟨w.heap.size, 0, none⟩) l := by
  intro hl
  refine ⟨w.heap.size, 0, rfl, by omega, fun k x hx => ?_⟩
  rw [World.cell?_alloc_at _ _ _ _ rfl]
  have := bvs_get l k x hx
  simpa using this
theorem Rd.lit_ (w : World) (l : List Nat) : Rd (w.alloc (.cells (bvs l).toArray 5)) (w.alloc (.cells (bvs l).toArray 5)).heap.size (some ⟨w.heap.size, 0, none⟩) l :=
  (Rd.lit w l).more (by simp)

end Go.Proofs.Ytnllejajimobbaa
