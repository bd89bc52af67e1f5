
/-
  A list of bytes that is filled from the front, the rest zeros; a literal list in a new block, as cells. No condition.
-/
import Derived.Test.YtamdaepeogmboaaDoorEq
import Derived.Maps.AppendAt
namespace Go.Proofs.YtamdaepeogmboaaDoor
set_option maxRecDepth 4000
open Go.RowKit

/-- What is done after k rounds: the first k, and zeros. -/
def part (l : List Nat) (n k : Nat) : List Nat := l ++ List.replicate (n - k) 0

theorem part_len {l : List Nat} {n k : Nat} (h : l.length = k) (hk : k ≤ n) : (part l n k).length = n := by
  simp [part]; omega
theorem part_set {l : List Nat} {n k : Nat} (h : l.length = k) (hk : k < n) (x : Nat) : (bvs (part l n k)).set k (.int .u8 (x : Int)) = bvs (part (l ++ [x]) n (k + 1)) := by
  subst h
  have hr : n - l.length = (n - (l.length + 1)) + 1 := by omega
  unfold part bvs
  rw [hr, List.replicate_succ, List.map_append, List.set_append_right _ _ (by simp)]
  simp [bv]
theorem part_full {l : List Nat} {n : Nat} : part l n n = l := by simp [part]
theorem part_zero (n : Nat) : bvs (part [] n 0) = (madeCells (Value.cells (.int .u8 0)) (n * 1)).toList := by
  have : Value.cells (.int .u8 0) = #[.int .u8 0] := rfl
  rw [this, toList_madeCells_one]
  simp [part, bvs, bv]

/-- The cells of a literal in a new block. -/
theorem cells_new (w : World) (xs : List Value) (t : TypeId) : ∀ j u, xs[j]? = some u → (w.alloc (.cells xs.toArray t)).cell? ((⟨w.heap.size, 0, none⟩ : Addr).add j) = some u := by
  intro j u hj
  have h : (w.alloc (.cells xs.toArray t)).cell? ⟨w.heap.size, j, none⟩ = some u := by
    rw [World.cell?_alloc_at _ _ _ _ rfl]
    simpa using hj
  by_cases h0 : j = 0
  · subst h0; simpa [Addr.add] using h
  · simpa [Addr.add, h0] using h
theorem cells_at (w : World) (xs : List Value) (t : TypeId) (b : Nat) (hb : w.heap.size = b) : ∀ j u, xs[j]? = some u → (w.alloc (.cells xs.toArray t)).cell? ((⟨b, 0, none⟩ : Addr).add j) = some u := by
  subst hb
  exact cells_new w xs t

end Go.Proofs.YtamdaepeogmboaaDoor
