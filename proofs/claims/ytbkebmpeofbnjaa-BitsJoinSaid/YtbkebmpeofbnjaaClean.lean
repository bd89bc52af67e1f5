/-
  What bits.Clean answers: each byte's lowest bit, in new memory. No condition beyond: bytes below 256, lists of at most 2^40 elements.
-/
import Derived.Test.YtbkebmpeofbnjaaRun
namespace Go.Proofs.Ytbkebmpeofbnjaa
open Go.RowKit

def lows (l : List Nat) : List Nat := l.map (· % 2)
/-- What is done after k rounds: the first k, and zeros. -/
def part (l : List Nat) (n k : Nat) : List Nat := l ++ List.replicate (n - k) 0

theorem part_len {l : List Nat} {n k : Nat} (h : l.length = k) (hk : k ≤ n) : (part l n k).length = n := by
  simp [part]; omega
theorem part_set {l : List Nat} {n k : Nat} (h : l.length = k) (hk : k < n) (x : Nat) : (bvs (part l n k)).set k (.int .u8 (x : Int)) = bvs (part (l ++ [x]) n (k + 1)) := by
  subst h
  have hr : n - l.length = (n - (l.length + 1)) + 1 := by omega
  unfold part bvs
  rw [hr, List.replicate_succ, List.map_append, List.set_append_right _ _ (by simp)]
  simp [bv]
theorem part_full {l : List Nat} {n : Nat} : part l n n = l := by simp [part]
theorem part_zero (n : Nat) : bvs (part [] n 0) = (madeCells (Value.cells (.int .u8 0)) (n * 1)).toList := by
  have : Value.cells (.int .u8 0) = #[.int .u8 0] := rfl
  rw [this, toList_madeCells_one]
  simp [part, bvs, bv]
theorem lows_snoc {l : List Nat} {k x : Nat} (h : l[k]? = some x) : lows (l.take (k + 1)) = lows (l.take k) ++ [x % 2] := by
  rw [lows, List.take_add_one, h]; simp [lows]
theorem lows_len (l : List Nat) : (lows l).length = l.length := by simp [lows]

set_option maxHeartbeats 400000 in
theorem clean_any (l : List Nat) (A : Option Addr) (c : Nat) (w : World) (h : Rd w w.heap.size A l) (hb : By l) (hn : l.length ≤ 1099511627776) :
    Calls Try.prog 10 #[.slice A l.length c] w fun e w' => ∃ v, e = .returned v ∧ w'.ownsRow w.heap.size 5 1 v l.length (bvs (lows l)) ∧ Below w.heap.size w w' := by
  obtain ⟨i0, hi, hz0, hz1, hz2⟩ := info_parts byte_info
  go_enter Try.func10, Try.ntmps10
  go_wp2_with (at_make; refine wpList_make_full _ rfl _ _ 22 rfl w.heap.size 5 i0 (.int .u8 0) 1 Try.underlying22 hi hz0 hz1 .i64 .i64 _ _ l.length rfl rfl rfl rfl (by rw [hz2]; omega) (by unfold maxLen; omega) (Nat.le_refl _) ?_; intro w1 hown1 hgrow1)
  rw [← part_zero] at hown1
  have hb1 : Below w.heap.size w w1 := (Below.refl _ _).grown hgrow1 (Nat.le_refl _) (by simp)
  clear hgrow1 hi hz0 hz1 hz2
  go_loopw [11] (fun i wr => ∃ k : Nat, k ≤ l.length ∧ i = .int .i64 k ∧ wr.ownsRow w.heap.size 5 1 (.slice (some ⟨w.heap.size, 0, none⟩) l.length l.length) l.length (bvs (part (lows (l.take k)) l.length k)) ∧ Below w.heap.size w wr) (fun i _ => l.length - (intOf i).toNat)
  case atStart => exact ⟨0, Nat.zero_le _, rfl, hown1, hb1⟩
  case round =>
    obtain ⟨k, hk, rfl, hown, hbel⟩ := hrel
    by_cases hlt : k < l.length
    · obtain ⟨b, o, x, rfl, _, hx, hc⟩ := (h.below hbel).at_ hlt
      have hx256 := hb.get hx
      have hs := hown.stored k (.int .u8 ((x % 2 : Nat) : Int))
      rw [part_set (by simp [lows]; omega) hlt, ← lows_snoc hx, show ((x % 2 : Nat) : Int) = (x : Int) % 2 from by omega] at hs
      have HS := Lib.hid hs
      have hc0 := hown.cellAt k (by omega)
      have hf0 := hown.frozenAt k
      rw [bvs_get (x := (part (lows (l.take k)) l.length k)[k]'(by rw [part_len (by simp [lows]; omega) hk]; exact hlt)) _ _ (List.getElem?_eq_getElem _)] at hc0
      clear hx hs
      have i1 : (0 : Int) ≤ k := by omega
      have i2 : (k : Int) < l.length := by omega
      go_wp2_with (go_at_call 16; refine (lowest_any _ hx256 _).mono ?_; rintro e w' ⟨rfl, rfl⟩)
      go_roundw
      case rel => exact ⟨k + 1, by omega, by go_num, HS.out.1, hbel.setCell (Nat.le_refl _) _⟩
      case measure => simp [intOf]; omega
    · go_wp2
      go_ret
      have he : k = l.length := by omega
      subst he
      rw [part_full, List.take_of_length_le (Nat.le_refl _)] at hown
      exact ⟨_, rfl, hown, hbel⟩

end Go.Proofs.Ytbkebmpeofbnjaa
