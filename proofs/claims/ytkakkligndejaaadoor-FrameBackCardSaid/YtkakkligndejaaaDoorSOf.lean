
/-
  What bits.Of answers, over the words of Eq and Part (stage 1's Of said the same over its own): each octet's bits, the lowest first, in new memory. No condition beyond: bytes below 256, lists of at most 2^40 elements.
-/
import Derived.Test.YtkakkligndejaaaDoorZerM
namespace Go.Proofs.YtkakkligndejaaaDoor
open Go.RowKit

def bitsN (x j : Nat) : List Nat := (List.range j).map fun i => x / 2 ^ i % 2
def ofB (l : List Nat) : List Nat := l.flatMap fun x => bitsN x 8
theorem bitsN_len (x j : Nat) : (bitsN x j).length = j := by simp [bitsN]
theorem bitsN_succ (x j : Nat) : bitsN x (j + 1) = bitsN x j ++ [x / 2 ^ j % 2] := by simp [bitsN, List.range_succ]
theorem bitsN_zero (x : Nat) : bitsN x 0 = [] := rfl
theorem ofB_len (l : List Nat) : (ofB l).length = 8 * l.length := by
  induction l with
  | nil => rfl
  | cons x t ih => simp only [ofB, List.flatMap_cons, List.length_append, bitsN_len, List.length_cons] at *; omega
theorem ofB_app (l m : List Nat) : ofB (l ++ m) = ofB l ++ ofB m := by simp [ofB]
theorem ofB_snoc {l : List Nat} {k x : Nat} (h : l[k]? = some x) : ofB (l.take (k + 1)) = ofB (l.take k) ++ bitsN x 8 := by
  rw [List.take_add_one, h, ofB_app]; simp [ofB]
theorem bitsN_two (x j : Nat) : ∀ y ∈ bitsN x j, y < 2 := by
  intro y hy; simp only [bitsN, List.mem_map] at hy; obtain ⟨i, _, rfl⟩ := hy; omega
theorem ofB_two (l : List Nat) : ∀ y ∈ ofB l, y < 2 := by
  intro y hy; simp only [ofB, List.mem_flatMap] at hy; obtain ⟨x, _, h⟩ := hy; exact bitsN_two x 8 y h
theorem ofB_by (l : List Nat) : By (ofB l) := fun y hy => by have := ofB_two l y hy; omega

theorem lowest_shr (x j r : Nat) (hx : x < 256) (hr : Hid (x / 2 ^ j % 2 = r)) (w : World) :
    Calls Tryd.prog 60 #[.int .u8 ((x : Int) / 2 ^ j)] w fun e w' => e = .returned (.int .u8 (r : Int)) ∧ w = w' := by
  have e : ((x : Int) / 2 ^ j) = ((x / 2 ^ j : Nat) : Int) := by simp
  rw [e]
  have hlt : x / 2 ^ j < 256 := Nat.lt_of_le_of_lt (Nat.div_le_self _ _) hx
  refine (lowest_any _ hlt w).mono fun _ _ ⟨he, hw⟩ => ⟨?_, hw⟩
  rw [he, hr.out]

set_option maxHeartbeats 400000 in
theorem of_any (l : List Nat) (A : Option Addr) (c : Nat) (w : World) (h : Rd w w.heap.size A l) (hb : By l) (hn : l.length ≤ 1099511627776) :
    Calls Tryd.prog 47 #[.slice A l.length c] w fun e w' => ∃ v, e = .returned v ∧ w'.ownsRow w.heap.size 5 1 v (8 * l.length) (bvs (ofB l)) ∧ Below w.heap.size w w' := by
  obtain ⟨i0, hi, hz0, hz1, hz2⟩ := info_parts byte_info
  go_enter Tryd.func47, Tryd.ntmps47
  go_wp2_with (at_make; refine wpList_make_own _ rfl _ _ 26 rfl w.heap.size 5 i0 (.int .u8 0) 1 Tryd.underlying26 hi hz0 hz1 .i64 .i64 _ (8 * l.length) rfl rfl (by omega) (by rw [hz2]; omega) (by unfold maxLen; omega) (Nat.le_refl _) ?_; intro w1 hown1 hgrow1)
  have hb1 : Below w.heap.size w w1 := (Below.refl _ _).grown hgrow1 (Nat.le_refl _) (by simp)
  clear hgrow1
  go_loopw [3, 13] (fun v i wr => ∃ k : Nat, k ≤ l.length ∧ i = .int .i64 k ∧ wr.ownsRow w.heap.size 5 1 v (8 * k) (bvs (ofB (l.take k))) ∧ Below w.heap.size w wr) (fun _ i _ => l.length - (intOf i).toNat)
  case atStart => exact ⟨0, Nat.zero_le _, rfl, hown1, hb1⟩
  case round =>
    obtain ⟨k, hk, rfl, hown, hbel⟩ := hrel
    clear hown1 hb1
    by_cases hlt : k < l.length
    · obtain ⟨b, o, x, rfl, hbb, hx, hc⟩ := (h.below hbel).at_ hlt
      have hx256 := hb.get hx
      have HX := Lib.hid hx
      clear hx
      have i1 : (0 : Int) ≤ k := by omega
      have i2 : (k : Int) < l.length := by omega
      go_wp2_with fail
      go_loopw [3, 17] (fun v i w2 => ∃ j : Nat, j ≤ 8 ∧ i = .int .i64 j ∧ w2.ownsRow w.heap.size 5 1 v (8 * k + j) (bvs (ofB (l.take k) ++ bitsN x j)) ∧ Below w.heap.size w w2) (fun _ i _ => 8 - (intOf i).toNat)
      case atStart => exact ⟨0, by omega, rfl, by simpa [bitsN_zero] using hown, hbel⟩
      case round =>
        obtain ⟨j, hj, rfl, hown2, hbel2⟩ := hrel
        clear hown hbel hc
        by_cases hlt2 : j < 8
        · obtain ⟨r, hr⟩ : ∃ r, Hid (x / 2 ^ j % 2 = r) := ⟨_, Lib.hid rfl⟩
          have hsz := hbel2.size
          go_wp2_with (first
            | (go_at_call 60; refine (lowest_shr x j r hx256 hr _).mono ?_; rintro e w' ⟨rfl, rfl⟩)
            | (at_builtin; refine wpList_append_own _ rfl _ _ 26 rfl w.heap.size 5 i0 (.int .u8 0) 1 1 Tryd.underlying26 hi hz0 hz1 hz2 rfl (by decide) _ _ _ rfl (hown2.alloc _) ⟨wr.heap.size, 0, none⟩ 1 1 [.int .u8 (r : Int)] rfl rfl (cell_one_new _ _ _) (fun x hx => by simp at hx; subst hx; rfl) (by unfold maxLen; omega) (by omega) (by simp; omega) ?_; intro v' w3 hown3 hgrow3 hnil3))
          have R := push_row hown3 (m := 8 * k + (j + 1)) (by omega)
          rw [List.append_assoc, ← hr.out, ← bitsN_succ] at R
          have R2 := push_below hbel2 hown2 hgrow3
          go_roundw
          case rel => exact ⟨j + 1, by omega, by go_num, R, R2⟩
          case measure => simp [intOf]; omega
        · go_wp2
          go_roundw
          case rel =>
            have he : j = 8 := by omega
            subst he
            rw [← ofB_snoc HX.out] at hown2
            exact ⟨k + 1, by omega, by go_num, hown2, hbel2⟩
          case measure => simp [intOf]; omega
    · go_wp2
      go_ret
      have he : k = l.length := by omega
      subst he
      rw [List.take_of_length_le (Nat.le_refl _)] at hown
      exact ⟨_, rfl, hown, hbel⟩

theorem of_c (l : List Nat) (n : Nat) (A : Option Addr) (c : Nat) (w : World) (h : Rd w w.heap.size A l) (hb : By l) (hn : l.length = n) (hl : n ≤ 1099511627776) :
    Calls Tryd.prog 47 #[.slice A n c] w fun e w' => ∃ A' c', e = .returned (.slice A' (8 * n) c') ∧ New w w' A' c' (8 * n) (ofB l) := by
  subst hn
  exact (of_any l A c w h hb hl).mono fun _ _ ⟨v, he, ho, hbl⟩ => by obtain ⟨A', c', rfl, hN⟩ := New.mk ho hbl; exact ⟨A', c', he, hN⟩

end Go.Proofs.YtkakkligndejaaaDoor
