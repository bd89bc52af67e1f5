/-
  What bits.lowest and the two comparisons of byte lists answer. No condition beyond: bytes below 256, lists of at most 2^40 elements.
-/
import Derived.Test.YtbkebmpeofbnjaaWords
namespace Go.Proofs.Ytbkebmpeofbnjaa
open Go.RowKit

set_option maxHeartbeats 400000 in
theorem lowest_any (x : Nat) (hx : x < 256) (w : World) :
    Calls Try.prog 16 #[.int .u8 (x : Int)] w fun e w' => e = .returned (.int .u8 ((x % 2 : Nat) : Int)) ∧ w = w' := by
  go_enter Try.func16, Try.ntmps16
  go_wp2
  go_ret
  have h := u8_and_nat x 1 hx (by omega)
  rw [nat_mask1] at h
  refine ⟨?_, rfl⟩
  rw [← h]
  rfl

theorem take_snoc_eq {a b : List Nat} {k x y : Nat} (h : a.take k = b.take k) (hx : a[k]? = some x) (hy : b[k]? = some y) (e : x = y) : a.take (k + 1) = b.take (k + 1) := by
  rw [List.take_add_one, List.take_add_one, h, hx, hy, e]
theorem ne_of_at {a b : List Nat} {k x y : Nat} (hx : a[k]? = some x) (hy : b[k]? = some y) (e : x ≠ y) : a ≠ b := by
  rintro rfl
  rw [hx] at hy
  injection hy with h
  exact e h

set_option maxHeartbeats 400000 in
theorem equal_any (a b : List Nat) (A B : Option Addr) (c d : Nat) (w : World) (Bl : Nat) (ha : Rd w Bl A a) (hb : Rd w Bl B b) (hn : a.length ≤ 1099511627776) :
    Calls Try.prog 11 #[.slice A a.length c, .slice B b.length d] w fun e w' => e = .returned (.bool (decide (a = b))) ∧ ∃ n, w' = w.drewN n := by
  by_cases hl : a.length = b.length
  · have hne : ((a.length : Int) != (b.length : Int)) = false := by simp [hl]
    have HL := Lib.hid hl
    clear hl
    go_enter Try.func11, Try.ntmps11
    go_wp2_with fail
    go_loopw [5] (fun i wr => ∃ k : Nat, k ≤ a.length ∧ i = .int .i64 k ∧ Hid (a.take k = b.take k) ∧ ∃ n, wr = w.drewN n) (fun i _ => a.length - (intOf i).toNat)
    case atStart => exact ⟨0, Nat.zero_le _, rfl, Lib.hid (by simp), 0, rfl⟩
    case round =>
      obtain ⟨k, hk, rfl, heq, n, rfl⟩ := hrel
      by_cases hlt : k < a.length
      · have hlb : k < b.length := by have := HL.out; omega
        obtain ⟨ba, oa, x, rfl, _, hx, hcx⟩ := ha.at_ hlt
        obtain ⟨bb, ob, y, rfl, _, hy, hcy⟩ := hb.at_ hlb
        have HX := Lib.hid hx
        have HY := Lib.hid hy
        clear hx hy
        have i1 : (0 : Int) ≤ k := by omega
        have i2 : (k : Int) < a.length := by omega
        have i3 : (k : Int) < b.length := by omega
        go_wp2_with fail
        go_quiet (fail)
        all_goals go_wp2_with fail
        · have hxy : ((x : Int) != (y : Int)) = true := by assumption
          have hne2 : a ≠ b := ne_of_at HX.out HY.out (by rw [bne_iff_ne] at hxy; omega)
          go_ret
          exact ⟨by simp [hne2], _, World.drewN_drewN _ _ _⟩
        · have hxy : ((x : Int) != (y : Int)) = false := by assumption
          have he : x = y := by have := bne_eq_false_iff_eq.1 hxy; omega
          have R := Lib.hid (take_snoc_eq heq.out HX.out HY.out he)
          clear hxy he
          go_roundw
          case rel => exact ⟨k + 1, by omega, by go_num, R, _, rfl⟩
          case measure => simp [intOf]; omega
      · go_wp2
        go_ret
        have hk' : k = a.length := by omega
        have he : a = b := by
          have := heq.out
          rw [List.take_of_length_le (by omega), List.take_of_length_le (by have := HL.out; omega)] at this
          exact this
        exact ⟨by simp [he], _, rfl⟩
  · have hne : ((a.length : Int) != (b.length : Int)) = true := by rw [bne_iff_ne]; omega
    go_enter Try.func11, Try.ntmps11
    go_wp2_with fail
    go_ret
    refine ⟨?_, 0, rfl⟩
    have : a ≠ b := fun h => hl (by rw [h])
    simp [this]

theorem same_snoc {a b : List Nat} {k x y : Nat} (h : (a.take k).map (· % 2) = (b.take k).map (· % 2)) (hx : a[k]? = some x) (hy : b[k]? = some y) (e : x % 2 = y % 2) : (a.take (k + 1)).map (· % 2) = (b.take (k + 1)).map (· % 2) := by
  rw [List.take_add_one, List.take_add_one, List.map_append, List.map_append, h, hx, hy]
  simp [e]
theorem same_ne {a b : List Nat} {k x y : Nat} (hx : a[k]? = some x) (hy : b[k]? = some y) (e : x % 2 ≠ y % 2) : a.map (· % 2) ≠ b.map (· % 2) := by
  intro h
  have := congrArg (fun l => l[k]?) h
  simp [hx, hy] at this
  exact e this

set_option maxHeartbeats 400000 in
theorem same_any (a b : List Nat) (A B : Option Addr) (c d : Nat) (w : World) (Bl : Nat) (ha : Rd w Bl A a) (hb : Rd w Bl B b) (hn : a.length ≤ 1099511627776) :
    Calls Try.prog 14 #[.slice A a.length c, .slice B b.length d] w fun e w' => e = .returned (.bool (decide (a.map (· % 2) = b.map (· % 2)))) ∧ ∃ n, w' = w.drewN n := by
  by_cases hl : a.length = b.length
  · have hne : ((a.length : Int) != (b.length : Int)) = false := by simp [hl]
    have HL := Lib.hid hl
    clear hl
    go_enter Try.func14, Try.ntmps14
    go_wp2_with fail
    go_loopw [5] (fun i wr => ∃ k : Nat, k ≤ a.length ∧ i = .int .i64 k ∧ Hid ((a.take k).map (· % 2) = (b.take k).map (· % 2)) ∧ ∃ n, wr = w.drewN n) (fun i _ => a.length - (intOf i).toNat)
    case atStart => exact ⟨0, Nat.zero_le _, rfl, Lib.hid (by simp), 0, rfl⟩
    case round =>
      obtain ⟨k, hk, rfl, heq, n, rfl⟩ := hrel
      by_cases hlt : k < a.length
      · have hlb : k < b.length := by have := HL.out; omega
        obtain ⟨ba, oa, x, rfl, _, hx, hcx⟩ := ha.at_ hlt
        obtain ⟨bb, ob, y, rfl, _, hy, hcy⟩ := hb.at_ hlb
        have HX := Lib.hid hx
        have HY := Lib.hid hy
        clear hx hy
        have i1 : (0 : Int) ≤ k := by omega
        have i2 : (k : Int) < a.length := by omega
        have i3 : (k : Int) < b.length := by omega
        have x0 : (0 : Int) ≤ x := by omega
        have y0 : (0 : Int) ≤ y := by omega
        go_wp2_with fail
        go_quiet (fail)
        all_goals go_wp2_with fail
        · have hxy : ((x : Int) % 2 != (y : Int) % 2) = true := by assumption
          have hne2 := same_ne HX.out HY.out (by rw [bne_iff_ne] at hxy; omega)
          go_ret
          exact ⟨by simp [hne2], _, World.drewN_drewN _ _ _⟩
        · have hxy : ((x : Int) % 2 != (y : Int) % 2) = false := by assumption
          have he : x % 2 = y % 2 := by have := bne_eq_false_iff_eq.1 hxy; omega
          have R := Lib.hid (same_snoc heq.out HX.out HY.out he)
          clear hxy he
          go_roundw
          case rel => exact ⟨k + 1, by omega, by go_num, R, _, rfl⟩
          case measure => simp [intOf]; omega
      · go_wp2
        go_ret
        have hk' : k = a.length := by omega
        have he := heq.out
        rw [List.take_of_length_le (by omega), List.take_of_length_le (by have := HL.out; omega)] at he
        exact ⟨by simp [he], _, rfl⟩
  · have hne : ((a.length : Int) != (b.length : Int)) = true := by rw [bne_iff_ne]; omega
    go_enter Try.func14, Try.ntmps14
    go_wp2_with fail
    go_ret
    refine ⟨?_, 0, rfl⟩
    have : a.map (· % 2) ≠ b.map (· % 2) := fun h => hl (by simpa using congrArg List.length h)
    simp [this]

end Go.Proofs.Ytbkebmpeofbnjaa
