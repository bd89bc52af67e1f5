
/-
  The document's octets as bits. No condition beyond: octets below 256, at most 2^40 of them.
-/
import Derived.Test.YtkakkligndejaaaDoorSOf
namespace Go.Proofs.YtkakkligndejaaaDoor
open Go.RowKit

theorem halve (x j : Nat) : x / 2 ^ j / 2 = x / 2 ^ (j + 1) := by
  rw [Nat.div_div_eq_div_mul, Nat.pow_succ]

set_option maxHeartbeats 400000 in
theorem rof_any (l : List Nat) (A : Option Addr) (c : Nat) (w : World) (h : Rd w w.heap.size A l) (hb : By l) (hn : l.length ≤ 1099511627776) :
    Calls Tryd.prog 30 #[.slice A l.length c] w fun e w' => ∃ v, e = .returned v ∧ w'.ownsRow w.heap.size 5 1 v (8 * l.length) (bvs (ofB l)) ∧ Below w.heap.size w w' := by
  obtain ⟨i0, hi, hz0, hz1, hz2⟩ := info_parts byte_info
  go_enter Tryd.func30, Tryd.ntmps30
  go_wp2_with fail
  have hown1 : (w.alloc (.cells #[] 5)).ownsRow w.heap.size 5 1 (.slice (some ⟨w.heap.size, 0, none⟩) 0 0) 0 (bvs (ofB (l.take 0))) := World.ownsRow_lit w #[] 0 (Nat.le_refl _) (by unfold maxLen; omega) rfl
  have hb1 : Below w.heap.size w (w.alloc (.cells #[] 5)) := (Below.refl _ _).alloc (Nat.le_refl _) _
  go_loopw [3, 4] (fun v i wr => ∃ k : Nat, k ≤ l.length ∧ i = .int .i64 k ∧ wr.ownsRow w.heap.size 5 1 v (8 * k) (bvs (ofB (l.take k))) ∧ Below w.heap.size w wr) (fun _ i _ => l.length - (intOf i).toNat)
  case atStart => exact ⟨0, Nat.zero_le _, rfl, hown1, hb1⟩
  case round =>
    obtain ⟨k, hk, rfl, hown, hbel⟩ := hrel
    clear hown1 hb1
    by_cases hlt : k < l.length
    · obtain ⟨b, o, x, rfl, hbb, hx, hc⟩ := (h.below hbel).at_ hlt
      have hx256 := hb.get hx
      have HX := Lib.hid hx
      clear hx
      have i1 : (0 : Int) ≤ k := by omega
      have i2 : (k : Int) < l.length := by omega
      go_wp2_with fail
      go_loopw [3, 5, 6] (fun v n i w2 => ∃ j y : Nat, j ≤ 8 ∧ i = .int .i64 j ∧ n = .int .i64 y ∧ y < 256 ∧ Hid (y = x / 2 ^ j) ∧ w2.ownsRow w.heap.size 5 1 v (8 * k + j) (bvs (ofB (l.take k) ++ bitsN x j)) ∧ Below w.heap.size w w2) (fun _ _ i _ => 8 - (intOf i).toNat)
      case atStart => exact ⟨0, x, by omega, rfl, rfl, hx256, Lib.hid (by simp), by simpa [bitsN_zero] using hown, hbel⟩
      case round =>
        obtain ⟨j, y, hj, rfl, rfl, hy, hyx, hown2, hbel2⟩ := hrel
        clear hown hbel hc
        by_cases hlt2 : j < 8
        · obtain ⟨r, hr, hr2⟩ : ∃ r, Hid (x / 2 ^ j % 2 = r) ∧ Hid (y % 2 = r) := ⟨_, Lib.hid rfl, Lib.hid (by rw [hyx.out])⟩
          have hsz := hbel2.size
          have y0 : (0 : Int) ≤ y := by omega
          go_wp2_with (at_builtin; refine wpList_append_own _ rfl _ _ 26 rfl w.heap.size 5 i0 (.int .u8 0) 1 1 Tryd.underlying26 hi hz0 hz1 hz2 rfl (by decide) _ _ _ rfl (hown2.alloc _) ⟨wr.heap.size, 0, none⟩ 1 1 [.int .u8 ((y : Int) % 2)] rfl rfl (cell_one_new _ _ _) (fun x hx => by simp at hx; subst hx; rfl) (by unfold maxLen; omega) (by omega) (by simp; omega) ?_; intro v' w3 hown3 hgrow3 hnil3)
          rw [show ((y : Int) % 2) = ((r : Nat) : Int) from by have := hr2.out; omega] at hown3
          have R := push_row hown3 (m := 8 * k + (j + 1)) (by omega)
          rw [List.append_assoc, ← hr.out, ← bitsN_succ] at R
          have R2 := push_below hbel2 hown2 hgrow3
          have R3 := Lib.hid (show y / 2 = x / 2 ^ (j + 1) by rw [hyx.out, halve])
          go_roundw
          case rel => exact ⟨j + 1, y / 2, by omega, by go_num, by go_num, by omega, R3, R, R2⟩
          case measure => simp [intOf]; omega
        · go_wp2
          go_roundw
          case rel =>
            have he : j = 8 := by omega
            subst he
            rw [← ofB_snoc HX.out] at hown2
            exact ⟨k + 1, by omega, by go_num, hown2, hbel2⟩
          case measure => simp [intOf]; omega
    · go_wp2
      go_ret
      have he : k = l.length := by omega
      subst he
      rw [List.take_of_length_le (Nat.le_refl _)] at hown
      exact ⟨_, rfl, hown, hbel⟩


theorem rof_c (l : List Nat) (n : Nat) (A : Option Addr) (c : Nat) (w : World) (h : Rd w w.heap.size A l) (hb : By l) (hn : l.length = n) (hl : n ≤ 1099511627776) :
    Calls Tryd.prog 30 #[.slice A n c] w fun e w' => ∃ A' c', e = .returned (.slice A' (8 * n) c') ∧ New w w' A' c' (8 * n) (ofB l) := by
  subst hn
  exact (rof_any l A c w h hb hl).mono fun _ _ ⟨v, he, ho, hbl⟩ => by obtain ⟨A', c', rfl, hN⟩ := New.mk ho hbl; exact ⟨A', c', he, hN⟩

end Go.Proofs.YtkakkligndejaaaDoor
