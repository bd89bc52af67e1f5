
/-
  The document's own register, and both sums. Conditions: the tables hold what the start-up lays ('Tabs'); lists of at most 2^40 elements, bytes below 256.
-/
import Derived.Test.YtkakkligndejaaaDoorFcsN
namespace Go.Proofs.YtkakkligndejaaaDoor
open Go.RowKit

theorem sh_val (p y : Nat) (hp : p < 4294967296) (hy : y < 4294967296) (h : y % 2 = 1) : bits .xor .u32 ((y : Int) / 2) (p : Int) = (sh p y : Int) := by
  have e : ((y : Int) / 2) = ((y / 2 : Nat) : Int) := by omega
  rw [e, xor_u32 _ _ (by omega) hp, sh, if_pos h]
theorem sh_even (p y : Nat) (h : ¬ y % 2 = 1) : ((y : Int) / 2) = (sh p y : Int) := by
  rw [sh, if_neg h]
  omega
theorem shN_snoc (p k r : Nat) : shN p (k + 1) r = sh p (shN p k r) := shN_add p k 1 r
theorem sh_lt32 {p y : Nat} (hp : p < 4294967296) (hy : y < 4294967296) : sh p y < 4294967296 := sh_lt (n := 32) hp hy

set_option maxHeartbeats 1000000 in
theorem rmore_wide (r : Nat) (hr : r < 4294967296) (l : List Nat) (n : Nat) (A : Option Addr) (c : Nat) (w : World) (h : Rd w w.heap.size A l) (hb : By l) (hl : l.length = n) (hn : n ≤ 1099511627776) :
    Calls Tryd.prog 58 #[.bool true, .int .u32 (r : Int), .slice A n c] w fun e w' => e = .returned (.int .u32 (reg 3988292384 (r % 4294967296) l : Int)) ∧ w = w' := by
  have HL := Lib.hid hl
  clear hl
  obtain ⟨m, hm, hmr⟩ : ∃ m, Hid (m = r % 4294967296) ∧ m < 4294967296 := ⟨_, Lib.hid rfl, by omega⟩
  have HM := Lib.hid (show ((r : Int) % 4294967296) = (m : Int) by rw [hm.out]; omega)
  have HR := Lib.hid (show (r : Int) = (m : Int) ∨ 4294967296 = 65536 by rw [hm.out]; omega)
  rw [← hm.out]
  go_enter Tryd.func58, Tryd.ntmps58
  go_wp2_with fail
  rcases HR.out with hR | hR
  case inr => cases hR
  rw [hR]
  go_loop [1, 8] (fun v i => ∃ k y : Nat, k ≤ n ∧ i = .int .i64 k ∧ v = .int .u32 y ∧ y < 4294967296 ∧ Hid (y = reg 3988292384 m (l.take k))) (fun _ i => n - (intOf i).toNat)
  case atStart => exact ⟨0, m, Nat.zero_le _, rfl, rfl, hmr, Lib.hid rfl⟩
  case round =>
    obtain ⟨k, y, hk, rfl, rfl, hy, hyx⟩ := hrel
    by_cases hlt : k < n
    · obtain ⟨b, o, x, rfl, hbb, hx, hc⟩ := h.at_ (k := k) (by rw [HL.out]; exact hlt)
      have hx256 := hb.get hx
      have R := Lib.hid (reg_take (p := 3988292384) (r := m) hx)
      rw [← hyx.out] at R
      clear hx
      have HX := Lib.hid (xor_u32 y x hy (by omega))
      have hz : y ^^^ x < 4294967296 := Nat.xor_lt_two_pow (n := 32) hy (by omega)
      obtain ⟨z, hzz⟩ : ∃ z, Hid (z = y ^^^ x) := ⟨_, Lib.hid rfl⟩
      rw [← hzz.out] at HX R hz
      have i1 : (0 : Int) ≤ k := by omega
      have i2 : (k : Int) < n := by omega
      go_wp2_with fail
      rw [HX.out]
      go_loop [1, 9] (fun v i => ∃ j s : Nat, j ≤ 8 ∧ i = .int .i64 j ∧ v = .int .u32 s ∧ s < 4294967296 ∧ Hid (s = shN 3988292384 j z)) (fun _ i => 8 - (intOf i).toNat)
      case atStart => exact ⟨0, z, by omega, rfl, rfl, hz, Lib.hid rfl⟩
      case round =>
        obtain ⟨j, s, hj, rfl, rfl, hs, hsx⟩ := hrel
        by_cases hlt2 : j < 8
        · have hs2 := Lib.hid (sh_lt32 (p := 3988292384) (by decide) hs)
          have S := Lib.hid (show sh 3988292384 s = shN 3988292384 (j + 1) z by rw [shN_snoc, hsx.out])
          by_cases ho : s % 2 = 1
          · have h1 : (s : Int) % 2 = 1 := by omega
            have E := Lib.hid (sh_val 3988292384 s (by decide) hs ho)
            go_wp2_with fail
            go_round
            case rel => exact ⟨j + 1, sh 3988292384 s, by omega, by go_num, by rw [← E.out]; rfl, hs2.out, S⟩
            case measure => simp [intOf]; omega
          · have h1 : (s : Int) % 2 = 0 := by omega
            have E := Lib.hid (sh_even 3988292384 s ho)
            go_wp2_with fail
            go_round
            case rel => exact ⟨j + 1, sh 3988292384 s, by omega, by go_num, by rw [← E.out], hs2.out, S⟩
            case measure => simp [intOf]; omega
        · have he : j = 8 := by omega
          have R2 := Lib.hid (show s = reg 3988292384 m (l.take (k + 1)) by rw [R.out, hsx.out, he])
          go_wp2_with fail
          go_round
          case rel => exact ⟨k + 1, s, by omega, by go_num, rfl, hs, R2⟩
          case measure => simp [intOf]; omega
    · go_wp2_with fail
      go_ret
      have he : k = n := by omega
      subst he
      have := hyx.out
      rw [List.take_of_length_le (by rw [HL.out]; omega)] at this
      exact ⟨by rw [← this]; rfl, rfl⟩

set_option maxHeartbeats 1000000 in
theorem rmore_narrow (r : Nat) (hr : r < 4294967296) (l : List Nat) (n : Nat) (A : Option Addr) (c : Nat) (w : World) (h : Rd w w.heap.size A l) (hb : By l) (hl : l.length = n) (hn : n ≤ 1099511627776) :
    Calls Tryd.prog 58 #[.bool false, .int .u32 (r : Int), .slice A n c] w fun e w' => e = .returned (.int .u32 (reg 33800 (r % 65536) l : Int)) ∧ w = w' := by
  have HL := Lib.hid hl
  clear hl
  obtain ⟨m, hm, hmr⟩ : ∃ m, Hid (m = r % 65536) ∧ m < 4294967296 := ⟨_, Lib.hid rfl, by omega⟩
  have HM := Lib.hid (show ((r : Int) % 65536) = (m : Int) by rw [hm.out]; omega)
  have HR := Lib.hid (show (r : Int) = (m : Int) ∨ 65536 = 65536 by rw [hm.out]; omega)
  rw [← hm.out]
  go_enter Tryd.func58, Tryd.ntmps58
  go_wp2_with fail
  rw [HM.out]
  go_loop [1, 8] (fun v i => ∃ k y : Nat, k ≤ n ∧ i = .int .i64 k ∧ v = .int .u32 y ∧ y < 4294967296 ∧ Hid (y = reg 33800 m (l.take k))) (fun _ i => n - (intOf i).toNat)
  case atStart => exact ⟨0, m, Nat.zero_le _, rfl, rfl, hmr, Lib.hid rfl⟩
  case round =>
    obtain ⟨k, y, hk, rfl, rfl, hy, hyx⟩ := hrel
    by_cases hlt : k < n
    · obtain ⟨b, o, x, rfl, hbb, hx, hc⟩ := h.at_ (k := k) (by rw [HL.out]; exact hlt)
      have hx256 := hb.get hx
      have R := Lib.hid (reg_take (p := 33800) (r := m) hx)
      rw [← hyx.out] at R
      clear hx
      have HX := Lib.hid (xor_u32 y x hy (by omega))
      have hz : y ^^^ x < 4294967296 := Nat.xor_lt_two_pow (n := 32) hy (by omega)
      obtain ⟨z, hzz⟩ : ∃ z, Hid (z = y ^^^ x) := ⟨_, Lib.hid rfl⟩
      rw [← hzz.out] at HX R hz
      have i1 : (0 : Int) ≤ k := by omega
      have i2 : (k : Int) < n := by omega
      go_wp2_with fail
      rw [HX.out]
      go_loop [1, 9] (fun v i => ∃ j s : Nat, j ≤ 8 ∧ i = .int .i64 j ∧ v = .int .u32 s ∧ s < 4294967296 ∧ Hid (s = shN 33800 j z)) (fun _ i => 8 - (intOf i).toNat)
      case atStart => exact ⟨0, z, by omega, rfl, rfl, hz, Lib.hid rfl⟩
      case round =>
        obtain ⟨j, s, hj, rfl, rfl, hs, hsx⟩ := hrel
        by_cases hlt2 : j < 8
        · have hs2 := Lib.hid (sh_lt32 (p := 33800) (by decide) hs)
          have S := Lib.hid (show sh 33800 s = shN 33800 (j + 1) z by rw [shN_snoc, hsx.out])
          by_cases ho : s % 2 = 1
          · have h1 : (s : Int) % 2 = 1 := by omega
            have E := Lib.hid (sh_val 33800 s (by decide) hs ho)
            go_wp2_with fail
            go_round
            case rel => exact ⟨j + 1, sh 33800 s, by omega, by go_num, by rw [← E.out]; rfl, hs2.out, S⟩
            case measure => simp [intOf]; omega
          · have h1 : (s : Int) % 2 = 0 := by omega
            have E := Lib.hid (sh_even 33800 s ho)
            go_wp2_with fail
            go_round
            case rel => exact ⟨j + 1, sh 33800 s, by omega, by go_num, by rw [← E.out], hs2.out, S⟩
            case measure => simp [intOf]; omega
        · have he : j = 8 := by omega
          have R2 := Lib.hid (show s = reg 33800 m (l.take (k + 1)) by rw [R.out, hsx.out, he])
          go_wp2_with fail
          go_round
          case rel => exact ⟨k + 1, s, by omega, by go_num, rfl, hs, R2⟩
          case measure => simp [intOf]; omega
    · go_wp2_with fail
      go_ret
      have he : k = n := by omega
      subst he
      have := hyx.out
      rw [List.take_of_length_le (by rw [HL.out]; omega)] at this
      exact ⟨by rw [← this]; rfl, rfl⟩

end Go.Proofs.YtkakkligndejaaaDoor
