
/-
  What Size, Stuff and the document's own Stuff and Left answer. No condition beyond: maps below 2^32, bytes below 256, lists of at most 2^38 elements.
-/
import Derived.Test.YtkakkligndejaaaDoorStfM
import Derived.Test.YtkakkligndejaaaDoorPart
namespace Go.Proofs.YtkakkligndejaaaDoor
open Go.RowKit

theorem turn_val {c : Nat} (h : c < 256) : bits .xor .u8 (c : Int) 32 = (turn c : Int) := u8_xor_nat c 32 h (by omega)

set_option maxHeartbeats 400000 in
theorem turn_any (c : Nat) (h : c < 256) (w : World) : Calls Tryd.prog 50 #[.int .u8 (c : Int)] w fun e w' => e = .returned (.int .u8 (turn c : Int)) ∧ w = w' := by
  have E := Lib.hid (turn_val h)
  go_enter Tryd.func50, Tryd.ntmps50
  go_wp2
  go_ret
  exact ⟨by rw [← E.out]; rfl, rfl⟩

set_option maxHeartbeats 1000000 in
theorem stsize_any (m : Nat) (hm : m < 4294967296) (l : List Nat) (n : Nat) (A : Option Addr) (c : Nat) (w : World) (h : Rd w w.heap.size A l) (hb : By l) (hl : l.length = n) (hn : n ≤ 274877906944) :
    Calls Tryd.prog 61 #[.int .u32 (m : Int), .slice A n c] w fun e w' => e = .returned (.int .i64 ((esc m l).length : Int)) ∧ w = w' := by
  have HL := Lib.hid hl
  clear hl
  go_enter Tryd.func61, Tryd.ntmps61
  go_wp2_with fail
  go_loop [5, 12] (fun v i => ∃ k y : Nat, k ≤ n ∧ i = .int .i64 k ∧ v = .int .i64 y ∧ y ≤ n + k ∧ Hid (y + k = n + (esc m (l.take k)).length)) (fun _ i => n - (intOf i).toNat)
  case atStart => exact ⟨0, n, Nat.zero_le _, rfl, rfl, by omega, Lib.hid rfl⟩
  case round =>
    obtain ⟨k, y, hk, rfl, rfl, hy, hyx⟩ := hrel
    by_cases hlt : k < n
    · obtain ⟨b, o, x, rfl, hbb, hx, hc⟩ := h.at_ (k := k) (by rw [HL.out]; exact hlt)
      have hx256 := hb.get hx
      have HX := Lib.hid hx
      clear hx
      have i1 : (0 : Int) ≤ k := by omega
      have i2 : (k : Int) < n := by omega
      obtain ⟨t, ht⟩ : ∃ t, Hid (mustB m x = t) := ⟨_, Lib.hid rfl⟩
      cases t
      · have R : Hid (y + (k + 1) = n + (esc m (l.take (k + 1))).length) := Lib.hid (by
          rw [esc_take HX.out, List.length_append, escB_len, ht.out]
          have := hyx.out
          simp
          omega)
        go_wp2_with (go_at_call 62; refine (must_any m x hm hx256 _).mono ?_; rintro e w' ⟨rfl, rfl⟩; rw [ht.out])
        go_round
        case rel => exact ⟨k + 1, y, by omega, by go_num, rfl, by omega, R⟩
        case measure => simp [intOf]; omega
      · have R : Hid (y + 1 + (k + 1) = n + (esc m (l.take (k + 1))).length) := Lib.hid (by
          rw [esc_take HX.out, List.length_append, escB_len, ht.out]
          have := hyx.out
          simp
          omega)
        go_wp2_with (go_at_call 62; refine (must_any m x hm hx256 _).mono ?_; rintro e w' ⟨rfl, rfl⟩; rw [ht.out])
        go_round
        case rel => exact ⟨k + 1, y + 1, by omega, by go_num, by go_num, by omega, R⟩
        case measure => simp [intOf]; omega
    · go_wp2
      go_ret
      have he : k = n := by omega
      subst he
      have := hyx.out
      rw [List.take_of_length_le (by rw [HL.out]; omega)] at this
      exact ⟨by rw [show y = (esc m l).length by omega]; rfl, rfl⟩

/-- Two bytes appended to an owned row. -/
theorem push_row2 {w3 : World} {base n m : Nat} {e : TypeId} {v : Value} {l : List Nat} {x y : Nat} (h : w3.ownsRow base e 1 v n (bvs l ++ [.int .u8 (x : Int), .int .u8 (y : Int)])) (hm : n = m) : w3.ownsRow base e 1 v m (bvs (l ++ [x, y])) := by
  subst hm
  rw [bvs_app]; exact h

set_option maxHeartbeats 1000000 in
theorem stuff_any (m : Nat) (hm : m < 4294967296) (l : List Nat) (n : Nat) (A : Option Addr) (c : Nat) (w : World) (h : Rd w w.heap.size A l) (hb : By l) (hl : l.length = n) (hn : n ≤ 274877906944) :
    Calls Tryd.prog 48 #[.int .u32 (m : Int), .slice A n c] w fun e w' => ∃ A' c' k, e = .returned (.slice A' k c') ∧ New w w' A' c' k (esc m l) := by
  obtain ⟨i0, hi, hz0, hz1, hz2⟩ := info_parts byte_info
  have HS := stsize_any m hm l n A c w h hb hl hn
  have hsz : (esc m l).length ≤ 2 * n := by rw [← hl]; exact esc_le m l
  obtain ⟨z, hz⟩ : ∃ z, Hid (z = (esc m l).length) := ⟨_, Lib.hid rfl⟩
  rw [← hz.out] at HS hsz
  have HL := Lib.hid hl
  clear hl
  go_enter Tryd.func48, Tryd.ntmps48
  go_wp2_with (first
    | (go_at_call 61; with_reducible refine HS.mono ?_; rintro e w' ⟨rfl, rfl⟩)
    | (at_make; refine wpList_make_own _ rfl _ _ 26 rfl w.heap.size 5 i0 (.int .u8 0) 1 Tryd.underlying26 hi hz0 hz1 .i64 .i64 _ z rfl rfl rfl (by rw [hz2]; omega) (by unfold maxLen; omega) (Nat.le_refl _) ?_; intro w1 hown1 hgrow1))
  have hb1 : Below w.heap.size w w1 := (Below.refl _ _).grown hgrow1 (Nat.le_refl _) (by simp)
  rw [show ([] : List Value) = bvs (esc m (l.take 0)) from rfl] at hown1
  clear hgrow1
  go_loopw [5, 14] (fun v i wr => ∃ k q : Nat, k ≤ n ∧ i = .int .i64 k ∧ q ≤ 2 * k ∧ wr.ownsRow w.heap.size 5 1 v q (bvs (esc m (l.take k))) ∧ Below w.heap.size w wr) (fun _ i _ => n - (intOf i).toNat)
  case atStart => exact ⟨0, 0, Nat.zero_le _, rfl, Nat.le_refl _, hown1, hb1⟩
  case round =>
    obtain ⟨k, q, hk, rfl, hq, hown, hbel⟩ := hrel
    clear hown1 hb1
    by_cases hlt : k < n
    · obtain ⟨b, o, x, rfl, hbb, hx, hc⟩ := (h.below hbel).at_ (k := k) (by rw [HL.out]; exact hlt)
      have hx256 := hb.get hx
      have HX := Lib.hid hx
      clear hx
      have i1 : (0 : Int) ≤ k := by omega
      have i2 : (k : Int) < n := by omega
      obtain ⟨t, ht⟩ : ∃ t, Hid (mustB m x = t) := ⟨_, Lib.hid rfl⟩
      have hszw := hbel.size
      cases t
      · have RE := Lib.hid (show esc m (l.take (k + 1)) = esc m (l.take k) ++ [x] by rw [esc_take HX.out, escB_no ht.out])
        go_wp2_with (first
          | (go_at_call 62; refine (must_any m x hm hx256 _).mono ?_; rintro e w' ⟨rfl, rfl⟩; rw [ht.out])
          | (at_builtin; refine wpList_append_own _ rfl _ _ 26 rfl w.heap.size 5 i0 (.int .u8 0) 1 1 Tryd.underlying26 hi hz0 hz1 hz2 rfl (by decide) _ _ _ rfl (hown.alloc _) ⟨wr.heap.size, 0, none⟩ 1 1 [.int .u8 (x : Int)] rfl rfl (cell_one_new _ _ _) (fun x hx => by simp at hx; subst hx; rfl) (by unfold maxLen; omega) (by omega) (by simp; omega) ?_; intro v' w3 hown3 hgrow3 hnil3))
        have R := push_row hown3 (m := q + 1) rfl
        rw [← RE.out] at R
        have R2 := push_below hbel hown hgrow3
        go_roundw
        case rel => exact ⟨k + 1, q + 1, by omega, by go_num, by omega, R, R2⟩
        case measure => simp [intOf]; omega
      · have RE := Lib.hid (show esc m (l.take (k + 1)) = esc m (l.take k) ++ [125, turn x] by rw [esc_take HX.out, escB_yes ht.out])
        have TV := Lib.hid (turn_val hx256)
        go_wp2_with (first
          | (go_at_call 62; refine (must_any m x hm hx256 _).mono ?_; rintro e w' ⟨rfl, rfl⟩; rw [ht.out])
          | (at_builtin; refine wpList_append_own _ rfl _ _ 26 rfl w.heap.size 5 i0 (.int .u8 0) 1 1 Tryd.underlying26 hi hz0 hz1 hz2 rfl (by decide) _ _ _ rfl (hown.alloc _) ⟨wr.heap.size, 0, none⟩ 2 2 [.int .u8 125, .int .u8 (bits .xor .u8 (x : Int) 32)] rfl rfl (cells_new _ _ _) (fun x hx => by simp at hx; rcases hx with rfl | rfl <;> rfl) (by unfold maxLen; omega) (by omega) (by simp; omega) ?_; intro v' w3 hown3 hgrow3 hnil3))
        rw [TV.out] at hown3
        have R := push_row2 (x := 125) hown3 (m := q + 2) rfl
        rw [← RE.out] at R
        have R2 := push_below hbel hown hgrow3
        go_roundw
        case rel => exact ⟨k + 1, q + 2, by omega, by go_num, by omega, R, R2⟩
        case measure => simp [intOf]; omega
    · go_wp2
      go_ret
      have he : k = n := by omega
      subst he
      rw [List.take_of_length_le (by rw [HL.out]; omega)] at hown
      obtain ⟨A', c', rfl, hN⟩ := New.mk hown hbel
      exact ⟨A', c', q, rfl, hN⟩

set_option maxHeartbeats 1000000 in
theorem rstuff_any (m : Nat) (hm : m < 4294967296) (l : List Nat) (n : Nat) (A : Option Addr) (c : Nat) (w : World) (h : Rd w w.heap.size A l) (hb : By l) (hl : l.length = n) (hn : n ≤ 274877906944) :
    Calls Tryd.prog 28 #[.int .u32 (m : Int), .slice A n c] w fun e w' => ∃ A' c' k, e = .returned (.slice A' k c') ∧ New w w' A' c' k (esc m l) := by
  obtain ⟨i0, hi, hz0, hz1, hz2⟩ := info_parts byte_info
  have HL := Lib.hid hl
  clear hl
  go_enter Tryd.func28, Tryd.ntmps28
  go_wp2_with fail
  have hown1 : (w.alloc (.cells #[] 5)).ownsRow w.heap.size 5 1 (.slice (some ⟨w.heap.size, 0, none⟩) 0 0) 0 (bvs (esc m (l.take 0))) := World.ownsRow_lit w #[] 0 (Nat.le_refl _) (by unfold maxLen; omega) rfl
  have hb1 : Below w.heap.size w (w.alloc (.cells #[] 5)) := (Below.refl _ _).alloc (Nat.le_refl _) _
  go_loopw [5, 6] (fun v i wr => ∃ k q : Nat, k ≤ n ∧ i = .int .i64 k ∧ q ≤ 2 * k ∧ wr.ownsRow w.heap.size 5 1 v q (bvs (esc m (l.take k))) ∧ Below w.heap.size w wr) (fun _ i _ => n - (intOf i).toNat)
  case atStart => exact ⟨0, 0, Nat.zero_le _, rfl, Nat.le_refl _, hown1, hb1⟩
  case round =>
    obtain ⟨k, q, hk, rfl, hq, hown, hbel⟩ := hrel
    clear hown1 hb1
    by_cases hlt : k < n
    · obtain ⟨b, o, x, rfl, hbb, hx, hc⟩ := (h.below hbel).at_ (k := k) (by rw [HL.out]; exact hlt)
      have hx256 := hb.get hx
      have HX := Lib.hid hx
      clear hx
      have i1 : (0 : Int) ≤ k := by omega
      have i2 : (k : Int) < n := by omega
      obtain ⟨t, ht⟩ : ∃ t, Hid (mustB m x = t) := ⟨_, Lib.hid rfl⟩
      have hszw := hbel.size
      cases t
      · have RE := Lib.hid (show esc m (l.take (k + 1)) = esc m (l.take k) ++ [x] by rw [esc_take HX.out, escB_no ht.out])
        go_wp2_with (first
          | (go_at_call 49; refine (rmust_any m x hm hx256 _).mono ?_; rintro e w' ⟨rfl, rfl⟩; rw [ht.out])
          | (at_builtin; refine wpList_append_own _ rfl _ _ 26 rfl w.heap.size 5 i0 (.int .u8 0) 1 1 Tryd.underlying26 hi hz0 hz1 hz2 rfl (by decide) _ _ _ rfl (hown.alloc _) ⟨wr.heap.size, 0, none⟩ 1 1 [.int .u8 (x : Int)] rfl rfl (cell_one_new _ _ _) (fun x hx => by simp at hx; subst hx; rfl) (by unfold maxLen; omega) (by omega) (by simp; omega) ?_; intro v' w3 hown3 hgrow3 hnil3))
        have R := push_row hown3 (m := q + 1) rfl
        rw [← RE.out] at R
        have R2 := push_below hbel hown hgrow3
        go_roundw
        case rel => exact ⟨k + 1, q + 1, by omega, by go_num, by omega, R, R2⟩
        case measure => simp [intOf]; omega
      · have RE := Lib.hid (show esc m (l.take (k + 1)) = esc m (l.take k) ++ [125, turn x] by rw [esc_take HX.out, escB_yes ht.out])
        go_wp2_with (first
          | (go_at_call 49; refine (rmust_any m x hm hx256 _).mono ?_; rintro e w' ⟨rfl, rfl⟩; rw [ht.out])
          | (go_at_call 50; refine (turn_any x hx256 _).mono ?_; rintro e w' ⟨rfl, rfl⟩)
          | (at_builtin; refine wpList_append_own _ rfl _ _ 26 rfl w.heap.size 5 i0 (.int .u8 0) 1 1 Tryd.underlying26 hi hz0 hz1 hz2 rfl (by decide) _ _ _ rfl (hown.alloc _) ⟨wr.heap.size, 0, none⟩ 2 2 [.int .u8 125, .int .u8 (turn x : Int)] rfl rfl (cells_new _ _ _) (fun x hx => by simp at hx; rcases hx with rfl | rfl <;> rfl) (by unfold maxLen; omega) (by omega) (by simp; omega) ?_; intro v' w3 hown3 hgrow3 hnil3))
        have R := push_row2 (x := 125) hown3 (m := q + 2) rfl
        rw [← RE.out] at R
        have R2 := push_below hbel hown hgrow3
        go_roundw
        case rel => exact ⟨k + 1, q + 2, by omega, by go_num, by omega, R, R2⟩
        case measure => simp [intOf]; omega
    · go_wp2
      go_ret
      have he : k = n := by omega
      subst he
      rw [List.take_of_length_le (by rw [HL.out]; omega)] at hown
      obtain ⟨A', c', rfl, hN⟩ := New.mk hown hbel
      exact ⟨A', c', q, rfl, hN⟩

end Go.Proofs.YtkakkligndejaaaDoor
