
/-
  What Sum, Trailer and the document's own answer. Conditions: the tables hold what the start-up lays ('Tabs'); lists of at most 2^40 elements, bytes below 256.
-/
import Derived.Test.YtkakkligndejaaaDoorFcsR
import Derived.Test.YtkakkligndejaaaDoorPart
namespace Go.Proofs.YtkakkligndejaaaDoor
open Go.RowKit

theorem ones_mod (wide : Bool) : onesW wide % topW wide = onesW wide := by cases wide <;> decide
theorem more_start (wide : Bool) (l : List Nat) (n : Nat) (A : Option Addr) (c : Nat) (w : World) (h : Rd w w.heap.size A l) (hb : By l) (hl : l.length = n) (hn : n ≤ 1099511627776) (hT : Tabs w) :
    Calls Tryd.prog 56 #[.bool wide, .int .u32 (onesW wide : Int), .slice A n c] w fun e w' => e = .returned (.int .u32 (regW wide l : Int)) ∧ w = w' := by
  have := more_any wide (onesW wide) (topL wide (ones_lt wide)) l n A c w h hb hl hn hT
  rw [ones_mod] at this
  exact this
theorem sum_val (wide : Bool) (l : List Nat) (hb : By l) : bits .xor .u32 (regW wide l : Int) (onesW wide : Int) = (sumW wide l : Int) :=
  xor_u32 _ _ (topL wide (regW_lt hb)) (topL wide (ones_lt wide))

set_option maxHeartbeats 400000 in
theorem sum_any (wide : Bool) (l : List Nat) (n : Nat) (A : Option Addr) (c : Nat) (w : World) (h : Rd w w.heap.size A l) (hb : By l) (hl : l.length = n) (hn : n ≤ 1099511627776) (hT : Tabs w) :
    Calls Tryd.prog 39 #[.bool wide, .slice A n c] w fun e w' => e = .returned (.int .u32 (sumW wide l : Int)) ∧ w = w' := by
  have E := Lib.hid (sum_val wide l hb)
  have HM := more_start wide l n A c w h hb hl hn hT
  go_enter Tryd.func39, Tryd.ntmps39
  go_wp2_with (first
    | (go_at_call 55; with_reducible refine (start_any wide _).mono ?_; rintro e w' ⟨rfl, rfl⟩)
    | (go_at_call 56; with_reducible refine HM.mono ?_; rintro e w' ⟨rfl, rfl⟩))
  go_ret
  exact ⟨by rw [← E.out]; rfl, rfl⟩

theorem ones_sub (wide : Bool) (x : Nat) (h : x < topW wide) : onesW wide - x = x ^^^ onesW wide := by
  have key : ∀ n x, x < 2 ^ n → 2 ^ n - (x + 1) = x ^^^ (2 ^ n - (0 + 1)) := by
    intro n x hx
    apply Nat.eq_of_testBit_eq
    intro i
    rw [Nat.testBit_xor, Nat.testBit_two_pow_sub_succ hx, Nat.testBit_two_pow_sub_succ (Nat.two_pow_pos n), Nat.zero_testBit]
    by_cases hi : i < n
    · cases x.testBit i <;> simp [hi]
    · rw [Nat.testBit_lt_two_pow (Nat.lt_of_lt_of_le hx (Nat.pow_le_pow_right (n := 2) (by omega) (by omega)))]
      simp [hi]
  have h1 : topW wide = onesW wide + 1 := by cases wide <;> rfl
  have h2 := key (8 * sizeW wide) x (by rw [← top_pow]; exact h)
  rw [← top_pow, h1] at h2
  have e1 : onesW wide + 1 - (x + 1) = onesW wide - x := by omega
  have e2 : onesW wide + 1 - (0 + 1) = onesW wide := by omega
  rw [e1, e2] at h2
  exact h2

set_option maxHeartbeats 400000 in
theorem rsum_any (wide : Bool) (l : List Nat) (n : Nat) (A : Option Addr) (c : Nat) (w : World) (h : Rd w w.heap.size A l) (hb : By l) (hl : l.length = n) (hn : n ≤ 1099511627776) :
    Calls Tryd.prog 44 #[.bool wide, .slice A n c] w fun e w' => e = .returned (.int .u32 (sumW wide l : Int)) ∧ w = w' := by
  have E := ones_sub wide _ (regW_lt (wide := wide) hb)
  have hlt := regW_lt (wide := wide) hb
  cases wide
  · have HM : Calls Tryd.prog 58 #[.bool false, .int .u32 65535, .slice A n c] w fun e w' => e = .returned (.int .u32 (regW false l : Int)) ∧ w = w' := rmore_narrow 65535 (by omega) l n A c w h hb hl hn
    have hlt' : regW false l < 65536 := hlt
    have E2 : ((65535 : Int) - (regW false l : Int)) = (sumW false l : Int) := by
      have : 65535 - regW false l = sumW false l := E
      omega
    have HE := Lib.hid E2
    clear E E2
    go_enter Tryd.func44, Tryd.ntmps44
    go_wp2_with (go_at_call 58; with_reducible refine HM.mono ?_; rintro e w' ⟨rfl, rfl⟩)
    go_ret
    exact ⟨by rw [← HE.out]; rfl, rfl⟩
  · have HM : Calls Tryd.prog 58 #[.bool true, .int .u32 4294967295, .slice A n c] w fun e w' => e = .returned (.int .u32 (regW true l : Int)) ∧ w = w' := rmore_wide 4294967295 (by omega) l n A c w h hb hl hn
    have hlt' : regW true l < 4294967296 := hlt
    have E2 : ((4294967295 : Int) - (regW true l : Int)) = (sumW true l : Int) := by
      have : 4294967295 - regW true l = sumW true l := E
      omega
    have HE := Lib.hid E2
    clear E E2
    go_enter Tryd.func44, Tryd.ntmps44
    go_wp2_with (go_at_call 58; with_reducible refine HM.mono ?_; rintro e w' ⟨rfl, rfl⟩)
    go_ret
    exact ⟨by rw [← HE.out]; rfl, rfl⟩

/-- The first octets of what is written of a number. -/
def tk (s k : Nat) : List Nat := (List.range k).map fun i => s / 2 ^ (8 * i) % 256
theorem tk_len (s k : Nat) : (tk s k).length = k := by simp [tk]
theorem tk_succ (s k : Nat) : tk s (k + 1) = tk s k ++ [s / 2 ^ (8 * k) % 256] := by simp [tk, List.range_succ]
theorem tk_all (wide : Bool) (s : Nat) (h : s < topW wide) : tk s (sizeW wide) = trail wide s := by
  cases wide
  · have h' : s < 65536 := h
    have e1 : s / 256 % 256 = s / 256 := by omega
    show [s / 1 % 256, s / 256 % 256] = [s % 256, s / 256]
    rw [Nat.div_one, e1]
  · have h' : s < 4294967296 := h
    have e1 : s / 16777216 % 256 = s / 16777216 := by omega
    show [s / 1 % 256, s / 256 % 256, s / 65536 % 256, s / 16777216 % 256] = [s % 256, s / 256 % 256, s / 65536 % 256, s / 16777216]
    rw [Nat.div_one, e1]

set_option maxHeartbeats 400000 in
theorem trailer_any (wide : Bool) (l : List Nat) (n : Nat) (A : Option Addr) (c : Nat) (w : World) (h : Rd w w.heap.size A l) (hb : By l) (hl : l.length = n) (hn : n ≤ 1099511627776) (hT : Tabs w) :
    Calls Tryd.prog 20 #[.bool wide, .slice A n c] w fun e w' => ∃ A' c', e = .returned (.slice A' (sizeW wide) c') ∧ New w w' A' c' (sizeW wide) (trail wide (sumW wide l)) := by
  obtain ⟨i0, hi, hz0, hz1, hz2⟩ := info_parts byte_info
  have HS := sum_any wide l n A c w h hb hl hn hT
  have hlt := Lib.hid (sumW_lt (wide := wide) hb)
  have HZ := size_any wide
  have hz := (size_pos wide).2
  have HA := Lib.hid (tk_all wide _ hlt.out)
  obtain ⟨s, hs⟩ : ∃ s, Hid (s = sumW wide l) := ⟨_, Lib.hid rfl⟩
  obtain ⟨z, hzz⟩ : ∃ z, Hid (z = sizeW wide) := ⟨_, Lib.hid rfl⟩
  have hs32 : s < 4294967296 := by rw [hs.out]; exact topL wide hlt.out
  rw [← hs.out] at HS HA ⊢
  rw [← hzz.out] at HA hz ⊢
  rw [← hzz.out] at HZ
  clear h hb hl hT
  go_enter Tryd.func20, Tryd.ntmps20
  go_wp2_with (first
    | (go_at_call 39; with_reducible refine HS.mono ?_; rintro e w' ⟨rfl, rfl⟩)
    | (go_at_call 19; with_reducible refine (HZ _).mono ?_; rintro e w' ⟨rfl, rfl⟩)
    | (at_make; refine wpList_make_full _ rfl _ _ 26 rfl w.heap.size 5 i0 (.int .u8 0) 1 Tryd.underlying26 hi hz0 hz1 .i64 .i64 _ _ z rfl rfl rfl rfl (by rw [hz2]; omega) (by unfold maxLen; omega) (Nat.le_refl _) ?_; intro w1 hown1 hgrow1))
  rw [← part_zero] at hown1
  have hb1 : Below w.heap.size w w1 := (Below.refl _ _).grown hgrow1 (Nat.le_refl _) (by simp)
  clear hgrow1 hi hz0 hz1 hz2
  go_loopw [16] (fun i wr => ∃ k : Nat, k ≤ z ∧ i = .int .i64 k ∧ wr.ownsRow w.heap.size 5 1 (.slice (some ⟨w.heap.size, 0, none⟩) z z) z (bvs (part (tk s k) z k)) ∧ Below w.heap.size w wr) (fun i _ => z - (intOf i).toNat)
  case atStart => exact ⟨0, Nat.zero_le _, rfl, hown1, hb1⟩
  case round =>
    obtain ⟨k, hk, rfl, hown, hbel⟩ := hrel
    by_cases hlt : k < z
    · have hst := hown.stored k (.int .u8 ((s / 2 ^ (8 * k) % 256 : Nat) : Int))
      rw [part_set (by rw [tk_len]) hlt, ← tk_succ, show ((s / 2 ^ (8 * k) % 256 : Nat) : Int) = (s : Int) / 2 ^ (8 * k) % 256 from by simp] at hst
      have HST := Lib.hid hst
      have hc0 := hown.cellAt k (by omega)
      have hf0 := hown.frozenAt k
      rw [bvs_get (x := (part (tk s k) z k)[k]'(by rw [part_len (by rw [tk_len]) hk]; exact hlt)) _ _ (List.getElem?_eq_getElem _)] at hc0
      clear hst
      have i1 : (0 : Int) ≤ k := by omega
      have i2 : (k : Int) < z := by omega
      go_wp2_with fail
      go_roundw
      case rel => exact ⟨k + 1, by omega, by go_num, HST.out.1, hbel.setCell (Nat.le_refl _) _⟩
      case measure => simp [intOf]; omega
    · go_wp2
      go_ret
      have he : k = z := by omega
      subst he
      rw [part_full, HA.out] at hown
      obtain ⟨A', c', e, hN⟩ := New.mk hown hbel
      injection e with e1 e2 e3
      subst e1; subst e3
      exact ⟨_, _, rfl, hN⟩

theorem rtrail_two (s : Nat) : ([.int .u8 ((s : Int) % 256), .int .u8 ((s : Int) / 256 % 256)] : List Value) = bvs [s % 256, s / 256 % 256] := by
  simp [bvs, bv]
theorem rtrail_four (s : Nat) : ([.int .u8 ((s : Int) / 65536 % 256), .int .u8 ((s : Int) / 16777216)] : List Value) = bvs [s / 65536 % 256, s / 16777216] := by
  simp [bvs, bv]

set_option maxHeartbeats 400000 in
theorem rtrailer_any (wide : Bool) (l : List Nat) (n : Nat) (A : Option Addr) (c : Nat) (w : World) (h : Rd w w.heap.size A l) (hb : By l) (hl : l.length = n) (hn : n ≤ 1099511627776) :
    Calls Tryd.prog 25 #[.bool wide, .slice A n c] w fun e w' => ∃ A' c', e = .returned (.slice A' (sizeW wide) c') ∧ New w w' A' c' (sizeW wide) (trail wide (sumW wide l)) := by
  obtain ⟨i0, hi, hz0, hz1, hz2⟩ := info_parts byte_info
  have HS := rsum_any wide l n A c w h hb hl hn
  have hlt := sumW_lt (wide := wide) hb
  obtain ⟨s, hs⟩ : ∃ s, Hid (s = sumW wide l) := ⟨_, Lib.hid rfl⟩
  rw [← hs.out] at HS hlt ⊢
  clear h hb hl
  cases wide
  · have hlt' : s < 65536 := hlt
    have e2 : s / 256 % 256 = s / 256 := by omega
    go_enter Tryd.func25, Tryd.ntmps25
    go_wp2_with (go_at_call 44; with_reducible refine HS.mono ?_; rintro e w' ⟨rfl, rfl⟩)
    go_ret
    have hown : (w.alloc (.cells #[.int .u8 ((s : Int) % 256), .int .u8 ((s : Int) / 256 % 256)] 5)).ownsRow w.heap.size 5 1 (.slice (some ⟨w.heap.size, 0, none⟩) 2 2) 2 (bvs [s % 256, s / 256 % 256]) := by
      rw [← rtrail_two]
      exact World.ownsRow_lit w _ 2 (Nat.le_refl _) (by unfold maxLen; omega) rfl
    rw [e2] at hown
    obtain ⟨A', c', e, hN⟩ := New.mk hown ((Below.refl _ _).alloc (Nat.le_refl _) _)
    injection e with e1 e2 e3
    subst e1; subst e3
    exact ⟨_, _, rfl, hN⟩
  · have hlt' : s < 4294967296 := hlt
    go_enter Tryd.func25, Tryd.ntmps25
    have hown : (w.alloc (.cells #[.int .u8 ((s : Int) % 256), .int .u8 ((s : Int) / 256 % 256)] 5)).ownsRow w.heap.size 5 1 (.slice (some ⟨w.heap.size, 0, none⟩) 2 2) 2 (bvs [s % 256, s / 256 % 256]) := by
      rw [← rtrail_two]
      exact World.ownsRow_lit w _ 2 (Nat.le_refl _) (by unfold maxLen; omega) rfl
    have hb0 : Below w.heap.size w (w.alloc (.cells #[.int .u8 ((s : Int) % 256), .int .u8 ((s : Int) / 256 % 256)] 5)) := (Below.refl _ _).alloc (Nat.le_refl _) _
    go_wp2_with (first
      | (go_at_call 44; with_reducible refine HS.mono ?_; rintro e w' ⟨rfl, rfl⟩)
      | (at_builtin; go_loud (refine wpList_append_own _ rfl _ _ 26 rfl w.heap.size 5 i0 (.int .u8 0) 1 1 Tryd.underlying26 hi hz0 hz1 hz2 rfl (by decide) _ 2 _ rfl (hown.alloc _) ⟨w.heap.size + 1, 0, none⟩ 2 2 [.int .u8 ((s : Int) / 65536 % 256), .int .u8 ((s : Int) / 16777216)] rfl rfl (cells_at _ _ _ _ (by simp)) (fun x hx => by simp at hx; rcases hx with rfl | rfl <;> rfl) (by unfold maxLen; omega) (by omega) (by simp; omega) ?_); intro v' w3 hown3 hgrow3 hnil3))
    go_ret
    rw [rtrail_four, ← bvs_app] at hown3
    obtain ⟨A', c', rfl, hN⟩ := New.mk hown3 (push_below hb0 hown hgrow3)
    exact ⟨_, _, rfl, hN⟩

end Go.Proofs.YtkakkligndejaaaDoor
