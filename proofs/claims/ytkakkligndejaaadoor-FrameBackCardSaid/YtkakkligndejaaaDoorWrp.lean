
/-
  How a frame is sent: the calls Wrap of layers 5 and 7. No condition beyond: octets below 256, at most 2^30 of them.
-/
import Derived.Test.YtkakkligndejaaaDoorCat
import Derived.Test.YtkakkligndejaaaDoorStfA
import Derived.Test.YtkakkligndejaaaDoorZerB
import Derived.Test.YtkakkligndejaaaDoorSOf
namespace Go.Proofs.YtkakkligndejaaaDoor
open Go.RowKit

def flagW : List Nat := [0, 1, 1, 1, 1, 1, 1, 0]
/-- Octets as they are sent in bits. -/
def swB (l : List Nat) : List Nat := flagW ++ (insB (ofB l) ++ flagW)
theorem swB_len (l : List Nat) : (swB l).length ≤ 16 * l.length + 16 := by
  have := insP_len_le (ofB l)
  rw [ofB_len] at this
  unfold swB insB flagW
  simp
  omega
theorem flagW_by : By flagW := by intro x hx; simp [flagW] at hx; omega
theorem swB_by (l : List Nat) : By (swB l) := flagW_by.app ((ins_by _).app flagW_by)

set_option maxHeartbeats 1000000 in
theorem awrap_any (m : Nat) (hm : m < 4294967296) (l : List Nat) (n : Nat) (A : Option Addr) (c : Nat) (w : World) (h : Rd w w.heap.size A l) (hb : By l) (hl : l.length = n) (hn : n ≤ 274877906944) :
    Calls Tryd.prog 27 #[.int .u32 (m : Int), .slice A n c] w fun e w' => ∃ A' c' k, e = .returned (.slice A' k c') ∧ k ≤ 2 * n + 2 ∧ New w w' A' c' k ([126] ++ (esc m l ++ [126])) := by
  have HL := Lib.hid hl
  clear hl
  have hsz : (esc m l).length ≤ 2 * n := by have := esc_le m l; rw [HL.out] at this; exact this
  go_enter Tryd.func27, Tryd.ntmps27
  go_wp2_with fail
  have hB0 : Below w.heap.size w (w.alloc (.cells #[.int .u8 126] 5)) := (Below.refl _ _).alloc (Nat.le_refl _) _
  have hr0 : Rd (w.alloc (.cells #[.int .u8 126] 5)) (w.alloc (.cells #[.int .u8 126] 5)).heap.size (some ⟨w.heap.size, 0, none⟩) [126] := Rd.lit_ w [126]
  refine (stuff_any m hm l n _ _ _ ((h.below hB0).more hB0.size) hb HL.out hn).mono ?_
  rintro e w2 ⟨A2, c2, k2, rfl, hl2, -, hr2, hb2⟩
  have hr1 := (hr0.below hb2).more hb2.size
  have hB2 := hB0.trans (hb2.mono hB0.size)
  have hR := rr_tri w2 (some ⟨w.heap.size, 0, none⟩) A2 (some ⟨w.heap.size, 0, none⟩) [126] (esc m l) [126] 1 k2 1 1 c2 1 26 hr1 hr2 hr1 rfl hl2 rfl
  have hk2 : k2 ≤ 2 * n := by rw [← hl2]; exact hsz
  subst hl2
  have hF : ([[126], esc m l, [126]] : List (List Nat)).flatten = [126] ++ (esc m l ++ [126]) := by simp
  have HFL := Lib.hid (show ([[126], esc m l, [126]] : List (List Nat)).flatten.length = (esc m l).length + 2 by rw [hF]; simp)
  have HF := Lib.hid hF
  clear hb2 hr0 hr2 hr1 hF
  go_wp2_with fail
  refine (concat_any [[126], esc m l, [126]] 3 _ _ _ hR rfl (by omega) (by rw [HFL.out]; omega)).mono ?_
  rintro e w3 ⟨A3, c3, k3, rfl, hk3, hN⟩
  rw [HF.out] at hN
  rw [HFL.out] at hk3
  subst hk3
  have hB3 := (hB2.alloc hB2.size (.cells #[.slice (some ⟨w.heap.size, 0, none⟩) 1 1, .slice A2 (esc m l).length c2, .slice (some ⟨w.heap.size, 0, none⟩) 1 1] 26))
  go_wp2_with fail
  go_ret
  refine ⟨A3, c3, _, rfl, by omega, hN.1, own_lo hN.2.1 hB3.size, hN.2.2.1, hB3.trans (hN.2.2.2.mono hB3.size)⟩


set_option maxHeartbeats 1000000 in
theorem swrap_any (l : List Nat) (n : Nat) (A : Option Addr) (c : Nat) (w : World) (h : Rd w w.heap.size A l) (hb : By l) (hl : l.length = n) (hn : n ≤ 1073741824) :
    Calls Tryd.prog 26 #[.slice A n c] w fun e w' => ∃ A' c' k, e = .returned (.slice A' k c') ∧ k ≤ 16 * n + 16 ∧ New w w' A' c' k (swB l) := by
  have HL := Lib.hid hl
  have HW := Lib.hid (show (swB l).length ≤ 16 * n + 16 by have := swB_len l; rw [hl] at this; exact this)
  clear hl
  go_enter Tryd.func26, Tryd.ntmps26
  go_wp2_with fail
  refine (flag_any w).mono ?_
  rintro e w1 ⟨A1, c1, rfl, -, -, hr1, hb1⟩
  have h1 := h.on hb1
  go_wp2_with fail
  refine (of_c l n _ _ w1 h1 hb HL.out (by omega)).mono ?_
  rintro e w2 ⟨A2, c2, rfl, hl2, -, hr2, hb2⟩
  have HL2 := Lib.hid hl2
  have hr1' := hr1.on hb2
  have hB2 := hb1.trans (hb2.mono hb1.size)
  clear hl2 hr1
  go_wp2_with fail
  refine (insert_any (ofB l) (8 * n) _ _ w2 hr2 (ofB_by l) HL2.out (by omega)).mono ?_
  rintro e w3 ⟨A3, c3, k3, rfl, hl3, -, hr3, hb3⟩
  have HL3 := Lib.hid hl3
  have hr1 := hr1'.on hb3
  have hB3 := hB2.trans (hb3.mono hB2.size)
  clear hl3 hr1' hr2
  go_wp2_with fail
  refine (flag_any w3).mono ?_
  rintro e w4 ⟨A4, c4, rfl, -, -, hr4, hb4⟩
  have hR := rr_tri w4 A1 A3 A4 flagW (insB (ofB l)) flagW 8 k3 8 c1 c3 c4 26 (hr1.on hb4) (hr3.on hb4) hr4 rfl HL3.out rfl
  have hB4 := hB3.trans (hb4.mono hB3.size)
  have hF : ([flagW, insB (ofB l), flagW] : List (List Nat)).flatten = swB l := by simp [swB]
  have HF := Lib.hid hF
  have hB5 := hB4.alloc hB4.size (.cells #[.slice A1 8 c1, .slice A3 k3 c3, .slice A4 8 c4] 26)
  clear hb1 hb2 hb3 hb4 hr1 hr3 hr4 hF h1
  go_wp2_with fail
  refine (concat_any [flagW, insB (ofB l), flagW] 3 _ _ _ hR rfl (by omega) (by rw [HF.out]; have := HW.out; omega)).mono ?_
  rintro e w5 ⟨A5, c5, k5, rfl, hk5, hN⟩
  rw [HF.out] at hN hk5
  subst hk5
  go_wp2_with fail
  go_ret
  exact ⟨A5, c5, _, rfl, HW.out, hN.1, own_lo hN.2.1 hB5.size, hN.2.2.1, hB5.trans (hN.2.2.2.mono hB5.size)⟩

end Go.Proofs.YtkakkligndejaaaDoor
