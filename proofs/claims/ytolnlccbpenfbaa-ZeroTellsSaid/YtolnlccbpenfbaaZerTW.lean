
/-
  The walks of the statements ZeroTells and ZeroBack: each answers true for every list of bytes, and writes nothing that was there. No condition.
-/
import Derived.Test.YtolnlccbpenfbaaZerS
namespace Go.Proofs.Ytolnlccbpenfbaa
open Go.RowKit

/-- A list that lay reads the same later. -/
theorem Rd.on {w w' : World} {A : Option Addr} {l : List Nat} (h : Rd w w.heap.size A l) (hb : Below w.heap.size w w') : Rd w' w'.heap.size A l := (h.below hb).more hb.size

set_option maxHeartbeats 1000000 in
theorem ztells_long (A : Option Addr) (n c : Nat) (w : World) (h : 600 < n) :
    Calls Try.prog 3 #[.slice A n c] w fun e w' => e = .returned (.bool true) ∧ Below w.heap.size w w' := by
  have h4 : (600 : Int) < (n : Int) := by omega
  go_enter Try.func3, Try.ntmps3
  go_wp2_with fail
  refine (speaks6_any _).mono ?_
  rintro e w1 ⟨rfl, hB1⟩
  go_wp2_with fail
  refine (speaks6_any _).mono ?_
  rintro e w2 ⟨rfl, hb2⟩
  go_wp2_with fail
  go_ret
  exact ⟨rfl, hB1.trans (hb2.mono hB1.size)⟩

set_option maxHeartbeats 2000000 in
theorem ztells_walk (l : List Nat) (A : Option Addr) (n c : Nat) (w : World) (hl : l.length = n) (hb : By l) (h : Rd w w.heap.size A l) (h4 : n ≤ 600) :
    Calls Try.prog 3 #[.slice A n c] w fun e w' => e = .returned (.bool true) ∧ Below w.heap.size w w' := by
  have hil : (insB l).length ≤ 2 * n := by have := ins_len l; omega
  have HL := Lib.hid hl
  have HR := Lib.hid h
  clear hl h
  go_enter Try.func3, Try.ntmps3
  go_wp2_with fail
  refine (speaks6_any _).mono ?_
  rintro e w1 ⟨rfl, hB1⟩
  go_wp2_with fail
  refine (remove_any l n A c w1 (HR.out.on hB1) hb HL.out (by omega)).mono ?_
  rintro e w2 ⟨A2, c2, k2, rfl, hk2, hl2, hr2, hb2⟩
  have HL2 := Lib.hid hl2
  have hB2 := hB1.trans (hb2.mono hB1.size)
  clear hl2 hb2
  obtain ⟨v, hv⟩ : ∃ v, Hid (v = remE l) := ⟨_, Lib.hid rfl⟩
  rw [← hv.out]
  go_wp2_with fail
  refine (rremove_any l n A c w2 (HR.out.on hB2) hb HL.out (by omega)).mono ?_
  rintro e w3 ⟨A3, c3, k3, rfl, hk3, hl3, hr3, hb3⟩
  have HL3 := Lib.hid hl3
  have hB3 := hB2.trans (hb3.mono hB2.size)
  have hr23 := hr2.on hb3
  clear hl3 hb3 hr2
  rw [← hv.out]
  go_wp2_with fail
  refine (insert_any l n A c w3 (HR.out.on hB3) hb HL.out (by omega)).mono ?_
  rintro e w4 ⟨A4, c4, k4, rfl, hl4, -, hr4, hb4⟩
  have HL4 := Lib.hid hl4
  have hB4 := hB3.trans (hb4.mono hB3.size)
  have hr24 := hr23.on hb4
  have hr34 := hr3.on hb4
  have hk4 : k4 ≤ 2 * n := by rw [← hl4]; exact hil
  clear hl4 hb4 hr23 hr3
  go_wp2_with fail
  refine (rinsert_any l n A c w4 (HR.out.on hB4) hb HL.out (by omega)).mono ?_
  rintro e w5 ⟨A5, c5, k5, rfl, hl5, -, hr5, hb5⟩
  have HL5 := Lib.hid hl5
  have hB5 := hB4.trans (hb5.mono hB4.size)
  have hr25 := hr24.on hb5
  have hr35 := hr34.on hb5
  have hr45 := hr4.on hb5
  clear hl5 hb5 hr24 hr34 hr4
  go_wp2_with fail
  refine (equal_yes _ _ k4 k5 _ _ _ _ w5 hr45 hr5 HL4.out HL5.out (by omega) rfl).mono ?_
  rintro e w6 ⟨rfl, hb6⟩
  have hB6 := hB5.trans (hb6.mono hB5.size)
  have hr26 := hr25.on hb6
  have hr36 := hr35.on hb6
  clear hb6 hr25 hr35 hr45 hr5
  have ev : ((v : Int) == (v : Int)) = true := by simp
  go_wp2_with fail
  refine (equal_yes _ _ k2 k3 _ _ _ _ w6 hr26 hr36 HL2.out HL3.out (by omega) rfl).mono ?_
  rintro e w7 ⟨rfl, hb7⟩
  have hB7 := hB6.trans (hb7.mono hB6.size)
  clear hb7
  go_wp2_with fail
  go_ret
  exact ⟨rfl, hB7⟩

set_option maxHeartbeats 1000000 in
theorem zback_long (A : Option Addr) (n c : Nat) (w : World) (h : 600 < n) :
    Calls Try.prog 4 #[.slice A n c] w fun e w' => e = .returned (.bool true) ∧ Below w.heap.size w w' := by
  have h4 : (600 : Int) < (n : Int) := by omega
  go_enter Try.func4, Try.ntmps4
  go_wp2_with fail
  refine (speaks6_any _).mono ?_
  rintro e w1 ⟨rfl, hB1⟩
  go_wp2_with fail
  refine (speaks6_any _).mono ?_
  rintro e w2 ⟨rfl, hb2⟩
  go_wp2_with fail
  go_ret
  exact ⟨rfl, hB1.trans (hb2.mono hB1.size)⟩

set_option maxHeartbeats 2000000 in
theorem zback_walk (l : List Nat) (A : Option Addr) (n c : Nat) (w : World) (hl : l.length = n) (hb : By l) (h : Rd w w.heap.size A l) (h4 : n ≤ 600) :
    Calls Try.prog 4 #[.slice A n c] w fun e w' => e = .returned (.bool true) ∧ Below w.heap.size w w' := by
  have hil : 5 * (insB l).length ≤ 6 * n := by have := ins_len l; omega
  have hge : n ≤ (insB l).length := by have := ins_ge l; omega
  have hbs := ins_best l
  have HIB := Lib.hid (ins_by l)
  have HRI := Lib.hid (rem_ins l)
  have HRE := Lib.hid (remE_ins l)
  have HL := Lib.hid hl
  have HR := Lib.hid h
  clear hl h
  obtain ⟨s, hs⟩ : ∃ s, Hid (insB l = s) := ⟨_, Lib.hid rfl⟩
  rw [hs.out] at hil hge hbs HIB HRI HRE
  go_enter Try.func4, Try.ntmps4
  go_wp2_with fail
  refine (speaks6_any _).mono ?_
  rintro e w1 ⟨rfl, hB1⟩
  go_wp2_with fail
  refine (insert_any l n A c w1 (HR.out.on hB1) hb HL.out (by omega)).mono ?_
  rintro e w2 ⟨A2, c2, k2, rfl, hl2, -, hr2, hb2⟩
  rw [hs.out] at hl2 hr2
  have hB2 := hB1.trans (hb2.mono hB1.size)
  have hk2 : 5 * k2 ≤ 6 * n := by rw [← hl2]; exact hil
  have hk3 : n ≤ k2 := by rw [← hl2]; exact hge
  have HL2 := Lib.hid hl2
  clear hl2 hb2 hil hge
  go_wp2_with fail
  refine (remove_any s k2 A2 c2 w2 hr2 HIB.out HL2.out (by omega)).mono ?_
  rintro e w3 ⟨A3, c3, k3, rfl, hk33, hl3, hr3, hb3⟩
  rw [HRI.out] at hl3 hr3
  rw [HRE.out]
  have hB3 := hB2.trans (hb3.mono hB2.size)
  have hr23 := hr2.on hb3
  have HL3 := Lib.hid hl3
  clear hl3 hb3 hr2
  go_wp2_with fail
  refine (clean_c l n A c w3 (HR.out.on hB3) hb HL.out (by omega)).mono ?_
  rintro e w4 ⟨A4, c4, rfl, hl4, -, hr4, hb4⟩
  have hB4 := hB3.trans (hb4.mono hB3.size)
  have hr24 := hr23.on hb4
  have hr34 := hr3.on hb4
  have HL4 := Lib.hid hl4
  clear hl4 hb4 hr23 hr3
  go_wp2_with fail
  refine (equal_yes _ _ k3 n _ _ _ _ w4 hr34 hr4 HL3.out HL4.out (by omega) rfl).mono ?_
  rintro e w5 ⟨rfl, hb5⟩
  have hB5 := hB4.trans (hb5.mono hB4.size)
  have hr25 := hr24.on hb5
  clear hb5 hr24 hr34 hr4
  go_wp2_with fail
  refine (run_c s k2 A2 c2 w5 hr25 HIB.out HL2.out (by omega)).mono ?_
  rintro e w6 ⟨rfl, rfl⟩
  generalize best s = r at hbs
  have d1 : decide ((r : Int) ≤ 5) = true := by simp; omega
  have d1' : (r : Int) ≤ 5 := by omega
  have d2 : decide ((k2 : Int) ≤ (n : Int) + (n : Int) / 5) = true := by simp; omega
  have d2' : (k2 : Int) ≤ (n : Int) + (n : Int) / 5 := by omega
  have d3 : decide ((k2 : Int) ≥ (n : Int)) = true := by simp; omega
  have d3' : (n : Int) ≤ (k2 : Int) := by omega
  go_wp2_with fail
  go_ret
  exact ⟨rfl, hB5⟩

end Go.Proofs.Ytolnlccbpenfbaa
