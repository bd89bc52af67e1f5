
/-
  The walk of the statement ZeroAgain: it answers true for every list of bytes, and writes nothing that was there. No condition.
-/
import Derived.Test.YtolnlccbpenfbaaZerS
import Derived.Test.YtolnlccbpenfbaaAppn
namespace Go.Proofs.Ytolnlccbpenfbaa
open Go.RowKit

/-- A list that lay reads the same later. -/
theorem Rd.on' {w w' : World} {A : Option Addr} {l : List Nat} (h : Rd w w.heap.size A l) (hb : Below w.heap.size w w') : Rd w' w'.heap.size A l := (h.below hb).more hb.size

set_option maxHeartbeats 1000000 in
theorem zagain_long (A : Option Addr) (n c : Nat) (w : World) (h : 600 < n) :
    Calls Try.prog 5 #[.slice A n c] w fun e w' => e = .returned (.bool true) ∧ Below w.heap.size w w' := by
  have h4 : (600 : Int) < (n : Int) := by omega
  go_enter Try.func5, Try.ntmps5
  go_wp2_with fail
  refine (speaks6_any _).mono ?_
  rintro e w1 ⟨rfl, hB1⟩
  go_wp2_with fail
  refine (speaks6_any _).mono ?_
  rintro e w2 ⟨rfl, hb2⟩
  go_wp2_with fail
  go_ret
  exact ⟨rfl, hB1.trans (hb2.mono hB1.size)⟩

set_option maxHeartbeats 2000000 in
theorem zagain_walk (l : List Nat) (A : Option Addr) (n c : Nat) (w : World) (hl : l.length = n) (hb : By l) (h : Rd w w.heap.size A l) (h4 : n ≤ 600) :
    Calls Try.prog 5 #[.slice A n c] w fun e w' => e = .returned (.bool true) ∧ Below w.heap.size w w' := by
  have HL := Lib.hid hl
  have HR := Lib.hid h
  clear hl h
  by_cases h5 : 5 < best l
  · have HP := Lib.hid (rem_bad h5)
    go_enter Try.func5, Try.ntmps5
    go_wp2_with fail
    refine (speaks6_any _).mono ?_
    rintro e w1 ⟨rfl, hB1⟩
    go_wp2_with fail
    refine (remove_any l n A c w1 (HR.out.on' hB1) hb HL.out (by omega)).mono ?_
    rintro e w2 ⟨A2, c2, k2, rfl, hk2, hl2, -, hb2⟩
    rw [HP.out.1] at hl2
    rw [HP.out.2]
    have hk0 : k2 = 0 := hl2.symm
    subst hk0
    have hB2 := hB1.trans (hb2.mono hB1.size)
    clear hl2 hb2
    go_wp2_with fail
    refine (run_c l n A c w2 (HR.out.on' hB2) hb HL.out (by omega)).mono ?_
    rintro e w3 ⟨rfl, rfl⟩
    generalize best l = r at h5
    have d1 : decide ((r : Int) > 5) = true := by simp; omega
    have d1' : (5 : Int) < (r : Int) := by omega
    go_wp2_with fail
    go_ret
    exact ⟨rfl, hB2⟩
  · have HP := Lib.hid (rem_good h5)
    have h5' : best l ≤ 5 := by omega
    have HLN := Lib.hid (again_len h5')
    have HTK := Lib.hid (again_take h5')
    have HLA := Lib.hid (again_last h5')
    have HXB := Lib.hid (remB_by l)
    obtain ⟨r, hr⟩ : ∃ r, Hid (best l = r) := ⟨_, Lib.hid rfl⟩
    have hr5 : r ≤ 5 := by rw [← hr.out]; exact h5'
    obtain ⟨x, hx⟩ : ∃ x, Hid (remB l = x) := ⟨_, Lib.hid rfl⟩
    rw [hx.out] at HLN HTK HLA HXB
    obtain ⟨s, hs⟩ : ∃ s, Hid (insB x = s) := ⟨_, Lib.hid rfl⟩
    rw [hs.out] at HLN HTK HLA
    clear h5 h5'
    go_enter Try.func5, Try.ntmps5
    go_wp2_with fail
    refine (speaks6_any _).mono ?_
    rintro e w1 ⟨rfl, hB1⟩
    go_wp2_with fail
    refine (remove_any l n A c w1 (HR.out.on' hB1) hb HL.out (by omega)).mono ?_
    rintro e w2 ⟨A2, c2, k2, rfl, hk2, hl2, hr2, hb2⟩
    rw [HP.out.2]
    rw [hx.out] at hl2 hr2
    have HL2 := Lib.hid hl2
    have hB2 := hB1.trans (hb2.mono hB1.size)
    clear hl2 hb2
    go_wp2_with fail
    refine (insert_any x k2 A2 c2 w2 hr2 HXB.out HL2.out (by omega)).mono ?_
    rintro e w3 ⟨A3, c3, m, rfl, hl3, ho3, hr3, hb3⟩
    rw [hs.out] at hl3 hr3
    have hcap := own_cap ho3
    have HL3 := Lib.hid hl3
    have hB3 := hB2.trans (hb3.mono hB2.size)
    have hm : m = n ∨ m = n + 1 := by have := HLN.out; rw [hl3, HL.out] at this; exact this
    clear hl3 hb3 hr2 ho3
    have HTN := Lib.hid (show s.take n = lows l by rw [← HL.out]; exact HTK.out)
    have HTL := Lib.hid (show (s.take n).length = n by rw [HTN.out, lows_len]; exact HL.out)
    have hmn : n ≤ m := by omega
    have d1 : decide ((m : Int) < (n : Int)) = false := by simp; omega
    have d1' : decide (m < n) = false := by simp; omega
    have d2 : decide ((m : Int) > (n : Int) + 1) = false := by simp; omega
    have d2' : decide ((n : Int) + 1 < (m : Int)) = false := by simp; omega
    have d3 : decide ((r : Int) > 5) = false := by simp; omega
    have d3' : decide ((5 : Int) < (r : Int)) = false := by simp; omega
    have i1 : (n : Int) ≤ c3 := by omega
    have e1 : IntKind.i64.wrap ((n : Int) + 1) = (n : Int) + 1 := IntWalk.i64_in _ (by omega)
    have hr3d := hr3.drew
    have hBd := hB3.drew
    go_wp2_with fail
    go_region_held3 (fun _ => True) (trivial) (first
      | (go_at_call 13; (with_reducible refine (clean_c l n A c _ (HR.out.on' hBd) hb HL.out (by omega)).mono ?_); rintro e w5 ⟨A5, c5, rfl, hl5, -, hr5, hb5⟩; have HL5 := Lib.hid hl5; have hB5 := hBd.trans (hb5.mono hBd.size); have hr35 := hr3d.on' hb5; clear hl5 hb5; dsimp only)
      | (go_at_call 10; (with_reducible refine (equal_yes (s.take n) (lows l) n n _ _ _ _ _ (hr35.take n) hr5 HTL.out HL5.out (by omega) HTN.out).mono ?_); rintro e w6 ⟨rfl, hb6⟩; have hB6 := hB5.trans (hb6.mono hB5.size); have hr36 := hr35.on' hb6; clear hb6; dsimp only)
      | (go_at_call 14; (with_reducible refine (run_c l n A c _ (HR.out.on' hB6) hb HL.out (by omega)).mono ?_); rintro e w7 ⟨rfl, rfl⟩; rw [hr.out]; dsimp only))
    rcases hm with hm | hm
    · subst hm
      have e2 : ((m : Int) == (m : Int)) = true := by simp
      go_wp2_with fail
      go_ret
      exact ⟨rfl, hB6⟩
    · have HZ := Lib.hid (HLA.out (by rw [HL3.out, HL.out]; exact hm))
      obtain ⟨b, o, y, rfl, hbb, hy, hc⟩ := hr36.at_ (k := n) (by rw [HL3.out]; omega)
      have hy0 : y = 0 := by
        have := HZ.out
        rw [HL.out, hy] at this
        injection this
      subst hy0
      subst hm
      have e2 : (((n + 1 : Nat) : Int) == (n : Int)) = false := by rw [beq_eq_false_iff_ne]; omega
      have e2' : ((n : Int) + 1 == (n : Int)) = false := by rw [beq_eq_false_iff_ne]; omega
      have i3 : (n : Int) < ((n + 1 : Nat) : Int) := by omega
      clear hy
      go_wp2_with fail
      go_ret
      exact ⟨rfl, hB6⟩

end Go.Proofs.Ytolnlccbpenfbaa
