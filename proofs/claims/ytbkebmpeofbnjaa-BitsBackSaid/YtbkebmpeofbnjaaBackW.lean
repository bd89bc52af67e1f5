/-
  The walk of the statement BitsBack: it answers true for every list of bytes, and writes nothing that was there. No condition.
-/
import Derived.Test.YtbkebmpeofbnjaaBitM
namespace Go.Proofs.Ytbkebmpeofbnjaa
open Go.RowKit

set_option maxHeartbeats 1000000 in
theorem back_long (A : Option Addr) (n c : Nat) (w : World) (h : 400 < n) :
    Calls Try.prog 4 #[.slice A n c] w fun e w' => e = .returned (.bool true) ∧ Below w.heap.size w w' := by
  have h4 : (400 : Int) < (n : Int) := by omega
  go_enter Try.func4, Try.ntmps4
  go_wp2_with fail
  refine (speaks_any _).mono ?_
  rintro e w1 ⟨rfl, hB1⟩
  go_wp2_with fail
  refine (speaks_any _).mono ?_
  rintro e w2 ⟨rfl, hb2⟩
  go_wp2_with fail
  go_ret
  exact ⟨rfl, hB1.trans (hb2.mono hB1.size)⟩

set_option maxHeartbeats 1000000 in
theorem back_walk (l : List Nat) (A : Option Addr) (n c : Nat) (w : World) (hl : l.length = n) (hb : By l) (h : Rd w w.heap.size A l) (h4 : n ≤ 400) :
    Calls Try.prog 4 #[.slice A n c] w fun e w' => e = .returned (.bool true) ∧ Below w.heap.size w w' := by
  have hnn : ((8 * n : Nat) : Int) = 8 * (n : Int) := by omega
  have HL := Lib.hid hl
  have HB := Lib.hid hb
  have HR := Lib.hid h
  have HN := Lib.hid hnn
  have Ht := Lib.hid (toO_ofB hb)
  clear hl hb h hnn
  go_enter Try.func4, Try.ntmps4
  go_wp2_with fail
  refine (speaks_any _).mono ?_
  rintro e w1 ⟨rfl, hB1⟩
  go_wp2_with fail
  refine (of_c l n _ _ _ ((HR.out.below hB1).more hB1.size) HB.out HL.out (by omega)).mono ?_
  rintro e w2 ⟨A2, c2, rfl, hl2, -, hr2, hb2⟩
  have hB2 := hB1.trans (hb2.mono hB1.size)
  clear hb2 hB1
  have HL2 := Lib.hid hl2
  clear hl2
  go_wp2_with fail
  refine (octets_c (ofB l) (8 * n) n _ _ _ hr2 (ofB_by l) HL2.out (by omega) rfl).mono ?_
  rintro e w3 ⟨A3, c3, rfl, hl3, -, hr3, hb3⟩
  have hB3 := hB2.trans (hb3.mono hB2.size)
  have HL3 := Lib.hid hl3
  clear hb3 hB2 hl3 hr2
  go_wp2_with fail
  refine (equal_yes (toO (ofB l)) l n n _ _ _ _ _ hr3 ((HR.out.below hB3).more hB3.size) HL3.out HL.out (by omega) Ht.out).mono ?_
  rintro e w4 ⟨rfl, hb4⟩
  have hB4 := hB3.trans (hb4.mono hB3.size)
  clear hb4 hB3 hr3
  go_wp2_with fail
  refine (of_c l n _ _ _ ((HR.out.below hB4).more hB4.size) HB.out HL.out (by omega)).mono ?_
  rintro e w5 ⟨A5, c5, rfl, -, -, -, hb5⟩
  have hB5 := hB4.trans (hb5.mono hB4.size)
  clear hb5 hB4
  have hne : ((8 * (n : Int)) != 8 * (n : Int)) = false := by simp
  go_wp2_with fail
  by_cases hq : n % 8 = 0
  · obtain ⟨q, hq'⟩ : ∃ q, n = 8 * q := ⟨n / 8, by omega⟩
    have HQ := Lib.hid hq'
    have Hz := Lib.hid (ofB_toO (l := l) (q := q) (by rw [HL.out]; exact hq'))
    clear hq hq'
    refine (octets_c l n q _ _ _ ((HR.out.below hB5).more hB5.size) HB.out HL.out (by omega) HQ.out).mono ?_
    rintro e w6 ⟨A6, c6, rfl, hl6, -, hr6, hb6⟩
    have hB6 := hB5.trans (hb6.mono hB5.size)
    have HL6 := Lib.hid hl6
    clear hb6 hB5 hl6
    go_wp2_with fail
    refine (of_c (toO l) q _ _ _ hr6 (toO_by l) HL6.out (by have := HQ.out; omega)).mono ?_
    rintro e w7 ⟨A7, c7, rfl, hl7, -, hr7, hb7⟩
    have hB7 := hB6.trans (hb7.mono hB6.size)
    have HL7 := Lib.hid hl7
    clear hb7 hB6 hl7 hr6
    go_wp2_with fail
    refine (clean_c l n _ _ _ ((HR.out.below hB7).more hB7.size) HB.out HL.out (by omega)).mono ?_
    rintro e w8 ⟨A8, c8, rfl, hl8, -, hr8, hb8⟩
    have hr7' := (hr7.below hb8).more hb8.size
    have hB8 := hB7.trans (hb8.mono hB7.size)
    have HL8 := Lib.hid hl8
    clear hb8 hB7 hl8 hr7
    go_wp2_with fail
    refine (equal_yes (ofB (toO l)) (lows l) (8 * q) n _ _ _ _ _ hr7' hr8 HL7.out HL8.out (by have := HQ.out; omega) Hz.out).mono ?_
    rintro e w9 ⟨rfl, hb9⟩
    go_wp2_with fail
    go_ret
    exact ⟨rfl, hB8.trans (hb9.mono hB8.size)⟩
  · refine (octets_no l n _ _ _ HL.out (by omega) hq).mono ?_
    rintro e w6 ⟨rfl, rfl⟩
    have hm : ((n : Int) % 8 != 0) = true := by rw [bne_iff_ne]; omega
    go_wp2_with fail
    go_ret
    exact ⟨rfl, hB5⟩

end Go.Proofs.Ytbkebmpeofbnjaa
