/-
  The walk of the statement FcsSums: it answers true for every list of octets. Condition: the tables hold what the start-up lays ('Tabs').
-/
import Derived.Test.YtinajpmhpbjaiaaDoorFcsMoreW
namespace Go.Proofs.YtinajpmhpbjaiaaDoor
open Go.RowKit

set_option maxHeartbeats 1000000 in
theorem sums_long (wide : Bool) (A : Option Addr) (n c : Nat) (w : World) (h : 400 < n) (hT : Tabs w) :
    Calls Tryd.prog 3 #[.slice A n c, .bool wide] w fun e w' => e = .returned (.bool true) ∧ Below w.heap.size w w' := by
  have h4 : (400 : Int) < (n : Int) := by omega
  go_enter Tryd.func3, Tryd.ntmps3
  go_wp2_with fail
  refine (speaks_any _ hT).mono ?_
  rintro e w1 ⟨rfl, hB1⟩
  go_wp2_with fail
  refine (speaks_any _ (hT.below hB1)).mono ?_
  rintro e w2 ⟨rfl, hb2⟩
  go_wp2_with fail
  go_ret
  exact ⟨rfl, hB1.trans (hb2.mono hB1.size)⟩

set_option maxHeartbeats 4000000 in
theorem sums_walk (wide : Bool) (l : List Nat) (A : Option Addr) (n c : Nat) (w : World) (hl : l.length = n) (hb : By l) (h : Rd w w.heap.size A l) (h4 : n ≤ 400) (hc : n ≤ c) (hT : Tabs w) :
    Calls Tryd.prog 3 #[.slice A n c, .bool wide] w fun e w' => e = .returned (.bool true) ∧ Below w.heap.size w w' := by
  have HL := Lib.hid hl
  have HB := Lib.hid hb
  have HR := Lib.hid h
  clear hl hb h
  obtain ⟨i0, hi, hz0, hz1, hz2⟩ := info_parts byte_info
  obtain ⟨z, hzz⟩ : ∃ z, Hid (sizeW wide = z) := ⟨_, Lib.hid rfl⟩
  have hz := size_pos wide
  obtain ⟨s, hs⟩ : ∃ s, Hid (sumW wide l = s) := ⟨_, Lib.hid rfl⟩
  obtain ⟨t, ht⟩ : ∃ t, Hid (trail wide (sumW wide l) = t) := ⟨_, Lib.hid rfl⟩
  obtain ⟨g, hg⟩ : ∃ g, Hid (goodW wide l = g) := ⟨_, Lib.hid rfl⟩
  have htb := Lib.hid (show By t by rw [← ht.out]; exact trail_by wide _ (sumW_lt HB.out))
  have HW := Lib.hid (show goodW wide (l ++ t) = true by rw [← ht.out]; exact good_whole wide l)
  have hWb := Lib.hid (HB.out.app htb.out)
  rw [hzz.out] at hz
  have hss : ((s : Int) == (s : Int)) = true := by simp
  have hgg : (g == g) = true := by simp
  have hzz2 : ((z : Int) == (z : Int)) = true := by simp
  go_enter Tryd.func3, Tryd.ntmps3
  go_wp2_with fail
  refine (speaks_any _ hT).mono ?_
  rintro e w1 ⟨rfl, hB1⟩
  have hsz1 := hB1.size
  have hown0 : (w1.alloc (.cells #[] 5)).ownsRow w.heap.size 5 1 (.slice (some ⟨w1.heap.size, 0, none⟩) 0 0) 0 (bvs []) := World.ownsRow_lit w1 #[] 0 hsz1 (by unfold maxLen; omega) rfl
  have hB0 := hB1.alloc hsz1 (.cells #[] 5)
  go_wp2_with (at_builtin; refine list_app rfl _ _ _ rfl _ i0 Tryd.underlying22 hi hz0 hz1 hz2 w.heap.size _ _ [] rfl hown0 _ _ _ _ l rfl ((HR.out.below hB0).more hB0.size) HL.out (by omega) hB0.size ?_; intro A2 c2 w2 ho2 hg2; have hB2 := app_below hB0 (Nat.le_refl _) hown0 hg2; clear hg2 hown0 hB0)
  rw [List.nil_append, Nat.zero_add] at ho2
  refine (trailer_z wide l n z _ _ _ hzz.out ((HR.out.below hB2).more hB2.size) HB.out HL.out (by omega) (hT.below hB2)).mono ?_
  rintro e w3 ⟨A3, c3, rfl, hl3, -, hr3, hb3⟩
  rw [ht.out] at hl3 hr3
  have ho3 := own_below ho2 hb3
  have hB3 := hB2.trans (hb3.mono hB2.size)
  clear ho2 hb3
  go_wp2_with (at_builtin; refine list_app rfl _ _ _ rfl _ i0 Tryd.underlying22 hi hz0 hz1 hz2 w.heap.size _ n l rfl ho3 _ _ _ _ t rfl hr3 hl3 (by omega) hB3.size ?_; intro A4 c4 w4 ho4 hg4; have hB4 := app_below hB3 (Nat.le_refl _) ho3 hg4; clear hg4 ho3 hB3 hr3 hB2)
  have hc4 := own_cap ho4
  have hr4 := Rd.own ho4
  have hl4 := Lib.hid (show (l ++ t).length = n + z by rw [List.length_append, HL.out, hl3])
  clear ho4 hl3
  refine (sum_any wide l n _ _ _ ((HR.out.below hB4).more hB4.size) HB.out HL.out (by omega) (hT.below hB4)).mono ?_
  rintro e w5 ⟨rfl, rfl⟩
  rw [hs.out]
  go_wp2_with fail
  refine (rsum_any wide l n _ _ _ ((HR.out.below hB4).more hB4.size) HB.out HL.out (by omega)).mono ?_
  rintro e w5 ⟨rfl, rfl⟩
  rw [hs.out]
  go_wp2_with fail
  refine (trailer_z wide l n z _ _ _ hzz.out ((HR.out.below hB4).more hB4.size) HB.out HL.out (by omega) (hT.below hB4)).mono ?_
  rintro e w5 ⟨A5, c5, rfl, hl5, -, hr5, hb5⟩
  rw [ht.out] at hl5 hr5
  have hr4' := (hr4.below hb5).more hb5.size
  have hB5 := hB4.trans (hb5.mono hB4.size)
  clear hb5 hr4 hB4
  go_wp2_with fail
  refine (rtrailer_z wide l n z _ _ _ hzz.out ((HR.out.below hB5).more hB5.size) HB.out HL.out (by omega)).mono ?_
  rintro e w6 ⟨A6, c6, rfl, hl6, -, hr6, hb6⟩
  rw [ht.out] at hl6 hr6
  have hr4 := (hr4'.below hb6).more hb6.size
  have hr5' := (hr5.below hb6).more hb6.size
  have hB6 := hB5.trans (hb6.mono hB5.size)
  clear hb6 hr4' hr5 hB5
  go_wp2_with fail
  refine (equal_yes t t z z _ _ _ _ _ hr5' hr6 hl5 hl6 (by omega) rfl).mono ?_
  rintro e w7 ⟨rfl, hb7⟩
  have hr4' := (hr4.below hb7).more hb7.size
  have hB7 := hB6.trans (hb7.mono hB6.size)
  clear hb7 hr4 hr5' hr6 hB6 hl5 hl6
  go_wp2_with fail
  refine (good_any wide l n _ _ _ ((HR.out.below hB7).more hB7.size) HB.out HL.out (by omega) hc (hT.below hB7)).mono ?_
  rintro e w8 ⟨rfl, hb8⟩
  rw [hg.out]
  have hr4 := (hr4'.below hb8).more hb8.size
  have hB8 := hB7.trans (hb8.mono hB7.size)
  clear hb8 hr4' hB7
  go_wp2_with fail
  refine (rgood_any wide l n _ _ _ ((HR.out.below hB8).more hB8.size) HB.out HL.out (by omega) hc).mono ?_
  rintro e w9 ⟨rfl, hb9⟩
  rw [hg.out]
  have hr4' := (hr4.below hb9).more hb9.size
  have hB9 := hB8.trans (hb9.mono hB8.size)
  clear hb9 hr4 hB8
  go_wp2_with fail
  refine (good_any wide (l ++ t) (n + z) _ _ _ hr4' hWb.out hl4.out (by omega) hc4 (hT.below hB9)).mono ?_
  rintro e w10 ⟨rfl, hb10⟩
  rw [HW.out]
  have hB10 := hB9.trans (hb10.mono hB9.size)
  clear hb10 hr4' hB9
  go_wp2_with fail
  refine (size_any wide _).mono ?_
  rintro e w11 ⟨rfl, rfl⟩
  rw [hzz.out]
  go_wp2_with fail
  refine (rsize_any wide _).mono ?_
  rintro e w11 ⟨rfl, rfl⟩
  rw [hzz.out]
  go_wp2_with fail
  go_ret
  exact ⟨rfl, hB10⟩

end Go.Proofs.YtinajpmhpbjaiaaDoor
