
/-
  The walk of the statement StuffJoin: it answers true for every map and every two lists of bytes, and writes nothing that was there. No condition.
-/
import Derived.Test.YtinajpmhpbjaiaaStfC
namespace Go.Proofs.Ytinajpmhpbjaiaa
open Go.RowKit

set_option maxHeartbeats 1000000 in
theorem sjoin_long (m : Nat) (A A2 : Option Addr) (n c n2 c2 : Nat) (w : World) (h : 400 < n) :
    Calls Try.prog 7 #[.int .u32 (m : Int), .slice A n c, .slice A2 n2 c2] w fun e w' => e = .returned (.bool true) ∧ Below w.heap.size w w' := by
  have h4 : (400 : Int) < (n : Int) := by omega
  go_enter Try.func7, Try.ntmps7
  go_wp2_with fail
  refine (speaks4_any _).mono ?_
  rintro e w1 ⟨rfl, hB1⟩
  go_wp2_with fail
  refine (speaks4_any _).mono ?_
  rintro e w2 ⟨rfl, hb2⟩
  go_wp2_with fail
  go_ret
  exact ⟨rfl, hB1.trans (hb2.mono hB1.size)⟩

set_option maxHeartbeats 1000000 in
theorem sjoin_long2 (m : Nat) (A A2 : Option Addr) (n c n2 c2 : Nat) (w : World) (h1 : n ≤ 400) (h : 400 < n2) :
    Calls Try.prog 7 #[.int .u32 (m : Int), .slice A n c, .slice A2 n2 c2] w fun e w' => e = .returned (.bool true) ∧ Below w.heap.size w w' := by
  have h4 : (400 : Int) < (n2 : Int) := by omega
  have h5 : ¬ (400 : Int) < (n : Int) := by omega
  go_enter Try.func7, Try.ntmps7
  go_wp2_with fail
  refine (speaks4_any _).mono ?_
  rintro e w1 ⟨rfl, hB1⟩
  go_wp2_with fail
  refine (speaks4_any _).mono ?_
  rintro e w2 ⟨rfl, hb2⟩
  go_wp2_with fail
  go_ret
  exact ⟨rfl, hB1.trans (hb2.mono hB1.size)⟩

/-- A list that lay reads the same later. -/
theorem Rd.on {w w' : World} {A : Option Addr} {l : List Nat} (h : Rd w w.heap.size A l) (hb : Below w.heap.size w w') : Rd w' w'.heap.size A l := (h.below hb).more hb.size

set_option maxHeartbeats 4000000 in
theorem sjoin_walk (m : Nat) (hm : m < 4294967296) (l l2 : List Nat) (A A2 : Option Addr) (n c n2 c2 : Nat) (w : World) (hl : l.length = n) (hb : By l) (h : Rd w w.heap.size A l) (hl2 : l2.length = n2) (hb2 : By l2) (h2 : Rd w w.heap.size A2 l2) (h4 : n ≤ 400) (h5 : n2 ≤ 400) :
    Calls Try.prog 7 #[.int .u32 (m : Int), .slice A n c, .slice A2 n2 c2] w fun e w' => e = .returned (.bool true) ∧ Below w.heap.size w w' := by
  obtain ⟨i0, hi, hz0, hz1, hz2⟩ := info_parts byte_info
  have hs1 : (esc m l).length ≤ 2 * n := by rw [← hl]; exact esc_le m l
  have hs2 : (esc m l2).length ≤ 2 * n2 := by rw [← hl2]; exact esc_le m l2
  have HL := Lib.hid hl
  have HL2 := Lib.hid hl2
  have HR := Lib.hid h
  have HR2 := Lib.hid h2
  have HBB := hb.app hb2
  have HLL := Lib.hid (show (l ++ l2).length = n + n2 by rw [List.length_append, hl, hl2])
  have HE := Lib.hid (esc_app m l l2)
  have HJ := Lib.hid (fun h0 => unst_join (m := m) l l2 h0)
  clear hl hl2 h h2
  go_enter Try.func7, Try.ntmps7
  go_wp2_with fail
  refine (speaks4_any _).mono ?_
  rintro e w1 ⟨rfl, hB1⟩
  have hsz1 := hB1.size
  have hown0 : (w1.alloc (.cells #[] 5)).ownsRow w.heap.size 5 1 (.slice (some ⟨w1.heap.size, 0, none⟩) 0 0) 0 (bvs []) := World.ownsRow_lit w1 #[] 0 hsz1 (by unfold maxLen; omega) rfl
  have hB0 := hB1.alloc hsz1 (.cells #[] 5)
  go_wp2_with (first
    | (at_builtin; have _g := hown0; clear _g; refine list_app rfl _ _ _ rfl _ i0 Try.underlying23 hi hz0 hz1 hz2 w.heap.size _ _ [] rfl hown0 _ _ _ _ l rfl ((HR.out.below hB0).more hB0.size) HL.out (by omega) hB0.size ?_; intro A4 c4 w4 ho4 hg4; rw [List.nil_append, Nat.zero_add] at ho4; rw [Nat.zero_add]; have hB4 := app_below hB0 (Nat.le_refl _) hown0 hg4; clear hg4 hown0)
    | (at_builtin; refine list_app rfl _ _ _ rfl _ i0 Try.underlying23 hi hz0 hz1 hz2 w.heap.size _ n l rfl ho4 _ _ _ _ l2 rfl ((HR2.out.below hB4).more hB4.size) HL2.out (by omega) hB4.size ?_; intro A5 c5 w5 ho5 hg5; have hB5 := app_below hB4 (Nat.le_refl _) ho4 hg5; clear hg5 ho4 hB4))
  have hr5 := Rd.own ho5
  clear ho5 hB0 hB1 hsz1
  refine (stuff_any m hm (l ++ l2) (n + n2) _ _ w5 hr5 HBB HLL.out (by omega)).mono ?_
  rintro e w6 ⟨A6, c6, k6, rfl, hl6, -, hr6, hb6⟩
  have hB6 := hB5.trans (hb6.mono hB5.size)
  have HR5 := Lib.hid (hr5.on hb6)
  have HR6 := Lib.hid hr6
  have HL6 := Lib.hid hl6
  have hsz6 := hB6.size
  clear hl6 hb6 hr5 hr6
  go_wp2_with fail
  refine (stuff_any m hm l n _ _ w6 ((HR.out.below hB6).more hB6.size) hb HL.out (by omega)).mono ?_
  rintro e w7 ⟨A7, c7, k7, rfl, hl7, ho7, -, hb7⟩
  have hk7 : k7 ≤ 2 * n := by rw [← hl7]; exact hs1
  have HL7 := Lib.hid hl7
  have hB7 := hB6.trans (hb7.mono hB6.size)
  clear hl7
  go_wp2_with fail
  refine (stuff_any m hm l2 n2 _ _ w7 ((HR2.out.below hB7).more hB7.size) hb2 HL2.out (by omega)).mono ?_
  rintro e w8 ⟨A8, c8, k8, rfl, hl8, -, hr8, hb8⟩
  have ho8 := own_below ho7 hb8
  have hb68 := hb7.trans (hb8.mono hb7.size)
  have hk8 : k8 ≤ 2 * n2 := by rw [← hl8]; exact hs2
  have HL8 := Lib.hid hl8
  clear hl8 hb8 ho7 hb7 hB7
  go_wp2_with (at_builtin; refine list_app rfl _ _ _ rfl _ i0 Try.underlying23 hi hz0 hz1 hz2 w6.heap.size _ k7 (esc m l) rfl ho8 _ _ _ _ (esc m l2) rfl hr8 HL8.out (by omega) hb68.size ?_; intro A9 c9 w9 ho9 hg9; have hb69 := app_below hb68 (Nat.le_refl _) ho8 hg9; clear hg9 ho8 hb68)
  have hr9 := Rd.own ho9
  rw [← HE.out] at hr9
  have HL9 := Lib.hid (show (esc m (l ++ l2)).length = k7 + k8 by rw [HE.out, List.length_append, HL7.out, HL8.out])
  have hB9 := hB6.trans (hb69.mono hsz6)
  clear ho9 hr8
  refine (equal_yes _ _ k6 (k7 + k8) _ _ _ _ w9 (HR6.out.on hb69) hr9 HL6.out HL9.out (by rw [← HL6.out, HL9.out]; omega) rfl).mono ?_
  rintro e w10 ⟨rfl, hb10⟩
  have hB10 := hB9.trans (hb10.mono hB9.size)
  have hb610 := hb69.trans (hb10.mono hb69.size)
  have HR10 := Lib.hid (HR5.out.on hb610)
  clear hb10 hb69 hr9 hB9 hb610 hB6 hsz6
  go_wp2_with fail
  refine (unst_any m hm l n _ _ w10 ((HR.out.below hB10).more hB10.size) hb HL.out (by omega)).mono ?_
  rintro e w11 ⟨A11, c11, k11, rfl, hk11, hl11, hr11, hb11⟩
  have hB11 := hB10.trans (hb11.mono hB10.size)
  have HR11 := Lib.hid (HR10.out.on hb11)
  have HL11 := Lib.hid hl11
  clear hl11 hb11
  obtain ⟨v1, hv1⟩ : ∃ v, Hid ((unst m l).2 = v) := ⟨_, Lib.hid rfl⟩
  rw [hv1.out]
  go_wp2_with fail
  refine (unst_any m hm l2 n2 _ _ w11 ((HR2.out.below hB11).more hB11.size) hb2 HL2.out (by omega)).mono ?_
  rintro e w12 ⟨A12, c12, k12, rfl, hk12, hl12, hr12, hb12⟩
  have hB12 := hB11.trans (hb12.mono hB11.size)
  have HR12 := Lib.hid (HR11.out.on hb12)
  have hr112 := hr11.on hb12
  have HL12 := Lib.hid hl12
  clear hl12 hb12 hr11
  obtain ⟨v2, hv2⟩ : ∃ v, Hid ((unst m l2).2 = v) := ⟨_, Lib.hid rfl⟩
  rw [hv2.out]
  go_wp2_with fail
  refine (unst_any m hm (l ++ l2) (n + n2) _ _ w12 HR12.out HBB HLL.out (by omega)).mono ?_
  rintro e w13 ⟨A13, c13, k13, rfl, hk13, hl13, hr13, hb13⟩
  have hB13 := hB12.trans (hb13.mono hB12.size)
  have hr113 := hr112.on hb13
  have hr123 := hr12.on hb13
  have HL13 := Lib.hid hl13
  clear hl13 hb13 hr112 hr12
  obtain ⟨v3, hv3⟩ : ∃ v, Hid ((unst m (l ++ l2)).2 = v) := ⟨_, Lib.hid rfl⟩
  rw [hv3.out]
  by_cases h0 : v1 = 0
  · subst h0
    have hj := HJ.out hv1.out
    rw [hv3.out, hv2.out] at hj
    obtain ⟨hj1, hj2⟩ := hj
    subst hj1
    by_cases h6 : v3 = 0
    · subst h6
      have HX := Lib.hid (hj2 rfl)
      clear hj2
      have hsz13 := hB13.size
      have hown14 : (w13.alloc (.cells #[] 5)).ownsRow w13.heap.size 5 1 (.slice (some ⟨w13.heap.size, 0, none⟩) 0 0) 0 (bvs []) := World.ownsRow_lit w13 #[] 0 (Nat.le_refl _) (by unfold maxLen; omega) rfl
      have hb14 : Below w13.heap.size w13 (w13.alloc (.cells #[] 5)) := (Below.refl _ _).alloc (Nat.le_refl _) _
      have HR113 := Lib.hid hr113
      have HR123 := Lib.hid hr123
      have HR13 := Lib.hid hr13
      clear hr113 hr123 hr13
      go_wp2_with (first
        | (at_builtin; have _g := hown14; clear _g; refine list_app_w rfl _ _ _ rfl _ i0 Try.underlying23 hi hz0 hz1 hz2 w13.heap.size _ _ [] rfl hown14 _ _ _ _ (unst m l).1 rfl ((HR113.out.below hb14).more hb14.size) HL11.out (by omega) hb14.size ?_; intro A15 c15 w15 ho15 hg15; rw [List.nil_append, Nat.zero_add] at ho15; rw [Nat.zero_add]; have hb15 := app_below hb14 (Nat.le_refl _) hown14 hg15; clear hg15 hown14)
        | (at_builtin; refine list_app_w rfl _ _ _ rfl _ i0 Try.underlying23 hi hz0 hz1 hz2 w13.heap.size _ k11 (unst m l).1 rfl ho15 _ _ _ _ (unst m l2).1 rfl ((HR123.out.below hb15).more hb15.size) HL12.out (by omega) hb15.size ?_; intro A16 c16 w16 ho16 hg16; have hb16 := app_below hb15 (Nat.le_refl _) ho15 hg16; clear hg16 ho15 hb15))
      have hr16 := Rd.own ho16
      have HL16 := Lib.hid (show ((unst m l).1 ++ (unst m l2).1).length = k11 + k12 by rw [List.length_append, HL11.out, HL12.out])
      have hB16 := hB13.trans (hb16.mono hsz13)
      refine (equal_yes _ _ k13 (k11 + k12) _ _ _ _ w16 (HR13.out.on hb16) hr16 HL13.out HL16.out (by omega) HX.out).mono ?_
      rintro e w17 ⟨rfl, hb17⟩
      have hB17 := hB16.trans (hb17.mono hB16.size)
      clear hb17 hB16 hb16
      go_wp2_with fail
      go_ret
      exact ⟨rfl, hB17⟩
    · have e6 : ((v3 : Int) != 0) = true := by rw [bne_iff_ne]; omega
      have e7 : ((v3 : Int) == (v3 : Int)) = true := by simp
      clear hj2
      go_wp2_with fail
      go_ret
      exact ⟨rfl, hB13⟩
  · have e0 : ((v1 : Int) != 0) = true := by rw [bne_iff_ne]; omega
    go_wp2_with fail
    go_ret
    exact ⟨rfl, hB13⟩

end Go.Proofs.Ytinajpmhpbjaiaa
