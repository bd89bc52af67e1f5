
/-
  The walks of the statements StuffTells and StuffLeast: each answers true for every map and list of bytes, and writes nothing that was there. No condition.
-/
import Derived.Test.YtinajpmhpbjaiaaStfC
namespace Go.Proofs.Ytinajpmhpbjaiaa
open Go.RowKit

set_option maxHeartbeats 1000000 in
theorem tells_long (m : Nat) (A : Option Addr) (n c : Nat) (w : World) (h : 400 < n) :
    Calls Try.prog 3 #[.int .u32 (m : Int), .slice A n c] w fun e w' => e = .returned (.bool true) ∧ Below w.heap.size w w' := by
  have h4 : (400 : Int) < (n : Int) := by omega
  go_enter Try.func3, Try.ntmps3
  go_wp2_with fail
  refine (speaks4_any _).mono ?_
  rintro e w1 ⟨rfl, hB1⟩
  go_wp2_with fail
  refine (speaks4_any _).mono ?_
  rintro e w2 ⟨rfl, hb2⟩
  go_wp2_with fail
  go_ret
  exact ⟨rfl, hB1.trans (hb2.mono hB1.size)⟩

set_option maxHeartbeats 2000000 in
theorem tells_walk (m : Nat) (hm : m < 4294967296) (l : List Nat) (A : Option Addr) (n c : Nat) (w : World) (hl : l.length = n) (hb : By l) (h : Rd w w.heap.size A l) (h4 : n ≤ 400) :
    Calls Try.prog 3 #[.int .u32 (m : Int), .slice A n c] w fun e w' => e = .returned (.bool true) ∧ Below w.heap.size w w' := by
  have hes : (esc m l).length ≤ 2 * n := by rw [← hl]; exact esc_le m l
  have HL := Lib.hid hl
  have HR := Lib.hid h
  clear hl h
  go_enter Try.func3, Try.ntmps3
  go_wp2_with fail
  refine (speaks4_any _).mono ?_
  rintro e w1 ⟨rfl, hB1⟩
  go_wp2_with fail
  refine (unst_any m hm l n A c w1 ((HR.out.below hB1).more hB1.size) hb HL.out (by omega)).mono ?_
  rintro e w2 ⟨A2, c2, k2, rfl, hk2, hl2, hr2, hb2⟩
  have HL2 := Lib.hid hl2
  have hB2 := hB1.trans (hb2.mono hB1.size)
  clear hl2 hb2
  go_wp2_with fail
  refine (runst_any m hm l n A c w2 ((HR.out.below hB2).more hB2.size) hb HL.out (by omega)).mono ?_
  rintro e w3 ⟨A3, c3, k3, rfl, hk3, hl3, hr3, hb3⟩
  have HL3 := Lib.hid hl3
  have hB3 := hB2.trans (hb3.mono hB2.size)
  have hr23 := (hr2.below hb3).more hb3.size
  clear hl3 hb3 hr2
  obtain ⟨v, hv⟩ : ∃ v, Hid (v = (unst m l).2) := ⟨_, Lib.hid rfl⟩
  rw [← hv.out]
  go_wp2_with fail
  refine (stuff_any m hm l n A c w3 ((HR.out.below hB3).more hB3.size) hb HL.out (by omega)).mono ?_
  rintro e w4 ⟨A4, c4, k4, rfl, hl4, -, hr4, hb4⟩
  have HL4 := Lib.hid hl4
  have hB4 := hB3.trans (hb4.mono hB3.size)
  have hr24 := (hr23.below hb4).more hb4.size
  have hr34 := (hr3.below hb4).more hb4.size
  have hk4 : k4 ≤ 2 * n := by rw [← hl4]; exact hes
  clear hl4 hb4 hr23 hr3
  go_wp2_with fail
  refine (rstuff_any m hm l n A c w4 ((HR.out.below hB4).more hB4.size) hb HL.out (by omega)).mono ?_
  rintro e w5 ⟨A5, c5, k5, rfl, hl5, -, hr5, hb5⟩
  have HL5 := Lib.hid hl5
  have hB5 := hB4.trans (hb5.mono hB4.size)
  have hr25 := (hr24.below hb5).more hb5.size
  have hr35 := (hr34.below hb5).more hb5.size
  have hr45 := (hr4.below hb5).more hb5.size
  clear hl5 hb5 hr24 hr34 hr4
  go_wp2_with fail
  refine (equal_yes _ _ k4 k5 _ _ _ _ w5 hr45 hr5 HL4.out HL5.out (by omega) rfl).mono ?_
  rintro e w6 ⟨rfl, hb6⟩
  have hB6 := hB5.trans (hb6.mono hB5.size)
  have hr26 := (hr25.below hb6).more hb6.size
  have hr36 := (hr35.below hb6).more hb6.size
  clear hb6 hr25 hr35 hr45 hr5
  go_wp2_with fail
  refine (size_any m hm l n A c w6 ((HR.out.below hB6).more hB6.size) hb HL.out (by omega)).mono ?_
  rintro e w7 ⟨rfl, rfl⟩
  rw [HL4.out]
  go_wp2_with fail
  refine (rstuff_any m hm l n A c w6 ((HR.out.below hB6).more hB6.size) hb HL.out (by omega)).mono ?_
  rintro e w8 ⟨A8, c8, k8, rfl, hl8, -, -, hb8⟩
  have hB8 := hB6.trans (hb8.mono hB6.size)
  have hr28 := (hr26.below hb8).more hb8.size
  have hr38 := (hr36.below hb8).more hb8.size
  obtain rfl : k4 = k8 := by rw [← hl8, HL4.out]
  clear hl8 hb8 hr26 hr36
  have ek : ((k4 : Int) == (k4 : Int)) = true := by simp
  have ev : ((v : Int) == (v : Int)) = true := by simp
  go_wp2_with fail
  refine (equal_yes _ _ k2 k3 _ _ _ _ w8 hr28 hr38 HL2.out HL3.out (by omega) rfl).mono ?_
  rintro e w9 ⟨rfl, hb9⟩
  have hB9 := hB8.trans (hb9.mono hB8.size)
  clear hb9
  go_wp2_with fail
  go_ret
  exact ⟨rfl, hB9⟩

set_option maxHeartbeats 1000000 in
theorem least_long (m : Nat) (A : Option Addr) (n c : Nat) (w : World) (h : 400 < n) :
    Calls Try.prog 5 #[.int .u32 (m : Int), .slice A n c] w fun e w' => e = .returned (.bool true) ∧ Below w.heap.size w w' := by
  have h4 : (400 : Int) < (n : Int) := by omega
  go_enter Try.func5, Try.ntmps5
  go_wp2_with fail
  refine (speaks4_any _).mono ?_
  rintro e w1 ⟨rfl, hB1⟩
  go_wp2_with fail
  refine (speaks4_any _).mono ?_
  rintro e w2 ⟨rfl, hb2⟩
  go_wp2_with fail
  go_ret
  exact ⟨rfl, hB1.trans (hb2.mono hB1.size)⟩

set_option maxHeartbeats 2000000 in
theorem least_walk (m : Nat) (hm : m < 4294967296) (l : List Nat) (A : Option Addr) (n c : Nat) (w : World) (hl : l.length = n) (hb : By l) (h : Rd w w.heap.size A l) (h4 : n ≤ 400) :
    Calls Try.prog 5 #[.int .u32 (m : Int), .slice A n c] w fun e w' => e = .returned (.bool true) ∧ Below w.heap.size w w' := by
  have hmin := fun h0 => unst_least (m := m) (l := l) h0
  have herr := unst_err m l
  have HBy := unst_by (m := m) hb
  have HL := Lib.hid hl
  have HR := Lib.hid h
  clear hl h
  go_enter Try.func5, Try.ntmps5
  go_wp2_with fail
  refine (speaks4_any _).mono ?_
  rintro e w1 ⟨rfl, hB1⟩
  go_wp2_with fail
  refine (unst_any m hm l n A c w1 ((HR.out.below hB1).more hB1.size) hb HL.out (by omega)).mono ?_
  rintro e w2 ⟨A2, c2, k2, rfl, hk2, hl2, hr2, hb2⟩
  have hB2 := hB1.trans (hb2.mono hB1.size)
  clear hb2
  by_cases h0 : (unst m l).2 = 0
  · have hmn : (esc m (unst m l).1).length ≤ n := by have := hmin h0; rw [HL.out] at this; exact this
    have HL2 := Lib.hid hl2
    rw [h0]
    clear hl2 hmin herr h0
    obtain ⟨x, hx⟩ : ∃ x, Hid ((unst m l).1 = x) := ⟨_, Lib.hid rfl⟩
    rw [hx.out] at HL2 HBy hmn hr2
    go_wp2_with fail
    refine (stuff_any m hm x k2 A2 c2 w2 hr2 HBy HL2.out (by omega)).mono ?_
    rintro e w3 ⟨A3, c3, k3, rfl, hl3, -, hr3, hb3⟩
    have hB3 := hB2.trans (hb3.mono hB2.size)
    have hk3 : k3 ≤ n := by rw [← hl3]; exact hmn
    have hr23 := (hr2.below hb3).more hb3.size
    clear hl3 hb3 hr2 hr3
    go_wp2_with fail
    refine (size_any m hm x k2 A2 c2 w3 hr23 HBy HL2.out (by omega)).mono ?_
    rintro e w4 ⟨rfl, rfl⟩
    have hmi : ((esc m x).length : Int) ≤ n := by omega
    have hmd : decide (((esc m x).length : Int) ≤ n) = true := by simp; omega
    generalize (esc m x).length = z at hmd hmi
    go_wp2_with fail
    go_ret
    exact ⟨rfl, hB3⟩
  · have h1 : (unst m l).1 = [] := by
      rcases herr with h2 | h2
      · exact absurd h2 h0
      · exact h2
    rw [h1] at hl2
    have hk0 : k2 = 0 := hl2.symm
    obtain ⟨v, hv⟩ : ∃ v, Hid (v = (unst m l).2) := ⟨_, Lib.hid rfl⟩
    rw [← hv.out] at h0 ⊢
    have e0 : ((v : Int) != 0) = true := by rw [bne_iff_ne]; omega
    subst hk0
    clear hl2 hmin herr h1 h0
    go_wp2_with fail
    go_ret
    exact ⟨rfl, hB2⟩

end Go.Proofs.Ytinajpmhpbjaiaa
