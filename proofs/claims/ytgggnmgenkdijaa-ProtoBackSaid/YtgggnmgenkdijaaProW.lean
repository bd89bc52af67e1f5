
/-
  The walks of the statements ProtoTells and ProtoFirst: each answers true for every input, and writes nothing that was there. No condition.
-/
import Derived.Test.YtgggnmgenkdijaaPro
namespace Go.Proofs.Ytgggnmgenkdijaa
open Go.RowKit

set_option maxHeartbeats 1000000 in
theorem speaks9_any (w : World) : Calls Try.prog 6 #[] w fun e w' => e = .returned (.bool true) ∧ Below w.heap.size w w' := by
  go_enter Try.func6, Try.ntmps6
  go_wp2_with fail
  refine (put_any 33 (by omega) true _).mono ?_
  rintro e w1 ⟨A1, c1, n1, rfl, hl1, -, hr1, hb1⟩
  obtain rfl : n1 = 1 := hl1.symm
  go_wp2_with fail
  refine (equal_yes [33] [33] 1 1 _ _ _ _ _ ((hr1.alloc (Nat.le_refl _) _).more (by simp)) (Rd.lit_ w1 [33]) rfl rfl (by omega) rfl).mono ?_
  rintro e w2 ⟨rfl, hb2⟩
  have hB2 := (hb1.alloc hb1.size _).trans (hb2.mono (B' := w.heap.size) (by have := hb1.size; simp; omega))
  clear hb2 hb1 hr1 hl1
  go_wp2_with fail
  refine (put_any 49185 (by omega) true _).mono ?_
  rintro e w3 ⟨A3, c3, n3, rfl, hl3, -, hr3, hb3⟩
  obtain rfl : n3 = 2 := hl3.symm
  have hB3 := hB2.trans (hb3.mono hB2.size)
  clear hb3 hB2 hl3
  go_wp2_with fail
  refine (equal_yes [192, 33] [192, 33] 2 2 _ _ _ _ _ ((hr3.alloc (Nat.le_refl _) _).more (by simp)) (Rd.lit_ w3 [192, 33]) rfl rfl (by omega) rfl).mono ?_
  rintro e w4 ⟨rfl, hb4⟩
  have hB4 := (hB3.alloc hB3.size _).trans (hb4.mono (B' := w.heap.size) (by have := hB3.size; simp; omega))
  clear hb4 hB3 hr3
  go_wp2_with fail
  refine (right_v 33 true (by omega) (by decide) _).mono ?_
  rintro e w5 ⟨rfl, rfl⟩
  go_wp2_with fail
  go_ret
  exact ⟨rfl, hB4⟩

set_option maxHeartbeats 1000000 in
theorem first_walk (p : Nat) (hp : p < 65536) (s : Bool) (w : World) :
    Calls Try.prog 5 #[.int .u16 (p : Int), .bool s] w fun e w' => e = .returned (.bool true) ∧ Below w.heap.size w w' := by
  go_enter Try.func5, Try.ntmps5
  go_wp2_with fail
  refine (speaks9_any _).mono ?_
  rintro e w1 ⟨rfl, hB1⟩
  go_wp2_with fail
  refine (put_any p hp s _).mono ?_
  rintro e w2 ⟨A2, c2, n2, rfl, hl2, -, hr2, hb2⟩
  have hB2 := hB1.trans (hb2.mono hB1.size)
  clear hb2
  go_wp2_with fail
  refine (rright_any p hp _).mono ?_
  rintro e w3 ⟨rfl, rfl⟩
  by_cases hR : rightB p = true
  case neg =>
    have hR' : rightB p = false := by simpa using hR
    rw [hR']
    go_wp2_with fail
    refine (right_v p false hp hR' _).mono ?_
    rintro e w3 ⟨rfl, rfl⟩
    go_wp2_with fail
    go_ret
    exact ⟨rfl, hB2⟩
  have hh : ∃ x t, putB p s = x :: t ∧ x ≠ 255 := by
    have h := hR
    simp [rightB] at h
    unfold putB
    split
    · exact ⟨_, _, rfl, by omega⟩
    · exact ⟨_, _, rfl, by omega⟩
  obtain ⟨x, t, hpx, hx⟩ := hh
  rw [hpx] at hr2 hl2
  obtain ⟨b, off, rfl, h0⟩ := hr2.head
  have hn : (0 : Int) < n2 := by rw [← hl2]; simp
  have hx' : ((x : Int) != 255) = true := by rw [bne_iff_ne]; omega
  rw [hR]
  clear hl2 hr2
  go_wp2_with fail
  refine (right_v p true hp hR _).mono ?_
  rintro e w' ⟨rfl, rfl⟩
  go_wp2_with fail
  refine (right_v 49185 true (by omega) (by decide) _).mono ?_
  rintro e w' ⟨rfl, rfl⟩
  go_wp2_with fail
  refine (right_v 65283 false (by omega) (by decide) _).mono ?_
  rintro e w' ⟨rfl, rfl⟩
  go_wp2_with fail
  go_ret
  exact ⟨rfl, hB2⟩

set_option maxHeartbeats 1000000 in
theorem tells_long (p : Int) (s : Bool) (A : Option Addr) (n c : Nat) (w : World) (h : 100 < n) :
    Calls Try.prog 3 #[.int .u16 p, .slice A n c, .bool s] w fun e w' => e = .returned (.bool true) ∧ Below w.heap.size w w' := by
  have h4 : (100 : Int) < (n : Int) := by omega
  go_enter Try.func3, Try.ntmps3
  go_wp2_with fail
  refine (speaks9_any _).mono ?_
  rintro e w1 ⟨rfl, hB1⟩
  go_wp2_with fail
  refine (speaks9_any _).mono ?_
  rintro e w2 ⟨rfl, hb2⟩
  go_wp2_with fail
  go_ret
  exact ⟨rfl, hB1.trans (hb2.mono hB1.size)⟩

set_option maxHeartbeats 1000000 in
theorem tells_walk (p : Nat) (hp : p < 65536) (s : Bool) (l : List Nat) (A : Option Addr) (n c : Nat) (w : World) (hl : l.length = n) (hb : By l) (h : Rd w w.heap.size A l) (h4 : n ≤ 100) :
    Calls Try.prog 3 #[.int .u16 (p : Int), .slice A n c, .bool s] w fun e w' => e = .returned (.bool true) ∧ Below w.heap.size w w' := by
  have HL := Lib.hid hl
  have HB := Lib.hid hb
  have HR := Lib.hid h
  clear hl hb h
  obtain ⟨g1, g2, g3, hg⟩ : ∃ g1 g2 g3, Hid (getB l s = (g1, g2, g3)) := ⟨_, _, _, Lib.hid rfl⟩
  have hg1 : g1 < 65536 := by have := getB_lt HB.out s; rw [hg.out] at this; exact this
  obtain ⟨q, hq⟩ : ∃ q, Hid (rightB p = q) := ⟨_, Lib.hid rfl⟩
  obtain ⟨u, hu⟩ : ∃ u, Hid (decide (p < 256) = u) := ⟨_, Lib.hid rfl⟩
  obtain ⟨z, hz⟩ : ∃ z, Hid (p / 16384 = z) := ⟨_, Lib.hid rfl⟩
  have eu : ((p : Int) / 256 == 0) = u := by rw [← hu.out, Bool.eq_iff_iff]; simp; omega
  have ez : (p : Int) / 16384 = (z : Int) := by rw [← hz.out]; simp
  have qq : (q == q) = true := by simp
  have uu : (u == u) = true := by simp
  have zz : ((z : Int) == (z : Int)) = true := by simp
  go_enter Try.func3, Try.ntmps3
  go_wp2_with fail
  refine (speaks9_any _).mono ?_
  rintro e w1 ⟨rfl, hB1⟩
  go_wp2_with fail
  refine (get_b l s g1 g2 g3 hg.out A n c _ ((HR.out.below hB1).more hB1.size) HB.out HL.out).mono ?_
  rintro e w2 ⟨rfl, hb2⟩
  have hB2 := hB1.trans (hb2.mono hB1.size)
  clear hb2
  go_wp2_with fail
  refine (rget_b l s g1 g2 g3 hg.out A n c _ ((HR.out.below hB2).more hB2.size) HB.out HL.out).mono ?_
  rintro e w3 ⟨rfl, hb3⟩
  have hB3 := hB2.trans (hb3.mono hB2.size)
  clear hb3
  have e1 : ((g1 : Int) != (g1 : Int)) = false := by simp
  have e2 : ((g2 : Int) != (g2 : Int)) = false := by simp
  have e3 : ((g3 : Int) != (g3 : Int)) = false := by simp
  go_wp2_with fail
  refine (right_v p q hp hq.out _).mono ?_
  rintro e w4 ⟨rfl, rfl⟩
  go_wp2_with fail
  refine (rright_v p q hp hq.out _).mono ?_
  rintro e w4 ⟨rfl, rfl⟩
  go_wp2_with fail
  refine (short_v p u hp hu.out _).mono ?_
  rintro e w4 ⟨rfl, rfl⟩
  go_wp2_with fail
  refine (group_v p z hp hz.out _).mono ?_
  rintro e w4 ⟨rfl, rfl⟩
  go_wp2_with fail
  refine (put_any p hp s _).mono ?_
  rintro e w5 ⟨A5, c5, n5, rfl, hl5, -, hr5, hb5⟩
  have hB5 := hB3.trans (hb5.mono hB3.size)
  have hn5 : n5 ≤ 2 := by rw [← hl5]; unfold putB; split <;> simp
  have HL5 := Lib.hid hl5
  clear hl5 hb5
  go_wp2_with fail
  refine (rput_any p hp s _).mono ?_
  rintro e w6 ⟨A6, c6, n6, rfl, hl6, -, hr6, hb6⟩
  have hB6 := hB5.trans (hb6.mono hB5.size)
  have hr56 := (hr5.below hb6).more hb6.size
  have HL6 := Lib.hid hl6
  clear hl6 hb6 hr5
  go_wp2_with fail
  refine (equal_yes _ _ n5 n6 _ _ _ _ _ hr56 hr6 HL5.out HL6.out (by omega) rfl).mono ?_
  rintro e w7 ⟨rfl, hb7⟩
  have hB7 := hB6.trans (hb7.mono hB6.size)
  clear hb7
  go_wp2_with fail
  go_ret
  exact ⟨rfl, hB7⟩

end Go.Proofs.Ytgggnmgenkdijaa
