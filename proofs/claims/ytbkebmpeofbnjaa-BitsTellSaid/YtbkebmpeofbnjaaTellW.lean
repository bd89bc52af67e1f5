/-
  The walk of the statement BitsTell: it answers true for every list of bytes, and writes nothing that was there. No condition.
-/
import Derived.Test.YtbkebmpeofbnjaaBitM
namespace Go.Proofs.Ytbkebmpeofbnjaa
open Go.RowKit

set_option maxHeartbeats 1000000 in
theorem tell_long (A : Option Addr) (n c : Nat) (w : World) (h : 400 < n) :
    Calls Try.prog 3 #[.slice A n c] w fun e w' => e = .returned (.bool true) ∧ Below w.heap.size w w' := by
  have h4 : (400 : Int) < (n : Int) := by omega
  go_enter Try.func3, Try.ntmps3
  go_wp2_with fail
  refine (speaks_any _).mono ?_
  rintro e w1 ⟨rfl, hB1⟩
  go_wp2_with fail
  refine (speaks_any _).mono ?_
  rintro e w2 ⟨rfl, hb2⟩
  go_wp2_with fail
  go_ret
  exact ⟨rfl, hB1.trans (hb2.mono hB1.size)⟩

theorem topK_le (l : List Nat) (k : Nat) (h : k ≤ l.length) : topK l k ≤ l.length := by
  have := topK_best l k h
  have := best_le l
  omega

theorem max_nat (a b : Nat) : Value.int .i64 (if a < b then (b : Int) else (a : Int)) = .int .i64 ((max a b : Nat) : Int) := by
  congr 1
  split <;> omega

/-- The octets of a list of bits, or none. -/
def octs (l : List Nat) : List Nat := if l.length % 8 = 0 then toO l else []
theorem octets_all (l : List Nat) (n : Nat) (A : Option Addr) (c : Nat) (w : World) (h : Rd w w.heap.size A l) (hb : By l) (hn : l.length = n) (hl : n ≤ 1099511627776) :
    Calls Try.prog 7 #[.slice A n c] w fun e w' => ∃ A' q c', e = .returned (.tuple #[.slice A' q c', .bool (decide (n % 8 = 0))]) ∧ (octs l).length = q ∧ q ≤ n ∧ Rd w' w'.heap.size A' (octs l) ∧ Below w.heap.size w w' := by
  by_cases hq : n % 8 = 0
  · exact (octets_c l n (n / 8) A c w h hb hn hl (by omega)).mono fun _ _ ⟨A', c', he, h1, _, h2, h3⟩ => ⟨A', n / 8, c', by rw [he]; simp [hq], by rw [octs, if_pos (by rw [hn]; exact hq)]; exact h1, by omega, by rw [octs, if_pos (by rw [hn]; exact hq)]; exact h2, h3⟩
  · exact (octets_no l n A c w hn hl hq).mono fun _ _ ⟨he, hw⟩ => ⟨none, 0, 0, by rw [he]; simp [hq], by rw [octs, if_neg (by rw [hn]; exact hq)]; rfl, by omega, by rw [octs, if_neg (by rw [hn]; exact hq)]; exact Rd.nil, by rw [← hw]; exact Below.refl _ _⟩
theorem roctets_all (l : List Nat) (n : Nat) (A : Option Addr) (c : Nat) (w : World) (h : Rd w w.heap.size A l) (hb : By l) (hn : l.length = n) (hl : n ≤ 1099511627776) :
    Calls Try.prog 8 #[.slice A n c] w fun e w' => ∃ A' q c', e = .returned (.tuple #[.slice A' q c', .bool (decide (n % 8 = 0))]) ∧ (octs l).length = q ∧ q ≤ n ∧ Rd w' w'.heap.size A' (octs l) ∧ Below w.heap.size w w' := by
  by_cases hq : n % 8 = 0
  · exact (roctets_c l n (n / 8) A c w h hb hn hl (by omega)).mono fun _ _ ⟨A', c', he, h1, _, h2, h3⟩ => ⟨A', n / 8, c', by rw [he]; simp [hq], by rw [octs, if_pos (by rw [hn]; exact hq)]; exact h1, by omega, by rw [octs, if_pos (by rw [hn]; exact hq)]; exact h2, h3⟩
  · exact (roctets_no l n A c w hn hl hq).mono fun _ _ ⟨he, hw⟩ => ⟨none, 0, 0, by rw [he]; simp [hq], by rw [octs, if_neg (by rw [hn]; exact hq)]; rfl, by omega, by rw [octs, if_neg (by rw [hn]; exact hq)]; exact Rd.nil, by rw [← hw]; exact Below.refl _ _⟩

set_option maxHeartbeats 1000000 in
theorem tell_walk (l : List Nat) (A : Option Addr) (n c : Nat) (w : World) (hl : l.length = n) (hb : By l) (h : Rd w w.heap.size A l) (h4 : n ≤ 400) :
    Calls Try.prog 3 #[.slice A n c] w fun e w' => e = .returned (.bool true) ∧ Below w.heap.size w w' := by
  have HL := Lib.hid hl
  have HB := Lib.hid hb
  have HR := Lib.hid h
  clear hl hb h
  obtain ⟨t, ht⟩ : ∃ t, Hid (decide (n % 8 = 0) = t) := ⟨_, Lib.hid rfl⟩
  go_enter Try.func3, Try.ntmps3
  go_wp2_with fail
  refine (speaks_any _).mono ?_
  rintro e w1 ⟨rfl, hB1⟩
  go_wp2_with fail
  refine (octets_all l n _ _ _ ((HR.out.below hB1).more hB1.size) HB.out HL.out (by omega)).mono ?_
  rintro e w2 ⟨A2, q2, c2, rfl, hl2, hq2, hr2, hb2⟩
  rw [ht.out]
  have hB2 := hB1.trans (hb2.mono hB1.size)
  have HL2 := Lib.hid hl2
  clear hb2 hB1 hl2
  go_wp2_with fail
  refine (roctets_all l n _ _ _ ((HR.out.below hB2).more hB2.size) HB.out HL.out (by omega)).mono ?_
  rintro e w3 ⟨A3, q3, c3, rfl, hl3, hq3, hr3, hb3⟩
  rw [ht.out]
  have hr2' := (hr2.below hb3).more hb3.size
  have hB3 := hB2.trans (hb3.mono hB2.size)
  have HL3 := Lib.hid hl3
  clear hb3 hB2 hl3 hr2
  go_wp2_with fail
  go_loop [7, 32] (fun m i => ∃ k : Nat, k ≤ n ∧ i = .int .i64 k ∧ ∃ a : Nat, a ≤ n ∧ m = .int .i64 a ∧ Hid (a = topK l k)) (fun _ i => n - (intOf i).toNat)
  case atStart => exact ⟨0, Nat.zero_le _, rfl, 0, Nat.zero_le _, rfl, Lib.hid rfl⟩
  case round =>
    obtain ⟨k, hk, rfl, a, ha, rfl, hak⟩ := hrel
    by_cases hlt : k < n
    · have i1 : (0 : Int) ≤ k := by omega
      have i2 : (k : Int) < n := by omega
      have hle := topK_le l (k + 1) (by rw [HL.out]; omega)
      rw [topK_succ, ← hak.out, HL.out] at hle
      have hmx : Hid (max a (lead (l.drop k)) = topK l (k + 1)) := Lib.hid (by rw [topK_succ, ← hak.out])
      have hmle : max a (lead (l.drop k)) ≤ n := by omega
      clear hle
      go_wp2_with (go_at_call 9; refine (rrun_c l n _ _ k _ ((HR.out.below hB3).more hB3.size) HB.out HL.out (by omega) (by omega)).mono ?_; rintro e w' ⟨rfl, rfl⟩)
      go_round
      case rel => exact ⟨k + 1, by omega, by go_num, _, hmle, max_nat _ _, hmx⟩
      case measure => simp [intOf]; omega
    · have hab : Hid (a = best l) := Lib.hid (by rw [hak.out, show k = l.length from by have := HL.out; omega, topK_all])
      go_wp2_with fail
      refine (clean_c l n _ _ _ ((HR.out.below hB3).more hB3.size) HB.out HL.out (by omega)).mono ?_
      rintro e w4 ⟨A4, c4, rfl, hl4, -, hr4, hb4⟩
      have hr2 := (hr2'.below hb4).more hb4.size
      have hr3' := (hr3.below hb4).more hb4.size
      have hB4 := hB3.trans (hb4.mono hB3.size)
      have HL4 := Lib.hid hl4
      clear hb4 hB3 hl4 hr2' hr3 hlt hk
      go_wp2_with fail
      go_loop [45] (fun i => ∃ k : Nat, k ≤ n ∧ i = .int .i64 k) (fun i => n - (intOf i).toNat)
      case atStart => exact ⟨0, Nat.zero_le _, rfl⟩
      case round =>
        obtain ⟨j, hj, rfl⟩ := hrel
        by_cases hlt : j < n
        · obtain ⟨b, o, x, rfl, hbb, hx, hc⟩ := hr4.at_ (k := j) (by rw [HL4.out]; exact hlt)
          have hx2 : x < 2 := by
            have := List.mem_of_getElem? hx
            simp only [lows, List.mem_map] at this
            obtain ⟨y, _, rfl⟩ := this; omega
          have i1 : (0 : Int) ≤ j := by omega
          have i2 : (j : Int) < n := by omega
          have i3 : ¬ ((1 : Int) < x) := by omega
          clear hx
          go_wp2_with fail
          go_round
          case rel => exact ⟨j + 1, by omega, by go_num⟩
          case measure => simp [intOf]; omega
        · go_wp2_with fail
          refine (of_c l n _ _ _ ((HR.out.below hB4).more hB4.size) HB.out HL.out (by omega)).mono ?_
          rintro e w5 ⟨A5, c5, rfl, hl5, -, hr5, hb5⟩
          have hB5 := hB4.trans (hb5.mono hB4.size)
          have hr2a := (hr2.below hb5).more hb5.size
          have hr3a := (hr3'.below hb5).more hb5.size
          have hr4a := (hr4.below hb5).more hb5.size
          have HL5 := Lib.hid hl5
          clear hb5 hl5 hr2 hr3' hr4 hB4
          go_wp2_with fail
          refine (rof_c l n _ _ _ ((HR.out.below hB5).more hB5.size) HB.out HL.out (by omega)).mono ?_
          rintro e w6 ⟨A6, c6, rfl, hl6, -, hr6, hb6⟩
          have hB6 := hB5.trans (hb6.mono hB5.size)
          have hr2b := (hr2a.below hb6).more hb6.size
          have hr3b := (hr3a.below hb6).more hb6.size
          have hr4b := (hr4a.below hb6).more hb6.size
          have hr5b := (hr5.below hb6).more hb6.size
          have HL6 := Lib.hid hl6
          clear hb6 hl6 hr2a hr3a hr4a hr5 hB5
          go_wp2_with fail
          refine (equal_yes (ofB l) (ofB l) (8 * n) (8 * n) _ _ _ _ _ hr5b hr6 HL5.out HL6.out (by omega) rfl).mono ?_
          rintro e w7 ⟨rfl, hb7⟩
          have hB7 := hB6.trans (hb7.mono hB6.size)
          have hr2c := (hr2b.below hb7).more hb7.size
          have hr3c := (hr3b.below hb7).more hb7.size
          have hr4c := (hr4b.below hb7).more hb7.size
          clear hb7 hr2b hr3b hr4b hr5b hr6 hB6
          go_wp2_with fail
          refine (equal_yes (octs l) (octs l) q2 q3 _ _ _ _ _ hr2c hr3c HL2.out HL3.out (by omega) rfl).mono ?_
          rintro e w8 ⟨rfl, hb8⟩
          have hB8 := hB7.trans (hb8.mono hB7.size)
          have hr4d := (hr4c.below hb8).more hb8.size
          clear hb8 hr2c hr3c hr4c hB7
          have htt : (t == t) = true := by simp
          go_wp2_with fail
          refine (same_yes (lows l) l n n _ _ _ _ _ hr4d ((HR.out.below hB8).more hB8.size) HL4.out HL.out (by omega) (lows_mod l)).mono ?_
          rintro e w9 ⟨rfl, hb9⟩
          have hB9 := hB8.trans (hb9.mono hB8.size)
          clear hb9 hr4d hB8
          go_wp2_with fail
          refine (run_c l n _ _ _ ((HR.out.below hB9).more hB9.size) HB.out HL.out (by omega)).mono ?_
          rintro e w10 ⟨rfl, rfl⟩
          rw [← hab.out]
          have haa : ((a : Int) == (a : Int)) = true := by simp
          go_wp2_with fail
          go_ret
          exact ⟨rfl, hB9⟩

end Go.Proofs.Ytbkebmpeofbnjaa
