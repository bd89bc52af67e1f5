/-
  The walk of the statement AccmBack: it answers true for every map and list of bytes, and writes nothing that was there. No condition.
-/
import Derived.Test.YtidkddffkhbaaaaAccs
namespace Go.Proofs.Ytidkddffkhbaaaa
open Go.RowKit

set_option maxHeartbeats 1000000 in
theorem back_long (m : Nat) (A : Option Addr) (n c : Nat) (w : World) (h : 300 < n) :
    Calls Try.prog 4 #[.int .u32 (m : Int), .slice A n c] w fun e w' => e = .returned (.bool true) ∧ Below w.heap.size w w' := by
  have h4 : (300 : Int) < (n : Int) := by omega
  go_enter Try.func4, Try.ntmps4
  go_wp2_with fail
  refine (speaks_any _).mono ?_
  rintro e w1 ⟨rfl, hB1⟩
  go_wp2_with fail
  refine (speaks_any _).mono ?_
  rintro e w2 ⟨rfl, hb2⟩
  go_wp2_with fail
  go_ret
  exact ⟨rfl, hB1.trans (hb2.mono hB1.size)⟩

/-! Lists alone. -/
theorem orB_bit (l : List Nat) (c : Nat) : (orB l).testBit c = decide (c < 32 ∧ c ∈ l) := by
  suffices ∀ m, (l.foldl (fun m c => if c < 32 then m ||| 2 ^ c else m) m).testBit c = (m.testBit c || decide (c < 32 ∧ c ∈ l)) by
    have := this 0
    rw [Nat.zero_testBit, Bool.false_or] at this
    exact this
  induction l with
  | nil => intro m; simp
  | cons x t ih =>
    intro m
    rw [List.foldl_cons, ih]
    by_cases hx : x < 32
    · rw [if_pos hx, Nat.testBit_or, Nat.testBit_two_pow]
      by_cases hxc : x = c
      · subst hxc
        simp [hx]
      · have : c ≠ x := fun h => hxc h.symm
        simp [hxc, this]
    · rw [if_neg hx]
      by_cases hc : c < 32
      · have : c ≠ x := by omega
        simp [hc, this]
      · simp [hc]
theorem orB_has (l : List Nat) (c : Nat) (h : c ∈ l) : hasB (orB l) c = decide (c < 32) := by
  rw [hasB_bit, orB_bit]
  by_cases hc : c < 32 <;> simp [hc, h]
theorem mapB_mem (m k c : Nat) (h : c ∈ mapB m k) : hasB m c = true := by
  rw [mapB, List.mem_filter] at h
  exact h.2
theorem mapB_by (m : Nat) : By (mapB m 32) := by
  intro x hx
  have := mapB_mem m 32 x hx
  rw [hasB, Bool.and_eq_true, decide_eq_true_iff] at this
  omega
theorem orB_mem (l : List Nat) (c : Nat) (h : c ∈ mapB (orB l) 32) : c ∈ l := by
  have := mapB_mem _ _ _ h
  rw [hasB_bit, orB_bit, Bool.and_eq_true, decide_eq_true_iff, decide_eq_true_iff] at this
  exact this.2.2
theorem orB_mapB (m : Nat) (hm : m < 4294967296) : orB (mapB m 32) = m := by
  apply Nat.eq_of_testBit_eq
  intro c
  rw [orB_bit, Bool.eq_iff_iff, decide_eq_true_iff]
  constructor
  · rintro ⟨_, h⟩
    have := mapB_mem _ _ _ h
    rw [hasB_bit, Bool.and_eq_true] at this
    exact this.2
  · intro h
    have hc : c < 32 := by
      rcases Nat.lt_or_ge c 32 with h1 | h1
      · exact h1
      · rw [Nat.testBit_lt_two_pow (Nat.lt_of_lt_of_le hm (Nat.pow_le_pow_right (n := 2) (by omega) h1))] at h
        cases h
    refine ⟨hc, ?_⟩
    rw [mapB, List.mem_filter]
    exact ⟨List.mem_range.2 hc, by rw [hasB_bit]; simp [hc, h]⟩
/-- Is c among the first k? -/
def amid (l : List Nat) (k c : Nat) : Bool := decide (c ∈ l.take k)
theorem amid_zero (l : List Nat) (c : Nat) : amid l 0 c = false := by simp [amid]
theorem amid_all {l : List Nat} {n c : Nat} (hl : l.length = n) (h : c ∈ l) : amid l n c = true := by
  rw [amid, List.take_of_length_le (by omega)]
  simp [h]
theorem amid_snoc {l : List Nat} {k x c : Nat} (h : l[k]? = some x) : amid l (k + 1) c = (amid l k c || decide (x = c)) := by
  unfold amid
  rw [List.take_add_one, h, Option.toList_some]
  by_cases e : x = c
  · simp [e]
  · have : c ≠ x := fun h => e h.symm
    simp [e, this]
theorem eq_cast (x y : Nat) : ((x : Int) == (y : Int)) = decide (x = y) := by
  rw [Bool.eq_iff_iff, decide_eq_true_iff, beq_iff_eq]
  omega

set_option maxHeartbeats 2000000 in
theorem back_walk (m : Nat) (hm : m < 4294967296) (l : List Nat) (A : Option Addr) (n c : Nat) (w : World) (hl : l.length = n) (hb : By l) (h : Rd w w.heap.size A l) (h4 : n ≤ 300) :
    Calls Try.prog 4 #[.int .u32 (m : Int), .slice A n c] w fun e w' => e = .returned (.bool true) ∧ Below w.heap.size w w' := by
  have HL := Lib.hid hl
  have HB := Lib.hid hb
  have HR := Lib.hid h
  have HM := Lib.hid hm
  clear hl hb h hm
  obtain ⟨o, ho, holt⟩ : ∃ o, Hid (orB l = o) ∧ o < 4294967296 := ⟨_, Lib.hid rfl, orB_lt l⟩
  go_enter Try.func4, Try.ntmps4
  go_wp2_with fail
  refine (speaks_any _).mono ?_
  rintro e w1 ⟨rfl, hB1⟩
  go_wp2_with fail
  refine (of_any l n _ _ _ ((HR.out.below hB1).more hB1.size) HB.out HL.out (by omega)).mono ?_
  rintro e w2 ⟨rfl, rfl⟩
  rw [ho.out]
  go_wp2_with fail
  go_loop [25] (fun i => ∃ k : Nat, k ≤ n ∧ i = .int .i64 k) (fun i => n - (intOf i).toNat)
  case atStart => exact ⟨0, Nat.zero_le _, rfl⟩
  case round =>
    obtain ⟨k, hk, rfl⟩ := hrel
    by_cases hlt : k < n
    · obtain ⟨b, off, x, rfl, hbb, hx, hc⟩ := (HR.out.below hB1).at_ (k := k) (by rw [HL.out]; exact hlt)
      have hx256 := HB.out.get hx
      have hhas : Hid (hasB o x = decide (x < 32)) := Lib.hid (by rw [← ho.out]; exact orB_has l x (List.mem_of_getElem? hx))
      clear hx
      have i1 : (0 : Int) ≤ k := by omega
      have i2 : (k : Int) < n := by omega
      have hd : Hid (decide (x < 32) = decide ((x : Int) < 32)) := Lib.hid (by rw [Bool.eq_iff_iff, decide_eq_true_iff, decide_eq_true_iff]; omega)
      go_wp2_with (go_at_call 7; refine (has_any o x holt hx256 _).mono ?_; rintro e w' ⟨rfl, rfl⟩; rw [hhas.out, hd.out])
      go_round
      case rel => exact ⟨k + 1, by omega, by go_num⟩
      case measure => simp [intOf]; omega
    · go_wp2_with fail
      refine (list_any o holt _).mono ?_
      rintro e w3 ⟨A3, c3, n3, rfl, hn3, hl3, -, hr3, hb3⟩
      have hB3 := hB1.trans (hb3.mono hB1.size)
      have HL3 := Lib.hid hl3
      have hsz3 := hB3.size
      clear hb3 hl3 hk hlt
      go_wp2_with fail
      go_loop [39] (fun i => ∃ k : Nat, k ≤ n3 ∧ i = .int .i64 k) (fun i => n3 - (intOf i).toNat)
      case atStart => exact ⟨0, Nat.zero_le _, rfl⟩
      case round =>
        obtain ⟨j, hj, rfl⟩ := hrel
        by_cases hlt : j < n3
        · obtain ⟨b, off, y, rfl, hbb, hy, hc⟩ := hr3.at_ (k := j) (by rw [HL3.out]; exact hlt)
          have hyl : Hid (y ∈ l) := Lib.hid (orB_mem l y (by rw [ho.out]; exact List.mem_of_getElem? hy))
          have hal := Lib.hid (amid_all HL.out hyl.out)
          clear hy
          have i1 : (0 : Int) ≤ j := by omega
          have i2 : (j : Int) < n3 := by omega
          go_wp2_with fail
          go_loop [10, 45] (fun v i => ∃ k : Nat, k ≤ n ∧ i = .int .i64 k ∧ ∃ t, v = .bool t ∧ Hid (t = amid l k y)) (fun _ i => n - (intOf i).toNat)
          case atStart => exact ⟨0, Nat.zero_le _, rfl, _, rfl, Lib.hid (amid_zero l y).symm⟩
          case round =>
            obtain ⟨k, hk, rfl, t, rfl, ht⟩ := hrel
            by_cases hlt2 : k < n
            · obtain ⟨b2, off2, x, rfl, hbb2, hx, hc2⟩ := (HR.out.below hB3).at_ (k := k) (by rw [HL.out]; exact hlt2)
              have R := Lib.hid (amid_snoc (c := y) hx)
              rw [← ht.out] at R
              clear hx
              have j1 : (0 : Int) ≤ k := by omega
              have j2 : (k : Int) < n := by omega
              cases t
              · rw [Bool.false_or] at R
                have R2 := Lib.hid ((eq_cast x y).trans R.out.symm)
                go_wp2_with fail
                go_round
                case rel => exact ⟨k + 1, by omega, by go_num, _, rfl, R2⟩
                case measure => simp [intOf]; omega
              · rw [Bool.true_or] at R
                go_wp2_with fail
                go_round
                case rel => exact ⟨k + 1, by omega, by go_num, _, rfl, Lib.hid R.out.symm⟩
                case measure => simp [intOf]; omega
            · have htt : t = true := by
                rw [ht.out, show k = n from by omega]
                exact hal.out
              subst htt
              go_wp2_with fail
              go_round
              case rel => exact ⟨j + 1, by omega, by go_num⟩
              case measure => simp [intOf]; omega
        · go_wp2_with fail
          refine (list_any m HM.out _).mono ?_
          rintro e w4 ⟨A4, c4, n4, rfl, hn4, hl4, -, hr4, hb4⟩
          have hB4 := hB3.trans (hb4.mono hB3.size)
          have HL4 := Lib.hid hl4
          clear hb4 hl4
          go_wp2_with fail
          refine (of_any (mapB m 32) n4 _ _ _ hr4 (mapB_by m) HL4.out (by omega)).mono ?_
          rintro e w5 ⟨rfl, rfl⟩
          rw [orB_mapB m HM.out]
          have hmm : ((m : Int) == (m : Int)) = true := by simp
          go_wp2_with fail
          refine (list_any m HM.out _).mono ?_
          rintro e w6 ⟨A6, c6, n6, rfl, hn6, -, -, -, hb6⟩
          have hB6 := hB4.trans (hb6.mono hB4.size)
          have hn : (n6 : Int) ≤ 32 := by omega
          go_wp2_with fail
          go_ret
          exact ⟨rfl, hB6⟩

end Go.Proofs.Ytidkddffkhbaaaa
