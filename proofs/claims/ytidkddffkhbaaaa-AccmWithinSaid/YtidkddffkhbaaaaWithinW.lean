/-
  The walk of the statement AccmWithin: it answers true for every three maps. No condition.
-/
import Derived.Test.YtidkddffkhbaaaaAccs
namespace Go.Proofs.Ytidkddffkhbaaaa
open Go.RowKit

theorem and_lt32 {a : Nat} (b : Nat) (ha : a < 4294967296) : a &&& b < 4294967296 := Nat.lt_of_le_of_lt Nat.and_le_left ha
theorem or_lt32 {a b : Nat} (ha : a < 4294967296) (hb : b < 4294967296) : a ||| b < 4294967296 := Nat.or_lt_two_pow (n := 32) ha hb
theorem within_refl (a : Nat) (ha : a < 4294967296) : withinB a a = true := (within_bit a a ha ha).2 fun _ h => h
theorem within_all (a : Nat) : withinB a 4294967295 = true := by simp [withinB]
theorem within_zero (a : Nat) : withinB 0 a = true := by simp [withinB]
theorem within_and (a b : Nat) (ha : a < 4294967296) : withinB (a &&& b) a = true := (within_bit _ _ (and_lt32 b ha) ha).2 fun c h => by
  rw [Nat.testBit_and, Bool.and_eq_true] at h
  exact h.1
theorem within_or (a b : Nat) (ha : a < 4294967296) (hb : b < 4294967296) : withinB a (a ||| b) = true := (within_bit _ _ ha (or_lt32 ha hb)).2 fun c h => by
  rw [Nat.testBit_or, h, Bool.true_or]
theorem within_anti (a b : Nat) (ha : a < 4294967296) (hb : b < 4294967296) (h : withinB a b = true) : withinB b a = decide (a = b) := by
  rw [Bool.eq_iff_iff, decide_eq_true_iff]
  constructor
  · intro h2
    apply Nat.eq_of_testBit_eq
    intro c
    have h3 := (within_bit a b ha hb).1 h c
    have h4 := (within_bit b a hb ha).1 h2 c
    rw [Bool.eq_iff_iff]
    exact ⟨h3, h4⟩
  · rintro rfl
    exact h
theorem within_trans (a b c : Nat) (ha : a < 4294967296) (hb : b < 4294967296) (hc : c < 4294967296) (h : withinB a b = true) (h2 : withinB b c = true) : withinB a c = true :=
  (within_bit a c ha hc).2 fun k hk => (within_bit b c hb hc).1 h2 k ((within_bit a b ha hb).1 h k hk)

theorem anti_no {t1 t3 : Bool} {a b : Nat} (h : t1 = true → t3 = decide (a = b)) (h1 : t1 = true) : ¬ (!t3 == ((a : Int) == (b : Int))) = true := by
  rw [h h1]
  by_cases hab : a = b
  · simp [hab]
  · have : ((a : Int) == (b : Int)) = false := by simp; omega
    simp [hab, this]
/-- A call of Within, its arguments as they stand. -/
abbrev Wi (x y : Int) (r : Bool) : Prop := ∀ w : World, Calls Try.prog 14 #[.int .u32 x, .int .u32 y] w fun e w' => e = .returned (.bool r) ∧ w = w'
theorem Wi.of {a b : Nat} {x y : Int} {r : Bool} (ha : a < 4294967296) (hb : b < 4294967296) (hx : x = (a : Int)) (hy : y = (b : Int)) (h : withinB a b = r) : Wi x y r := by
  subst hx; subst hy; subst h
  exact fun w => within_any a b ha hb w

set_option maxHeartbeats 1000000 in
theorem within_walk (a b c : Nat) (ha : a < 4294967296) (hb : b < 4294967296) (hc : c < 4294967296) (w : World) :
    Calls Try.prog 5 #[.int .u32 (a : Int), .int .u32 (b : Int), .int .u32 (c : Int)] w fun e w' => e = .returned (.bool true) ∧ Below w.heap.size w w' := by
  have e1 : Wi a a true := Wi.of ha ha rfl rfl (within_refl a ha)
  have e2 : Wi a 4294967295 true := Wi.of (b := 4294967295) ha (by omega) rfl rfl (within_all a)
  have e3 : Wi 0 a true := Wi.of (a := 0) (by omega) ha rfl rfl (within_zero a)
  have e4 : Wi (bits .and .u32 a b) a true := Wi.of (and_lt32 b ha) ha (u32_and_nat a b ha hb) rfl (within_and a b ha)
  have e5 : Wi a (bits .or .u32 a b) true := Wi.of ha (or_lt32 ha hb) rfl (u32_or_nat a b ha hb) (within_or a b ha hb)
  obtain ⟨t1, ht1⟩ : ∃ t, withinB a b = t := ⟨_, rfl⟩
  obtain ⟨t2, ht2⟩ : ∃ t, withinB b c = t := ⟨_, rfl⟩
  obtain ⟨t3, ht3⟩ : ∃ t, withinB b a = t := ⟨_, rfl⟩
  obtain ⟨t4, ht4⟩ : ∃ t, withinB a c = t := ⟨_, rfl⟩
  have d1 : Wi a b t1 := Wi.of ha hb rfl rfl ht1
  have d2 : Wi b c t2 := Wi.of hb hc rfl rfl ht2
  have d3 : Wi b a t3 := Wi.of hb ha rfl rfl ht3
  have d4 : Wi a c t4 := Wi.of ha hc rfl rfl ht4
  have HA : Hid (t1 = true → t3 = decide (a = b)) := Lib.hid fun h => by rw [← ht3]; exact within_anti a b ha hb (ht1.trans h)
  have HT : Hid (t1 = true → t2 = true → t4 = true) := Lib.hid fun h h2 => by rw [← ht4]; exact within_trans a b c ha hb hc (ht1.trans h) (ht2.trans h2)
  clear ht1 ht2 ht3 ht4
  go_enter Try.func5, Try.ntmps5
  go_wp2_with fail
  refine (speaks_any _).mono ?_
  rintro e w1 ⟨rfl, hB1⟩
  go_wp2_with (go_at_call 14; first
    | (with_reducible refine (e1 _).mono ?_; rintro e w' ⟨rfl, rfl⟩)
    | (with_reducible refine (e2 _).mono ?_; rintro e w' ⟨rfl, rfl⟩)
    | (with_reducible refine (e3 _).mono ?_; rintro e w' ⟨rfl, rfl⟩)
    | (with_reducible refine (e4 _).mono ?_; rintro e w' ⟨rfl, rfl⟩)
    | (with_reducible refine (e5 _).mono ?_; rintro e w' ⟨rfl, rfl⟩)
    | (with_reducible refine (d1 _).mono ?_; rintro e w' ⟨rfl, rfl⟩)
    | (with_reducible refine (d2 _).mono ?_; rintro e w' ⟨rfl, rfl⟩)
    | (with_reducible refine (d3 _).mono ?_; rintro e w' ⟨rfl, rfl⟩)
    | (with_reducible refine (d4 _).mono ?_; rintro e w' ⟨rfl, rfl⟩))
  all_goals go_ret
  all_goals refine ⟨?_, hB1⟩
  all_goals first
    | rfl
    | exact absurd ‹_› (anti_no HA.out ‹_›)
    | exact congrArg (fun x => Ending.returned (Value.bool x)) (HT.out ‹_› ‹_›)

end Go.Proofs.Ytidkddffkhbaaaa
