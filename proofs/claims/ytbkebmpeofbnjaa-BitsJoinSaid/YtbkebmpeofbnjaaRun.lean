/-
  What bits.Run and the document's Run answer: how many ones stand in a row. No condition beyond: bytes below 256, lists of at most 2^40 elements.
-/
import Derived.Test.YtbkebmpeofbnjaaLow
namespace Go.Proofs.Ytbkebmpeofbnjaa
open Go.RowKit

/-- How many odd numbers a list begins with. -/
def lead : List Nat → Nat
  | [] => 0
  | b :: t => if b % 2 = 1 then lead t + 1 else 0
/-- The longest row of odd numbers. -/
def best : List Nat → Nat
  | [] => 0
  | b :: t => max (lead (b :: t)) (best t)
def stepR (s : Nat × Nat) (b : Nat) : Nat × Nat := if b % 2 = 1 then (max s.1 (s.2 + 1), s.2 + 1) else (s.1, 0)
def runP (l : List Nat) : Nat × Nat := l.foldl stepR (0, 0)

theorem lead_le (l : List Nat) : lead l ≤ l.length := by
  induction l with
  | nil => exact Nat.le_refl _
  | cons b t ih => simp only [lead, List.length_cons]; split <;> omega
theorem best_le (l : List Nat) : best l ≤ l.length := by
  induction l with
  | nil => exact Nat.le_refl _
  | cons b t ih => have := lead_le (b :: t); simp only [best, List.length_cons] at *; omega
theorem lead_drop_step {l : List Nat} {k x : Nat} (h : l[k]? = some x) (ho : x % 2 = 1) : lead (l.drop k) = lead (l.drop (k + 1)) + 1 := by
  have hk : k < l.length := (List.getElem?_eq_some_iff.1 h).1
  have hx : l[k] = x := (List.getElem?_eq_some_iff.1 h).2
  rw [List.drop_eq_getElem_cons hk, lead, hx, if_pos ho]
theorem lead_drop_stop {l : List Nat} {k x : Nat} (h : l[k]? = some x) (ho : ¬ x % 2 = 1) : lead (l.drop k) = 0 := by
  have hk : k < l.length := (List.getElem?_eq_some_iff.1 h).1
  have hx : l[k] = x := (List.getElem?_eq_some_iff.1 h).2
  rw [List.drop_eq_getElem_cons hk, lead, hx, if_neg ho]
theorem runP_snoc {l : List Nat} {k x : Nat} (h : l[k]? = some x) : runP (l.take (k + 1)) = stepR (runP (l.take k)) x := by
  rw [runP, List.take_add_one, h, List.foldl_append]; rfl
theorem lead_le_best (l : List Nat) : lead l ≤ best l := by
  cases l with
  | nil => exact Nat.le_refl _
  | cons b t => rw [best]; omega
theorem fold_best (l : List Nat) : ∀ m r : Nat, (l.foldl stepR (m, r)).1 = max m (max (if lead l = 0 then 0 else r + lead l) (best l)) := by
  induction l with
  | nil => intro m r; simp [lead, best]
  | cons b t ih =>
    intro m r
    rw [List.foldl_cons]
    by_cases hb : b % 2 = 1
    · rw [stepR, if_pos hb, ih]
      simp only [lead, best, if_pos hb]
      split <;> split <;> omega
    · rw [stepR, if_neg hb, ih]
      have hlb := lead_le_best t
      simp only [lead, best, if_neg hb]
      split <;> simp <;> omega
theorem runP_best (l : List Nat) : (runP l).1 = best l := by
  rw [runP, fold_best]
  cases l with
  | nil => simp [lead, best]
  | cons b t => simp only [best]; split <;> omega
theorem runP_le (l : List Nat) : (runP l).1 ≤ l.length ∧ (runP l).2 ≤ l.length := by
  refine ⟨by rw [runP_best]; exact best_le l, ?_⟩
  have : ∀ (l : List Nat) (s : Nat × Nat), (l.foldl stepR s).2 ≤ s.2 + l.length := by
    intro l
    induction l with
    | nil => intro s; exact Nat.le_refl _
    | cons b t ih =>
      intro s
      rw [List.foldl_cons]
      have := ih (stepR s b)
      have h2 : (stepR s b).2 ≤ s.2 + 1 := by unfold stepR; split <;> simp
      simp only [List.length_cons]; omega
  simpa [runP] using this l (0, 0)

theorem lowest_zero (x : Nat) (hx : x < 256) (h : x % 2 = 0) (w : World) :
    Calls Try.prog 16 #[.int .u8 (x : Int)] w fun e w' => e = .returned (.int .u8 0) ∧ w = w' :=
  (lowest_any x hx w).mono fun _ _ ⟨he, hw⟩ => ⟨by rw [he, h]; rfl, hw⟩
theorem lowest_one (x : Nat) (hx : x < 256) (h : x % 2 = 1) (w : World) :
    Calls Try.prog 16 #[.int .u8 (x : Int)] w fun e w' => e = .returned (.int .u8 1) ∧ w = w' :=
  (lowest_any x hx w).mono fun _ _ ⟨he, hw⟩ => ⟨by rw [he, h]; rfl, hw⟩

theorem ret_int {k : IntKind} {a b : Int} (h : a = b) : Ending.returned (.int k a) = .returned (.int k b) := by rw [h]

set_option maxHeartbeats 400000 in
theorem rrun_any (l : List Nat) (A : Option Addr) (c at_ : Nat) (w : World) (Bl : Nat) (h : Rd w Bl A l) (hb : By l) (hn : l.length ≤ 1099511627776) (hat : at_ ≤ l.length) :
    Calls Try.prog 9 #[.slice A l.length c, .int .i64 (at_ : Int)] w fun e w' => e = .returned (.int .i64 (lead (l.drop at_) : Int)) ∧ w = w' := by
  go_enter Try.func9, Try.ntmps9
  go_wp2_with fail
  go_loop [5] (fun i => ∃ k : Nat, at_ + k ≤ l.length ∧ i = .int .i64 k ∧ Hid (lead (l.drop at_) = k + lead (l.drop (at_ + k)))) (fun i => l.length - (intOf i).toNat)
  case atStart => exact ⟨0, by omega, rfl, Lib.hid (by simp)⟩
  case round =>
    obtain ⟨k, hk, rfl, heq⟩ := hrel
    by_cases hlt : at_ + k < l.length
    · obtain ⟨b, o, x, rfl, _, hx, hc⟩ := h.at_ hlt
      have hx256 := hb.get hx
      have HX := Lib.hid hx
      clear hx
      have i1 : (0 : Int) ≤ (at_ : Int) + k := by omega
      have i2 : (at_ : Int) + k < l.length := by omega
      have x0 : (0 : Int) ≤ x := by omega
      by_cases ho : x % 2 = 1
      · have hb1 : ((x : Int) % 2 == 1) = true := by rw [beq_iff_eq]; omega
        have HO := Lib.hid ho
        clear ho
        go_wp2
        go_round
        case rel =>
          refine ⟨k + 1, by omega, by go_num, Lib.hid ?_⟩
          rw [heq.out, lead_drop_step HX.out HO.out, ← Nat.add_assoc at_ k 1]; omega
        case measure => simp [intOf]; omega
      · have hb1 : ((x : Int) % 2 == 1) = false := by rw [beq_eq_false_iff_ne]; omega
        have HO := Lib.hid ho
        clear ho
        go_wp2
        go_ret
        refine ⟨ret_int ?_, rfl⟩
        rw [heq.out, lead_drop_stop HX.out HO.out]; rfl
    · go_wp2
      go_ret
      have : at_ + k = l.length := by omega
      refine ⟨ret_int ?_, rfl⟩
      have := heq.out
      rw [List.drop_of_length_le (l := l) (i := at_ + k) (by omega)] at this
      rw [this]; rfl

theorem max_int (a b : Nat) : Value.int .i64 (if (a : Int) < (b : Int) then (b : Int) else (a : Int)) = .int .i64 ((max a b : Nat) : Int) := by
  congr 1
  split <;> omega

set_option maxHeartbeats 400000 in
theorem run_any (l : List Nat) (A : Option Addr) (c : Nat) (w : World) (Bl : Nat) (h : Rd w Bl A l) (hb : By l) (hn : l.length ≤ 1099511627776) :
    Calls Try.prog 15 #[.slice A l.length c] w fun e w' => e = .returned (.int .i64 (best l : Int)) ∧ w = w' := by
  go_enter Try.func15, Try.ntmps15
  go_wp2_with fail
  go_loop [3, 4, 9] (fun m r i => ∃ k : Nat, k ≤ l.length ∧ i = .int .i64 k ∧ ∃ a b : Nat, m = .int .i64 a ∧ r = .int .i64 b ∧ a ≤ l.length ∧ b ≤ l.length ∧ Hid (runP (l.take k) = (a, b))) (fun _ _ i => l.length - (intOf i).toNat)
  case atStart => exact ⟨0, by omega, rfl, 0, 0, rfl, rfl, by omega, by omega, Lib.hid (by simp [runP])⟩
  case round =>
    obtain ⟨k, hk, rfl, a, d, rfl, rfl, ha, hd, heq⟩ := hrel
    by_cases hlt : k < l.length
    · obtain ⟨b, o, x, rfl, _, hx, hc⟩ := h.at_ hlt
      have hx256 := hb.get hx
      have hle := runP_le (l.take (k + 1))
      rw [List.length_take] at hle
      have hst := Lib.hid (runP_snoc hx)
      clear hx
      have i1 : (0 : Int) ≤ k := by omega
      have i2 : (k : Int) < l.length := by omega
      by_cases ho : x % 2 = 1
      · have HO := Lib.hid ho
        clear ho
        go_wp2_with (go_at_call 16; refine (lowest_one _ hx256 HO.out _).mono ?_; rintro e w' ⟨rfl, rfl⟩)
        have he : runP (l.take (k + 1)) = (max a (d + 1), d + 1) := by rw [hst.out, heq.out, stepR, if_pos HO.out]
        have h1 : max a (d + 1) ≤ l.length := by rw [he] at hle; simp only at hle; omega
        have h2 : d + 1 ≤ l.length := by rw [he] at hle; simp only at hle; omega
        go_round
        case rel => exact ⟨k + 1, by omega, by go_num, max a (d + 1), d + 1, max_int a (d + 1), by go_num, h1, h2, Lib.hid he⟩
        case measure => simp [intOf]; omega
      · have HO := Lib.hid ho
        clear ho
        go_wp2_with (go_at_call 16; refine (lowest_zero _ hx256 (by have := HO.out; omega) _).mono ?_; rintro e w' ⟨rfl, rfl⟩)
        have he : runP (l.take (k + 1)) = (a, 0) := by rw [hst.out, heq.out, stepR, if_neg HO.out]
        go_round
        case rel => exact ⟨k + 1, by omega, by go_num, a, 0, rfl, rfl, ha, Nat.zero_le _, Lib.hid he⟩
        case measure => simp [intOf]; omega
    · go_wp2
      go_ret
      refine ⟨ret_int ?_, rfl⟩
      have he := heq.out
      rw [List.take_of_length_le (by omega)] at he
      rw [← runP_best, he]

end Go.Proofs.Ytbkebmpeofbnjaa
