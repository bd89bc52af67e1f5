
/-
  Bits, stuffed, and without what was put in: lists alone. No condition.
-/
import Derived.Test.YtkakkligndejaaaDoorBit
namespace Go.Proofs.YtkakkligndejaaaDoor
open Go.RowKit

/-- Behind a bit: what is written, and how many ones stand at its end. -/
def stepI (s : List Nat × Nat) (x : Nat) : List Nat × Nat :=
  if x % 2 = 0 then (s.1 ++ [0], 0) else if s.2 = 4 then (s.1 ++ [1] ++ [0], 0) else (s.1 ++ [1], s.2 + 1)
def insP (l : List Nat) : List Nat × Nat := l.foldl stepI ([], 0)
def insB (l : List Nat) : List Nat := (insP l).1
/-- Behind a bit: what is left, and how many ones stood at the end. -/
def stepQ (s : List Nat × Nat) (x : Nat) : List Nat × Nat :=
  (if s.2 = 5 then s.1 else s.1 ++ [x % 2], if x % 2 = 0 then 0 else s.2 + 1)
def remP (l : List Nat) : List Nat × Nat := l.foldl stepQ ([], 0)
def remB (l : List Nat) : List Nat := if 5 < best l then [] else (remP l).1
def remE (l : List Nat) : Nat := if 5 < best l then 10 else 0

theorem insP_snoc (l : List Nat) (x : Nat) : insP (l ++ [x]) = stepI (insP l) x := by simp [insP]
theorem remP_snoc (l : List Nat) (x : Nat) : remP (l ++ [x]) = stepQ (remP l) x := by simp [remP]
theorem runP_snoc' (l : List Nat) (x : Nat) : runP (l ++ [x]) = stepR (runP l) x := by simp [runP]
theorem lows_app (l m : List Nat) : lows (l ++ m) = lows l ++ lows m := by simp [lows]
theorem best_snoc (l : List Nat) (x : Nat) : best (l ++ [x]) = if x % 2 = 1 then max (best l) ((runP l).2 + 1) else best l := by
  rw [← runP_best, runP_snoc', stepR, ← runP_best l]; split <;> rfl
theorem take_snoc {l : List Nat} {k x : Nat} (h : l[k]? = some x) : l.take (k + 1) = l.take k ++ [x] := by
  rw [List.take_add_one, h]; rfl

/-- Lists end with an element, or are empty. -/
theorem snoc_rec {P : List Nat → Prop} (nil : P []) (snoc : ∀ l x, P l → P (l ++ [x])) (l : List Nat) : P l := by
  have key : ∀ m : List Nat, P m.reverse := by
    intro m
    induction m with
    | nil => exact nil
    | cons x t ih => rw [List.reverse_cons]; exact snoc _ x ih
  have := key l.reverse
  rwa [List.reverse_reverse] at this

theorem ins_inv (l : List Nat) : (insP l).2 ≤ 4 ∧ 5 * (insP l).1.length + (insP l).2 ≤ 6 * l.length ∧ l.length ≤ (insP l).1.length ∧ By (insP l).1 ∧ remP (insP l).1 = (lows l, (insP l).2) ∧ (runP (insP l).1).2 = (insP l).2 ∧ best (insP l).1 ≤ 5 := by
  induction l using snoc_rec with
  | nil => exact ⟨by simp [insP], by simp [insP], by simp [insP], By.nil, rfl, rfl, by simp [insP, best]⟩
  | snoc l x ih =>
    obtain ⟨h1, h2, h3, h4, h5, h6, h7⟩ := ih
    rw [insP_snoc]
    generalize hs : insP l = s at h1 h2 h3 h4 h5 h6 h7
    obtain ⟨o, r⟩ := s
    simp only at h1 h2 h3 h4 h5 h6 h7
    have hb0 : By [0] := by intro y hy; simp at hy; omega
    have hb1 : By [1] := by intro y hy; simp at hy; omega
    by_cases hx : x % 2 = 0
    · rw [stepI, if_pos hx]
      refine ⟨by simp, by simp; omega, by simp; omega, h4.app hb0, ?_, ?_, ?_⟩
      · simp only [remP_snoc, h5, stepQ, lows_app]
        rw [if_neg (by omega)]; simp [lows, hx]
      · simp only [runP_snoc', stepR]; simp
      · simp only [best_snoc]; simpa using h7
    · have hx1 : x % 2 = 1 := by omega
      by_cases hr : r = 4
      · rw [stepI, if_neg hx, if_pos hr]
        refine ⟨by simp, by simp; omega, by simp; omega, (h4.app hb1).app hb0, ?_, ?_, ?_⟩
        · simp only [remP_snoc, h5, stepQ, lows_app, hr]
          simp [lows, hx1]
        · simp only [runP_snoc', stepR]; simp
        · simp only [best_snoc, h6]; simp; omega
      · rw [stepI, if_neg hx, if_neg hr]
        refine ⟨by simp; omega, by simp; omega, by simp; omega, h4.app hb1, ?_, ?_, ?_⟩
        · simp only [remP_snoc, h5, stepQ, lows_app]
          rw [if_neg (by omega)]; simp [lows, hx1]
        · simp only [runP_snoc', stepR, h6]; simp
        · simp only [best_snoc, h6]; simp; omega

theorem ins_row (l : List Nat) : (insP l).2 ≤ 4 := (ins_inv l).1
theorem ins_len (l : List Nat) : 5 * (insB l).length ≤ 6 * l.length := by have := (ins_inv l).2.1; unfold insB; omega
theorem ins_ge (l : List Nat) : l.length ≤ (insB l).length := (ins_inv l).2.2.1
theorem ins_by (l : List Nat) : By (insB l) := (ins_inv l).2.2.2.1
theorem ins_best (l : List Nat) : best (insB l) ≤ 5 := (ins_inv l).2.2.2.2.2.2
theorem rem_ins (l : List Nat) : remB (insB l) = lows l := by
  rw [remB, if_neg (by have := ins_best l; omega)]
  have := (ins_inv l).2.2.2.2.1
  unfold insB; rw [this]
theorem remE_ins (l : List Nat) : remE (insB l) = 0 := by rw [remE, if_neg (by have := ins_best l; omega)]
theorem insP_len_le (l : List Nat) : (insP l).1.length ≤ 2 * l.length := by have := ins_len l; unfold insB at this; omega

theorem insP_lows (l : List Nat) : insP (lows l) = insP l := by
  induction l using snoc_rec with
  | nil => rfl
  | snoc l x h =>
  rw [lows_app, show lows [x] = [x % 2] from rfl, insP_snoc, insP_snoc, h, stepI, stepI, Nat.mod_mod]
theorem insB_lows (l : List Nat) : insB (lows l) = insB l := by rw [insB, insP_lows]; rfl
theorem remP_lows (l : List Nat) : remP (lows l) = remP l := by
  induction l using snoc_rec with
  | nil => rfl
  | snoc l x h =>
  rw [lows_app, show lows [x] = [x % 2] from rfl, remP_snoc, remP_snoc, h, stepQ, stepQ, Nat.mod_mod]
theorem remP_row (l : List Nat) : (remP l).2 = (runP l).2 := by
  induction l using snoc_rec with
  | nil => rfl
  | snoc l x h =>
  rw [remP_snoc, runP_snoc', stepQ, stepR, h]
  by_cases hx : x % 2 = 0
  · simp [hx]
  · have : x % 2 = 1 := by omega
    simp [this]
theorem remP_len (l : List Nat) : (remP l).1.length ≤ l.length := by
  induction l using snoc_rec with
  | nil => simp [remP]
  | snoc l x h =>
  rw [remP_snoc, stepQ]
  simp only [List.length_append, List.length_cons, List.length_nil]
  split <;> simp <;> omega
theorem remP_row_le (l : List Nat) : (remP l).2 ≤ l.length := by rw [remP_row]; exact (runP_le l).2
theorem remP_by (l : List Nat) : By (remP l).1 := by
  induction l using snoc_rec with
  | nil => exact By.nil
  | snoc l x h =>
  rw [remP_snoc, stepQ]
  dsimp only
  split
  · exact h
  · exact h.app (by intro y hy; simp at hy; omega)
theorem remB_len (l : List Nat) : (remB l).length ≤ l.length := by
  unfold remB; split
  · simp
  · exact remP_len l
theorem remB_by (l : List Nat) : By (remB l) := by
  unfold remB; split
  · exact By.nil
  · exact remP_by l
theorem run_le_best (l : List Nat) : (runP l).2 ≤ best l := by
  rw [← runP_best]
  induction l using snoc_rec with
  | nil => simp [runP]
  | snoc l x h =>
  rw [runP_snoc', stepR]
  split <;> simp <;> omega
theorem best_take (l : List Nat) (k : Nat) : best (l.take k) ≤ best l := by
  have key : ∀ m l : List Nat, best l ≤ best (l ++ m) := by
    intro m
    refine snoc_rec (P := fun m => ∀ l, best l ≤ best (l ++ m)) (by simp) ?_ m
    intro m x h l
    rw [← List.append_assoc, best_snoc]
    have := h l
    split <;> omega
  have := key (l.drop k) (l.take k)
  rwa [List.take_append_drop] at this

/-- What is left, stuffed again. -/
theorem ins_rem (l : List Nat) (h : best l ≤ 5) : insP (remP l).1 = if (remP l).2 = 5 then (lows l ++ [0], 0) else (lows l, (remP l).2) := by
  induction l using snoc_rec with
  | nil => rfl
  | snoc l x ih =>
  have hle := Nat.le_trans (run_le_best (l ++ [x])) h
  rw [← remP_row] at hle
  rw [best_snoc] at h
  have hl : best l ≤ 5 := by split at h <;> omega
  have ih := ih hl
  have hlr := run_le_best l
  rw [← remP_row] at hlr
  rw [remP_snoc] at hle ⊢
  generalize hs : remP l = s at ih hle hlr ⊢
  obtain ⟨o, r⟩ := s
  simp only at ih hle hlr
  rw [lows_app, show lows [x] = [x % 2] from rfl]
  simp only [stepQ] at hle ⊢
  by_cases hx : x % 2 = 0
  · simp only [hx, if_true] at hle ⊢
    by_cases hr : r = 5
    · rw [if_pos hr] at ih ⊢
      simp [ih]
    · rw [if_neg hr] at ih ⊢
      rw [insP_snoc, ih, stepI]; simp
  · have hx1 : x % 2 = 1 := by omega
    rw [if_neg hx] at hle ⊢
    have hr : r ≠ 5 := by omega
    rw [if_neg hr] at ih ⊢
    rw [insP_snoc, ih, hx1, stepI]
    by_cases h4 : r = 4
    · subst h4; simp
    · have : r + 1 ≠ 5 := by omega
      simp [h4]

theorem again_len {l : List Nat} (h : best l ≤ 5) : (insB (remB l)).length = l.length ∨ (insB (remB l)).length = l.length + 1 := by
  rw [remB, if_neg (by omega), insB, ins_rem l h]
  split
  · right; simp [lows]
  · left; simp [lows]
theorem again_take {l : List Nat} (h : best l ≤ 5) : (insB (remB l)).take l.length = lows l := by
  rw [remB, if_neg (by omega), insB, ins_rem l h]
  have hl : l.length = (lows l).length := (lows_len l).symm
  split
  · rw [hl]; simp
  · rw [hl]; simp
theorem again_last {l : List Nat} (h : best l ≤ 5) (hl : (insB (remB l)).length = l.length + 1) : (insB (remB l))[l.length]? = some 0 := by
  rw [remB, if_neg (by omega), insB, ins_rem l h] at hl ⊢
  split at hl
  · rename_i h5
    rw [if_pos h5]
    rw [List.getElem?_append_right (by simp [lows])]
    simp [lows]
  · simp [lows] at hl

theorem fold_app (l : List Nat) : ∀ (o : List Nat) (r : Nat), l.foldl stepI (o, r) = (o ++ (l.foldl stepI ([], r)).1, (l.foldl stepI ([], r)).2) := by
  intro o r
  refine snoc_rec (P := fun l => ∀ o, l.foldl stepI (o, r) = (o ++ (l.foldl stepI ([], r)).1, (l.foldl stepI ([], r)).2)) (by simp) ?_ l o
  intro l x h o
  rw [List.foldl_append, List.foldl_append, h o]
  simp only [List.foldl_cons, List.foldl_nil, stepI]
  split
  · simp
  · split <;> simp
/-- Bits behind a 0 are stuffed by themselves. -/
theorem ins_join (a b : List Nat) : insB ((a ++ [0]) ++ b) = insB (a ++ [0]) ++ insB b := by
  have h0 : (insP (a ++ [0])).2 = 0 := by rw [insP_snoc]; simp [stepI]
  unfold insB
  have : insP ((a ++ [0]) ++ b) = b.foldl stepI (insP (a ++ [0])) := by rw [insP, List.foldl_append]; rfl
  rw [this]
  generalize hs : insP (a ++ [0]) = s at h0 ⊢
  obtain ⟨o, r⟩ := s
  simp only at h0
  subst h0
  rw [fold_app]; rfl

/-- What the document asks, bit by bit: do the last five that are written stand for 1s? -/
def tail5 (o : List Nat) : Prop := 5 ≤ o.length ∧ ∀ j, o.length - 5 ≤ j → j < o.length → o[j]? = some 1
theorem ends_inv (l : List Nat) : ∃ p, (insP l).1 = p ++ List.replicate (insP l).2 1 ∧ (p = [] ∨ ∃ q, p = q ++ [0]) := by
  induction l using snoc_rec with
  | nil => exact ⟨[], rfl, .inl rfl⟩
  | snoc l x ih =>
  obtain ⟨p, h1, h2⟩ := ih
  rw [insP_snoc, stepI]
  by_cases hx : x % 2 = 0
  · rw [if_pos hx]; exact ⟨(insP l).1 ++ [0], by simp, .inr ⟨_, rfl⟩⟩
  · rw [if_neg hx]
    by_cases hr : (insP l).2 = 4
    · rw [if_pos hr]; exact ⟨(insP l).1 ++ [1] ++ [0], by simp, .inr ⟨_, rfl⟩⟩
    · rw [if_neg hr]; exact ⟨p, by simp only; rw [h1, List.replicate_succ', List.append_assoc], h2⟩
theorem tail_yes {l : List Nat} (hr : (insP l).2 = 4) : tail5 ((insP l).1 ++ [1]) := by
  obtain ⟨p, h1, _⟩ := ends_inv l
  rw [h1, hr]
  refine ⟨by simp, fun j hj hlt => ?_⟩
  simp only [List.append_assoc, List.length_append, List.length_replicate, List.length_cons, List.length_nil] at hj hlt
  rw [List.append_assoc, List.getElem?_append_right (by omega)]
  have : List.replicate 4 1 ++ [1] = List.replicate 5 1 := rfl
  rw [this, List.getElem?_replicate, if_pos (by omega)]
theorem tail_no0 (o : List Nat) : ¬ tail5 (o ++ [0]) := by
  intro h
  have := h.2 o.length (by simp) (by simp)
  simp at this
theorem tail_no1 {l : List Nat} (hr : (insP l).2 ≠ 4) : ¬ tail5 ((insP l).1 ++ [1]) := by
  intro h
  have hr4 := ins_row l
  obtain ⟨p, h1, h2⟩ := ends_inv l
  rw [h1] at h
  rcases h2 with rfl | ⟨q, rfl⟩
  · have := h.1; simp at this; omega
  · have := h.2 q.length (by simp; omega) (by simp)
    simp at this

end Go.Proofs.YtkakkligndejaaaDoor
