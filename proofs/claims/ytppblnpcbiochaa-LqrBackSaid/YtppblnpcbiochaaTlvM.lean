
/-
  Lists of options, as lists: how they are written, what octets are as options; what is written is read so, and the other way round; one behind the other. Mathematics alone.
-/
import Derived.Test.YtppblnpcbiochaaWords
namespace Go.Proofs.Ytppblnpcbiochaa

/-- An option as it is written. -/
def encB (o : Nat × List Nat) : List Nat := o.1 :: (2 + o.2.length) :: o.2
/-- Options as they are written. -/
def putB (l : List (Nat × List Nat)) : List Nat := l.flatMap encB
/-- Has one more than 253 octets? -/
def longB (l : List (Nat × List Nat)) : Bool := l.any fun o => decide (253 < o.2.length)
/-- How many octets all options have. -/
def datB (l : List (Nat × List Nat)) : Nat := (l.map fun o => o.2.length).sum
/-- Types and data of bytes. -/
def ByO (l : List (Nat × List Nat)) : Prop := ∀ o ∈ l, o.1 < 256 ∧ By o.2
/-- How many octets the first option has, and an error's number. -/
def stepB : List Nat → Nat × Nat
  | [] => (0, 2)
  | [_] => (0, 2)
  | _ :: y :: t => if y < 2 then (0, 4) else if t.length + 2 < y then (0, 2) else (y, 0)
/-- Options ahead of what the rest is. -/
def addB (acc : List (Nat × List Nat)) (r : List (Nat × List Nat) × Nat) : List (Nat × List Nat) × Nat := if r.2 = 0 then (acc ++ r.1, 0) else ([], r.2)
/-- What octets are, in at most so many steps. -/
def getF : Nat → List Nat → List (Nat × List Nat) × Nat
  | 0, _ => ([], 0)
  | n + 1, b => if b = [] then ([], 0) else if (stepB b).2 = 0 then addB [(b.headD 0, (b.take (stepB b).1).drop 2)] (getF n (b.drop (stepB b).1)) else ([], (stepB b).2)
/-- What octets are: options, and an error's number. -/
def getB (b : List Nat) : List (Nat × List Nat) × Nat := getF b.length b

theorem step_ok {b : List Nat} (h : (stepB b).2 = 0) : 2 ≤ (stepB b).1 ∧ (stepB b).1 ≤ b.length ∧ b[1]? = some (stepB b).1 := by
  match b with
  | [] => simp [stepB] at h
  | [_] => simp [stepB] at h
  | _ :: y :: t =>
    simp only [stepB] at h ⊢
    split at h
    · simp at h
    · rename_i h1
      split at h
      · simp at h
      · rename_i h2
        simp only [h1, h2, if_false]
        exact ⟨by omega, by simp only [List.length_cons]; omega, rfl⟩
theorem getF_more : ∀ (n : Nat) (b : List Nat), b.length ≤ n → getF n b = getF b.length b
  | 0, b, h => by rw [show b.length = 0 by omega]
  | n + 1, b, h => by
    match b with
    | [] => rfl
    | x :: t =>
      show getF (n + 1) (x :: t) = getF (t.length + 1) (x :: t)
      by_cases hs : (stepB (x :: t)).2 = 0
      · have h2 := step_ok hs
        simp only [getF, hs, if_true, reduceCtorEq, if_false]
        have e : ((x :: t).drop (stepB (x :: t)).1).length ≤ t.length := by rw [List.length_drop, List.length_cons]; omega
        have e2 : t.length ≤ n := by simpa using h
        rw [getF_more n _ (Nat.le_trans e e2), ← getF_more t.length _ e]
      · simp only [getF, hs, reduceCtorEq, if_false]
termination_by n => n
decreasing_by
  all_goals simp_all
  all_goals omega
theorem get_nil : getB [] = ([], 0) := rfl
theorem get_bad {b : List Nat} (hb : b ≠ []) (h : (stepB b).2 ≠ 0) : getB b = ([], (stepB b).2) := by
  match b, hb with
  | x :: t, _ =>
    show getF (t.length + 1) (x :: t) = _
    simp only [getF, h, reduceCtorEq, if_false]
theorem get_ok {b : List Nat} (h : (stepB b).2 = 0) : getB b = addB [(b.headD 0, (b.take (stepB b).1).drop 2)] (getB (b.drop (stepB b).1)) := by
  have h2 := step_ok h
  match b with
  | [] => simp [stepB] at h
  | x :: t =>
    show getF (t.length + 1) (x :: t) = _
    simp only [getF, h, if_true, reduceCtorEq, if_false]
    rw [getF_more t.length _ (by rw [List.length_drop, List.length_cons]; omega)]
    rfl
theorem add_add (a c : List (Nat × List Nat)) (r : List (Nat × List Nat) × Nat) : addB a (addB c r) = addB (a ++ c) r := by
  unfold addB
  split <;> simp_all
theorem add_nil (r : List (Nat × List Nat) × Nat) (h : r.2 ≠ 0 → r.1 = []) : addB [] r = r := by
  unfold addB
  split
  · rename_i h0; rw [← h0]; rfl
  · rename_i h0; rw [← h h0]
/-- Octets, by their first option. -/
theorem get_ind (C : List Nat → Prop) (h0 : C []) (h1 : ∀ b, b ≠ [] → (stepB b).2 ≠ 0 → C b) (h2 : ∀ b, (stepB b).2 = 0 → C (b.drop (stepB b).1) → C b) : ∀ b, C b := by
  have key : ∀ n (b : List Nat), b.length ≤ n → C b := by
    intro n
    induction n with
    | zero => intro b hb; obtain rfl : b = [] := List.eq_nil_of_length_eq_zero (by omega); exact h0
    | succ n ih =>
      intro b hb
      by_cases hn : b = []
      · rw [hn]; exact h0
      · by_cases hs : (stepB b).2 = 0
        · have := step_ok hs
          exact h2 b hs (ih _ (by rw [List.length_drop]; omega))
        · exact h1 b hn hs
  exact fun b => key _ b (Nat.le_refl _)
theorem get_err (b : List Nat) : (getB b).2 ≠ 0 → (getB b).1 = [] := by
  refine get_ind (fun b => (getB b).2 ≠ 0 → (getB b).1 = []) (fun h => rfl) (fun b hb hs _ => by rw [get_bad hb hs]) (fun b hs ih h => ?_) b
  rw [get_ok hs] at h ⊢
  unfold addB at h ⊢
  split at h
  · simp at h
  · rename_i h3; rw [if_neg h3]
theorem get_code (b : List Nat) : (getB b).2 = 0 ∨ (getB b).2 = 2 ∨ (getB b).2 = 4 := by
  refine get_ind (fun b => (getB b).2 = 0 ∨ (getB b).2 = 2 ∨ (getB b).2 = 4) (.inl rfl) (fun b hb hs => ?_) (fun b hs ih => ?_) b
  · rw [get_bad hb hs]
    match b, hb with
    | [_], _ => exact .inr (.inl rfl)
    | _ :: y :: t, _ =>
      simp only [stepB] at hs ⊢
      split at hs
      · rename_i h1; rw [if_pos h1]; exact .inr (.inr rfl)
      · rename_i h1
        rw [if_neg h1]
        split at hs
        · rename_i h2; rw [if_pos h2]; exact .inr (.inl rfl)
        · simp at hs
  · rw [get_ok hs]
    unfold addB
    split
    · exact .inl rfl
    · exact ih
/-- Octets behind octets that are options. -/
theorem get_app (b d : List Nat) (h : (getB b).2 = 0) : getB (b ++ d) = addB (getB b).1 (getB d) := by
  revert h
  refine get_ind (fun b => (getB b).2 = 0 → getB (b ++ d) = addB (getB b).1 (getB d)) (fun _ => ?_) (fun b hb hs h => ?_) (fun b hs ih h => ?_) b
  · rw [get_nil]
    show getB d = _
    rw [add_nil _ (get_err d)]
  · rw [get_bad hb hs] at h
    exact absurd h hs
  · have hk := step_ok hs
    have hsb : stepB (b ++ d) = stepB b := by
      match b with
      | [] => simp [stepB] at hs
      | [_] => simp [stepB] at hs
      | x :: y :: t =>
        simp only [stepB, List.cons_append, List.length_append] at hs ⊢
        split
        · rfl
        · rename_i h1
          rw [if_neg h1] at hs
          split at hs
          · simp at hs
          · rename_i h2; rw [if_neg h2, if_neg (by omega)]
    have hr : (getB (b.drop (stepB b).1)).2 = 0 := by
      rw [get_ok hs] at h
      unfold addB at h
      split at h
      · assumption
      · exact h
    rw [get_ok (b := b ++ d) (by rw [hsb]; exact hs), hsb, List.drop_append_of_le_length hk.2.1, List.take_append_of_le_length hk.2.1, ih hr, add_add]
    have hh : (b ++ d).headD 0 = b.headD 0 := by
      match b with
      | [] => simp [stepB] at hs
      | _ :: _ => rfl
    rw [hh, get_ok hs]
    congr 1
    unfold addB
    rw [if_pos hr]
theorem put_nil : putB [] = [] := rfl
theorem put_cons (o : Nat × List Nat) (l : List (Nat × List Nat)) : putB (o :: l) = encB o ++ putB l := rfl
theorem put_app (l m : List (Nat × List Nat)) : putB (l ++ m) = putB l ++ putB m := by simp [putB]
theorem long_app (l m : List (Nat × List Nat)) : longB (l ++ m) = (longB l || longB m) := by simp [longB]
theorem put_len (l : List (Nat × List Nat)) : (putB l).length = 2 * l.length + datB l := by
  induction l with
  | nil => rfl
  | cons o l ih =>
    rw [put_cons, List.length_append, ih]
    simp only [encB, List.length_cons, datB, List.map_cons, List.sum_cons]
    omega
theorem enc_step (o : Nat × List Nat) (r : List Nat) : stepB (encB o ++ r) = (2 + o.2.length, 0) := by
  simp only [encB, List.cons_append, stepB]
  rw [if_neg (by omega), if_neg (by rw [List.length_append]; omega)]
/-- What is written is read so. -/
theorem get_put (l : List (Nat × List Nat)) : getB (putB l) = (l, 0) := by
  induction l with
  | nil => rfl
  | cons o l ih =>
    have hs := enc_step o (putB l)
    rw [put_cons, get_ok (by rw [hs]), hs]
    have hl : (encB o).length = 2 + o.2.length := by simp only [encB, List.length_cons]; omega
    show addB [((encB o ++ putB l).headD 0, ((encB o ++ putB l).take (2 + o.2.length)).drop 2)] (getB ((encB o ++ putB l).drop (2 + o.2.length))) = (o :: l, 0)
    rw [← hl, List.drop_left, List.take_left, ih]
    rfl
/-- What is read is written so. -/
theorem put_get (b : List Nat) (hb : By b) (h : (getB b).2 = 0) : putB (getB b).1 = b ∧ longB (getB b).1 = false ∧ ByO (getB b).1 := by
  revert hb h
  refine get_ind (fun b => By b → (getB b).2 = 0 → putB (getB b).1 = b ∧ longB (getB b).1 = false ∧ ByO (getB b).1) (fun _ _ => ⟨rfl, rfl, fun _ h => by cases h⟩) (fun b hb hs _ h => ?_) (fun b hs ih hb h => ?_) b
  · rw [get_bad hb hs] at h
    exact absurd h hs
  · have hk := step_ok hs
    have hr : (getB (b.drop (stepB b).1)).2 = 0 := by
      rw [get_ok hs] at h
      unfold addB at h
      split at h
      · assumption
      · exact h
    obtain ⟨i1, i2, i3⟩ := ih (hb.drop _) hr
    rw [get_ok hs]
    unfold addB
    rw [if_pos hr]
    generalize he : (stepB b).1 = e at *
    have hlen : ((b.take e).drop 2).length = e - 2 := by rw [List.length_drop, List.length_take]; omega
    have he2 : e < 256 := hb.get hk.2.2
    refine ⟨?_, ?_, ?_⟩
    · show putB ((b.headD 0, (b.take e).drop 2) :: (getB (b.drop e)).1) = b
      rw [put_cons, i1]
      match b, hk with
      | x :: y :: t, hk =>
        have hy : y = e := by have := hk.2.2; simpa using this
        subst hy
        have h2 : y = (y - 2) + 2 := by omega
        simp only [encB, hlen, List.headD_cons]
        rw [show 2 + (y - 2) = y by omega]
        conv => lhs; rw [h2]
        rw [List.take_succ_cons, List.take_succ_cons, List.drop_succ_cons, List.drop_succ_cons, List.drop_succ_cons, List.drop_succ_cons, List.drop_zero]
        rw [← h2]
        simp
    · show longB ((b.headD 0, (b.take e).drop 2) :: (getB (b.drop e)).1) = false
      have : ¬ 253 < ((b.take e).drop 2).length := by omega
      simp only [longB, List.any_cons, Bool.or_eq_false_iff, decide_eq_false_iff_not]
      exact ⟨this, i2⟩
    · show ByO ((b.headD 0, (b.take e).drop 2) :: (getB (b.drop e)).1)
      intro o ho
      rcases List.mem_cons.1 ho with rfl | ho
      · refine ⟨?_, (hb.take e).drop 2⟩
        match b, hk with
        | x :: _, _ => exact hb x (List.mem_cons_self ..)
      · exact i3 o ho
theorem ByO.app {l m : List (Nat × List Nat)} (h : ByO l) (k : ByO m) : ByO (l ++ m) := fun o ho => (List.mem_append.1 ho).elim (h o) (k o)
theorem put_by {l : List (Nat × List Nat)} (h : ByO l) (hl : longB l = false) : By (putB l) := by
  induction l with
  | nil => exact By.nil
  | cons o l ih =>
    have hl' : ¬ 253 < o.2.length ∧ longB l = false := by simpa only [longB, List.any_cons, Bool.or_eq_false_iff, decide_eq_false_iff_not] using hl
    rw [put_cons]
    refine By.app ?_ (ih (fun x hx => h x (List.mem_cons_of_mem _ hx)) hl'.2)
    intro x hx
    have ho := h o (List.mem_cons_self ..)
    rcases List.mem_cons.1 hx with rfl | hx
    · exact ho.1
    · rcases List.mem_cons.1 hx with rfl | hx
      · omega
      · exact ho.2 x hx
/-- Options that octets are have fewer octets. -/
theorem get_len (b : List Nat) (hb : By b) : 2 * (getB b).1.length + datB (getB b).1 ≤ b.length := by
  by_cases h : (getB b).2 = 0
  · rw [← put_len, (put_get b hb h).1]; exact Nat.le_refl _
  · rw [get_err b h]; exact Nat.zero_le _
theorem dat_app (l m : List (Nat × List Nat)) : datB (l ++ m) = datB l + datB m := by simp [datB]
theorem dat_at {l : List (Nat × List Nat)} {k : Nat} {o : Nat × List Nat} (h : l[k]? = some o) : datB (l.take (k + 1)) = datB (l.take k) + o.2.length := by
  rw [List.take_add_one, h, Option.toList_some, dat_app]; simp [datB]
theorem dat_take (l : List (Nat × List Nat)) (k : Nat) : datB (l.take k) ≤ datB l := by
  have e : datB l = datB (l.take k) + datB (l.drop k) := by rw [← dat_app, List.take_append_drop]
  omega
theorem dat_le {l : List (Nat × List Nat)} {k : Nat} {o : Nat × List Nat} (h : l[k]? = some o) : o.2.length ≤ datB l := by
  have := dat_at h; have := dat_take l (k + 1); omega
theorem put_at {l : List (Nat × List Nat)} {k : Nat} {o : Nat × List Nat} (h : l[k]? = some o) : putB (l.take (k + 1)) = putB (l.take k) ++ encB o := by
  rw [List.take_add_one, h, Option.toList_some, put_app]; simp [putB]
theorem ByO.at_ {l : List (Nat × List Nat)} (h : ByO l) {k : Nat} {o : Nat × List Nat} (hk : l[k]? = some o) : o.1 < 256 ∧ By o.2 := h o (List.mem_of_getElem? hk)
theorem long_at {l : List (Nat × List Nat)} (h : longB l = false) {k : Nat} {o : Nat × List Nat} (hk : l[k]? = some o) : o.2.length ≤ 253 := by
  have := List.any_eq_false.1 h o (List.mem_of_getElem? hk)
  simpa using this
end Go.Proofs.Ytppblnpcbiochaa
