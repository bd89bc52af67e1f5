
/-
  Mathematics of layer 4, of lists alone: octets escaped by a map, left by a map, and read. No condition beyond: bytes below 256.
-/
import Derived.Test.YtkakkligndejaaaDoorAccm
namespace Go.Proofs.YtkakkligndejaaaDoor

/-- An octet by exclusive or with 20 (base 16). -/
def turn (c : Nat) : Nat := c ^^^ 32
/-- An octet, escaped where it must be. -/
def escB (m c : Nat) : List Nat := if mustB m c then [125, turn c] else [c]
def esc (m : Nat) (l : List Nat) : List Nat := l.flatMap (escB m)
def leftB (m : Nat) (l : List Nat) : List Nat := l.filter fun c => !hasB m c
/-- Reading: what was read, and is the next one escaped? -/
def rdStep (s : List Nat × Bool) (c : Nat) : List Nat × Bool := if s.2 then (s.1 ++ [turn c], false) else if c = 125 then (s.1, true) else (s.1 ++ [c], false)
def rdF (l : List Nat) : List Nat × Bool := l.foldl rdStep ([], false)
def flagIn (l : List Nat) : Bool := decide (126 ∈ l)
/-- What octets are, and the error's number. -/
def unst (m : Nat) (l : List Nat) : List Nat × Nat := if flagIn l then ([], 4) else if (rdF (leftB m l)).2 then ([], 10) else ((rdF (leftB m l)).1, 0)

theorem turn_lt {c : Nat} (h : c < 256) : turn c < 256 := Nat.xor_lt_two_pow (n := 8) h (by omega)
theorem turn_turn (c : Nat) : turn (turn c) = c := by unfold turn; rw [Nat.xor_assoc, Nat.xor_self, Nat.xor_zero]
theorem esc_nil (m : Nat) : esc m [] = [] := rfl
theorem esc_app (m : Nat) (a b : List Nat) : esc m (a ++ b) = esc m a ++ esc m b := by simp [esc]
theorem esc_one (m c : Nat) : esc m [c] = escB m c := by simp [esc]
theorem esc_cons (m c : Nat) (l : List Nat) : esc m (c :: l) = escB m c ++ esc m l := by simp [esc]
theorem esc_snoc (m c : Nat) (l : List Nat) : esc m (l ++ [c]) = esc m l ++ escB m c := by rw [esc_app, esc_one]
theorem esc_take {m k x : Nat} {l : List Nat} (h : l[k]? = some x) : esc m (l.take (k + 1)) = esc m (l.take k) ++ escB m x := by
  rw [List.take_add_one, h, Option.toList_some, esc_snoc]
theorem escB_len (m c : Nat) : (escB m c).length = if mustB m c then 2 else 1 := by unfold escB; split <;> rfl
theorem escB_yes {m c : Nat} (h : mustB m c = true) : escB m c = [125, turn c] := by simp [escB, h]
theorem escB_no {m c : Nat} (h : mustB m c = false) : escB m c = [c] := by simp [escB, h]
theorem esc_ge (m : Nat) (l : List Nat) : l.length ≤ (esc m l).length := by
  induction l with
  | nil => exact Nat.le_refl _
  | cons c t ih => rw [esc_cons, List.length_append, escB_len, List.length_cons]; split <;> omega
theorem esc_le (m : Nat) (l : List Nat) : (esc m l).length ≤ 2 * l.length := by
  induction l with
  | nil => exact Nat.le_refl _
  | cons c t ih => rw [esc_cons, List.length_append, escB_len, List.length_cons]; split <;> omega

theorem must_cases {m c : Nat} (h : mustB m c = true) : c = 125 ∨ c = 126 ∨ (c < 32 ∧ hasB m c = true) := by
  unfold mustB at h
  rw [Bool.or_eq_true, Bool.or_eq_true, decide_eq_true_iff, decide_eq_true_iff] at h
  rcases h with (h | h) | h
  · exact .inl h
  · exact .inr (.inl h)
  · refine .inr (.inr ⟨?_, h⟩)
    unfold hasB at h
    rw [Bool.and_eq_true, decide_eq_true_iff] at h
    exact h.1
theorem turn_small {c : Nat} (h : c < 32) : turn c = c + 32 := by
  unfold turn
  apply Nat.eq_of_testBit_eq
  intro i
  rw [show c + 32 = 2 ^ 5 * 1 + c by omega, Nat.testBit_two_pow_mul_add _ (show c < 2 ^ 5 from h), Nat.testBit_xor, show (32 : Nat) = 2 ^ 5 from rfl, Nat.testBit_two_pow]
  by_cases hi : i < 5
  · have : ¬ 5 = i := by omega
    simp [hi, this]
  · rw [Nat.testBit_lt_two_pow (show c < 2 ^ i from Nat.lt_of_lt_of_le (show c < 2 ^ 5 from h) (Nat.pow_le_pow_right (n := 2) (by omega) (by omega)))]
    by_cases h5 : i = 5
    · subst h5; simp
    · have : ¬ 5 = i := by omega
      have h3 : i - 5 ≠ 0 := by omega
      have h4 : Nat.testBit 1 (i - 5) = false := Nat.testBit_lt_two_pow (Nat.one_lt_two_pow h3)
      simp [hi, this, h4]
theorem turn_must {m c : Nat} (h : mustB m c = true) : 32 ≤ turn c ∧ turn c ≤ 94 := by
  rcases must_cases h with rfl | rfl | ⟨h1, _⟩
  · decide
  · decide
  · rw [turn_small h1]; omega
theorem has_small {m c : Nat} (h : 32 ≤ c) : hasB m c = false := by
  unfold hasB
  have : ¬ c < 32 := by omega
  simp [this]
theorem has_lt {m c : Nat} (h : hasB m c = true) : c < 32 := by
  rcases Nat.lt_or_ge c 32 with h1 | h1
  · exact h1
  · rw [has_small h1] at h; cases h
theorem must_no {m c : Nat} (h : mustB m c = false) : c ≠ 125 ∧ c ≠ 126 ∧ hasB m c = false := by
  unfold mustB at h
  rw [Bool.or_eq_false_iff, Bool.or_eq_false_iff, decide_eq_false_iff_not, decide_eq_false_iff_not] at h
  exact ⟨h.1.1, h.1.2, h.2⟩
/-- What stands in what was escaped. -/
theorem esc_mem {m x : Nat} {l : List Nat} (h : x ∈ esc m l) : x = 125 ∨ (32 ≤ x ∧ x ≤ 94) ∨ (x ∈ l ∧ x ≠ 125 ∧ x ≠ 126 ∧ hasB m x = false) := by
  unfold esc at h
  rw [List.mem_flatMap] at h
  obtain ⟨c, hc, hx⟩ := h
  cases hm : mustB m c
  · rw [escB_no hm, List.mem_singleton] at hx
    subst hx
    exact .inr (.inr ⟨hc, must_no hm⟩)
  · rw [escB_yes hm] at hx
    rcases List.mem_cons.1 hx with rfl | hx
    · exact .inl rfl
    · rw [List.mem_singleton] at hx
      subst hx
      exact .inr (.inl (turn_must hm))
theorem esc_by {m : Nat} {l : List Nat} (h : By l) : By (esc m l) := by
  intro x hx
  rcases esc_mem hx with rfl | h1 | h1
  · omega
  · omega
  · exact h x h1.1
theorem esc_ne {m x : Nat} {l : List Nat} (h : x ∈ esc m l) : x ≠ 126 ∧ hasB m x = false := by
  rcases esc_mem h with rfl | h1 | h1
  · exact ⟨by omega, has_small (by omega)⟩
  · exact ⟨by omega, has_small h1.1⟩
  · exact ⟨h1.2.2.1, h1.2.2.2⟩

theorem rdStep_from (x y : List Nat) (s : Bool) (c : Nat) : rdStep (x ++ y, s) c = (x ++ (rdStep (y, s) c).1, (rdStep (y, s) c).2) := by
  unfold rdStep
  cases s
  · by_cases h : c = 125 <;> simp [h]
  · simp
theorem fold_from (l : List Nat) : ∀ (x y : List Nat) (s : Bool), l.foldl rdStep (x ++ y, s) = (x ++ (l.foldl rdStep (y, s)).1, (l.foldl rdStep (y, s)).2) := by
  induction l with
  | nil => intro x y s; rfl
  | cons c t ih =>
    intro x y s
    rw [List.foldl_cons, List.foldl_cons, rdStep_from, ih]
theorem rdF_snoc (l : List Nat) (c : Nat) : rdF (l ++ [c]) = rdStep (rdF l) c := by simp [rdF]
theorem rdF_take {l : List Nat} {k x : Nat} (h : l[k]? = some x) : rdF (l.take (k + 1)) = rdStep (rdF (l.take k)) x := by
  rw [List.take_add_one, h, Option.toList_some, rdF_snoc]
theorem rdF_app {a b : List Nat} (h : (rdF a).2 = false) : rdF (a ++ b) = ((rdF a).1 ++ (rdF b).1, (rdF b).2) := by
  have e : rdF a = ((rdF a).1 ++ [], false) := by rw [List.append_nil, ← h]
  unfold rdF at e ⊢
  rw [List.foldl_append, e, fold_from]
  simp
theorem rdF_len (l : List Nat) : (rdF l).1.length ≤ l.length := by
  have key : ∀ (l : List Nat) (s : List Nat × Bool), (l.foldl rdStep s).1.length ≤ s.1.length + l.length := by
    intro l
    induction l with
    | nil => intro s; exact Nat.le_refl _
    | cons c t ih =>
      intro s
      rw [List.foldl_cons]
      have h1 := ih (rdStep s c)
      have h2 : (rdStep s c).1.length ≤ s.1.length + 1 := by
        unfold rdStep
        cases s.2
        · by_cases h : c = 125 <;> simp [h]
        · simp
      rw [List.length_cons]
      omega
  have := key l ([], false)
  simpa [rdF] using this
theorem rdF_by {l : List Nat} (h : By l) : By (rdF l).1 := by
  have key : ∀ (l : List Nat), By l → ∀ (s : List Nat × Bool), By s.1 → By (l.foldl rdStep s).1 := by
    intro l
    induction l with
    | nil => intro _ s hs; exact hs
    | cons c t ih =>
      intro hl s hs
      rw [List.foldl_cons]
      refine ih (fun x hx => hl x (List.mem_cons_of_mem _ hx)) _ ?_
      have hc := hl c (List.mem_cons_self ..)
      unfold rdStep
      split
      · refine hs.app ?_
        intro x hx
        rw [List.mem_singleton] at hx
        subst hx
        exact turn_lt hc
      · split
        · exact hs
        · refine hs.app ?_
          intro x hx
          rw [List.mem_singleton] at hx
          subst hx
          exact hc
  exact key l h _ By.nil
theorem rdF_escB (m c : Nat) : rdF (escB m c) = ([c], false) := by
  cases h : mustB m c
  · rw [escB_no h]
    simp [rdF, rdStep, (must_no h).1]
  · rw [escB_yes h]
    simp [rdF, rdStep, turn_turn]
theorem rdF_esc (m : Nat) (l : List Nat) : rdF (esc m l) = (l, false) := by
  induction l with
  | nil => rfl
  | cons c t ih => rw [esc_cons, rdF_app (by rw [rdF_escB]), rdF_escB, ih]; rfl

theorem leftB_len (m : Nat) (l : List Nat) : (leftB m l).length ≤ l.length := List.length_filter_le _ _
theorem leftB_by {m : Nat} {l : List Nat} (h : By l) : By (leftB m l) := fun x hx => h x (List.mem_filter.1 hx).1
theorem leftB_app (m : Nat) (a b : List Nat) : leftB m (a ++ b) = leftB m a ++ leftB m b := by simp [leftB]
theorem leftB_take {m k x : Nat} {l : List Nat} (h : l[k]? = some x) : leftB m (l.take (k + 1)) = leftB m (l.take k) ++ (if hasB m x then [] else [x]) := by
  rw [List.take_add_one, h, Option.toList_some, leftB_app]
  congr 1
  cases hx : hasB m x <;> simp [leftB, hx]
theorem leftB_all {m : Nat} {l : List Nat} (h : ∀ x ∈ l, hasB m x = false) : leftB m l = l := by
  unfold leftB
  rw [List.filter_eq_self]
  intro x hx
  simp [h x hx]
theorem leftB_mem {m x : Nat} {l : List Nat} (h : x ∈ leftB m l) : x ∈ l ∧ hasB m x = false := by
  have := List.mem_filter.1 h
  exact ⟨this.1, by simpa using this.2⟩

/-- What was escaped by a map is read, by one within it, as it was. -/
theorem unst_esc {m n : Nat} (l : List Nat) (hw : ∀ c, hasB n c = true → hasB m c = true) : unst n (esc m l) = (l, 0) := by
  have h1 : flagIn (esc m l) = false := by
    unfold flagIn
    rw [decide_eq_false_iff_not]
    exact fun h => (esc_ne h).1 rfl
  have h2 : leftB n (esc m l) = esc m l := leftB_all fun x hx => by
    cases h : hasB n x
    · rfl
    · have := (esc_ne hx).2
      rw [hw x h] at this
      cases this
  unfold unst
  rw [h1, h2, rdF_esc]
  rfl
theorem unst_by {m : Nat} {l : List Nat} (h : By l) : By (unst m l).1 := by
  unfold unst
  split
  · exact By.nil
  · split
    · exact By.nil
    · exact rdF_by (leftB_by h)
theorem unst_len (m : Nat) (l : List Nat) : (unst m l).1.length ≤ l.length := by
  unfold unst
  split
  · exact Nat.zero_le _
  · split
    · exact Nat.zero_le _
    · exact Nat.le_trans (rdF_len _) (leftB_len _ _)
theorem unst_err (m : Nat) (l : List Nat) : (unst m l).2 = 0 ∨ (unst m l).1 = [] := by
  unfold unst
  split
  · exact .inr rfl
  · split
    · exact .inr rfl
    · exact .inl rfl
/-- What was read, escaped, is not longer. -/
theorem rd_least (m : Nat) (l : List Nat) (h : ∀ x ∈ l, x ≠ 126 ∧ hasB m x = false) : (esc m (rdF l).1).length + (if (rdF l).2 then 1 else 0) ≤ l.length := by
  have key : ∀ k, k ≤ l.length → (esc m (rdF (l.take k)).1).length + (if (rdF (l.take k)).2 then 1 else 0) ≤ k := by
    intro k
    induction k with
    | zero => intro _; simp [rdF, esc]
    | succ k ih =>
      intro hk
      have ih' := ih (by omega)
      have hx : l[k]? = some l[k] := List.getElem?_eq_getElem (by omega)
      have hm := h l[k] (List.getElem_mem _)
      rw [rdF_take hx]
      unfold rdStep
      cases hs : (rdF (l.take k)).2
      · rw [hs] at ih'
        by_cases h5 : l[k] = 125
        · simp only [h5]
          simp
          simp at ih'
          omega
        · simp only [h5]
          have hmu : mustB m l[k] = false := by
            unfold mustB
            simp [h5, hm.1, hm.2]
          simp [esc_snoc, escB_no hmu]
          simp at ih'
          omega
      · rw [hs] at ih'
        have h2 := escB_len m (turn l[k])
        simp [esc_snoc]
        simp at ih'
        split at h2 <;> omega
  have := key l.length (Nat.le_refl _)
  rwa [List.take_length] at this
theorem unst_least {m : Nat} {l : List Nat} (h : (unst m l).2 = 0) : (esc m (unst m l).1).length ≤ l.length := by
  unfold unst at h ⊢
  cases hf : flagIn l
  · rw [hf] at h
    rw [if_neg (by simp)] at h ⊢
    cases hs : (rdF (leftB m l)).2
    · rw [if_neg (by simp)]
      have h1 := rd_least m (leftB m l) (fun x hx => ⟨fun e => by
        subst e
        unfold flagIn at hf
        rw [decide_eq_false_iff_not] at hf
        exact hf (leftB_mem hx).1, (leftB_mem hx).2⟩)
      rw [hs] at h1
      have h2 := leftB_len m l
      simp at h1
      show (esc m (rdF (leftB m l)).1).length ≤ _
      omega
    · rw [hs] at h
      simp at h
  · rw [hf] at h
    simp at h
/-- Octets of the map that come in change nothing. -/
theorem unst_noise {m c : Nat} (a b : List Nat) (h : hasB m c = true) : unst m (a ++ c :: b) = unst m (a ++ b) := by
  have hc := has_lt h
  have h1 : flagIn (a ++ c :: b) = flagIn (a ++ b) := by
    have : ¬ 126 = c := by omega
    unfold flagIn
    simp [this]
  have h2 : leftB m (a ++ c :: b) = leftB m (a ++ b) := by simp [leftB, h]
  unfold unst
  rw [h1, h2]
theorem unst_join {m : Nat} (a b : List Nat) (h : (unst m a).2 = 0) : (unst m (a ++ b)).2 = (unst m b).2 ∧ ((unst m b).2 = 0 → (unst m (a ++ b)).1 = (unst m a).1 ++ (unst m b).1) := by
  unfold unst at h ⊢
  cases hf : flagIn a
  · rw [hf] at h
    have h1 : flagIn (a ++ b) = flagIn b := by
      unfold flagIn at hf ⊢
      rw [decide_eq_false_iff_not] at hf
      simp [hf]
    rw [if_neg (by simp)] at h
    cases hs : (rdF (leftB m a)).2
    · rw [h1, leftB_app, rdF_app hs]
      cases flagIn b <;> cases (rdF (leftB m b)).2 <;> simp
    · rw [hs] at h
      simp at h
  · rw [hf] at h
    simp at h

end Go.Proofs.YtkakkligndejaaaDoor
