
/-
  Mathematics of layer 5, of lists alone: what a deframer keeps, and tells, octet by octet; and what the document says of a whole stream. No condition.
-/
import Derived.Test.YtdpkccbcfedhbaaStfB
namespace Go.Proofs.Ytdpkccbcfedhbaa

/-- A segment told: its kind and its octets. -/
abbrev Sg := Nat × List Nat
/-- What a deframer keeps: the octets read, is the next one escaped, are they too many. -/
structure St where
  held : List Nat
  esc : Bool
  long : Bool
def St.start : St := ⟨[], false, false⟩
def St.tell (s : St) : List Sg := if s.esc then [(2, [])] else if s.long then [(4, [])] else if s.held = [] then [] else [(0, s.held)]
def St.keep (most : Nat) (s : St) (c : Nat) : St := if s.long = true ∨ most ≤ s.held.length then ⟨[], s.esc, true⟩ else ⟨s.held ++ [c], s.esc, s.long⟩
def stp (m most : Nat) (s : St) (c : Nat) : St × List Sg :=
  if c = 126 then (St.start, s.tell) else if hasB m c then (s, []) else if s.esc then (St.keep most ⟨s.held, false, s.long⟩ (turn c), [])
  else if c = 125 then (⟨s.held, true, s.long⟩, []) else (s.keep most c, [])
def run (m most : Nat) (s : St) : List Nat → St × List Sg
  | [] => (s, [])
  | c :: t => ((run m most (stp m most s c).1 t).1, (stp m most s c).2 ++ (run m most (stp m most s c).1 t).2)
/-- What is kept may be kept. -/
def St.ok (most : Nat) (s : St) : Prop := By s.held ∧ s.held.length ≤ most ∧ (s.long = true → s.held = [])

theorem run_nil (m most : Nat) (s : St) : run m most s [] = (s, []) := rfl
theorem run_cons (m most : Nat) (s : St) (c : Nat) (t : List Nat) : run m most s (c :: t) = ((run m most (stp m most s c).1 t).1, (stp m most s c).2 ++ (run m most (stp m most s c).1 t).2) := rfl
theorem run_one (m most : Nat) (s : St) (c : Nat) : run m most s [c] = stp m most s c := by simp [run]
theorem run_app (m most : Nat) (a : List Nat) : ∀ (s : St) (b : List Nat), run m most s (a ++ b) = ((run m most (run m most s a).1 b).1, (run m most s a).2 ++ (run m most (run m most s a).1 b).2) := by
  induction a with
  | nil => intro s b; rfl
  | cons c t ih => intro s b; rw [List.cons_append, run_cons, ih, run_cons, List.append_assoc]
theorem run_take {m most k x : Nat} {s : St} {l : List Nat} (h : l[k]? = some x) : run m most s (l.take (k + 1)) = ((stp m most (run m most s (l.take k)).1 x).1, (run m most s (l.take k)).2 ++ (stp m most (run m most s (l.take k)).1 x).2) := by
  rw [List.take_add_one, h, Option.toList_some, run_app, run_one]

theorem ok_start (most : Nat) : St.start.ok most := ⟨By.nil, Nat.zero_le _, fun _ => rfl⟩
theorem ok_keep {most c : Nat} {s : St} (h : s.ok most) (hc : c < 256) : (s.keep most c).ok most := by
  unfold St.keep
  split
  · exact ⟨By.nil, Nat.zero_le _, fun _ => rfl⟩
  · rename_i hn
    refine ⟨h.1.app (by intro x hx; rw [List.mem_singleton] at hx; omega), ?_, ?_⟩
    · show (s.held ++ [c]).length ≤ most
      rw [List.length_append, List.length_singleton]; omega
    · intro hl
      exact absurd (.inl hl) hn
theorem ok_stp {m most c : Nat} {s : St} (h : s.ok most) (hc : c < 256) : (stp m most s c).1.ok most := by
  unfold stp
  split
  · exact ok_start _
  split
  · exact h
  split
  · exact ok_keep (s := ⟨s.held, false, s.long⟩) h (turn_lt hc)
  split
  · exact h
  · exact ok_keep h hc
theorem ok_run {m most : Nat} (l : List Nat) : ∀ {s : St}, s.ok most → By l → (run m most s l).1.ok most := by
  induction l with
  | nil => intro s h _; exact h
  | cons c t ih => intro s h hb; exact ih (ok_stp h (hb c (by simp))) (fun x hx => hb x (by simp [hx]))

/-- What is told may be told. -/
def Sg.ok (most : Nat) (s : Sg) : Prop := By s.2 ∧ s.2.length ≤ most ∧ ((s.1 = 0 ∧ s.2 ≠ []) ∨ (s.1 ≠ 0 ∧ s.1 ≤ 4 ∧ s.2 = []))
theorem tell_ok {most : Nat} {s : St} (h : s.ok most) : ∀ x ∈ s.tell, x.ok most := by
  intro x hx
  unfold St.tell at hx
  split at hx
  · rw [List.mem_singleton] at hx; subst hx; exact ⟨By.nil, Nat.zero_le _, .inr ⟨by decide, by decide, rfl⟩⟩
  split at hx
  · rw [List.mem_singleton] at hx; subst hx; exact ⟨By.nil, Nat.zero_le _, .inr ⟨by decide, by decide, rfl⟩⟩
  split at hx
  · cases hx
  · rename_i hn
    rw [List.mem_singleton] at hx; subst hx; exact ⟨h.1, h.2.1, .inl ⟨rfl, hn⟩⟩
theorem tell_len (s : St) : s.tell.length ≤ 1 := by
  unfold St.tell
  split
  · exact Nat.le_refl _
  split
  · exact Nat.le_refl _
  split
  · exact Nat.zero_le _
  · exact Nat.le_refl _
theorem stp_told {m most c : Nat} {s : St} : (stp m most s c).2 = if c = 126 then s.tell else [] := by
  unfold stp
  split
  · rfl
  split
  · rfl
  split
  · rfl
  split <;> rfl
theorem run_ok {m most : Nat} (l : List Nat) : ∀ {s : St}, s.ok most → By l → ∀ x ∈ (run m most s l).2, x.ok most := by
  induction l with
  | nil => intro s _ _ x hx; cases hx
  | cons c t ih =>
    intro s h hb x hx
    rw [run_cons] at hx
    rcases List.mem_append.1 hx with h1 | h1
    · rw [stp_told] at h1
      split at h1
      · exact tell_ok h x h1
      · cases h1
    · exact ih (ok_stp h (hb c (by simp))) (fun y hy => hb y (by simp [hy])) x h1
def flags (l : List Nat) : Nat := (l.filter fun c => decide (c = 126)).length
theorem flags_nil : flags [] = 0 := rfl
theorem flags_cons (c : Nat) (t : List Nat) : flags (c :: t) = (if c = 126 then 1 else 0) + flags t := by
  unfold flags
  rw [List.filter_cons]
  by_cases h : c = 126
  · simp [h]; omega
  · simp [h]
theorem flags_take {l : List Nat} {k x : Nat} (h : l[k]? = some x) : flags (l.take (k + 1)) = flags (l.take k) + if x = 126 then 1 else 0 := by
  unfold flags
  rw [List.take_add_one, h, Option.toList_some, List.filter_append, List.length_append]
  by_cases hx : x = 126
  · subst hx; rfl
  · simp [hx]
theorem flags_le (l : List Nat) : flags l ≤ l.length := List.length_filter_le _ _
theorem run_flags {m most : Nat} (l : List Nat) : ∀ {s : St}, (run m most s l).2.length ≤ flags l := by
  induction l with
  | nil => intro s; exact Nat.le_refl _
  | cons c t ih =>
    intro s
    rw [run_cons, List.length_append, flags_cons, stp_told]
    have h1 := ih (s := (stp m most s c).1)
    have h2 := tell_len s
    split
    · omega
    · rw [List.length_nil]; omega
def octs (l : List Sg) : Nat := (l.map fun s => s.2.length).sum
theorem octs_nil : octs [] = 0 := rfl
theorem octs_app (a b : List Sg) : octs (a ++ b) = octs a + octs b := by simp [octs]
theorem octs_take {l : List Sg} {k : Nat} {x : Sg} (h : l[k]? = some x) : octs (l.take (k + 1)) = octs (l.take k) + x.2.length := by
  rw [List.take_add_one, h, Option.toList_some, octs_app]
  simp [octs]
theorem octs_mem (l : List Sg) (k : Nat) : octs (l.take (k + 1)) ≤ octs l := by
  have e : octs l = octs (l.take (k + 1)) + octs (l.drop (k + 1)) := by rw [← octs_app, List.take_append_drop]
  omega
theorem tell_octs (s : St) : octs s.tell ≤ s.held.length := by
  unfold St.tell
  split
  · exact Nat.zero_le _
  split
  · exact Nat.zero_le _
  split
  · exact Nat.zero_le _
  · simp [octs]
theorem keep_len (most c : Nat) (s : St) : (s.keep most c).held.length ≤ s.held.length + 1 := by
  unfold St.keep
  split
  · exact Nat.zero_le _
  · simp
theorem stp_octs (m most c : Nat) (s : St) : (stp m most s c).1.held.length + octs (stp m most s c).2 + (if c = 126 then 1 else 0) ≤ s.held.length + 1 := by
  unfold stp
  by_cases h : c = 126
  · rw [if_pos h, if_pos h]
    have := tell_octs s
    show 0 + octs s.tell + 1 ≤ _
    omega
  rw [if_neg h, if_neg h]
  split
  · show s.held.length + 0 + 0 ≤ _; omega
  split
  · have := keep_len most (turn c) ⟨s.held, false, s.long⟩
    show (St.keep most ⟨s.held, false, s.long⟩ (turn c)).held.length + 0 + 0 ≤ _
    exact this
  split
  · show s.held.length + 0 + 0 ≤ _; omega
  · have := keep_len most c s
    show (s.keep most c).held.length + 0 + 0 ≤ _
    omega
theorem run_octs {m most : Nat} (l : List Nat) : ∀ {s : St}, (run m most s l).1.held.length + octs (run m most s l).2 + flags l ≤ s.held.length + l.length := by
  induction l with
  | nil => intro s; exact Nat.le_refl _
  | cons c t ih =>
    intro s
    rw [run_cons, octs_app, flags_cons, List.length_cons]
    have h1 := ih (s := (stp m most s c).1)
    have h2 := stp_octs m most c s
    show (run m most (stp m most s c).1 t).1.held.length + (octs (stp m most s c).2 + octs (run m most (stp m most s c).1 t).2) + ((if c = 126 then 1 else 0) + flags t) ≤ _
    omega
/-- The map's octets play no part. -/
theorem run_left {m most : Nat} (l : List Nat) : ∀ {s : St}, run m most s (leftB m l) = run m most s l := by
  induction l with
  | nil => intro s; rfl
  | cons c t ih =>
    intro s
    unfold leftB
    rw [List.filter_cons]
    cases hh : hasB m c
    · rw [if_pos (by rfl), run_cons, run_cons]
      have := ih (s := (stp m most s c).1)
      unfold leftB at this
      rw [this]
    · rw [if_neg (by decide), run_cons]
      have hs : stp m most s c = (s, []) := by
        have := has_lt hh
        unfold stp
        rw [if_neg (by omega), if_pos hh]
      rw [hs]
      exact ih

/-- What the document says that a segment tells. -/
def tellP (m most : Nat) (raw : List Nat) : List Sg :=
  if leftB m raw = [] then [] else if (rdF (leftB m raw)).2 then [(2, [])] else if most < (rdF (leftB m raw)).1.length then [(4, [])] else [(0, (rdF (leftB m raw)).1)]
/-- The segments of a stream, and what stands behind the last flag. -/
def partsF (l : List Nat) : List (List Nat) × List Nat := l.foldl (fun s c => if c = 126 then (s.1 ++ [s.2], []) else (s.1, s.2 ++ [c])) ([], [])
def allP (m most : Nat) (l : List Nat) : List Sg := (partsF l).1.flatMap (tellP m most)
theorem partsF_snoc (l : List Nat) (c : Nat) : partsF (l ++ [c]) = if c = 126 then ((partsF l).1 ++ [(partsF l).2], []) else ((partsF l).1, (partsF l).2 ++ [c]) := by simp [partsF]
/-- The state of what stands behind the last flag. -/
def stOf (m most : Nat) (raw : List Nat) : St :=
  if most < (rdF (leftB m raw)).1.length then ⟨[], (rdF (leftB m raw)).2, true⟩ else ⟨(rdF (leftB m raw)).1, (rdF (leftB m raw)).2, false⟩
theorem stOf_nil (m most : Nat) : stOf m most [] = St.start := by
  simp [stOf, leftB, rdF, St.start]
theorem stOf_tell {m most : Nat} (raw : List Nat) : (stOf m most raw).tell = tellP m most raw := by
  unfold stOf tellP St.tell
  by_cases h0 : leftB m raw = []
  · rw [h0]
    simp [rdF]
  · rw [if_neg h0]
    by_cases h1 : most < (rdF (leftB m raw)).1.length
    · rw [if_pos h1]
      cases (rdF (leftB m raw)).2
      · simp [h1]
      · simp
    · rw [if_neg h1]
      cases h2 : (rdF (leftB m raw)).2
      · have hne : (rdF (leftB m raw)).1 ≠ [] := by
          intro h3
          have := rd_pos h0 h2
          rw [h3] at this
          exact absurd this (by simp)
        simp [h1, hne]
      · simp
where
  rd_pos {l : List Nat} (h : l ≠ []) (h2 : (rdF l).2 = false) : 0 < (rdF l).1.length := by
    rcases List.eq_nil_or_concat l with rfl | ⟨t, x, rfl⟩
    · exact absurd rfl h
    · rw [List.concat_eq_append, rdF_snoc] at h2 ⊢
      unfold rdStep at h2 ⊢
      split
      · simp
      · rename_i hn
        rw [if_neg hn] at h2
        split
        · rename_i hx
          rw [if_pos hx] at h2
          cases h2
        · simp
theorem stOf_snoc {m most c : Nat} (raw : List Nat) (hc : c ≠ 126) : stp m most (stOf m most raw) c = (stOf m most (raw ++ [c]), []) := by
  unfold stp
  rw [if_neg hc]
  have hl : leftB m (raw ++ [c]) = if hasB m c then leftB m raw else leftB m raw ++ [c] := by
    rw [leftB_app]
    unfold leftB
    cases h : hasB m c <;> simp [h]
  cases hh : hasB m c
  · rw [if_neg (by decide)]
    rw [hh, if_neg (by decide)] at hl
    have e : stOf m most (raw ++ [c]) = if most < (rdStep (rdF (leftB m raw)) c).1.length then ⟨[], (rdStep (rdF (leftB m raw)) c).2, true⟩ else ⟨(rdStep (rdF (leftB m raw)) c).1, (rdStep (rdF (leftB m raw)) c).2, false⟩ := by
      unfold stOf
      rw [hl, rdF_snoc]
    rw [e]
    unfold stOf
    generalize rdF (leftB m raw) = q
    obtain ⟨d, e⟩ := q
    by_cases h1 : most < d.length
    · have h3 : most ≤ d.length := by omega
      have h4 : most < d.length + 1 := by omega
      cases e
      · by_cases h2 : c = 125
        · simp [rdStep, h1, h2]
        · simp [rdStep, h1, h2, h4, St.keep]
      · simp [rdStep, h1, h4, St.keep]
    · cases e
      · by_cases h2 : c = 125
        · simp [rdStep, h1, h2]
        · by_cases h5 : most ≤ d.length
          · have h4 : most < d.length + 1 := by omega
            simp [rdStep, h1, h2, h4, h5, St.keep]
          · have h4 : ¬ most < d.length + 1 := by omega
            simp [rdStep, h1, h2, h4, h5, St.keep]
      · by_cases h5 : most ≤ d.length
        · have h4 : most < d.length + 1 := by omega
          simp [rdStep, h1, h4, h5, St.keep]
        · have h4 : ¬ most < d.length + 1 := by omega
          simp [rdStep, h1, h4, h5, St.keep]
  · rw [if_pos rfl]
    rw [hh, if_pos rfl] at hl
    unfold stOf
    rw [hl]
theorem run_spec (m most : Nat) (l : List Nat) : run m most St.start l = (stOf m most (partsF l).2, allP m most l) := by
  have key : ∀ n, run m most St.start (l.take n) = (stOf m most (partsF (l.take n)).2, allP m most (l.take n)) := by
    intro n
    induction n with
    | zero => rw [List.take_zero, run_nil]; simp [allP, partsF, stOf_nil]
    | succ n ih =>
      rcases Nat.lt_or_ge n l.length with h | h
      · have hx := List.getElem?_eq_getElem h
        rw [run_take hx, ih]
        have e : l.take (n + 1) = l.take n ++ [l[n]] := by rw [List.take_add_one, hx, Option.toList_some]
        rw [e]
        unfold allP
        rw [partsF_snoc]
        by_cases hc : l[n] = 126
        · rw [if_pos hc]
          simp only
          unfold stp
          rw [if_pos hc, stOf_tell, stOf_nil]
          simp
        · rw [if_neg hc, stOf_snoc _ hc]
          simp
      · rw [List.take_of_length_le (by omega)] at ih ⊢
        exact ih
  have := key l.length
  rwa [List.take_of_length_le (Nat.le_refl _)] at this

/-- What is wrapped is told behind what the first flag ends. -/
def wrapT (most : Nat) (data : List Nat) : List Sg := if data = [] then [] else if most < data.length then [(4, [])] else [(0, data)]
theorem run_wrap {m n most : Nat} (s : St) (data : List Nat) (hw : ∀ c, hasB n c = true → hasB m c = true) :
    run n most s ([126] ++ (esc m data ++ [126])) = (St.start, s.tell ++ wrapT most data) := by
  rw [run_app, run_one]
  have h1 : stp n most s 126 = (St.start, s.tell) := by unfold stp; rw [if_pos rfl]
  rw [h1]
  have hno : ∀ x ∈ esc m data, x ≠ 126 ∧ hasB n x = false := by
    intro x hx
    refine ⟨(esc_ne hx).1, ?_⟩
    cases h : hasB n x
    · rfl
    · have := (esc_ne hx).2
      rw [hw x h] at this
      cases this
  have hp : ∀ l : List Nat, (∀ x ∈ l, x ≠ 126) → partsF l = ([], l) := by
    intro l hl
    have key : ∀ k, partsF (l.take k) = ([], l.take k) := by
      intro k
      induction k with
      | zero => rfl
      | succ k ih =>
        rcases Nat.lt_or_ge k l.length with h | h
        · have e : l.take (k + 1) = l.take k ++ [l[k]] := by rw [List.take_add_one, List.getElem?_eq_getElem h, Option.toList_some]
          rw [e, partsF_snoc, if_neg (hl _ (List.getElem_mem h)), ih]
        · rw [List.take_of_length_le (by omega)] at ih ⊢
          exact ih
    have := key l.length
    rwa [List.take_of_length_le (Nat.le_refl _)] at this
  have h2 : partsF (esc m data ++ [126]) = ([esc m data], []) := by
    rw [partsF_snoc, if_pos rfl, hp _ (fun x hx => (hno x hx).1)]
    rfl
  rw [run_spec]
  unfold allP
  rw [h2]
  simp only [List.flatMap_cons, List.flatMap_nil, List.append_nil, stOf_nil]
  have h3 : tellP n most (esc m data) = wrapT most data := by
    unfold tellP wrapT
    rw [leftB_all (fun x hx => (hno x hx).2), rdF_esc]
    by_cases h0 : data = []
    · subst h0; simp [esc]
    · have : esc m data ≠ [] := by
        intro h
        have h4 := esc_ge m data
        rw [h] at h4
        exact h0 (List.eq_nil_of_length_eq_zero (by simpa using h4))
      simp [h0, this]
  rw [h3]

end Go.Proofs.Ytdpkccbcfedhbaa
