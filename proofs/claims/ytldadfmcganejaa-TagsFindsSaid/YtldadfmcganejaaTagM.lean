
/-
  Lists of tags, as lists: how they are written, what octets begin with as tags, up to what ends a list; what is written is read so, and the other way round; a list cut off. Mathematics alone.
-/
import Derived.Test.YtldadfmcganejaaWords
namespace Go.Proofs.Ytldadfmcganejaa
set_option maxRecDepth 4000

/-- A tag as it is written. -/
def tgenc (o : Nat × List Nat) : List Nat := o.1 / 256 :: o.1 % 256 :: o.2.length / 256 :: o.2.length % 256 :: o.2
/-- Tags as they are written. -/
def tgput (l : List (Nat × List Nat)) : List Nat := l.flatMap tgenc
/-- Why tags can't be written: an error's number, of the first one that can't. -/
def tgerr : List (Nat × List Nat) → Nat
  | [] => 0
  | o :: l => if o.1 = 0 then 8 else if 65535 < o.2.length then 3 else tgerr l
/-- How many octets all data has. -/
def tgdat (l : List (Nat × List Nat)) : Nat := (l.map fun o => o.2.length).sum
/-- Types of 16 bits, data of bytes. -/
def ByG (l : List (Nat × List Nat)) : Prop := ∀ o ∈ l, o.1 < 65536 ∧ By o.2
/-- The type that octets begin with. -/
def tgtyp : List Nat → Nat
  | x :: y :: _ => x * 256 + y
  | _ => 0
/-- How many octets the first tag has, and an error's number. -/
def tgstep : List Nat → Nat × Nat
  | x :: y :: z :: u :: t => if t.length < z * 256 + u then (0, 2) else if x * 256 + y = 0 ∧ 0 < z * 256 + u then (0, 4) else (4 + (z * 256 + u), 0)
  | _ => (0, 2)
/-- Tags, of so many octets, ahead of what the rest is. -/
def tgadd (acc : List (Nat × List Nat)) (k : Nat) (r : List (Nat × List Nat) × Nat × Nat) : List (Nat × List Nat) × Nat × Nat := if r.2.2 = 0 then (acc ++ r.1, k + r.2.1, 0) else ([], 0, r.2.2)
/-- What octets begin with, in at most so many steps. -/
def tgF : Nat → List Nat → List (Nat × List Nat) × Nat × Nat
  | 0, _ => ([], 0, 0)
  | n + 1, b => if b = [] then ([], 0, 0) else if (tgstep b).2 = 0 then (if tgtyp b = 0 then ([], 4, 0) else tgadd [(tgtyp b, (b.take (tgstep b).1).drop 4)] (tgstep b).1 (tgF n (b.drop (tgstep b).1))) else ([], 0, (tgstep b).2)
/-- What octets begin with: tags, how many octets they have, and an error's number. -/
def tgget (b : List Nat) : List (Nat × List Nat) × Nat × Nat := tgF b.length b

theorem tgstep_ok {b : List Nat} (h : (tgstep b).2 = 0) : ∃ x y z u t, b = x :: y :: z :: u :: t ∧ (tgstep b).1 = 4 + (z * 256 + u) ∧ z * 256 + u ≤ t.length ∧ (x * 256 + y = 0 → z = 0 ∧ u = 0) ∧ tgtyp b = x * 256 + y := by
  match b with
  | [] => simp [tgstep] at h
  | [_] => simp [tgstep] at h
  | [_, _] => simp [tgstep] at h
  | [_, _, _] => simp [tgstep] at h
  | x :: y :: z :: u :: t =>
    simp only [tgstep] at h ⊢
    split at h
    · simp at h
    · rename_i h1
      split at h
      · simp at h
      · rename_i h2
        rw [if_neg h1, if_neg h2]
        exact ⟨x, y, z, u, t, rfl, rfl, by omega, fun e => by omega, rfl⟩
theorem tgstep_le {b : List Nat} (h : (tgstep b).2 = 0) : 4 ≤ (tgstep b).1 ∧ (tgstep b).1 ≤ b.length := by
  obtain ⟨x, y, z, u, t, rfl, e, h1, -, -⟩ := tgstep_ok h
  rw [e]
  simp only [List.length_cons]
  omega
theorem tgstep_code (b : List Nat) : (tgstep b).2 = 0 ∨ (tgstep b).2 = 2 ∨ (tgstep b).2 = 4 := by
  match b with
  | [] => exact .inr (.inl rfl)
  | [_] => exact .inr (.inl rfl)
  | [_, _] => exact .inr (.inl rfl)
  | [_, _, _] => exact .inr (.inl rfl)
  | x :: y :: z :: u :: t =>
    simp only [tgstep]
    split
    · exact .inr (.inl rfl)
    · split
      · exact .inr (.inr rfl)
      · exact .inl rfl
theorem tgF_more : ∀ (n : Nat) (b : List Nat), b.length ≤ n → tgF n b = tgF b.length b
  | 0, b, h => by rw [show b.length = 0 by omega]
  | n + 1, b, h => by
    match b with
    | [] => rfl
    | x :: t =>
      show tgF (n + 1) (x :: t) = tgF (t.length + 1) (x :: t)
      by_cases hs : (tgstep (x :: t)).2 = 0
      · have h2 := tgstep_le hs
        simp only [tgF, hs, if_true, reduceCtorEq, if_false]
        have e : ((x :: t).drop (tgstep (x :: t)).1).length ≤ t.length := by rw [List.length_drop, List.length_cons]; omega
        have e2 : t.length ≤ n := by simpa using h
        rw [tgF_more n _ (Nat.le_trans e e2), ← tgF_more t.length _ e]
      · simp only [tgF, hs, reduceCtorEq, if_false]
termination_by n => n
decreasing_by
  all_goals simp_all
  all_goals omega
theorem tgget_nil : tgget [] = ([], 0, 0) := rfl
theorem tgget_bad {b : List Nat} (hb : b ≠ []) (h : (tgstep b).2 ≠ 0) : tgget b = ([], 0, (tgstep b).2) := by
  match b, hb with
  | x :: t, _ =>
    show tgF (t.length + 1) (x :: t) = _
    simp only [tgF, h, reduceCtorEq, if_false]
theorem tgget_end {b : List Nat} (h : (tgstep b).2 = 0) (h0 : tgtyp b = 0) : tgget b = ([], 4, 0) := by
  match b with
  | [] => simp [tgstep] at h
  | x :: t =>
    show tgF (t.length + 1) (x :: t) = _
    simp only [tgF, h, h0, if_true, reduceCtorEq, if_false]
theorem tgget_ok {b : List Nat} (h : (tgstep b).2 = 0) (h0 : tgtyp b ≠ 0) : tgget b = tgadd [(tgtyp b, (b.take (tgstep b).1).drop 4)] (tgstep b).1 (tgget (b.drop (tgstep b).1)) := by
  have h2 := tgstep_le h
  match b with
  | [] => simp [tgstep] at h
  | x :: t =>
    show tgF (t.length + 1) (x :: t) = _
    simp only [tgF, h, h0, if_true, reduceCtorEq, if_false]
    rw [tgF_more t.length _ (by rw [List.length_drop, List.length_cons]; omega)]
    rfl
theorem tgadd_add (a c : List (Nat × List Nat)) (j k : Nat) (r : List (Nat × List Nat) × Nat × Nat) : tgadd a j (tgadd c k r) = tgadd (a ++ c) (j + k) r := by
  unfold tgadd
  split
  · rw [if_pos rfl]
    show (a ++ (c ++ r.1), j + (k + r.2.1), 0) = _
    rw [List.append_assoc, Nat.add_assoc]
  · rfl
theorem tgadd_nil (r : List (Nat × List Nat) × Nat × Nat) (h : r.2.2 ≠ 0 → r.1 = [] ∧ r.2.1 = 0) : tgadd [] 0 r = r := by
  obtain ⟨l, n, e⟩ := r
  unfold tgadd
  split
  · rename_i h0
    dsimp only at h0
    rw [h0, Nat.zero_add]
    rfl
  · rename_i h0
    obtain ⟨h1, h2⟩ := h h0
    dsimp only at h1 h2
    rw [h1, h2]
/-- Octets, by their first tag. -/
theorem tg_ind (C : List Nat → Prop) (h0 : C []) (h1 : ∀ b, b ≠ [] → (tgstep b).2 ≠ 0 → C b) (h3 : ∀ b, (tgstep b).2 = 0 → tgtyp b = 0 → C b) (h2 : ∀ b, (tgstep b).2 = 0 → tgtyp b ≠ 0 → C (b.drop (tgstep b).1) → C b) : ∀ b, C b := by
  have key : ∀ n (b : List Nat), b.length ≤ n → C b := by
    intro n
    induction n with
    | zero => intro b hb; obtain rfl : b = [] := List.eq_nil_of_length_eq_zero (by omega); exact h0
    | succ n ih =>
      intro b hb
      by_cases hn : b = []
      · rw [hn]; exact h0
      · by_cases hs : (tgstep b).2 = 0
        · have := tgstep_le hs
          by_cases ht : tgtyp b = 0
          · exact h3 b hs ht
          · exact h2 b hs ht (ih _ (by rw [List.length_drop]; omega))
        · exact h1 b hn hs
  exact fun b => key _ b (Nat.le_refl _)
theorem tgget_err (b : List Nat) : (tgget b).2.2 ≠ 0 → (tgget b).1 = [] ∧ (tgget b).2.1 = 0 := by
  refine tg_ind (fun b => (tgget b).2.2 ≠ 0 → (tgget b).1 = [] ∧ (tgget b).2.1 = 0) (fun h => absurd rfl h) (fun b hb hs _ => by rw [tgget_bad hb hs]; exact ⟨rfl, rfl⟩) (fun b hs ht h => by rw [tgget_end hs ht] at h; exact absurd rfl h) (fun b hs ht ih h => ?_) b
  rw [tgget_ok hs ht] at h ⊢
  unfold tgadd at h ⊢
  split at h
  · simp at h
  · rename_i h3; rw [if_neg h3]; exact ⟨rfl, rfl⟩
theorem tgget_code (b : List Nat) : (tgget b).2.2 = 0 ∨ (tgget b).2.2 = 2 ∨ (tgget b).2.2 = 4 := by
  refine tg_ind (fun b => (tgget b).2.2 = 0 ∨ (tgget b).2.2 = 2 ∨ (tgget b).2.2 = 4) (.inl rfl) (fun b hb hs => ?_) (fun b hs ht => ?_) (fun b hs ht ih => ?_) b
  · rw [tgget_bad hb hs]; exact tgstep_code b
  · rw [tgget_end hs ht]; exact .inl rfl
  · rw [tgget_ok hs ht]
    unfold tgadd
    split
    · exact .inl rfl
    · exact ih
theorem tgput_nil : tgput [] = [] := rfl
theorem tgput_cons (o : Nat × List Nat) (l : List (Nat × List Nat)) : tgput (o :: l) = tgenc o ++ tgput l := rfl
theorem tgput_app (l m : List (Nat × List Nat)) : tgput (l ++ m) = tgput l ++ tgput m := by simp [tgput]
theorem tgenc_len (o : Nat × List Nat) : (tgenc o).length = 4 + o.2.length := by simp only [tgenc, List.length_cons]; omega
theorem tgput_len (l : List (Nat × List Nat)) : (tgput l).length = 4 * l.length + tgdat l := by
  induction l with
  | nil => rfl
  | cons o l ih =>
    rw [tgput_cons, List.length_append, ih, tgenc_len]
    simp only [List.length_cons, tgdat, List.map_cons, List.sum_cons]
    omega
theorem tgerr_cons {o : Nat × List Nat} {l : List (Nat × List Nat)} : tgerr (o :: l) = 0 ↔ o.1 ≠ 0 ∧ o.2.length ≤ 65535 ∧ tgerr l = 0 := by
  simp only [tgerr]
  split
  · rename_i h; simp [h]
  · rename_i h
    split
    · exact ⟨fun e => absurd e (by decide), fun e => absurd e.2.1 (by omega)⟩
    · exact ⟨fun e => ⟨h, by omega, e⟩, fun e => e.2.2⟩
theorem tgenc_step (o : Nat × List Nat) (r : List Nat) (h0 : o.1 ≠ 0) : tgstep (tgenc o ++ r) = (4 + o.2.length, 0) := by
  simp only [tgenc, List.cons_append, tgstep]
  have e : o.2.length / 256 * 256 + o.2.length % 256 = o.2.length := by omega
  have e2 : o.1 / 256 * 256 + o.1 % 256 = o.1 := by omega
  rw [e, e2, if_neg (by rw [List.length_append]; omega), if_neg (fun h => h0 h.1)]
theorem tgenc_typ (o : Nat × List Nat) (r : List Nat) : tgtyp (tgenc o ++ r) = o.1 := by
  simp only [tgenc, List.cons_append, tgtyp]
  omega
/-- Tags are read as they were written, whatever stands behind them. -/
theorem tgget_put (l : List (Nat × List Nat)) (r : List Nat) (h : tgerr l = 0) : tgget (tgput l ++ r) = tgadd l (tgput l).length (tgget r) := by
  induction l with
  | nil =>
    show tgget r = tgadd [] 0 (tgget r)
    rw [tgadd_nil _ (tgget_err r)]
  | cons o l ih =>
    obtain ⟨h0, h1, h2⟩ := tgerr_cons.1 h
    have hs := tgenc_step o (tgput l ++ r) h0
    have ht := tgenc_typ o (tgput l ++ r)
    have hl := tgenc_len o
    rw [tgput_cons, List.append_assoc, tgget_ok (by rw [hs]) (by rw [ht]; exact h0), hs, ht]
    show tgadd [(o.1, ((tgenc o ++ (tgput l ++ r)).take (4 + o.2.length)).drop 4)] (4 + o.2.length) (tgget ((tgenc o ++ (tgput l ++ r)).drop (4 + o.2.length))) = _
    rw [← hl, List.drop_left, List.take_left, ih h2, tgadd_add, List.length_append]
    rfl
theorem tgget_own (l : List (Nat × List Nat)) (h : tgerr l = 0) : tgget (tgput l) = (l, (tgput l).length, 0) := by
  have := tgget_put l [] h
  rw [List.append_nil, tgget_nil] at this
  rw [this]
  unfold tgadd
  rw [if_pos rfl, List.append_nil, Nat.add_zero]
theorem tgget_ends (l : List (Nat × List Nat)) (r : List Nat) (h : tgerr l = 0) : tgget (tgput l ++ 0 :: 0 :: 0 :: 0 :: r) = (l, (tgput l).length + 4, 0) := by
  have hs : (tgstep (0 :: 0 :: 0 :: 0 :: r)).2 = 0 := by simp [tgstep]
  rw [tgget_put l _ h, tgget_end hs rfl]
  unfold tgadd
  rw [if_pos rfl, List.append_nil]
/-- What is read is written so. -/
theorem tgput_get (b : List Nat) (hb : By b) (h : (tgget b).2.2 = 0) : tgput (tgget b).1 = b.take (tgput (tgget b).1).length ∧ tgerr (tgget b).1 = 0 ∧ ByG (tgget b).1 ∧ (tgget b).2.1 ≤ b.length ∧
    ((tgget b).2.1 = (tgput (tgget b).1).length ∧ (tgget b).2.1 = b.length ∨ (tgget b).2.1 = (tgput (tgget b).1).length + 4 ∧ (b.take (tgget b).2.1).drop (tgput (tgget b).1).length = [0, 0, 0, 0]) := by
  revert hb h
  refine tg_ind (fun b => By b → (tgget b).2.2 = 0 → tgput (tgget b).1 = b.take (tgput (tgget b).1).length ∧ tgerr (tgget b).1 = 0 ∧ ByG (tgget b).1 ∧ (tgget b).2.1 ≤ b.length ∧
    ((tgget b).2.1 = (tgput (tgget b).1).length ∧ (tgget b).2.1 = b.length ∨ (tgget b).2.1 = (tgput (tgget b).1).length + 4 ∧ (b.take (tgget b).2.1).drop (tgput (tgget b).1).length = [0, 0, 0, 0])) (fun _ _ => ⟨rfl, rfl, fun _ h => (List.not_mem_nil h).elim, Nat.le_refl _, .inl ⟨rfl, rfl⟩⟩) (fun b hn hs _ h => ?_) (fun b hs ht hb _ => ?_) (fun b hs ht ih hb h => ?_) b
  · rw [tgget_bad hn hs] at h
    exact absurd h hs
  · rw [tgget_end hs ht]
    obtain ⟨x, y, z, u, t, rfl, -, -, h3, h4⟩ := tgstep_ok hs
    rw [h4] at ht
    obtain ⟨rfl, rfl⟩ := h3 ht
    obtain ⟨rfl, rfl⟩ : x = 0 ∧ y = 0 := by omega
    exact ⟨rfl, rfl, fun _ h => (List.not_mem_nil h).elim, by simp only [List.length_cons]; omega, .inr ⟨rfl, by simp [tgput]⟩⟩
  · have hle := tgstep_le hs
    have hr : (tgget (b.drop (tgstep b).1)).2.2 = 0 := by
      rw [tgget_ok hs ht] at h
      unfold tgadd at h
      split at h
      · assumption
      · exact h
    obtain ⟨i1, i2, i3, i4, i5⟩ := ih (hb.drop _) hr
    rw [tgget_ok hs ht]
    unfold tgadd
    rw [if_pos hr]
    generalize hg : tgget (b.drop (tgstep b).1) = g at *
    obtain ⟨x, y, z, u, t, rfl, e1, e2, e3, e4⟩ := tgstep_ok hs
    rw [e4] at ht
    rw [e1] at i1 i4 i5 hle ⊢
    rw [e4]
    have hx : x < 256 := hb x (by simp)
    have hy : y < 256 := hb y (by simp)
    have hz : z < 256 := hb z (by simp)
    have hu : u < 256 := hb u (by simp)
    have hd : (((x :: y :: z :: u :: t).take (4 + (z * 256 + u))).drop 4) = t.take (z * 256 + u) := by
      rw [show 4 + (z * 256 + u) = (z * 256 + u) + 1 + 1 + 1 + 1 by omega]
      simp only [List.take_succ_cons, List.drop_succ_cons, List.drop_zero]
    have hdr : (x :: y :: z :: u :: t).drop (4 + (z * 256 + u)) = t.drop (z * 256 + u) := by
      rw [show 4 + (z * 256 + u) = (z * 256 + u) + 1 + 1 + 1 + 1 by omega]
      simp only [List.drop_succ_cons]
    have hlen : (t.take (z * 256 + u)).length = z * 256 + u := by rw [List.length_take]; omega
    rw [hd]
    rw [hdr] at i1 i4 i5
    have he : tgenc (x * 256 + y, t.take (z * 256 + u)) = x :: y :: z :: u :: t.take (z * 256 + u) := by
      simp only [tgenc, hlen]
      rw [show (x * 256 + y) / 256 = x by omega, show (x * 256 + y) % 256 = y by omega, show (z * 256 + u) / 256 = z by omega, show (z * 256 + u) % 256 = u by omega]
    have hp : tgput ([(x * 256 + y, t.take (z * 256 + u))] ++ g.1) = x :: y :: z :: u :: (t.take (z * 256 + u) ++ tgput g.1) := by
      show tgenc (x * 256 + y, t.take (z * 256 + u)) ++ tgput g.1 = _
      rw [he]; rfl
    have hpl : (tgput ([(x * 256 + y, t.take (z * 256 + u))] ++ g.1)).length = (tgput g.1).length + (z * 256 + u) + 1 + 1 + 1 + 1 := by
      rw [hp]; simp only [List.length_cons, List.length_append, hlen]; omega
    have hcut : ∀ k, (x :: y :: z :: u :: t).take (k + (z * 256 + u) + 1 + 1 + 1 + 1) = x :: y :: z :: u :: (t.take (z * 256 + u) ++ (t.drop (z * 256 + u)).take k) := by
      intro k
      simp only [List.take_succ_cons]
      rw [Nat.add_comm k, List.take_add]
    have hdl : (t.drop (z * 256 + u)).length = t.length - (z * 256 + u) := List.length_drop ..
    refine ⟨?_, ?_, ?_, ?_, ?_⟩
    · rw [hpl, hcut, hp, ← i1]
    · exact tgerr_cons.2 ⟨ht, by rw [hlen]; omega, i2⟩
    · intro o ho
      rcases List.mem_cons.1 ho with rfl | ho
      · exact ⟨by show x * 256 + y < 65536; omega, fun a ha => hb a (by simp [List.mem_of_mem_take ha])⟩
      · exact i3 o ho
    · show 4 + (z * 256 + u) + g.2.1 ≤ _
      simp only [List.length_cons]
      omega
    · show (4 + (z * 256 + u) + g.2.1 = _ ∧ 4 + (z * 256 + u) + g.2.1 = _) ∨ 4 + (z * 256 + u) + g.2.1 = _ ∧ List.drop _ (List.take (4 + (z * 256 + u) + g.2.1) _) = _
      rw [hpl]
      rcases i5 with ⟨j1, j2⟩ | ⟨j1, j2⟩
      · exact .inl ⟨by omega, by simp only [List.length_cons]; omega⟩
      · refine .inr ⟨by omega, ?_⟩
        rw [show 4 + (z * 256 + u) + g.2.1 = g.2.1 + (z * 256 + u) + 1 + 1 + 1 + 1 by omega, hcut]
        simp only [List.drop_succ_cons]
        rw [Nat.add_comm (tgput g.1).length, ← List.drop_drop, List.drop_left' hlen]
        exact j2
/-- Tags cut off: refused, or the first ones. -/
theorem tgget_cut (l : List (Nat × List Nat)) (h : tgerr l = 0) : ∀ k, k < (tgput l).length → tgget ((tgput l).take k) = ([], 0, 2) ∨ ∃ j, j < l.length ∧ tgget ((tgput l).take k) = (l.take j, k, 0) := by
  induction l with
  | nil => intro k hk; exact absurd hk (Nat.not_lt_zero _)
  | cons o l ih =>
    intro k hk
    obtain ⟨h0, h1, h2⟩ := tgerr_cons.1 h
    have hl := tgenc_len o
    rw [tgput_cons] at hk ⊢
    rw [List.length_append] at hk
    by_cases hk0 : k = 0
    · subst hk0
      exact .inr ⟨0, by simp, by rw [List.take_zero, List.take_zero, tgget_nil]⟩
    by_cases hc : k < (tgenc o).length
    · refine .inl ?_
      rw [List.take_append_of_le_length (Nat.le_of_lt hc)]
      have hs : tgstep ((tgenc o).take k) = (0, 2) := by
        match k, hk0 with
        | 1, _ => rfl
        | 2, _ => rfl
        | 3, _ => rfl
        | k + 4, _ =>
          simp only [tgenc, List.take_succ_cons, tgstep]
          rw [if_pos (by rw [List.length_take]; omega)]
      rw [tgget_bad (by
        intro e
        have := congrArg List.length e
        rw [List.length_take, List.length_nil] at this
        omega) (by rw [hs]; exact Nat.succ_ne_zero 1), hs]
    · obtain ⟨m, rfl⟩ : ∃ m, k = (tgenc o).length + m := ⟨k - (tgenc o).length, by omega⟩
      rw [List.take_length_add_append]
      have hone := tgget_put [o] ((tgput l).take m) (tgerr_cons.2 ⟨h0, h1, rfl⟩)
      rw [show tgput [o] = tgenc o by rw [tgput_cons, tgput_nil, List.append_nil]] at hone
      rw [hone]
      rcases ih h2 m (by omega) with e | ⟨j, hj, e⟩
      · refine .inl ?_
        rw [e]; rfl
      · refine .inr ⟨j + 1, by simp only [List.length_cons]; omega, ?_⟩
        rw [e]; rfl
theorem ByG.app {l m : List (Nat × List Nat)} (h : ByG l) (k : ByG m) : ByG (l ++ m) := fun o ho => (List.mem_append.1 ho).elim (h o) (k o)
theorem ByG.at_ {l : List (Nat × List Nat)} (h : ByG l) {k : Nat} {o : Nat × List Nat} (hk : l[k]? = some o) : o.1 < 65536 ∧ By o.2 := h o (List.mem_of_getElem? hk)
theorem tgput_by {l : List (Nat × List Nat)} (h : ByG l) (he : tgerr l = 0) : By (tgput l) := by
  induction l with
  | nil => exact By.nil
  | cons o l ih =>
    obtain ⟨h0, h1, h2⟩ := tgerr_cons.1 he
    rw [tgput_cons]
    refine By.app ?_ (ih (fun x hx => h x (List.mem_cons_of_mem _ hx)) h2)
    have ho := h o (List.mem_cons_self ..)
    intro x hx
    rcases List.mem_cons.1 hx with rfl | hx
    · show o.1 / 256 < 256; omega
    rcases List.mem_cons.1 hx with rfl | hx
    · show o.1 % 256 < 256; omega
    rcases List.mem_cons.1 hx with rfl | hx
    · show o.2.length / 256 < 256; omega
    rcases List.mem_cons.1 hx with rfl | hx
    · show o.2.length % 256 < 256; omega
    exact ho.2 x hx
theorem tgdat_app (l m : List (Nat × List Nat)) : tgdat (l ++ m) = tgdat l + tgdat m := by simp [tgdat]
theorem tgdat_at {l : List (Nat × List Nat)} {k : Nat} {o : Nat × List Nat} (h : l[k]? = some o) : tgdat (l.take (k + 1)) = tgdat (l.take k) + o.2.length := by
  rw [List.take_add_one, h, Option.toList_some, tgdat_app]; simp [tgdat]
theorem tgdat_take (l : List (Nat × List Nat)) (k : Nat) : tgdat (l.take k) ≤ tgdat l := by
  have e : tgdat l = tgdat (l.take k) + tgdat (l.drop k) := by rw [← tgdat_app, List.take_append_drop]
  omega
theorem tgput_at {l : List (Nat × List Nat)} {k : Nat} {o : Nat × List Nat} (h : l[k]? = some o) : tgput (l.take (k + 1)) = tgput (l.take k) ++ tgenc o := by
  rw [List.take_add_one, h, Option.toList_some, tgput_app]; simp [tgput]
theorem tgerr_at {l : List (Nat × List Nat)} (k : Nat) : tgerr (l.take k) ≠ 0 → tgerr l = tgerr (l.take k) := by
  induction l generalizing k with
  | nil => intro h; rw [List.take_nil]
  | cons o l ih =>
    match k with
    | 0 => intro h; exact absurd rfl h
    | k + 1 =>
      intro h
      rw [List.take_succ_cons] at h ⊢
      simp only [tgerr] at h ⊢
      split
      · rfl
      · rename_i h1
        rw [if_neg h1] at h
        split
        · rfl
        · rename_i h2
          rw [if_neg h2] at h
          exact ih k h
/-- The first tag of a type. -/
def tgfind (l : List (Nat × List Nat)) (t : Nat) : Option (List Nat) := (l.find? fun o => o.1 == t).map fun o => o.2
end Go.Proofs.Ytldadfmcganejaa
