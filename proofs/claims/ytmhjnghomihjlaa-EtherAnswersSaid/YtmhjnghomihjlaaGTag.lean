/-
  Lists of tags, as lists: how they are written, what octets begin with as tags, up to what ends a list; what is written is read so, and the other way round; a list cut off. Mathematics alone. Tags as elements of a row: a type, and data, in two cells. No condition. The tags' rows of the program's table of types. No condition. What Few of layer 21 answers. No condition beyond: lists of at most 2^47 tags, each with at most 2^47 octets. What the document's Same of tags answers. No condition beyond: lists of at most 2^38 tags. What the law's own helpers answer: Of, To, of layer 21. No condition beyond: lists of at most 2^30 tags. An argument that is a slice of tags, opened: what its elements read as, and that it is of the form's own reach. No condition. What the document's Put of tags answers. No condition beyond: lists of at most 2^37 tags, data of at most 2^36 octets. What the document's Get of tags answers. No condition beyond: at most 2^30 octets. What the document's Name of a tag's type answers. No condition.
-/
import Derived.Test.YtmhjnghomihjlaaGWord
import Derived.BigQuiet
import Derived.ProofKit
import Derived.OpenShut
import Derived.Deep.Matrix
import Derived.Deep.Fields
import Derived.SizedLaws
namespace Go.Proofs.Ytmhjnghomihjlaa
section
set_option maxRecDepth 4000

/-- A tag as it is written. -/
def tgenc (o : Nat × List Nat) : List Nat := o.1 / 256 :: o.1 % 256 :: o.2.length / 256 :: o.2.length % 256 :: o.2
/-- Tags as they are written. -/
def tgput (l : List (Nat × List Nat)) : List Nat := l.flatMap tgenc
/-- Why tags can't be written: an error's number, of the first one that can't. -/
def tgerr : List (Nat × List Nat) → Nat
  | [] => 0
  | o :: l => if o.1 = 0 then 8 else if 65535 < o.2.length then 3 else tgerr l
/-- How many octets all data has. -/
def tgdat (l : List (Nat × List Nat)) : Nat := (l.map fun o => o.2.length).sum
/-- Types of 16 bits, data of bytes. -/
def ByG (l : List (Nat × List Nat)) : Prop := ∀ o ∈ l, o.1 < 65536 ∧ By o.2
/-- The type that octets begin with. -/
def tgtyp : List Nat → Nat
  | x :: y :: _ => x * 256 + y
  | _ => 0
/-- How many octets the first tag has, and an error's number. -/
def tgstep : List Nat → Nat × Nat
  | x :: y :: z :: u :: t => if t.length < z * 256 + u then (0, 2) else if x * 256 + y = 0 ∧ 0 < z * 256 + u then (0, 4) else (4 + (z * 256 + u), 0)
  | _ => (0, 2)
/-- Tags, of so many octets, ahead of what the rest is. -/
def tgadd (acc : List (Nat × List Nat)) (k : Nat) (r : List (Nat × List Nat) × Nat × Nat) : List (Nat × List Nat) × Nat × Nat := if r.2.2 = 0 then (acc ++ r.1, k + r.2.1, 0) else ([], 0, r.2.2)
/-- What octets begin with, in at most so many steps. -/
def tgF : Nat → List Nat → List (Nat × List Nat) × Nat × Nat
  | 0, _ => ([], 0, 0)
  | n + 1, b => if b = [] then ([], 0, 0) else if (tgstep b).2 = 0 then (if tgtyp b = 0 then ([], 4, 0) else tgadd [(tgtyp b, (b.take (tgstep b).1).drop 4)] (tgstep b).1 (tgF n (b.drop (tgstep b).1))) else ([], 0, (tgstep b).2)
/-- What octets begin with: tags, how many octets they have, and an error's number. -/
def tgget (b : List Nat) : List (Nat × List Nat) × Nat × Nat := tgF b.length b

theorem tgstep_ok {b : List Nat} (h : (tgstep b).2 = 0) : ∃ x y z u t, b = x :: y :: z :: u :: t ∧ (tgstep b).1 = 4 + (z * 256 + u) ∧ z * 256 + u ≤ t.length ∧ (x * 256 + y = 0 → z = 0 ∧ u = 0) ∧ tgtyp b = x * 256 + y := by
  match b with
  | [] => simp [tgstep] at h
  | [_] => simp [tgstep] at h
  | [_, _] => simp [tgstep] at h
  | [_, _, _] => simp [tgstep] at h
  | x :: y :: z :: u :: t =>
    simp only [tgstep] at h ⊢
    split at h
    · simp at h
    · rename_i h1
      split at h
      · simp at h
      · rename_i h2
        rw [if_neg h1, if_neg h2]
        exact ⟨x, y, z, u, t, rfl, rfl, by omega, fun e => by omega, rfl⟩
theorem tgstep_le {b : List Nat} (h : (tgstep b).2 = 0) : 4 ≤ (tgstep b).1 ∧ (tgstep b).1 ≤ b.length := by
  obtain ⟨x, y, z, u, t, rfl, e, h1, -, -⟩ := tgstep_ok h
  rw [e]
  simp only [List.length_cons]
  omega
theorem tgstep_code (b : List Nat) : (tgstep b).2 = 0 ∨ (tgstep b).2 = 2 ∨ (tgstep b).2 = 4 := by
  match b with
  | [] => exact .inr (.inl rfl)
  | [_] => exact .inr (.inl rfl)
  | [_, _] => exact .inr (.inl rfl)
  | [_, _, _] => exact .inr (.inl rfl)
  | x :: y :: z :: u :: t =>
    simp only [tgstep]
    split
    · exact .inr (.inl rfl)
    · split
      · exact .inr (.inr rfl)
      · exact .inl rfl
theorem tgF_more : ∀ (n : Nat) (b : List Nat), b.length ≤ n → tgF n b = tgF b.length b
  | 0, b, h => by rw [show b.length = 0 by omega]
  | n + 1, b, h => by
    match b with
    | [] => rfl
    | x :: t =>
      show tgF (n + 1) (x :: t) = tgF (t.length + 1) (x :: t)
      by_cases hs : (tgstep (x :: t)).2 = 0
      · have h2 := tgstep_le hs
        simp only [tgF, hs, if_true, reduceCtorEq, if_false]
        have e : ((x :: t).drop (tgstep (x :: t)).1).length ≤ t.length := by rw [List.length_drop, List.length_cons]; omega
        have e2 : t.length ≤ n := by simpa using h
        rw [tgF_more n _ (Nat.le_trans e e2), ← tgF_more t.length _ e]
      · simp only [tgF, hs, reduceCtorEq, if_false]
termination_by n => n
decreasing_by
  all_goals simp_all
  all_goals omega
theorem tgget_nil : tgget [] = ([], 0, 0) := rfl
theorem tgget_bad {b : List Nat} (hb : b ≠ []) (h : (tgstep b).2 ≠ 0) : tgget b = ([], 0, (tgstep b).2) := by
  match b, hb with
  | x :: t, _ =>
    show tgF (t.length + 1) (x :: t) = _
    simp only [tgF, h, reduceCtorEq, if_false]
theorem tgget_end {b : List Nat} (h : (tgstep b).2 = 0) (h0 : tgtyp b = 0) : tgget b = ([], 4, 0) := by
  match b with
  | [] => simp [tgstep] at h
  | x :: t =>
    show tgF (t.length + 1) (x :: t) = _
    simp only [tgF, h, h0, if_true, reduceCtorEq, if_false]
theorem tgget_ok {b : List Nat} (h : (tgstep b).2 = 0) (h0 : tgtyp b ≠ 0) : tgget b = tgadd [(tgtyp b, (b.take (tgstep b).1).drop 4)] (tgstep b).1 (tgget (b.drop (tgstep b).1)) := by
  have h2 := tgstep_le h
  match b with
  | [] => simp [tgstep] at h
  | x :: t =>
    show tgF (t.length + 1) (x :: t) = _
    simp only [tgF, h, h0, if_true, reduceCtorEq, if_false]
    rw [tgF_more t.length _ (by rw [List.length_drop, List.length_cons]; omega)]
    rfl
theorem tgadd_add (a c : List (Nat × List Nat)) (j k : Nat) (r : List (Nat × List Nat) × Nat × Nat) : tgadd a j (tgadd c k r) = tgadd (a ++ c) (j + k) r := by
  unfold tgadd
  split
  · rw [if_pos rfl]
    show (a ++ (c ++ r.1), j + (k + r.2.1), 0) = _
    rw [List.append_assoc, Nat.add_assoc]
  · rfl
theorem tgadd_nil (r : List (Nat × List Nat) × Nat × Nat) (h : r.2.2 ≠ 0 → r.1 = [] ∧ r.2.1 = 0) : tgadd [] 0 r = r := by
  obtain ⟨l, n, e⟩ := r
  unfold tgadd
  split
  · rename_i h0
    dsimp only at h0
    rw [h0, Nat.zero_add]
    rfl
  · rename_i h0
    obtain ⟨h1, h2⟩ := h h0
    dsimp only at h1 h2
    rw [h1, h2]
/-- Octets, by their first tag. -/
theorem tg_ind (C : List Nat → Prop) (h0 : C []) (h1 : ∀ b, b ≠ [] → (tgstep b).2 ≠ 0 → C b) (h3 : ∀ b, (tgstep b).2 = 0 → tgtyp b = 0 → C b) (h2 : ∀ b, (tgstep b).2 = 0 → tgtyp b ≠ 0 → C (b.drop (tgstep b).1) → C b) : ∀ b, C b := by
  have key : ∀ n (b : List Nat), b.length ≤ n → C b := by
    intro n
    induction n with
    | zero => intro b hb; obtain rfl : b = [] := List.eq_nil_of_length_eq_zero (by omega); exact h0
    | succ n ih =>
      intro b hb
      by_cases hn : b = []
      · rw [hn]; exact h0
      · by_cases hs : (tgstep b).2 = 0
        · have := tgstep_le hs
          by_cases ht : tgtyp b = 0
          · exact h3 b hs ht
          · exact h2 b hs ht (ih _ (by rw [List.length_drop]; omega))
        · exact h1 b hn hs
  exact fun b => key _ b (Nat.le_refl _)
theorem tgget_err (b : List Nat) : (tgget b).2.2 ≠ 0 → (tgget b).1 = [] ∧ (tgget b).2.1 = 0 := by
  refine tg_ind (fun b => (tgget b).2.2 ≠ 0 → (tgget b).1 = [] ∧ (tgget b).2.1 = 0) (fun h => absurd rfl h) (fun b hb hs _ => by rw [tgget_bad hb hs]; exact ⟨rfl, rfl⟩) (fun b hs ht h => by rw [tgget_end hs ht] at h; exact absurd rfl h) (fun b hs ht ih h => ?_) b
  rw [tgget_ok hs ht] at h ⊢
  unfold tgadd at h ⊢
  split at h
  · simp at h
  · rename_i h3; rw [if_neg h3]; exact ⟨rfl, rfl⟩
theorem tgget_code (b : List Nat) : (tgget b).2.2 = 0 ∨ (tgget b).2.2 = 2 ∨ (tgget b).2.2 = 4 := by
  refine tg_ind (fun b => (tgget b).2.2 = 0 ∨ (tgget b).2.2 = 2 ∨ (tgget b).2.2 = 4) (.inl rfl) (fun b hb hs => ?_) (fun b hs ht => ?_) (fun b hs ht ih => ?_) b
  · rw [tgget_bad hb hs]; exact tgstep_code b
  · rw [tgget_end hs ht]; exact .inl rfl
  · rw [tgget_ok hs ht]
    unfold tgadd
    split
    · exact .inl rfl
    · exact ih
theorem tgput_nil : tgput [] = [] := rfl
theorem tgput_cons (o : Nat × List Nat) (l : List (Nat × List Nat)) : tgput (o :: l) = tgenc o ++ tgput l := rfl
theorem tgput_app (l m : List (Nat × List Nat)) : tgput (l ++ m) = tgput l ++ tgput m := by simp [tgput]
theorem tgenc_len (o : Nat × List Nat) : (tgenc o).length = 4 + o.2.length := by simp only [tgenc, List.length_cons]; omega
theorem tgput_len (l : List (Nat × List Nat)) : (tgput l).length = 4 * l.length + tgdat l := by
  induction l with
  | nil => rfl
  | cons o l ih =>
    rw [tgput_cons, List.length_append, ih, tgenc_len]
    simp only [List.length_cons, tgdat, List.map_cons, List.sum_cons]
    omega
theorem tgerr_cons {o : Nat × List Nat} {l : List (Nat × List Nat)} : tgerr (o :: l) = 0 ↔ o.1 ≠ 0 ∧ o.2.length ≤ 65535 ∧ tgerr l = 0 := by
  simp only [tgerr]
  split
  · rename_i h; simp [h]
  · rename_i h
    split
    · exact ⟨fun e => absurd e (by decide), fun e => absurd e.2.1 (by omega)⟩
    · exact ⟨fun e => ⟨h, by omega, e⟩, fun e => e.2.2⟩
theorem tgenc_step (o : Nat × List Nat) (r : List Nat) (h0 : o.1 ≠ 0) : tgstep (tgenc o ++ r) = (4 + o.2.length, 0) := by
  simp only [tgenc, List.cons_append, tgstep]
  have e : o.2.length / 256 * 256 + o.2.length % 256 = o.2.length := by omega
  have e2 : o.1 / 256 * 256 + o.1 % 256 = o.1 := by omega
  rw [e, e2, if_neg (by rw [List.length_append]; omega), if_neg (fun h => h0 h.1)]
theorem tgenc_typ (o : Nat × List Nat) (r : List Nat) : tgtyp (tgenc o ++ r) = o.1 := by
  simp only [tgenc, List.cons_append, tgtyp]
  omega
/-- Tags are read as they were written, whatever stands behind them. -/
theorem tgget_put (l : List (Nat × List Nat)) (r : List Nat) (h : tgerr l = 0) : tgget (tgput l ++ r) = tgadd l (tgput l).length (tgget r) := by
  induction l with
  | nil =>
    show tgget r = tgadd [] 0 (tgget r)
    rw [tgadd_nil _ (tgget_err r)]
  | cons o l ih =>
    obtain ⟨h0, h1, h2⟩ := tgerr_cons.1 h
    have hs := tgenc_step o (tgput l ++ r) h0
    have ht := tgenc_typ o (tgput l ++ r)
    have hl := tgenc_len o
    rw [tgput_cons, List.append_assoc, tgget_ok (by rw [hs]) (by rw [ht]; exact h0), hs, ht]
    show tgadd [(o.1, ((tgenc o ++ (tgput l ++ r)).take (4 + o.2.length)).drop 4)] (4 + o.2.length) (tgget ((tgenc o ++ (tgput l ++ r)).drop (4 + o.2.length))) = _
    rw [← hl, List.drop_left, List.take_left, ih h2, tgadd_add, List.length_append]
    rfl
theorem tgget_own (l : List (Nat × List Nat)) (h : tgerr l = 0) : tgget (tgput l) = (l, (tgput l).length, 0) := by
  have := tgget_put l [] h
  rw [List.append_nil, tgget_nil] at this
  rw [this]
  unfold tgadd
  rw [if_pos rfl, List.append_nil, Nat.add_zero]
theorem tgget_ends (l : List (Nat × List Nat)) (r : List Nat) (h : tgerr l = 0) : tgget (tgput l ++ 0 :: 0 :: 0 :: 0 :: r) = (l, (tgput l).length + 4, 0) := by
  have hs : (tgstep (0 :: 0 :: 0 :: 0 :: r)).2 = 0 := by simp [tgstep]
  rw [tgget_put l _ h, tgget_end hs rfl]
  unfold tgadd
  rw [if_pos rfl, List.append_nil]
/-- What is read is written so. -/
theorem tgput_get (b : List Nat) (hb : By b) (h : (tgget b).2.2 = 0) : tgput (tgget b).1 = b.take (tgput (tgget b).1).length ∧ tgerr (tgget b).1 = 0 ∧ ByG (tgget b).1 ∧ (tgget b).2.1 ≤ b.length ∧
    ((tgget b).2.1 = (tgput (tgget b).1).length ∧ (tgget b).2.1 = b.length ∨ (tgget b).2.1 = (tgput (tgget b).1).length + 4 ∧ (b.take (tgget b).2.1).drop (tgput (tgget b).1).length = [0, 0, 0, 0]) := by
  revert hb h
  refine tg_ind (fun b => By b → (tgget b).2.2 = 0 → tgput (tgget b).1 = b.take (tgput (tgget b).1).length ∧ tgerr (tgget b).1 = 0 ∧ ByG (tgget b).1 ∧ (tgget b).2.1 ≤ b.length ∧
    ((tgget b).2.1 = (tgput (tgget b).1).length ∧ (tgget b).2.1 = b.length ∨ (tgget b).2.1 = (tgput (tgget b).1).length + 4 ∧ (b.take (tgget b).2.1).drop (tgput (tgget b).1).length = [0, 0, 0, 0])) (fun _ _ => ⟨rfl, rfl, fun _ h => (List.not_mem_nil h).elim, Nat.le_refl _, .inl ⟨rfl, rfl⟩⟩) (fun b hn hs _ h => ?_) (fun b hs ht hb _ => ?_) (fun b hs ht ih hb h => ?_) b
  · rw [tgget_bad hn hs] at h
    exact absurd h hs
  · rw [tgget_end hs ht]
    obtain ⟨x, y, z, u, t, rfl, -, -, h3, h4⟩ := tgstep_ok hs
    rw [h4] at ht
    obtain ⟨rfl, rfl⟩ := h3 ht
    obtain ⟨rfl, rfl⟩ : x = 0 ∧ y = 0 := by omega
    exact ⟨rfl, rfl, fun _ h => (List.not_mem_nil h).elim, by simp only [List.length_cons]; omega, .inr ⟨rfl, by simp [tgput]⟩⟩
  · have hle := tgstep_le hs
    have hr : (tgget (b.drop (tgstep b).1)).2.2 = 0 := by
      rw [tgget_ok hs ht] at h
      unfold tgadd at h
      split at h
      · assumption
      · exact h
    obtain ⟨i1, i2, i3, i4, i5⟩ := ih (hb.drop _) hr
    rw [tgget_ok hs ht]
    unfold tgadd
    rw [if_pos hr]
    generalize hg : tgget (b.drop (tgstep b).1) = g at *
    obtain ⟨x, y, z, u, t, rfl, e1, e2, e3, e4⟩ := tgstep_ok hs
    rw [e4] at ht
    rw [e1] at i1 i4 i5 hle ⊢
    rw [e4]
    have hx : x < 256 := hb x (by simp)
    have hy : y < 256 := hb y (by simp)
    have hz : z < 256 := hb z (by simp)
    have hu : u < 256 := hb u (by simp)
    have hd : (((x :: y :: z :: u :: t).take (4 + (z * 256 + u))).drop 4) = t.take (z * 256 + u) := by
      rw [show 4 + (z * 256 + u) = (z * 256 + u) + 1 + 1 + 1 + 1 by omega]
      simp only [List.take_succ_cons, List.drop_succ_cons, List.drop_zero]
    have hdr : (x :: y :: z :: u :: t).drop (4 + (z * 256 + u)) = t.drop (z * 256 + u) := by
      rw [show 4 + (z * 256 + u) = (z * 256 + u) + 1 + 1 + 1 + 1 by omega]
      simp only [List.drop_succ_cons]
    have hlen : (t.take (z * 256 + u)).length = z * 256 + u := by rw [List.length_take]; omega
    rw [hd]
    rw [hdr] at i1 i4 i5
    have he : tgenc (x * 256 + y, t.take (z * 256 + u)) = x :: y :: z :: u :: t.take (z * 256 + u) := by
      simp only [tgenc, hlen]
      rw [show (x * 256 + y) / 256 = x by omega, show (x * 256 + y) % 256 = y by omega, show (z * 256 + u) / 256 = z by omega, show (z * 256 + u) % 256 = u by omega]
    have hp : tgput ([(x * 256 + y, t.take (z * 256 + u))] ++ g.1) = x :: y :: z :: u :: (t.take (z * 256 + u) ++ tgput g.1) := by
      show tgenc (x * 256 + y, t.take (z * 256 + u)) ++ tgput g.1 = _
      rw [he]; rfl
    have hpl : (tgput ([(x * 256 + y, t.take (z * 256 + u))] ++ g.1)).length = (tgput g.1).length + (z * 256 + u) + 1 + 1 + 1 + 1 := by
      rw [hp]; simp only [List.length_cons, List.length_append, hlen]; omega
    have hcut : ∀ k, (x :: y :: z :: u :: t).take (k + (z * 256 + u) + 1 + 1 + 1 + 1) = x :: y :: z :: u :: (t.take (z * 256 + u) ++ (t.drop (z * 256 + u)).take k) := by
      intro k
      simp only [List.take_succ_cons]
      rw [Nat.add_comm k, List.take_add]
    have hdl : (t.drop (z * 256 + u)).length = t.length - (z * 256 + u) := List.length_drop ..
    refine ⟨?_, ?_, ?_, ?_, ?_⟩
    · rw [hpl, hcut, hp, ← i1]
    · exact tgerr_cons.2 ⟨ht, by rw [hlen]; omega, i2⟩
    · intro o ho
      rcases List.mem_cons.1 ho with rfl | ho
      · exact ⟨by show x * 256 + y < 65536; omega, fun a ha => hb a (by simp [List.mem_of_mem_take ha])⟩
      · exact i3 o ho
    · show 4 + (z * 256 + u) + g.2.1 ≤ _
      simp only [List.length_cons]
      omega
    · show (4 + (z * 256 + u) + g.2.1 = _ ∧ 4 + (z * 256 + u) + g.2.1 = _) ∨ 4 + (z * 256 + u) + g.2.1 = _ ∧ List.drop _ (List.take (4 + (z * 256 + u) + g.2.1) _) = _
      rw [hpl]
      rcases i5 with ⟨j1, j2⟩ | ⟨j1, j2⟩
      · exact .inl ⟨by omega, by simp only [List.length_cons]; omega⟩
      · refine .inr ⟨by omega, ?_⟩
        rw [show 4 + (z * 256 + u) + g.2.1 = g.2.1 + (z * 256 + u) + 1 + 1 + 1 + 1 by omega, hcut]
        simp only [List.drop_succ_cons]
        rw [Nat.add_comm (tgput g.1).length, ← List.drop_drop, List.drop_left' hlen]
        exact j2
/-- Tags cut off: refused, or the first ones. -/
theorem tgget_cut (l : List (Nat × List Nat)) (h : tgerr l = 0) : ∀ k, k < (tgput l).length → tgget ((tgput l).take k) = ([], 0, 2) ∨ ∃ j, j < l.length ∧ tgget ((tgput l).take k) = (l.take j, k, 0) := by
  induction l with
  | nil => intro k hk; exact absurd hk (Nat.not_lt_zero _)
  | cons o l ih =>
    intro k hk
    obtain ⟨h0, h1, h2⟩ := tgerr_cons.1 h
    have hl := tgenc_len o
    rw [tgput_cons] at hk ⊢
    rw [List.length_append] at hk
    by_cases hk0 : k = 0
    · subst hk0
      exact .inr ⟨0, by simp, by rw [List.take_zero, List.take_zero, tgget_nil]⟩
    by_cases hc : k < (tgenc o).length
    · refine .inl ?_
      rw [List.take_append_of_le_length (Nat.le_of_lt hc)]
      have hs : tgstep ((tgenc o).take k) = (0, 2) := by
        match k, hk0 with
        | 1, _ => rfl
        | 2, _ => rfl
        | 3, _ => rfl
        | k + 4, _ =>
          simp only [tgenc, List.take_succ_cons, tgstep]
          rw [if_pos (by rw [List.length_take]; omega)]
      rw [tgget_bad (by
        intro e
        have := congrArg List.length e
        rw [List.length_take, List.length_nil] at this
        omega) (by rw [hs]; exact Nat.succ_ne_zero 1), hs]
    · obtain ⟨m, rfl⟩ : ∃ m, k = (tgenc o).length + m := ⟨k - (tgenc o).length, by omega⟩
      rw [List.take_length_add_append]
      have hone := tgget_put [o] ((tgput l).take m) (tgerr_cons.2 ⟨h0, h1, rfl⟩)
      rw [show tgput [o] = tgenc o by rw [tgput_cons, tgput_nil, List.append_nil]] at hone
      rw [hone]
      rcases ih h2 m (by omega) with e | ⟨j, hj, e⟩
      · refine .inl ?_
        rw [e]; rfl
      · refine .inr ⟨j + 1, by simp only [List.length_cons]; omega, ?_⟩
        rw [e]; rfl
theorem ByG.app {l m : List (Nat × List Nat)} (h : ByG l) (k : ByG m) : ByG (l ++ m) := fun o ho => (List.mem_append.1 ho).elim (h o) (k o)
theorem ByG.at_ {l : List (Nat × List Nat)} (h : ByG l) {k : Nat} {o : Nat × List Nat} (hk : l[k]? = some o) : o.1 < 65536 ∧ By o.2 := h o (List.mem_of_getElem? hk)
theorem tgput_by {l : List (Nat × List Nat)} (h : ByG l) (he : tgerr l = 0) : By (tgput l) := by
  induction l with
  | nil => exact By.nil
  | cons o l ih =>
    obtain ⟨h0, h1, h2⟩ := tgerr_cons.1 he
    rw [tgput_cons]
    refine By.app ?_ (ih (fun x hx => h x (List.mem_cons_of_mem _ hx)) h2)
    have ho := h o (List.mem_cons_self ..)
    intro x hx
    rcases List.mem_cons.1 hx with rfl | hx
    · show o.1 / 256 < 256; omega
    rcases List.mem_cons.1 hx with rfl | hx
    · show o.1 % 256 < 256; omega
    rcases List.mem_cons.1 hx with rfl | hx
    · show o.2.length / 256 < 256; omega
    rcases List.mem_cons.1 hx with rfl | hx
    · show o.2.length % 256 < 256; omega
    exact ho.2 x hx
theorem tgdat_app (l m : List (Nat × List Nat)) : tgdat (l ++ m) = tgdat l + tgdat m := by simp [tgdat]
theorem tgdat_at {l : List (Nat × List Nat)} {k : Nat} {o : Nat × List Nat} (h : l[k]? = some o) : tgdat (l.take (k + 1)) = tgdat (l.take k) + o.2.length := by
  rw [List.take_add_one, h, Option.toList_some, tgdat_app]; simp [tgdat]
theorem tgdat_take (l : List (Nat × List Nat)) (k : Nat) : tgdat (l.take k) ≤ tgdat l := by
  have e : tgdat l = tgdat (l.take k) + tgdat (l.drop k) := by rw [← tgdat_app, List.take_append_drop]
  omega
theorem tgput_at {l : List (Nat × List Nat)} {k : Nat} {o : Nat × List Nat} (h : l[k]? = some o) : tgput (l.take (k + 1)) = tgput (l.take k) ++ tgenc o := by
  rw [List.take_add_one, h, Option.toList_some, tgput_app]; simp [tgput]
theorem tgerr_at {l : List (Nat × List Nat)} (k : Nat) : tgerr (l.take k) ≠ 0 → tgerr l = tgerr (l.take k) := by
  induction l generalizing k with
  | nil => intro h; rw [List.take_nil]
  | cons o l ih =>
    match k with
    | 0 => intro h; exact absurd rfl h
    | k + 1 =>
      intro h
      rw [List.take_succ_cons] at h ⊢
      simp only [tgerr] at h ⊢
      split
      · rfl
      · rename_i h1
        rw [if_neg h1] at h
        split
        · rfl
        · rename_i h2
          rw [if_neg h2] at h
          exact ih k h
/-- The first tag of a type. -/
def tgfind (l : List (Nat × List Nat)) (t : Nat) : Option (List Nat) := (l.find? fun o => o.1 == t).map fun o => o.2
end

section
set_option maxRecDepth 4000
open Go.RowKit

/-- Tags as elements. -/
def shG : Sh (Nat × List Nat) where
  sz := 2
  S F w x cs := ∃ A c, cs = [.int .u16 (x.1 : Int), .slice A x.2.length c] ∧ x.2.length ≤ c ∧ RdF F w A x.2
  len := by rintro _ _ _ _ ⟨A, c, rfl, _⟩; rfl
  one := by rintro _ _ _ _ ⟨A, c, rfl, _⟩ u hu; simp at hu; rcases hu with rfl | rfl <;> rfl
  keep := by rintro _ _ _ _ _ ⟨A, c, h1, h2, h3⟩ hk; exact ⟨A, c, h1, h2, h3.keep hk⟩
  mono := by rintro _ _ _ _ _ ⟨A, c, h1, h2, h3⟩ hF; exact ⟨A, c, h1, h2, h3.mono hF⟩

/-- A tag of a slice of tags. -/
theorem Rws.tag {F : Nat → Prop} {w : World} {A : Option Addr} {l : List (Nat × List Nat)} (h : Rws shG F w A l) {k : Nat} (hk : k < l.length) :
    ∃ b off o Ak ck, A = some ⟨b, off, none⟩ ∧ b < w.heap.size ∧ l[k]? = some o ∧ w.cell? ⟨b, off + k * 2, none⟩ = some (.int .u16 (o.1 : Int)) ∧ w.cell? ⟨b, off + k * 2 + 1, none⟩ = some (.slice Ak o.2.length ck) ∧ o.2.length ≤ ck ∧ RdF F w Ak o.2 := by
  obtain ⟨b, off, o, cs, h1, h2, h3, ⟨Ak, ck, rfl, h4, h5⟩, h6⟩ := h.at_ hk
  exact ⟨b, off, o, Ak, ck, h1, h2, h3, h6 0 _ rfl, h6 1 _ rfl, h4, h5⟩
/-- One tag in a new block. -/
theorem litg {F : Nat → Prop} (w : World) {T : TypeId} {A : Option Addr} {n c : Nat} {t : Nat} {l : List Nat} (hl : l.length = n) (hc : n ≤ c) (h : RdF F w A l) :
    Orw shG T F w.heap.size (w.alloc (.cells #[.int .u16 (t : Int), .slice A n c] T)) (.slice (some ⟨w.heap.size, 0, none⟩) 1 1) [(t, l)] := by
  subst hl
  refine Orw.lit w [[.int .u16 (t : Int), .slice A l.length c]] rfl (fun k x cs hx hk => ?_) (by simp)
  rcases k with _ | k
  · injection hx with hx
    injection hk with hk
    subst hx; subst hk
    exact ⟨A, c, rfl, hc, h⟩
  · simp at hx
theorem Rws.nilG {F : Nat → Prop} {w : World} {A : Option Addr} : Rws shG F w A [] := fun h => absurd h (by simp)
end

section
set_option maxRecDepth 4000
open Go.RowKit

theorem tag_info : (Try.prog.info? 43).map (fun i => (i.zero, i.size, i.bytes)) = some (some (.agg #[.int .u16 0, .slice none 0 0]), 2, 32) := by kernel_rfl
theorem rtag_info : (Try.prog.info? 60).map (fun i => (i.zero, i.size, i.bytes)) = some (some (.agg #[.int .u16 0, .slice none 0 0]), 2, 32) := by kernel_rfl
end

section
set_option maxRecDepth 4000
open Go.RowKit

/-- Are tags few? -/
def tgfew (l : List (Nat × List Nat)) : Bool := decide (l.length ≤ 60) && decide (tgdat l ≤ 1000)

set_option maxHeartbeats 1000000 in
theorem tgfew_any (l : List (Nat × List Nat)) (n c : Nat) (A : Option Addr) (F : Nat → Prop) (w : World) (h : Rws shG F w A l) (hl : l.length = n) (hn : n ≤ 140737488351232) (M : Nat) (hM : M ≤ 140737488351232) (hd : ∀ x ∈ l, x.2.length ≤ M) :
    Calls Try.prog 14 #[.slice A n c] w fun e w' => e = .returned (.bool (tgfew l)) ∧ Below w.heap.size w w' := by
  have HL := Lib.hid hl
  have HD := Lib.hid hd
  clear hl hd
  go_enter Try.func14, Try.ntmps14
  go_wp2_with fail
  go_loopw [3, 8] (fun s i wr => ∃ (k : Nat) (z : Int), k ≤ n ∧ i = .int .i64 k ∧ s = .int .i64 z ∧ Hid (k ≤ 60 → z = (tgdat (l.take k) : Int) ∧ tgdat (l.take k) ≤ k * M) ∧ Below w.heap.size w wr) (fun _ i _ => n - (intOf i).toNat)
  case atStart => exact ⟨0, 0, Nat.zero_le _, rfl, rfl, Lib.hid (fun _ => ⟨rfl, by simp [tgdat]⟩), Below.refl _ _⟩
  case round =>
    obtain ⟨k, z, hk, rfl, rfl, hz, hbel⟩ := hrel
    by_cases hlt : k < n
    · obtain ⟨b, o, x, A3, c3, rfl, hb3, hx, h3, h4, h5, h6⟩ := (h.below hbel).tag (k := k) (by rw [HL.out]; exact hlt)
      have hxl := HD.out x (List.mem_of_getElem? hx)
      have HZ := Lib.hid (show k + 1 ≤ 60 → wrap64 (z + (x.2.length : Int)) = (tgdat (l.take (k + 1)) : Int) ∧ tgdat (l.take (k + 1)) ≤ (k + 1) * M from fun hk60 => by
        obtain ⟨e1, e2⟩ := hz.out (by omega)
        rw [tgdat_at hx, e1]
        refine ⟨?_, by rw [Nat.add_mul]; omega⟩
        have hkM : k * M ≤ 60 * M := Nat.mul_le_mul_right _ (by omega)
        have e3 : wrap64 ((tgdat (l.take k) : Int) + (x.2.length : Int)) = (tgdat (l.take k) : Int) + (x.2.length : Int) := IntWalk.wrap64_in _ (by omega)
        rw [e3]
        omega)
      have R2 := Lib.hid (hbel.alloc hbel.size (.cells #[.int .u16 (x.1 : Int), .slice A3 x.2.length c3] 60))
      have i1 : (0 : Int) ≤ k := by omega
      have i2 : (k : Int) < n := by omega
      clear hx h6 hxl
      go_wp2_with fail
      go_roundw
      case rel => exact ⟨k + 1, _, by omega, by go_num, rfl, HZ, R2.out⟩
      case measure => simp [intOf]; omega
    · have he : k = n := by omega
      subst he
      by_cases c1 : k ≤ 60
      · obtain ⟨e1, e2⟩ := hz.out c1
        rw [List.take_of_length_le (by rw [HL.out]; exact Nat.le_refl _)] at e1
        have j1 : (k : Int) ≤ 60 := by omega
        by_cases c2 : tgdat l ≤ 1000
        · have j2 : z ≤ 1000 := by omega
          have E := Lib.hid (show tgfew l = true by unfold tgfew; rw [HL.out]; simp [c1, c2])
          clear e1 e2 c1 c2
          go_wp2_with fail
          go_ret
          exact ⟨by rw [E.out]; rfl, hbel⟩
        · have j2 : ¬ z ≤ 1000 := by omega
          have E := Lib.hid (show tgfew l = false by unfold tgfew; simp [c2])
          clear e1 e2 c1 c2
          go_wp2_with fail
          go_ret
          exact ⟨by rw [E.out]; rfl, hbel⟩
      · have j1 : ¬ (k : Int) ≤ 60 := by omega
        have E := Lib.hid (show tgfew l = false by unfold tgfew; rw [HL.out]; simp [c1])
        clear c1
        go_wp2_with fail
        go_ret
        exact ⟨by rw [E.out]; rfl, hbel⟩
end

section
set_option maxRecDepth 4000
open Go.RowKit

theorem tgs_take {a b : List (Nat × List Nat)} {k : Nat} {x y : Nat × List Nat} (h : a.take k = b.take k) (hx : a[k]? = some x) (hy : b[k]? = some y) (he : x = y) : a.take (k + 1) = b.take (k + 1) := by
  rw [List.take_add_one, List.take_add_one, h, hx, hy, he]
theorem tgs_ne {a b : List (Nat × List Nat)} {k : Nat} {x y : Nat × List Nat} (hx : a[k]? = some x) (hy : b[k]? = some y) (he : x ≠ y) : a ≠ b := fun e => he (by rw [e, hy] at hx; exact (Option.some.inj hx).symm)

set_option maxHeartbeats 2000000 in
theorem tgsame_any (a b : List (Nat × List Nat)) (n m c d : Nat) (A B : Option Addr) (F G : Nat → Prop) (w : World) (ha : Rws shG F w A a) (hb : Rws shG G w B b) (hA : ByG a) (hB : ByG b) (hn : a.length = n) (hm : b.length = m) (hn1 : n ≤ 274877906944) :
    Calls Try.prog 11 #[.slice A n c, .slice B m d] w fun e w' => e = .returned (.bool (decide (a = b))) ∧ Below w.heap.size w w' := by
  by_cases hl : n = m
  · subst hl
    have hne : ((n : Int) != (n : Int)) = false := by simp
    have HN := Lib.hid hn
    have HM := Lib.hid hm
    have HA := Lib.hid hA
    have HB := Lib.hid hB
    clear hn hm hA hB
    go_enter Try.func11, Try.ntmps11
    go_wp2_with fail
    go_loopw [5] (fun i wr => ∃ k : Nat, k ≤ n ∧ i = .int .i64 k ∧ Hid (a.take k = b.take k) ∧ Below w.heap.size w wr) (fun i _ => n - (intOf i).toNat)
    case atStart => exact ⟨0, Nat.zero_le _, rfl, Lib.hid (by simp), Below.refl _ _⟩
    case round =>
      obtain ⟨k, hk, rfl, heq, hbel⟩ := hrel
      by_cases hlt : k < n
      · obtain ⟨ba, oa, x, A3, c3, rfl, hb3, hx, h3, h4, h5, h6⟩ := (ha.below hbel).tag (k := k) (by rw [HN.out]; exact hlt)
        obtain ⟨bb, ob, y, A4, c4, rfl, hb4, hy, g3, g4, g5, g6⟩ := (hb.below hbel).tag (k := k) (by rw [HM.out]; exact hlt)
        have HX := Lib.hid hx
        have HY := Lib.hid hy
        have s1 := fun j => conv_list (h6.rd.on (below_drewN (Below.refl _ _) j)) x.2.length c3 rfl
        have s2 := fun j => conv_list (g6.rd.on (below_drewN (Below.refl _ _) j)) y.2.length c4 rfl
        have S := Lib.hid (nums_eq (HA.out.at_ hx).2 (HB.out.at_ hy).2)
        clear hx hy h6 g6
        have i1 : (0 : Int) ≤ k := by omega
        have i2 : (k : Int) < n := by omega
        by_cases ht : x.1 = y.1
        · have j1 : ((x.1 : Int) != (y.1 : Int)) = false := by rw [ht]; simp
          by_cases hq : x.2 = y.2
          · have R := Lib.hid (tgs_take heq.out HX.out HY.out (Prod.ext ht hq))
            have s3 : ((strOfNums (nums x.2)).toList == (strOfNums (nums y.2)).toList) = true := by rw [Lib.strOfNums_toList, Lib.strOfNums_toList, S.out]; exact decide_eq_true hq
            clear ht hq
            go_wp2_with fail
            go_quiet (fail)
            all_goals go_wp2_with fail
            go_roundw
            case rel => exact ⟨k + 1, by omega, by go_num, R, below_drewN hbel _⟩
            case measure => simp [intOf]; omega
          · have E := Lib.hid (show decide (a = b) = false from decide_eq_false (tgs_ne HX.out HY.out fun e => hq (by rw [e])))
            have s3 : ((strOfNums (nums x.2)).toList == (strOfNums (nums y.2)).toList) = false := by rw [Lib.strOfNums_toList, Lib.strOfNums_toList, S.out]; exact decide_eq_false hq
            clear ht hq
            go_wp2_with fail
            go_quiet (fail)
            all_goals go_wp2_with fail
            go_ret
            exact ⟨by rw [E.out]; rfl, below_drewN hbel _⟩
        · have j1 : ((x.1 : Int) != (y.1 : Int)) = true := by rw [bne_iff_ne]; omega
          have E := Lib.hid (show decide (a = b) = false from decide_eq_false (tgs_ne HX.out HY.out fun e => ht (by rw [e])))
          clear ht
          go_wp2_with fail
          go_quiet (fail)
          all_goals go_wp2_with fail
          go_ret
          exact ⟨by rw [E.out]; rfl, below_drewN hbel _⟩
      · go_wp2
        go_ret
        have he : k = n := by omega
        have hq := heq.out
        rw [he, List.take_of_length_le (by rw [HN.out]; exact Nat.le_refl _), List.take_of_length_le (by rw [HM.out]; exact Nat.le_refl _)] at hq
        exact ⟨by rw [decide_eq_true hq]; rfl, hbel⟩
  · have hne : ((n : Int) != (m : Int)) = true := by rw [bne_iff_ne]; omega
    have E := Lib.hid (show decide (a = b) = false from decide_eq_false fun e => hl (by rw [← hn, ← hm, e]))
    rw [E.out]
    clear E
    go_enter Try.func11, Try.ntmps11
    go_wp2
    go_ret
    exact ⟨rfl, Below.refl _ _⟩
end

section
set_option maxRecDepth 4000
open Go.RowKit

set_option maxHeartbeats 1000000 in
theorem tgof_any (l : List (Nat × List Nat)) (n c : Nat) (A : Option Addr) (F : Nat → Prop) (w : World) (h : Rws shG F w A l) (hF : ∀ b, w.heap.size ≤ b → F b) (hl : l.length = n) (hn : n ≤ 1073741824) :
    Calls Try.prog 16 #[.slice A n c] w fun e w' => ∃ v, e = .returned v ∧ Orw shG 43 F w.heap.size w' v l ∧ Below w.heap.size w w' := by
  obtain ⟨i0, hi, hz0, hz1, hz2⟩ := info_parts tag_info
  have HL := Lib.hid hl
  have HF := Lib.hid hF
  have HR := Lib.hid (h.mono (G := fun b => F b ∧ b < w.heap.size) fun b hb hf => ⟨hf, hb⟩)
  clear hl hF h
  go_enter Try.func16, Try.ntmps16
  go_wp2_with fail
  go_loopw [3, 8] (fun v i wr => ∃ k : Nat, k ≤ n ∧ i = .int .i64 k ∧ Orw shG 43 F w.heap.size wr v (l.take k) ∧ Below w.heap.size w wr) (fun _ i _ => n - (intOf i).toNat)
  case atStart => exact ⟨0, Nat.zero_le _, rfl, Orw.nil _ _ _ _ _, Below.refl _ _⟩
  case round =>
    obtain ⟨k, hk, rfl, hown, hbel⟩ := hrel
    by_cases hlt : k < n
    · obtain ⟨b, o, x, A3, c3, rfl, hb3, hx, h3, h4, h5, h6⟩ := (HR.out.below hbel).tag (k := k) (by rw [HL.out]; exact hlt)
      have HT := Lib.hid (show l.take (k + 1) = l.take k ++ [x] by rw [List.take_add_one, hx]; rfl)
      have HK := Lib.hid (show (l.take k).length = k by rw [List.length_take, HL.out]; omega)
      obtain ⟨wk, hwk⟩ : ∃ wk, wk = wr.alloc (.cells #[.int .u16 (x.1 : Int), .slice A3 x.2.length c3] 60) := ⟨_, rfl⟩
      have hbe : Below wr.heap.size wr wk := by rw [hwk]; exact (Below.refl _ _).alloc (Nat.le_refl _) _
      have HS := Lib.hid (show wk.heap.size = wr.heap.size + 1 by rw [hwk, World.size_alloc])
      have HWK := Lib.hid hwk
      have H6 := Lib.hid (h6.keep (.of_below hbe))
      have OW := Lib.hid (hown.below hbe)
      have BE := Lib.hid (hbel.trans (hbe.mono hbel.size))
      have BE2 := Lib.hid (BE.out.alloc BE.out.size (.cells #[.int .u16 (x.1 : Int), .slice A3 x.2.length c3] 43))
      clear hwk
      have i1 : (0 : Int) ≤ k := by omega
      have i2 : (k : Int) < n := by omega
      clear hx h6 hown hbel hbe
      go_wp2_with (at_builtin; rw [← HWK.out, ← HS.out]; refine list_rows shG rfl _ _ _ rfl 43 i0 (.agg #[.int .u16 0, .slice none 0 0]) 32 Try.underlying34 hi hz0 hz1 hz2 rfl (by decide) F _ w.heap.size _ k (l.take k) rfl (OW.out.below ((Below.refl _ _).alloc (Nat.le_refl _) _)) HK.out _ 1 1 _ rfl (litg _ rfl h5 H6.out).read rfl (fun b _ hb => hb.elim (fun h => ⟨h.1, fun e => absurd (OW.out.lt e).1 (Nat.not_le.2 h.2)⟩) (fun h => ⟨HF.out b (Nat.le_trans BE.out.size h), fun e => Nat.lt_irrefl _ (Nat.lt_of_lt_of_le (OW.out.lt e).2 h)⟩)) (by unfold maxLen; omega) (by omega) BE2.out.size ?_; intro v7 w7 ho7 hg7 hm7; have R2 := BE2.out.grown hg7 BE2.out.size (fun g hg => (OW.out.lt hg).1); clear hg7 hm7)
      have R1 : Orw shG 43 F w.heap.size w7 v7 (l.take (k + 1)) := by rw [HT.out]; exact ho7
      clear ho7
      go_roundw
      case rel => exact ⟨k + 1, by omega, by go_num, R1, R2⟩
      case measure => simp [intOf]; omega
    · have he : k = n := by omega
      subst he
      rw [List.take_of_length_le (by rw [HL.out]; exact Nat.le_refl _)] at hown
      go_wp2_with fail
      go_ret
      exact ⟨_, rfl, hown, hbel⟩

set_option maxHeartbeats 1000000 in
theorem tgto_any (l : List (Nat × List Nat)) (n c : Nat) (A : Option Addr) (F : Nat → Prop) (w : World) (h : Rws shG F w A l) (hF : ∀ b, w.heap.size ≤ b → F b) (hl : l.length = n) (hn : n ≤ 1073741824) :
    Calls Try.prog 12 #[.slice A n c] w fun e w' => ∃ v, e = .returned v ∧ Orw shG 60 F w.heap.size w' v l ∧ Below w.heap.size w w' := by
  obtain ⟨i0, hi, hz0, hz1, hz2⟩ := info_parts rtag_info
  have HL := Lib.hid hl
  have HF := Lib.hid hF
  have HR := Lib.hid (h.mono (G := fun b => F b ∧ b < w.heap.size) fun b hb hf => ⟨hf, hb⟩)
  clear hl hF h
  go_enter Try.func12, Try.ntmps12
  go_wp2_with fail
  go_loopw [3, 8] (fun v i wr => ∃ k : Nat, k ≤ n ∧ i = .int .i64 k ∧ Orw shG 60 F w.heap.size wr v (l.take k) ∧ Below w.heap.size w wr) (fun _ i _ => n - (intOf i).toNat)
  case atStart => exact ⟨0, Nat.zero_le _, rfl, Orw.nil _ _ _ _ _, Below.refl _ _⟩
  case round =>
    obtain ⟨k, hk, rfl, hown, hbel⟩ := hrel
    by_cases hlt : k < n
    · obtain ⟨b, o, x, A3, c3, rfl, hb3, hx, h3, h4, h5, h6⟩ := (HR.out.below hbel).tag (k := k) (by rw [HL.out]; exact hlt)
      have HT := Lib.hid (show l.take (k + 1) = l.take k ++ [x] by rw [List.take_add_one, hx]; rfl)
      have HK := Lib.hid (show (l.take k).length = k by rw [List.length_take, HL.out]; omega)
      obtain ⟨wk, hwk⟩ : ∃ wk, wk = wr.alloc (.cells #[.int .u16 (x.1 : Int), .slice A3 x.2.length c3] 43) := ⟨_, rfl⟩
      have hbe : Below wr.heap.size wr wk := by rw [hwk]; exact (Below.refl _ _).alloc (Nat.le_refl _) _
      have HS := Lib.hid (show wk.heap.size = wr.heap.size + 1 by rw [hwk, World.size_alloc])
      have HWK := Lib.hid hwk
      have H6 := Lib.hid (h6.keep (.of_below hbe))
      have OW := Lib.hid (hown.below hbe)
      have BE := Lib.hid (hbel.trans (hbe.mono hbel.size))
      have BE2 := Lib.hid (BE.out.alloc BE.out.size (.cells #[.int .u16 (x.1 : Int), .slice A3 x.2.length c3] 60))
      clear hwk
      have i1 : (0 : Int) ≤ k := by omega
      have i2 : (k : Int) < n := by omega
      clear hx h6 hown hbel hbe
      go_wp2_with (at_builtin; rw [← HWK.out, ← HS.out]; refine list_rows shG rfl _ _ _ rfl 60 i0 (.agg #[.int .u16 0, .slice none 0 0]) 32 Try.underlying23 hi hz0 hz1 hz2 rfl (by decide) F _ w.heap.size _ k (l.take k) rfl (OW.out.below ((Below.refl _ _).alloc (Nat.le_refl _) _)) HK.out _ 1 1 _ rfl (litg _ rfl h5 H6.out).read rfl (fun b _ hb => hb.elim (fun h => ⟨h.1, fun e => absurd (OW.out.lt e).1 (Nat.not_le.2 h.2)⟩) (fun h => ⟨HF.out b (Nat.le_trans BE.out.size h), fun e => Nat.lt_irrefl _ (Nat.lt_of_lt_of_le (OW.out.lt e).2 h)⟩)) (by unfold maxLen; omega) (by omega) BE2.out.size ?_; intro v7 w7 ho7 hg7 hm7; have R2 := BE2.out.grown hg7 BE2.out.size (fun g hg => (OW.out.lt hg).1); clear hg7 hm7)
      have R1 : Orw shG 60 F w.heap.size w7 v7 (l.take (k + 1)) := by rw [HT.out]; exact ho7
      clear ho7
      go_roundw
      case rel => exact ⟨k + 1, by omega, by go_num, R1, R2⟩
      case measure => simp [intOf]; omega
    · have he : k = n := by omega
      subst he
      rw [List.take_of_length_le (by rw [HL.out]; exact Nat.le_refl _)] at hown
      go_wp2_with fail
      go_ret
      exact ⟨_, rfl, hown, hbel⟩
end

section
set_option maxRecDepth 4000
open Go.ChangeShapes Go.WideShapes Go.ChangeAt Go.RowKit Go.Deep

/-- What the walk is told of a slice of tags. -/
def IsTags (w : World) (a : Option Addr) (len cap : Nat) (l : List (Nat × List Nat)) : Prop :=
  l.length = len ∧ len ≤ cap ∧ len ≤ 140737488351232 ∧ ByG l ∧ (∀ x ∈ l, x.2.length ≤ 140737488351232) ∧ Rws shG (fun _ => True) w a l

theorem tgall_mem {H : Type} {P : Program} {e : TypeId} : ∀ {l : List (DataW H)} {d : DataW H}, d ∈ l → ∀ n ∈ d.weights P e, n ∈ DataW.weightsAll P e l
  | d' :: r, d, hd, n, hn => by
    simp only [DataW.weightsAll, List.mem_append]
    rcases List.mem_cons.1 hd with rfl | h
    · exact Or.inl hn
    · exact Or.inr (tgall_mem h n hn)

/-- What one element tells. -/
def IsTag (w : World) (a : Addr) (o : Nat × List Nat) : Prop :=
  o.1 < 65536 ∧ By o.2 ∧ o.2.length ≤ 140737488351232 ∧ ∃ A c, o.2.length ≤ c ∧ w.cell? (a.add 0) = some (.int .u16 (o.1 : Int)) ∧ w.cell? (a.add 1) = some (.slice A o.2.length c) ∧ Rd w w.heap.size A o.2

theorem tgcells : Try.prog.cellsOf 60 = 2 := by kernel_rfl
theorem tgbytes : Try.prog.bytesOf 60 = 32 := by kernel_rfl
theorem tgcell1 : Try.prog.cellsOf 26 = 1 := by kernel_rfl
theorem tgcell0 : Try.prog.cellsOf 5 = 1 := by kernel_rfl
theorem tgcell2 : Try.prog.cellsOf 22 = 1 := by kernel_rfl
theorem tgbyte0 : Try.prog.bytesOf 5 = 1 := by kernel_rfl

set_option maxRecDepth 4000 in
theorem open_tag {H : Type} {enc : TypeId × Value → H} {w : World} {base : Nat} {held : Bool} {fuel : Nat} {a : Addr} {cs : List Value} {x : DataW H × List MemPlace}
    (hc : w.cells? base a 2 = some cs) (h : DataW.trod enc Try.prog w base (fun _ => true) held fuel 60 cs = some x) (hs : ∀ n ∈ x.1.weights Try.prog 60, n ≤ reachBytes) : ∃ o, IsTag w a o := by
  obtain ⟨_, hl, hat⟩ := World.cells?_some hc
  obtain ⟨xs, n, _, hx, _, hlen, hg⟩ := DataW.trod_struct Try.underlying60 h
  match cs, hl with
  | [c0, c1], _ =>
    match xs, hlen with
    | [y0, y1], _ =>
      have g0 := hg 0 _ rfl
      have g1 := hg 1 _ rfl
      simp [tgcell2, tgcell1] at g0 g1
      obtain ⟨t, e0, e1, st⟩ := DataW.trod_int Try.underlying22 g0
      simp at e0
      subst e0
      have ht : 0 ≤ t ∧ t < 65536 := by
        simp [Lit.wf, IntKind.min, IntKind.max, IntKind.signed, IntKind.bits] at st
        omega
      have f0 := hat 0 (by omega)
      have f1 := hat 1 (by omega)
      simp only [List.getElem?_cons_zero, List.getElem?_cons_succ] at f0 f1
      rcases open_ints Try.underlying26 Try.underlying5 tgcell0 g1 with ⟨hcs, _⟩ | ⟨ad, len, cap, zs, hcs, _, hlc, hm, hz, hy, hcell, hwz⟩
      · simp at hcs
        subst hcs
        refine ⟨(t.toNat, []), by show t.toNat < 65536; omega, By.nil, by simp, none, 0, by simp, ?_, f1, Rd.nil⟩
        rw [f0, Int.toNat_of_nonneg ht.1]
      · simp at hcs
        subst hcs
        have hz' : zs.length = cap := by simpa using hz
        obtain ⟨m, e1', e2', e3'⟩ := rowBytes (w := w) (a := some ad) (len := len) (cap := cap) (zs := zs) (.inr ⟨ad, rfl, hlc, hm, hz', hcell, hwz⟩)
        have hw : zs.length ≤ reachBytes := hs _ (by
          rw [hx]
          simp only [DataW.weights, Try.underlying60, List.map_cons, List.map_nil, DataW.weightsEach, hy, Try.underlying26, tgbyte0, List.mem_append, List.mem_cons]
          refine .inr (.inl (.inl ?_))
          simp only [lits, List.length_map, List.length_take, List.length_drop]
          omega)
        have hr : reachBytes = 140737488351232 := rfl
        refine ⟨(t.toNat, m), by show t.toNat < 65536; omega, e2', by show m.length ≤ _; omega, some ad, cap, by show m.length ≤ _; omega, ?_, ?_, e3'⟩
        · rw [f0, Int.toNat_of_nonneg ht.1]
        · rw [f1, e1']

set_option maxRecDepth 4000 in
theorem open_tagsV {H : Type} {enc : TypeId × Value → H} {w : World} {base : Nat} {held : Bool} {v : Value} {d : DataW H} {p : List MemPlace}
    (hv : ∃ a n c, v = .slice a n c) (h : DataW.Trod enc Try.prog w base (fun _ => true) held 23 v d p) (hs : ∀ n ∈ d.weights Try.prog 23, n ≤ reachBytes) :
    ∃ a len cap l, v = .slice a len cap ∧ IsTags w a len cap l := by
  obtain ⟨a, len, cap, rfl⟩ := hv
  obtain ⟨fuel, hf⟩ := h
  have hr : reachBytes = 140737488351232 := rfl
  rcases open_slice Try.underlying23 hf with ⟨hcs, _⟩ | ⟨x, l, c, m, n, D, Pl, hcs, _, hl, hm, hmm, hx, hi⟩
  · simp [Value.cells] at hcs
    obtain ⟨rfl, rfl, rfl⟩ := hcs
    exact ⟨_, _, _, [], rfl, rfl, Nat.le_refl _, by omega, (fun _ h => by cases h), (fun _ h => by cases h), Rws.nilG⟩
  · simp [Value.cells] at hcs
    obtain ⟨rfl, rfl, rfl⟩ := hcs
    simp only [if_true] at hmm
    have hd := congrArg Prod.fst hx
    simp only at hd
    have hs' := hs
    rw [hd] at hs'
    simp only [DataW.weights, Try.underlying23, List.mem_cons, List.mem_append] at hs'
    have hlen := hs' _ (.inl rfl)
    rw [tgbytes] at hlen
    simp only [List.length_map, List.length_range] at hlen
    have each : ∀ i, i < len → ∃ o, IsTag w (x.add (i * 2)) o := by
      intro i hil
      obtain ⟨cs', h1, h2⟩ := hi i (by omega)
      rw [tgcells] at h1
      exact open_tag h1 h2 (fun k hk => hs' k (.inr (.inl (tgall_mem (List.mem_map.2 ⟨i, List.mem_range.2 hil, rfl⟩) k hk))))
    obtain ⟨f, hf'⟩ := choose_lt each
    refine ⟨_, _, _, (List.range len).map f, rfl, by simp, hl, by omega, ?_, ?_, ?_⟩
    · intro o ho
      obtain ⟨i, hi', rfl⟩ := List.mem_map.1 ho
      have := hf' i (List.mem_range.1 hi')
      exact ⟨this.1, this.2.1⟩
    · intro o ho
      obtain ⟨i, hi', rfl⟩ := List.mem_map.1 ho
      exact (hf' i (List.mem_range.1 hi')).2.2.1
    · intro hpos
      rw [List.length_map, List.length_range] at hpos
      obtain ⟨b, off, spot⟩ := x
      obtain ⟨_, _, _, _, _, _, h0, _, _⟩ := hf' 0 hpos
      have hsp : spot = none := by simpa [Addr.add] using World.cell?_spot h0
      subst hsp
      refine ⟨b, off, rfl, by simpa [Addr.add] using block_lt h0, trivial, fun k o hk => ?_⟩
      rw [List.getElem?_map] at hk
      obtain ⟨r', hr', rfl⟩ := Option.map_eq_some_iff.1 hk
      have hkl : k < len := by have := (List.getElem?_eq_some_iff.1 hr').1; simpa using this
      rw [List.getElem?_range hkl] at hr'
      injection hr' with hr'
      subst hr'
      obtain ⟨_, _, _, A, c', g1, g2, g3, g4⟩ := hf' k hkl
      refine ⟨_, ⟨A, c', rfl, g1, g4.rdF (fun _ _ => trivial) (Nat.le_refl _)⟩, fun j u hu => ?_⟩
      have key : ∀ j, (Addr.add ⟨b, off, none⟩ (k * 2)).add j = ⟨b, off + (k * 2 + j), none⟩ := by
        intro j
        rw [Go.Deep.add_add]
        by_cases h0 : k * 2 + j = 0
        · rw [h0]; simp [Addr.add]
        · simp [Addr.add]
          omega
      match j, hu with
      | 0, hu =>
        injection hu with hu
        subst hu
        rw [← g2, key]
        rfl
      | 1, hu =>
        injection hu with hu
        subst hu
        rw [← g3, key]
        rfl
      | j + 2, hu => simp at hu
set_option maxRecDepth 4000 in
theorem open_tags {H : Type} {enc : TypeId × Value → H} {w : World} {base : Nat} {held : Bool} {r : Reach} {b0 : Nat} {v : Value} {d : DataW H} {p : List MemPlace}
    (hv : Value.okWide Try.prog w r b0 23 v) (h : DataW.Trod enc Try.prog w base (fun _ => true) held 23 v d p) (hs : ∀ n ∈ d.weights Try.prog 23, n ≤ reachBytes) :
    ∃ a len cap l, v = .slice a len cap ∧ IsTags w a len cap l := by
  obtain ⟨a, len, cap, rfl⟩ := okWide_slice Try.underlying23 hv
  exact open_tagsV ⟨a, len, cap, rfl⟩ h hs
end

section
set_option maxRecDepth 4000
open Go.RowKit

/-- What is written, if it can be. -/
def tgputA (l : List (Nat × List Nat)) : List Nat := if tgerr l = 0 then tgput l else []
theorem tgerr_next {l : List (Nat × List Nat)} {k : Nat} {o : Nat × List Nat} (h : tgerr (l.take k) = 0) (hk : l[k]? = some o) : tgerr (l.take (k + 1)) = if o.1 = 0 then 8 else if 65535 < o.2.length then 3 else 0 := by
  induction l generalizing k with
  | nil => simp at hk
  | cons p l ih =>
    match k with
    | 0 =>
      injection hk with hk
      subst hk
      rfl
    | k + 1 =>
      rw [List.take_succ_cons] at h ⊢
      obtain ⟨h0, h1, h2⟩ := tgerr_cons.1 h
      simp only [tgerr]
      rw [if_neg h0, if_neg (by omega)]
      exact ih h2 hk
/-- What a round of the document's Put knows: its own row, the cells of the tag at hand. -/
structure RG (w W : World) (a0 a1 : Addr) (t n : Nat) (A : Option Addr) (c : Nat) (v : Value) (m : Nat) (xs : List Nat) : Prop where
  bel : Below w.heap.size w W
  own : W.ownsRow w.heap.size 5 1 v m (bvs xs)
  lt0 : a0.block < w.heap.size
  lt1 : a1.block < w.heap.size
  f0 : w.cell? a0 = some (.int .u16 (t : Int))
  f1 : w.cell? a1 = some (.slice A n c)
section
variable {w W X W' : World} {a0 a1 : Addr} {t n : Nat} {A : Option Addr} {c : Nat} {v v' : Value} {m m' : Nat} {xs xs' : List Nat}
theorem RG.cells (h : RG w W a0 a1 t n A c v m xs) : W.cell? a0 = some (.int .u16 (t : Int)) ∧ W.cell? a1 = some (.slice A n c) := ⟨(h.bel.cell h.lt0).trans h.f0, (h.bel.cell h.lt1).trans h.f1⟩
theorem RG.step (h : RG w W a0 a1 t n A c v m xs) (hb : Below X.heap.size X W') (hX : Below W.heap.size W X := by first | exact Below.refl _ _ | exact (Below.refl _ _).drew) : RG w W' a0 a1 t n A c v m xs := by
  have hb' : Below W.heap.size W W' := hX.trans (hb.mono hX.size)
  exact ⟨h.bel.trans (hb'.mono h.bel.size), own_below h.own hb', h.lt0, h.lt1, h.f0, h.f1⟩
theorem RG.drew (h : RG w W a0 a1 t n A c v m xs) : RG w W.drew a0 a1 t n A c v m xs := h.step (X := W) (Below.refl _ _).drew
theorem RG.al (h : RG w W a0 a1 t n A c v m xs) (o : Obj) : RG w (W.alloc o) a0 a1 t n A c v m xs := h.step (X := W) ((Below.refl _ _).alloc (Nat.le_refl _) o)
theorem RG.app (h : RG w W a0 a1 t n A c v m xs) (ho : W'.ownsRow w.heap.size 5 1 v' m' (bvs xs')) (hg : W.grownBy W' v.ownBlock) : RG w W' a0 a1 t n A c v' m' xs' :=
  ⟨h.bel.grown hg h.bel.size (fun k hk => (h.own.lt k hk).1), ho, h.lt0, h.lt1, h.f0, h.f1⟩
end
end

section
set_option maxRecDepth 4000
open Go.RowKit

/-- What Get answers: a row of its own, whose data lie anywhere. -/
def GetG (T : TypeId) (b : List Nat) (w : World) (e : Ending) (w' : World) : Prop :=
  ∃ v, e = .returned (.tuple #[v, .int .i64 ((tgget b).2.1 : Int), .int .i64 ((tgget b).2.2 : Int)]) ∧ Orw shG T (fun _ => True) w.heap.size w' v (tgget b).1 ∧ Below w.heap.size w w'
theorem getG_bad {T : TypeId} {b : List Nat} {k : Nat} {w w' : World} (h : tgget b = ([], 0, k)) (hb : Below w.heap.size w w') :
    GetG T b w (.returned (.tuple #[.slice none 0 0, .int .i64 0, .int .i64 (k : Int)])) w' := ⟨_, by rw [h]; rfl, by rw [h]; exact Orw.nil _ _ _ _ _, hb⟩
theorem getG_end {T : TypeId} {b : List Nat} {w w' : World} (h : tgget b = ([], 4, 0)) (hb : Below w.heap.size w w') :
    GetG T b w (.returned (.tuple #[.slice none 0 0, .int .i64 4, .int .i64 0])) w' := ⟨_, by rw [h]; rfl, by rw [h]; exact Orw.nil _ _ _ _ _, hb⟩
theorem Rd.cutG {w : World} {B b o : Nat} {l : List Nat} (h : Rd w B (some ⟨b, o, none⟩) l) {f c : Nat} (hc : l.length ≤ c) : Rd w B (if c = f then some ⟨b, o, none⟩ else some ⟨b, o + f, none⟩) (l.drop f) := by
  by_cases hf : l.length ≤ f
  · rw [List.drop_eq_nil_of_le hf]; exact Rd.nil
  · rw [if_neg (by omega)]
    intro hl
    obtain ⟨b', o', e, hb, hcell⟩ := h (by omega)
    injection e with e
    injection e with e1 e2
    subst e1; subst e2
    exact ⟨b, o + f, rfl, hb, fun k x hx => by rw [Nat.add_assoc]; exact hcell (f + k) x (by rw [← List.getElem?_drop]; exact hx)⟩
/-- A row read, its data in blocks that there are. -/
theorem Rws.there {F : Nat → Prop} {w : World} {A : Option Addr} {l : List (Nat × List Nat)} (h : Rws shG F w A l) : Rws shG (fun b => b < w.heap.size) w A l := h.mono fun _ hb _ => hb

theorem tgget_len (b : List Nat) (hb : By b) : 4 * (tgget b).1.length ≤ b.length ∧ (tgget b).2.1 ≤ b.length := by
  by_cases h : (tgget b).2.2 = 0
  · obtain ⟨h1, -, -, h4, -⟩ := tgput_get b hb h
    refine ⟨?_, h4⟩
    have h5 := congrArg List.length h1
    rw [List.length_take] at h5
    have h6 := tgput_len (tgget b).1
    omega
  · obtain ⟨h1, h2⟩ := tgget_err b h
    rw [h1, h2]
    exact ⟨Nat.zero_le _, Nat.zero_le _⟩
end

section
set_option maxRecDepth 4000
open Go.RowKit

/-- A type's name. -/
def tgname (t : Nat) : ByteArray := if t = 257 then ⟨#[115, 101, 114, 118, 105, 99, 101]⟩ else if t = 258 then ⟨#[110, 97, 109, 101]⟩ else if t = 259 then ⟨#[117, 110, 105, 113, 117, 101]⟩ else if t = 260 then ⟨#[99, 111, 111, 107, 105, 101]⟩ else if t = 261 then ⟨#[118, 101, 110, 100, 111, 114]⟩ else if t = 272 then ⟨#[114, 101, 108, 97, 121]⟩ else if t = 513 then ⟨#[110, 111, 45, 115, 101, 114, 118, 105, 99, 101]⟩ else if t = 514 then ⟨#[110, 111, 45, 115, 121, 115, 116, 101, 109]⟩ else if t = 515 then ⟨#[101, 114, 114, 111, 114]⟩ else ⟨#[]⟩

/-- The numbers that have a name, in their order. -/
def tgnums : List Nat := [257, 258, 259, 260, 261, 272, 513, 514, 515]
end
end Go.Proofs.Ytmhjnghomihjlaa
