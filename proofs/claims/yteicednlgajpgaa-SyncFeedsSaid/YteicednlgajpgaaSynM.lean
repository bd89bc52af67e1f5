
/-
  Mathematics of layer 7, of lists alone: what a deframer of bits keeps, and tells, bit by bit; and what the document says of a whole stream. No condition.
-/
import Derived.Test.YteicednlgajpgaaSBit
namespace Go.Proofs.Yteicednlgajpgaa

/-- A segment told: its kind and its octets. -/
abbrev Sg := Nat × List Nat
/-- What a deframer keeps: octets, bits of the next one, how many bits; does a 0 wait ahead of the row, how long is the row, was there one of seven. -/
structure St where
  held : List Nat
  begun : List Nat
  count : Nat
  ahead : Bool
  row : Nat
  broken : Bool
def St.start : St := ⟨[], [], 0, false, 0, false⟩
def oct (n : Nat) : Nat := (n + 7) / 8
def St.bad (most : Nat) (s : St) : Bool := s.broken || decide (most < oct s.count)
def St.keep (most : Nat) (s : St) (x : Nat) : St :=
  if s.broken = true ∨ most < oct (s.count + 1) then ⟨[], [], s.count + 1, s.ahead, s.row, s.broken⟩
  else if s.begun.length + 1 = 8 then ⟨s.held ++ toO (s.begun ++ [x]), [], s.count + 1, s.ahead, s.row, s.broken⟩
  else ⟨s.held, s.begun ++ [x], s.count + 1, s.ahead, s.row, s.broken⟩
def St.one (s : St) : St :=
  if 6 ≤ s.row then ⟨[], [], s.count, s.ahead, 7, true⟩ else ⟨s.held, s.begun, s.count, s.ahead, s.row + 1, s.broken⟩
def St.keeps (most : Nat) (s : St) : Nat → St
  | 0 => s
  | n + 1 => (St.keeps most s n).keep most 1
def St.first (most : Nat) (s : St) : St := if s.ahead then s.keep most 0 else s
def St.calm (s : St) (r : Nat) : St := ⟨s.held, s.begun, s.count, decide (r ≠ 5), 0, s.broken⟩
def St.settle (most : Nat) (s : St) : St := (St.keeps most (s.first most) s.row).calm s.row
def St.tell (most : Nat) (s : St) : List Sg :=
  if s.broken then [(2, [])] else if s.count = 0 then [] else if s.count % 8 ≠ 0 then [(3, [])] else if most < oct s.count then [(4, [])] else [(0, s.held)]
def stp (most : Nat) (s : St) (x : Nat) : St × List Sg :=
  if x % 2 = 1 then (s.one, []) else if s.row = 6 then (St.start, s.tell most) else (s.settle most, [])
def run (most : Nat) (s : St) : List Nat → St × List Sg
  | [] => (s, [])
  | c :: t => ((run most (stp most s c).1 t).1, (stp most s c).2 ++ (run most (stp most s c).1 t).2)

theorem run_nil (most : Nat) (s : St) : run most s [] = (s, []) := rfl
theorem run_cons (most : Nat) (s : St) (c : Nat) (t : List Nat) : run most s (c :: t) = ((run most (stp most s c).1 t).1, (stp most s c).2 ++ (run most (stp most s c).1 t).2) := rfl
theorem run_one (most : Nat) (s : St) (c : Nat) : run most s [c] = stp most s c := by simp [run]
theorem run_app (most : Nat) (a : List Nat) : ∀ (s : St) (b : List Nat), run most s (a ++ b) = ((run most (run most s a).1 b).1, (run most s a).2 ++ (run most (run most s a).1 b).2) := by
  induction a with
  | nil => intro s b; rfl
  | cons c t ih => intro s b; rw [List.cons_append, run_cons, ih, run_cons, List.append_assoc]
theorem run_app1 (most : Nat) (s : St) (a b : List Nat) : (run most s (a ++ b)).1 = (run most (run most s a).1 b).1 := by rw [run_app]
theorem run_app2 (most : Nat) (s : St) (a b : List Nat) : (run most s (a ++ b)).2 = (run most s a).2 ++ (run most (run most s a).1 b).2 := by rw [run_app]
theorem run_take {most k x : Nat} {s : St} {l : List Nat} (h : l[k]? = some x) : run most s (l.take (k + 1)) = ((stp most (run most s (l.take k)).1 x).1, (run most s (l.take k)).2 ++ (stp most (run most s (l.take k)).1 x).2) := by
  rw [List.take_add_one, h, Option.toList_some, run_app, run_one]
theorem stp_low (most : Nat) (s : St) (x : Nat) : stp most s (x % 2) = stp most s x := by unfold stp; rw [Nat.mod_mod]
theorem run_lows (most : Nat) (l : List Nat) : ∀ s : St, run most s (lows l) = run most s l := by
  induction l with
  | nil => intro s; rfl
  | cons c t ih =>
    intro s
    show run most s (c % 2 :: lows t) = _
    rw [run_cons, run_cons, stp_low, ih]

/-- What is kept may be kept. -/
structure St.ok (most : Nat) (s : St) : Prop where
  by_ : By s.held
  by2 : By s.begun
  lt : s.begun.length < 8
  row : s.row ≤ 7
  bad : s.bad most = true → s.held = [] ∧ s.begun = []
  len : s.bad most = false → 8 * s.held.length + s.begun.length = s.count
theorem St.ok.most {most : Nat} {s : St} (h : s.ok most) : s.held.length ≤ most := by
  cases hb : s.bad most
  · have h1 := h.len hb
    unfold St.bad at hb
    simp only [Bool.or_eq_false_iff, decide_eq_false_iff_not] at hb
    have h2 := hb.2
    unfold oct at h2
    omega
  · rw [(h.bad hb).1]; exact Nat.zero_le _
theorem ok_start (most : Nat) : St.start.ok most := ⟨By.nil, By.nil, by decide, by decide, fun _ => ⟨rfl, rfl⟩, fun _ => rfl⟩
theorem oct_mono {a b : Nat} (h : a ≤ b) : oct a ≤ oct b := by unfold oct; omega

theorem keep_bad {most x : Nat} {s : St} (h : s.broken = true ∨ most < oct (s.count + 1)) : s.keep most x = ⟨[], [], s.count + 1, s.ahead, s.row, s.broken⟩ := by unfold St.keep; rw [if_pos h]
theorem keep_full {most x : Nat} {s : St} (h : ¬ (s.broken = true ∨ most < oct (s.count + 1))) (h8 : s.begun.length + 1 = 8) : s.keep most x = ⟨s.held ++ toO (s.begun ++ [x]), [], s.count + 1, s.ahead, s.row, s.broken⟩ := by unfold St.keep; rw [if_neg h, if_pos h8]
theorem keep_more {most x : Nat} {s : St} (h : ¬ (s.broken = true ∨ most < oct (s.count + 1))) (h8 : ¬ s.begun.length + 1 = 8) : s.keep most x = ⟨s.held, s.begun ++ [x], s.count + 1, s.ahead, s.row, s.broken⟩ := by unfold St.keep; rw [if_neg h, if_neg h8]
theorem keep_count (most x : Nat) (s : St) : (s.keep most x).count = s.count + 1 := by unfold St.keep; split; rfl; split <;> rfl
theorem keep_row (most x : Nat) (s : St) : (s.keep most x).row = s.row := by unfold St.keep; split; rfl; split <;> rfl
theorem keep_ahead (most x : Nat) (s : St) : (s.keep most x).ahead = s.ahead := by unfold St.keep; split; rfl; split <;> rfl
theorem keep_broken (most x : Nat) (s : St) : (s.keep most x).broken = s.broken := by unfold St.keep; split; rfl; split <;> rfl
theorem not_bad {most : Nat} {s : St} (h : ¬ (s.broken = true ∨ most < oct (s.count + 1))) : s.bad most = false ∧ s.broken = false ∧ oct (s.count + 1) ≤ most := by
  have h1 : ¬ s.broken = true := fun e => h (.inl e)
  have h2 : ¬ most < oct (s.count + 1) := fun e => h (.inr e)
  have h3 := oct_mono (show s.count ≤ s.count + 1 by omega)
  unfold St.bad
  refine ⟨?_, by simpa using h1, by omega⟩
  simp only [Bool.or_eq_false_iff, decide_eq_false_iff_not]
  exact ⟨by simpa using h1, by omega⟩
theorem ok_keep {most x : Nat} {s : St} (h : s.ok most) (hx : x < 256) : (s.keep most x).ok most := by
  by_cases hb : s.broken = true ∨ most < oct (s.count + 1)
  · rw [keep_bad hb]
    refine ⟨By.nil, By.nil, Nat.succ_pos 7, h.row, fun _ => ⟨rfl, rfl⟩, fun hn => ?_⟩
    unfold St.bad at hn
    simp only [Bool.or_eq_false_iff, decide_eq_false_iff_not] at hn
    rcases hb with hb | hb
    · rw [hb] at hn; exact absurd hn.1 (by decide)
    · exact absurd hb hn.2
  · obtain ⟨h1, h2, h3⟩ := not_bad hb
    have hl := h.len h1
    have hnb : ∀ a b, St.bad most ⟨a, b, s.count + 1, s.ahead, s.row, s.broken⟩ = false := by
      intro a b
      unfold St.bad
      simp only [Bool.or_eq_false_iff, decide_eq_false_iff_not]
      exact ⟨h2, by omega⟩
    have hbx : By [x] := by intro y hy; rw [List.mem_singleton] at hy; omega
    by_cases h8 : s.begun.length + 1 = 8
    · rw [keep_full hb h8]
      refine ⟨h.by_.app (toO_by _), By.nil, Nat.succ_pos 7, h.row, fun hn => (by rw [hnb] at hn; cases hn), fun _ => ?_⟩
      show 8 * (s.held ++ toO (s.begun ++ [x])).length + 0 = s.count + 1
      rw [List.length_append, toO_len, List.length_append, List.length_singleton]; omega
    · rw [keep_more hb h8]
      refine ⟨h.by_, h.by2.app hbx, ?_, h.row, fun hn => (by rw [hnb] at hn; cases hn), fun _ => ?_⟩
      · show (s.begun ++ [x]).length < 8
        rw [List.length_append, List.length_singleton]; have := h.lt; omega
      · show 8 * s.held.length + (s.begun ++ [x]).length = s.count + 1
        rw [List.length_append, List.length_singleton]; omega
theorem ok_one {most : Nat} {s : St} (h : s.ok most) : s.one.ok most := by
  unfold St.one
  split
  · exact ⟨By.nil, By.nil, Nat.succ_pos 7, Nat.le_refl 7, fun _ => ⟨rfl, rfl⟩, fun hn => by simp [St.bad] at hn⟩
  · exact ⟨h.by_, h.by2, h.lt, by show s.row + 1 ≤ 7; omega, h.bad, h.len⟩
theorem ok_keeps {most : Nat} {s : St} (h : s.ok most) : ∀ n, (St.keeps most s n).ok most
  | 0 => h
  | n + 1 => ok_keep (ok_keeps h n) (by decide)
theorem keeps_count (most : Nat) (s : St) : ∀ n, (St.keeps most s n).count = s.count + n
  | 0 => rfl
  | n + 1 => by rw [St.keeps, keep_count, keeps_count most s n]; omega
theorem keeps_broken (most : Nat) (s : St) : ∀ n, (St.keeps most s n).broken = s.broken
  | 0 => rfl
  | n + 1 => by rw [St.keeps, keep_broken, keeps_broken most s n]
theorem keeps_row (most : Nat) (s : St) : ∀ n, (St.keeps most s n).row = s.row
  | 0 => rfl
  | n + 1 => by rw [St.keeps, keep_row, keeps_row most s n]
theorem ok_first {most : Nat} {s : St} (h : s.ok most) : (s.first most).ok most := by
  unfold St.first; split
  · exact ok_keep h (by decide)
  · exact h
theorem first_row (most : Nat) (s : St) : (s.first most).row = s.row := by unfold St.first; split; exact keep_row _ _ _; rfl
theorem first_broken (most : Nat) (s : St) : (s.first most).broken = s.broken := by unfold St.first; split; exact keep_broken _ _ _; rfl
theorem first_count (most : Nat) (s : St) : (s.first most).count = s.count + s.ahead.toNat := by
  unfold St.first; cases s.ahead
  · rfl
  · exact keep_count _ _ _
theorem ok_calm {most r : Nat} {s : St} (h : s.ok most) : (s.calm r).ok most := ⟨h.by_, h.by2, h.lt, Nat.zero_le _, h.bad, h.len⟩
theorem ok_settle {most : Nat} {s : St} (h : s.ok most) : (s.settle most).ok most := ok_calm (ok_keeps (ok_first h) _)
theorem ok_stp {most : Nat} {s : St} (h : s.ok most) (c : Nat) : (stp most s c).1.ok most := by
  unfold stp
  split
  · exact ok_one h
  split
  · exact ok_start _
  · exact ok_settle h
theorem ok_run {most : Nat} (l : List Nat) : ∀ {s : St}, s.ok most → (run most s l).1.ok most := by
  induction l with
  | nil => intro s h; exact h
  | cons c t ih => intro s h; exact ih (ok_stp h c)

/-- How many bits wait. -/
def St.tot (s : St) : Nat := s.count + s.row + s.ahead.toNat
theorem stp_tot (most : Nat) (s : St) (c : Nat) : (stp most s c).1.tot ≤ s.tot + 1 := by
  unfold stp
  split
  · unfold St.one St.tot
    split
    · show s.count + 7 + s.ahead.toNat ≤ _; omega
    · show s.count + (s.row + 1) + s.ahead.toNat ≤ _; omega
  split
  · exact Nat.zero_le _
  · unfold St.settle St.calm St.tot
    show (St.keeps most (s.first most) s.row).count + 0 + (decide (s.row ≠ 5)).toNat ≤ _
    rw [keeps_count, first_count]
    have := Bool.toNat_le (decide (s.row ≠ 5))
    omega
theorem run_tot {most : Nat} (l : List Nat) : ∀ {s : St}, (run most s l).1.tot ≤ s.tot + l.length := by
  induction l with
  | nil => intro s; exact Nat.le_refl _
  | cons c t ih =>
    intro s
    rw [run_cons, List.length_cons]
    have h1 := ih (s := (stp most s c).1)
    have h2 := stp_tot most s c
    show (run most (stp most s c).1 t).1.tot ≤ _
    omega

/-- What is told may be told. -/
def Sg.ok (most : Nat) (s : Sg) : Prop := By s.2 ∧ s.2.length ≤ most ∧ ((s.1 = 0) ∨ (s.1 ≠ 0 ∧ s.1 ≤ 4 ∧ s.2 = []))
theorem tell_ok {most : Nat} {s : St} (h : s.ok most) : ∀ x ∈ s.tell most, x.ok most := by
  intro x hx
  unfold St.tell at hx
  split at hx
  · rw [List.mem_singleton] at hx; subst hx; exact ⟨By.nil, Nat.zero_le _, .inr ⟨by decide, by decide, rfl⟩⟩
  split at hx
  · cases hx
  split at hx
  · rw [List.mem_singleton] at hx; subst hx; exact ⟨By.nil, Nat.zero_le _, .inr ⟨by decide, by decide, rfl⟩⟩
  split at hx
  · rw [List.mem_singleton] at hx; subst hx; exact ⟨By.nil, Nat.zero_le _, .inr ⟨by decide, by decide, rfl⟩⟩
  · rw [List.mem_singleton] at hx; subst hx; exact ⟨h.by_, h.most, .inl rfl⟩
theorem tell_len (most : Nat) (s : St) : (s.tell most).length ≤ 1 := by
  unfold St.tell
  split
  · exact Nat.le_refl _
  split
  · exact Nat.zero_le _
  split
  · exact Nat.le_refl _
  split
  · exact Nat.le_refl _
  · exact Nat.le_refl _
theorem stp_told {most c : Nat} {s : St} : (stp most s c).2 = if c % 2 = 1 then [] else if s.row = 6 then s.tell most else [] := by
  unfold stp
  split
  · rfl
  split <;> rfl
theorem run_ok {most : Nat} (l : List Nat) : ∀ {s : St}, s.ok most → ∀ x ∈ (run most s l).2, x.ok most := by
  induction l with
  | nil => intro s _ x hx; cases hx
  | cons c t ih =>
    intro s h x hx
    rw [run_cons] at hx
    rcases List.mem_append.1 hx with h1 | h1
    · rw [stp_told] at h1
      split at h1
      · cases h1
      split at h1
      · exact tell_ok h x h1
      · cases h1
    · exact ih (ok_stp h c) x h1
theorem run_told {most : Nat} (l : List Nat) : ∀ {s : St}, (run most s l).2.length ≤ l.length := by
  induction l with
  | nil => intro s; exact Nat.le_refl _
  | cons c t ih =>
    intro s
    rw [run_cons, List.length_append, List.length_cons, stp_told]
    have h1 := ih (s := (stp most s c).1)
    have h2 := tell_len most s
    split
    · rw [List.length_nil]; omega
    split
    · omega
    · rw [List.length_nil]; omega
def octs (l : List Sg) : Nat := (l.map fun s => s.2.length).sum
theorem octs_nil : octs [] = 0 := rfl
theorem octs_app (a b : List Sg) : octs (a ++ b) = octs a + octs b := by simp [octs]
theorem octs_take {l : List Sg} {k : Nat} {x : Sg} (h : l[k]? = some x) : octs (l.take (k + 1)) = octs (l.take k) + x.2.length := by
  rw [List.take_add_one, h, Option.toList_some, octs_app]
  simp [octs]
theorem octs_mem (l : List Sg) (k : Nat) : octs (l.take (k + 1)) ≤ octs l := by
  have e : octs l = octs (l.take (k + 1)) + octs (l.drop (k + 1)) := by rw [← octs_app, List.take_append_drop]
  omega
theorem tell_octs {most : Nat} {s : St} (h : s.ok most) : 8 * octs (s.tell most) ≤ s.count := by
  unfold St.tell
  split
  · exact Nat.zero_le _
  split
  · exact Nat.zero_le _
  split
  · exact Nat.zero_le _
  split
  · exact Nat.zero_le _
  · rename_i h1 h2 h3 h4
    have hb : s.bad most = false := by unfold St.bad; simp only [Bool.or_eq_false_iff, decide_eq_false_iff_not]; exact ⟨by simpa using h1, h4⟩
    have := h.len hb
    simp [octs]
    omega
theorem stp_octs {most : Nat} {s : St} (h : s.ok most) (c : Nat) : (stp most s c).1.tot + 8 * octs (stp most s c).2 ≤ s.tot + 1 := by
  rw [stp_told]
  split
  · rw [octs_nil]; have := stp_tot most s c; omega
  split
  · rename_i h1 h2
    have h3 := tell_octs h
    have : (stp most s c).1 = St.start := by unfold stp; rw [if_neg h1, if_pos h2]
    rw [this]
    show 0 + _ ≤ _
    unfold St.tot; omega
  · rw [octs_nil]; have := stp_tot most s c; omega
theorem run_octs {most : Nat} (l : List Nat) : ∀ {s : St}, s.ok most → (run most s l).1.tot + 8 * octs (run most s l).2 ≤ s.tot + l.length := by
  induction l with
  | nil => intro s _; exact Nat.le_refl _
  | cons c t ih =>
    intro s h
    rw [run_cons, octs_app, List.length_cons]
    have h1 := ih (s := (stp most s c).1) (ok_stp h c)
    have h2 := stp_octs h c
    show (run most (stp most s c).1 t).1.tot + 8 * (octs (stp most s c).2 + octs (run most (stp most s c).1 t).2) ≤ _
    omega

/-! A flag begins anew. -/
def flagL : List Nat := [0, 1, 1, 1, 1, 1, 1, 0]
theorem one_up {most x : Nat} {s : St} (h : s.row < 6) (hx : x % 2 = 1) : (stp most s x).1.row = s.row + 1 ∧ (stp most s x).2 = [] := by
  unfold stp St.one
  rw [if_pos hx, if_neg (by omega)]
  exact ⟨rfl, rfl⟩
theorem row_ones {most : Nat} {s : St} (h : s.row = 0) : ∀ n, n ≤ 6 → (run most s (List.replicate n 1)).1.row = n
  | 0, _ => h
  | n + 1, hn => by
    have ih := row_ones (most := most) h n (by omega)
    rw [List.replicate_succ', run_app, run_one]
    have := (one_up (most := most) (x := 1) (s := (run most s (List.replicate n 1)).1) (by omega) rfl).1
    show (stp most (run most s (List.replicate n 1)).1 1).1.row = n + 1
    omega
theorem six_end {most : Nat} {s : St} (h : s.row = 0) : (run most s [1, 1, 1, 1, 1, 1, 0]).1 = St.start := by
  have h1 := row_ones (most := most) h 6 (Nat.le_refl _)
  have e : [1, 1, 1, 1, 1, 1, 0] = List.replicate 6 1 ++ [0] := rfl
  rw [e, run_app1, run_one]
  unfold stp
  rw [if_neg (by decide), if_pos h1]
theorem run_flag (most : Nat) (s : St) : (run most s flagL).1 = St.start := by
  have e : flagL = [0] ++ [1, 1, 1, 1, 1, 1, 0] := rfl
  rw [e, run_app1, run_one, six_end]
  unfold stp
  rw [if_neg (by decide)]
  split
  · rfl
  · rfl
theorem run_six (most : Nat) (a : Bool) : run most ⟨[], [], 0, a, 0, false⟩ [1, 1, 1, 1, 1, 1, 0] = (St.start, []) := by
  have h1 : ∀ n, n < 6 → stp most ⟨[], [], 0, a, n, false⟩ 1 = (⟨[], [], 0, a, n + 1, false⟩, []) := by
    intro n hn
    unfold stp St.one
    rw [if_pos rfl, if_neg (by show ¬ 6 ≤ n; omega)]
  have h2 : stp most ⟨[], [], 0, a, 6, false⟩ 0 = (St.start, []) := by
    simp [stp, St.tell]
  simp only [run_cons, run_nil]
  rw [h1 0 (by omega), h1 1 (by omega), h1 2 (by omega), h1 3 (by omega), h1 4 (by omega), h1 5 (by omega), h2]
  rfl
theorem run_flag0 (most : Nat) : run most St.start flagL = (St.start, []) := by
  have e : flagL = [0] ++ [1, 1, 1, 1, 1, 1, 0] := rfl
  rw [e, run_app, run_one]
  have h : stp most St.start 0 = (⟨[], [], 0, true, 0, false⟩, []) := by simp [stp, St.start, St.settle, St.first, St.keeps, St.calm]
  rw [h]
  simp only [run_six]
  rfl
theorem run_flag1 (most : Nat) : run most St.start [1, 1, 1, 1, 1, 1, 0] = (St.start, []) := run_six most false

end Go.Proofs.Yteicednlgajpgaa
