
/-
  Mathematics of layer 7, of lists alone: the document's own answers for a whole stream of bits, and that the deframer tells the same. No condition.
-/
import Derived.Test.YteicednlgajpgaaSynM
namespace Go.Proofs.Yteicednlgajpgaa

/-- What the document says that a segment tells. -/
def tellP (most : Nat) (raw : List Nat) : List Sg :=
  if raw = [] then [] else if 5 < best raw then [(2, [])] else if (remP raw).1.length % 8 ≠ 0 then [(3, [])]
  else if most < (remP raw).1.length / 8 then [(4, [])] else [(0, toO (remP raw).1)]
/-- The bits ahead of a flag's row of 1s and of the 0 ahead of it. -/
def cutP (u : List Nat) : List Nat := u.take (u.length - 7)
def stepP (s : List (List Nat) × List Nat) (x : Nat) : List (List Nat) × List Nat :=
  if x % 2 = 0 ∧ (runP s.2).2 = 6 then (s.1 ++ [cutP s.2], []) else (s.1, s.2 ++ [x])
/-- The segments of a stream, and what stands behind the last flag. -/
def partsF (l : List Nat) : List (List Nat) × List Nat := l.foldl stepP ([], [])
def allP (most : Nat) (l : List Nat) : List Sg := (partsF l).1.flatMap (tellP most)
theorem partsF_snoc (l : List Nat) (x : Nat) : partsF (l ++ [x]) = stepP (partsF l) x := by simp [partsF]

/-- The octets and bits kept are these bits. -/
structure Kp (most : Nat) (s : St) (bits : List Nat) : Prop where
  count : s.count = bits.length
  two : ∀ y ∈ bits, y < 2
  same : oct s.count ≤ most → ofB s.held ++ s.begun = bits
theorem lows_two {l : List Nat} (h : ∀ y ∈ l, y < 2) : lows l = l := by
  unfold lows
  conv => rhs; rw [← List.map_id l]
  refine List.map_congr_left fun y hy => ?_
  have := h y hy
  show y % 2 = y
  omega
theorem Kp.keep {most x : Nat} {s : St} {bits : List Nat} (h : Kp most s bits) (hb : s.broken = false) (hx : x < 2) : Kp most (s.keep most x) (bits ++ [x]) := by
  have h2 : ∀ y ∈ bits ++ [x], y < 2 := by
    intro y hy
    rcases List.mem_append.1 hy with hy | hy
    · exact h.two y hy
    · rw [List.mem_singleton] at hy; omega
  refine ⟨by rw [keep_count, h.count, List.length_append, List.length_singleton], h2, ?_⟩
  rw [keep_count]
  intro ho
  have hnb : ¬ (s.broken = true ∨ most < oct (s.count + 1)) := by
    rintro (h1 | h1)
    · rw [hb] at h1; cases h1
    · omega
  have hs := h.same (by have := oct_mono (show s.count ≤ s.count + 1 by omega); omega)
  by_cases h8 : s.begun.length + 1 = 8
  · rw [keep_full hnb h8]
    show ofB (s.held ++ toO (s.begun ++ [x])) ++ [] = _
    have hl : (s.begun ++ [x]).length = 8 * 1 := by rw [List.length_append, List.length_singleton]; omega
    rw [List.append_nil, ofB_app, ofB_toO hl, lows_two (fun y hy => h2 y (by
      rw [← hs, List.append_assoc]; exact List.mem_append_right _ hy)), ← List.append_assoc, hs]
  · rw [keep_more hnb h8]
    show ofB s.held ++ (s.begun ++ [x]) = _
    rw [← List.append_assoc, hs]
theorem Kp.keeps {most : Nat} {s : St} {bits : List Nat} (h : Kp most s bits) (hb : s.broken = false) : ∀ n, Kp most (St.keeps most s n) (bits ++ List.replicate n 1)
  | 0 => by rw [List.replicate_zero, List.append_nil]; exact h
  | n + 1 => by
    rw [List.replicate_succ', ← List.append_assoc]
    exact (Kp.keeps h hb n).keep (by rw [keeps_broken]; exact hb) (by omega)

/-- The bits of a tail that are a segment's, whatever comes. -/
def qOf (u : List Nat) : List Nat := u.take (u.length - ((runP u).2 + 1))
theorem rem_two (l : List Nat) : ∀ y ∈ (remP l).1, y < 2 := by
  induction l using snoc_rec with
  | nil => intro y hy; cases hy
  | snoc l x ih =>
    rw [remP_snoc]
    unfold stepQ
    intro y hy
    dsimp only at hy
    split at hy
    · exact ih y hy
    · rcases List.mem_append.1 hy with hy | hy
      · exact ih y hy
      · rw [List.mem_singleton] at hy; omega
theorem rem_pos {l : List Nat} (h : l ≠ []) : (remP l).1 ≠ [] := by
  induction l using snoc_rec with
  | nil => exact absurd rfl h
  | snoc l x ih =>
    rw [remP_snoc]
    unfold stepQ
    by_cases hl : l = []
    · subst hl; simp [remP]
    · have := ih hl
      dsimp only
      split
      · exact this
      · simp

/-- A tail, and what the deframer keeps of it. -/
structure Rl (most : Nat) (u : List Nat) (s : St) : Prop where
  row : s.row = min (runP u).2 7
  best_ : best u = max (best (qOf u)) (runP u).2
  six : best (qOf u) ≠ 6
  brk : s.broken = decide (6 < best u)
  kept : best u ≤ 6 → Kp most s (remP (qOf u)).1
  rem : best u ≤ 6 → (runP u).2 ≤ 5 → remP u = ((remP (qOf u)).1 ++ (if s.ahead then [0] else []) ++ List.replicate (runP u).2 1, (runP u).2)
theorem Rl.start (most : Nat) : Rl most [] St.start :=
  ⟨rfl, rfl, by show (0 : Nat) ≠ 6; decide, rfl, fun _ => ⟨rfl, (fun y hy => by cases hy), fun _ => rfl⟩, fun _ _ => rfl⟩

theorem row_one {u : List Nat} {x : Nat} (hx : x % 2 = 1) : (runP (u ++ [x])).2 = (runP u).2 + 1 := by rw [runP_snoc', stepR, if_pos hx]
theorem row_zero {u : List Nat} {x : Nat} (hx : x % 2 = 0) : (runP (u ++ [x])).2 = 0 := by rw [runP_snoc', stepR, if_neg (by omega)]
theorem q_one {u : List Nat} {x : Nat} (hx : x % 2 = 1) : qOf (u ++ [x]) = qOf u := by
  unfold qOf
  rw [row_one hx, List.length_append, List.length_singleton, List.take_append_of_le_length (by omega)]
  congr 1
  omega
theorem q_zero {u : List Nat} {x : Nat} (hx : x % 2 = 0) : qOf (u ++ [x]) = u := by
  unfold qOf
  rw [row_zero hx, List.length_append, List.length_singleton, List.take_append_of_le_length (by omega), List.take_of_length_le (by omega)]

theorem Rl.one {most x : Nat} {u : List Nat} {s : St} (h : Rl most u s) (hx : x % 2 = 1) : Rl most (u ++ [x]) s.one := by
  have hr := h.row
  have hb := best_snoc u x
  rw [if_pos hx] at hb
  have hb' : best (u ++ [x]) = max (best (qOf u)) ((runP u).2 + 1) := by rw [hb, h.best_]; omega
  have h6 : best (u ++ [x]) ≤ 6 → s.row < 6 ∧ best u ≤ 6 ∧ (runP u).2 + 1 ≤ 6 := by
    intro h1
    rw [hb] at h1
    omega
  have same : best (u ++ [x]) ≤ 6 → s.one = ⟨s.held, s.begun, s.count, s.ahead, s.row + 1, s.broken⟩ := by
    intro h1
    unfold St.one
    rw [if_neg (by have := (h6 h1).1; omega)]
  refine ⟨?_, by rw [q_one hx, row_one hx]; exact hb', by rw [q_one hx]; exact h.six, ?_, ?_, ?_⟩
  · rw [row_one hx]
    unfold St.one
    split
    · show 7 = _; omega
    · show s.row + 1 = _; omega
  · unfold St.one
    split
    · show true = _
      symm
      rw [decide_eq_true_iff]
      rw [hb]; omega
    · show s.broken = _
      rw [h.brk, hb]
      by_cases h7 : 6 < best u
      · rw [decide_eq_true h7]; symm; rw [decide_eq_true_iff]; omega
      · rw [decide_eq_false h7]; symm; rw [decide_eq_false_iff_not]; omega
  · intro h1
    rw [same h1, q_one hx]
    have := h.kept (h6 h1).2.1
    exact ⟨this.count, this.two, this.same⟩
  · intro h1 h5
    rw [row_one hx] at h5 ⊢
    rw [q_one hx, remP_snoc, h.rem (h6 h1).2.1 (by omega), same h1]
    unfold stepQ
    dsimp only
    rw [if_neg (show ¬ (runP u).2 = 5 by omega), if_neg (show ¬ x % 2 = 0 by omega), hx, List.replicate_succ', ← List.append_assoc]
theorem Rl.zero {most x : Nat} {u : List Nat} {s : St} (h : Rl most u s) (hx : x % 2 = 0) (h6 : (runP u).2 ≠ 6) : Rl most (u ++ [x]) (s.settle most) := by
  have hr := h.row
  have hb := best_snoc u x
  rw [if_neg (by omega)] at hb
  have hbr : (s.settle most).broken = s.broken := by
    show (St.keeps most (s.first most) s.row).broken = _
    rw [keeps_broken, first_broken]
  refine ⟨?_, by rw [q_zero hx, row_zero hx, hb]; omega, ?_, by rw [hbr, hb]; exact h.brk, ?_, ?_⟩
  · rw [row_zero hx]; rfl
  · rw [q_zero hx, h.best_]
    have := h.six
    omega
  · intro h1
    rw [hb] at h1
    have hrow : (runP u).2 ≤ 5 := by have := h.best_; omega
    have hsr : s.row = (runP u).2 := by omega
    have hbf : s.broken = false := by rw [h.brk, decide_eq_false_iff_not]; omega
    have hk := h.kept h1
    rw [q_zero hx, h.rem h1 hrow]
    have h2 : Kp most (s.first most) ((remP (qOf u)).1 ++ (if s.ahead then [0] else [])) := by
      unfold St.first
      cases s.ahead
      · rw [if_neg (by decide), if_neg (by decide), List.append_nil]; exact hk
      · rw [if_pos rfl, if_pos rfl]; exact hk.keep hbf (by omega)
    have h3 := h2.keeps (by rw [first_broken]; exact hbf) (runP u).2
    rw [← hsr] at h3 ⊢
    exact ⟨h3.count, h3.two, h3.same⟩
  · intro h1 _
    rw [hb] at h1
    have hrow : (runP u).2 ≤ 5 := by have := h.best_; omega
    have hsr : s.row = (runP u).2 := by omega
    have ha : (s.settle most).ahead = decide (s.row ≠ 5) := rfl
    rw [q_zero hx, row_zero hx, remP_snoc, ha, hsr]
    have e := h.rem h1 hrow
    have e2 : (remP u).2 = (runP u).2 := by rw [e]
    unfold stepQ
    rw [e2, if_pos hx, hx, List.replicate_zero, List.append_nil]
    by_cases h5 : (runP u).2 = 5
    · rw [if_pos h5]; simp [h5]
    · rw [if_neg h5]; simp [h5]
theorem Rl.flag {most : Nat} {u : List Nat} {s : St} (h : Rl most u s) (hok : s.ok most) (h6 : (runP u).2 = 6) : s.tell most = tellP most (cutP u) := by
  have hq : qOf u = cutP u := by unfold qOf cutP; rw [h6]
  have hb := h.best_
  have hs := h.six
  have hk := h.kept
  have hbk := h.brk
  rw [hq, h6] at hb
  rw [hq] at hs hk
  unfold tellP St.tell
  by_cases hbr : 6 < best u
  · rw [hbk, decide_eq_true hbr, if_pos rfl]
    have hne : cutP u ≠ [] := by intro h0; rw [h0] at hb; simp [best] at hb; omega
    rw [if_neg hne, if_pos (by omega)]
  · rw [hbk, decide_eq_false hbr, if_neg (by decide)]
    have hK := hk (by omega)
    by_cases h0 : cutP u = []
    · have hc := hK.count
      rw [h0] at hc
      rw [if_pos h0, if_pos (by rw [hc]; rfl)]
    · have hp := rem_pos h0
      have hc := hK.count
      have hp' : 0 < (remP (cutP u)).1.length := List.length_pos_iff.2 hp
      rw [if_neg h0, if_neg (show ¬ 5 < best (cutP u) by omega), hc, if_neg (show ¬ (remP (cutP u)).1.length = 0 by omega)]
      by_cases h8 : (remP (cutP u)).1.length % 8 = 0
      · rw [if_neg (show ¬ (remP (cutP u)).1.length % 8 ≠ 0 by omega), if_neg (show ¬ (remP (cutP u)).1.length % 8 ≠ 0 by omega)]
        have ho : oct (remP (cutP u)).1.length = (remP (cutP u)).1.length / 8 := by unfold oct; omega
        rw [ho]
        by_cases hm : most < (remP (cutP u)).1.length / 8
        · rw [if_pos hm, if_pos hm]
        · rw [if_neg hm, if_neg hm]
          have hsame := hK.same (by rw [hc, ho]; omega)
          have hlen := congrArg List.length hsame
          rw [List.length_append, ofB_len] at hlen
          have hlt := hok.lt
          have hbg : s.begun = [] := List.eq_nil_of_length_eq_zero (by omega)
          rw [hbg, List.append_nil] at hsame
          rw [← hsame, toO_ofB hok.by_]
      · rw [if_pos h8, if_pos h8]

theorem run_spec_ (most : Nat) (l : List Nat) : (run most St.start l).2 = allP most l ∧ Rl most (partsF l).2 (run most St.start l).1 := by
  induction l using snoc_rec with
  | nil => exact ⟨rfl, Rl.start most⟩
  | snoc l x ih =>
    obtain ⟨h1, h2⟩ := ih
    have hok := ok_run (most := most) l (ok_start most)
    rw [run_app2, run_app1, run_one, h1]
    unfold allP
    rw [partsF_snoc]
    unfold stepP
    generalize (run most St.start l).1 = s at h2 hok
    by_cases hx : x % 2 = 1
    · rw [if_neg (by omega)]
      unfold stp
      rw [if_pos hx]
      exact ⟨List.append_nil _, h2.one hx⟩
    · have hx0 : x % 2 = 0 := by omega
      have hr := h2.row
      by_cases h6 : (runP (partsF l).2).2 = 6
      · rw [if_pos ⟨hx0, h6⟩]
        unfold stp
        rw [if_neg hx, if_pos (by omega)]
        refine ⟨?_, Rl.start most⟩
        show _ ++ s.tell most = _
        rw [h2.flag hok h6, List.flatMap_append]
        simp
      · rw [if_neg (by rintro ⟨_, h⟩; exact h6 h)]
        unfold stp
        rw [if_neg hx, if_neg (by omega)]
        exact ⟨List.append_nil _, h2.zero hx0 h6⟩
/-- The deframer tells what the document says of the whole stream. -/
theorem run_spec (most : Nat) (l : List Nat) : (run most St.start l).2 = allP most l := (run_spec_ most l).1

/-- A tail without a row of six has no flag. -/
theorem parts_none {l : List Nat} (h : best l ≤ 5) : partsF l = ([], l) := by
  induction l using snoc_rec with
  | nil => rfl
  | snoc l x ih =>
    have hb := best_snoc l x
    have hl : best l ≤ 5 := by split at hb <;> omega
    rw [partsF_snoc, ih hl]
    unfold stepP
    have := run_le_best l
    rw [if_neg (by rintro ⟨_, h6⟩; simp only at h6; omega)]
theorem parts_flag {l : List Nat} (h : best l ≤ 5) : partsF (l ++ flagL) = ([l], []) := by
  have hr := run_le_best l
  have e : l ++ flagL = ((l ++ [0]) ++ List.replicate 6 1) ++ [0] := by simp [flagL, List.replicate]
  have h0 : partsF (l ++ [0]) = ([], l ++ [0]) := parts_none (by rw [best_snoc, if_neg (by decide)]; exact h)
  have ones : ∀ n, n ≤ 6 → partsF ((l ++ [0]) ++ List.replicate n 1) = ([], (l ++ [0]) ++ List.replicate n 1) ∧ (runP ((l ++ [0]) ++ List.replicate n 1)).2 = n := by
    intro n
    induction n with
    | zero => intro _; rw [List.replicate_zero, List.append_nil]; exact ⟨h0, row_zero rfl⟩
    | succ n ih =>
      intro hn
      obtain ⟨i1, i2⟩ := ih (by omega)
      rw [List.replicate_succ', ← List.append_assoc]
      refine ⟨?_, by rw [row_one rfl, i2]⟩
      rw [partsF_snoc, i1]
      unfold stepP
      rw [if_neg (by rintro ⟨h1, _⟩; exact absurd h1 (by decide))]
  obtain ⟨o1, o2⟩ := ones 6 (Nat.le_refl _)
  rw [e, partsF_snoc, o1]
  unfold stepP
  rw [if_pos ⟨rfl, o2⟩]
  have hc : cutP ((l ++ [0]) ++ List.replicate 6 1) = l := by
    unfold cutP
    rw [List.length_append, List.length_append, List.length_replicate, List.length_singleton, show l.length + 1 + 6 - 7 = l.length by omega, List.append_assoc, List.take_left]
  rw [hc]
  rfl

/-- What is wrapped is told behind what the first flag ends. -/
def wrapT (most : Nat) (data : List Nat) : List Sg := if data = [] then [] else if most < data.length then [(4, [])] else [(0, data)]
theorem ofB_lows (l : List Nat) : lows (ofB l) = ofB l := lows_two (ofB_two l)
theorem run_data {most : Nat} {data : List Nat} (hb : By data) : run most St.start (insB (ofB data) ++ flagL) = (St.start, wrapT most data) := by
  refine Prod.ext ?_ ?_
  · rw [run_app1, run_flag]
  · rw [run_spec]
    unfold allP
    rw [parts_flag (ins_best _)]
    show [insB (ofB data)].flatMap (tellP most) = _
    rw [List.flatMap_cons, List.flatMap_nil, List.append_nil]
    unfold tellP wrapT
    by_cases h0 : data = []
    · subst h0; rfl
    · have hp : 0 < data.length := List.length_pos_iff.2 h0
      have hne : insB (ofB data) ≠ [] := by
        intro h1
        have := ins_ge (ofB data)
        rw [h1, ofB_len] at this
        simp at this
        omega
      have hr : (remP (insB (ofB data))).1 = ofB data := by
        have := rem_ins (ofB data)
        rw [remB, if_neg (by have := ins_best (ofB data); omega), ofB_lows] at this
        exact this
      rw [if_neg hne, if_neg (by have := ins_best (ofB data); omega), hr, ofB_len, if_neg (by omega), if_neg h0, toO_ofB hb, show 8 * data.length / 8 = data.length by omega]
theorem run_wrap {most : Nat} (s : St) {data : List Nat} (hb : By data) : run most s (flagL ++ (insB (ofB data) ++ flagL)) = (St.start, (run most s flagL).2 ++ wrapT most data) := by
  refine Prod.ext ?_ ?_
  · rw [run_app1, run_flag, run_data hb]
  · rw [run_app2, run_flag, run_data hb]
theorem wrap_start {most : Nat} {data : List Nat} (hb : By data) : run most St.start (flagL ++ (insB (ofB data) ++ flagL)) = (St.start, wrapT most data) := by
  rw [run_wrap _ hb, run_flag0]; rfl

end Go.Proofs.Yteicednlgajpgaa
