
/-
  The mathematics of the program's joiner of layer 24: going through up to a place; what waits as a row in order; pieces cut to what counts. No condition beyond: places below 2^60.
-/
import Derived.Test.YtamdaepeogmboaaDoorJoiD
namespace Go.Proofs.YtamdaepeogmboaaDoor
set_option maxRecDepth 4000

/-- Places are gone through up to the first one for which none came and that isn't ahead of e. -/
inductive Pr (e : Int) : Jn → Jn → Prop
  | done {j : Jn} (h1 : jat j.wait j.next = none) (h2 : e ≤ j.next) : Pr e j j
  | thr {j k : Jn} {p : Pc} (h1 : jat j.wait j.next = some p) (h2 : Pr e { jthr { j with wait := jwo j.wait j.next } p with next := j.next + 1 } k) : Pr e j k
  | lack {j k : Jn} (h1 : jat j.wait j.next = none) (h2 : j.next < e) (h3 : Pr e (jlack j (min e (jfirst j.wait))) k) : Pr e j k

theorem jrun_stp {M : Int} {j m : Jn} (h : Jok M j) (hm : jstp j = some m) : jrun j = jrun m := by
  obtain ⟨n, hn⟩ := (h.stp hm).1.stops
  rw [jrun_of hn]
  have e : jit (n + 1) j = jit n m := by simp [jit, hm]
  rw [← e]
  exact jrun_of (by rw [e]; exact hn)
theorem jrun_stop {j : Jn} (h : jstp j = none) : jrun j = j := jrun_of (n := 0) h
theorem jat_pg {M : Int} {j : Jn} (h : Jok M j) (hn : jat j.wait j.next = none) : ∀ x ∈ j.wait, j.next < x.1 := by
  intro x hx
  have h3 := h.pg x hx
  have h5 : x.1 ≠ j.next := by
    intro e
    unfold jat at hn
    rw [Option.map_eq_none_iff, List.find?_eq_none] at hn
    exact hn x hx (by simp [e])
  omega
theorem jfirst_gt {M : Int} {j : Jn} (h : Jok M j) (hM : M ≤ 1152921504606846976) (hn : jat j.wait j.next = none) : j.next < jfirst j.wait := by
  rcases jfirst_mem (l := j.wait) with h2 | ⟨x, hx, h2⟩
  · have := h.n1
    omega
  · have := jat_pg h hn x hx
    omega
theorem jend_min (j : Jn) : jend j = min (jleast j.last + 1) (jfirst j.wait) := by
  unfold jend
  split <;> omega
/-- Up to behind the least lane: Run. -/
theorem Pr.run {M e : Int} {j k : Jn} (h : Pr e j k) (hj : Jok M j) (hM : M ≤ 1152921504606846976) (he : e = jleast j.last + 1) : k = jrun j := by
  induction h with
  | done h1 h2 => exact (jrun_stop (jstp_none h1 (by rw [jend_min]; omega))).symm
  | @thr j k p h1 h2 ih =>
    have hs := jstp_thr h1
    rw [jrun_stp hj hs]
    exact ih (hj.stp hs).1 (by rw [he, (jstp_same hs).last])
  | @lack j k h1 h2 h3 ih =>
    have hg := jfirst_gt hj hM h1
    have ee : jend j = min e (jfirst j.wait) := by rw [jend_min, he]
    have hs := jstp_lack h1 (by omega)
    rw [ee] at hs
    rw [jrun_stp hj hs]
    exact ih (hj.stp hs).1 he
/-- No lane is ahead: nothing more lacks. -/
theorem Pr.past {M e : Int} {j k : Jn} (h : Pr e j k) (hj : Jok M j) (he : e ≤ j.next) (hl : jleast j.last + 1 ≤ j.next) : k = jrun j := by
  induction h with
  | done h1 h2 => exact (jrun_stop (jstp_none h1 (by rw [jend_min]; omega))).symm
  | @thr j k p h1 h2 ih =>
    have hs := jstp_thr h1
    rw [jrun_stp hj hs]
    have hn : j.next ≤ j.next + 1 := by omega
    exact ih (hj.stp hs).1 (Int.le_trans he hn) (by rw [(jstp_same hs).last]; exact Int.le_trans hl hn)
  | lack h1 h2 => omega
theorem jstp_none_at {j : Jn} (h : jstp j = none) : jat j.wait j.next = none := by
  cases hp : jat j.wait j.next with
  | none => rfl
  | some p => rw [jstp_thr hp] at h; cases h
theorem jstp_none_end {j : Jn} (h : jstp j = none) : jend j ≤ j.next := by
  by_cases he : jend j ≤ j.next
  · exact he
  · rw [jstp_lack (jstp_none_at h) he] at h; cases h
/-- Nothing can be gone through: up to the first that waits. -/
theorem Pr.first {M : Int} {j k : Jn} (h : Pr (jfirst j.wait) j k) (hj : Jok M j) (hM : M ≤ 1152921504606846976) (hs : jstp j = none) (hw : 0 < j.wait.length) : k = jrun (jlack j (jfirst j.wait)) := by
  have h1 := jstp_none_at hs
  have h0 := jstp_none_end hs
  obtain ⟨h2, h3⟩ := hj.first2 hs hw hM
  rw [jend_min] at h0
  cases h with
  | done g1 g2 => omega
  | thr g1 g2 => rw [h1] at g1; cases g1
  | lack g1 g2 g3 =>
    rw [Int.min_self] at g3
    exact g3.past (hj.lack h2 h3 (Int.le_refl _)) (Int.le_refl _) (by show jleast j.last + 1 ≤ jfirst j.wait; omega)
theorem jover_ush {M k : Int} {j m : Jn} (h : Jok M m) (hs : jstp m = none) (hk : 0 ≤ k) (hM : M ≤ 1152921504606846976) (hm : jush k j = some m) : jover k j = jover k m := by
  have key : ∀ (i : Nat) (j : Jn), Jok M j → jstp j = none → (M - j.next).toNat ≤ i → ∃ n, jush k (jut k n j) = none := by
    intro i
    induction i with
    | zero =>
      intro j h hs hi
      refine ⟨0, ?_⟩
      show jush k j = none
      cases hj : jush k j with
      | none => rfl
      | some m =>
        obtain ⟨h1, h2, h3⟩ := h.ush2 hs hk hM hj
        have := h1.n1
        omega
    | succ i ih =>
      intro j h hs hi
      cases hj : jush k j with
      | none => exact ⟨0, hj⟩
      | some m =>
        obtain ⟨h1, h2, h3⟩ := h.ush2 hs hk hM hj
        have := h1.n1
        obtain ⟨n, hn⟩ := ih m h1 h2 (by omega)
        exact ⟨n + 1, by rw [jut_next hj]; exact hn⟩
  obtain ⟨n, hn⟩ := key _ m h hs (Nat.le_refl _)
  rw [jover_of hn]
  have e : jut k (n + 1) j = jut k n m := jut_next hm n
  rw [← e]
  exact jover_of (by rw [e]; exact hn)
theorem jover_stop {k : Int} {j : Jn} (h : ¬ k < (j.wait.length : Int)) : jover k j = j := jover_of (n := 0) (jush_none h)
/-- Up to the last place that waits: Flush. -/
theorem Pr.flush {M e : Int} {j k : Jn} (h : Pr e j k) (hj : Jok M j) (hM : M ≤ 1152921504606846976) (hl : jleast j.last + 1 ≤ j.next) (hm : ∀ x ∈ j.wait, x.1 ≤ e) (hx : (∃ x ∈ j.wait, x.1 = e) ∨ (j.wait = [] ∧ e < j.next)) : k = jover 0 (jrun j) := by
  induction h with
  | @done j h1 h2 =>
    rw [jrun_stop (jstp_none h1 (by rw [jend_min]; omega))]
    have hw : j.wait = [] := by
      rcases hx with ⟨x, hx, hxe⟩ | hx
      · have := jat_pg hj h1 x hx
        omega
      · exact hx.1
    exact (jover_stop (by rw [hw]; decide)).symm
  | @thr j k p h1 h2 ih =>
    have hs := jstp_thr h1
    have hk := (hj.stp hs).1
    rw [jrun_stp hj hs]
    have hn : j.next ≤ j.next + 1 := by omega
    obtain ⟨t, md, d, ej, -⟩ := jthr_form { j with wait := jwo j.wait j.next } p
    rw [ej] at ih hk ⊢
    refine ih hk (Int.le_trans hl hn) (fun x hx => hm x (List.mem_filter.1 hx).1) ?_
    show (∃ x ∈ jwo j.wait j.next, x.1 = e) ∨ (jwo j.wait j.next = [] ∧ e < j.next + 1)
    have hmem := jat_mem h1
    have he : j.next ≤ e := hm _ hmem
    by_cases hne : e = j.next
    · refine .inr ⟨?_, by omega⟩
      unfold jwo
      rw [List.filter_eq_nil_iff]
      intro x hx
      have a1 := hj.pg x hx
      have a2 := hm x hx
      have : x.1 = j.next := by omega
      simp [this]
    · rcases hx with ⟨x, hx, hxe⟩ | hx
      · exact .inl ⟨x, List.mem_filter.2 ⟨hx, by simp; omega⟩, hxe⟩
      · rw [hx.1] at hmem; cases hmem
  | @lack j k h1 h2 h3 ih =>
    have hs := jstp_none h1 (j := j) (by rw [jend_min]; omega)
    rw [jrun_stop hs]
    have hw : 0 < j.wait.length := by
      rcases hx with ⟨x, hx, hxe⟩ | hx
      · exact List.length_pos_of_mem hx
      · omega
    obtain ⟨g1, g2⟩ := hj.first2 hs hw hM
    have hfe : jfirst j.wait ≤ e := by
      rcases hx with ⟨x, hx, hxe⟩ | hx
      · have := jfirst_le hx
        omega
      · omega
    rw [Int.min_eq_right hfe] at ih
    have hkl := hj.lack g1 g2 (Int.le_refl _)
    have hmm := jush_some (k := 0) (j := j) (by omega)
    rw [jover_ush hkl.run.1 hkl.run.2 (Int.le_refl _) hM hmm]
    have hxw : ∃ x ∈ j.wait, x.1 = e := by
      rcases hx with hx | hx
      · exact hx
      · omega
    exact ih hkl (by show jleast j.last + 1 ≤ jfirst j.wait; omega) hm (.inl hxw)
/-- It keeps bounds. -/
theorem Pr.ok {M e : Int} {j k : Jn} (h : Pr e j k) (hj : Jok M j) (hM : M ≤ 1152921504606846976) (he : e ≤ M) : Jok M k := by
  induction h with
  | done h1 h2 => exact hj
  | thr h1 h2 ih => exact ih (hj.stp (jstp_thr h1)).1
  | lack h1 h2 h3 ih =>
    have hg := jfirst_gt hj hM h1
    exact ih (hj.lack (by omega) (by omega) (by omega))

/-! What is told ahead of it stands ahead of what it tells. -/
theorem jbad_pre (j : Jn) (t : List Ev) (p : Pc) : jbad { j with told := t ++ j.told } p = { jbad j p with told := t ++ (jbad j p).told } := by
  unfold jbad
  by_cases h : (p.b = true ∧ j.mode = 1) ∨ (p.b = false ∧ j.mode = 0)
  · rw [if_pos h, if_pos h]; simp
  · rw [if_neg h, if_neg h]
theorem jgrow_pre (j : Jn) (t : List Ev) (e : Bool) (d : List Nat) : jgrow { j with told := t ++ j.told } e d = { jgrow j e d with told := t ++ (jgrow j e d).told } := by
  unfold jgrow
  by_cases h : j.most < (d.length : Int)
  · rw [if_pos h, if_pos h]; simp
  · rw [if_neg h, if_neg h]
    by_cases h2 : e = true
    · rw [if_pos h2, if_pos h2]; simp
    · rw [if_neg h2, if_neg h2]
theorem jthr_pre (j : Jn) (t : List Ev) (p : Pc) : jthr { j with told := t ++ j.told } p = { jthr j p with told := t ++ (jthr j p).told } := by
  unfold jthr
  by_cases h : p.b = false ∧ j.mode ≠ 1
  · rw [if_pos h, if_pos h, jbad_pre]
  · rw [if_neg h, if_neg h, jbad_pre, jgrow_pre]
theorem Pr.pre {e : Int} {j k : Jn} (h : Pr e j k) (t : List Ev) : Pr e { j with told := t ++ j.told } { k with told := t ++ k.told } := by
  induction h with
  | done h1 h2 => exact .done h1 h2
  | @thr j k p h1 h2 ih =>
    refine .thr (p := p) h1 ?_
    have := jthr_pre { j with wait := jwo j.wait j.next } t p
    show Pr e { jthr { { j with wait := jwo j.wait j.next } with told := t ++ j.told } p with next := j.next + 1 } _
    rw [this]
    exact ih
  | @lack j k h1 h2 h3 ih =>
    refine .lack h1 h2 ?_
    have : jlack { j with told := t ++ j.told } (min e (jfirst j.wait)) = { jlack j (min e (jfirst j.wait)) with told := t ++ (jlack j (min e (jfirst j.wait))).told } := by
      unfold jlack; simp
    show Pr e (jlack { j with told := t ++ j.told } (min e (jfirst j.wait))) _
    rw [this]
    exact ih

/-- A row of places in order says which wait. -/
structure Srt (l : List Int) (wt : List (Int × Pc)) : Prop where
  so : l.Pairwise (· < ·)
  pm : l.Perm (wt.map (·.1))
theorem Srt.nil : Srt [] [] := ⟨List.Pairwise.nil, List.Perm.nil⟩
theorem Srt.len {l : List Int} {wt : List (Int × Pc)} (h : Srt l wt) : l.length = wt.length := by rw [h.pm.length_eq, List.length_map]
theorem Srt.mem {l : List Int} {wt : List (Int × Pc)} (h : Srt l wt) {x : Int} : x ∈ l ↔ ∃ p, (x, p) ∈ wt := by
  rw [h.pm.mem_iff, List.mem_map]
  exact ⟨fun ⟨y, hy, e⟩ => ⟨y.2, by rw [← e]; exact hy⟩, fun ⟨p, hp⟩ => ⟨_, hp, rfl⟩⟩
theorem jat_none_iff {wt : List (Int × Pc)} {x : Int} : jat wt x = none ↔ ∀ p, (x, p) ∉ wt := by
  unfold jat
  rw [Option.map_eq_none_iff, List.find?_eq_none]
  exact ⟨fun h p hp => h _ hp (by simp), fun h y hy => by
    intro e
    rw [beq_iff_eq] at e
    exact h y.2 (by rw [← e]; exact hy)⟩
theorem Srt.at_ {l : List Int} {wt : List (Int × Pc)} (h : Srt l wt) {x : Int} : jat wt x = none ↔ x ∉ l := by
  rw [jat_none_iff, h.mem]
  exact ⟨fun h ⟨p, hp⟩ => h p hp, fun h p hp => h ⟨p, hp⟩⟩
/-- The least place is the first one. -/
theorem Srt.first {x : Int} {l : List Int} {wt : List (Int × Pc)} (h : Srt (x :: l) wt) (hx : x < 4611686018427387904) : jfirst wt = x := by
  obtain ⟨p, hp⟩ := h.mem.1 (List.mem_cons_self)
  have h1 := jfirst_le hp
  rcases jfirst_mem (l := wt) with h2 | ⟨y, hy, h2⟩
  · have h1' : jfirst wt ≤ x := h1
    omega
  · have h1' : jfirst wt ≤ x := h1
    have h3 : y.1 ∈ x :: l := h.mem.2 ⟨y.2, hy⟩
    rcases List.mem_cons.1 h3 with h3 | h3
    · omega
    · have := (List.pairwise_cons.1 h.so).1 _ h3
      omega
theorem Srt.none {wt : List (Int × Pc)} (h : Srt [] wt) : wt = [] := List.eq_nil_of_length_eq_zero (by rw [← h.len]; rfl)
/-- The place that is gone through goes. -/
theorem Srt.pop {x : Int} {l : List Int} {wt : List (Int × Pc)} (h : Srt (x :: l) wt) : Srt l (jwo wt x) := by
  have hs := List.pairwise_cons.1 h.so
  refine ⟨hs.2, ?_⟩
  have e : (jwo wt x).map (·.1) = (wt.map (·.1)).filter (fun y => y != x) := by
    unfold jwo
    rw [List.filter_map]
    rfl
  rw [e]
  refine List.Perm.trans ?_ (h.pm.filter _)
  rw [List.filter_cons_of_neg (by simp)]
  rw [List.filter_eq_self.2 (fun y hy => by have := hs.1 y hy; simp; omega)]
/-- Where the next place waits it is the first one. -/
theorem Srt.head {n : Int} {l : List Int} {wt : List (Int × Pc)} {p : Pc} (h : Srt l wt) (hp : jat wt n = some p) (hn : ∀ x ∈ wt, n ≤ x.1) : ∃ r, l = n :: r := by
  have h1 : n ∈ l := h.mem.2 ⟨p, jat_mem hp⟩
  cases l with
  | nil => cases h1
  | cons y r =>
    rcases List.mem_cons.1 h1 with h2 | h2
    · exact ⟨r, by rw [h2]⟩
    · have h3 := (List.pairwise_cons.1 h.so).1 _ h2
      obtain ⟨q, hq⟩ := h.mem.1 (List.mem_cons_self (a := y) (l := r))
      have := hn _ hq
      simp at this
      omega
theorem count_lt {l : List Int} (h : l.Pairwise (· < ·)) (x : Int) (hx : x ∉ l) : l = l.take (l.countP (· < x)) ++ l.drop (l.countP (· < x)) ∧ (∀ y ∈ l.take (l.countP (· < x)), y < x) ∧ ∀ y ∈ l.drop (l.countP (· < x)), x < y := by
  refine ⟨(List.take_append_drop _ _).symm, ?_⟩
  induction l with
  | nil => simp
  | cons a l ih =>
    have hp := List.pairwise_cons.1 h
    rw [List.mem_cons, not_or] at hx
    by_cases c : a < x
    · rw [List.countP_cons_of_pos (by simpa using c)]
      obtain ⟨i1, i2⟩ := ih hp.2 hx.2
      refine ⟨fun y hy => ?_, fun y hy => ?_⟩
      · rw [List.take_succ_cons, List.mem_cons] at hy
        rcases hy with rfl | hy
        · exact c
        · exact i1 y hy
      · rw [List.drop_succ_cons] at hy
        exact i2 y hy
    · have h0 : l.countP (· < x) = 0 := by
        rw [List.countP_eq_zero]
        intro y hy
        have := hp.1 y hy
        simp
        omega
      rw [List.countP_cons_of_neg (by simpa using c), h0]
      refine ⟨fun y hy => by simp at hy, fun y hy => ?_⟩
      rw [List.drop_zero, List.mem_cons] at hy
      rcases hy with rfl | hy
      · omega
      · have := hp.1 y hy
        omega
/-- A place comes into the row. -/
def jins (l : List Int) (x : Int) : List Int := l.take (l.countP (· < x)) ++ x :: l.drop (l.countP (· < x))
theorem Srt.put {l : List Int} {wt : List (Int × Pc)} (h : Srt l wt) {x : Int} (hx : jat wt x = Option.none) (p : Pc) : Srt (jins l x) (wt ++ [(x, p)]) := by
  obtain ⟨e, h1, h2⟩ := count_lt h.so x (h.at_.1 hx)
  have hs := h.so
  rw [e, List.pairwise_append] at hs
  refine ⟨?_, ?_⟩
  · unfold jins
    rw [List.pairwise_append]
    refine ⟨hs.1, List.pairwise_cons.2 ⟨h2, hs.2.1⟩, fun a ha b hb => ?_⟩
    rcases List.mem_cons.1 hb with rfl | hb
    · exact h1 a ha
    · exact hs.2.2 a ha b hb
  · rw [List.map_append]
    refine List.Perm.trans ?_ (List.Perm.trans (List.Perm.cons x h.pm) (by simpa using (List.perm_append_singleton x (wt.map (·.1))).symm))
    unfold jins
    refine List.Perm.trans List.perm_middle ?_
    rw [List.take_append_drop]
theorem jins_len (l : List Int) (x : Int) : (jins l x).length = l.length + 1 := by
  unfold jins
  rw [List.length_append, List.length_cons, List.length_take, List.length_drop]
  have := List.countP_le_length (p := fun y => decide (y < x)) (l := l)
  omega

/-- A piece's data, cut to what counts. -/
def jcut (most : Int) (d : List Nat) : List Nat := d.take (most + 1).toNat
/-- The cut makes no odds. -/
theorem jgrow_cut {j : Jn} (h0 : 0 ≤ j.most) (e : Bool) (a d : List Nat) : jgrow j e (a ++ jcut j.most d) = jgrow j e (a ++ d) := by
  by_cases hd : (d.length : Int) ≤ j.most + 1
  · have : jcut j.most d = d := List.take_of_length_le (by omega)
    rw [this]
  · have h1 : ((jcut j.most d).length : Int) = j.most + 1 := by
      unfold jcut
      rw [List.length_take]
      omega
    unfold jgrow
    rw [if_pos (by rw [List.length_append]; omega), if_pos (by rw [List.length_append]; omega)]
end Go.Proofs.YtamdaepeogmboaaDoor
