/-
  The mathematics of layer 24: pieces that come in order, some of them never: what is told is what all places tell, one behind the other. No condition. The mathematics of layer 24: pieces that come in order, some of them never: Run, Feed, Flush. No condition. The mathematics of layer 24: packets some of whose pieces never come: just those are told of which none lacks. No condition. The mathematics of layer 24: what a joiner has told in all, when pieces came in order and some never (behind a flush). No condition. The mathematics of layer 24: Split's pieces are a packet's. No condition.
-/
import Derived.Test.YtamdaepeogmboaaDoorJoiZ
import Derived.Test.YtamdaepeogmboaaDoorJoiX
namespace Go.Proofs.YtamdaepeogmboaaDoor
section
set_option maxRecDepth 4000

/-- A place for which nothing came. -/
def jsk (j : Jn) : Jn := { j with next := j.next + 1, mode := 2, data := [] }
/-- All places ahead of m, one behind the other. -/
def jA (X : List Pc) (came : Nat → Bool) (s0 : Jn) : Nat → Jn
  | 0 => s0
  | m + 1 => match (if came m = true then X[m]? else none) with
    | some p => jgo (jA X came s0 m) p
    | none => jsk (jA X came s0 m)
theorem jA_some {X : List Pc} {came : Nat → Bool} {s0 : Jn} {m : Nat} {x : Pc} (hc : came m = true) (hx : X[m]? = some x) : jA X came s0 (m + 1) = jgo (jA X came s0 m) x := by
  show (match (if came m = true then X[m]? else none) with
    | some p => jgo (jA X came s0 m) p
    | none => jsk (jA X came s0 m)) = _
  rw [if_pos hc, hx]
theorem jA_none {X : List Pc} {came : Nat → Bool} {s0 : Jn} {m : Nat} (hc : came m = false) : jA X came s0 (m + 1) = jsk (jA X came s0 m) := by
  show (match (if came m = true then X[m]? else none) with
    | some p => jgo (jA X came s0 m) p
    | none => jsk (jA X came s0 m)) = _
  rw [if_neg (by rw [hc]; decide)]
theorem jA_same {X : List Pc} {came came' : Nat → Bool} {s0 : Jn} : ∀ {m : Nat}, (∀ i, i < m → came i = came' i) → jA X came s0 m = jA X came' s0 m
  | 0, _ => rfl
  | m + 1, h => by
    have ih := jA_same (X := X) (s0 := s0) (m := m) (fun i hi => h i (by omega))
    unfold jA
    rw [ih, h m (by omega)]
/-- So many places lack. -/
theorem jA_lack {X : List Pc} {came : Nat → Bool} {s0 : Jn} {m : Nat} : ∀ (d : Nat), 0 < d → (∀ i, m ≤ i → i < m + d → came i = false) → jA X came s0 (m + d) = { jA X came s0 m with next := (jA X came s0 m).next + d, mode := 2, data := [] }
  | 0, h, _ => by omega
  | d + 1, _, hc => by
    rw [show m + (d + 1) = (m + d) + 1 by omega, jA_none (hc (m + d) (by omega) (by omega))]
    rcases Nat.eq_zero_or_pos d with h0 | h0
    · subst h0; simp [jsk]
    · rw [jA_lack d h0 (fun i h1 h2 => hc i h1 (by omega))]
      simp [jsk]
      omega
/-- All but the Losses. -/
def jnl (t : List Ev) : List Ev := t.filter fun e => e.k != 1
theorem jnl_app (a b : List Ev) : jnl (a ++ b) = jnl a ++ jnl b := List.filter_append ..
theorem jbad_kinds (j : Jn) (p : Pc) (h : j.told = []) : ∀ e ∈ (jbad j p).told, e.k ≠ 1 := by
  unfold jbad
  split
  · intro e he
    have he' : e ∈ j.told ++ [_] := he
    rw [h, List.nil_append, List.mem_singleton] at he'
    subst he'
    show (2 : Int) ≠ 1
    decide
  · intro e he
    rw [h] at he
    cases he
theorem jgrow_kinds (j : Jn) (e : Bool) (d : List Nat) (h : ∀ e ∈ j.told, e.k ≠ 1) : ∀ x ∈ (jgrow j e d).told, x.k ≠ 1 := by
  unfold jgrow
  split
  · intro x hx
    rcases List.mem_append.1 (show x ∈ j.told ++ [_] from hx) with hx | hx
    · exact h x hx
    · rw [List.mem_singleton] at hx
      subst hx
      show (3 : Int) ≠ 1
      decide
  · split
    · intro x hx
      rcases List.mem_append.1 (show x ∈ j.told ++ [_] from hx) with hx | hx
      · exact h x hx
      · rw [List.mem_singleton] at hx
        subst hx
        show (0 : Int) ≠ 1
        decide
    · exact h
theorem jgo_kinds (j : Jn) (p : Pc) (h : j.told = []) : ∀ e ∈ (jgo j p).told, e.k ≠ 1 := by
  show ∀ e ∈ (jthr j p).told, e.k ≠ 1
  unfold jthr
  split
  · exact jbad_kinds j p h
  · exact jgrow_kinds _ _ _ (jbad_kinds j p h)
theorem jnl_id {t : List Ev} (h : ∀ e ∈ t, e.k ≠ 1) : jnl t = t := List.filter_eq_self.2 fun e he => by simpa using h e he

/-- Pieces came in order: all places ahead of m are gone through, those for which none came as lacking. -/
structure Jsm (X : List Pc) (n : Nat) (came : Nat → Bool) (c : Nat) (s0 : Jn) (T : List Ev) (m : Nat) (j : Jn) : Prop where
  nx : j.next = (m : Int)
  mc : m ≤ c
  ln : j.last.length = n
  la : ∀ v ∈ j.last, -1 ≤ v ∧ v < (c : Int)
  cn : ∀ i, came i = true → i < c ∧ i < X.length
  w1 : ∀ x ∈ j.wait, ∃ i : Nat, m ≤ i ∧ came i = true ∧ X[i]? = some x.2 ∧ x.1 = (i : Int)
  w2 : ∀ (i : Nat) x, m ≤ i → came i = true → X[i]? = some x → ((i : Int), x) ∈ j.wait
  st : { j with wait := [], last := s0.last, told := jnl (T ++ j.told) } = jA X came s0 m
  lo : ∀ e ∈ T ++ j.told, e.k = 1 → 1 ≤ e.m
section
variable {X : List Pc} {n : Nat} {came : Nat → Bool} {c : Nat} {s0 : Jn} {T : List Ev} {m : Nat} {j : Jn}
theorem Jsm.at_some (h : Jsm X n came c s0 T m j) {x : Pc} (hc : came m = true) (hx : X[m]? = some x) : jat j.wait j.next = some x := by
  have h1 := h.w2 m x (Nat.le_refl _) hc hx
  cases hj : jat j.wait j.next with
  | some y =>
    obtain ⟨i, _, _, h4, h5⟩ := h.w1 _ (jat_mem hj)
    have h6 : j.next = (i : Int) := h5
    rw [h.nx] at h6
    have e : i = m := by omega
    subst e
    rw [hx] at h4
    exact h4.symm ▸ rfl
  | none =>
    unfold jat at hj
    rw [Option.map_eq_none_iff, List.find?_eq_none] at hj
    exact absurd (by rw [h.nx]; simp) (hj _ h1)
theorem Jsm.at_none (h : Jsm X n came c s0 T m j) (hc : came m = false) : jat j.wait j.next = none := by
  cases hj : jat j.wait j.next with
  | none => rfl
  | some y =>
    obtain ⟨i, _, h3, _, h5⟩ := h.w1 _ (jat_mem hj)
    have h6 : j.next = (i : Int) := h5
    rw [h.nx] at h6
    have e : i = m := by omega
    subst e
    rw [hc] at h3
    cases h3
theorem Jsm.thr (h : Jsm X n came c s0 T m j) {x : Pc} (hc : came m = true) (hx : X[m]? = some x) : Jsm X n came c s0 T (m + 1) { jthr { j with wait := jwo j.wait j.next } x with next := j.next + 1 } := by
  rw [jthr_wait]
  have hst := h.st
  have hlo := h.lo
  obtain ⟨j0, hj0⟩ : ∃ j0, ({ j with wait := [], last := [], told := [] } : Jn) = j0 := ⟨_, rfl⟩
  have e0 : j = jem j.told j.wait j.last j0 := by rw [← hj0]; simp [jem]
  have e1 : jgo j x = jem j.told j.wait j.last (jgo j0 x) := by
    conv => lhs; rw [e0]
    exact jgo_em _ _ _ _ _
  have e2 : ({ j with wait := [], last := s0.last, told := jnl (T ++ j.told) } : Jn) = jem (jnl (T ++ j.told)) [] s0.last j0 := by rw [← hj0]; simp [jem]
  have hk := jgo_kinds j0 x (by rw [← hj0])
  have et : (jthr j x).told = j.told ++ (jgo j0 x).told := by
    have : (jgo j x).told = j.told ++ (jgo j0 x).told := by rw [e1]; rfl
    exact this
  have el : (jthr j x).last = j.last := by
    have : (jgo j x).last = j.last := by rw [e1]; rfl
    exact this
  have hcc := h.cn m hc
  refine ⟨?_, by omega, ?_, ?_, h.cn, fun y hy => ?_, fun i y hi hci hy => ?_, ?_, ?_⟩
  · show j.next + 1 = _
    rw [h.nx]; omega
  · show (jthr j x).last.length = n
    rw [el]; exact h.ln
  · show ∀ v ∈ (jthr j x).last, _
    rw [el]; exact h.la
  · have hy' : y ∈ jwo j.wait j.next := hy
    obtain ⟨h1, h2⟩ := List.mem_filter.1 hy'
    obtain ⟨i, h3, h4, h5, h6⟩ := h.w1 y h1
    have h7 : y.1 ≠ j.next := by simpa using h2
    rw [h.nx, h6] at h7
    exact ⟨i, by omega, h4, h5, h6⟩
  · show ((i : Int), y) ∈ jwo j.wait j.next
    refine List.mem_filter.2 ⟨h.w2 i y (by omega) hci hy, ?_⟩
    rw [h.nx]
    simp
    omega
  · rw [jA_some hc hx, ← hst, e2, jgo_em]
    show ({ jgo j x with wait := [], last := s0.last, told := jnl (T ++ (jthr j x).told) } : Jn) = _
    rw [et, ← List.append_assoc, jnl_app, jnl_id hk, e1]
    rfl
  · show ∀ e ∈ T ++ (jthr j x).told, _
    rw [et, ← List.append_assoc]
    intro e he
    rcases List.mem_append.1 he with he | he
    · exact hlo e he
    · exact fun h1 => absurd h1 (hk e he)
theorem Jsm.lack (h : Jsm X n came c s0 T m j) {e : Nat} (he : m < e) (hec : e ≤ c) (hno : ∀ i, m ≤ i → i < e → came i = false) : Jsm X n came c s0 T e (jlack j (e : Int)) := by
  have hst := h.st
  refine ⟨rfl, hec, h.ln, h.la, h.cn, fun y hy => ?_, fun i y hi hci hy => h.w2 i y (by omega) hci hy, ?_, ?_⟩
  · obtain ⟨i, h3, h4, h5, h6⟩ := h.w1 y hy
    refine ⟨i, ?_, h4, h5, h6⟩
    rcases Nat.lt_or_ge i e with h7 | h7
    · rw [hno i h3 h7] at h4; cases h4
    · exact h7
  · obtain ⟨d, rfl⟩ : ∃ d, e = m + d := ⟨e - m, by omega⟩
    rw [jA_lack d (by omega) (fun i h1 h2 => hno i h1 h2), ← hst]
    show ({ jlack j ((m + d : Nat) : Int) with wait := [], last := s0.last, told := jnl (T ++ (j.told ++ [_])) } : Jn) = _
    rw [← List.append_assoc, jnl_app]
    have e3 : ∀ (f x : Int), jnl [(⟨1, [], f, x⟩ : Ev)] = [] := fun _ _ => rfl
    rw [e3, List.append_nil]
    simp only [jlack, h.nx]
    congr 1
  · show ∀ x ∈ T ++ (j.told ++ [_]), _
    rw [← List.append_assoc]
    intro x hx
    rcases List.mem_append.1 hx with hx | hx
    · exact h.lo x hx
    · rw [List.mem_singleton] at hx
      subst hx
      intro _
      show 1 ≤ (e : Int) - j.next
      rw [h.nx]
      omega
end
end

section
set_option maxRecDepth 4000

section
variable {X : List Pc} {n : Nat} {came : Nat → Bool} {c : Nat} {s0 : Jn} {T : List Ev} {m : Nat} {j : Jn}
theorem Jsm.found (h : Jsm X n came c s0 T m j) {p : Pc} (hj : jat j.wait j.next = some p) : came m = true ∧ X[m]? = some p := by
  obtain ⟨i, _, h3, h4, h5⟩ := h.w1 _ (jat_mem hj)
  have h6 : j.next = (i : Int) := h5
  rw [h.nx] at h6
  have e : i = m := by omega
  subst e
  exact ⟨h3, h4⟩
/-- Ahead of the first that waits, none came. -/
theorem Jsm.gap (h : Jsm X n came c s0 T m j) {e : Nat} (he : (e : Int) ≤ jfirst j.wait) : ∀ i, m ≤ i → i < e → came i = false := by
  intro i h1 h2
  cases hc : came i with
  | false => rfl
  | true =>
    have h3 := jfirst_le (h.w2 i _ h1 hc (List.getElem?_eq_getElem (h.cn i hc).2))
    have h4 : jfirst j.wait ≤ (i : Int) := h3
    omega
theorem Jsm.stp (h : Jsm X n came c s0 T m j) (hn : 0 < n) {k : Jn} (hk : jstp j = some k) : ∃ m', m < m' ∧ Jsm X n came c s0 T m' k := by
  cases hp : jat j.wait j.next with
  | some p =>
    rw [jstp_thr hp] at hk
    injection hk with hk
    subst hk
    obtain ⟨h1, h2⟩ := h.found hp
    exact ⟨m + 1, by omega, h.thr h1 h2⟩
  | none =>
    by_cases he : jend j ≤ j.next
    · rw [jstp_none hp he] at hk; cases hk
    · rw [jstp_lack hp he] at hk
      injection hk with hk
      subst hk
      have h1 := h.la _ (jleast_mem (by rw [h.ln]; exact hn))
      have h2 := jend_first j
      have h3 : jend j ≤ jleast j.last + 1 := by unfold jend; split <;> omega
      rw [h.nx] at he
      obtain ⟨e, hee⟩ := Int.eq_ofNat_of_zero_le (show 0 ≤ jend j by omega)
      rw [hee] at he h2 h3 ⊢
      exact ⟨e, by omega, h.lack (by omega) (by omega) (h.gap h2)⟩
theorem Jsm.run (h : Jsm X n came c s0 T m j) (hn : 0 < n) : ∃ m', m ≤ m' ∧ Jsm X n came c s0 T m' (jrun j) ∧ jstp (jrun j) = none := by
  have key : ∀ (i : Nat) (m : Nat) (j : Jn), Jsm X n came c s0 T m j → c - m ≤ i → ∃ k m', m ≤ m' ∧ Jsm X n came c s0 T m' (jit k j) ∧ jstp (jit k j) = none := by
    intro i
    induction i with
    | zero =>
      intro m j h hi
      cases hj : jstp j with
      | none => exact ⟨0, m, Nat.le_refl _, h, hj⟩
      | some k =>
        obtain ⟨m', h1, h2⟩ := h.stp hn hj
        have := h2.mc
        omega
    | succ i ih =>
      intro m j h hi
      cases hj : jstp j with
      | none => exact ⟨0, m, Nat.le_refl _, h, hj⟩
      | some k =>
        obtain ⟨m', h1, h2⟩ := h.stp hn hj
        obtain ⟨a, m2, h3, h4, h5⟩ := ih m' k h2 (by omega)
        have e : jit (a + 1) j = jit a k := by simp [jit, hj]
        exact ⟨a + 1, m2, by omega, by rw [e]; exact h4, by rw [e]; exact h5⟩
  obtain ⟨k, m', h1, h2, h3⟩ := key _ m j h (Nat.le_refl _)
  rw [jrun_of h3]
  exact ⟨m', h1, h2, h3⟩
/-- A piece comes that is behind all that came. -/
theorem Jsm.came_ (h : Jsm X n came c s0 T m j) {i k : Nat} {x : Pc} (hk : k < n) (hx : X[i]? = some x) (hnum : x.n = (i : Int)) (hmod : X.length ≤ frmod j.sh) (hi : c ≤ i) :
    Jsm X n (fun a => came a || decide (a = i)) (i + 1) s0 (T ++ j.told) m (jcame j k x) ∧ (jcame j k x).wait.length = j.wait.length + 1 := by
  have hil := (List.getElem?_eq_some_iff.1 hx).1
  have hmc := h.mc
  obtain ⟨v, hv⟩ : ∃ v, j.last[k]? = some v := ⟨_, List.getElem?_eq_getElem (by rw [h.ln]; exact hk)⟩
  have hvc := h.la v (List.mem_of_getElem? hv)
  have hp : jlast j k x = (i : Int) := by
    unfold jlast jplc
    rw [show j.last.getD k (-1) = v by rw [List.getD_eq_getElem?_getD, hv]; rfl, hnum, Int.emod_eq_of_lt (by omega) (by omega)]
    omega
  have hno : came i = false := by
    cases hc : came i with
    | false => rfl
    | true => have := (h.cn i hc).1; omega
  have hat : jat j.wait (i : Int) = none := by
    cases hj : jat j.wait (i : Int) with
    | none => rfl
    | some y =>
      obtain ⟨a, _, h3, _, h5⟩ := h.w1 _ (jat_mem hj)
      have h6 : (i : Int) = (a : Int) := h5
      have e : a = i := by omega
      subst e
      rw [hno] at h3
      cases h3
  have hwe : (jcame j k x).wait = j.wait ++ [((i : Int), x)] := by
    show (if jat j.wait (jlast j k x) = none ∧ j.next ≤ jlast j k x then j.wait ++ [(jlast j k x, x)] else j.wait) = _
    rw [hp, if_pos ⟨hat, by rw [h.nx]; omega⟩]
  refine ⟨⟨h.nx, by omega, ?_, fun y hy => ?_, fun a ha => ?_, fun y hy => ?_, fun a y ha hca hy => ?_, ?_, ?_⟩, by rw [hwe, List.length_append]; rfl⟩
  · show (j.last.set _ _).length = n
    rw [List.length_set]; exact h.ln
  · have hy' : y ∈ j.last.set k (jlast j k x) := hy
    rw [hp] at hy'
    rcases List.mem_or_eq_of_mem_set hy' with h1 | h1
    · have := h.la y h1
      omega
    · omega
  · rw [Bool.or_eq_true, decide_eq_true_eq] at ha
    rcases ha with ha | ha
    · have := h.cn a ha
      omega
    · omega
  · rw [hwe] at hy
    rcases List.mem_append.1 hy with hy | hy
    · obtain ⟨a, h1, h2, h3, h4⟩ := h.w1 y hy
      exact ⟨a, h1, by rw [h2]; rfl, h3, h4⟩
    · rw [List.mem_singleton] at hy
      subst hy
      exact ⟨i, by omega, by simp, hx, rfl⟩
  · rw [hwe]
    rw [Bool.or_eq_true, decide_eq_true_eq] at hca
    rcases hca with hca | hca
    · exact List.mem_append.2 (.inl (h.w2 a y ha hca hy))
    · subst hca
      rw [hx] at hy
      injection hy with hy
      subst hy
      simp
  · rw [jA_same (came' := came) (fun a ha => by rw [decide_eq_false (show ¬ a = i by omega), Bool.or_false]), ← h.st]
    simp [jcame]
  · have := h.lo
    show ∀ e ∈ (T ++ j.told) ++ [], _
    rw [List.append_nil]
    exact this
theorem Jsm.feed (h : Jsm X n came c s0 T m j) (hn : 0 < n) {i k : Nat} {x : Pc} (hk : k < n) (hx : X[i]? = some x) (hnum : x.n = (i : Int)) (hmod : X.length ≤ frmod j.sh) (hi : c ≤ i) (hroom : (j.wait.length : Int) + 1 ≤ j.room) :
    ∃ m', Jsm X n (fun a => came a || decide (a = i)) (i + 1) s0 (T ++ j.told) m' (jfeed j k x) ∧ jstp (jfeed j k x) = none ∧ (jfeed j k x).wait.length ≤ j.wait.length + 1 ∧ (jfeed j k x).sh = j.sh ∧ (jfeed j k x).room = j.room := by
  obtain ⟨h1, h2⟩ := h.came_ hk hx hnum hmod hi
  obtain ⟨m', _, h4, h5⟩ := h1.run hn
  have h6 := jrun_wait (jcame j k x)
  rw [h2] at h6
  have hs := jrun_same (jcame j k x)
  have e : jfeed j k x = jrun (jcame j k x) := by
    unfold jfeed
    exact jover_of (n := 0) (jush_none (by show ¬ j.room < ((jrun (jcame j k x)).wait.length : Int); omega))
  rw [e]
  exact ⟨m', h4, h5, h6, hs.sh, hs.room⟩
/-- The first that waits. -/
theorem Jsm.first (h : Jsm X n came c s0 T m j) (hs : jstp j = none) (hw : 0 < j.wait.length) (hc : c ≤ 4611686018427387904) : ∃ e : Nat, jfirst j.wait = (e : Int) ∧ m < e ∧ e < c := by
  have h1 : jat j.wait j.next = none := by
    cases hp : jat j.wait j.next with
    | none => rfl
    | some p => rw [jstp_thr hp] at hs; cases hs
  have key : ∀ x ∈ j.wait, ∃ i : Nat, x.1 = (i : Int) ∧ m < i ∧ i < c := by
    intro x hx
    obtain ⟨i, h2, h3, h4, h5⟩ := h.w1 x hx
    refine ⟨i, h5, ?_, (h.cn i h3).1⟩
    rcases Nat.eq_or_lt_of_le h2 with h6 | h6
    · subst h6
      rw [h.at_some h3 h4] at h1
      cases h1
    · exact h6
  rcases jfirst_mem (l := j.wait) with h2 | ⟨x, hx, h2⟩
  · obtain ⟨y, hy⟩ : ∃ y, y ∈ j.wait := List.exists_mem_of_ne_nil _ (by intro e; rw [e] at hw; simp at hw)
    have h3 := jfirst_le hy
    obtain ⟨i, h4, h5, h6⟩ := key y hy
    omega
  · obtain ⟨i, h4, h5, h6⟩ := key x hx
    exact ⟨i, by rw [← h2, h4], h5, h6⟩
/-- A flush: all that came is gone through. -/
theorem Jsm.flush (h : Jsm X n came c s0 T m j) (hn : 0 < n) (hs : jstp j = none) (hc : c ≤ 4611686018427387904) : ∃ m', Jsm X n came c s0 (T ++ j.told) m' (jflush j) ∧ (jflush j).wait = [] := by
  have h0 : Jsm X n came c s0 (T ++ j.told) m { j with told := [] } := ⟨h.nx, h.mc, h.ln, h.la, h.cn, h.w1, h.w2, by rw [← h.st]; simp, by
    show ∀ e ∈ (T ++ j.told) ++ [], _
    rw [List.append_nil]
    exact h.lo⟩
  have hs0 : jstp { j with told := [] } = none := jstp_told hs
  have key : ∀ (i : Nat) (m : Nat) (j : Jn) (T : List Ev), Jsm X n came c s0 T m j → jstp j = none → c - m ≤ i → ∃ k m', jush 0 (jut 0 k j) = none ∧ Jsm X n came c s0 T m' (jut 0 k j) := by
    intro i
    induction i with
    | zero =>
      intro m j T h hs hi
      refine ⟨0, m, ?_, h⟩
      show jush 0 j = none
      by_cases hw : 0 < j.wait.length
      · obtain ⟨e, _, h2, h3⟩ := h.first hs hw hc
        omega
      · exact jush_none (by omega)
    | succ i ih =>
      intro m j T h hs hi
      by_cases hw : 0 < j.wait.length
      · obtain ⟨e, h1, h2, h3⟩ := h.first hs hw hc
        have h4 := h.lack h2 (by omega) (h.gap (by omega))
        obtain ⟨m', h5, h6, h7⟩ := h4.run hn
        have hu : jush 0 j = some (jrun (jlack j (e : Int))) := by rw [jush_some (by omega), h1]
        obtain ⟨k, m2, h8, h9⟩ := ih m' _ T h6 h7 (by omega)
        exact ⟨k + 1, m2, by rw [jut_next hu]; exact h8, by rw [jut_next hu]; exact h9⟩
      · exact ⟨0, m, jush_none (show ¬ (0 : Int) < (j.wait.length : Int) by omega), h⟩
  obtain ⟨k, m', h1, h2⟩ := key _ m _ _ h0 hs0 (Nat.le_refl _)
  have e : jflush j = jut 0 k { j with told := [] } := by
    unfold jflush
    exact jover_of h1
  rw [e]
  refine ⟨m', h2, ?_⟩
  unfold jush at h1
  split at h1
  · cases h1
  · exact List.eq_nil_of_length_eq_zero (by omega)
/-- Nothing came yet. -/
theorem Jsm.start {X : List Pc} {n : Nat} (s : Bool) (room most : Int) : Jsm X n (fun _ => false) 0 (jnew s n room most) [] 0 (jnew s n room most) :=
  ⟨rfl, Nat.le_refl _, List.length_replicate, fun v hv => by rw [(List.mem_replicate.1 hv).2]; omega, (fun _ h => by cases h), (fun _ h => by cases h), (fun _ _ _ h => by cases h), rfl, (fun _ h => by cases h)⟩
end
end

section
set_option maxRecDepth 4000

/-- A place: its piece, or none. -/
def jB (j : Jn) (o : Option Pc) : Jn := match o with
  | some p => jgo j p
  | none => jsk j
/-- A packet's places: its pieces, of which some never came. -/
def jopt (l : List Pc) (f : List Bool) : List (Option Pc) := List.zipWith (fun x b => if b = true then some x else none) l f
/-- The Wholes of what is told. -/
def jwh (t : List Ev) : List (List Nat) := t.filterMap fun e => if e.k = 0 then some e.d else none
theorem jwh_app (a b : List Ev) : jwh (a ++ b) = jwh a ++ jwh b := List.filterMap_append ..
theorem jopt_len {l : List Pc} {f : List Bool} (h : f.length = l.length) : (jopt l f).length = l.length := by simp [jopt, h]
theorem jopt_at {l : List Pc} {f : List Bool} {i : Nat} {x : Pc} {b : Bool} (hx : l[i]? = some x) (hb : f[i]? = some b) : (jopt l f)[i]? = some (if b = true then some x else none) := by
  unfold jopt
  rw [List.getElem?_zipWith, hx, hb]
theorem jgo_skip {j : Jn} {p : Pc} (hb : p.b = false) (hm : j.mode ≠ 1) : ∃ ev, jgo j p = { j with next := j.next + 1, mode := 2, told := j.told ++ ev } ∧ ∀ e ∈ ev, e.k = 2 := by
  unfold jgo jthr
  rw [if_pos ⟨hb, hm⟩]
  unfold jbad
  split
  · exact ⟨[_], rfl, fun e he => by rw [List.mem_singleton] at he; subst he; rfl⟩
  · exact ⟨[], by rw [List.append_nil], fun e he => by cases he⟩
/-- Behind some of a packet's places, but not all. -/
theorem packet_places {l : List Pc} {d : List Nat} (h : IsPacket l d) {f : List Bool} (hf : f.length = l.length) {j : Jn} (hm : j.mode ≠ 1) (hd : (d.length : Int) ≤ j.most) : ∀ i, i < l.length →
    ∃ ev r, ((jopt l f).take i).foldl jB j = r ∧ r.told = j.told ++ ev ∧ (∀ e ∈ ev, e.k = 2) ∧ r.most = j.most ∧
      ((0 < i ∧ (f.take i).all id = true ∧ r.mode = 1 ∧ r.data = ((l.take i).map fun x => x.d).flatten) ∨ (r.mode ≠ 1 ∧ (i = 0 ∨ (f.take i).all id = false))) := by
  intro i
  induction i with
  | zero => intro _; exact ⟨[], j, rfl, by simp, (fun e he => by cases he), rfl, .inr ⟨hm, .inl rfl⟩⟩
  | succ i ih =>
    intro hi
    obtain ⟨ev, r, h1, h2, h3, h4, h5⟩ := ih (by omega)
    obtain ⟨x, hx⟩ : ∃ x, l[i]? = some x := ⟨_, List.getElem?_eq_getElem (by omega)⟩
    obtain ⟨b, hb⟩ : ∃ b, f[i]? = some b := ⟨_, List.getElem?_eq_getElem (by omega)⟩
    have hxb := h.begin_ i x hx
    have hxe := h.end_ i x hx
    rw [decide_eq_false (by omega)] at hxe
    have ht := flat_le_take l (i + 1)
    rw [h.data] at ht
    have e1 : l.take (i + 1) = l.take i ++ [x] := by rw [List.take_add_one, hx]; rfl
    have e2 : f.take (i + 1) = f.take i ++ [b] := by rw [List.take_add_one, hb]; rfl
    rw [e1, List.map_append, List.flatten_append] at ht
    simp only [List.map_cons, List.map_nil, List.flatten_cons, List.flatten_nil, List.append_nil] at ht
    rw [List.length_append] at ht
    have e3 : ((jopt l f).take (i + 1)).foldl jB j = jB r (if b = true then some x else none) := by
      rw [List.take_add_one, jopt_at hx hb, List.foldl_append, h1]
      rfl
    rw [e3, e2, List.all_append]
    cases b with
    | false =>
      refine ⟨ev, _, rfl, h2, h3, h4, .inr ⟨?_, .inr (by simp)⟩⟩
      show (2 : Int) ≠ 1
      decide
    | true =>
      show ∃ ev' r', jgo r x = r' ∧ _
      rcases h5 with ⟨g1, g2, g3, g4⟩ | ⟨g1, g2⟩
      · rw [decide_eq_false (by omega)] at hxb
        rw [jgo_more hxb g3, hxe]
        unfold jgrow
        rw [if_neg (show ¬ r.most < ((r.data ++ x.d).length : Int) by rw [g4, List.length_append, h4]; omega), if_neg (by decide)]
        exact ⟨ev, _, rfl, h2, h3, h4, .inl ⟨by omega, by rw [g2]; rfl, rfl, by rw [e1, List.map_append, List.flatten_append, g4]; simp⟩⟩
      · rcases Nat.eq_zero_or_pos i with h0 | h0
        · subst h0
          rw [jgo_first (by rw [hxb]; rfl) g1, hxe]
          unfold jgrow
          rw [if_neg (show ¬ r.most < (x.d.length : Int) by rw [h4]; omega), if_neg (by decide)]
          exact ⟨ev, _, rfl, h2, h3, h4, .inl ⟨by omega, by simp, rfl, by rw [e1]; simp⟩⟩
        · rw [decide_eq_false (by omega)] at hxb
          have g3 : (f.take i).all id = false := g2.resolve_left (by omega)
          obtain ⟨ev', e4, h6⟩ := jgo_skip hxb g1
          rw [e4]
          refine ⟨ev ++ ev', _, rfl, by show r.told ++ ev' = _; rw [h2, List.append_assoc], fun e he => (List.mem_append.1 he).elim (h3 e) (h6 e), h4, .inr ⟨?_, .inr (by rw [g3]; rfl)⟩⟩
          show (2 : Int) ≠ 1
          decide
theorem jwh_bad {ev : List Ev} (h : ∀ e ∈ ev, e.k = 2) : jwh ev = [] := by
  unfold jwh
  rw [List.filterMap_eq_nil_iff]
  intro e he
  rw [h e he]
  rfl
/-- A packet's places: a Whole, if none lacks. -/
theorem packet_some {l : List Pc} {d : List Nat} (h : IsPacket l d) {f : List Bool} (hf : f.length = l.length) {j : Jn} (hm : j.mode ≠ 1) (hd : (d.length : Int) ≤ j.most) :
    ∃ ev r, (jopt l f).foldl jB j = r ∧ r.told = j.told ++ ev ∧ (∀ e ∈ ev, e.k ≠ 3) ∧ r.most = j.most ∧ r.mode ≠ 1 ∧ jwh ev = if f.all id = true then [d] else [] := by
  obtain ⟨n, hn⟩ : ∃ n, l.length = n + 1 := ⟨l.length - 1, by have := h.pos; omega⟩
  obtain ⟨ev, r, h1, h2, h3, h4, h5⟩ := packet_places h hf hm hd n (by omega)
  obtain ⟨x, hx⟩ : ∃ x, l[n]? = some x := ⟨_, List.getElem?_eq_getElem (by omega)⟩
  obtain ⟨b, hb⟩ : ∃ b, f[n]? = some b := ⟨_, List.getElem?_eq_getElem (by omega)⟩
  have hxb := h.begin_ n x hx
  have hxe := h.end_ n x hx
  rw [decide_eq_true (by omega)] at hxe
  have e1 : l = l.take n ++ [x] := by
    have : l.take (n + 1) = l.take n ++ [x] := by rw [List.take_add_one, hx]; rfl
    rwa [List.take_of_length_le (by omega)] at this
  have e2 : f = f.take n ++ [b] := by
    have : f.take (n + 1) = f.take n ++ [b] := by rw [List.take_add_one, hb]; rfl
    rwa [List.take_of_length_le (by omega)] at this
  have e4 : ((l.take n).map fun x => x.d).flatten ++ x.d = d := by
    have := h.data
    rw [e1, List.map_append, List.flatten_append] at this
    simpa using this
  have e3 : (jopt l f).foldl jB j = jB r (if b = true then some x else none) := by
    have hl := jopt_len hf
    have : (jopt l f).take (n + 1) = (jopt l f).take n ++ [if b = true then some x else none] := by rw [List.take_add_one, jopt_at hx hb]; rfl
    rw [List.take_of_length_le (by omega)] at this
    rw [this, List.foldl_append, h1]
    rfl
  have hk : ∀ e ∈ ev, e.k ≠ 3 := fun e he => by rw [h3 e he]; decide
  have ha : f.all id = ((f.take n).all id && b) := by
    conv => lhs; rw [e2]
    rw [List.all_append]
    simp
  rw [e3, ha]
  have hw : ∀ x : Ev, x.k = 0 → jwh (ev ++ [x]) = [x.d] := fun y hy => by rw [jwh_app, jwh_bad h3]; simp [jwh, hy]
  cases b with
  | false =>
    refine ⟨ev, _, rfl, h2, hk, h4, ?_, by rw [jwh_bad h3]; simp⟩
    show (2 : Int) ≠ 1
    decide
  | true =>
    show ∃ ev' r', jgo r x = r' ∧ _
    rcases h5 with ⟨g1, g2, g3, g4⟩ | ⟨g1, g2⟩
    · rw [decide_eq_false (by omega)] at hxb
      rw [jgo_more hxb g3, hxe, g4, e4]
      unfold jgrow
      rw [if_neg (show ¬ r.most < (d.length : Int) by rw [h4]; omega), if_pos rfl]
      refine ⟨ev ++ [⟨0, d, 0, 0⟩], _, rfl, by show r.told ++ _ = _; rw [h2, List.append_assoc], fun e he => ?_, h4, by show (0 : Int) ≠ 1; decide, by rw [hw _ rfl, g2]; rfl⟩
      rcases List.mem_append.1 he with he | he
      · exact hk e he
      · rw [List.mem_singleton] at he; subst he; show (0 : Int) ≠ 3; decide
    · rcases Nat.eq_zero_or_pos n with h0 | h0
      · subst h0
        rw [List.take_zero] at e4
        simp only [List.map_nil, List.flatten_nil, List.nil_append] at e4
        rw [jgo_first (by rw [hxb]; rfl) g1, hxe, e4]
        unfold jgrow
        rw [if_neg (show ¬ r.most < (d.length : Int) by rw [h4]; omega), if_pos rfl]
        refine ⟨ev ++ [⟨0, d, 0, 0⟩], _, rfl, by show r.told ++ _ = _; rw [h2, List.append_assoc], fun e he => ?_, h4, by show (0 : Int) ≠ 1; decide, by rw [hw _ rfl]; simp⟩
        rcases List.mem_append.1 he with he | he
        · exact hk e he
        · rw [List.mem_singleton] at he; subst he; show (0 : Int) ≠ 3; decide
      · rw [decide_eq_false (by omega)] at hxb
        have g3 : (f.take n).all id = false := g2.resolve_left (by omega)
        obtain ⟨ev', e5, h6⟩ := jgo_skip hxb g1
        rw [e5]
        refine ⟨ev ++ ev', _, rfl, by show r.told ++ ev' = _; rw [h2, List.append_assoc], fun e he => ?_, h4, by show (2 : Int) ≠ 1; decide, by rw [jwh_app, jwh_bad h3, jwh_bad h6, g3]; rfl⟩
        rcases List.mem_append.1 he with he | he
        · exact hk e he
        · rw [h6 e he]; decide
/-- Packets' places, one behind the other. -/
theorem packets_some : ∀ (ls : List (List Pc)) (fs : List (List Bool)) (ds : List (List Nat)), ls.length = ds.length → fs.length = ds.length → (∀ (i : Nat) l d f, ls[i]? = some l → ds[i]? = some d → fs[i]? = some f → IsPacket l d ∧ f.length = l.length) → ∀ (j : Jn), j.mode ≠ 1 → (∀ d ∈ ds, (d.length : Int) ≤ j.most) →
    ∃ ev r, ((List.zipWith jopt ls fs).flatten).foldl jB j = r ∧ r.told = j.told ++ ev ∧ (∀ e ∈ ev, e.k ≠ 3) ∧ jwh ev = (List.zipWith (fun d f => if f.all id = true then [d] else []) ds fs).flatten
  | [], [], [], _, _, _, j, _, _ => ⟨[], j, rfl, by simp, (fun e he => by cases he), rfl⟩
  | l :: ls, f :: fs, d :: ds, h1, h2, hp, j, hm, hd => by
    obtain ⟨g1, g2⟩ := hp 0 l d f rfl rfl rfl
    obtain ⟨ev, r, a1, a2, a3, a4, a5, a6⟩ := packet_some g1 g2 hm (hd d (List.mem_cons_self ..))
    obtain ⟨ev', r', b1, b2, b3, b4⟩ := packets_some ls fs ds (by simpa using h1) (by simpa using h2) (fun i l d f hl hd hf => hp (i + 1) l d f (by simpa using hl) (by simpa using hd) (by simpa using hf)) r a5 (fun d hd' => by rw [a4]; exact hd d (List.mem_cons_of_mem _ hd'))
    refine ⟨ev ++ ev', r', ?_, by rw [b2, a2, List.append_assoc], fun e he => (List.mem_append.1 he).elim (a3 e) (b3 e), ?_⟩
    · rw [List.zipWith_cons_cons, List.flatten_cons, List.foldl_append, a1, b1]
    · rw [jwh_app, a6, b4, List.zipWith_cons_cons, List.flatten_cons]
  | [], [], _ :: _, h, _, _, _, _, _ => by simp at h
  | [], _ :: _, [], _, h, _, _, _, _ => by simp at h
  | [], _ :: _, _ :: _, h, _, _, _, _, _ => by simp at h
  | _ :: _, _, [], h, _, _, _, _, _ => by simp at h
  | _ :: _, [], _ :: _, _, h, _, _, _, _ => by simp at h
end

section
set_option maxRecDepth 4000

theorem jA_fold {X : List Pc} {came : Nat → Bool} {s0 : Jn} : ∀ m, m ≤ X.length → jA X came s0 m = ((jopt X ((List.range X.length).map came)).take m).foldl jB s0
  | 0, _ => rfl
  | m + 1, h => by
    obtain ⟨x, hx⟩ : ∃ x, X[m]? = some x := ⟨_, List.getElem?_eq_getElem (by omega)⟩
    have hf : ((List.range X.length).map came)[m]? = some (came m) := by rw [List.getElem?_map, List.getElem?_range (by omega)]; rfl
    rw [List.take_add_one, jopt_at hx hf, List.foldl_append, ← jA_fold m (by omega)]
    cases hc : came m with
    | false => rw [jA_none hc]; rfl
    | true => rw [jA_some hc hx]; rfl
theorem jA_tail {X : List Pc} {came : Nat → Bool} {s0 : Jn} {m : Nat} (h : ∀ i, m ≤ i → came i = false) : ∀ k, (jA X came s0 (m + k)).told = (jA X came s0 m).told
  | 0 => rfl
  | k + 1 => by
    rw [show m + (k + 1) = (m + k) + 1 by omega, jA_none (h _ (by omega))]
    exact jA_tail h k
theorem jwh_jnl (t : List Ev) : jwh (jnl t) = jwh t := by
  unfold jwh jnl
  rw [List.filterMap_filter]
  congr 1
  funext e
  by_cases h : e.k = 1
  · simp [h]
  · simp [h]
/-- In all: the Wholes are those of all places, no packet is Long, each Loss has many. -/
theorem Jsm.done {X : List Pc} {n : Nat} {came : Nat → Bool} {c : Nat} {s0 : Jn} {T : List Ev} {m : Nat} {j : Jn} (h : Jsm X n came c s0 T m j) (hw : j.wait = []) (hc : c ≤ X.length) {ev : List Ev} {r : Jn} (hr : (jopt X ((List.range X.length).map came)).foldl jB s0 = r) (ht : r.told = ev) (hk : ∀ e ∈ ev, e.k ≠ 3) :
    jwh (T ++ j.told) = jwh ev ∧ ∀ e ∈ T ++ j.told, (e.k = 1 → 1 ≤ e.m) ∧ e.k ≠ 3 := by
  have hm := h.mc
  have hno : ∀ i, m ≤ i → came i = false := by
    intro i hi
    cases hci : came i with
    | false => rfl
    | true =>
      have h1 := h.w2 i _ hi hci (List.getElem?_eq_getElem (h.cn i hci).2)
      rw [hw] at h1
      cases h1
  have e1 : (jA X came s0 X.length).told = (jA X came s0 m).told := by
    have := jA_tail (X := X) (s0 := s0) hno (X.length - m)
    rwa [show m + (X.length - m) = X.length by omega] at this
  have hl : (jopt X ((List.range X.length).map came)).length = X.length := jopt_len (by simp)
  have e2 : jA X came s0 X.length = r := by
    rw [jA_fold X.length (Nat.le_refl _), List.take_of_length_le (by omega), hr]
  have e3 : jnl (T ++ j.told) = ev := by
    have h1 := congrArg Jn.told h.st
    have h2 : jnl (T ++ j.told) = (jA X came s0 m).told := h1
    rw [h2, ← e1, e2, ht]
  refine ⟨by rw [← jwh_jnl, e3], fun e he => ⟨h.lo e he, fun h3 => ?_⟩⟩
  have h4 : e ∈ jnl (T ++ j.told) := List.mem_filter.2 ⟨he, by rw [h3]; rfl⟩
  rw [e3] at h4
  exact hk e h4 h3
/-- Places of packets, one behind the other, are all places. -/
theorem jopt_flat : ∀ (ls : List (List Pc)) (fs : List (List Bool)), ls.length = fs.length → (∀ (i : Nat) l f, ls[i]? = some l → fs[i]? = some f → f.length = l.length) → jopt ls.flatten fs.flatten = (List.zipWith jopt ls fs).flatten
  | [], [], _, _ => rfl
  | l :: ls, f :: fs, h, hl => by
    rw [List.zipWith_cons_cons, List.flatten_cons, List.flatten_cons, List.flatten_cons, ← jopt_flat ls fs (by simpa using h) (fun i l f hl' hf' => hl (i + 1) l f (by simpa using hl') (by simpa using hf'))]
    exact List.zipWith_append (hl 0 l f rfl rfl).symm
  | [], _ :: _, h, _ => by simp at h
  | _ :: _, [], h, _ => by simp at h
end

section
set_option maxRecDepth 4000

theorem frpcs_packet (s : Bool) (f m : Nat) (l : List Nat) (hm : 0 < m) : IsPacket (frpcs s f m l) l where
  pos := by rw [frpcs_len]; exact Nat.succ_pos _
  begin_ := by
    intro i x hx
    obtain ⟨_, rfl⟩ := frpcs_get hx
    rfl
  end_ := by
    intro i x hx
    obtain ⟨_, rfl⟩ := frpcs_get hx
    rw [frpcs_len]
    rfl
  data := frpcs_join s f m l hm
theorem frpcs_num {s : Bool} {f m : Nat} {l : List Nat} {i : Nat} {x : Pc} (hx : (frpcs s f m l)[i]? = some x) (h : f + i < frmod s) : x.n = ((f + i : Nat) : Int) := by
  obtain ⟨_, rfl⟩ := frpcs_get hx
  show ((frnum s f i : Nat) : Int) = _
  unfold frnum
  rw [Nat.mod_eq_of_lt h]
end
end Go.Proofs.YtamdaepeogmboaaDoor
