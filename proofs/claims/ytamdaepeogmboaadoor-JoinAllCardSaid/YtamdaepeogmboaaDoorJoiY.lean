
/-
  The mathematics of layer 24: if no piece lacks, all are gone through in order, whichever lanes they came by. No condition.
-/
import Derived.Test.YtamdaepeogmboaaDoorJoiX
namespace Go.Proofs.YtamdaepeogmboaaDoor
set_option maxRecDepth 4000

/-- The joiner with other lanes and waiting pieces, and more told ahead. -/
def jem (T : List Ev) (w : List (Int × Pc)) (l : List Int) (j : Jn) : Jn := { j with wait := w, last := l, told := T ++ j.told }
theorem jbad_em (T : List Ev) (w : List (Int × Pc)) (l : List Int) (j : Jn) (p : Pc) : jbad (jem T w l j) p = jem T w l (jbad j p) := by
  unfold jbad
  by_cases h : (p.b = true ∧ j.mode = 1) ∨ (p.b = false ∧ j.mode = 0)
  · rw [if_pos h, if_pos (show (p.b = true ∧ (jem T w l j).mode = 1) ∨ (p.b = false ∧ (jem T w l j).mode = 0) from h)]
    simp [jem]
  · rw [if_neg h, if_neg (show ¬ ((p.b = true ∧ (jem T w l j).mode = 1) ∨ (p.b = false ∧ (jem T w l j).mode = 0)) from h)]
theorem jgrow_em (T : List Ev) (w : List (Int × Pc)) (l : List Int) (j : Jn) (e : Bool) (d : List Nat) : jgrow (jem T w l j) e d = jem T w l (jgrow j e d) := by
  unfold jgrow
  by_cases h : j.most < (d.length : Int)
  · rw [if_pos h, if_pos (show (jem T w l j).most < (d.length : Int) from h)]
    simp [jem]
  · rw [if_neg h, if_neg (show ¬ (jem T w l j).most < (d.length : Int) from h)]
    cases e <;> simp [jem]
theorem jbad_data (j : Jn) (p : Pc) : (jbad j p).data = j.data ∧ (jbad j p).mode = j.mode := by
  unfold jbad
  split <;> exact ⟨rfl, rfl⟩
theorem jthr_em (T : List Ev) (w : List (Int × Pc)) (l : List Int) (j : Jn) (p : Pc) : jthr (jem T w l j) p = jem T w l (jthr j p) := by
  unfold jthr
  rw [jbad_em]
  by_cases h : p.b = false ∧ j.mode ≠ 1
  · rw [if_pos h, if_pos (show p.b = false ∧ (jem T w l j).mode ≠ 1 from h)]
    rfl
  · rw [if_neg h, if_neg (show ¬ (p.b = false ∧ (jem T w l j).mode ≠ 1) from h), ← jgrow_em]
    rfl
theorem jgo_em (T : List Ev) (w : List (Int × Pc)) (l : List Int) (j : Jn) (p : Pc) : jgo (jem T w l j) p = jem T w l (jgo j p) := by
  unfold jgo
  rw [jthr_em]
  rfl

/-- What came so far, of pieces X by lanes: all ahead of m are gone through, as they would be one behind the other. -/
structure Jal (X : List Pc) (n : Nat) (lane : Nat → Nat) (came : Nat → Prop) (s0 : Jn) (T : List Ev) (m : Nat) (j : Jn) : Prop where
  nx : j.next = (m : Int)
  ln : j.last.length = n
  la : ∀ (k : Nat) (v : Int), j.last[k]? = some v → (v = -1 ∧ ∀ i, came i → lane i ≠ k) ∨ ∃ i : Nat, v = (i : Int) ∧ came i ∧ lane i = k ∧ ∀ i', came i' → lane i' = k → i' ≤ i
  cl : ∀ i i', lane i = lane i' → i < i' → came i' → came i
  cn : ∀ i, came i → i < X.length
  lt : ∀ i, i < X.length → lane i < n
  w1 : ∀ x ∈ j.wait, ∃ i : Nat, m ≤ i ∧ came i ∧ X[i]? = some x.2 ∧ x.1 = (i : Int)
  w2 : ∀ (i : Nat) x, m ≤ i → came i → X[i]? = some x → ((i : Int), x) ∈ j.wait
  al : ∀ i, i < m → came i
  st : jem T [] s0.last j = (X.take m).foldl jgo s0
section
variable {X : List Pc} {n : Nat} {lane : Nat → Nat} {came : Nat → Prop} {s0 : Jn} {T : List Ev} {m : Nat} {j : Jn}
theorem Jal.mn (h : Jal X n lane came s0 T m j) : m ≤ X.length := by
  rcases Nat.eq_zero_or_pos m with h0 | h0
  · omega
  · have := h.cn (m - 1) (h.al (m - 1) (by omega))
    omega
theorem Jal.at_some (h : Jal X n lane came s0 T m j) {x : Pc} (hc : came m) (hx : X[m]? = some x) : jat j.wait j.next = some x := by
  have h1 := h.w2 m x (Nat.le_refl _) hc hx
  cases hj : jat j.wait j.next with
  | some y =>
    obtain ⟨i, _, _, h4, h5⟩ := h.w1 _ (jat_mem hj)
    have h6 : j.next = (i : Int) := h5
    rw [h.nx] at h6
    have e : i = m := by omega
    subst e
    rw [hx] at h4
    exact h4.symm ▸ rfl
  | none =>
    unfold jat at hj
    rw [Option.map_eq_none_iff, List.find?_eq_none] at hj
    exact absurd (by rw [h.nx]; simp) (hj _ h1)
theorem Jal.at_none (h : Jal X n lane came s0 T m j) (hc : ¬ came m) : jat j.wait j.next = none := by
  cases hj : jat j.wait j.next with
  | none => rfl
  | some y =>
    obtain ⟨i, _, h3, _, h5⟩ := h.w1 _ (jat_mem hj)
    have h6 : j.next = (i : Int) := h5
    rw [h.nx] at h6
    have e : i = m := by omega
    subst e
    exact absurd h3 hc
/-- Nothing lacks. -/
theorem Jal.end_ (h : Jal X n lane came s0 T m j) (hn : 0 < n) (hc : ¬ came m) : jend j ≤ j.next := by
  have key : ∃ v ∈ j.last, v < (m : Int) := by
    obtain ⟨k, hk⟩ : ∃ k, k < n ∧ (m < X.length → lane m = k) := by
      by_cases hm : m < X.length
      · exact ⟨lane m, h.lt m hm, fun _ => rfl⟩
      · exact ⟨0, hn, fun h => absurd h hm⟩
    obtain ⟨v, hv⟩ : ∃ v, j.last[k]? = some v := ⟨_, List.getElem?_eq_getElem (by rw [h.ln]; exact hk.1)⟩
    refine ⟨v, List.mem_of_getElem? hv, ?_⟩
    rcases h.la k v hv with ⟨h1, _⟩ | ⟨i, h1, h2, h3, _⟩
    · omega
    · rcases Nat.lt_or_ge i m with h4 | h4
      · omega
      · exfalso
        rcases Nat.eq_or_lt_of_le h4 with h5 | h5
        · rw [← h5] at h2; exact hc h2
        · have h6 := h.cn i h2
          exact hc (h.cl m i (by rw [hk.2 (by omega), h3]) h5 h2)
  obtain ⟨v, hv, hvm⟩ := key
  have h1 := jleast_le hv
  rw [h.nx]
  unfold jend
  split <;> omega
theorem Jal.step (h : Jal X n lane came s0 T m j) {x : Pc} (hc : came m) (hx : X[m]? = some x) : ∃ k, jstp j = some k ∧ Jal X n lane came s0 T (m + 1) k := by
  refine ⟨_, jstp_thr (h.at_some hc hx), ?_⟩
  rw [jthr_wait]
  obtain ⟨t, mo, d, e, -⟩ := jthr_form j x
  have hst := h.st
  refine ⟨?_, ?_, ?_, h.cl, h.cn, h.lt, fun y hy => ?_, fun i y hi hci hy => ?_, fun i hi => ?_, ?_⟩
  · show j.next + 1 = _
    rw [h.nx]; omega
  · show (jthr j x).last.length = n
    rw [e]; exact h.ln
  · show ∀ (k : Nat) (v : Int), (jthr j x).last[k]? = some v → _
    rw [e]; exact h.la
  · have hy' : y ∈ jwo j.wait j.next := hy
    obtain ⟨h1, h2⟩ := List.mem_filter.1 hy'
    obtain ⟨i, h3, h4, h5, h6⟩ := h.w1 y h1
    have h7 : y.1 ≠ j.next := by simpa using h2
    rw [h.nx, h6] at h7
    exact ⟨i, by omega, h4, h5, h6⟩
  · show ((i : Int), y) ∈ jwo j.wait j.next
    refine List.mem_filter.2 ⟨h.w2 i y (by omega) hci hy, ?_⟩
    rw [h.nx]
    simp
    omega
  · rcases Nat.lt_or_ge i m with h1 | h1
    · exact h.al i h1
    · have : i = m := by omega
      subst this; exact hc
  · rw [List.take_add_one, hx, List.foldl_append, ← hst]
    show _ = jgo (jem T [] s0.last j) x
    rw [jgo_em]
    rfl
/-- Going through: as far as pieces came. -/
theorem Jal.run (h : Jal X n lane came s0 T m j) (hn : 0 < n) : ∃ m', jstp (jrun j) = none ∧ Jal X n lane came s0 T m' (jrun j) ∧ ¬ came m' := by
  have key : ∀ (i : Nat) (m : Nat) (j : Jn), Jal X n lane came s0 T m j → X.length - m ≤ i → ∃ k m', jstp (jit k j) = none ∧ Jal X n lane came s0 T m' (jit k j) ∧ ¬ came m' := by
    intro i
    induction i with
    | zero =>
      intro m j h hi
      have hc : ¬ came m := fun hc => by have := h.cn m hc; omega
      exact ⟨0, m, jstp_none (h.at_none hc) (h.end_ hn hc), h, hc⟩
    | succ i ih =>
      intro m j h hi
      by_cases hc : came m
      · have hl := h.cn m hc
        obtain ⟨k, hk, hj⟩ := h.step hc (List.getElem?_eq_getElem hl)
        obtain ⟨c, m', h1, h2, h3⟩ := ih (m + 1) k hj (by omega)
        have e : jit (c + 1) j = jit c k := by simp [jit, hk]
        exact ⟨c + 1, m', by rw [e]; exact h1, by rw [e]; exact h2, h3⟩
      · exact ⟨0, m, jstp_none (h.at_none hc) (h.end_ hn hc), h, hc⟩
  obtain ⟨k, m', h1, h2, h3⟩ := key _ m j h (Nat.le_refl _)
  rw [jrun_of h1]
  exact ⟨m', h1, h2, h3⟩
end
end Go.Proofs.YtamdaepeogmboaaDoor
