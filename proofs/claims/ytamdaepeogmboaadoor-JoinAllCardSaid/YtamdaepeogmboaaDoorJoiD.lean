
/-
  The mathematics of layer 24: how many wait. No condition beyond: places below 2^60.
-/
import Derived.Test.YtamdaepeogmboaaDoorJoiZ
namespace Go.Proofs.YtamdaepeogmboaaDoor
set_option maxRecDepth 4000

theorem jush_wait {k : Int} {j m : Jn} (h : jush k j = some m) : m.wait.length ≤ j.wait.length := by
  unfold jush at h
  split at h
  · injection h with h
    subst h
    exact jrun_wait _
  · cases h
theorem jut_wait (k : Int) (n : Nat) (j : Jn) : (jut k n j).wait.length ≤ j.wait.length := by
  induction n generalizing j with
  | zero => exact Nat.le_refl _
  | succ n ih =>
    cases hj : jush k j with
    | none => rw [jut_stop hj]; exact Nat.le_refl _
    | some m => rw [jut_next hj]; exact Nat.le_trans (ih m) (jush_wait hj)
theorem jover_wait (k : Int) (j : Jn) : (jover k j).wait.length ≤ j.wait.length := by
  unfold jover
  split
  · exact jut_wait _ _ _
  · exact Nat.le_refl _
theorem Jok.first2 {M : Int} {j : Jn} (h : Jok M j) (hs : jstp j = none) (hw : 0 < j.wait.length) (hM : M ≤ 1152921504606846976) : j.next < jfirst j.wait ∧ jfirst j.wait ≤ M := by
  have h1 : jat j.wait j.next = none := by
    cases hp : jat j.wait j.next with
    | none => rfl
    | some p => rw [jstp_thr hp] at hs; cases hs
  rcases jfirst_mem (l := j.wait) with h2 | ⟨x, hx, h2⟩
  · obtain ⟨y, hy⟩ : ∃ y, y ∈ j.wait := List.exists_mem_of_ne_nil _ (by intro e; rw [e] at hw; simp at hw)
    have h3 := jfirst_le hy
    have h4 := (h.pl y hy).1
    omega
  · have h3 := h.pg x hx
    have h4 := (h.pl x hx).1
    have h5 : x.1 ≠ j.next := by
      intro e
      unfold jat at h1
      rw [Option.map_eq_none_iff, List.find?_eq_none] at h1
      exact h1 x hx (by simp [e])
    omega
theorem Jok.ush2 {M k : Int} {j m : Jn} (h : Jok M j) (hs : jstp j = none) (hk : 0 ≤ k) (hM : M ≤ 1152921504606846976) (hm : jush k j = some m) : Jok M m ∧ jstp m = none ∧ j.next < m.next := by
  by_cases hc : k < (j.wait.length : Int)
  · rw [jush_some hc] at hm
    injection hm with hm
    subst hm
    obtain ⟨h1, h2⟩ := h.first2 hs (by omega) hM
    have h3 := h.lack h1 h2 (Int.le_refl _)
    have h4 := h3.run_le
    have h5 : (jlack j (jfirst j.wait)).next = jfirst j.wait := rfl
    exact ⟨h3.run.1, h3.run.2, by omega⟩
  · rw [jush_none hc] at hm; cases hm
theorem Jok.over2 {M k : Int} {j : Jn} (h : Jok M j) (hs : jstp j = none) (hk : 0 ≤ k) (hM : M ≤ 1152921504606846976) : Jok M (jover k j) ∧ jstp (jover k j) = none ∧ ((jover k j).wait.length : Int) ≤ k := by
  have key : ∀ (i : Nat) (j : Jn), Jok M j → jstp j = none → (M - j.next).toNat ≤ i → ∃ n, jush k (jut k n j) = none ∧ Jok M (jut k n j) ∧ jstp (jut k n j) = none := by
    intro i
    induction i with
    | zero =>
      intro j h hs hi
      refine ⟨0, ?_, h, hs⟩
      show jush k j = none
      cases hj : jush k j with
      | none => rfl
      | some m =>
        obtain ⟨h1, h2, h3⟩ := h.ush2 hs hk hM hj
        have := h1.n1
        omega
    | succ i ih =>
      intro j h hs hi
      cases hj : jush k j with
      | none => exact ⟨0, hj, h, hs⟩
      | some m =>
        obtain ⟨h1, h2, h3⟩ := h.ush2 hs hk hM hj
        have := h1.n1
        obtain ⟨n, hn⟩ := ih m h1 h2 (by omega)
        exact ⟨n + 1, by rw [jut_next hj]; exact hn⟩
  obtain ⟨n, h1, h2, h3⟩ := key _ j h hs (Nat.le_refl _)
  rw [jover_of h1]
  refine ⟨h2, h3, ?_⟩
  unfold jush at h1
  split at h1
  · cases h1
  · omega
/-- Behind a piece: no more wait than there is room for, and at most one more than before. -/
theorem jfeed_room {M : Int} {j : Jn} (h : Jok M j) {k : Nat} (hk : k < j.last.length) {p : Pc} (hp : p.d.length ≤ 1073741824) (hw : j.wait.length < 1073741824) (hr : 0 ≤ j.room) (hM : M + (frmod j.sh : Int) ≤ 1152921504606846976) :
    Jok (M + (frmod j.sh : Int)) (jfeed j k p) ∧ jstp (jfeed j k p) = none ∧ ((jfeed j k p).wait.length : Int) ≤ j.room ∧ (jfeed j k p).wait.length ≤ j.wait.length + 1 := by
  have h1 := h.came hk (p := p) hp hw
  have h2 := h1.run
  have h3 := h2.1.over2 h2.2 hr hM
  refine ⟨h3.1, h3.2.1, h3.2.2, ?_⟩
  have h4 := jover_wait j.room (jrun (jcame j k p))
  have h5 := jrun_wait (jcame j k p)
  have h6 : (jcame j k p).wait.length ≤ j.wait.length + 1 := by
    show (if jat j.wait (jlast j k p) = none ∧ j.next ≤ jlast j k p then j.wait ++ [(jlast j k p, p)] else j.wait).length ≤ _
    split
    · rw [List.length_append]; exact Nat.le_refl _
    · omega
  show (jover j.room (jrun (jcame j k p))).wait.length ≤ _
  omega
/-- Behind a flush none waits, and a second one tells nothing. -/
theorem jflush_none {M : Int} {j : Jn} (h : Jok M j) (hs : jstp j = none) (hM : M ≤ 1152921504606846976) : (jflush j).wait = [] ∧ (jflush (jflush j)).told = [] := by
  have h0 : Jok M { j with told := [] } := ⟨h.n0, h.n1, h.mo, h.da, h.m0, h.m1, h.pl, h.pg, h.wl, h.la, h.l0, h.l1, by have := h.n0; show (([] : List Ev).length : Int) ≤ 2 * j.next; simp; omega⟩
  have h1 := h0.over2 (k := 0) (jstp_told hs) (Int.le_refl _) hM
  have h2 : (jflush j).wait = [] := List.eq_nil_of_length_eq_zero (by have := h1.2.2; show (jover 0 { j with told := [] }).wait.length = 0; omega)
  refine ⟨h2, ?_⟩
  have e : jflush (jflush j) = { jflush j with told := [] } := jover_of (n := 0) (jush_none (by show ¬ (0 : Int) < ((jflush j).wait.length : Int); rw [h2]; decide))
  rw [e]
end Go.Proofs.YtamdaepeogmboaaDoor
