
/-
  The mathematics of layer 24: going through until nothing more can be, and what bounds hold. No condition.
-/
import Derived.Test.YtamdaepeogmboaaDoorJoiM
namespace Go.Proofs.YtamdaepeogmboaaDoor
set_option maxRecDepth 4000

/-- So many steps. -/
def jit : Nat → Jn → Jn
  | 0, j => j
  | n + 1, j => match jstp j with
    | some k => jit n k
    | none => j
theorem jit_stop {j : Jn} (h : jstp j = none) (n : Nat) : jit n j = j := by
  cases n with
  | zero => rfl
  | succ n => simp [jit, h]
theorem jit_snoc {n : Nat} {j k : Jn} (h : jstp (jit n j) = some k) : jit (n + 1) j = k := by
  induction n generalizing j with
  | zero => simp only [jit] at h ⊢; rw [h]
  | succ n ih =>
    unfold jit
    cases hj : jstp j with
    | none => rw [jit_stop hj] at h; rw [hj] at h; cases h
    | some m =>
      have h' : jit (n + 1) j = jit n m := by simp [jit, hj]
      rw [h'] at h
      exact ih h
theorem jit_add (n m : Nat) (j : Jn) : jit (n + m) j = jit m (jit n j) := by
  induction n generalizing j with
  | zero => simp [jit]
  | succ n ih =>
    rw [Nat.add_right_comm]
    cases hj : jstp j with
    | none => rw [jit_stop hj, jit_stop hj, jit_stop hj]
    | some k =>
      have e1 : jit (n + m + 1) j = jit (n + m) k := by simp [jit, hj]
      have e2 : jit (n + 1) j = jit n k := by simp [jit, hj]
      rw [e1, e2, ih]
open Classical in
/-- All places that can be are gone through. -/
noncomputable def jrun (j : Jn) : Jn := if h : ∃ n, jstp (jit n j) = none then jit h.choose j else j
theorem jrun_of {n : Nat} {j : Jn} (h : jstp (jit n j) = none) : jrun j = jit n j := by
  have hx : ∃ n, jstp (jit n j) = none := ⟨n, h⟩
  unfold jrun
  rw [dif_pos hx]
  have h2 := hx.choose_spec
  generalize hx.choose = m at h2
  rcases Nat.le_total n m with hl | hl
  · obtain ⟨k, rfl⟩ := Nat.exists_eq_add_of_le hl
    rw [jit_add, jit_stop h]
  · obtain ⟨k, rfl⟩ := Nat.exists_eq_add_of_le hl
    rw [jit_add, jit_stop h2]

theorem jbad_told (j : Jn) (p : Pc) : ∃ t, jbad j p = { j with told := t } ∧ t.length ≤ j.told.length + 1 := by
  unfold jbad
  split
  · exact ⟨_, rfl, by rw [List.length_append]; exact Nat.le_refl _⟩
  · exact ⟨_, rfl, Nat.le_succ _⟩
theorem jgrow_form (j : Jn) (e : Bool) (d : List Nat) : ∃ t m d', jgrow j e d = { j with told := t, mode := m, data := d' } ∧ t.length ≤ j.told.length + 1 ∧ (m = 0 ∨ m = 1 ∨ m = 2) ∧ (d' = [] ∨ (d'.length : Int) ≤ j.most) := by
  unfold jgrow
  split
  · exact ⟨j.told ++ [⟨3, [], 0, 0⟩], 2, [], rfl, by rw [List.length_append, List.length_singleton]; omega, .inr (.inr rfl), .inl rfl⟩
  · next h =>
    split
    · exact ⟨j.told ++ [⟨0, d, 0, 0⟩], 0, [], rfl, by rw [List.length_append, List.length_singleton]; omega, .inl rfl, .inl rfl⟩
    · exact ⟨j.told, 1, d, rfl, by omega, .inr (.inl rfl), .inr (by omega)⟩
/-- What is gone through turns the mode, the data and what is told alone. -/
theorem jthr_form (j : Jn) (p : Pc) : ∃ t m d, jthr j p = { j with told := t, mode := m, data := d } ∧ t.length ≤ j.told.length + 2 ∧ (m = 0 ∨ m = 1 ∨ m = 2) ∧ (d = [] ∨ d = j.data ∨ (d.length : Int) ≤ j.most) := by
  obtain ⟨t, h1, h2⟩ := jbad_told j p
  unfold jthr
  rw [h1]
  by_cases hc : p.b = false ∧ j.mode ≠ 1
  · rw [if_pos hc]
    exact ⟨t, 2, j.data, rfl, by omega, .inr (.inr rfl), .inr (.inl rfl)⟩
  · rw [if_neg hc]
    obtain ⟨t', m, d', e, h3, h4, h5⟩ := jgrow_form { j with told := t } p.e ((if p.b = true then [] else j.data) ++ p.d)
    rw [e]
    exact ⟨t', m, d', rfl, by have h3' : t'.length ≤ t.length + 1 := h3; omega, h4, h5.elim .inl (fun h => .inr (.inr h))⟩

/-- Bounds. -/
structure Jok (M : Int) (j : Jn) : Prop where
  n0 : 0 ≤ j.next
  n1 : j.next ≤ M
  mo : j.mode = 0 ∨ j.mode = 1 ∨ j.mode = 2
  da : (j.data.length : Int) ≤ j.most
  m0 : 0 ≤ j.most
  m1 : j.most ≤ 1048576
  pl : ∀ x ∈ j.wait, x.1 < M ∧ x.2.d.length ≤ 1073741824
  pg : ∀ x ∈ j.wait, j.next ≤ x.1
  wl : j.wait.length ≤ 1073741824
  la : ∀ x ∈ j.last, -1 ≤ x ∧ x < M
  l0 : 0 < j.last.length
  l1 : j.last.length ≤ 1073741824
  td : (j.told.length : Int) ≤ 2 * j.next
theorem Jok.end_ {M : Int} {j : Jn} (h : Jok M j) : jend j ≤ M := by
  have := (h.la _ (jleast_mem h.l0)).2
  unfold jend
  split <;> omega
theorem jend_first (j : Jn) : jend j ≤ jfirst j.wait := by
  unfold jend
  split <;> omega
theorem Jok.lack {M : Int} {j : Jn} (h : Jok M j) {e : Int} (he : j.next < e) (hM : e ≤ M) (hf : e ≤ jfirst j.wait) : Jok M (jlack j e) := by
  refine ⟨?_, hM, .inr (.inr rfl), h.m0, h.m0, h.m1, h.pl, fun x hx => Int.le_trans hf (jfirst_le hx), h.wl, h.la, h.l0, h.l1, ?_⟩
  · show 0 ≤ e
    have := h.n0
    omega
  · show ((j.told ++ [_]).length : Int) ≤ 2 * e
    have := h.td
    rw [List.length_append, List.length_singleton]
    omega
theorem Jok.thr {M : Int} {j : Jn} (h : Jok M j) {p : Pc} (hp : jat j.wait j.next = some p) : Jok M { jthr { j with wait := jwo j.wait j.next } p with next := j.next + 1 } := by
  obtain ⟨t, m, d, e, h1, h2, h3⟩ := jthr_form { j with wait := jwo j.wait j.next } p
  rw [e]
  have h4 := (h.pl _ (jat_mem hp)).1
  have h5 := h.td
  have h6 := h.da
  have h7 := h.m0
  have h8 := h.n0
  refine ⟨?_, ?_, h2, ?_, h.m0, h.m1, fun x hx => h.pl x (List.mem_filter.1 hx).1, fun x hx => ?_, Nat.le_trans (jwo_len _ _) h.wl, h.la, h.l0, h.l1, ?_⟩
  · show 0 ≤ j.next + 1
    omega
  · show j.next + 1 ≤ M
    have h4' : j.next < M := h4
    omega
  · show (d.length : Int) ≤ j.most
    rcases h3 with h3 | h3 | h3
    · rw [h3]; exact h7
    · rw [h3]; exact h6
    · exact h3
  · obtain ⟨hx1, hx2⟩ := List.mem_filter.1 hx
    have h9 := h.pg x hx1
    have h10 : x.1 ≠ j.next := by simpa using hx2
    show j.next + 1 ≤ x.1
    omega
  · show (t.length : Int) ≤ 2 * (j.next + 1)
    have h1' : t.length ≤ j.told.length + 2 := h1
    omega
theorem jstp_thr {j : Jn} {p : Pc} (hp : jat j.wait j.next = some p) : jstp j = some { jthr { j with wait := jwo j.wait j.next } p with next := j.next + 1 } := by
  unfold jstp
  rw [hp]
theorem jstp_lack {j : Jn} (hp : jat j.wait j.next = none) (h : ¬ jend j ≤ j.next) : jstp j = some (jlack j (jend j)) := by
  unfold jstp
  rw [hp]
  exact if_neg h
theorem jstp_none {j : Jn} (hp : jat j.wait j.next = none) (h : jend j ≤ j.next) : jstp j = none := by
  unfold jstp
  rw [hp]
  exact if_pos h
theorem Jok.stp {M : Int} {j k : Jn} (h : Jok M j) (hk : jstp j = some k) : Jok M k ∧ j.next < k.next := by
  cases hp : jat j.wait j.next with
  | some p =>
    rw [jstp_thr hp] at hk
    injection hk with hk
    subst hk
    exact ⟨h.thr hp, by show j.next < j.next + 1; omega⟩
  | none =>
    by_cases he : jend j ≤ j.next
    · rw [jstp_none hp he] at hk; cases hk
    · rw [jstp_lack hp he] at hk
      injection hk with hk
      subst hk
      exact ⟨h.lack (by omega) h.end_ (jend_first j), by show j.next < jend j; omega⟩
theorem Jok.jit {M : Int} {j : Jn} (h : Jok M j) (n : Nat) : Jok M (jit n j) := by
  induction n generalizing j with
  | zero => exact h
  | succ n ih =>
    cases hj : jstp j with
    | none => rw [jit_stop hj]; exact h
    | some k =>
      have e : Go.Proofs.YtamdaepeogmboaaDoor.jit (n + 1) j = Go.Proofs.YtamdaepeogmboaaDoor.jit n k := by simp [Go.Proofs.YtamdaepeogmboaaDoor.jit, hj]
      rw [e]
      exact ih (h.stp hj).1
theorem Jok.stops {M : Int} {j : Jn} (h : Jok M j) : ∃ n, jstp (Go.Proofs.YtamdaepeogmboaaDoor.jit n j) = none := by
  have key : ∀ (k : Nat) (j : Jn), Jok M j → (M - j.next).toNat ≤ k → ∃ n, jstp (Go.Proofs.YtamdaepeogmboaaDoor.jit n j) = none := by
    intro k
    induction k with
    | zero =>
      intro j h hk
      refine ⟨0, ?_⟩
      show jstp j = none
      cases hj : jstp j with
      | none => rfl
      | some m =>
        have h1 := (h.stp hj).2
        have h2 := (h.stp hj).1.n1
        omega
    | succ k ih =>
      intro j h hk
      cases hj : jstp j with
      | none => exact ⟨0, hj⟩
      | some m =>
        have h1 := (h.stp hj).2
        have h2 := (h.stp hj).1.n1
        obtain ⟨n, hn⟩ := ih m (h.stp hj).1 (by omega)
        refine ⟨n + 1, ?_⟩
        have e : Go.Proofs.YtamdaepeogmboaaDoor.jit (n + 1) j = Go.Proofs.YtamdaepeogmboaaDoor.jit n m := by simp [Go.Proofs.YtamdaepeogmboaaDoor.jit, hj]
        rw [e]
        exact hn
  exact key _ j h (Nat.le_refl _)
theorem Jok.run {M : Int} {j : Jn} (h : Jok M j) : Jok M (jrun j) ∧ jstp (jrun j) = none := by
  obtain ⟨n, hn⟩ := h.stops
  rw [jrun_of hn]
  exact ⟨h.jit n, hn⟩
theorem Jok.run_le {M : Int} {j : Jn} (h : Jok M j) : j.next ≤ (jrun j).next := by
  obtain ⟨n, hn⟩ := h.stops
  rw [jrun_of hn]
  clear hn
  induction n generalizing j with
  | zero => exact Int.le_refl _
  | succ n ih =>
    cases hj : jstp j with
    | none => rw [jit_stop hj]; exact Int.le_refl _
    | some k =>
      have e : Go.Proofs.YtamdaepeogmboaaDoor.jit (n + 1) j = Go.Proofs.YtamdaepeogmboaaDoor.jit n k := by simp [Go.Proofs.YtamdaepeogmboaaDoor.jit, hj]
      rw [e]
      have h1 := h.stp hj
      have := ih h1.1
      omega
/-- What is gone through lets the lanes, the width and the bounds alone. -/
structure Jsame (a b : Jn) : Prop where
  sh : a.sh = b.sh
  room : a.room = b.room
  most : a.most = b.most
  last : a.last = b.last
theorem Jsame.refl (a : Jn) : Jsame a a := ⟨rfl, rfl, rfl, rfl⟩
theorem Jsame.trans {a b c : Jn} (h : Jsame a b) (k : Jsame b c) : Jsame a c := ⟨h.sh.trans k.sh, h.room.trans k.room, h.most.trans k.most, h.last.trans k.last⟩
theorem jstp_same {j k : Jn} (h : jstp j = some k) : Jsame k j := by
  cases hp : jat j.wait j.next with
  | some p =>
    rw [jstp_thr hp] at h
    injection h with h
    obtain ⟨t, m, d, e, -⟩ := jthr_form { j with wait := jwo j.wait j.next } p
    rw [e] at h
    subst h
    exact ⟨rfl, rfl, rfl, rfl⟩
  | none =>
    by_cases he : jend j ≤ j.next
    · rw [jstp_none hp he] at h; cases h
    · rw [jstp_lack hp he] at h
      injection h with h
      subst h
      exact ⟨rfl, rfl, rfl, rfl⟩
theorem jit_same (n : Nat) (j : Jn) : Jsame (jit n j) j := by
  induction n generalizing j with
  | zero => exact .refl _
  | succ n ih =>
    cases hj : jstp j with
    | none => rw [jit_stop hj]; exact .refl _
    | some k =>
      have e : jit (n + 1) j = jit n k := by simp [jit, hj]
      rw [e]
      exact (ih k).trans (jstp_same hj)
theorem jrun_same (j : Jn) : Jsame (jrun j) j := by
  unfold jrun
  split
  · exact jit_same _ _
  · exact .refl _

/-- More wait than k: all ahead of the first that waits are gone through as if they lacked. -/
noncomputable def jush (k : Int) (j : Jn) : Option Jn := if k < (j.wait.length : Int) then some (jrun (jlack j (jfirst j.wait))) else none
/-- So often. -/
noncomputable def jut (k : Int) : Nat → Jn → Jn
  | 0, j => j
  | n + 1, j => match jush k j with
    | some m => jut k n m
    | none => j
theorem jut_stop {k : Int} {j : Jn} (h : jush k j = none) (n : Nat) : jut k n j = j := by
  cases n with
  | zero => rfl
  | succ n => simp [jut, h]
theorem jut_next {k : Int} {j m : Jn} (h : jush k j = some m) (n : Nat) : jut k (n + 1) j = jut k n m := by simp [jut, h]
theorem jut_snoc {k : Int} {n : Nat} {j m : Jn} (h : jush k (jut k n j) = some m) : jut k (n + 1) j = m := by
  induction n generalizing j with
  | zero => exact jut_next h 0
  | succ n ih =>
    cases hj : jush k j with
    | none => rw [jut_stop hj] at h; rw [hj] at h; cases h
    | some i =>
      rw [jut_next hj] at h ⊢
      exact ih h
theorem jut_add {k : Int} (n m : Nat) (j : Jn) : jut k (n + m) j = jut k m (jut k n j) := by
  induction n generalizing j with
  | zero => simp [jut]
  | succ n ih =>
    rw [Nat.add_right_comm]
    cases hj : jush k j with
    | none => rw [jut_stop hj, jut_stop hj, jut_stop hj]
    | some i => rw [jut_next hj, jut_next hj, ih]
open Classical in
/-- .. until no more than k wait. -/
noncomputable def jover (k : Int) (j : Jn) : Jn := if h : ∃ n, jush k (jut k n j) = none then jut k h.choose j else j
theorem jover_of {k : Int} {n : Nat} {j : Jn} (h : jush k (jut k n j) = none) : jover k j = jut k n j := by
  have hx : ∃ n, jush k (jut k n j) = none := ⟨n, h⟩
  unfold jover
  rw [dif_pos hx]
  have h2 := hx.choose_spec
  generalize hx.choose = m at h2
  rcases Nat.le_total n m with hl | hl
  · obtain ⟨i, rfl⟩ := Nat.exists_eq_add_of_le hl
    rw [jut_add, jut_stop h]
  · obtain ⟨i, rfl⟩ := Nat.exists_eq_add_of_le hl
    rw [jut_add, jut_stop h2]
theorem jush_none {k : Int} {j : Jn} (h : ¬ k < (j.wait.length : Int)) : jush k j = none := if_neg h
theorem jush_some {k : Int} {j : Jn} (h : k < (j.wait.length : Int)) : jush k j = some (jrun (jlack j (jfirst j.wait))) := if_pos h
/-- The first that waits, of a joiner that stands. -/
theorem Jok.first {M : Int} {j : Jn} (h : Jok M j) (hs : jstp j = none) (hw : 0 < j.wait.length) (hM : M ≤ 268435456) : j.next < jfirst j.wait ∧ jfirst j.wait ≤ M := by
  have h1 : jat j.wait j.next = none := by
    cases hp : jat j.wait j.next with
    | none => rfl
    | some p => rw [jstp_thr hp] at hs; cases hs
  rcases jfirst_mem (l := j.wait) with h2 | ⟨x, hx, h2⟩
  · obtain ⟨y, hy⟩ : ∃ y, y ∈ j.wait := List.exists_mem_of_ne_nil _ (by intro e; rw [e] at hw; simp at hw)
    have h3 := jfirst_le hy
    have h4 := (h.pl y hy).1
    omega
  · have h3 := h.pg x hx
    have h4 := (h.pl x hx).1
    have h5 : x.1 ≠ j.next := by
      intro e
      unfold jat at h1
      rw [Option.map_eq_none_iff, List.find?_eq_none] at h1
      exact h1 x hx (by simp [e])
    omega
theorem Jok.ush {M k : Int} {j m : Jn} (h : Jok M j) (hs : jstp j = none) (hk : 0 ≤ k) (hM : M ≤ 268435456) (hm : jush k j = some m) : Jok M m ∧ jstp m = none ∧ j.next < m.next := by
  by_cases hc : k < (j.wait.length : Int)
  · rw [jush_some hc] at hm
    injection hm with hm
    subst hm
    obtain ⟨h1, h2⟩ := h.first hs (by omega) hM
    have h3 := h.lack h1 h2 (Int.le_refl _)
    have h4 := h3.run_le
    have h5 : (jlack j (jfirst j.wait)).next = jfirst j.wait := rfl
    exact ⟨h3.run.1, h3.run.2, by omega⟩
  · rw [jush_none hc] at hm; cases hm
theorem Jok.over {M k : Int} {j : Jn} (h : Jok M j) (hs : jstp j = none) (hk : 0 ≤ k) (hM : M ≤ 268435456) : Jok M (jover k j) ∧ jstp (jover k j) = none ∧ ((jover k j).wait.length : Int) ≤ k := by
  have key : ∀ (i : Nat) (j : Jn), Jok M j → jstp j = none → (M - j.next).toNat ≤ i → ∃ n, jush k (jut k n j) = none ∧ Jok M (jut k n j) ∧ jstp (jut k n j) = none := by
    intro i
    induction i with
    | zero =>
      intro j h hs hi
      refine ⟨0, ?_, h, hs⟩
      show jush k j = none
      cases hj : jush k j with
      | none => rfl
      | some m =>
        obtain ⟨h1, h2, h3⟩ := h.ush hs hk hM hj
        have := h1.n1
        omega
    | succ i ih =>
      intro j h hs hi
      cases hj : jush k j with
      | none => exact ⟨0, hj, h, hs⟩
      | some m =>
        obtain ⟨h1, h2, h3⟩ := h.ush hs hk hM hj
        have := h1.n1
        obtain ⟨n, hn⟩ := ih m h1 h2 (by omega)
        exact ⟨n + 1, by rw [jut_next hj]; exact hn⟩
  obtain ⟨n, h1, h2, h3⟩ := key _ j h hs (Nat.le_refl _)
  rw [jover_of h1]
  refine ⟨h2, h3, ?_⟩
  unfold jush at h1
  split at h1
  · cases h1
  · omega

/-- The place of a piece by a lane: the least above the lane's last one that has the number. -/
def jplc (M : Nat) (a n : Int) : Int := a + ((n - a) % (M : Int))
theorem jplc_ge {M : Nat} (hM : 0 < M) (a n : Int) : a ≤ jplc M a n ∧ jplc M a n < a + M := by
  unfold jplc
  have h1 := Int.emod_nonneg (n - a) (show (M : Int) ≠ 0 by omega)
  have h2 := Int.emod_lt_of_pos (n - a) (show (0 : Int) < (M : Int) by omega)
  omega
theorem jplc_num {M : Nat} {a n : Int} (h0 : 0 ≤ n) (h1 : n < (M : Int)) : jplc M a n % (M : Int) = n := by
  unfold jplc
  rw [Int.emod_def (n - a), show a + (n - a - (M : Int) * ((n - a) / M)) = n + (M : Int) * (-((n - a) / M)) by rw [Int.mul_neg]; omega, Int.add_mul_emod_self_left]
  exact Int.emod_eq_of_lt h0 h1
/-- .. and none ahead of it has. -/
theorem jplc_least {M : Nat} {a n x : Int} (h0 : 0 ≤ n) (h1 : n < (M : Int)) (ha : a ≤ x) (hx : x < jplc M a n) : x % (M : Int) ≠ n := by
  intro e
  have hM : (0 : Int) < (M : Int) := by omega
  have e1 : (n - a) % (M : Int) = (x - a) % (M : Int) := by rw [← e, Int.emod_sub_emod]
  have h2 : x - a < (M : Int) := by
    have := (jplc_ge (M := M) (by omega) a n).2
    omega
  rw [Int.emod_eq_of_lt (by omega) h2] at e1
  unfold jplc at hx
  omega

/-- A piece comes by a lane: its place. -/
def jlast (j : Jn) (k : Nat) (p : Pc) : Int := jplc (frmod j.sh) (j.last.getD k (-1) + 1) p.n
/-- .. what is known then. -/
def jcame (j : Jn) (k : Nat) (p : Pc) : Jn :=
  { j with last := j.last.set k (jlast j k p), wait := if jat j.wait (jlast j k p) = none ∧ j.next ≤ jlast j k p then j.wait ++ [(jlast j k p, p)] else j.wait, told := [] }
/-- What Feed's joiner is then. -/
noncomputable def jfeed (j : Jn) (k : Nat) (p : Pc) : Jn := jover j.room (jrun (jcame j k p))
/-- What Flush's joiner is then. -/
noncomputable def jflush (j : Jn) : Jn := jover 0 { j with told := [] }
/-- Bounds behind a piece. -/
theorem Jok.came {M : Int} {j : Jn} (h : Jok M j) {k : Nat} (hk : k < j.last.length) {p : Pc} (hp : p.d.length ≤ 1073741824) (hw : j.wait.length < 1073741824) : Jok (M + (frmod j.sh : Int)) (jcame j k p) := by
  obtain ⟨x, hx⟩ : ∃ x, j.last[k]? = some x := ⟨_, List.getElem?_eq_getElem hk⟩
  have hxl := h.la x (List.mem_of_getElem? hx)
  have e : j.last.getD k (-1) = x := by rw [List.getD_eq_getElem?_getD, hx]; rfl
  have hg := jplc_ge (frmod_pos j.sh) (x + 1) p.n
  have hl : jlast j k p = jplc (frmod j.sh) (x + 1) p.n := by unfold jlast; rw [e]
  rw [← hl] at hg
  have hm := frmod_pos j.sh
  refine ⟨h.n0, by have := h.n1; show j.next ≤ _; omega, h.mo, h.da, h.m0, h.m1, fun y hy => ?_, fun y hy => ?_, ?_, fun y hy => ?_, by show 0 < (j.last.set _ _).length; rw [List.length_set]; exact h.l0, by show (j.last.set _ _).length ≤ _; rw [List.length_set]; exact h.l1, ?_⟩
  · have hy' : y ∈ (if jat j.wait (jlast j k p) = none ∧ j.next ≤ jlast j k p then j.wait ++ [(jlast j k p, p)] else j.wait) := hy
    split at hy'
    · rcases List.mem_append.1 hy' with hy' | hy'
      · have := h.pl y hy'
        omega
      · rw [List.mem_singleton] at hy'
        subst hy'
        exact ⟨by show jlast j k p < _; omega, hp⟩
    · have := h.pl y hy'
      omega
  · have hy' : y ∈ (if jat j.wait (jlast j k p) = none ∧ j.next ≤ jlast j k p then j.wait ++ [(jlast j k p, p)] else j.wait) := hy
    show j.next ≤ y.1
    split at hy'
    · next hc =>
      rcases List.mem_append.1 hy' with hy' | hy'
      · exact h.pg y hy'
      · rw [List.mem_singleton] at hy'
        subst hy'
        exact hc.2
    · exact h.pg y hy'
  · show (if jat j.wait (jlast j k p) = none ∧ j.next ≤ jlast j k p then j.wait ++ [(jlast j k p, p)] else j.wait).length ≤ _
    split
    · rw [List.length_append, List.length_singleton]; omega
    · omega
  · rcases List.mem_or_eq_of_mem_set (show y ∈ j.last.set k (jlast j k p) from hy) with hy | hy
    · have := h.la y hy
      omega
    · subst hy
      omega
  · have := h.n0
    show (([] : List Ev).length : Int) ≤ 2 * j.next
    simp
    omega
theorem jstp_told {j : Jn} {t : List Ev} (h : jstp j = none) : jstp { j with told := t } = none := by
  cases hp : jat j.wait j.next with
  | some p => rw [jstp_thr hp] at h; cases h
  | none =>
    by_cases he : jend j ≤ j.next
    · exact jstp_none (j := { j with told := t }) hp he
    · rw [jstp_lack hp he] at h; cases h
end Go.Proofs.YtamdaepeogmboaaDoor
