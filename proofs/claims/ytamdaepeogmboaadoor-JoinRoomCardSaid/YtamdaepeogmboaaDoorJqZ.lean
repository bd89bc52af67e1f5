
/-
  What the laws of layer 24 carry from call to call. No condition beyond: places up to 2^36.
-/
import Derived.Test.YtamdaepeogmboaaDoorJqD
namespace Go.Proofs.YtamdaepeogmboaaDoor
set_option maxRecDepth 8000
open Go.RowKit Go.Maps

theorem Jok.up {M M' : Int} {j : Jn} (h : Jok M j) (hM : M ≤ M') : Jok M' j := ⟨h.n0, Int.le_trans h.n1 hM, h.mo, h.da, h.m0, h.m1, fun x hx => ⟨Int.lt_of_lt_of_le (h.pl x hx).1 hM, (h.pl x hx).2⟩, h.pg, h.wl, fun x hx => ⟨(h.la x hx).1, Int.lt_of_lt_of_le (h.la x hx).2 hM⟩, h.l0, h.l1, h.td⟩
theorem Jmo.stp {j k : Jn} (h : Jmo j) (hk : jstp j = some k) : Jmo k := by
  cases hp : jat j.wait j.next with
  | some p =>
    rw [jstp_thr hp] at hk
    injection hk with hk
    subst hk
    exact h.thr _ _ _
  | none =>
    by_cases he : jend j ≤ j.next
    · rw [jstp_none hp he] at hk; cases hk
    · rw [jstp_lack hp he] at hk
      injection hk with hk
      subst hk
      exact h.lack _
theorem Jmo.jit {j : Jn} (h : Jmo j) (n : Nat) : Jmo (Go.Proofs.YtamdaepeogmboaaDoor.jit n j) := by
  induction n generalizing j with
  | zero => exact h
  | succ n ih =>
    cases hj : jstp j with
    | none => rw [jit_stop hj]; exact h
    | some k =>
      have e : Go.Proofs.YtamdaepeogmboaaDoor.jit (n + 1) j = Go.Proofs.YtamdaepeogmboaaDoor.jit n k := by simp [Go.Proofs.YtamdaepeogmboaaDoor.jit, hj]
      rw [e]
      exact ih (h.stp hj)
theorem Jmo.run {j : Jn} (h : Jmo j) : Jmo (jrun j) := by
  unfold jrun
  split
  · exact h.jit _
  · exact h
theorem Jmo.ush {k : Int} {j m : Jn} (h : Jmo j) (hm : jush k j = some m) : Jmo m := by
  unfold jush at hm
  split at hm
  · injection hm with hm
    subst hm
    exact (h.lack _).run
  · cases hm
theorem Jmo.ut {k : Int} {j : Jn} (h : Jmo j) (n : Nat) : Jmo (jut k n j) := by
  induction n generalizing j with
  | zero => exact h
  | succ n ih =>
    cases hj : jush k j with
    | none => rw [jut_stop hj]; exact h
    | some m => rw [jut_next hj]; exact ih (h.ush hj)
theorem Jmo.over {k : Int} {j : Jn} (h : Jmo j) : Jmo (jover k j) := by
  unfold jover
  split
  · exact h.ut _
  · exact h
theorem Jmo.feed {M : Int} {j : Jn} (h : Jmo j) (hok : Jok M j) {k : Nat} (hk : k < j.last.length) {p : Pc} (h0 : 0 ≤ p.n) (h1 : p.n < (frmod j.sh : Int)) : Jmo (jfeed j k p) := (h.came hok hk h0 h1).run.over
theorem Jmo.flush {j : Jn} (h : Jmo j) : Jmo (jflush j) := (h.told []).over
theorem pjush_same {k : Int} {j m : Jn} (h : jush k j = some m) : Jsame m j := by
  unfold jush at h
  split at h
  · injection h with h
    subst h
    exact (jrun_same _).trans ⟨rfl, rfl, rfl, rfl⟩
  · cases h
theorem pjut_same (k : Int) (n : Nat) (j : Jn) : Jsame (jut k n j) j := by
  induction n generalizing j with
  | zero => exact .refl _
  | succ n ih =>
    cases hj : jush k j with
    | none => rw [jut_stop hj]; exact .refl _
    | some m => rw [jut_next hj]; exact (ih m).trans (pjush_same hj)
theorem jover_keep (k : Int) (j : Jn) : (jover k j).sh = j.sh ∧ (jover k j).room = j.room ∧ (jover k j).most = j.most ∧ (jover k j).last = j.last := by
  have key : ∀ (n : Nat) (j : Jn), Jsame (jut k n j) j := fun n j => pjut_same k n j
  unfold jover
  split
  · have := key (Classical.choose ‹_›) j
    exact ⟨this.sh, this.room, this.most, this.last⟩
  · exact ⟨rfl, rfl, rfl, rfl⟩
theorem jfeed_keep (j : Jn) (k : Nat) (p : Pc) : (jfeed j k p).sh = j.sh ∧ (jfeed j k p).room = j.room ∧ (jfeed j k p).most = j.most ∧ (jfeed j k p).last.length = j.last.length := by
  have h := jover_keep j.room (jrun (jcame j k p))
  have h2 := jrun_same (jcame j k p)
  refine ⟨h.1.trans h2.sh, h.2.1.trans h2.room, h.2.2.1.trans h2.most, ?_⟩
  rw [show (jfeed j k p).last = (jover j.room (jrun (jcame j k p))).last from rfl, h.2.2.2, h2.last]
  exact List.length_set
theorem jnew_mo (s : Bool) (links : Nat) (room most : Int) : Jmo (jnew s links room most) := ⟨fun y hy => (by cases hy), fun _ => rfl⟩
end Go.Proofs.YtamdaepeogmboaaDoor
