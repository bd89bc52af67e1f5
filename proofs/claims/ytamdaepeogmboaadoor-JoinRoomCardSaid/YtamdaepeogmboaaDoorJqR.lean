
/-
  The program's Feed of layer 24: its loop, and what is known in it. No condition beyond: places up to 2^36, sizes below 2^30.
-/
import Derived.Test.YtamdaepeogmboaaDoorJqF
namespace Go.Proofs.YtamdaepeogmboaaDoor
set_option maxRecDepth 4000
open Go.RowKit Go.Maps

theorem Jmo.came {M : Int} {j : Jn} (h : Jmo j) (hok : Jok M j) {k : Nat} (hk : k < j.last.length) {p : Pc} (h0 : 0 ≤ p.n) (h1 : p.n < (frmod j.sh : Int)) : Jmo (jcame j k p) := by
  obtain ⟨y, hy⟩ : ∃ y, j.last[k]? = some y := ⟨_, List.getElem?_eq_getElem hk⟩
  have hyb := (hok.la y (List.mem_of_getElem? hy)).1
  have eg : j.last.getD k (-1) = y := by rw [List.getD_eq_getElem?_getD, hy]; rfl
  have hp := frmod_pos j.sh
  have hnum : (jlast j k p).tmod (frmod j.sh : Int) = p.n := by
    unfold jlast
    rw [eg]
    have := (jplc_ge hp (y + 1) p.n).1
    rw [Int.tmod_eq_emod_of_nonneg (by omega)]
    exact jplc_num h0 h1
  refine ⟨fun z hz => ?_, h.dm⟩
  have hz' : z ∈ (if jat j.wait (jlast j k p) = none ∧ j.next ≤ jlast j k p then j.wait ++ [(jlast j k p, p)] else j.wait) := hz
  split at hz'
  · rcases List.mem_append.1 hz' with hz' | hz'
    · exact h.nm z hz'
    · rw [List.mem_singleton] at hz'
      subst hz'
      exact hnum
  · exact h.nm z hz'
/-- The place that is next, behind a pointer. -/
def pnxt (w : World) (b : Nat) : Int := match w.cell? ⟨b, 5, none⟩ with
  | some (.int _ x) => x
  | _ => 0
theorem Px.nxt {w : World} {b : Nat} {j : Jn} {q : Jq} (h : Px w b j q) : pnxt w b = j.next := by unfold pnxt; rw [h.c5]
/-- What Feed knows in its loop. -/
structure PfC (w5 : World) (b : Nat) (q5 : Jq) (J0 : Jn) (room M : Int) (j : Jn) (q : Jq) (ol : List Int) (v : Value) (W : World) : Prop where
  pw : Pw W b j q ol
  ps : Ps b q5 w5 q W
  out : Out b q5 w5 q W v j.told
  mn : q.mn = q5.mn
  fr : q.fr = q5.fr
  lo : ∀ i, q.fr i → i < w5.heap.size
  ov : jover room J0 = jover room j
  ok : Jok M j
  mo : Jmo j
  st : jstp j = none
  rm : j.room = room
section
variable {w5 W W7 W8 : World} {b : Nat} {q5 q q7 : Jq} {J0 j : Jn} {room M : Int} {ol : List Int} {v v8 : Value}
theorem PfC.below (h : PfC w5 b q5 J0 room M j q ol v W) (hb : Below W.heap.size W W7) : PfC w5 b q5 J0 room M j q ol v W7 := ⟨h.pw.below hb, h.ps.below hb, h.out.below hb, h.mn, h.fr, h.lo, h.ov, h.ok, h.mo, h.st, h.rm⟩
/-- More wait than there is room for: what comes of a round. -/
theorem PfC.next (h : PfC w5 b q5 J0 room M j q ol v W) (hr : 0 ≤ room) (hM : M ≤ 68719476736) (hw : room < (j.wait.length : Int)) {k : Jn} (hk : Pr (jfirst j.wait) { j with told := [] } k) :
    Jok M { k with told := j.told ++ k.told } ∧ Jok M k ∧ Jmo { k with told := j.told ++ k.told } ∧ jstp { k with told := j.told ++ k.told } = none ∧ jover room J0 = jover room { k with told := j.told ++ k.told } ∧ j.next < k.next ∧ k.room = room := by
  have h1 := hk.pre j.told
  have e0 : ({ ({ j with told := [] } : Jn) with told := j.told ++ ({ j with told := [] } : Jn).told } : Jn) = j := by simp
  rw [e0] at h1
  have hM' : M ≤ 1152921504606846976 := by omega
  have e1 := h1.first h.ok hM' h.st (by omega)
  have hu := jush_some (k := room) (j := j) hw
  have h2 := h.ok.ush2 h.st hr hM' hu
  rw [← e1] at h2 hu
  have hko := hk.ok h.ok.told hM' (by
    have := (h.ok.first2 h.st (by omega) hM').2
    exact this)
  refine ⟨h2.1, hko, ?_, h2.2.1, h.ov.trans (jover_ush h2.1 h2.2.1 hr hM' hu), h2.2.2, ?_⟩
  · exact (hk.mo (h.mo.told [])).told _
  · have e2 : ({ k with told := j.told ++ k.told } : Jn).room = j.room := by rw [e1]; exact (jrun_same _).room
    exact (show k.room = j.room from e2).trans h.rm
theorem PfC.round (h : PfC w5 b q5 J0 room M j q ol v W) (hr : 0 ≤ room) (hM : M ≤ 68719476736) (hw : room < (j.wait.length : Int)) {k : Jn} {ol7 : List Int} (hk : Pr (jfirst j.wait) { j with told := [] } k)
    (hP : Pw W7 b k q7 ol7) (hS : Ps b q W q7 W7) (mn : q7.mn = q.mn) (fr : q7.fr = q.fr) (ho : Orw shEv 59 (Fo b q5 w5 q7) w5.heap.size W8 v8 (j.told ++ k.told)) (hg : W7.grownBy W8 v.ownBlock) (hm : Mv W7.heap.size v v8) :
    PfC w5 b q5 J0 room M { k with told := j.told ++ k.told } q7 ol7 v8 W8 := by
  obtain ⟨a1, -, a2, a3, a4, -, a5⟩ := h.next hr hM hw hk
  have hs := h.ps.trans hS
  have lo : ∀ i, q7.fr i → i < w5.heap.size := by rw [fr]; exact h.lo
  obtain ⟨k1, k2, k3, -⟩ := (h.out.step hS).app hP hs lo ho hg hm
  exact ⟨k2.told _, k3, k1, mn.trans h.mn, fr.trans h.fr, lo, a4, a1, a2, a3, a5⟩
theorem PfC.done (h : PfC w5 b q5 J0 room M j q ol v W) {q0 : Jq} {w0 : World} (hw : ¬ room < (j.wait.length : Int)) (hS : Ps b q0 w0 q5 w5) (mn : q5.mn ≤ q0.mn + 1) : Pfe b q0 w0 (jover room J0) v W := by
  rw [h.ov, jover_stop hw]
  obtain ⟨A, c, hv, hc⟩ := h.out.shape
  subst hv
  exact ⟨{ q with fr := fun _ => True }, ol, A, _, c, rfl, rfl, hc, h.out.read.mono fun _ _ hi => Fo.up hS hi, h.pw.refit fun _ _ _ => trivial, (hS.trans h.ps).refit q0.fr (fun _ => True), by show q.mn ≤ _; rw [h.mn]; exact mn, fun _ => trivial⟩
end
end Go.Proofs.YtamdaepeogmboaaDoor
