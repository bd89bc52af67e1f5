
/-
  The program's pass of layer 24: going through places up to one. No condition beyond: places up to 2^36.
-/
import Derived.Test.YtamdaepeogmboaaDoorJqS
namespace Go.Proofs.YtamdaepeogmboaaDoor
open Go.RowKit Go.Maps

/-- A piece's number is its place's; data are a packet's alone. -/
structure Jmo (j : Jn) : Prop where
  nm : ∀ y ∈ j.wait, y.1.tmod (frmod j.sh : Int) = y.2.n
  dm : j.mode ≠ 1 → j.data = []
theorem jgrow_dm (j : Jn) (e : Bool) (d : List Nat) : (jgrow j e d).mode ≠ 1 → (jgrow j e d).data = [] := by
  unfold jgrow
  split
  · exact fun _ => rfl
  · split
    · exact fun _ => rfl
    · exact fun h => absurd rfl h
theorem jbad_md (j : Jn) (p : Pc) : (jbad j p).mode = j.mode ∧ (jbad j p).data = j.data ∧ (jbad j p).most = j.most := by
  unfold jbad
  split
  · exact ⟨rfl, rfl, rfl⟩
  · exact ⟨rfl, rfl, rfl⟩
theorem jthr_dm {j : Jn} (h : j.mode ≠ 1 → j.data = []) (p : Pc) : (jthr j p).mode ≠ 1 → (jthr j p).data = [] := by
  unfold jthr
  split
  · next hc => exact fun _ => ((jbad_md j p).2.1).trans (h hc.2)
  · exact jgrow_dm _ _ _
theorem Jmo.thr {j : Jn} (h : Jmo j) (x n : Int) (p : Pc) : Jmo { jthr { j with wait := jwo j.wait x } p with next := n } := by
  have hd := jthr_dm (j := { j with wait := jwo j.wait x }) h.dm p
  obtain ⟨t, m, d, e, -⟩ := jthr_form { j with wait := jwo j.wait x } p
  rw [e] at hd ⊢
  exact ⟨fun y hy => h.nm y (List.mem_filter.1 hy).1, hd⟩
theorem Jmo.lack {j : Jn} (h : Jmo j) (e : Int) : Jmo (jlack j e) := ⟨h.nm, fun _ => rfl⟩
theorem Pr.mo {e : Int} {j k : Jn} (h : Pr e j k) (hj : Jmo j) : Jmo k := by
  induction h with
  | done => exact hj
  | thr h1 h2 ih => exact ih (hj.thr _ _ _)
  | lack h1 h2 h3 ih => exact ih (hj.lack _)
theorem jthr_cut {j : Jn} (h0 : 0 ≤ j.most) (p : Pc) : jthr j ⟨p.b, p.e, p.n, jcut j.most p.d⟩ = jthr j p := by
  have hb : jbad j ⟨p.b, p.e, p.n, jcut j.most p.d⟩ = jbad j p := rfl
  unfold jthr
  rw [hb]
  by_cases hc : p.b = false ∧ j.mode ≠ 1
  · rw [if_pos hc, if_pos hc]
  · rw [if_neg hc, if_neg hc]
    have := jgrow_cut (j := jbad j p) (by rw [(jbad_md j p).2.2]; exact h0) p.e (if p.b = true then [] else j.data) p.d
    rw [(jbad_md j p).2.2] at this
    exact this
/-- What is told by one piece comes behind what was told. -/
theorem jn_take {j : Jn} (h0 : 0 ≤ j.most) (x n : Int) (p : Pc) : ({ jthr { j with wait := jwo j.wait x } p with next := n } : Jn) = { ({ jthr { j with wait := jwo j.wait x, told := [] } ⟨p.b, p.e, p.n, jcut j.most p.d⟩ with next := n } : Jn) with told := j.told ++ (jthr { j with wait := jwo j.wait x, told := [] } ⟨p.b, p.e, p.n, jcut j.most p.d⟩).told } := by
  rw [jthr_cut (j := { j with wait := jwo j.wait x, told := [] }) h0 p]
  have := jthr_pre { j with wait := jwo j.wait x, told := [] } j.told p
  have e : ({ ({ j with wait := jwo j.wait x, told := [] } : Jn) with told := j.told ++ ({ j with wait := jwo j.wait x, told := [] } : Jn).told } : Jn) = { j with wait := jwo j.wait x } := by simp
  rw [e] at this
  rw [this]
/-- How much is left. -/
def pmeas (w : World) (b : Nat) (e : Int) : Nat := match w.cell? ⟨b, 7, none⟩, w.cell? ⟨b, 5, none⟩ with
  | some (.slice _ n _), some (.int _ x) => n + (e - x).toNat
  | _, _ => 0
theorem Px.meas {w : World} {b : Nat} {j : Jn} {q : Jq} (h : Px w b j q) (e : Int) : pmeas w b e = q.on + (e - j.next).toNat := by unfold pmeas; rw [h.c7, h.c5]

/-- What pass knows in its loop. -/
structure PsC (w : World) (b : Nat) (e : Int) (q0 : Jq) (j0 : Jn) (M : Int) (j : Jn) (q : Jq) (ol : List Int) (v : Value) (W : World) : Prop where
  pw : Pw W b j q ol
  ps : Ps b q0 w q W
  out : Out b q0 w q W v j.told
  mn : q.mn = q0.mn
  fr : q.fr = q0.fr
  lo : ∀ i, q.fr i → i < w.heap.size
  go : ∀ k, Pr e j k → Pr e j0 k
  ok : Jok M j
  mo : Jmo j
section
variable {w W W' : World} {b : Nat} {e M : Int} {q0 q q' : Jq} {j0 j j' : Jn} {ol ol' : List Int} {v v' : Value}
theorem PsC.below (h : PsC w b e q0 j0 M j q ol v W) (hb : Below W.heap.size W W') : PsC w b e q0 j0 M j q ol v W' := ⟨h.pw.below hb, h.ps.below hb, h.out.below hb, h.mn, h.fr, h.lo, h.go, h.ok, h.mo⟩
theorem PsC.on (h : PsC w b e q0 j0 M j q ol v W) : ol.length = q.on := h.pw.od.1
theorem PsC.td (h : PsC w b e q0 j0 M j q ol v W) (hM : M ≤ 68719476736) : j.told.length ≤ 137438953472 := by
  have := h.ok.td
  have := h.ok.n1
  omega
theorem PsC.dn (h : PsC w b e q0 j0 M j q ol v W) : q.dn ≤ 1073741824 := by
  have := h.ok.da
  have := h.ok.m1
  have := h.pw.dl
  omega
end
end Go.Proofs.YtamdaepeogmboaaDoor
