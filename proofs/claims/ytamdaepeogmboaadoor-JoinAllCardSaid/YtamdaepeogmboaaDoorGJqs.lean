/-
  The program's lose of layer 24: places lack. No condition beyond: places below 2^60. The program's pass of layer 24: going through places up to one. No condition beyond: places up to 2^36. The program's pass of layer 24, walked. No condition beyond: places up to 2^36.
-/
import Derived.Test.YtamdaepeogmboaaDoorJqU
namespace Go.Proofs.YtamdaepeogmboaaDoor
section
set_option maxRecDepth 4000
open Go.RowKit Go.Maps

theorem lose_start (w : World) : EvX (w.alloc (.cells #[.int .i64 0, .slice none 0 0, .int .i64 0, .int .i64 0] 59 (0, 0))) w.heap.size 0 none 0 0 0 0 := EvX.new w 0 none 0 0 0 0
set_option maxHeartbeats 4000000 in
theorem plose_any (b : Nat) (j : Jn) (q : Jq) (ol : List Int) (e m : Int) (w : World) (h : Pw w b j q ol) (hm : m = min e (jfirst j.wait)) (n0 : 0 ≤ j.next) (n1 : j.next < m) (e1 : e ≤ 1152921504606846976) (pl : ∀ x ∈ j.wait, x.1 ≤ 1152921504606846976) :
    Calls Tryd.prog 42 #[.pointer (some ⟨b, 0, none⟩), .int .i64 e] w fun r w' => ∃ q', r = .returned (evV 1 none 0 0 (j.next.tmod (frmod j.sh : Int)) (m - j.next)) ∧ Pw w' b (jlack j m) q' ol ∧ Ps b q w q' w' ∧ q'.mn = q.mn ∧ q'.fr = q.fr := by
  obtain ⟨M, hM⟩ : ∃ M, Hid (frmod j.sh = M) := ⟨_, Lib.hid rfl⟩
  have m0 : ¬ M = 0 := by rw [← hM.out]; exact Nat.pos_iff_ne_zero.1 (frmod_pos _)
  obtain ⟨rm, hrm⟩ : ∃ rm, Hid (j.next.tmod (M : Int) = rm) := ⟨_, Lib.hid rfl⟩
  have d2 := hrm.out
  have C := Lib.hid (show Pw (w.alloc (.cells #[.int .i64 0, .slice none 0 0, .int .i64 0, .int .i64 0] 59 (0, 0))) b j q ol ∧ Ps b q w q (w.alloc (.cells #[.int .i64 0, .slice none 0 0, .int .i64 0, .int .i64 0] 59 (0, 0))) ∧ EvX (w.alloc (.cells #[.int .i64 0, .slice none 0 0, .int .i64 0, .int .i64 0] 59 (0, 0))) w.heap.size 0 none 0 0 0 0 ∧ ¬ q.own b w.heap.size from
    ⟨h.below ((Below.refl _ _).alloc (Nat.le_refl _) _), .of_below ((Below.refl _ _).alloc (Nat.le_refl _) _), lose_start w, h.new (Nat.le_refl _)⟩)
  have WAYS : (q.on = 0 ∧ m = e) ∨ ∃ x, ol[0]? = some x ∧ 0 < q.on ∧ min e x = m := by
    have hl := h.od.1
    cases hol : ol with
    | nil =>
      rw [hol] at hl
      refine .inl ⟨hl.symm, ?_⟩
      have : j.wait = [] := Srt.none (by rw [← hol]; exact h.sr)
      rw [hm, this]
      show min e 4611686018427387904 = e
      omega
    | cons x r =>
      rw [hol] at hl
      have hs := h.sr
      rw [hol] at hs
      obtain ⟨p, hp⟩ := hs.mem.1 (List.mem_cons_self)
      have hxb : x ≤ 1152921504606846976 := pl _ hp
      have hf := hs.first (by omega)
      rw [hf] at hm
      exact .inr ⟨x, rfl, by simp at hl; omega, hm.symm⟩
  have m1 : m ≤ 1152921504606846976 := by rw [hm]; omega
  have wr : IntKind.i64.wrap (m - j.next) = m - j.next := IntWalk.i64_in _ (by omega)
  clear h hm
  go_enter Tryd.func42, Tryd.ntmps42
  go_upto_region 1 with fail
  refine at_worldJ (fun W => Hid (Pw W b j q ol ∧ Ps b q w q W ∧ EvX W w.heap.size 0 none 0 0 0 0 ∧ ¬ q.own b w.heap.size)) C ?_
  clear C
  intro W C
  have c7 := C.out.1.px.c7
  rcases WAYS with ⟨hq, rfl⟩ | ⟨x, hx, hq, hmx⟩
  · rw [hq] at c7
    go_upto_region 3 with fail
    have c1 := C.out.1.px.c1; have c5 := C.out.1.px.c5; have b1 := C.out.1.px.lt
    rw [hM.out] at c1
    go_region
    all_goals
      clear c1 c5 c7 b1
      go_upto_region 4 with fail
      have D := Lib.hid (show Pw (W.alloc (.cells #[.int .i64 1, .slice none 0 0, .int .i64 rm, .int .i64 (m - j.next)] 59 (0, 0))).drew b j q ol ∧ Ps b q w q (W.alloc (.cells #[.int .i64 1, .slice none 0 0, .int .i64 rm, .int .i64 (m - j.next)] 59 (0, 0))).drew ∧ EvX (W.alloc (.cells #[.int .i64 1, .slice none 0 0, .int .i64 rm, .int .i64 (m - j.next)] 59 (0, 0))).drew w.heap.size 0 none 0 0 0 0 ∧ ¬ q.own b w.heap.size ∧ EvX (W.alloc (.cells #[.int .i64 1, .slice none 0 0, .int .i64 rm, .int .i64 (m - j.next)] 59 (0, 0))).drew W.heap.size 1 none 0 0 rm (m - j.next) ∧ ¬ q.own b W.heap.size from
        have B : Below W.heap.size W (W.alloc (.cells #[.int .i64 1, .slice none 0 0, .int .i64 rm, .int .i64 (m - j.next)] 59 (0, 0))).drew := ((Below.refl _ _).alloc (Nat.le_refl _) _).drew
        ⟨C.out.1.below B, C.out.2.1.below B, (B.block _ C.out.2.2.1.lt).trans C.out.2.2.1, C.out.2.2.2, EvX.new W 1 none 0 0 rm (m - j.next), C.out.1.new (Nat.le_refl _)⟩)
      clear C
      generalize W.heap.size = z at D
      refine at_worldJ (fun X => Hid (Pw X b j q ol ∧ Ps b q w q X ∧ EvX X w.heap.size 0 none 0 0 0 0 ∧ ¬ q.own b w.heap.size ∧ EvX X z 1 none 0 0 rm (m - j.next) ∧ ¬ q.own b z)) D ?_
      clear D
      intro X D
      have c5 := D.out.1.px.c5; have f5 := D.out.1.px.fz 5
      have P5 := Lib.hid (And.intro (D.out.1.s5 m) (D.out.2.1.trans (⟨(Offs.set (X := q.own b) X b 5 (.int .i64 m) (.inl rfl)), fun _ h => .inl h⟩ : Ps b q X q (X.setCell ⟨b, 5, none⟩ (.int .i64 m)))))
      have Q5 := Lib.hid (Offs.set (X := q.own b) X b 5 (.int .i64 m) (.inl rfl))
      go_wp2_with (go_at_call 46; (with_reducible refine (pturn_any b _ q ol 2 _ P5.out.1).mono ?_); rintro r w3 ⟨rfl, k1, k2, -⟩; have E := Lib.hid (show Pw w3 b (jlack j m) { q with da := none, dn := 0, dc := 0 } ol ∧ Ps b q w { q with da := none, dn := 0, dc := 0 } w3 ∧ EvX w3 w.heap.size 0 none 0 0 0 0 ∧ ¬ Jq.own b { q with da := none, dn := 0, dc := 0 } w.heap.size ∧ EvX w3 z 1 none 0 0 rm (m - j.next) from ⟨k1.told _, P5.out.2.trans k2, (D.out.2.2.1.off Q5.out D.out.2.2.2.1).off k2.off D.out.2.2.2.1, fun e => (k2.own _ e).elim D.out.2.2.2.1 fun e => absurd D.out.2.2.1.lt (Nat.not_lt.2 (Nat.le_trans Q5.out.size e)), (D.out.2.2.2.2.1.off Q5.out D.out.2.2.2.2.2).off k2.off D.out.2.2.2.2.2⟩); clear k1 k2 P5 Q5 D c5 f5; have v0 := E.out.2.2.1.c0; have v1 := E.out.2.2.1.c1; have v2 := E.out.2.2.1.c2; have v3 := E.out.2.2.1.c3; have f0 := E.out.2.2.1.fz 0; have f1 := E.out.2.2.1.fz 1; have f2 := E.out.2.2.1.fz 2; have f3 := E.out.2.2.1.fz 3; have u0 := E.out.2.2.2.2.c0; have u1 := E.out.2.2.2.2.c1; have u2 := E.out.2.2.2.2.c2; have u3 := E.out.2.2.2.2.c3; dsimp only)
      obtain ⟨r1, r2, r3, r4⟩ := ad_end E.out.1 E.out.2.1 (Nat.le_refl _) E.out.2.2.2.1 E.out.2.2.1 1 none 0 0 rm (m - j.next)
      have ed : j.next.tmod (frmod j.sh : Int) = rm := by rw [hM.out]; exact hrm.out
      refine bodyPost_ret (v := evV 1 none 0 0 rm (m - j.next)) ?_ rfl ⟨_, by rw [ed], r1, r2, rfl, rfl⟩
      exact results_cell_row rfl _ _ w.heap.size 59 _ _ _ rfl r4 Tryd.underlying59 rfl (by kernel_rfl)
  · obtain ⟨g, off, cur, eo, k1, k2, k3, k4⟩ := C.out.1.od.cells hq
    have cx : W.cell? ⟨g, off, none⟩ = some (.int .i64 x) := by simpa using k4 0 _ hx
    rw [eo] at c7
    have hq2 : 1 ≤ q.on := hq
    clear k1 k2 k3 k4
    go_upto_region 3 with fail
    clear cx hmx
    have c1 := C.out.1.px.c1; have c5 := C.out.1.px.c5; have b1 := C.out.1.px.lt
    rw [hM.out] at c1
    go_region
    all_goals
      clear c1 c5 c7 b1
      go_upto_region 4 with fail
      have D := Lib.hid (show Pw (W.alloc (.cells #[.int .i64 1, .slice none 0 0, .int .i64 rm, .int .i64 (m - j.next)] 59 (0, 0))).drew b j q ol ∧ Ps b q w q (W.alloc (.cells #[.int .i64 1, .slice none 0 0, .int .i64 rm, .int .i64 (m - j.next)] 59 (0, 0))).drew ∧ EvX (W.alloc (.cells #[.int .i64 1, .slice none 0 0, .int .i64 rm, .int .i64 (m - j.next)] 59 (0, 0))).drew w.heap.size 0 none 0 0 0 0 ∧ ¬ q.own b w.heap.size ∧ EvX (W.alloc (.cells #[.int .i64 1, .slice none 0 0, .int .i64 rm, .int .i64 (m - j.next)] 59 (0, 0))).drew W.heap.size 1 none 0 0 rm (m - j.next) ∧ ¬ q.own b W.heap.size from
        have B : Below W.heap.size W (W.alloc (.cells #[.int .i64 1, .slice none 0 0, .int .i64 rm, .int .i64 (m - j.next)] 59 (0, 0))).drew := ((Below.refl _ _).alloc (Nat.le_refl _) _).drew
        ⟨C.out.1.below B, C.out.2.1.below B, (B.block _ C.out.2.2.1.lt).trans C.out.2.2.1, C.out.2.2.2, EvX.new W 1 none 0 0 rm (m - j.next), C.out.1.new (Nat.le_refl _)⟩)
      clear C
      generalize W.heap.size = z at D
      refine at_worldJ (fun X => Hid (Pw X b j q ol ∧ Ps b q w q X ∧ EvX X w.heap.size 0 none 0 0 0 0 ∧ ¬ q.own b w.heap.size ∧ EvX X z 1 none 0 0 rm (m - j.next) ∧ ¬ q.own b z)) D ?_
      clear D
      intro X D
      have c5 := D.out.1.px.c5; have f5 := D.out.1.px.fz 5
      have P5 := Lib.hid (And.intro (D.out.1.s5 m) (D.out.2.1.trans (⟨(Offs.set (X := q.own b) X b 5 (.int .i64 m) (.inl rfl)), fun _ h => .inl h⟩ : Ps b q X q (X.setCell ⟨b, 5, none⟩ (.int .i64 m)))))
      have Q5 := Lib.hid (Offs.set (X := q.own b) X b 5 (.int .i64 m) (.inl rfl))
      go_wp2_with (go_at_call 46; (with_reducible refine (pturn_any b _ q ol 2 _ P5.out.1).mono ?_); rintro r w3 ⟨rfl, k1, k2, -⟩; have E := Lib.hid (show Pw w3 b (jlack j m) { q with da := none, dn := 0, dc := 0 } ol ∧ Ps b q w { q with da := none, dn := 0, dc := 0 } w3 ∧ EvX w3 w.heap.size 0 none 0 0 0 0 ∧ ¬ Jq.own b { q with da := none, dn := 0, dc := 0 } w.heap.size ∧ EvX w3 z 1 none 0 0 rm (m - j.next) from ⟨k1.told _, P5.out.2.trans k2, (D.out.2.2.1.off Q5.out D.out.2.2.2.1).off k2.off D.out.2.2.2.1, fun e => (k2.own _ e).elim D.out.2.2.2.1 fun e => absurd D.out.2.2.1.lt (Nat.not_lt.2 (Nat.le_trans Q5.out.size e)), (D.out.2.2.2.2.1.off Q5.out D.out.2.2.2.2.2).off k2.off D.out.2.2.2.2.2⟩); clear k1 k2 P5 Q5 D c5 f5; have v0 := E.out.2.2.1.c0; have v1 := E.out.2.2.1.c1; have v2 := E.out.2.2.1.c2; have v3 := E.out.2.2.1.c3; have f0 := E.out.2.2.1.fz 0; have f1 := E.out.2.2.1.fz 1; have f2 := E.out.2.2.1.fz 2; have f3 := E.out.2.2.1.fz 3; have u0 := E.out.2.2.2.2.c0; have u1 := E.out.2.2.2.2.c1; have u2 := E.out.2.2.2.2.c2; have u3 := E.out.2.2.2.2.c3; dsimp only)
      obtain ⟨r1, r2, r3, r4⟩ := ad_end E.out.1 E.out.2.1 (Nat.le_refl _) E.out.2.2.2.1 E.out.2.2.1 1 none 0 0 rm (m - j.next)
      have ed : j.next.tmod (frmod j.sh : Int) = rm := by rw [hM.out]; exact hrm.out
      refine bodyPost_ret (v := evV 1 none 0 0 rm (m - j.next)) ?_ rfl ⟨_, by rw [ed], r1, r2, rfl, rfl⟩
      exact results_cell_row rfl _ _ w.heap.size 59 _ _ _ rfl r4 Tryd.underlying59 rfl (by kernel_rfl)
end

section
set_option maxRecDepth 4000
open Go.RowKit Go.Maps

/-- A piece's number is its place's; data are a packet's alone. -/
structure Jmo (j : Jn) : Prop where
  nm : ∀ y ∈ j.wait, y.1.tmod (frmod j.sh : Int) = y.2.n
  dm : j.mode ≠ 1 → j.data = []
theorem jgrow_dm (j : Jn) (e : Bool) (d : List Nat) : (jgrow j e d).mode ≠ 1 → (jgrow j e d).data = [] := by
  unfold jgrow
  split
  · exact fun _ => rfl
  · split
    · exact fun _ => rfl
    · exact fun h => absurd rfl h
theorem jbad_md (j : Jn) (p : Pc) : (jbad j p).mode = j.mode ∧ (jbad j p).data = j.data ∧ (jbad j p).most = j.most := by
  unfold jbad
  split
  · exact ⟨rfl, rfl, rfl⟩
  · exact ⟨rfl, rfl, rfl⟩
theorem jthr_dm {j : Jn} (h : j.mode ≠ 1 → j.data = []) (p : Pc) : (jthr j p).mode ≠ 1 → (jthr j p).data = [] := by
  unfold jthr
  split
  · next hc => exact fun _ => ((jbad_md j p).2.1).trans (h hc.2)
  · exact jgrow_dm _ _ _
theorem Jmo.thr {j : Jn} (h : Jmo j) (x n : Int) (p : Pc) : Jmo { jthr { j with wait := jwo j.wait x } p with next := n } := by
  have hd := jthr_dm (j := { j with wait := jwo j.wait x }) h.dm p
  obtain ⟨t, m, d, e, -⟩ := jthr_form { j with wait := jwo j.wait x } p
  rw [e] at hd ⊢
  exact ⟨fun y hy => h.nm y (List.mem_filter.1 hy).1, hd⟩
theorem Jmo.lack {j : Jn} (h : Jmo j) (e : Int) : Jmo (jlack j e) := ⟨h.nm, fun _ => rfl⟩
theorem Pr.mo {e : Int} {j k : Jn} (h : Pr e j k) (hj : Jmo j) : Jmo k := by
  induction h with
  | done => exact hj
  | thr h1 h2 ih => exact ih (hj.thr _ _ _)
  | lack h1 h2 h3 ih => exact ih (hj.lack _)
theorem jthr_cut {j : Jn} (h0 : 0 ≤ j.most) (p : Pc) : jthr j ⟨p.b, p.e, p.n, jcut j.most p.d⟩ = jthr j p := by
  have hb : jbad j ⟨p.b, p.e, p.n, jcut j.most p.d⟩ = jbad j p := rfl
  unfold jthr
  rw [hb]
  by_cases hc : p.b = false ∧ j.mode ≠ 1
  · rw [if_pos hc, if_pos hc]
  · rw [if_neg hc, if_neg hc]
    have := jgrow_cut (j := jbad j p) (by rw [(jbad_md j p).2.2]; exact h0) p.e (if p.b = true then [] else j.data) p.d
    rw [(jbad_md j p).2.2] at this
    exact this
/-- What is told by one piece comes behind what was told. -/
theorem jn_take {j : Jn} (h0 : 0 ≤ j.most) (x n : Int) (p : Pc) : ({ jthr { j with wait := jwo j.wait x } p with next := n } : Jn) = { ({ jthr { j with wait := jwo j.wait x, told := [] } ⟨p.b, p.e, p.n, jcut j.most p.d⟩ with next := n } : Jn) with told := j.told ++ (jthr { j with wait := jwo j.wait x, told := [] } ⟨p.b, p.e, p.n, jcut j.most p.d⟩).told } := by
  rw [jthr_cut (j := { j with wait := jwo j.wait x, told := [] }) h0 p]
  have := jthr_pre { j with wait := jwo j.wait x, told := [] } j.told p
  have e : ({ ({ j with wait := jwo j.wait x, told := [] } : Jn) with told := j.told ++ ({ j with wait := jwo j.wait x, told := [] } : Jn).told } : Jn) = { j with wait := jwo j.wait x } := by simp
  rw [e] at this
  rw [this]
/-- How much is left. -/
def pmeas (w : World) (b : Nat) (e : Int) : Nat := match w.cell? ⟨b, 7, none⟩, w.cell? ⟨b, 5, none⟩ with
  | some (.slice _ n _), some (.int _ x) => n + (e - x).toNat
  | _, _ => 0
theorem Px.meas {w : World} {b : Nat} {j : Jn} {q : Jq} (h : Px w b j q) (e : Int) : pmeas w b e = q.on + (e - j.next).toNat := by unfold pmeas; rw [h.c7, h.c5]

/-- What pass knows in its loop. -/
structure PsC (w : World) (b : Nat) (e : Int) (q0 : Jq) (j0 : Jn) (M : Int) (j : Jn) (q : Jq) (ol : List Int) (v : Value) (W : World) : Prop where
  pw : Pw W b j q ol
  ps : Ps b q0 w q W
  out : Out b q0 w q W v j.told
  mn : q.mn = q0.mn
  fr : q.fr = q0.fr
  lo : ∀ i, q.fr i → i < w.heap.size
  go : ∀ k, Pr e j k → Pr e j0 k
  ok : Jok M j
  mo : Jmo j
section
variable {w W W' : World} {b : Nat} {e M : Int} {q0 q q' : Jq} {j0 j j' : Jn} {ol ol' : List Int} {v v' : Value}
theorem PsC.below (h : PsC w b e q0 j0 M j q ol v W) (hb : Below W.heap.size W W') : PsC w b e q0 j0 M j q ol v W' := ⟨h.pw.below hb, h.ps.below hb, h.out.below hb, h.mn, h.fr, h.lo, h.go, h.ok, h.mo⟩
theorem PsC.on (h : PsC w b e q0 j0 M j q ol v W) : ol.length = q.on := h.pw.od.1
theorem PsC.td (h : PsC w b e q0 j0 M j q ol v W) (hM : M ≤ 68719476736) : j.told.length ≤ 137438953472 := by
  have := h.ok.td
  have := h.ok.n1
  omega
theorem PsC.dn (h : PsC w b e q0 j0 M j q ol v W) : q.dn ≤ 1073741824 := by
  have := h.ok.da
  have := h.ok.m1
  have := h.pw.dl
  omega
end
end

section
set_option maxRecDepth 4000
open Go.RowKit Go.Maps

/-- What pass answers. -/
def Ppe (b : Nat) (q : Jq) (w : World) (e : Int) (j : Jn) (r : Ending) (w' : World) : Prop :=
  ∃ k q' ol' A n c, Pr e j k ∧ r = .returned (.slice A n c) ∧ k.told.length = n ∧ n ≤ c ∧ Out b q w q' w' (.slice A n c) k.told ∧ Pw w' b k q' ol' ∧ Ps b q w q' w' ∧ q'.mn = q.mn ∧ q'.fr = q.fr
theorem PsC.done {w W : World} {b : Nat} {e M : Int} {q0 q : Jq} {j0 j : Jn} {ol : List Int} {v : Value} (h : PsC w b e q0 j0 M j q ol v W) (h1 : jat j.wait j.next = none) (h2 : e ≤ j.next) : Ppe b q0 w e j0 (.returned v) W := by
  obtain ⟨A, c, hv, hc⟩ := h.out.shape
  subst hv
  exact ⟨j, q, ol, A, _, c, h.go _ (.done h1 h2), rfl, rfl, hc, h.out, h.pw, h.ps, h.mn, h.fr⟩
/-- A piece was gone through. -/
theorem PsC.thr {w W W4 W5 : World} {b : Nat} {e M : Int} {q0 q q3 : Jq} {j0 j : Jn} {ol ol3 : List Int} {v v5 : Value} {p : Pc} (h : PsC w b e q0 j0 M j q ol v W) (hp : jat j.wait j.next = some p)
    (hq : Ps b q W q3 W4) (mn : q3.mn = q.mn) (fr : q3.fr = q.fr)
    (hk : Pw W4 b { jthr { j with wait := jwo j.wait j.next, told := [] } ⟨p.b, p.e, p.n, jcut j.most p.d⟩ with next := j.next + 1 } q3 ol3)
    (ho : Orw shEv 59 (Fo b q0 w q3) w.heap.size W5 v5 (j.told ++ (jthr { j with wait := jwo j.wait j.next, told := [] } ⟨p.b, p.e, p.n, jcut j.most p.d⟩).told)) (hg : W4.grownBy W5 v.ownBlock) (hm : Mv W4.heap.size v v5) :
    PsC w b e q0 j0 M { jthr { j with wait := jwo j.wait j.next } p with next := j.next + 1 } q3 ol3 v5 W5 := by
  have h0 : 0 ≤ j.most := h.ok.m0
  have e1 := jn_take h0 j.next (j.next + 1) p
  have hs : Ps b q0 w q3 W4 := h.ps.trans hq
  have lo : ∀ i, q3.fr i → i < w.heap.size := by rw [fr]; exact h.lo
  obtain ⟨k1, k2, k3, -⟩ := (h.out.step hq).app hk hs lo ho hg hm
  rw [e1]
  refine ⟨k2.told _, k3, k1, mn.trans h.mn, fr.trans h.fr, lo, fun k hk => h.go k (.thr hp (by rw [e1]; exact hk)), ?_, ?_⟩
  · rw [← e1]; exact (h.ok.stp (jstp_thr hp)).1
  · rw [← e1]; exact h.mo.thr _ _ _
/-- Places lacked. -/
theorem PsC.lack {w W W4 W5 : World} {b : Nat} {e M m : Int} {q0 q q3 : Jq} {j0 j : Jn} {ol : List Int} {v v5 : Value} (h : PsC w b e q0 j0 M j q ol v W) (hp : jat j.wait j.next = none) (h2 : j.next < e) (hm0 : m = min e (jfirst j.wait)) (hn : j.next < m) (hM : m ≤ M) (hf : m ≤ jfirst j.wait)
    (hq : Ps b q W q3 W4) (mn : q3.mn = q.mn) (fr : q3.fr = q.fr) (hk : Pw W4 b (jlack j m) q3 ol)
    (ho : Orw shEv 59 (Fo b q0 w q3) w.heap.size W5 v5 (j.told ++ [⟨1, [], j.next.tmod (frmod j.sh : Int), m - j.next⟩])) (hg : W4.grownBy W5 v.ownBlock) (hm : Mv W4.heap.size v v5) :
    PsC w b e q0 j0 M (jlack j m) q3 ol v5 W5 := by
  have hs : Ps b q0 w q3 W4 := h.ps.trans hq
  have lo : ∀ i, q3.fr i → i < w.heap.size := by rw [fr]; exact h.lo
  obtain ⟨k1, k2, k3, -⟩ := (h.out.step hq).app hk hs lo ho hg hm
  exact ⟨k2, k3, k1, mn.trans h.mn, fr.trans h.fr, lo, fun k hk => h.go k (.lack hp h2 (by rw [← hm0]; exact hk)), h.ok.lack hn hM hf, h.mo.lack _⟩

theorem jtk_few (j : Jn) (p : Pc) (h : j.told = []) : (jthr j p).told.length ≤ 4 := by
  obtain ⟨t, m, d, e, h1, -⟩ := jthr_form j p
  rw [e]
  rw [h] at h1
  exact Nat.le_trans h1 (by decide)
set_option maxHeartbeats 8000000 in
theorem ppass0 (b : Nat) (j : Jn) (q : Jq) (ol : List Int) (e M : Int) (w : World) (h : Pw w b j q ol) (ht : j.told = []) (hok : Jok M j) (hmo : Jmo j) (hM : M ≤ 68719476736) (he : e ≤ M) (lo : ∀ i, q.fr i → i < w.heap.size) :
    Calls Tryd.prog 25 #[.pointer (some ⟨b, 0, none⟩), .int .i64 e] w (Ppe b q w e j) := by
  obtain ⟨i0, hi, hz0, hz1, hz2⟩ := info_parts jev_info
  have C := Lib.hid (show PsC w b e q j M j q ol (.slice none 0 0) w from ⟨h, .refl _ _ _, by rw [ht]; exact .nil _ _ _ _ _, rfl, rfl, lo, fun _ h => h, hok, hmo⟩)
  have HM := Lib.hid (And.intro hM he)
  clear h ht hok hmo lo hM he
  go_enter Tryd.func25, Tryd.ntmps25
  go_wp2_with fail
  go_loopw [5] (fun v wr => ∃ j1 q1 ol1, Hid (PsC w b e q j M j1 q1 ol1 v wr)) (fun _ wr => pmeas wr b e)
  case atStart => exact ⟨j, q, ol, C⟩
  case round =>
    clear C
    obtain ⟨j1, q1, ol1, C⟩ := hrel
    have ME := Lib.hid (C.out.pw.px.meas e)
    have HT := Lib.hid (C.out.td HM.out.1)
    have N0 := Lib.hid (show 0 ≤ j1.next ∧ j1.next < 4611686018427387904 by have := C.out.ok.n0; have := C.out.ok.n1; have := HM.out.1; omega)
    cases hp : jat j1.wait j1.next with
    | some p =>
      obtain ⟨r, hr⟩ := C.out.pw.sr.head hp C.out.ok.pg
      subst hr
      have HP := Lib.hid hp
      have NM := Lib.hid (C.out.mo.nm _ (jat_mem hp))
      have PD := Lib.hid (show (jcut j1.most p.d).length ≤ 1073741824 by have : p.d.length ≤ 1073741824 := (C.out.ok.pl _ (jat_mem hp)).2; unfold jcut; rw [List.length_take]; omega)
      clear hp
      obtain ⟨m, hm⟩ : ∃ m, Hid ((jcut j1.most p.d).length = m) := ⟨_, Lib.hid rfl⟩
      go_upto_region 4 with (go_at_call 40; (with_reducible refine (ppick_some b j1 q1 r p _ C.out.pw N0.out.1 N0.out.2 HP.out).mono ?_); rintro e1 w3 ⟨A3, c3, q3, rfl, k1, k2, k3, k4, k5, k6, k7⟩; rw [hm.out]; have D := Lib.hid (show _ ∧ _ ∧ _ ∧ _ ∧ _ ∧ _ from ⟨k2, k3, k4, k5, k6, k7⟩); clear k1 k2 k3 k4 k5 k6 k7; dsimp only)
      have B4 : Below w3.heap.size w3 (w3.alloc (.cells #[.bool p.b, .bool p.e, .int .i64 p.n, .slice A3 m c3] 50)) := (Below.refl _ _).alloc (Nat.le_refl _) _
      have E := Lib.hid (show FrX (w3.alloc (.cells #[.bool p.b, .bool p.e, .int .i64 p.n, .slice A3 m c3] 50)) w3.heap.size 50 p.b p.e p.n A3 m c3 ∧ RdF (fun i => ¬ q3.own b i ∧ q3.fr i) (w3.alloc (.cells #[.bool p.b, .bool p.e, .int .i64 p.n, .slice A3 m c3] 50)) A3 (jcut j1.most p.d) ∧ Pw (w3.alloc (.cells #[.bool p.b, .bool p.e, .int .i64 p.n, .slice A3 m c3] 50)) b { j1 with wait := jwo j1.wait j1.next, next := j1.next + 1, told := [] } q3 r ∧ Ps b q1 wr q3 (w3.alloc (.cells #[.bool p.b, .bool p.e, .int .i64 p.n, .slice A3 m c3] 50)) ∧ q3.dn ≤ 1073741824 ∧ q3.mn = q1.mn ∧ q3.fr = q1.fr from
        ⟨FrX.new _ _ _ _ _ _ _ _, D.out.1.keep (.of_below B4), (D.out.2.1.below B4).told [], D.out.2.2.1.below B4, by rw [D.out.2.2.2.1]; exact C.out.dn, D.out.2.2.2.2.1, D.out.2.2.2.2.2⟩)
      clear D B4
      generalize w3.heap.size = z at E ⊢
      refine at_worldJ (fun X => Hid (FrX X z 50 p.b p.e p.n A3 m c3 ∧ RdF (fun i => ¬ q3.own b i ∧ q3.fr i) X A3 (jcut j1.most p.d) ∧ Pw X b { j1 with wait := jwo j1.wait j1.next, next := j1.next + 1, told := [] } q3 r ∧ Ps b q1 wr q3 X ∧ q3.dn ≤ 1073741824 ∧ q3.mn = q1.mn ∧ q3.fr = q1.fr)) E ?_
      clear E
      intro X E
      have x0 := E.out.1.c0; have x1 := E.out.1.c1; have x2 := E.out.1.c2; have x3 := E.out.1.c3
      have LO := Lib.hid (show ∀ i, q3.fr i → i < X.heap.size from fun i hi => Nat.lt_of_lt_of_le (C.out.lo i (by rw [← E.out.2.2.2.2.2.2]; exact hi)) (Nat.le_trans C.out.ps.off.size E.out.2.2.2.1.off.size))
      have PM := Lib.hid (show m ≤ 1073741824 by rw [← hm.out]; exact PD.out)
      go_wp2_with (first
        | (go_at_call 41; (with_reducible refine (ptake_any b { j1 with wait := jwo j1.wait j1.next, next := j1.next + 1, told := [] } q3 r p.b p.e p.n j1.next (jcut j1.most p.d) A3 m c3 _ E.out.2.2.1 rfl NM.out E.out.2.1 hm.out E.out.2.2.2.2.1 PM.out C.out.ok.mo C.out.mo.dm LO.out).mono ?_); rintro e5 w5 ⟨q5, A5, n5, c5, rfl, k1, k2, k3, k4, k5, k6, k7⟩; have T5 := Lib.hid (show _ ∧ _ ∧ _ ∧ _ ∧ _ ∧ _ from ⟨k1, k3, k4, k5, k6, k7⟩); clear k1 k2 k3 k4 k5 k6 k7; have S5 := Lib.hid (E.out.2.2.2.1.trans T5.out.2.2.2.1); have F5 := Lib.hid (T5.out.2.2.2.2.2.trans E.out.2.2.2.2.2.2); have N5 := Lib.hid (T5.out.2.2.2.2.1.trans E.out.2.2.2.2.2.1); have O5 := Lib.hid (C.out.out.step S5.out); have G5 := Lib.hid (T5.out.2.1.mono (G := fun i => Fo b q w q5 i ∧ u5.ownBlock ≠ some i) fun i _ hf => ⟨⟨hf.1, hf.2.elim (fun e => (E.out.2.2.2.1.own i e).elim (C.out.ps.own i) fun e => .inr (Nat.le_trans C.out.ps.off.size e)) fun e => .inr (Nat.le_trans (Nat.le_trans C.out.ps.off.size E.out.2.2.2.1.off.size) e)⟩, fun e => hf.2.elim (E.out.2.2.2.1.out (C.out.out.row.lt e).2 (C.out.out.fr i e)) fun e2 => absurd (Nat.lt_of_lt_of_le (C.out.out.row.lt e).2 E.out.2.2.2.1.off.size) (Nat.not_lt.2 e2)⟩); have L5 := Lib.hid (show n5 ≤ 4 by rw [← T5.out.1]; exact jtk_few _ _ rfl); dsimp only)
        | (at_builtin; refine list_rows shEv rfl _ _ 44 rfl 59 i0 (.agg #[.int .i64 0, .slice none 0 0, .int .i64 0, .int .i64 0]) 48 Tryd.underlying44 hi hz0 hz1 hz2 rfl (by decide) (Fo b q w q5) (fun i => Fo b q w q5 i ∧ u5.ownBlock ≠ some i) w.heap.size u5 j1.told.length j1.told rfl O5.out.row rfl _ n5 c5 _ rfl G5.out T5.out.1 (fun _ _ h => h) (by unfold maxLen; have := HT.out; have := L5.out; omega) (by have := HT.out; have := L5.out; omega) (Nat.le_trans C.out.ps.off.size S5.out.off.size) ?_; intro v7 w7 ho7 hg7 hm7; have Z := Lib.hid (C.out.thr HP.out S5.out N5.out F5.out T5.out.2.2.1 ho7 hg7 hm7); clear ho7 hg7 hm7))
      clear x0 x1 x2 x3
      go_roundw
      case rel => exact ⟨_, q5, r, Z⟩
      case measure =>
        rw [ME.out, Z.out.pw.px.meas e]
        have a1 := Z.out.on
        have a2 := C.out.on
        have a3 : ({ jthr { j1 with wait := jwo j1.wait j1.next } p with next := j1.next + 1 } : Jn).next = j1.next + 1 := rfl
        rw [a3]
        simp at a2
        omega
    | none =>
      have HP := Lib.hid hp
      clear hp
      go_upto_region 4 with (go_at_call 40; (with_reducible refine (ppick_none b j1 q1 ol1 _ C.out.pw N0.out.1 (Int.le_of_lt N0.out.2) HP.out).mono ?_); rintro e1 w3 ⟨rfl, k1⟩; have D := Lib.hid (C.out.below (k1.trans (((Below.refl _ _).alloc (Nat.le_refl _) (.cells #[.bool false, .bool false, .int .i64 0, .slice none 0 0] 50)).mono k1.size))); clear k1; dsimp only)
      refine at_worldJ (fun X => Hid (PsC w b e q j M j1 q1 ol1 u5 X)) D ?_
      clear C D
      intro X C
      have c5 := C.out.pw.px.c5
      by_cases hlt : j1.next < e
      · obtain ⟨m, hm⟩ : ∃ m, m = min e (jfirst j1.wait) := ⟨_, rfl⟩
        have hf := jfirst_gt C.out.ok (by have := HM.out.1; omega) HP.out
        have MM := Lib.hid (show j1.next < m ∧ m ≤ M ∧ m ≤ jfirst j1.wait by have := HM.out.2; omega)
        have HMM := Lib.hid hm
        have LT := Lib.hid hlt
        have EB := Lib.hid (show e ≤ 1152921504606846976 by have := HM.out; omega)
        have PL := Lib.hid (show ∀ x ∈ j1.wait, x.1 ≤ 1152921504606846976 from fun x hx => by have := (C.out.ok.pl x hx).1; have := HM.out.1; omega)
        clear hm hf
        go_upto_region 8 with (first
          | (go_at_call 42; (with_reducible refine (plose_any b j1 q1 ol1 e m _ C.out.pw HMM.out N0.out.1 MM.out.1 EB.out PL.out).mono ?_); rintro e5 w5 ⟨q5, rfl, k3, k4, k5, k6⟩; have T5 := Lib.hid (show _ ∧ _ ∧ _ ∧ _ from ⟨k3, k4, k5, k6⟩); clear k3 k4 k5 k6; dsimp only)
          | (at_builtin; refine list_rows shEv rfl _ _ 44 rfl 59 i0 (.agg #[.int .i64 0, .slice none 0 0, .int .i64 0, .int .i64 0]) 48 Tryd.underlying44 hi hz0 hz1 hz2 rfl (by decide) (Fo b q w q5) (fun i => Fo b q w q5 i ∧ u5.ownBlock ≠ some i) w.heap.size u5 j1.told.length j1.told rfl (C.out.out.step (T5.out.2.1.below ((Below.refl _ _).alloc (Nat.le_refl _) _))).row rfl _ 1 1 [⟨1, [], j1.next.tmod (frmod j1.sh : Int), m - j1.next⟩] rfl ((C.out.out.step T5.out.2.1).lit T5.out.1 (C.out.ps.trans T5.out.2.1) ⟨1, [], j1.next.tmod (frmod j1.sh : Int), m - j1.next⟩ (A := none) (n := 0) (c := 0) rfl (Nat.le_refl _) RdF.nil) rfl (fun _ _ h => h) (by unfold maxLen; have := HT.out; omega) (by have := HT.out; omega) (Nat.le_trans (C.out.ps.trans T5.out.2.1).off.size (by simp)) ?_; intro v7 w7 ho7 hg7 hm7; have Z := Lib.hid (C.out.lack HP.out LT.out HMM.out MM.out.1 MM.out.2.1 MM.out.2.2 (T5.out.2.1.below ((Below.refl _ _).alloc (Nat.le_refl _) _)) T5.out.2.2.1 T5.out.2.2.2 (T5.out.1.below ((Below.refl _ _).alloc (Nat.le_refl _) _)) ho7 hg7 hm7); clear ho7 hg7 hm7))
        go_roundw
        case rel => exact ⟨_, q5, ol1, Z⟩
        case measure =>
          rw [ME.out, Z.out.pw.px.meas e]
          have a1 := Z.out.on
          have a2 := C.out.on
          have a3 : (jlack j1 m).next = m := rfl
          rw [a3]
          have := MM.out.1
          omega
      · have D := Lib.hid (C.out.done HP.out (by omega))
        clear C
        go_wp2_with fail
        go_ret
        exact D.out
/-- .. wherever the pieces' data lie. -/
theorem ppass_any (b : Nat) (j : Jn) (q : Jq) (ol : List Int) (e M : Int) (w : World) (h : Pw w b j q ol) (ht : j.told = []) (hok : Jok M j) (hmo : Jmo j) (hM : M ≤ 68719476736) (he : e ≤ M) :
    Calls Tryd.prog 25 #[.pointer (some ⟨b, 0, none⟩), .int .i64 e] w (Ppe b q w e j) := by
  refine (ppass0 b j { q with fr := fun i => q.fr i ∧ i < w.heap.size } ol e M w (h.refit fun i hi hf => ⟨hf, hi⟩) ht hok hmo hM he fun i hi => hi.2).mono ?_
  rintro r w' ⟨k, q', ol', A, n, c, k1, k2, k3, k4, k5, k6, k7, k8, k9⟩
  exact ⟨k, { q' with fr := q.fr }, ol', A, n, c, k1, k2, k3, k4, ⟨k5.row, k5.fr⟩, k6.refit fun i _ hi => by rw [k9] at hi; exact hi.1, k7.refit q.fr q.fr, k8, rfl⟩
end
end Go.Proofs.YtamdaepeogmboaaDoor
