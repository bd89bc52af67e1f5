
/-
  The program's lose of layer 24: places lack. No condition beyond: places below 2^60.
-/
import Derived.Test.YtamdaepeogmboaaDoorJqU
namespace Go.Proofs.YtamdaepeogmboaaDoor
open Go.RowKit Go.Maps

theorem lose_start (w : World) : EvX (w.alloc (.cells #[.int .i64 0, .slice none 0 0, .int .i64 0, .int .i64 0] 59 (0, 0))) w.heap.size 0 none 0 0 0 0 := EvX.new w 0 none 0 0 0 0
set_option maxHeartbeats 4000000 in
theorem plose_any (b : Nat) (j : Jn) (q : Jq) (ol : List Int) (e m : Int) (w : World) (h : Pw w b j q ol) (hm : m = min e (jfirst j.wait)) (n0 : 0 ≤ j.next) (n1 : j.next < m) (e1 : e ≤ 1152921504606846976) (pl : ∀ x ∈ j.wait, x.1 ≤ 1152921504606846976) :
    Calls Tryd.prog 42 #[.pointer (some ⟨b, 0, none⟩), .int .i64 e] w fun r w' => ∃ q', r = .returned (evV 1 none 0 0 (j.next.tmod (frmod j.sh : Int)) (m - j.next)) ∧ Pw w' b (jlack j m) q' ol ∧ Ps b q w q' w' ∧ q'.mn = q.mn ∧ q'.fr = q.fr := by
  obtain ⟨M, hM⟩ : ∃ M, Hid (frmod j.sh = M) := ⟨_, Lib.hid rfl⟩
  have m0 : ¬ M = 0 := by rw [← hM.out]; exact Nat.pos_iff_ne_zero.1 (frmod_pos _)
  obtain ⟨rm, hrm⟩ : ∃ rm, Hid (j.next.tmod (M : Int) = rm) := ⟨_, Lib.hid rfl⟩
  have d2 := hrm.out
  have C := Lib.hid (show Pw (w.alloc (.cells #[.int .i64 0, .slice none 0 0, .int .i64 0, .int .i64 0] 59 (0, 0))) b j q ol ∧ Ps b q w q (w.alloc (.cells #[.int .i64 0, .slice none 0 0, .int .i64 0, .int .i64 0] 59 (0, 0))) ∧ EvX (w.alloc (.cells #[.int .i64 0, .slice none 0 0, .int .i64 0, .int .i64 0] 59 (0, 0))) w.heap.size 0 none 0 0 0 0 ∧ ¬ q.own b w.heap.size from
    ⟨h.below ((Below.refl _ _).alloc (Nat.le_refl _) _), .of_below ((Below.refl _ _).alloc (Nat.le_refl _) _), lose_start w, h.new (Nat.le_refl _)⟩)
  have WAYS : (q.on = 0 ∧ m = e) ∨ ∃ x, ol[0]? = some x ∧ 0 < q.on ∧ min e x = m := by
    have hl := h.od.1
    cases hol : ol with
    | nil =>
      rw [hol] at hl
      refine .inl ⟨hl.symm, ?_⟩
      have : j.wait = [] := Srt.none (by rw [← hol]; exact h.sr)
      rw [hm, this]
      show min e 4611686018427387904 = e
      omega
    | cons x r =>
      rw [hol] at hl
      have hs := h.sr
      rw [hol] at hs
      obtain ⟨p, hp⟩ := hs.mem.1 (List.mem_cons_self)
      have hxb : x ≤ 1152921504606846976 := pl _ hp
      have hf := hs.first (by omega)
      rw [hf] at hm
      exact .inr ⟨x, rfl, by simp at hl; omega, hm.symm⟩
  have m1 : m ≤ 1152921504606846976 := by rw [hm]; omega
  have wr : IntKind.i64.wrap (m - j.next) = m - j.next := IntWalk.i64_in _ (by omega)
  clear h hm
  go_enter Tryd.func42, Tryd.ntmps42
  go_upto_region 1 with fail
  refine at_worldJ (fun W => Hid (Pw W b j q ol ∧ Ps b q w q W ∧ EvX W w.heap.size 0 none 0 0 0 0 ∧ ¬ q.own b w.heap.size)) C ?_
  clear C
  intro W C
  have c7 := C.out.1.px.c7
  rcases WAYS with ⟨hq, rfl⟩ | ⟨x, hx, hq, hmx⟩
  · rw [hq] at c7
    go_upto_region 3 with fail
    have c1 := C.out.1.px.c1; have c5 := C.out.1.px.c5; have b1 := C.out.1.px.lt
    rw [hM.out] at c1
    go_region
    all_goals
      clear c1 c5 c7 b1
      go_upto_region 4 with fail
      have D := Lib.hid (show Pw (W.alloc (.cells #[.int .i64 1, .slice none 0 0, .int .i64 rm, .int .i64 (m - j.next)] 59 (0, 0))).drew b j q ol ∧ Ps b q w q (W.alloc (.cells #[.int .i64 1, .slice none 0 0, .int .i64 rm, .int .i64 (m - j.next)] 59 (0, 0))).drew ∧ EvX (W.alloc (.cells #[.int .i64 1, .slice none 0 0, .int .i64 rm, .int .i64 (m - j.next)] 59 (0, 0))).drew w.heap.size 0 none 0 0 0 0 ∧ ¬ q.own b w.heap.size ∧ EvX (W.alloc (.cells #[.int .i64 1, .slice none 0 0, .int .i64 rm, .int .i64 (m - j.next)] 59 (0, 0))).drew W.heap.size 1 none 0 0 rm (m - j.next) ∧ ¬ q.own b W.heap.size from
        have B : Below W.heap.size W (W.alloc (.cells #[.int .i64 1, .slice none 0 0, .int .i64 rm, .int .i64 (m - j.next)] 59 (0, 0))).drew := ((Below.refl _ _).alloc (Nat.le_refl _) _).drew
        ⟨C.out.1.below B, C.out.2.1.below B, (B.block _ C.out.2.2.1.lt).trans C.out.2.2.1, C.out.2.2.2, EvX.new W 1 none 0 0 rm (m - j.next), C.out.1.new (Nat.le_refl _)⟩)
      clear C
      generalize W.heap.size = z at D
      refine at_worldJ (fun X => Hid (Pw X b j q ol ∧ Ps b q w q X ∧ EvX X w.heap.size 0 none 0 0 0 0 ∧ ¬ q.own b w.heap.size ∧ EvX X z 1 none 0 0 rm (m - j.next) ∧ ¬ q.own b z)) D ?_
      clear D
      intro X D
      have c5 := D.out.1.px.c5; have f5 := D.out.1.px.fz 5
      have P5 := Lib.hid (And.intro (D.out.1.s5 m) (D.out.2.1.trans (⟨(Offs.set (X := q.own b) X b 5 (.int .i64 m) (.inl rfl)), fun _ h => .inl h⟩ : Ps b q X q (X.setCell ⟨b, 5, none⟩ (.int .i64 m)))))
      have Q5 := Lib.hid (Offs.set (X := q.own b) X b 5 (.int .i64 m) (.inl rfl))
      go_wp2_with (go_at_call 46; (with_reducible refine (pturn_any b _ q ol 2 _ P5.out.1).mono ?_); rintro r w3 ⟨rfl, k1, k2, -⟩; have E := Lib.hid (show Pw w3 b (jlack j m) { q with da := none, dn := 0, dc := 0 } ol ∧ Ps b q w { q with da := none, dn := 0, dc := 0 } w3 ∧ EvX w3 w.heap.size 0 none 0 0 0 0 ∧ ¬ Jq.own b { q with da := none, dn := 0, dc := 0 } w.heap.size ∧ EvX w3 z 1 none 0 0 rm (m - j.next) from ⟨k1.told _, P5.out.2.trans k2, (D.out.2.2.1.off Q5.out D.out.2.2.2.1).off k2.off D.out.2.2.2.1, fun e => (k2.own _ e).elim D.out.2.2.2.1 fun e => absurd D.out.2.2.1.lt (Nat.not_lt.2 (Nat.le_trans Q5.out.size e)), (D.out.2.2.2.2.1.off Q5.out D.out.2.2.2.2.2).off k2.off D.out.2.2.2.2.2⟩); clear k1 k2 P5 Q5 D c5 f5; have v0 := E.out.2.2.1.c0; have v1 := E.out.2.2.1.c1; have v2 := E.out.2.2.1.c2; have v3 := E.out.2.2.1.c3; have f0 := E.out.2.2.1.fz 0; have f1 := E.out.2.2.1.fz 1; have f2 := E.out.2.2.1.fz 2; have f3 := E.out.2.2.1.fz 3; have u0 := E.out.2.2.2.2.c0; have u1 := E.out.2.2.2.2.c1; have u2 := E.out.2.2.2.2.c2; have u3 := E.out.2.2.2.2.c3; dsimp only)
      obtain ⟨r1, r2, r3, r4⟩ := ad_end E.out.1 E.out.2.1 (Nat.le_refl _) E.out.2.2.2.1 E.out.2.2.1 1 none 0 0 rm (m - j.next)
      have ed : j.next.tmod (frmod j.sh : Int) = rm := by rw [hM.out]; exact hrm.out
      refine bodyPost_ret (v := evV 1 none 0 0 rm (m - j.next)) ?_ rfl ⟨_, by rw [ed], r1, r2, rfl, rfl⟩
      exact results_cell_row rfl _ _ w.heap.size 59 _ _ _ rfl r4 Tryd.underlying59 rfl (by kernel_rfl)
  · obtain ⟨g, off, cur, eo, k1, k2, k3, k4⟩ := C.out.1.od.cells hq
    have cx : W.cell? ⟨g, off, none⟩ = some (.int .i64 x) := by simpa using k4 0 _ hx
    rw [eo] at c7
    have hq2 : 1 ≤ q.on := hq
    clear k1 k2 k3 k4
    go_upto_region 3 with fail
    clear cx hmx
    have c1 := C.out.1.px.c1; have c5 := C.out.1.px.c5; have b1 := C.out.1.px.lt
    rw [hM.out] at c1
    go_region
    all_goals
      clear c1 c5 c7 b1
      go_upto_region 4 with fail
      have D := Lib.hid (show Pw (W.alloc (.cells #[.int .i64 1, .slice none 0 0, .int .i64 rm, .int .i64 (m - j.next)] 59 (0, 0))).drew b j q ol ∧ Ps b q w q (W.alloc (.cells #[.int .i64 1, .slice none 0 0, .int .i64 rm, .int .i64 (m - j.next)] 59 (0, 0))).drew ∧ EvX (W.alloc (.cells #[.int .i64 1, .slice none 0 0, .int .i64 rm, .int .i64 (m - j.next)] 59 (0, 0))).drew w.heap.size 0 none 0 0 0 0 ∧ ¬ q.own b w.heap.size ∧ EvX (W.alloc (.cells #[.int .i64 1, .slice none 0 0, .int .i64 rm, .int .i64 (m - j.next)] 59 (0, 0))).drew W.heap.size 1 none 0 0 rm (m - j.next) ∧ ¬ q.own b W.heap.size from
        have B : Below W.heap.size W (W.alloc (.cells #[.int .i64 1, .slice none 0 0, .int .i64 rm, .int .i64 (m - j.next)] 59 (0, 0))).drew := ((Below.refl _ _).alloc (Nat.le_refl _) _).drew
        ⟨C.out.1.below B, C.out.2.1.below B, (B.block _ C.out.2.2.1.lt).trans C.out.2.2.1, C.out.2.2.2, EvX.new W 1 none 0 0 rm (m - j.next), C.out.1.new (Nat.le_refl _)⟩)
      clear C
      generalize W.heap.size = z at D
      refine at_worldJ (fun X => Hid (Pw X b j q ol ∧ Ps b q w q X ∧ EvX X w.heap.size 0 none 0 0 0 0 ∧ ¬ q.own b w.heap.size ∧ EvX X z 1 none 0 0 rm (m - j.next) ∧ ¬ q.own b z)) D ?_
      clear D
      intro X D
      have c5 := D.out.1.px.c5; have f5 := D.out.1.px.fz 5
      have P5 := Lib.hid (And.intro (D.out.1.s5 m) (D.out.2.1.trans (⟨(Offs.set (X := q.own b) X b 5 (.int .i64 m) (.inl rfl)), fun _ h => .inl h⟩ : Ps b q X q (X.setCell ⟨b, 5, none⟩ (.int .i64 m)))))
      have Q5 := Lib.hid (Offs.set (X := q.own b) X b 5 (.int .i64 m) (.inl rfl))
      go_wp2_with (go_at_call 46; (with_reducible refine (pturn_any b _ q ol 2 _ P5.out.1).mono ?_); rintro r w3 ⟨rfl, k1, k2, -⟩; have E := Lib.hid (show Pw w3 b (jlack j m) { q with da := none, dn := 0, dc := 0 } ol ∧ Ps b q w { q with da := none, dn := 0, dc := 0 } w3 ∧ EvX w3 w.heap.size 0 none 0 0 0 0 ∧ ¬ Jq.own b { q with da := none, dn := 0, dc := 0 } w.heap.size ∧ EvX w3 z 1 none 0 0 rm (m - j.next) from ⟨k1.told _, P5.out.2.trans k2, (D.out.2.2.1.off Q5.out D.out.2.2.2.1).off k2.off D.out.2.2.2.1, fun e => (k2.own _ e).elim D.out.2.2.2.1 fun e => absurd D.out.2.2.1.lt (Nat.not_lt.2 (Nat.le_trans Q5.out.size e)), (D.out.2.2.2.2.1.off Q5.out D.out.2.2.2.2.2).off k2.off D.out.2.2.2.2.2⟩); clear k1 k2 P5 Q5 D c5 f5; have v0 := E.out.2.2.1.c0; have v1 := E.out.2.2.1.c1; have v2 := E.out.2.2.1.c2; have v3 := E.out.2.2.1.c3; have f0 := E.out.2.2.1.fz 0; have f1 := E.out.2.2.1.fz 1; have f2 := E.out.2.2.1.fz 2; have f3 := E.out.2.2.1.fz 3; have u0 := E.out.2.2.2.2.c0; have u1 := E.out.2.2.2.2.c1; have u2 := E.out.2.2.2.2.c2; have u3 := E.out.2.2.2.2.c3; dsimp only)
      obtain ⟨r1, r2, r3, r4⟩ := ad_end E.out.1 E.out.2.1 (Nat.le_refl _) E.out.2.2.2.1 E.out.2.2.1 1 none 0 0 rm (m - j.next)
      have ed : j.next.tmod (frmod j.sh : Int) = rm := by rw [hM.out]; exact hrm.out
      refine bodyPost_ret (v := evV 1 none 0 0 rm (m - j.next)) ?_ rfl ⟨_, by rw [ed], r1, r2, rfl, rfl⟩
      exact results_cell_row rfl _ _ w.heap.size 59 _ _ _ rfl r4 Tryd.underlying59 rfl (by kernel_rfl)
end Go.Proofs.YtamdaepeogmboaaDoor
