
/-
  What the document's Run answers: all places that can be are gone through. Conditions: bounds (Jok), places that are no more than 2^28.
-/
import Derived.Test.YtamdaepeogmboaaDoorJoiT
import Derived.Test.YtamdaepeogmboaaDoorGJoa
import Derived.Test.YtamdaepeogmboaaDoorJoiN
namespace Go.Proofs.YtamdaepeogmboaaDoor
open Go.RowKit

set_option maxHeartbeats 8000000 in
theorem jrun_any (j : Jn) (q : Jp) (M : Int) (G : Nat → Prop) (B : Nat) (w : World) (h : Jw G B w j q) (hok : Jok M j) (hM : M ≤ 268435456) (hB : B ≤ w.heap.size) :
    Calls Tryd.prog 22 #[j.val q] w (JA G B w q (jrun j)) := by
  have HB := Lib.hid hB
  have HM := Lib.hid hM
  have HOK := Lib.hid hok
  obtain ⟨F, C⟩ := JC.start2 h
  replace C := Lib.hid C
  clear h hok hB hM
  go_enter Tryd.func22, Tryd.ntmps22
  go_upto_region 1 with fail
  refine at_worldJ (fun W => Hid (JC G F 2 1 B w W q j q j q)) C ?_
  clear C
  rintro W C
  go_loopw [4] (fun _ wr => ∃ j1 q1 n, Hid (jit n j = j1) ∧ Hid (Jok M j1) ∧ Hid (JC G F 2 1 B w wr q j1 q1 j1 q1)) (fun _ wr => (M - jnx wr w.heap.size).toNat)
  case atStart => exact ⟨j, q, 0, Lib.hid rfl, HOK, C⟩
  case round =>
    clear C
    obtain ⟨j1, q1, n, hn, hok, C⟩ := hrel
    have NX := Lib.hid C.out.box.nx
    have KW := Lib.hid (show q1.wn ≤ 1073741824 by rw [← C.out.jw.w1]; exact hok.out.wl)
    have KL := Lib.hid (show q1.ln ≤ 1073741824 ∧ 0 < q1.ln by rw [← C.out.jw.l1]; exact ⟨hok.out.l1, hok.out.l0⟩)
    have y0 := C.out.box.c0
    have y1 := C.out.box.c1
    have y2 := C.out.box.c2
    have y3 := C.out.box.c3
    have y4 := C.out.box.c4
    have y5 := C.out.box.c5
    have y6 := C.out.box.c6
    have y7 := C.out.box.c7
    have y8 := C.out.box.c8
    cases hp : jat j1.wait j1.next with
    | some p =>
      obtain ⟨m, hm⟩ : ∃ m, Hid (p.d.length = m) := ⟨_, Lib.hid rfl⟩
      have HP1 := Lib.hid (show (jat j1.wait j1.next).getD pc0 = p by rw [hp]; rfl)
      have HP2 := Lib.hid (show (jat j1.wait j1.next).isSome = true by rw [hp]; rfl)
      have HPM := Lib.hid (show m ≤ 1073741824 by rw [← hm.out]; exact (hok.out.pl _ (jat_mem hp)).2)
      have HST := Lib.hid (jstp_thr hp)
      have HOK2 := Lib.hid (hok.out.thr hp)
      clear hp
      go_upto_region 2 with (go_at_call 27; go_loud (with_reducible refine (jat_any j1 q1 j1.next (fun b => F b ∧ q1.tv.ownBlock ≠ some b) _ C.out.jw.rw C.out.jw.w1 KW.out p m true HP1.out HP2.out hm.out).mono ?_); rintro r w3 ⟨A3, c3, rfl, hc3, hr3, hb3⟩; replace C := Lib.hid (C.out.step hb3); have R3 := Lib.hid hr3; have K3 := Lib.hid hc3; clear hr3 hb3 hc3 y0 y1 y2 y3 y4 y5 y6 y7 y8)
      have HG := Lib.hid (show w.heap.size + 2 ≤ w3.heap.size from C.out.big)
      refine at_worldJ (fun W => Hid (JC G F 2 1 B w W q j1 q1 j1 q1) ∧ Hid (FrX W w3.heap.size 37 p.b p.e p.n A3 m c3) ∧ Hid (RdF (fun b => F b ∧ q1.tv.ownBlock ≠ some b) W A3 p.d)) ⟨Lib.hid (C.out.al _), Lib.hid (FrX.new _ _ _ _ _ _ _ _), Lib.hid (R3.out.keep (.of_below ((Below.refl _ _).alloc (Nat.le_refl _) _)))⟩ ?_
      clear C R3 K3
      generalize w3.heap.size = g3 at HG ⊢
      rintro W4 ⟨C, X3, R3⟩
      have y4 := C.out.box.c4
      have y5 := C.out.box.c5
      have f4 := C.out.box.fz 4
      obtain ⟨u5, hu5⟩ : ∃ u, Hid ((jwo j1.wait j1.next).length = u) := ⟨_, Lib.hid rfl⟩
      go_upto_region 4 with (go_at_call 37; (with_reducible refine (jwo_any j1.wait j1.next q1.wn q1.wc q1.wa (fun b => F b ∧ q1.tv.ownBlock ≠ some b) _ C.out.jw.rw C.out.fresh C.out.jw.w1 KW.out).mono ?_); rintro r w5 ⟨v5, rfl, ho5, hb5⟩; obtain ⟨A5, c5, hv5, -, -, hr5⟩ := ho5.slice; rw [hu5.out] at hv5; subst hv5; have R5 := Lib.hid (hr5.mono (G := fun b => F b ∧ q1.tv.ownBlock ≠ some b) fun b _ hb => hb.elim id fun hb => C.out.fresh b hb); replace C := Lib.hid (C.out.step hb5); replace X3 := Lib.hid (X3.out.on hb5); replace R3 := Lib.hid (R3.out.keep (.of_below hb5)); clear hr5 hb5 ho5 y4 y5 f4; have y4 := C.out.box.c4; have f4 := C.out.box.fz 4)
      clear y4 f4
      obtain ⟨j2, hj2⟩ : ∃ j2, Hid ({ j1 with wait := jwo j1.wait j1.next } = j2) := ⟨_, Lib.hid rfl⟩
      obtain ⟨q2, hq2⟩ : ∃ q2, Hid ({ q1 with wa := A5, wn := u5, wc := c5 } = q2) := ⟨_, Lib.hid rfl⟩
      refine at_worldJ (fun W => Hid (JC G F 2 1 B w W q j2 q2 j2 q2) ∧ Hid (FrX W g3 37 p.b p.e p.n A3 m c3) ∧ Hid (RdF (fun b => F b ∧ q2.tv.ownBlock ≠ some b) W A3 p.d)) ⟨Lib.hid (by rw [← hj2.out, ← hq2.out]; exact C.out.s4w (by omega) (by omega) A5 u5 c5 _ hu5.out R5.out), Lib.hid (X3.out.otherJ _ (by have := HG.out; omega)), Lib.hid (by rw [← hq2.out]; exact R3.out.keep (.of_offs (Offs.set (X := fun b => b = w.heap.size) _ _ 4 _ rfl) fun b hb e => by subst e; exact C.out.av 0 (by omega) hb.1))⟩ ?_
      clear C X3 R3 R5 hu5
      rintro W5 ⟨C, X3, R3⟩
      have y0 := C.out.box.c0
      have y1 := C.out.box.c1
      have y2 := C.out.box.c2
      have y3 := C.out.box.c3
      have y4 := C.out.box.c4
      have y5 := C.out.box.c5
      have y6 := C.out.box.c6
      have y7 := C.out.box.c7
      have y8 := C.out.box.c8
      have x0 := X3.out.c0
      have x1 := X3.out.c1
      have x2 := X3.out.c2
      have x3 := X3.out.c3
      have KT := Lib.hid (show q2.tn ≤ 1073741824 by rw [← C.out.jw.t1, ← hj2.out]; show j1.told.length ≤ _; have := hok.out.td; have := hok.out.n1; have := HM.out; omega)
      have KD := Lib.hid (show q2.dn ≤ 1073741824 by rw [← C.out.jw.d1, ← hj2.out]; show j1.data.length ≤ _; have := hok.out.da; have := hok.out.m1; omega)
      have KM := Lib.hid (show j2.mode = 0 ∨ j2.mode = 1 ∨ j2.mode = 2 by rw [← hj2.out]; exact hok.out.mo)
      go_upto_region 5 with (go_at_call 38; (with_reducible refine (jthr_any j2 q2 p A3 m c3 F B _ C.out.jw R3.out hm.out (Nat.le_trans HB.out C.out.off.size) KT.out KD.out HPM.out KM.out).mono ?_); rintro r w7 ⟨q3, rfl, hw7, ho7, hm7⟩; replace C := Lib.hid (C.out.call (by omega) (by omega) hw7 ho7 hm7); clear hw7 ho7 hm7 y0 y1 y2 y3 y4 y5 y6 y7 y8 x0 x1 x2 x3; have y0 := C.out.box.c0; have y1 := C.out.box.c1; have y2 := C.out.box.c2; have y3 := C.out.box.c3; have y4 := C.out.box.c4; have y5 := C.out.box.c5; have y6 := C.out.box.c6; have y7 := C.out.box.c7; have y8 := C.out.box.c8; have f0 := C.out.box.fz 0; have f1 := C.out.box.fz 1; have f2 := C.out.box.fz 2; have f3 := C.out.box.fz 3; have f4 := C.out.box.fz 4; have f5 := C.out.box.fz 5; have f6 := C.out.box.fz 6; have f7 := C.out.box.fz 7; have f8 := C.out.box.fz 8)
      clear y0 y1 y2 y3 y4 y5 y6 y7 y8 f0 f1 f2 f3 f4 f5 f6 f7 f8
      obtain ⟨j3, hj3⟩ : ∃ j3, Hid (jthr j2 p = j3) := ⟨_, Lib.hid rfl⟩
      refine at_worldJ (fun W => Hid (JC G F 2 1 B w W q j3 q3 j3 q3)) (Lib.hid (by rw [← hj3.out]; exact C.out.s9 (by omega) (by omega))) ?_
      clear C X3 R3
      rintro W6 C
      have E3 := Lib.hid (show j3.next = j1.next by
        obtain ⟨t, m', d, e, -⟩ := jthr_form j2 p
        rw [← hj3.out, e, ← hj2.out])
      rw [hj2.out, hj3.out, ← E3.out] at HST HOK2
      have HJN := Lib.hid (jit_snoc (by rw [hn.out]; exact HST.out))
      have B5 := hok.out.n0
      have B6 := hok.out.n1
      have B7 := HM.out
      rw [← E3.out] at B5 B6
      have wr2 : wrap64 (j3.next + 1) = j3.next + 1 := IntWalk.wrap64_in _ (by omega)
      have y5 := C.out.box.c5
      have f5 := C.out.box.fz 5
      have D := Lib.hid (C.out.s5 (by omega) (by omega) (j3.next + 1))
      clear B5 B6 B7
      go_wp2_with fail
      go_roundw
      case rel => exact ⟨_, q3, n + 1, HJN, HOK2, D⟩
      case measure => rw [NX.out, D.out.box.nx]; have := HOK2.out.n1; have e9 := E3.out; dsimp only at this ⊢; omega
    | none =>
      have HP := Lib.hid hp
      have HP1 := Lib.hid (show (jat j1.wait j1.next).getD pc0 = pc0 by rw [hp]; rfl)
      have HP2 := Lib.hid (show (jat j1.wait j1.next).isSome = false by rw [hp]; rfl)
      clear hp
      have BL := Lib.hid (hok.out.la _ (jleast_mem hok.out.l0))
      obtain ⟨le, hle⟩ : ∃ x, Hid (jleast j1.last = x) := ⟨_, Lib.hid rfl⟩
      obtain ⟨fi, hfi⟩ : ∃ x, Hid (jfirst j1.wait = x) := ⟨_, Lib.hid rfl⟩
      obtain ⟨en, hen⟩ : ∃ x, Hid (jend j1 = x) := ⟨_, Lib.hid rfl⟩
      have HEN := Lib.hid (show en = if fi < le + 1 then fi else le + 1 by rw [← hen.out, ← hle.out, ← hfi.out]; rfl)
      have wr2 : wrap64 (le + 1) = le + 1 := IntWalk.wrap64_in _ (by have := BL.out; have := HM.out; rw [hle.out] at *; omega)
      go_upto_region 2 with (go_at_call 27; go_loud (with_reducible refine (jat_any j1 q1 j1.next (fun b => F b ∧ q1.tv.ownBlock ≠ some b) _ C.out.jw.rw C.out.jw.w1 KW.out pc0 0 false HP1.out HP2.out rfl).mono ?_); rintro r w3 ⟨A3, c3, rfl, hc3, hr3, hb3⟩; replace C := Lib.hid (C.out.step hb3); clear hr3 hb3 hc3 y0 y1 y2 y3 y4 y5 y6 y7 y8)
      refine at_worldJ (fun W => Hid (JC G F 2 1 B w W q j1 q1 j1 q1)) (Lib.hid (C.out.al _)) ?_
      clear C
      rintro W4 C
      have y0 := C.out.box.c0
      have y1 := C.out.box.c1
      have y2 := C.out.box.c2
      have y3 := C.out.box.c3
      have y4 := C.out.box.c4
      have y5 := C.out.box.c5
      have y6 := C.out.box.c6
      have y7 := C.out.box.c7
      have y8 := C.out.box.c8
      go_upto_region 8 with (first
        | (go_at_call 39; (with_reducible refine (jleast_any j1.last q1.ln q1.lc q1.la _ _ C.out.jw.rl C.out.jw.l1 KL.out.2 KL.out.1).mono ?_); rintro r w5 ⟨rfl, rfl⟩; rw [hle.out])
        | (go_at_call 24; (with_reducible refine (jfirst_any j1 q1 _ _ C.out.jw.rw C.out.jw.w1 KW.out).mono ?_); rintro r w6 ⟨rfl, hb6⟩; rw [hfi.out]; replace C := Lib.hid (C.out.step hb6); clear hb6 y0 y1 y2 y3 y4 y5 y6 y7 y8; have y0 := C.out.box.c0; have y1 := C.out.box.c1; have y2 := C.out.box.c2; have y3 := C.out.box.c3; have y4 := C.out.box.c4; have y5 := C.out.box.c5; have y6 := C.out.box.c6; have y7 := C.out.box.c7; have y8 := C.out.box.c8))
      clear wr2
      have WAYS : (fi < le + 1 ∧ fi = en) ∨ (¬ fi < le + 1 ∧ le + 1 = en) := by
        have := HEN.out
        split at this <;> omega
      rcases WAYS with ⟨c1, c2⟩ | ⟨c1, c2⟩
      all_goals
        go_upto_region 10 with fail
        rw [c2]
        clear c1 c2
        by_cases he : en ≤ j1.next
        · have HST := Lib.hid (show jrun j = j1 by rw [← hn.out]; exact jrun_of (by rw [hn.out]; exact jstp_none HP.out (by rw [hen.out]; exact he)))
          have r0 := C.out.res.fz 0
          have v0 := C.out.res.c0
          have r1 := C.out.res.fz 1
          have v1 := C.out.res.c1
          have r2 := C.out.res.fz 2
          have v2 := C.out.res.c2
          have r3 := C.out.res.fz 3
          have v3 := C.out.res.c3
          have r4 := C.out.res.fz 4
          have v4 := C.out.res.c4
          have r5 := C.out.res.fz 5
          have v5 := C.out.res.c5
          have r6 := C.out.res.fz 6
          have v6 := C.out.res.c6
          have r7 := C.out.res.fz 7
          have v7 := C.out.res.c7
          have r8 := C.out.res.fz 8
          have v8 := C.out.res.c8
          go_wp2_with fail
          rw [HST.out]
          obtain ⟨p1, p2, p3, p4⟩ := C.out.put (by omega)
          refine bodyPost_ret (v := Jn.val _ _) ?_ rfl ⟨_, rfl, ?_, p3, p4⟩
          · exact results_cell_row rfl _ _ (w.heap.size + 1) 33 _ _ _ rfl p1 Tryd.underlying33 rfl (by kernel_rfl)
          · exact p2
        · have HST := Lib.hid (show jstp j1 = some (jlack j1 en) by rw [← hen.out]; exact jstp_lack HP.out (by rw [hen.out]; exact he))
          have HJN := Lib.hid (jit_snoc (by rw [hn.out]; exact HST.out))
          have HOK2 := Lib.hid (hok.out.stp HST.out)
          have KT := Lib.hid (show q1.tn ≤ 1073741824 by rw [← C.out.jw.t1]; have := hok.out.td; have := hok.out.n1; have := HM.out; omega)
          have EB := Lib.hid (show 0 ≤ en ∧ en ≤ 4611686018427387904 by have := hok.out.n0; have := hok.out.end_; rw [hen.out] at this; have := HM.out; omega)
          have NB := Lib.hid (show 0 ≤ j1.next ∧ j1.next ≤ 4611686018427387904 by have := hok.out.n0; have := hok.out.n1; have := HM.out; omega)
          go_wp2_with (go_at_call 23; (with_reducible refine (jlack_any j1 q1 en F B _ C.out.jw (Nat.le_trans HB.out C.out.off.size) KT.out NB.out.1 NB.out.2 EB.out.1 EB.out.2).mono ?_); rintro r w7 ⟨q3, rfl, hw7, ho7, hm7⟩; replace C := Lib.hid (C.out.call (by omega) (by omega) hw7 ho7 hm7); clear hw7 ho7 hm7 y0 y1 y2 y3 y4 y5 y6 y7 y8; have y0 := C.out.box.c0; have y1 := C.out.box.c1; have y2 := C.out.box.c2; have y3 := C.out.box.c3; have y4 := C.out.box.c4; have y5 := C.out.box.c5; have y6 := C.out.box.c6; have y7 := C.out.box.c7; have y8 := C.out.box.c8; have f0 := C.out.box.fz 0; have f1 := C.out.box.fz 1; have f2 := C.out.box.fz 2; have f3 := C.out.box.fz 3; have f4 := C.out.box.fz 4; have f5 := C.out.box.fz 5; have f6 := C.out.box.fz 6; have f7 := C.out.box.fz 7; have f8 := C.out.box.fz 8)
          have D := Lib.hid (C.out.s9 (by omega) (by omega))
          clear y0 y1 y2 y3 y4 y5 y6 y7 y8 f0 f1 f2 f3 f4 f5 f6 f7 f8
          go_roundw
          case rel => exact ⟨_, q3, n + 1, HJN, Lib.hid HOK2.out.1, D⟩
          case measure => rw [NX.out, D.out.box.nx]; have := HOK2.out.1.n1; have := HOK2.out.2; omega
end Go.Proofs.YtamdaepeogmboaaDoor
