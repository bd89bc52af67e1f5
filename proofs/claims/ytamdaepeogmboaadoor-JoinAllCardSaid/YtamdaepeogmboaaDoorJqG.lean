
/-
  The program's pick of layer 24: the piece that waits for the next place. No condition beyond: places below 2^62.
-/
import Derived.Test.YtamdaepeogmboaaDoorJqP
import Derived.Deep.CutRange
namespace Go.Proofs.YtamdaepeogmboaaDoor
set_option maxRecDepth 4000
open Go.RowKit Go.Maps

abbrev pz4 : Obj := .cells #[.bool false, .bool false, .int .i64 0, .slice none 0 0] 50 (0, 0)
theorem jput4_offs (w : World) (g : Nat) (a b c d : Value) : Offs (fun i => i = g) w ((((w.setCell ⟨g, 0, none⟩ a).setCell ⟨g, 1, none⟩ b).setCell ⟨g, 2, none⟩ c).setCell ⟨g, 3, none⟩ d) := by
  have st : ∀ (W : World) (k : Nat) (u : Value), Offs (fun i => i = g) w W → Offs (fun i => i = g) w (W.setCell ⟨g, k, none⟩ u) := fun W k u h => h.trans (Offs.set (X := fun i => i = g) W g k u rfl) (fun _ h => h) (fun _ _ h => h)
  exact st _ _ _ (st _ _ _ (st _ _ _ (st _ _ _ (Offs.refl _ w))))
/-- A struct in a block and a number are answered. -/
theorem results_row_tmpJ {fn : Func} {p u : Tmp} {ty : TypeId} (h : fn.results = #[.cell p ty, .tmp u]) (tmps : Array Value) (v : Value) (w : World) (g : Nat) (t : TypeId) (cs : Array Value) (fr : Nat × Nat) (fs : Array Field)
    (hp : tmps.getD p undef = .pointer (some ⟨g, 0, none⟩)) (hv : tmps.getD u undef = v) (hg : w.heap[g]? = some (.cells cs t fr))
    (hu : Tryd.prog.underlying ty = some (.struct fs)) (hi : (Tryd.prog.info? ty).map (·.size) = some cs.size) :
    (results fn tmps).run Tryd.prog w = .ok (.tuple #[.agg cs, v]) w := by
  have hp' : tmps[p]?.getD undef = .pointer (some ⟨g, 0, none⟩) := by simpa using hp
  have hv' : tmps[u]?.getD undef = v := by simpa using hv
  rw [results_cell_tmp h]
  simp [hp', hv', asAddr, run_loadVar_row w g t ty cs fr _ hg hu rfl hi, Result.andThen]
set_option maxHeartbeats 2000000 in
/-- None waits for it. -/
theorem ppick_none (b : Nat) (j : Jn) (q : Jq) (ol : List Int) (w : World) (h : Pw w b j q ol) (h0 : 0 ≤ j.next) (h1 : j.next ≤ 4611686018427387904) (hn : jat j.wait j.next = none) :
    Calls Tryd.prog 40 #[.pointer (some ⟨b, 0, none⟩)] w fun e w' => e = .returned (.tuple #[pvV false false 0 none 0 0, .bool false]) ∧ Below w.heap.size w w' := by
  have A1 : Below w.heap.size w (w.alloc pz4) := (Below.refl _ _).alloc (Nat.le_refl _) _
  have A2 : Below w.heap.size w ((w.alloc pz4).alloc pz4) := A1.alloc (by simp) _
  have A3 := Lib.hid A2.drew
  have L1 := (h.below A1.drew).mp.look_none h0 h1 hn
  have L2 := (h.below A2.drew).mp.look_none h0 h1 hn
  have R := Lib.hid (show ((w.alloc pz4).alloc pz4).drew.heap[w.heap.size]? = some pz4 from ((Below.refl _ _).alloc (B := (w.alloc pz4).heap.size) (Nat.le_refl _) pz4).block _ (by simp) |>.trans (heap_alloc_new w _))
  have hp := h.px
  have c5 := hp.c5; have c6 := hp.c6
  have b1 := hp.lt
  clear h hp hn A1 A2
  go_enter Tryd.func40, Tryd.ntmps40
  go_wp2_with fail
  go_region
  all_goals
    go_wp2_with fail
    refine bodyPost_ret (v := .tuple #[pvV false false 0 none 0 0, .bool false]) ?_ rfl ⟨rfl, A3.out⟩
    exact results_row_tmpJ rfl _ _ _ w.heap.size 50 _ _ _ rfl rfl R.out Tryd.underlying50 (by kernel_rfl)
/-- The first of the places goes. -/
theorem Pw.pop {w w' : World} {b : Nat} {j : Jn} {q : Jq} {x : Int} {ol : List Int} {A : Option Addr} (h : Pw w b j q (x :: ol)) (hx : x = j.next) (hm : Mq (fun i => ¬ q.own b i ∧ q.fr i) w' q.mb q.mn j.most (jwo j.wait x)) (ho : Offs (fun i => i = q.mb) w w')
    (hA : A = q.oa ∧ q.oc - 1 = 0 ∨ ∃ g off, q.oa = some ⟨g, off, none⟩ ∧ A = some ⟨g, off + 1, none⟩) :
    Pw ((w'.setCell ⟨b, 7, none⟩ (.slice A (q.on - 1) (q.oc - 1))).setCell ⟨b, 5, none⟩ (.int .i64 (j.next + 1))) b { j with wait := jwo j.wait j.next, next := j.next + 1 } { q with oa := A, on := q.on - 1, oc := q.oc - 1 } ol ∧ Ps b q w { q with oa := A, on := q.on - 1, oc := q.oc - 1 } ((w'.setCell ⟨b, 7, none⟩ (.slice A (q.on - 1) (q.oc - 1))).setCell ⟨b, 5, none⟩ (.int .i64 (j.next + 1))) ∧ ∀ i, Jq.own b { q with oa := A, on := q.on - 1, oc := q.oc - 1 } i → q.own b i := by
  subst hx
  have ob : ∀ i, (Value.slice A (q.on - 1) (q.oc - 1)).ownBlock = some i → q.ov.ownBlock = some i := by
    intro i hi
    rcases hA with ⟨rfl, -⟩ | ⟨g, off, e1, rfl⟩
    · rw [← hi]; exact ownBlock_len _ _ _ _ _
    · show (Value.slice q.oa q.on q.oc).ownBlock = some i
      rw [e1]
      exact hi
  have hp0 : ∀ i, i = q.mb → i ≠ b := fun i e => by rw [e]; exact h.mb_b
  have hO : Oi w A (q.on - 1) (q.oc - 1) ol := by
    obtain ⟨h1, h2, h3, h4⟩ := h.od
    have h1' : ol.length + 1 = q.on := by simpa using h1
    refine ⟨by omega, by omega, by omega, ?_⟩
    rcases h4 with ⟨e0, e1⟩ | ⟨g, off, cur, e1, g1, g2, g3, g4⟩
    · omega
    · rcases hA with ⟨rfl, e2⟩ | ⟨g', off', e2, rfl⟩
      · rw [e1]
        refine .inr ⟨g, off, cur, rfl, g1, by omega, g3, fun j x hj => ?_⟩
        have := (List.getElem?_eq_some_iff.1 hj).1
        omega
      · rw [e1] at e2
        injection e2 with e2
        injection e2 with e2 e3
        subst e2; subst e3
        exact .inr ⟨_, _, cur, rfl, g1, by omega, g3, fun j x hj => by rw [Nat.add_assoc, Nat.add_comm 1]; exact g4 (j + 1) x (by rw [List.getElem?_cons_succ]; exact hj)⟩
  have hs : Offs (fun i => i = b) w' ((w'.setCell ⟨b, 7, none⟩ (.slice A (q.on - 1) (q.oc - 1))).setCell ⟨b, 5, none⟩ (.int .i64 (j.next + 1))) := (Offs.set (X := fun i => i = b) w' b 7 _ rfl).trans (Offs.set (X := fun i => i = b) _ b 5 _ rfl) (fun _ h => h) (fun _ _ h => h)
  have all : Offs (fun i => i = b ∨ i = q.mb) w ((w'.setCell ⟨b, 7, none⟩ (.slice A (q.on - 1) (q.oc - 1))).setCell ⟨b, 5, none⟩ (.int .i64 (j.next + 1))) := ho.trans hs (fun _ h => .inr h) (fun _ _ h => .inl h)
  have own : ∀ i, Jq.own b { q with oa := A, on := q.on - 1, oc := q.oc - 1 } i → q.own b i := by
    rintro i (e | e | e | e | e)
    · exact .inl e
    · exact .inr (.inl e)
    · exact .inr (.inr (.inl e))
    · exact .inr (.inr (.inr (.inl (ob i e))))
    · exact .inr (.inr (.inr (.inr e)))
  have hpx : Px w' b j q := h.px.off ho (fun e => h.mb_b e.symm)
  refine ⟨⟨?_, ?_, ?_, ?_, h.sr.pop, ?_, h.dl, fun e => h.ap (ob _ e)⟩, ⟨all.more fun i _ hi => ?_, fun i hi => .inl (own i hi)⟩, own⟩
  · have := (hpx.s7 A (q.on - 1) (q.oc - 1)).s5 (j.next + 1)
    exact this
  · exact (all.block _ (Array.getElem?_eq_some_iff.1 h.lk).1 (fun e => e.elim h.lb_b (fun e => h.mb_lb e.symm))).trans h.lk
  · exact (hm.off hs h.mb_b fun i hi e => hi.1 (.inl e)).mono fun i _ hi => ⟨fun e => hi.1 (own i e), hi.2⟩
  · exact hO.off all fun g hg e => by
      have hg' := ob g hg
      rcases e with rfl | rfl
      · exact h.ov_b hg'
      · exact h.ov_mb hg'
  · exact own_off h.dt all fun g hg e => by
      rcases e with rfl | rfl
      · exact h.dv_b hg
      · exact h.dv_mb hg
  · rcases hi with e | e
    · exact .inl e
    · exact .inr (.inr (.inl e))
set_option maxHeartbeats 4000000 in
/-- A piece waits for it. -/
theorem ppick_some (b : Nat) (j : Jn) (q : Jq) (ol : List Int) (p : Pc) (w : World) (h : Pw w b j q (j.next :: ol)) (h0 : 0 ≤ j.next) (h1 : j.next < 4611686018427387904) (hn : jat j.wait j.next = some p) :
    Calls Tryd.prog 40 #[.pointer (some ⟨b, 0, none⟩)] w fun e w' => ∃ A c q', e = .returned (.tuple #[pvV p.b p.e p.n A (jcut j.most p.d).length c, .bool true]) ∧ (jcut j.most p.d).length ≤ c ∧ RdF (fun i => ¬ q'.own b i ∧ q'.fr i) w' A (jcut j.most p.d) ∧ Pw w' b { j with wait := jwo j.wait j.next, next := j.next + 1 } q' ol ∧ Ps b q w q' w' ∧ q'.dn = q.dn ∧ q'.mn = q.mn ∧ q'.fr = q.fr := by
  have A1 : Below w.heap.size w (w.alloc pz4) := (Below.refl _ _).alloc (Nat.le_refl _) _
  have A2 : Below w.heap.size w ((w.alloc pz4).alloc pz4) := A1.alloc (by simp) _
  obtain ⟨A, c, hl, hc, hr⟩ := h.mp.look_some h0 (Int.le_of_lt h1) hn
  have hmb := h.mp.lt
  have L1 := hl _ (A1.drew.block _ hmb)
  have L2 := hl _ (A2.drew.block _ hmb)
  obtain ⟨V, hV⟩ : ∃ V, V = pvV p.b p.e p.n A (jcut j.most p.d).length c := ⟨_, rfl⟩
  obtain ⟨o4, ho4⟩ : ∃ o4 : Obj, o4 = .cells #[.bool p.b, .bool p.e, .int .i64 p.n, .slice A (jcut j.most p.d).length c] 50 (0, 0) := ⟨_, rfl⟩
  have A3 : Below w.heap.size w ((w.alloc pz4).alloc o4).drew := (A1.alloc (by simp) _).drew
  have R1 : ((w.alloc pz4).alloc o4).drew.heap[w.heap.size]? = some pz4 := ((Below.refl _ _).alloc (B := (w.alloc pz4).heap.size) (Nat.le_refl _) o4).block _ (by simp) |>.trans (heap_alloc_new w _)
  have R2 : ((w.alloc pz4).alloc o4).drew.heap[w.heap.size + 1]? = some o4 := by show ((w.alloc pz4).alloc o4).heap[w.heap.size + 1]? = some o4; have := heap_alloc_new (w.alloc pz4) o4; simpa using this
  rw [ho4] at A3 R1 R2
  have C := Lib.hid (show Below w.heap.size w _ ∧ _ ∧ _ from ⟨A3, R1, R2⟩)
  have H := Lib.hid h
  have HR := Lib.hid hr
  have HC := Lib.hid hc
  have hp := h.px
  have c5 := hp.c5; have c6 := hp.c6
  have b1 := hp.lt
  clear h hp hn A1 A2 hl hr hc A3 R1 R2 ho4 o4 V hV
  go_enter Tryd.func40, Tryd.ntmps40
  go_wp2_with fail
  go_region
  all_goals
    go_wp2_with fail
    refine at_worldJ (fun W => Hid (Below w.heap.size w W ∧ W.heap[w.heap.size]? = some pz4 ∧ W.heap[w.heap.size + 1]? = some (.cells #[.bool p.b, .bool p.e, .int .i64 p.n, .slice A (jcut j.most p.d).length c] 50 (0, 0)))) C ?_
    clear C L1 L2 c5 c6
    intro W C
    have HW := H.out.below C.out.1
    have HR1 := Lib.hid (HR.out.keep (.of_below C.out.1))
    have PW := Lib.hid (Ps.of_below (b := b) (q := q) C.out.1)
    have hp := HW.px
    have c5 := hp.c5; have c6 := hp.c6; have c7 := hp.c7; have f5 := hp.fz 5; have f7 := hp.fz 7
    obtain ⟨g, off, cur, eo, -⟩ := HW.od.cells (by have := HW.od.1; simp at this; omega)
    rw [eo] at c7
    have HWd := Lib.hid HW
    obtain ⟨W2, hdel, hm, ho⟩ := (HW.below ((Below.refl _ _).drew)).mp.drop h0 (Int.le_of_lt h1) (fun i hi e => hi.1 (.inr (.inr (.inl e)))) 0
    have HM := Lib.hid (And.intro hm ho)
    have hp2 := hp.off (X := fun i => i = q.mb) (Offs.trans (X := fun _ => False) (.of_below (Below.refl _ _).drew) ho (fun _ h => h.elim) (fun _ _ h => h)) (fun e => HW.mb_b e.symm)
    have d5 := hp2.c5; have d7 := hp2.c7; have e5 := hp2.fz 5; have e7 := hp2.fz 7
    rw [eo] at d7
    have hon : 1 ≤ q.on := by have := HW.od.1; simp at this; omega
    have hoc : q.on ≤ q.oc := HW.od.2.1
    have hocm : q.oc ≤ 9223372036854775807 := HW.od.2.2.1
    have hwr : IntKind.i64.wrap (j.next + 1) = j.next + 1 := by rw [IntKind.wrap_i64]; omega
    have key : ∀ A' c', (A' = q.oa ∧ q.oc - 1 = 0 ∨ ∃ g off, q.oa = some ⟨g, off, none⟩ ∧ A' = some ⟨g, off + 1, none⟩) → c' = q.oc - 1 →
        Hid (∃ q', Pw ((W2.setCell ⟨b, 7, none⟩ (.slice A' (q.on - 1) c')).setCell ⟨b, 5, none⟩ (.int .i64 (j.next + 1))) b { j with wait := jwo j.wait j.next, next := j.next + 1 } q' ol ∧ Ps b q w q' ((W2.setCell ⟨b, 7, none⟩ (.slice A' (q.on - 1) c')).setCell ⟨b, 5, none⟩ (.int .i64 (j.next + 1))) ∧ q'.dn = q.dn ∧ q'.mn = q.mn ∧ q'.fr = q.fr ∧
          FrX ((W2.setCell ⟨b, 7, none⟩ (.slice A' (q.on - 1) c')).setCell ⟨b, 5, none⟩ (.int .i64 (j.next + 1))) w.heap.size 50 false false 0 none 0 0 ∧ FrX ((W2.setCell ⟨b, 7, none⟩ (.slice A' (q.on - 1) c')).setCell ⟨b, 5, none⟩ (.int .i64 (j.next + 1))) (w.heap.size + 1) 50 p.b p.e p.n A (jcut j.most p.d).length c ∧
          RdF (fun i => ¬ q'.own b i ∧ q'.fr i) ((W2.setCell ⟨b, 7, none⟩ (.slice A' (q.on - 1) c')).setCell ⟨b, 5, none⟩ (.int .i64 (j.next + 1))) A (jcut j.most p.d) ∧ ∀ i, q'.own b i → q.own b i) := by
      rintro A' c' hA' rfl
      have HWW : Pw W.drew b j q (j.next :: ol) := HW.below (Below.refl _ _).drew
      obtain ⟨k1, k2, k22⟩ := HWW.pop rfl HM.out.1 HM.out.2 hA'
      have k3 : Ps b q w _ _ := (PW.out.below (Below.refl _ _).drew).trans k2
      have out : ∀ i, w.heap.size ≤ i → ¬ q.own b i := fun i hi => H.out.new hi
      have fr : ∀ {g : Nat} {x y : Bool} {n : Int} {D : Option Addr} {m d : Nat}, w.heap.size ≤ g → FrX W g 50 x y n D m d → FrX ((W2.setCell ⟨b, 7, none⟩ (.slice A' (q.on - 1) (q.oc - 1))).setCell ⟨b, 5, none⟩ (.int .i64 (j.next + 1))) g 50 x y n D m d := fun hg hf => (k2.off.block _ hf.lt (out _ hg)).trans hf
      exact Lib.hid ⟨_, k1, k3, rfl, rfl, rfl, fr (Nat.le_refl _) C.out.2.1, fr (Nat.le_succ _) C.out.2.2, (k3.rdf HR.out).mono (fun _ _ h => h), k22⟩
    clear HW hp hp2 hm ho c7 f5 f7
    go_wp2_with fail
    go_region
    all_goals clear c5 c6 hdel
    all_goals
      have WAYS : q.oc = 1 ∨ q.oc ≠ 1 := by omega
      rcases WAYS with hq | hq
      · rw [hq] at d7
        have K := key (some ⟨g, off, none⟩) 0 (.inl ⟨eo.symm, by omega⟩) (by omega)
        clear key HM
        go_upto_region 6 with fail
        refine at_worldJ (fun W3 => Hid (∃ q', Pw W3 b { j with wait := jwo j.wait j.next, next := j.next + 1 } q' ol ∧ Ps b q w q' W3 ∧ q'.dn = q.dn ∧ q'.mn = q.mn ∧ q'.fr = q.fr ∧ FrX W3 w.heap.size 50 false false 0 none 0 0 ∧ FrX W3 (w.heap.size + 1) 50 p.b p.e p.n A (jcut j.most p.d).length c ∧ RdF (fun i => ¬ q'.own b i ∧ q'.fr i) W3 A (jcut j.most p.d) ∧ ∀ i, q'.own b i → q.own b i)) K ?_
        clear K d5 d7 e5 e7 PW hon hoc hocm hq hwr HR1 HWd C
        intro W3 K
        obtain ⟨q', k⟩ := K.out
        replace K := Lib.hid k
        clear k
        have x0 := K.out.2.2.2.2.2.2.1.c0; have x1 := K.out.2.2.2.2.2.2.1.c1; have x2 := K.out.2.2.2.2.2.2.1.c2; have x3 := K.out.2.2.2.2.2.2.1.c3
        have y0 := K.out.2.2.2.2.2.1.c0; have y1 := K.out.2.2.2.2.2.1.c1; have y2 := K.out.2.2.2.2.2.1.c2; have y3 := K.out.2.2.2.2.2.1.c3
        have z0 := K.out.2.2.2.2.2.1.fz 0; have z1 := K.out.2.2.2.2.2.1.fz 1; have z2 := K.out.2.2.2.2.2.1.fz 2; have z3 := K.out.2.2.2.2.2.1.fz 3
        go_wp2_with fail
        clear x0 x1 x2 x3 y0 y1 y2 y3 z0 z1 z2 z3
        obtain ⟨k1, k2, k3, k4, k45, k5, k6, k7, k8⟩ := K.out
        have hg := k5.put p.b p.e p.n A (jcut j.most p.d).length c
        have hO : Offs (fun i => i = w.heap.size) W3 _ := jput4_offs W3 w.heap.size (.bool p.b) (.bool p.e) (.int .i64 p.n) (.slice A (jcut j.most p.d).length c)
        refine bodyPost_ret (v := .tuple #[pvV p.b p.e p.n A (jcut j.most p.d).length c, .bool true]) ?_ rfl ⟨A, c, q', rfl, HC.out, ((k7.not k5 FrX.none8).keep (.of_offs hO fun _ h => h.2)).mono (fun _ _ h => h.1), k1.scratch hO (fun e => H.out.new (Nat.le_refl _) (k8 _ e)) k5 FrX.none8, k2.scratch hO (Nat.le_refl _), k3, k4, k45⟩
        exact results_row_tmpJ rfl _ _ _ w.heap.size 50 _ _ _ rfl rfl hg Tryd.underlying50 (by kernel_rfl)
      · have K := key (some ⟨g, off + 1, none⟩) (q.oc - 1) (.inr ⟨g, off, eo, rfl⟩) rfl
        clear key HM
        go_upto_region 6 with fail
        refine at_worldJ (fun W3 => Hid (∃ q', Pw W3 b { j with wait := jwo j.wait j.next, next := j.next + 1 } q' ol ∧ Ps b q w q' W3 ∧ q'.dn = q.dn ∧ q'.mn = q.mn ∧ q'.fr = q.fr ∧ FrX W3 w.heap.size 50 false false 0 none 0 0 ∧ FrX W3 (w.heap.size + 1) 50 p.b p.e p.n A (jcut j.most p.d).length c ∧ RdF (fun i => ¬ q'.own b i ∧ q'.fr i) W3 A (jcut j.most p.d) ∧ ∀ i, q'.own b i → q.own b i)) K ?_
        clear K d5 d7 e5 e7 PW hon hoc hocm hq hwr HR1 HWd C
        intro W3 K
        obtain ⟨q', k⟩ := K.out
        replace K := Lib.hid k
        clear k
        have x0 := K.out.2.2.2.2.2.2.1.c0; have x1 := K.out.2.2.2.2.2.2.1.c1; have x2 := K.out.2.2.2.2.2.2.1.c2; have x3 := K.out.2.2.2.2.2.2.1.c3
        have y0 := K.out.2.2.2.2.2.1.c0; have y1 := K.out.2.2.2.2.2.1.c1; have y2 := K.out.2.2.2.2.2.1.c2; have y3 := K.out.2.2.2.2.2.1.c3
        have z0 := K.out.2.2.2.2.2.1.fz 0; have z1 := K.out.2.2.2.2.2.1.fz 1; have z2 := K.out.2.2.2.2.2.1.fz 2; have z3 := K.out.2.2.2.2.2.1.fz 3
        go_wp2_with fail
        clear x0 x1 x2 x3 y0 y1 y2 y3 z0 z1 z2 z3
        obtain ⟨k1, k2, k3, k4, k45, k5, k6, k7, k8⟩ := K.out
        have hg := k5.put p.b p.e p.n A (jcut j.most p.d).length c
        have hO : Offs (fun i => i = w.heap.size) W3 _ := jput4_offs W3 w.heap.size (.bool p.b) (.bool p.e) (.int .i64 p.n) (.slice A (jcut j.most p.d).length c)
        refine bodyPost_ret (v := .tuple #[pvV p.b p.e p.n A (jcut j.most p.d).length c, .bool true]) ?_ rfl ⟨A, c, q', rfl, HC.out, ((k7.not k5 FrX.none8).keep (.of_offs hO fun _ h => h.2)).mono (fun _ _ h => h.1), k1.scratch hO (fun e => H.out.new (Nat.le_refl _) (k8 _ e)) k5 FrX.none8, k2.scratch hO (Nat.le_refl _), k3, k4, k45⟩
        exact results_row_tmpJ rfl _ _ _ w.heap.size 50 _ _ _ rfl rfl hg Tryd.underlying50 (by kernel_rfl)
end Go.Proofs.YtamdaepeogmboaaDoor
