
/-
  The program's keep of layer 24. No condition beyond: places up to 2^36, sizes below 2^30.
-/
import Derived.Test.YtamdaepeogmboaaDoorJqK
namespace Go.Proofs.YtamdaepeogmboaaDoor
set_option maxRecDepth 4000
open Go.RowKit Go.Maps

theorem RdF.take {F : Nat → Prop} {w : World} {A : Option Addr} {l : List Nat} (h : RdF F w A l) (m : Nat) : RdF F w A (l.take m) := fun hl => by
  obtain ⟨b, off, h1, h2, h3, h4⟩ := h (by rw [List.length_take] at hl; omega)
  refine ⟨b, off, h1, h2, h3, fun k x hx => h4 k x ?_⟩
  rw [List.getElem?_take] at hx
  split at hx
  · exact hx
  · cases hx
set_option maxHeartbeats 4000000 in
/-- A piece that counts for nothing. -/
theorem pkeep_not (b : Nat) (j : Jn) (q : Jq) (ol : List Int) (x : Int) (p : Pc) (A : Option Addr) (n c : Nat) (w : World) (h : Pw w b j q ol) (h0 : 0 ≤ x) (h1 : x ≤ 1152921504606846976) (hx : ¬ (jat j.wait x = none ∧ j.next ≤ x)) :
    Calls Tryd.prog 28 #[.pointer (some ⟨b, 0, none⟩), .int .i64 x, pvV p.b p.e p.n A n c] w fun e w' => e = .returned (.tuple #[]) ∧ Below w.heap.size w w' := by
  have C := Lib.hid (show FrX (w.alloc (.cells #[.bool p.b, .bool p.e, .int .i64 p.n, .slice A n c] 50)) w.heap.size 50 p.b p.e p.n A n c ∧ Below w.heap.size w (w.alloc (.cells #[.bool p.b, .bool p.e, .int .i64 p.n, .slice A n c] 50)) from ⟨FrX.new _ _ _ _ _ _ _ _, (Below.refl _ _).alloc (Nat.le_refl _) _⟩)
  have H := Lib.hid h
  clear h
  go_enter Tryd.func28, Tryd.ntmps28
  go_upto_region 1 with fail
  refine at_worldJ (fun W => Hid (FrX W w.heap.size 50 p.b p.e p.n A n c ∧ Below w.heap.size w W)) C ?_
  clear C
  intro W C
  have HW := H.out.below C.out.2
  have c6 := HW.px.c6; have c5 := HW.px.c5
  have b1 := HW.px.lt
  cases hp : jat j.wait x with
  | none =>
    have L := HW.mp.look_none h0 (by omega) hp
    have hlt : x < j.next := by rw [hp] at hx; simp at hx; exact hx
    clear HW hp hx
    go_wp2_with fail
    refine bodyPost_ret (results_none rfl _ _ _) rfl ⟨rfl, ?_⟩
    exact C.out.2.alloc C.out.2.size _
  | some p1 =>
    obtain ⟨A1, c1, hl, -, -⟩ := HW.mp.look_some h0 (by omega) hp
    have L := hl W rfl
    clear HW hp hx hl
    go_wp2_with fail
    refine bodyPost_ret (results_none rfl _ _ _) rfl ⟨rfl, ?_⟩
    exact C.out.2.alloc C.out.2.size _
/-- The map and the row of places take a place in. -/
theorem Pw.put {w w' w'' : World} {b : Nat} {j : Jn} {q : Jq} {ol ol' : List Int} {x : Int} {p : Pc} {A' : Option Addr} {n' c' : Nat} (h : Pw w b j q ol) (hm : Mq (fun i => ¬ q.own b i ∧ q.fr i) w' q.mb (q.mn + 1) j.most (j.wait ++ [(x, p)])) (ho : Offs (fun i => i = q.mb) w w')
    {w1 : World} (hb : Below w'.heap.size w' w1) (hi : Oi w'' A' n' c' ol') (hio : Offs (fun g => q.ov.ownBlock = some g) w1 w'') (hin : ∀ g, (Value.slice A' n' c').ownBlock = some g → q.ov.ownBlock = some g ∨ w1.heap.size ≤ g) (hs : Srt ol' (j.wait ++ [(x, p)])) (hfr : ∀ i, q.fr i) :
    Pw (w''.setCell ⟨b, 7, none⟩ (.slice A' n' c')) b { j with wait := j.wait ++ [(x, p)] } { q with oa := A', on := n', oc := c', mn := q.mn + 1 } ol' ∧ Ps b q w { q with oa := A', on := n', oc := c', mn := q.mn + 1 } (w''.setCell ⟨b, 7, none⟩ (.slice A' n' c')) := by
  have o1 : Offs (fun i => i = q.mb) w w1 := ho.trans (Offs.of_below (X := fun i => i = q.mb) hb) (fun _ h => h) (fun _ _ h => h)
  have o2 : Offs (fun i => i = q.mb ∨ q.ov.ownBlock = some i) w w'' := o1.trans hio (fun _ h => .inl h) (fun _ _ h => .inr h)
  have os : Offs (fun i => i = b) w'' (w''.setCell ⟨b, 7, none⟩ (.slice A' n' c')) := Offs.set w'' b 7 _ rfl
  have o3 : Offs (q.own b) w (w''.setCell ⟨b, 7, none⟩ (.slice A' n' c')) := o2.trans os (fun i e => e.elim (fun e => .inr (.inr (.inl e))) fun e => .inr (.inr (.inr (.inl e)))) (fun i _ e => .inl e)
  have big : w.heap.size ≤ w1.heap.size := o1.size
  have nw : ∀ i, w.heap.size ≤ i → ¬ q.own b i := fun i hi => h.new hi
  have nb : ∀ g, (Value.slice A' n' c').ownBlock = some g → g ≠ b ∧ g ≠ q.lb ∧ g ≠ q.mb ∧ q.dv.ownBlock ≠ some g := fun g hg => by
    rcases hin g hg with e | e
    · exact ⟨fun e2 => h.ov_b (by rw [e, e2]), fun e2 => h.ap (by rw [e, e2]), fun e2 => h.ov_mb (by rw [e, e2]), fun e2 => h.dv_ov e2 e⟩
    · have n0 := nw g (Nat.le_trans big e)
      exact ⟨fun e2 => n0 (.inl e2), fun e2 => n0 (.inr (.inl e2)), fun e2 => n0 (.inr (.inr (.inl e2))), fun e2 => n0 (.inr (.inr (.inr (.inr e2))))⟩
  have hpx : Px w'' b j q := h.px.off o2 (fun e => e.elim (fun e => h.mb_b e.symm) fun e => h.ov_b e)
  have mq1 : Mq (fun i => (¬ q.own b i ∧ q.fr i) ∧ i < w1.heap.size) w1 q.mb (q.mn + 1) j.most (j.wait ++ [(x, p)]) := (hm.off (Offs.of_below (X := fun _ => False) hb) id fun _ _ => id).mono fun i hi hf => ⟨hf, hi⟩
  have mq2 := (mq1.off hio h.ov_mb fun i hi e => hi.1.1 (.inr (.inr (.inr (.inl e))))).off os h.mb_b fun i hi e => hi.1.1 (.inl e)
  refine ⟨⟨?_, ?_, mq2.mono fun i _ hi => ⟨fun e => ?_, hfr i⟩, hi.off os fun g hg e => (nb g hg).1 e, hs, ?_, h.dl, fun e => (nb _ e).2.1 rfl⟩, o3, fun i e => ?_⟩
  · exact hpx.s7 A' n' c'
  · have k1 := (o2.block _ (Array.getElem?_eq_some_iff.1 h.lk).1 (fun e => e.elim (fun e => h.mb_lb e.symm) fun e => h.ap e)).trans h.lk
    exact (os.block _ (Array.getElem?_eq_some_iff.1 k1).1 h.lb_b).trans k1
  · rcases e with e | e | e | e | e
    · exact hi.1.1 (.inl e)
    · exact hi.1.1 (.inr (.inl e))
    · exact hi.1.1 (.inr (.inr (.inl e)))
    · rcases hin i e with e | e
      · exact hi.1.1 (.inr (.inr (.inr (.inl e))))
      · omega
    · exact hi.1.1 (.inr (.inr (.inr (.inr e))))
  · exact own_off (own_off h.dt o2 fun g hg e => e.elim (fun e => h.dv_mb (by rw [hg, e])) fun e => h.dv_ov hg e) os fun g hg e => h.dv_b (by rw [hg, e])
  · rcases e with e | e | e | e | e
    · exact .inl (.inl e)
    · exact .inl (.inr (.inl e))
    · exact .inl (.inr (.inr (.inl e)))
    · rcases hin i e with e | e
      · exact .inl (.inr (.inr (.inr (.inl e))))
      · exact .inr (Nat.le_trans big e)
    · exact .inl (.inr (.inr (.inr (.inr e))))
theorem own_addr {w : World} {base n c : Nat} {e : TypeId} {A : Option Addr} {xs : List Value} (h : w.ownsRow base e 1 (.slice A n c) n xs) : A = none ∨ ∃ g o, A = some ⟨g, o, none⟩ := by
  rcases h.2 with ⟨e, _⟩ | ⟨g, cap, cur, e, _⟩
  · injection e with e
    exact .inl e
  · injection e with e
    exact .inr ⟨g, 0, e⟩
/-- The box behind Clone. -/
theorem kp_box {w X w5 : World} {b : Nat} {j : Jn} {q : Jq} {ol : List Int} {pb pe : Bool} {pn : Int} {A A5 : Option Addr} {n c mm c5 : Nat} {d : List Nat} (hC : Below w.heap.size w X) (H : Pw w b j q ol) (hf : ∀ i, q.fr i) (hN : New X.drew w5 A5 c5 mm d) (B5 : Below X.heap.size X w5) (F5 : FrX w5 w.heap.size 50 pb pe pn A n c) :
    FrX (w5.setCell ⟨w.heap.size, 3, none⟩ (.slice A5 mm c5)) w.heap.size 50 pb pe pn A5 mm c5 ∧ Below w.heap.size w (w5.setCell ⟨w.heap.size, 3, none⟩ (.slice A5 mm c5)) ∧ RdF (fun i => ¬ q.own b i ∧ q.fr i) (w5.setCell ⟨w.heap.size, 3, none⟩ (.slice A5 mm c5)) A5 d ∧ mm ≤ c5 ∧ (A5 = none ∨ ∃ g o, A5 = some ⟨g, o, none⟩) := by
  have OX : Offs (fun i => i = w.heap.size) w5 (w5.setCell ⟨w.heap.size, 3, none⟩ (.slice A5 mm c5)) := Offs.set w5 w.heap.size 3 _ rfl
  have RO : RdF (fun i => ¬ q.own b i ∧ q.fr i) w5 A5 d := (RdF.own hN.2.1).mono fun i _ hi => ⟨H.new (Nat.le_trans hC.size hi), hf i⟩
  exact ⟨F5.s3 A5 mm c5, (hC.trans (B5.mono hC.size)).trans (OX.below (fun k hk e => by omega) (Nat.le_trans hC.size B5.size)), ((RO.not F5 FrX.none8).keep (.of_offs OX fun _ h => h.2)).mono (fun _ _ h => h.1), own_cap hN.2.1, own_addr hN.2.1⟩
/-- What keep knows behind the map's store. -/
structure KpC (w Y : World) (b : Nat) (j : Jn) (q : Jq) (ol : List Int) (x : Int) (p : Pc) (W2 : World) : Prop where
  pw : Pw Y b j q ol
  ps : Ps b q w q Y
  mq : Mq (fun i => ¬ q.own b i ∧ q.fr i) W2 q.mb (q.mn + 1) j.most (j.wait ++ [(x, p)])
  of : Offs (fun i => i = q.mb) Y W2
theorem KpC.px {w Y W2 : World} {b : Nat} {j : Jn} {q : Jq} {ol : List Int} {x : Int} {p : Pc} (h : KpC w Y b j q ol x p W2) : Px W2 b j q := h.pw.px.off h.of fun e => h.pw.mb_b e.symm
theorem KpC.od {w Y W2 : World} {b : Nat} {j : Jn} {q : Jq} {ol : List Int} {x : Int} {p : Pc} (h : KpC w Y b j q ol x p W2) : Oi W2 q.oa q.on q.oc ol := h.pw.od.off h.of fun g hg e => h.pw.ov_mb (by rw [hg, e])
theorem KpC.pre {w Y W2 w6 : World} {b : Nat} {j : Jn} {q : Jq} {ol : List Int} {x : Int} {p : Pc} (h : KpC w Y b j q ol x p W2) (hb : Below W2.heap.size W2 w6) : Oi (w6.alloc (.cells #[.int .i64 x] 3)) q.oa q.on q.oc ol ∧ (w6.alloc (.cells #[.int .i64 x] 3)).heap[w6.heap.size]? = some (.cells #[.int .i64 x] 3 (0, 0)) ∧ (Value.slice q.oa q.on q.oc).ownBlock ≠ some w6.heap.size ∧ ol.countP (· < x) ≤ q.on :=
  ⟨h.od.off (X := fun _ => False) (.of_below (hb.trans (((Below.refl _ _).alloc (Nat.le_refl _) _).mono hb.size))) fun _ _ => id, heap_alloc_new w6 _, fun e => absurd (h.od.lt e) (Nat.not_lt.2 hb.size), Nat.le_trans List.countP_le_length (Nat.le_of_eq h.pw.od.1)⟩
theorem KpC.fin {w Y W2 w6 w7 : World} {b : Nat} {j : Jn} {q : Jq} {ol : List Int} {x : Int} {p : Pc} {o : Obj} {A7 : Option Addr} {c7 : Nat} (h : KpC w Y b j q ol x p W2) (hb : Below W2.heap.size W2 w6) (H : Pw w b j q ol) (hx : jat j.wait x = none) (hf : ∀ i, q.fr i)
    (ho : Oi w7 A7 (q.on + 1) c7 (ol.take (ol.countP (· < x)) ++ x :: ol.drop (ol.countP (· < x)))) (hs : Offs (fun g => (Value.slice q.oa q.on q.oc).ownBlock = some g) (w6.alloc o) w7) (hi : ∀ g, (Value.slice A7 (q.on + 1) c7).ownBlock = some g → (Value.slice q.oa q.on q.oc).ownBlock = some g ∨ (w6.alloc o).heap.size ≤ g) :
    w7.cell? ⟨b, 7, none⟩ = some (.slice q.oa q.on q.oc) ∧ w7.frozen? ⟨b, 7, none⟩ = false ∧ Pw (w7.setCell ⟨b, 7, none⟩ (.slice A7 (q.on + 1) c7)) b { j with wait := j.wait ++ [(x, p)] } { q with oa := A7, on := q.on + 1, oc := c7, mn := q.mn + 1 } (jins ol x) ∧ Ps b q w { q with oa := A7, on := q.on + 1, oc := c7, mn := q.mn + 1 } (w7.setCell ⟨b, 7, none⟩ (.slice A7 (q.on + 1) c7)) := by
  have B : Below W2.heap.size W2 (w6.alloc o) := hb.trans (((Below.refl _ _).alloc (Nat.le_refl _) _).mono hb.size)
  have hp7 : Px w7 b j q := (h.px.off (X := fun _ => False) (.of_below B) id).off hs (fun e => H.ov_b e)
  obtain ⟨k1, k2⟩ := h.pw.put h.mq h.of B ho hs hi (H.sr.put hx p) hf
  exact ⟨hp7.c7, hp7.fz 7, k1, h.ps.trans k2⟩
set_option maxHeartbeats 8000000 in
/-- A piece that waits. -/
theorem pkeep_put (b : Nat) (j : Jn) (q : Jq) (ol : List Int) (x : Int) (p : Pc) (A : Option Addr) (n c : Nat) (w : World) (h : Pw w b j q ol) (h0 : 0 ≤ x) (h1 : x ≤ 1152921504606846976) (hx : jat j.wait x = none ∧ j.next ≤ x) (hp : RdF (fun _ => True) w A p.d) (hn : p.d.length = n) (hnc : n ≤ c) (hn1 : n ≤ 1073741824) (m0 : 0 ≤ j.most) (m1 : j.most ≤ 1048576) (hmn : q.mn < 1099511627776) (hfr : ∀ i, q.fr i) (hol : q.on ≤ 1099511627776) :
    Calls Tryd.prog 28 #[.pointer (some ⟨b, 0, none⟩), .int .i64 x, pvV p.b p.e p.n A n c] w fun e w' => ∃ q' ol', e = .returned (.tuple #[]) ∧ Pw w' b { j with wait := j.wait ++ [(x, p)] } q' ol' ∧ Ps b q w q' w' ∧ q'.mn = q.mn + 1 ∧ q'.fr = q.fr := by
  obtain ⟨mm, hmm⟩ : ∃ mm : Nat, min (n : Int) (j.most + 1) = (mm : Int) := ⟨(min (n : Int) (j.most + 1)).toNat, by omega⟩
  have hcut : (jcut j.most p.d).length = mm := by unfold jcut; rw [List.length_take, hn]; omega
  have mmn : mm ≤ n := by omega
  have wr1 : IntKind.i64.wrap (j.most + 1) = j.most + 1 := IntWalk.i64_in _ (by omega)
  have C := Lib.hid (show FrX (w.alloc (.cells #[.bool p.b, .bool p.e, .int .i64 p.n, .slice A n c] 50)) w.heap.size 50 p.b p.e p.n A n c ∧ Below w.heap.size w (w.alloc (.cells #[.bool p.b, .bool p.e, .int .i64 p.n, .slice A n c] 50)) from ⟨FrX.new _ _ _ _ _ _ _ _, (Below.refl _ _).alloc (Nat.le_refl _) _⟩)
  have H := Lib.hid h
  have HP := Lib.hid hp
  have HX := Lib.hid hx
  have HF := Lib.hid hfr
  have HMN := Lib.hid hmn
  have HC := Lib.hid hcut
  have hge : ¬ x < j.next := by omega
  clear h hp hx hfr hmn hcut
  go_enter Tryd.func28, Tryd.ntmps28
  go_upto_region 1 with fail
  refine at_worldJ (fun W => Hid (FrX W w.heap.size 50 p.b p.e p.n A n c ∧ Below w.heap.size w W)) C ?_
  clear C
  intro W C
  have HW := H.out.below C.out.2
  have c6 := HW.px.c6; have c5 := HW.px.c5
  have b1 := HW.px.lt
  have L := HW.mp.look_none h0 (by omega) HX.out.1
  clear HW
  go_upto_region 3 with fail
  refine at_worldJ (fun X => Hid (FrX X w.heap.size 50 p.b p.e p.n A n c ∧ Below w.heap.size w X)) (Lib.hid (show FrX (W.alloc (.cells #[.bool false, .bool false, .int .i64 0, .slice none 0 0] 50 (0, 0))) w.heap.size 50 p.b p.e p.n A n c ∧ Below w.heap.size w (W.alloc (.cells #[.bool false, .bool false, .int .i64 0, .slice none 0 0] 50 (0, 0))) from ⟨C.out.1.on ((Below.refl _ _).alloc (Nat.le_refl _) _), C.out.2.alloc C.out.2.size _⟩)) ?_
  clear C c6 c5 L b1 hge
  intro X C
  have p3 := C.out.1.c3
  have c3 := (H.out.below C.out.2).px.c3
  have z3 := C.out.1.fz 3
  have RD := Lib.hid (show Rd X.drew X.drew.heap.size A (jcut j.most p.d) from ((HP.out.keep (.of_below C.out.2)).take _).rd)
  have mmc : mm ≤ c := by omega
  go_region_with (go_at_call 34; (with_reducible refine (clone_any (jcut j.most p.d) mm A _ _ RD.out HC.out (by omega)).mono ?_); rintro e5 w5 ⟨A5, c5, rfl, HN5⟩; have B5 : Below X.heap.size X w5 := (Below.refl X.heap.size X).drew.trans HN5.2.2.2; have F5 := C.out.1.on B5; have p5 := F5.c3; have z5 := F5.fz 3; replace HN5 := Lib.hid HN5; replace B5 := Lib.hid B5; replace F5 := Lib.hid F5; dsimp only)
  all_goals
    clear p3 c3 z3 p5 z5 RD
    have E := Lib.hid (kp_box C.out.2 H.out HF.out HN5.out B5.out F5.out)
    clear HN5 B5 F5 C
    refine at_worldJ (fun Y => Hid (FrX Y w.heap.size 50 p.b p.e p.n A5 mm c5 ∧ Below w.heap.size w Y ∧ RdF (fun i => ¬ q.own b i ∧ q.fr i) Y A5 (jcut j.most p.d) ∧ mm ≤ c5 ∧ (A5 = none ∨ ∃ g o, A5 = some ⟨g, o, none⟩))) E ?_
    clear E
    intro Y E
    have x0 := E.out.1.c0; have x1 := E.out.1.c1; have x2 := E.out.1.c2; have x3 := E.out.1.c3
    have HY := H.out.below E.out.2.1
    have c6 := HY.px.c6
    obtain ⟨W2, hrun, hm2, ho2⟩ := (HY.below (Below.refl _ _).drew).mp.store h0 (by omega) HX.out.1 (fun i hi e => hi.1 (.inr (.inr (.inl e)))) HMN.out p (by rw [HC.out]; exact E.out.2.2.2.1) (E.out.2.2.1.keep (.of_below (Below.refl _ _).drew)) E.out.2.2.2.2
    rw [HC.out] at hrun
    have K := Lib.hid (show KpC w Y.drew b j q ol x p W2 from ⟨HY.below (Below.refl _ _).drew, .of_below (E.out.2.1.trans (Below.refl _ _).drew), hm2, ho2⟩)
    clear HY hm2 ho2
    go_wp2_with fail
    go_region
    all_goals
      clear hrun x0 x1 x2 x3 c6
      have d7 := K.out.px.c7
      go_wp2_with (first
        | (go_at_call 43; (with_reducible refine (pbs_any q.oa q.on q.oc ol x _ K.out.od H.out.sr.so hol).mono ?_); rintro e6 w6 ⟨ok, rfl, hb6⟩; have d8 := (K.out.px.off (X := fun _ => False) (.of_below hb6) id).c7; have B6 := Lib.hid hb6; have I6 := Lib.hid (K.out.pre hb6); clear hb6 d7; dsimp only)
        | (go_at_call 44; (with_reducible refine (pins_any q.oa q.on q.oc (ol.countP (· < x)) w6.heap.size ol x _ I6.out.1 I6.out.2.2.2 hol I6.out.2.1 I6.out.2.2.1).mono ?_); rintro e7 w7 ⟨A7, c7, rfl, ho7, hs7, hi7⟩; have F7 := Lib.hid (K.out.fin B6.out H.out HX.out.1 HF.out ho7 hs7 hi7); have d9 := F7.out.1; have f9 := F7.out.2.1; clear ho7 hs7 hi7 d8; dsimp only))
      trace_state
      refine bodyPost_end (results_none rfl _ _ _) rfl ⟨_, _, rfl, F7.out.2.2.1, F7.out.2.2.2, rfl, rfl⟩
end Go.Proofs.YtamdaepeogmboaaDoor
