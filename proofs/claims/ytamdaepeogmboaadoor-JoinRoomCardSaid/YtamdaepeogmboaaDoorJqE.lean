
/-
  The program's Feed of layer 24, walked. No condition beyond: places up to 2^36, sizes below 2^30.
-/
import Derived.Test.YtamdaepeogmboaaDoorJqR
import Derived.Deep.RegionHeld3
import Derived.Deep.QuietTactic
import Derived.BigQuiet
namespace Go.Proofs.YtamdaepeogmboaaDoor
set_option maxRecDepth 4000
open Go.RowKit Go.Maps

/-- keep, in one form. -/
theorem pkeep_any (b : Nat) (j : Jn) (q : Jq) (ol : List Int) (x : Int) (p : Pc) (A : Option Addr) (n c : Nat) (w : World) (h : Pw w b j q ol) (h0 : 0 ≤ x) (h1 : x ≤ 1152921504606846976) (hp : RdF (fun _ => True) w A p.d) (hn : p.d.length = n) (hnc : n ≤ c) (hn1 : n ≤ 1073741824) (m0 : 0 ≤ j.most) (m1 : j.most ≤ 1048576) (hmn : q.mn < 1099511627776) (hfr : ∀ i, q.fr i) (hol : q.on ≤ 1099511627776) :
    Calls Tryd.prog 28 #[.pointer (some ⟨b, 0, none⟩), .int .i64 x, pvV p.b p.e p.n A n c] w fun e w' => ∃ q' ol', e = .returned (.tuple #[]) ∧ Pw w' b { j with wait := if jat j.wait x = none ∧ j.next ≤ x then j.wait ++ [(x, p)] else j.wait } q' ol' ∧ Ps b q w q' w' ∧ q'.mn ≤ q.mn + 1 ∧ ∀ i, q'.fr i := by
  by_cases hx : jat j.wait x = none ∧ j.next ≤ x
  · refine (pkeep_put b j q ol x p A n c w h h0 h1 hx hp hn hnc hn1 m0 m1 hmn hfr hol).mono ?_
    rintro e w' ⟨q', ol', rfl, k1, k2, k3, k4⟩
    exact ⟨q', ol', rfl, by rw [if_pos hx]; exact k1, k2, Nat.le_of_eq k3, by rw [k4]; exact hfr⟩
  · refine (pkeep_not b j q ol x p A n c w h h0 h1 hx).mono ?_
    rintro e w' ⟨rfl, k1⟩
    exact ⟨q, ol, rfl, by rw [if_neg hx]; exact h.below k1, .of_below k1, Nat.le_succ _, hfr⟩

theorem pplace_l (b : Nat) (j : Jn) (q : Jq) (ol : List Int) (k : Nat) (p : Pc) (w : World) (h : Pw w b j q ol) (hk : k < j.last.length) (h0 : 0 ≤ p.n) (h1 : p.n < (frmod j.sh : Int)) (la : ∀ x ∈ j.last, -1 ≤ x ∧ x ≤ 1152921504606846976) :
    Calls Tryd.prog 29 #[.pointer (some ⟨b, 0, none⟩), .int .i64 (k : Int), .int .i64 p.n] w fun e w' => e = .returned (.int .i64 (jlast j k p)) ∧ Pw w' b { j with last := j.last.set k (jlast j k p) } q ol ∧ Ps b q w q w' := by
  unfold jlast
  exact pplace_any b j q ol k p.n w h hk h0 h1 la
set_option maxHeartbeats 16000000 in
theorem pfeed_any (b : Nat) (j : Jn) (q : Jq) (ol : List Int) (M0 M : Int) (k : Nat) (p : Pc) (A : Option Addr) (n c : Nat) (w : World) (h : Pw w b j q ol) (hp : RdF (fun i => ¬ q.own b i) w A p.d) (hn : p.d.length = n) (hnc : n ≤ c) (hok : Jok M0 j) (hmo : Jmo j) (hM0 : M0 + (frmod j.sh : Int) = M) (hM : M ≤ 68719476736) (hro : 0 ≤ j.room) (hk : k < j.last.length) (h0 : 0 ≤ p.n) (h1 : p.n < (frmod j.sh : Int)) (hpn : n ≤ 1073741824) (hw : j.wait.length < 1073741824) (hmn : q.mn < 1099511627776) (hfr : ∀ i, q.fr i) :
    Calls Tryd.prog 15 #[.pointer (some ⟨b, 0, none⟩), .int .i64 (k : Int), pvV p.b p.e p.n A n c] w fun e w' => ∃ v, e = .returned (.tuple #[v, .int .i64 0]) ∧ Pfe b q w (jfeed j k p) v w' := by
  obtain ⟨i0, hi, hz0, hz1, hz2⟩ := info_parts jev_info
  obtain ⟨mo, hmo1⟩ : ∃ m, Hid (frmod j.sh = m) := ⟨_, Lib.hid rfl⟩
  obtain ⟨ln, hln⟩ : ∃ m, Hid (j.last.length = m) := ⟨_, Lib.hid rfl⟩
  obtain ⟨J, hJ⟩ : ∃ J, Hid (jcame j k p = J) := ⟨_, Lib.hid rfl⟩
  have HOK1 := Lib.hid (show Jok M J by rw [← hJ.out, ← hM0]; exact hok.came hk (by omega) hw)
  have HMO1 := Lib.hid (show Jmo J by rw [← hJ.out]; exact hmo.came hok hk h0 h1)
  have HJ0 := Lib.hid (show J.told = [] ∧ J.room = j.room ∧ jfeed j k p = jover j.room (jrun J) by rw [← hJ.out]; exact ⟨rfl, rfl, rfl⟩)
  have XB := Lib.hid (show 0 ≤ jlast j k p ∧ jlast j k p ≤ 1152921504606846976 by
    obtain ⟨y, hy⟩ : ∃ y, j.last[k]? = some y := ⟨_, List.getElem?_eq_getElem hk⟩
    have hyb := hok.la y (List.mem_of_getElem? hy)
    have eg : j.last.getD k (-1) = y := by rw [List.getD_eq_getElem?_getD, hy]; rfl
    have := jplc_ge (frmod_pos j.sh) (j.last.getD k (-1) + 1) p.n
    unfold jlast
    rw [eg] at this ⊢
    omega)
  have LA := Lib.hid (show ∀ x ∈ j.last, -1 ≤ x ∧ x ≤ 1152921504606846976 from fun x hx => by have := hok.la x hx; omega)
  have LN := Lib.hid (show 0 < j.last.length ∧ j.last.length ≤ 1073741824 from ⟨hok.l0, hok.l1⟩)
  have ON := Lib.hid (show q.on ≤ 1099511627776 by rw [← h.od.1, h.sr.len]; omega)
  have MB := Lib.hid (And.intro hok.m0 hok.m1)
  have HN := Lib.hid hn
  have HMN := Lib.hid hmn
  have HF := Lib.hid hfr
  have HK := Lib.hid hk
  have HN0 := Lib.hid h0
  have HN1 := Lib.hid h1
  have HNC := Lib.hid hnc
  have HPN := Lib.hid hpn
  have t1 : ¬ (k : Int) < 0 := by omega
  have t2 : ¬ (ln : Int) ≤ (k : Int) := by rw [← hln.out]; omega
  have t3 : ¬ p.n < 0 := by omega
  have t4 : ¬ (mo : Int) ≤ p.n := by rw [← hmo1.out]; omega
  have t5 : decide (p.n < 0) = false := by simp; omega
  have t6 : decide ((mo : Int) ≤ p.n) = false := by simp; omega
  have C := Lib.hid (show FrX (w.alloc (.cells #[.bool p.b, .bool p.e, .int .i64 p.n, .slice A n c] 50)) w.heap.size 50 p.b p.e p.n A n c ∧ Below w.heap.size w (w.alloc (.cells #[.bool p.b, .bool p.e, .int .i64 p.n, .slice A n c] 50)) from ⟨FrX.new _ _ _ _ _ _ _ _, (Below.refl _ _).alloc (Nat.le_refl _) _⟩)
  have H := Lib.hid h
  have HP := Lib.hid hp
  have HRO := Lib.hid hro
  clear h hp hn hok hmo hM0 hk h0 h1 hnc hpn hw hmn hfr hro
  go_enter Tryd.func15, Tryd.ntmps15
  go_upto_region 1 with fail
  refine at_worldJ (fun W => Hid (FrX W w.heap.size 50 p.b p.e p.n A n c ∧ Below w.heap.size w W)) C ?_
  clear C
  intro W C
  have HW := Lib.hid (H.out.below C.out.2)
  have c1 := HW.out.px.c1; have c4 := HW.out.px.c4
  rw [hmo1.out] at c1
  rw [hln.out] at c4
  have x0 := C.out.1.c0; have x1 := C.out.1.c1; have x2 := C.out.1.c2; have x3 := C.out.1.c3
  go_wp2_with fail
  go_quiet (fail)
  go_upto_region 5 with fail
  clear t1 t2 t3 t4 t5 t6 c1 c4
  refine at_worldJ (fun W => Hid (FrX W w.heap.size 50 p.b p.e p.n A n c ∧ Below w.heap.size w W)) (Lib.hid ⟨C.out.1.on (below_drewN (Below.refl _ _) _), below_drewN C.out.2 _⟩) ?_
  clear C HW x0 x1 x2 x3
  intro W C
  have HX := Lib.hid (H.out.below C.out.2)
  have D := Lib.hid (show FrX W.drew w.heap.size 50 p.b p.e p.n A n c ∧ Pw W.drew b j q ol ∧ Ps b q w q W.drew ∧ ¬ q.own b w.heap.size from ⟨C.out.1, HX.out.below (Below.refl _ _).drew, .of_below (C.out.2.trans (Below.refl _ _).drew), H.out.new (Nat.le_refl _)⟩)
  go_region_held3 (fun W => W.cell? ⟨w.heap.size, 0, none⟩ = some (.bool p.b) ∧ W.cell? ⟨w.heap.size, 1, none⟩ = some (.bool p.e) ∧ W.cell? ⟨w.heap.size, 2, none⟩ = some (.int .i64 p.n) ∧ W.cell? ⟨w.heap.size, 3, none⟩ = some (.slice A n c)) (first | with_reducible exact ⟨E.out.2.2.2.2.c0, E.out.2.2.2.2.c1, E.out.2.2.2.2.c2, E.out.2.2.2.2.c3⟩ | with_reducible exact ⟨D.out.1.c0, D.out.1.c1, D.out.1.c2, D.out.1.c3⟩ | with_reducible exact ⟨C.out.1.c0, C.out.1.c1, C.out.1.c2, C.out.1.c3⟩) (first
    | (go_at_call 29; (with_reducible refine (pplace_l b j q ol k p _ D.out.2.1 HK.out HN0.out HN1.out LA.out).mono ?_); rintro e w3 ⟨rfl, k1, k2⟩; replace D := Lib.hid (show FrX w3 w.heap.size 50 p.b p.e p.n A n c ∧ Pw w3 b { j with last := j.last.set k (jlast j k p) } q ol ∧ Ps b q w q w3 ∧ ¬ q.own b w.heap.size from ⟨D.out.1.offJ k2.off D.out.2.2.2, k1, D.out.2.2.1.trans k2, D.out.2.2.2⟩); clear k1 k2; dsimp only)
    | (go_at_call 28; (with_reducible refine (pkeep_any b { j with last := j.last.set k (jlast j k p) } q ol (jlast j k p) p A n c _ D.out.2.1 XB.out.1 XB.out.2 ((D.out.2.2.1.rd HP.out).mono fun _ _ _ => trivial) HN.out HNC.out HPN.out MB.out.1 MB.out.2 HMN.out HF.out ON.out).mono ?_); rintro e w4 ⟨q5, ol5, rfl, k1, k2, k3, k4⟩; have E := Lib.hid (show Pw w4 b J q5 ol5 ∧ Ps b q w q5 w4 ∧ q5.mn ≤ q.mn + 1 ∧ (∀ i, q5.fr i) ∧ FrX w4 w.heap.size 50 p.b p.e p.n A n c from ⟨by rw [← hJ.out]; exact k1.told [], D.out.2.2.1.trans k2, k3, k4, D.out.1.offJ k2.off D.out.2.2.2⟩); clear k1 k2 k3 k4; dsimp only))
  all_goals
    clear D C HX H HP
    have P5 := Lib.hid (show Pw w4 b J { q5 with fr := fun i => i < w4.heap.size } ol5 from E.out.1.refit fun i hi _ => hi)
    have S5 := Lib.hid (show Ps b q w { q5 with fr := fun i => i < w4.heap.size } w4 from (E.out.2.1).refit q.fr _)
    have M5 := Lib.hid E.out.2.2.1
    have L5 := Lib.hid (And.intro HOK1.out.l0 HOK1.out.l1)
    have E5 := Lib.hid (show jleast J.last + 1 ≤ M by have := (HOK1.out.la _ (jleast_mem HOK1.out.l0)).2; omega)
    have c4 := P5.out.px.c4
    obtain ⟨Q5, hQ5⟩ : ∃ Q, Hid ({ q5 with fr := fun i => i < w4.heap.size } = Q) := ⟨_, Lib.hid rfl⟩
    have HQ := Lib.hid (show Q5.mn ≤ q.mn + 1 ∧ ∀ i, Q5.fr i → i < w4.heap.size by rw [← hQ5.out]; exact ⟨M5.out, fun _ h => h⟩)
    rw [hQ5.out] at P5 S5 c4
    clear E M5 hQ5
    go_wp2_with (first
      | (go_at_call 30; (with_reducible refine (pmin_any P5.out L5.out.1 L5.out.2).mono ?_); rintro e w5 ⟨rfl, hw5⟩; subst w5; dsimp only)
      | (go_at_call 25; (with_reducible refine (ppass_any b J Q5 ol5 (jleast J.last + 1) M _ P5.out HJ0.out.1 HOK1.out HMO1.out hM E5.out).mono ?_); rintro r w6 ⟨k6, q6, ol6, A6, n6, c6, p1, rfl, p2, p3, p4, p5, p6, p7, p8⟩; have Z := Lib.hid (show _ ∧ _ ∧ _ ∧ _ ∧ _ ∧ _ from ⟨p1, p4, p5, p6, p7, p8⟩); clear p1 p2 p3 p4 p5 p6 p7 p8; dsimp only))
    clear c4
    have MB6 : M ≤ 1152921504606846976 := by omega
    have ER := Lib.hid (Z.out.1.run HOK1.out MB6 rfl)
    have RUN := Lib.hid (HOK1.out.run)
    have C6 := Lib.hid (show PfC w4 b Q5 (jrun J) j.room M k6 q6 ol6 (.slice A6 n6 c6) w6 by
      refine ⟨Z.out.2.2.1, Z.out.2.2.2.1, Z.out.2.1, Z.out.2.2.2.2.1, Z.out.2.2.2.2.2, by rw [Z.out.2.2.2.2.2]; exact HQ.out.2, by rw [ER.out], by rw [ER.out]; exact RUN.out.1, Z.out.1.mo HMO1.out, by rw [ER.out]; exact RUN.out.2, ?_⟩
      rw [ER.out, (jrun_same J).room]
      exact HJ0.out.2.1)
    clear Z ER RUN P5
    go_loopw [8] (fun v wr => ∃ j1 q1 ol1, Hid (PfC w4 b Q5 (jrun J) j.room M j1 q1 ol1 v wr)) (fun _ wr => (M - pnxt wr b).toNat)
    case atStart => exact ⟨k6, q6, ol6, C6⟩
    case round =>
      clear C6
      obtain ⟨j1, q1, ol1, C⟩ := hrel
      have NX := Lib.hid (C.out.pw.px.nxt)
      have c7 := C.out.pw.px.c7; have c2 := C.out.pw.px.c2
      rw [C.out.rm] at c2
      have WL := Lib.hid (show q1.on = j1.wait.length by rw [← C.out.pw.od.1]; exact C.out.pw.sr.len)
      by_cases hlt : j.room < (q1.on : Int)
      · have hw1 : j.room < (j1.wait.length : Int) := by rw [← WL.out]; exact hlt
        have HW1 := Lib.hid hw1
        have hz : 0 < q1.on := by have := HRO.out; omega
        obtain ⟨g, off, cur, eo, k1, k2, k3, k4⟩ := C.out.pw.od.cells hz
        obtain ⟨x, r, hol⟩ : ∃ x r, ol1 = x :: r := by
          cases ol1 with
          | nil => exact absurd C.out.pw.od.1 (by simp; omega)
          | cons x r => exact ⟨x, r, rfl⟩
        have HFI := Lib.hid (show jfirst j1.wait = x ∧ x ≤ M by
          have hs := C.out.pw.sr
          rw [hol] at hs
          obtain ⟨pp, hpp⟩ := hs.mem.1 List.mem_cons_self
          have := (C.out.ok.pl _ hpp).1
          exact ⟨hs.first (by show x < _; have h' : x < M := this; omega), by have h' : x < M := this; omega⟩)
        have cx : wr.cell? ⟨g, off, none⟩ = some (.int .i64 x) := by simpa using k4 0 x (by rw [hol]; rfl)
        rw [eo] at c7
        have HC0 := Lib.hid (C.out.pw.told [])
        have OK1 := Lib.hid C.out.ok.told
        have MO1 := Lib.hid (C.out.mo.told [])
        have TD := Lib.hid (show j1.told.length ≤ 137438953472 by have := C.out.ok.td; have := C.out.ok.n1; omega)
        clear hw1 k1 k2 k3 k4 hol
        go_wp2_with fail
        go_region
        all_goals
          replace C := Lib.hid (C.out.below (Below.refl _ _).drew)
          replace HC0 := Lib.hid (HC0.out.below (Below.refl _ _).drew)
          go_wp2_with (first
            | (go_at_call 25; (with_reducible refine (ppass_any b { j1 with told := [] } q1 ol1 x M _ HC0.out rfl OK1.out MO1.out hM HFI.out.2).mono ?_); rintro r7 w7 ⟨k7, q7, ol7, A7, n7, c7', p1, rfl, p2, p3, p4, p5, p6, p7, p8⟩; have Z := Lib.hid (show Pr (jfirst j1.wait) { j1 with told := [] } k7 ∧ k7.told.length = n7 ∧ _ ∧ _ ∧ _ ∧ _ ∧ _ from ⟨by rw [HFI.out.1]; exact p1, p2, p4, p5, p6, p7, p8⟩); clear p1 p2 p3 p4 p5 p6 p7 p8; have NXT := Lib.hid (C.out.next HRO.out hM HW1.out Z.out.1); have KT := Lib.hid (show n7 ≤ 137438953472 by rw [← Z.out.2.1]; have := NXT.out.2.1.td; have := NXT.out.2.1.n1; omega); have O7 := Lib.hid (C.out.out.step Z.out.2.2.2.2.1); have G7 := Lib.hid (Z.out.2.2.1.read.mono (G := fun i => Fo b Q5 w4 q7 i ∧ u8.ownBlock ≠ some i) fun i _ hf => ⟨Fo.up C.out.ps hf, fun e => hf.2.elim (C.out.out.fr i e) fun e2 => absurd (C.out.out.row.lt e).2 (Nat.not_lt.2 e2)⟩); dsimp only)
            | (at_builtin; refine list_rows shEv rfl _ _ 44 rfl 59 i0 (.agg #[.int .i64 0, .slice none 0 0, .int .i64 0, .int .i64 0]) 48 Tryd.underlying44 hi hz0 hz1 hz2 rfl (by decide) (Fo b Q5 w4 q7) (fun i => Fo b Q5 w4 q7 i ∧ u8.ownBlock ≠ some i) w4.heap.size u8 j1.told.length j1.told rfl O7.out.row rfl _ n7 c7' _ rfl G7.out Z.out.2.1 (fun _ _ h => h) (by unfold maxLen; have := TD.out; have := KT.out; omega) (by have := TD.out; have := KT.out; omega) (Nat.le_trans C.out.ps.off.size Z.out.2.2.2.2.1.off.size) ?_; intro v8 w8 ho8 hg8 hm8; have N := Lib.hid (C.out.round HRO.out hM HW1.out Z.out.1 Z.out.2.2.2.1 Z.out.2.2.2.2.1 Z.out.2.2.2.2.2.1 Z.out.2.2.2.2.2.2 ho8 hg8 hm8); clear ho8 hg8 hm8))
          go_roundw
          case rel => exact ⟨_, q7, ol7, N⟩
          case measure =>
            rw [NX.out, N.out.pw.px.nxt]
            have a1 := NXT.out.2.2.2.2.2.1
            have a2 := N.out.ok.n1
            have a3 : ({ k7 with told := j1.told ++ k7.told } : Jn).next = k7.next := rfl
            rw [a3] at a2 ⊢
            omega
      · have F := Lib.hid (C.out.done (by rw [← WL.out]; exact hlt) S5.out HQ.out.1)
        have F2 := Lib.hid (show Pfe b q w (jfeed j k p) u8 wr.drew by
          rw [HJ0.out.2.2]
          obtain ⟨q', ol', A', n', c', g1, g2, g3, g4, g5, g6, g7, g8⟩ := F.out
          exact ⟨q', ol', A', n', c', g1, g2, g3, g4.below (Below.refl _ _).drew, g5.below (Below.refl _ _).drew, g6.below (Below.refl _ _).drew, g7, g8⟩)
        clear C F
        go_wp2_with fail
        go_region
        all_goals
          go_wp2_with fail
          exact bodyPost_ret (results_tmp2 rfl _ _ _) rfl ⟨_, rfl, F2.out⟩
end Go.Proofs.YtamdaepeogmboaaDoor
