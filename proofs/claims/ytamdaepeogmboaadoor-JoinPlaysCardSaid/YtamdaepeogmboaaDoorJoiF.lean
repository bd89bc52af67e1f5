
/-
  What the document's Feed answers, where the lane and the number are right. Conditions: bounds (Jok), places that are no more than 2^28.
-/
import Derived.Test.YtamdaepeogmboaaDoorJoiU
namespace Go.Proofs.YtamdaepeogmboaaDoor
set_option maxRecDepth 4000
open Go.RowKit

theorem Orw.formH {α : Type} {H : Sh α} {T : TypeId} {F : Nat → Prop} {B : Nat} {w : World} {v : Value} {xs : List α} {n : Nat} (h : Orw H T F B w v xs) (hn : xs.length = n) (h0 : 0 < n) : ∃ g c, v = .slice (some ⟨g, 0, none⟩) n c ∧ n ≤ c ∧ B ≤ g ∧ g < w.heap.size ∧ ∀ k, w.frozen? ⟨g, k, none⟩ = false := by
  obtain ⟨css, e1, e2, e3⟩ := h
  subst hn
  rcases e2.2 with ⟨hv, h1⟩ | ⟨g, cap, cur, hv, hg, hh, hc, hm, hcs, ht⟩
  · omega
  · exact ⟨g, cap, hv, hc, hg, (Array.getElem?_eq_some_iff.1 hh).1, fun k => frozen_of_row w g k _ _ hh⟩
theorem Orw.setI {T : TypeId} {F : Nat → Prop} {B : Nat} {w : World} {g n c k : Nat} {xs : List Int} (h : Orw shI T F B w (.slice (some ⟨g, 0, none⟩) n c) xs) (hk : k < xs.length) (u : Int) :
    Orw shI T F B (w.setCell ⟨g, k, none⟩ (.int .i64 u)) (.slice (some ⟨g, 0, none⟩) n c) (xs.set k u) := by
  obtain ⟨css, e1, e2, e3⟩ := h
  have hall := Orw.all_len e1 e3
  have hkc : k < css.length := by omega
  have hn : n = xs.length := by
    rcases e2.2 with ⟨hv, h0⟩ | ⟨g', cap, cur, hv, _⟩
    · cases hv
    · injection hv
  subst hn
  have hst := (e2.stored k (.int .i64 u)).1
  have hcs := List.getElem?_eq_getElem hkc
  have hone : css[k] = [.int .i64 (xs[k])] := e3 k _ _ (List.getElem?_eq_getElem hk) hcs
  have hfl := flat_setF (sz := 1) (j := 0) (u := Value.int .i64 u) hall hcs (by omega)
  rw [hone, show k * 1 + 0 = k by omega] at hfl
  refine ⟨css.set k [.int .i64 u], by rw [List.length_set, List.length_set, e1], ?_, fun i y cs hy hc => ?_⟩
  · rw [List.length_set]
    have hfl' : (css.set k [.int .i64 u]).flatten = css.flatten.set k (.int .i64 u) := hfl
    rw [hfl']
    exact hst
  · by_cases hik : i = k
    · subst hik
      rw [List.getElem?_set_self hk] at hy
      rw [List.getElem?_set_self hkc] at hc
      injection hy with hy
      injection hc with hc
      subst hy; subst hc
      rfl
    · rw [List.getElem?_set_ne (fun e => hik e.symm)] at hy hc
      exact e3 i y cs hy hc
theorem litI0 {F : Nat → Prop} (w : World) {T : TypeId} : Orw shI T F w.heap.size (w.alloc (.cells #[] T)) (.slice (some ⟨w.heap.size, 0, none⟩) 0 0) [] :=
  Orw.lit w [] rfl (fun k x cs hx _ => by simp at hx) (by simp)
theorem JT.s3 {G F : Nat → Prop} {B : Nat} {w W : World} {q0 : Jp} {p : Pc} {A : Option Addr} {n c : Nat} {jb : Jn} {qb : Jp} {j : Jn} {q : Jp} (h : JT G F B w W q0 p A n c jb qb j q) (D : Option Addr) (m d : Nat) (l : List Int) (h1 : l.length = m) (h3 : Rws shI (fun b => F b ∧ q.tv.ownBlock ≠ some b) W D l) : JT G F B w (W.setCell ⟨w.heap.size, 3, none⟩ (.slice D m d)) q0 p A n c { jb with last := l } { qb with la := D, ln := m, lc := d } { j with last := l } { q with la := D, ln := m, lc := d } := ⟨h.jc.s3 (by omega) (by omega) D m d l h1 h3, h.pcs _ _, h.pds _ _⟩
theorem JT.startR {G : Nat → Prop} {w W : World} {j : Jn} {q : Jp} {p : Pc} {A : Option Addr} {n c : Nat} (h : Jr G w j q) (hp : RdF G w A p.d) (hW : W = ((w.alloc (j.obj q)).alloc (.cells #[.bool p.b, .bool p.e, .int .i64 p.n, .slice A n c] 37)).alloc (jn0.obj jp0)) : ∃ F, JT G F w.heap.size w W { q with ta := none, tn := 0, tc := 0 } p A n c j q { j with told := [] } { q with ta := none, tn := 0, tc := 0 } := by
  have hb1 : Below w.heap.size w W := by rw [hW]; exact (((Below.refl _ _).alloc (Nat.le_refl _) _).alloc (by simp) _).alloc (by simp only [World.size_alloc]; omega) _
  refine ⟨_, JC.startR h hb1 (by rw [hW]; exact ((Jx.new _ _ _).on ((Below.refl _ _).alloc (Nat.le_refl _) _)).on ((Below.refl _ _).alloc (Nat.le_refl _) _)) (by rw [hW]; have := Jx.new ((w.alloc (j.obj q)).alloc (.cells #[.bool p.b, .bool p.e, .int .i64 p.n, .slice A n c] 37)) jn0 jp0; simpa using this) (by rw [hW]; simp), ?_, ?_⟩
  · rw [hW]; have := (FrX.new (w.alloc (j.obj q)) 37 p.b p.e p.n A n c).on ((Below.refl _ _).alloc (Nat.le_refl _) (jn0.obj jp0)); simpa using this
  · exact (hp.mono (G := fun b => ((b < w.heap.size ∧ G b) ∨ w.heap.size + 3 ≤ b) ∧ (Jp.tv { q with ta := none, tn := 0, tc := 0 }).ownBlock ≠ some b) fun _ hb hg => ⟨.inl ⟨hb, hg⟩, fun e => by cases e⟩).keep (.of_below hb1)
theorem jush_same {k : Int} {j m : Jn} (h : jush k j = some m) : Jsame m j := by
  unfold jush at h
  split at h
  · injection h with h
    subst h
    exact (jrun_same _).trans ⟨rfl, rfl, rfl, rfl⟩
  · cases h
theorem jut_same (k : Int) (n : Nat) (j : Jn) : Jsame (jut k n j) j := by
  induction n generalizing j with
  | zero => exact .refl _
  | succ n ih =>
    cases hj : jush k j with
    | none => rw [jut_stop hj]; exact .refl _
    | some m => rw [jut_next hj]; exact (ih m).trans (jush_same hj)

theorem Orw.anyI {T : TypeId} {F G : Nat → Prop} {B : Nat} {w : World} {v : Value} {xs : List Int} (h : Orw shI T F B w v xs) : Orw shI T G B w v xs := by
  obtain ⟨css, e1, e2, e3⟩ := h
  exact ⟨css, e1, e2, e3⟩

set_option maxHeartbeats 16000000 in
theorem jfeed_any (G : Nat → Prop) (j : Jn) (q : Jp) (M0 : Int) (k : Nat) (p : Pc) (A : Option Addr) (n c : Nat) (w : World) (h : Jr G w j q) (hp : RdF G w A p.d) (hn : p.d.length = n) (hnc : n ≤ c) (hok : Jok M0 j) (hM0 : M0 + (frmod j.sh : Int) ≤ 268435456) (hro : 0 ≤ j.room) (hk : k < j.last.length) (h0 : 0 ≤ p.n) (h1 : p.n < (frmod j.sh : Int)) (hpn : n ≤ 1073741824) (hw : j.wait.length < 1073741824) :
    Calls Tryd.prog 14 #[j.val q, .int .i64 (k : Int), fV p.b p.e p.n A n c] w fun e w' => ∃ q', e = .returned (.tuple #[(jfeed j k p).val q', q'.tv, .int .i64 0]) ∧ Jr (fun b => G b ∨ w.heap.size ≤ b) w' (jfeed j k p) q' ∧ Below w.heap.size w w' := by
  obtain ⟨i0, hi, hz0, hz1, hz2⟩ := info_parts int_info
  obtain ⟨u0, ui, uz0, uz1, uz2⟩ := info_parts rcm_info
  obtain ⟨mo, hmo⟩ : ∃ M, Hid (frmod j.sh = M) := ⟨_, Lib.hid rfl⟩
  have hmod := fun W => jmod_any j.sh W
  rw [hmo.out] at hmod
  have m0 : ¬ mo = 0 := by rw [← hmo.out]; exact Nat.pos_iff_ne_zero.1 (frmod_pos _)
  obtain ⟨x, hx⟩ : ∃ x, j.last[k]? = some x := ⟨_, List.getElem?_eq_getElem hk⟩
  have hxl := hok.la x (List.mem_of_getElem? hx)
  obtain ⟨a0, ha0⟩ : ∃ a, x + 1 = a := ⟨_, rfl⟩
  obtain ⟨tg, htg⟩ : ∃ t, Hid (jlast j k p = t) := ⟨_, Lib.hid rfl⟩
  have HTG := Lib.hid (show jplc mo a0 p.n = tg by rw [← htg.out, ← hmo.out, ← ha0]; unfold jlast; rw [show j.last.getD k (-1) = x by rw [List.getD_eq_getElem?_getD, hx]; rfl])
  have TG := Lib.hid (show a0 ≤ tg ∧ tg % (mo : Int) = p.n ∧ tg < a0 + mo ∧ (∀ y, a0 ≤ y → y < tg → y % (mo : Int) ≠ p.n) by
    rw [hmo.out] at h1
    have g1 := jplc_ge (M := mo) (by omega) a0 p.n
    rw [HTG.out] at g1
    exact ⟨g1.1, by rw [← HTG.out]; exact jplc_num h0 h1, g1.2, fun y hy hyt => jplc_least h0 h1 hy (by rw [HTG.out]; exact hyt)⟩)
  obtain ⟨M, hMM⟩ : ∃ M, M0 + (frmod j.sh : Int) = M := ⟨_, rfl⟩
  have HOKC := Lib.hid (hok.came hk (p := p) (by rw [hn]; exact hpn) hw)
  rw [hMM] at HOKC hM0
  have HMM := Lib.hid hM0
  have A0 := Lib.hid (show 0 ≤ a0 ∧ a0 + mo ≤ 268435456 by rw [hmo.out] at hMM; omega)
  have HX := Lib.hid hx
  have HN := Lib.hid hn
  have HNC := Lib.hid hnc
  have HPN := Lib.hid hpn
  have HLL := Lib.hid h.l1
  have HLN := Lib.hid (show q.ln ≤ 1073741824 ∧ k < q.ln by rw [← h.l1]; exact ⟨hok.l1, hk⟩)
  have HWN := Lib.hid (show q.wn < 1073741824 by rw [← h.w1]; exact hw)
  have HWL := Lib.hid h.w1
  obtain ⟨rm, HRM0⟩ : ∃ r, Hid (j.room = r) := ⟨_, Lib.hid rfl⟩
  have HRM := Lib.hid (show 0 ≤ rm by rw [← HRM0.out]; exact hro)
  obtain ⟨b, o, xx, hqa, -, hxx, hxc⟩ := h.rl.int hk
  have hxe : xx = x := by rw [hx] at hxx; injection hxx with e; exact e.symm
  subst hxe
  obtain ⟨W1, hW1⟩ : ∃ W1, W1 = ((w.alloc (j.obj q)).alloc (.cells #[.bool p.b, .bool p.e, .int .i64 p.n, .slice A n c] 37)).alloc (jn0.obj jp0) := ⟨_, rfl⟩
  obtain ⟨F, C0⟩ := JT.startR h hp hW1
  obtain ⟨q0, Q0, C⟩ : ∃ q0 : Jp, Hid (q0.ta = none) ∧ Hid (JT G F w.heap.size w W1 q0 p A n c j q { j with told := [] } { q with ta := none, tn := 0, tc := 0 }) := ⟨_, Lib.hid rfl, Lib.hid C0⟩
  have XC := Lib.hid (show W1.cell? ⟨b, o + k, none⟩ = some (.int .i64 xx) by
    obtain ⟨b', o', x', e1, -, e3, e4⟩ := C.out.jc.jw.rl.int (k := k) hk
    rw [show (Jp.la { q with ta := none, tn := 0, tc := 0 }) = q.la from rfl, hqa] at e1
    injection e1 with e1
    injection e1 with e5 e6
    subst e5; subst e6
    rw [show (Jn.last { j with told := [] }) = j.last from rfl, hx] at e3
    injection e3 with e3
    subst e3
    exact e4)
  rw [hW1] at C XC
  have k1 : (0 : Int) ≤ (k : Int) := by omega
  have k2 : (k : Int) < (q.ln : Int) := by have := HLN.out.2; omega
  have k3 : ¬ (k : Int) < 0 := by omega
  have k4 : ¬ (q.ln : Int) ≤ (k : Int) := by omega
  have p1 : ¬ p.n < 0 := by omega
  have p2 : ¬ (mo : Int) ≤ p.n := by rw [hmo.out] at h1; omega
  have wr1 : wrap64 (xx + 1) = a0 := by rw [IntWalk.wrap64_in _ (by omega)]; exact ha0
  have HQA := Lib.hid hqa
  have WR1 := Lib.hid wr1
  clear h hp hn hnc hok hM0 hro hk h0 h1 hpn hw hx hxl ha0 hMM hqa hxx hxc C0 hW1 W1
  go_enter Tryd.func14, Tryd.ntmps14
  go_upto_region 1 with fail
  refine at_worldJ (fun W => Hid (JT G F w.heap.size w W q0 p A n c j q { j with told := [] } { q with ta := none, tn := 0, tc := 0 }) ∧ Hid (W.cell? ⟨b, o + k, none⟩ = some (.int .i64 xx))) ⟨C, XC⟩ ?_
  clear C XC
  rintro W ⟨C, XC⟩
  have y0 := C.out.jc.box.c0
  have y3 := C.out.jc.box.c3
  rw [HQA.out] at y3
  have x2 := C.out.pc.c2
  have xc := XC.out
  go_upto_region 7 with (go_at_call 26; (with_reducible refine (hmod _).mono ?_); rintro r w3 ⟨rfl, rfl⟩)
  clear hmod y0 y3 k3 k4 p1 p2 wr1 xc XC
  go_loopw [10] (fun v wr => ∃ pl : Int, v = .int .i64 pl ∧ Hid (a0 ≤ pl) ∧ Hid (pl ≤ tg) ∧ Hid (JT G F w.heap.size w wr q0 p A n c j q { j with told := [] } { q with ta := none, tn := 0, tc := 0 })) (fun v _ => (tg - intOf v).toNat)
  case atStart => exact ⟨a0, (by first | rfl | rw [WR1.out]), Lib.hid (Int.le_refl _), Lib.hid TG.out.1, C⟩
  case round =>
    clear C x2
    obtain ⟨pl, rfl, hpa, hpt, C⟩ := hrel
    have x2 := C.out.pc.c2
    have x2' := C.out.drew.pc.c2
    have HRM9 := Lib.hid (show pl.tmod (mo : Int) = pl % (mo : Int) from Int.tmod_eq_emod_of_nonneg (by have := hpa.out; have := A0.out; omega))
    obtain ⟨rr, hrr⟩ : ∃ r, pl.tmod (mo : Int) = r := ⟨_, rfl⟩
    by_cases hpl : pl = tg
    · subst hpl
      have hr2 : pl.tmod (mo : Int) = p.n := by rw [HRM9.out]; exact TG.out.2.1
      have e7 : (p.n != p.n) = false := bne_self_eq_false _
      go_upto_region 7 with fail
      go_region_held3 (fun W' => W'.cell? ⟨w.heap.size + 1, 2, none⟩ = some (.int .i64 p.n)) (first | with_reducible exact x2 | with_reducible exact x2') (fail)
      refine at_worldJ (fun W => Hid (JT G F w.heap.size w W q0 p A n c j q { j with told := [] } { q with ta := none, tn := 0, tc := 0 })) (by first | exact C | exact Lib.hid C.out.drew) ?_
      clear C x2 x2' HRM9
      rintro W C
      go_upto_region 9 with fail
      clear e7 hr2
      have y3 := (C.out.al (.cells #[] 3)).jc.box.c3
      have OWN := Lib.hid (litI0 (F := fun _ => True) W (T := 3))
      have RL := Lib.hid (show Rws shI (fun b => b < W.heap.size) (W.alloc (.cells #[] 3)) q.la j.last from (C.out.jc.jw.rl.mono (G := fun b => b < W.heap.size) fun _ hb _ => hb).below ((Below.refl _ _).alloc (Nat.le_refl _) _))
      have hln := HLN.out.1
      go_upto_region 10 with (at_builtin; go_loud (refine list_rows shI rfl _ _ _ rfl 3 i0 (.int .i64 0) 8 Tryd.underlying28 hi hz0 hz1 hz2 rfl (by decide) (fun _ => True) _ W.heap.size _ 0 [] rfl OWN.out rfl _ q.ln _ j.last rfl RL.out HLL.out (fun b _ hb => ⟨trivial, fun e => absurd (OWN.out.lt e).1 (Nat.not_le.2 hb)⟩) (by unfold maxLen; omega) (by omega) (by simp) ?_); intro v9 w9 ho9 hg9 hm9; have B9 := Lib.hid (((Below.refl W.heap.size W).alloc (Nat.le_refl _) (.cells #[] 3)).grown hg9 (by simp) (fun g hg => (OWN.out.lt hg).1)); have O9 := Lib.hid ho9; clear ho9 hg9 hm9)
      obtain ⟨g, c9, hv9, hcc, hg1, hg2, hfz⟩ := O9.out.formH (n := q.ln) HLL.out (by have := HLN.out; omega)
      subst hv9
      obtain ⟨b9, o9, x9, hA9, -, -, hc9⟩ := O9.out.read.int (k := k) (by show k < ([] ++ j.last).length; rw [List.nil_append, HLL.out]; exact HLN.out.2)
      injection hA9 with hA9
      injection hA9 with e5 e6
      subst e5; subst e6
      rw [Nat.zero_add] at hc9
      have f9 := hfz k
      have SI := Lib.hid ((O9.out.anyI (G := fun _ => False)).setI (k := k) (by show k < ([] ++ j.last).length; rw [List.nil_append, HLL.out]; exact HLN.out.2) pl)
      have B10 := Lib.hid (B9.out.setCell (p := ⟨g, k, none⟩) hg1 (.int .i64 pl))
      have y3' := (C.out.step B10.out).jc.box.c3
      have f3' := (C.out.step B10.out).jc.box.fz 3
      clear y3 hfz
      obtain ⟨LS, hLS⟩ : ∃ L, Hid (j.last.set k pl = L) := ⟨_, Lib.hid rfl⟩
      have HLSL := Lib.hid (show LS.length = q.ln by rw [← hLS.out, List.length_set]; exact HLL.out)
      have SR := Lib.hid (show Rws shI (fun b => False ∨ W.heap.size ≤ b) (w9.setCell ⟨g, k, none⟩ (.int .i64 pl)) (some ⟨g, 0, none⟩) LS by rw [← hLS.out]; exact SI.out.read)
      go_upto_region 12 with fail
      refine at_worldJ (fun W => Hid (JT G F w.heap.size w W q0 p A n c { j with last := LS } { q with la := some ⟨g, 0, none⟩, ln := q.ln, lc := c9 } { j with told := [], last := LS } { q with ta := none, tn := 0, tc := 0, la := some ⟨g, 0, none⟩, ln := q.ln, lc := c9 })) (Lib.hid ((C.out.step B10.out).s3 (some ⟨g, 0, none⟩) q.ln c9 LS HLSL.out (SR.out.mono fun b _ hb => C.out.jc.fresh b (hb.resolve_left id)))) ?_
      clear C SI SR B9 B10 O9 OWN RL y3' f3' hc9 f9 k1 k2 hln hg2
      rintro W C
      obtain ⟨ra, hra⟩ : ∃ r, Hid ((jat j.wait pl).getD pc0 = r) := ⟨_, Lib.hid rfl⟩
      obtain ⟨oka, hoka⟩ : ∃ r, Hid ((jat j.wait pl).isSome = r) := ⟨_, Lib.hid rfl⟩
      obtain ⟨ma, hma⟩ : ∃ r, Hid (ra.d.length = r) := ⟨_, Lib.hid rfl⟩
      have KW9 := Lib.hid (Nat.le_of_lt HWN.out)
      have y0 := C.out.jc.box.c0
      have y1 := C.out.jc.box.c1
      have y2 := C.out.jc.box.c2
      have y3 := C.out.jc.box.c3
      have y4 := C.out.jc.box.c4
      have y5 := C.out.jc.box.c5
      have y6 := C.out.jc.box.c6
      have y7 := C.out.jc.box.c7
      have y8 := C.out.jc.box.c8
      go_upto_region 13 with (go_at_call 27; (with_reducible refine (jat_any { j with last := LS } { q with la := some ⟨g, 0, none⟩, ln := q.ln, lc := c9 } pl _ _ C.out.jc.jw.rw HWL.out KW9.out ra ma oka hra.out hoka.out hma.out).mono ?_); rintro r w3 ⟨A3, c3, rfl, hc3, hr3, hb3⟩; replace C := Lib.hid (C.out.step hb3); clear hr3 hb3 hc3 y0 y1 y2 y3 y4 y5 y6 y7 y8)
      refine at_worldJ (fun W => Hid (JT G F w.heap.size w W q0 p A n c { j with last := LS } { q with la := some ⟨g, 0, none⟩, ln := q.ln, lc := c9 } { j with told := [], last := LS } { q with ta := none, tn := 0, tc := 0, la := some ⟨g, 0, none⟩, ln := q.ln, lc := c9 })) (Lib.hid (C.out.al _)) ?_
      clear C
      rintro W C
      have y5 := C.out.jc.box.c5
      have WAYS : (oka = true ∧ jat j.wait pl ≠ none) ∨ (oka = false ∧ jat j.wait pl = none ∧ j.next ≤ pl) ∨ (oka = false ∧ ¬ j.next ≤ pl) := by
        have h := hoka.out
        cases hj : jat j.wait pl with
        | some y => rw [hj] at h; exact .inl ⟨h.symm, by simp⟩
        | none =>
          rw [hj] at h
          by_cases hx : j.next ≤ pl
          · exact .inr (.inl ⟨h.symm, rfl, hx⟩)
          · exact .inr (.inr ⟨h.symm, hx⟩)
      rcases WAYS with ⟨rfl, w1⟩ | ⟨rfl, w1, w2⟩ | ⟨rfl, w2⟩
      · have HW1 := Lib.hid w1
        clear w1
        go_upto_region 15 with fail
        refine at_worldJ (fun W => Hid (JC G F 3 2 w.heap.size w W q0 { j with last := LS } { q with la := some ⟨g, 0, none⟩, ln := q.ln, lc := c9 } { j with told := [], last := LS } { q with ta := none, tn := 0, tc := 0, la := some ⟨g, 0, none⟩, ln := q.ln, lc := c9 })) (Lib.hid C.out.jc) ?_
        clear C y5
        rintro W C
        obtain ⟨jc, HJC⟩ : ∃ jc, Hid (({ j with last := LS, wait := j.wait, told := [] } : Jn) = jc) := ⟨_, Lib.hid rfl⟩
        have HJCC := Lib.hid (show jcame j k p = jc by rw [← HJC.out]; unfold jcame; rw [htg.out, hLS.out, if_neg (fun h => HW1.out h.1)])
        rw [HJCC.out] at HOKC
        obtain ⟨j5, HJ5⟩ : ∃ j5, Hid (jrun jc = j5) := ⟨_, Lib.hid rfl⟩
        have HOK5 := Lib.hid (show Jok M j5 by rw [← HJ5.out]; exact HOKC.out.run.1)
        have HST5 := Lib.hid (show jstp j5 = none by rw [← HJ5.out]; exact HOKC.out.run.2)
        have HR5 := Lib.hid (show j5.room = rm by rw [← HJ5.out, (jrun_same jc).room, ← HJC.out]; exact HRM0.out)
        have HJF := Lib.hid (show jfeed j k p = jover rm j5 by unfold jfeed; rw [HJCC.out, HJ5.out, HRM0.out])
        have y8 := C.out.box.c8
        have f8 := C.out.box.fz 8
        go_upto_region 16 with fail
        refine at_worldJ (fun W => ∃ q4, Hid (JC G F 3 2 w.heap.size w W q0 jc q4 jc q4)) ⟨_, Lib.hid (by rw [← HJC.out]; exact C.out.s8n (by omega) (by omega))⟩ ?_
        clear C y8 f8
        rintro W ⟨q4, C⟩
        have y0 := C.out.box.c0
        have y1 := C.out.box.c1
        have y2 := C.out.box.c2
        have y3 := C.out.box.c3
        have y4 := C.out.box.c4
        have y5 := C.out.box.c5
        have y6 := C.out.box.c6
        have y7 := C.out.box.c7
        have y8 := C.out.box.c8
        go_upto_region 17 with (go_at_call 22; (with_reducible refine (jrun_any jc q4 M F w.heap.size _ C.out.jw HOKC.out HMM.out C.out.off.size).mono ?_); rintro r w7 ⟨q5, rfl, hw7, ho7, hm7⟩; replace C := Lib.hid (C.out.call (by omega) (by omega) hw7 ho7 hm7); clear hw7 ho7 hm7 y0 y1 y2 y3 y4 y5 y6 y7 y8; have y0 := C.out.box.c0; have y1 := C.out.box.c1; have y2 := C.out.box.c2; have y3 := C.out.box.c3; have y4 := C.out.box.c4; have y5 := C.out.box.c5; have y6 := C.out.box.c6; have y7 := C.out.box.c7; have y8 := C.out.box.c8; have f0 := C.out.box.fz 0; have f1 := C.out.box.fz 1; have f2 := C.out.box.fz 2; have f3 := C.out.box.fz 3; have f4 := C.out.box.fz 4; have f5 := C.out.box.fz 5; have f6 := C.out.box.fz 6; have f7 := C.out.box.fz 7; have f8 := C.out.box.fz 8)
        clear y0 y1 y2 y3 y4 y5 y6 y7 y8 f0 f1 f2 f3 f4 f5 f6 f7 f8
        refine at_worldJ (fun W => Hid (JC G F 3 2 w.heap.size w W q0 (jrun jc) q5 (jrun jc) q5)) (Lib.hid (C.out.s9 (by omega) (by omega))) ?_
        rw [HJ5.out]
        clear C
        rintro W C
        go_loopw [] (fun wr => ∃ j1 q1 n, Hid (jut rm n j5 = j1) ∧ Hid (Jok M j1) ∧ Hid (jstp j1 = none) ∧ Hid (JC G F 3 2 w.heap.size w wr q0 j1 q1 j1 q1)) (fun wr => (M - jnx wr w.heap.size).toNat)
        case atStart => exact ⟨j5, q5, 0, Lib.hid rfl, HOK5, HST5, C⟩
        case round =>
          clear C
          obtain ⟨j1, q1, n1, hn, hok, hst, C⟩ := hrel
          have NX := Lib.hid C.out.box.nx
          have y4 := C.out.box.c4
          have y1 := C.out.box.c1
          rw [show j1.room = rm by rw [← hn.out, (jut_same rm n1 j5).room]; exact HR5.out] at y1
          by_cases hw : rm < (q1.wn : Int)
          · have KW := Lib.hid (show q1.wn ≤ 1073741824 by rw [← C.out.jw.w1]; exact hok.out.wl)
            obtain ⟨fi, hfi⟩ : ∃ x, Hid (jfirst j1.wait = x) := ⟨_, Lib.hid rfl⟩
            have HFI := Lib.hid (hok.out.first hst.out (by have := HRM.out; rw [C.out.jw.w1]; omega) HMM.out)
            rw [hfi.out] at HFI
            have KT := Lib.hid (show q1.tn ≤ 1073741824 by rw [← C.out.jw.t1]; have := hok.out.td; have := hok.out.n1; have := HMM.out; omega)
            have NB := Lib.hid (show 0 ≤ j1.next ∧ j1.next ≤ 4611686018427387904 by have := hok.out.n0; have := hok.out.n1; have := HMM.out; omega)
            have EB := Lib.hid (show 0 ≤ fi ∧ fi ≤ 4611686018427387904 by have := hok.out.n0; have := HFI.out; have := HMM.out; omega)
            have HOKL := Lib.hid (hok.out.lack HFI.out.1 HFI.out.2 (by rw [hfi.out]; exact Int.le_refl _))
            have HUS := Lib.hid (show jush rm j1 = some (jrun (jlack j1 fi)) by rw [← hfi.out]; exact jush_some (by rw [C.out.jw.w1]; exact hw))
            have HJN := Lib.hid (jut_snoc (by rw [hn.out]; exact HUS.out))
            have HU3 := Lib.hid (hok.out.ush hst.out HRM.out HMM.out HUS.out)
            go_upto_region 18 with fail
            clear y4 y1 hw
            refine wp_region_held_drew (S := (fun _ => True)) (by kernel_rfl) (by trivial) (fun _ => ?_)
            refine at_worldJ (fun W => Hid (JC G F 3 2 w.heap.size w W q0 j1 q1 j1 q1)) (Lib.hid C.out.drew) ?_
            clear C
            rintro W C
            refine wpAnyH_ready (rs := [0, 1]) (by kernel_rfl) (by simp) ?_
            refine (AllReadyH.cons (o := ?ofa2) ?hifa2 (fun K hK => ?stfa2) (AllReadyH.cons (o := ?ofa1) ?hifa1 (fun K hK => ?stfa1) AllReadyH.nil))
            case hifa2 => (simp only [List.getElem?_toArray, List.getElem?_cons_zero]; rfl)
            case hifa1 => (simp only [List.getElem?_toArray, List.getElem?_cons_succ, List.getElem?_cons_zero]; rfl)
            case stfa2 =>
              have y0 := C.out.box.c0
              have y1 := C.out.box.c1
              have y2 := C.out.box.c2
              have y3 := C.out.box.c3
              have y4 := C.out.box.c4
              have y5 := C.out.box.c5
              have y6 := C.out.box.c6
              have y7 := C.out.box.c7
              have y8 := C.out.box.c8
              go_simp
              refine hK.out _ _ (by trivial) (fun _ => ?_)
              clear hK K
              try simp only [Act.put, List.setIfInBounds_toArray, List.set_cons_zero, List.set_cons_succ]
              clear y0 y1 y2 y3 y4 y5 y6 y7 y8
              refine wpAnyH_ready (rs := [1]) (by kernel_rfl) (by simp) ?_
              refine (AllReadyH.cons (o := ?ofa3) ?hifa3 (fun K hK => ?stfa3) AllReadyH.nil)
              case hifa3 => (simp only [List.getElem?_toArray, List.getElem?_cons_succ, List.getElem?_cons_zero]; rfl)
              case stfa3 =>
                have y0 := C.out.box.c0
                have y1 := C.out.box.c1
                have y2 := C.out.box.c2
                have y3 := C.out.box.c3
                have y4 := C.out.box.c4
                have y5 := C.out.box.c5
                have y6 := C.out.box.c6
                have y7 := C.out.box.c7
                have y8 := C.out.box.c8
                go_simp
                refine hK.out _ _ (by trivial) (fun _ => ?_)
                clear hK K
                try simp only [Act.put, List.setIfInBounds_toArray, List.set_cons_zero, List.set_cons_succ]
                clear y0 y1 y2 y3 y4 y5 y6 y7 y8
                refine wpAnyH_ready (rs := [2]) (by kernel_rfl) (by simp) ?_
                refine (AllReadyH.cons (o := ?ofa4) ?hifa4 (fun K hK => ?stfa4) AllReadyH.nil)
                case hifa4 => (simp only [List.getElem?_toArray, List.getElem?_cons_succ, List.getElem?_cons_zero]; rfl)
                case stfa4 =>
                  go_simp
                  go_at_call 24
                  (with_reducible refine (jfirst_any j1 q1 _ _ C.out.jw.rw C.out.jw.w1 KW.out).mono ?_)
                  rintro e wy ⟨rfl, hb⟩
                  rw [hfi.out]
                  dsimp only
                  refine hK.out _ _ (by trivial) (fun _ => ?_)
                  clear hK K
                  try simp only [Act.put, List.setIfInBounds_toArray, List.set_cons_zero, List.set_cons_succ]
                  replace C := Lib.hid (C.out.step hb)
                  clear hb
                  refine wpAnyH_ready (rs := [3]) (by kernel_rfl) (by simp) ?_
                  refine (AllReadyH.cons (o := ?ofa5) ?hifa5 (fun K hK => ?stfa5) AllReadyH.nil)
                  case hifa5 => (simp only [List.getElem?_toArray, List.getElem?_cons_succ, List.getElem?_cons_zero]; rfl)
                  case stfa5 =>
                    go_simp
                    go_at_call 23
                    (with_reducible refine (jlack_any j1 q1 fi F w.heap.size _ C.out.jw C.out.off.size KT.out NB.out.1 NB.out.2 EB.out.1 EB.out.2).mono ?_)
                    rintro e wz ⟨q2, rfl, hw2, ho2, hm2⟩
                    dsimp only
                    refine hK.out _ _ (by trivial) (fun _ => ?_)
                    clear hK K
                    try simp only [Act.put, List.setIfInBounds_toArray, List.set_cons_zero, List.set_cons_succ]
                    replace C := Lib.hid (C.out.call (by omega) (by omega) hw2 ho2 hm2)
                    clear hw2 ho2 hm2
                    refine wpAnyH_ready (rs := [4]) (by kernel_rfl) (by simp) ?_
                    refine (AllReadyH.cons (o := ?ofa6) ?hifa6 (fun K hK => ?stfa6) AllReadyH.nil)
                    case hifa6 => (simp only [List.getElem?_toArray, List.getElem?_cons_succ, List.getElem?_cons_zero]; rfl)
                    case stfa6 =>
                      go_simp
                      go_at_call 22
                      (with_reducible refine (jrun_any (jlack j1 fi) q2 M F w.heap.size _ C.out.jw HOKL.out HMM.out C.out.off.size).mono ?_)
                      rintro e wx ⟨q3, rfl, hw3, ho3, hm3⟩
                      dsimp only
                      refine hK.out _ _ (by trivial) (fun _ => ?_)
                      clear hK K
                      try simp only [Act.put, List.setIfInBounds_toArray, List.set_cons_zero, List.set_cons_succ]
                      replace C := Lib.hid (C.out.call (by omega) (by omega) hw3 ho3 hm3)
                      clear hw3 ho3 hm3
                      refine wpAnyH_ready (rs := [5]) (by kernel_rfl) (by simp) ?_
                      refine (AllReadyH.cons (o := ?ofa7) ?hifa7 (fun K hK => ?stfa7) AllReadyH.nil)
                      case hifa7 => (simp only [List.getElem?_toArray, List.getElem?_cons_succ, List.getElem?_cons_zero]; rfl)
                      case stfa7 =>
                        have y0 := C.out.box.c0
                        have y1 := C.out.box.c1
                        have y2 := C.out.box.c2
                        have y3 := C.out.box.c3
                        have y4 := C.out.box.c4
                        have y5 := C.out.box.c5
                        have y6 := C.out.box.c6
                        have y7 := C.out.box.c7
                        have y8 := C.out.box.c8
                        have f0 := C.out.box.fz 0
                        have f1 := C.out.box.fz 1
                        have f2 := C.out.box.fz 2
                        have f3 := C.out.box.fz 3
                        have f4 := C.out.box.fz 4
                        have f5 := C.out.box.fz 5
                        have f6 := C.out.box.fz 6
                        have f7 := C.out.box.fz 7
                        have f8 := C.out.box.fz 8
                        go_simp
                        refine hK.out _ _ (by trivial) (fun _ => ?_)
                        clear hK K
                        try simp only [Act.put, List.setIfInBounds_toArray, List.set_cons_zero, List.set_cons_succ]
                        clear y0 y1 y2 y3 y4 y5 y6 y7 y8 f0 f1 f2 f3 f4 f5 f6 f7 f8
                        replace C := Lib.hid (C.out.s9 (by omega) (by omega))
                        refine wpAnyH_done (by kernel_rfl) ?_ _
                        go_wp2_with fail
                        go_roundw
                        case rel => exact ⟨_, q3, n1 + 1, HJN, Lib.hid HU3.out.1, Lib.hid HU3.out.2.1, C⟩
                        case measure => rw [NX.out, C.out.box.nx]; have := HU3.out.1.n1; have := HU3.out.2.2; omega
            case stfa1 =>
              have y0 := C.out.box.c0
              have y1 := C.out.box.c1
              have y2 := C.out.box.c2
              have y3 := C.out.box.c3
              have y4 := C.out.box.c4
              have y5 := C.out.box.c5
              have y6 := C.out.box.c6
              have y7 := C.out.box.c7
              have y8 := C.out.box.c8
              go_simp
              refine hK.out _ _ (by trivial) (fun _ => ?_)
              clear hK K
              try simp only [Act.put, List.setIfInBounds_toArray, List.set_cons_zero, List.set_cons_succ]
              clear y0 y1 y2 y3 y4 y5 y6 y7 y8
              refine wpAnyH_ready (rs := [0, 2]) (by kernel_rfl) (by simp) ?_
              refine (AllReadyH.cons (o := ?ofa9) ?hifa9 (fun K hK => ?stfa9) (AllReadyH.cons (o := ?ofa8) ?hifa8 (fun K hK => ?stfa8) AllReadyH.nil))
              case hifa9 => (simp only [List.getElem?_toArray, List.getElem?_cons_zero]; rfl)
              case hifa8 => (simp only [List.getElem?_toArray, List.getElem?_cons_succ, List.getElem?_cons_zero]; rfl)
              case stfa9 =>
                have y0 := C.out.box.c0
                have y1 := C.out.box.c1
                have y2 := C.out.box.c2
                have y3 := C.out.box.c3
                have y4 := C.out.box.c4
                have y5 := C.out.box.c5
                have y6 := C.out.box.c6
                have y7 := C.out.box.c7
                have y8 := C.out.box.c8
                go_simp
                refine hK.out _ _ (by trivial) (fun _ => ?_)
                clear hK K
                try simp only [Act.put, List.setIfInBounds_toArray, List.set_cons_zero, List.set_cons_succ]
                clear y0 y1 y2 y3 y4 y5 y6 y7 y8
                refine wpAnyH_ready (rs := [2]) (by kernel_rfl) (by simp) ?_
                refine (AllReadyH.cons (o := ?ofa10) ?hifa10 (fun K hK => ?stfa10) AllReadyH.nil)
                case hifa10 => (simp only [List.getElem?_toArray, List.getElem?_cons_succ, List.getElem?_cons_zero]; rfl)
                case stfa10 =>
                  go_simp
                  go_at_call 24
                  (with_reducible refine (jfirst_any j1 q1 _ _ C.out.jw.rw C.out.jw.w1 KW.out).mono ?_)
                  rintro e wy ⟨rfl, hb⟩
                  rw [hfi.out]
                  dsimp only
                  refine hK.out _ _ (by trivial) (fun _ => ?_)
                  clear hK K
                  try simp only [Act.put, List.setIfInBounds_toArray, List.set_cons_zero, List.set_cons_succ]
                  replace C := Lib.hid (C.out.step hb)
                  clear hb
                  refine wpAnyH_ready (rs := [3]) (by kernel_rfl) (by simp) ?_
                  refine (AllReadyH.cons (o := ?ofa11) ?hifa11 (fun K hK => ?stfa11) AllReadyH.nil)
                  case hifa11 => (simp only [List.getElem?_toArray, List.getElem?_cons_succ, List.getElem?_cons_zero]; rfl)
                  case stfa11 =>
                    go_simp
                    go_at_call 23
                    (with_reducible refine (jlack_any j1 q1 fi F w.heap.size _ C.out.jw C.out.off.size KT.out NB.out.1 NB.out.2 EB.out.1 EB.out.2).mono ?_)
                    rintro e wz ⟨q2, rfl, hw2, ho2, hm2⟩
                    dsimp only
                    refine hK.out _ _ (by trivial) (fun _ => ?_)
                    clear hK K
                    try simp only [Act.put, List.setIfInBounds_toArray, List.set_cons_zero, List.set_cons_succ]
                    replace C := Lib.hid (C.out.call (by omega) (by omega) hw2 ho2 hm2)
                    clear hw2 ho2 hm2
                    refine wpAnyH_ready (rs := [4]) (by kernel_rfl) (by simp) ?_
                    refine (AllReadyH.cons (o := ?ofa12) ?hifa12 (fun K hK => ?stfa12) AllReadyH.nil)
                    case hifa12 => (simp only [List.getElem?_toArray, List.getElem?_cons_succ, List.getElem?_cons_zero]; rfl)
                    case stfa12 =>
                      go_simp
                      go_at_call 22
                      (with_reducible refine (jrun_any (jlack j1 fi) q2 M F w.heap.size _ C.out.jw HOKL.out HMM.out C.out.off.size).mono ?_)
                      rintro e wx ⟨q3, rfl, hw3, ho3, hm3⟩
                      dsimp only
                      refine hK.out _ _ (by trivial) (fun _ => ?_)
                      clear hK K
                      try simp only [Act.put, List.setIfInBounds_toArray, List.set_cons_zero, List.set_cons_succ]
                      replace C := Lib.hid (C.out.call (by omega) (by omega) hw3 ho3 hm3)
                      clear hw3 ho3 hm3
                      refine wpAnyH_ready (rs := [5]) (by kernel_rfl) (by simp) ?_
                      refine (AllReadyH.cons (o := ?ofa13) ?hifa13 (fun K hK => ?stfa13) AllReadyH.nil)
                      case hifa13 => (simp only [List.getElem?_toArray, List.getElem?_cons_succ, List.getElem?_cons_zero]; rfl)
                      case stfa13 =>
                        have y0 := C.out.box.c0
                        have y1 := C.out.box.c1
                        have y2 := C.out.box.c2
                        have y3 := C.out.box.c3
                        have y4 := C.out.box.c4
                        have y5 := C.out.box.c5
                        have y6 := C.out.box.c6
                        have y7 := C.out.box.c7
                        have y8 := C.out.box.c8
                        have f0 := C.out.box.fz 0
                        have f1 := C.out.box.fz 1
                        have f2 := C.out.box.fz 2
                        have f3 := C.out.box.fz 3
                        have f4 := C.out.box.fz 4
                        have f5 := C.out.box.fz 5
                        have f6 := C.out.box.fz 6
                        have f7 := C.out.box.fz 7
                        have f8 := C.out.box.fz 8
                        go_simp
                        refine hK.out _ _ (by trivial) (fun _ => ?_)
                        clear hK K
                        try simp only [Act.put, List.setIfInBounds_toArray, List.set_cons_zero, List.set_cons_succ]
                        clear y0 y1 y2 y3 y4 y5 y6 y7 y8 f0 f1 f2 f3 f4 f5 f6 f7 f8
                        replace C := Lib.hid (C.out.s9 (by omega) (by omega))
                        refine wpAnyH_done (by kernel_rfl) ?_ _
                        go_wp2_with fail
                        go_roundw
                        case rel => exact ⟨_, q3, n1 + 1, HJN, Lib.hid HU3.out.1, Lib.hid HU3.out.2.1, C⟩
                        case measure => rw [NX.out, C.out.box.nx]; have := HU3.out.1.n1; have := HU3.out.2.2; omega
              case stfa8 =>
                go_simp
                go_at_call 24
                (with_reducible refine (jfirst_any j1 q1 _ _ C.out.jw.rw C.out.jw.w1 KW.out).mono ?_)
                rintro e wy ⟨rfl, hb⟩
                rw [hfi.out]
                dsimp only
                refine hK.out _ _ (by trivial) (fun _ => ?_)
                clear hK K
                try simp only [Act.put, List.setIfInBounds_toArray, List.set_cons_zero, List.set_cons_succ]
                replace C := Lib.hid (C.out.step hb)
                clear hb
                refine wpAnyH_ready (rs := [0]) (by kernel_rfl) (by simp) ?_
                refine (AllReadyH.cons (o := ?ofa14) ?hifa14 (fun K hK => ?stfa14) AllReadyH.nil)
                case hifa14 => (simp only [List.getElem?_toArray, List.getElem?_cons_zero]; rfl)
                case stfa14 =>
                  have y0 := C.out.box.c0
                  have y1 := C.out.box.c1
                  have y2 := C.out.box.c2
                  have y3 := C.out.box.c3
                  have y4 := C.out.box.c4
                  have y5 := C.out.box.c5
                  have y6 := C.out.box.c6
                  have y7 := C.out.box.c7
                  have y8 := C.out.box.c8
                  go_simp
                  refine hK.out _ _ (by trivial) (fun _ => ?_)
                  clear hK K
                  try simp only [Act.put, List.setIfInBounds_toArray, List.set_cons_zero, List.set_cons_succ]
                  clear y0 y1 y2 y3 y4 y5 y6 y7 y8
                  refine wpAnyH_ready (rs := [3]) (by kernel_rfl) (by simp) ?_
                  refine (AllReadyH.cons (o := ?ofa15) ?hifa15 (fun K hK => ?stfa15) AllReadyH.nil)
                  case hifa15 => (simp only [List.getElem?_toArray, List.getElem?_cons_succ, List.getElem?_cons_zero]; rfl)
                  case stfa15 =>
                    go_simp
                    go_at_call 23
                    (with_reducible refine (jlack_any j1 q1 fi F w.heap.size _ C.out.jw C.out.off.size KT.out NB.out.1 NB.out.2 EB.out.1 EB.out.2).mono ?_)
                    rintro e wz ⟨q2, rfl, hw2, ho2, hm2⟩
                    dsimp only
                    refine hK.out _ _ (by trivial) (fun _ => ?_)
                    clear hK K
                    try simp only [Act.put, List.setIfInBounds_toArray, List.set_cons_zero, List.set_cons_succ]
                    replace C := Lib.hid (C.out.call (by omega) (by omega) hw2 ho2 hm2)
                    clear hw2 ho2 hm2
                    refine wpAnyH_ready (rs := [4]) (by kernel_rfl) (by simp) ?_
                    refine (AllReadyH.cons (o := ?ofa16) ?hifa16 (fun K hK => ?stfa16) AllReadyH.nil)
                    case hifa16 => (simp only [List.getElem?_toArray, List.getElem?_cons_succ, List.getElem?_cons_zero]; rfl)
                    case stfa16 =>
                      go_simp
                      go_at_call 22
                      (with_reducible refine (jrun_any (jlack j1 fi) q2 M F w.heap.size _ C.out.jw HOKL.out HMM.out C.out.off.size).mono ?_)
                      rintro e wx ⟨q3, rfl, hw3, ho3, hm3⟩
                      dsimp only
                      refine hK.out _ _ (by trivial) (fun _ => ?_)
                      clear hK K
                      try simp only [Act.put, List.setIfInBounds_toArray, List.set_cons_zero, List.set_cons_succ]
                      replace C := Lib.hid (C.out.call (by omega) (by omega) hw3 ho3 hm3)
                      clear hw3 ho3 hm3
                      refine wpAnyH_ready (rs := [5]) (by kernel_rfl) (by simp) ?_
                      refine (AllReadyH.cons (o := ?ofa17) ?hifa17 (fun K hK => ?stfa17) AllReadyH.nil)
                      case hifa17 => (simp only [List.getElem?_toArray, List.getElem?_cons_succ, List.getElem?_cons_zero]; rfl)
                      case stfa17 =>
                        have y0 := C.out.box.c0
                        have y1 := C.out.box.c1
                        have y2 := C.out.box.c2
                        have y3 := C.out.box.c3
                        have y4 := C.out.box.c4
                        have y5 := C.out.box.c5
                        have y6 := C.out.box.c6
                        have y7 := C.out.box.c7
                        have y8 := C.out.box.c8
                        have f0 := C.out.box.fz 0
                        have f1 := C.out.box.fz 1
                        have f2 := C.out.box.fz 2
                        have f3 := C.out.box.fz 3
                        have f4 := C.out.box.fz 4
                        have f5 := C.out.box.fz 5
                        have f6 := C.out.box.fz 6
                        have f7 := C.out.box.fz 7
                        have f8 := C.out.box.fz 8
                        go_simp
                        refine hK.out _ _ (by trivial) (fun _ => ?_)
                        clear hK K
                        try simp only [Act.put, List.setIfInBounds_toArray, List.set_cons_zero, List.set_cons_succ]
                        clear y0 y1 y2 y3 y4 y5 y6 y7 y8 f0 f1 f2 f3 f4 f5 f6 f7 f8
                        replace C := Lib.hid (C.out.s9 (by omega) (by omega))
                        refine wpAnyH_done (by kernel_rfl) ?_ _
                        go_wp2_with fail
                        go_roundw
                        case rel => exact ⟨_, q3, n1 + 1, HJN, Lib.hid HU3.out.1, Lib.hid HU3.out.2.1, C⟩
                        case measure => rw [NX.out, C.out.box.nx]; have := HU3.out.1.n1; have := HU3.out.2.2; omega
          · have hw0 := Lib.hid hw
            have HE := Lib.hid (show jfeed j k p = j1 by rw [HJF.out, ← hn.out]; exact jover_of (by rw [hn.out]; exact jush_none (by rw [C.out.jw.w1]; exact hw0.out)))
            go_upto_region 19 with fail
            clear hw
            have C2 := Lib.hid C.out.drew
            have y0' := C2.out.box.c0
            have y1' := C2.out.box.c1
            have y2' := C2.out.box.c2
            have y3' := C2.out.box.c3
            have y4' := C2.out.box.c4
            have y5' := C2.out.box.c5
            have y6' := C2.out.box.c6
            have y7' := C2.out.box.c7
            have y8' := C2.out.box.c8
            have r0 := C2.out.res.fz 0
            have r1 := C2.out.res.fz 1
            have r2 := C2.out.res.fz 2
            have r3 := C2.out.res.fz 3
            have r4 := C2.out.res.fz 4
            have r5 := C2.out.res.fz 5
            have r6 := C2.out.res.fz 6
            have r7 := C2.out.res.fz 7
            have r8 := C2.out.res.fz 8
            have v0 := C2.out.res.c0
            have v1 := C2.out.res.c1
            have v2 := C2.out.res.c2
            have v3 := C2.out.res.c3
            have v4 := C2.out.res.c4
            have v5 := C2.out.res.c5
            have v6 := C2.out.res.c6
            have v7 := C2.out.res.c7
            have v8 := C2.out.res.c8
            have y0 := C.out.box.c0
            have y2 := C.out.box.c2
            have y3 := C.out.box.c3
            have y5 := C.out.box.c5
            have y6 := C.out.box.c6
            have y7 := C.out.box.c7
            have y8 := C.out.box.c8
            have r0' := C.out.res.fz 0
            have r1' := C.out.res.fz 1
            have r2' := C.out.res.fz 2
            have r3' := C.out.res.fz 3
            have r4' := C.out.res.fz 4
            have r5' := C.out.res.fz 5
            have r6' := C.out.res.fz 6
            have r7' := C.out.res.fz 7
            have r8' := C.out.res.fz 8
            have v0' := C.out.res.c0
            have v1' := C.out.res.c1
            have v2' := C.out.res.c2
            have v3' := C.out.res.c3
            have v4' := C.out.res.c4
            have v5' := C.out.res.c5
            have v6' := C.out.res.c6
            have v7' := C.out.res.c7
            have v8' := C.out.res.c8
            clear y1
            have y1 := C.out.box.c1
            go_region
            clear y0' r0 v0 y0 r0' v0' y1' r1 v1 y1 r1' v1' y2' r2 v2 y2 r2' v2' y3' r3 v3 y3 r3' v3' y4' r4 v4 y4 r4' v4' y5' r5 v5 y5 r5' v5' y6' r6 v6 y6 r6' v6' y7' r7 v7 y7 r7' v7' y8' r8 v8 y8 r8' v8'
            go_wp2_with fail
            rw [HE.out]
            obtain ⟨p1, p2, -, -⟩ := C.out.put (by omega)
            have p5 := C.out.put_below Q0.out
            have p6 := p1.on (Below.refl _ _).drew
            have p7 := (p2.jr fun b hb => .inr hb).on (Below.refl _ _).drew
            have p8 := p5.drew
            refine bodyPost_ret (v := .tuple #[j1.val q1, q1.tv, .int .i64 0]) ?_ rfl ⟨q1, rfl, p7, p8⟩
            exact jres2 rfl _ _ _ _ (w.heap.size + 2) 33 _ _ _ rfl rfl rfl p6 Tryd.underlying33 (by kernel_rfl)
      · have HW1 := Lib.hid w1
        have HW2 := Lib.hid w2
        clear w1
        go_upto_region 14 with fail
        clear y5 w2
        go_cut [] from 75 to 84 (fun wx => ∃ qb qr, Hid (JC G F 3 2 w.heap.size w wx q0 { j with last := LS, wait := j.wait ++ [(pl, p)] } qb { j with told := [], last := LS, wait := j.wait ++ [(pl, p)] } qr) ∧ Hid ({ qb with ta := none, tn := 0, tc := 0 } = qr))
        case first =>
          refine wp_region_held_drew (S := (fun W' => W'.cell? ⟨w.heap.size + 1, 0, none⟩ = some (.bool p.b) ∧ W'.cell? ⟨w.heap.size + 1, 1, none⟩ = some (.bool p.e) ∧ W'.cell? ⟨w.heap.size + 1, 2, none⟩ = some (.int .i64 p.n) ∧ W'.cell? ⟨w.heap.size + 1, 3, none⟩ = some (.slice A n c))) (by kernel_rfl) (by first | exact ⟨(C.out.step BR.out).pc.c0, (C.out.step BR.out).pc.c1, (C.out.step BR.out).pc.c2, (C.out.step BR.out).pc.c3⟩ | exact ⟨C.out.pc.c0, C.out.pc.c1, C.out.pc.c2, C.out.pc.c3⟩) (fun _ => ?_)
          refine at_worldJ (fun W => Hid (JT G F w.heap.size w W q0 p A n c { j with last := LS } { q with la := some ⟨g, 0, none⟩, ln := q.ln, lc := c9 } { j with told := [], last := LS } { q with ta := none, tn := 0, tc := 0, la := some ⟨g, 0, none⟩, ln := q.ln, lc := c9 })) (Lib.hid C.out.drew) ?_
          clear C
          rintro Wd C
          have HL8 := Lib.hid (show (([] : List (Int × Pc)) ++ j.wait ++ [(pl, p)]).length = q.wn + 1 by rw [List.length_append, List.nil_append, HWL.out]; rfl)
          have RWD := Lib.hid (show Rws shC (fun b => ((F b ∧ (Jp.tv { q with ta := none, tn := 0, tc := 0, la := some ⟨g, 0, none⟩, ln := q.ln, lc := c9 }).ownBlock ≠ some b)) ∧ b < Wd.heap.size) Wd q.wa j.wait from C.out.jc.jw.rw.mono fun b hb h => ⟨h, hb⟩)
          have PDD := Lib.hid (show RdF (fun b => ((F b ∧ (Jp.tv { q with ta := none, tn := 0, tc := 0, la := some ⟨g, 0, none⟩, ln := q.ln, lc := c9 }).ownBlock ≠ some b)) ∧ b < Wd.heap.size) Wd A p.d from C.out.pd.mono fun b hb h => ⟨h, hb⟩)
          refine at_worldJ (fun W => Hid (Below Wd.heap.size Wd W)) (Lib.hid (Below.refl _ _)) ?_
          rintro W BR
          refine wpAnyH_take (i := 1) (oi := ?ow1) (v := ?vw1) ?hiw1 (by kernel_rfl) (by kernel_rfl) (by kernel_rfl) ?hqw1 (Or.inl ⟨?hww1, ?hyw1⟩) (by first | exact ⟨(C.out.step BR.out).pc.c0, (C.out.step BR.out).pc.c1, (C.out.step BR.out).pc.c2, (C.out.step BR.out).pc.c3⟩ | exact ⟨C.out.pc.c0, C.out.pc.c1, C.out.pc.c2, C.out.pc.c3⟩) ?restw1
          case hiw1 => (simp only [List.getElem?_toArray, List.getElem?_cons_succ, List.getElem?_cons_zero]; rfl)
          case hww1 => (rfl)
          case hqw1 => (exact fun _ _ _ h => h)
          case hyw1 => (intro w' hSw; obtain ⟨s0, s1, s2, s3⟩ := hSw; go_simp; (try with_reducible rfl))
          try simp only [Act.put, List.setIfInBounds_toArray, List.set_cons_zero, List.set_cons_succ]
          refine wpAnyH_take (i := 4) (oi := ?ow2) (v := ?vw2) ?hiw2 (by kernel_rfl) (by kernel_rfl) (by kernel_rfl) ?hqw2 (Or.inl ⟨?hww2, ?hyw2⟩) (by first | exact ⟨(C.out.step BR.out).pc.c0, (C.out.step BR.out).pc.c1, (C.out.step BR.out).pc.c2, (C.out.step BR.out).pc.c3⟩ | exact ⟨C.out.pc.c0, C.out.pc.c1, C.out.pc.c2, C.out.pc.c3⟩) ?restw2
          case hiw2 => (simp only [List.getElem?_toArray, List.getElem?_cons_succ, List.getElem?_cons_zero]; rfl)
          case hww2 => (rfl)
          case hqw2 => (exact fun _ _ _ h => h)
          case hyw2 => (intro w' hSw; obtain ⟨s0, s1, s2, s3⟩ := hSw; go_simp; (try with_reducible rfl))
          try simp only [Act.put, List.setIfInBounds_toArray, List.set_cons_zero, List.set_cons_succ]
          refine wpAnyH_take (i := 5) (oi := ?ow3) (v := ?vw3) ?hiw3 (by kernel_rfl) (by kernel_rfl) (by kernel_rfl) ?hqw3 (Or.inl ⟨?hww3, ?hyw3⟩) (by first | exact ⟨(C.out.step BR.out).pc.c0, (C.out.step BR.out).pc.c1, (C.out.step BR.out).pc.c2, (C.out.step BR.out).pc.c3⟩ | exact ⟨C.out.pc.c0, C.out.pc.c1, C.out.pc.c2, C.out.pc.c3⟩) ?restw3
          case hiw3 => (simp only [List.getElem?_toArray, List.getElem?_cons_succ, List.getElem?_cons_zero]; rfl)
          case hww3 => (rfl)
          case hqw3 => (exact fun _ _ _ h => h)
          case hyw3 => (intro w' hSw; obtain ⟨s0, s1, s2, s3⟩ := hSw; go_simp; (try with_reducible rfl))
          try simp only [Act.put, List.setIfInBounds_toArray, List.set_cons_zero, List.set_cons_succ]
          refine wpAnyH_take (i := 6) (oi := ?ow4) (v := ?vw4) ?hiw4 (by kernel_rfl) (by kernel_rfl) (by kernel_rfl) ?hqw4 (Or.inl ⟨?hww4, ?hyw4⟩) (by first | exact ⟨(C.out.step BR.out).pc.c0, (C.out.step BR.out).pc.c1, (C.out.step BR.out).pc.c2, (C.out.step BR.out).pc.c3⟩ | exact ⟨C.out.pc.c0, C.out.pc.c1, C.out.pc.c2, C.out.pc.c3⟩) ?restw4
          case hiw4 => (simp only [List.getElem?_toArray, List.getElem?_cons_succ, List.getElem?_cons_zero]; rfl)
          case hww4 => (rfl)
          case hqw4 => (exact fun _ _ _ h => h)
          case hyw4 => (intro w' hSw; obtain ⟨s0, s1, s2, s3⟩ := hSw; go_simp; (try with_reducible rfl))
          try simp only [Act.put, List.setIfInBounds_toArray, List.set_cons_zero, List.set_cons_succ]
          refine wpAnyH_ready (rs := [0, 2, 7]) (by kernel_rfl) (by simp) ?_
          refine (AllReadyH.cons (o := ?ow7) ?hiw7 (fun K hK => ?stw7) (AllReadyH.cons (o := ?ow6) ?hiw6 (fun K hK => ?stw6) (AllReadyH.cons (o := ?ow5) ?hiw5 (fun K hK => ?stw5) AllReadyH.nil)))
          case hiw7 => (simp only [List.getElem?_toArray, List.getElem?_cons_zero]; rfl)
          case hiw6 => (simp only [List.getElem?_toArray, List.getElem?_cons_succ, List.getElem?_cons_zero]; rfl)
          case hiw5 => (simp only [List.getElem?_toArray, List.getElem?_cons_succ, List.getElem?_cons_zero]; rfl)
          case stw7 =>
            go_simp
            refine hK.out _ _ (by exact ⟨(C.out.step (BR.out.alloc BR.out.size (.cells #[] 81))).pc.c0, (C.out.step (BR.out.alloc BR.out.size (.cells #[] 81))).pc.c1, (C.out.step (BR.out.alloc BR.out.size (.cells #[] 81))).pc.c2, (C.out.step (BR.out.alloc BR.out.size (.cells #[] 81))).pc.c3⟩) (fun _ => ?_)
            clear hK K
            try simp only [Act.put, List.setIfInBounds_toArray, List.set_cons_zero, List.set_cons_succ]
            obtain ⟨z1, hz1'⟩ : ∃ z, W.heap.size = z := ⟨_, rfl⟩
            have HZ1 := Lib.hid (show Wd.heap.size ≤ z1 by rw [← hz1']; exact BR.out.size)
            have O0 := Lib.hid ((litc0 (F := (fun b => F b ∧ (Jp.tv { q with ta := none, tn := 0, tc := 0, la := some ⟨g, 0, none⟩, ln := q.ln, lc := c9 }).ownBlock ≠ some b)) W (T := 81)).lo BR.out.size)
            rw [hz1'] at O0
            rw [hz1']
            refine at_worldJ (fun W => Hid (Below Wd.heap.size Wd W) ∧ Hid (Orw shC 81 (fun b => F b ∧ (Jp.tv { q with ta := none, tn := 0, tc := 0, la := some ⟨g, 0, none⟩, ln := q.ln, lc := c9 }).ownBlock ≠ some b) Wd.heap.size W (.slice (some ⟨z1, 0, none⟩) 0 0) [])) ⟨Lib.hid (BR.out.alloc BR.out.size _), O0⟩ ?_
            clear O0 BR hz1'
            rintro W ⟨BR, OW⟩
            refine wpAnyH_ready (rs := [2, 7]) (by kernel_rfl) (by simp) ?_
            refine (AllReadyH.cons (o := ?ow9) ?hiw9 (fun K hK => ?stw9) (AllReadyH.cons (o := ?ow8) ?hiw8 (fun K hK => ?stw8) AllReadyH.nil))
            case hiw9 => (simp only [List.getElem?_toArray, List.getElem?_cons_succ, List.getElem?_cons_zero]; rfl)
            case hiw8 => (simp only [List.getElem?_toArray, List.getElem?_cons_succ, List.getElem?_cons_zero]; rfl)
            case stw9 =>
              have x9 := (C.out.step BR.out).jc.box.c4
              go_simp
              refine hK.out _ _ (by exact ⟨(C.out.step BR.out).pc.c0, (C.out.step BR.out).pc.c1, (C.out.step BR.out).pc.c2, (C.out.step BR.out).pc.c3⟩) (fun _ => ?_)
              clear hK K
              try simp only [Act.put, List.setIfInBounds_toArray, List.set_cons_zero, List.set_cons_succ]
              clear x9
              refine wpAnyH_ready (rs := [3, 7]) (by kernel_rfl) (by simp) ?_
              refine (AllReadyH.cons (o := ?ow11) ?hiw11 (fun K hK => ?stw11) (AllReadyH.cons (o := ?ow10) ?hiw10 (fun K hK => ?stw10) AllReadyH.nil))
              case hiw11 => (simp only [List.getElem?_toArray, List.getElem?_cons_succ, List.getElem?_cons_zero]; rfl)
              case hiw10 => (simp only [List.getElem?_toArray, List.getElem?_cons_succ, List.getElem?_cons_zero]; rfl)
              case stw11 =>
                refine step_rows shC _ (by rfl) _ _ _ (by rfl) 81 u0 (.agg #[.int .i64 0, .bool false, .bool false, .int .i64 0, .slice none 0 0]) 48 Tryd.underlying29 ui uz0 uz1 uz2 rfl (by decide) (fun b => F b ∧ (Jp.tv { q with ta := none, tn := 0, tc := 0, la := some ⟨g, 0, none⟩, ln := q.ln, lc := c9 }).ownBlock ≠ some b) _ Wd.heap.size _ 0 [] (by rfl) OW.out rfl _ q.wn _ j.wait (by rfl) (RWD.out.below BR.out) HWL.out (fun b _ hb => ⟨hb.1, fun e => absurd (OW.out.lt e).1 (Nat.not_le.2 hb.2)⟩) (by unfold maxLen; have := HWN.out; omega) (by have := HWN.out; omega) BR.out.size ?_
                intro v7 w7 ho7 hg7 hm7
                have BR' := Lib.hid (BR.out.grown hg7 BR.out.size (fun g hg => (OW.out.lt hg).1))
                refine hK.out _ _ (by exact ⟨(C.out.step BR'.out).pc.c0, (C.out.step BR'.out).pc.c1, (C.out.step BR'.out).pc.c2, (C.out.step BR'.out).pc.c3⟩) (fun _ => ?_)
                clear hK K
                try simp only [Act.put, List.setIfInBounds_toArray, List.set_cons_zero, List.set_cons_succ]
                replace BR := BR'
                clear BR'
                replace OW := Lib.hid ho7
                clear ho7 hg7 hm7
                refine at_worldJ (fun W => Hid (Below Wd.heap.size Wd W) ∧ Hid (Orw shC 81 (fun b => F b ∧ (Jp.tv { q with ta := none, tn := 0, tc := 0, la := some ⟨g, 0, none⟩, ln := q.ln, lc := c9 }).ownBlock ≠ some b) Wd.heap.size W v7 ([] ++ j.wait))) ⟨BR, OW⟩ ?_
                clear BR OW
                rintro W ⟨BR, OW⟩
                refine wpAnyH_ready (rs := [7]) (by kernel_rfl) (by simp) ?_
                refine (AllReadyH.cons (o := ?ow12) ?hiw12 (fun K hK => ?stw12) AllReadyH.nil)
                case hiw12 => (simp only [List.getElem?_toArray, List.getElem?_cons_succ, List.getElem?_cons_zero]; rfl)
                case stw12 =>
                  go_simp
                  refine hK.out _ _ (by exact ⟨(C.out.step (BR.out.alloc BR.out.size (.cells #[.int .i64 pl, .bool p.b, .bool p.e, .int .i64 p.n, .slice A n c] 81))).pc.c0, (C.out.step (BR.out.alloc BR.out.size (.cells #[.int .i64 pl, .bool p.b, .bool p.e, .int .i64 p.n, .slice A n c] 81))).pc.c1, (C.out.step (BR.out.alloc BR.out.size (.cells #[.int .i64 pl, .bool p.b, .bool p.e, .int .i64 p.n, .slice A n c] 81))).pc.c2, (C.out.step (BR.out.alloc BR.out.size (.cells #[.int .i64 pl, .bool p.b, .bool p.e, .int .i64 p.n, .slice A n c] 81))).pc.c3⟩) (fun _ => ?_)
                  clear hK K
                  try simp only [Act.put, List.setIfInBounds_toArray, List.set_cons_zero, List.set_cons_succ]
                  obtain ⟨zl, hzl⟩ : ∃ z, W.heap.size = z := ⟨_, rfl⟩
                  have L0 := Lib.hid (((litc (T := 81) W (b := p.b) (e := p.e) (p := pl) (x := p.n) HN.out HNC.out (PDD.out.keep (.of_below BR.out))).read).mono (G := fun b => ((F b ∧ (Jp.tv { q with ta := none, tn := 0, tc := 0, la := some ⟨g, 0, none⟩, ln := q.ln, lc := c9 }).ownBlock ≠ some b)) ∧ (b < Wd.heap.size ∨ b = W.heap.size)) fun b hb h => h.elim (fun h => ⟨h.1, .inl h.2⟩) (fun h => ⟨C.out.jc.fresh b (Nat.le_trans BR.out.size h), .inr (by simp at hb; omega)⟩))
                  rw [hzl] at L0
                  have NZ := Lib.hid (show ∀ g, v7.ownBlock = some g → g ≠ zl from fun g hg e => by have := (OW.out.lt hg).2; omega)
                  rw [hzl]
                  refine at_worldJ (fun W => Hid (Below Wd.heap.size Wd W) ∧ Hid (Rws shC (fun b => ((F b ∧ (Jp.tv { q with ta := none, tn := 0, tc := 0, la := some ⟨g, 0, none⟩, ln := q.ln, lc := c9 }).ownBlock ≠ some b)) ∧ (b < Wd.heap.size ∨ b = zl)) W (some ⟨zl, 0, none⟩) [(pl, p)]) ∧ Hid (zl < W.heap.size) ∧ Hid (Orw shC 81 (fun b => F b ∧ (Jp.tv { q with ta := none, tn := 0, tc := 0, la := some ⟨g, 0, none⟩, ln := q.ln, lc := c9 }).ownBlock ≠ some b) Wd.heap.size W v7 ([] ++ j.wait))) ⟨Lib.hid (BR.out.alloc BR.out.size _), L0, Lib.hid (by simp; omega), Lib.hid (OW.out.below ((Below.refl _ _).alloc (Nat.le_refl _) _))⟩ ?_
                  clear L0 BR hzl OW
                  rintro W ⟨BR, LB, ZL, OW⟩
                  refine wpAnyH_ready (rs := [8]) (by kernel_rfl) (by simp) ?_
                  refine (AllReadyH.cons (o := ?ow13) ?hiw13 (fun K hK => ?stw13) AllReadyH.nil)
                  case hiw13 => (simp only [List.getElem?_toArray, List.getElem?_cons_succ, List.getElem?_cons_zero]; rfl)
                  case stw13 =>
                    refine step_rows shC _ (by rfl) _ _ _ (by rfl) 81 u0 (.agg #[.int .i64 0, .bool false, .bool false, .int .i64 0, .slice none 0 0]) 48 Tryd.underlying29 ui uz0 uz1 uz2 rfl (by decide) (fun b => F b ∧ (Jp.tv { q with ta := none, tn := 0, tc := 0, la := some ⟨g, 0, none⟩, ln := q.ln, lc := c9 }).ownBlock ≠ some b) _ Wd.heap.size _ q.wn ([] ++ j.wait) (by rfl) OW.out HWL.out _ 1 1 [(pl, p)] (by rfl) LB.out rfl (fun b _ hb => ⟨hb.1, fun e => by rcases hb.2 with h | h; exact absurd (OW.out.lt e).1 (Nat.not_le.2 h); exact NZ.out b e h⟩) (by unfold maxLen; have := HWN.out; omega) (by have := HWN.out; omega) BR.out.size ?_
                    intro v8 w8 ho8 hg8 hm8
                    have BR' := Lib.hid (BR.out.grown hg8 BR.out.size (fun g hg => (OW.out.lt hg).1))
                    obtain ⟨A8, c8, hv8, -, -, hr8⟩ := ho8.slice
                    rw [HL8.out] at hv8
                    subst hv8
                    refine hK.out _ _ (by exact ⟨(C.out.step BR'.out).pc.c0, (C.out.step BR'.out).pc.c1, (C.out.step BR'.out).pc.c2, (C.out.step BR'.out).pc.c3⟩) (fun _ => ?_)
                    clear hK K
                    try simp only [Act.put, List.setIfInBounds_toArray, List.set_cons_zero, List.set_cons_succ]
                    replace BR := BR'
                    clear BR' OW LB NZ ZL
                    have R8 := Lib.hid (hr8.mono (G := (fun b => F b ∧ (Jp.tv { q with ta := none, tn := 0, tc := 0, la := some ⟨g, 0, none⟩, ln := q.ln, lc := c9 }).ownBlock ≠ some b)) fun b _ hb => hb.elim id fun hb => C.out.jc.fresh b hb)
                    clear ho8 hg8 hm8 hr8
                    have C8 := Lib.hid ((C.out.step BR.out).jc.s4w (by omega) (by omega) A8 (q.wn + 1) c8 ([] ++ j.wait ++ [(pl, p)]) (by rw [List.length_append, List.nil_append]; show j.wait.length + 1 = _; rw [HWL.out]) R8.out)
                    have P8 := Lib.hid ((C.out.step BR.out).pcs 4 (.slice A8 (q.wn + 1) c8))
                    refine wpAnyH_take (i := 9) (oi := ?ow14) (v := ?vw14) ?hiw14 (by kernel_rfl) (by kernel_rfl) (by kernel_rfl) ?hqw14 (Or.inl ⟨?hww14, ?hyw14⟩) (by exact ⟨(C.out.step BR.out).pc.c0, (C.out.step BR.out).pc.c1, (C.out.step BR.out).pc.c2, (C.out.step BR.out).pc.c3⟩) ?restw14
                    case hiw14 => (simp only [List.getElem?_toArray, List.getElem?_cons_succ, List.getElem?_cons_zero]; rfl)
                    case hww14 => (rfl)
                    case hqw14 => (exact fun _ _ _ h => h)
                    case hyw14 => (intro w' hSw; obtain ⟨s0, s1, s2, s3⟩ := hSw; go_simp; (try with_reducible rfl))
                    try simp only [Act.put, List.setIfInBounds_toArray, List.set_cons_zero, List.set_cons_succ]
                    refine wpAnyH_ready (rs := [10]) (by kernel_rfl) (by simp) ?_
                    refine (AllReadyH.cons (o := ?ow15) ?hiw15 (fun K hK => ?stw15) AllReadyH.nil)
                    case hiw15 => (simp only [List.getElem?_toArray, List.getElem?_cons_succ, List.getElem?_cons_zero]; rfl)
                    case stw15 =>
                      have u9 := (C.out.step BR.out).jc.box.c4
                      have z9 := (C.out.step BR.out).jc.box.fz 4
                      go_simp
                      refine hK.out _ _ (by exact ⟨P8.out.c0, P8.out.c1, P8.out.c2, P8.out.c3⟩) (fun _ => ?_)
                      clear hK K
                      try simp only [Act.put, List.setIfInBounds_toArray, List.set_cons_zero, List.set_cons_succ]
                      clear u9 z9
                      refine wpAnyH_done (by kernel_rfl) ?_ _
                      (try go_wp2_with fail)
                      go_meet
                      exact ⟨_, _, C8, Lib.hid rfl⟩
              case stw10 =>
                go_simp
                refine hK.out _ _ (by exact ⟨(C.out.step (BR.out.alloc BR.out.size (.cells #[.int .i64 pl, .bool p.b, .bool p.e, .int .i64 p.n, .slice A n c] 81))).pc.c0, (C.out.step (BR.out.alloc BR.out.size (.cells #[.int .i64 pl, .bool p.b, .bool p.e, .int .i64 p.n, .slice A n c] 81))).pc.c1, (C.out.step (BR.out.alloc BR.out.size (.cells #[.int .i64 pl, .bool p.b, .bool p.e, .int .i64 p.n, .slice A n c] 81))).pc.c2, (C.out.step (BR.out.alloc BR.out.size (.cells #[.int .i64 pl, .bool p.b, .bool p.e, .int .i64 p.n, .slice A n c] 81))).pc.c3⟩) (fun _ => ?_)
                clear hK K
                try simp only [Act.put, List.setIfInBounds_toArray, List.set_cons_zero, List.set_cons_succ]
                obtain ⟨zl, hzl⟩ : ∃ z, W.heap.size = z := ⟨_, rfl⟩
                have L0 := Lib.hid (((litc (T := 81) W (b := p.b) (e := p.e) (p := pl) (x := p.n) HN.out HNC.out (PDD.out.keep (.of_below BR.out))).read).mono (G := fun b => ((F b ∧ (Jp.tv { q with ta := none, tn := 0, tc := 0, la := some ⟨g, 0, none⟩, ln := q.ln, lc := c9 }).ownBlock ≠ some b)) ∧ (b < Wd.heap.size ∨ b = W.heap.size)) fun b hb h => h.elim (fun h => ⟨h.1, .inl h.2⟩) (fun h => ⟨C.out.jc.fresh b (Nat.le_trans BR.out.size h), .inr (by simp at hb; omega)⟩))
                rw [hzl] at L0
                have NZ := Lib.hid (show ∀ g, (Value.slice (some ⟨z1, 0, none⟩) 0 0).ownBlock = some g → g ≠ zl from fun g hg e => by have := (OW.out.lt hg).2; omega)
                rw [hzl]
                refine at_worldJ (fun W => Hid (Below Wd.heap.size Wd W) ∧ Hid (Rws shC (fun b => ((F b ∧ (Jp.tv { q with ta := none, tn := 0, tc := 0, la := some ⟨g, 0, none⟩, ln := q.ln, lc := c9 }).ownBlock ≠ some b)) ∧ (b < Wd.heap.size ∨ b = zl)) W (some ⟨zl, 0, none⟩) [(pl, p)]) ∧ Hid (zl < W.heap.size) ∧ Hid (Orw shC 81 (fun b => F b ∧ (Jp.tv { q with ta := none, tn := 0, tc := 0, la := some ⟨g, 0, none⟩, ln := q.ln, lc := c9 }).ownBlock ≠ some b) Wd.heap.size W (Value.slice (some ⟨z1, 0, none⟩) 0 0) [])) ⟨Lib.hid (BR.out.alloc BR.out.size _), L0, Lib.hid (by simp; omega), Lib.hid (OW.out.below ((Below.refl _ _).alloc (Nat.le_refl _) _))⟩ ?_
                clear L0 BR hzl OW
                rintro W ⟨BR, LB, ZL, OW⟩
                refine wpAnyH_ready (rs := [3]) (by kernel_rfl) (by simp) ?_
                refine (AllReadyH.cons (o := ?ow16) ?hiw16 (fun K hK => ?stw16) AllReadyH.nil)
                case hiw16 => (simp only [List.getElem?_toArray, List.getElem?_cons_succ, List.getElem?_cons_zero]; rfl)
                case stw16 =>
                  refine step_rows shC _ (by rfl) _ _ _ (by rfl) 81 u0 (.agg #[.int .i64 0, .bool false, .bool false, .int .i64 0, .slice none 0 0]) 48 Tryd.underlying29 ui uz0 uz1 uz2 rfl (by decide) (fun b => F b ∧ (Jp.tv { q with ta := none, tn := 0, tc := 0, la := some ⟨g, 0, none⟩, ln := q.ln, lc := c9 }).ownBlock ≠ some b) _ Wd.heap.size _ 0 [] (by rfl) OW.out rfl _ q.wn _ j.wait (by rfl) (RWD.out.below BR.out) HWL.out (fun b _ hb => ⟨hb.1, fun e => absurd (OW.out.lt e).1 (Nat.not_le.2 hb.2)⟩) (by unfold maxLen; have := HWN.out; omega) (by have := HWN.out; omega) BR.out.size ?_
                  intro v7 w7 ho7 hg7 hm7
                  have BR' := Lib.hid (BR.out.grown hg7 BR.out.size (fun g hg => (OW.out.lt hg).1))
                  have LB' := Lib.hid (LB.out.keep (.of_grown hg7 fun b hb e => by rcases hb.2 with h | h; exact absurd (OW.out.lt e).1 (Nat.not_le.2 h); exact NZ.out b e h))
                  have NZ' := Lib.hid (show ∀ g, v7.ownBlock = some g → g ≠ zl from fun g hg e => by rcases hm7 g hg with h | h; exact NZ.out g h e; have := ZL.out; omega)
                  have ZL' := Lib.hid (Nat.lt_of_lt_of_le ZL.out hg7.size)
                  refine hK.out _ _ (by exact ⟨(C.out.step BR'.out).pc.c0, (C.out.step BR'.out).pc.c1, (C.out.step BR'.out).pc.c2, (C.out.step BR'.out).pc.c3⟩) (fun _ => ?_)
                  clear hK K
                  try simp only [Act.put, List.setIfInBounds_toArray, List.set_cons_zero, List.set_cons_succ]
                  replace BR := BR'
                  clear BR'
                  replace LB := LB'
                  replace NZ := NZ'
                  replace ZL := ZL'
                  clear LB' NZ' ZL'
                  replace OW := Lib.hid ho7
                  clear ho7 hg7 hm7
                  refine at_worldJ (fun W => Hid (Below Wd.heap.size Wd W) ∧ Hid (Orw shC 81 (fun b => F b ∧ (Jp.tv { q with ta := none, tn := 0, tc := 0, la := some ⟨g, 0, none⟩, ln := q.ln, lc := c9 }).ownBlock ≠ some b) Wd.heap.size W v7 ([] ++ j.wait)) ∧ Hid (Rws shC (fun b => ((F b ∧ (Jp.tv { q with ta := none, tn := 0, tc := 0, la := some ⟨g, 0, none⟩, ln := q.ln, lc := c9 }).ownBlock ≠ some b)) ∧ (b < Wd.heap.size ∨ b = zl)) W (some ⟨zl, 0, none⟩) [(pl, p)]) ∧ Hid (zl < W.heap.size)) ⟨BR, OW, LB, ZL⟩ ?_
                  clear BR OW LB ZL
                  rintro W ⟨BR, OW, LB, ZL⟩
                  refine wpAnyH_ready (rs := [8]) (by kernel_rfl) (by simp) ?_
                  refine (AllReadyH.cons (o := ?ow17) ?hiw17 (fun K hK => ?stw17) AllReadyH.nil)
                  case hiw17 => (simp only [List.getElem?_toArray, List.getElem?_cons_succ, List.getElem?_cons_zero]; rfl)
                  case stw17 =>
                    refine step_rows shC _ (by rfl) _ _ _ (by rfl) 81 u0 (.agg #[.int .i64 0, .bool false, .bool false, .int .i64 0, .slice none 0 0]) 48 Tryd.underlying29 ui uz0 uz1 uz2 rfl (by decide) (fun b => F b ∧ (Jp.tv { q with ta := none, tn := 0, tc := 0, la := some ⟨g, 0, none⟩, ln := q.ln, lc := c9 }).ownBlock ≠ some b) _ Wd.heap.size _ q.wn ([] ++ j.wait) (by rfl) OW.out HWL.out _ 1 1 [(pl, p)] (by rfl) LB.out rfl (fun b _ hb => ⟨hb.1, fun e => by rcases hb.2 with h | h; exact absurd (OW.out.lt e).1 (Nat.not_le.2 h); exact NZ.out b e h⟩) (by unfold maxLen; have := HWN.out; omega) (by have := HWN.out; omega) BR.out.size ?_
                    intro v8 w8 ho8 hg8 hm8
                    have BR' := Lib.hid (BR.out.grown hg8 BR.out.size (fun g hg => (OW.out.lt hg).1))
                    obtain ⟨A8, c8, hv8, -, -, hr8⟩ := ho8.slice
                    rw [HL8.out] at hv8
                    subst hv8
                    refine hK.out _ _ (by exact ⟨(C.out.step BR'.out).pc.c0, (C.out.step BR'.out).pc.c1, (C.out.step BR'.out).pc.c2, (C.out.step BR'.out).pc.c3⟩) (fun _ => ?_)
                    clear hK K
                    try simp only [Act.put, List.setIfInBounds_toArray, List.set_cons_zero, List.set_cons_succ]
                    replace BR := BR'
                    clear BR' OW LB NZ ZL
                    have R8 := Lib.hid (hr8.mono (G := (fun b => F b ∧ (Jp.tv { q with ta := none, tn := 0, tc := 0, la := some ⟨g, 0, none⟩, ln := q.ln, lc := c9 }).ownBlock ≠ some b)) fun b _ hb => hb.elim id fun hb => C.out.jc.fresh b hb)
                    clear ho8 hg8 hm8 hr8
                    have C8 := Lib.hid ((C.out.step BR.out).jc.s4w (by omega) (by omega) A8 (q.wn + 1) c8 ([] ++ j.wait ++ [(pl, p)]) (by rw [List.length_append, List.nil_append]; show j.wait.length + 1 = _; rw [HWL.out]) R8.out)
                    have P8 := Lib.hid ((C.out.step BR.out).pcs 4 (.slice A8 (q.wn + 1) c8))
                    refine wpAnyH_take (i := 9) (oi := ?ow18) (v := ?vw18) ?hiw18 (by kernel_rfl) (by kernel_rfl) (by kernel_rfl) ?hqw18 (Or.inl ⟨?hww18, ?hyw18⟩) (by exact ⟨(C.out.step BR.out).pc.c0, (C.out.step BR.out).pc.c1, (C.out.step BR.out).pc.c2, (C.out.step BR.out).pc.c3⟩) ?restw18
                    case hiw18 => (simp only [List.getElem?_toArray, List.getElem?_cons_succ, List.getElem?_cons_zero]; rfl)
                    case hww18 => (rfl)
                    case hqw18 => (exact fun _ _ _ h => h)
                    case hyw18 => (intro w' hSw; obtain ⟨s0, s1, s2, s3⟩ := hSw; go_simp; (try with_reducible rfl))
                    try simp only [Act.put, List.setIfInBounds_toArray, List.set_cons_zero, List.set_cons_succ]
                    refine wpAnyH_ready (rs := [10]) (by kernel_rfl) (by simp) ?_
                    refine (AllReadyH.cons (o := ?ow19) ?hiw19 (fun K hK => ?stw19) AllReadyH.nil)
                    case hiw19 => (simp only [List.getElem?_toArray, List.getElem?_cons_succ, List.getElem?_cons_zero]; rfl)
                    case stw19 =>
                      have u9 := (C.out.step BR.out).jc.box.c4
                      have z9 := (C.out.step BR.out).jc.box.fz 4
                      go_simp
                      refine hK.out _ _ (by exact ⟨P8.out.c0, P8.out.c1, P8.out.c2, P8.out.c3⟩) (fun _ => ?_)
                      clear hK K
                      try simp only [Act.put, List.setIfInBounds_toArray, List.set_cons_zero, List.set_cons_succ]
                      clear u9 z9
                      refine wpAnyH_done (by kernel_rfl) ?_ _
                      (try go_wp2_with fail)
                      go_meet
                      exact ⟨_, _, C8, Lib.hid rfl⟩
            case stw8 =>
              go_simp
              refine hK.out _ _ (by exact ⟨(C.out.step (BR.out.alloc BR.out.size (.cells #[.int .i64 pl, .bool p.b, .bool p.e, .int .i64 p.n, .slice A n c] 81))).pc.c0, (C.out.step (BR.out.alloc BR.out.size (.cells #[.int .i64 pl, .bool p.b, .bool p.e, .int .i64 p.n, .slice A n c] 81))).pc.c1, (C.out.step (BR.out.alloc BR.out.size (.cells #[.int .i64 pl, .bool p.b, .bool p.e, .int .i64 p.n, .slice A n c] 81))).pc.c2, (C.out.step (BR.out.alloc BR.out.size (.cells #[.int .i64 pl, .bool p.b, .bool p.e, .int .i64 p.n, .slice A n c] 81))).pc.c3⟩) (fun _ => ?_)
              clear hK K
              try simp only [Act.put, List.setIfInBounds_toArray, List.set_cons_zero, List.set_cons_succ]
              obtain ⟨zl, hzl⟩ : ∃ z, W.heap.size = z := ⟨_, rfl⟩
              have L0 := Lib.hid (((litc (T := 81) W (b := p.b) (e := p.e) (p := pl) (x := p.n) HN.out HNC.out (PDD.out.keep (.of_below BR.out))).read).mono (G := fun b => ((F b ∧ (Jp.tv { q with ta := none, tn := 0, tc := 0, la := some ⟨g, 0, none⟩, ln := q.ln, lc := c9 }).ownBlock ≠ some b)) ∧ (b < Wd.heap.size ∨ b = W.heap.size)) fun b hb h => h.elim (fun h => ⟨h.1, .inl h.2⟩) (fun h => ⟨C.out.jc.fresh b (Nat.le_trans BR.out.size h), .inr (by simp at hb; omega)⟩))
              rw [hzl] at L0
              have NZ := Lib.hid (show ∀ g, (Value.slice (some ⟨z1, 0, none⟩) 0 0).ownBlock = some g → g ≠ zl from fun g hg e => by have := (OW.out.lt hg).2; omega)
              rw [hzl]
              refine at_worldJ (fun W => Hid (Below Wd.heap.size Wd W) ∧ Hid (Rws shC (fun b => ((F b ∧ (Jp.tv { q with ta := none, tn := 0, tc := 0, la := some ⟨g, 0, none⟩, ln := q.ln, lc := c9 }).ownBlock ≠ some b)) ∧ (b < Wd.heap.size ∨ b = zl)) W (some ⟨zl, 0, none⟩) [(pl, p)]) ∧ Hid (zl < W.heap.size) ∧ Hid (Orw shC 81 (fun b => F b ∧ (Jp.tv { q with ta := none, tn := 0, tc := 0, la := some ⟨g, 0, none⟩, ln := q.ln, lc := c9 }).ownBlock ≠ some b) Wd.heap.size W (Value.slice (some ⟨z1, 0, none⟩) 0 0) [])) ⟨Lib.hid (BR.out.alloc BR.out.size _), L0, Lib.hid (by simp; omega), Lib.hid (OW.out.below ((Below.refl _ _).alloc (Nat.le_refl _) _))⟩ ?_
              clear L0 BR hzl OW
              rintro W ⟨BR, LB, ZL, OW⟩
              refine wpAnyH_ready (rs := [2]) (by kernel_rfl) (by simp) ?_
              refine (AllReadyH.cons (o := ?ow20) ?hiw20 (fun K hK => ?stw20) AllReadyH.nil)
              case hiw20 => (simp only [List.getElem?_toArray, List.getElem?_cons_succ, List.getElem?_cons_zero]; rfl)
              case stw20 =>
                have x9 := (C.out.step BR.out).jc.box.c4
                go_simp
                refine hK.out _ _ (by exact ⟨(C.out.step BR.out).pc.c0, (C.out.step BR.out).pc.c1, (C.out.step BR.out).pc.c2, (C.out.step BR.out).pc.c3⟩) (fun _ => ?_)
                clear hK K
                try simp only [Act.put, List.setIfInBounds_toArray, List.set_cons_zero, List.set_cons_succ]
                clear x9
                refine wpAnyH_ready (rs := [3]) (by kernel_rfl) (by simp) ?_
                refine (AllReadyH.cons (o := ?ow21) ?hiw21 (fun K hK => ?stw21) AllReadyH.nil)
                case hiw21 => (simp only [List.getElem?_toArray, List.getElem?_cons_succ, List.getElem?_cons_zero]; rfl)
                case stw21 =>
                  refine step_rows shC _ (by rfl) _ _ _ (by rfl) 81 u0 (.agg #[.int .i64 0, .bool false, .bool false, .int .i64 0, .slice none 0 0]) 48 Tryd.underlying29 ui uz0 uz1 uz2 rfl (by decide) (fun b => F b ∧ (Jp.tv { q with ta := none, tn := 0, tc := 0, la := some ⟨g, 0, none⟩, ln := q.ln, lc := c9 }).ownBlock ≠ some b) _ Wd.heap.size _ 0 [] (by rfl) OW.out rfl _ q.wn _ j.wait (by rfl) (RWD.out.below BR.out) HWL.out (fun b _ hb => ⟨hb.1, fun e => absurd (OW.out.lt e).1 (Nat.not_le.2 hb.2)⟩) (by unfold maxLen; have := HWN.out; omega) (by have := HWN.out; omega) BR.out.size ?_
                  intro v7 w7 ho7 hg7 hm7
                  have BR' := Lib.hid (BR.out.grown hg7 BR.out.size (fun g hg => (OW.out.lt hg).1))
                  have LB' := Lib.hid (LB.out.keep (.of_grown hg7 fun b hb e => by rcases hb.2 with h | h; exact absurd (OW.out.lt e).1 (Nat.not_le.2 h); exact NZ.out b e h))
                  have NZ' := Lib.hid (show ∀ g, v7.ownBlock = some g → g ≠ zl from fun g hg e => by rcases hm7 g hg with h | h; exact NZ.out g h e; have := ZL.out; omega)
                  have ZL' := Lib.hid (Nat.lt_of_lt_of_le ZL.out hg7.size)
                  refine hK.out _ _ (by exact ⟨(C.out.step BR'.out).pc.c0, (C.out.step BR'.out).pc.c1, (C.out.step BR'.out).pc.c2, (C.out.step BR'.out).pc.c3⟩) (fun _ => ?_)
                  clear hK K
                  try simp only [Act.put, List.setIfInBounds_toArray, List.set_cons_zero, List.set_cons_succ]
                  replace BR := BR'
                  clear BR'
                  replace LB := LB'
                  replace NZ := NZ'
                  replace ZL := ZL'
                  clear LB' NZ' ZL'
                  replace OW := Lib.hid ho7
                  clear ho7 hg7 hm7
                  refine at_worldJ (fun W => Hid (Below Wd.heap.size Wd W) ∧ Hid (Orw shC 81 (fun b => F b ∧ (Jp.tv { q with ta := none, tn := 0, tc := 0, la := some ⟨g, 0, none⟩, ln := q.ln, lc := c9 }).ownBlock ≠ some b) Wd.heap.size W v7 ([] ++ j.wait)) ∧ Hid (Rws shC (fun b => ((F b ∧ (Jp.tv { q with ta := none, tn := 0, tc := 0, la := some ⟨g, 0, none⟩, ln := q.ln, lc := c9 }).ownBlock ≠ some b)) ∧ (b < Wd.heap.size ∨ b = zl)) W (some ⟨zl, 0, none⟩) [(pl, p)]) ∧ Hid (zl < W.heap.size)) ⟨BR, OW, LB, ZL⟩ ?_
                  clear BR OW LB ZL
                  rintro W ⟨BR, OW, LB, ZL⟩
                  refine wpAnyH_ready (rs := [8]) (by kernel_rfl) (by simp) ?_
                  refine (AllReadyH.cons (o := ?ow22) ?hiw22 (fun K hK => ?stw22) AllReadyH.nil)
                  case hiw22 => (simp only [List.getElem?_toArray, List.getElem?_cons_succ, List.getElem?_cons_zero]; rfl)
                  case stw22 =>
                    refine step_rows shC _ (by rfl) _ _ _ (by rfl) 81 u0 (.agg #[.int .i64 0, .bool false, .bool false, .int .i64 0, .slice none 0 0]) 48 Tryd.underlying29 ui uz0 uz1 uz2 rfl (by decide) (fun b => F b ∧ (Jp.tv { q with ta := none, tn := 0, tc := 0, la := some ⟨g, 0, none⟩, ln := q.ln, lc := c9 }).ownBlock ≠ some b) _ Wd.heap.size _ q.wn ([] ++ j.wait) (by rfl) OW.out HWL.out _ 1 1 [(pl, p)] (by rfl) LB.out rfl (fun b _ hb => ⟨hb.1, fun e => by rcases hb.2 with h | h; exact absurd (OW.out.lt e).1 (Nat.not_le.2 h); exact NZ.out b e h⟩) (by unfold maxLen; have := HWN.out; omega) (by have := HWN.out; omega) BR.out.size ?_
                    intro v8 w8 ho8 hg8 hm8
                    have BR' := Lib.hid (BR.out.grown hg8 BR.out.size (fun g hg => (OW.out.lt hg).1))
                    obtain ⟨A8, c8, hv8, -, -, hr8⟩ := ho8.slice
                    rw [HL8.out] at hv8
                    subst hv8
                    refine hK.out _ _ (by exact ⟨(C.out.step BR'.out).pc.c0, (C.out.step BR'.out).pc.c1, (C.out.step BR'.out).pc.c2, (C.out.step BR'.out).pc.c3⟩) (fun _ => ?_)
                    clear hK K
                    try simp only [Act.put, List.setIfInBounds_toArray, List.set_cons_zero, List.set_cons_succ]
                    replace BR := BR'
                    clear BR' OW LB NZ ZL
                    have R8 := Lib.hid (hr8.mono (G := (fun b => F b ∧ (Jp.tv { q with ta := none, tn := 0, tc := 0, la := some ⟨g, 0, none⟩, ln := q.ln, lc := c9 }).ownBlock ≠ some b)) fun b _ hb => hb.elim id fun hb => C.out.jc.fresh b hb)
                    clear ho8 hg8 hm8 hr8
                    have C8 := Lib.hid ((C.out.step BR.out).jc.s4w (by omega) (by omega) A8 (q.wn + 1) c8 ([] ++ j.wait ++ [(pl, p)]) (by rw [List.length_append, List.nil_append]; show j.wait.length + 1 = _; rw [HWL.out]) R8.out)
                    have P8 := Lib.hid ((C.out.step BR.out).pcs 4 (.slice A8 (q.wn + 1) c8))
                    refine wpAnyH_take (i := 9) (oi := ?ow23) (v := ?vw23) ?hiw23 (by kernel_rfl) (by kernel_rfl) (by kernel_rfl) ?hqw23 (Or.inl ⟨?hww23, ?hyw23⟩) (by exact ⟨(C.out.step BR.out).pc.c0, (C.out.step BR.out).pc.c1, (C.out.step BR.out).pc.c2, (C.out.step BR.out).pc.c3⟩) ?restw23
                    case hiw23 => (simp only [List.getElem?_toArray, List.getElem?_cons_succ, List.getElem?_cons_zero]; rfl)
                    case hww23 => (rfl)
                    case hqw23 => (exact fun _ _ _ h => h)
                    case hyw23 => (intro w' hSw; obtain ⟨s0, s1, s2, s3⟩ := hSw; go_simp; (try with_reducible rfl))
                    try simp only [Act.put, List.setIfInBounds_toArray, List.set_cons_zero, List.set_cons_succ]
                    refine wpAnyH_ready (rs := [10]) (by kernel_rfl) (by simp) ?_
                    refine (AllReadyH.cons (o := ?ow24) ?hiw24 (fun K hK => ?stw24) AllReadyH.nil)
                    case hiw24 => (simp only [List.getElem?_toArray, List.getElem?_cons_succ, List.getElem?_cons_zero]; rfl)
                    case stw24 =>
                      have u9 := (C.out.step BR.out).jc.box.c4
                      have z9 := (C.out.step BR.out).jc.box.fz 4
                      go_simp
                      refine hK.out _ _ (by exact ⟨P8.out.c0, P8.out.c1, P8.out.c2, P8.out.c3⟩) (fun _ => ?_)
                      clear hK K
                      try simp only [Act.put, List.setIfInBounds_toArray, List.set_cons_zero, List.set_cons_succ]
                      clear u9 z9
                      refine wpAnyH_done (by kernel_rfl) ?_ _
                      (try go_wp2_with fail)
                      go_meet
                      exact ⟨_, _, C8, Lib.hid rfl⟩
          case stw6 =>
            have x9 := (C.out.step BR.out).jc.box.c4
            go_simp
            refine hK.out _ _ (by exact ⟨(C.out.step BR.out).pc.c0, (C.out.step BR.out).pc.c1, (C.out.step BR.out).pc.c2, (C.out.step BR.out).pc.c3⟩) (fun _ => ?_)
            clear hK K
            try simp only [Act.put, List.setIfInBounds_toArray, List.set_cons_zero, List.set_cons_succ]
            clear x9
            refine wpAnyH_ready (rs := [0, 7]) (by kernel_rfl) (by simp) ?_
            refine (AllReadyH.cons (o := ?ow26) ?hiw26 (fun K hK => ?stw26) (AllReadyH.cons (o := ?ow25) ?hiw25 (fun K hK => ?stw25) AllReadyH.nil))
            case hiw26 => (simp only [List.getElem?_toArray, List.getElem?_cons_zero]; rfl)
            case hiw25 => (simp only [List.getElem?_toArray, List.getElem?_cons_succ, List.getElem?_cons_zero]; rfl)
            case stw26 =>
              go_simp
              refine hK.out _ _ (by exact ⟨(C.out.step (BR.out.alloc BR.out.size (.cells #[] 81))).pc.c0, (C.out.step (BR.out.alloc BR.out.size (.cells #[] 81))).pc.c1, (C.out.step (BR.out.alloc BR.out.size (.cells #[] 81))).pc.c2, (C.out.step (BR.out.alloc BR.out.size (.cells #[] 81))).pc.c3⟩) (fun _ => ?_)
              clear hK K
              try simp only [Act.put, List.setIfInBounds_toArray, List.set_cons_zero, List.set_cons_succ]
              obtain ⟨z1, hz1'⟩ : ∃ z, W.heap.size = z := ⟨_, rfl⟩
              have HZ1 := Lib.hid (show Wd.heap.size ≤ z1 by rw [← hz1']; exact BR.out.size)
              have O0 := Lib.hid ((litc0 (F := (fun b => F b ∧ (Jp.tv { q with ta := none, tn := 0, tc := 0, la := some ⟨g, 0, none⟩, ln := q.ln, lc := c9 }).ownBlock ≠ some b)) W (T := 81)).lo BR.out.size)
              rw [hz1'] at O0
              rw [hz1']
              refine at_worldJ (fun W => Hid (Below Wd.heap.size Wd W) ∧ Hid (Orw shC 81 (fun b => F b ∧ (Jp.tv { q with ta := none, tn := 0, tc := 0, la := some ⟨g, 0, none⟩, ln := q.ln, lc := c9 }).ownBlock ≠ some b) Wd.heap.size W (.slice (some ⟨z1, 0, none⟩) 0 0) [])) ⟨Lib.hid (BR.out.alloc BR.out.size _), O0⟩ ?_
              clear O0 BR hz1'
              rintro W ⟨BR, OW⟩
              refine wpAnyH_ready (rs := [3, 7]) (by kernel_rfl) (by simp) ?_
              refine (AllReadyH.cons (o := ?ow28) ?hiw28 (fun K hK => ?stw28) (AllReadyH.cons (o := ?ow27) ?hiw27 (fun K hK => ?stw27) AllReadyH.nil))
              case hiw28 => (simp only [List.getElem?_toArray, List.getElem?_cons_succ, List.getElem?_cons_zero]; rfl)
              case hiw27 => (simp only [List.getElem?_toArray, List.getElem?_cons_succ, List.getElem?_cons_zero]; rfl)
              case stw28 =>
                refine step_rows shC _ (by rfl) _ _ _ (by rfl) 81 u0 (.agg #[.int .i64 0, .bool false, .bool false, .int .i64 0, .slice none 0 0]) 48 Tryd.underlying29 ui uz0 uz1 uz2 rfl (by decide) (fun b => F b ∧ (Jp.tv { q with ta := none, tn := 0, tc := 0, la := some ⟨g, 0, none⟩, ln := q.ln, lc := c9 }).ownBlock ≠ some b) _ Wd.heap.size _ 0 [] (by rfl) OW.out rfl _ q.wn _ j.wait (by rfl) (RWD.out.below BR.out) HWL.out (fun b _ hb => ⟨hb.1, fun e => absurd (OW.out.lt e).1 (Nat.not_le.2 hb.2)⟩) (by unfold maxLen; have := HWN.out; omega) (by have := HWN.out; omega) BR.out.size ?_
                intro v7 w7 ho7 hg7 hm7
                have BR' := Lib.hid (BR.out.grown hg7 BR.out.size (fun g hg => (OW.out.lt hg).1))
                refine hK.out _ _ (by exact ⟨(C.out.step BR'.out).pc.c0, (C.out.step BR'.out).pc.c1, (C.out.step BR'.out).pc.c2, (C.out.step BR'.out).pc.c3⟩) (fun _ => ?_)
                clear hK K
                try simp only [Act.put, List.setIfInBounds_toArray, List.set_cons_zero, List.set_cons_succ]
                replace BR := BR'
                clear BR'
                replace OW := Lib.hid ho7
                clear ho7 hg7 hm7
                refine at_worldJ (fun W => Hid (Below Wd.heap.size Wd W) ∧ Hid (Orw shC 81 (fun b => F b ∧ (Jp.tv { q with ta := none, tn := 0, tc := 0, la := some ⟨g, 0, none⟩, ln := q.ln, lc := c9 }).ownBlock ≠ some b) Wd.heap.size W v7 ([] ++ j.wait))) ⟨BR, OW⟩ ?_
                clear BR OW
                rintro W ⟨BR, OW⟩
                refine wpAnyH_ready (rs := [7]) (by kernel_rfl) (by simp) ?_
                refine (AllReadyH.cons (o := ?ow29) ?hiw29 (fun K hK => ?stw29) AllReadyH.nil)
                case hiw29 => (simp only [List.getElem?_toArray, List.getElem?_cons_succ, List.getElem?_cons_zero]; rfl)
                case stw29 =>
                  go_simp
                  refine hK.out _ _ (by exact ⟨(C.out.step (BR.out.alloc BR.out.size (.cells #[.int .i64 pl, .bool p.b, .bool p.e, .int .i64 p.n, .slice A n c] 81))).pc.c0, (C.out.step (BR.out.alloc BR.out.size (.cells #[.int .i64 pl, .bool p.b, .bool p.e, .int .i64 p.n, .slice A n c] 81))).pc.c1, (C.out.step (BR.out.alloc BR.out.size (.cells #[.int .i64 pl, .bool p.b, .bool p.e, .int .i64 p.n, .slice A n c] 81))).pc.c2, (C.out.step (BR.out.alloc BR.out.size (.cells #[.int .i64 pl, .bool p.b, .bool p.e, .int .i64 p.n, .slice A n c] 81))).pc.c3⟩) (fun _ => ?_)
                  clear hK K
                  try simp only [Act.put, List.setIfInBounds_toArray, List.set_cons_zero, List.set_cons_succ]
                  obtain ⟨zl, hzl⟩ : ∃ z, W.heap.size = z := ⟨_, rfl⟩
                  have L0 := Lib.hid (((litc (T := 81) W (b := p.b) (e := p.e) (p := pl) (x := p.n) HN.out HNC.out (PDD.out.keep (.of_below BR.out))).read).mono (G := fun b => ((F b ∧ (Jp.tv { q with ta := none, tn := 0, tc := 0, la := some ⟨g, 0, none⟩, ln := q.ln, lc := c9 }).ownBlock ≠ some b)) ∧ (b < Wd.heap.size ∨ b = W.heap.size)) fun b hb h => h.elim (fun h => ⟨h.1, .inl h.2⟩) (fun h => ⟨C.out.jc.fresh b (Nat.le_trans BR.out.size h), .inr (by simp at hb; omega)⟩))
                  rw [hzl] at L0
                  have NZ := Lib.hid (show ∀ g, v7.ownBlock = some g → g ≠ zl from fun g hg e => by have := (OW.out.lt hg).2; omega)
                  rw [hzl]
                  refine at_worldJ (fun W => Hid (Below Wd.heap.size Wd W) ∧ Hid (Rws shC (fun b => ((F b ∧ (Jp.tv { q with ta := none, tn := 0, tc := 0, la := some ⟨g, 0, none⟩, ln := q.ln, lc := c9 }).ownBlock ≠ some b)) ∧ (b < Wd.heap.size ∨ b = zl)) W (some ⟨zl, 0, none⟩) [(pl, p)]) ∧ Hid (zl < W.heap.size) ∧ Hid (Orw shC 81 (fun b => F b ∧ (Jp.tv { q with ta := none, tn := 0, tc := 0, la := some ⟨g, 0, none⟩, ln := q.ln, lc := c9 }).ownBlock ≠ some b) Wd.heap.size W v7 ([] ++ j.wait))) ⟨Lib.hid (BR.out.alloc BR.out.size _), L0, Lib.hid (by simp; omega), Lib.hid (OW.out.below ((Below.refl _ _).alloc (Nat.le_refl _) _))⟩ ?_
                  clear L0 BR hzl OW
                  rintro W ⟨BR, LB, ZL, OW⟩
                  refine wpAnyH_ready (rs := [8]) (by kernel_rfl) (by simp) ?_
                  refine (AllReadyH.cons (o := ?ow30) ?hiw30 (fun K hK => ?stw30) AllReadyH.nil)
                  case hiw30 => (simp only [List.getElem?_toArray, List.getElem?_cons_succ, List.getElem?_cons_zero]; rfl)
                  case stw30 =>
                    refine step_rows shC _ (by rfl) _ _ _ (by rfl) 81 u0 (.agg #[.int .i64 0, .bool false, .bool false, .int .i64 0, .slice none 0 0]) 48 Tryd.underlying29 ui uz0 uz1 uz2 rfl (by decide) (fun b => F b ∧ (Jp.tv { q with ta := none, tn := 0, tc := 0, la := some ⟨g, 0, none⟩, ln := q.ln, lc := c9 }).ownBlock ≠ some b) _ Wd.heap.size _ q.wn ([] ++ j.wait) (by rfl) OW.out HWL.out _ 1 1 [(pl, p)] (by rfl) LB.out rfl (fun b _ hb => ⟨hb.1, fun e => by rcases hb.2 with h | h; exact absurd (OW.out.lt e).1 (Nat.not_le.2 h); exact NZ.out b e h⟩) (by unfold maxLen; have := HWN.out; omega) (by have := HWN.out; omega) BR.out.size ?_
                    intro v8 w8 ho8 hg8 hm8
                    have BR' := Lib.hid (BR.out.grown hg8 BR.out.size (fun g hg => (OW.out.lt hg).1))
                    obtain ⟨A8, c8, hv8, -, -, hr8⟩ := ho8.slice
                    rw [HL8.out] at hv8
                    subst hv8
                    refine hK.out _ _ (by exact ⟨(C.out.step BR'.out).pc.c0, (C.out.step BR'.out).pc.c1, (C.out.step BR'.out).pc.c2, (C.out.step BR'.out).pc.c3⟩) (fun _ => ?_)
                    clear hK K
                    try simp only [Act.put, List.setIfInBounds_toArray, List.set_cons_zero, List.set_cons_succ]
                    replace BR := BR'
                    clear BR' OW LB NZ ZL
                    have R8 := Lib.hid (hr8.mono (G := (fun b => F b ∧ (Jp.tv { q with ta := none, tn := 0, tc := 0, la := some ⟨g, 0, none⟩, ln := q.ln, lc := c9 }).ownBlock ≠ some b)) fun b _ hb => hb.elim id fun hb => C.out.jc.fresh b hb)
                    clear ho8 hg8 hm8 hr8
                    have C8 := Lib.hid ((C.out.step BR.out).jc.s4w (by omega) (by omega) A8 (q.wn + 1) c8 ([] ++ j.wait ++ [(pl, p)]) (by rw [List.length_append, List.nil_append]; show j.wait.length + 1 = _; rw [HWL.out]) R8.out)
                    have P8 := Lib.hid ((C.out.step BR.out).pcs 4 (.slice A8 (q.wn + 1) c8))
                    refine wpAnyH_take (i := 9) (oi := ?ow31) (v := ?vw31) ?hiw31 (by kernel_rfl) (by kernel_rfl) (by kernel_rfl) ?hqw31 (Or.inl ⟨?hww31, ?hyw31⟩) (by exact ⟨(C.out.step BR.out).pc.c0, (C.out.step BR.out).pc.c1, (C.out.step BR.out).pc.c2, (C.out.step BR.out).pc.c3⟩) ?restw31
                    case hiw31 => (simp only [List.getElem?_toArray, List.getElem?_cons_succ, List.getElem?_cons_zero]; rfl)
                    case hww31 => (rfl)
                    case hqw31 => (exact fun _ _ _ h => h)
                    case hyw31 => (intro w' hSw; obtain ⟨s0, s1, s2, s3⟩ := hSw; go_simp; (try with_reducible rfl))
                    try simp only [Act.put, List.setIfInBounds_toArray, List.set_cons_zero, List.set_cons_succ]
                    refine wpAnyH_ready (rs := [10]) (by kernel_rfl) (by simp) ?_
                    refine (AllReadyH.cons (o := ?ow32) ?hiw32 (fun K hK => ?stw32) AllReadyH.nil)
                    case hiw32 => (simp only [List.getElem?_toArray, List.getElem?_cons_succ, List.getElem?_cons_zero]; rfl)
                    case stw32 =>
                      have u9 := (C.out.step BR.out).jc.box.c4
                      have z9 := (C.out.step BR.out).jc.box.fz 4
                      go_simp
                      refine hK.out _ _ (by exact ⟨P8.out.c0, P8.out.c1, P8.out.c2, P8.out.c3⟩) (fun _ => ?_)
                      clear hK K
                      try simp only [Act.put, List.setIfInBounds_toArray, List.set_cons_zero, List.set_cons_succ]
                      clear u9 z9
                      refine wpAnyH_done (by kernel_rfl) ?_ _
                      (try go_wp2_with fail)
                      go_meet
                      exact ⟨_, _, C8, Lib.hid rfl⟩
              case stw27 =>
                go_simp
                refine hK.out _ _ (by exact ⟨(C.out.step (BR.out.alloc BR.out.size (.cells #[.int .i64 pl, .bool p.b, .bool p.e, .int .i64 p.n, .slice A n c] 81))).pc.c0, (C.out.step (BR.out.alloc BR.out.size (.cells #[.int .i64 pl, .bool p.b, .bool p.e, .int .i64 p.n, .slice A n c] 81))).pc.c1, (C.out.step (BR.out.alloc BR.out.size (.cells #[.int .i64 pl, .bool p.b, .bool p.e, .int .i64 p.n, .slice A n c] 81))).pc.c2, (C.out.step (BR.out.alloc BR.out.size (.cells #[.int .i64 pl, .bool p.b, .bool p.e, .int .i64 p.n, .slice A n c] 81))).pc.c3⟩) (fun _ => ?_)
                clear hK K
                try simp only [Act.put, List.setIfInBounds_toArray, List.set_cons_zero, List.set_cons_succ]
                obtain ⟨zl, hzl⟩ : ∃ z, W.heap.size = z := ⟨_, rfl⟩
                have L0 := Lib.hid (((litc (T := 81) W (b := p.b) (e := p.e) (p := pl) (x := p.n) HN.out HNC.out (PDD.out.keep (.of_below BR.out))).read).mono (G := fun b => ((F b ∧ (Jp.tv { q with ta := none, tn := 0, tc := 0, la := some ⟨g, 0, none⟩, ln := q.ln, lc := c9 }).ownBlock ≠ some b)) ∧ (b < Wd.heap.size ∨ b = W.heap.size)) fun b hb h => h.elim (fun h => ⟨h.1, .inl h.2⟩) (fun h => ⟨C.out.jc.fresh b (Nat.le_trans BR.out.size h), .inr (by simp at hb; omega)⟩))
                rw [hzl] at L0
                have NZ := Lib.hid (show ∀ g, (Value.slice (some ⟨z1, 0, none⟩) 0 0).ownBlock = some g → g ≠ zl from fun g hg e => by have := (OW.out.lt hg).2; omega)
                rw [hzl]
                refine at_worldJ (fun W => Hid (Below Wd.heap.size Wd W) ∧ Hid (Rws shC (fun b => ((F b ∧ (Jp.tv { q with ta := none, tn := 0, tc := 0, la := some ⟨g, 0, none⟩, ln := q.ln, lc := c9 }).ownBlock ≠ some b)) ∧ (b < Wd.heap.size ∨ b = zl)) W (some ⟨zl, 0, none⟩) [(pl, p)]) ∧ Hid (zl < W.heap.size) ∧ Hid (Orw shC 81 (fun b => F b ∧ (Jp.tv { q with ta := none, tn := 0, tc := 0, la := some ⟨g, 0, none⟩, ln := q.ln, lc := c9 }).ownBlock ≠ some b) Wd.heap.size W (Value.slice (some ⟨z1, 0, none⟩) 0 0) [])) ⟨Lib.hid (BR.out.alloc BR.out.size _), L0, Lib.hid (by simp; omega), Lib.hid (OW.out.below ((Below.refl _ _).alloc (Nat.le_refl _) _))⟩ ?_
                clear L0 BR hzl OW
                rintro W ⟨BR, LB, ZL, OW⟩
                refine wpAnyH_ready (rs := [3]) (by kernel_rfl) (by simp) ?_
                refine (AllReadyH.cons (o := ?ow33) ?hiw33 (fun K hK => ?stw33) AllReadyH.nil)
                case hiw33 => (simp only [List.getElem?_toArray, List.getElem?_cons_succ, List.getElem?_cons_zero]; rfl)
                case stw33 =>
                  refine step_rows shC _ (by rfl) _ _ _ (by rfl) 81 u0 (.agg #[.int .i64 0, .bool false, .bool false, .int .i64 0, .slice none 0 0]) 48 Tryd.underlying29 ui uz0 uz1 uz2 rfl (by decide) (fun b => F b ∧ (Jp.tv { q with ta := none, tn := 0, tc := 0, la := some ⟨g, 0, none⟩, ln := q.ln, lc := c9 }).ownBlock ≠ some b) _ Wd.heap.size _ 0 [] (by rfl) OW.out rfl _ q.wn _ j.wait (by rfl) (RWD.out.below BR.out) HWL.out (fun b _ hb => ⟨hb.1, fun e => absurd (OW.out.lt e).1 (Nat.not_le.2 hb.2)⟩) (by unfold maxLen; have := HWN.out; omega) (by have := HWN.out; omega) BR.out.size ?_
                  intro v7 w7 ho7 hg7 hm7
                  have BR' := Lib.hid (BR.out.grown hg7 BR.out.size (fun g hg => (OW.out.lt hg).1))
                  have LB' := Lib.hid (LB.out.keep (.of_grown hg7 fun b hb e => by rcases hb.2 with h | h; exact absurd (OW.out.lt e).1 (Nat.not_le.2 h); exact NZ.out b e h))
                  have NZ' := Lib.hid (show ∀ g, v7.ownBlock = some g → g ≠ zl from fun g hg e => by rcases hm7 g hg with h | h; exact NZ.out g h e; have := ZL.out; omega)
                  have ZL' := Lib.hid (Nat.lt_of_lt_of_le ZL.out hg7.size)
                  refine hK.out _ _ (by exact ⟨(C.out.step BR'.out).pc.c0, (C.out.step BR'.out).pc.c1, (C.out.step BR'.out).pc.c2, (C.out.step BR'.out).pc.c3⟩) (fun _ => ?_)
                  clear hK K
                  try simp only [Act.put, List.setIfInBounds_toArray, List.set_cons_zero, List.set_cons_succ]
                  replace BR := BR'
                  clear BR'
                  replace LB := LB'
                  replace NZ := NZ'
                  replace ZL := ZL'
                  clear LB' NZ' ZL'
                  replace OW := Lib.hid ho7
                  clear ho7 hg7 hm7
                  refine at_worldJ (fun W => Hid (Below Wd.heap.size Wd W) ∧ Hid (Orw shC 81 (fun b => F b ∧ (Jp.tv { q with ta := none, tn := 0, tc := 0, la := some ⟨g, 0, none⟩, ln := q.ln, lc := c9 }).ownBlock ≠ some b) Wd.heap.size W v7 ([] ++ j.wait)) ∧ Hid (Rws shC (fun b => ((F b ∧ (Jp.tv { q with ta := none, tn := 0, tc := 0, la := some ⟨g, 0, none⟩, ln := q.ln, lc := c9 }).ownBlock ≠ some b)) ∧ (b < Wd.heap.size ∨ b = zl)) W (some ⟨zl, 0, none⟩) [(pl, p)]) ∧ Hid (zl < W.heap.size)) ⟨BR, OW, LB, ZL⟩ ?_
                  clear BR OW LB ZL
                  rintro W ⟨BR, OW, LB, ZL⟩
                  refine wpAnyH_ready (rs := [8]) (by kernel_rfl) (by simp) ?_
                  refine (AllReadyH.cons (o := ?ow34) ?hiw34 (fun K hK => ?stw34) AllReadyH.nil)
                  case hiw34 => (simp only [List.getElem?_toArray, List.getElem?_cons_succ, List.getElem?_cons_zero]; rfl)
                  case stw34 =>
                    refine step_rows shC _ (by rfl) _ _ _ (by rfl) 81 u0 (.agg #[.int .i64 0, .bool false, .bool false, .int .i64 0, .slice none 0 0]) 48 Tryd.underlying29 ui uz0 uz1 uz2 rfl (by decide) (fun b => F b ∧ (Jp.tv { q with ta := none, tn := 0, tc := 0, la := some ⟨g, 0, none⟩, ln := q.ln, lc := c9 }).ownBlock ≠ some b) _ Wd.heap.size _ q.wn ([] ++ j.wait) (by rfl) OW.out HWL.out _ 1 1 [(pl, p)] (by rfl) LB.out rfl (fun b _ hb => ⟨hb.1, fun e => by rcases hb.2 with h | h; exact absurd (OW.out.lt e).1 (Nat.not_le.2 h); exact NZ.out b e h⟩) (by unfold maxLen; have := HWN.out; omega) (by have := HWN.out; omega) BR.out.size ?_
                    intro v8 w8 ho8 hg8 hm8
                    have BR' := Lib.hid (BR.out.grown hg8 BR.out.size (fun g hg => (OW.out.lt hg).1))
                    obtain ⟨A8, c8, hv8, -, -, hr8⟩ := ho8.slice
                    rw [HL8.out] at hv8
                    subst hv8
                    refine hK.out _ _ (by exact ⟨(C.out.step BR'.out).pc.c0, (C.out.step BR'.out).pc.c1, (C.out.step BR'.out).pc.c2, (C.out.step BR'.out).pc.c3⟩) (fun _ => ?_)
                    clear hK K
                    try simp only [Act.put, List.setIfInBounds_toArray, List.set_cons_zero, List.set_cons_succ]
                    replace BR := BR'
                    clear BR' OW LB NZ ZL
                    have R8 := Lib.hid (hr8.mono (G := (fun b => F b ∧ (Jp.tv { q with ta := none, tn := 0, tc := 0, la := some ⟨g, 0, none⟩, ln := q.ln, lc := c9 }).ownBlock ≠ some b)) fun b _ hb => hb.elim id fun hb => C.out.jc.fresh b hb)
                    clear ho8 hg8 hm8 hr8
                    have C8 := Lib.hid ((C.out.step BR.out).jc.s4w (by omega) (by omega) A8 (q.wn + 1) c8 ([] ++ j.wait ++ [(pl, p)]) (by rw [List.length_append, List.nil_append]; show j.wait.length + 1 = _; rw [HWL.out]) R8.out)
                    have P8 := Lib.hid ((C.out.step BR.out).pcs 4 (.slice A8 (q.wn + 1) c8))
                    refine wpAnyH_take (i := 9) (oi := ?ow35) (v := ?vw35) ?hiw35 (by kernel_rfl) (by kernel_rfl) (by kernel_rfl) ?hqw35 (Or.inl ⟨?hww35, ?hyw35⟩) (by exact ⟨(C.out.step BR.out).pc.c0, (C.out.step BR.out).pc.c1, (C.out.step BR.out).pc.c2, (C.out.step BR.out).pc.c3⟩) ?restw35
                    case hiw35 => (simp only [List.getElem?_toArray, List.getElem?_cons_succ, List.getElem?_cons_zero]; rfl)
                    case hww35 => (rfl)
                    case hqw35 => (exact fun _ _ _ h => h)
                    case hyw35 => (intro w' hSw; obtain ⟨s0, s1, s2, s3⟩ := hSw; go_simp; (try with_reducible rfl))
                    try simp only [Act.put, List.setIfInBounds_toArray, List.set_cons_zero, List.set_cons_succ]
                    refine wpAnyH_ready (rs := [10]) (by kernel_rfl) (by simp) ?_
                    refine (AllReadyH.cons (o := ?ow36) ?hiw36 (fun K hK => ?stw36) AllReadyH.nil)
                    case hiw36 => (simp only [List.getElem?_toArray, List.getElem?_cons_succ, List.getElem?_cons_zero]; rfl)
                    case stw36 =>
                      have u9 := (C.out.step BR.out).jc.box.c4
                      have z9 := (C.out.step BR.out).jc.box.fz 4
                      go_simp
                      refine hK.out _ _ (by exact ⟨P8.out.c0, P8.out.c1, P8.out.c2, P8.out.c3⟩) (fun _ => ?_)
                      clear hK K
                      try simp only [Act.put, List.setIfInBounds_toArray, List.set_cons_zero, List.set_cons_succ]
                      clear u9 z9
                      refine wpAnyH_done (by kernel_rfl) ?_ _
                      (try go_wp2_with fail)
                      go_meet
                      exact ⟨_, _, C8, Lib.hid rfl⟩
            case stw25 =>
              go_simp
              refine hK.out _ _ (by exact ⟨(C.out.step (BR.out.alloc BR.out.size (.cells #[.int .i64 pl, .bool p.b, .bool p.e, .int .i64 p.n, .slice A n c] 81))).pc.c0, (C.out.step (BR.out.alloc BR.out.size (.cells #[.int .i64 pl, .bool p.b, .bool p.e, .int .i64 p.n, .slice A n c] 81))).pc.c1, (C.out.step (BR.out.alloc BR.out.size (.cells #[.int .i64 pl, .bool p.b, .bool p.e, .int .i64 p.n, .slice A n c] 81))).pc.c2, (C.out.step (BR.out.alloc BR.out.size (.cells #[.int .i64 pl, .bool p.b, .bool p.e, .int .i64 p.n, .slice A n c] 81))).pc.c3⟩) (fun _ => ?_)
              clear hK K
              try simp only [Act.put, List.setIfInBounds_toArray, List.set_cons_zero, List.set_cons_succ]
              obtain ⟨zl, hzl⟩ : ∃ z, W.heap.size = z := ⟨_, rfl⟩
              have L0 := Lib.hid (((litc (T := 81) W (b := p.b) (e := p.e) (p := pl) (x := p.n) HN.out HNC.out (PDD.out.keep (.of_below BR.out))).read).mono (G := fun b => ((F b ∧ (Jp.tv { q with ta := none, tn := 0, tc := 0, la := some ⟨g, 0, none⟩, ln := q.ln, lc := c9 }).ownBlock ≠ some b)) ∧ (b < Wd.heap.size ∨ b = W.heap.size)) fun b hb h => h.elim (fun h => ⟨h.1, .inl h.2⟩) (fun h => ⟨C.out.jc.fresh b (Nat.le_trans BR.out.size h), .inr (by simp at hb; omega)⟩))
              rw [hzl] at L0
              rw [hzl]
              refine at_worldJ (fun W => Hid (Below Wd.heap.size Wd W) ∧ Hid (Rws shC (fun b => ((F b ∧ (Jp.tv { q with ta := none, tn := 0, tc := 0, la := some ⟨g, 0, none⟩, ln := q.ln, lc := c9 }).ownBlock ≠ some b)) ∧ (b < Wd.heap.size ∨ b = zl)) W (some ⟨zl, 0, none⟩) [(pl, p)]) ∧ Hid (zl < W.heap.size)) ⟨Lib.hid (BR.out.alloc BR.out.size _), L0, Lib.hid (by simp; omega)⟩ ?_
              clear L0 BR hzl
              rintro W ⟨BR, LB, ZL⟩
              refine wpAnyH_ready (rs := [0]) (by kernel_rfl) (by simp) ?_
              refine (AllReadyH.cons (o := ?ow37) ?hiw37 (fun K hK => ?stw37) AllReadyH.nil)
              case hiw37 => (simp only [List.getElem?_toArray, List.getElem?_cons_zero]; rfl)
              case stw37 =>
                go_simp
                refine hK.out _ _ (by exact ⟨(C.out.step (BR.out.alloc BR.out.size (.cells #[] 81))).pc.c0, (C.out.step (BR.out.alloc BR.out.size (.cells #[] 81))).pc.c1, (C.out.step (BR.out.alloc BR.out.size (.cells #[] 81))).pc.c2, (C.out.step (BR.out.alloc BR.out.size (.cells #[] 81))).pc.c3⟩) (fun _ => ?_)
                clear hK K
                try simp only [Act.put, List.setIfInBounds_toArray, List.set_cons_zero, List.set_cons_succ]
                obtain ⟨z1, hz1'⟩ : ∃ z, W.heap.size = z := ⟨_, rfl⟩
                have HZ1 := Lib.hid (show Wd.heap.size ≤ z1 by rw [← hz1']; exact BR.out.size)
                have O0 := Lib.hid ((litc0 (F := (fun b => F b ∧ (Jp.tv { q with ta := none, tn := 0, tc := 0, la := some ⟨g, 0, none⟩, ln := q.ln, lc := c9 }).ownBlock ≠ some b)) W (T := 81)).lo BR.out.size)
                rw [hz1'] at O0
                have NZ := Lib.hid (show ∀ g, (Value.slice (some ⟨z1, 0, none⟩) 0 0).ownBlock = some g → g ≠ zl from fun g hg e => by injection hg with hg; have hg2 : z1 = g := hg; have := ZL.out; omega)
                rw [hz1']
                refine at_worldJ (fun W => Hid (Below Wd.heap.size Wd W) ∧ Hid (Orw shC 81 (fun b => F b ∧ (Jp.tv { q with ta := none, tn := 0, tc := 0, la := some ⟨g, 0, none⟩, ln := q.ln, lc := c9 }).ownBlock ≠ some b) Wd.heap.size W (.slice (some ⟨z1, 0, none⟩) 0 0) []) ∧ Hid (Rws shC (fun b => ((F b ∧ (Jp.tv { q with ta := none, tn := 0, tc := 0, la := some ⟨g, 0, none⟩, ln := q.ln, lc := c9 }).ownBlock ≠ some b)) ∧ (b < Wd.heap.size ∨ b = zl)) W (some ⟨zl, 0, none⟩) [(pl, p)]) ∧ Hid (zl < W.heap.size)) ⟨Lib.hid (BR.out.alloc BR.out.size _), O0, Lib.hid (LB.out.below ((Below.refl _ _).alloc (Nat.le_refl _) _)), Lib.hid (by have := ZL.out; simp; omega)⟩ ?_
                clear O0 BR hz1' LB ZL
                rintro W ⟨BR, OW, LB, ZL⟩
                refine wpAnyH_ready (rs := [3]) (by kernel_rfl) (by simp) ?_
                refine (AllReadyH.cons (o := ?ow38) ?hiw38 (fun K hK => ?stw38) AllReadyH.nil)
                case hiw38 => (simp only [List.getElem?_toArray, List.getElem?_cons_succ, List.getElem?_cons_zero]; rfl)
                case stw38 =>
                  refine step_rows shC _ (by rfl) _ _ _ (by rfl) 81 u0 (.agg #[.int .i64 0, .bool false, .bool false, .int .i64 0, .slice none 0 0]) 48 Tryd.underlying29 ui uz0 uz1 uz2 rfl (by decide) (fun b => F b ∧ (Jp.tv { q with ta := none, tn := 0, tc := 0, la := some ⟨g, 0, none⟩, ln := q.ln, lc := c9 }).ownBlock ≠ some b) _ Wd.heap.size _ 0 [] (by rfl) OW.out rfl _ q.wn _ j.wait (by rfl) (RWD.out.below BR.out) HWL.out (fun b _ hb => ⟨hb.1, fun e => absurd (OW.out.lt e).1 (Nat.not_le.2 hb.2)⟩) (by unfold maxLen; have := HWN.out; omega) (by have := HWN.out; omega) BR.out.size ?_
                  intro v7 w7 ho7 hg7 hm7
                  have BR' := Lib.hid (BR.out.grown hg7 BR.out.size (fun g hg => (OW.out.lt hg).1))
                  have LB' := Lib.hid (LB.out.keep (.of_grown hg7 fun b hb e => by rcases hb.2 with h | h; exact absurd (OW.out.lt e).1 (Nat.not_le.2 h); exact NZ.out b e h))
                  have NZ' := Lib.hid (show ∀ g, v7.ownBlock = some g → g ≠ zl from fun g hg e => by rcases hm7 g hg with h | h; exact NZ.out g h e; have := ZL.out; omega)
                  have ZL' := Lib.hid (Nat.lt_of_lt_of_le ZL.out hg7.size)
                  refine hK.out _ _ (by exact ⟨(C.out.step BR'.out).pc.c0, (C.out.step BR'.out).pc.c1, (C.out.step BR'.out).pc.c2, (C.out.step BR'.out).pc.c3⟩) (fun _ => ?_)
                  clear hK K
                  try simp only [Act.put, List.setIfInBounds_toArray, List.set_cons_zero, List.set_cons_succ]
                  replace BR := BR'
                  clear BR'
                  replace LB := LB'
                  replace NZ := NZ'
                  replace ZL := ZL'
                  clear LB' NZ' ZL'
                  replace OW := Lib.hid ho7
                  clear ho7 hg7 hm7
                  refine at_worldJ (fun W => Hid (Below Wd.heap.size Wd W) ∧ Hid (Orw shC 81 (fun b => F b ∧ (Jp.tv { q with ta := none, tn := 0, tc := 0, la := some ⟨g, 0, none⟩, ln := q.ln, lc := c9 }).ownBlock ≠ some b) Wd.heap.size W v7 ([] ++ j.wait)) ∧ Hid (Rws shC (fun b => ((F b ∧ (Jp.tv { q with ta := none, tn := 0, tc := 0, la := some ⟨g, 0, none⟩, ln := q.ln, lc := c9 }).ownBlock ≠ some b)) ∧ (b < Wd.heap.size ∨ b = zl)) W (some ⟨zl, 0, none⟩) [(pl, p)]) ∧ Hid (zl < W.heap.size)) ⟨BR, OW, LB, ZL⟩ ?_
                  clear BR OW LB ZL
                  rintro W ⟨BR, OW, LB, ZL⟩
                  refine wpAnyH_ready (rs := [8]) (by kernel_rfl) (by simp) ?_
                  refine (AllReadyH.cons (o := ?ow39) ?hiw39 (fun K hK => ?stw39) AllReadyH.nil)
                  case hiw39 => (simp only [List.getElem?_toArray, List.getElem?_cons_succ, List.getElem?_cons_zero]; rfl)
                  case stw39 =>
                    refine step_rows shC _ (by rfl) _ _ _ (by rfl) 81 u0 (.agg #[.int .i64 0, .bool false, .bool false, .int .i64 0, .slice none 0 0]) 48 Tryd.underlying29 ui uz0 uz1 uz2 rfl (by decide) (fun b => F b ∧ (Jp.tv { q with ta := none, tn := 0, tc := 0, la := some ⟨g, 0, none⟩, ln := q.ln, lc := c9 }).ownBlock ≠ some b) _ Wd.heap.size _ q.wn ([] ++ j.wait) (by rfl) OW.out HWL.out _ 1 1 [(pl, p)] (by rfl) LB.out rfl (fun b _ hb => ⟨hb.1, fun e => by rcases hb.2 with h | h; exact absurd (OW.out.lt e).1 (Nat.not_le.2 h); exact NZ.out b e h⟩) (by unfold maxLen; have := HWN.out; omega) (by have := HWN.out; omega) BR.out.size ?_
                    intro v8 w8 ho8 hg8 hm8
                    have BR' := Lib.hid (BR.out.grown hg8 BR.out.size (fun g hg => (OW.out.lt hg).1))
                    obtain ⟨A8, c8, hv8, -, -, hr8⟩ := ho8.slice
                    rw [HL8.out] at hv8
                    subst hv8
                    refine hK.out _ _ (by exact ⟨(C.out.step BR'.out).pc.c0, (C.out.step BR'.out).pc.c1, (C.out.step BR'.out).pc.c2, (C.out.step BR'.out).pc.c3⟩) (fun _ => ?_)
                    clear hK K
                    try simp only [Act.put, List.setIfInBounds_toArray, List.set_cons_zero, List.set_cons_succ]
                    replace BR := BR'
                    clear BR' OW LB NZ ZL
                    have R8 := Lib.hid (hr8.mono (G := (fun b => F b ∧ (Jp.tv { q with ta := none, tn := 0, tc := 0, la := some ⟨g, 0, none⟩, ln := q.ln, lc := c9 }).ownBlock ≠ some b)) fun b _ hb => hb.elim id fun hb => C.out.jc.fresh b hb)
                    clear ho8 hg8 hm8 hr8
                    have C8 := Lib.hid ((C.out.step BR.out).jc.s4w (by omega) (by omega) A8 (q.wn + 1) c8 ([] ++ j.wait ++ [(pl, p)]) (by rw [List.length_append, List.nil_append]; show j.wait.length + 1 = _; rw [HWL.out]) R8.out)
                    have P8 := Lib.hid ((C.out.step BR.out).pcs 4 (.slice A8 (q.wn + 1) c8))
                    refine wpAnyH_take (i := 9) (oi := ?ow40) (v := ?vw40) ?hiw40 (by kernel_rfl) (by kernel_rfl) (by kernel_rfl) ?hqw40 (Or.inl ⟨?hww40, ?hyw40⟩) (by exact ⟨(C.out.step BR.out).pc.c0, (C.out.step BR.out).pc.c1, (C.out.step BR.out).pc.c2, (C.out.step BR.out).pc.c3⟩) ?restw40
                    case hiw40 => (simp only [List.getElem?_toArray, List.getElem?_cons_succ, List.getElem?_cons_zero]; rfl)
                    case hww40 => (rfl)
                    case hqw40 => (exact fun _ _ _ h => h)
                    case hyw40 => (intro w' hSw; obtain ⟨s0, s1, s2, s3⟩ := hSw; go_simp; (try with_reducible rfl))
                    try simp only [Act.put, List.setIfInBounds_toArray, List.set_cons_zero, List.set_cons_succ]
                    refine wpAnyH_ready (rs := [10]) (by kernel_rfl) (by simp) ?_
                    refine (AllReadyH.cons (o := ?ow41) ?hiw41 (fun K hK => ?stw41) AllReadyH.nil)
                    case hiw41 => (simp only [List.getElem?_toArray, List.getElem?_cons_succ, List.getElem?_cons_zero]; rfl)
                    case stw41 =>
                      have u9 := (C.out.step BR.out).jc.box.c4
                      have z9 := (C.out.step BR.out).jc.box.fz 4
                      go_simp
                      refine hK.out _ _ (by exact ⟨P8.out.c0, P8.out.c1, P8.out.c2, P8.out.c3⟩) (fun _ => ?_)
                      clear hK K
                      try simp only [Act.put, List.setIfInBounds_toArray, List.set_cons_zero, List.set_cons_succ]
                      clear u9 z9
                      refine wpAnyH_done (by kernel_rfl) ?_ _
                      (try go_wp2_with fail)
                      go_meet
                      exact ⟨_, _, C8, Lib.hid rfl⟩
          case stw5 =>
            go_simp
            refine hK.out _ _ (by exact ⟨(C.out.step (BR.out.alloc BR.out.size (.cells #[.int .i64 pl, .bool p.b, .bool p.e, .int .i64 p.n, .slice A n c] 81))).pc.c0, (C.out.step (BR.out.alloc BR.out.size (.cells #[.int .i64 pl, .bool p.b, .bool p.e, .int .i64 p.n, .slice A n c] 81))).pc.c1, (C.out.step (BR.out.alloc BR.out.size (.cells #[.int .i64 pl, .bool p.b, .bool p.e, .int .i64 p.n, .slice A n c] 81))).pc.c2, (C.out.step (BR.out.alloc BR.out.size (.cells #[.int .i64 pl, .bool p.b, .bool p.e, .int .i64 p.n, .slice A n c] 81))).pc.c3⟩) (fun _ => ?_)
            clear hK K
            try simp only [Act.put, List.setIfInBounds_toArray, List.set_cons_zero, List.set_cons_succ]
            obtain ⟨zl, hzl⟩ : ∃ z, W.heap.size = z := ⟨_, rfl⟩
            have L0 := Lib.hid (((litc (T := 81) W (b := p.b) (e := p.e) (p := pl) (x := p.n) HN.out HNC.out (PDD.out.keep (.of_below BR.out))).read).mono (G := fun b => ((F b ∧ (Jp.tv { q with ta := none, tn := 0, tc := 0, la := some ⟨g, 0, none⟩, ln := q.ln, lc := c9 }).ownBlock ≠ some b)) ∧ (b < Wd.heap.size ∨ b = W.heap.size)) fun b hb h => h.elim (fun h => ⟨h.1, .inl h.2⟩) (fun h => ⟨C.out.jc.fresh b (Nat.le_trans BR.out.size h), .inr (by simp at hb; omega)⟩))
            rw [hzl] at L0
            rw [hzl]
            refine at_worldJ (fun W => Hid (Below Wd.heap.size Wd W) ∧ Hid (Rws shC (fun b => ((F b ∧ (Jp.tv { q with ta := none, tn := 0, tc := 0, la := some ⟨g, 0, none⟩, ln := q.ln, lc := c9 }).ownBlock ≠ some b)) ∧ (b < Wd.heap.size ∨ b = zl)) W (some ⟨zl, 0, none⟩) [(pl, p)]) ∧ Hid (zl < W.heap.size)) ⟨Lib.hid (BR.out.alloc BR.out.size _), L0, Lib.hid (by simp; omega)⟩ ?_
            clear L0 BR hzl
            rintro W ⟨BR, LB, ZL⟩
            refine wpAnyH_ready (rs := [0, 2]) (by kernel_rfl) (by simp) ?_
            refine (AllReadyH.cons (o := ?ow43) ?hiw43 (fun K hK => ?stw43) (AllReadyH.cons (o := ?ow42) ?hiw42 (fun K hK => ?stw42) AllReadyH.nil))
            case hiw43 => (simp only [List.getElem?_toArray, List.getElem?_cons_zero]; rfl)
            case hiw42 => (simp only [List.getElem?_toArray, List.getElem?_cons_succ, List.getElem?_cons_zero]; rfl)
            case stw43 =>
              go_simp
              refine hK.out _ _ (by exact ⟨(C.out.step (BR.out.alloc BR.out.size (.cells #[] 81))).pc.c0, (C.out.step (BR.out.alloc BR.out.size (.cells #[] 81))).pc.c1, (C.out.step (BR.out.alloc BR.out.size (.cells #[] 81))).pc.c2, (C.out.step (BR.out.alloc BR.out.size (.cells #[] 81))).pc.c3⟩) (fun _ => ?_)
              clear hK K
              try simp only [Act.put, List.setIfInBounds_toArray, List.set_cons_zero, List.set_cons_succ]
              obtain ⟨z1, hz1'⟩ : ∃ z, W.heap.size = z := ⟨_, rfl⟩
              have HZ1 := Lib.hid (show Wd.heap.size ≤ z1 by rw [← hz1']; exact BR.out.size)
              have O0 := Lib.hid ((litc0 (F := (fun b => F b ∧ (Jp.tv { q with ta := none, tn := 0, tc := 0, la := some ⟨g, 0, none⟩, ln := q.ln, lc := c9 }).ownBlock ≠ some b)) W (T := 81)).lo BR.out.size)
              rw [hz1'] at O0
              have NZ := Lib.hid (show ∀ g, (Value.slice (some ⟨z1, 0, none⟩) 0 0).ownBlock = some g → g ≠ zl from fun g hg e => by injection hg with hg; have hg2 : z1 = g := hg; have := ZL.out; omega)
              rw [hz1']
              refine at_worldJ (fun W => Hid (Below Wd.heap.size Wd W) ∧ Hid (Orw shC 81 (fun b => F b ∧ (Jp.tv { q with ta := none, tn := 0, tc := 0, la := some ⟨g, 0, none⟩, ln := q.ln, lc := c9 }).ownBlock ≠ some b) Wd.heap.size W (.slice (some ⟨z1, 0, none⟩) 0 0) []) ∧ Hid (Rws shC (fun b => ((F b ∧ (Jp.tv { q with ta := none, tn := 0, tc := 0, la := some ⟨g, 0, none⟩, ln := q.ln, lc := c9 }).ownBlock ≠ some b)) ∧ (b < Wd.heap.size ∨ b = zl)) W (some ⟨zl, 0, none⟩) [(pl, p)]) ∧ Hid (zl < W.heap.size)) ⟨Lib.hid (BR.out.alloc BR.out.size _), O0, Lib.hid (LB.out.below ((Below.refl _ _).alloc (Nat.le_refl _) _)), Lib.hid (by have := ZL.out; simp; omega)⟩ ?_
              clear O0 BR hz1' LB ZL
              rintro W ⟨BR, OW, LB, ZL⟩
              refine wpAnyH_ready (rs := [2]) (by kernel_rfl) (by simp) ?_
              refine (AllReadyH.cons (o := ?ow44) ?hiw44 (fun K hK => ?stw44) AllReadyH.nil)
              case hiw44 => (simp only [List.getElem?_toArray, List.getElem?_cons_succ, List.getElem?_cons_zero]; rfl)
              case stw44 =>
                have x9 := (C.out.step BR.out).jc.box.c4
                go_simp
                refine hK.out _ _ (by exact ⟨(C.out.step BR.out).pc.c0, (C.out.step BR.out).pc.c1, (C.out.step BR.out).pc.c2, (C.out.step BR.out).pc.c3⟩) (fun _ => ?_)
                clear hK K
                try simp only [Act.put, List.setIfInBounds_toArray, List.set_cons_zero, List.set_cons_succ]
                clear x9
                refine wpAnyH_ready (rs := [3]) (by kernel_rfl) (by simp) ?_
                refine (AllReadyH.cons (o := ?ow45) ?hiw45 (fun K hK => ?stw45) AllReadyH.nil)
                case hiw45 => (simp only [List.getElem?_toArray, List.getElem?_cons_succ, List.getElem?_cons_zero]; rfl)
                case stw45 =>
                  refine step_rows shC _ (by rfl) _ _ _ (by rfl) 81 u0 (.agg #[.int .i64 0, .bool false, .bool false, .int .i64 0, .slice none 0 0]) 48 Tryd.underlying29 ui uz0 uz1 uz2 rfl (by decide) (fun b => F b ∧ (Jp.tv { q with ta := none, tn := 0, tc := 0, la := some ⟨g, 0, none⟩, ln := q.ln, lc := c9 }).ownBlock ≠ some b) _ Wd.heap.size _ 0 [] (by rfl) OW.out rfl _ q.wn _ j.wait (by rfl) (RWD.out.below BR.out) HWL.out (fun b _ hb => ⟨hb.1, fun e => absurd (OW.out.lt e).1 (Nat.not_le.2 hb.2)⟩) (by unfold maxLen; have := HWN.out; omega) (by have := HWN.out; omega) BR.out.size ?_
                  intro v7 w7 ho7 hg7 hm7
                  have BR' := Lib.hid (BR.out.grown hg7 BR.out.size (fun g hg => (OW.out.lt hg).1))
                  have LB' := Lib.hid (LB.out.keep (.of_grown hg7 fun b hb e => by rcases hb.2 with h | h; exact absurd (OW.out.lt e).1 (Nat.not_le.2 h); exact NZ.out b e h))
                  have NZ' := Lib.hid (show ∀ g, v7.ownBlock = some g → g ≠ zl from fun g hg e => by rcases hm7 g hg with h | h; exact NZ.out g h e; have := ZL.out; omega)
                  have ZL' := Lib.hid (Nat.lt_of_lt_of_le ZL.out hg7.size)
                  refine hK.out _ _ (by exact ⟨(C.out.step BR'.out).pc.c0, (C.out.step BR'.out).pc.c1, (C.out.step BR'.out).pc.c2, (C.out.step BR'.out).pc.c3⟩) (fun _ => ?_)
                  clear hK K
                  try simp only [Act.put, List.setIfInBounds_toArray, List.set_cons_zero, List.set_cons_succ]
                  replace BR := BR'
                  clear BR'
                  replace LB := LB'
                  replace NZ := NZ'
                  replace ZL := ZL'
                  clear LB' NZ' ZL'
                  replace OW := Lib.hid ho7
                  clear ho7 hg7 hm7
                  refine at_worldJ (fun W => Hid (Below Wd.heap.size Wd W) ∧ Hid (Orw shC 81 (fun b => F b ∧ (Jp.tv { q with ta := none, tn := 0, tc := 0, la := some ⟨g, 0, none⟩, ln := q.ln, lc := c9 }).ownBlock ≠ some b) Wd.heap.size W v7 ([] ++ j.wait)) ∧ Hid (Rws shC (fun b => ((F b ∧ (Jp.tv { q with ta := none, tn := 0, tc := 0, la := some ⟨g, 0, none⟩, ln := q.ln, lc := c9 }).ownBlock ≠ some b)) ∧ (b < Wd.heap.size ∨ b = zl)) W (some ⟨zl, 0, none⟩) [(pl, p)]) ∧ Hid (zl < W.heap.size)) ⟨BR, OW, LB, ZL⟩ ?_
                  clear BR OW LB ZL
                  rintro W ⟨BR, OW, LB, ZL⟩
                  refine wpAnyH_ready (rs := [8]) (by kernel_rfl) (by simp) ?_
                  refine (AllReadyH.cons (o := ?ow46) ?hiw46 (fun K hK => ?stw46) AllReadyH.nil)
                  case hiw46 => (simp only [List.getElem?_toArray, List.getElem?_cons_succ, List.getElem?_cons_zero]; rfl)
                  case stw46 =>
                    refine step_rows shC _ (by rfl) _ _ _ (by rfl) 81 u0 (.agg #[.int .i64 0, .bool false, .bool false, .int .i64 0, .slice none 0 0]) 48 Tryd.underlying29 ui uz0 uz1 uz2 rfl (by decide) (fun b => F b ∧ (Jp.tv { q with ta := none, tn := 0, tc := 0, la := some ⟨g, 0, none⟩, ln := q.ln, lc := c9 }).ownBlock ≠ some b) _ Wd.heap.size _ q.wn ([] ++ j.wait) (by rfl) OW.out HWL.out _ 1 1 [(pl, p)] (by rfl) LB.out rfl (fun b _ hb => ⟨hb.1, fun e => by rcases hb.2 with h | h; exact absurd (OW.out.lt e).1 (Nat.not_le.2 h); exact NZ.out b e h⟩) (by unfold maxLen; have := HWN.out; omega) (by have := HWN.out; omega) BR.out.size ?_
                    intro v8 w8 ho8 hg8 hm8
                    have BR' := Lib.hid (BR.out.grown hg8 BR.out.size (fun g hg => (OW.out.lt hg).1))
                    obtain ⟨A8, c8, hv8, -, -, hr8⟩ := ho8.slice
                    rw [HL8.out] at hv8
                    subst hv8
                    refine hK.out _ _ (by exact ⟨(C.out.step BR'.out).pc.c0, (C.out.step BR'.out).pc.c1, (C.out.step BR'.out).pc.c2, (C.out.step BR'.out).pc.c3⟩) (fun _ => ?_)
                    clear hK K
                    try simp only [Act.put, List.setIfInBounds_toArray, List.set_cons_zero, List.set_cons_succ]
                    replace BR := BR'
                    clear BR' OW LB NZ ZL
                    have R8 := Lib.hid (hr8.mono (G := (fun b => F b ∧ (Jp.tv { q with ta := none, tn := 0, tc := 0, la := some ⟨g, 0, none⟩, ln := q.ln, lc := c9 }).ownBlock ≠ some b)) fun b _ hb => hb.elim id fun hb => C.out.jc.fresh b hb)
                    clear ho8 hg8 hm8 hr8
                    have C8 := Lib.hid ((C.out.step BR.out).jc.s4w (by omega) (by omega) A8 (q.wn + 1) c8 ([] ++ j.wait ++ [(pl, p)]) (by rw [List.length_append, List.nil_append]; show j.wait.length + 1 = _; rw [HWL.out]) R8.out)
                    have P8 := Lib.hid ((C.out.step BR.out).pcs 4 (.slice A8 (q.wn + 1) c8))
                    refine wpAnyH_take (i := 9) (oi := ?ow47) (v := ?vw47) ?hiw47 (by kernel_rfl) (by kernel_rfl) (by kernel_rfl) ?hqw47 (Or.inl ⟨?hww47, ?hyw47⟩) (by exact ⟨(C.out.step BR.out).pc.c0, (C.out.step BR.out).pc.c1, (C.out.step BR.out).pc.c2, (C.out.step BR.out).pc.c3⟩) ?restw47
                    case hiw47 => (simp only [List.getElem?_toArray, List.getElem?_cons_succ, List.getElem?_cons_zero]; rfl)
                    case hww47 => (rfl)
                    case hqw47 => (exact fun _ _ _ h => h)
                    case hyw47 => (intro w' hSw; obtain ⟨s0, s1, s2, s3⟩ := hSw; go_simp; (try with_reducible rfl))
                    try simp only [Act.put, List.setIfInBounds_toArray, List.set_cons_zero, List.set_cons_succ]
                    refine wpAnyH_ready (rs := [10]) (by kernel_rfl) (by simp) ?_
                    refine (AllReadyH.cons (o := ?ow48) ?hiw48 (fun K hK => ?stw48) AllReadyH.nil)
                    case hiw48 => (simp only [List.getElem?_toArray, List.getElem?_cons_succ, List.getElem?_cons_zero]; rfl)
                    case stw48 =>
                      have u9 := (C.out.step BR.out).jc.box.c4
                      have z9 := (C.out.step BR.out).jc.box.fz 4
                      go_simp
                      refine hK.out _ _ (by exact ⟨P8.out.c0, P8.out.c1, P8.out.c2, P8.out.c3⟩) (fun _ => ?_)
                      clear hK K
                      try simp only [Act.put, List.setIfInBounds_toArray, List.set_cons_zero, List.set_cons_succ]
                      clear u9 z9
                      refine wpAnyH_done (by kernel_rfl) ?_ _
                      (try go_wp2_with fail)
                      go_meet
                      exact ⟨_, _, C8, Lib.hid rfl⟩
            case stw42 =>
              have x9 := (C.out.step BR.out).jc.box.c4
              go_simp
              refine hK.out _ _ (by exact ⟨(C.out.step BR.out).pc.c0, (C.out.step BR.out).pc.c1, (C.out.step BR.out).pc.c2, (C.out.step BR.out).pc.c3⟩) (fun _ => ?_)
              clear hK K
              try simp only [Act.put, List.setIfInBounds_toArray, List.set_cons_zero, List.set_cons_succ]
              clear x9
              refine wpAnyH_ready (rs := [0]) (by kernel_rfl) (by simp) ?_
              refine (AllReadyH.cons (o := ?ow49) ?hiw49 (fun K hK => ?stw49) AllReadyH.nil)
              case hiw49 => (simp only [List.getElem?_toArray, List.getElem?_cons_zero]; rfl)
              case stw49 =>
                go_simp
                refine hK.out _ _ (by exact ⟨(C.out.step (BR.out.alloc BR.out.size (.cells #[] 81))).pc.c0, (C.out.step (BR.out.alloc BR.out.size (.cells #[] 81))).pc.c1, (C.out.step (BR.out.alloc BR.out.size (.cells #[] 81))).pc.c2, (C.out.step (BR.out.alloc BR.out.size (.cells #[] 81))).pc.c3⟩) (fun _ => ?_)
                clear hK K
                try simp only [Act.put, List.setIfInBounds_toArray, List.set_cons_zero, List.set_cons_succ]
                obtain ⟨z1, hz1'⟩ : ∃ z, W.heap.size = z := ⟨_, rfl⟩
                have HZ1 := Lib.hid (show Wd.heap.size ≤ z1 by rw [← hz1']; exact BR.out.size)
                have O0 := Lib.hid ((litc0 (F := (fun b => F b ∧ (Jp.tv { q with ta := none, tn := 0, tc := 0, la := some ⟨g, 0, none⟩, ln := q.ln, lc := c9 }).ownBlock ≠ some b)) W (T := 81)).lo BR.out.size)
                rw [hz1'] at O0
                have NZ := Lib.hid (show ∀ g, (Value.slice (some ⟨z1, 0, none⟩) 0 0).ownBlock = some g → g ≠ zl from fun g hg e => by injection hg with hg; have hg2 : z1 = g := hg; have := ZL.out; omega)
                rw [hz1']
                refine at_worldJ (fun W => Hid (Below Wd.heap.size Wd W) ∧ Hid (Orw shC 81 (fun b => F b ∧ (Jp.tv { q with ta := none, tn := 0, tc := 0, la := some ⟨g, 0, none⟩, ln := q.ln, lc := c9 }).ownBlock ≠ some b) Wd.heap.size W (.slice (some ⟨z1, 0, none⟩) 0 0) []) ∧ Hid (Rws shC (fun b => ((F b ∧ (Jp.tv { q with ta := none, tn := 0, tc := 0, la := some ⟨g, 0, none⟩, ln := q.ln, lc := c9 }).ownBlock ≠ some b)) ∧ (b < Wd.heap.size ∨ b = zl)) W (some ⟨zl, 0, none⟩) [(pl, p)]) ∧ Hid (zl < W.heap.size)) ⟨Lib.hid (BR.out.alloc BR.out.size _), O0, Lib.hid (LB.out.below ((Below.refl _ _).alloc (Nat.le_refl _) _)), Lib.hid (by have := ZL.out; simp; omega)⟩ ?_
                clear O0 BR hz1' LB ZL
                rintro W ⟨BR, OW, LB, ZL⟩
                refine wpAnyH_ready (rs := [3]) (by kernel_rfl) (by simp) ?_
                refine (AllReadyH.cons (o := ?ow50) ?hiw50 (fun K hK => ?stw50) AllReadyH.nil)
                case hiw50 => (simp only [List.getElem?_toArray, List.getElem?_cons_succ, List.getElem?_cons_zero]; rfl)
                case stw50 =>
                  refine step_rows shC _ (by rfl) _ _ _ (by rfl) 81 u0 (.agg #[.int .i64 0, .bool false, .bool false, .int .i64 0, .slice none 0 0]) 48 Tryd.underlying29 ui uz0 uz1 uz2 rfl (by decide) (fun b => F b ∧ (Jp.tv { q with ta := none, tn := 0, tc := 0, la := some ⟨g, 0, none⟩, ln := q.ln, lc := c9 }).ownBlock ≠ some b) _ Wd.heap.size _ 0 [] (by rfl) OW.out rfl _ q.wn _ j.wait (by rfl) (RWD.out.below BR.out) HWL.out (fun b _ hb => ⟨hb.1, fun e => absurd (OW.out.lt e).1 (Nat.not_le.2 hb.2)⟩) (by unfold maxLen; have := HWN.out; omega) (by have := HWN.out; omega) BR.out.size ?_
                  intro v7 w7 ho7 hg7 hm7
                  have BR' := Lib.hid (BR.out.grown hg7 BR.out.size (fun g hg => (OW.out.lt hg).1))
                  have LB' := Lib.hid (LB.out.keep (.of_grown hg7 fun b hb e => by rcases hb.2 with h | h; exact absurd (OW.out.lt e).1 (Nat.not_le.2 h); exact NZ.out b e h))
                  have NZ' := Lib.hid (show ∀ g, v7.ownBlock = some g → g ≠ zl from fun g hg e => by rcases hm7 g hg with h | h; exact NZ.out g h e; have := ZL.out; omega)
                  have ZL' := Lib.hid (Nat.lt_of_lt_of_le ZL.out hg7.size)
                  refine hK.out _ _ (by exact ⟨(C.out.step BR'.out).pc.c0, (C.out.step BR'.out).pc.c1, (C.out.step BR'.out).pc.c2, (C.out.step BR'.out).pc.c3⟩) (fun _ => ?_)
                  clear hK K
                  try simp only [Act.put, List.setIfInBounds_toArray, List.set_cons_zero, List.set_cons_succ]
                  replace BR := BR'
                  clear BR'
                  replace LB := LB'
                  replace NZ := NZ'
                  replace ZL := ZL'
                  clear LB' NZ' ZL'
                  replace OW := Lib.hid ho7
                  clear ho7 hg7 hm7
                  refine at_worldJ (fun W => Hid (Below Wd.heap.size Wd W) ∧ Hid (Orw shC 81 (fun b => F b ∧ (Jp.tv { q with ta := none, tn := 0, tc := 0, la := some ⟨g, 0, none⟩, ln := q.ln, lc := c9 }).ownBlock ≠ some b) Wd.heap.size W v7 ([] ++ j.wait)) ∧ Hid (Rws shC (fun b => ((F b ∧ (Jp.tv { q with ta := none, tn := 0, tc := 0, la := some ⟨g, 0, none⟩, ln := q.ln, lc := c9 }).ownBlock ≠ some b)) ∧ (b < Wd.heap.size ∨ b = zl)) W (some ⟨zl, 0, none⟩) [(pl, p)]) ∧ Hid (zl < W.heap.size)) ⟨BR, OW, LB, ZL⟩ ?_
                  clear BR OW LB ZL
                  rintro W ⟨BR, OW, LB, ZL⟩
                  refine wpAnyH_ready (rs := [8]) (by kernel_rfl) (by simp) ?_
                  refine (AllReadyH.cons (o := ?ow51) ?hiw51 (fun K hK => ?stw51) AllReadyH.nil)
                  case hiw51 => (simp only [List.getElem?_toArray, List.getElem?_cons_succ, List.getElem?_cons_zero]; rfl)
                  case stw51 =>
                    refine step_rows shC _ (by rfl) _ _ _ (by rfl) 81 u0 (.agg #[.int .i64 0, .bool false, .bool false, .int .i64 0, .slice none 0 0]) 48 Tryd.underlying29 ui uz0 uz1 uz2 rfl (by decide) (fun b => F b ∧ (Jp.tv { q with ta := none, tn := 0, tc := 0, la := some ⟨g, 0, none⟩, ln := q.ln, lc := c9 }).ownBlock ≠ some b) _ Wd.heap.size _ q.wn ([] ++ j.wait) (by rfl) OW.out HWL.out _ 1 1 [(pl, p)] (by rfl) LB.out rfl (fun b _ hb => ⟨hb.1, fun e => by rcases hb.2 with h | h; exact absurd (OW.out.lt e).1 (Nat.not_le.2 h); exact NZ.out b e h⟩) (by unfold maxLen; have := HWN.out; omega) (by have := HWN.out; omega) BR.out.size ?_
                    intro v8 w8 ho8 hg8 hm8
                    have BR' := Lib.hid (BR.out.grown hg8 BR.out.size (fun g hg => (OW.out.lt hg).1))
                    obtain ⟨A8, c8, hv8, -, -, hr8⟩ := ho8.slice
                    rw [HL8.out] at hv8
                    subst hv8
                    refine hK.out _ _ (by exact ⟨(C.out.step BR'.out).pc.c0, (C.out.step BR'.out).pc.c1, (C.out.step BR'.out).pc.c2, (C.out.step BR'.out).pc.c3⟩) (fun _ => ?_)
                    clear hK K
                    try simp only [Act.put, List.setIfInBounds_toArray, List.set_cons_zero, List.set_cons_succ]
                    replace BR := BR'
                    clear BR' OW LB NZ ZL
                    have R8 := Lib.hid (hr8.mono (G := (fun b => F b ∧ (Jp.tv { q with ta := none, tn := 0, tc := 0, la := some ⟨g, 0, none⟩, ln := q.ln, lc := c9 }).ownBlock ≠ some b)) fun b _ hb => hb.elim id fun hb => C.out.jc.fresh b hb)
                    clear ho8 hg8 hm8 hr8
                    have C8 := Lib.hid ((C.out.step BR.out).jc.s4w (by omega) (by omega) A8 (q.wn + 1) c8 ([] ++ j.wait ++ [(pl, p)]) (by rw [List.length_append, List.nil_append]; show j.wait.length + 1 = _; rw [HWL.out]) R8.out)
                    have P8 := Lib.hid ((C.out.step BR.out).pcs 4 (.slice A8 (q.wn + 1) c8))
                    refine wpAnyH_take (i := 9) (oi := ?ow52) (v := ?vw52) ?hiw52 (by kernel_rfl) (by kernel_rfl) (by kernel_rfl) ?hqw52 (Or.inl ⟨?hww52, ?hyw52⟩) (by exact ⟨(C.out.step BR.out).pc.c0, (C.out.step BR.out).pc.c1, (C.out.step BR.out).pc.c2, (C.out.step BR.out).pc.c3⟩) ?restw52
                    case hiw52 => (simp only [List.getElem?_toArray, List.getElem?_cons_succ, List.getElem?_cons_zero]; rfl)
                    case hww52 => (rfl)
                    case hqw52 => (exact fun _ _ _ h => h)
                    case hyw52 => (intro w' hSw; obtain ⟨s0, s1, s2, s3⟩ := hSw; go_simp; (try with_reducible rfl))
                    try simp only [Act.put, List.setIfInBounds_toArray, List.set_cons_zero, List.set_cons_succ]
                    refine wpAnyH_ready (rs := [10]) (by kernel_rfl) (by simp) ?_
                    refine (AllReadyH.cons (o := ?ow53) ?hiw53 (fun K hK => ?stw53) AllReadyH.nil)
                    case hiw53 => (simp only [List.getElem?_toArray, List.getElem?_cons_succ, List.getElem?_cons_zero]; rfl)
                    case stw53 =>
                      have u9 := (C.out.step BR.out).jc.box.c4
                      have z9 := (C.out.step BR.out).jc.box.fz 4
                      go_simp
                      refine hK.out _ _ (by exact ⟨P8.out.c0, P8.out.c1, P8.out.c2, P8.out.c3⟩) (fun _ => ?_)
                      clear hK K
                      try simp only [Act.put, List.setIfInBounds_toArray, List.set_cons_zero, List.set_cons_succ]
                      clear u9 z9
                      refine wpAnyH_done (by kernel_rfl) ?_ _
                      (try go_wp2_with fail)
                      go_meet
                      exact ⟨_, _, C8, Lib.hid rfl⟩
        case rest =>
          clear C
          obtain ⟨qb, qr, C, hqr⟩ := hcut
          have hqr2 := hqr.out
          subst hqr2
          obtain ⟨jc, HJC⟩ : ∃ jc, Hid (({ j with last := LS, wait := j.wait ++ [(pl, p)], told := [] } : Jn) = jc) := ⟨_, Lib.hid rfl⟩
          have HJCC := Lib.hid (show jcame j k p = jc by rw [← HJC.out]; unfold jcame; rw [htg.out, hLS.out, if_pos ⟨HW1.out, HW2.out⟩])
          rw [HJCC.out] at HOKC
          obtain ⟨j5, HJ5⟩ : ∃ j5, Hid (jrun jc = j5) := ⟨_, Lib.hid rfl⟩
          have HOK5 := Lib.hid (show Jok M j5 by rw [← HJ5.out]; exact HOKC.out.run.1)
          have HST5 := Lib.hid (show jstp j5 = none by rw [← HJ5.out]; exact HOKC.out.run.2)
          have HR5 := Lib.hid (show j5.room = rm by rw [← HJ5.out, (jrun_same jc).room, ← HJC.out]; exact HRM0.out)
          have HJF := Lib.hid (show jfeed j k p = jover rm j5 by unfold jfeed; rw [HJCC.out, HJ5.out, HRM0.out])
          have y8 := C.out.box.c8
          have f8 := C.out.box.fz 8
          go_upto_region 16 with fail
          refine at_worldJ (fun W => ∃ q4, Hid (JC G F 3 2 w.heap.size w W q0 jc q4 jc q4)) ⟨_, Lib.hid (by rw [← HJC.out]; exact C.out.s8n (by omega) (by omega))⟩ ?_
          clear C y8 f8
          rintro W ⟨q4, C⟩
          have y0 := C.out.box.c0
          have y1 := C.out.box.c1
          have y2 := C.out.box.c2
          have y3 := C.out.box.c3
          have y4 := C.out.box.c4
          have y5 := C.out.box.c5
          have y6 := C.out.box.c6
          have y7 := C.out.box.c7
          have y8 := C.out.box.c8
          go_upto_region 17 with (go_at_call 22; (with_reducible refine (jrun_any jc q4 M F w.heap.size _ C.out.jw HOKC.out HMM.out C.out.off.size).mono ?_); rintro r w7 ⟨q5, rfl, hw7, ho7, hm7⟩; replace C := Lib.hid (C.out.call (by omega) (by omega) hw7 ho7 hm7); clear hw7 ho7 hm7 y0 y1 y2 y3 y4 y5 y6 y7 y8; have y0 := C.out.box.c0; have y1 := C.out.box.c1; have y2 := C.out.box.c2; have y3 := C.out.box.c3; have y4 := C.out.box.c4; have y5 := C.out.box.c5; have y6 := C.out.box.c6; have y7 := C.out.box.c7; have y8 := C.out.box.c8; have f0 := C.out.box.fz 0; have f1 := C.out.box.fz 1; have f2 := C.out.box.fz 2; have f3 := C.out.box.fz 3; have f4 := C.out.box.fz 4; have f5 := C.out.box.fz 5; have f6 := C.out.box.fz 6; have f7 := C.out.box.fz 7; have f8 := C.out.box.fz 8)
          clear y0 y1 y2 y3 y4 y5 y6 y7 y8 f0 f1 f2 f3 f4 f5 f6 f7 f8
          refine at_worldJ (fun W => Hid (JC G F 3 2 w.heap.size w W q0 (jrun jc) q5 (jrun jc) q5)) (Lib.hid (C.out.s9 (by omega) (by omega))) ?_
          rw [HJ5.out]
          clear C
          rintro W C
          go_loopw [] (fun wr => ∃ j1 q1 n, Hid (jut rm n j5 = j1) ∧ Hid (Jok M j1) ∧ Hid (jstp j1 = none) ∧ Hid (JC G F 3 2 w.heap.size w wr q0 j1 q1 j1 q1)) (fun wr => (M - jnx wr w.heap.size).toNat)
          case atStart => exact ⟨j5, q5, 0, Lib.hid rfl, HOK5, HST5, C⟩
          case round =>
            clear C
            obtain ⟨j1, q1, n1, hn, hok, hst, C⟩ := hrel
            have NX := Lib.hid C.out.box.nx
            have y4 := C.out.box.c4
            have y1 := C.out.box.c1
            rw [show j1.room = rm by rw [← hn.out, (jut_same rm n1 j5).room]; exact HR5.out] at y1
            by_cases hw : rm < (q1.wn : Int)
            · have KW := Lib.hid (show q1.wn ≤ 1073741824 by rw [← C.out.jw.w1]; exact hok.out.wl)
              obtain ⟨fi, hfi⟩ : ∃ x, Hid (jfirst j1.wait = x) := ⟨_, Lib.hid rfl⟩
              have HFI := Lib.hid (hok.out.first hst.out (by have := HRM.out; rw [C.out.jw.w1]; omega) HMM.out)
              rw [hfi.out] at HFI
              have KT := Lib.hid (show q1.tn ≤ 1073741824 by rw [← C.out.jw.t1]; have := hok.out.td; have := hok.out.n1; have := HMM.out; omega)
              have NB := Lib.hid (show 0 ≤ j1.next ∧ j1.next ≤ 4611686018427387904 by have := hok.out.n0; have := hok.out.n1; have := HMM.out; omega)
              have EB := Lib.hid (show 0 ≤ fi ∧ fi ≤ 4611686018427387904 by have := hok.out.n0; have := HFI.out; have := HMM.out; omega)
              have HOKL := Lib.hid (hok.out.lack HFI.out.1 HFI.out.2 (by rw [hfi.out]; exact Int.le_refl _))
              have HUS := Lib.hid (show jush rm j1 = some (jrun (jlack j1 fi)) by rw [← hfi.out]; exact jush_some (by rw [C.out.jw.w1]; exact hw))
              have HJN := Lib.hid (jut_snoc (by rw [hn.out]; exact HUS.out))
              have HU3 := Lib.hid (hok.out.ush hst.out HRM.out HMM.out HUS.out)
              go_upto_region 18 with fail
              clear y4 y1 hw
              refine wp_region_held_drew (S := (fun _ => True)) (by kernel_rfl) (by trivial) (fun _ => ?_)
              refine at_worldJ (fun W => Hid (JC G F 3 2 w.heap.size w W q0 j1 q1 j1 q1)) (Lib.hid C.out.drew) ?_
              clear C
              rintro W C
              refine wpAnyH_ready (rs := [0, 1]) (by kernel_rfl) (by simp) ?_
              refine (AllReadyH.cons (o := ?ofb2) ?hifb2 (fun K hK => ?stfb2) (AllReadyH.cons (o := ?ofb1) ?hifb1 (fun K hK => ?stfb1) AllReadyH.nil))
              case hifb2 => (simp only [List.getElem?_toArray, List.getElem?_cons_zero]; rfl)
              case hifb1 => (simp only [List.getElem?_toArray, List.getElem?_cons_succ, List.getElem?_cons_zero]; rfl)
              case stfb2 =>
                have y0 := C.out.box.c0
                have y1 := C.out.box.c1
                have y2 := C.out.box.c2
                have y3 := C.out.box.c3
                have y4 := C.out.box.c4
                have y5 := C.out.box.c5
                have y6 := C.out.box.c6
                have y7 := C.out.box.c7
                have y8 := C.out.box.c8
                go_simp
                refine hK.out _ _ (by trivial) (fun _ => ?_)
                clear hK K
                try simp only [Act.put, List.setIfInBounds_toArray, List.set_cons_zero, List.set_cons_succ]
                clear y0 y1 y2 y3 y4 y5 y6 y7 y8
                refine wpAnyH_ready (rs := [1]) (by kernel_rfl) (by simp) ?_
                refine (AllReadyH.cons (o := ?ofb3) ?hifb3 (fun K hK => ?stfb3) AllReadyH.nil)
                case hifb3 => (simp only [List.getElem?_toArray, List.getElem?_cons_succ, List.getElem?_cons_zero]; rfl)
                case stfb3 =>
                  have y0 := C.out.box.c0
                  have y1 := C.out.box.c1
                  have y2 := C.out.box.c2
                  have y3 := C.out.box.c3
                  have y4 := C.out.box.c4
                  have y5 := C.out.box.c5
                  have y6 := C.out.box.c6
                  have y7 := C.out.box.c7
                  have y8 := C.out.box.c8
                  go_simp
                  refine hK.out _ _ (by trivial) (fun _ => ?_)
                  clear hK K
                  try simp only [Act.put, List.setIfInBounds_toArray, List.set_cons_zero, List.set_cons_succ]
                  clear y0 y1 y2 y3 y4 y5 y6 y7 y8
                  refine wpAnyH_ready (rs := [2]) (by kernel_rfl) (by simp) ?_
                  refine (AllReadyH.cons (o := ?ofb4) ?hifb4 (fun K hK => ?stfb4) AllReadyH.nil)
                  case hifb4 => (simp only [List.getElem?_toArray, List.getElem?_cons_succ, List.getElem?_cons_zero]; rfl)
                  case stfb4 =>
                    go_simp
                    go_at_call 24
                    (with_reducible refine (jfirst_any j1 q1 _ _ C.out.jw.rw C.out.jw.w1 KW.out).mono ?_)
                    rintro e wy ⟨rfl, hb⟩
                    rw [hfi.out]
                    dsimp only
                    refine hK.out _ _ (by trivial) (fun _ => ?_)
                    clear hK K
                    try simp only [Act.put, List.setIfInBounds_toArray, List.set_cons_zero, List.set_cons_succ]
                    replace C := Lib.hid (C.out.step hb)
                    clear hb
                    refine wpAnyH_ready (rs := [3]) (by kernel_rfl) (by simp) ?_
                    refine (AllReadyH.cons (o := ?ofb5) ?hifb5 (fun K hK => ?stfb5) AllReadyH.nil)
                    case hifb5 => (simp only [List.getElem?_toArray, List.getElem?_cons_succ, List.getElem?_cons_zero]; rfl)
                    case stfb5 =>
                      go_simp
                      go_at_call 23
                      (with_reducible refine (jlack_any j1 q1 fi F w.heap.size _ C.out.jw C.out.off.size KT.out NB.out.1 NB.out.2 EB.out.1 EB.out.2).mono ?_)
                      rintro e wz ⟨q2, rfl, hw2, ho2, hm2⟩
                      dsimp only
                      refine hK.out _ _ (by trivial) (fun _ => ?_)
                      clear hK K
                      try simp only [Act.put, List.setIfInBounds_toArray, List.set_cons_zero, List.set_cons_succ]
                      replace C := Lib.hid (C.out.call (by omega) (by omega) hw2 ho2 hm2)
                      clear hw2 ho2 hm2
                      refine wpAnyH_ready (rs := [4]) (by kernel_rfl) (by simp) ?_
                      refine (AllReadyH.cons (o := ?ofb6) ?hifb6 (fun K hK => ?stfb6) AllReadyH.nil)
                      case hifb6 => (simp only [List.getElem?_toArray, List.getElem?_cons_succ, List.getElem?_cons_zero]; rfl)
                      case stfb6 =>
                        go_simp
                        go_at_call 22
                        (with_reducible refine (jrun_any (jlack j1 fi) q2 M F w.heap.size _ C.out.jw HOKL.out HMM.out C.out.off.size).mono ?_)
                        rintro e wx ⟨q3, rfl, hw3, ho3, hm3⟩
                        dsimp only
                        refine hK.out _ _ (by trivial) (fun _ => ?_)
                        clear hK K
                        try simp only [Act.put, List.setIfInBounds_toArray, List.set_cons_zero, List.set_cons_succ]
                        replace C := Lib.hid (C.out.call (by omega) (by omega) hw3 ho3 hm3)
                        clear hw3 ho3 hm3
                        refine wpAnyH_ready (rs := [5]) (by kernel_rfl) (by simp) ?_
                        refine (AllReadyH.cons (o := ?ofb7) ?hifb7 (fun K hK => ?stfb7) AllReadyH.nil)
                        case hifb7 => (simp only [List.getElem?_toArray, List.getElem?_cons_succ, List.getElem?_cons_zero]; rfl)
                        case stfb7 =>
                          have y0 := C.out.box.c0
                          have y1 := C.out.box.c1
                          have y2 := C.out.box.c2
                          have y3 := C.out.box.c3
                          have y4 := C.out.box.c4
                          have y5 := C.out.box.c5
                          have y6 := C.out.box.c6
                          have y7 := C.out.box.c7
                          have y8 := C.out.box.c8
                          have f0 := C.out.box.fz 0
                          have f1 := C.out.box.fz 1
                          have f2 := C.out.box.fz 2
                          have f3 := C.out.box.fz 3
                          have f4 := C.out.box.fz 4
                          have f5 := C.out.box.fz 5
                          have f6 := C.out.box.fz 6
                          have f7 := C.out.box.fz 7
                          have f8 := C.out.box.fz 8
                          go_simp
                          refine hK.out _ _ (by trivial) (fun _ => ?_)
                          clear hK K
                          try simp only [Act.put, List.setIfInBounds_toArray, List.set_cons_zero, List.set_cons_succ]
                          clear y0 y1 y2 y3 y4 y5 y6 y7 y8 f0 f1 f2 f3 f4 f5 f6 f7 f8
                          replace C := Lib.hid (C.out.s9 (by omega) (by omega))
                          refine wpAnyH_done (by kernel_rfl) ?_ _
                          go_wp2_with fail
                          go_roundw
                          case rel => exact ⟨_, q3, n1 + 1, HJN, Lib.hid HU3.out.1, Lib.hid HU3.out.2.1, C⟩
                          case measure => rw [NX.out, C.out.box.nx]; have := HU3.out.1.n1; have := HU3.out.2.2; omega
              case stfb1 =>
                have y0 := C.out.box.c0
                have y1 := C.out.box.c1
                have y2 := C.out.box.c2
                have y3 := C.out.box.c3
                have y4 := C.out.box.c4
                have y5 := C.out.box.c5
                have y6 := C.out.box.c6
                have y7 := C.out.box.c7
                have y8 := C.out.box.c8
                go_simp
                refine hK.out _ _ (by trivial) (fun _ => ?_)
                clear hK K
                try simp only [Act.put, List.setIfInBounds_toArray, List.set_cons_zero, List.set_cons_succ]
                clear y0 y1 y2 y3 y4 y5 y6 y7 y8
                refine wpAnyH_ready (rs := [0, 2]) (by kernel_rfl) (by simp) ?_
                refine (AllReadyH.cons (o := ?ofb9) ?hifb9 (fun K hK => ?stfb9) (AllReadyH.cons (o := ?ofb8) ?hifb8 (fun K hK => ?stfb8) AllReadyH.nil))
                case hifb9 => (simp only [List.getElem?_toArray, List.getElem?_cons_zero]; rfl)
                case hifb8 => (simp only [List.getElem?_toArray, List.getElem?_cons_succ, List.getElem?_cons_zero]; rfl)
                case stfb9 =>
                  have y0 := C.out.box.c0
                  have y1 := C.out.box.c1
                  have y2 := C.out.box.c2
                  have y3 := C.out.box.c3
                  have y4 := C.out.box.c4
                  have y5 := C.out.box.c5
                  have y6 := C.out.box.c6
                  have y7 := C.out.box.c7
                  have y8 := C.out.box.c8
                  go_simp
                  refine hK.out _ _ (by trivial) (fun _ => ?_)
                  clear hK K
                  try simp only [Act.put, List.setIfInBounds_toArray, List.set_cons_zero, List.set_cons_succ]
                  clear y0 y1 y2 y3 y4 y5 y6 y7 y8
                  refine wpAnyH_ready (rs := [2]) (by kernel_rfl) (by simp) ?_
                  refine (AllReadyH.cons (o := ?ofb10) ?hifb10 (fun K hK => ?stfb10) AllReadyH.nil)
                  case hifb10 => (simp only [List.getElem?_toArray, List.getElem?_cons_succ, List.getElem?_cons_zero]; rfl)
                  case stfb10 =>
                    go_simp
                    go_at_call 24
                    (with_reducible refine (jfirst_any j1 q1 _ _ C.out.jw.rw C.out.jw.w1 KW.out).mono ?_)
                    rintro e wy ⟨rfl, hb⟩
                    rw [hfi.out]
                    dsimp only
                    refine hK.out _ _ (by trivial) (fun _ => ?_)
                    clear hK K
                    try simp only [Act.put, List.setIfInBounds_toArray, List.set_cons_zero, List.set_cons_succ]
                    replace C := Lib.hid (C.out.step hb)
                    clear hb
                    refine wpAnyH_ready (rs := [3]) (by kernel_rfl) (by simp) ?_
                    refine (AllReadyH.cons (o := ?ofb11) ?hifb11 (fun K hK => ?stfb11) AllReadyH.nil)
                    case hifb11 => (simp only [List.getElem?_toArray, List.getElem?_cons_succ, List.getElem?_cons_zero]; rfl)
                    case stfb11 =>
                      go_simp
                      go_at_call 23
                      (with_reducible refine (jlack_any j1 q1 fi F w.heap.size _ C.out.jw C.out.off.size KT.out NB.out.1 NB.out.2 EB.out.1 EB.out.2).mono ?_)
                      rintro e wz ⟨q2, rfl, hw2, ho2, hm2⟩
                      dsimp only
                      refine hK.out _ _ (by trivial) (fun _ => ?_)
                      clear hK K
                      try simp only [Act.put, List.setIfInBounds_toArray, List.set_cons_zero, List.set_cons_succ]
                      replace C := Lib.hid (C.out.call (by omega) (by omega) hw2 ho2 hm2)
                      clear hw2 ho2 hm2
                      refine wpAnyH_ready (rs := [4]) (by kernel_rfl) (by simp) ?_
                      refine (AllReadyH.cons (o := ?ofb12) ?hifb12 (fun K hK => ?stfb12) AllReadyH.nil)
                      case hifb12 => (simp only [List.getElem?_toArray, List.getElem?_cons_succ, List.getElem?_cons_zero]; rfl)
                      case stfb12 =>
                        go_simp
                        go_at_call 22
                        (with_reducible refine (jrun_any (jlack j1 fi) q2 M F w.heap.size _ C.out.jw HOKL.out HMM.out C.out.off.size).mono ?_)
                        rintro e wx ⟨q3, rfl, hw3, ho3, hm3⟩
                        dsimp only
                        refine hK.out _ _ (by trivial) (fun _ => ?_)
                        clear hK K
                        try simp only [Act.put, List.setIfInBounds_toArray, List.set_cons_zero, List.set_cons_succ]
                        replace C := Lib.hid (C.out.call (by omega) (by omega) hw3 ho3 hm3)
                        clear hw3 ho3 hm3
                        refine wpAnyH_ready (rs := [5]) (by kernel_rfl) (by simp) ?_
                        refine (AllReadyH.cons (o := ?ofb13) ?hifb13 (fun K hK => ?stfb13) AllReadyH.nil)
                        case hifb13 => (simp only [List.getElem?_toArray, List.getElem?_cons_succ, List.getElem?_cons_zero]; rfl)
                        case stfb13 =>
                          have y0 := C.out.box.c0
                          have y1 := C.out.box.c1
                          have y2 := C.out.box.c2
                          have y3 := C.out.box.c3
                          have y4 := C.out.box.c4
                          have y5 := C.out.box.c5
                          have y6 := C.out.box.c6
                          have y7 := C.out.box.c7
                          have y8 := C.out.box.c8
                          have f0 := C.out.box.fz 0
                          have f1 := C.out.box.fz 1
                          have f2 := C.out.box.fz 2
                          have f3 := C.out.box.fz 3
                          have f4 := C.out.box.fz 4
                          have f5 := C.out.box.fz 5
                          have f6 := C.out.box.fz 6
                          have f7 := C.out.box.fz 7
                          have f8 := C.out.box.fz 8
                          go_simp
                          refine hK.out _ _ (by trivial) (fun _ => ?_)
                          clear hK K
                          try simp only [Act.put, List.setIfInBounds_toArray, List.set_cons_zero, List.set_cons_succ]
                          clear y0 y1 y2 y3 y4 y5 y6 y7 y8 f0 f1 f2 f3 f4 f5 f6 f7 f8
                          replace C := Lib.hid (C.out.s9 (by omega) (by omega))
                          refine wpAnyH_done (by kernel_rfl) ?_ _
                          go_wp2_with fail
                          go_roundw
                          case rel => exact ⟨_, q3, n1 + 1, HJN, Lib.hid HU3.out.1, Lib.hid HU3.out.2.1, C⟩
                          case measure => rw [NX.out, C.out.box.nx]; have := HU3.out.1.n1; have := HU3.out.2.2; omega
                case stfb8 =>
                  go_simp
                  go_at_call 24
                  (with_reducible refine (jfirst_any j1 q1 _ _ C.out.jw.rw C.out.jw.w1 KW.out).mono ?_)
                  rintro e wy ⟨rfl, hb⟩
                  rw [hfi.out]
                  dsimp only
                  refine hK.out _ _ (by trivial) (fun _ => ?_)
                  clear hK K
                  try simp only [Act.put, List.setIfInBounds_toArray, List.set_cons_zero, List.set_cons_succ]
                  replace C := Lib.hid (C.out.step hb)
                  clear hb
                  refine wpAnyH_ready (rs := [0]) (by kernel_rfl) (by simp) ?_
                  refine (AllReadyH.cons (o := ?ofb14) ?hifb14 (fun K hK => ?stfb14) AllReadyH.nil)
                  case hifb14 => (simp only [List.getElem?_toArray, List.getElem?_cons_zero]; rfl)
                  case stfb14 =>
                    have y0 := C.out.box.c0
                    have y1 := C.out.box.c1
                    have y2 := C.out.box.c2
                    have y3 := C.out.box.c3
                    have y4 := C.out.box.c4
                    have y5 := C.out.box.c5
                    have y6 := C.out.box.c6
                    have y7 := C.out.box.c7
                    have y8 := C.out.box.c8
                    go_simp
                    refine hK.out _ _ (by trivial) (fun _ => ?_)
                    clear hK K
                    try simp only [Act.put, List.setIfInBounds_toArray, List.set_cons_zero, List.set_cons_succ]
                    clear y0 y1 y2 y3 y4 y5 y6 y7 y8
                    refine wpAnyH_ready (rs := [3]) (by kernel_rfl) (by simp) ?_
                    refine (AllReadyH.cons (o := ?ofb15) ?hifb15 (fun K hK => ?stfb15) AllReadyH.nil)
                    case hifb15 => (simp only [List.getElem?_toArray, List.getElem?_cons_succ, List.getElem?_cons_zero]; rfl)
                    case stfb15 =>
                      go_simp
                      go_at_call 23
                      (with_reducible refine (jlack_any j1 q1 fi F w.heap.size _ C.out.jw C.out.off.size KT.out NB.out.1 NB.out.2 EB.out.1 EB.out.2).mono ?_)
                      rintro e wz ⟨q2, rfl, hw2, ho2, hm2⟩
                      dsimp only
                      refine hK.out _ _ (by trivial) (fun _ => ?_)
                      clear hK K
                      try simp only [Act.put, List.setIfInBounds_toArray, List.set_cons_zero, List.set_cons_succ]
                      replace C := Lib.hid (C.out.call (by omega) (by omega) hw2 ho2 hm2)
                      clear hw2 ho2 hm2
                      refine wpAnyH_ready (rs := [4]) (by kernel_rfl) (by simp) ?_
                      refine (AllReadyH.cons (o := ?ofb16) ?hifb16 (fun K hK => ?stfb16) AllReadyH.nil)
                      case hifb16 => (simp only [List.getElem?_toArray, List.getElem?_cons_succ, List.getElem?_cons_zero]; rfl)
                      case stfb16 =>
                        go_simp
                        go_at_call 22
                        (with_reducible refine (jrun_any (jlack j1 fi) q2 M F w.heap.size _ C.out.jw HOKL.out HMM.out C.out.off.size).mono ?_)
                        rintro e wx ⟨q3, rfl, hw3, ho3, hm3⟩
                        dsimp only
                        refine hK.out _ _ (by trivial) (fun _ => ?_)
                        clear hK K
                        try simp only [Act.put, List.setIfInBounds_toArray, List.set_cons_zero, List.set_cons_succ]
                        replace C := Lib.hid (C.out.call (by omega) (by omega) hw3 ho3 hm3)
                        clear hw3 ho3 hm3
                        refine wpAnyH_ready (rs := [5]) (by kernel_rfl) (by simp) ?_
                        refine (AllReadyH.cons (o := ?ofb17) ?hifb17 (fun K hK => ?stfb17) AllReadyH.nil)
                        case hifb17 => (simp only [List.getElem?_toArray, List.getElem?_cons_succ, List.getElem?_cons_zero]; rfl)
                        case stfb17 =>
                          have y0 := C.out.box.c0
                          have y1 := C.out.box.c1
                          have y2 := C.out.box.c2
                          have y3 := C.out.box.c3
                          have y4 := C.out.box.c4
                          have y5 := C.out.box.c5
                          have y6 := C.out.box.c6
                          have y7 := C.out.box.c7
                          have y8 := C.out.box.c8
                          have f0 := C.out.box.fz 0
                          have f1 := C.out.box.fz 1
                          have f2 := C.out.box.fz 2
                          have f3 := C.out.box.fz 3
                          have f4 := C.out.box.fz 4
                          have f5 := C.out.box.fz 5
                          have f6 := C.out.box.fz 6
                          have f7 := C.out.box.fz 7
                          have f8 := C.out.box.fz 8
                          go_simp
                          refine hK.out _ _ (by trivial) (fun _ => ?_)
                          clear hK K
                          try simp only [Act.put, List.setIfInBounds_toArray, List.set_cons_zero, List.set_cons_succ]
                          clear y0 y1 y2 y3 y4 y5 y6 y7 y8 f0 f1 f2 f3 f4 f5 f6 f7 f8
                          replace C := Lib.hid (C.out.s9 (by omega) (by omega))
                          refine wpAnyH_done (by kernel_rfl) ?_ _
                          go_wp2_with fail
                          go_roundw
                          case rel => exact ⟨_, q3, n1 + 1, HJN, Lib.hid HU3.out.1, Lib.hid HU3.out.2.1, C⟩
                          case measure => rw [NX.out, C.out.box.nx]; have := HU3.out.1.n1; have := HU3.out.2.2; omega
            · have hw0 := Lib.hid hw
              have HE := Lib.hid (show jfeed j k p = j1 by rw [HJF.out, ← hn.out]; exact jover_of (by rw [hn.out]; exact jush_none (by rw [C.out.jw.w1]; exact hw0.out)))
              go_upto_region 19 with fail
              clear hw
              have C2 := Lib.hid C.out.drew
              have y0' := C2.out.box.c0
              have y1' := C2.out.box.c1
              have y2' := C2.out.box.c2
              have y3' := C2.out.box.c3
              have y4' := C2.out.box.c4
              have y5' := C2.out.box.c5
              have y6' := C2.out.box.c6
              have y7' := C2.out.box.c7
              have y8' := C2.out.box.c8
              have r0 := C2.out.res.fz 0
              have r1 := C2.out.res.fz 1
              have r2 := C2.out.res.fz 2
              have r3 := C2.out.res.fz 3
              have r4 := C2.out.res.fz 4
              have r5 := C2.out.res.fz 5
              have r6 := C2.out.res.fz 6
              have r7 := C2.out.res.fz 7
              have r8 := C2.out.res.fz 8
              have v0 := C2.out.res.c0
              have v1 := C2.out.res.c1
              have v2 := C2.out.res.c2
              have v3 := C2.out.res.c3
              have v4 := C2.out.res.c4
              have v5 := C2.out.res.c5
              have v6 := C2.out.res.c6
              have v7 := C2.out.res.c7
              have v8 := C2.out.res.c8
              have y0 := C.out.box.c0
              have y2 := C.out.box.c2
              have y3 := C.out.box.c3
              have y5 := C.out.box.c5
              have y6 := C.out.box.c6
              have y7 := C.out.box.c7
              have y8 := C.out.box.c8
              have r0' := C.out.res.fz 0
              have r1' := C.out.res.fz 1
              have r2' := C.out.res.fz 2
              have r3' := C.out.res.fz 3
              have r4' := C.out.res.fz 4
              have r5' := C.out.res.fz 5
              have r6' := C.out.res.fz 6
              have r7' := C.out.res.fz 7
              have r8' := C.out.res.fz 8
              have v0' := C.out.res.c0
              have v1' := C.out.res.c1
              have v2' := C.out.res.c2
              have v3' := C.out.res.c3
              have v4' := C.out.res.c4
              have v5' := C.out.res.c5
              have v6' := C.out.res.c6
              have v7' := C.out.res.c7
              have v8' := C.out.res.c8
              clear y1
              have y1 := C.out.box.c1
              go_region
              clear y0' r0 v0 y0 r0' v0' y1' r1 v1 y1 r1' v1' y2' r2 v2 y2 r2' v2' y3' r3 v3 y3 r3' v3' y4' r4 v4 y4 r4' v4' y5' r5 v5 y5 r5' v5' y6' r6 v6 y6 r6' v6' y7' r7 v7 y7 r7' v7' y8' r8 v8 y8 r8' v8'
              go_wp2_with fail
              rw [HE.out]
              obtain ⟨p1, p2, -, -⟩ := C.out.put (by omega)
              have p5 := C.out.put_below Q0.out
              have p6 := p1.on (Below.refl _ _).drew
              have p7 := (p2.jr fun b hb => .inr hb).on (Below.refl _ _).drew
              have p8 := p5.drew
              refine bodyPost_ret (v := .tuple #[j1.val q1, q1.tv, .int .i64 0]) ?_ rfl ⟨q1, rfl, p7, p8⟩
              exact jres2 rfl _ _ _ _ (w.heap.size + 2) 33 _ _ _ rfl rfl rfl p6 Tryd.underlying33 (by kernel_rfl)
      · have HW1 := Lib.hid w2
        go_upto_region 15 with fail
        clear w2
        refine at_worldJ (fun W => Hid (JC G F 3 2 w.heap.size w W q0 { j with last := LS } { q with la := some ⟨g, 0, none⟩, ln := q.ln, lc := c9 } { j with told := [], last := LS } { q with ta := none, tn := 0, tc := 0, la := some ⟨g, 0, none⟩, ln := q.ln, lc := c9 })) (Lib.hid C.out.jc) ?_
        clear C y5
        rintro W C
        obtain ⟨jc, HJC⟩ : ∃ jc, Hid (({ j with last := LS, wait := j.wait, told := [] } : Jn) = jc) := ⟨_, Lib.hid rfl⟩
        have HJCC := Lib.hid (show jcame j k p = jc by rw [← HJC.out]; unfold jcame; rw [htg.out, hLS.out, if_neg (fun h => HW1.out h.2)])
        rw [HJCC.out] at HOKC
        obtain ⟨j5, HJ5⟩ : ∃ j5, Hid (jrun jc = j5) := ⟨_, Lib.hid rfl⟩
        have HOK5 := Lib.hid (show Jok M j5 by rw [← HJ5.out]; exact HOKC.out.run.1)
        have HST5 := Lib.hid (show jstp j5 = none by rw [← HJ5.out]; exact HOKC.out.run.2)
        have HR5 := Lib.hid (show j5.room = rm by rw [← HJ5.out, (jrun_same jc).room, ← HJC.out]; exact HRM0.out)
        have HJF := Lib.hid (show jfeed j k p = jover rm j5 by unfold jfeed; rw [HJCC.out, HJ5.out, HRM0.out])
        have y8 := C.out.box.c8
        have f8 := C.out.box.fz 8
        go_upto_region 16 with fail
        refine at_worldJ (fun W => ∃ q4, Hid (JC G F 3 2 w.heap.size w W q0 jc q4 jc q4)) ⟨_, Lib.hid (by rw [← HJC.out]; exact C.out.s8n (by omega) (by omega))⟩ ?_
        clear C y8 f8
        rintro W ⟨q4, C⟩
        have y0 := C.out.box.c0
        have y1 := C.out.box.c1
        have y2 := C.out.box.c2
        have y3 := C.out.box.c3
        have y4 := C.out.box.c4
        have y5 := C.out.box.c5
        have y6 := C.out.box.c6
        have y7 := C.out.box.c7
        have y8 := C.out.box.c8
        go_upto_region 17 with (go_at_call 22; (with_reducible refine (jrun_any jc q4 M F w.heap.size _ C.out.jw HOKC.out HMM.out C.out.off.size).mono ?_); rintro r w7 ⟨q5, rfl, hw7, ho7, hm7⟩; replace C := Lib.hid (C.out.call (by omega) (by omega) hw7 ho7 hm7); clear hw7 ho7 hm7 y0 y1 y2 y3 y4 y5 y6 y7 y8; have y0 := C.out.box.c0; have y1 := C.out.box.c1; have y2 := C.out.box.c2; have y3 := C.out.box.c3; have y4 := C.out.box.c4; have y5 := C.out.box.c5; have y6 := C.out.box.c6; have y7 := C.out.box.c7; have y8 := C.out.box.c8; have f0 := C.out.box.fz 0; have f1 := C.out.box.fz 1; have f2 := C.out.box.fz 2; have f3 := C.out.box.fz 3; have f4 := C.out.box.fz 4; have f5 := C.out.box.fz 5; have f6 := C.out.box.fz 6; have f7 := C.out.box.fz 7; have f8 := C.out.box.fz 8)
        clear y0 y1 y2 y3 y4 y5 y6 y7 y8 f0 f1 f2 f3 f4 f5 f6 f7 f8
        refine at_worldJ (fun W => Hid (JC G F 3 2 w.heap.size w W q0 (jrun jc) q5 (jrun jc) q5)) (Lib.hid (C.out.s9 (by omega) (by omega))) ?_
        rw [HJ5.out]
        clear C
        rintro W C
        go_loopw [] (fun wr => ∃ j1 q1 n, Hid (jut rm n j5 = j1) ∧ Hid (Jok M j1) ∧ Hid (jstp j1 = none) ∧ Hid (JC G F 3 2 w.heap.size w wr q0 j1 q1 j1 q1)) (fun wr => (M - jnx wr w.heap.size).toNat)
        case atStart => exact ⟨j5, q5, 0, Lib.hid rfl, HOK5, HST5, C⟩
        case round =>
          clear C
          obtain ⟨j1, q1, n1, hn, hok, hst, C⟩ := hrel
          have NX := Lib.hid C.out.box.nx
          have y4 := C.out.box.c4
          have y1 := C.out.box.c1
          rw [show j1.room = rm by rw [← hn.out, (jut_same rm n1 j5).room]; exact HR5.out] at y1
          by_cases hw : rm < (q1.wn : Int)
          · have KW := Lib.hid (show q1.wn ≤ 1073741824 by rw [← C.out.jw.w1]; exact hok.out.wl)
            obtain ⟨fi, hfi⟩ : ∃ x, Hid (jfirst j1.wait = x) := ⟨_, Lib.hid rfl⟩
            have HFI := Lib.hid (hok.out.first hst.out (by have := HRM.out; rw [C.out.jw.w1]; omega) HMM.out)
            rw [hfi.out] at HFI
            have KT := Lib.hid (show q1.tn ≤ 1073741824 by rw [← C.out.jw.t1]; have := hok.out.td; have := hok.out.n1; have := HMM.out; omega)
            have NB := Lib.hid (show 0 ≤ j1.next ∧ j1.next ≤ 4611686018427387904 by have := hok.out.n0; have := hok.out.n1; have := HMM.out; omega)
            have EB := Lib.hid (show 0 ≤ fi ∧ fi ≤ 4611686018427387904 by have := hok.out.n0; have := HFI.out; have := HMM.out; omega)
            have HOKL := Lib.hid (hok.out.lack HFI.out.1 HFI.out.2 (by rw [hfi.out]; exact Int.le_refl _))
            have HUS := Lib.hid (show jush rm j1 = some (jrun (jlack j1 fi)) by rw [← hfi.out]; exact jush_some (by rw [C.out.jw.w1]; exact hw))
            have HJN := Lib.hid (jut_snoc (by rw [hn.out]; exact HUS.out))
            have HU3 := Lib.hid (hok.out.ush hst.out HRM.out HMM.out HUS.out)
            go_upto_region 18 with fail
            clear y4 y1 hw
            refine wp_region_held_drew (S := (fun _ => True)) (by kernel_rfl) (by trivial) (fun _ => ?_)
            refine at_worldJ (fun W => Hid (JC G F 3 2 w.heap.size w W q0 j1 q1 j1 q1)) (Lib.hid C.out.drew) ?_
            clear C
            rintro W C
            refine wpAnyH_ready (rs := [0, 1]) (by kernel_rfl) (by simp) ?_
            refine (AllReadyH.cons (o := ?ofc2) ?hifc2 (fun K hK => ?stfc2) (AllReadyH.cons (o := ?ofc1) ?hifc1 (fun K hK => ?stfc1) AllReadyH.nil))
            case hifc2 => (simp only [List.getElem?_toArray, List.getElem?_cons_zero]; rfl)
            case hifc1 => (simp only [List.getElem?_toArray, List.getElem?_cons_succ, List.getElem?_cons_zero]; rfl)
            case stfc2 =>
              have y0 := C.out.box.c0
              have y1 := C.out.box.c1
              have y2 := C.out.box.c2
              have y3 := C.out.box.c3
              have y4 := C.out.box.c4
              have y5 := C.out.box.c5
              have y6 := C.out.box.c6
              have y7 := C.out.box.c7
              have y8 := C.out.box.c8
              go_simp
              refine hK.out _ _ (by trivial) (fun _ => ?_)
              clear hK K
              try simp only [Act.put, List.setIfInBounds_toArray, List.set_cons_zero, List.set_cons_succ]
              clear y0 y1 y2 y3 y4 y5 y6 y7 y8
              refine wpAnyH_ready (rs := [1]) (by kernel_rfl) (by simp) ?_
              refine (AllReadyH.cons (o := ?ofc3) ?hifc3 (fun K hK => ?stfc3) AllReadyH.nil)
              case hifc3 => (simp only [List.getElem?_toArray, List.getElem?_cons_succ, List.getElem?_cons_zero]; rfl)
              case stfc3 =>
                have y0 := C.out.box.c0
                have y1 := C.out.box.c1
                have y2 := C.out.box.c2
                have y3 := C.out.box.c3
                have y4 := C.out.box.c4
                have y5 := C.out.box.c5
                have y6 := C.out.box.c6
                have y7 := C.out.box.c7
                have y8 := C.out.box.c8
                go_simp
                refine hK.out _ _ (by trivial) (fun _ => ?_)
                clear hK K
                try simp only [Act.put, List.setIfInBounds_toArray, List.set_cons_zero, List.set_cons_succ]
                clear y0 y1 y2 y3 y4 y5 y6 y7 y8
                refine wpAnyH_ready (rs := [2]) (by kernel_rfl) (by simp) ?_
                refine (AllReadyH.cons (o := ?ofc4) ?hifc4 (fun K hK => ?stfc4) AllReadyH.nil)
                case hifc4 => (simp only [List.getElem?_toArray, List.getElem?_cons_succ, List.getElem?_cons_zero]; rfl)
                case stfc4 =>
                  go_simp
                  go_at_call 24
                  (with_reducible refine (jfirst_any j1 q1 _ _ C.out.jw.rw C.out.jw.w1 KW.out).mono ?_)
                  rintro e wy ⟨rfl, hb⟩
                  rw [hfi.out]
                  dsimp only
                  refine hK.out _ _ (by trivial) (fun _ => ?_)
                  clear hK K
                  try simp only [Act.put, List.setIfInBounds_toArray, List.set_cons_zero, List.set_cons_succ]
                  replace C := Lib.hid (C.out.step hb)
                  clear hb
                  refine wpAnyH_ready (rs := [3]) (by kernel_rfl) (by simp) ?_
                  refine (AllReadyH.cons (o := ?ofc5) ?hifc5 (fun K hK => ?stfc5) AllReadyH.nil)
                  case hifc5 => (simp only [List.getElem?_toArray, List.getElem?_cons_succ, List.getElem?_cons_zero]; rfl)
                  case stfc5 =>
                    go_simp
                    go_at_call 23
                    (with_reducible refine (jlack_any j1 q1 fi F w.heap.size _ C.out.jw C.out.off.size KT.out NB.out.1 NB.out.2 EB.out.1 EB.out.2).mono ?_)
                    rintro e wz ⟨q2, rfl, hw2, ho2, hm2⟩
                    dsimp only
                    refine hK.out _ _ (by trivial) (fun _ => ?_)
                    clear hK K
                    try simp only [Act.put, List.setIfInBounds_toArray, List.set_cons_zero, List.set_cons_succ]
                    replace C := Lib.hid (C.out.call (by omega) (by omega) hw2 ho2 hm2)
                    clear hw2 ho2 hm2
                    refine wpAnyH_ready (rs := [4]) (by kernel_rfl) (by simp) ?_
                    refine (AllReadyH.cons (o := ?ofc6) ?hifc6 (fun K hK => ?stfc6) AllReadyH.nil)
                    case hifc6 => (simp only [List.getElem?_toArray, List.getElem?_cons_succ, List.getElem?_cons_zero]; rfl)
                    case stfc6 =>
                      go_simp
                      go_at_call 22
                      (with_reducible refine (jrun_any (jlack j1 fi) q2 M F w.heap.size _ C.out.jw HOKL.out HMM.out C.out.off.size).mono ?_)
                      rintro e wx ⟨q3, rfl, hw3, ho3, hm3⟩
                      dsimp only
                      refine hK.out _ _ (by trivial) (fun _ => ?_)
                      clear hK K
                      try simp only [Act.put, List.setIfInBounds_toArray, List.set_cons_zero, List.set_cons_succ]
                      replace C := Lib.hid (C.out.call (by omega) (by omega) hw3 ho3 hm3)
                      clear hw3 ho3 hm3
                      refine wpAnyH_ready (rs := [5]) (by kernel_rfl) (by simp) ?_
                      refine (AllReadyH.cons (o := ?ofc7) ?hifc7 (fun K hK => ?stfc7) AllReadyH.nil)
                      case hifc7 => (simp only [List.getElem?_toArray, List.getElem?_cons_succ, List.getElem?_cons_zero]; rfl)
                      case stfc7 =>
                        have y0 := C.out.box.c0
                        have y1 := C.out.box.c1
                        have y2 := C.out.box.c2
                        have y3 := C.out.box.c3
                        have y4 := C.out.box.c4
                        have y5 := C.out.box.c5
                        have y6 := C.out.box.c6
                        have y7 := C.out.box.c7
                        have y8 := C.out.box.c8
                        have f0 := C.out.box.fz 0
                        have f1 := C.out.box.fz 1
                        have f2 := C.out.box.fz 2
                        have f3 := C.out.box.fz 3
                        have f4 := C.out.box.fz 4
                        have f5 := C.out.box.fz 5
                        have f6 := C.out.box.fz 6
                        have f7 := C.out.box.fz 7
                        have f8 := C.out.box.fz 8
                        go_simp
                        refine hK.out _ _ (by trivial) (fun _ => ?_)
                        clear hK K
                        try simp only [Act.put, List.setIfInBounds_toArray, List.set_cons_zero, List.set_cons_succ]
                        clear y0 y1 y2 y3 y4 y5 y6 y7 y8 f0 f1 f2 f3 f4 f5 f6 f7 f8
                        replace C := Lib.hid (C.out.s9 (by omega) (by omega))
                        refine wpAnyH_done (by kernel_rfl) ?_ _
                        go_wp2_with fail
                        go_roundw
                        case rel => exact ⟨_, q3, n1 + 1, HJN, Lib.hid HU3.out.1, Lib.hid HU3.out.2.1, C⟩
                        case measure => rw [NX.out, C.out.box.nx]; have := HU3.out.1.n1; have := HU3.out.2.2; omega
            case stfc1 =>
              have y0 := C.out.box.c0
              have y1 := C.out.box.c1
              have y2 := C.out.box.c2
              have y3 := C.out.box.c3
              have y4 := C.out.box.c4
              have y5 := C.out.box.c5
              have y6 := C.out.box.c6
              have y7 := C.out.box.c7
              have y8 := C.out.box.c8
              go_simp
              refine hK.out _ _ (by trivial) (fun _ => ?_)
              clear hK K
              try simp only [Act.put, List.setIfInBounds_toArray, List.set_cons_zero, List.set_cons_succ]
              clear y0 y1 y2 y3 y4 y5 y6 y7 y8
              refine wpAnyH_ready (rs := [0, 2]) (by kernel_rfl) (by simp) ?_
              refine (AllReadyH.cons (o := ?ofc9) ?hifc9 (fun K hK => ?stfc9) (AllReadyH.cons (o := ?ofc8) ?hifc8 (fun K hK => ?stfc8) AllReadyH.nil))
              case hifc9 => (simp only [List.getElem?_toArray, List.getElem?_cons_zero]; rfl)
              case hifc8 => (simp only [List.getElem?_toArray, List.getElem?_cons_succ, List.getElem?_cons_zero]; rfl)
              case stfc9 =>
                have y0 := C.out.box.c0
                have y1 := C.out.box.c1
                have y2 := C.out.box.c2
                have y3 := C.out.box.c3
                have y4 := C.out.box.c4
                have y5 := C.out.box.c5
                have y6 := C.out.box.c6
                have y7 := C.out.box.c7
                have y8 := C.out.box.c8
                go_simp
                refine hK.out _ _ (by trivial) (fun _ => ?_)
                clear hK K
                try simp only [Act.put, List.setIfInBounds_toArray, List.set_cons_zero, List.set_cons_succ]
                clear y0 y1 y2 y3 y4 y5 y6 y7 y8
                refine wpAnyH_ready (rs := [2]) (by kernel_rfl) (by simp) ?_
                refine (AllReadyH.cons (o := ?ofc10) ?hifc10 (fun K hK => ?stfc10) AllReadyH.nil)
                case hifc10 => (simp only [List.getElem?_toArray, List.getElem?_cons_succ, List.getElem?_cons_zero]; rfl)
                case stfc10 =>
                  go_simp
                  go_at_call 24
                  (with_reducible refine (jfirst_any j1 q1 _ _ C.out.jw.rw C.out.jw.w1 KW.out).mono ?_)
                  rintro e wy ⟨rfl, hb⟩
                  rw [hfi.out]
                  dsimp only
                  refine hK.out _ _ (by trivial) (fun _ => ?_)
                  clear hK K
                  try simp only [Act.put, List.setIfInBounds_toArray, List.set_cons_zero, List.set_cons_succ]
                  replace C := Lib.hid (C.out.step hb)
                  clear hb
                  refine wpAnyH_ready (rs := [3]) (by kernel_rfl) (by simp) ?_
                  refine (AllReadyH.cons (o := ?ofc11) ?hifc11 (fun K hK => ?stfc11) AllReadyH.nil)
                  case hifc11 => (simp only [List.getElem?_toArray, List.getElem?_cons_succ, List.getElem?_cons_zero]; rfl)
                  case stfc11 =>
                    go_simp
                    go_at_call 23
                    (with_reducible refine (jlack_any j1 q1 fi F w.heap.size _ C.out.jw C.out.off.size KT.out NB.out.1 NB.out.2 EB.out.1 EB.out.2).mono ?_)
                    rintro e wz ⟨q2, rfl, hw2, ho2, hm2⟩
                    dsimp only
                    refine hK.out _ _ (by trivial) (fun _ => ?_)
                    clear hK K
                    try simp only [Act.put, List.setIfInBounds_toArray, List.set_cons_zero, List.set_cons_succ]
                    replace C := Lib.hid (C.out.call (by omega) (by omega) hw2 ho2 hm2)
                    clear hw2 ho2 hm2
                    refine wpAnyH_ready (rs := [4]) (by kernel_rfl) (by simp) ?_
                    refine (AllReadyH.cons (o := ?ofc12) ?hifc12 (fun K hK => ?stfc12) AllReadyH.nil)
                    case hifc12 => (simp only [List.getElem?_toArray, List.getElem?_cons_succ, List.getElem?_cons_zero]; rfl)
                    case stfc12 =>
                      go_simp
                      go_at_call 22
                      (with_reducible refine (jrun_any (jlack j1 fi) q2 M F w.heap.size _ C.out.jw HOKL.out HMM.out C.out.off.size).mono ?_)
                      rintro e wx ⟨q3, rfl, hw3, ho3, hm3⟩
                      dsimp only
                      refine hK.out _ _ (by trivial) (fun _ => ?_)
                      clear hK K
                      try simp only [Act.put, List.setIfInBounds_toArray, List.set_cons_zero, List.set_cons_succ]
                      replace C := Lib.hid (C.out.call (by omega) (by omega) hw3 ho3 hm3)
                      clear hw3 ho3 hm3
                      refine wpAnyH_ready (rs := [5]) (by kernel_rfl) (by simp) ?_
                      refine (AllReadyH.cons (o := ?ofc13) ?hifc13 (fun K hK => ?stfc13) AllReadyH.nil)
                      case hifc13 => (simp only [List.getElem?_toArray, List.getElem?_cons_succ, List.getElem?_cons_zero]; rfl)
                      case stfc13 =>
                        have y0 := C.out.box.c0
                        have y1 := C.out.box.c1
                        have y2 := C.out.box.c2
                        have y3 := C.out.box.c3
                        have y4 := C.out.box.c4
                        have y5 := C.out.box.c5
                        have y6 := C.out.box.c6
                        have y7 := C.out.box.c7
                        have y8 := C.out.box.c8
                        have f0 := C.out.box.fz 0
                        have f1 := C.out.box.fz 1
                        have f2 := C.out.box.fz 2
                        have f3 := C.out.box.fz 3
                        have f4 := C.out.box.fz 4
                        have f5 := C.out.box.fz 5
                        have f6 := C.out.box.fz 6
                        have f7 := C.out.box.fz 7
                        have f8 := C.out.box.fz 8
                        go_simp
                        refine hK.out _ _ (by trivial) (fun _ => ?_)
                        clear hK K
                        try simp only [Act.put, List.setIfInBounds_toArray, List.set_cons_zero, List.set_cons_succ]
                        clear y0 y1 y2 y3 y4 y5 y6 y7 y8 f0 f1 f2 f3 f4 f5 f6 f7 f8
                        replace C := Lib.hid (C.out.s9 (by omega) (by omega))
                        refine wpAnyH_done (by kernel_rfl) ?_ _
                        go_wp2_with fail
                        go_roundw
                        case rel => exact ⟨_, q3, n1 + 1, HJN, Lib.hid HU3.out.1, Lib.hid HU3.out.2.1, C⟩
                        case measure => rw [NX.out, C.out.box.nx]; have := HU3.out.1.n1; have := HU3.out.2.2; omega
              case stfc8 =>
                go_simp
                go_at_call 24
                (with_reducible refine (jfirst_any j1 q1 _ _ C.out.jw.rw C.out.jw.w1 KW.out).mono ?_)
                rintro e wy ⟨rfl, hb⟩
                rw [hfi.out]
                dsimp only
                refine hK.out _ _ (by trivial) (fun _ => ?_)
                clear hK K
                try simp only [Act.put, List.setIfInBounds_toArray, List.set_cons_zero, List.set_cons_succ]
                replace C := Lib.hid (C.out.step hb)
                clear hb
                refine wpAnyH_ready (rs := [0]) (by kernel_rfl) (by simp) ?_
                refine (AllReadyH.cons (o := ?ofc14) ?hifc14 (fun K hK => ?stfc14) AllReadyH.nil)
                case hifc14 => (simp only [List.getElem?_toArray, List.getElem?_cons_zero]; rfl)
                case stfc14 =>
                  have y0 := C.out.box.c0
                  have y1 := C.out.box.c1
                  have y2 := C.out.box.c2
                  have y3 := C.out.box.c3
                  have y4 := C.out.box.c4
                  have y5 := C.out.box.c5
                  have y6 := C.out.box.c6
                  have y7 := C.out.box.c7
                  have y8 := C.out.box.c8
                  go_simp
                  refine hK.out _ _ (by trivial) (fun _ => ?_)
                  clear hK K
                  try simp only [Act.put, List.setIfInBounds_toArray, List.set_cons_zero, List.set_cons_succ]
                  clear y0 y1 y2 y3 y4 y5 y6 y7 y8
                  refine wpAnyH_ready (rs := [3]) (by kernel_rfl) (by simp) ?_
                  refine (AllReadyH.cons (o := ?ofc15) ?hifc15 (fun K hK => ?stfc15) AllReadyH.nil)
                  case hifc15 => (simp only [List.getElem?_toArray, List.getElem?_cons_succ, List.getElem?_cons_zero]; rfl)
                  case stfc15 =>
                    go_simp
                    go_at_call 23
                    (with_reducible refine (jlack_any j1 q1 fi F w.heap.size _ C.out.jw C.out.off.size KT.out NB.out.1 NB.out.2 EB.out.1 EB.out.2).mono ?_)
                    rintro e wz ⟨q2, rfl, hw2, ho2, hm2⟩
                    dsimp only
                    refine hK.out _ _ (by trivial) (fun _ => ?_)
                    clear hK K
                    try simp only [Act.put, List.setIfInBounds_toArray, List.set_cons_zero, List.set_cons_succ]
                    replace C := Lib.hid (C.out.call (by omega) (by omega) hw2 ho2 hm2)
                    clear hw2 ho2 hm2
                    refine wpAnyH_ready (rs := [4]) (by kernel_rfl) (by simp) ?_
                    refine (AllReadyH.cons (o := ?ofc16) ?hifc16 (fun K hK => ?stfc16) AllReadyH.nil)
                    case hifc16 => (simp only [List.getElem?_toArray, List.getElem?_cons_succ, List.getElem?_cons_zero]; rfl)
                    case stfc16 =>
                      go_simp
                      go_at_call 22
                      (with_reducible refine (jrun_any (jlack j1 fi) q2 M F w.heap.size _ C.out.jw HOKL.out HMM.out C.out.off.size).mono ?_)
                      rintro e wx ⟨q3, rfl, hw3, ho3, hm3⟩
                      dsimp only
                      refine hK.out _ _ (by trivial) (fun _ => ?_)
                      clear hK K
                      try simp only [Act.put, List.setIfInBounds_toArray, List.set_cons_zero, List.set_cons_succ]
                      replace C := Lib.hid (C.out.call (by omega) (by omega) hw3 ho3 hm3)
                      clear hw3 ho3 hm3
                      refine wpAnyH_ready (rs := [5]) (by kernel_rfl) (by simp) ?_
                      refine (AllReadyH.cons (o := ?ofc17) ?hifc17 (fun K hK => ?stfc17) AllReadyH.nil)
                      case hifc17 => (simp only [List.getElem?_toArray, List.getElem?_cons_succ, List.getElem?_cons_zero]; rfl)
                      case stfc17 =>
                        have y0 := C.out.box.c0
                        have y1 := C.out.box.c1
                        have y2 := C.out.box.c2
                        have y3 := C.out.box.c3
                        have y4 := C.out.box.c4
                        have y5 := C.out.box.c5
                        have y6 := C.out.box.c6
                        have y7 := C.out.box.c7
                        have y8 := C.out.box.c8
                        have f0 := C.out.box.fz 0
                        have f1 := C.out.box.fz 1
                        have f2 := C.out.box.fz 2
                        have f3 := C.out.box.fz 3
                        have f4 := C.out.box.fz 4
                        have f5 := C.out.box.fz 5
                        have f6 := C.out.box.fz 6
                        have f7 := C.out.box.fz 7
                        have f8 := C.out.box.fz 8
                        go_simp
                        refine hK.out _ _ (by trivial) (fun _ => ?_)
                        clear hK K
                        try simp only [Act.put, List.setIfInBounds_toArray, List.set_cons_zero, List.set_cons_succ]
                        clear y0 y1 y2 y3 y4 y5 y6 y7 y8 f0 f1 f2 f3 f4 f5 f6 f7 f8
                        replace C := Lib.hid (C.out.s9 (by omega) (by omega))
                        refine wpAnyH_done (by kernel_rfl) ?_ _
                        go_wp2_with fail
                        go_roundw
                        case rel => exact ⟨_, q3, n1 + 1, HJN, Lib.hid HU3.out.1, Lib.hid HU3.out.2.1, C⟩
                        case measure => rw [NX.out, C.out.box.nx]; have := HU3.out.1.n1; have := HU3.out.2.2; omega
          · have hw0 := Lib.hid hw
            have HE := Lib.hid (show jfeed j k p = j1 by rw [HJF.out, ← hn.out]; exact jover_of (by rw [hn.out]; exact jush_none (by rw [C.out.jw.w1]; exact hw0.out)))
            go_upto_region 19 with fail
            clear hw
            have C2 := Lib.hid C.out.drew
            have y0' := C2.out.box.c0
            have y1' := C2.out.box.c1
            have y2' := C2.out.box.c2
            have y3' := C2.out.box.c3
            have y4' := C2.out.box.c4
            have y5' := C2.out.box.c5
            have y6' := C2.out.box.c6
            have y7' := C2.out.box.c7
            have y8' := C2.out.box.c8
            have r0 := C2.out.res.fz 0
            have r1 := C2.out.res.fz 1
            have r2 := C2.out.res.fz 2
            have r3 := C2.out.res.fz 3
            have r4 := C2.out.res.fz 4
            have r5 := C2.out.res.fz 5
            have r6 := C2.out.res.fz 6
            have r7 := C2.out.res.fz 7
            have r8 := C2.out.res.fz 8
            have v0 := C2.out.res.c0
            have v1 := C2.out.res.c1
            have v2 := C2.out.res.c2
            have v3 := C2.out.res.c3
            have v4 := C2.out.res.c4
            have v5 := C2.out.res.c5
            have v6 := C2.out.res.c6
            have v7 := C2.out.res.c7
            have v8 := C2.out.res.c8
            have y0 := C.out.box.c0
            have y2 := C.out.box.c2
            have y3 := C.out.box.c3
            have y5 := C.out.box.c5
            have y6 := C.out.box.c6
            have y7 := C.out.box.c7
            have y8 := C.out.box.c8
            have r0' := C.out.res.fz 0
            have r1' := C.out.res.fz 1
            have r2' := C.out.res.fz 2
            have r3' := C.out.res.fz 3
            have r4' := C.out.res.fz 4
            have r5' := C.out.res.fz 5
            have r6' := C.out.res.fz 6
            have r7' := C.out.res.fz 7
            have r8' := C.out.res.fz 8
            have v0' := C.out.res.c0
            have v1' := C.out.res.c1
            have v2' := C.out.res.c2
            have v3' := C.out.res.c3
            have v4' := C.out.res.c4
            have v5' := C.out.res.c5
            have v6' := C.out.res.c6
            have v7' := C.out.res.c7
            have v8' := C.out.res.c8
            clear y1
            have y1 := C.out.box.c1
            go_region
            clear y0' r0 v0 y0 r0' v0' y1' r1 v1 y1 r1' v1' y2' r2 v2 y2 r2' v2' y3' r3 v3 y3 r3' v3' y4' r4 v4 y4 r4' v4' y5' r5 v5 y5 r5' v5' y6' r6 v6 y6 r6' v6' y7' r7 v7 y7 r7' v7' y8' r8 v8 y8 r8' v8'
            go_wp2_with fail
            rw [HE.out]
            obtain ⟨p1, p2, -, -⟩ := C.out.put (by omega)
            have p5 := C.out.put_below Q0.out
            have p6 := p1.on (Below.refl _ _).drew
            have p7 := (p2.jr fun b hb => .inr hb).on (Below.refl _ _).drew
            have p8 := p5.drew
            refine bodyPost_ret (v := .tuple #[j1.val q1, q1.tv, .int .i64 0]) ?_ rfl ⟨q1, rfl, p7, p8⟩
            exact jres2 rfl _ _ _ _ (w.heap.size + 2) 33 _ _ _ rfl rfl rfl p6 Tryd.underlying33 (by kernel_rfl)
    · have e7 : (rr != p.n) = true := by rw [bne_iff_ne, ← hrr, HRM9.out]; exact TG.out.2.2.2 pl hpa.out (by have := hpt.out; omega)
      have wr3 : wrap64 (pl + 1) = pl + 1 := IntWalk.wrap64_in _ (by have := hpa.out; have := hpt.out; have := TG.out; have := A0.out; omega)
      have WR3 := Lib.hid wr3
      go_upto_region 7 with fail
      go_region_held3 (fun W' => W'.cell? ⟨w.heap.size + 1, 2, none⟩ = some (.int .i64 p.n)) (first | with_reducible exact x2 | with_reducible exact x2') (fail)
      refine at_worldJ (fun W => Hid (JT G F w.heap.size w W q0 p A n c j q { j with told := [] } { q with ta := none, tn := 0, tc := 0 })) (by first | exact C | exact Lib.hid C.out.drew) ?_
      clear C x2 x2' HRM9 hrr
      rintro W C
      go_wp2_with fail
      go_roundw
      case rel => exact ⟨pl + 1, (by first | rfl | rw [WR3.out]), Lib.hid (by have := hpa.out; omega), Lib.hid (by have := hpt.out; omega), C⟩
      case measure => have := hpt.out; simp [intOf]; omega
end Go.Proofs.YtamdaepeogmboaaDoor
