/-
  What the document's Same of layer 24 answers of equal events: true. No condition beyond: sizes below 2^38. What the law's own helper To of layer 24 answers. No condition beyond: lists of at most 2^30 events. What JoinPlays knows of both joiners. No condition.
-/
import Derived.Test.YtamdaepeogmboaaDoorJoiO
import Derived.Test.YtamdaepeogmboaaDoorBEq
import Derived.Deep.RegionHeld3
import Derived.BigQuiet
import Derived.Test.YtamdaepeogmboaaDoorJoiL
import Derived.Test.YtamdaepeogmboaaDoorJqRW
import Derived.Test.YtamdaepeogmboaaDoorGJog
namespace Go.Proofs.YtamdaepeogmboaaDoor
section
open Go.RowKit

set_option maxHeartbeats 2000000 in
theorem jsame_yes (a : List Ev) (n c d : Nat) (A B : Option Addr) (F G : Nat → Prop) (w : World) (ha : Rws shEv F w A a) (hb : Rws shEv G w B a) (hn : a.length = n) (hn1 : n ≤ 274877906944) :
    Calls Tryd.prog 11 #[.slice A n c, .slice B n d] w fun e w' => e = .returned (.bool true) ∧ Below w.heap.size w w' := by
  have hne : ((n : Int) != (n : Int)) = false := by simp
  have HN := Lib.hid hn
  clear hn
  go_enter Tryd.func11, Tryd.ntmps11
  go_wp2_with fail
  go_loopw [5] (fun i wr => ∃ k : Nat, k ≤ n ∧ i = .int .i64 k ∧ Below w.heap.size w wr) (fun i _ => n - (intOf i).toNat)
  case atStart => exact ⟨0, Nat.zero_le _, rfl, Below.refl _ _⟩
  case round =>
    obtain ⟨k, hk, rfl, hbel⟩ := hrel
    by_cases hlt : k < n
    · obtain ⟨ba, oa, x, A3, c3, rfl, hb3, hx, h0, h1, h2, h3, h5, h6⟩ := (ha.below hbel).ev (k := k) (by rw [HN.out]; exact hlt)
      obtain ⟨bb, ob, y, A4, c4, rfl, hb4, hy, g0, g1, g2, g3, g5, g6⟩ := (hb.below hbel).ev (k := k) (by rw [HN.out]; exact hlt)
      rw [hx] at hy
      injection hy with hy
      subst hy
      have s1 := fun j => conv_list (h6.rd.on (below_drewN (Below.refl _ _) j)) x.d.length c3 rfl
      have s2 := fun j => conv_list (g6.rd.on (below_drewN (Below.refl _ _) j)) x.d.length c4 rfl
      clear hx h6 g6
      have i1 : (0 : Int) ≤ k := by omega
      have i2 : (k : Int) < n := by omega
      have j0 : (x.k != x.k) = false := bne_self_eq_false _
      have j2 : (x.f != x.f) = false := bne_self_eq_false _
      have j3 : (x.m != x.m) = false := bne_self_eq_false _
      have s3 : ((strOfNums (nums x.d)).toList == (strOfNums (nums x.d)).toList) = true := beq_self_eq_true _
      go_wp2_with fail
      go_quiet (fail)
      all_goals go_wp2_with fail
      go_roundw
      case rel => exact ⟨k + 1, by omega, by go_num, below_drewN hbel _⟩
      case measure => simp [intOf]; omega
    · go_wp2
      go_ret
      exact ⟨rfl, hbel⟩
end

section
open Go.RowKit

set_option maxHeartbeats 1000000 in
theorem jto_any (l : List Ev) (n c : Nat) (A : Option Addr) (F : Nat → Prop) (w : World) (h : Rws shEv F w A l) (hF : ∀ b, w.heap.size ≤ b → F b) (hl : l.length = n) (hn : n ≤ 1073741824) :
    Calls Tryd.prog 12 #[.slice A n c] w fun e w' => ∃ v, e = .returned v ∧ Orw shEv 76 F w.heap.size w' v l ∧ Below w.heap.size w w' := by
  obtain ⟨i0, hi, hz0, hz1, hz2⟩ := info_parts rev_info
  have HL := Lib.hid hl
  have HF := Lib.hid hF
  have HR := Lib.hid (h.mono (G := fun b => F b ∧ b < w.heap.size) fun b hb hf => ⟨hf, hb⟩)
  clear hl hF h
  go_enter Tryd.func12, Tryd.ntmps12
  go_wp2_with fail
  go_loopw [3, 8] (fun v i wr => ∃ k : Nat, k ≤ n ∧ i = .int .i64 k ∧ Orw shEv 76 F w.heap.size wr v (l.take k) ∧ Below w.heap.size w wr) (fun _ i _ => n - (intOf i).toNat)
  case atStart => exact ⟨0, Nat.zero_le _, rfl, Orw.nil _ _ _ _ _, Below.refl _ _⟩
  case round =>
    obtain ⟨k, hk, rfl, hown, hbel⟩ := hrel
    by_cases hlt : k < n
    · obtain ⟨b, o, x, A3, c3, rfl, hb3, hx, h1, h2, h3, h4, h5, h6⟩ := (HR.out.below hbel).ev (k := k) (by rw [HL.out]; exact hlt)
      have HT := Lib.hid (show l.take (k + 1) = l.take k ++ [x] by rw [List.take_add_one, hx]; rfl)
      have HK := Lib.hid (show (l.take k).length = k by rw [List.length_take, HL.out]; omega)
      obtain ⟨wk, hwk⟩ : ∃ wk, wk = wr.alloc (.cells #[.int .i64 x.k, .slice A3 x.d.length c3, .int .i64 x.f, .int .i64 x.m] 59) := ⟨_, rfl⟩
      have hbe : Below wr.heap.size wr wk := by rw [hwk]; exact (Below.refl _ _).alloc (Nat.le_refl _) _
      have HS := Lib.hid (show wk.heap.size = wr.heap.size + 1 by rw [hwk, World.size_alloc])
      have HWK := Lib.hid hwk
      have H6 := Lib.hid (h6.keep (.of_below hbe))
      have OW := Lib.hid (hown.below hbe)
      have BE := Lib.hid (hbel.trans (hbe.mono hbel.size))
      have BE2 := Lib.hid (BE.out.alloc BE.out.size (.cells #[.int .i64 x.k, .slice A3 x.d.length c3, .int .i64 x.f, .int .i64 x.m] 76))
      clear hwk
      have i1 : (0 : Int) ≤ k := by omega
      have i2 : (k : Int) < n := by omega
      clear hx h6 hown hbel hbe
      go_wp2_with (at_builtin; rw [← HWK.out, ← HS.out]; refine list_rows shEv rfl _ _ _ rfl 76 i0 (.agg #[.int .i64 0, .slice none 0 0, .int .i64 0, .int .i64 0]) 48 Tryd.underlying31 hi hz0 hz1 hz2 rfl (by decide) F _ w.heap.size _ k (l.take k) rfl (OW.out.below ((Below.refl _ _).alloc (Nat.le_refl _) _)) HK.out _ 1 1 _ rfl (litv _ x rfl h5 H6.out).read rfl (fun b _ hb => hb.elim (fun h => ⟨h.1, fun e => absurd (OW.out.lt e).1 (Nat.not_le.2 h.2)⟩) (fun h => ⟨HF.out b (Nat.le_trans BE.out.size h), fun e => Nat.lt_irrefl _ (Nat.lt_of_lt_of_le (OW.out.lt e).2 h)⟩)) (by unfold maxLen; omega) (by omega) BE2.out.size ?_; intro v7 w7 ho7 hg7 hm7; have R2 := BE2.out.grown hg7 BE2.out.size (fun g hg => (OW.out.lt hg).1); clear hg7 hm7)
      have R1 : Orw shEv 76 F w.heap.size w7 v7 (l.take (k + 1)) := by rw [HT.out]; exact ho7
      clear ho7
      go_roundw
      case rel => exact ⟨k + 1, by omega, by go_num, R1, R2⟩
      case measure => simp [intOf]; omega
    · have he : k = n := by omega
      subst he
      rw [List.take_of_length_le (by rw [HL.out]; exact Nat.le_refl _)] at hown
      go_wp2_with fail
      go_ret
      exact ⟨_, rfl, hown, hbel⟩
end

section
set_option maxRecDepth 8000
open Go.RowKit Go.Maps

/-- The program's joiner jp, the document's jd in the variable at block g, an act in the one at g2. -/
structure PlA (w : World) (b g g2 : Nat) (M : Int) (jp : Jn) (q : Jq) (ol : List Int) (jd : Jn) (qd : Jp) (lk : Int) (p : Pc) (A : Option Addr) (n c : Nat) (W : World) : Prop where
  lw : LwC w b M jp q ol W
  jx : Jx W g jd qd
  jr : Jr (fun i => ¬ q.own b i ∧ i ≠ g) W jd qd
  ng : ¬ q.own b g
  gl : w.heap.size ≤ g
  ac : AcX W g2 lk p A n c
  n2 : ¬ q.own b g2
  ne : g2 ≠ g
theorem jn_none8 (j : Jn) (q : Jp) : ∀ (k : Nat) (x : Int), (#[Value.bool j.sh, .int .i64 j.room, .int .i64 j.most, .slice q.la q.ln q.lc, .slice q.wa q.wn q.wc, .int .i64 j.next, .int .i64 j.mode, .slice q.da q.dn q.dc, .slice q.ta q.tn q.tc] : Array Value)[k]? ≠ some (.int .u8 x) := by
  intro k x
  rcases k with _ | _ | _ | _ | _ | _ | _ | _ | _ | k <;> simp
section
variable {w W W' : World} {b g g2 : Nat} {M M' : Int} {jp jd k : Jn} {q q' : Jq} {ol ol' : List Int} {qd qd' : Jp} {lk : Int} {p : Pc} {A : Option Addr} {n c : Nat}
theorem PlA.below (h : PlA w b g g2 M jp q ol jd qd lk p A n c W) (hb : Below W.heap.size W W') : PlA w b g g2 M jp q ol jd qd lk p A n c W' :=
  ⟨h.lw.below hb, h.jx.on hb, h.jr.on hb, h.ng, h.gl, h.ac.off (X := fun _ => False) (.of_below hb) id, h.n2, h.ne⟩
theorem PlA.drew (h : PlA w b g g2 M jp q ol jd qd lk p A n c W) : PlA w b g g2 M jp q ol jd qd lk p A n c W.drew := h.below (Below.refl _ _).drew
/-- The document has answered; its joiner is written into the variable. -/
theorem PlA.put (h : PlA w b g g2 M jp q ol jd qd lk p A n c W) (hb : Below W.heap.size W W') (hr : Jr (fun i => (¬ q.own b i ∧ i ≠ g) ∨ W.heap.size ≤ i) W' k qd') : PlA w b g g2 M jp q ol k qd' lk p A n c (put9 W' g k qd') := by
  have hO := put9_offs (X := fun i => i = g) W' g rfl k qd'
  have hx := h.jx.on hb
  have hg : g < W.heap.size := h.jx.lt
  refine ⟨⟨(h.lw.bel.trans (hb.mono h.lw.bel.size)).trans (hO.below (fun i hi e => by have := h.gl; omega) (Nat.le_trans h.lw.bel.size hb.size)), (h.lw.pw.below hb).scratch hO h.ng hx (jn_none8 _ _), h.lw.own, h.lw.ok, h.lw.mo, h.lw.st, h.lw.fr⟩, put9_jx hx k qd', ?_, h.ng, h.gl, (h.ac.off (X := fun _ => False) (.of_below hb) id).off hO h.ne, h.n2, h.ne⟩
  have h1 : Jr (fun i => ¬ q.own b i ∧ i ≠ g) W' k qd' := hr.mono fun i _ hi => hi.elim id fun hi => ⟨h.lw.pw.new hi, by omega⟩
  exact h1.keep (.of_offs hO fun i hi e => hi.2 e)
/-- .. the same one. -/
theorem PlA.same (h : PlA w b g g2 M jp q ol jd qd lk p A n c W) (hb : Below W.heap.size W W') : PlA w b g g2 M jp q ol jd qd lk p A n c (put9 W' g jd qd) :=
  h.put hb ((h.jr.on hb).mono fun _ _ h => .inl h)
/-- The program has answered. -/
theorem PlA.prog (h : PlA w b g g2 M jp q ol jd qd lk p A n c W) (hP : Pw W' b k q' ol') (hS : Ps b q W q' W') (hok : Jok M' k) (hmo : Jmo k) (hst : jstp k = none) (hfr : ∀ i, q'.fr i) : PlA w b g g2 M' k q' ol' jd qd lk p A n c W' := by
  refine ⟨h.lw.step hP hS hok hmo hst hfr, (hS.off.block g h.jx.lt h.ng).trans h.jx, ?_, hS.out h.jx.lt h.ng, h.gl, h.ac.off hS.off h.n2, hS.out (Array.getElem?_eq_some_iff.1 h.ac).1 h.n2, h.ne⟩
  exact ((h.jr.mono (F := fun i => (¬ q.own b i ∧ i ≠ g) ∧ i < W.heap.size) fun i hi hf => ⟨hf, hi⟩).keep (hS.keeps.less fun i _ hi => hi.1.1)).mono fun i _ hi => ⟨hS.out hi.2 hi.1.1, hi.1.2⟩
theorem PlA.rd (h : PlA w b g g2 M jp q ol jd qd lk p A n c W) {D : Option Addr} {l : List Nat} (hr : RdF (fun _ => True) w D l) : RdF (fun i => ¬ q.own b i ∧ i ≠ g) W D l :=
  ((hr.mono (G := fun i => i < w.heap.size) fun _ hi _ => hi).keep (.of_below h.lw.bel)).mono fun i _ hi => ⟨fun e => absurd hi (Nat.not_lt.2 (h.lw.own i e)), fun e => by have := h.gl; omega⟩
/-- .. without an act. -/
structure PlC (w : World) (b g : Nat) (M : Int) (j : Jn) (q : Jq) (ol : List Int) (qd : Jp) (W : World) : Prop where
  lw : LwC w b M j q ol W
  jx : Jx W g j qd
  jr : Jr (fun i => ¬ q.own b i ∧ i ≠ g) W j qd
  ng : ¬ q.own b g
  gl : w.heap.size ≤ g
theorem PlA.noact (h : PlA w b g g2 M k q ol k qd lk p A n c W) : PlC w b g M k q ol qd W := ⟨h.lw, h.jx, h.jr, h.ng, h.gl⟩
theorem PlC.act (h : PlC w b g M k q ol qd W) (lk : Int) (p : Pc) (A : Option Addr) (n c : Nat) : PlA w b g W.heap.size M k q ol k qd lk p A n c (W.alloc (.cells #[.int .i64 lk, .bool p.b, .bool p.e, .int .i64 p.n, .slice A n c] 39 (0, 0))) := by
  have hb : Below W.heap.size W (W.alloc (.cells #[.int .i64 lk, .bool p.b, .bool p.e, .int .i64 p.n, .slice A n c] 39 (0, 0))) := (Below.refl _ _).alloc (Nat.le_refl _) _
  exact ⟨h.lw.below hb, h.jx.on hb, h.jr.on hb, h.ng, h.gl, heap_alloc_new W _, h.lw.pw.new (Nat.le_refl _), fun e => absurd h.jx.lt (by omega)⟩
theorem PlC.made {W0 : World} (h : LwC w b M k q ol W0) (hb : Below W0.heap.size W0 W) (hr : Jr (fun i => W0.heap.size ≤ i) W k qd) : PlC w b W.heap.size M k q ol qd (W.alloc (k.obj qd)) := by
  have hb2 : Below W.heap.size W (W.alloc (k.obj qd)) := (Below.refl _ _).alloc (Nat.le_refl _) _
  exact ⟨(h.below hb).below hb2, Jx.new W k qd, (hr.mono fun i hi hf => ⟨h.pw.new hf, by omega⟩).on hb2, (h.below hb).pw.new (Nat.le_refl _), Nat.le_trans h.bel.size hb.size⟩
end
end
end Go.Proofs.YtamdaepeogmboaaDoor
