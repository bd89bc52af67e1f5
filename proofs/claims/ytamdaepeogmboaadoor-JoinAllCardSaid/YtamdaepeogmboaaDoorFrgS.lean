
/-
  What Split of layer 23 answers. Conditions: a most of at least 1, a first that is a number, at most 2000 octets; the shapes stand as the start-up lays them ('TabF').
-/
import Derived.Test.YtamdaepeogmboaaDoorFrgC
namespace Go.Proofs.YtamdaepeogmboaaDoor
set_option maxRecDepth 4000
open Go.RowKit Go.Shelf
attribute [local go_sem] Oper.semAt_some

/-- Octets in pieces, ahead of the marks for the first and the last. -/
def frrow (s : Bool) (f : Nat) (L : List (List Nat)) : List Pc := L.mapIdx fun i d => ⟨false, false, (frnum s f i : Int), d⟩
theorem frrow_snoc (s : Bool) (f : Nat) (L : List (List Nat)) (d : List Nat) : frrow s f (L ++ [d]) = frrow s f L ++ [⟨false, false, (frnum s f L.length : Int), d⟩] := by simp [frrow, List.mapIdx_append]
theorem frrow_len (s : Bool) (f : Nat) (L : List (List Nat)) : (frrow s f L).length = L.length := by simp [frrow]
theorem frrow_all (s : Bool) (f m : Nat) (l : List Nat) : (((frrow s f ((List.range (frcnt m l.length)).map (frchk m l))).set 0 ⟨true, false, (frnum s f 0 : Int), frchk m l 0⟩).set (frcnt m l.length - 1) ⟨decide (frcnt m l.length - 1 = 0), true, (frnum s f (frcnt m l.length - 1) : Int), frchk m l (frcnt m l.length - 1)⟩) = frpcs s f m l := by
  have hc : 0 < frcnt m l.length := Nat.succ_pos _
  have hl : (frrow s f ((List.range (frcnt m l.length)).map (frchk m l))).length = frcnt m l.length := by rw [frrow_len]; simp
  apply List.ext_getElem?
  intro i
  by_cases hi : i < frcnt m l.length
  · rw [frpcs_at s f m l hi]
    by_cases h2 : i = frcnt m l.length - 1
    · subst h2
      rw [List.getElem?_set_self (by rw [List.length_set, hl]; omega)]
      unfold frpc
      rw [decide_eq_true (show frcnt m l.length - 1 + 1 = frcnt m l.length by omega)]
    · rw [List.getElem?_set_ne (by omega)]
      by_cases h1 : i = 0
      · subst h1
        rw [List.getElem?_set_self (by rw [hl]; omega)]
        unfold frpc
        rw [decide_eq_false (show ¬ 0 + 1 = frcnt m l.length by omega)]
        rfl
      · rw [List.getElem?_set_ne (by omega)]
        unfold frrow frpc
        rw [List.getElem?_mapIdx, List.getElem?_map, List.getElem?_range hi]
        rw [decide_eq_false (show ¬ i + 1 = frcnt m l.length by omega), decide_eq_false h1]
        rfl
  · rw [List.getElem?_eq_none (by rw [List.length_set, List.length_set, hl]; omega), List.getElem?_eq_none (by rw [frpcs_len]; omega)]

/-- A turn of a block that is no cells leaves rows as they are. -/
theorem RdF.cells {F : Nat → Prop} {W W' : World} {row : Option Nat} {A : Option Addr} {l : List Nat} (h : RdF F W A l) (hg : W.grownBy W' row) (hr : ∀ r, row = some r → ∃ o : Obj, W.heap[r]? = some o ∧ o.isCells = false) : RdF F W' A l := fun hl => by
  obtain ⟨b, off, h1, h2, h3, h4⟩ := h hl
  exact ⟨b, off, h1, Nat.lt_of_lt_of_le h2 hg.size, h3, fun k x hx => cell_kept (h4 k x hx) hg hr⟩
theorem Orw.cells_ {T : TypeId} {F : Nat → Prop} {B : Nat} {W W' : World} {row : Option Nat} {v : Value} {xs : List Pc} (h : Orw shF T F B W v xs) (hg : W.grownBy W' row) (hr : ∀ r, row = some r → ∃ o : Obj, W.heap[r]? = some o ∧ o.isCells = false) : Orw shF T F B W' v xs := by
  obtain ⟨css, h1, h2, h3⟩ := h
  refine ⟨css, h1, h2.kept hg ?_, fun k x cs hx hc => ?_⟩
  · rcases h2.2 with ⟨rfl, _⟩ | ⟨g, cap, cur, rfl, _, hgb, _⟩
    · exact .inl rfl
    · refine .inr fun e' => ?_
      obtain ⟨o, ho, hc⟩ := hr g (by simpa [Value.ownBlock] using e'.symm)
      rw [hgb] at ho; cases ho; cases hc
  · obtain ⟨A, c, rfl, g1, g2⟩ := h3 k x cs hx hc
    exact ⟨A, c, rfl, g1, g2.cells hg hr⟩
theorem Orw.made {T : TypeId} {F : Nat → Prop} {B : Nat} {w : World} {v : Value} (h : w.ownsRow B T 4 v 0 []) : Orw shF T F B w v [] := ⟨[], rfl, h, fun k x cs hx => by simp at hx⟩

/-- What holds between two rounds. -/
structure FrI (w : World) (s : Bool) (f Bs Bo Bn Bm Bd m : Nat) (A : Option Addr) (n c : Nat) (L : List (List Nat)) (W : World) : Prop where
  row : ∃ v, Boxed W Bo 57 v ∧ Orw shF 50 (fun b => w.heap.size ≤ b) w.heap.size W v (frrow s f L)
  nx : Boxed W Bn 3 (.int .i64 (frnum s f L.length : Int))
  sh : Boxed W Bs 4 (.bool s)
  bd : Boxed W Bd 30 (.slice A n c)
  bm : Boxed W Bm 3 (.int .i64 (m : Int))
  tab : TabF W
  bel : Below w.heap.size w W
theorem boxed_cells {W W' : World} {row : Option Nat} {B : Nat} {t : TypeId} {v : Value} (h : Boxed W B t v) (hg : W.grownBy W' row) (hr : ∀ r, row = some r → ∃ o : Obj, W.heap[r]? = some o ∧ o.isCells = false) : Boxed W' B t v :=
  h.kept hg (fun e' => by
    obtain ⟨o, ho, hc⟩ := hr B e'.symm
    rw [show W.heap[B]? = _ from h] at ho; cases ho; cases hc)
theorem FrI.turn {w : World} {s : Bool} {f Bs Bo Bn Bm Bd m : Nat} {A : Option Addr} {n c : Nat} {L : List (List Nat)} {W W' : World} {row : Option Nat} {B : Nat} (h : FrI w s f Bs Bo Bn Bm Bd m A n c L W) (hB : w.heap.size ≤ B) (hg : W.grownBy W' row) (hr : ∀ r, row = some r → B ≤ r ∧ ∃ o : Obj, W.heap[r]? = some o ∧ o.isCells = false) :
    FrI w s f Bs Bo Bn Bm Bd m A n c L W' := by
  have hr2 : ∀ r, row = some r → ∃ o : Obj, W.heap[r]? = some o ∧ o.isCells = false := fun r e => (hr r e).2
  obtain ⟨v, h1, h2⟩ := h.row
  obtain ⟨t0, t1, t2, t3, t4, t5⟩ := h.tab
  exact ⟨⟨v, boxed_cells h1 hg hr2, h2.cells_ hg hr2⟩, boxed_cells h.nx hg hr2, boxed_cells h.sh hg hr2, boxed_cells h.bd hg hr2, boxed_cells h.bm hg hr2,
    ⟨cell_kept t0 hg hr2, cell_kept t1 hg hr2, cell_kept t2 hg hr2, cell_kept t3 hg hr2, cell_kept t4 hg hr2, cell_kept t5 hg hr2⟩,
    h.bel.grown hg h.bel.size (fun k e => Nat.le_trans hB (hr k e).1)⟩
theorem kp2_put {Bd Bm B : Nat} (hd : Bd < B) (hm : Bm < B) (W : World) (l : Nat) (o o' : Obj) (h1 : B ≤ l) (_ : W.heap[l]? = some o) : Kp2 Bd Bm W (W.putObj l o') :=
  ⟨by simp, fun k hk _ => World.putObj_heap_other (by rcases hk with rfl | rfl <;> omega)⟩
theorem frchunks_stops (F : Fence) (n : Nat) (hF : F.fn 45) (hro : F.round = none) (hn : 1 ≤ n) (Bd Bm B m : Nat) (w0 w : World) (hm : 0 < m) (hm2 : m ≤ 9223372036854775807) (A : Option Addr) (N c : Nat) (d : List Nat) (hd : Rd w0 B A d) (hdl : d.length = N) (hdc : N ≤ c) (hN : N ≤ 274877906944) (hdb : By d)
    (hBd : Boxed w Bd 30 (.slice A N c)) (hBm : Boxed w Bm 3 (.int .i64 (m : Int))) :
    SeqStopsK F n Tryd.prog 45 #[.pointer (some ⟨Bd, 0, none⟩), .pointer (some ⟨Bm, 0, none⟩)] (Chk.enc (w := w0) (B := B)) (Kp2 Bd Bm) (fun ys => ys.map Chk.oct = (List.range (frcnt m N)).map (frchk m d)) (fun _ => True) (frcnt m N) w :=
  fun l J Jx W hW _ _ hY h0 => frchunks1_in F n hF hro hn l Bd Bm B m w0 hm hm2 A N c d hd hdl hdc hN hdb J Jx hY W ((hW.block Bd hBd.lt).trans hBd) ((hW.block Bm hBm.lt).trans hBm) h0

/-- append on rows, for a step of a region whose order is open, inside a fence. -/
theorem step_rows_in {α : Type} (H : Sh α) {F0 : Fence} {n0 : Nat} {P : Program} (w : World) {ops : Array Oper} {o : Oper} {a : Act} {K : Act → World → Prop} {Q : Exit → Act → World → Prop} {E : Prop} (hw : Region.wanted o (yielded ops a.tmps) = true) (s x : Operand) (t : TypeId)
    (ho : o.op = .call { callee := .builtin .append, args := #[s, x], argTypes := #[t, t] })
    (e : TypeId) (i : TypeInfo) (z : Value) (bytes : Nat) (ht : P.underlying t = some (.slice e)) (hi : P.info? e = some i) (hz : i.zero = some z)
    (hsize : i.size = H.sz) (hby : i.bytes = bytes) (hzs : z.cells.size = H.sz) (hsz : 0 < H.sz) (F G : Nat → Prop) (base : Nat) (v : Value) (n : Nat) (xs : List α) (hs : a.eval s = v) (hown : Orw H e F base w v xs) (hn : xs.length = n)
    (A : Option Addr) (m c : Nat) (ys : List α) (hx : a.eval x = .slice A m c) (hys : Rws H G w A ys) (hm : ys.length = m) (hG : ∀ b, b < w.heap.size → G b → F b ∧ v.ownBlock ≠ some b)
    (h63 : n + m ≤ maxLen) (hbytes : (n + m) * bytes ≤ 140737488355328) (hbase : base ≤ w.heap.size)
    (h : ∀ v' w', Orw H e F base w' v' (xs ++ ys) → w.grownBy w' v.ownBlock → Mv w.heap.size v v' → K (a.put o.dst v') w') :
    if Region.wanted o (yielded ops a.tmps) = true then Oper.wpIn F0 n0 P o a w K Q else E := by
  rw [if_pos hw]
  obtain ⟨v', w', hrun, h2, h3, h4⟩ := run_rows H (P := P) w t o.type e i z bytes ht hi hz hsize hby hzs hsz F G base v n xs hown hn A m c ys hys hm hG h63 hbytes hbase
  unfold Oper.wpIn
  refine ⟨?_, ?_⟩
  · simp [Oper.about, ho, resolve, Target.leads, Sem.run_pure]
  · rw [Oper.semAt_plain F0 _ _ (by rw [ho]; intro c hc'; cases hc')]
    simp [execOp, ho, resolve, invoke, builtin, hs, hx, hrun, Result.andThen]
    exact h v' w' h2 h3 h4

/-- What is known in the midst of a round: the boxes (the row's may lag behind), the row. -/
structure FrM (w W : World) (s : Bool) (q m : Nat) (A : Option Addr) (n c : Nat) (vb v : Value) (xs : List Pc) (num : Int) (W' : World) : Prop where
  bo : Boxed W' q 57 vb
  ow : Orw shF 50 (fun b => w.heap.size ≤ b) w.heap.size W' v xs
  bn : Boxed W' (q + 1) 3 (.int .i64 num)
  bs : Boxed W' w.heap.size 4 (.bool s)
  bd : Boxed W' (q + 3) 30 (.slice A n c)
  bm : Boxed W' (q + 2) 3 (.int .i64 (m : Int))
  bel : Below w.heap.size w W'
  ko : KeepsOthers W W'
  hq : w.heap.size < q
section
variable {w W W' W'' : World} {s : Bool} {q m : Nat} {A : Option Addr} {n c : Nat} {vb v v' : Value} {xs xs' : List Pc} {num : Int}
theorem FrI.mid {f : Nat} {L : List (List Nat)} (h : FrI w s f w.heap.size q (q + 1) (q + 2) (q + 3) m A n c L W) (hq : w.heap.size < q) : ∃ v, FrM w W s q m A n c v v (frrow s f L) (frnum s f L.length : Int) W := by
  obtain ⟨v, h1, h2⟩ := h.row
  exact ⟨v, h1, h2, h.nx, h.sh, h.bd, h.bm, h.bel, KeepsOthers.refl _, hq⟩
theorem FrM.kp (h : FrM w W s q m A n c vb v xs num W') (hd : Boxed W (q + 3) 30 (.slice A n c)) (hm : Boxed W (q + 2) 3 (.int .i64 (m : Int))) : Kp2 (q + 3) (q + 2) W W' :=
  ⟨h.ko.size, fun k hk _ => by
    rcases hk with rfl | rfl
    · exact (show W'.heap[q + 3]? = _ from h.bd).trans (show W.heap[q + 3]? = _ from hd).symm
    · exact (show W'.heap[q + 2]? = _ from h.bm).trans (show W.heap[q + 2]? = _ from hm).symm⟩
theorem FrM.drew (h : FrM w W s q m A n c vb v xs num W') : FrM w W s q m A n c vb v xs num W'.drew :=
  ⟨h.bo, h.ow.below ((Below.refl _ _).drew), h.bn, h.bs, h.bd, h.bm, h.bel.drew, h.ko.trans (KeepsOthers.drew _), h.hq⟩
theorem FrM.step (h : FrM w W s q m A n c vb v xs num W') (hb : Below W'.heap.size W' W'') : FrM w W s q m A n c vb v xs num W'' :=
  ⟨(hb.block _ h.bo.lt).trans h.bo, h.ow.below hb, (hb.block _ h.bn.lt).trans h.bn, (hb.block _ h.bs.lt).trans h.bs, (hb.block _ h.bd.lt).trans h.bd, (hb.block _ h.bm.lt).trans h.bm, h.bel.trans (hb.mono h.bel.size), h.ko.trans ⟨hb.size, fun k _ hk _ => (hb.block k (Array.getElem?_eq_some_iff.1 hk).1).trans hk⟩, h.hq⟩
theorem FrM.al (h : FrM w W s q m A n c vb v xs num W') (o : Obj) : FrM w W s q m A n c vb v xs num (W'.alloc o) := h.step ((Below.refl _ _).alloc (Nat.le_refl _) o)
theorem FrM.app (h : FrM w W s q m A n c vb v xs num W') (ho : Orw shF 50 (fun b => w.heap.size ≤ b) w.heap.size W'' v' xs') (hg : W'.grownBy W'' v.ownBlock) : FrM w W s q m A n c vb v' xs' num W'' := by
  obtain ⟨cs, hcs⟩ := h.ow.own
  refine ⟨h.bo.kept hg (h.bo.not_row (by decide) hcs), ho, h.bn.kept hg (h.bn.not_row (by decide) hcs), h.bs.kept hg (h.bs.not_row (by decide) hcs), h.bd.kept hg (h.bd.not_row (by decide) hcs), h.bm.kept hg (h.bm.not_row (by decide) hcs), h.bel.grown hg h.bel.size (fun g hg' => (h.ow.lt hg').1), h.ko.trans (KeepsOthers.of_grownBy hg fun j o ej hj => ?_), h.hq⟩
  rcases hcs.2 with ⟨rfl, _⟩ | ⟨g, cap, cur, rfl, _, hgb, _⟩
  · simp [Value.ownBlock] at ej
  · obtain rfl : g = j := by simpa [Value.ownBlock] using ej
    rw [hgb] at hj; cases hj; rfl
theorem boxed_other {B k : Nat} {t : TypeId} {u x : Value} (h : Boxed W' B t u) (hk : B ≠ k) : Boxed (W'.setCell ⟨k, 0, none⟩ x) B t u := h.kept (grownBy_setCell' W' k x) (by simpa using hk)
theorem rdF_set {F : Nat → Prop} {k : Nat} {x : Value} {t : TypeId} {u : Value} {D : Option Addr} {l : List Nat} (h : RdF F W' D l) (hbx : Boxed W' k t u) (hu : ∀ y, u ≠ .int .u8 y) : RdF F (W'.setCell ⟨k, 0, none⟩ x) D l := fun hl => by
  obtain ⟨b, off, h1, h2, h3, h4⟩ := h hl
  have hne : b ≠ k := by
    intro e
    subst e
    have hx := h4 0 _ (List.getElem?_eq_getElem hl)
    rw [Nat.add_zero, cell_of_row W' b off _ _ _ hbx] at hx
    match off, hx with
    | 0, hx => injection hx with hx; exact hu _ hx
    | off + 1, hx => simp at hx
  have hK : Keeps (fun i => i ≠ k) W' (W'.setCell ⟨k, 0, none⟩ x) := Keeps.of_offs (Offs.set (X := fun i => i = k) W' k 0 x rfl) (fun _ h => h)
  exact ⟨b, off, h1, Nat.lt_of_lt_of_le h2 hK.size, h3, fun j y hy => (hK.cell h2 hne _).trans (h4 j y hy)⟩
theorem orw_setF {k : Nat} {x : Value} {t : TypeId} {u : Value} (h : Orw shF 50 (fun b => w.heap.size ≤ b) w.heap.size W' v xs) (hbx : Boxed W' k t u) (ht : t ≠ 50) (hu : ∀ y, u ≠ .int .u8 y) : Orw shF 50 (fun b => w.heap.size ≤ b) w.heap.size (W'.setCell ⟨k, 0, none⟩ x) v xs := by
  obtain ⟨css, h1, h2, h3⟩ := h
  refine ⟨css, h1, h2.kept (grownBy_setCell' W' k x) (.inr (hbx.not_row ht h2).symm), fun i y cs hy hc => ?_⟩
  obtain ⟨D, d, rfl, g1, g2⟩ := h3 i y cs hy hc
  exact ⟨D, d, rfl, g1, rdF_set g2 hbx hu⟩
/-- out = .. -/
theorem FrM.setO {D0 : Option Addr} {k0 e0 : Nat} (h : FrM w W s q m A n c (.slice D0 k0 e0) v xs num W') : FrM w W s q m A n c v v xs num (W'.setCell ⟨q, 0, none⟩ v) := by
  have hq := h.hq
  exact ⟨h.bo.set v, orw_setF h.ow h.bo (by decide) (fun y e => by cases e), boxed_other h.bn (by omega), boxed_other h.bs (by omega), boxed_other h.bd (by omega), boxed_other h.bm (by omega), h.bel.setCell (p := ⟨q, 0, none⟩) (Nat.le_of_lt hq) _, h.ko.trans (KeepsOthers.setCell _ _ _), hq⟩
/-- next = .. -/
theorem FrM.setN (h : FrM w W s q m A n c vb v xs num W') (y : Int) : FrM w W s q m A n c vb v xs y (W'.setCell ⟨q + 1, 0, none⟩ (.int .i64 y)) := by
  have hq := h.hq
  exact ⟨boxed_other h.bo (by omega), orw_setF h.ow h.bn (by decide) (fun y e => by cases e), h.bn.set _, boxed_other h.bs (by omega), boxed_other h.bd (by omega), boxed_other h.bm (by omega), h.bel.setCell (p := ⟨q + 1, 0, none⟩) (Nat.le_succ_of_le (Nat.le_of_lt hq)) _, h.ko.trans (KeepsOthers.setCell _ _ _), hq⟩
theorem FrM.fin {f : Nat} {L : List (List Nat)} (h : FrM w W s q m A n c v v (frrow s f L) (frnum s f L.length : Int) W') (hT : TabF w) : FrI w s f w.heap.size q (q + 1) (q + 2) (q + 3) m A n c L W' :=
  ⟨⟨v, h.bo, h.ow⟩, h.bn, h.bs, h.bd, h.bm, hT.below h.bel, h.bel⟩
end
end Go.Proofs.YtamdaepeogmboaaDoor
