
/-
  The program's joiner of layer 24 behind a pointer: what it says, what is its own, what turns where it is called; turn. No condition.
-/
import Derived.Test.YtamdaepeogmboaaDoorJqO
namespace Go.Proofs.YtamdaepeogmboaaDoor
set_option maxRecDepth 4000
open Go.RowKit Go.Maps

/-- Where its parts lie. -/
structure Jq where
  lb : Nat
  mb : Nat
  mn : Nat
  oa : Option Addr
  on : Nat
  oc : Nat
  da : Option Addr
  dn : Nat
  dc : Nat
  fr : Nat → Prop
abbrev Jq.ov (q : Jq) : Value := .slice q.oa q.on q.oc
abbrev Jq.dv (q : Jq) : Value := .slice q.da q.dn q.dc
abbrev lkv (l : List Int) : Array Value := (l.map fun x => Value.int .i64 (x + 1)).toArray
/-- Its cells. -/
def Px (w : World) (b : Nat) (j : Jn) (q : Jq) : Prop := w.heap[b]? = some (.cells #[.int .i64 j.mode, .int .i64 (frmod j.sh : Int), .int .i64 j.room, .int .i64 j.most, .slice (some ⟨q.lb, 0, none⟩) j.last.length j.last.length, .int .i64 j.next, .map (some q.mb), .slice q.oa q.on q.oc, .slice q.da q.dn q.dc] 72 (0, 0))
section
variable {w w' : World} {b : Nat} {j : Jn} {q : Jq}
theorem Px.lt (h : Px w b j q) : b < w.heap.size := (Array.getElem?_eq_some_iff.1 h).1
theorem Px.c0 (h : Px w b j q) : w.cell? ⟨b, 0, none⟩ = some (.int .i64 j.mode) := by rw [cell_of_row w b _ _ _ _ h]; rfl
theorem Px.c1 (h : Px w b j q) : w.cell? ⟨b, 1, none⟩ = some (.int .i64 (frmod j.sh : Int)) := by rw [cell_of_row w b _ _ _ _ h]; rfl
theorem Px.c2 (h : Px w b j q) : w.cell? ⟨b, 2, none⟩ = some (.int .i64 j.room) := by rw [cell_of_row w b _ _ _ _ h]; rfl
theorem Px.c3 (h : Px w b j q) : w.cell? ⟨b, 3, none⟩ = some (.int .i64 j.most) := by rw [cell_of_row w b _ _ _ _ h]; rfl
theorem Px.c4 (h : Px w b j q) : w.cell? ⟨b, 4, none⟩ = some (.slice (some ⟨q.lb, 0, none⟩) j.last.length j.last.length) := by rw [cell_of_row w b _ _ _ _ h]; rfl
theorem Px.c5 (h : Px w b j q) : w.cell? ⟨b, 5, none⟩ = some (.int .i64 j.next) := by rw [cell_of_row w b _ _ _ _ h]; rfl
theorem Px.c6 (h : Px w b j q) : w.cell? ⟨b, 6, none⟩ = some (.map (some q.mb)) := by rw [cell_of_row w b _ _ _ _ h]; rfl
theorem Px.c7 (h : Px w b j q) : w.cell? ⟨b, 7, none⟩ = some (.slice q.oa q.on q.oc) := by rw [cell_of_row w b _ _ _ _ h]; rfl
theorem Px.c8 (h : Px w b j q) : w.cell? ⟨b, 8, none⟩ = some (.slice q.da q.dn q.dc) := by rw [cell_of_row w b _ _ _ _ h]; rfl
theorem Px.fz (h : Px w b j q) (k : Nat) : w.frozen? ⟨b, k, none⟩ = false := frozen_of_row w b k _ _ h
theorem Px.off {X : Nat → Prop} (h : Px w b j q) (hb : Offs X w w') (hX : ¬ X b) : Px w' b j q := (hb.block b h.lt hX).trans h
theorem Px.s0 (h : Px w b j q) (u : Int) : Px (w.setCell ⟨b, 0, none⟩ (.int .i64 u)) b { j with mode := u } q := heap_setCell_same _ b 0 _ _ _ h
theorem Px.s5 (h : Px w b j q) (u : Int) : Px (w.setCell ⟨b, 5, none⟩ (.int .i64 u)) b { j with next := u } q := heap_setCell_same _ b 5 _ _ _ h
theorem Px.s7 (h : Px w b j q) (A : Option Addr) (n c : Nat) : Px (w.setCell ⟨b, 7, none⟩ (.slice A n c)) b j { q with oa := A, on := n, oc := c } := heap_setCell_same _ b 7 _ _ _ h
theorem Px.s8 (h : Px w b j q) (A : Option Addr) (n c : Nat) : Px (w.setCell ⟨b, 8, none⟩ (.slice A n c)) b j { q with da := A, dn := n, dc := c } := heap_setCell_same _ b 8 _ _ _ h
/-- A row of another element type lies elsewhere. -/
theorem Px.ne (h : Px w b j q) {g : Nat} {cur : Array Value} {T : TypeId} (hg : w.heap[g]? = some (.cells cur T (0, 0))) (hT : T ≠ 72) : g ≠ b := by
  intro e
  subst e
  rw [show w.heap[g]? = _ from h] at hg
  injection hg with h1
  injection h1 with _ h2
  exact hT h2.symm
end

/-- What is a joiner's own. -/
def Jq.own (b : Nat) (q : Jq) (i : Nat) : Prop := i = b ∨ i = q.lb ∨ i = q.mb ∨ q.ov.ownBlock = some i ∨ q.dv.ownBlock = some i
/-- A joiner in memory: what its pointer leads to says j (what is told aside); ol are the places that wait. -/
structure Pw (w : World) (b : Nat) (j : Jn) (q : Jq) (ol : List Int) : Prop where
  px : Px w b j q
  lk : w.heap[q.lb]? = some (.cells (lkv j.last) 3 (0, 0))
  mp : Mq (fun i => ¬ q.own b i ∧ q.fr i) w q.mb q.mn j.most j.wait
  od : Oi w q.oa q.on q.oc ol
  sr : Srt ol j.wait
  dt : w.ownsRow 0 5 1 q.dv q.dn (bvs j.data)
  dl : j.data.length = q.dn
  ap : q.ov.ownBlock ≠ some q.lb
/-- From w with q to w' with q': the joiner's own blocks alone have turned; what is its own was so, or is new. -/
structure Ps (b : Nat) (q : Jq) (w : World) (q' : Jq) (w' : World) : Prop where
  off : Offs (q.own b) w w'
  own : ∀ i, q'.own b i → q.own b i ∨ w.heap.size ≤ i
section
variable {w w' w2 : World} {b : Nat} {j : Jn} {q q' q2 : Jq} {ol : List Int}
theorem Ps.refl (b : Nat) (q : Jq) (w : World) : Ps b q w q w := ⟨.refl _ _, fun _ h => .inl h⟩
theorem Ps.trans (h : Ps b q w q' w') (k : Ps b q' w' q2 w2) : Ps b q w q2 w2 :=
  ⟨h.off.trans k.off (fun _ h => h) (fun i hi hy => (h.own i hy).elim id fun e => absurd hi (Nat.not_lt.2 e)), fun i hi => (k.own i hi).elim (h.own i) fun e => .inr (Nat.le_trans h.off.size e)⟩
theorem Ps.of_below (hb : Below w.heap.size w w') : Ps b q w q w' := ⟨.of_below hb, fun _ h => .inl h⟩
theorem Ps.below (h : Ps b q w q' w') (hb : Below w'.heap.size w' w2) : Ps b q w q' w2 := h.trans (.of_below hb)
theorem Ps.keeps (h : Ps b q w q' w') : Keeps (fun i => ¬ q.own b i) w w' := .of_offs h.off fun _ h => h
theorem Ps.out (h : Ps b q w q' w') {i : Nat} (hi : i < w.heap.size) (hn : ¬ q.own b i) : ¬ q'.own b i := fun e => (h.own i e).elim hn fun e => absurd hi (Nat.not_lt.2 e)
theorem Ps.rd (h : Ps b q w q' w') {A : Option Addr} {l : List Nat} (hr : RdF (fun i => ¬ q.own b i) w A l) : RdF (fun i => ¬ q'.own b i) w' A l :=
  ((hr.mono (G := fun i => ¬ q.own b i ∧ i < w.heap.size) fun _ hi hn => ⟨hn, hi⟩).keep (h.keeps.less fun _ _ h => h.1)).mono fun _ _ h1 => h.out h1.2 h1.1
theorem Ps.rdf (h : Ps b q w q' w') {A : Option Addr} {l : List Nat} {G : Nat → Prop} (hr : RdF (fun i => ¬ q.own b i ∧ G i) w A l) : RdF (fun i => ¬ q'.own b i ∧ G i) w' A l :=
  ((hr.mono (G := fun i => (¬ q.own b i ∧ G i) ∧ i < w.heap.size) fun _ hi hn => ⟨hn, hi⟩).keep (h.keeps.less fun _ _ h => h.1.1)).mono fun _ _ h1 => ⟨h.out h1.2 h1.1.1, h1.1.2⟩
theorem Ps.rows {α : Type} {H : Sh α} (h : Ps b q w q' w') {A : Option Addr} {xs : List α} (hr : Rws H (fun i => ¬ q.own b i) w A xs) : Rws H (fun i => ¬ q'.own b i) w' A xs :=
  ((hr.mono (G := fun i => ¬ q.own b i ∧ i < w.heap.size) fun _ hi hn => ⟨hn, hi⟩).keep (h.keeps.less fun _ _ h => h.1)).mono fun _ _ h1 => h.out h1.2 h1.1
theorem Ps.orw {α : Type} {H : Sh α} {T : TypeId} {B : Nat} (h : Ps b q w q' w') {v : Value} {xs : List α} (hr : Orw H T (fun i => ¬ q.own b i) B w v xs) (hv : ∀ i, v.ownBlock = some i → ¬ q.own b i) : Orw H T (fun i => ¬ q'.own b i) B w' v xs :=
  ((hr.mono (G := fun i => ¬ q.own b i ∧ i < w.heap.size) fun _ hi hn => ⟨hn, hi⟩).keep (h.keeps.less fun i _ hi => hi.elim (fun h => h.1) (hv i))).mono fun _ _ h1 => h.out h1.2 h1.1
theorem Pw.dlt (h : Pw w b j q ol) {g : Nat} (hg : q.dv.ownBlock = some g) : g < w.heap.size := by
  obtain ⟨cur, hc⟩ := own_blk h.dt hg
  exact (Array.getElem?_eq_some_iff.1 hc).1
theorem Pw.own_lt (h : Pw w b j q ol) {i : Nat} (hi : q.own b i) : i < w.heap.size := by
  rcases hi with rfl | rfl | rfl | hi | hi
  · exact h.px.lt
  · exact (Array.getElem?_eq_some_iff.1 h.lk).1
  · exact h.mp.lt
  · exact h.od.lt hi
  · exact h.dlt hi
theorem Pw.new (h : Pw w b j q ol) {i : Nat} (hi : w.heap.size ≤ i) : ¬ q.own b i := fun e => absurd (h.own_lt e) (Nat.not_lt.2 hi)
/-! Its blocks are different ones. -/
theorem Pw.lb_b (h : Pw w b j q ol) : q.lb ≠ b := h.px.ne h.lk (by decide)
theorem Pw.mb_b (h : Pw w b j q ol) : q.mb ≠ b := fun e => h.mp.notCells (by rw [e]; exact h.px)
theorem Pw.mb_lb (h : Pw w b j q ol) : q.mb ≠ q.lb := fun e => h.mp.notCells (by rw [e]; exact h.lk)
theorem Pw.ov_b (h : Pw w b j q ol) : q.ov.ownBlock ≠ some b := fun e => by
  obtain ⟨cur, hc⟩ := h.od.blk e
  exact h.px.ne hc (by decide) rfl
theorem Pw.ov_mb (h : Pw w b j q ol) : q.ov.ownBlock ≠ some q.mb := fun e => by
  obtain ⟨cur, hc⟩ := h.od.blk e
  exact h.mp.notCells hc
theorem Pw.dv_b (h : Pw w b j q ol) : q.dv.ownBlock ≠ some b := fun e => by
  obtain ⟨cur, hc⟩ := own_blk h.dt e
  exact h.px.ne hc (by decide) rfl
theorem Pw.dv_mb (h : Pw w b j q ol) : q.dv.ownBlock ≠ some q.mb := fun e => by
  obtain ⟨cur, hc⟩ := own_blk h.dt e
  exact h.mp.notCells hc
theorem Pw.dv_lb (h : Pw w b j q ol) : q.dv.ownBlock ≠ some q.lb := fun e => by
  obtain ⟨cur, hc⟩ := own_blk h.dt e
  have h1 := h.lk
  rw [hc] at h1
  injection h1 with h1
  injection h1 with _ h2
  exact absurd h2 (by decide)
theorem Pw.dv_ov (h : Pw w b j q ol) {g : Nat} (e : q.dv.ownBlock = some g) : q.ov.ownBlock ≠ some g := fun e2 => by
  obtain ⟨cur, hc⟩ := own_blk h.dt e
  obtain ⟨cur2, hc2⟩ := h.od.blk e2
  rw [hc] at hc2
  injection hc2 with h1
  injection h1 with _ h2
  exact absurd h2 (by decide)
/-- What turns elsewhere lets it alone. -/
theorem Pw.on {X : Nat → Prop} (h : Pw w b j q ol) (ho : Offs X w w') (hX : ∀ i, i < w.heap.size → X i → q.own b i → False) (hF : ∀ i, i < w.heap.size → X i → False ∨ q.own b i) : Pw w' b j q ol := by
  have hN : ∀ i, i < w.heap.size → ¬ X i := fun i hi hx => (hF i hi hx).elim id (hX i hi hx)
  have hb : Below w.heap.size w w' := ho.below hN (Nat.le_refl _)
  have hO : Offs (fun _ => False) w w' := .of_below hb
  exact ⟨h.px.off hO id, (hb.block _ (Array.getElem?_eq_some_iff.1 h.lk).1).trans h.lk, h.mp.off hO id fun _ _ => id, h.od.off hO fun _ _ => id, h.sr, own_off h.dt hO fun _ _ => id, h.dl, h.ap⟩
theorem Pw.below (h : Pw w b j q ol) (hb : Below w.heap.size w w') : Pw w' b j q ol :=
  h.on (X := fun _ => False) (.of_below hb) (fun _ _ h _ => h) fun _ _ h => h.elim
/-- Blocks turn that are not its own. -/
theorem Pw.apart {X : Nat → Prop} (h : Pw w b j q ol) (ho : Offs X w w') (hX : ∀ i, X i → ¬ q.own b i) (hp : Mq (fun i => (¬ q.own b i ∧ q.fr i) ∧ ¬ X i) w q.mb q.mn j.most j.wait) : Pw w' b j q ol := by
  have n1 : ¬ X b := fun e => hX _ e (.inl rfl)
  have n2 : ¬ X q.lb := fun e => hX _ e (.inr (.inl rfl))
  have n3 : ¬ X q.mb := fun e => hX _ e (.inr (.inr (.inl rfl)))
  exact ⟨h.px.off ho n1, (ho.block _ (Array.getElem?_eq_some_iff.1 h.lk).1 n2).trans h.lk, (hp.off ho n3 fun _ h => h.2).mono fun _ _ h => h.1, h.od.off ho fun g hg e => hX _ e (.inr (.inr (.inr (.inl hg)))), h.sr, own_off h.dt ho fun g hg e => hX _ e (.inr (.inr (.inr (.inr hg)))), h.dl, h.ap⟩
/-- Octets don't lie in a block that holds none. -/
theorem RdF.not {F : Nat → Prop} {A : Option Addr} {l : List Nat} {g : Nat} {cur : Array Value} {T : TypeId} {fr : Nat × Nat} (h : RdF F w A l) (hg : w.heap[g]? = some (.cells cur T fr)) (hc : ∀ (k : Nat) (x : Int), cur[k]? ≠ some (Value.int .u8 x)) : RdF (fun i => F i ∧ i ≠ g) w A l := fun hl => by
  obtain ⟨b, off, h1, h2, h3, h4⟩ := h hl
  refine ⟨b, off, h1, h2, ⟨h3, fun e => ?_⟩, h4⟩
  subst e
  have h5 := h4 0 _ (List.getElem?_eq_getElem hl)
  rw [cell_of_row w b _ _ _ _ hg] at h5
  exact hc _ _ h5
theorem Mq.not {F : Nat → Prop} {n : Nat} {most : Int} {wt : List (Int × Pc)} {g : Nat} {cur : Array Value} {T : TypeId} {fr : Nat × Nat} (h : Mq F w b n most wt) (hg : w.heap[g]? = some (.cells cur T fr)) (hc : ∀ (k : Nat) (x : Int), cur[k]? ≠ some (Value.int .u8 x)) : Mq (fun i => F i ∧ i ≠ g) w b n most wt := by
  obtain ⟨D, h1, h2⟩ := h
  refine ⟨D, h1, fun x => ?_⟩
  have h3 := h2 x
  revert h3
  cases jat wt x with
  | none => exact id
  | some p => exact fun ⟨A, c, d, k1, k2, k3, k4, k5⟩ => ⟨A, c, d, k1, k2, k3, k4, k5.not hg hc⟩
/-- A block that is not its own, and holds no octets, turns. -/
theorem Pw.scratch {g : Nat} {cur : Array Value} {T : TypeId} {fr : Nat × Nat} (h : Pw w b j q ol) (ho : Offs (fun i => i = g) w w') (hn : ¬ q.own b g) (hg : w.heap[g]? = some (.cells cur T fr)) (hc : ∀ (k : Nat) (x : Int), cur[k]? ≠ some (Value.int .u8 x)) : Pw w' b j q ol :=
  h.apart ho (fun i e => by rw [e]; exact hn) (h.mp.not hg hc)
theorem Ps.scratch {g : Nat} (h : Ps b q w q' w') (ho : Offs (fun i => i = g) w' w2) (hg : w.heap.size ≤ g) : Ps b q w q' w2 :=
  ⟨h.off.trans ho (fun _ h => h) (fun i hi e => absurd hi (by omega)), h.own⟩
theorem FrX.none8 {A : Option Addr} {bb e : Bool} {x : Int} {n c : Nat} : ∀ (k : Nat) (y : Int), (#[Value.bool bb, .bool e, .int .i64 x, .slice A n c] : Array Value)[k]? ≠ some (.int .u8 y) := by
  intro k y
  rcases k with _ | _ | _ | _ | k <;> simp
theorem evx_none8 {A : Option Addr} {x y z : Int} {n c : Nat} : ∀ (k : Nat) (u : Int), (#[Value.int .i64 x, .slice A n c, .int .i64 y, .int .i64 z] : Array Value)[k]? ≠ some (.int .u8 u) := by
  intro k u
  rcases k with _ | _ | _ | _ | k <;> simp
/-- Where the pieces' data may lie is said otherwise. -/
theorem Pw.refit (h : Pw w b j q ol) {G : Nat → Prop} (hG : ∀ i, i < w.heap.size → q.fr i → G i) : Pw w b j { q with fr := G } ol :=
  ⟨h.px, h.lk, h.mp.mono fun i hi hf => ⟨hf.1, hG i hi hf.2⟩, h.od, h.sr, h.dt, h.dl, h.ap⟩
theorem Ps.refit (h : Ps b q w q' w') (G G' : Nat → Prop) : Ps b { q with fr := G } w { q' with fr := G' } w' := ⟨h.off, h.own⟩
/-- What is told makes no odds. -/
theorem Pw.told (h : Pw w b j q ol) (t : List Ev) : Pw w b { j with told := t } q ol := ⟨h.px, h.lk, h.mp, h.od, h.sr, h.dt, h.dl, h.ap⟩
/-- Its cell of the mode is another one. -/
theorem Pw.cell (h : Pw w b j q ol) (ho : Offs (fun i => i = b) w w') {j' : Jn} (hx : Px w' b j' q) (e1 : j'.last = j.last) (e2 : j'.most = j.most) (e3 : j'.wait = j.wait) (e4 : j'.data = j.data) : Pw w' b j' q ol :=
  ⟨hx, by rw [e1]; exact (ho.block _ (Array.getElem?_eq_some_iff.1 h.lk).1 h.lb_b).trans h.lk, by rw [e2, e3]; exact h.mp.off ho h.mb_b (fun i hi e => hi.1 (.inl e)), h.od.off ho (fun g hg e => h.ov_b (by rw [hg, e])), by rw [e3]; exact h.sr, by rw [e4]; exact own_off h.dt ho (fun g hg e => h.dv_b (by rw [hg, e])), by rw [e4]; exact h.dl, h.ap⟩
theorem Pw.s0 (h : Pw w b j q ol) (u : Int) : Pw (w.setCell ⟨b, 0, none⟩ (.int .i64 u)) b { j with mode := u } q ol := h.cell (Offs.set w b 0 _ rfl) (h.px.s0 u) rfl rfl rfl rfl
theorem Pw.s5 (h : Pw w b j q ol) (u : Int) : Pw (w.setCell ⟨b, 5, none⟩ (.int .i64 u)) b { j with next := u } q ol := h.cell (Offs.set w b 5 _ rfl) (h.px.s5 u) rfl rfl rfl rfl
/-- Its data are another row. -/
theorem Pw.s8 (h : Pw w b j q ol) {A : Option Addr} {n c : Nat} {l : List Nat} (hl : l.length = n) (hd : w.ownsRow 0 5 1 (.slice A n c) n (bvs l)) (hn : ∀ g, (Value.slice A n c).ownBlock = some g → ¬ q.own b g ∧ Mq (fun i => (¬ q.own b i ∧ q.fr i) ∧ i ≠ g) w q.mb q.mn j.most j.wait ∨ q.dv.ownBlock = some g) :
    Pw (w.setCell ⟨b, 8, none⟩ (.slice A n c)) b { j with data := l } { q with da := A, dn := n, dc := c } ol := by
  have ho : Offs (fun i => i = b) w (w.setCell ⟨b, 8, none⟩ (.slice A n c)) := Offs.set w b 8 _ rfl
  have hx : Px (w.setCell ⟨b, 8, none⟩ (.slice A n c)) b { j with data := l } { q with da := A, dn := n, dc := c } := h.px.s8 A n c
  refine ⟨hx, (ho.block _ (Array.getElem?_eq_some_iff.1 h.lk).1 h.lb_b).trans h.lk, ?_, h.od.off ho (fun g hg e => h.ov_b (by rw [hg, e])), h.sr, own_off hd ho (fun g hg e => ?_), hl, h.ap⟩
  · have mv : ∀ {F : Nat → Prop}, Mq F w q.mb q.mn j.most j.wait → (∀ i, i < w.heap.size → F i → (¬ q.own b i ∧ q.fr i) ∧ (Value.slice A n c).ownBlock ≠ some i ∨ (¬ q.own b i ∧ q.fr i) ∧ (Value.slice A n c).ownBlock = none) → Mq (fun i => ¬ Jq.own b { q with da := A, dn := n, dc := c } i ∧ q.fr i) (w.setCell ⟨b, 8, none⟩ (.slice A n c)) q.mb q.mn j.most j.wait := fun hm hF =>
      (hm.mono (G := fun i => (¬ q.own b i ∧ q.fr i) ∧ (Value.slice A n c).ownBlock ≠ some i) fun i hi hf => (hF i hi hf).elim id fun h => ⟨h.1, by rw [h.2]; intro e; cases e⟩).off ho h.mb_b (fun i hi e => hi.1.1 (.inl e)) |>.mono fun i _ hi => by
        refine ⟨?_, hi.1.2⟩
        rintro (e | e | e | e | e)
        · exact hi.1.1 (.inl e)
        · exact hi.1.1 (.inr (.inl e))
        · exact hi.1.1 (.inr (.inr (.inl e)))
        · exact hi.1.1 (.inr (.inr (.inr (.inl e))))
        · exact hi.2 e
    cases hA : (Value.slice A n c).ownBlock with
    | none => exact mv h.mp fun i _ hi => .inr ⟨hi, hA⟩
    | some g =>
      rcases hn g hA with ⟨h1, h2⟩ | h1
      · exact mv h2 fun i _ hi => .inl ⟨hi.1, by rw [hA]; exact fun e => hi.2 (Option.some.inj e).symm⟩
      · exact mv h.mp fun i _ hi => .inl ⟨hi, by rw [hA]; exact fun e => hi.1 (.inr (.inr (.inr (.inr (by rw [h1, e])))))⟩
  · subst e
    obtain ⟨cur, hc⟩ := own_blk hd hg
    exact h.px.ne hc (by decide) rfl
theorem Pw.s8n (h : Pw w b j q ol) : Pw (w.setCell ⟨b, 8, none⟩ (.slice none 0 0)) b { j with data := [] } { q with da := none, dn := 0, dc := 0 } ol :=
  h.s8 rfl (World.ownsRow_nil _ _ _ _) (fun g hg => by cases hg)
end
/-- What it lets go of: its data. -/
theorem Pw.data {w : World} {b : Nat} {j : Jn} {q : Jq} {ol : List Int} (h : Pw w b j q ol) : RdF (fun i => (¬ Jq.own b { q with da := none, dn := 0, dc := 0 } i ∧ i ≠ b) ∧ q.own b i) w q.da j.data := by
  have h1 : RdF (fun i => 0 ≤ i) w q.da j.data := RdF.own h.dt
  intro hl
  obtain ⟨g, off, e, g2, -, g4⟩ := h1 hl
  have hg : q.dv.ownBlock = some g := by show (Value.slice q.da q.dn q.dc).ownBlock = some g; rw [e]; rfl
  refine ⟨g, off, e, g2, ⟨⟨?_, fun e => h.dv_b (by rw [hg, e])⟩, .inr (.inr (.inr (.inr hg)))⟩, g4⟩
  rintro (e | e | e | e | e)
  · exact h.dv_b (by rw [hg, e])
  · exact h.dv_lb (by rw [hg, e])
  · exact h.dv_mb (by rw [hg, e])
  · exact h.dv_ov hg e
  · cases e
theorem Pw.dcap {w : World} {b : Nat} {j : Jn} {q : Jq} {ol : List Int} (h : Pw w b j q ol) : q.dn ≤ q.dc := by
  obtain ⟨A, c, e, h1, -⟩ := own_shape h.dt
  injection e with _ _ e
  omega
set_option maxHeartbeats 1000000 in
/-- It goes where it is next. -/
theorem pturn_any (b : Nat) (j : Jn) (q : Jq) (ol : List Int) (m : Int) (w : World) (h : Pw w b j q ol) :
    Calls Tryd.prog 46 #[.pointer (some ⟨b, 0, none⟩), .int .i64 m] w fun e w' => e = .returned (.tuple #[]) ∧ Pw w' b { j with mode := m, data := [] } { q with da := none, dn := 0, dc := 0 } ol ∧ Ps b q w { q with da := none, dn := 0, dc := 0 } w' ∧ Offs (fun i => i = b) w w' := by
  have hp := h.px
  have c0 := hp.c0; have c8 := hp.c8; have f0 := hp.fz 0; have f8 := hp.fz 8
  have H2 := (h.s0 m).s8n
  have O2 : Offs (q.own b) w ((w.setCell ⟨b, 0, none⟩ (.int .i64 m)).setCell ⟨b, 8, none⟩ (.slice none 0 0)) := (Offs.set (X := q.own b) w b 0 (.int .i64 m) (.inl rfl)).trans (Offs.set (X := q.own b) _ b 8 (.slice none 0 0) (.inl rfl)) (fun _ h => h) (fun _ _ h => h)
  have O1 := Lib.hid (show Offs (fun i => i = b) w ((w.setCell ⟨b, 0, none⟩ (.int .i64 m)).setCell ⟨b, 8, none⟩ (.slice none 0 0)) from (Offs.set (X := fun i => i = b) w b 0 (.int .i64 m) rfl).trans (Offs.set (X := fun i => i = b) _ b 8 (.slice none 0 0) rfl) (fun _ h => h) (fun _ _ h => h))
  have HH := Lib.hid H2
  have OO := Lib.hid O2
  clear H2 O2 h hp
  go_enter Tryd.func46, Tryd.ntmps46
  go_wp2_with fail
  refine bodyPost_end (results_none rfl _ _ _) rfl ⟨rfl, HH.out, ⟨OO.out, fun i hi => .inl ?_⟩, O1.out⟩
  rcases hi with e | e | e | e | e
  · exact .inl e
  · exact .inr (.inl e)
  · exact .inr (.inr (.inl e))
  · exact .inr (.inr (.inr (.inl e)))
  · cases e
end Go.Proofs.YtamdaepeogmboaaDoor
