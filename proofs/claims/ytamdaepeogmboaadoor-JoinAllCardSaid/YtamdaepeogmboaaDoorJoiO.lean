
/-
  A joiner in memory: places, pieces at places and events as elements of rows; the joiner as a value and in a block. No condition.
-/
import Derived.Test.YtamdaepeogmboaaDoorFrgO
import Derived.Test.YtamdaepeogmboaaDoorJoiM
namespace Go.Proofs.YtamdaepeogmboaaDoor
set_option maxRecDepth 4000
open Go.RowKit

/-- Numbers as elements. -/
def shI : Sh Int where
  sz := 1
  S _ _ x cs := cs = [.int .i64 x]
  len := by rintro _ _ _ _ rfl; rfl
  one := by rintro _ _ _ _ rfl u hu; simp at hu; subst hu; rfl
  keep := by rintro _ _ _ _ _ h _; exact h
  mono := by rintro _ _ _ _ _ h _; exact h
theorem Rws.int {F : Nat → Prop} {w : World} {A : Option Addr} {xs : List Int} (h : Rws shI F w A xs) {k : Nat} (hk : k < xs.length) : ∃ b off x, A = some ⟨b, off, none⟩ ∧ b < w.heap.size ∧ xs[k]? = some x ∧ w.cell? ⟨b, off + k, none⟩ = some (.int .i64 x) := by
  obtain ⟨b, off, x, cs, h1, h2, h3, rfl, h6⟩ := h.at_ hk
  have h7 := h6 0 _ rfl
  rw [show k * shI.sz + 0 = k by show k * 1 + 0 = k; omega] at h7
  exact ⟨b, off, x, h1, h2, h3, h7⟩
/-- Pieces at places as elements. -/
def shC : Sh (Int × Pc) where
  sz := 5
  S F w x cs := ∃ A c, cs = [.int .i64 x.1, .bool x.2.b, .bool x.2.e, .int .i64 x.2.n, .slice A x.2.d.length c] ∧ x.2.d.length ≤ c ∧ RdF F w A x.2.d
  len := by rintro _ _ _ _ ⟨A, c, rfl, _⟩; rfl
  one := by rintro _ _ _ _ ⟨A, c, rfl, _⟩ u hu; simp at hu; rcases hu with rfl | rfl | rfl | rfl | rfl <;> rfl
  keep := by rintro _ _ _ _ _ ⟨A, c, h1, h2, h3⟩ hk; exact ⟨A, c, h1, h2, h3.keep hk⟩
  mono := by rintro _ _ _ _ _ ⟨A, c, h1, h2, h3⟩ hF; exact ⟨A, c, h1, h2, h3.mono hF⟩
theorem Rws.cm {F : Nat → Prop} {w : World} {A : Option Addr} {xs : List (Int × Pc)} (h : Rws shC F w A xs) {k : Nat} (hk : k < xs.length) :
    ∃ b off x Ak ck, A = some ⟨b, off, none⟩ ∧ b < w.heap.size ∧ xs[k]? = some x ∧ w.cell? ⟨b, off + k * 5, none⟩ = some (.int .i64 x.1) ∧ w.cell? ⟨b, off + k * 5 + 1, none⟩ = some (.bool x.2.b) ∧ w.cell? ⟨b, off + k * 5 + 2, none⟩ = some (.bool x.2.e) ∧ w.cell? ⟨b, off + k * 5 + 3, none⟩ = some (.int .i64 x.2.n) ∧ w.cell? ⟨b, off + k * 5 + 4, none⟩ = some (.slice Ak x.2.d.length ck) ∧ x.2.d.length ≤ ck ∧ RdF F w Ak x.2.d := by
  obtain ⟨b, off, p, cs, h1, h2, h3, ⟨Ak, ck, rfl, h4, h5⟩, h6⟩ := h.at_ hk
  exact ⟨b, off, p, Ak, ck, h1, h2, h3, h6 0 _ rfl, h6 1 _ rfl, h6 2 _ rfl, h6 3 _ rfl, h6 4 _ rfl, h4, h5⟩
/-- Events as elements. -/
def shEv : Sh Ev where
  sz := 4
  S F w x cs := ∃ A c, cs = [.int .i64 x.k, .slice A x.d.length c, .int .i64 x.f, .int .i64 x.m] ∧ x.d.length ≤ c ∧ RdF F w A x.d
  len := by rintro _ _ _ _ ⟨A, c, rfl, _⟩; rfl
  one := by rintro _ _ _ _ ⟨A, c, rfl, _⟩ u hu; simp at hu; rcases hu with rfl | rfl | rfl | rfl <;> rfl
  keep := by rintro _ _ _ _ _ ⟨A, c, h1, h2, h3⟩ hk; exact ⟨A, c, h1, h2, h3.keep hk⟩
  mono := by rintro _ _ _ _ _ ⟨A, c, h1, h2, h3⟩ hF; exact ⟨A, c, h1, h2, h3.mono hF⟩
theorem Rws.ev {F : Nat → Prop} {w : World} {A : Option Addr} {xs : List Ev} (h : Rws shEv F w A xs) {k : Nat} (hk : k < xs.length) :
    ∃ b off x Ak ck, A = some ⟨b, off, none⟩ ∧ b < w.heap.size ∧ xs[k]? = some x ∧ w.cell? ⟨b, off + k * 4, none⟩ = some (.int .i64 x.k) ∧ w.cell? ⟨b, off + k * 4 + 1, none⟩ = some (.slice Ak x.d.length ck) ∧ w.cell? ⟨b, off + k * 4 + 2, none⟩ = some (.int .i64 x.f) ∧ w.cell? ⟨b, off + k * 4 + 3, none⟩ = some (.int .i64 x.m) ∧ x.d.length ≤ ck ∧ RdF F w Ak x.d := by
  obtain ⟨b, off, p, cs, h1, h2, h3, ⟨Ak, ck, rfl, h4, h5⟩, h6⟩ := h.at_ hk
  exact ⟨b, off, p, Ak, ck, h1, h2, h3, h6 0 _ rfl, h6 1 _ rfl, h6 2 _ rfl, h6 3 _ rfl, h4, h5⟩
theorem rev_info : (Tryd.prog.info? 76).map (fun i => (i.zero, i.size, i.bytes)) = some (some (.agg #[.int .i64 0, .slice none 0 0, .int .i64 0, .int .i64 0]), 4, 48) := by kernel_rfl
theorem rcm_info : (Tryd.prog.info? 81).map (fun i => (i.zero, i.size, i.bytes)) = some (some (.agg #[.int .i64 0, .bool false, .bool false, .int .i64 0, .slice none 0 0]), 5, 48) := by kernel_rfl
theorem int_info : (Tryd.prog.info? 3).map (fun i => (i.zero, i.size, i.bytes)) = some (some (.int .i64 0), 1, 8) := by kernel_rfl
theorem jmod_any (s : Bool) (w : World) :
    Calls Tryd.prog 26 #[.bool s] w fun e w' => e = .returned (.int .i64 (frmod s : Int)) ∧ w = w' := by
  cases s
  all_goals
    go_enter Tryd.func26, Tryd.ntmps26
    go_wp2
    go_ret
    exact ⟨rfl, rfl⟩

/-- Where a joiner's slices lie: addresses, lengths, capacities. -/
structure Jp where
  la : Option Addr
  ln : Nat
  lc : Nat
  wa : Option Addr
  wn : Nat
  wc : Nat
  da : Option Addr
  dn : Nat
  dc : Nat
  ta : Option Addr
  tn : Nat
  tc : Nat
/-- Its value. -/
abbrev Jn.val (j : Jn) (q : Jp) : Value := .agg #[.bool j.sh, .int .i64 j.room, .int .i64 j.most, .slice q.la q.ln q.lc, .slice q.wa q.wn q.wc, .int .i64 j.next, .int .i64 j.mode, .slice q.da q.dn q.dc, .slice q.ta q.tn q.tc]
abbrev Jn.obj (j : Jn) (q : Jp) : Obj := .cells #[.bool j.sh, .int .i64 j.room, .int .i64 j.most, .slice q.la q.ln q.lc, .slice q.wa q.wn q.wc, .int .i64 j.next, .int .i64 j.mode, .slice q.da q.dn q.dc, .slice q.ta q.tn q.tc] 33 (0, 0)
/-- The told events' slice. -/
abbrev Jp.tv (q : Jp) : Value := .slice q.ta q.tn q.tc
/-- Its slices lead to what it says, in blocks that F tells; the told events' row is the call's own, from block B on, and nothing else lies in it. -/
structure Jw (F : Nat → Prop) (B : Nat) (w : World) (j : Jn) (q : Jp) : Prop where
  l1 : j.last.length = q.ln
  rl : Rws shI (fun b => F b ∧ q.tv.ownBlock ≠ some b) w q.la j.last
  w1 : j.wait.length = q.wn
  rw : Rws shC (fun b => F b ∧ q.tv.ownBlock ≠ some b) w q.wa j.wait
  d1 : j.data.length = q.dn
  d2 : q.dn ≤ q.dc
  rd : RdF (fun b => F b ∧ q.tv.ownBlock ≠ some b) w q.da j.data
  t1 : j.told.length = q.tn
  ot : Orw shEv 76 F B w q.tv j.told
/-- A joiner lies in block b. -/
def Jx (w : World) (b : Nat) (j : Jn) (q : Jp) : Prop := w.heap[b]? = some (j.obj q)
section
variable {B : Nat} {w w' : World} {b : Nat} {j : Jn} {q : Jp}
theorem Jx.lt (h : Jx w b j q) : b < w.heap.size := (Array.getElem?_eq_some_iff.1 h).1
theorem Jx.c0 (h : Jx w b j q) : w.cell? ⟨b, 0, none⟩ = some (.bool j.sh) := by rw [cell_of_row w b _ _ _ _ h]; rfl
theorem Jx.c1 (h : Jx w b j q) : w.cell? ⟨b, 1, none⟩ = some (.int .i64 j.room) := by rw [cell_of_row w b _ _ _ _ h]; rfl
theorem Jx.c2 (h : Jx w b j q) : w.cell? ⟨b, 2, none⟩ = some (.int .i64 j.most) := by rw [cell_of_row w b _ _ _ _ h]; rfl
theorem Jx.c3 (h : Jx w b j q) : w.cell? ⟨b, 3, none⟩ = some (.slice q.la q.ln q.lc) := by rw [cell_of_row w b _ _ _ _ h]; rfl
theorem Jx.c4 (h : Jx w b j q) : w.cell? ⟨b, 4, none⟩ = some (.slice q.wa q.wn q.wc) := by rw [cell_of_row w b _ _ _ _ h]; rfl
theorem Jx.c5 (h : Jx w b j q) : w.cell? ⟨b, 5, none⟩ = some (.int .i64 j.next) := by rw [cell_of_row w b _ _ _ _ h]; rfl
theorem Jx.c6 (h : Jx w b j q) : w.cell? ⟨b, 6, none⟩ = some (.int .i64 j.mode) := by rw [cell_of_row w b _ _ _ _ h]; rfl
theorem Jx.c7 (h : Jx w b j q) : w.cell? ⟨b, 7, none⟩ = some (.slice q.da q.dn q.dc) := by rw [cell_of_row w b _ _ _ _ h]; rfl
theorem Jx.c8 (h : Jx w b j q) : w.cell? ⟨b, 8, none⟩ = some (.slice q.ta q.tn q.tc) := by rw [cell_of_row w b _ _ _ _ h]; rfl
theorem Jx.fz (h : Jx w b j q) (k : Nat) : w.frozen? ⟨b, k, none⟩ = false := frozen_of_row w b k _ _ h
theorem Jx.new (w : World) (j : Jn) (q : Jp) : Jx (w.alloc (j.obj q)) w.heap.size j q := heap_alloc_new w _
theorem Jx.on (h : Jx w b j q) (hb : Below w.heap.size w w') : Jx w' b j q := (hb.block b h.lt).trans h
theorem Jx.off {X : Nat → Prop} (h : Jx w b j q) (hb : Offs X w w') (hX : ¬ X b) : Jx w' b j q := (hb.block b h.lt hX).trans h
theorem Jx.other {d o : Nat} (h : Jx w b j q) (u : Value) (hne : b ≠ d) : Jx (w.setCell ⟨d, o, none⟩ u) b j q := by
  unfold Jx at h ⊢
  rw [← h]
  exact Below.heap_setCell _ _ _ _ (fun e => hne e)
theorem Jx.s0 (h : Jx w b j q) (u : Bool) : Jx (w.setCell ⟨b, 0, none⟩ (.bool u)) b { j with sh := u } q := heap_setCell_same _ b 0 _ _ _ h
theorem Jx.s1 (h : Jx w b j q) (u : Int) : Jx (w.setCell ⟨b, 1, none⟩ (.int .i64 u)) b { j with room := u } q := heap_setCell_same _ b 1 _ _ _ h
theorem Jx.s2 (h : Jx w b j q) (u : Int) : Jx (w.setCell ⟨b, 2, none⟩ (.int .i64 u)) b { j with most := u } q := heap_setCell_same _ b 2 _ _ _ h
theorem Jx.s3 (h : Jx w b j q) (A : Option Addr) (n c : Nat) (l : List Int) : Jx (w.setCell ⟨b, 3, none⟩ (.slice A n c)) b { j with last := l } { q with la := A, ln := n, lc := c } := heap_setCell_same _ b 3 _ _ _ h
theorem Jx.s4 (h : Jx w b j q) (A : Option Addr) (n c : Nat) (l : List (Int × Pc)) : Jx (w.setCell ⟨b, 4, none⟩ (.slice A n c)) b { j with wait := l } { q with wa := A, wn := n, wc := c } := heap_setCell_same _ b 4 _ _ _ h
theorem Jx.s5 (h : Jx w b j q) (u : Int) : Jx (w.setCell ⟨b, 5, none⟩ (.int .i64 u)) b { j with next := u } q := heap_setCell_same _ b 5 _ _ _ h
theorem Jx.s6 (h : Jx w b j q) (u : Int) : Jx (w.setCell ⟨b, 6, none⟩ (.int .i64 u)) b { j with mode := u } q := heap_setCell_same _ b 6 _ _ _ h
theorem Jx.s7 (h : Jx w b j q) (A : Option Addr) (n c : Nat) (l : List Nat) : Jx (w.setCell ⟨b, 7, none⟩ (.slice A n c)) b { j with data := l } { q with da := A, dn := n, dc := c } := heap_setCell_same _ b 7 _ _ _ h
theorem Jx.s8 (h : Jx w b j q) (A : Option Addr) (n c : Nat) (l : List Ev) : Jx (w.setCell ⟨b, 8, none⟩ (.slice A n c)) b { j with told := l } { q with ta := A, tn := n, tc := c } := heap_setCell_same _ b 8 _ _ _ h

theorem Jw.keep {F : Nat → Prop} (h : Jw F B w j q) (hk : Keeps (fun b => F b ∨ q.tv.ownBlock = some b) w w') : Jw F B w' j q :=
  ⟨h.l1, h.rl.keep (hk.less fun _ _ h => .inl h.1), h.w1, h.rw.keep (hk.less fun _ _ h => .inl h.1), h.d1, h.d2, h.rd.keep (hk.less fun _ _ h => .inl h.1), h.t1, h.ot.keep hk⟩
theorem Jw.on {F : Nat → Prop} (h : Jw F B w j q) (hb : Below w.heap.size w w') : Jw F B w' j q := h.keep (.of_below hb)
theorem Jw.mono {F G : Nat → Prop} (h : Jw F B w j q) (hF : ∀ b, b < w.heap.size → F b → G b) : Jw G B w j q :=
  ⟨h.l1, h.rl.mono fun b hb hf => ⟨hF b hb hf.1, hf.2⟩, h.w1, h.rw.mono fun b hb hf => ⟨hF b hb hf.1, hf.2⟩, h.d1, h.d2, h.rd.mono fun b hb hf => ⟨hF b hb hf.1, hf.2⟩, h.t1, h.ot.mono hF⟩
theorem Jw.set {F : Nat → Prop} (h : Jw F B w j q) {d : Nat} (h1 : ¬ F d) (h2 : q.tv.ownBlock ≠ some d) (k : Nat) (u : Value) : Jw F B (w.setCell ⟨d, k, none⟩ u) j q :=
  h.keep (.of_offs (Offs.set (X := fun b => b = d) w d k u rfl) fun b hb e => by subst e; exact hb.elim h1 h2)
end

/-- A joiner is written into a block, cell by cell. -/
abbrev put9 (w : World) (b : Nat) (j : Jn) (q : Jp) : World :=
  ((((((((w.setCell ⟨b, 0, none⟩ (.bool j.sh)).setCell ⟨b, 1, none⟩ (.int .i64 j.room)).setCell ⟨b, 2, none⟩ (.int .i64 j.most)).setCell ⟨b, 3, none⟩ (.slice q.la q.ln q.lc)).setCell ⟨b, 4, none⟩ (.slice q.wa q.wn q.wc)).setCell ⟨b, 5, none⟩ (.int .i64 j.next)).setCell ⟨b, 6, none⟩ (.int .i64 j.mode)).setCell ⟨b, 7, none⟩ (.slice q.da q.dn q.dc)).setCell ⟨b, 8, none⟩ (.slice q.ta q.tn q.tc)
theorem put9_below {W w : World} {B b : Nat} (h : Below B W w) (hb : B ≤ b) (j : Jn) (q : Jp) : Below B W (put9 w b j q) :=
  ((((((((h.setCell (p := ⟨b, 0, none⟩) hb _).setCell (p := ⟨b, 1, none⟩) hb _).setCell (p := ⟨b, 2, none⟩) hb _).setCell (p := ⟨b, 3, none⟩) hb _).setCell (p := ⟨b, 4, none⟩) hb _).setCell (p := ⟨b, 5, none⟩) hb _).setCell (p := ⟨b, 6, none⟩) hb _).setCell (p := ⟨b, 7, none⟩) hb _).setCell (p := ⟨b, 8, none⟩) hb _
theorem put9_offs {X : Nat → Prop} (w : World) (b : Nat) (hb : X b) (j : Jn) (q : Jp) : Offs X w (put9 w b j q) := by
  have st : ∀ (W : World) (k : Nat) (u : Value), Offs X w W → Offs X w (W.setCell ⟨b, k, none⟩ u) := fun W k u h => h.trans (Offs.set (X := X) W b k u hb) (fun _ h => h) (fun _ _ h => h)
  exact st _ _ _ (st _ _ _ (st _ _ _ (st _ _ _ (st _ _ _ (st _ _ _ (st _ _ _ (st _ _ _ (st _ _ _ (Offs.refl X w)))))))))
theorem put9_jx {w : World} {b : Nat} {j0 : Jn} {q0 : Jp} (h : Jx w b j0 q0) (j : Jn) (q : Jp) : Jx (put9 w b j q) b j q :=
  ((((((((h.s0 j.sh).s1 j.room).s2 j.most).s3 q.la q.ln q.lc j.last).s4 q.wa q.wn q.wc j.wait).s5 j.next).s6 j.mode).s7 q.da q.dn q.dc j.data).s8 q.ta q.tn q.tc j.told
theorem at_worldJ {F : Act → World → Prop} {x : Act} {W : World} (R : World → Prop) (C : R W) (h : ∀ W', R W' → F x W') : F x W := h W C
end Go.Proofs.YtamdaepeogmboaaDoor
