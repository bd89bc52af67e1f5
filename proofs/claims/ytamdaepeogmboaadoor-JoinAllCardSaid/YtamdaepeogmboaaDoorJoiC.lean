
/-
  What a call of layer 24's document knows of its joiner all along. No condition.
-/
import Derived.Test.YtamdaepeogmboaaDoorJoiO
namespace Go.Proofs.YtamdaepeogmboaaDoor
set_option maxRecDepth 4000
open Go.RowKit

def jn0 : Jn := ⟨false, 0, 0, [], [], 0, 0, [], []⟩
def jp0 : Jp := ⟨none, 0, 0, none, 0, 0, none, 0, 0, none, 0, 0⟩
/-- A call has k blocks of its own (F tells none of them, but all behind them; what it tells of the elder ones G tells, too), from s on: the joiner's box is the first, the answer's r; (jb, qb) is what the box says, (j, q) what the rows are; q0 is where they lay at first. -/
structure JC (G F : Nat → Prop) (k r B : Nat) (w W : World) (q0 : Jp) (jb : Jn) (qb : Jp) (j : Jn) (q : Jp) : Prop where
  av : ∀ i, i < k → ¬ F (w.heap.size + i)
  nw : ∀ b, w.heap.size + k ≤ b → F b
  ex : ∀ b, F b → G b ∨ w.heap.size ≤ b
  off : Offs (fun b => q0.tv.ownBlock = some b) w W
  box : Jx W w.heap.size jb qb
  res : Jx W (w.heap.size + r) jn0 jp0
  jw : Jw F B W j q
  own : ∀ b, q.tv.ownBlock = some b → (b < w.heap.size ∧ q0.tv.ownBlock = some b) ∨ w.heap.size + k ≤ b
  big : w.heap.size + k ≤ W.heap.size
section
variable {G F : Nat → Prop} {k r B : Nat} {w W W' : World} {q0 : Jp} {jb : Jn} {qb : Jp} {j : Jn} {q : Jp}
theorem JC.ne (h : JC G F k r B w W q0 jb qb j q) {i : Nat} (hi : i < k) : q.tv.ownBlock ≠ some (w.heap.size + i) := fun e => by
  rcases h.own _ e with h | h <;> omega
theorem JC.step (h : JC G F k r B w W q0 jb qb j q) (hb : Below W.heap.size W W') : JC G F k r B w W' q0 jb qb j q :=
  ⟨h.av, h.nw, h.ex, h.off.trans (.of_below (X := fun _ => False) hb) (fun _ h => h) (fun _ _ h => h.elim), h.box.on hb, h.res.on hb, h.jw.on hb, h.own, Nat.le_trans h.big hb.size⟩
theorem JC.al (h : JC G F k r B w W q0 jb qb j q) (o : Obj) : JC G F k r B w (W.alloc o) q0 jb qb j q := h.step ((Below.refl _ _).alloc (Nat.le_refl _) o)
theorem JC.drew (h : JC G F k r B w W q0 jb qb j q) : JC G F k r B w W.drew q0 jb qb j q := h.step (Below.refl _ _).drew
theorem JC.set_ (h : JC G F k r B w W q0 jb qb j q) {i : Nat} (hi : i < k) (o : Nat) (u : Value) : Offs (fun b => q0.tv.ownBlock = some b) w (W.setCell ⟨w.heap.size + i, o, none⟩ u) ∧ Jw F B (W.setCell ⟨w.heap.size + i, o, none⟩ u) j q ∧ w.heap.size + k ≤ (W.setCell ⟨w.heap.size + i, o, none⟩ u).heap.size := by
  refine ⟨h.off.trans (Offs.set (X := fun b => b = w.heap.size + i) W _ o u rfl) (fun _ h => h) (fun b hb e => by omega), h.jw.set (h.av i hi) (h.ne hi) o u, ?_⟩
  simpa [World.setCell] using h.big
theorem JC.s4 (h : JC G F k r B w W q0 jb qb j q) (hk : 0 < k) (hr : 0 < r) (A : Option Addr) (n c : Nat) (l : List (Int × Pc)) : JC G F k r B w (W.setCell ⟨w.heap.size, 4, none⟩ (.slice A n c)) q0 { jb with wait := l } { qb with wa := A, wn := n, wc := c } j q :=
  have ⟨h1, h2, h3⟩ := h.set_ hk 4 (.slice A n c)
  ⟨h.av, h.nw, h.ex, h1, h.box.s4 A n c l, h.res.other _ (by omega), h2, h.own, h3⟩
theorem JC.s5 (h : JC G F k r B w W q0 jb qb j q) (hk : 0 < k) (hr : 0 < r) (u : Int) : JC G F k r B w (W.setCell ⟨w.heap.size, 5, none⟩ (.int .i64 u)) q0 { jb with next := u } qb { j with next := u } q :=
  have ⟨h1, h2, h3⟩ := h.set_ hk 5 (.int .i64 u)
  ⟨h.av, h.nw, h.ex, h1, h.box.s5 u, h.res.other _ (by omega), ⟨h2.l1, h2.rl, h2.w1, h2.rw, h2.d1, h2.d2, h2.rd, h2.t1, h2.ot⟩, h.own, h3⟩
theorem JC.s6 (h : JC G F k r B w W q0 jb qb j q) (hk : 0 < k) (hr : 0 < r) (u : Int) : JC G F k r B w (W.setCell ⟨w.heap.size, 6, none⟩ (.int .i64 u)) q0 { jb with mode := u } qb { j with mode := u } q :=
  have ⟨h1, h2, h3⟩ := h.set_ hk 6 (.int .i64 u)
  ⟨h.av, h.nw, h.ex, h1, h.box.s6 u, h.res.other _ (by omega), ⟨h2.l1, h2.rl, h2.w1, h2.rw, h2.d1, h2.d2, h2.rd, h2.t1, h2.ot⟩, h.own, h3⟩
theorem JC.s7 (h : JC G F k r B w W q0 jb qb j q) (hk : 0 < k) (hr : 0 < r) (A : Option Addr) (n c : Nat) (l : List Nat) (h1 : l.length = n) (h2 : n ≤ c) (h3 : RdF (fun b => F b ∧ q.tv.ownBlock ≠ some b) W A l) : JC G F k r B w (W.setCell ⟨w.heap.size, 7, none⟩ (.slice A n c)) q0 { jb with data := l } { qb with da := A, dn := n, dc := c } { j with data := l } { q with da := A, dn := n, dc := c } :=
  have ⟨g1, g2, g3⟩ := h.set_ hk 7 (.slice A n c)
  ⟨h.av, h.nw, h.ex, g1, h.box.s7 A n c l, h.res.other _ (by omega), ⟨g2.l1, g2.rl, g2.w1, g2.rw, h1, h2, h3.keep (.of_offs (Offs.set (X := fun b => b = w.heap.size) W _ 7 _ rfl) fun b hb e => by subst e; exact h.av 0 hk hb.1), g2.t1, g2.ot⟩, h.own, g3⟩
theorem JC.s7n (h : JC G F k r B w W q0 jb qb j q) (hk : 0 < k) (hr : 0 < r) : JC G F k r B w (W.setCell ⟨w.heap.size, 7, none⟩ (.slice none 0 0)) q0 { jb with data := [] } { qb with da := none, dn := 0, dc := 0 } { j with data := [] } { q with da := none, dn := 0, dc := 0 } :=
  h.s7 hk hr none 0 0 [] rfl (Nat.le_refl _) RdF.nil
/-- An event is told: the row has it, the box does not yet. -/
theorem JC.push (h : JC G F k r B w W q0 jb qb j q) {v' : Value} {w' : World} {x : Ev} (ho : Orw shEv 76 F B w' v' (j.told ++ [x])) (hg : W.grownBy w' q.tv.ownBlock) (hm : Mv W.heap.size q.tv v') (hk : 0 < k) (hr : r < k) :
    ∃ A c, v' = .slice A (q.tn + 1) c ∧ JC G F k r B w w' q0 jb qb { j with told := j.told ++ [x] } { q with ta := A, tn := q.tn + 1, tc := c } := by
  obtain ⟨A, c, hv, -, -⟩ := ho.shape
  rw [List.length_append, h.jw.t1, List.length_singleton] at hv
  subst hv
  refine ⟨A, c, rfl, ?_⟩
  have hown : ∀ b, (Value.slice A (q.tn + 1) c).ownBlock = some b → q.tv.ownBlock = some b ∨ W.heap.size ≤ b := fun b hb => hm b hb
  have hK : ∀ (F : Nat → Prop), (∀ b, F b → q.tv.ownBlock ≠ some b) → Keeps F W w' := fun F hF => .of_grown hg hF
  have hO : Offs (fun b => q.tv.ownBlock = some b) W w' := .of_grown hg fun _ h => h
  have old : ∀ b, b < W.heap.size → q.tv.ownBlock ≠ some b → (Value.slice A (q.tn + 1) c).ownBlock ≠ some b := fun b hb h1 h2 => by
    rcases hown b h2 with h | h
    · exact h1 h
    · omega
  refine ⟨h.av, h.nw, h.ex, h.off.trans hO (fun _ h => h) (fun b hb e => ?_), h.box.off hO (h.ne (i := 0) hk), h.res.off hO (h.ne hr), ?_, fun b hb => ?_, Nat.le_trans h.big hg.size⟩
  · rcases h.own b e with h | h
    · exact h.2
    · omega
  · have mv : ∀ b, b < w'.heap.size → (F b ∧ q.tv.ownBlock ≠ some b) ∧ b < W.heap.size → F b ∧ (Value.slice A (q.tn + 1) c).ownBlock ≠ some b := fun b _ hb => ⟨hb.1.1, old b hb.2 hb.1.2⟩
    exact ⟨h.jw.l1, ((h.jw.rl.mono (G := fun b => (F b ∧ q.tv.ownBlock ≠ some b) ∧ b < W.heap.size) fun b hb hf => ⟨hf, hb⟩).keep (hK _ fun b hb => hb.1.2)).mono mv,
      h.jw.w1, ((h.jw.rw.mono (G := fun b => (F b ∧ q.tv.ownBlock ≠ some b) ∧ b < W.heap.size) fun b hb hf => ⟨hf, hb⟩).keep (hK _ fun b hb => hb.1.2)).mono mv,
      h.jw.d1, h.jw.d2, ((h.jw.rd.mono (G := fun b => (F b ∧ q.tv.ownBlock ≠ some b) ∧ b < W.heap.size) fun b hb hf => ⟨hf, hb⟩).keep (hK _ fun b hb => hb.1.2)).mono mv,
      by show (j.told ++ [x]).length = _; rw [List.length_append, h.jw.t1]; rfl, ho⟩
  · rcases hown b hb with h1 | h1
    · exact h.own b h1
    · exact .inr (Nat.le_trans h.big h1)
/-- .. and the box has it, too. -/
theorem JC.s8 {l : List Ev} {A : Option Addr} {n c : Nat} (h : JC G F k r B w W q0 jb qb { j with told := l } { q with ta := A, tn := n, tc := c }) (hk : 0 < k) (hr : 0 < r) : JC G F k r B w (W.setCell ⟨w.heap.size, 8, none⟩ (.slice A n c)) q0 { jb with told := l } { qb with ta := A, tn := n, tc := c } { j with told := l } { q with ta := A, tn := n, tc := c } :=
  have ⟨h1, h2, h3⟩ := h.set_ hk 8 (.slice A n c)
  ⟨h.av, h.nw, h.ex, h1, h.box.s8 A n c l, h.res.other _ (by omega), h2, h.own, h3⟩
/-- The answer is written. -/
theorem JC.put (h : JC G F k r B w W q0 j q j q) (hr : r < k) : Jx (put9 W (w.heap.size + r) j q) (w.heap.size + r) j q ∧ Jw (fun b => G b ∨ w.heap.size ≤ b) B (put9 W (w.heap.size + r) j q) j q ∧ Offs (fun b => q0.tv.ownBlock = some b) w (put9 W (w.heap.size + r) j q) ∧ (∀ b, q.tv.ownBlock = some b → q0.tv.ownBlock = some b ∨ w.heap.size ≤ b) := by
  have hO := put9_offs (X := fun b => b = w.heap.size + r) W (w.heap.size + r) rfl j q
  refine ⟨put9_jx h.res j q, (h.jw.keep (.of_offs hO fun b hb e => ?_)).mono fun b _ hb => h.ex b hb, h.off.trans hO (fun _ h => h) (fun b hb e => by omega), fun b hb => ?_⟩
  · subst e
    rcases hb with hb | hb
    · exact h.av r hr hb
    · exact h.ne hr hb
  · rcases h.own b hb with h | h
    · exact .inl h.2
    · exact .inr (by omega)
/-- The start. -/
theorem JC.start (h : Jw G B w j q) (hb : Below w.heap.size w W) (hx : Jx W w.heap.size j q) (hr : Jx W (w.heap.size + r) jn0 jp0) (hs : w.heap.size + k ≤ W.heap.size) : JC G (fun b => (b < w.heap.size ∧ G b) ∨ w.heap.size + k ≤ b) k r B w W q j q j q :=
  ⟨fun i hi => by rintro (⟨h, _⟩ | h) <;> omega, fun b hb => .inr hb, fun b hb => hb.elim (fun h => .inl h.2) (fun h => .inr (by omega)), .of_below hb, hx, hr, (h.mono (G := fun b => (b < w.heap.size ∧ G b) ∨ w.heap.size + k ≤ b) fun _ hb hg => .inl ⟨hb, hg⟩).on hb, fun _ hb => .inl ⟨(h.ot.lt hb).2, hb⟩, hs⟩
theorem JC.start2 (h : Jw G B w j q) : ∃ F, JC G F 2 1 B w ((w.alloc (j.obj q)).alloc (jn0.obj jp0)) q j q j q :=
  ⟨_, JC.start h (((Below.refl _ _).alloc (Nat.le_refl _) _).alloc (by simp) _) ((Jx.new _ _ _).on ((Below.refl _ _).alloc (Nat.le_refl _) _)) (by have := Jx.new (w.alloc (j.obj q)) jn0 jp0; simpa using this) (by simp)⟩
/-- The row of what waits is another one. -/
theorem JC.s4w (h : JC G F k r B w W q0 jb qb j q) (hk : 0 < k) (hr : 0 < r) (A : Option Addr) (n c : Nat) (l : List (Int × Pc)) (h1 : l.length = n) (h3 : Rws shC (fun b => F b ∧ q.tv.ownBlock ≠ some b) W A l) : JC G F k r B w (W.setCell ⟨w.heap.size, 4, none⟩ (.slice A n c)) q0 { jb with wait := l } { qb with wa := A, wn := n, wc := c } { j with wait := l } { q with wa := A, wn := n, wc := c } :=
  have ⟨g1, g2, g3⟩ := h.set_ hk 4 (.slice A n c)
  ⟨h.av, h.nw, h.ex, g1, h.box.s4 A n c l, h.res.other _ (by omega), ⟨g2.l1, g2.rl, h1, h3.keep (.of_offs (Offs.set (X := fun b => b = w.heap.size) W _ 4 _ rfl) fun b hb e => by subst e; exact h.av 0 hk hb.1), g2.d1, g2.d2, g2.rd, g2.t1, g2.ot⟩, h.own, g3⟩
/-- A row of what is not the told events' own. -/
theorem JC.fresh (h : JC G F k r B w W q0 jb qb j q) : ∀ b, W.heap.size ≤ b → F b ∧ q.tv.ownBlock ≠ some b := fun b hb => ⟨h.nw b (Nat.le_trans h.big hb), fun e => absurd (h.jw.ot.lt e).2 (Nat.not_lt.2 hb)⟩
/-- A call has answered a joiner: its rows, the box is as it was. -/
theorem JC.call (h : JC G F k r B w W q0 jb qb j q) (hk : 0 < k) (hr : r < k) {j' : Jn} {q' : Jp} (hJ : Jw (fun b => F b ∨ W.heap.size ≤ b) B W' j' q') (hO : Offs (fun b => q.tv.ownBlock = some b) W W') (hM : ∀ b, q'.tv.ownBlock = some b → q.tv.ownBlock = some b ∨ W.heap.size ≤ b) : JC G F k r B w W' q0 jb qb j' q' := by
  refine ⟨h.av, h.nw, h.ex, h.off.trans hO (fun _ h => h) (fun b hb e => ?_), h.box.off hO (h.ne (i := 0) hk), h.res.off hO (h.ne hr), hJ.mono fun b _ hb => hb.elim id fun hb => (h.fresh b hb).1, fun b hb => ?_, Nat.le_trans h.big hO.size⟩
  · rcases h.own b e with h | h
    · exact h.2
    · omega
  · rcases hM b hb with h1 | h1
    · exact h.own b h1
    · exact .inr (Nat.le_trans h.big h1)
/-- .. and the box has it, too. -/
theorem JC.s9 (h : JC G F k r B w W q0 jb qb j q) (hk : 0 < k) (hr : 0 < r) : JC G F k r B w (put9 W w.heap.size j q) q0 j q j q := by
  have hO := put9_offs (X := fun b => b = w.heap.size) W w.heap.size rfl j q
  refine ⟨h.av, h.nw, h.ex, h.off.trans hO (fun _ h => h) (fun b hb e => by omega), put9_jx h.box j q, h.res.off hO (by omega), h.jw.keep (.of_offs hO fun b hb e => ?_), h.own, Nat.le_trans h.big hO.size⟩
  subst e
  rcases hb with hb | hb
  · exact h.av 0 hk hb
  · exact h.ne (i := 0) hk hb
end
/-- What a call answers: the joiner j, its rows. -/
def JA (G : Nat → Prop) (B : Nat) (w : World) (q0 : Jp) (j : Jn) (e : Ending) (w' : World) : Prop := ∃ q, e = .returned (j.val q) ∧ Jw (fun b => G b ∨ w.heap.size ≤ b) B w' j q ∧ Offs (fun b => q0.tv.ownBlock = some b) w w' ∧ (∀ b, q.tv.ownBlock = some b → q0.tv.ownBlock = some b ∨ w.heap.size ≤ b)
/-- The place that is next, of a joiner in a block. -/
def jnx (w : World) (b : Nat) : Int := match w.cell? ⟨b, 5, none⟩ with
  | some (.int _ x) => x
  | _ => 0
theorem Jx.nx {w : World} {b : Nat} {j : Jn} {q : Jp} (h : Jx w b j q) : jnx w b = j.next := by unfold jnx; rw [h.c5]
theorem FrX.otherJ {w : World} {g : Nat} {T : TypeId} {b e : Bool} {x : Int} {A : Option Addr} {n c d o : Nat} (h : FrX w g T b e x A n c) (u : Value) (hne : g ≠ d) : FrX (w.setCell ⟨d, o, none⟩ u) g T b e x A n c :=
  (Below.heap_setCell _ _ _ _ (fun e => hne e)).trans h
end Go.Proofs.YtamdaepeogmboaaDoor
