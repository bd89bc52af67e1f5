
/-
  What the program's value and Get of layer 23 answer. Conditions: the shapes stand as the start-up lays them ('TabF'); at most 2^38 octets.
-/
import Derived.Test.YtamdaepeogmboaaDoorFrgP
import Derived.Deep.CutRange
namespace Go.Proofs.YtamdaepeogmboaaDoor
set_option maxRecDepth 4000
open Go.RowKit

theorem fr_vor (v x : Nat) (hv : v < 4294967296) (hx : x < 256) : bits .or .i64 ((v : Int) * 256) (x : Int) = ((v * 256 + x : Nat) : Int) := by
  have h2 := Nat.two_pow_add_eq_or_of_lt (show x < 2 ^ 8 by omega) v
  have e : ((v : Int) * 256) = ((2 ^ 8 * v : Nat) : Int) := by simp; omega
  rw [e]
  show IntKind.i64.wrap ((BitVec.ofInt 64 ((2 ^ 8 * v : Nat) : Int) ||| BitVec.ofInt 64 (x : Int)).toNat : Int) = _
  rw [BitVec.toNat_or, ofInt_u64 _ (by omega), ofInt_u64 _ (by omega), ← h2, show 2 ^ 8 * v + x = v * 256 + x by omega]
  exact IntWalk.i64_in _ (by omega)
theorem frval_lt {l : List Nat} (h : By l) : ∀ k, k ≤ 4 → frval (l.take k) < 256 ^ k := by
  intro k
  induction k with
  | zero => intro _; simp [frval]
  | succ k ih =>
    intro hk
    rcases Nat.lt_or_ge k l.length with hl | hl
    · rw [frval_snoc (List.getElem?_eq_getElem hl), Nat.pow_succ]
      have h1 := ih (by omega)
      have h2 := h _ (List.getElem_mem hl)
      have h3 := Nat.mul_le_mul_right 256 (Nat.succ_le_of_lt h1)
      rw [Nat.succ_mul] at h3
      omega
    · rw [List.take_of_length_le (by omega)]
      have h1 := ih (by omega)
      rw [List.take_of_length_le hl] at h1
      rw [Nat.pow_succ]
      omega

/-- What a byte's bits say. -/
theorem fr_and (x : Nat) (h : x < 256) : (bits .and .u8 (x : Int) 128 != 0) = decide (128 ≤ x) ∧ (bits .and .u8 (x : Int) 64 != 0) = decide (x / 64 % 2 = 1) ∧ (bits .and .u8 (x : Int) 48 != 0) = decide (15 < x % 64) ∧ (bits .and .u8 (x : Int) 63 != 0) = decide (x % 64 ≠ 0) := by
  have key : ∀ y : Fin 256, ((bits .and .u8 ((y.1 : Nat) : Int) 128 != 0) = decide (128 ≤ y.1)) ∧ ((bits .and .u8 ((y.1 : Nat) : Int) 64 != 0) = decide (y.1 / 64 % 2 = 1)) ∧ ((bits .and .u8 ((y.1 : Nat) : Int) 48 != 0) = decide (15 < y.1 % 64)) ∧ ((bits .and .u8 ((y.1 : Nat) : Int) 63 != 0) = decide (y.1 % 64 ≠ 0)) := by decide +kernel
  exact key ⟨x, h⟩
theorem fr_spare (s : Bool) (x : Nat) (h : x < 256) : (bits .and .u8 (x : Int) (frspare s : Int) != 0) = frbad s x := by
  obtain ⟨_, _, h1, h2⟩ := fr_and x h
  cases s
  · exact h2
  · exact h1

theorem fr_res {fn : Func} {p u : Tmp} {ty : TypeId} (h : fn.results = #[.cell p ty, .tmp u]) (tmps : Array Value) (v : Value) (w : World) (g : Nat) (t : TypeId) (cs : Array Value) (fr : Nat × Nat) (fs : Array Field)
    (hp : tmps.getD p undef = .pointer (some ⟨g, 0, none⟩)) (hv : tmps.getD u undef = v) (hg : w.heap[g]? = some (.cells cs t fr))
    (hu : Tryd.prog.underlying ty = some (.struct fs)) (hi : (Tryd.prog.info? ty).map (·.size) = some cs.size) :
    (results fn tmps).run Tryd.prog w = .ok (.tuple #[.agg cs, v]) w := by
  have hp' : tmps[p]?.getD undef = .pointer (some ⟨g, 0, none⟩) := by simpa using hp
  have hv' : tmps[u]?.getD undef = v := by simpa using hv
  rw [results_cell_tmp h]
  simp [hp', hv', asAddr, run_loadVar_row w g t ty cs fr _ hg hu rfl hi, Result.andThen]

theorem Rd.cutF {w : World} {B b o : Nat} {l : List Nat} {k c : Nat} (h : Rd w B (some ⟨b, o, none⟩) l) (hk : k ≤ l.length) (hc : l.length ≤ c) : Rd w B (if c = k then some ⟨b, o, none⟩ else some ⟨b, o + k, none⟩) (l.drop k) := by
  intro hl
  rw [List.length_drop] at hl
  rw [if_neg (by omega)]
  obtain ⟨b', off, e, hb, hcell⟩ := h (by omega)
  injection e with e
  injection e with e1 e2
  subst e1; subst e2
  refine ⟨b, o + k, rfl, hb, fun j x hx => ?_⟩
  rw [Nat.add_assoc]
  exact hcell (k + j) x (by rw [← List.getElem?_drop]; exact hx)

/-- A walk goes on in a world of which a few things alone are known. -/
theorem at_worldF {F : Act → World → Prop} {x : Act} {W : World} (R : World → Prop) (C : R W) (h : ∀ W', R W' → F x W') : F x W := h W C

theorem frput_below {w W : World} {g : Nat} (h : Below w.heap.size w W) (hg : w.heap.size ≤ g) (a b c d : Value) : Below w.heap.size w ((((W.setCell ⟨g, 0, none⟩ a).setCell ⟨g, 1, none⟩ b).setCell ⟨g, 2, none⟩ c).setCell ⟨g, 3, none⟩ d) :=
  (((h.setCell (p := ⟨g, 0, none⟩) hg _).setCell (p := ⟨g, 1, none⟩) hg _).setCell (p := ⟨g, 2, none⟩) hg _).setCell (p := ⟨g, 3, none⟩) hg _

/-- What Get knows: the answer's block g, the shape's block g2, the octets. -/
structure FrG (w W : World) (g g2 : Nat) (z m k : Nat) (A : Option Addr) (l : List Nat) : Prop where
  bel : Below w.heap.size w W
  low : w.heap.size ≤ g
  box : FrX W g 50 false false 0 none 0 0
  shp : W.heap[g2]? = some (.cells #[.int .i64 (z : Int), .int .i64 (m : Int), .int .u8 (k : Int)] 93 (0, 0))
  rd : Rd W W.heap.size A l
theorem FrG.step {w W W' : World} {g g2 z m k : Nat} {A : Option Addr} {l : List Nat} (h : FrG w W g g2 z m k A l) (hb : Below W.heap.size W W') : FrG w W' g g2 z m k A l :=
  ⟨h.bel.trans (hb.mono h.bel.size), h.low, h.box.on hb, (hb.block g2 (Array.getElem?_eq_some_iff.1 h.shp).1).trans h.shp, h.rd.on hb⟩
theorem FrG.cells {w W : World} {g g2 z m k : Nat} {A : Option Addr} {l : List Nat} (h : FrG w W g g2 z m k A l) : W.cell? ⟨g2, 0, none⟩ = some (.int .i64 (z : Int)) ∧ W.cell? ⟨g2, 1, none⟩ = some (.int .i64 (m : Int)) ∧ W.cell? ⟨g2, 2, none⟩ = some (.int .u8 (k : Int)) := by
  refine ⟨?_, ?_, ?_⟩
  · rw [cell_of_row W g2 0 _ _ _ h.shp]; rfl
  · rw [cell_of_row W g2 1 _ _ _ h.shp]; rfl
  · rw [cell_of_row W g2 2 _ _ _ h.shp]; rfl

theorem put4_offs (W : World) (g : Nat) (a b c d : Value) : Offs (fun i => i = g) W ((((W.setCell ⟨g, 0, none⟩ a).setCell ⟨g, 1, none⟩ b).setCell ⟨g, 2, none⟩ c).setCell ⟨g, 3, none⟩ d) :=
  (((Offs.set (X := fun i => i = g) W g 0 a rfl).trans (Offs.set (X := fun i => i = g) _ g 1 b rfl) (fun _ h => h) (fun _ _ h => h)).trans (Offs.set (X := fun i => i = g) _ g 2 c rfl) (fun _ h => h) (fun _ _ h => h)).trans (Offs.set (X := fun i => i = g) _ g 3 d rfl) (fun _ h => h) (fun _ _ h => h)
theorem put4_keeps (W : World) (g : Nat) (a b c d : Value) : Keeps (fun i => i ≠ g) W ((((W.setCell ⟨g, 0, none⟩ a).setCell ⟨g, 1, none⟩ b).setCell ⟨g, 2, none⟩ c).setCell ⟨g, 3, none⟩ d) := Keeps.of_offs (put4_offs W g a b c d) (fun _ h => h)
theorem FrG.put {w W : World} {g g2 z m k : Nat} {A : Option Addr} {l : List Nat} (h : FrG w W g g2 z m k A l) {bb o : Nat} {x : Int} (hc : W.cell? ⟨bb, o, none⟩ = some (.int .u8 x)) (a b c d : Value) :
    (((((W.setCell ⟨g, 0, none⟩ a).setCell ⟨g, 1, none⟩ b).setCell ⟨g, 2, none⟩ c).setCell ⟨g, 3, none⟩ d).cell? ⟨g2, 0, none⟩ = some (.int .i64 (z : Int)) ∧ ((((W.setCell ⟨g, 0, none⟩ a).setCell ⟨g, 1, none⟩ b).setCell ⟨g, 2, none⟩ c).setCell ⟨g, 3, none⟩ d).cell? ⟨g2, 1, none⟩ = some (.int .i64 (m : Int)) ∧ ((((W.setCell ⟨g, 0, none⟩ a).setCell ⟨g, 1, none⟩ b).setCell ⟨g, 2, none⟩ c).setCell ⟨g, 3, none⟩ d).cell? ⟨g2, 2, none⟩ = some (.int .u8 (k : Int))) ∧
    ((((W.setCell ⟨g, 0, none⟩ a).setCell ⟨g, 1, none⟩ b).setCell ⟨g, 2, none⟩ c).setCell ⟨g, 3, none⟩ d).cell? ⟨bb, o, none⟩ = some (.int .u8 x) := by
  have hK := put4_keeps W g a b c d
  have n1 : g2 ≠ g := by
    intro e
    subst e
    have := h.box.symm.trans h.shp
    injection this with this
    injection this with _ this
    exact absurd this (by decide)
  have n2 : bb ≠ g := by
    intro e
    subst e
    rw [cell_of_row W bb o _ _ _ h.box] at hc
    match o, hc with
    | 0, hc => cases hc
    | 1, hc => cases hc
    | 2, hc => cases hc
    | 3, hc => cases hc
    | o + 4, hc => simp at hc
  obtain ⟨h0, h1, h2⟩ := h.cells
  exact ⟨⟨(hK.cell (block_lt h0) n1 _).trans h0, (hK.cell (block_lt h1) n1 _).trans h1, (hK.cell (block_lt h2) n1 _).trans h2⟩, (hK.cell (block_lt hc) n2 _).trans hc⟩

end Go.Proofs.YtamdaepeogmboaaDoor
