
/-
  The walk of the statement HeadBack. No condition beyond: numbers that Go's types have.
-/
import Derived.Test.YtkakkligndejaaaDoorHedT
namespace Go.Proofs.YtkakkligndejaaaDoor
open Go.RowKit

/-! Lists alone. -/
theorem getB_ok {l : List Nat} {s : Bool} {g1 g2 : Nat} (hb : By l) (h : getB l s = (g1, g2, 0)) :
    rightB g1 = true ∧ g2 ≤ l.length ∧ ((g2 = 2 ∧ putB g1 false = l.take 2) ∨ (g2 = 1 ∧ s = true ∧ putB g1 true = l.take 1)) := by
  match l, hb, h with
  | [], _, h => simp [getB] at h
  | x :: t, hb, h =>
    have hx := hb x (by simp)
    by_cases ho : x % 2 = 1
    · rw [getB_odd t s ho] at h
      split at h
      · rename_i hs
        simp only [Prod.mk.injEq] at h
        obtain ⟨rfl, rfl, _⟩ := h
        refine ⟨by rw [right_odd x hx ho]; simp [hs.2], by simp, .inr ⟨rfl, hs.1, by simp [putB, hx]⟩⟩
      · simp at h
    · match t, hb, h with
      | [], hb, h => simp [getB, ho] at h
      | y :: t, hb, h =>
        have hy := hb y (by simp)
        rw [getB, if_neg ho] at h
        split at h
        · rename_i hr
          simp only [Prod.mk.injEq] at h
          obtain ⟨rfl, rfl, _⟩ := h
          refine ⟨hr, by simp, .inl ⟨rfl, ?_⟩⟩
          simp [putB]
          omega
        · simp at h
theorem putB_get (p : Nat) (s m : Bool) (l : List Nat) (hr : rightB p = true) (hsm : s = true → m = true) : getB (putB p s ++ l) m = (p, (putB p s).length, 0) := by
  have h := hr
  simp [rightB] at h
  by_cases hc : s = true ∧ p < 256
  · rw [putB, if_pos hc]
    rw [List.singleton_append, getB_odd l m h.1, if_pos ⟨hsm hc.1, h.2.2⟩]
    rfl
  · rw [putB, if_neg hc]
    show getB (p / 256 :: p % 256 :: l) m = _
    rw [getB, if_neg (by omega), show 256 * (p / 256) + p % 256 = p by omega, if_pos hr]
    rfl
theorem put_head (p : Nat) (s : Bool) (hr : rightB p = true) : ∃ x t, putB p s = x :: t ∧ x ≠ 255 := by
  have h := hr
  simp [rightB] at h
  unfold putB
  split
  · exact ⟨_, _, rfl, by omega⟩
  · exact ⟨_, _, rfl, by omega⟩
/-- A header is read as it was written. -/
theorem hget_put (c x : Cf) (p : Nat) (l : List Nat) (hr : rightB p = true) (hA : c.acfc = true → x.acfc = true) (hP : c.pfc = true → x.pfc = true) : hgetB x (hputB c p ++ l) = (p, (hputB c p).length, 0) := by
  unfold hputB wrB
  generalize hs : (c.pfc && !decide (p = 49185)) = s
  have hsx : s = true → x.pfc = true := fun h => hP (by rw [h] at hs; simp at hs; exact hs.1)
  cases hl : (!c.acfc || decide (p = 49185))
  · have hx : x.acfc = true := hA (by simp at hl; exact hl.1)
    obtain ⟨y, t, hy, hn⟩ := put_head p s hr
    have hne : ¬ (ledB false ++ putB p s ++ l).take 2 = [255, 3] := by
      rw [hy]
      intro h
      have := congrArg List.head? h
      simp [ledB] at this
      exact hn this
    rw [hgetB, if_neg hne, if_pos hx]
    have e : ledB false ++ putB p s ++ l = putB p s ++ l := rfl
    rw [e, putB_get p s x.pfc l hr hsx, haddB]
    simp [ledB]
  · have e : (ledB true ++ putB p s ++ l).take 2 = [255, 3] := rfl
    have e2 : (ledB true ++ putB p s ++ l).drop 2 = putB p s ++ l := rfl
    rw [hgetB, if_pos e, e2, putB_get p s x.pfc l hr hsx, haddB]
    simp [ledB]
    omega

/-- A config in a block, in a world behind w0. -/
structure One (w0 W : World) (b : Nat) (t : TypeId) (c : Cf) : Prop where
  x : Bx W b t c
  bel : Below w0.heap.size w0 W
section
variable {w0 W W' X : World} {b : Nat} {t : TypeId} {c : Cf}
theorem One.step (h : One w0 W b t c) (hb : Below W.heap.size W W') : One w0 W' b t c := ⟨h.x.below hb, h.bel.trans (hb.mono h.bel.size)⟩
theorem One.drew (h : One w0 W b t c) : One w0 W.drew b t c := ⟨h.x, h.bel.drew⟩
theorem One.al (h : One w0 W b t c) (o : Obj) : One w0 (W.alloc o) b t c := h.step ((Below.refl _ _).alloc (Nat.le_refl _) _)
end

theorem Bx.new (w : World) (t : TypeId) (c : Cf) : Bx (w.alloc (c.obj t)) w.heap.size t c := heap_alloc_new _ _
theorem Bx.al {w : World} {b : Nat} {t : TypeId} {c : Cf} (h : Bx w b t c) (o : Obj) : Bx (w.alloc o) b t c := h.below ((Below.refl _ _).alloc (Nat.le_refl _) _)
/-- Two configs in one block. -/
structure TwoC (w0 W : World) (g : Nat) (x0 x1 : Cf) : Prop where
  c0 : W.cell? ⟨g, 0, none⟩ = some (.bool x0.sync) ∧ W.cell? ⟨g, 1, none⟩ = some (.bool x0.wide) ∧ W.cell? ⟨g, 2, none⟩ = some (.bool x0.acfc) ∧ W.cell? ⟨g, 3, none⟩ = some (.bool x0.pfc) ∧ W.cell? ⟨g, 4, none⟩ = some (.int .u32 (x0.send : Int)) ∧ W.cell? ⟨g, 5, none⟩ = some (.int .u32 (x0.recv : Int)) ∧ W.cell? ⟨g, 6, none⟩ = some (.int .i64 x0.mru)
  c1 : W.cell? ⟨g, 7, none⟩ = some (.bool x1.sync) ∧ W.cell? ⟨g, 8, none⟩ = some (.bool x1.wide) ∧ W.cell? ⟨g, 9, none⟩ = some (.bool x1.acfc) ∧ W.cell? ⟨g, 10, none⟩ = some (.bool x1.pfc) ∧ W.cell? ⟨g, 11, none⟩ = some (.int .u32 (x1.send : Int)) ∧ W.cell? ⟨g, 12, none⟩ = some (.int .u32 (x1.recv : Int)) ∧ W.cell? ⟨g, 13, none⟩ = some (.int .i64 x1.mru)
  lt : g < W.heap.size
  bel : Below w0.heap.size w0 W
theorem TwoC.of {w0 : World} (w2 : World) (o : Obj) (t : TypeId) (x0 x1 : Cf) (g : Nat) (hg : w2.heap.size + 1 = g) (hb : Below w0.heap.size w0 w2) : TwoC w0 ((w2.alloc o).alloc (.cells #[.bool x0.sync, .bool x0.wide, .bool x0.acfc, .bool x0.pfc, .int .u32 (x0.send : Int), .int .u32 (x0.recv : Int), .int .i64 x0.mru, .bool x1.sync, .bool x1.wide, .bool x1.acfc, .bool x1.pfc, .int .u32 (x1.send : Int), .int .u32 (x1.recv : Int), .int .i64 x1.mru] t)) g x0 x1 := by
  subst hg
  have e : ∀ j, ((w2.alloc o).alloc (.cells #[.bool x0.sync, .bool x0.wide, .bool x0.acfc, .bool x0.pfc, .int .u32 (x0.send : Int), .int .u32 (x0.recv : Int), .int .i64 x0.mru, .bool x1.sync, .bool x1.wide, .bool x1.acfc, .bool x1.pfc, .int .u32 (x1.send : Int), .int .u32 (x1.recv : Int), .int .i64 x1.mru] t)).cell? ⟨w2.heap.size + 1, j, none⟩ = (#[.bool x0.sync, .bool x0.wide, .bool x0.acfc, .bool x0.pfc, .int .u32 (x0.send : Int), .int .u32 (x0.recv : Int), .int .i64 x0.mru, .bool x1.sync, .bool x1.wide, .bool x1.acfc, .bool x1.pfc, .int .u32 (x1.send : Int), .int .u32 (x1.recv : Int), .int .i64 x1.mru] : Array Value)[j]? := fun j => by
    rw [World.cell?_alloc_at _ _ _ _ (by simp)]
  refine ⟨?_, ?_, by simp, (hb.alloc hb.size _).alloc (by have := hb.size; simp; omega) _⟩
  all_goals refine ⟨?_, ?_, ?_, ?_, ?_, ?_, ?_⟩
  all_goals (rw [e]; rfl)
theorem TwoC.step {w0 W W' : World} {g : Nat} {x0 x1 : Cf} (h : TwoC w0 W g x0 x1) (hb : Below W.heap.size W W') : TwoC w0 W' g x0 x1 := by
  have k : ∀ j, W'.cell? ⟨g, j, none⟩ = W.cell? ⟨g, j, none⟩ := fun j => hb.cell (p := ⟨g, j, none⟩) h.lt
  refine ⟨?_, ?_, Nat.lt_of_lt_of_le h.lt hb.size, h.bel.trans (hb.mono h.bel.size)⟩
  · simp only [k]; exact h.c0
  · simp only [k]; exact h.c1

end Go.Proofs.YtkakkligndejaaaDoor
