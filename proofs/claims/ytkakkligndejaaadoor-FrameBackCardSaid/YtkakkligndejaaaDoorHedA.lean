
/-
  All headers of a protocol: what the calls of layer 10 and the document's own answer. No condition beyond: numbers below 2^16.
-/
import Derived.Test.YtkakkligndejaaaDoorHedG
namespace Go.Proofs.YtkakkligndejaaaDoor
open Go.RowKit

/-- A protocol's headers that are led, or aren't. -/
def numB (c : Cf) (p : Nat) (led : Bool) : List (List Nat) := if (c.pfc && decide (p < 256)) = true then [wrB p led true, wrB p led false] else [wrB p led false]
/-- All headers of a protocol. -/
def allB (c : Cf) (p : Nat) : List (List Nat) := (if c.acfc = true then numB c p false else []) ++ numB c p true
theorem rows_info : (Tryd.prog.info? 26).map (fun i => (i.zero, i.size, i.bytes)) = some (some (.slice none 0 0), 1, 24) := by kernel_rfl

theorem lit1 {F : Nat → Prop} (w : World) {A : Option Addr} {n c : Nat} {l : List Nat} (hl : l.length = n) (hc : n ≤ c) (h : RdF F w A l) :
    Orw shB 26 F w.heap.size (w.alloc (.cells #[.slice A n c] 26)) (.slice (some ⟨w.heap.size, 0, none⟩) 1 1) [l] := by
  subst hl
  refine Orw.lit w [[.slice A l.length c]] rfl (fun k x cs hx hk => ?_) (by simp)
  rcases k with _ | k
  · injection hx with hx
    injection hk with hk
    subst hx; subst hk
    exact ⟨A, c, rfl, hc, h⟩
  · simp at hx
theorem lit2 {F : Nat → Prop} (w : World) {A A2 : Option Addr} {n c n2 c2 : Nat} {l l2 : List Nat} (hl : l.length = n) (hc : n ≤ c) (h : RdF F w A l) (hl2 : l2.length = n2) (hc2 : n2 ≤ c2) (h2 : RdF F w A2 l2) :
    Orw shB 26 F w.heap.size (w.alloc (.cells #[.slice A n c, .slice A2 n2 c2] 26)) (.slice (some ⟨w.heap.size, 0, none⟩) 2 2) [l, l2] := by
  subst hl; subst hl2
  refine Orw.lit w [[.slice A l.length c], [.slice A2 l2.length c2]] rfl (fun k x cs hx hk => ?_) (by simp)
  rcases k with _ | _ | k
  · injection hx with hx
    injection hk with hk
    subst hx; subst hk
    exact ⟨A, c, rfl, hc, h⟩
  · injection hx with hx
    injection hk with hk
    subst hx; subst hk
    exact ⟨A2, c2, rfl, hc2, h2⟩
  · simp at hx

theorem numB_len (c : Cf) (p : Nat) (led : Bool) : 1 ≤ (numB c p led).length ∧ (numB c p led).length ≤ 2 := by unfold numB; split <;> simp
theorem allB_len (c : Cf) (p : Nat) : 1 ≤ (allB c p).length ∧ (allB c p).length ≤ 4 := by
  have := numB_len c p true
  have := numB_len c p false
  unfold allB
  split <;> simp <;> omega
theorem cfull {w : World} {b : Nat} {t : TypeId} {c : Cf} (h : Bx w b t c) : w.cell? ⟨b, 0, none⟩ = some (.bool c.sync) ∧ w.cell? ⟨b, 1, none⟩ = some (.bool c.wide) ∧ w.cell? ⟨b, 2, none⟩ = some (.bool c.acfc) ∧ w.cell? ⟨b, 3, none⟩ = some (.bool c.pfc) ∧ w.cell? ⟨b, 4, none⟩ = some (.int .u32 (c.send : Int)) ∧ w.cell? ⟨b, 5, none⟩ = some (.int .u32 (c.recv : Int)) ∧ w.cell? ⟨b, 6, none⟩ = some (.int .i64 c.mru) := h.all

/-- What the row so far is: of the call's own, behind block B. -/
structure Acc (wc w : World) (v : Value) (n : Nat) (ls : List (List Nat)) : Prop where
  own : Orw shB 26 (fun b => wc.heap.size ≤ b) wc.heap.size w v ls
  bel : Below wc.heap.size wc w
  len : ls.length = n
theorem Acc.on {wc w w' : World} {v : Value} {n : Nat} {ls : List (List Nat)} (h : Acc wc w v n ls) (hb : Below w.heap.size w w') : Acc wc w' v n ls := ⟨h.own.below hb, h.bel.trans (hb.mono h.bel.size), h.len⟩
theorem Acc.far {wc w : World} {v : Value} {n : Nat} {ls : List (List Nat)} (h : Acc wc w v n ls) : ∀ b, w.heap.size ≤ b → wc.heap.size ≤ b ∧ v.ownBlock ≠ some b := fun b hb => ⟨Nat.le_trans h.bel.size hb, fun e => by have := (h.own.lt e).2; omega⟩

theorem Acc.push {wc w w7 : World} {v v7 : Value} {n : Nat} {ls : List (List Nat)} {l : List Nat} {o : Obj} (h : Acc wc w v n ls) (ho : Orw shB 26 (fun b => wc.heap.size ≤ b) wc.heap.size w7 v7 (ls ++ [l])) (hg : (w.alloc o).grownBy w7 v.ownBlock) : Acc wc w7 v7 (n + 1) (ls ++ [l]) :=
  ⟨ho, (h.bel.alloc h.bel.size o).grown hg (h.bel.alloc h.bel.size o).size (fun k hk => (h.own.lt hk).1), by rw [List.length_append, h.len]; rfl⟩
theorem Acc.al {wc w : World} {v : Value} {n : Nat} {ls : List (List Nat)} (h : Acc wc w v n ls) (o : Obj) : Acc wc (w.alloc o) v n ls := h.on ((Below.refl _ _).alloc (Nat.le_refl _) _)
theorem lit_below {wk w5 : World} {o : Obj} (h : Below (wk.alloc o).heap.size (wk.alloc o) w5) : Below wk.heap.size wk w5 := ((Below.refl _ _).alloc (Nat.le_refl _) o).trans (h.mono (by simp))
theorem own_len {w : World} {base : Nat} {e : TypeId} {v : Value} {n : Nat} {l : List Nat} (h : w.ownsRow base e 1 v n (bvs l)) : l.length = n := by have := h.1; rw [bvs_len] at this; omega

end Go.Proofs.YtkakkligndejaaaDoor
