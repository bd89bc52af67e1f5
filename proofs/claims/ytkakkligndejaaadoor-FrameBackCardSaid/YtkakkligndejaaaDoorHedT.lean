
/-
  The document's example for layer 10; the walk of the statement HeadTells. No condition beyond: numbers that Go's types have.
-/
import Derived.Test.YtkakkligndejaaaDoorHedA
import Derived.IntWalk
namespace Go.Proofs.YtkakkligndejaaaDoor
open Go.RowKit

theorem hgetB_lt {c : Cf} {l : List Nat} (h : By l) : (hgetB c l).1 < 65536 := by
  have h1 := getB_lt h c.pfc
  have h2 := getB_lt (h.drop 2) c.pfc
  unfold hgetB haddB
  repeat' split
  all_goals first | exact h1 | exact h2 | decide
theorem hget_b (c : Cf) (l : List Nat) (g1 g2 g3 : Nat) (hg : hgetB c l = (g1, g2, g3)) (A : Option Addr) (n cp : Nat) (w : World) (h : Rd w w.heap.size A l) (hb : By l) (hn : l.length = n) (hc : n ≤ cp) (hm : n ≤ 1099511627776) :
    Calls Tryd.prog 52 #[c.val, .slice A n cp] w fun e w' => e = .returned (.tuple #[.int .u16 (g1 : Int), .int .i64 (g2 : Int), .int .i64 (g3 : Int)]) ∧ Below w.heap.size w w' :=
  (hget_any c l A n cp w h hb hn hc hm).mono fun _ _ ⟨he, hw⟩ => ⟨by rw [he, hg]; rfl, hw⟩
theorem rhget_b (c : Cf) (l : List Nat) (g1 g2 g3 : Nat) (hg : hgetB c l = (g1, g2, g3)) (A : Option Addr) (n cp : Nat) (w : World) (h : Rd w w.heap.size A l) (hb : By l) (hn : l.length = n) (hc : n ≤ cp) (hm : n ≤ 1099511627776) :
    Calls Tryd.prog 36 #[c.val, .slice A n cp] w fun e w' => e = .returned (.tuple #[.int .i64 (g1 : Int), .int .i64 (g2 : Int), .int .i64 (g3 : Int)]) ∧ Below w.heap.size w w' :=
  (rhget_any c l A n cp w h hb hn hc hm).mono fun _ _ ⟨he, hw⟩ => ⟨by rw [he, hg]; rfl, hw⟩

/-- The law's two configs, in a world behind w0. -/
structure Two (w0 W : World) (b1 b2 : Nat) (c : Cf) : Prop where
  a : Bx W b1 24 c
  x : Bx W b2 29 c
  bel : Below w0.heap.size w0 W
section
variable {w0 W W' X : World} {b1 b2 : Nat} {c : Cf}
theorem Two.step (h : Two w0 W b1 b2 c) (hb : Below W.heap.size W W') : Two w0 W' b1 b2 c := ⟨h.a.below hb, h.x.below hb, h.bel.trans (hb.mono h.bel.size)⟩
theorem Two.drew (h : Two w0 W b1 b2 c) : Two w0 W.drew b1 b2 c := ⟨h.a, h.x, h.bel.drew⟩
theorem Two.step' (h : Two w0 W b1 b2 c) (hb : Below X.heap.size X W') (hX : Below W.heap.size W X := by first | exact Below.refl _ _ | exact (Below.refl _ _).drew) : Two w0 W' b1 b2 c := (h.step hX).step hb
end

theorem hequal_q (a : List Nat) (A B : Option Addr) (c d : Nat) (w : World) (ha : Rd w w.heap.size A a) (hb : Rd w w.heap.size B a) (hn : a.length ≤ 1099511627776) :
    Calls Tryd.prog 12 #[.slice A a.length c, .slice B a.length d] w fun e w' => e = .returned (.bool true) ∧ ∃ n, w' = w.drewN n :=
  (equal_any a a A B c d w _ ha hb hn).mono fun _ _ ⟨he, hw⟩ => ⟨by rw [he]; simp, hw⟩
theorem allB_short {c : Cf} {p k : Nat} {x : List Nat} (h : (allB c p)[k]? = some x) : x.length ≤ 4 := by
  have hm := List.mem_of_getElem? h
  unfold allB numB at hm
  have key : ∀ a b, (wrB p a b).length ≤ 4 := fun a b => (wrB_len p a b).2
  rcases List.mem_append.1 hm with hm | hm
  · split at hm
    · split at hm <;> simp at hm <;> rcases hm with rfl | rfl <;> exact key _ _
    · simp at hm
  · split at hm <;> simp at hm <;> rcases hm with rfl | rfl <;> exact key _ _

end Go.Proofs.YtkakkligndejaaaDoor
