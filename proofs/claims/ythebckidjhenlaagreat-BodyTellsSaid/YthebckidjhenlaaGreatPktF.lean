
/-
  Packets that a call answers whose slices lie in blocks that F tells, as its argument does. No condition.
-/
import Derived.Test.YthebckidjhenlaaGreatGPkt
namespace Go.Proofs.YthebckidjhenlaaGreat
set_option maxRecDepth 4000
open Go.RowKit
set_option linter.unusedVariables false

/-- Of F, and neither of two blocks. -/
def Nf (F : Nat → Prop) (a b i : Nat) : Prop := F i ∧ i ≠ a ∧ i ≠ b
theorem keeps_f1 (F : Nat → Prop) (w : World) (a b j : Nat) (u : Value) : Keeps (Nf F a b) w (w.setCell ⟨b, j, none⟩ u) := (keeps_set w b j u).less (fun _ _ h => h.2.2)
theorem keeps_f2 (F : Nat → Prop) (w : World) (a b : Nat) (p : Pk) (q : Pl) : Keeps (Nf F a b) w (put10 w a p q) := (put10_keeps w a p q).less (fun _ _ h => h.2.1)
theorem GpC.farF {T : TypeId} {w W : World} {g : Nat} {p : Pk} {q : Pl} {F : Nat → Prop} (h : GpC T w W g p q) (hF : ∀ i, w.heap.size ≤ i → F i) : ∀ i, W.heap.size ≤ i → Nf F w.heap.size g i := fun i hi => by
  have h1 := h.cf.lt
  have h2 := h.lt
  exact ⟨hF i (by omega), by omega, by omega⟩
theorem RdF.ltF {F : Nat → Prop} {w : World} {A : Option Addr} {l : List Nat} (h : RdF F w A l) : RdF (fun i => F i ∧ i < w.heap.size) w A l := h.mono (fun _ hb hf => ⟨hf, hb⟩)
/-- What Get answers: a packet whose slices lie in blocks that F tells, and the error's number. -/
def GetF (F : Nat → Prop) (w : World) (x : Pk) (k : Nat) (e : Ending) (w' : World) : Prop := ∃ q, e = .returned (.tuple #[x.val q, .int .i64 (k : Int)]) ∧ PwF F w' x q ∧ Below w.heap.size w w'
theorem GetF.mk {F : Nat → Prop} {w w' : World} {x : Pk} {k : Nat} {e : Ending} (q : Pl) (h1 : e = .returned (.tuple #[x.val q, .int .i64 (k : Int)])) (h2 : PwF F w' x q) (h3 : Below w.heap.size w w') : GetF F w x k e w' := ⟨q, h1, h2, h3⟩
theorem GetF.getR {F : Nat → Prop} {w w' : World} {x : Pk} {k : Nat} {e : Ending} (h : GetF F w x k e w') : GetR w x k e w' := by
  obtain ⟨q, h1, h2, h3⟩ := h
  exact ⟨q, h1, h2.pw, h3⟩
theorem GetN.getF {F : Nat → Prop} {w w' : World} {x : Pk} {k : Nat} {e : Ending} (h : GetN w x k e w') (hF : ∀ i, w.heap.size ≤ i → F i) : GetF F w x k e w' := by
  obtain ⟨q, h1, h2, h3⟩ := h
  exact ⟨q, h1, h2.mono (fun i _ hi => hF i hi), h3⟩
theorem Rd.rdT {w : World} {A : Option Addr} {l : List Nat} (h : Rd w w.heap.size A l) : RdF (fun _ => True) w A l := h.rdF (fun _ _ => trivial) (Nat.le_refl _)
end Go.Proofs.YthebckidjhenlaaGreat
