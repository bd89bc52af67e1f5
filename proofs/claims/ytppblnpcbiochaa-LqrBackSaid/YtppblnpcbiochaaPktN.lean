
/-
  Packets that a call answers whose slices lie in blocks that it made. No condition.
-/
import Derived.Test.YtppblnpcbiochaaPktC
namespace Go.Proofs.Ytppblnpcbiochaa
open Go.RowKit
set_option linter.unusedVariables false

theorem PwF.mono {F G : Nat → Prop} {w : World} {p : Pk} {q : Pl} (h : PwF F w p q) (hF : ∀ b, b < w.heap.size → F b → G b) : PwF G w p q :=
  ⟨h.lo, h.ro.mono hF, h.l1, h.r1.mono hF, h.l2, h.r2.mono hF, h.ld, h.rd.mono hF, h.ln, h.rn.mono hF, h.k1, h.k2, h.kd⟩
theorem pwF0 {F : Nat → Prop} {w : World} : PwF F w pk0 pl0 := ⟨rfl, Rws.nilO, rfl, RdF.nil, rfl, RdF.nil, rfl, RdF.nil, rfl, Rws.nil, Nat.le_refl _, Nat.le_refl _, Nat.le_refl _⟩
/-- What Get answers: a packet whose slices lie in blocks that it made, and the error's number. -/
def GetN (w : World) (x : Pk) (k : Nat) (e : Ending) (w' : World) : Prop := ∃ q, e = .returned (.tuple #[x.val q, .int .i64 (k : Int)]) ∧ PwF (fun b => w.heap.size ≤ b) w' x q ∧ Below w.heap.size w w'
theorem GetN.mk {w w' : World} {x : Pk} {k : Nat} {e : Ending} (q : Pl) (h1 : e = .returned (.tuple #[x.val q, .int .i64 (k : Int)])) (h2 : PwF (fun b => w.heap.size ≤ b) w' x q) (h3 : Below w.heap.size w w') : GetN w x k e w' := ⟨q, h1, h2, h3⟩
theorem GetN.getR {w w' : World} {x : Pk} {k : Nat} {e : Ending} (h : GetN w x k e w') : GetR w x k e w' := by
  obtain ⟨q, h1, h2, h3⟩ := h
  exact ⟨q, h1, h2.pw, h3⟩
/-- Above one block, and not another. -/
def Ngt (a b i : Nat) : Prop := a < i ∧ i ≠ b
theorem Ngt.le {a b i : Nat} (h : Ngt a b i) : a ≤ i := Nat.le_of_lt h.1
theorem keeps_g1 (w : World) (a b j : Nat) (u : Value) : Keeps (Ngt a b) w (w.setCell ⟨b, j, none⟩ u) := (keeps_set w b j u).less (fun _ _ h => h.2)
theorem keeps_g2 (w : World) (a b : Nat) (p : Pk) (q : Pl) : Keeps (Ngt a b) w (put10 w a p q) := (put10_keeps w a p q).less (fun _ _ h => Nat.ne_of_gt h.1)
end Go.Proofs.Ytppblnpcbiochaa
