
/-
  The two tables of the sums, as the start-up lays them: what the condition on the listed variables gives the walks, and that the door's own run meets it. No condition.
-/
import Derived.Test.YtkakkligndejaaaDoorRows
import Derived.Test.YtkakkligndejaaaDoorFcsU
import Derived.ProofKit
import Derived.LaidMore
import Derived.OpenShut
import Derived.Stop.Joined
namespace Go.Proofs.YtkakkligndejaaaDoor
open Go.ChangeShapes Go.WideShapes Go.ChangeAt Go.RowKit

/-- The listed variables. -/
abbrev laidL : List (String × DataW Unit) := [("marline/fcs.steps", Rows.laid_marline_fcs_steps), ("marline/fcs.stepsWide", Rows.laid_marline_fcs_stepsWide)]
theorem gSteps : Tryd.prog.globalNamed "marline/fcs.steps" = some 1 := by kernel_rfl
theorem gWide : Tryd.prog.globalNamed "marline/fcs.stepsWide" = some 0 := by kernel_rfl
theorem tSteps : (Tryd.prog.globals[1]?).map (·.type) = some 83 := by kernel_rfl
theorem tWide : (Tryd.prog.globals[0]?).map (·.type) = some 83 := by kernel_rfl

def aggAt (D : DataW Unit) (k : Nat) : Option (DataW Unit) := match D with
  | .agg l => l[k]?
  | _ => none
theorem steps_at (k : Nat) (h : k < 16) : aggAt Rows.laid_marline_fcs_steps k = some (.lit (.int .u32 (shN 33800 4 k : Int))) := by
  have : k = 0 ∨ k = 1 ∨ k = 2 ∨ k = 3 ∨ k = 4 ∨ k = 5 ∨ k = 6 ∨ k = 7 ∨ k = 8 ∨ k = 9 ∨ k = 10 ∨ k = 11 ∨ k = 12 ∨ k = 13 ∨ k = 14 ∨ k = 15 := by omega
  rcases this with rfl | rfl | rfl | rfl | rfl | rfl | rfl | rfl | rfl | rfl | rfl | rfl | rfl | rfl | rfl | rfl
  all_goals rfl
theorem wide_at (k : Nat) (h : k < 16) : aggAt Rows.laid_marline_fcs_stepsWide k = some (.lit (.int .u32 (shN 3988292384 4 k : Int))) := by
  have : k = 0 ∨ k = 1 ∨ k = 2 ∨ k = 3 ∨ k = 4 ∨ k = 5 ∨ k = 6 ∨ k = 7 ∨ k = 8 ∨ k = 9 ∨ k = 10 ∨ k = 11 ∨ k = 12 ∨ k = 13 ∨ k = 14 ∨ k = 15 := by omega
  rcases this with rfl | rfl | rfl | rfl | rfl | rfl | rfl | rfl | rfl | rfl | rfl | rfl | rfl | rfl | rfl | rfl
  all_goals rfl

/-- A table of sixteen numbers of 32 bits that reads as a datum: its cells. -/
theorem table_cells {enc : TypeId × Value → Unit} {W : World} {base : Nat} {spare : Nat → Bool} {held : Bool} {fuel : Nat} {cs : Array Value} {D : DataW Unit} {p : List MemPlace} {g : Nat} {n : String}
    (hg : Tryd.prog.globalNamed n = some g) (hv : W.var? Tryd.prog n = some cs) (hd : DataW.trod enc Tryd.prog W base spare held fuel 83 cs.toList = some (D, p)) (f : Nat → Nat)
    (hD : ∀ k, k < 16 → aggAt D k = some (.lit (.int .u32 (f k : Int)))) (k : Nat) (hk : k < 16) : W.cell? ⟨g, k, none⟩ = some (.int .u32 (f k : Int)) := by
  obtain ⟨xs, m, rfl, hx, hlen, hn, hel⟩ := DataW.trod_array Tryd.underlying83 hd
  have c1 : Tryd.prog.cellsOf 22 = 1 := by kernel_rfl
  have c16 : Tryd.prog.cellsOf 83 = 16 := by kernel_rfl
  rw [Prod.mk.injEq] at hx
  obtain ⟨rfl, -⟩ := hx
  have hk2 : k < xs.length := by omega
  have h1 := hel k hk
  rw [List.getElem?_eq_getElem hk2] at h1
  obtain ⟨v, e1, e2, _⟩ := DataW.trod_int Tryd.underlying22 h1
  have h2 := hD k hk
  dsimp only [aggAt] at h2
  rw [List.getElem?_map, List.getElem?_eq_getElem hk2, e2] at h2
  simp only [Option.map_some, Option.some.injEq, DataW.lit.injEq, Lit.int.injEq, true_and] at h2
  subst h2
  rw [c1, Nat.mul_one] at e1
  rw [World.var?_cell hg hv k]
  have h3 : (cs.toList.drop k)[0]? = some (.int .u32 (f k : Int)) := by
    have := congrArg (fun l => l[0]?) e1
    simpa [List.getElem?_take] using this
  rw [List.getElem?_drop, Nat.add_zero] at h3
  simpa using h3

theorem tabs_of_laid {W : World} (h : laidMetH Tryd.prog laidL W) : Tabs W := by
  rw [MakeChecks.laidMetH_plain _ _ _ (by kernel_rfl)] at h
  obtain ⟨ps, ⟨g0, t0, cs0, f0, p0, q0, hg0, ht0, hv0, hd0, ⟨g1, t1, cs1, f1, p1, q1, hg1, ht1, hv1, hd1, _, _⟩, _⟩, _, _⟩ := h
  obtain rfl := Option.some.inj (gSteps.symm.trans hg0)
  obtain rfl := Option.some.inj (gWide.symm.trans hg1)
  obtain rfl := Option.some.inj (tSteps.symm.trans ht0)
  obtain rfl := Option.some.inj (tWide.symm.trans ht1)
  exact fun k hk => ⟨table_cells gWide hv1 hd1 (shN 3988292384 4) wide_at k hk, table_cells gSteps hv0 hd0 (shN 33800 4) steps_at k hk⟩

end Go.Proofs.YtkakkligndejaaaDoor
