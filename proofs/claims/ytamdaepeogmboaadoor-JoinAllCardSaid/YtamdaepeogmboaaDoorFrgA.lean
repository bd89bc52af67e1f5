
/-
  The headers' shapes, as the start-up lays them: what the condition on the listed variables gives the walks, and that the door's own run meets it. No condition.
-/
import Derived.Test.YtamdaepeogmboaaDoorRows
import Derived.Test.YtamdaepeogmboaaDoorFrgT
import Derived.ProofKit
import Derived.LaidMore
import Derived.OpenShut
import Derived.Stop.Joined
namespace Go.Proofs.YtamdaepeogmboaaDoor
set_option maxRecDepth 4000
open Go.ChangeShapes Go.WideShapes Go.ChangeAt Go.RowKit

/-- The listed variables. -/
abbrev laidL : List (String × DataW Unit) := [("marline/frag.shapes", Rows.laid_marline_frag_shapes)]
theorem frga_g : Tryd.prog.globalNamed "marline/frag.shapes" = some 0 := by kernel_rfl
theorem frga_t : (Tryd.prog.globals[0]?).map (·.type) = some 105 := by kernel_rfl
theorem frga_c1 : Tryd.prog.cellsOf 3 = 1 := by kernel_rfl
theorem frga_c2 : Tryd.prog.cellsOf 5 = 1 := by kernel_rfl
theorem frga_c3 : Tryd.prog.cellsOf 93 = 3 := by kernel_rfl
theorem frga_c6 : Tryd.prog.cellsOf 105 = 6 := by kernel_rfl

set_option maxRecDepth 16000 in
/-- A shape that reads as a datum: its cells. -/
theorem frga_shape {enc : TypeId × Value → Unit} {W : World} {base : Nat} {spare : Nat → Bool} {held : Bool} {fuel : Nat} {cs : List Value} {p : List MemPlace} {z m : Int} {k : Int}
    (hd : DataW.trod enc Tryd.prog W base spare held fuel 93 cs = some (.agg [.lit (.int .i64 z), .lit (.int .i64 m), .lit (.int .u8 k)], p)) : cs = [.int .i64 z, .int .i64 m, .int .u8 k] := by
  obtain ⟨xs, n, rfl, hx, hlen, hn, hel⟩ := DataW.trod_struct Tryd.underlying93 hd
  rw [frga_c3] at hlen
  match cs, hlen with
  | [c0, c1, c2], _ =>
    match xs, hn with
    | [y0, y1, y2], _ =>
      have g0 := hel 0 _ rfl
      have g1 := hel 1 _ rfl
      have g2 := hel 2 _ rfl
      simp [frga_c1, frga_c2] at g0 g1 g2
      obtain ⟨a0, e0, d0, _⟩ := DataW.trod_int Tryd.underlying3 g0
      obtain ⟨a1, e1, d1, _⟩ := DataW.trod_int Tryd.underlying3 g1
      obtain ⟨a2, e2, d2, _⟩ := DataW.trod_int Tryd.underlying5 g2
      simp at e0 e1 e2
      rw [Prod.mk.injEq] at hx
      have hx1 := hx.1
      simp [d0, d1, d2] at hx1
      obtain ⟨rfl, rfl, rfl⟩ := hx1
      rw [e0, e1, e2]

set_option maxRecDepth 16000 in
theorem tabs_of_laid {W : World} (h : laidMetH Tryd.prog laidL W) : TabF W := by
  rw [MakeChecks.laidMetH_plain _ _ _ (by kernel_rfl)] at h
  obtain ⟨ps, ⟨g0, t0, cs0, f0, p0, q0, hg0, ht0, hv0, hd0, _, _⟩, _, _⟩ := h
  obtain rfl := Option.some.inj (frga_g.symm.trans hg0)
  obtain rfl := Option.some.inj (frga_t.symm.trans ht0)
  obtain ⟨xs, m, rfl, hx, hlen, hn, hel⟩ := DataW.trod_array Tryd.underlying105 hd0
  rw [Prod.mk.injEq] at hx
  obtain ⟨hx1, -⟩ := hx
  match xs, hn with
  | [y0, y1], _ =>
    have h0 := hel 0 (by omega)
    have h1 := hel 1 (by omega)
    simp only [List.map_cons, List.map_nil, Rows.laid_marline_frag_shapes, DataW.agg.injEq, List.cons.injEq, and_true] at hx1
    obtain ⟨hy0, hy1⟩ := hx1
    obtain ⟨y0, p0'⟩ := y0
    obtain ⟨y1, p1'⟩ := y1
    simp only at hy0 hy1
    subst hy0; subst hy1
    simp only [List.getElem?_cons_zero, List.getElem?_cons_succ] at h0 h1
    have s0 := frga_shape h0
    have s1 := frga_shape h1
    rw [frga_c3] at s0 s1
    have at_ : ∀ k, W.cell? ⟨0, k, none⟩ = cs0[k]? := fun k => World.var?_cell frga_g hv0 k
    have a0 : ∀ k, k < 3 → cs0[k]? = [Value.int .i64 2, .int .i64 4096, .int .u8 48][k]? := fun k hk => by
      rw [← s0, List.getElem?_take, if_pos hk, List.getElem?_drop]
      simp
    have a1 : ∀ k, k < 3 → cs0[3 + k]? = [Value.int .i64 4, .int .i64 16777216, .int .u8 63][k]? := fun k hk => by
      rw [← s1, List.getElem?_take, if_pos hk, List.getElem?_drop]
      simp
    exact ⟨(at_ 0).trans (a0 0 (by omega)), (at_ 1).trans (a0 1 (by omega)), (at_ 2).trans (a0 2 (by omega)), (at_ 3).trans (a1 0 (by omega)), (at_ 4).trans (a1 1 (by omega)), (at_ 5).trans (a1 2 (by omega))⟩

theorem door_met (os : Os) (args : Array Value) : laidMetH Tryd.prog laidL ((World.doorLaid Tryd.prog 4000 os).forCall (fun _ _ => 0) ⟨#[], args, []⟩).memory :=
  laidMetH_of_parts3 (fuel := 8) (laidMet_of_run' 8 (by kernel_rfl) (by kernel_rfl)) (by kernel_rfl) (by kernel_rfl)
theorem door_shaped (os : Os) (args : Array Value) : ((World.doorLaid Tryd.prog 4000 os).forCall (fun _ _ => 0) ⟨#[], args, []⟩).Shaped Tryd.prog := World.shaped_of_RefB (by kernel_rfl) (by kernel_rfl)
end Go.Proofs.YtamdaepeogmboaaDoor
