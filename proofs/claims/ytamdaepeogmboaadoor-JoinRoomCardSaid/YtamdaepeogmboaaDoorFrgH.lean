
/-
  An argument that is a piece, or a slice of pieces, opened: what it says, and how it lies. No condition.
-/
import Derived.Test.YtamdaepeogmboaaDoorFrgO
import Derived.ProofKit
import Derived.OpenShut
import Derived.Deep.Matrix
import Derived.Deep.Fields
import Derived.SizedLaws
namespace Go.Proofs.YtamdaepeogmboaaDoor
set_option maxRecDepth 8000
open Go.ChangeShapes Go.WideShapes Go.ChangeAt Go.RowKit Go.Deep

theorem frh_all_mem {H : Type} {P : Program} {e : TypeId} : ∀ {l : List (DataW H)} {d : DataW H}, d ∈ l → ∀ n ∈ d.weights P e, n ∈ DataW.weightsAll P e l
  | d' :: r, d, hd, n, hn => by
    simp only [DataW.weightsAll, List.mem_append]
    rcases List.mem_cons.1 hd with rfl | h
    · exact Or.inl hn
    · exact Or.inr (frh_all_mem h n hn)
theorem frh_cells : Tryd.prog.cellsOf 37 = 4 := by kernel_rfl
theorem frh_bytes : Tryd.prog.bytesOf 37 = 40 := by kernel_rfl
theorem frh_c22 : Tryd.prog.cellsOf 30 = 1 := by kernel_rfl
theorem frh_c5 : Tryd.prog.cellsOf 5 = 1 := by kernel_rfl
theorem frh_b5 : Tryd.prog.bytesOf 5 = 1 := by kernel_rfl
theorem frh_c4 : Tryd.prog.cellsOf 4 = 1 := by kernel_rfl
theorem frh_c3 : Tryd.prog.cellsOf 3 = 1 := by kernel_rfl
theorem frh_i64 {n : Int} (h : (Lit.int .i64 n).wf = true) : -9223372036854775808 ≤ n ∧ n ≤ 9223372036854775807 := by
  simp [Lit.wf, IntKind.min, IntKind.max, IntKind.signed, IntKind.bits] at h
  omega

/-- What the walk is told of a piece. -/
structure IsPc (w : World) (b e : Bool) (x : Int) (A : Option Addr) (n c : Nat) (l : List Nat) : Prop where
  lo : -9223372036854775808 ≤ x
  hi : x ≤ 9223372036854775807
  nl : l.length = n
  nc : n ≤ c
  by_ : By l
  rd : Rd w w.heap.size A l
/-- What the walk is told of a slice of pieces. -/
structure IsPcs (w : World) (a : Option Addr) (len cap : Nat) (l : List Pc) : Prop where
  nl : l.length = len
  nc : len ≤ cap
  most : len ≤ 140737488351232
  by_ : ByF l
  each : ∀ x ∈ l, x.d.length ≤ 140737488351232
  num : ∀ x ∈ l, -9223372036854775808 ≤ x.n ∧ x.n ≤ 9223372036854775807
  rd : Rws shF (fun _ => True) w a l

set_option maxRecDepth 8000 in
theorem open_bytesF {H : Type} {enc : TypeId × Value → H} {w : World} {base : Nat} {held : Bool} {fuel : Nat} {v : Value} {x : DataW H × List MemPlace}
    (h : DataW.trod enc Tryd.prog w base (fun _ => true) held fuel 30 [v] = some x) : ∃ a n c l, v = .slice a n c ∧ l.length = n ∧ n ≤ c ∧ By l ∧ Rd w w.heap.size a l ∧ ((∀ k ∈ x.1.weights Tryd.prog 30, k ≤ reachBytes) → n ≤ 140737488351232) := by
  rcases open_ints Tryd.underlying30 Tryd.underlying5 frh_c5 h with ⟨hcs, _⟩ | ⟨ad, len, cap, zs, hcs, _, hlc, hm, hz, hy, hcell, hwz⟩
  · simp at hcs
    exact ⟨none, 0, 0, [], hcs, rfl, Nat.le_refl _, By.nil, Rd.nil, fun _ => by omega⟩
  · simp at hcs
    have hz' : zs.length = cap := by simpa using hz
    obtain ⟨m, e1, e2, e3⟩ := rowBytes (w := w) (a := some ad) (len := len) (cap := cap) (zs := zs) (.inr ⟨ad, rfl, hlc, hm, hz', hcell, hwz⟩)
    refine ⟨some ad, len, cap, m, hcs, e1, hlc, e2, e3, fun hs => ?_⟩
    have hw : zs.length ≤ reachBytes := hs _ (by
      rw [hy]
      simp only [DataW.weights, Tryd.underlying30, frh_b5, List.mem_cons]
      refine .inl ?_
      simp only [lits, List.length_map, List.length_take, List.length_drop]
      omega)
    have hr : reachBytes = 140737488351232 := rfl
    omega

set_option maxRecDepth 8000 in
theorem open_fields {H : Type} {enc : TypeId × Value → H} {w : World} {base : Nat} {held : Bool} {fuel : Nat} {cs : List Value} {x : DataW H × List MemPlace}
    (hl : cs.length = 4) (h : DataW.trod enc Tryd.prog w base (fun _ => true) held fuel 37 cs = some x) :
    ∃ b e z A n c l, cs = [.bool b, .bool e, .int .i64 z, .slice A n c] ∧ IsPc w b e z A n c l ∧ ((∀ k ∈ x.1.weights Tryd.prog 37, k ≤ reachBytes) → n ≤ 140737488351232) := by
  obtain ⟨xs, n, _, hx, _, hlen, hg⟩ := DataW.trod_struct Tryd.underlying37 h
  match cs, hl with
  | [c0, c1, c2, c3], _ =>
    match xs, hlen with
    | [y0, y1, y2, y3], _ =>
      have g0 := hg 0 _ rfl
      have g1 := hg 1 _ rfl
      have g2 := hg 2 _ rfl
      have g3 := hg 3 _ rfl
      simp [frh_c22, frh_c4, frh_c3] at g0 g1 g2 g3
      have hd := congrArg Prod.fst hx
      simp only at hd
      obtain ⟨b0, e0, _⟩ := DataW.trod_bool Tryd.underlying4 g0
      obtain ⟨b1, e1, _⟩ := DataW.trod_bool Tryd.underlying4 g1
      obtain ⟨z2, e2, _, s2⟩ := DataW.trod_int Tryd.underlying3 g2
      simp at e0 e1 e2
      obtain ⟨A, m, c, l, e3, f3, k3, b3, r3, m3⟩ := open_bytesF g3
      subst e0 e1 e2 e3
      refine ⟨b0, b1, z2, A, m, c, l, rfl, ⟨(frh_i64 s2).1, (frh_i64 s2).2, f3, k3, b3, r3⟩, fun hs => m3 (fun k hk => ?_)⟩
      rw [hd] at hs
      simp only [DataW.weights, Tryd.underlying37] at hs
      exact hs k (DataW.weights_mem_each (j := 3) (t := 30) rfl rfl k hk)

set_option maxRecDepth 8000 in
theorem open_pc {H : Type} {enc : TypeId × Value → H} {w : World} {base : Nat} {held : Bool} {r : Reach} {b0 : Nat} {v : Value} {d : DataW H} {p : List MemPlace}
    (hv : Value.okWide Tryd.prog w r b0 37 v) (h : DataW.Trod enc Tryd.prog w base (fun _ => true) held 37 v d p) :
    ∃ b e z A n c l, v = fV b e z A n c ∧ IsPc w b e z A n c l := by
  obtain ⟨cs, rfl, hsz⟩ := okWide_struct Tryd.underlying37 hv
  obtain ⟨cs⟩ := cs
  obtain ⟨fuel, hf⟩ := h
  have hf' : DataW.trod enc Tryd.prog w base (fun _ => true) held fuel 37 cs = some (d, p) := hf
  obtain ⟨b, e, z, A, n, c, l, hcs, hp, _⟩ := open_fields (by simpa [frh_cells] using hsz) hf'
  have hcs' : cs = [.bool b, .bool e, .int .i64 z, .slice A n c] := by simpa [Value.cells] using hcs
  subst hcs'
  exact ⟨b, e, z, A, n, c, l, rfl, hp⟩

end Go.Proofs.YtamdaepeogmboaaDoor
