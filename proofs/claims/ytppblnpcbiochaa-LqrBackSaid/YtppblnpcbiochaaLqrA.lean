
/-
  Twelve numbers as an array: an argument, opened; in a block; a report whose numbers are a slice of it. No condition.
-/
import Derived.Test.YtppblnpcbiochaaLqrL
import Derived.Test.YtppblnpcbiochaaPktH
namespace Go.Proofs.Ytppblnpcbiochaa
open Go.ChangeShapes Go.WideShapes Go.ChangeAt Go.RowKit Go.Deep
set_option linter.unusedVariables false

theorem okWide_array {P : Program} {w : World} {r : Reach} {b0 : Nat} {t e : TypeId} {n : Nat} {v : Value} (ht : P.underlying t = some (.array n e)) (h : Value.okWide P w r b0 t v) : ∃ cs, v = .agg cs ∧ cs.size = P.cellsOf t := by
  simp only [Value.okWide, ht] at h
  obtain ⟨cs, h1, h2, _⟩ := h
  exact ⟨cs, h1, h2⟩
theorem arr_cells : Try.prog.cellsOf 52 = 12 := by kernel_rfl
/-- Twelve numbers as a value. -/
abbrev arrV (l : List Nat) : Value := .agg (nvs l).toArray
/-- What the walk is told of twelve numbers. -/
def IsArr (l : List Nat) : Prop := l.length = 12 ∧ N32 l

set_option maxRecDepth 8000 in
theorem open_arr12 {H : Type} {enc : TypeId × Value → H} {w : World} {base : Nat} {spare : Nat → Bool} {held : Bool} {r : Reach} {b0 : Nat} {v : Value} {d : DataW H} {p : List MemPlace}
    (hv : Value.okWide Try.prog w r b0 52 v) (h : DataW.Trod enc Try.prog w base spare held 52 v d p) : ∃ l : List Nat, v = arrV l ∧ IsArr l := by
  obtain ⟨cs, rfl, hsz⟩ := okWide_array Try.underlying52 hv
  rw [arr_cells] at hsz
  obtain ⟨fuel, hf⟩ := h
  obtain ⟨xs, m, _, hx, _, hlen, hg⟩ := DataW.trod_array Try.underlying52 hf
  have each : ∀ i, i < 12 → ∃ z : Int, cs.toList[i]? = some (.int .u32 z) ∧ 0 ≤ z ∧ z < 4294967296 := by
    intro i hi
    have h1 := hg i hi
    rw [pk_c24, Nat.mul_one] at h1
    have hi' : i < cs.toList.length := by simp; omega
    have e1 : ((Value.cells (.agg cs)).toList.drop i).take 1 = [cs.toList[i]] := by
      show (cs.toList.drop i).take 1 = _
      rw [List.drop_eq_getElem_cons hi', List.take_succ_cons, List.take_zero]
    rw [e1, List.getElem?_eq_getElem (by omega)] at h1
    obtain ⟨z, hz, _, s⟩ := DataW.trod_int Try.underlying24 h1
    have hz' : cs.toList[i] = .int .u32 z := by simpa using hz
    exact ⟨z, by rw [List.getElem?_eq_getElem hi', hz'], pk_u32 s⟩
  refine ⟨cs.toList.map fun u => (intOf u).toNat, ?_, by simp [hsz], ?_⟩
  · show Value.agg cs = _
    congr 1
    refine Array.ext' ?_
    show cs.toList = nvs _
    refine List.ext_getElem? fun i => ?_
    unfold nvs
    rw [List.getElem?_map, List.getElem?_map]
    by_cases hi : i < 12
    · obtain ⟨z, hz, h0, _⟩ := each i hi
      rw [hz]
      simp only [Option.map_some, intOf, Option.some.injEq, Value.int.injEq, true_and]
      omega
    · rw [List.getElem?_eq_none (by simp; omega)]
      rfl
  · intro x hx
    obtain ⟨u, hu, rfl⟩ := List.mem_map.1 hx
    obtain ⟨i, hi⟩ := List.mem_iff_getElem?.1 hu
    have hi12 : i < 12 := by have := (List.getElem?_eq_some_iff.1 hi).1; simp at this; omega
    obtain ⟨z, hz, h0, h1⟩ := each i hi12
    rw [hz] at hi
    injection hi with hi
    subst hi
    simp only [intOf]
    omega

/-- Twelve numbers in block b. -/
def Nv (w : World) (b : Nat) (l : List Nat) : Prop := w.heap[b]? = some (.cells (nvs l).toArray 52 (0, 0))
theorem Nv.lt {w : World} {b : Nat} {l : List Nat} (h : Nv w b l) : b < w.heap.size := (Array.getElem?_eq_some_iff.1 h).1
theorem Nv.below {w w' : World} {b : Nat} {l : List Nat} (h : Nv w b l) (hb : Below w.heap.size w w') : Nv w' b l := (hb.block b h.lt).trans h
theorem Nv.other {w : World} {b d o : Nat} {l : List Nat} (h : Nv w b l) (u : Value) (hne : b ≠ d) : Nv (w.setCell ⟨d, o, none⟩ u) b l := by
  unfold Nv at h ⊢
  rw [← h]
  exact Below.heap_setCell _ _ _ _ (fun e => hne e)
theorem Nv.rws {w : World} {b : Nat} {l : List Nat} (h : Nv w b l) (k : Nat) : Rws shN (fun _ => True) w (some ⟨b, 0, none⟩) (l.take k) := by
  intro hl
  refine ⟨b, 0, rfl, h.lt, trivial, fun j x hx => ⟨[.int .u32 (x : Int)], rfl, fun i u hu => ?_⟩⟩
  match i, hu with
  | i + 1, hu => simp at hu
  | 0, hu =>
    injection hu with hu
    subst hu
    rw [show 0 + (j * shN.sz + 0) = j by show 0 + (j * 1 + 0) = j; omega, cell_of_row w b _ _ _ _ h]
    have hx' : l[j]? = some x := by
      rw [List.getElem?_take] at hx
      split at hx
      · exact hx
      · cases hx
    simpa using nvs_at hx'
/-- Where a report's numbers lie: the first k of an array. -/
abbrev plA (b k : Nat) : Pl := { pl0 with an := some ⟨b, 0, none⟩, nn := k, cn := 12 }
theorem Nv.pw {w : World} {b : Nat} {l : List Nat} (h : Nv w b l) (hl : l.length = 12) (k : Nat) (hk : k ≤ 12) : Pw w (repP (l.take k)) (plA b k) :=
  ⟨rfl, Rws.nilO, rfl, Rd.nil, rfl, Rd.nil, rfl, Rd.nil, by show (l.take k).length = k; rw [List.length_take]; omega, h.rws k, Nat.le_refl _, Nat.le_refl _, Nat.le_refl _⟩
theorem Nv.pw12 {w : World} {b : Nat} {l : List Nat} (h : Nv w b l) (hl : l.length = 12) : Pw w (repP l) (plA b 12) := by
  have := h.pw hl 12 (Nat.le_refl _)
  rw [List.take_of_length_le (by omega)] at this
  exact this
end Go.Proofs.Ytppblnpcbiochaa
