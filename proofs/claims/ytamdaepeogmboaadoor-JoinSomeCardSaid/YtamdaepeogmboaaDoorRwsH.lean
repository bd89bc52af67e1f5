
/-
  Arguments that are slices of slices of bytes, and slices of bools, opened. No condition.
-/
import Derived.Test.YtamdaepeogmboaaDoorRowk
import Derived.WalkKit
import Derived.OpenShut
import Derived.Deep.Matrix
import Derived.ProofKit
import Derived.ShutString
import Derived.ChangeOld
import Derived.Deep.Fields
namespace Go.Proofs.YtamdaepeogmboaaDoor
set_option maxRecDepth 4000
open Go.ChangeShapes Go.WideShapes Go.ChangeAt Go.RowKit Go.Deep

/-- What the walk is told of a slice of slices of bytes. -/
structure IsRwsB (w : World) (a : Option Addr) (len cap : Nat) (l : List (List Nat)) : Prop where
  nl : l.length = len
  nc : len ≤ cap
  by_ : ∀ x ∈ l, By x
  rd : Rws shB (fun _ => True) w a l
/-- Bools as elements. -/
def shBo : Sh Bool where
  sz := 1
  S _ _ x cs := cs = [.bool x]
  len := by rintro _ _ _ _ rfl; rfl
  one := by rintro _ _ _ _ rfl u hu; simp at hu; subst hu; rfl
  keep := by rintro _ _ _ _ _ h _; exact h
  mono := by rintro _ _ _ _ _ h _; exact h
structure IsBos (w : World) (a : Option Addr) (len cap : Nat) (l : List Bool) : Prop where
  nl : l.length = len
  nc : len ≤ cap
  rd : Rws shBo (fun _ => True) w a l
theorem Rws.bo {F : Nat → Prop} {w : World} {A : Option Addr} {xs : List Bool} (h : Rws shBo F w A xs) {k : Nat} (hk : k < xs.length) : ∃ b off x, A = some ⟨b, off, none⟩ ∧ b < w.heap.size ∧ xs[k]? = some x ∧ w.cell? ⟨b, off + k, none⟩ = some (.bool x) := by
  obtain ⟨b, off, x, cs, h1, h2, h3, rfl, h6⟩ := h.at_ hk
  have h7 := h6 0 _ rfl
  rw [show k * shBo.sz + 0 = k by show k * 1 + 0 = k; omega] at h7
  exact ⟨b, off, x, h1, h2, h3, h7⟩
theorem Rws.rw_ {F : Nat → Prop} {w : World} {A : Option Addr} {xs : List (List Nat)} (h : Rws shB F w A xs) {k : Nat} (hk : k < xs.length) : ∃ b off x Ak ck, A = some ⟨b, off, none⟩ ∧ b < w.heap.size ∧ xs[k]? = some x ∧ w.cell? ⟨b, off + k, none⟩ = some (.slice Ak x.length ck) ∧ x.length ≤ ck ∧ RdF F w Ak x := by
  obtain ⟨b, off, x, cs, h1, h2, h3, ⟨Ak, ck, rfl, h4, h5⟩, h6⟩ := h.at_ hk
  have h7 := h6 0 _ rfl
  rw [show k * shB.sz + 0 = k by show k * 1 + 0 = k; omega] at h7
  exact ⟨b, off, x, Ak, ck, h1, h2, h3, h7, h4, h5⟩

theorem rwh_c1 : Tryd.prog.cellsOf 30 = 1 := by kernel_rfl
theorem rwh_c2 : Tryd.prog.cellsOf 5 = 1 := by kernel_rfl
theorem rwh_c3 : Tryd.prog.cellsOf 4 = 1 := by kernel_rfl
theorem rwh_add (b off k : Nat) : (Addr.add ⟨b, off, none⟩ k) = ⟨b, off + k, none⟩ := by
  by_cases h0 : k = 0
  · subst h0; simp [Addr.add]
  · simp [Addr.add, h0]
set_option maxRecDepth 8000 in
theorem open_rwsb {H : Type} {enc : TypeId × Value → H} {w : World} {base : Nat} {held : Bool} {r : Reach} {b0 : Nat} {v : Value} {d : DataW H} {p : List MemPlace}
    (hv0 : Value.okWide Tryd.prog w r b0 53 v) (h : DataW.Trod enc Tryd.prog w base (fun _ => true) held 53 v d p) :
    ∃ a len cap l, v = .slice a len cap ∧ IsRwsB w a len cap l := by
  obtain ⟨a, len, cap, rfl⟩ := okWide_slice Tryd.underlying53 hv0
  obtain ⟨fuel, hf⟩ := h
  rcases open_int_rows Tryd.underlying53 Tryd.underlying30 Tryd.underlying5 rwh_c1 rwh_c2 hf with ⟨hcs, _⟩ | ⟨x, l, c, AA, LL, CC, ZZ, hcs, _, hl, hm, _, hrow⟩
  · simp [Value.cells] at hcs
    obtain ⟨rfl, rfl, rfl⟩ := hcs
    exact ⟨_, _, _, [], rfl, rfl, Nat.le_refl _, (fun _ h => by cases h), Rws.nil⟩
  · simp [Value.cells] at hcs
    obtain ⟨rfl, rfl, rfl⟩ := hcs
    have each : ∀ r, r < len → ∃ l : List Nat, l.length = LL r ∧ By l ∧ Rd w w.heap.size (AA r) l := by
      intro r hr'
      obtain ⟨_, g1, g2, g3, g4, g5, g6⟩ := hrow r (by omega)
      exact rowBytes (w := w) (a := AA r) (len := LL r) (cap := CC r) (zs := ZZ r) (by
        cases hAr : AA r with
        | none =>
          have h0 := g5 hAr
          exact .inl ⟨rfl, by omega, h0, List.eq_nil_of_length_eq_zero (by omega)⟩
        | some x => exact .inr ⟨x, rfl, g1, g2, g3, fun i hi => (g6 x hAr).2 i (by omega), g4⟩)
    obtain ⟨f, hf'⟩ := choose_lt each
    refine ⟨_, _, _, (List.range len).map f, rfl, by simp, hl, ?_, ?_⟩
    · intro o ho
      obtain ⟨i, hi', rfl⟩ := List.mem_map.1 ho
      exact (hf' i (List.mem_range.1 hi')).2.1
    · intro hpos
      rw [List.length_map, List.length_range] at hpos
      obtain ⟨b, off, spot⟩ := x
      have h0 := (hrow 0 (by omega)).1
      have hsp : spot = none := by simpa [Addr.add] using World.cell?_spot h0
      subst hsp
      refine ⟨b, off, rfl, by simpa [Addr.add] using block_lt h0, trivial, fun k o hk => ?_⟩
      rw [List.getElem?_map] at hk
      obtain ⟨r', hr', rfl⟩ := Option.map_eq_some_iff.1 hk
      have hkl : k < len := by have := (List.getElem?_eq_some_iff.1 hr').1; simpa using this
      rw [List.getElem?_range hkl] at hr'
      injection hr' with hr'
      subst hr'
      obtain ⟨g1, g2, g3⟩ := hf' k hkl
      obtain ⟨e1, e2, _⟩ := hrow k (by omega)
      refine ⟨_, ⟨AA k, CC k, rfl, by rw [g1]; exact e2, g3.rdF (fun _ _ => trivial) (Nat.le_refl _)⟩, fun j u hu => ?_⟩
      have hj : j = 0 := by have := (List.getElem?_eq_some_iff.1 hu).1; simp at this; exact this
      subst hj
      injection hu with hu
      subst hu
      rw [rwh_add] at e1
      rw [g1]
      show w.cell? ⟨b, off + (k * 1 + 0), none⟩ = _
      rw [Nat.mul_one, Nat.add_zero]
      exact e1
set_option maxRecDepth 8000 in
theorem open_bos {H : Type} {enc : TypeId × Value → H} {w : World} {base : Nat} {held : Bool} {r : Reach} {b0 : Nat} {v : Value} {d : DataW H} {p : List MemPlace}
    (hv0 : Value.okWide Tryd.prog w r b0 62 v) (h : DataW.Trod enc Tryd.prog w base (fun _ => true) held 62 v d p) :
    ∃ a len cap l, v = .slice a len cap ∧ IsBos w a len cap l := by
  obtain ⟨a, len, cap, rfl⟩ := okWide_slice Tryd.underlying62 hv0
  obtain ⟨fuel, hf⟩ := h
  rcases open_slice1 Tryd.underlying62 rwh_c3 hf with ⟨hcs, _⟩ | ⟨x, l, c, m, n, V, D, Pl, hcs, _, hl, hm, hmm, _, hrow⟩
  · simp [Value.cells] at hcs
    obtain ⟨rfl, rfl, rfl⟩ := hcs
    exact ⟨_, _, _, [], rfl, rfl, Nat.le_refl _, Rws.nil⟩
  · simp [Value.cells] at hcs
    obtain ⟨rfl, rfl, rfl⟩ := hcs
    simp only [if_true] at hmm
    have each : ∀ r, r < len → ∃ o : Bool, w.cell? (x.add r) = some (.bool o) := by
      intro r hr'
      obtain ⟨g1, g2⟩ := hrow r (by omega)
      obtain ⟨o, e0, _⟩ := DataW.trod_bool Tryd.underlying4 g2
      injection e0 with e0
      exact ⟨o, by rw [g1, e0]⟩
    obtain ⟨f, hf'⟩ := choose_lt each
    refine ⟨_, _, _, (List.range len).map f, rfl, by simp, hl, ?_⟩
    intro hpos
    rw [List.length_map, List.length_range] at hpos
    obtain ⟨b, off, spot⟩ := x
    have h0 := hf' 0 hpos
    have hsp : spot = none := by simpa [Addr.add] using World.cell?_spot h0
    subst hsp
    refine ⟨b, off, rfl, by simpa [Addr.add] using block_lt h0, trivial, fun k o hk => ?_⟩
    rw [List.getElem?_map] at hk
    obtain ⟨r', hr', rfl⟩ := Option.map_eq_some_iff.1 hk
    have hkl : k < len := by have := (List.getElem?_eq_some_iff.1 hr').1; simpa using this
    rw [List.getElem?_range hkl] at hr'
    injection hr' with hr'
    subst hr'
    refine ⟨_, rfl, fun j u hu => ?_⟩
    have hj : j = 0 := by have := (List.getElem?_eq_some_iff.1 hu).1; simp at this; exact this
    subst hj
    injection hu with hu
    subst hu
    have e1 := hf' k hkl
    rw [rwh_add] at e1
    show w.cell? ⟨b, off + (k * 1 + 0), none⟩ = _
    rw [Nat.mul_one, Nat.add_zero]
    exact e1
end Go.Proofs.YtamdaepeogmboaaDoor
