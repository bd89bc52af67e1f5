
/-
  slices.Grow on nil, slices.Concat of lists of bytes. No condition beyond: together at most 2^40 octets.
-/
import Derived.Test.YtamdaepeogmboaaDoorOffs
import Derived.Lib.AppendZeros
namespace Go.Proofs.YtamdaepeogmboaaDoor
set_option maxRecDepth 4000
open Go.RowKit

/-- A fact that lay is found later. -/
theorem Rd.on {w w' : World} {A : Option Addr} {l : List Nat} (h : Rd w w.heap.size A l) (hb : Below w.heap.size w w') : Rd w' w'.heap.size A l := (h.below hb).more hb.size

/-- The slice of slices at A leads to lists of bytes that read as ls. -/
def Rr (w : World) (A : Option Addr) (ls : List (List Nat)) : Prop :=
  0 < ls.length → ∃ b off, A = some ⟨b, off, none⟩ ∧ ∀ (k : Nat) (x : List Nat), ls[k]? = some x → ∃ Ak ck, w.cell? ⟨b, off + k, none⟩ = some (.slice Ak x.length ck) ∧ Rd w w.heap.size Ak x
theorem Rr.at_ {w : World} {A : Option Addr} {ls : List (List Nat)} (h : Rr w A ls) {k : Nat} (hk : k < ls.length) : ∃ b off x Ak ck, A = some ⟨b, off, none⟩ ∧ ls[k]? = some x ∧ w.cell? ⟨b, off + k, none⟩ = some (.slice Ak x.length ck) ∧ Rd w w.heap.size Ak x := by
  obtain ⟨b, off, e, hc⟩ := h (by omega)
  obtain ⟨Ak, ck, h2, h3⟩ := hc k _ (List.getElem?_eq_getElem hk)
  exact ⟨b, off, ls[k], Ak, ck, e, List.getElem?_eq_getElem hk, h2, h3⟩
theorem Rr.on {w w' : World} {A : Option Addr} {ls : List (List Nat)} (h : Rr w A ls) (hb : Below w.heap.size w w') : Rr w' A ls := by
  intro hl
  obtain ⟨b, off, rfl, hc⟩ := h hl
  refine ⟨b, off, rfl, fun k x hx => ?_⟩
  obtain ⟨Ak, ck, h2, h3⟩ := hc k x hx
  exact ⟨Ak, ck, (hb.cell (block_lt h2)).trans h2, (h3.below hb).more hb.size⟩
theorem flat_take {ls : List (List Nat)} {k : Nat} {x : List Nat} (h : ls[k]? = some x) : (ls.take (k + 1)).flatten = (ls.take k).flatten ++ x := by
  rw [List.take_add_one, h, Option.toList_some, List.flatten_append]
  simp
theorem flat_le (ls : List (List Nat)) (k : Nat) : (ls.take k).flatten.length ≤ ls.flatten.length := by
  have e : ls.flatten = (ls.take k).flatten ++ (ls.drop k).flatten := by rw [← List.flatten_append, List.take_append_drop]
  rw [e, List.length_append]
  omega

theorem rd_nil {w : World} {B : Nat} {A : Option Addr} {l : List Nat} (h : Rd w B A l) : A = none → l.length = 0 := by
  intro h0
  rcases Nat.eq_zero_or_pos l.length with h1 | h1
  · exact h1
  · obtain ⟨_, _, h2, _⟩ := h h1
    rw [h2] at h0; cases h0
theorem rd_news {w : World} {B : Nat} {A : Option Addr} {l : List Nat} (h : Rd w B A l) : ∀ ad, A = some ad → ∀ j u, (bvs l)[j]? = some u → w.cell? (ad.add j) = some u := by
  intro ad had j u hu
  rw [bvs, List.getElem?_map] at hu
  obtain ⟨x, hx, rfl⟩ := Option.map_eq_some_iff.1 hu
  obtain ⟨b, off, he, _, hc⟩ := h (by have := (List.getElem?_eq_some_iff.1 hx).1; omega)
  rw [he] at had
  injection had with had
  subst had
  have := hc j x hx
  by_cases hj : j = 0
  · subst hj; simpa [Addr.add, bv] using this
  · simpa [Addr.add, hj, bv] using this

theorem rr_tri (w : World) (A A2 A3 : Option Addr) (l l2 l3 : List Nat) (n n2 n3 c c2 c3 : Nat) (T : TypeId) (h : Rd w w.heap.size A l) (h2 : Rd w w.heap.size A2 l2) (h3 : Rd w w.heap.size A3 l3) (e : l.length = n) (e2 : l2.length = n2) (e3 : l3.length = n3) :
    Rr (w.alloc (.cells #[.slice A n c, .slice A2 n2 c2, .slice A3 n3 c3] T)) (some ⟨w.heap.size, 0, none⟩) [l, l2, l3] := by
  subst e; subst e2; subst e3
  intro _
  have hb := (Below.refl w.heap.size w).alloc (Nat.le_refl _) (.cells #[.slice A l.length c, .slice A2 l2.length c2, .slice A3 l3.length c3] T)
  have cell : ∀ k u, (#[.slice A l.length c, .slice A2 l2.length c2, .slice A3 l3.length c3] : Array Value)[k]? = some u → (w.alloc (.cells #[.slice A l.length c, .slice A2 l2.length c2, .slice A3 l3.length c3] T)).cell? ⟨w.heap.size, 0 + k, none⟩ = some u := by
    intro k u hu
    rw [Nat.zero_add, World.cell?_alloc_at _ _ _ _ rfl]
    exact hu
  refine ⟨w.heap.size, 0, rfl, fun k x hx => ?_⟩
  match k, hx with
  | 0, hx => injection hx with hx; subst hx; exact ⟨A, c, cell 0 _ rfl, (h.below hb).more hb.size⟩
  | 1, hx => injection hx with hx; subst hx; exact ⟨A2, c2, cell 1 _ rfl, (h2.below hb).more hb.size⟩
  | 2, hx => injection hx with hx; subst hx; exact ⟨A3, c3, cell 2 _ rfl, (h3.below hb).more hb.size⟩
  | k + 3, hx => simp at hx

end Go.Proofs.YtamdaepeogmboaaDoor
