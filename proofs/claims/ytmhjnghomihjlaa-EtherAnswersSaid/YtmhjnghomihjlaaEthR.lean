
/-
  What the document's right, unique and Answers of layer 22 answer. No condition beyond: at most 2^38 tags.
-/
import Derived.Test.YtmhjnghomihjlaaEthO
import Derived.Test.YtmhjnghomihjlaaGWord
namespace Go.Proofs.Ytmhjnghomihjlaa
set_option maxRecDepth 4000
open Go.RowKit
/-- Has a tag the unique type? -/
def isU (o : Nat × List Nat) : Bool := o.1 == 259
theorem euniq_u (l : List (Nat × List Nat)) : euniq l = (l.find? isU).map fun o => o.2 := rfl
theorem eufind_at {l : List (Nat × List Nat)} {f : Nat × List Nat → Bool} {k : Nat} {x : Nat × List Nat} (h : (l.take k).find? f = none) (hx : l[k]? = some x) (hf : f x = true) : l.find? f = some x := by
  have hk := (List.getElem?_eq_some_iff.1 hx).1
  have e : l = l.take k ++ x :: l.drop (k + 1) := by
    have e1 : l.drop k = x :: l.drop (k + 1) := by
      rw [List.drop_eq_getElem_cons hk, (List.getElem?_eq_some_iff.1 hx).2]
    rw [← e1, List.take_append_drop]
  rw [e, List.find?_append, h, Option.none_or, List.find?_cons_of_pos hf]
theorem eufind_more {l : List (Nat × List Nat)} {f : Nat × List Nat → Bool} {k : Nat} {x : Nat × List Nat} (h : (l.take k).find? f = none) (hx : l[k]? = some x) (hf : f x = false) : (l.take (k + 1)).find? f = none := by
  rw [List.take_add_one, hx, Option.toList_some, List.find?_append, h, Option.none_or]
  simp [hf]
/-- What unique answers. -/
def UnR (l : List (Nat × List Nat)) (w : World) (e : Ending) (w' : World) : Prop :=
  Below w.heap.size w w' ∧ ((euniq l = none ∧ e = .returned (.tuple #[.string ⟨#[]⟩, .bool false])) ∨ ∃ x, euniq l = some x ∧ e = .returned (.tuple #[.string (strOfNums (nums x)), .bool true]))

theorem euniq_by {l : List (Nat × List Nat)} {x : List Nat} (h : euniq l = some x) (hl : ByG l) : By x := by
  rw [euniq_u] at h
  obtain ⟨o, ho, rfl⟩ := Option.map_eq_some_iff.1 h
  exact (hl o (List.mem_of_find?_eq_some ho)).2

/-- A call's two frames. -/
structure TwF (T : TypeId) (w W : World) (f g : Fr) (q r : Fl) : Prop where
  bel : Below w.heap.size w W
  x : Fx W w.heap.size T f q
  y : Fx W (w.heap.size + 1) T g r
theorem TwF.made (T : TypeId) (w : World) (f g : Fr) (q r : Fl) : TwF T w ((w.alloc (f.obj q T)).alloc (g.obj r T)) f g q r := by
  have e1 : (w.alloc (f.obj q T)).heap.size = w.heap.size + 1 := World.size_alloc _ _
  refine ⟨belowP_two w _ _, heap_alloc2_old w _ _, ?_⟩
  have := fx_new (w.alloc (f.obj q T)) T g r
  rw [e1] at this
  exact this
theorem TwF.step {T : TypeId} {w W W' : World} {f g : Fr} {q r : Fl} (h : TwF T w W f g q r) (hb : Below W.heap.size W W') : TwF T w W' f g q r := ⟨h.bel.trans (hb.mono h.bel.size), h.x.below hb, h.y.below hb⟩

end Go.Proofs.Ytmhjnghomihjlaa
