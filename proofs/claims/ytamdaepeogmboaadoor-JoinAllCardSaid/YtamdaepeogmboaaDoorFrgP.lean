
/-
  What the program's header, Put, value of layer 23 answer. Conditions: the shapes stand as the start-up lays them ('TabF'); data of at most 2^38 octets.
-/
import Derived.Test.YtamdaepeogmboaaDoorFrgT
import Derived.Test.YtamdaepeogmboaaDoorCln
import Derived.Laws.BitsAll
import Derived.OwnWalk
namespace Go.Proofs.YtamdaepeogmboaaDoor
set_option maxRecDepth 4000
open Go.RowKit

theorem fr_make (n : Nat) (hn : n ≤ 1099511627776) (w : World) : ∃ w', (Instr.makeSlice 30 (.int .i64 (n : Int)) (.int .i64 (n : Int))).run Tryd.prog w = .ok (.slice (some ⟨w.heap.size, 0, none⟩) n n) w' ∧ w'.ownsRow w.heap.size 5 1 (.slice (some ⟨w.heap.size, 0, none⟩) n n) n (bvs (List.replicate n 0)) ∧ Below w.heap.size w w' := by
  obtain ⟨i0, hi, hz0, hz1, hz2⟩ := info_parts byte_info
  obtain ⟨w', h1, h2, h3⟩ := run_make_full (P := Tryd.prog) (w := w) w.heap.size 30 5 i0 (.int .u8 0) 1 Tryd.underlying30 hi hz0 hz1 .i64 .i64 n (by rw [hz2]; omega) (by unfold maxLen; omega) (Nat.le_refl _)
  refine ⟨w', h1, ?_, (Below.refl _ _).grown h3 (Nat.le_refl _) (fun k hk => by cases hk)⟩
  rw [← part_zero] at h2
  have e : part [] n 0 = List.replicate n 0 := by unfold part; rw [Nat.sub_zero]; rfl
  rw [e] at h2
  exact h2
theorem bvs_setF (l : List Nat) (k x : Nat) : (bvs l).set k (.int .u8 (x : Int)) = bvs (l.set k x) := by simp [bvs, bv, List.map_set]
theorem fr_set_same {l : List Nat} {k y : Nat} (h : l[k]? = some y) : l.set k y = l := by
  obtain ⟨h1, h2⟩ := List.getElem?_eq_some_iff.1 h
  rw [← h2, List.set_getElem_self]
theorem fr_or128 (y : Nat) (h : y < 16) : bits .or .u8 (y : Int) 128 = ((128 + y : Nat) : Int) := by
  have : y = 0 ∨ y = 1 ∨ y = 2 ∨ y = 3 ∨ y = 4 ∨ y = 5 ∨ y = 6 ∨ y = 7 ∨ y = 8 ∨ y = 9 ∨ y = 10 ∨ y = 11 ∨ y = 12 ∨ y = 13 ∨ y = 14 ∨ y = 15 := by omega
  rcases this with rfl | rfl | rfl | rfl | rfl | rfl | rfl | rfl | rfl | rfl | rfl | rfl | rfl | rfl | rfl | rfl <;> rfl
theorem fr_or64 (y : Nat) (h : y < 16) : bits .or .u8 (y : Int) 64 = ((64 + y : Nat) : Int) := by
  have : y = 0 ∨ y = 1 ∨ y = 2 ∨ y = 3 ∨ y = 4 ∨ y = 5 ∨ y = 6 ∨ y = 7 ∨ y = 8 ∨ y = 9 ∨ y = 10 ∨ y = 11 ∨ y = 12 ∨ y = 13 ∨ y = 14 ∨ y = 15 := by omega
  rcases this with rfl | rfl | rfl | rfl | rfl | rfl | rfl | rfl | rfl | rfl | rfl | rfl | rfl | rfl | rfl | rfl <;> rfl
theorem fr_or192 (y : Nat) (h : y < 16) : bits .or .u8 ((128 + y : Nat) : Int) 64 = ((192 + y : Nat) : Int) := by
  have : y = 0 ∨ y = 1 ∨ y = 2 ∨ y = 3 ∨ y = 4 ∨ y = 5 ∨ y = 6 ∨ y = 7 ∨ y = 8 ∨ y = 9 ∨ y = 10 ∨ y = 11 ∨ y = 12 ∨ y = 13 ∨ y = 14 ∨ y = 15 := by omega
  rcases this with rfl | rfl | rfl | rfl | rfl | rfl | rfl | rfl | rfl | rfl | rfl | rfl | rfl | rfl | rfl | rfl <;> rfl

theorem rr_duo (w : World) (A A2 : Option Addr) (l l2 : List Nat) (n n2 c c2 : Nat) (T : TypeId) (h : Rd w w.heap.size A l) (h2 : Rd w w.heap.size A2 l2) (e : l.length = n) (e2 : l2.length = n2) :
    Rr (w.alloc (.cells #[.slice A n c, .slice A2 n2 c2] T)) (some ⟨w.heap.size, 0, none⟩) [l, l2] := by
  subst e; subst e2
  intro _
  have hb := (Below.refl w.heap.size w).alloc (Nat.le_refl _) (.cells #[.slice A l.length c, .slice A2 l2.length c2] T)
  have cell : ∀ k u, (#[.slice A l.length c, .slice A2 l2.length c2] : Array Value)[k]? = some u → (w.alloc (.cells #[.slice A l.length c, .slice A2 l2.length c2] T)).cell? ⟨w.heap.size, 0 + k, none⟩ = some u := by
    intro k u hu
    rw [Nat.zero_add, World.cell?_alloc_at _ _ _ _ rfl]
    exact hu
  refine ⟨w.heap.size, 0, rfl, fun k x hx => ?_⟩
  match k, hx with
  | 0, hx => injection hx with hx; subst hx; exact ⟨A, c, cell 0 _ rfl, (h.below hb).more hb.size⟩
  | 1, hx => injection hx with hx; subst hx; exact ⟨A2, c2, cell 1 _ rfl, (h2.below hb).more hb.size⟩
  | k + 2, hx => simp at hx

/-- What Put's region knows: its own box, the data. -/
structure FrC (w W : World) (g : Nat) (b e : Bool) (x : Int) (A : Option Addr) (n c : Nat) (l : List Nat) : Prop where
  bel : Below w.heap.size w W
  box : FrX W g 50 b e x A n c
  rd : Rd W W.heap.size A l
  tab : TabF W
theorem FrC.step {w W W' : World} {g : Nat} {b e : Bool} {x : Int} {A : Option Addr} {n c : Nat} {l : List Nat} (h : FrC w W g b e x A n c l) (hb : Below W.heap.size W W') : FrC w W' g b e x A n c l :=
  ⟨h.bel.trans (hb.mono h.bel.size), h.box.on hb, h.rd.on hb, h.tab.below hb⟩
theorem FrC.al {w W : World} {g : Nat} {b e : Bool} {x : Int} {A : Option Addr} {n c : Nat} {l : List Nat} (h : FrC w W g b e x A n c l) (o : Obj) : FrC w (W.alloc o) g b e x A n c l := h.step ((Below.refl _ _).alloc (Nat.le_refl _) o)
theorem FrC.cells {w W : World} {g : Nat} {b e : Bool} {x : Int} {A : Option Addr} {n c : Nat} {l : List Nat} (h : FrC w W g b e x A n c l) :
    W.cell? ⟨g, 0, none⟩ = some (.bool b) ∧ W.cell? ⟨g, 1, none⟩ = some (.bool e) ∧ W.cell? ⟨g, 2, none⟩ = some (.int .i64 x) ∧ W.cell? ⟨g, 3, none⟩ = some (.slice A n c) := ⟨h.box.c0, h.box.c1, h.box.c2, h.box.c3⟩

end Go.Proofs.YtamdaepeogmboaaDoor
