
/-
  Pieces as elements of a row: four cells. No condition.
-/
import Derived.Test.YtamdaepeogmboaaDoorRowk
import Derived.Test.YtamdaepeogmboaaDoorCat
import Derived.Test.YtamdaepeogmboaaDoorFrgM
namespace Go.Proofs.YtamdaepeogmboaaDoor
set_option maxRecDepth 4000
open Go.RowKit

/-- A piece as a value. -/
abbrev fV (b e : Bool) (x : Int) (A : Option Addr) (n c : Nat) : Value := .agg #[.bool b, .bool e, .int .i64 x, .slice A n c]
/-- A piece in a block of its own. -/
def FrX (w : World) (g : Nat) (T : TypeId) (b e : Bool) (x : Int) (A : Option Addr) (n c : Nat) : Prop := w.heap[g]? = some (.cells #[.bool b, .bool e, .int .i64 x, .slice A n c] T (0, 0))
section
variable {w w' : World} {g : Nat} {T : TypeId} {b e : Bool} {x : Int} {A : Option Addr} {n c : Nat}
theorem FrX.lt (h : FrX w g T b e x A n c) : g < w.heap.size := (Array.getElem?_eq_some_iff.1 h).1
theorem FrX.c0 (h : FrX w g T b e x A n c) : w.cell? ⟨g, 0, none⟩ = some (.bool b) := by rw [cell_of_row w g 0 _ _ _ h]; rfl
theorem FrX.c1 (h : FrX w g T b e x A n c) : w.cell? ⟨g, 1, none⟩ = some (.bool e) := by rw [cell_of_row w g 1 _ _ _ h]; rfl
theorem FrX.c2 (h : FrX w g T b e x A n c) : w.cell? ⟨g, 2, none⟩ = some (.int .i64 x) := by rw [cell_of_row w g 2 _ _ _ h]; rfl
theorem FrX.c3 (h : FrX w g T b e x A n c) : w.cell? ⟨g, 3, none⟩ = some (.slice A n c) := by rw [cell_of_row w g 3 _ _ _ h]; rfl
theorem FrX.fz (h : FrX w g T b e x A n c) (k : Nat) : w.frozen? ⟨g, k, none⟩ = false := frozen_of_row w g k _ _ h
theorem FrX.new (w : World) (T : TypeId) (b e : Bool) (x : Int) (A : Option Addr) (n c : Nat) : FrX (w.alloc (.cells #[.bool b, .bool e, .int .i64 x, .slice A n c] T)) w.heap.size T b e x A n c := heap_alloc_new _ _
theorem FrX.on (h : FrX w g T b e x A n c) (hb : Below w.heap.size w w') : FrX w' g T b e x A n c := (hb.block g h.lt).trans h
theorem FrX.s0 (h : FrX w g T b e x A n c) (u : Bool) : FrX (w.setCell ⟨g, 0, none⟩ (.bool u)) g T u e x A n c := heap_setCell_same _ g 0 _ _ _ h
theorem FrX.s1 (h : FrX w g T b e x A n c) (u : Bool) : FrX (w.setCell ⟨g, 1, none⟩ (.bool u)) g T b u x A n c := heap_setCell_same _ g 1 _ _ _ h
theorem FrX.s2 (h : FrX w g T b e x A n c) (u : Int) : FrX (w.setCell ⟨g, 2, none⟩ (.int .i64 u)) g T b e u A n c := heap_setCell_same _ g 2 _ _ _ h
theorem FrX.s3 (h : FrX w g T b e x A n c) (D : Option Addr) (m d : Nat) : FrX (w.setCell ⟨g, 3, none⟩ (.slice D m d)) g T b e x D m d := heap_setCell_same _ g 3 _ _ _ h
theorem FrX.put (h : FrX w g T b e x A n c) (b' e' : Bool) (x' : Int) (D : Option Addr) (m d : Nat) : FrX ((((w.setCell ⟨g, 0, none⟩ (.bool b')).setCell ⟨g, 1, none⟩ (.bool e')).setCell ⟨g, 2, none⟩ (.int .i64 x')).setCell ⟨g, 3, none⟩ (.slice D m d)) g T b' e' x' D m d := (((h.s0 b').s1 e').s2 x').s3 D m d
end

/-- Pieces as elements. -/
def shF : Sh Pc where
  sz := 4
  S F w x cs := ∃ A c, cs = [.bool x.b, .bool x.e, .int .i64 x.n, .slice A x.d.length c] ∧ x.d.length ≤ c ∧ RdF F w A x.d
  len := by rintro _ _ _ _ ⟨A, c, rfl, _⟩; rfl
  one := by rintro _ _ _ _ ⟨A, c, rfl, _⟩ u hu; simp at hu; rcases hu with rfl | rfl | rfl | rfl <;> rfl
  keep := by rintro _ _ _ _ _ ⟨A, c, h1, h2, h3⟩ hk; exact ⟨A, c, h1, h2, h3.keep hk⟩
  mono := by rintro _ _ _ _ _ ⟨A, c, h1, h2, h3⟩ hF; exact ⟨A, c, h1, h2, h3.mono hF⟩

/-- A piece of a slice of pieces. -/
theorem Rws.pc {F : Nat → Prop} {w : World} {A : Option Addr} {l : List Pc} (h : Rws shF F w A l) {k : Nat} (hk : k < l.length) :
    ∃ b off p Ak ck, A = some ⟨b, off, none⟩ ∧ b < w.heap.size ∧ l[k]? = some p ∧ w.cell? ⟨b, off + k * 4, none⟩ = some (.bool p.b) ∧ w.cell? ⟨b, off + k * 4 + 1, none⟩ = some (.bool p.e) ∧ w.cell? ⟨b, off + k * 4 + 2, none⟩ = some (.int .i64 p.n) ∧ w.cell? ⟨b, off + k * 4 + 3, none⟩ = some (.slice Ak p.d.length ck) ∧ p.d.length ≤ ck ∧ RdF F w Ak p.d := by
  obtain ⟨b, off, p, cs, h1, h2, h3, ⟨Ak, ck, rfl, h4, h5⟩, h6⟩ := h.at_ hk
  exact ⟨b, off, p, Ak, ck, h1, h2, h3, h6 0 _ rfl, h6 1 _ rfl, h6 2 _ rfl, h6 3 _ rfl, h4, h5⟩
/-- One piece in a new block. -/
theorem litf {F : Nat → Prop} (w : World) {T : TypeId} {A : Option Addr} {n c : Nat} {b e : Bool} {x : Int} {l : List Nat} (hl : l.length = n) (hc : n ≤ c) (h : RdF F w A l) :
    Orw shF T F w.heap.size (w.alloc (.cells #[.bool b, .bool e, .int .i64 x, .slice A n c] T)) (.slice (some ⟨w.heap.size, 0, none⟩) 1 1) [⟨b, e, x, l⟩] := by
  subst hl
  refine Orw.lit w [[.bool b, .bool e, .int .i64 x, .slice A l.length c]] rfl (fun k y cs hx hk => ?_) (by simp)
  rcases k with _ | k
  · injection hx with hx
    injection hk with hk
    subst hx; subst hk
    exact ⟨A, c, rfl, hc, h⟩
  · simp at hx
theorem Rws.nilF {F : Nat → Prop} {w : World} {A : Option Addr} : Rws shF F w A [] := fun h => absurd h (by simp)
theorem fr_info : (Tryd.prog.info? 50).map (fun i => (i.zero, i.size, i.bytes)) = some (some (.agg #[.bool false, .bool false, .int .i64 0, .slice none 0 0]), 4, 40) := by kernel_rfl
theorem rfr_info : (Tryd.prog.info? 37).map (fun i => (i.zero, i.size, i.bytes)) = some (some (.agg #[.bool false, .bool false, .int .i64 0, .slice none 0 0]), 4, 40) := by kernel_rfl

theorem flat_setF {α : Type} {sz : Nat} : ∀ {css : List (List α)} {k j : Nat} {cs : List α} {u : α}, (∀ cs ∈ css, cs.length = sz) → css[k]? = some cs → j < sz → (css.set k (cs.set j u)).flatten = css.flatten.set (k * sz + j) u
  | [], _, _, _, _, _, h, _ => by simp at h
  | c :: t, 0, j, cs, u, hl, h, hj => by
    injection h with h
    subst h
    have hc := hl c (List.mem_cons_self ..)
    rw [List.set_cons_zero, List.flatten_cons, List.flatten_cons, Nat.zero_mul, Nat.zero_add, List.set_append_left _ _ (by omega)]
  | c :: t, k + 1, j, cs, u, hl, h, hj => by
    have hc := hl c (List.mem_cons_self ..)
    rw [List.set_cons_succ, List.flatten_cons, List.flatten_cons, List.set_append_right _ _ (by rw [Nat.add_mul]; omega), show (k + 1) * sz + j - c.length = k * sz + j by rw [Nat.add_mul]; omega]
    rw [flat_setF (fun cs hcs => hl cs (List.mem_cons_of_mem _ hcs)) (by simpa using h) hj]

/-- A cell of an own row of pieces is written: the row with that piece turned. -/
theorem Orw.setF {T : TypeId} {F : Nat → Prop} {B : Nat} {w : World} {g n c k j : Nat} {xs : List Pc} {p p' : Pc} {u : Value} (h : Orw shF T F B w (.slice (some ⟨g, 0, none⟩) n c) xs) (hk : xs[k]? = some p) (hj : j < 4)
    (hp : ∀ cs, shF.S (fun b => F b ∧ (Value.slice (some ⟨g, 0, none⟩) n c).ownBlock ≠ some b) (w.setCell ⟨g, k * 4 + j, none⟩ u) p cs → shF.S (fun b => F b ∧ (Value.slice (some ⟨g, 0, none⟩) n c).ownBlock ≠ some b) (w.setCell ⟨g, k * 4 + j, none⟩ u) p' (cs.set j u)) :
    Orw shF T F B (w.setCell ⟨g, k * 4 + j, none⟩ u) (.slice (some ⟨g, 0, none⟩) n c) (xs.set k p') := by
  obtain ⟨css, e1, e2, e3⟩ := h
  have hall := Orw.all_len e1 e3
  have hkl : k < xs.length := (List.getElem?_eq_some_iff.1 hk).1
  have hkc : k < css.length := by omega
  have hn : n = xs.length := by
    rcases e2.2 with ⟨hv, h0⟩ | ⟨g', cap, cur, hv, _⟩
    · cases hv
    · injection hv
  subst hn
  have hst := (e2.stored (k * 4 + j) u).1
  have hcs := List.getElem?_eq_getElem hkc
  have hK : ∀ (G : Nat → Prop), (∀ b, G b → b ≠ g) → Keeps G w (w.setCell ⟨g, k * 4 + j, none⟩ u) := fun G hG =>
    Keeps.of_offs (Offs.set (X := fun b => b = g) w g (k * 4 + j) u rfl) hG
  have hG0 : ∀ b, (F b ∧ (Value.slice (some ⟨g, 0, none⟩) xs.length c).ownBlock ≠ some b) → b ≠ g := fun b hb e => hb.2 (by rw [e]; rfl)
  refine ⟨css.set k (css[k].set j u), by rw [List.length_set, List.length_set, e1], ?_, fun i y cs hy hc => ?_⟩
  · rw [flat_setF hall hcs hj, List.length_set]
    exact hst
  · by_cases hik : i = k
    · subst hik
      rw [List.getElem?_set_self hkl] at hy
      rw [List.getElem?_set_self hkc] at hc
      injection hy with hy
      injection hc with hc
      subst hy; subst hc
      exact hp _ (shF.keep (e3 i p _ hk hcs) (hK _ hG0))
    · rw [List.getElem?_set_ne (fun e => hik e.symm)] at hy hc
      exact shF.keep (e3 i y cs hy hc) (hK _ hG0)
theorem Orw.setF_b {T : TypeId} {F : Nat → Prop} {B : Nat} {w : World} {g n c k : Nat} {xs : List Pc} {p : Pc} (h : Orw shF T F B w (.slice (some ⟨g, 0, none⟩) n c) xs) (hk : xs[k]? = some p) (u : Bool) :
    Orw shF T F B (w.setCell ⟨g, k * 4 + 0, none⟩ (.bool u)) (.slice (some ⟨g, 0, none⟩) n c) (xs.set k { p with b := u }) :=
  h.setF hk (by omega) (fun _ hs => by obtain ⟨A, c, rfl, h1, h2⟩ := hs; exact ⟨A, c, rfl, h1, h2⟩)
theorem Orw.setF_e {T : TypeId} {F : Nat → Prop} {B : Nat} {w : World} {g n c k : Nat} {xs : List Pc} {p : Pc} (h : Orw shF T F B w (.slice (some ⟨g, 0, none⟩) n c) xs) (hk : xs[k]? = some p) (u : Bool) :
    Orw shF T F B (w.setCell ⟨g, k * 4 + 1, none⟩ (.bool u)) (.slice (some ⟨g, 0, none⟩) n c) (xs.set k { p with e := u }) :=
  h.setF hk (by omega) (fun _ hs => by obtain ⟨A, c, rfl, h1, h2⟩ := hs; exact ⟨A, c, rfl, h1, h2⟩)
theorem Orw.setF_n {T : TypeId} {F : Nat → Prop} {B : Nat} {w : World} {g n c k : Nat} {xs : List Pc} {p : Pc} (h : Orw shF T F B w (.slice (some ⟨g, 0, none⟩) n c) xs) (hk : xs[k]? = some p) (u : Int) :
    Orw shF T F B (w.setCell ⟨g, k * 4 + 2, none⟩ (.int .i64 u)) (.slice (some ⟨g, 0, none⟩) n c) (xs.set k { p with n := u }) :=
  h.setF hk (by omega) (fun _ hs => by obtain ⟨A, c, rfl, h1, h2⟩ := hs; exact ⟨A, c, rfl, h1, h2⟩)
theorem Orw.setF_d {T : TypeId} {F : Nat → Prop} {B : Nat} {w : World} {g n c k : Nat} {xs : List Pc} {p : Pc} (h : Orw shF T F B w (.slice (some ⟨g, 0, none⟩) n c) xs) (hk : xs[k]? = some p) {A : Option Addr} {d : List Nat} {cd : Nat} (hd : d.length ≤ cd) (hr : RdF (fun b => F b ∧ b ≠ g) w A d) :
    Orw shF T F B (w.setCell ⟨g, k * 4 + 3, none⟩ (.slice A d.length cd)) (.slice (some ⟨g, 0, none⟩) n c) (xs.set k { p with d := d }) := by
  refine h.setF hk (by omega) (fun _ hs => ?_)
  obtain ⟨A', c', rfl, h1, h2⟩ := hs
  refine ⟨A, cd, rfl, hd, (hr.keep (Keeps.of_offs (Offs.set (X := fun b => b = g) w g (k * 4 + 3) _ rfl) (fun b hb => hb.2))).mono fun b _ hb => ⟨hb.1, fun e => hb.2 ?_⟩⟩
  have e' : some g = some b := e
  injection e' with e'
  exact e'.symm

/-- Each piece's data are bytes. -/
def ByF (l : List Pc) : Prop := ∀ p ∈ l, By p.d
theorem ByF.at_ {l : List Pc} (h : ByF l) {k : Nat} {p : Pc} (hp : l[k]? = some p) : By p.d := h p (List.mem_of_getElem? hp)
end Go.Proofs.YtamdaepeogmboaaDoor
