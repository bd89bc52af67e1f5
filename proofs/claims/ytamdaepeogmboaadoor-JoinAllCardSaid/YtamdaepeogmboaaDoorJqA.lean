
/-
  The program's add of layer 24: a piece is joined to the packet. No condition beyond: sizes below 2^30.
-/
import Derived.Test.YtamdaepeogmboaaDoorJqG
namespace Go.Proofs.YtamdaepeogmboaaDoor
set_option maxRecDepth 4000
open Go.RowKit Go.Maps

abbrev evV (k : Int) (A : Option Addr) (n c : Nat) (f m : Int) : Value := .agg #[.int .i64 k, .slice A n c, .int .i64 f, .int .i64 m]
/-- An event in a block. -/
def EvX (w : World) (g : Nat) (k : Int) (A : Option Addr) (n c : Nat) (f m : Int) : Prop := w.heap[g]? = some (.cells #[.int .i64 k, .slice A n c, .int .i64 f, .int .i64 m] 59 (0, 0))
section
variable {w w' : World} {g : Nat} {k f m : Int} {A : Option Addr} {n c : Nat}
theorem EvX.lt (h : EvX w g k A n c f m) : g < w.heap.size := (Array.getElem?_eq_some_iff.1 h).1
theorem EvX.c0 (h : EvX w g k A n c f m) : w.cell? ⟨g, 0, none⟩ = some (.int .i64 k) := by rw [cell_of_row w g _ _ _ _ h]; rfl
theorem EvX.c1 (h : EvX w g k A n c f m) : w.cell? ⟨g, 1, none⟩ = some (.slice A n c) := by rw [cell_of_row w g _ _ _ _ h]; rfl
theorem EvX.c2 (h : EvX w g k A n c f m) : w.cell? ⟨g, 2, none⟩ = some (.int .i64 f) := by rw [cell_of_row w g _ _ _ _ h]; rfl
theorem EvX.c3 (h : EvX w g k A n c f m) : w.cell? ⟨g, 3, none⟩ = some (.int .i64 m) := by rw [cell_of_row w g _ _ _ _ h]; rfl
theorem EvX.fz (h : EvX w g k A n c f m) (i : Nat) : w.frozen? ⟨g, i, none⟩ = false := frozen_of_row w g i _ _ h
theorem EvX.new (w : World) (k : Int) (A : Option Addr) (n c : Nat) (f m : Int) : EvX (w.alloc (.cells #[.int .i64 k, .slice A n c, .int .i64 f, .int .i64 m] 59 (0, 0))) w.heap.size k A n c f m := heap_alloc_new _ _
theorem EvX.off {X : Nat → Prop} (h : EvX w g k A n c f m) (ho : Offs X w w') (hX : ¬ X g) : EvX w' g k A n c f m := (ho.block g h.lt hX).trans h
theorem EvX.put (h : EvX w g k A n c f m) (k' : Int) (A' : Option Addr) (n' c' : Nat) (f' m' : Int) : EvX ((((w.setCell ⟨g, 0, none⟩ (.int .i64 k')).setCell ⟨g, 1, none⟩ (.slice A' n' c')).setCell ⟨g, 2, none⟩ (.int .i64 f')).setCell ⟨g, 3, none⟩ (.int .i64 m')) g k' A' n' c' f' m' := by
  have s0 : EvX _ g k' A n c f m := heap_setCell_same w g 0 _ _ (.int .i64 k') h
  have s1 : EvX _ g k' A' n' c' f m := heap_setCell_same _ g 1 _ _ (.slice A' n' c') s0
  have s2 : EvX _ g k' A' n' c' f' m := heap_setCell_same _ g 2 _ _ (.int .i64 f') s1
  exact heap_setCell_same _ g 3 _ _ (.int .i64 m') s2
theorem FrX.offJ {X : Nat → Prop} {T : TypeId} {bb e : Bool} {x : Int} (h : FrX w g T bb e x A n c) (ho : Offs X w w') (hX : ¬ X g) : FrX w' g T bb e x A n c := (ho.block g h.lt hX).trans h
theorem RdF.blk {F : Nat → Prop} {l : List Nat} (h : RdF F w A l) : RdF (fun i => F i ∧ ∃ o, A = some ⟨i, o, none⟩) w A l := fun hl => by
  obtain ⟨b, off, h1, h2, h3, h4⟩ := h hl
  exact ⟨b, off, h1, h2, ⟨h3, off, h1⟩, h4⟩
end
/-- Where what is told lies: it is the joiner's own no more. -/
def Fo (b : Nat) (q0 : Jq) (w0 : World) (q : Jq) (i : Nat) : Prop := ¬ q.own b i ∧ (q0.own b i ∨ w0.heap.size ≤ i)
/-- What add answers: an event that is told now, or none. -/
def Ado (F : Nat → Prop) (w : World) (t t' : List Ev) (e : Ending) : Prop :=
  (t' = t ∧ e = .returned (.tuple #[evV 0 none 0 0 0 0, .bool false])) ∨ ∃ x A c, t' = t ++ [x] ∧ e = .returned (.tuple #[evV x.k A x.d.length c x.f x.m, .bool true]) ∧ x.d.length ≤ c ∧ RdF F w A x.d
/-- Its data grow. -/
theorem Pw.grow {W w' : World} {b : Nat} {j : Jn} {q : Jq} {ol : List Int} {m N : Nat} {v' : Value} {d : List Nat} (h : Pw W b j q ol) (hown : w'.ownsRow 0 5 1 v' N (bvs j.data ++ bvs d)) (hg : W.grownBy w' q.dv.ownBlock) (hm : Mv W.heap.size q.dv v') (hl : d.length = m) (hN : q.dn + m = N) :
    ∃ A c, v' = .slice A N c ∧ Px w' b j q ∧ Pw (w'.setCell ⟨b, 8, none⟩ (.slice A N c)) b { j with data := j.data ++ d } { q with da := A, dn := N, dc := c } ol ∧ Ps b q W { q with da := A, dn := N, dc := c } (w'.setCell ⟨b, 8, none⟩ (.slice A N c)) := by
  subst hN
  obtain ⟨A, c, rfl, -, -⟩ := own_shape hown
  have hO : Offs (fun i => q.dv.ownBlock = some i) W w' := .of_grown hg fun _ h => h
  have nd : ∀ i, q.dv.ownBlock = some i → q.own b i := fun i e => .inr (.inr (.inr (.inr e)))
  have h1 : Px w' b j q := h.px.off hO h.dv_b
  have hmp : ∀ g, W.heap.size ≤ g → Mq (fun i => (¬ q.own b i ∧ q.fr i) ∧ i ≠ g) w' q.mb q.mn j.most j.wait := fun g hg' =>
    (h.mp.mono (G := fun i => (¬ q.own b i ∧ q.fr i) ∧ i ≠ g) fun i hi hn => ⟨hn, by omega⟩).off hO h.dv_mb fun i hi e => hi.1.1 (nd i e)
  have hmp0 : Mq (fun i => ¬ q.own b i ∧ q.fr i) w' q.mb q.mn j.most j.wait := h.mp.off hO h.dv_mb fun i hi e => hi.1 (nd i e)
  have hlk := (hO.block _ (Array.getElem?_eq_some_iff.1 h.lk).1 h.dv_lb).trans h.lk
  have hod := h.od.off hO fun g hg e => h.dv_ov e hg
  have ho : Offs (fun i => i = b) w' (w'.setCell ⟨b, 8, none⟩ (.slice A (q.dn + m) c)) := Offs.set w' b 8 _ rfl
  have hall : Offs (q.own b) W (w'.setCell ⟨b, 8, none⟩ (.slice A (q.dn + m) c)) := hO.trans ho (fun i e => nd i e) (fun i _ e => .inl e)
  have hown' : w'.ownsRow 0 5 1 (.slice A (q.dn + m) c) (q.dn + m) (bvs (j.data ++ d)) := by
    have : bvs (j.data ++ d) = bvs j.data ++ bvs d := by simp [bvs]
    rw [this]; exact hown
  have hn : ∀ g, (Value.slice A (q.dn + m) c).ownBlock = some g → ¬ q.own b g ∧ W.heap.size ≤ g ∨ q.dv.ownBlock = some g := fun g e => (hm g e).elim .inr fun hge => .inl ⟨h.new hge, hge⟩
  refine ⟨A, c, rfl, h1, ⟨h1.s8 A (q.dn + m) c, (ho.block _ (Array.getElem?_eq_some_iff.1 hlk).1 h.lb_b).trans hlk, ?_, hod.off ho (fun g hg e => h.ov_b (by rw [hg, e])), h.sr, own_off hown' ho (fun g hg e => ?_), by show (j.data ++ d).length = _; rw [List.length_append, h.dl, hl], h.ap⟩, hall, fun i hi => ?_⟩
  · have mv : ∀ {F : Nat → Prop}, Mq F w' q.mb q.mn j.most j.wait → (∀ i, F i → (¬ q.own b i ∧ q.fr i) ∧ (Value.slice A (q.dn + m) c).ownBlock ≠ some i) → Mq (fun i => ¬ Jq.own b { q with da := A, dn := q.dn + m, dc := c } i ∧ q.fr i) (w'.setCell ⟨b, 8, none⟩ (.slice A (q.dn + m) c)) q.mb q.mn j.most j.wait := fun hm hF =>
      (hm.mono (G := fun i => (¬ q.own b i ∧ q.fr i) ∧ (Value.slice A (q.dn + m) c).ownBlock ≠ some i) fun i _ hf => hF i hf).off ho h.mb_b (fun i hi e => hi.1.1 (.inl e)) |>.mono fun i _ hi => by
        refine ⟨?_, hi.1.2⟩
        rintro (e | e | e | e | e)
        · exact hi.1.1 (.inl e)
        · exact hi.1.1 (.inr (.inl e))
        · exact hi.1.1 (.inr (.inr (.inl e)))
        · exact hi.1.1 (.inr (.inr (.inr (.inl e))))
        · exact hi.2 e
    cases hA : (Value.slice A (q.dn + m) c).ownBlock with
    | none => exact mv hmp0 fun i hi => ⟨hi, by rw [hA]; intro e; cases e⟩
    | some g =>
      rcases hn g hA with ⟨h1, h2⟩ | h1
      · exact mv (hmp g h2) fun i hi => ⟨hi.1, by rw [hA]; exact fun e => hi.2 (Option.some.inj e).symm⟩
      · exact mv hmp0 fun i hi => ⟨hi, by rw [hA]; exact fun e => hi.1 (nd i (by rw [h1, e]))⟩
  · subst e
    obtain ⟨cur, hc⟩ := own_blk hown' hg
    exact h1.ne hc (by decide) rfl
  · rcases hi with e | e | e | e | e
    · exact .inl (.inl e)
    · exact .inl (.inr (.inl e))
    · exact .inl (.inr (.inr (.inl e)))
    · exact .inl (.inr (.inr (.inr (.inl e))))
    · exact (hm i e).elim (fun e => .inl (nd i e)) .inr
end Go.Proofs.YtamdaepeogmboaaDoor
