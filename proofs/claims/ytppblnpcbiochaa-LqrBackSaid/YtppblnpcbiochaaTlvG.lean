
/-
  What Get answers, the program's and the document's. No condition beyond: at most 2^30 octets.
-/
import Derived.Test.YtppblnpcbiochaaTlvU
import Derived.Test.YtppblnpcbiochaaCln
namespace Go.Proofs.Ytppblnpcbiochaa
open Go.RowKit

theorem opt_info : (Try.prog.info? 66).map (fun i => (i.zero, i.size, i.bytes)) = some (some (.agg #[.int .u8 0, .slice none 0 0]), 2, 32) := by kernel_rfl
theorem ropt_info : (Try.prog.info? 65).map (fun i => (i.zero, i.size, i.bytes)) = some (some (.agg #[.int .u8 0, .slice none 0 0]), 2, 32) := by kernel_rfl

theorem Rd.cutAt {w : World} {B b o : Nat} {l : List Nat} (h : Rd w B (some ⟨b, o, none⟩) l) {f c : Nat} (hc : l.length ≤ c) : Rd w B (if c = f then some ⟨b, o, none⟩ else some ⟨b, o + f, none⟩) (l.drop f) := by
  intro hl
  rw [List.length_drop] at hl
  rw [if_neg (by omega)]
  obtain ⟨b', off, e, hb, hcell⟩ := h (by omega)
  injection e with e
  injection e with e1 e2
  subst e1; subst e2
  exact ⟨b, o + f, rfl, hb, fun k x hx => by rw [Nat.add_assoc]; exact hcell (f + k) x (by rw [← List.getElem?_drop]; exact hx)⟩

/-- The length of a slice. -/
def lenV : Value → Nat
  | .slice _ n _ => n
  | _ => 0

/-- What the row of options so far is: of the call's own, with data in blocks of F. -/
structure GC (T : TypeId) (F : Nat → Prop) (w W : World) (a0 : Addr) (x0 : Nat) (v : Value) (acc : List (Nat × List Nat)) : Prop where
  own : Orw shO T F w.heap.size W v acc
  bel : Below w.heap.size w W
  lt0 : a0.block < w.heap.size
  f0 : w.cell? a0 = some (.int .u8 (x0 : Int))
section
variable {T : TypeId} {F : Nat → Prop} {w W X W' : World} {a0 : Addr} {x0 : Nat} {v v' : Value} {acc acc' : List (Nat × List Nat)}
theorem GC.cell (h : GC T F w W a0 x0 v acc) : W.cell? a0 = some (.int .u8 (x0 : Int)) := (h.bel.cell h.lt0).trans h.f0
theorem GC.step (h : GC T F w W a0 x0 v acc) (hb : Below X.heap.size X W') (hX : Below W.heap.size W X := by first | exact Below.refl _ _ | exact (Below.refl _ _).drew) : GC T F w W' a0 x0 v acc := by
  have hb' : Below W.heap.size W W' := hX.trans (hb.mono hX.size)
  exact ⟨h.own.below hb', h.bel.trans (hb'.mono h.bel.size), h.lt0, h.f0⟩
theorem GC.drew (h : GC T F w W a0 x0 v acc) : GC T F w W.drew a0 x0 v acc := h.step (X := W) (Below.refl _ _).drew
theorem GC.far (h : GC T F w W a0 x0 v acc) : ∀ b, W.heap.size ≤ b → w.heap.size ≤ b ∧ v.ownBlock ≠ some b := fun _ hb => ⟨Nat.le_trans h.bel.size hb, fun e => Nat.lt_irrefl _ (Nat.lt_of_lt_of_le (h.own.lt e).2 hb)⟩
theorem GC.al (h : GC T F w W a0 x0 v acc) (o : Obj) : GC T F w (W.alloc o) a0 x0 v acc := h.step (X := W) ((Below.refl _ _).alloc (Nat.le_refl _) o)
theorem GC.push (h : GC T F w W a0 x0 v acc) (ho : Orw shO T F w.heap.size W' v' acc') (hg : W.grownBy W' v.ownBlock) : GC T F w W' a0 x0 v' acc' :=
  ⟨ho, h.bel.grown hg h.bel.size (fun _ hk => (h.own.lt hk).1), h.lt0, h.f0⟩
end

/-- What Get answers: a row of its own. -/
def GetO (T : TypeId) (F : Nat → Prop) (b : List Nat) (w : World) (e : Ending) (w' : World) : Prop :=
  ∃ v, e = .returned (.tuple #[v, .int .i64 ((getB b).2 : Int)]) ∧ Orw shO T F w.heap.size w' v (getB b).1 ∧ Below w.heap.size w w'

theorem getO_bad {T : TypeId} {F : Nat → Prop} {b r : List Nat} {acc : List (Nat × List Nat)} {w w' : World} (hg : getB b = addB acc (getB r)) (hr : r ≠ []) (hs : (stepB r).2 ≠ 0) (hb : Below w.heap.size w w') :
    GetO T F b w (.returned (.tuple #[.slice none 0 0, .int .i64 ((stepB r).2 : Int)])) w' := by
  have e : getB b = ([], (stepB r).2) := by
    rw [hg, get_bad hr hs]
    unfold addB
    rw [if_neg hs]
  exact ⟨_, by rw [e], by rw [e]; exact Orw.nil _ _ _ _ _, hb⟩
theorem getO_end {T : TypeId} {F : Nat → Prop} {b : List Nat} {acc : List (Nat × List Nat)} {v : Value} {w w' : World} (hg : getB b = addB acc (getB [])) (ho : Orw shO T F w.heap.size w' v acc) (hb : Below w.heap.size w w') :
    GetO T F b w (.returned (.tuple #[v, .int .i64 0])) w' := by
  have e : getB b = (acc, 0) := by
    rw [hg, get_nil]
    unfold addB
    rw [if_pos rfl, List.append_nil]
  exact ⟨_, by rw [e]; rfl, by rw [e]; exact ho, hb⟩

theorem step_one {r : List Nat} (h : r.length = 1) : stepB r = (0, 2) := by
  match r, h with
  | [_], _ => rfl
theorem step_two {r : List Nat} {y n : Nat} (h : r[1]? = some y) (hn : r.length = n) : stepB r = if y < 2 then (0, 4) else if n < y then (0, 2) else (y, 0) := by
  subst hn
  match r, h with
  | _ :: z :: t, h =>
    have e : z = y := by simpa using h
    subst e
    rfl
theorem cut_eq (b : List Nat) (k e k2 z : Nat) (h2 : k + 2 = k2) (hz : e - 2 = z) : ((b.drop k).take e).drop 2 = (b.drop k2).take z := by
  subst h2; subst hz
  rw [List.drop_take, List.drop_drop]

end Go.Proofs.Ytppblnpcbiochaa
