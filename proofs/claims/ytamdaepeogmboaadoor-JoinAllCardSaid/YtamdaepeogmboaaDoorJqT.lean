
/-
  What the program's calls of layer 24 tell: a row of events of the call's own. No condition.
-/
import Derived.Test.YtamdaepeogmboaaDoorJqB
import Derived.Test.YtamdaepeogmboaaDoorJoiL
namespace Go.Proofs.YtamdaepeogmboaaDoor
set_option maxRecDepth 4000
open Go.RowKit Go.Maps

theorem jev_info : (Tryd.prog.info? 59).map (fun i => (i.zero, i.size, i.bytes)) = some (some (.agg #[.int .i64 0, .slice none 0 0, .int .i64 0, .int .i64 0]), 4, 48) := by kernel_rfl
/-- A row of events told by a call that began at w0 with q0: the call's own. -/
structure Out (b : Nat) (q0 : Jq) (w0 : World) (q : Jq) (w : World) (v : Value) (xs : List Ev) : Prop where
  row : Orw shEv 59 (Fo b q0 w0 q) w0.heap.size w v xs
  fr : ∀ i, v.ownBlock = some i → ¬ q.own b i
section
variable {w0 w w' : World} {b : Nat} {j : Jn} {q0 q q' : Jq} {ol : List Int} {v v' : Value} {xs ys : List Ev}
theorem Out.nil (b : Nat) (q0 : Jq) (w0 : World) (q : Jq) (w : World) : Out b q0 w0 q w (.slice none 0 0) [] := ⟨Orw.nil _ _ _ _ _, fun i e => by cases e⟩
theorem Out.step (h : Out b q0 w0 q w v xs) (k : Ps b q w q' w') : Out b q0 w0 q' w' v xs :=
  ⟨((h.row.mono (G := fun i => Fo b q0 w0 q i ∧ i < w.heap.size) fun _ hi hf => ⟨hf, hi⟩).keep (k.keeps.less fun i _ hi => hi.elim (fun h => h.1.1) (h.fr i))).mono fun _ _ hf => ⟨k.out hf.2 hf.1.1, hf.1.2⟩, fun i hi => k.out (h.row.lt hi).2 (h.fr i hi)⟩
theorem Out.below (h : Out b q0 w0 q w v xs) (hb : Below w.heap.size w w') : Out b q0 w0 q w' v xs := h.step (.of_below hb)
theorem Out.shape (h : Out b q0 w0 q w v xs) : ∃ A c, v = .slice A xs.length c ∧ xs.length ≤ c := by
  obtain ⟨A, c, h1, h2, -⟩ := h.row.shape
  exact ⟨A, c, h1, h2⟩
theorem Orw.read2 {α : Type} {H : Sh α} {T : TypeId} {F G : Nat → Prop} {B : Nat} {xs : List α} {A : Option Addr} {n c : Nat} (h : Orw H T F B w (.slice A n c) xs) (hF : ∀ i, F i → G i) (hB : ∀ i, (Value.slice A n c).ownBlock = some i → B ≤ i → G i) : Rws H G w A xs := by
  intro hl
  obtain ⟨css, h1, h2, h3⟩ := h
  have hall := Orw.all_len h1 h3
  rcases h2.2 with ⟨_, h0⟩ | ⟨g, cap, cur, hv, hg, hh, hc, hm, hcs, htake⟩
  · omega
  · injection hv with hA hn hc'
    subst hA
    refine ⟨g, 0, rfl, (Array.getElem?_eq_some_iff.1 hh).1, hB g rfl hg, fun k x hx => ?_⟩
    have hk : k < css.length := by have := (List.getElem?_eq_some_iff.1 hx).1; omega
    refine ⟨css[k], H.mono (h3 k x _ hx (List.getElem?_eq_getElem hk)) fun b _ hf => hF b hf.1, fun j u hu => ?_⟩
    have h7 := flat_put hall (List.getElem?_eq_getElem hk) hu
    have hlt : k * H.sz + j < css.flatten.length := (List.getElem?_eq_some_iff.1 h7).1
    rw [Nat.zero_add, cell_of_row w g _ _ _ _ hh]
    rw [← htake, List.getElem?_take] at h7
    split at h7
    · simpa using h7
    · cases h7
theorem Out.read {A : Option Addr} {n c : Nat} (h : Out b q0 w0 q w (.slice A n c) xs) : Rws shEv (Fo b q0 w0 q) w A xs := h.row.read2 (fun _ h => h) fun i e hi => ⟨h.fr i e, .inr hi⟩
/-- The row grows. -/
theorem Out.app (h : Out b q0 w0 q w v xs) (hP : Pw w b j q ol) (hS : Ps b q0 w0 q w) (lo : ∀ i, q.fr i → i < w0.heap.size) (ho : Orw shEv 59 (Fo b q0 w0 q) w0.heap.size w' v' ys) (hg : w.grownBy w' v.ownBlock) (hm : Mv w.heap.size v v') :
    Out b q0 w0 q w' v' ys ∧ Pw w' b j q ol ∧ Ps b q0 w0 q w' ∧ Offs (fun i => v.ownBlock = some i) w w' := by
  have hO : Offs (fun i => v.ownBlock = some i) w w' := .of_grown hg fun _ h => h
  refine ⟨⟨ho, fun i hi => (hm i hi).elim (h.fr i) fun e => hP.new e⟩, hP.apart hO h.fr (hP.mp.mono fun i _ hi => ⟨hi, fun e => ?_⟩), ⟨hS.off.trans hO (fun _ h => h) (fun i hi e => ?_), hS.own⟩, hO⟩
  · have := (h.row.lt e).1
    have := lo i hi.2
    omega
  · have := (h.row.lt e).1
    omega
/-- An event in a literal. -/
theorem Out.lit (h : Out b q0 w0 q w v xs) (hP : Pw w b j q ol) (hS : Ps b q0 w0 q w) (x : Ev) {A : Option Addr} {n c : Nat} (hl : x.d.length = n) (hc : n ≤ c) (hr : RdF (fun i => Fo b q0 w0 q i ∧ v.ownBlock ≠ some i) w A x.d) :
    Rws shEv (fun i => Fo b q0 w0 q i ∧ v.ownBlock ≠ some i) (w.alloc (.cells #[.int .i64 x.k, .slice A n c, .int .i64 x.f, .int .i64 x.m] 59)) (some ⟨w.heap.size, 0, none⟩) [x] :=
  (litv w x hl hc hr).read.mono fun _ _ hb => hb.elim id fun hb => ⟨⟨hP.new hb, .inr (Nat.le_trans hS.off.size hb)⟩, fun e => absurd (h.row.lt e).2 (Nat.not_lt.2 hb)⟩
end
end Go.Proofs.YtamdaepeogmboaaDoor
