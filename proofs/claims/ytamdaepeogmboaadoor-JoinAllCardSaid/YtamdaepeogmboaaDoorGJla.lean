/-
  Arguments that are slices of slices of bytes, and slices of bools, opened. No condition. Lanes of pieces in memory: rows of a call's own, whose slices lie in one block; how one grows. No condition. What dealt of layer 24's laws answers: the pieces of all packets, dealt to lanes. Condition: the shapes stand as the start-up lays them. JoinAll's lanes beside the joiner: read, and shortened; a piece fed. Condition: the shapes stand as the start-up lays them.
-/
import Derived.Test.YtamdaepeogmboaaDoorRowk
import Derived.WalkKit
import Derived.OpenShut
import Derived.Deep.Matrix
import Derived.ProofKit
import Derived.ShutString
import Derived.ChangeOld
import Derived.Deep.Fields
import Derived.Test.YtamdaepeogmboaaDoorFrgY
import Derived.Test.YtamdaepeogmboaaDoorJqRW
import Derived.Test.YtamdaepeogmboaaDoorJlaM
import Derived.Test.YtamdaepeogmboaaDoorJsoC
import Derived.Deep.RegionHeld3
import Derived.Deep.RegionLaw
import Derived.Deep.OwnRows
import Derived.Deep.QuietTactic
import Derived.BigQuiet
namespace Go.Proofs.YtamdaepeogmboaaDoor
section
set_option maxRecDepth 4000
open Go.ChangeShapes Go.WideShapes Go.ChangeAt Go.RowKit Go.Deep

/-- What the walk is told of a slice of slices of bytes. -/
structure IsRwsB (w : World) (a : Option Addr) (len cap : Nat) (l : List (List Nat)) : Prop where
  nl : l.length = len
  nc : len ≤ cap
  by_ : ∀ x ∈ l, By x
  rd : Rws shB (fun _ => True) w a l
/-- Bools as elements. -/
def shBo : Sh Bool where
  sz := 1
  S _ _ x cs := cs = [.bool x]
  len := by rintro _ _ _ _ rfl; rfl
  one := by rintro _ _ _ _ rfl u hu; simp at hu; subst hu; rfl
  keep := by rintro _ _ _ _ _ h _; exact h
  mono := by rintro _ _ _ _ _ h _; exact h
structure IsBos (w : World) (a : Option Addr) (len cap : Nat) (l : List Bool) : Prop where
  nl : l.length = len
  nc : len ≤ cap
  rd : Rws shBo (fun _ => True) w a l
theorem Rws.bo {F : Nat → Prop} {w : World} {A : Option Addr} {xs : List Bool} (h : Rws shBo F w A xs) {k : Nat} (hk : k < xs.length) : ∃ b off x, A = some ⟨b, off, none⟩ ∧ b < w.heap.size ∧ xs[k]? = some x ∧ w.cell? ⟨b, off + k, none⟩ = some (.bool x) := by
  obtain ⟨b, off, x, cs, h1, h2, h3, rfl, h6⟩ := h.at_ hk
  have h7 := h6 0 _ rfl
  rw [show k * shBo.sz + 0 = k by show k * 1 + 0 = k; omega] at h7
  exact ⟨b, off, x, h1, h2, h3, h7⟩
theorem Rws.rw_ {F : Nat → Prop} {w : World} {A : Option Addr} {xs : List (List Nat)} (h : Rws shB F w A xs) {k : Nat} (hk : k < xs.length) : ∃ b off x Ak ck, A = some ⟨b, off, none⟩ ∧ b < w.heap.size ∧ xs[k]? = some x ∧ w.cell? ⟨b, off + k, none⟩ = some (.slice Ak x.length ck) ∧ x.length ≤ ck ∧ RdF F w Ak x := by
  obtain ⟨b, off, x, cs, h1, h2, h3, ⟨Ak, ck, rfl, h4, h5⟩, h6⟩ := h.at_ hk
  have h7 := h6 0 _ rfl
  rw [show k * shB.sz + 0 = k by show k * 1 + 0 = k; omega] at h7
  exact ⟨b, off, x, Ak, ck, h1, h2, h3, h7, h4, h5⟩

theorem rwh_c1 : Tryd.prog.cellsOf 30 = 1 := by kernel_rfl
theorem rwh_c2 : Tryd.prog.cellsOf 5 = 1 := by kernel_rfl
theorem rwh_c3 : Tryd.prog.cellsOf 4 = 1 := by kernel_rfl
theorem rwh_add (b off k : Nat) : (Addr.add ⟨b, off, none⟩ k) = ⟨b, off + k, none⟩ := by
  by_cases h0 : k = 0
  · subst h0; simp [Addr.add]
  · simp [Addr.add, h0]
set_option maxRecDepth 8000 in
theorem open_rwsb {H : Type} {enc : TypeId × Value → H} {w : World} {base : Nat} {held : Bool} {r : Reach} {b0 : Nat} {v : Value} {d : DataW H} {p : List MemPlace}
    (hv0 : Value.okWide Tryd.prog w r b0 53 v) (h : DataW.Trod enc Tryd.prog w base (fun _ => true) held 53 v d p) :
    ∃ a len cap l, v = .slice a len cap ∧ IsRwsB w a len cap l := by
  obtain ⟨a, len, cap, rfl⟩ := okWide_slice Tryd.underlying53 hv0
  obtain ⟨fuel, hf⟩ := h
  rcases open_int_rows Tryd.underlying53 Tryd.underlying30 Tryd.underlying5 rwh_c1 rwh_c2 hf with ⟨hcs, _⟩ | ⟨x, l, c, AA, LL, CC, ZZ, hcs, _, hl, hm, _, hrow⟩
  · simp [Value.cells] at hcs
    obtain ⟨rfl, rfl, rfl⟩ := hcs
    exact ⟨_, _, _, [], rfl, rfl, Nat.le_refl _, (fun _ h => by cases h), Rws.nil⟩
  · simp [Value.cells] at hcs
    obtain ⟨rfl, rfl, rfl⟩ := hcs
    have each : ∀ r, r < len → ∃ l : List Nat, l.length = LL r ∧ By l ∧ Rd w w.heap.size (AA r) l := by
      intro r hr'
      obtain ⟨_, g1, g2, g3, g4, g5, g6⟩ := hrow r (by omega)
      exact rowBytes (w := w) (a := AA r) (len := LL r) (cap := CC r) (zs := ZZ r) (by
        cases hAr : AA r with
        | none =>
          have h0 := g5 hAr
          exact .inl ⟨rfl, by omega, h0, List.eq_nil_of_length_eq_zero (by omega)⟩
        | some x => exact .inr ⟨x, rfl, g1, g2, g3, fun i hi => (g6 x hAr).2 i (by omega), g4⟩)
    obtain ⟨f, hf'⟩ := choose_lt each
    refine ⟨_, _, _, (List.range len).map f, rfl, by simp, hl, ?_, ?_⟩
    · intro o ho
      obtain ⟨i, hi', rfl⟩ := List.mem_map.1 ho
      exact (hf' i (List.mem_range.1 hi')).2.1
    · intro hpos
      rw [List.length_map, List.length_range] at hpos
      obtain ⟨b, off, spot⟩ := x
      have h0 := (hrow 0 (by omega)).1
      have hsp : spot = none := by simpa [Addr.add] using World.cell?_spot h0
      subst hsp
      refine ⟨b, off, rfl, by simpa [Addr.add] using block_lt h0, trivial, fun k o hk => ?_⟩
      rw [List.getElem?_map] at hk
      obtain ⟨r', hr', rfl⟩ := Option.map_eq_some_iff.1 hk
      have hkl : k < len := by have := (List.getElem?_eq_some_iff.1 hr').1; simpa using this
      rw [List.getElem?_range hkl] at hr'
      injection hr' with hr'
      subst hr'
      obtain ⟨g1, g2, g3⟩ := hf' k hkl
      obtain ⟨e1, e2, _⟩ := hrow k (by omega)
      refine ⟨_, ⟨AA k, CC k, rfl, by rw [g1]; exact e2, g3.rdF (fun _ _ => trivial) (Nat.le_refl _)⟩, fun j u hu => ?_⟩
      have hj : j = 0 := by have := (List.getElem?_eq_some_iff.1 hu).1; simp at this; exact this
      subst hj
      injection hu with hu
      subst hu
      rw [rwh_add] at e1
      rw [g1]
      show w.cell? ⟨b, off + (k * 1 + 0), none⟩ = _
      rw [Nat.mul_one, Nat.add_zero]
      exact e1
set_option maxRecDepth 8000 in
theorem open_bos {H : Type} {enc : TypeId × Value → H} {w : World} {base : Nat} {held : Bool} {r : Reach} {b0 : Nat} {v : Value} {d : DataW H} {p : List MemPlace}
    (hv0 : Value.okWide Tryd.prog w r b0 62 v) (h : DataW.Trod enc Tryd.prog w base (fun _ => true) held 62 v d p) :
    ∃ a len cap l, v = .slice a len cap ∧ IsBos w a len cap l := by
  obtain ⟨a, len, cap, rfl⟩ := okWide_slice Tryd.underlying62 hv0
  obtain ⟨fuel, hf⟩ := h
  rcases open_slice1 Tryd.underlying62 rwh_c3 hf with ⟨hcs, _⟩ | ⟨x, l, c, m, n, V, D, Pl, hcs, _, hl, hm, hmm, _, hrow⟩
  · simp [Value.cells] at hcs
    obtain ⟨rfl, rfl, rfl⟩ := hcs
    exact ⟨_, _, _, [], rfl, rfl, Nat.le_refl _, Rws.nil⟩
  · simp [Value.cells] at hcs
    obtain ⟨rfl, rfl, rfl⟩ := hcs
    simp only [if_true] at hmm
    have each : ∀ r, r < len → ∃ o : Bool, w.cell? (x.add r) = some (.bool o) := by
      intro r hr'
      obtain ⟨g1, g2⟩ := hrow r (by omega)
      obtain ⟨o, e0, _⟩ := DataW.trod_bool Tryd.underlying4 g2
      injection e0 with e0
      exact ⟨o, by rw [g1, e0]⟩
    obtain ⟨f, hf'⟩ := choose_lt each
    refine ⟨_, _, _, (List.range len).map f, rfl, by simp, hl, ?_⟩
    intro hpos
    rw [List.length_map, List.length_range] at hpos
    obtain ⟨b, off, spot⟩ := x
    have h0 := hf' 0 hpos
    have hsp : spot = none := by simpa [Addr.add] using World.cell?_spot h0
    subst hsp
    refine ⟨b, off, rfl, by simpa [Addr.add] using block_lt h0, trivial, fun k o hk => ?_⟩
    rw [List.getElem?_map] at hk
    obtain ⟨r', hr', rfl⟩ := Option.map_eq_some_iff.1 hk
    have hkl : k < len := by have := (List.getElem?_eq_some_iff.1 hr').1; simpa using this
    rw [List.getElem?_range hkl] at hr'
    injection hr' with hr'
    subst hr'
    refine ⟨_, rfl, fun j u hu => ?_⟩
    have hj : j = 0 := by have := (List.getElem?_eq_some_iff.1 hu).1; simp at this; exact this
    subst hj
    injection hu with hu
    subst hu
    have e1 := hf' k hkl
    rw [rwh_add] at e1
    show w.cell? ⟨b, off + (k * 1 + 0), none⟩ = _
    rw [Nat.mul_one, Nat.add_zero]
    exact e1
end

section
set_option maxRecDepth 4000
open Go.RowKit Go.Maps

/-- Blocks that are neither the lanes' own, nor theirs in all, nor those of mv. -/
def LnF (B g : Nat) (mv : Value) (vs : List Value) (b : Nat) : Prop := B ≤ b ∧ b ≠ g ∧ (∀ u ∈ vs, u.ownBlock ≠ some b) ∧ mv.ownBlock ≠ some b
structure Lan (B g : Nat) (mv : Value) (vs : List Value) (ls : List (List Pc)) (W : World) : Prop where
  hd : W.heap[g]? = some (.cells vs.toArray 57 (0, 0))
  lo : B ≤ g
  ln : vs.length = ls.length
  rw : ∀ (i : Nat) v l, vs[i]? = some v → ls[i]? = some l → Orw shF 50 (LnF B g mv vs) B W v l
  og : ∀ u ∈ vs, u.ownBlock ≠ some g
  dj : ∀ (i j : Nat) u v, i ≠ j → vs[i]? = some u → vs[j]? = some v → ∀ b, u.ownBlock = some b → v.ownBlock ≠ some b
  mg : mv.ownBlock ≠ some g
  mu : ∀ u ∈ vs, ∀ b, u.ownBlock = some b → mv.ownBlock ≠ some b
theorem Orw.mono_ {α : Type} {H : Sh α} {T : TypeId} {F G : Nat → Prop} {B : Nat} {w : World} {v : Value} {xs : List α} (h : Orw H T F B w v xs) (hF : ∀ b, b < w.heap.size → F b → v.ownBlock ≠ some b → G b) : Orw H T G B w v xs := by
  obtain ⟨css, h1, h2, h3⟩ := h
  exact ⟨css, h1, h2, fun k x cs hx hc => H.mono (h3 k x cs hx hc) fun b hb hf => ⟨hF b hb hf.1 hf.2, hf.2⟩⟩
section
variable {B g : Nat} {mv v v' : Value} {vs : List Value} {ls : List (List Pc)} {W W' W2 : World} {i : Nat} {l l' : List Pc}
theorem Lan.lt (h : Lan B g mv vs ls W) : g < W.heap.size := (Array.getElem?_eq_some_iff.1 h.hd).1
theorem Lan.vlt (h : Lan B g mv vs ls W) {u : Value} (hu : u ∈ vs) {b : Nat} (hb : u.ownBlock = some b) : B ≤ b ∧ b < W.heap.size := by
  obtain ⟨i, hi⟩ := List.mem_iff_getElem?.1 hu
  have hil := (List.getElem?_eq_some_iff.1 hi).1
  exact (h.rw i u _ hi (List.getElem?_eq_getElem (by have := h.ln; omega))).lt hb
theorem Lan.below (h : Lan B g mv vs ls W) (hb : Below W.heap.size W W') : Lan B g mv vs ls W' :=
  ⟨(hb.block g h.lt).trans h.hd, h.lo, h.ln, fun i v l hv hl => (h.rw i v l hv hl).below hb, h.og, h.dj, h.mg, h.mu⟩
/-- One lane grows. -/
theorem Lan.app (h : Lan B g mv vs ls W) (hv : vs[i]? = some v) (ho : Orw shF 50 (LnF B g mv vs) B W2 v' l') (hg : W.grownBy W2 v.ownBlock) (hm : Mv W.heap.size v v') (hmv : ∀ b, mv.ownBlock = some b → b < W.heap.size) :
    Lan B g mv (vs.set i v') (ls.set i l') (W2.setCell ⟨g, i, none⟩ v') := by
  have hmem := List.mem_of_getElem? hv
  have hil := (List.getElem?_eq_some_iff.1 hv).1
  have hO : Offs (fun b => v.ownBlock = some b) W W2 := .of_grown hg fun _ h => h
  have hS : Offs (fun b => b = g) W2 (W2.setCell ⟨g, i, none⟩ v') := Offs.set W2 g i v' rfl
  have hd2 := (hO.block g h.lt (h.og v hmem)).trans h.hd
  have hset : ∀ u ∈ vs.set i v', u ∈ vs ∨ u = v' := fun u hu => List.mem_or_eq_of_mem_set hu
  have vg : ∀ b, v'.ownBlock = some b → b ≠ g := fun b hb e => (hm b hb).elim (fun e2 => h.og v hmem (e ▸ e2)) fun e2 => by have := h.lt; omega
  have hnew : ∀ b, b < W.heap.size → v.ownBlock ≠ some b → v'.ownBlock ≠ some b := fun b hb hn e => (hm b e).elim hn fun e2 => by omega
  refine ⟨?_, h.lo, by rw [List.length_set, List.length_set]; exact h.ln, ?_, ?_, ?_, h.mg, ?_⟩
  · have := heap_setCell_same W2 g i _ _ v' hd2
    rw [this]
    simp
  · intro j u m hu hm'
    rw [List.getElem?_set] at hu hm'
    by_cases e : i = j
    · rw [if_pos e, if_pos hil] at hu
      rw [if_pos e, if_pos (by have := h.ln; omega)] at hm'
      injection hu with hu
      injection hm' with hm'
      subst hu; subst hm'
      refine (ho.mono_ (G := LnF B g mv (vs.set i v')) fun b _ hb hn => ⟨hb.1, hb.2.1, fun u hu => ?_, hb.2.2.2⟩).keep (.of_offs hS fun b hb e => ?_)
      · rcases hset u hu with h1 | h1
        · exact hb.2.2.1 u h1
        · rw [h1]; exact hn
      · rcases hb with h1 | h1
        · exact h1.2.1 e
        · exact vg b h1 e
    · rw [if_neg e] at hu hm'
      have h1 := h.rw j u m hu hm'
      have h2 : Orw shF 50 (fun b => LnF B g mv vs b ∧ b < W.heap.size) B W u m := h1.mono fun b hb hf => ⟨hf, hb⟩
      have h3 := h2.keep (w' := W2) (.of_offs hO fun b hb e2 => hb.elim (fun h4 => h4.1.2.2.1 v hmem e2) fun h4 => h.dj j i u v (Ne.symm e) hu hv b h4 e2)
      have h4 : Orw shF 50 (LnF B g mv (vs.set i v')) B W2 u m := h3.mono fun b _ hb => ⟨hb.1.1, hb.1.2.1, fun x hx => by
        rcases hset x hx with h5 | h5
        · exact hb.1.2.2.1 x h5
        · rw [h5]; exact hnew b hb.2 (hb.1.2.2.1 v hmem), hb.1.2.2.2⟩
      exact h4.keep (.of_offs hS fun b hb e2 => hb.elim (fun h5 => h5.2.1 e2) fun h5 => h.og u (List.mem_of_getElem? hu) (by rw [h5, e2]))
  · intro u hu
    rcases hset u hu with h1 | h1
    · exact h.og u h1
    · rw [h1]; exact fun e => vg g e rfl
  · intro a c u x hac hu hx b hb
    rw [List.getElem?_set] at hu hx
    by_cases e1 : i = a
    · have e2 : i ≠ c := fun e => hac (e1.symm.trans e)
      rw [if_pos e1, if_pos hil] at hu
      rw [if_neg e2] at hx
      injection hu with hu
      subst hu
      rcases hm b hb with h1 | h1
      · exact h.dj i c v x e2 hv hx b h1
      · exact fun e => absurd (h.vlt (List.mem_of_getElem? hx) e).2 (Nat.not_lt.2 h1)
    · rw [if_neg e1] at hu
      by_cases e2 : i = c
      · rw [if_pos e2, if_pos hil] at hx
        injection hx with hx
        subst hx
        exact hnew b (h.vlt (List.mem_of_getElem? hu) hb).2 (h.dj a i u v (Ne.symm e1) hu hv b hb)
      · rw [if_neg e2] at hx
        exact h.dj a c u x hac hu hx b hb
  · intro u hu b hb
    rcases hset u hu with h1 | h1
    · exact h.mu u h1 b hb
    · rw [h1] at hb
      rcases hm b hb with h2 | h2
      · exact h.mu v hmem b h2
      · exact fun e => absurd (hmv b e) (Nat.not_lt.2 h2)
/-- Pieces that are to be dealt stay. -/
theorem lps_app (hv : vs[i]? = some v) (hg : W.grownBy W2 v.ownBlock) (hm : Mv W.heap.size v v') {A : Option Addr} {p : List Pc} (hp : Rws shF (LnF B g mv vs) W A p) : Rws shF (LnF B g mv (vs.set i v')) (W2.setCell ⟨g, i, none⟩ v') A p := by
  have hmem := List.mem_of_getElem? hv
  have hO : Offs (fun b => v.ownBlock = some b) W W2 := .of_grown hg fun _ h => h
  have hS : Offs (fun b => b = g) W2 (W2.setCell ⟨g, i, none⟩ v') := Offs.set W2 g i v' rfl
  have h1 : Rws shF (fun b => LnF B g mv vs b ∧ b < W.heap.size) W A p := hp.mono fun b hb hf => ⟨hf, hb⟩
  have h2 := (h1.keep (w' := W2) (.of_offs hO fun b hb e => hb.1.2.2.1 v hmem e)).keep (.of_offs hS fun b hb e => hb.1.2.1 e)
  exact h2.mono fun b _ hb => ⟨hb.1.1, hb.1.2.1, fun u hu => by
    rcases List.mem_or_eq_of_mem_set hu with h3 | h3
    · exact hb.1.2.2.1 u h3
    · rw [h3]; exact fun e => (hm b e).elim (hb.1.2.2.1 v hmem) fun e2 => by have := hb.2; omega, hb.1.2.2.2⟩
/-- The numbers' row stays. -/
theorem Lan.num (h : Lan B g mv vs ls W) (hv : vs[i]? = some v) (hg : W.grownBy W2 v.ownBlock) {x : Value} {xs : List Int} (ho : Orw shI 3 (fun _ => False) B W mv xs) : Orw shI 3 (fun _ => False) B (W2.setCell ⟨g, i, none⟩ x) mv xs :=
  (ho.keep (.of_offs (.of_grown hg fun _ h => h : Offs (fun b => v.ownBlock = some b) W W2) fun b hb e => hb.elim (fun h => h) fun hb => h.mu v (List.mem_of_getElem? hv) b e hb)).keep (.of_offs (Offs.set (X := fun b => b = g) W2 g i x rfl) fun b hb e => hb.elim (fun h => h) fun hb => h.mg (by rw [hb, e]))
/-- The numbers' row grows. -/
theorem Lan.many (h : Lan B g mv vs ls W) (hg : W.grownBy W' mv.ownBlock) (hm : Mv W.heap.size mv v') : Lan B g v' vs ls W' := by
  have hO : Offs (fun b => mv.ownBlock = some b) W W' := .of_grown hg fun _ h => h
  refine ⟨(hO.block g h.lt h.mg).trans h.hd, h.lo, h.ln, fun i v l hv hl => ?_, h.og, h.dj, fun e => (hm g e).elim h.mg fun e2 => by have := h.lt; omega, fun u hu b hb e => (hm b e).elim (h.mu u hu b hb) fun e2 => absurd (h.vlt hu hb).2 (Nat.not_lt.2 e2)⟩
  have h2 : Orw shF 50 (fun b => LnF B g mv vs b ∧ b < W.heap.size) B W v l := (h.rw i v l hv hl).mono fun b hb hf => ⟨hf, hb⟩
  exact (h2.keep (.of_offs hO fun b hb e => hb.elim (fun h4 => h4.1.2.2.2 e) fun h4 => h.mu v (List.mem_of_getElem? hv) b h4 e)).mono fun b _ hb => ⟨hb.1.1, hb.1.2.1, hb.1.2.2.1, fun e => (hm b e).elim hb.1.2.2.2 fun e2 => by have := hb.2; omega⟩
theorem lps_many (hg : W.grownBy W' mv.ownBlock) (hm : Mv W.heap.size mv v') {A : Option Addr} {p : List Pc} (hp : Rws shF (LnF B g mv vs) W A p) : Rws shF (LnF B g v' vs) W' A p := by
  have hO : Offs (fun b => mv.ownBlock = some b) W W' := .of_grown hg fun _ h => h
  have h1 : Rws shF (fun b => LnF B g mv vs b ∧ b < W.heap.size) W A p := hp.mono fun b hb hf => ⟨hf, hb⟩
  exact (h1.keep (.of_offs hO fun b hb e => hb.1.2.2.2 e)).mono fun b _ hb => ⟨hb.1.1, hb.1.2.1, hb.1.2.2.1, fun e => (hm b e).elim hb.1.2.2.2 fun e2 => by have := hb.2; omega⟩
/-- Pieces just made. -/
theorem Lan.fresh (h : Lan B g mv vs ls W) (hB : B ≤ W.heap.size) (hmv : ∀ b, mv.ownBlock = some b → b < W.heap.size) {A : Option Addr} {p : List Pc} (hp : Rws shF (fun b => W.heap.size ≤ b) W' A p) : Rws shF (LnF B g mv vs) W' A p :=
  hp.mono fun b _ hb => ⟨Nat.le_trans hB hb, fun e => by have := h.lt; omega, fun u hu e => absurd (h.vlt hu e).2 (Nat.not_lt.2 hb), fun e => absurd (hmv b e) (Nat.not_lt.2 hb)⟩
/-- No lane has any yet. -/
theorem Lan.start (W : World) (n : Nat) (hB : B ≤ W.heap.size) : Lan B W.heap.size (.slice none 0 0) (List.replicate n (.slice none 0 0)) (List.replicate n []) (W.alloc (.cells (List.replicate n (Value.slice none 0 0)).toArray 57)) := by
  refine ⟨heap_alloc_new W _, hB, by simp, fun i v l hv hl => ?_, fun u hu e => ?_, fun i j u v _ hu _ b hb => ?_, (fun e => by cases e), fun u hu b hb => ?_⟩
  · have h1 := List.eq_of_mem_replicate (List.mem_of_getElem? hv)
    have h2 := List.eq_of_mem_replicate (List.mem_of_getElem? hl)
    subst h1; subst h2
    exact Orw.nil _ _ _ _ _
  · rw [List.eq_of_mem_replicate hu] at e; cases e
  · rw [List.eq_of_mem_replicate (List.mem_of_getElem? hu)] at hb; cases hb
  · rw [List.eq_of_mem_replicate hu] at hb; cases hb
end
end

section
set_option maxRecDepth 4000
open Go.RowKit Go.Maps

/-- The lane of a piece. -/
def jlane (deal : List Nat) (n g : Nat) : Nat := if 0 < deal.length then deal.getD (g % deal.length) 0 % n else 0
theorem jlane_lt (deal : List Nat) {n : Nat} (hn : 0 < n) (g : Nat) : jlane deal n g < n := by
  unfold jlane
  split
  · exact Nat.mod_lt _ hn
  · exact hn
/-- The pieces of the lanes. -/
def jll (s : Bool) (ds : List (List Nat)) (rem : List (List Nat)) : List (List Pc) := rem.map fun l => l.map fun g => (jsX s ds ds.length).getD g pc0
theorem jll_succ {s : Bool} {ds : List (List Nat)} {n k : Nat} {lane : Nat → Nat} (hl : lane k < n) {x : Pc} (hx : (jsX s ds ds.length)[k]? = some x) {l : List Pc} (h : (jll s ds (jdl n lane k))[lane k]? = some l) : jll s ds (jdl n lane (k + 1)) = (jll s ds (jdl n lane k)).set (lane k) (l ++ [x]) := by
  have h1 := jdl_at (lane := lane) (k := k) hl
  unfold jll at h ⊢
  rw [List.getElem?_map, h1] at h
  injection h with h
  rw [jdl_succ rfl hl h1, List.map_set, ← h]
  congr 1
  rw [List.map_append]
  simp [List.getD, hx]
theorem jll_len {s : Bool} {ds : List (List Nat)} (rem : List (List Nat)) : (jll s ds rem).length = rem.length := by simp [jll]
theorem Orw.int_any {T : TypeId} {F G : Nat → Prop} {B : Nat} {w : World} {v : Value} {xs : List Int} (h : Orw shI T F B w v xs) : Orw shI T G B w v xs := h
theorem sp_info : (Tryd.prog.info? 57).map (fun i => (i.zero, i.size, i.bytes)) = some (some (.slice none 0 0), 1, 24) := by kernel_rfl
theorem litp {F : Nat → Prop} (w : World) {T : TypeId} (x : Pc) {A : Option Addr} {n c : Nat} (hl : x.d.length = n) (hc : n ≤ c) (h : RdF F w A x.d) :
    Orw shF T F w.heap.size (w.alloc (.cells #[.bool x.b, .bool x.e, .int .i64 x.n, .slice A n c] T)) (.slice (some ⟨w.heap.size, 0, none⟩) 1 1) [x] := by
  subst hl
  refine Orw.lit w [[.bool x.b, .bool x.e, .int .i64 x.n, .slice A x.d.length c]] rfl (fun k y cs hx hk => ?_) (by simp)
  rcases k with _ | k
  · injection hx with hx
    injection hk with hk
    subst hx; subst hk
    exact ⟨A, c, rfl, hc, h⟩
  · simp at hx
theorem liti (w : World) {T : TypeId} (x : Int) : Orw shI T (fun _ => False) w.heap.size (w.alloc (.cells #[.int .i64 x] T)) (.slice (some ⟨w.heap.size, 0, none⟩) 1 1) [x] := by
  refine Orw.lit w [[.int .i64 x]] rfl (fun k y cs hx hk => ?_) (by simp)
  rcases k with _ | k
  · injection hx with hx
    injection hk with hk
    subst hx; subst hk
    exact rfl
  · simp at hx
theorem madeCells_nil (n : Nat) : madeCells #[Value.slice none 0 0] n = (List.replicate n (Value.slice none 0 0)).toArray := by
  apply Array.toList_inj.1
  refine List.eq_replicate_iff.2 ⟨by simp [madeCells], fun b hb => ?_⟩
  simp [madeCells, Nat.mod_one] at hb
  exact hb.2.symm
theorem jll_le {s : Bool} {ds : List (List Nat)} {n k i : Nat} {lane : Nat → Nat} {l : List Pc} (h : (jll s ds (jdl n lane k))[i]? = some l) : l.length ≤ k := by
  have hi : i < n := by have := (List.getElem?_eq_some_iff.1 h).1; rwa [jll_len, jdl_len] at this
  unfold jll at h
  rw [List.getElem?_map, jdl_at hi] at h
  injection h with h
  rw [← h, List.length_map]
  have := List.length_filter_le (fun g => decide (lane g = i)) (List.range k)
  rwa [List.length_range] at this
/-- A piece is appended to a lane. -/
theorem Lan.turn {w W : World} {g i : Nat} {mv v : Value} {vs : List Value} {ls : List (List Pc)} {l : List Pc} (C : Lan w.heap.size g mv vs ls W) (hb : Below w.heap.size w W) (hmv : ∀ b, mv.ownBlock = some b → b < W.heap.size) (hv : vs[i]? = some v) (hl : ls[i]? = some l) (hll : l.length ≤ 1200) {y : Pc} {Ay : Option Addr} {m cy : Nat} (hm : y.d.length = m) (hc : m ≤ cy) (hr : RdF (LnF w.heap.size g mv vs) W Ay y.d) {Ap : Option Addr} {p : List Pc} (hp : Rws shF (LnF w.heap.size g mv vs) W Ap p) {xs : List Int} (hn : Orw shI 3 (fun _ => False) w.heap.size W mv xs) :
    ∃ A1 c1 W2, (Builtin.append_ #[57, 57] 57 #[v, .slice (some ⟨W.heap.size, 0, none⟩) 1 1]).run Tryd.prog (W.alloc (.cells #[.bool y.b, .bool y.e, .int .i64 y.n, .slice Ay m cy] 50)).drew = .ok (.slice A1 (l.length + 1) c1) W2 ∧ W2.cell? ⟨g, i, none⟩ = some v ∧ W2.frozen? ⟨g, i, none⟩ = false ∧
      Lan w.heap.size g mv (vs.set i (.slice A1 (l.length + 1) c1)) (ls.set i (l ++ [y])) (W2.setCell ⟨g, i, none⟩ (.slice A1 (l.length + 1) c1)) ∧ Rws shF (LnF w.heap.size g mv (vs.set i (.slice A1 (l.length + 1) c1))) (W2.setCell ⟨g, i, none⟩ (.slice A1 (l.length + 1) c1)) Ap p ∧ Orw shI 3 (fun _ => False) w.heap.size (W2.setCell ⟨g, i, none⟩ (.slice A1 (l.length + 1) c1)) mv xs ∧ Below w.heap.size w (W2.setCell ⟨g, i, none⟩ (.slice A1 (l.length + 1) c1)) := by
  obtain ⟨i0, hi0, hz0, hz1, hz2⟩ := info_parts fr_info
  obtain ⟨Wl, hWl⟩ : ∃ Wl, Wl = W.drew.alloc (.cells #[.bool y.b, .bool y.e, .int .i64 y.n, .slice Ay m cy] 50) := ⟨_, rfl⟩
  have bd : Below W.heap.size W W.drew := (Below.refl _ _).drew
  have bl : Below W.heap.size W Wl := by rw [hWl]; exact bd.alloc (Nat.le_refl _) _
  have HR := (litp W.drew (T := 50) y hm hc (hr.keep (.of_below bd))).read
  rw [← hWl] at HR
  have C1 := C.below bl
  have hmem := List.mem_of_getElem? hv
  have HO := C1.rw i v l hv hl
  have hB : w.heap.size ≤ W.heap.size := hb.size
  obtain ⟨v', W2, hrun, ho, hg, hm2⟩ := run_rows shF (P := Tryd.prog) Wl 57 57 50 i0 (.agg #[.bool false, .bool false, .int .i64 0, .slice none 0 0]) 40 Tryd.underlying57 hi0 hz0 hz1 hz2 rfl (by decide) (LnF w.heap.size g mv vs) (fun b => LnF w.heap.size g mv vs b ∨ W.heap.size ≤ b) w.heap.size v l.length l HO rfl (some ⟨W.heap.size, 0, none⟩) 1 1 [y] HR rfl
    (fun b _ h => by
      rcases h with h | h
      · exact ⟨h, h.2.2.1 v hmem⟩
      · exact ⟨⟨Nat.le_trans hB h, fun e => by have := C.lt; omega, fun u hu e => absurd (C.vlt hu e).2 (Nat.not_lt.2 h), fun e => absurd (hmv b e) (Nat.not_lt.2 h)⟩, fun e => absurd (C.vlt hmem e).2 (Nat.not_lt.2 h)⟩) (by unfold maxLen; omega) (by omega) (Nat.le_trans hB bl.size)
  obtain ⟨A1, c1, hv', -, -, -⟩ := ho.slice
  rw [List.length_append] at hv'
  have hv2 : v' = .slice A1 (l.length + 1) c1 := hv'
  subst hv2
  have hO : Offs (fun b => v.ownBlock = some b) Wl W2 := .of_grown hg fun _ h => h
  have hd2 := (hO.block g C1.lt (C1.og v hmem)).trans C1.hd
  refine ⟨A1, c1, W2, by rw [hWl] at hrun; exact hrun, ?_, frozen_of_row W2 g i _ _ hd2, C1.app hv ho hg hm2 (fun b e => Nat.lt_of_lt_of_le (hmv b e) bl.size), lps_app hv hg hm2 (hp.below bl), C1.num hv hg (hn.below bl), ?_⟩
  · rw [cell_of_row W2 g i _ _ _ hd2]
    simpa using hv
  · exact ((hb.trans (bl.mono hb.size)).grown hg (Nat.le_trans hB bl.size) fun b e => (C.vlt hmem e).1).setCell C.lo _
theorem tmod_nat' (a b : Nat) : ((a : Int)).tmod (b : Int) = ((a % b : Nat) : Int) := by
  rw [Int.tmod_eq_emod_of_nonneg (by omega)]
  rfl
set_option maxHeartbeats 16000000 in
theorem jdealt_any (s : Bool) (n : Nat) (h0 : 0 < n) (h1 : n ≤ 8) (a2 a3 : Option Addr) (len2 cap2 len3 cap3 : Nat) (ds : List (List Nat)) (l3 : List Nat) (w : World) (h2 : IsRwsB w a2 len2 cap2 ds) (h3 : l3.length = len3 ∧ By l3 ∧ Rd w w.heap.size a3 l3) (hd : ∀ d ∈ ds, d.length ≤ 60) (hl : ds.length ≤ 20) (hT : TabF w) :
    Calls Tryd.prog 17 #[.bool s, .int .i64 (n : Int), .slice a2 len2 cap2, .slice a3 len3 cap3] w fun e w' => ∃ g vs mA mn mc, e = .returned (.tuple #[.slice (some ⟨g, 0, none⟩) n n, .slice mA mn mc, .bool true]) ∧ Lan w.heap.size g (.slice mA mn mc) vs (jll s ds (jdl n (jlane l3 n) (jsF ds ds.length))) w' ∧ Below w.heap.size w w' := by
  obtain ⟨i0, hi0, hz0, hz1, hz2⟩ := info_parts fr_info
  obtain ⟨i9, hi9, hz90, hz91, hz92⟩ := info_parts int_info
  have hmk := run_make_row' (P := Tryd.prog) 54 57 (.slice none 0 0) 24 Tryd.underlying54 sp_info rfl .i64 .i64 n (by omega) (by omega)
  rw [madeCells_nil] at hmk
  have HT := Lib.hid hT
  have HP := Lib.hid h2
  have HD := Lib.hid h3
  have DS := Lib.hid (show (∀ d ∈ ds, d.length ≤ 60) ∧ ds.length ≤ 20 ∧ ds.length = len2 from ⟨hd, hl, h2.nl⟩)
  have NB := Lib.hid (show 0 < n ∧ n ≤ 8 from ⟨h0, h1⟩)
  obtain ⟨lane, hlane⟩ : ∃ f, Hid (jlane l3 n = f) := ⟨_, Lib.hid rfl⟩
  have LL := Lib.hid (show ∀ g, lane g < n from fun g => by rw [← hlane.out]; exact jlane_lt l3 h0 g)
  rw [hlane.out]
  clear hT h2 h3 hd hl h0 h1
  go_enter Tryd.func17, Tryd.ntmps17
  go_upto_region 2 with fail
  have C0 := Lib.hid (Lan.start (B := w.heap.size) w n (Nat.le_refl _))
  have B0 := Lib.hid ((Below.refl w.heap.size w).alloc (Nat.le_refl _) (.cells (List.replicate n (Value.slice none 0 0)).toArray 57))
  refine at_worldJ (fun W => Hid (Lan w.heap.size w.heap.size (.slice none 0 0) (List.replicate n (.slice none 0 0)) (List.replicate n []) W ∧ Below w.heap.size w W)) (Lib.hid ⟨C0.out, B0.out⟩) ?_
  clear C0 B0 hmk
  intro W0 C
  go_wp2_with fail
  go_loopw [12, 13, 14, 27] (fun mv nv kv iv wr => ∃ (i gg : Nat) (vs : List Value) (xs : List Int), i ≤ ds.length ∧ iv = .int .i64 (i : Int) ∧ nv = .int .i64 (gg : Int) ∧ kv = .int .i64 (gg : Int) ∧ Hid (gg = jsF ds i) ∧ Hid (Lan w.heap.size w.heap.size mv vs (jll s ds (jdl n lane gg)) wr) ∧ Hid (Orw shI 3 (fun _ => False) w.heap.size wr mv xs ∧ xs.length ≤ i) ∧ Hid (Below w.heap.size w wr)) (fun _ _ _ i _ => len2 - (intOf i).toNat)
  case atStart =>
    exact ⟨0, 0, _, [], Nat.zero_le _, rfl, rfl, rfl, Lib.hid rfl, Lib.hid (by rw [show jll s ds (jdl n lane 0) = List.replicate n [] from by unfold jll jdl; rw [List.map_map]; apply List.ext_getElem?; intro i; simp [List.getElem?_map, List.getElem?_replicate]; split <;> simp [*]]; exact C.out.1), Lib.hid ⟨Orw.nil _ _ _ _ _, Nat.le_refl _⟩, Lib.hid C.out.2⟩
  case round =>
    clear C
    obtain ⟨i, gg, vs, xs, hi, rfl, rfl, rfl, GG, C, MN, B⟩ := hrel
    by_cases hlt : i < ds.length
    · obtain ⟨bp, op, x, Ak, ck, rfl, hbp, hx, y0, hck, hrd⟩ := HP.out.rd.rw_ (k := i) hlt
      have z0 := (B.out.cell (p := ⟨bp, _, none⟩) hbp).trans y0
      obtain ⟨dn, hdn⟩ : ∃ n, x.length = n := ⟨_, rfl⟩
      rw [hdn] at z0
      have DN := Lib.hid hdn
      have CK := Lib.hid (show dn ≤ ck by rw [← hdn]; exact hck)
      have RX := Lib.hid (hrd.keep (.of_below B.out))
      have BX := Lib.hid (HP.out.by_ x (List.mem_of_getElem? hx))
      have i1 : (i : Int) < (len2 : Int) := by have := DS.out; omega
      have i5 : ((i : Int)).toNat = i := by omega
      have i6 : (0 : Int) ≤ (i : Int) := by omega
      have EX := Lib.hid (show ds.getD i [] = x by simp [List.getD, hx])
      have D60 := Lib.hid (show dn ≤ 60 by rw [← hdn, ← EX.out]; exact js_getD DS.out.1 i)
      have F12 := Lib.hid (show jsF ds (i + 1) ≤ 1200 from jsF_1200 DS.out.1 DS.out.2.1 hlt)
      have HI := Lib.hid hlt
      obtain ⟨q5, hq5⟩ : ∃ q5, i % 5 = q5 := ⟨_, rfl⟩
      obtain ⟨r5, hr5⟩ : ∃ r5, 1 + q5 = r5 := ⟨_, rfl⟩
      have t5 : (i : Int).tmod 5 = (q5 : Int) := by rw [show (i : Int).tmod 5 = ((i % 5 : Nat) : Int) from tmod_nat' i 5, hq5]
      have e5 : IntKind.i64.wrap (1 + (q5 : Int)) = (r5 : Int) := by rw [IntKind.wrap_i64]; omega
      have SPL := fun W (h : TabF W) (hr : Rd W W.heap.size Ak x) => jsplit s ds i x dn ck Ak W EX.out hr BX.out DN.out D60.out CK.out h F12.out
      rw [← GG.out, hq5, hr5] at SPL
      obtain ⟨z, hz⟩ : ∃ z, Hid (frcnt r5 dn = z) := ⟨_, Lib.hid rfl⟩
      rw [hz.out] at SPL
      have LZ := Lib.hid (show (jsL s ds i).length = z by rw [jsL_len, EX.out, DN.out, hq5, hr5]; exact hz.out)
      have Z1 : ¬ (z : Int) = 0 := by have : 0 < z := by rw [← hz.out]; exact Nat.succ_pos _
                                      omega
      have Z2 : ((z : Int) == 0) = false := beq_eq_false_iff_ne.2 Z1
      obtain ⟨g2, hg2⟩ : ∃ g2, Hid (jsF ds (i + 1) = g2) := ⟨_, Lib.hid rfl⟩
      rw [hg2.out] at SPL
      have wrk : IntKind.i64.wrap ((i : Int) + 1) = ((i + 1 : Nat) : Int) := by rw [IntKind.wrap_i64]; have := DS.out; omega
      clear y0 hck hrd hx hdn hlt hr5 hq5
      go_upto_region 11 with (go_at_call 19; (with_reducible refine (SPL _ (HT.out.below B.out) RX.out.rd).mono ?_); rintro e w5 ⟨A5, c5, rfl, k1, k2, k3⟩; have C5 := Lib.hid (C.out.below k3); have PC := Lib.hid (C.out.fresh B.out.size (fun b e => (MN.out.1.lt e).2) k2); have M5 := Lib.hid (MN.out.1.below k3); have B5 := Lib.hid (B.out.trans (k3.mono B.out.size)); have MN0 := Lib.hid (show xs.length ≤ i from MN.out.2); clear k1 k2 k3; dsimp only)
      clear C MN B t5 e5 SPL z0 RX
      have WM := Lib.hid (show ∀ g, u12.ownBlock = some g → w.heap.size ≤ g ∧ g < w5.heap.size from fun g e => M5.out.lt e)
      have XL := Lib.hid MN0.out
      go_upto_region 12 with (at_builtin; refine list_rows shI rfl _ _ 28 rfl 3 i9 (.int .i64 0) 8 Tryd.underlying28 hi9 hz90 hz91 hz92 rfl (by decide) (fun _ => True) (fun i => w5.heap.size ≤ i) w.heap.size u12 _ xs rfl (M5.out.below ((Below.refl _ _).alloc (Nat.le_refl _) _)).int_any rfl _ 1 1 [(z : Int)] rfl ((liti w5 (z : Int)).read.mono fun _ _ hf => hf.elim False.elim id) rfl (fun i _ h => ⟨trivial, fun e => by have := (WM.out i e).2; omega⟩) (by have := XL.out; have := DS.out; unfold maxLen; omega) (by have := XL.out; have := DS.out; omega) (Nat.le_trans B5.out.size ((Below.refl _ _).alloc (Nat.le_refl _) _).size) ?_; intro v8 w8 ho hg hm; have C8 := Lib.hid (Lan.many (C5.out.below ((Below.refl _ _).alloc (Nat.le_refl _) _)) hg hm); have P8 := Lib.hid (lps_many hg hm (Rws.below PC.out ((Below.refl _ _).alloc (Nat.le_refl _) _))); have M8 := Lib.hid (show Orw shI 3 (fun _ => False) w.heap.size w8 v8 (xs ++ [(z : Int)]) from ho.int_any); have B8 := Lib.hid ((B5.out.alloc B5.out.size _).grown hg (Nat.le_trans B5.out.size ((Below.refl _ _).alloc (Nat.le_refl _) _).size) fun g e => (WM.out g e).1); clear ho hg hm; dsimp only)
      clear C5 PC M5 B5 WM
      go_wp2_with fail
      go_loopw [14, 58] (fun kv tv wr => ∃ (t g : Nat) (vs : List Value), t ≤ z ∧ tv = .int .i64 (t : Int) ∧ kv = .int .i64 (g : Int) ∧ Hid (g = jsF ds i + t) ∧ Hid (Lan w.heap.size w.heap.size v8 vs (jll s ds (jdl n lane g)) wr) ∧ Hid (Rws shF (LnF w.heap.size w.heap.size v8 vs) wr A5 (jsL s ds i)) ∧ Hid (Orw shI 3 (fun _ => False) w.heap.size wr v8 (xs ++ [(z : Int)])) ∧ Hid (Below w.heap.size w wr)) (fun _ tv _ => z - (intOf tv).toNat)
      case atStart => exact ⟨0, gg, vs, Nat.zero_le _, rfl, rfl, GG, C8, P8, M8, B8⟩
      case round =>
        clear C8 P8 M8 B8
        obtain ⟨t, g, vs, ht, rfl, rfl, HG, C, PC, MN, B⟩ := hrel
        by_cases hlt : t < z
        · obtain ⟨ba, oa, y, Ay, cy, rfl, hba, hy, v0, v1, v2, v3, hcy, hry⟩ := Rws.pc PC.out (k := t) (by rw [LZ.out]; exact hlt)
          obtain ⟨m, hm⟩ : ∃ n, y.d.length = n := ⟨_, rfl⟩
          rw [hm] at v3
          have HM := Lib.hid hm
          have CY := Lib.hid (show m ≤ cy by rw [← hm]; exact hcy)
          have HY := Lib.hid (show (jsX s ds ds.length)[g]? = some y by rw [HG.out, jsX_at HI.out (by rw [← jsL_len (s := s), LZ.out]; exact hlt)]; exact hy)
          have F20 := Lib.hid (show jsF ds ds.length ≤ 1200 from jsF_1200 DS.out.1 DS.out.2.1 (Nat.le_refl _))
          have GL := Lib.hid (show g < 1200 by have h := (List.getElem?_eq_some_iff.1 HY.out).1; rw [jsX_len] at h; have := F20.out; omega)
          have j1 : (t : Int) < (z : Int) := by omega
          have j5 : ((t : Int)).toNat = t := by omega
          have j6 : (0 : Int) ≤ (t : Int) := by omega
          have wg : IntKind.i64.wrap ((g : Int) + 1) = ((g + 1 : Nat) : Int) := by rw [IntKind.wrap_i64]; have := GL.out; omega
          have wt : IntKind.i64.wrap ((t : Int) + 1) = ((t + 1 : Nat) : Int) := by rw [IntKind.wrap_i64]; have h := HG.out; have := GL.out; omega
          have HZ := Lib.hid hlt
          have RY := Lib.hid hry
          clear hm hcy hry hy hlt
          go_upto_region 15 with fail
          refine at_worldJ (fun W => Hid (Lan w.heap.size w.heap.size v8 vs (jll s ds (jdl n lane g)) W ∧ Rws shF (LnF w.heap.size w.heap.size v8 vs) W (some ⟨ba, oa, none⟩) (jsL s ds i) ∧ Orw shI 3 (fun _ => False) w.heap.size W v8 (xs ++ [(z : Int)]) ∧ Below w.heap.size w W ∧ FrX W wr.heap.size 50 y.b y.e y.n Ay m cy ∧ RdF (LnF w.heap.size w.heap.size v8 vs) W Ay y.d)) (Lib.hid ⟨C.out.below ((Below.refl _ _).alloc (Nat.le_refl _) _), Rws.below PC.out ((Below.refl _ _).alloc (Nat.le_refl _) _), MN.out.below ((Below.refl _ _).alloc (Nat.le_refl _) _), B.out.alloc B.out.size _, FrX.new _ _ _ _ _ _ _ _, RY.out.keep (.of_below ((Below.refl _ _).alloc (Nat.le_refl _) _))⟩) ?_
          clear C PC RY v0 v1 v2 v3 MN B
          generalize wr.heap.size = gb
          intro W C
          have LW := Lib.hid (show lane g = if 0 < len3 then l3.getD (g % len3) 0 % n else 0 by rw [← hlane.out, ← HD.out.1]; rfl)
          rcases Nat.eq_zero_or_pos len3 with d0 | d0
          · have n3 : ¬ (0 : Int) < (len3 : Int) := by omega
            have LT := Lib.hid (show lane g = 0 by rw [LW.out, if_neg (by omega)])
            clear d0
            have LL0 := LL.out g
            rw [LT.out] at LL0
            obtain ⟨v, hv⟩ : ∃ v, vs[0]? = some v := ⟨_, List.getElem?_eq_getElem (by rw [C.out.1.ln, jll_len, jdl_len]; exact LL0)⟩
            obtain ⟨lq, hlq⟩ : ∃ l, (jll s ds (jdl n lane g))[0]? = some l := ⟨_, List.getElem?_eq_getElem (by rw [jll_len, jdl_len]; exact LL0)⟩
            obtain ⟨Av, cv, hvv, -, -, -⟩ := (C.out.1.rw 0 v lq hv hlq).slice
            subst hvv
            have JS := Lib.hid (jll_succ (s := s) (n := n) (lane := lane) (LL.out g) HY.out (by rw [LT.out]; exact hlq))
            obtain ⟨A1, c1, W2, hrun, y8, z8, D1, D2, D3, D4⟩ := C.out.1.turn C.out.2.2.2.1 (fun b e => (C.out.2.2.1.lt e).2) hv hlq (Nat.le_trans (jll_le hlq) (Nat.le_of_lt GL.out)) HM.out CY.out C.out.2.2.2.2.2 C.out.2.1 C.out.2.2.1
            have cl0 : ∀ X, Below W.heap.size W X → X.cell? ⟨w.heap.size, 0, none⟩ = some (.slice Av lq.length cv) := fun X hX => (hX.cell (p := ⟨w.heap.size, _, none⟩) C.out.1.lt).trans (by rw [cell_of_row W w.heap.size _ _ _ _ C.out.1.hd]; simpa using hv)
            have BDr : Below W.heap.size W W.drew := (Below.refl _ _).drew
            have c80 := cl0 W (Below.refl _ _)
            have c82 := cl0 _ ((Below.refl W.heap.size W).alloc (Nat.le_refl _) (.cells #[.bool y.b, .bool y.e, .int .i64 y.n, .slice Ay m cy] 50))
            obtain ⟨nq, hnq⟩ : ∃ n, lq.length = n := ⟨_, rfl⟩
            rw [hnq] at hrun y8 c80 c82 D1 D2 D3 D4
            have D := Lib.hid (show Lan w.heap.size w.heap.size v8 _ (jll s ds (jdl n lane (g + 1))) _ ∧ _ ∧ _ ∧ _ from ⟨by rw [JS.out, LT.out]; exact D1, D2, D3, D4⟩)
            have x0 := C.out.2.2.2.2.1.c0; have x1 := C.out.2.2.2.2.1.c1; have x2 := C.out.2.2.2.2.1.c2; have x3c := C.out.2.2.2.2.1.c3
            have l1 : (0 : Int) < (n : Int) := by omega
            have l2 : (0 : Int) ≤ (0 : Int) := by omega
            have l3' : ((0 : Int)).toNat = 0 := by omega
            have HRUN := Lib.hid hrun
            clear D1 D2 D3 D4 hrun cl0 BDr hnq hv hlq
            go_upto_region 18 with fail
            go_region_law (refine step_append_runJ rfl _ _ 57 57 rfl (.slice Av nq cv) (.slice (some ⟨W.heap.size, 0, none⟩) 1 1) (by simp [Act.eval]) (by simp [Act.eval]) HRUN.out ?_)
            all_goals
              clear x0 x1 x2 x3c c80 c82 y8 z8 HRUN C
              go_wp2_with fail
              exact ⟨⟨t + 1, g + 1, _, HZ.out, by rw [show ((t + 1 : Nat) : Int) = (t : Int) + 1 from by omega], by rw [show ((g + 1 : Nat) : Int) = (g : Int) + 1 from by omega], Lib.hid (by rw [HG.out]; rfl), Lib.hid D.out.1, Lib.hid D.out.2.1, Lib.hid D.out.2.2.1, Lib.hid D.out.2.2.2⟩, by show z - ((t : Int) + 1).toNat < z - ((t : Int)).toNat; have := HZ.out; omega⟩
          · obtain ⟨bd, od, rfl, hbd, hcd⟩ := HD.out.2.2 (by rw [HD.out.1]; exact d0)
            obtain ⟨r3, hr3⟩ : ∃ r, g % len3 = r := ⟨_, rfl⟩
            have r3l : r3 < len3 := by rw [← hr3]; exact Nat.mod_lt _ d0
            obtain ⟨x3, hx3⟩ : ∃ x, l3[r3]? = some x := ⟨_, List.getElem?_eq_getElem (by rw [HD.out.1]; exact r3l)⟩
            have x3b : x3 < 256 := HD.out.2.1 x3 (List.mem_of_getElem? hx3)
            have z3 := (C.out.2.2.2.1.cell (p := ⟨bd, _, none⟩) hbd).trans (hcd r3 x3 hx3)
            have t3 : (g : Int).tmod (len3 : Int) = (r3 : Int) := by rw [tmod_nat', hr3]
            have n3 : ¬ (len3 : Int) = 0 := by omega
            have m3 : (0 : Int) < (len3 : Int) := by omega
            have p3 : (0 : Int) ≤ (r3 : Int) := by omega
            have q3 : (r3 : Int) < (len3 : Int) := by omega
            have s3 : ((r3 : Int)).toNat = r3 := by omega
            obtain ⟨tt, htt⟩ : ∃ tt, x3 % n = tt := ⟨_, rfl⟩
            have u3 : (x3 : Int).tmod (n : Int) = (tt : Int) := by rw [tmod_nat' x3 n, htt]
            have n0 : ¬ (n : Int) = 0 := by have := NB.out; omega
            have w3' : IntKind.i64.wrap (x3 : Int) = (x3 : Int) := IntWalk.i64_in _ (by omega)
            have LT := Lib.hid (show lane g = tt by rw [LW.out, if_pos d0, hr3, ← htt]; simp [List.getD, hx3])
            have LL0 := LL.out g
            rw [LT.out] at LL0
            clear hcd hbd hr3 r3l hx3 x3b htt d0
            obtain ⟨v, hv⟩ : ∃ v, vs[tt]? = some v := ⟨_, List.getElem?_eq_getElem (by rw [C.out.1.ln, jll_len, jdl_len]; exact LL0)⟩
            obtain ⟨lq, hlq⟩ : ∃ l, (jll s ds (jdl n lane g))[tt]? = some l := ⟨_, List.getElem?_eq_getElem (by rw [jll_len, jdl_len]; exact LL0)⟩
            obtain ⟨Av, cv, hvv, -, -, -⟩ := (C.out.1.rw tt v lq hv hlq).slice
            subst hvv
            have JS := Lib.hid (jll_succ (s := s) (n := n) (lane := lane) (LL.out g) HY.out (by rw [LT.out]; exact hlq))
            obtain ⟨A1, c1, W2, hrun, y8, z8, D1, D2, D3, D4⟩ := C.out.1.turn C.out.2.2.2.1 (fun b e => (C.out.2.2.1.lt e).2) hv hlq (Nat.le_trans (jll_le hlq) (Nat.le_of_lt GL.out)) HM.out CY.out C.out.2.2.2.2.2 C.out.2.1 C.out.2.2.1
            have cl0 : ∀ X, Below W.heap.size W X → X.cell? ⟨w.heap.size, tt, none⟩ = some (.slice Av lq.length cv) := fun X hX => (hX.cell (p := ⟨w.heap.size, _, none⟩) C.out.1.lt).trans (by rw [cell_of_row W w.heap.size _ _ _ _ C.out.1.hd]; simpa using hv)
            have BDr : Below W.heap.size W W.drew := (Below.refl _ _).drew
            have c80 := cl0 W (Below.refl _ _)
            have c82 := cl0 _ ((Below.refl W.heap.size W).alloc (Nat.le_refl _) (.cells #[.bool y.b, .bool y.e, .int .i64 y.n, .slice Ay m cy] 50))
            obtain ⟨nq, hnq⟩ : ∃ n, lq.length = n := ⟨_, rfl⟩
            rw [hnq] at hrun y8 c80 c82 D1 D2 D3 D4
            have D := Lib.hid (show Lan w.heap.size w.heap.size v8 _ (jll s ds (jdl n lane (g + 1))) _ ∧ _ ∧ _ ∧ _ from ⟨by rw [JS.out, LT.out]; exact D1, D2, D3, D4⟩)
            have x0 := C.out.2.2.2.2.1.c0; have x1 := C.out.2.2.2.2.1.c1; have x2 := C.out.2.2.2.2.1.c2; have x3c := C.out.2.2.2.2.1.c3
            have l1 : (tt : Int) < (n : Int) := by omega
            have l2 : (0 : Int) ≤ (tt : Int) := by omega
            have l3' : ((tt : Int)).toNat = tt := by omega
            have HRUN := Lib.hid hrun
            clear D1 D2 D3 D4 hrun cl0 BDr hnq hv hlq
            go_upto_region 18 with fail
            go_region_law (refine step_append_runJ rfl _ _ 57 57 rfl (.slice Av nq cv) (.slice (some ⟨W.heap.size, 0, none⟩) 1 1) (by simp [Act.eval]) (by simp [Act.eval]) HRUN.out ?_)
            all_goals
              clear x0 x1 x2 x3c c80 c82 y8 z8 HRUN C
              go_wp2_with fail
              exact ⟨⟨t + 1, g + 1, _, HZ.out, by rw [show ((t + 1 : Nat) : Int) = (t : Int) + 1 from by omega], by rw [show ((g + 1 : Nat) : Int) = (g : Int) + 1 from by omega], Lib.hid (by rw [HG.out]; rfl), Lib.hid D.out.1, Lib.hid D.out.2.1, Lib.hid D.out.2.2.1, Lib.hid D.out.2.2.2⟩, by show z - ((t : Int) + 1).toNat < z - ((t : Int)).toNat; have := HZ.out; omega⟩
        · have j1 : ¬ (t : Int) < (z : Int) := by omega
          have he : t = z := by omega
          have EG : g2 = g := by rw [HG.out, ← hg2.out, he, ← LZ.out, jsL_len]; rfl
          subst EG
          go_wp2_with fail
          exact ⟨⟨i + 1, g2, vs, xs ++ [(z : Int)], HI.out, by rw [show ((i + 1 : Nat) : Int) = (i : Int) + 1 from by omega], rfl, rfl, Lib.hid hg2.out.symm, C, Lib.hid ⟨MN.out, by rw [List.length_append]; have := XL.out; show xs.length + 1 ≤ i + 1; omega⟩, B⟩, by show len2 - ((i : Int) + 1).toNat < len2 - ((i : Int)).toNat; have := HI.out; have := DS.out; omega⟩
    · have he : i = ds.length := by omega
      have i1 : ¬ (i : Int) < (len2 : Int) := by have := DS.out; omega
      obtain rfl : gg = jsF ds i := GG.out
      subst he
      obtain ⟨mA, mc, hv, -, -, -⟩ := MN.out.1.slice
      subst hv
      go_wp2_with fail
      refine bodyPost_ret (results_tmp3F rfl _ _ _ _ _ rfl rfl rfl) rfl ?_
      exact ⟨_, vs, mA, _, mc, rfl, C.out, B.out⟩
end

section
set_option maxRecDepth 4000
open Go.RowKit Go.Maps

structure LaC (w : World) (b : Nat) (q : Jq) (gv : Value) (g : Nat) (ls : List (List Pc)) (W : World) : Prop where
  ex : ∃ vs : List Value, W.heap[g]? = some (.cells vs.toArray 57 (0, 0)) ∧ vs.length = ls.length ∧ ∀ (i : Nat) v l, vs[i]? = some v → ls[i]? = some l → ∃ A c, v = .slice A l.length c ∧ l.length ≤ c ∧ Rws shF (fun i => (¬ q.own b i ∧ gv.ownBlock ≠ some i) ∧ i ≠ g) W A l
  ng : ¬ q.own b g
  nv : gv.ownBlock ≠ some g
  lo : w.heap.size ≤ g
section
variable {w W W' : World} {b g : Nat} {q q' : Jq} {gv v' : Value} {ls : List (List Pc)}
theorem LaC.lt (h : LaC w b q gv g ls W) : g < W.heap.size := by
  obtain ⟨vs, h1, _⟩ := h.ex
  exact (Array.getElem?_eq_some_iff.1 h1).1
theorem LaC.below (h : LaC w b q gv g ls W) (hb : Below W.heap.size W W') : LaC w b q gv g ls W' := by
  obtain ⟨vs, h1, h2, h3⟩ := h.ex
  refine ⟨⟨vs, (hb.block g h.lt).trans h1, h2, fun i v l hv hl => ?_⟩, h.ng, h.nv, h.lo⟩
  obtain ⟨A, c, e, h4, h5⟩ := h3 i v l hv hl
  exact ⟨A, c, e, h4, h5.below hb⟩
theorem LaC.step (h : LaC w b q gv g ls W) (hS : Ps b q W q' W') : LaC w b q' gv g ls W' := by
  obtain ⟨vs, h1, h2, h3⟩ := h.ex
  refine ⟨⟨vs, (hS.keeps.block g h.lt h.ng).trans h1, h2, fun i v l hv hl => ?_⟩, hS.out h.lt h.ng, h.nv, h.lo⟩
  obtain ⟨A, c, e, h4, h5⟩ := h3 i v l hv hl
  exact ⟨A, c, e, h4, ((h5.mono (G := fun i => ((¬ q.own b i ∧ gv.ownBlock ≠ some i) ∧ i ≠ g) ∧ i < W.heap.size) fun _ hi hn => ⟨hn, hi⟩).keep (hS.keeps.less fun _ _ h => h.1.1.1)).mono fun _ _ h1 => ⟨⟨hS.out h1.2 h1.1.1.1, h1.1.1.2⟩, h1.1.2⟩⟩
theorem LaC.got (h : LaC w b q gv g ls W) (hg : W.grownBy W' gv.ownBlock) (hm : Mv W.heap.size gv v') : LaC w b q v' g ls W' := by
  obtain ⟨vs, h1, h2, h3⟩ := h.ex
  have hO : Offs (fun i => gv.ownBlock = some i) W W' := .of_grown hg fun _ h => h
  refine ⟨⟨vs, (hO.block g h.lt h.nv).trans h1, h2, fun i v l hv hl => ?_⟩, h.ng, fun e => (hm g e).elim h.nv fun e2 => by have := h.lt; omega, h.lo⟩
  obtain ⟨A, c, e, h4, h5⟩ := h3 i v l hv hl
  exact ⟨A, c, e, h4, ((h5.mono (G := fun i => ((¬ q.own b i ∧ gv.ownBlock ≠ some i) ∧ i ≠ g) ∧ i < W.heap.size) fun _ hi hn => ⟨hn, hi⟩).keep (.of_offs hO fun _ hi e => hi.1.1.2 e)).mono fun i _ h1 => ⟨⟨h1.1.1.1, fun e => (hm i e).elim h1.1.1.2 fun e2 => absurd h1.2 (Nat.not_lt.2 e2)⟩, h1.1.2⟩⟩
/-- Behind dealt, and New. -/
theorem Lan.lac {B : Nat} {mv : Value} {vs : List Value} (h : Lan B g mv vs ls W) (hB : w.heap.size ≤ B) (hb : Below W.heap.size W W') (ho : ∀ i, q.own b i → W.heap.size ≤ i) : LaC w b q (.slice none 0 0) g ls W' := by
  have h' := h.below hb
  refine ⟨⟨vs, h'.hd, h.ln, fun i v l hv hl => ?_⟩, fun e => absurd h.lt (Nat.not_lt.2 (ho g e)), (fun e => by cases e), Nat.le_trans hB h.lo⟩
  have hr := h.rw i v l hv hl
  have hv' : ∀ k, v.ownBlock = some k → k ≠ g := fun k hk e => h.og v (List.mem_of_getElem? hv) (e ▸ hk)
  obtain ⟨A, c, e, h1, _⟩ := hr.shape
  subst e
  refine ⟨A, c, rfl, h1, ?_⟩
  have h2 := hr.read2 (G := fun i => i < W.heap.size → i ≠ g) (fun i hi _ => hi.2.1) (fun i hi _ _ => hv' i hi)
  exact (h2.mono (G := fun i => i ≠ g ∧ i < W.heap.size) fun i hi hf => ⟨hf hi, hi⟩).below hb |>.mono fun i _ hi => ⟨⟨fun e => absurd hi.2 (Nat.not_lt.2 (ho i e)), fun e => by cases e⟩, hi.1⟩
/-- A lane, as the code reads it. -/
theorem LaC.at_ (h : LaC w b q gv g ls W) {i : Nat} {l : List Pc} (hl : ls[i]? = some l) : ∃ A c, W.cell? ⟨g, i, none⟩ = some (.slice A l.length c) ∧ l.length ≤ c := by
  obtain ⟨vs, h1, h2, h3⟩ := h.ex
  obtain ⟨v, hv⟩ : ∃ v, vs[i]? = some v := ⟨_, List.getElem?_eq_getElem (by have := (List.getElem?_eq_some_iff.1 hl).1; omega)⟩
  obtain ⟨A, c, e, h4, _⟩ := h3 i v l hv hl
  subst e
  exact ⟨A, c, by rw [cell_of_row W g i _ _ _ h1]; simpa using hv, h4⟩
/-- Its first piece, and the lane behind it. -/
theorem LaC.pop (h : LaC w b q gv g ls W) {i : Nat} {x : Pc} {l : List Pc} (hl : ls[i]? = some (x :: l)) :
    ∃ ba oa c Ax cx, W.cell? ⟨g, i, none⟩ = some (.slice (some ⟨ba, oa, none⟩) (l.length + 1) c) ∧ l.length + 1 ≤ c ∧ W.cell? ⟨ba, oa, none⟩ = some (.bool x.b) ∧ W.cell? ⟨ba, oa + 1, none⟩ = some (.bool x.e) ∧ W.cell? ⟨ba, oa + 2, none⟩ = some (.int .i64 x.n) ∧ W.cell? ⟨ba, oa + 3, none⟩ = some (.slice Ax x.d.length cx) ∧ x.d.length ≤ cx ∧ RdF (fun i => ¬ q.own b i ∧ i ≠ g) W Ax x.d ∧ W.frozen? ⟨g, i, none⟩ = false ∧
      ∀ W', Below W.heap.size W W' → ∀ A', (A' = some ⟨ba, oa, none⟩ ∧ c - 1 = 0) ∨ A' = some ⟨ba, oa + 4, none⟩ → LaC w b q gv g (ls.set i l) (W'.setCell ⟨g, i, none⟩ (.slice A' l.length (c - 1))) := by
  obtain ⟨vs, h1, h2, h3⟩ := h.ex
  have hil := (List.getElem?_eq_some_iff.1 hl).1
  obtain ⟨v, hv⟩ : ∃ v, vs[i]? = some v := ⟨_, List.getElem?_eq_getElem (by omega)⟩
  obtain ⟨A, c, e, h4, h5⟩ := h3 i v _ hv hl
  subst e
  obtain ⟨ba, oa, y, Ax, cx, rfl, hba, hy, v0, v1, v2, v3, hcx, hrx⟩ := h5.pc (k := 0) (by simp)
  injection hy with hy
  subst hy
  simp only [Nat.zero_mul, Nat.add_zero] at v0 v1 v2 v3
  refine ⟨ba, oa, c, Ax, cx, by rw [cell_of_row W g i _ _ _ h1]; simpa using hv, h4, v0, v1, v2, v3, hcx, hrx.mono fun _ _ h => ⟨h.1.1, h.2⟩, frozen_of_row W g i _ _ h1, fun W' hb A' hA => ?_⟩
  have hS : Offs (fun k => k = g) W' (W'.setCell ⟨g, i, none⟩ (.slice A' l.length (c - 1))) := Offs.set W' g i _ rfl
  have h1' := (hb.block g h.lt).trans h1
  have h6 := heap_setCell_same W' g i _ _ (.slice A' l.length (c - 1)) h1'
  refine ⟨⟨vs.set i (.slice A' l.length (c - 1)), by rw [h6]; simp, by rw [List.length_set, List.length_set]; exact h2, fun k u m hu hm => ?_⟩, h.ng, h.nv, h.lo⟩
  rw [List.getElem?_set] at hu hm
  by_cases e : i = k
  · rw [if_pos e, if_pos (by omega)] at hu
    rw [if_pos e, if_pos hil] at hm
    injection hu with hu
    injection hm with hm
    subst hu; subst hm
    refine ⟨A', c - 1, rfl, by have h4' : l.length + 1 ≤ c := h4; omega, ?_⟩
    intro hpos
    rcases hA with ⟨_, hA⟩ | rfl
    · have h4' : l.length + 1 ≤ c := h4
      omega
    · obtain ⟨b2, o2, e2, g1, g2, g3⟩ := (h5.below hb).keep (w' := W'.setCell ⟨g, i, none⟩ (.slice (some ⟨ba, oa + 4, none⟩) l.length (c - 1))) (.of_offs hS fun k hk e => hk.2 e) (by simp)
      injection e2 with e2
      injection e2 with e2 e3
      subst e2; subst e3
      refine ⟨ba, oa + 4, rfl, g1, g2, fun k y hk => ?_⟩
      obtain ⟨cs, f1, f2⟩ := g3 (k + 1) y (by simpa using hk)
      refine ⟨cs, f1, fun j u hj => ?_⟩
      have := f2 j u hj
      rw [show oa + ((k + 1) * shF.sz + j) = oa + 4 + (k * shF.sz + j) from by show oa + ((k + 1) * 4 + j) = oa + 4 + (k * 4 + j); omega] at this
      exact this
  · rw [if_neg e] at hu hm
    obtain ⟨A2, c2, e2, f1, f2⟩ := h3 k u m hu hm
    exact ⟨A2, c2, e2, f1, (f2.below hb).keep (.of_offs hS fun k hk e => hk.2 e)⟩
/-- The store into the lanes is no matter to the rest. -/
theorem SoC.store {M : Int} {j : Jn} {ol : List Int} {G : List Ev} (C : SoC w b M j q ol gv G (.slice none 0 0) [] W) (L : LaC w b q gv g ls W) (i : Nat) (v : Value) : SoC w b M j q ol gv G (.slice none 0 0) [] (W.setCell ⟨g, i, none⟩ v) := by
  obtain ⟨vs, h1, h2, h3⟩ := L.ex
  have hS : Offs (fun k => k = g) W (W.setCell ⟨g, i, none⟩ v) := Offs.set W g i _ rfl
  have hc : ∀ (k : Nat) (x : Int), (vs.toArray)[k]? ≠ some (Value.int .u8 x) := by
    intro k x e
    have e' : vs[k]? = some (Value.int .u8 x) := by simpa using e
    have hk := (List.getElem?_eq_some_iff.1 e').1
    obtain ⟨A, c, e3, _⟩ := h3 k _ _ e' (List.getElem?_eq_getElem (by omega))
    cases e3
  have hq : Qt W (.slice (some ⟨g, 0, none⟩) 0 0) := fun k hk => by
    have hk' : some g = some k := hk
    injection hk' with hk'
    subst hk'
    exact ⟨_, _, _, h1, hc⟩
  refine ⟨⟨C.lw.bel.setCell L.lo v, C.lw.pw.scratch hS L.ng h1 hc, C.lw.own, C.lw.ok, C.lw.mo, C.lw.st, C.lw.fr⟩, ?_, C.gq.keep (F := fun k => k ≠ g) (.of_offs hS fun k hk e => hk e) (fun k hk e => L.nv (e ▸ hk)), C.gn, Orw.nil _ _ _ _ _, Qt.nil _, (fun k e => by cases e), fun k _ e => by cases e⟩
  exact ((C.gr.ev_off hq).keep (.of_offs hS fun k hk e => hk.elim (fun h => h.2 (by rw [e]; rfl)) fun h => L.nv (e ▸ h))).mono fun _ _ h => h.1
end
/-- A piece is fed. -/
theorem so_feedA {w W : World} {b : Nat} {j : Jn} {q : Jq} {ol : List Int} {gv wv : Value} {G : List Ev} {U : List (List Nat)} {s : Bool} {ds : List (List Nat)} {n c : Nat} {lane : Nat → Nat} {rem : List (List Nat)} (C : SoC w b ((c : Int) * (frmod s : Int)) j q ol gv G wv U W) (S : Jla s ds n lane rem c G j) (hn : 0 < n) {k g : Nat} {r : List Nat} {x : Pc} (hi : rem[k]? = some (g :: r)) (hx : (jsX s ds ds.length)[g]? = some x) (hF : jsF ds ds.length ≤ 1200) (hc : c < 1200) (A : Option Addr) (dn dc : Nat) (hd : x.d.length = dn) (hd2 : dn ≤ 60) (hdc : dn ≤ dc) (hr : RdF (fun i => ¬ q.own b i) W A x.d) (hmn : q.mn ≤ c) :
    Calls Tryd.prog 15 #[.pointer (some ⟨b, 0, none⟩), .int .i64 (k : Int), pvV x.b x.e x.n A dn dc] W fun e W' => ∃ J A' m c' q' ol', e = .returned (.tuple #[.slice A' m c', .int .i64 0]) ∧ SoC w b (((c + 1 : Nat) : Int) * (frmod s : Int)) J q' ol' gv G wv U W' ∧ Ps b q W q' W' ∧ Jla s ds n lane (rem.set k r) (c + 1) (G ++ J.told) J ∧ J.told.length = m ∧ m ≤ 2400 ∧ Rws shEv (fun i => ¬ q'.own b i ∧ gv.ownBlock ≠ some i) W' A' J.told ∧ q'.mn ≤ c + 1 := by
  have hgl : g < jsF ds ds.length := by have := (List.getElem?_eq_some_iff.1 hx).1; rwa [jsX_len] at this
  have hk : k < n := by have := (List.getElem?_eq_some_iff.1 hi).1; rwa [S.rm.len] at this
  have hmod := js_mod s
  have hnum := jsX_num (by omega) hx
  have hM := js_mb s hc
  have hs := S.sh
  have hroom := S.room
  have hwt := S.wt
  have hln := S.ln
  have h0 : 0 ≤ x.n := by omega
  have h1 : x.n < (frmod j.sh : Int) := by rw [hs]; omega
  have FR := jfeed_room C.lw.ok (k := k) (by rw [hln]; exact hk) (p := x) (by omega) (by omega) (by rw [hroom]; omega) (by rw [hs]; have := hM.1; omega)
  have S2 := S.feed hn hi hx (by omega) (by omega)
  rw [hs, hM.2] at FR
  have hf := pfeed_any b j q ol ((c : Int) * (frmod s : Int)) _ k x A dn dc W C.lw.pw hr hd hdc C.lw.ok C.lw.mo rfl (by rw [hs]; exact hM.1) (by rw [hroom]; omega) (by rw [hln]; exact hk) h0 h1 (by omega) (by omega) (by omega) C.lw.fr
  refine hf.mono ?_
  rintro e W' ⟨v5, rfl, q5, ol5, A5, n5, c5, rfl, k1, k2, k3, k4, k5, k6, k7⟩
  refine ⟨jfeed j k x, A5, n5, c5, q5, ol5, rfl, C.step k4 k5 FR.1 (C.lw.mo.feed C.lw.ok (by rw [hln]; exact hk) h0 h1) FR.2.1 k7, k5, S2, k1, ?_, C.told k3, by omega⟩
  have a1 : ((jfeed j k x).told.length : Int) ≤ 2 * (jfeed j k x).next := FR.1.td
  have a2 := S2.next
  omega
/-- The flush behind all: nothing is told, nothing waits. -/
theorem so_flushA {w W : World} {b : Nat} {M : Int} {j : Jn} {q : Jq} {ol : List Int} {gv wv : Value} {G : List Ev} {U : List (List Nat)} (C : SoC w b M j q ol gv G wv U W) (hM : M ≤ 68719476736) (hw : j.wait = []) :
    Calls Tryd.prog 13 #[.pointer (some ⟨b, 0, none⟩)] W fun e W' => ∃ J A' c' q' ol', e = .returned (.slice A' 0 c') ∧ SoC w b M J q' ol' gv G wv U W' ∧ J.wait.length = 0 := by
  have FO := C.lw.ok.told.over2 (k := 0) (jstp_told C.lw.st) (Int.le_refl _) (by omega)
  refine (pflush_any b j q ol _ W C.lw.pw C.lw.ok C.lw.mo C.lw.st hM C.lw.fr).mono ?_
  rintro e W' ⟨v5, rfl, q5, ol5, A5, n5, c5, rfl, k1, k2, k3, k4, k5, k6, k7⟩
  have e1 : n5 = 0 := by rw [← k1, jflush_empty hw]; rfl
  subst e1
  exact ⟨jflush j, A5, c5, q5, ol5, rfl, C.step k4 k5 FO.1 C.lw.mo.flush FO.2.1 k7, by rw [jflush_empty hw, show ({ j with told := [] } : Jn).wait = j.wait from rfl, hw]; rfl⟩
end
end Go.Proofs.YtamdaepeogmboaaDoor
