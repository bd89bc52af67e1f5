/-
  An argument that is a piece, or a slice of pieces, opened: what it says, and how it lies. No condition. An argument that is a slice of acts (a piece and its link), opened: what it says, and how it lies. No condition.
-/
import Derived.Test.YtamdaepeogmboaaDoorFrgO
import Derived.ProofKit
import Derived.OpenShut
import Derived.Deep.Matrix
import Derived.Deep.Fields
import Derived.SizedLaws
import Derived.Test.YtamdaepeogmboaaDoorJoiO
namespace Go.Proofs.YtamdaepeogmboaaDoor
section
set_option maxRecDepth 4000
open Go.ChangeShapes Go.WideShapes Go.ChangeAt Go.RowKit Go.Deep

theorem frh_all_mem {H : Type} {P : Program} {e : TypeId} : ∀ {l : List (DataW H)} {d : DataW H}, d ∈ l → ∀ n ∈ d.weights P e, n ∈ DataW.weightsAll P e l
  | d' :: r, d, hd, n, hn => by
    simp only [DataW.weightsAll, List.mem_append]
    rcases List.mem_cons.1 hd with rfl | h
    · exact Or.inl hn
    · exact Or.inr (frh_all_mem h n hn)
theorem frh_cells : Tryd.prog.cellsOf 37 = 4 := by kernel_rfl
theorem frh_bytes : Tryd.prog.bytesOf 37 = 40 := by kernel_rfl
theorem frh_c22 : Tryd.prog.cellsOf 30 = 1 := by kernel_rfl
theorem frh_c5 : Tryd.prog.cellsOf 5 = 1 := by kernel_rfl
theorem frh_b5 : Tryd.prog.bytesOf 5 = 1 := by kernel_rfl
theorem frh_c4 : Tryd.prog.cellsOf 4 = 1 := by kernel_rfl
theorem frh_c3 : Tryd.prog.cellsOf 3 = 1 := by kernel_rfl
theorem frh_i64 {n : Int} (h : (Lit.int .i64 n).wf = true) : -9223372036854775808 ≤ n ∧ n ≤ 9223372036854775807 := by
  simp [Lit.wf, IntKind.min, IntKind.max, IntKind.signed, IntKind.bits] at h
  omega

/-- What the walk is told of a piece. -/
structure IsPc (w : World) (b e : Bool) (x : Int) (A : Option Addr) (n c : Nat) (l : List Nat) : Prop where
  lo : -9223372036854775808 ≤ x
  hi : x ≤ 9223372036854775807
  nl : l.length = n
  nc : n ≤ c
  by_ : By l
  rd : Rd w w.heap.size A l
/-- What the walk is told of a slice of pieces. -/
structure IsPcs (w : World) (a : Option Addr) (len cap : Nat) (l : List Pc) : Prop where
  nl : l.length = len
  nc : len ≤ cap
  most : len ≤ 140737488351232
  by_ : ByF l
  each : ∀ x ∈ l, x.d.length ≤ 140737488351232
  num : ∀ x ∈ l, -9223372036854775808 ≤ x.n ∧ x.n ≤ 9223372036854775807
  rd : Rws shF (fun _ => True) w a l

set_option maxRecDepth 8000 in
theorem open_bytesF {H : Type} {enc : TypeId × Value → H} {w : World} {base : Nat} {held : Bool} {fuel : Nat} {v : Value} {x : DataW H × List MemPlace}
    (h : DataW.trod enc Tryd.prog w base (fun _ => true) held fuel 30 [v] = some x) : ∃ a n c l, v = .slice a n c ∧ l.length = n ∧ n ≤ c ∧ By l ∧ Rd w w.heap.size a l ∧ ((∀ k ∈ x.1.weights Tryd.prog 30, k ≤ reachBytes) → n ≤ 140737488351232) := by
  rcases open_ints Tryd.underlying30 Tryd.underlying5 frh_c5 h with ⟨hcs, _⟩ | ⟨ad, len, cap, zs, hcs, _, hlc, hm, hz, hy, hcell, hwz⟩
  · simp at hcs
    exact ⟨none, 0, 0, [], hcs, rfl, Nat.le_refl _, By.nil, Rd.nil, fun _ => by omega⟩
  · simp at hcs
    have hz' : zs.length = cap := by simpa using hz
    obtain ⟨m, e1, e2, e3⟩ := rowBytes (w := w) (a := some ad) (len := len) (cap := cap) (zs := zs) (.inr ⟨ad, rfl, hlc, hm, hz', hcell, hwz⟩)
    refine ⟨some ad, len, cap, m, hcs, e1, hlc, e2, e3, fun hs => ?_⟩
    have hw : zs.length ≤ reachBytes := hs _ (by
      rw [hy]
      simp only [DataW.weights, Tryd.underlying30, frh_b5, List.mem_cons]
      refine .inl ?_
      simp only [lits, List.length_map, List.length_take, List.length_drop]
      omega)
    have hr : reachBytes = 140737488351232 := rfl
    omega

set_option maxRecDepth 8000 in
theorem open_fields {H : Type} {enc : TypeId × Value → H} {w : World} {base : Nat} {held : Bool} {fuel : Nat} {cs : List Value} {x : DataW H × List MemPlace}
    (hl : cs.length = 4) (h : DataW.trod enc Tryd.prog w base (fun _ => true) held fuel 37 cs = some x) :
    ∃ b e z A n c l, cs = [.bool b, .bool e, .int .i64 z, .slice A n c] ∧ IsPc w b e z A n c l ∧ ((∀ k ∈ x.1.weights Tryd.prog 37, k ≤ reachBytes) → n ≤ 140737488351232) := by
  obtain ⟨xs, n, _, hx, _, hlen, hg⟩ := DataW.trod_struct Tryd.underlying37 h
  match cs, hl with
  | [c0, c1, c2, c3], _ =>
    match xs, hlen with
    | [y0, y1, y2, y3], _ =>
      have g0 := hg 0 _ rfl
      have g1 := hg 1 _ rfl
      have g2 := hg 2 _ rfl
      have g3 := hg 3 _ rfl
      simp [frh_c22, frh_c4, frh_c3] at g0 g1 g2 g3
      have hd := congrArg Prod.fst hx
      simp only at hd
      obtain ⟨b0, e0, _⟩ := DataW.trod_bool Tryd.underlying4 g0
      obtain ⟨b1, e1, _⟩ := DataW.trod_bool Tryd.underlying4 g1
      obtain ⟨z2, e2, _, s2⟩ := DataW.trod_int Tryd.underlying3 g2
      simp at e0 e1 e2
      obtain ⟨A, m, c, l, e3, f3, k3, b3, r3, m3⟩ := open_bytesF g3
      subst e0 e1 e2 e3
      refine ⟨b0, b1, z2, A, m, c, l, rfl, ⟨(frh_i64 s2).1, (frh_i64 s2).2, f3, k3, b3, r3⟩, fun hs => m3 (fun k hk => ?_)⟩
      rw [hd] at hs
      simp only [DataW.weights, Tryd.underlying37] at hs
      exact hs k (DataW.weights_mem_each (j := 3) (t := 30) rfl rfl k hk)

set_option maxRecDepth 8000 in
theorem open_pc {H : Type} {enc : TypeId × Value → H} {w : World} {base : Nat} {held : Bool} {r : Reach} {b0 : Nat} {v : Value} {d : DataW H} {p : List MemPlace}
    (hv : Value.okWide Tryd.prog w r b0 37 v) (h : DataW.Trod enc Tryd.prog w base (fun _ => true) held 37 v d p) :
    ∃ b e z A n c l, v = fV b e z A n c ∧ IsPc w b e z A n c l := by
  obtain ⟨cs, rfl, hsz⟩ := okWide_struct Tryd.underlying37 hv
  obtain ⟨cs⟩ := cs
  obtain ⟨fuel, hf⟩ := h
  have hf' : DataW.trod enc Tryd.prog w base (fun _ => true) held fuel 37 cs = some (d, p) := hf
  obtain ⟨b, e, z, A, n, c, l, hcs, hp, _⟩ := open_fields (by simpa [frh_cells] using hsz) hf'
  have hcs' : cs = [.bool b, .bool e, .int .i64 z, .slice A n c] := by simpa [Value.cells] using hcs
  subst hcs'
  exact ⟨b, e, z, A, n, c, l, rfl, hp⟩
end

section
set_option maxRecDepth 4000
open Go.ChangeShapes Go.WideShapes Go.ChangeAt Go.RowKit Go.Deep

theorem fra_cells : Tryd.prog.cellsOf 39 = 5 := by kernel_rfl
theorem fra_bytes : Tryd.prog.bytesOf 39 = 48 := by kernel_rfl
/-- What the walk is told of a slice of acts. -/
structure IsActs (w : World) (a : Option Addr) (len cap : Nat) (l : List (Int × Pc)) : Prop where
  nl : l.length = len
  nc : len ≤ cap
  most : len ≤ 140737488351232
  each : ∀ x ∈ l, x.2.d.length ≤ 140737488351232
  num : ∀ x ∈ l, -9223372036854775808 ≤ x.2.n ∧ x.2.n ≤ 9223372036854775807
  lnk : ∀ x ∈ l, -9223372036854775808 ≤ x.1 ∧ x.1 ≤ 9223372036854775807
  rd : Rws shC (fun _ => True) w a l

set_option maxRecDepth 8000 in
theorem open_act {H : Type} {enc : TypeId × Value → H} {w : World} {base : Nat} {held : Bool} {fuel : Nat} {cs : List Value} {x : DataW H × List MemPlace}
    (hl : cs.length = 5) (h : DataW.trod enc Tryd.prog w base (fun _ => true) held fuel 39 cs = some x) :
    ∃ k b e z A n c l, cs = [.int .i64 k, .bool b, .bool e, .int .i64 z, .slice A n c] ∧ IsPc w b e z A n c l ∧ (-9223372036854775808 ≤ k ∧ k ≤ 9223372036854775807) ∧ ((∀ m ∈ x.1.weights Tryd.prog 39, m ≤ reachBytes) → n ≤ 140737488351232) := by
  obtain ⟨xs, n, _, hx, _, hlen, hg⟩ := DataW.trod_struct Tryd.underlying39 h
  match cs, hl with
  | [c0, c1, c2, c3, c4], _ =>
    match xs, hlen with
    | [y0, y1], _ =>
      have g0 := hg 0 _ rfl
      have g1 := hg 1 _ rfl
      simp [frh_c3, frh_cells] at g0 g1
      have hd := congrArg Prod.fst hx
      simp only at hd
      obtain ⟨k, e0, _, s0⟩ := DataW.trod_int Tryd.underlying3 g0
      simp at e0
      obtain ⟨b, e, z, A, m, c, l, hcs, hp, hs⟩ := open_fields rfl g1
      injection hcs with h1 hcs
      injection hcs with h2 hcs
      injection hcs with h3 hcs
      injection hcs with h4 hcs
      subst e0 h1 h2 h3 h4
      refine ⟨k, b, e, z, A, m, c, l, rfl, hp, frh_i64 s0, fun hw => hs (fun i hi => ?_)⟩
      rw [hd] at hw
      simp only [DataW.weights, Tryd.underlying39] at hw
      exact hw i (DataW.weights_mem_each (j := 1) (t := 37) rfl rfl i hi)

set_option maxRecDepth 8000 in
theorem open_acts {H : Type} {enc : TypeId × Value → H} {w : World} {base : Nat} {held : Bool} {r : Reach} {b0 : Nat} {v : Value} {d : DataW H} {p : List MemPlace}
    (hv0 : Value.okWide Tryd.prog w r b0 22 v) (h : DataW.Trod enc Tryd.prog w base (fun _ => true) held 22 v d p) (hs : ∀ n ∈ d.weights Tryd.prog 22, n ≤ reachBytes) :
    ∃ a len cap l, v = .slice a len cap ∧ IsActs w a len cap l := by
  obtain ⟨a, len, cap, rfl⟩ := okWide_slice Tryd.underlying22 hv0
  obtain ⟨fuel, hf⟩ := h
  have hr : reachBytes = 140737488351232 := rfl
  rcases open_slice Tryd.underlying22 hf with ⟨hcs, _⟩ | ⟨x, l, c, m, n, D, Pl, hcs, _, hl, hm, hmm, hx, hi⟩
  · simp [Value.cells] at hcs
    obtain ⟨rfl, rfl, rfl⟩ := hcs
    exact ⟨_, _, _, [], rfl, rfl, Nat.le_refl _, by omega, (fun _ h => by cases h), (fun _ h => by cases h), (fun _ h => by cases h), Rws.nil⟩
  · simp [Value.cells] at hcs
    obtain ⟨rfl, rfl, rfl⟩ := hcs
    simp only [if_true] at hmm
    have hd := congrArg Prod.fst hx
    simp only at hd
    have hs' := hs
    rw [hd] at hs'
    simp only [DataW.weights, Tryd.underlying22, List.mem_cons, List.mem_append] at hs'
    have hlen := hs' _ (.inl rfl)
    rw [fra_bytes] at hlen
    simp only [List.length_map, List.length_range] at hlen
    have each : ∀ i, i < len → ∃ o : Int × Pc, o.2.d.length ≤ 140737488351232 ∧ (-9223372036854775808 ≤ o.1 ∧ o.1 ≤ 9223372036854775807) ∧ (-9223372036854775808 ≤ o.2.n ∧ o.2.n ≤ 9223372036854775807) ∧ ∃ A c, o.2.d.length ≤ c ∧ (∀ j u, [Value.int .i64 o.1, .bool o.2.b, .bool o.2.e, .int .i64 o.2.n, .slice A o.2.d.length c][j]? = some u → w.cell? ((x.add (i * 5)).add j) = some u) ∧ Rd w w.heap.size A o.2.d := by
      intro i hil
      obtain ⟨cs', h1, h2⟩ := hi i (by omega)
      rw [fra_cells] at h1
      obtain ⟨_, hl4, hat⟩ := World.cells?_some h1
      obtain ⟨kk, b, e, z, A, k, c', l', hcs, hp, hkb, hsz⟩ := open_act (by simpa using hl4) h2
      subst hcs
      have hk := hsz (fun k hk => hs' k (.inr (.inl (frh_all_mem (List.mem_map.2 ⟨i, List.mem_range.2 hil, rfl⟩) k hk))))
      have hlen' := hp.nl
      refine ⟨(kk, ⟨b, e, z, l'⟩), by show l'.length ≤ _; omega, hkb, ⟨hp.lo, hp.hi⟩, A, c', by have := hp.nc; show l'.length ≤ _; omega, fun j u hu => ?_, hp.rd⟩
      have hj : j < 5 := by have := (List.getElem?_eq_some_iff.1 hu).1; simpa using this
      rw [hat j hj, ← hu]
      show _ = [Value.int .i64 kk, .bool b, .bool e, .int .i64 z, .slice A l'.length c'][j]?
      rw [hlen']
    obtain ⟨f, hf'⟩ := choose_lt each
    refine ⟨_, _, _, (List.range len).map f, rfl, by simp, hl, by omega, ?_, ?_, ?_, ?_⟩
    · intro o ho
      obtain ⟨i, hi', rfl⟩ := List.mem_map.1 ho
      exact (hf' i (List.mem_range.1 hi')).1
    · intro o ho
      obtain ⟨i, hi', rfl⟩ := List.mem_map.1 ho
      exact (hf' i (List.mem_range.1 hi')).2.2.1
    · intro o ho
      obtain ⟨i, hi', rfl⟩ := List.mem_map.1 ho
      exact (hf' i (List.mem_range.1 hi')).2.1
    · intro hpos
      rw [List.length_map, List.length_range] at hpos
      obtain ⟨b, off, spot⟩ := x
      obtain ⟨_, _, _, _, _, _, hc0, _⟩ := hf' 0 hpos
      have h0 := hc0 0 _ rfl
      have hsp : spot = none := by simpa [Addr.add] using World.cell?_spot h0
      subst hsp
      refine ⟨b, off, rfl, by simpa [Addr.add] using block_lt h0, trivial, fun k o hk => ?_⟩
      rw [List.getElem?_map] at hk
      obtain ⟨r', hr', rfl⟩ := Option.map_eq_some_iff.1 hk
      have hkl : k < len := by have := (List.getElem?_eq_some_iff.1 hr').1; simpa using this
      rw [List.getElem?_range hkl] at hr'
      injection hr' with hr'
      subst hr'
      obtain ⟨_, _, _, A, c', g1, g2, g4⟩ := hf' k hkl
      refine ⟨_, ⟨A, c', rfl, g1, g4.rdF (fun _ _ => trivial) (Nat.le_refl _)⟩, fun j u hu => ?_⟩
      have key : (Addr.add ⟨b, off, none⟩ (k * 5)).add j = ⟨b, off + (k * 5 + j), none⟩ := by
        rw [Go.Deep.add_add]
        by_cases h0 : k * 5 + j = 0
        · rw [h0]; simp [Addr.add]
        · simp [Addr.add]
          omega
      have := g2 j u hu
      rw [key] at this
      exact this
end
end Go.Proofs.YtamdaepeogmboaaDoor
