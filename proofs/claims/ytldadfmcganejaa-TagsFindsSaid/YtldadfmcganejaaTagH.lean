
/-
  An argument that is a slice of tags, opened: what its elements read as, and that it is of the form's own reach. No condition.
-/
import Derived.Test.YtldadfmcganejaaTagO
import Derived.ProofKit
import Derived.OpenShut
import Derived.Deep.Matrix
import Derived.Deep.Fields
import Derived.SizedLaws
namespace Go.Proofs.Ytldadfmcganejaa
set_option maxRecDepth 4000
open Go.ChangeShapes Go.WideShapes Go.ChangeAt Go.RowKit Go.Deep

/-- What the walk is told of a slice of tags. -/
def IsTags (w : World) (a : Option Addr) (len cap : Nat) (l : List (Nat × List Nat)) : Prop :=
  l.length = len ∧ len ≤ cap ∧ len ≤ 140737488351232 ∧ ByG l ∧ (∀ x ∈ l, x.2.length ≤ 140737488351232) ∧ Rws shG (fun _ => True) w a l

theorem tgall_mem {H : Type} {P : Program} {e : TypeId} : ∀ {l : List (DataW H)} {d : DataW H}, d ∈ l → ∀ n ∈ d.weights P e, n ∈ DataW.weightsAll P e l
  | d' :: r, d, hd, n, hn => by
    simp only [DataW.weightsAll, List.mem_append]
    rcases List.mem_cons.1 hd with rfl | h
    · exact Or.inl hn
    · exact Or.inr (tgall_mem h n hn)

/-- What one element tells. -/
def IsTag (w : World) (a : Addr) (o : Nat × List Nat) : Prop :=
  o.1 < 65536 ∧ By o.2 ∧ o.2.length ≤ 140737488351232 ∧ ∃ A c, o.2.length ≤ c ∧ w.cell? (a.add 0) = some (.int .u16 (o.1 : Int)) ∧ w.cell? (a.add 1) = some (.slice A o.2.length c) ∧ Rd w w.heap.size A o.2

theorem tgcells : Try.prog.cellsOf 48 = 2 := by kernel_rfl
theorem tgbytes : Try.prog.bytesOf 48 = 32 := by kernel_rfl
theorem tgcell1 : Try.prog.cellsOf 23 = 1 := by kernel_rfl
theorem tgcell0 : Try.prog.cellsOf 5 = 1 := by kernel_rfl
theorem tgcell2 : Try.prog.cellsOf 24 = 1 := by kernel_rfl
theorem tgbyte0 : Try.prog.bytesOf 5 = 1 := by kernel_rfl

set_option maxRecDepth 4000 in
theorem open_tag {H : Type} {enc : TypeId × Value → H} {w : World} {base : Nat} {held : Bool} {fuel : Nat} {a : Addr} {cs : List Value} {x : DataW H × List MemPlace}
    (hc : w.cells? base a 2 = some cs) (h : DataW.trod enc Try.prog w base (fun _ => true) held fuel 48 cs = some x) (hs : ∀ n ∈ x.1.weights Try.prog 48, n ≤ reachBytes) : ∃ o, IsTag w a o := by
  obtain ⟨_, hl, hat⟩ := World.cells?_some hc
  obtain ⟨xs, n, _, hx, _, hlen, hg⟩ := DataW.trod_struct Try.underlying48 h
  match cs, hl with
  | [c0, c1], _ =>
    match xs, hlen with
    | [y0, y1], _ =>
      have g0 := hg 0 _ rfl
      have g1 := hg 1 _ rfl
      simp [tgcell2, tgcell1] at g0 g1
      obtain ⟨t, e0, e1, st⟩ := DataW.trod_int Try.underlying24 g0
      simp at e0
      subst e0
      have ht : 0 ≤ t ∧ t < 65536 := by
        simp [Lit.wf, IntKind.min, IntKind.max, IntKind.signed, IntKind.bits] at st
        omega
      have f0 := hat 0 (by omega)
      have f1 := hat 1 (by omega)
      simp only [List.getElem?_cons_zero, List.getElem?_cons_succ] at f0 f1
      rcases open_ints Try.underlying23 Try.underlying5 tgcell0 g1 with ⟨hcs, _⟩ | ⟨ad, len, cap, zs, hcs, _, hlc, hm, hz, hy, hcell, hwz⟩
      · simp at hcs
        subst hcs
        refine ⟨(t.toNat, []), by show t.toNat < 65536; omega, By.nil, by simp, none, 0, by simp, ?_, f1, Rd.nil⟩
        rw [f0, Int.toNat_of_nonneg ht.1]
      · simp at hcs
        subst hcs
        have hz' : zs.length = cap := by simpa using hz
        obtain ⟨m, e1', e2', e3'⟩ := rowBytes (w := w) (a := some ad) (len := len) (cap := cap) (zs := zs) (.inr ⟨ad, rfl, hlc, hm, hz', hcell, hwz⟩)
        have hw : zs.length ≤ reachBytes := hs _ (by
          rw [hx]
          simp only [DataW.weights, Try.underlying48, List.map_cons, List.map_nil, DataW.weightsEach, hy, Try.underlying23, tgbyte0, List.mem_append, List.mem_cons]
          refine .inr (.inl (.inl ?_))
          simp only [lits, List.length_map, List.length_take, List.length_drop]
          omega)
        have hr : reachBytes = 140737488351232 := rfl
        refine ⟨(t.toNat, m), by show t.toNat < 65536; omega, e2', by show m.length ≤ _; omega, some ad, cap, by show m.length ≤ _; omega, ?_, ?_, e3'⟩
        · rw [f0, Int.toNat_of_nonneg ht.1]
        · rw [f1, e1']

set_option maxRecDepth 4000 in
theorem open_tagsV {H : Type} {enc : TypeId × Value → H} {w : World} {base : Nat} {held : Bool} {v : Value} {d : DataW H} {p : List MemPlace}
    (hv : ∃ a n c, v = .slice a n c) (h : DataW.Trod enc Try.prog w base (fun _ => true) held 22 v d p) (hs : ∀ n ∈ d.weights Try.prog 22, n ≤ reachBytes) :
    ∃ a len cap l, v = .slice a len cap ∧ IsTags w a len cap l := by
  obtain ⟨a, len, cap, rfl⟩ := hv
  obtain ⟨fuel, hf⟩ := h
  have hr : reachBytes = 140737488351232 := rfl
  rcases open_slice Try.underlying22 hf with ⟨hcs, _⟩ | ⟨x, l, c, m, n, D, Pl, hcs, _, hl, hm, hmm, hx, hi⟩
  · simp [Value.cells] at hcs
    obtain ⟨rfl, rfl, rfl⟩ := hcs
    exact ⟨_, _, _, [], rfl, rfl, Nat.le_refl _, by omega, (fun _ h => by cases h), (fun _ h => by cases h), Rws.nilG⟩
  · simp [Value.cells] at hcs
    obtain ⟨rfl, rfl, rfl⟩ := hcs
    simp only [if_true] at hmm
    have hd := congrArg Prod.fst hx
    simp only at hd
    have hs' := hs
    rw [hd] at hs'
    simp only [DataW.weights, Try.underlying22, List.mem_cons, List.mem_append] at hs'
    have hlen := hs' _ (.inl rfl)
    rw [tgbytes] at hlen
    simp only [List.length_map, List.length_range] at hlen
    have each : ∀ i, i < len → ∃ o, IsTag w (x.add (i * 2)) o := by
      intro i hil
      obtain ⟨cs', h1, h2⟩ := hi i (by omega)
      rw [tgcells] at h1
      exact open_tag h1 h2 (fun k hk => hs' k (.inr (.inl (tgall_mem (List.mem_map.2 ⟨i, List.mem_range.2 hil, rfl⟩) k hk))))
    obtain ⟨f, hf'⟩ := choose_lt each
    refine ⟨_, _, _, (List.range len).map f, rfl, by simp, hl, by omega, ?_, ?_, ?_⟩
    · intro o ho
      obtain ⟨i, hi', rfl⟩ := List.mem_map.1 ho
      have := hf' i (List.mem_range.1 hi')
      exact ⟨this.1, this.2.1⟩
    · intro o ho
      obtain ⟨i, hi', rfl⟩ := List.mem_map.1 ho
      exact (hf' i (List.mem_range.1 hi')).2.2.1
    · intro hpos
      rw [List.length_map, List.length_range] at hpos
      obtain ⟨b, off, spot⟩ := x
      obtain ⟨_, _, _, _, _, _, h0, _, _⟩ := hf' 0 hpos
      have hsp : spot = none := by simpa [Addr.add] using World.cell?_spot h0
      subst hsp
      refine ⟨b, off, rfl, by simpa [Addr.add] using block_lt h0, trivial, fun k o hk => ?_⟩
      rw [List.getElem?_map] at hk
      obtain ⟨r', hr', rfl⟩ := Option.map_eq_some_iff.1 hk
      have hkl : k < len := by have := (List.getElem?_eq_some_iff.1 hr').1; simpa using this
      rw [List.getElem?_range hkl] at hr'
      injection hr' with hr'
      subst hr'
      obtain ⟨_, _, _, A, c', g1, g2, g3, g4⟩ := hf' k hkl
      refine ⟨_, ⟨A, c', rfl, g1, g4.rdF (fun _ _ => trivial) (Nat.le_refl _)⟩, fun j u hu => ?_⟩
      have key : ∀ j, (Addr.add ⟨b, off, none⟩ (k * 2)).add j = ⟨b, off + (k * 2 + j), none⟩ := by
        intro j
        rw [Go.Deep.add_add]
        by_cases h0 : k * 2 + j = 0
        · rw [h0]; simp [Addr.add]
        · simp [Addr.add]
          omega
      match j, hu with
      | 0, hu =>
        injection hu with hu
        subst hu
        rw [← g2, key]
        rfl
      | 1, hu =>
        injection hu with hu
        subst hu
        rw [← g3, key]
        rfl
      | j + 2, hu => simp at hu
set_option maxRecDepth 4000 in
theorem open_tags {H : Type} {enc : TypeId × Value → H} {w : World} {base : Nat} {held : Bool} {r : Reach} {b0 : Nat} {v : Value} {d : DataW H} {p : List MemPlace}
    (hv : Value.okWide Try.prog w r b0 22 v) (h : DataW.Trod enc Try.prog w base (fun _ => true) held 22 v d p) (hs : ∀ n ∈ d.weights Try.prog 22, n ≤ reachBytes) :
    ∃ a len cap l, v = .slice a len cap ∧ IsTags w a len cap l := by
  obtain ⟨a, len, cap, rfl⟩ := okWide_slice Try.underlying22 hv
  exact open_tagsV ⟨a, len, cap, rfl⟩ h hs
end Go.Proofs.Ytldadfmcganejaa
