
/-
  An argument that is a packet, opened: what it says, how it lies, and that it is of the form's own reach. No condition.
-/
import Derived.Test.YtppblnpcbiochaaPkt
import Derived.Test.YtppblnpcbiochaaTlvH
namespace Go.Proofs.Ytppblnpcbiochaa
open Go.ChangeShapes Go.WideShapes Go.ChangeAt Go.RowKit Go.Deep

theorem pk_cellsP : Try.prog.cellsOf 28 = 10 := by kernel_rfl
theorem pk_c22 : Try.prog.cellsOf 22 = 1 := by kernel_rfl
theorem pk_c24 : Try.prog.cellsOf 24 = 1 := by kernel_rfl
theorem pk_b24 : Try.prog.bytesOf 24 = 4 := by kernel_rfl
theorem pk_c23 : Try.prog.cellsOf 23 = 1 := by kernel_rfl
theorem pk_c26 : Try.prog.cellsOf 26 = 1 := by kernel_rfl

theorem pk_u16 {n : Int} (h : (Lit.int .u16 n).wf = true) : 0 ≤ n ∧ n < 65536 := by
  simp [Lit.wf, IntKind.min, IntKind.max, IntKind.signed, IntKind.bits] at h
  omega
theorem pk_u32 {n : Int} (h : (Lit.int .u32 n).wf = true) : 0 ≤ n ∧ n < 4294967296 := by
  simp [Lit.wf, IntKind.min, IntKind.max, IntKind.signed, IntKind.bits] at h
  omega
theorem pk_u8 {n : Int} (h : (Lit.int .u8 n).wf = true) : 0 ≤ n ∧ n < 256 := by
  simp [Lit.wf, IntKind.min, IntKind.max, IntKind.signed, IntKind.bits] at h
  omega

set_option maxRecDepth 8000 in
/-- A slice of octets as a field. -/
theorem open_bytesP {H : Type} {enc : TypeId × Value → H} {w : World} {base : Nat} {held : Bool} {fuel : Nat} {v : Value} {x : DataW H × List MemPlace}
    (h : DataW.trod enc Try.prog w base (fun _ => true) held fuel 25 [v] = some x) : ∃ a n c l, v = .slice a n c ∧ l.length = n ∧ n ≤ c ∧ By l ∧ Rd w w.heap.size a l := by
  rcases open_ints Try.underlying25 Try.underlying5 ocell0 h with ⟨hcs, _⟩ | ⟨ad, len, cap, zs, hcs, _, hlc, hm, hz, hy, hcell, hwz⟩
  · simp at hcs
    exact ⟨none, 0, 0, [], hcs, rfl, Nat.le_refl _, By.nil, Rd.nil⟩
  · simp at hcs
    obtain ⟨m, e1, e2, e3⟩ := rowBytes (w := w) (a := some ad) (len := len) (cap := cap) (zs := zs) (.inr ⟨ad, rfl, hlc, hm, by simpa using hz, hcell, hwz⟩)
    exact ⟨some ad, len, cap, m, hcs, e1, hlc, e2, e3⟩

set_option maxRecDepth 8000 in
/-- A slice of numbers as a field. -/
theorem open_numsP {H : Type} {enc : TypeId × Value → H} {w : World} {base : Nat} {held : Bool} {fuel : Nat} {v : Value} {x : DataW H × List MemPlace}
    (h : DataW.trod enc Try.prog w base (fun _ => true) held fuel 26 [v] = some x) : ∃ a n c l, v = .slice a n c ∧ l.length = n ∧ (∀ x ∈ l, x < 4294967296) ∧ Rws shN (fun _ => True) w a l := by
  rcases open_ints Try.underlying26 Try.underlying24 pk_c24 h with ⟨hcs, _⟩ | ⟨ad, len, cap, zs, hcs, _, hlc, hm, hz, hy, hcell, hwz⟩
  · simp at hcs
    exact ⟨none, 0, 0, [], hcs, rfl, (fun _ h => by cases h), Rws.nil⟩
  · simp at hcs
    have hz' : zs.length = cap := by simpa using hz
    have hb : ∀ n ∈ zs, 0 ≤ n ∧ n < 4294967296 := fun n hn => pk_u32 (hwz n hn)
    refine ⟨some ad, len, cap, (zs.take len).map Int.toNat, hcs, by simp; omega, ?_, ?_⟩
    · intro y hy
      obtain ⟨n, hn, rfl⟩ := List.mem_map.1 hy
      have := hb n (List.mem_of_mem_take hn)
      omega
    · intro hlen
      have hlen' : 0 < len := by simp at hlen; omega
      have h0 := hcell 0 (by omega)
      obtain ⟨b, off, spot⟩ := ad
      have hs : spot = none := by simpa [Addr.add] using World.cell?_spot h0
      subst hs
      refine ⟨b, off, rfl, by simpa [Addr.add] using block_lt h0, trivial, fun k x hx => ⟨[.int .u32 (x : Int)], rfl, fun j u hu => ?_⟩⟩
      match j, hu with
      | j + 1, hu => simp at hu
      | 0, hu =>
        injection hu with hu
        subst hu
        rw [show off + (k * shN.sz + 0) = off + k by show off + (k * 1 + 0) = off + k; omega]
        rw [List.getElem?_map] at hx
        obtain ⟨n, hn, rfl⟩ := Option.map_eq_some_iff.1 hx
        rw [List.getElem?_take] at hn
        split at hn
        · have hk : k < zs.length := (List.getElem?_eq_some_iff.1 hn).1
          have hck := hcell k hk
          rw [List.getD_eq_getElem?_getD, hn, Option.getD_some] at hck
          have hnn := hb n (List.mem_of_getElem? hn)
          rw [show ((n.toNat : Nat) : Int) = n from by omega, ← hck]
          by_cases h0 : k = 0
          · subst h0; simp [Addr.add]
          · simp [Addr.add, h0]
        · cases hn

set_option maxRecDepth 8000 in
/-- A slice of options as a field. -/
theorem open_optsP {H : Type} {enc : TypeId × Value → H} {w : World} {base : Nat} {held : Bool} {fuel : Nat} {v : Value} {x : DataW H × List MemPlace}
    (h : DataW.trod enc Try.prog w base (fun _ => true) held fuel 23 [v] = some x) (hs : ∀ n ∈ x.1.weights Try.prog 23, n ≤ reachBytes) : ∃ a n c l, v = .slice a n c ∧ IsOpts w a n c l := by
  have hv : ∃ a n c, v = .slice a n c := by
    rcases open_slice Try.underlying23 h with ⟨hcs, _⟩ | ⟨x, l, c, m, n, D, Pl, hcs, _⟩
    · exact ⟨none, 0, 0, by simpa using hcs⟩
    · exact ⟨some x, l, c, by simpa using hcs⟩
  obtain ⟨a, n, c, rfl⟩ := hv
  obtain ⟨a', n', c', l, e, h'⟩ := open_optsV (H := H) (enc := enc) (w := w) (base := base) (held := held) (v := .slice a n c) (d := x.1) (p := x.2) ⟨a, n, c, rfl⟩ ⟨fuel, h⟩ hs
  exact ⟨a', n', c', l, e, h'⟩

/-- What the walk is told of a packet. -/
structure IsPk (w : World) (p : Pk) (q : Pl) : Prop where
  ok : p.ok
  pw : Pw w p q
  no : q.no ≤ 140737488351232
  od : ∀ x ∈ p.opts, x.2.length ≤ 140737488351232

set_option maxRecDepth 8000 in
set_option maxHeartbeats 4000000 in
theorem open_pk {H : Type} {enc : TypeId × Value → H} {w : World} {base : Nat} {held : Bool} {r : Reach} {b0 : Nat} {v : Value} {d : DataW H} {p : List MemPlace}
    (hv : Value.okWide Try.prog w r b0 28 v) (h : DataW.Trod enc Try.prog w base (fun _ => true) held 28 v d p) (hs : ∀ n ∈ d.weights Try.prog 28, n ≤ reachBytes) :
    ∃ x q, v = Pk.val x q ∧ IsPk w x q := by
  obtain ⟨cs, rfl, hsz⟩ := okWide_struct Try.underlying28 hv
  obtain ⟨l⟩ := cs
  match l, hsz.trans pk_cellsP with
  | [x0, x1, x2, x3, x4, x5, x6, x7, x8, x9], _ =>
    obtain ⟨fuel, hf⟩ := h
    obtain ⟨xs, n, _, hx, _, hlen, hg⟩ := DataW.trod_struct Try.underlying28 hf
    match xs, hlen with
    | [y0, y1, y2, y3, y4, y5, y6, y7, y8, y9], _ =>
      have g0 := hg 0 _ rfl
      have g1 := hg 1 _ rfl
      have g2 := hg 2 _ rfl
      have g3 := hg 3 _ rfl
      have g4 := hg 4 _ rfl
      have g5 := hg 5 _ rfl
      have g6 := hg 6 _ rfl
      have g7 := hg 7 _ rfl
      have g8 := hg 8 _ rfl
      have g9 := hg 9 _ rfl
      simp [Value.cells, pk_c22, pk_c24, pk_c23, pk_c26, ocell0, ocell1] at g0 g1 g2 g3 g4 g5 g6 g7 g8 g9
      have hd := congrArg Prod.fst hx
      simp only at hd
      rw [hd] at hs
      simp only [DataW.weights, Try.underlying28] at hs
      obtain ⟨z0, e0, _, s0⟩ := DataW.trod_int Try.underlying22 g0
      obtain ⟨z1, e1, _, s1⟩ := DataW.trod_int Try.underlying5 g1
      obtain ⟨z2, e2, _, s2⟩ := DataW.trod_int Try.underlying5 g2
      obtain ⟨z4, e4, _, s4⟩ := DataW.trod_int Try.underlying22 g4
      obtain ⟨z5, e5, _, s5⟩ := DataW.trod_int Try.underlying24 g5
      simp at e0 e1 e2 e4 e5
      obtain ⟨a6, n6, c6, l6, e6, f6, k6, b6, r6⟩ := open_bytesP g6
      obtain ⟨a7, n7, c7, l7, e7, f7, k7, b7, r7⟩ := open_bytesP g7
      obtain ⟨a8, n8, c8, l8, e8, f8, k8, b8, r8⟩ := open_bytesP g8
      obtain ⟨a9, n9, c9, l9, e9, f9, b9, r9⟩ := open_numsP g9
      obtain ⟨a3, n3, c3, l3, e3, o3⟩ := open_optsP g3 (fun k hk => hs k (DataW.weights_mem_each (j := 3) (t := 23) rfl rfl k hk))
      subst e0 e1 e2 e3 e4 e5 e6 e7 e8 e9
      have t0 := pk_u16 s0
      have t1 := pk_u8 s1
      have t2 := pk_u8 s2
      have t4 := pk_u16 s4
      have t5 := pk_u32 s5
      obtain ⟨i1, i2, i3, i4, i5, i6⟩ := o3
      refine ⟨⟨z0.toNat, z1.toNat, z2.toNat, l3, z4.toNat, z5.toNat, l6, l7, l8, l9⟩, ⟨a3, n3, c3, a6, n6, c6, a7, n7, c7, a8, n8, c8, a9, n9, c9⟩, ?_, ⟨?_, ?_, i3, i5⟩⟩
      · show _ = Value.agg #[.int .u16 (z0.toNat : Int), .int .u8 (z1.toNat : Int), .int .u8 (z2.toNat : Int), .slice a3 n3 c3, .int .u16 (z4.toNat : Int), .int .u32 (z5.toNat : Int), .slice a6 n6 c6, .slice a7 n7 c7, .slice a8 n8 c8, .slice a9 n9 c9]
        rw [Int.toNat_of_nonneg t0.1, Int.toNat_of_nonneg t1.1, Int.toNat_of_nonneg t2.1, Int.toNat_of_nonneg t4.1, Int.toNat_of_nonneg t5.1]
      · exact ⟨by show z0.toNat < _; omega, by show z1.toNat < _; omega, by show z2.toNat < _; omega, i4, by show z4.toNat < _; omega, by show z5.toNat < _; omega, b6, b7, b8, b9⟩
      · exact ⟨i1, i6, f6, r6, f7, r7, f8, r8, f9, r9, k6, k7, k8⟩
end Go.Proofs.Ytppblnpcbiochaa
