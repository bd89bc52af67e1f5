
/-
  An argument that is a frame, opened: what it says, how it lies, and that it is of the form's own reach. No condition.
-/
import Derived.Test.YtmhjnghomihjlaaEthF
import Derived.Test.YtmhjnghomihjlaaGPkt
import Derived.Test.YtmhjnghomihjlaaGTag
namespace Go.Proofs.Ytmhjnghomihjlaa
set_option maxRecDepth 4000
open Go.ChangeShapes Go.WideShapes Go.ChangeAt Go.RowKit Go.Deep

set_option maxRecDepth 8000 in
set_option maxHeartbeats 4000000 in
theorem open_pkC {H : Type} {enc : TypeId × Value → H} {w : World} {base : Nat} {held : Bool} {fuel : Nat} {x0 x1 x2 x3 x4 x5 x6 x7 x8 x9 : Value} {d : DataW H} {p : List MemPlace}
    (hf : DataW.trod enc Try.prog w base (fun _ => true) held fuel 29 [x0, x1, x2, x3, x4, x5, x6, x7, x8, x9] = some (d, p)) (hs : ∀ n ∈ d.weights Try.prog 29, n ≤ reachBytes) :
    ∃ x q, Value.agg #[x0, x1, x2, x3, x4, x5, x6, x7, x8, x9] = Pk.val x q ∧ IsPk w x q := by
  obtain ⟨xs, n, _, hx, _, hlen, hg⟩ := DataW.trod_struct Try.underlying29 hf
  match xs, hlen with
  | [y0, y1, y2, y3, y4, y5, y6, y7, y8, y9], _ =>
    have g0 := hg 0 _ rfl
    have g1 := hg 1 _ rfl
    have g2 := hg 2 _ rfl
    have g3 := hg 3 _ rfl
    have g4 := hg 4 _ rfl
    have g5 := hg 5 _ rfl
    have g6 := hg 6 _ rfl
    have g7 := hg 7 _ rfl
    have g8 := hg 8 _ rfl
    have g9 := hg 9 _ rfl
    simp [pk_c22, pk_c24, pk_c23, pk_c26, ocell0, ocell1] at g0 g1 g2 g3 g4 g5 g6 g7 g8 g9
    have hd := congrArg Prod.fst hx
    simp only at hd
    rw [hd] at hs
    simp only [DataW.weights, Try.underlying29] at hs
    obtain ⟨z0, e0, _, s0⟩ := DataW.trod_int Try.underlying22 g0
    obtain ⟨z1, e1, _, s1⟩ := DataW.trod_int Try.underlying5 g1
    obtain ⟨z2, e2, _, s2⟩ := DataW.trod_int Try.underlying5 g2
    obtain ⟨z4, e4, _, s4⟩ := DataW.trod_int Try.underlying22 g4
    obtain ⟨z5, e5, _, s5⟩ := DataW.trod_int Try.underlying25 g5
    simp at e0 e1 e2 e4 e5
    obtain ⟨a6, n6, c6, l6, e6, f6, k6, b6, r6⟩ := open_bytesP g6
    obtain ⟨a7, n7, c7, l7, e7, f7, k7, b7, r7⟩ := open_bytesP g7
    obtain ⟨a8, n8, c8, l8, e8, f8, k8, b8, r8⟩ := open_bytesP g8
    obtain ⟨a9, n9, c9, l9, e9, f9, b9, r9⟩ := open_numsP g9
    obtain ⟨a3, n3, c3, l3, e3, o3⟩ := open_optsP g3 (fun k hk => hs k (DataW.weights_mem_each (j := 3) (t := 24) rfl rfl k hk))
    subst e0 e1 e2 e3 e4 e5 e6 e7 e8 e9
    have t0 := pk_u16 s0
    have t1 := pk_u8 s1
    have t2 := pk_u8 s2
    have t4 := pk_u16 s4
    have t5 := pk_u32 s5
    obtain ⟨i1, i2, i3, i4, i5, i6⟩ := o3
    refine ⟨⟨z0.toNat, z1.toNat, z2.toNat, l3, z4.toNat, z5.toNat, l6, l7, l8, l9⟩, ⟨a3, n3, c3, a6, n6, c6, a7, n7, c7, a8, n8, c8, a9, n9, c9⟩, ?_, ⟨?_, ?_, i3, i5⟩⟩
    · show _ = Value.agg #[.int .u16 (z0.toNat : Int), .int .u8 (z1.toNat : Int), .int .u8 (z2.toNat : Int), .slice a3 n3 c3, .int .u16 (z4.toNat : Int), .int .u32 (z5.toNat : Int), .slice a6 n6 c6, .slice a7 n7 c7, .slice a8 n8 c8, .slice a9 n9 c9]
      rw [Int.toNat_of_nonneg t0.1, Int.toNat_of_nonneg t1.1, Int.toNat_of_nonneg t2.1, Int.toNat_of_nonneg t4.1, Int.toNat_of_nonneg t5.1]
    · exact ⟨by show z0.toNat < _; omega, by show z1.toNat < _; omega, by show z2.toNat < _; omega, i4, by show z4.toNat < _; omega, by show z5.toNat < _; omega, b6, b7, b8, b9⟩
    · exact ⟨i1, i6, f6, r6, f7, r7, f8, r8, f9, r9, k6, k7, k8⟩

/-- What the walk is told of a frame. -/
structure IsFr (w : World) (f : Fr) (q : Fl) : Prop where
  ok : f.ok
  fw : FwF (fun _ => True) w f q
  nt : q.nt ≤ 140737488351232
  td : ∀ x ∈ f.tags, x.2.length ≤ 140737488351232
  no : q.pl.no ≤ 140737488351232
  od : ∀ x ∈ f.pkt.opts, x.2.length ≤ 140737488351232
theorem Pw.wF {w : World} {p : Pk} {q : Pl} (h : Pw w p q) : PwF (fun _ => True) w p q := ⟨h.lo, h.ro, h.l1, h.r1.rdT, h.l2, h.r2.rdT, h.ld, h.rd.rdT, h.ln, h.rn, h.k1, h.k2, h.kd⟩
theorem fr_cells : Try.prog.cellsOf 31 = 13 := by kernel_rfl
theorem fr_c1 : Try.prog.cellsOf 23 = 1 := by kernel_rfl

set_option maxRecDepth 8000 in
set_option maxHeartbeats 8000000 in
theorem open_fr {H : Type} {enc : TypeId × Value → H} {w : World} {base : Nat} {held : Bool} {r : Reach} {b0 : Nat} {v : Value} {d : DataW H} {p : List MemPlace}
    (hv : Value.okWide Try.prog w r b0 31 v) (h : DataW.Trod enc Try.prog w base (fun _ => true) held 31 v d p) (hs : ∀ n ∈ d.weights Try.prog 31, n ≤ reachBytes) :
    ∃ x q, v = Fr.val x q ∧ IsFr w x q := by
  obtain ⟨cs, rfl, hsz⟩ := okWide_struct Try.underlying31 hv
  obtain ⟨l⟩ := cs
  match l, hsz.trans fr_cells with
  | [x0, x1, x2, x3, x4, x5, x6, x7, x8, x9, x10, x11, x12], _ =>
    obtain ⟨fuel, hf⟩ := h
    obtain ⟨xs, n, _, hx, _, hlen, hg⟩ := DataW.trod_struct Try.underlying31 hf
    match xs, hlen with
    | [y0, y1, y2, y3], _ =>
      have g0 := hg 0 _ rfl
      have g1 := hg 1 _ rfl
      have g2 := hg 2 _ rfl
      have g3 := hg 3 _ rfl
      simp [Value.cells, pk_c22, fr_c1, pk_cellsP, ocell0] at g0 g1 g2 g3
      have hd := congrArg Prod.fst hx
      simp only at hd
      rw [hd] at hs
      simp only [DataW.weights, Try.underlying31] at hs
      obtain ⟨z0, e0, _, s0⟩ := DataW.trod_int Try.underlying5 g0
      obtain ⟨z1, e1, _, s1⟩ := DataW.trod_int Try.underlying22 g1
      simp at e0 e1
      have t0 := pk_u8 s0
      have t1 := pk_u16 s1
      have hv2 : ∃ a n c, x2 = .slice a n c := by
        rcases open_slice Try.underlying23 g2 with ⟨hcs, _⟩ | ⟨x, l, c, m, n, D, Pl, hcs, _⟩
        · exact ⟨none, 0, 0, by simpa using hcs⟩
        · exact ⟨some x, l, c, by simpa using hcs⟩
      obtain ⟨a, n', c, rfl⟩ := hv2
      obtain ⟨a2, n2, c2, l2, e2, h2⟩ := open_tagsV (H := H) (enc := enc) (w := w) (base := base) (held := held) (v := .slice a n' c) (d := y2.1) (p := y2.2) ⟨a, n', c, rfl⟩ ⟨_, g2⟩ (fun k hk => hs k (DataW.weights_mem_each (j := 2) (t := 23) rfl rfl k hk))
      obtain ⟨pk, pl, e3, h3⟩ := open_pkC (d := y3.1) (p := y3.2) g3 (fun k hk => hs k (DataW.weights_mem_each (j := 3) (t := 29) rfl rfl k hk))
      injection e3 with e3
      injection e3 with e3
      simp only [List.cons.injEq, and_true] at e3
      obtain ⟨r0, r1, r2, r3, r4, r5, r6, r7, r8, r9⟩ := e3
      injection e2 with q1 q2 q3
      subst e0 e1 r0 r1 r2 r3 r4 r5 r6 r7 r8 r9 q1 q2 q3
      obtain ⟨i1, i2, i3, i4, i5, i6⟩ := h2
      refine ⟨⟨z0.toNat, z1.toNat, l2, pk⟩, ⟨a, n', c, pl⟩, ?_, ⟨⟨by show z0.toNat < _; omega, by show z1.toNat < _; omega, i4, h3.ok⟩, ⟨i1, i6, i2, h3.pw.wF⟩, i3, i5, h3.no, h3.od⟩⟩
      show _ = Value.agg #[.int .u8 (z0.toNat : Int), .int .u16 (z1.toNat : Int), .slice a n' c, .int .u16 (pk.proto : Int), .int .u8 (pk.code : Int), .int .u8 (pk.id : Int), .slice pl.ao pl.no pl.co, .int .u16 (pk.sub : Int), .int .u32 (pk.magic : Int), .slice pl.a1 pl.n1 pl.c1, .slice pl.a2 pl.n2 pl.c2, .slice pl.ad pl.nd pl.cd, .slice pl.an pl.nn pl.cn]
      rw [Int.toNat_of_nonneg t0.1, Int.toNat_of_nonneg t1.1]
end Go.Proofs.Ytmhjnghomihjlaa
