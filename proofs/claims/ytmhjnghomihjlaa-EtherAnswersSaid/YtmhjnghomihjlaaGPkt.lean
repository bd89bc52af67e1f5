/-
  Packets: what they say, how they lie in memory as values and in blocks. No condition. An argument that is a packet, opened: what it says, how it lies, and that it is of the form's own reach. No condition. What the law's own helpers answer on packets: Few, Of, To; the document's Same. No condition beyond: at most 2^30 elements in each slice. Packets in a call's hands: what is known of the world that it stands in, whatever layer it is of: a packet of its own, an answer's block, two rows, two packets. No condition. Packets that a call answers whose slices lie in blocks that it made. No condition. What a region knows of the variable that it answers a packet into, whatever the order. No condition.
-/
import Derived.Test.YtmhjnghomihjlaaGTlv
import Derived.Deep.RegionHeld3
import Derived.BigQuiet
import Derived.Test.YtmhjnghomihjlaaGWord
namespace Go.Proofs.Ytmhjnghomihjlaa
section
set_option maxRecDepth 4000
open Go.RowKit

/-- A packet. -/
structure Pk where
  proto : Nat
  code : Nat
  id : Nat
  opts : List (Nat × List Nat)
  sub : Nat
  magic : Nat
  one : List Nat
  two : List Nat
  data : List Nat
  nums : List Nat
deriving DecidableEq
/-- No packet. -/
def pk0 : Pk := ⟨0, 0, 0, [], 0, 0, [], [], [], []⟩
/-- It is one of Go's. -/
structure Pk.ok (p : Pk) : Prop where
  proto : p.proto < 65536
  code : p.code < 256
  id : p.id < 256
  opts : ByO p.opts
  sub : p.sub < 65536
  magic : p.magic < 4294967296
  one : By p.one
  two : By p.two
  data : By p.data
  nums : ∀ x ∈ p.nums, x < 4294967296

/-- Numbers of 32 bits as elements. -/
def shN : Sh Nat where
  sz := 1
  S _ _ x cs := cs = [.int .u32 (x : Int)]
  len := by rintro _ _ _ _ rfl; rfl
  one := by rintro _ _ _ _ rfl u hu; simp at hu; subst hu; rfl
  keep := by rintro _ _ _ _ _ h _; exact h
  mono := by rintro _ _ _ _ _ h _; exact h
theorem Rws.num {F : Nat → Prop} {w : World} {A : Option Addr} {xs : List Nat} (h : Rws shN F w A xs) {k : Nat} (hk : k < xs.length) : ∃ b off x, A = some ⟨b, off, none⟩ ∧ xs[k]? = some x ∧ w.cell? ⟨b, off + k, none⟩ = some (.int .u32 (x : Int)) := by
  obtain ⟨b, off, x, cs, h1, _, h3, rfl, h6⟩ := h.at_ hk
  have h7 := h6 0 _ rfl
  rw [show k * shN.sz + 0 = k by show k * 1 + 0 = k; omega] at h7
  exact ⟨b, off, x, h1, h3, h7⟩

/-- Where its slices lie: addresses, lengths, capacities. -/
structure Pl where
  ao : Option Addr
  no : Nat
  co : Nat
  a1 : Option Addr
  n1 : Nat
  c1 : Nat
  a2 : Option Addr
  n2 : Nat
  c2 : Nat
  ad : Option Addr
  nd : Nat
  cd : Nat
  an : Option Addr
  nn : Nat
  cn : Nat
def pl0 : Pl := ⟨none, 0, 0, none, 0, 0, none, 0, 0, none, 0, 0, none, 0, 0⟩
/-- Its value. -/
abbrev Pk.val (p : Pk) (q : Pl) : Value := .agg #[.int .u16 (p.proto : Int), .int .u8 (p.code : Int), .int .u8 (p.id : Int), .slice q.ao q.no q.co, .int .u16 (p.sub : Int), .int .u32 (p.magic : Int), .slice q.a1 q.n1 q.c1, .slice q.a2 q.n2 q.c2, .slice q.ad q.nd q.cd, .slice q.an q.nn q.cn]
/-- Its slices lead to what it says. -/
structure Pw (w : World) (p : Pk) (q : Pl) : Prop where
  lo : p.opts.length = q.no
  ro : Rws shO (fun _ => True) w q.ao p.opts
  l1 : p.one.length = q.n1
  r1 : Rd w w.heap.size q.a1 p.one
  l2 : p.two.length = q.n2
  r2 : Rd w w.heap.size q.a2 p.two
  ld : p.data.length = q.nd
  rd : Rd w w.heap.size q.ad p.data
  ln : p.nums.length = q.nn
  rn : Rws shN (fun _ => True) w q.an p.nums
  k1 : q.n1 ≤ q.c1
  k2 : q.n2 ≤ q.c2
  kd : q.nd ≤ q.cd
theorem Rd.ons {w w' : World} {A : Option Addr} {l : List Nat} (h : Rd w w.heap.size A l) (hb : Below w.heap.size w w') : Rd w' w'.heap.size A l := (h.below hb).more hb.size
theorem Pw.on {w w' : World} {p : Pk} {q : Pl} (h : Pw w p q) (hb : Below w.heap.size w w') : Pw w' p q :=
  ⟨h.lo, h.ro.below hb, h.l1, h.r1.ons hb, h.l2, h.r2.ons hb, h.ld, h.rd.ons hb, h.ln, h.rn.below hb, h.k1, h.k2, h.kd⟩
theorem pw0 (w : World) : Pw w pk0 pl0 := ⟨rfl, Rws.nilO, rfl, Rd.nil, rfl, Rd.nil, rfl, Rd.nil, rfl, Rws.nil, Nat.le_refl _, Nat.le_refl _, Nat.le_refl _⟩
/-- Sizes that Go may have. -/
structure Pl.le (q : Pl) (m : Nat) : Prop where
  no : q.no ≤ m
  n1 : q.n1 ≤ m
  n2 : q.n2 ≤ m
  nd : q.nd ≤ m
  nn : q.nn ≤ m

/-- A packet lies in block b. -/
def Px (w : World) (b : Nat) (t : TypeId) (p : Pk) (q : Pl) : Prop := w.heap[b]? = some (.cells #[.int .u16 (p.proto : Int), .int .u8 (p.code : Int), .int .u8 (p.id : Int), .slice q.ao q.no q.co, .int .u16 (p.sub : Int), .int .u32 (p.magic : Int), .slice q.a1 q.n1 q.c1, .slice q.a2 q.n2 q.c2, .slice q.ad q.nd q.cd, .slice q.an q.nn q.cn] t (0, 0))
abbrev Pk.obj (p : Pk) (q : Pl) (t : TypeId) : Obj := .cells #[.int .u16 (p.proto : Int), .int .u8 (p.code : Int), .int .u8 (p.id : Int), .slice q.ao q.no q.co, .int .u16 (p.sub : Int), .int .u32 (p.magic : Int), .slice q.a1 q.n1 q.c1, .slice q.a2 q.n2 q.c2, .slice q.ad q.nd q.cd, .slice q.an q.nn q.cn] t (0, 0)
/-- Its cells. -/
abbrev Pc (w : World) (b : Nat) (p : Pk) (q : Pl) : Prop := w.cell? ⟨b, 0, none⟩ = some (.int .u16 (p.proto : Int)) ∧ w.cell? ⟨b, 1, none⟩ = some (.int .u8 (p.code : Int)) ∧ w.cell? ⟨b, 2, none⟩ = some (.int .u8 (p.id : Int)) ∧ w.cell? ⟨b, 3, none⟩ = some (.slice q.ao q.no q.co) ∧ w.cell? ⟨b, 4, none⟩ = some (.int .u16 (p.sub : Int)) ∧ w.cell? ⟨b, 5, none⟩ = some (.int .u32 (p.magic : Int)) ∧ w.cell? ⟨b, 6, none⟩ = some (.slice q.a1 q.n1 q.c1) ∧ w.cell? ⟨b, 7, none⟩ = some (.slice q.a2 q.n2 q.c2) ∧ w.cell? ⟨b, 8, none⟩ = some (.slice q.ad q.nd q.cd) ∧ w.cell? ⟨b, 9, none⟩ = some (.slice q.an q.nn q.cn)
/-- .. none of them frozen. -/
abbrev Pf (w : World) (b : Nat) : Prop := w.frozen? ⟨b, 0, none⟩ = false ∧ w.frozen? ⟨b, 1, none⟩ = false ∧ w.frozen? ⟨b, 2, none⟩ = false ∧ w.frozen? ⟨b, 3, none⟩ = false ∧ w.frozen? ⟨b, 4, none⟩ = false ∧ w.frozen? ⟨b, 5, none⟩ = false ∧ w.frozen? ⟨b, 6, none⟩ = false ∧ w.frozen? ⟨b, 7, none⟩ = false ∧ w.frozen? ⟨b, 8, none⟩ = false ∧ w.frozen? ⟨b, 9, none⟩ = false
section
variable {w w' : World} {b : Nat} {t : TypeId} {p : Pk} {q : Pl}
theorem Px.lt (h : Px w b t p q) : b < w.heap.size := (Array.getElem?_eq_some_iff.1 h).1
theorem Px.all (h : Px w b t p q) : Pc w b p q := by
  refine ⟨?_, ?_, ?_, ?_, ?_, ?_, ?_, ?_, ?_, ?_⟩ <;> (rw [cell_of_row w b _ _ _ _ h]; rfl)
theorem Px.free (h : Px w b t p q) : Pf w b :=
  ⟨frozen_of_row w _ 0 _ _ h, frozen_of_row w _ 1 _ _ h, frozen_of_row w _ 2 _ _ h, frozen_of_row w _ 3 _ _ h, frozen_of_row w _ 4 _ _ h, frozen_of_row w _ 5 _ _ h, frozen_of_row w _ 6 _ _ h, frozen_of_row w _ 7 _ _ h, frozen_of_row w _ 8 _ _ h, frozen_of_row w _ 9 _ _ h⟩
theorem Px.below (h : Px w b t p q) (hb : Below w.heap.size w w') : Px w' b t p q := (hb.block b h.lt).trans h
theorem px_new (w : World) (t : TypeId) (p : Pk) (q : Pl) : Px (w.alloc (p.obj q t)) w.heap.size t p q := heap_alloc_new w _
theorem Px.other {d o : Nat} (h : Px w b t p q) (u : Value) (hne : b ≠ d) : Px (w.setCell ⟨d, o, none⟩ u) b t p q := by
  unfold Px at h ⊢
  rw [← h]
  exact Below.heap_setCell _ _ _ _ (fun e => hne e)
end

/-- A packet is written into a block, cell by cell. -/
abbrev put10 (w : World) (b : Nat) (p : Pk) (q : Pl) : World :=
  (((((((((w.setCell ⟨b, 0, none⟩ (.int .u16 (p.proto : Int))).setCell ⟨b, 1, none⟩ (.int .u8 (p.code : Int))).setCell ⟨b, 2, none⟩ (.int .u8 (p.id : Int))).setCell ⟨b, 3, none⟩ (.slice q.ao q.no q.co)).setCell ⟨b, 4, none⟩ (.int .u16 (p.sub : Int))).setCell ⟨b, 5, none⟩ (.int .u32 (p.magic : Int))).setCell ⟨b, 6, none⟩ (.slice q.a1 q.n1 q.c1)).setCell ⟨b, 7, none⟩ (.slice q.a2 q.n2 q.c2)).setCell ⟨b, 8, none⟩ (.slice q.ad q.nd q.cd)).setCell ⟨b, 9, none⟩ (.slice q.an q.nn q.cn)
theorem put10_below {W w : World} {B b : Nat} (h : Below B W w) (hb : B ≤ b) (p : Pk) (q : Pl) : Below B W (put10 w b p q) :=
  (((((((((h.setCell (p := ⟨b, 0, none⟩) hb _).setCell (p := ⟨b, 1, none⟩) hb _).setCell (p := ⟨b, 2, none⟩) hb _).setCell (p := ⟨b, 3, none⟩) hb _).setCell (p := ⟨b, 4, none⟩) hb _).setCell (p := ⟨b, 5, none⟩) hb _).setCell (p := ⟨b, 6, none⟩) hb _).setCell (p := ⟨b, 7, none⟩) hb _).setCell (p := ⟨b, 8, none⟩) hb _).setCell (p := ⟨b, 9, none⟩) hb _
section
variable {w : World} {b : Nat} {t : TypeId} {p : Pk} {q : Pl}
theorem Px.setCode (h : Px w b t p q) (v : Nat) : Px (w.setCell ⟨b, 1, none⟩ (.int .u8 (v : Int))) b t { p with code := v } q := heap_setCell_same _ b 1 _ _ _ h
theorem Px.setId (h : Px w b t p q) (v : Nat) : Px (w.setCell ⟨b, 2, none⟩ (.int .u8 (v : Int))) b t { p with id := v } q := heap_setCell_same _ b 2 _ _ _ h
theorem Px.setOpts (h : Px w b t p q) (A : Option Addr) (n c : Nat) (l : List (Nat × List Nat)) : Px (w.setCell ⟨b, 3, none⟩ (.slice A n c)) b t { p with opts := l } { q with ao := A, no := n, co := c } := heap_setCell_same _ b 3 _ _ _ h
theorem Px.setSub (h : Px w b t p q) (v : Nat) : Px (w.setCell ⟨b, 4, none⟩ (.int .u16 (v : Int))) b t { p with sub := v } q := heap_setCell_same _ b 4 _ _ _ h
theorem Px.setMagic (h : Px w b t p q) (v : Nat) : Px (w.setCell ⟨b, 5, none⟩ (.int .u32 (v : Int))) b t { p with magic := v } q := heap_setCell_same _ b 5 _ _ _ h
theorem Px.setProto (h : Px w b t p q) (v : Nat) : Px (w.setCell ⟨b, 0, none⟩ (.int .u16 (v : Int))) b t { p with proto := v } q := heap_setCell_same _ b 0 _ _ _ h
theorem Px.setOne (h : Px w b t p q) (A : Option Addr) (n c : Nat) (l : List Nat) : Px (w.setCell ⟨b, 6, none⟩ (.slice A n c)) b t { p with one := l } { q with a1 := A, n1 := n, c1 := c } := heap_setCell_same _ b 6 _ _ _ h
theorem Px.setTwo (h : Px w b t p q) (A : Option Addr) (n c : Nat) (l : List Nat) : Px (w.setCell ⟨b, 7, none⟩ (.slice A n c)) b t { p with two := l } { q with a2 := A, n2 := n, c2 := c } := heap_setCell_same _ b 7 _ _ _ h
theorem Px.setData (h : Px w b t p q) (A : Option Addr) (n c : Nat) (l : List Nat) : Px (w.setCell ⟨b, 8, none⟩ (.slice A n c)) b t { p with data := l } { q with ad := A, nd := n, cd := c } := heap_setCell_same _ b 8 _ _ _ h
theorem Px.setNums (h : Px w b t p q) (A : Option Addr) (n c : Nat) (l : List Nat) : Px (w.setCell ⟨b, 9, none⟩ (.slice A n c)) b t { p with nums := l } { q with an := A, nn := n, cn := c } := heap_setCell_same _ b 9 _ _ _ h
end

theorem put10_px {w : World} {b : Nat} {t : TypeId} {p0 : Pk} {q0 : Pl} (h : Px w b t p0 q0) (p : Pk) (q : Pl) : Px (put10 w b p q) b t p q :=
  (((((((((h.setProto p.proto).setCode p.code).setId p.id).setOpts q.ao q.no q.co p.opts).setSub p.sub).setMagic p.magic).setOne q.a1 q.n1 q.c1 p.one).setTwo q.a2 q.n2 q.c2 p.two).setData q.ad q.nd q.cd p.data).setNums q.an q.nn q.cn p.nums
/-- A walk goes on in a world of which a few things alone are known. -/
theorem at_worldP {F : Act → World → Prop} {x : Act} {W : World} (R : World → Prop) (C : R W) (h : ∀ W', R W' → F x W') : F x W := h W C
theorem results_row_tmpP {fn : Func} {p u : Tmp} {ty : TypeId} (h : fn.results = #[.cell p ty, .tmp u]) (tmps : Array Value) (v : Value) (w : World) (g : Nat) (t : TypeId) (cs : Array Value) (fr : Nat × Nat) (fs : Array Field)
    (hp : tmps.getD p undef = .pointer (some ⟨g, 0, none⟩)) (hv : tmps.getD u undef = v) (hg : w.heap[g]? = some (.cells cs t fr))
    (hu : Try.prog.underlying ty = some (.struct fs)) (hi : (Try.prog.info? ty).map (·.size) = some cs.size) :
    (results fn tmps).run Try.prog w = .ok (.tuple #[.agg cs, v]) w := by
  have hp' : tmps[p]?.getD undef = .pointer (some ⟨g, 0, none⟩) := by simpa using hp
  have hv' : tmps[u]?.getD undef = v := by simpa using hv
  rw [results_cell_tmp h]
  simp [hp', hv', asAddr, run_loadVar_row w g t ty cs fr _ hg hu rfl hi, Result.andThen]
end

section
set_option maxRecDepth 4000
open Go.ChangeShapes Go.WideShapes Go.ChangeAt Go.RowKit Go.Deep

theorem pk_cellsP : Try.prog.cellsOf 29 = 10 := by kernel_rfl
theorem pk_c22 : Try.prog.cellsOf 22 = 1 := by kernel_rfl
theorem pk_c24 : Try.prog.cellsOf 25 = 1 := by kernel_rfl
theorem pk_b24 : Try.prog.bytesOf 25 = 4 := by kernel_rfl
theorem pk_c23 : Try.prog.cellsOf 24 = 1 := by kernel_rfl
theorem pk_c26 : Try.prog.cellsOf 27 = 1 := by kernel_rfl

theorem pk_u16 {n : Int} (h : (Lit.int .u16 n).wf = true) : 0 ≤ n ∧ n < 65536 := by
  simp [Lit.wf, IntKind.min, IntKind.max, IntKind.signed, IntKind.bits] at h
  omega
theorem pk_u32 {n : Int} (h : (Lit.int .u32 n).wf = true) : 0 ≤ n ∧ n < 4294967296 := by
  simp [Lit.wf, IntKind.min, IntKind.max, IntKind.signed, IntKind.bits] at h
  omega
theorem pk_u8 {n : Int} (h : (Lit.int .u8 n).wf = true) : 0 ≤ n ∧ n < 256 := by
  simp [Lit.wf, IntKind.min, IntKind.max, IntKind.signed, IntKind.bits] at h
  omega

set_option maxRecDepth 8000 in
/-- A slice of octets as a field. -/
theorem open_bytesP {H : Type} {enc : TypeId × Value → H} {w : World} {base : Nat} {held : Bool} {fuel : Nat} {v : Value} {x : DataW H × List MemPlace}
    (h : DataW.trod enc Try.prog w base (fun _ => true) held fuel 26 [v] = some x) : ∃ a n c l, v = .slice a n c ∧ l.length = n ∧ n ≤ c ∧ By l ∧ Rd w w.heap.size a l := by
  rcases open_ints Try.underlying26 Try.underlying5 ocell0 h with ⟨hcs, _⟩ | ⟨ad, len, cap, zs, hcs, _, hlc, hm, hz, hy, hcell, hwz⟩
  · simp at hcs
    exact ⟨none, 0, 0, [], hcs, rfl, Nat.le_refl _, By.nil, Rd.nil⟩
  · simp at hcs
    obtain ⟨m, e1, e2, e3⟩ := rowBytes (w := w) (a := some ad) (len := len) (cap := cap) (zs := zs) (.inr ⟨ad, rfl, hlc, hm, by simpa using hz, hcell, hwz⟩)
    exact ⟨some ad, len, cap, m, hcs, e1, hlc, e2, e3⟩

set_option maxRecDepth 8000 in
/-- A slice of numbers as a field. -/
theorem open_numsP {H : Type} {enc : TypeId × Value → H} {w : World} {base : Nat} {held : Bool} {fuel : Nat} {v : Value} {x : DataW H × List MemPlace}
    (h : DataW.trod enc Try.prog w base (fun _ => true) held fuel 27 [v] = some x) : ∃ a n c l, v = .slice a n c ∧ l.length = n ∧ (∀ x ∈ l, x < 4294967296) ∧ Rws shN (fun _ => True) w a l := by
  rcases open_ints Try.underlying27 Try.underlying25 pk_c24 h with ⟨hcs, _⟩ | ⟨ad, len, cap, zs, hcs, _, hlc, hm, hz, hy, hcell, hwz⟩
  · simp at hcs
    exact ⟨none, 0, 0, [], hcs, rfl, (fun _ h => by cases h), Rws.nil⟩
  · simp at hcs
    have hz' : zs.length = cap := by simpa using hz
    have hb : ∀ n ∈ zs, 0 ≤ n ∧ n < 4294967296 := fun n hn => pk_u32 (hwz n hn)
    refine ⟨some ad, len, cap, (zs.take len).map Int.toNat, hcs, by simp; omega, ?_, ?_⟩
    · intro y hy
      obtain ⟨n, hn, rfl⟩ := List.mem_map.1 hy
      have := hb n (List.mem_of_mem_take hn)
      omega
    · intro hlen
      have hlen' : 0 < len := by simp at hlen; omega
      have h0 := hcell 0 (by omega)
      obtain ⟨b, off, spot⟩ := ad
      have hs : spot = none := by simpa [Addr.add] using World.cell?_spot h0
      subst hs
      refine ⟨b, off, rfl, by simpa [Addr.add] using block_lt h0, trivial, fun k x hx => ⟨[.int .u32 (x : Int)], rfl, fun j u hu => ?_⟩⟩
      match j, hu with
      | j + 1, hu => simp at hu
      | 0, hu =>
        injection hu with hu
        subst hu
        rw [show off + (k * shN.sz + 0) = off + k by show off + (k * 1 + 0) = off + k; omega]
        rw [List.getElem?_map] at hx
        obtain ⟨n, hn, rfl⟩ := Option.map_eq_some_iff.1 hx
        rw [List.getElem?_take] at hn
        split at hn
        · have hk : k < zs.length := (List.getElem?_eq_some_iff.1 hn).1
          have hck := hcell k hk
          rw [List.getD_eq_getElem?_getD, hn, Option.getD_some] at hck
          have hnn := hb n (List.mem_of_getElem? hn)
          rw [show ((n.toNat : Nat) : Int) = n from by omega, ← hck]
          by_cases h0 : k = 0
          · subst h0; simp [Addr.add]
          · simp [Addr.add, h0]
        · cases hn

set_option maxRecDepth 8000 in
/-- A slice of options as a field. -/
theorem open_optsP {H : Type} {enc : TypeId × Value → H} {w : World} {base : Nat} {held : Bool} {fuel : Nat} {v : Value} {x : DataW H × List MemPlace}
    (h : DataW.trod enc Try.prog w base (fun _ => true) held fuel 24 [v] = some x) (hs : ∀ n ∈ x.1.weights Try.prog 24, n ≤ reachBytes) : ∃ a n c l, v = .slice a n c ∧ IsOpts w a n c l := by
  have hv : ∃ a n c, v = .slice a n c := by
    rcases open_slice Try.underlying24 h with ⟨hcs, _⟩ | ⟨x, l, c, m, n, D, Pl, hcs, _⟩
    · exact ⟨none, 0, 0, by simpa using hcs⟩
    · exact ⟨some x, l, c, by simpa using hcs⟩
  obtain ⟨a, n, c, rfl⟩ := hv
  obtain ⟨a', n', c', l, e, h'⟩ := open_optsV (H := H) (enc := enc) (w := w) (base := base) (held := held) (v := .slice a n c) (d := x.1) (p := x.2) ⟨a, n, c, rfl⟩ ⟨fuel, h⟩ hs
  exact ⟨a', n', c', l, e, h'⟩

/-- What the walk is told of a packet. -/
structure IsPk (w : World) (p : Pk) (q : Pl) : Prop where
  ok : p.ok
  pw : Pw w p q
  no : q.no ≤ 140737488351232
  od : ∀ x ∈ p.opts, x.2.length ≤ 140737488351232

set_option maxRecDepth 8000 in
set_option maxHeartbeats 4000000 in
theorem open_pk {H : Type} {enc : TypeId × Value → H} {w : World} {base : Nat} {held : Bool} {r : Reach} {b0 : Nat} {v : Value} {d : DataW H} {p : List MemPlace}
    (hv : Value.okWide Try.prog w r b0 29 v) (h : DataW.Trod enc Try.prog w base (fun _ => true) held 29 v d p) (hs : ∀ n ∈ d.weights Try.prog 29, n ≤ reachBytes) :
    ∃ x q, v = Pk.val x q ∧ IsPk w x q := by
  obtain ⟨cs, rfl, hsz⟩ := okWide_struct Try.underlying29 hv
  obtain ⟨l⟩ := cs
  match l, hsz.trans pk_cellsP with
  | [x0, x1, x2, x3, x4, x5, x6, x7, x8, x9], _ =>
    obtain ⟨fuel, hf⟩ := h
    obtain ⟨xs, n, _, hx, _, hlen, hg⟩ := DataW.trod_struct Try.underlying29 hf
    match xs, hlen with
    | [y0, y1, y2, y3, y4, y5, y6, y7, y8, y9], _ =>
      have g0 := hg 0 _ rfl
      have g1 := hg 1 _ rfl
      have g2 := hg 2 _ rfl
      have g3 := hg 3 _ rfl
      have g4 := hg 4 _ rfl
      have g5 := hg 5 _ rfl
      have g6 := hg 6 _ rfl
      have g7 := hg 7 _ rfl
      have g8 := hg 8 _ rfl
      have g9 := hg 9 _ rfl
      simp [Value.cells, pk_c22, pk_c24, pk_c23, pk_c26, ocell0, ocell1] at g0 g1 g2 g3 g4 g5 g6 g7 g8 g9
      have hd := congrArg Prod.fst hx
      simp only at hd
      rw [hd] at hs
      simp only [DataW.weights, Try.underlying29] at hs
      obtain ⟨z0, e0, _, s0⟩ := DataW.trod_int Try.underlying22 g0
      obtain ⟨z1, e1, _, s1⟩ := DataW.trod_int Try.underlying5 g1
      obtain ⟨z2, e2, _, s2⟩ := DataW.trod_int Try.underlying5 g2
      obtain ⟨z4, e4, _, s4⟩ := DataW.trod_int Try.underlying22 g4
      obtain ⟨z5, e5, _, s5⟩ := DataW.trod_int Try.underlying25 g5
      simp at e0 e1 e2 e4 e5
      obtain ⟨a6, n6, c6, l6, e6, f6, k6, b6, r6⟩ := open_bytesP g6
      obtain ⟨a7, n7, c7, l7, e7, f7, k7, b7, r7⟩ := open_bytesP g7
      obtain ⟨a8, n8, c8, l8, e8, f8, k8, b8, r8⟩ := open_bytesP g8
      obtain ⟨a9, n9, c9, l9, e9, f9, b9, r9⟩ := open_numsP g9
      obtain ⟨a3, n3, c3, l3, e3, o3⟩ := open_optsP g3 (fun k hk => hs k (DataW.weights_mem_each (j := 3) (t := 24) rfl rfl k hk))
      subst e0 e1 e2 e3 e4 e5 e6 e7 e8 e9
      have t0 := pk_u16 s0
      have t1 := pk_u8 s1
      have t2 := pk_u8 s2
      have t4 := pk_u16 s4
      have t5 := pk_u32 s5
      obtain ⟨i1, i2, i3, i4, i5, i6⟩ := o3
      refine ⟨⟨z0.toNat, z1.toNat, z2.toNat, l3, z4.toNat, z5.toNat, l6, l7, l8, l9⟩, ⟨a3, n3, c3, a6, n6, c6, a7, n7, c7, a8, n8, c8, a9, n9, c9⟩, ?_, ⟨?_, ?_, i3, i5⟩⟩
      · show _ = Value.agg #[.int .u16 (z0.toNat : Int), .int .u8 (z1.toNat : Int), .int .u8 (z2.toNat : Int), .slice a3 n3 c3, .int .u16 (z4.toNat : Int), .int .u32 (z5.toNat : Int), .slice a6 n6 c6, .slice a7 n7 c7, .slice a8 n8 c8, .slice a9 n9 c9]
        rw [Int.toNat_of_nonneg t0.1, Int.toNat_of_nonneg t1.1, Int.toNat_of_nonneg t2.1, Int.toNat_of_nonneg t4.1, Int.toNat_of_nonneg t5.1]
      · exact ⟨by show z0.toNat < _; omega, by show z1.toNat < _; omega, by show z2.toNat < _; omega, i4, by show z4.toNat < _; omega, by show z5.toNat < _; omega, b6, b7, b8, b9⟩
      · exact ⟨i1, i6, f6, r6, f7, r7, f8, r8, f9, r9, k6, k7, k8⟩
end

section
set_option maxRecDepth 4000
open Go.RowKit

/-- Of a size that all calls bear. -/
structure Pk.sm (p : Pk) : Prop where
  o : p.opts.length ≤ 1073741824
  d : datB p.opts ≤ 1073741824
  n1 : p.one.length ≤ 1073741824
  n2 : p.two.length ≤ 1073741824
  nd : p.data.length ≤ 1073741824
  nn : p.nums.length ≤ 1073741824
/-- Has a packet few octets? -/
def fewP (p : Pk) : Bool := fewB p.opts && decide (p.one.length ≤ 600) && decide (p.two.length ≤ 600) && decide (p.data.length ≤ 600) && decide (p.nums.length ≤ 40)
theorem fewP_of {p : Pk} (h : fewP p = true) : (p.opts.length ≤ 60 ∧ datB p.opts ≤ 1000) ∧ p.one.length ≤ 600 ∧ p.two.length ≤ 600 ∧ p.data.length ≤ 600 ∧ p.nums.length ≤ 40 := by
  unfold fewP at h
  simp only [Bool.and_eq_true, decide_eq_true_eq] at h
  exact ⟨few_of h.1.1.1.1, h.1.1.1.2, h.1.1.2, h.1.2, h.2⟩
theorem fewP_sm {p : Pk} (h : fewP p = true) : p.sm := by
  obtain ⟨⟨h1, h2⟩, h3, h4, h5, h6⟩ := fewP_of h
  exact ⟨by omega, by omega, by omega, by omega, by omega, by omega⟩

theorem belowP_two (w : World) (a b : Obj) : Below w.heap.size w ((w.alloc a).alloc b) := ((Below.refl w.heap.size w).alloc (Nat.le_refl _) a).alloc (by simp) b
/-- No packet, in memory. -/
abbrev obj0P (t : TypeId) : Obj := .cells #[.int .u16 0, .int .u8 0, .int .u8 0, .slice none 0 0, .int .u16 0, .int .u32 0, .slice none 0 0, .slice none 0 0, .slice none 0 0, .slice none 0 0] t (0, 0)
theorem px0 {w : World} {b : Nat} {t : TypeId} (h : w.heap[b]? = some (obj0P t)) : Px w b t pk0 pl0 := h

set_option maxHeartbeats 1000000 in
theorem few15_any (p : Pk) (q : Pl) (w : World) (h : Pw w p q) (hn : q.no ≤ 140737488351232) (hd : ∀ x ∈ p.opts, x.2.length ≤ 140737488351232) (r : Bool) (hr : fewP p = r) :
    Calls Try.prog 15 #[p.val q] w fun e w' => e = .returned (.bool r) ∧ Below w.heap.size w w' := by
  have hb1 := (Below.refl w.heap.size w).alloc (Nat.le_refl _) (p.obj q 29)
  have PX := Lib.hid (px_new w 29 p q)
  have H := Lib.hid (h.on hb1)
  have B := Lib.hid hb1
  have HD := Lib.hid hd
  have e1 := h.l1
  have e2 := h.l2
  have e3 := h.ld
  have e4 := h.ln
  obtain ⟨f, hf⟩ : ∃ f, Hid (fewB p.opts = f) := ⟨_, Lib.hid rfl⟩
  have E := Lib.hid (show r = (f && decide (q.n1 ≤ 600) && decide (q.n2 ≤ 600) && decide (q.nd ≤ 600) && decide (q.nn ≤ 40)) by rw [← hr, fewP, hf.out, e1, e2, e3, e4])
  clear h hb1 hd e1 e2 e3 e4 hr
  go_enter Try.func15, Try.ntmps15
  go_wp2_with (go_at_call 25; (with_reducible refine (few_v p.opts _ hf.out q.no q.co q.ao _ _ H.out.ro H.out.lo (by omega) HD.out).mono ?_); rintro e wn ⟨rfl, hb⟩; replace B := Lib.hid (B.out.trans (hb.mono B.out.size)); obtain ⟨x0, x1, x2, x3, x4, x5, x6, x7, x8, x9⟩ := (PX.out.below hb).all; clear hb; cases f)
  all_goals
    go_ret
    refine ⟨?_, B.out⟩
    show Ending.returned (.bool _) = _
    have W' := E.out
    clear E
    congr 2
    rw [W']
    try simp only [show ∀ n : Nat, ((n : Int) ≤ 600) = (n ≤ 600) from fun n => by simp only [eq_iff_iff]; omega, show ∀ n : Nat, ((n : Int) ≤ 40) = (n ≤ 40) from fun n => by simp only [eq_iff_iff]; omega] at *
    (try simp_all) <;> (try (intros; omega))

/-- What Of and To know of the world they stand in. -/
structure OfC (T U : TypeId) (w W : World) (p : Pk) (q : Pl) : Prop where
  bel : Below w.heap.size w W
  cf : Px W w.heap.size T p q
  res : Px W (w.heap.size + 1) U pk0 pl0
section
variable {T U : TypeId} {w W X W' : World} {p : Pk} {q : Pl}
theorem OfC.made (T U : TypeId) (w : World) (p : Pk) (q : Pl) : OfC T U w ((w.alloc (p.obj q T)).alloc (obj0P U)) p q := by
  have e1 : (w.alloc (p.obj q T)).heap.size = w.heap.size + 1 := World.size_alloc _ _
  refine ⟨belowP_two w _ _, heap_alloc2_old w _ _, ?_⟩
  have := heap_alloc_new (w.alloc (p.obj q T)) (obj0P U)
  rw [e1] at this
  exact px0 this
theorem OfC.step (h : OfC T U w W p q) (hb : Below X.heap.size X W') (hX : Below W.heap.size W X := by first | exact Below.refl _ _ | exact (Below.refl _ _).drew) : OfC T U w W' p q :=
  have hh := hX.trans (hb.mono hX.size)
  ⟨h.bel.trans (hh.mono h.bel.size), h.cf.below hh, h.res.below hh⟩
theorem OfC.lt (h : OfC T U w W p q) : w.heap.size + 1 < W.heap.size := h.res.lt
theorem OfC.put (h : OfC T U w W p q) (r : Pl) : Pc (put10 W (w.heap.size + 1) p r) w.heap.size p q := by
  have hne : w.heap.size ≠ w.heap.size + 1 := by omega
  exact ((((((((((h.cf.other _ hne).other _ hne).other _ hne).other _ hne).other _ hne).other _ hne).other _ hne).other _ hne).other _ hne).other _ hne).all
end

theorem keeps_set (w : World) (k j : Nat) (u : Value) : Keeps (fun b => b ≠ k) w (w.setCell ⟨k, j, none⟩ u) := ⟨by simp [World.setCell], fun i _ hx => Below.heap_setCell _ _ _ _ (fun e => hx e)⟩
theorem put10_keeps (w : World) (b : Nat) (p : Pk) (q : Pl) : Keeps (fun i => i ≠ b) w (put10 w b p q) :=
  (((((((((keeps_set _ _ _ _).trans (keeps_set _ _ _ _)).trans (keeps_set _ _ _ _)).trans (keeps_set _ _ _ _)).trans (keeps_set _ _ _ _)).trans (keeps_set _ _ _ _)).trans (keeps_set _ _ _ _)).trans (keeps_set _ _ _ _)).trans (keeps_set _ _ _ _)).trans (keeps_set _ _ _ _)
theorem Pw.opts {w : World} {p : Pk} {q : Pl} (h : Pw w p q) {A : Option Addr} {c : Nat} (hr : Rws shO (fun _ => True) w A p.opts) : Pw w p { q with ao := A, co := c } :=
  ⟨h.lo, hr, h.l1, h.r1, h.l2, h.r2, h.ld, h.rd, h.ln, h.rn, h.k1, h.k2, h.kd⟩
theorem oofN_v (l : List (Nat × List Nat)) (n c : Nat) (A : Option Addr) (k : Nat) (w : World) (hk : k < w.heap.size) (h : Rws shO (fun b => b ≠ k) w A l) (hl : l.length = n) (hn : n ≤ 1073741824) :
    Calls Try.prog 26 #[.slice A n c] w fun e w' => ∃ A' c', e = .returned (.slice A' n c') ∧ Rws shO (fun b => b ≠ k) w' A' l ∧ Below w.heap.size w w' :=
  (oof_any l n c A _ w h (fun b hb => by omega) hl hn).mono fun _ _ ⟨v, h1, h2, h3⟩ => by
    obtain ⟨A', c', rfl, _, _, hr⟩ := h2.slice
    rw [hl] at h1
    exact ⟨A', c', h1, hr.mono (fun b _ hb => hb.elim id (fun h => by omega)), h3⟩
theorem otoN_v (l : List (Nat × List Nat)) (n c : Nat) (A : Option Addr) (k : Nat) (w : World) (hk : k < w.heap.size) (h : Rws shO (fun b => b ≠ k) w A l) (hl : l.length = n) (hn : n ≤ 1073741824) :
    Calls Try.prog 20 #[.slice A n c] w fun e w' => ∃ A' c', e = .returned (.slice A' n c') ∧ Rws shO (fun b => b ≠ k) w' A' l ∧ Below w.heap.size w w' :=
  (oto_any l n c A _ w h (fun b hb => by omega) hl hn).mono fun _ _ ⟨v, h1, h2, h3⟩ => by
    obtain ⟨A', c', rfl, _, _, hr⟩ := h2.slice
    rw [hl] at h1
    exact ⟨A', c', h1, hr.mono (fun b _ hb => hb.elim id (fun h => by omega)), h3⟩
set_option maxHeartbeats 4000000 in
theorem of15_any (p : Pk) (q : Pl) (w : World) (h : Pw w p q) (hn : q.no ≤ 1073741824) :
    Calls Try.prog 17 #[p.val q] w fun e w' => ∃ r, e = .returned (p.val r) ∧ Pw w' p r ∧ Below w.heap.size w w' := by
  have C := Lib.hid (OfC.made 29 37 w p q)
  have H := Lib.hid h
  have RO := Lib.hid ((h.ro.mono (G := fun b => b < w.heap.size) (fun b hb _ => hb)))
  clear h
  go_enter Try.func17, Try.ntmps17
  go_wp2_with fail
  obtain ⟨wm, hwm⟩ : ∃ wm, wm = (w.alloc (p.obj q 29)).alloc (obj0P 37) := ⟨_, rfl⟩
  rw [← hwm] at C ⊢
  clear hwm
  replace RO := Lib.hid ((RO.out.below C.out.bel).mono (G := fun b => b ≠ w.heap.size + 1) (fun b _ hb => by omega))
  obtain ⟨x0, x1, x2, x3, x4, x5, x6, x7, x8, x9⟩ := C.out.cf.all
  go_region_held3 (fun W => W.cell? ⟨w.heap.size, 0, none⟩ = some (.int .u16 (p.proto : Int)) ∧ W.cell? ⟨w.heap.size, 1, none⟩ = some (.int .u8 (p.code : Int)) ∧ W.cell? ⟨w.heap.size, 2, none⟩ = some (.int .u8 (p.id : Int)) ∧ W.cell? ⟨w.heap.size, 3, none⟩ = some (.slice q.ao q.no q.co) ∧ W.cell? ⟨w.heap.size, 4, none⟩ = some (.int .u16 (p.sub : Int)) ∧ W.cell? ⟨w.heap.size, 5, none⟩ = some (.int .u32 (p.magic : Int)) ∧ W.cell? ⟨w.heap.size, 6, none⟩ = some (.slice q.a1 q.n1 q.c1) ∧ W.cell? ⟨w.heap.size, 7, none⟩ = some (.slice q.a2 q.n2 q.c2) ∧ W.cell? ⟨w.heap.size, 8, none⟩ = some (.slice q.ad q.nd q.cd) ∧ W.cell? ⟨w.heap.size, 9, none⟩ = some (.slice q.an q.nn q.cn)) (first | (with_reducible exact C.out.cf.all) | (with_reducible exact (C.out.step (Below.refl _ _).drew).cf.all) | (with_reducible exact C.out.put { q with ao := A, co := c })) (first
    | (go_at_call 26; (first | (with_reducible refine (oofN_v p.opts q.no q.co q.ao (w.heap.size + 1) _ C.out.lt RO.out H.out.lo hn).mono ?_) | (with_reducible refine (oofN_v p.opts q.no q.co q.ao (w.heap.size + 1) _ (C.out.step (Below.refl wm.heap.size wm).drew).lt (RO.out.below (Below.refl wm.heap.size wm).drew) H.out.lo hn).mono ?_)); rintro e wn ⟨A, c, rfl, hr, hb⟩; replace C := Lib.hid (C.out.step hb); have R := Lib.hid hr; clear hb hr RO; obtain ⟨y0, y1, y2, y3, y4, y5, y6, y7, y8, y9⟩ := C.out.res.all; obtain ⟨z0, z1, z2, z3, z4, z5, z6, z7, z8, z9⟩ := C.out.res.free; dsimp only))
  have B := Lib.hid (put10_below C.out.bel (Nat.le_succ _) p { q with ao := A, co := c })
  with_reducible refine at_worldP (fun W => Hid (Below w.heap.size w W) ∧ Hid (Px W (w.heap.size + 1) 37 p { q with ao := A, co := c }) ∧ Hid (Pw W p { q with ao := A, co := c })) ⟨B, Lib.hid (put10_px C.out.res p { q with ao := A, co := c }), Lib.hid ((H.out.on B.out).opts ((R.out.keep (put10_keeps wn (w.heap.size + 1) p { q with ao := A, co := c })).mono (fun _ _ _ => trivial)))⟩ ?_
  clear B C R H x0 x1 x2 x3 x4 x5 x6 x7 x8 x9 y0 y1 y2 y3 y4 y5 y6 y7 y8 y9 z0 z1 z2 z3 z4 z5 z6 z7 z8 z9
  rintro W ⟨B, X, P⟩
  all_goals go_wp2_with fail
  refine bodyPost_ret (v := p.val { q with ao := A, co := c }) ?_ rfl ⟨_, rfl, P.out, B.out⟩
  exact results_cell_row rfl _ _ (w.heap.size + 1) 37 _ _ _ rfl X.out Try.underlying37 rfl (by kernel_rfl)

set_option maxHeartbeats 4000000 in
theorem to15_any (p : Pk) (q : Pl) (w : World) (h : Pw w p q) (hn : q.no ≤ 1073741824) :
    Calls Try.prog 10 #[p.val q] w fun e w' => ∃ r, e = .returned (p.val r) ∧ Pw w' p r ∧ Below w.heap.size w w' := by
  have C := Lib.hid (OfC.made 37 29 w p q)
  have H := Lib.hid h
  have RO := Lib.hid ((h.ro.mono (G := fun b => b < w.heap.size) (fun b hb _ => hb)))
  clear h
  go_enter Try.func10, Try.ntmps10
  go_wp2_with fail
  obtain ⟨wm, hwm⟩ : ∃ wm, wm = (w.alloc (p.obj q 37)).alloc (obj0P 29) := ⟨_, rfl⟩
  rw [← hwm] at C ⊢
  clear hwm
  replace RO := Lib.hid ((RO.out.below C.out.bel).mono (G := fun b => b ≠ w.heap.size + 1) (fun b _ hb => by omega))
  obtain ⟨x0, x1, x2, x3, x4, x5, x6, x7, x8, x9⟩ := C.out.cf.all
  go_region_held3 (fun W => W.cell? ⟨w.heap.size, 0, none⟩ = some (.int .u16 (p.proto : Int)) ∧ W.cell? ⟨w.heap.size, 1, none⟩ = some (.int .u8 (p.code : Int)) ∧ W.cell? ⟨w.heap.size, 2, none⟩ = some (.int .u8 (p.id : Int)) ∧ W.cell? ⟨w.heap.size, 3, none⟩ = some (.slice q.ao q.no q.co) ∧ W.cell? ⟨w.heap.size, 4, none⟩ = some (.int .u16 (p.sub : Int)) ∧ W.cell? ⟨w.heap.size, 5, none⟩ = some (.int .u32 (p.magic : Int)) ∧ W.cell? ⟨w.heap.size, 6, none⟩ = some (.slice q.a1 q.n1 q.c1) ∧ W.cell? ⟨w.heap.size, 7, none⟩ = some (.slice q.a2 q.n2 q.c2) ∧ W.cell? ⟨w.heap.size, 8, none⟩ = some (.slice q.ad q.nd q.cd) ∧ W.cell? ⟨w.heap.size, 9, none⟩ = some (.slice q.an q.nn q.cn)) (first | (with_reducible exact C.out.cf.all) | (with_reducible exact (C.out.step (Below.refl _ _).drew).cf.all) | (with_reducible exact C.out.put { q with ao := A, co := c })) (first
    | (go_at_call 20; (first | (with_reducible refine (otoN_v p.opts q.no q.co q.ao (w.heap.size + 1) _ C.out.lt RO.out H.out.lo hn).mono ?_) | (with_reducible refine (otoN_v p.opts q.no q.co q.ao (w.heap.size + 1) _ (C.out.step (Below.refl wm.heap.size wm).drew).lt (RO.out.below (Below.refl wm.heap.size wm).drew) H.out.lo hn).mono ?_)); rintro e wn ⟨A, c, rfl, hr, hb⟩; replace C := Lib.hid (C.out.step hb); have R := Lib.hid hr; clear hb hr RO; obtain ⟨y0, y1, y2, y3, y4, y5, y6, y7, y8, y9⟩ := C.out.res.all; obtain ⟨z0, z1, z2, z3, z4, z5, z6, z7, z8, z9⟩ := C.out.res.free; dsimp only))
  have B := Lib.hid (put10_below C.out.bel (Nat.le_succ _) p { q with ao := A, co := c })
  with_reducible refine at_worldP (fun W => Hid (Below w.heap.size w W) ∧ Hid (Px W (w.heap.size + 1) 29 p { q with ao := A, co := c }) ∧ Hid (Pw W p { q with ao := A, co := c })) ⟨B, Lib.hid (put10_px C.out.res p { q with ao := A, co := c }), Lib.hid ((H.out.on B.out).opts ((R.out.keep (put10_keeps wn (w.heap.size + 1) p { q with ao := A, co := c })).mono (fun _ _ _ => trivial)))⟩ ?_
  clear B C R H x0 x1 x2 x3 x4 x5 x6 x7 x8 x9 y0 y1 y2 y3 y4 y5 y6 y7 y8 y9 z0 z1 z2 z3 z4 z5 z6 z7 z8 z9
  rintro W ⟨B, X, P⟩
  all_goals go_wp2_with fail
  refine bodyPost_ret (v := p.val { q with ao := A, co := c }) ?_ rfl ⟨_, rfl, P.out, B.out⟩
  exact results_cell_row rfl _ _ (w.heap.size + 1) 29 _ _ _ rfl X.out Try.underlying29 rfl (by kernel_rfl)

/-- What Same knows of the world it stands in. -/
structure SaC (T : TypeId) (w W : World) (p : Pk) (q r : Pl) : Prop where
  bel : Below w.heap.size w W
  x : Px W w.heap.size T p q
  y : Px W (w.heap.size + 1) T p r
section
variable {T : TypeId} {w W X W' : World} {p : Pk} {q r : Pl}
theorem SaC.made (T : TypeId) (w : World) (p : Pk) (q r : Pl) : SaC T w ((w.alloc (p.obj q T)).alloc (p.obj r T)) p q r := by
  have e1 : (w.alloc (p.obj q T)).heap.size = w.heap.size + 1 := World.size_alloc _ _
  refine ⟨belowP_two w _ _, heap_alloc2_old w _ _, ?_⟩
  have := px_new (w.alloc (p.obj q T)) T p r
  rw [e1] at this
  exact this
theorem SaC.step (h : SaC T w W p q r) (hb : Below X.heap.size X W') (hX : Below W.heap.size W X := by first | exact Below.refl _ _ | exact (Below.refl _ _).drew) : SaC T w W' p q r :=
  have hh := hX.trans (hb.mono hX.size)
  ⟨h.bel.trans (hh.mono h.bel.size), h.x.below hh, h.y.below hh⟩
end

set_option maxHeartbeats 8000000 in
theorem psame_yes (p : Pk) (q r : Pl) (w : World) (ha : Pw w p q) (hb : Pw w p r) (hs : p.sm) :
    Calls Try.prog 9 #[p.val q, p.val r] w fun e w' => e = .returned (.bool true) ∧ Below w.heap.size w w' := by
  have C := Lib.hid (SaC.made 29 w p q r)
  have HA := Lib.hid ha
  have HB := Lib.hid hb
  obtain ⟨s1, s2, s3, s4, s5, s6⟩ := hs
  have n1 : r.nn = q.nn := by rw [← ha.ln, ← hb.ln]
  have n2 : r.no = q.no := by rw [← ha.lo, ← hb.lo]
  have n3 : r.n1 = q.n1 := by rw [← ha.l1, ← hb.l1]
  have n4 : r.n2 = q.n2 := by rw [← ha.l2, ← hb.l2]
  have n5 : r.nd = q.nd := by rw [← ha.ld, ← hb.ld]
  have m1 : q.nn ≤ 1073741824 := by rw [← ha.ln]; exact s6
  have m2 : q.no ≤ 1073741824 := by rw [← ha.lo]; exact s1
  have m3 : q.n1 ≤ 1073741824 := by rw [← ha.l1]; exact s3
  have m4 : q.n2 ≤ 1073741824 := by rw [← ha.l2]; exact s4
  have m5 : q.nd ≤ 1073741824 := by rw [← ha.ld]; exact s5
  have S2 := Lib.hid s2
  have M := Lib.hid (show q.n1 ≤ 1099511627776 ∧ q.n2 ≤ 1099511627776 ∧ q.nd ≤ 1099511627776 from ⟨by omega, by omega, by omega⟩)
  have N := Lib.hid (show r.nn = q.nn from n1)
  have j0 : ((q.nn : Int) != (r.nn : Int)) = false := by rw [n1]; simp
  clear ha hb s1 s2 s3 s4 s5 s6 n1 n2 n3 n4 n5 m3 m4 m5
  go_enter Try.func9, Try.ntmps9
  go_wp2_with fail
  obtain ⟨wm, hwm⟩ : ∃ wm, wm = (w.alloc (p.obj q 29)).alloc (p.obj r 29) := ⟨_, rfl⟩
  rw [← hwm] at C ⊢
  clear hwm j0
  go_loopw [5] (fun i wr => ∃ k : Nat, k ≤ q.nn ∧ i = .int .i64 k ∧ Hid (Below wm.heap.size wm wr)) (fun i _ => q.nn - (intOf i).toNat)
  case atStart => exact ⟨0, Nat.zero_le _, rfl, Lib.hid (Below.refl _ _)⟩
  case round =>
    obtain ⟨k, hk, rfl, BW⟩ := hrel
    replace C := Lib.hid (C.out.step BW.out)
    obtain ⟨x0, x1, x2, x3, x4, x5, x6, x7, x8, x9⟩ := C.out.x.all
    obtain ⟨y0, y1, y2, y3, y4, y5, y6, y7, y8, y9⟩ := C.out.y.all
    by_cases hlt : k < q.nn
    · obtain ⟨b1, o1, v, hA, hv, hc⟩ := ((HA.out.on C.out.bel).rn).num (k := k) (by rw [HA.out.ln]; exact hlt)
      obtain ⟨b2, o2, v', hA2, hv', hc2⟩ := ((HB.out.on C.out.bel).rn).num (k := k) (by rw [HA.out.ln]; exact hlt)
      obtain rfl : v = v' := Option.some.inj (hv.symm.trans hv')
      rw [hA] at x9
      rw [hA2, N.out] at y9
      clear hA hA2 hv hv' x0 x1 x2 x3 x4 x5 x6 x7 x8 y0 y1 y2 y3 y4 y5 y6 y7 y8
      have i1 : (0 : Int) ≤ k := by omega
      have i2 : (k : Int) < q.nn := by omega
      go_wp2_with fail
      go_quiet (fail)
      all_goals go_wp2_with fail
      go_roundw
      case rel => exact ⟨k + 1, by omega, by go_num, Lib.hid (below_drewN BW.out _)⟩
      case measure => simp [intOf]; omega
    · have he : k = q.nn := by omega
      subst he
      have B := Lib.hid C.out.bel
      go_wp2_with (first
        | (go_at_call 19; (with_reducible refine (orsame_v p.opts p.opts _ (decide_eq_true rfl) q.no r.no q.co r.co _ _ _ _ _ (HA.out.on B.out).ro (HB.out.on B.out).ro HA.out.lo HB.out.lo (by omega) (Nat.le_trans S2.out (by decide))).mono ?_); rintro e wn ⟨rfl, hb⟩; replace C := Lib.hid (C.out.step hb); replace B := Lib.hid (B.out.trans (hb.mono B.out.size)); clear hb x0 x1 x2 x3 x4 x5 x6 x7 x8 x9 y0 y1 y2 y3 y4 y5 y6 y7 y8 y9; obtain ⟨x0, x1, x2, x3, x4, x5, x6, x7, x8, x9⟩ := C.out.x.all; obtain ⟨y0, y1, y2, y3, y4, y5, y6, y7, y8, y9⟩ := C.out.y.all)
        | (go_at_call 8; (with_reducible refine (equal_yes p.one p.one q.n1 r.n1 q.a1 r.a1 q.c1 r.c1 _ (HA.out.on B.out).r1 (HB.out.on B.out).r1 HA.out.l1 HB.out.l1 M.out.1 rfl).mono ?_); rintro e wn ⟨rfl, hb⟩; replace C := Lib.hid (C.out.step hb); replace B := Lib.hid (B.out.trans (hb.mono B.out.size)); clear hb x0 x1 x2 x3 x4 x5 x6 x7 x8 x9 y0 y1 y2 y3 y4 y5 y6 y7 y8 y9; obtain ⟨x0, x1, x2, x3, x4, x5, x6, x7, x8, x9⟩ := C.out.x.all; obtain ⟨y0, y1, y2, y3, y4, y5, y6, y7, y8, y9⟩ := C.out.y.all)
        | (go_at_call 8; (with_reducible refine (equal_yes p.two p.two q.n2 r.n2 q.a2 r.a2 q.c2 r.c2 _ (HA.out.on B.out).r2 (HB.out.on B.out).r2 HA.out.l2 HB.out.l2 M.out.2.1 rfl).mono ?_); rintro e wn ⟨rfl, hb⟩; replace C := Lib.hid (C.out.step hb); replace B := Lib.hid (B.out.trans (hb.mono B.out.size)); clear hb x0 x1 x2 x3 x4 x5 x6 x7 x8 x9 y0 y1 y2 y3 y4 y5 y6 y7 y8 y9; obtain ⟨x0, x1, x2, x3, x4, x5, x6, x7, x8, x9⟩ := C.out.x.all; obtain ⟨y0, y1, y2, y3, y4, y5, y6, y7, y8, y9⟩ := C.out.y.all)
        | (go_at_call 8; (with_reducible refine (equal_yes p.data p.data q.nd r.nd q.ad r.ad q.cd r.cd _ (HA.out.on B.out).rd (HB.out.on B.out).rd HA.out.ld HB.out.ld M.out.2.2 rfl).mono ?_); rintro e wn ⟨rfl, hb⟩; replace C := Lib.hid (C.out.step hb); replace B := Lib.hid (B.out.trans (hb.mono B.out.size)); clear hb x0 x1 x2 x3 x4 x5 x6 x7 x8 x9 y0 y1 y2 y3 y4 y5 y6 y7 y8 y9; obtain ⟨x0, x1, x2, x3, x4, x5, x6, x7, x8, x9⟩ := C.out.x.all; obtain ⟨y0, y1, y2, y3, y4, y5, y6, y7, y8, y9⟩ := C.out.y.all))
      go_ret
      exact ⟨rfl, B.out⟩
end

section
set_option maxRecDepth 4000
open Go.RowKit
set_option linter.unusedVariables false

theorem rr_two (w : World) (A A2 : Option Addr) (l l2 : List Nat) (n n2 c c2 : Nat) (T : TypeId) (h : Rd w w.heap.size A l) (h2 : Rd w w.heap.size A2 l2) (e : l.length = n) (e2 : l2.length = n2) :
    Rr (w.alloc (.cells #[.slice A n c, .slice A2 n2 c2] T)) (some ⟨w.heap.size, 0, none⟩) [l, l2] := by
  subst e; subst e2
  intro _
  have hb := (Below.refl w.heap.size w).alloc (Nat.le_refl _) (.cells #[.slice A l.length c, .slice A2 l2.length c2] T)
  have cell : ∀ k u, (#[.slice A l.length c, .slice A2 l2.length c2] : Array Value)[k]? = some u → (w.alloc (.cells #[.slice A l.length c, .slice A2 l2.length c2] T)).cell? ⟨w.heap.size, 0 + k, none⟩ = some u := by
    intro k u hu
    rw [Nat.zero_add, World.cell?_alloc_at _ _ _ _ rfl]
    exact hu
  refine ⟨w.heap.size, 0, rfl, fun k x hx => ?_⟩
  match k, hx with
  | 0, hx => injection hx with hx; subst hx; exact ⟨A, c, cell 0 _ rfl, (h.below hb).more hb.size⟩
  | 1, hx => injection hx with hx; subst hx; exact ⟨A2, c2, cell 1 _ rfl, (h2.below hb).more hb.size⟩
  | k + 2, hx => simp at hx

/-- What a call knows of the world it stands in: a packet of its own. -/
structure BxC (T : TypeId) (w W : World) (p : Pk) (q : Pl) : Prop where
  bel : Below w.heap.size w W
  cf : Px W w.heap.size T p q
section
variable {T : TypeId} {w W X W' : World} {p : Pk} {q : Pl}
theorem BxC.made (T : TypeId) (w : World) (p : Pk) (q : Pl) : BxC T w (w.alloc (p.obj q T)) p q := ⟨(Below.refl _ _).alloc (Nat.le_refl _) _, px_new w T p q⟩
theorem BxC.step (h : BxC T w W p q) (hb : Below X.heap.size X W') (hX : Below W.heap.size W X := by first | exact Below.refl _ _ | exact (Below.refl _ _).drew) : BxC T w W' p q :=
  have hh := hX.trans (hb.mono hX.size)
  ⟨h.bel.trans (hh.mono h.bel.size), h.cf.below hh⟩
theorem BxC.c48 (h : BxC T w W p q) : W.cell? ⟨w.heap.size, 4, none⟩ = some (.int .u16 (p.sub : Int)) ∧ W.cell? ⟨w.heap.size, 8, none⟩ = some (.slice q.ad q.nd q.cd) := ⟨h.cf.all.2.2.2.2.1, h.cf.all.2.2.2.2.2.2.2.2.1⟩
theorem BxC.c58 (h : BxC T w W p q) : W.cell? ⟨w.heap.size, 5, none⟩ = some (.int .u32 (p.magic : Int)) ∧ W.cell? ⟨w.heap.size, 8, none⟩ = some (.slice q.ad q.nd q.cd) := ⟨h.cf.all.2.2.2.2.2.1, h.cf.all.2.2.2.2.2.2.2.2.1⟩
theorem BxC.on (h : BxC T w W p q) : Below w.heap.size w W := h.bel
end

theorem BxC.grown {T : TypeId} {w W X W' : World} {p : Pk} {q : Pl} {row : Option Nat} (h : BxC T w W p q) (hg : X.grownBy W' row) (hrow : ∀ k, row = some k → w.heap.size < k) (hX : Below W.heap.size W X := by first | exact Below.refl _ _ | exact (Below.refl _ _).drew) : BxC T w W' p q :=
  have h1 : BxC T w X p q := h.step hX
  ⟨h1.bel.grown hg h1.bel.size (fun k hk => Nat.le_of_lt (hrow k hk)), (hg.block _ h1.cf.lt (fun e => Nat.lt_irrefl _ (hrow _ e.symm))).trans h1.cf⟩
theorem BxC.c128 {T : TypeId} {w W : World} {p : Pk} {q : Pl} (h : BxC T w W p q) : W.cell? ⟨w.heap.size, 1, none⟩ = some (.int .u8 (p.code : Int)) ∧ W.cell? ⟨w.heap.size, 2, none⟩ = some (.int .u8 (p.id : Int)) ∧ W.cell? ⟨w.heap.size, 8, none⟩ = some (.slice q.ad q.nd q.cd) := ⟨h.cf.all.2.1, h.cf.all.2.2.1, h.cf.all.2.2.2.2.2.2.2.2.1⟩
theorem concat_2 (l l2 : List Nat) (m : List Nat) (A : Option Addr) (c : Nat) (w : World) (h : Rr w A [l, l2]) (hs : [l, l2].flatten.length ≤ 1099511627776) (hf : [l, l2].flatten = m) (n : Nat) (hm : [l, l2].flatten.length = n) :
    Calls Try.prog 23 #[.slice A 2 c] w fun e w' => ∃ A' c', e = .returned (.slice A' n c') ∧ Rd w' w'.heap.size A' m ∧ n ≤ c' ∧ Below w.heap.size w w' :=
  (concat_any [l, l2] 2 A c w h rfl (by decide) hs).mono fun _ _ ⟨A', c', k, h1, h2, h3⟩ => by
    rw [hm] at h2
    subst h2
    rw [hf] at h3
    exact ⟨A', c', h1, h3.2.2.1, own_cap h3.2.1, h3.2.2.2⟩
/-- What Put answers: octets, and the error's number. -/
def PutR (w : World) (m : List Nat) (n k : Nat) (e : Ending) (w' : World) : Prop := ∃ A c, e = .returned (.tuple #[.slice A n c, .int .i64 (k : Int)]) ∧ Rd w' w'.heap.size A m ∧ n ≤ c ∧ Below w.heap.size w w'
theorem PutR.mk {w w' : World} {m : List Nat} {n k : Nat} {e : Ending} (A : Option Addr) (c : Nat) (h1 : e = .returned (.tuple #[.slice A n c, .int .i64 (k : Int)])) (h2 : Rd w' w'.heap.size A m) (h3 : n ≤ c) (h4 : Below w.heap.size w w') : PutR w m n k e w' := ⟨A, c, h1, h2, h3, h4⟩
/-- What Get answers: a packet, and the error's number. -/
def GetR (w : World) (x : Pk) (k : Nat) (e : Ending) (w' : World) : Prop := ∃ q, e = .returned (.tuple #[x.val q, .int .i64 (k : Int)]) ∧ Pw w' x q ∧ Below w.heap.size w w'
theorem GetR.mk {w w' : World} {x : Pk} {k : Nat} {e : Ending} (q : Pl) (h1 : e = .returned (.tuple #[x.val q, .int .i64 (k : Int)])) (h2 : Pw w' x q) (h3 : Below w.heap.size w w') : GetR w x k e w' := ⟨q, h1, h2, h3⟩

/-- What Get knows of the world it stands in: the answer's block. -/
structure GeC (T : TypeId) (w W : World) : Prop where
  bel : Below w.heap.size w W
  res : Px W w.heap.size T pk0 pl0
/-- .. and a packet's. -/
structure GpC (T : TypeId) (w W : World) (g : Nat) (p : Pk) (q : Pl) : Prop where
  bel : Below w.heap.size w W
  res : Px W w.heap.size T pk0 pl0
  lt : w.heap.size < g
  cf : Px W g T p q
section
variable {T : TypeId} {w W X W' : World} {g : Nat} {p : Pk} {q : Pl}
theorem GeC.made (T : TypeId) (w : World) : GeC T w (w.alloc (obj0P T)) := ⟨(Below.refl _ _).alloc (Nat.le_refl _) _, px0 (heap_alloc_new w _)⟩
theorem GeC.step (h : GeC T w W) (hb : Below X.heap.size X W') (hX : Below W.heap.size W X := by first | exact Below.refl _ _ | exact (Below.refl _ _).drew) : GeC T w W' :=
  have hh := hX.trans (hb.mono hX.size)
  ⟨h.bel.trans (hh.mono h.bel.size), h.res.below hh⟩
theorem GeC.pk (h : GeC T w W) (p : Pk) (q : Pl) : GpC T w (W.alloc (p.obj q T)) W.heap.size p q :=
  have hb := (Below.refl W.heap.size W).alloc (Nat.le_refl _) (p.obj q T)
  ⟨h.bel.trans (hb.mono h.bel.size), h.res.below hb, h.res.lt, px_new W T p q⟩
theorem GpC.step (h : GpC T w W g p q) (hb : Below X.heap.size X W') (hX : Below W.heap.size W X := by first | exact Below.refl _ _ | exact (Below.refl _ _).drew) : GpC T w W' g p q :=
  have hh := hX.trans (hb.mono hX.size)
  ⟨h.bel.trans (hh.mono h.bel.size), h.res.below hh, h.lt, h.cf.below hh⟩
theorem GpC.set (h : GpC T w W g p q) (o : Nat) (u : Value) {x : Pk} {r : Pl} (hx : Px (W.setCell ⟨g, o, none⟩ u) g T x r) : GpC T w (W.setCell ⟨g, o, none⟩ u) g x r :=
  ⟨h.bel.setCell (p := ⟨g, o, none⟩) (Nat.le_of_lt h.lt) _, h.res.other _ (Nat.ne_of_lt h.lt), h.lt, hx⟩
end
/-- A packet's slices, with the blocks that they lie in. -/
structure PwF (F : Nat → Prop) (w : World) (p : Pk) (q : Pl) : Prop where
  lo : p.opts.length = q.no
  ro : Rws shO F w q.ao p.opts
  l1 : p.one.length = q.n1
  r1 : RdF F w q.a1 p.one
  l2 : p.two.length = q.n2
  r2 : RdF F w q.a2 p.two
  ld : p.data.length = q.nd
  rd : RdF F w q.ad p.data
  ln : p.nums.length = q.nn
  rn : Rws shN F w q.an p.nums
  k1 : q.n1 ≤ q.c1
  k2 : q.n2 ≤ q.c2
  kd : q.nd ≤ q.cd
theorem PwF.pw {F : Nat → Prop} {w : World} {p : Pk} {q : Pl} (h : PwF F w p q) : Pw w p q :=
  ⟨h.lo, h.ro.mono (fun _ _ _ => trivial), h.l1, h.r1.rd, h.l2, h.r2.rd, h.ld, h.rd.rd, h.ln, h.rn.mono (fun _ _ _ => trivial), h.k1, h.k2, h.kd⟩
theorem PwF.keep {F : Nat → Prop} {w w' : World} {p : Pk} {q : Pl} (h : PwF F w p q) (hk : Keeps F w w') : PwF F w' p q :=
  ⟨h.lo, h.ro.keep hk, h.l1, h.r1.keep hk, h.l2, h.r2.keep hk, h.ld, h.rd.keep hk, h.ln, h.rn.keep hk, h.k1, h.k2, h.kd⟩
theorem pwF_data {F : Nat → Prop} {w : World} (t c i s m : Nat) {A : Option Addr} {n k : Nat} {d : List Nat} (hl : d.length = n) (hr : RdF F w A d) (hk : n ≤ k) : PwF F w ⟨t, c, i, [], s, m, [], [], d, []⟩ { pl0 with ad := A, nd := n, cd := k } :=
  ⟨rfl, Rws.nilO, rfl, RdF.nil, rfl, RdF.nil, hl, hr, rfl, Rws.nil, Nat.le_refl _, Nat.le_refl _, hk⟩
theorem pwF_opts {F : Nat → Prop} {w : World} (t c i s m : Nat) {A : Option Addr} {n k : Nat} {l : List (Nat × List Nat)} (hl : l.length = n) (hr : Rws shO F w A l) : PwF F w ⟨t, c, i, l, s, m, [], [], [], []⟩ { pl0 with ao := A, no := n, co := k } :=
  ⟨hl, hr, rfl, RdF.nil, rfl, RdF.nil, rfl, RdF.nil, rfl, Rws.nil, Nat.le_refl _, Nat.le_refl _, Nat.le_refl _⟩
/-- Neither of two blocks. -/
def Nn (a b i : Nat) : Prop := i ≠ a ∧ i ≠ b
theorem keeps_n1 (w : World) (a b j : Nat) (u : Value) : Keeps (Nn a b) w (w.setCell ⟨b, j, none⟩ u) := (keeps_set w b j u).less (fun _ _ h => h.2)
theorem keeps_n2 (w : World) (a b : Nat) (p : Pk) (q : Pl) : Keeps (Nn a b) w (put10 w a p q) := (put10_keeps w a p q).less (fun _ _ h => h.1)
theorem GpC.far {T : TypeId} {w W : World} {g : Nat} {p : Pk} {q : Pl} (h : GpC T w W g p q) : ∀ i, W.heap.size ≤ i → Nn w.heap.size g i := fun i hi => by
  have h1 := h.cf.lt
  have h2 := h.lt
  exact ⟨by omega, by omega⟩
theorem RdF.cut0 {F : Nat → Prop} {w : World} {A : Option Addr} {l : List Nat} (h : RdF F w A l) (c : Nat) : RdF F w (if c = 0 then A else A.map (fun a => a.add 0)) l := by
  have e : A.map (fun a => a.add 0) = A := by cases A <;> simp [Addr.add]
  rw [e]
  split <;> exact h
theorem Rd.rdFlt {w : World} {A : Option Addr} {l : List Nat} (h : Rd w w.heap.size A l) : RdF (fun i => i < w.heap.size) w A l := h.rdF (fun _ hb => hb) (Nat.le_refl _)
/-- A packet's slices lie in blocks that were there. -/
theorem Pw.pwF {w : World} {p : Pk} {q : Pl} (h : Pw w p q) : PwF (fun i => i < w.heap.size) w p q :=
  ⟨h.lo, h.ro.mono (fun _ hb _ => hb), h.l1, h.r1.rdFlt, h.l2, h.r2.rdFlt, h.ld, h.rd.rdFlt, h.ln, h.rn.mono (fun _ hb _ => hb), h.k1, h.k2, h.kd⟩
/-- What the last region of LcpTells knows of the world it stands in: two rows, two packets in blocks of their own. -/
structure TeL (w W : World) (g1 g2 : Nat) (y : Pk) (q1 q2 : Pl) (A B : Option Addr) (m : List Nat) : Prop where
  bel : Below w.heap.size w W
  x1 : Px W g1 37 y q1
  x2 : Px W g2 29 y q2
  p1 : Pw W y q1
  p2 : Pw W y q2
  ra : Rd W W.heap.size A m
  rb : Rd W W.heap.size B m
section
variable {w W X W' : World} {g1 g2 : Nat} {y : Pk} {q1 q2 : Pl} {A B : Option Addr} {m : List Nat}
theorem TeL.step (h : TeL w W g1 g2 y q1 q2 A B m) (hb : Below X.heap.size X W') (hX : Below W.heap.size W X := by first | exact Below.refl _ _ | exact (Below.refl _ _).drew) : TeL w W' g1 g2 y q1 q2 A B m :=
  have hh := hX.trans (hb.mono hX.size)
  ⟨h.bel.trans (hh.mono h.bel.size), h.x1.below hh, h.x2.below hh, h.p1.on hh, h.p2.on hh, h.ra.ons hh, h.rb.ons hh⟩
theorem TeL.drew (h : TeL w W g1 g2 y q1 q2 A B m) : TeL w W.drew g1 g2 y q1 q2 A B m := h.step (X := W) (Below.refl _ _).drew
theorem TeL.flat (h : TeL w W g1 g2 y q1 q2 A B m) : W.cell? ⟨g1, 0, none⟩ = some (.int .u16 (y.proto : Int)) ∧ W.cell? ⟨g1, 1, none⟩ = some (.int .u8 (y.code : Int)) ∧ W.cell? ⟨g1, 2, none⟩ = some (.int .u8 (y.id : Int)) ∧ W.cell? ⟨g1, 3, none⟩ = some (.slice q1.ao q1.no q1.co) ∧ W.cell? ⟨g1, 4, none⟩ = some (.int .u16 (y.sub : Int)) ∧ W.cell? ⟨g1, 5, none⟩ = some (.int .u32 (y.magic : Int)) ∧ W.cell? ⟨g1, 6, none⟩ = some (.slice q1.a1 q1.n1 q1.c1) ∧ W.cell? ⟨g1, 7, none⟩ = some (.slice q1.a2 q1.n2 q1.c2) ∧ W.cell? ⟨g1, 8, none⟩ = some (.slice q1.ad q1.nd q1.cd) ∧ W.cell? ⟨g1, 9, none⟩ = some (.slice q1.an q1.nn q1.cn) ∧ W.cell? ⟨g2, 0, none⟩ = some (.int .u16 (y.proto : Int)) ∧ W.cell? ⟨g2, 1, none⟩ = some (.int .u8 (y.code : Int)) ∧ W.cell? ⟨g2, 2, none⟩ = some (.int .u8 (y.id : Int)) ∧ W.cell? ⟨g2, 3, none⟩ = some (.slice q2.ao q2.no q2.co) ∧ W.cell? ⟨g2, 4, none⟩ = some (.int .u16 (y.sub : Int)) ∧ W.cell? ⟨g2, 5, none⟩ = some (.int .u32 (y.magic : Int)) ∧ W.cell? ⟨g2, 6, none⟩ = some (.slice q2.a1 q2.n1 q2.c1) ∧ W.cell? ⟨g2, 7, none⟩ = some (.slice q2.a2 q2.n2 q2.c2) ∧ W.cell? ⟨g2, 8, none⟩ = some (.slice q2.ad q2.nd q2.cd) ∧ W.cell? ⟨g2, 9, none⟩ = some (.slice q2.an q2.nn q2.cn) := by
  obtain ⟨x0, x1, x2, x3, x4, x5, x6, x7, x8, x9⟩ := h.x1.all
  exact ⟨x0, x1, x2, x3, x4, x5, x6, x7, x8, x9, h.x2.all⟩
end
/-- What the drawn region of LcpBack knows of the world it stands in: the packet, and what was read, in blocks of their own. -/
structure BaL (w W : World) (g : Nat) (p : Pk) (q r : Pl) : Prop where
  bel : Below w.heap.size w W
  x1 : Px W g 37 p r
  cf : Px W w.heap.size 29 p q
  p1 : Pw W p r
section
variable {w W X W' : World} {g : Nat} {p : Pk} {q r : Pl}
theorem BaL.step (h : BaL w W g p q r) (hb : Below X.heap.size X W') (hX : Below W.heap.size W X := by first | exact Below.refl _ _ | exact (Below.refl _ _).drew) : BaL w W' g p q r :=
  have hh := hX.trans (hb.mono hX.size)
  ⟨h.bel.trans (hh.mono h.bel.size), h.x1.below hh, h.cf.below hh, h.p1.on hh⟩
theorem BaL.drew (h : BaL w W g p q r) : BaL w W.drew g p q r := h.step (X := W) (Below.refl _ _).drew
theorem BaL.flat (h : BaL w W g p q r) : W.cell? ⟨g, 0, none⟩ = some (.int .u16 (p.proto : Int)) ∧ W.cell? ⟨g, 1, none⟩ = some (.int .u8 (p.code : Int)) ∧ W.cell? ⟨g, 2, none⟩ = some (.int .u8 (p.id : Int)) ∧ W.cell? ⟨g, 3, none⟩ = some (.slice r.ao r.no r.co) ∧ W.cell? ⟨g, 4, none⟩ = some (.int .u16 (p.sub : Int)) ∧ W.cell? ⟨g, 5, none⟩ = some (.int .u32 (p.magic : Int)) ∧ W.cell? ⟨g, 6, none⟩ = some (.slice r.a1 r.n1 r.c1) ∧ W.cell? ⟨g, 7, none⟩ = some (.slice r.a2 r.n2 r.c2) ∧ W.cell? ⟨g, 8, none⟩ = some (.slice r.ad r.nd r.cd) ∧ W.cell? ⟨g, 9, none⟩ = some (.slice r.an r.nn r.cn) ∧ W.cell? ⟨w.heap.size, 0, none⟩ = some (.int .u16 (p.proto : Int)) ∧ W.cell? ⟨w.heap.size, 1, none⟩ = some (.int .u8 (p.code : Int)) ∧ W.cell? ⟨w.heap.size, 2, none⟩ = some (.int .u8 (p.id : Int)) ∧ W.cell? ⟨w.heap.size, 3, none⟩ = some (.slice q.ao q.no q.co) ∧ W.cell? ⟨w.heap.size, 4, none⟩ = some (.int .u16 (p.sub : Int)) ∧ W.cell? ⟨w.heap.size, 5, none⟩ = some (.int .u32 (p.magic : Int)) ∧ W.cell? ⟨w.heap.size, 6, none⟩ = some (.slice q.a1 q.n1 q.c1) ∧ W.cell? ⟨w.heap.size, 7, none⟩ = some (.slice q.a2 q.n2 q.c2) ∧ W.cell? ⟨w.heap.size, 8, none⟩ = some (.slice q.ad q.nd q.cd) ∧ W.cell? ⟨w.heap.size, 9, none⟩ = some (.slice q.an q.nn q.cn) := by
  obtain ⟨x0, x1, x2, x3, x4, x5, x6, x7, x8, x9⟩ := h.x1.all
  exact ⟨x0, x1, x2, x3, x4, x5, x6, x7, x8, x9, h.cf.all⟩
theorem BaL.bx (h : BaL w W g p q r) : BxC 29 w W p q := ⟨h.bel, h.cf⟩
end
theorem sm0 : pk0.sm := ⟨by decide, by decide, by decide, by decide, by decide, by decide⟩
theorem psame_zero (y : Pk) (hy : y = pk0) (q : Pl) (w : World) (ha : Pw w y q) :
    Calls Try.prog 9 #[y.val q, .agg #[.int .u16 0, .int .u8 0, .int .u8 0, .slice none 0 0, .int .u16 0, .int .u32 0, .slice none 0 0, .slice none 0 0, .slice none 0 0, .slice none 0 0]] w fun e w' => e = .returned (.bool true) ∧ Below w.heap.size w w' := by
  subst hy
  exact psame_yes pk0 q pl0 w ha (pw0 w) sm0
end

section
set_option maxRecDepth 4000
open Go.RowKit
set_option linter.unusedVariables false

theorem PwF.mono {F G : Nat → Prop} {w : World} {p : Pk} {q : Pl} (h : PwF F w p q) (hF : ∀ b, b < w.heap.size → F b → G b) : PwF G w p q :=
  ⟨h.lo, h.ro.mono hF, h.l1, h.r1.mono hF, h.l2, h.r2.mono hF, h.ld, h.rd.mono hF, h.ln, h.rn.mono hF, h.k1, h.k2, h.kd⟩
theorem pwF0 {F : Nat → Prop} {w : World} : PwF F w pk0 pl0 := ⟨rfl, Rws.nilO, rfl, RdF.nil, rfl, RdF.nil, rfl, RdF.nil, rfl, Rws.nil, Nat.le_refl _, Nat.le_refl _, Nat.le_refl _⟩
/-- What Get answers: a packet whose slices lie in blocks that it made, and the error's number. -/
def GetN (w : World) (x : Pk) (k : Nat) (e : Ending) (w' : World) : Prop := ∃ q, e = .returned (.tuple #[x.val q, .int .i64 (k : Int)]) ∧ PwF (fun b => w.heap.size ≤ b) w' x q ∧ Below w.heap.size w w'
theorem GetN.mk {w w' : World} {x : Pk} {k : Nat} {e : Ending} (q : Pl) (h1 : e = .returned (.tuple #[x.val q, .int .i64 (k : Int)])) (h2 : PwF (fun b => w.heap.size ≤ b) w' x q) (h3 : Below w.heap.size w w') : GetN w x k e w' := ⟨q, h1, h2, h3⟩
theorem GetN.getR {w w' : World} {x : Pk} {k : Nat} {e : Ending} (h : GetN w x k e w') : GetR w x k e w' := by
  obtain ⟨q, h1, h2, h3⟩ := h
  exact ⟨q, h1, h2.pw, h3⟩
/-- Above one block, and not another. -/
def Ngt (a b i : Nat) : Prop := a < i ∧ i ≠ b
theorem Ngt.le {a b i : Nat} (h : Ngt a b i) : a ≤ i := Nat.le_of_lt h.1
theorem keeps_g1 (w : World) (a b j : Nat) (u : Value) : Keeps (Ngt a b) w (w.setCell ⟨b, j, none⟩ u) := (keeps_set w b j u).less (fun _ _ h => h.2)
theorem keeps_g2 (w : World) (a b : Nat) (p : Pk) (q : Pl) : Keeps (Ngt a b) w (put10 w a p q) := (put10_keeps w a p q).less (fun _ _ h => Nat.ne_of_gt h.1)
end

section
set_option maxRecDepth 4000
open Go.RowKit
set_option linter.unusedVariables false

/-- The variable that a packet is answered into, not yet filled: it was made behind w. -/
structure QpR (w W : World) (b : Nat) : Prop where
  ge : w.heap.size ≤ b
  bx : Px W b 37 pk0 pl0
/-- The variable holds a packet. -/
def VaP (W : World) (b : Nat) (p : Pk) (r : Pl) : Prop := Px W b 37 p r ∧ Pw W p r
section
variable {w W X W' : World} {b : Nat} {p : Pk} {r : Pl}
theorem QpR.new (h : Below w.heap.size w W) : QpR w (W.alloc (obj0P 37)) W.heap.size := ⟨h.size, px0 (heap_alloc_new W _)⟩
theorem QpR.newAt (h : Below w.heap.size w W) (g : Nat) (hg : W.heap.size = g) : QpR w (W.alloc (obj0P 37)) g := hg ▸ QpR.new h
theorem QpR.step (h : QpR w W b) (hb : Below X.heap.size X W') (hX : Below W.heap.size W X := by first | exact Below.refl _ _ | exact (Below.refl _ _).drew) : QpR w W' b := ⟨h.ge, h.bx.below (hX.trans (hb.mono hX.size))⟩
theorem QpR.lt (h : QpR w W b) : b < W.heap.size := h.bx.lt
theorem QpR.grown {row : Option Nat} (h : QpR w W b) (hg : W.grownBy W' row) (hne : row ≠ some b) : QpR w W' b := ⟨h.ge, (hg.block b h.lt (fun e => hne e.symm)).trans h.bx⟩
theorem QpR.put {F : Nat → Prop} (h : QpR w W b) (hb : Below w.heap.size w W) (hp : PwF F W p r) (hF : ¬ F b) : Below w.heap.size w (put10 W b p r) ∧ VaP (put10 W b p r) b p r :=
  ⟨put10_below hb h.ge p r, put10_px h.bx p r, (hp.keep ((put10_keeps W b p r).less (fun i _ hi e => hF (e ▸ hi)))).pw⟩
theorem newP_put (hb : Below w.heap.size w W) (hp : Pw W p r) : Below w.heap.size w (W.alloc (p.obj r 37)) ∧ VaP (W.alloc (p.obj r 37)) W.heap.size p r :=
  ⟨hb.alloc hb.size _, px_new W _ p r, hp.on ((Below.refl _ _).alloc (Nat.le_refl _) _)⟩
theorem VaP.on (h : VaP W b p r) (hb : Below W.heap.size W W') : VaP W' b p r := ⟨h.1.below hb, h.2.on hb⟩
end
/-- An empty row, made at the last. -/
theorem own_new (w : World) (B : Nat) (hB : B ≤ w.heap.size) : (w.alloc (.cells #[] 5)).ownsRow B 5 1 (.slice (some ⟨w.heap.size, 0, none⟩) 0 0) 0 (bvs []) :=
  own_lo (World.ownsRow_lit (base := w.heap.size) (e := 5) (size := 1) w #[] 0 (Nat.le_refl _) (by unfold maxLen; omega) rfl) hB
theorem own_newAt (w : World) (B : Nat) (hB : B ≤ w.heap.size) (g : Nat) (hg : w.heap.size = g) : (w.alloc (.cells #[] 5)).ownsRow B 5 1 (.slice (some ⟨g, 0, none⟩) 0 0) 0 (bvs []) := hg ▸ own_new w B hB
/-- A row of bytes and a packet's block are apart. -/
theorem own_px {w : World} {B n b : Nat} {v : Value} {xs : List Value} {p : Pk} {q : Pl} (h : w.ownsRow B 5 1 v n xs) (hx : Px w b 37 p q) : v.ownBlock ≠ some b := by
  intro hg
  obtain ⟨cur, hc⟩ := own_blk h hg
  unfold Px at hx
  rw [hc] at hx
  injection hx with hx
  injection hx with h1 h2
  exact absurd h2 (by decide)
/-- A step of a drawn region stands in the world W: to be said under 'with_reducible', ahead of what fits that world alone. -/
theorem at_step {P : Program} (W : World) {ops : Array Oper} {o : Oper} {a : Act} {K : Act → World → Prop} {Q : Exit → Act → World → Prop} {E : Prop} (h : if Region.wanted o (yielded ops a.tmps) = true then Oper.wp P o a W K Q else E) :
    if Region.wanted o (yielded ops a.tmps) = true then Oper.wp P o a W K Q else E := h
end
end Go.Proofs.Ytmhjnghomihjlaa
