
/-
  Packets: what they say, how they lie in memory as values and in blocks. No condition.
-/
import Derived.Test.YtppblnpcbiochaaTlvO
import Derived.Test.YtppblnpcbiochaaTlvV
namespace Go.Proofs.Ytppblnpcbiochaa
open Go.RowKit

/-- A packet. -/
structure Pk where
  proto : Nat
  code : Nat
  id : Nat
  opts : List (Nat × List Nat)
  sub : Nat
  magic : Nat
  one : List Nat
  two : List Nat
  data : List Nat
  nums : List Nat
deriving DecidableEq
/-- No packet. -/
def pk0 : Pk := ⟨0, 0, 0, [], 0, 0, [], [], [], []⟩
/-- It is one of Go's. -/
structure Pk.ok (p : Pk) : Prop where
  proto : p.proto < 65536
  code : p.code < 256
  id : p.id < 256
  opts : ByO p.opts
  sub : p.sub < 65536
  magic : p.magic < 4294967296
  one : By p.one
  two : By p.two
  data : By p.data
  nums : ∀ x ∈ p.nums, x < 4294967296

/-- Numbers of 32 bits as elements. -/
def shN : Sh Nat where
  sz := 1
  S _ _ x cs := cs = [.int .u32 (x : Int)]
  len := by rintro _ _ _ _ rfl; rfl
  one := by rintro _ _ _ _ rfl u hu; simp at hu; subst hu; rfl
  keep := by rintro _ _ _ _ _ h _; exact h
  mono := by rintro _ _ _ _ _ h _; exact h
theorem Rws.num {F : Nat → Prop} {w : World} {A : Option Addr} {xs : List Nat} (h : Rws shN F w A xs) {k : Nat} (hk : k < xs.length) : ∃ b off x, A = some ⟨b, off, none⟩ ∧ xs[k]? = some x ∧ w.cell? ⟨b, off + k, none⟩ = some (.int .u32 (x : Int)) := by
  obtain ⟨b, off, x, cs, h1, _, h3, rfl, h6⟩ := h.at_ hk
  have h7 := h6 0 _ rfl
  rw [show k * shN.sz + 0 = k by show k * 1 + 0 = k; omega] at h7
  exact ⟨b, off, x, h1, h3, h7⟩

/-- Where its slices lie: addresses, lengths, capacities. -/
structure Pl where
  ao : Option Addr
  no : Nat
  co : Nat
  a1 : Option Addr
  n1 : Nat
  c1 : Nat
  a2 : Option Addr
  n2 : Nat
  c2 : Nat
  ad : Option Addr
  nd : Nat
  cd : Nat
  an : Option Addr
  nn : Nat
  cn : Nat
def pl0 : Pl := ⟨none, 0, 0, none, 0, 0, none, 0, 0, none, 0, 0, none, 0, 0⟩
/-- Its value. -/
abbrev Pk.val (p : Pk) (q : Pl) : Value := .agg #[.int .u16 (p.proto : Int), .int .u8 (p.code : Int), .int .u8 (p.id : Int), .slice q.ao q.no q.co, .int .u16 (p.sub : Int), .int .u32 (p.magic : Int), .slice q.a1 q.n1 q.c1, .slice q.a2 q.n2 q.c2, .slice q.ad q.nd q.cd, .slice q.an q.nn q.cn]
/-- Its slices lead to what it says. -/
structure Pw (w : World) (p : Pk) (q : Pl) : Prop where
  lo : p.opts.length = q.no
  ro : Rws shO (fun _ => True) w q.ao p.opts
  l1 : p.one.length = q.n1
  r1 : Rd w w.heap.size q.a1 p.one
  l2 : p.two.length = q.n2
  r2 : Rd w w.heap.size q.a2 p.two
  ld : p.data.length = q.nd
  rd : Rd w w.heap.size q.ad p.data
  ln : p.nums.length = q.nn
  rn : Rws shN (fun _ => True) w q.an p.nums
  k1 : q.n1 ≤ q.c1
  k2 : q.n2 ≤ q.c2
  kd : q.nd ≤ q.cd
theorem Rd.ons {w w' : World} {A : Option Addr} {l : List Nat} (h : Rd w w.heap.size A l) (hb : Below w.heap.size w w') : Rd w' w'.heap.size A l := (h.below hb).more hb.size
theorem Pw.on {w w' : World} {p : Pk} {q : Pl} (h : Pw w p q) (hb : Below w.heap.size w w') : Pw w' p q :=
  ⟨h.lo, h.ro.below hb, h.l1, h.r1.ons hb, h.l2, h.r2.ons hb, h.ld, h.rd.ons hb, h.ln, h.rn.below hb, h.k1, h.k2, h.kd⟩
theorem pw0 (w : World) : Pw w pk0 pl0 := ⟨rfl, Rws.nilO, rfl, Rd.nil, rfl, Rd.nil, rfl, Rd.nil, rfl, Rws.nil, Nat.le_refl _, Nat.le_refl _, Nat.le_refl _⟩
/-- Sizes that Go may have. -/
structure Pl.le (q : Pl) (m : Nat) : Prop where
  no : q.no ≤ m
  n1 : q.n1 ≤ m
  n2 : q.n2 ≤ m
  nd : q.nd ≤ m
  nn : q.nn ≤ m

/-- A packet lies in block b. -/
def Px (w : World) (b : Nat) (t : TypeId) (p : Pk) (q : Pl) : Prop := w.heap[b]? = some (.cells #[.int .u16 (p.proto : Int), .int .u8 (p.code : Int), .int .u8 (p.id : Int), .slice q.ao q.no q.co, .int .u16 (p.sub : Int), .int .u32 (p.magic : Int), .slice q.a1 q.n1 q.c1, .slice q.a2 q.n2 q.c2, .slice q.ad q.nd q.cd, .slice q.an q.nn q.cn] t (0, 0))
abbrev Pk.obj (p : Pk) (q : Pl) (t : TypeId) : Obj := .cells #[.int .u16 (p.proto : Int), .int .u8 (p.code : Int), .int .u8 (p.id : Int), .slice q.ao q.no q.co, .int .u16 (p.sub : Int), .int .u32 (p.magic : Int), .slice q.a1 q.n1 q.c1, .slice q.a2 q.n2 q.c2, .slice q.ad q.nd q.cd, .slice q.an q.nn q.cn] t (0, 0)
/-- Its cells. -/
abbrev Pc (w : World) (b : Nat) (p : Pk) (q : Pl) : Prop := w.cell? ⟨b, 0, none⟩ = some (.int .u16 (p.proto : Int)) ∧ w.cell? ⟨b, 1, none⟩ = some (.int .u8 (p.code : Int)) ∧ w.cell? ⟨b, 2, none⟩ = some (.int .u8 (p.id : Int)) ∧ w.cell? ⟨b, 3, none⟩ = some (.slice q.ao q.no q.co) ∧ w.cell? ⟨b, 4, none⟩ = some (.int .u16 (p.sub : Int)) ∧ w.cell? ⟨b, 5, none⟩ = some (.int .u32 (p.magic : Int)) ∧ w.cell? ⟨b, 6, none⟩ = some (.slice q.a1 q.n1 q.c1) ∧ w.cell? ⟨b, 7, none⟩ = some (.slice q.a2 q.n2 q.c2) ∧ w.cell? ⟨b, 8, none⟩ = some (.slice q.ad q.nd q.cd) ∧ w.cell? ⟨b, 9, none⟩ = some (.slice q.an q.nn q.cn)
/-- .. none of them frozen. -/
abbrev Pf (w : World) (b : Nat) : Prop := w.frozen? ⟨b, 0, none⟩ = false ∧ w.frozen? ⟨b, 1, none⟩ = false ∧ w.frozen? ⟨b, 2, none⟩ = false ∧ w.frozen? ⟨b, 3, none⟩ = false ∧ w.frozen? ⟨b, 4, none⟩ = false ∧ w.frozen? ⟨b, 5, none⟩ = false ∧ w.frozen? ⟨b, 6, none⟩ = false ∧ w.frozen? ⟨b, 7, none⟩ = false ∧ w.frozen? ⟨b, 8, none⟩ = false ∧ w.frozen? ⟨b, 9, none⟩ = false
section
variable {w w' : World} {b : Nat} {t : TypeId} {p : Pk} {q : Pl}
theorem Px.lt (h : Px w b t p q) : b < w.heap.size := (Array.getElem?_eq_some_iff.1 h).1
theorem Px.all (h : Px w b t p q) : Pc w b p q := by
  refine ⟨?_, ?_, ?_, ?_, ?_, ?_, ?_, ?_, ?_, ?_⟩ <;> (rw [cell_of_row w b _ _ _ _ h]; rfl)
theorem Px.free (h : Px w b t p q) : Pf w b :=
  ⟨frozen_of_row w _ 0 _ _ h, frozen_of_row w _ 1 _ _ h, frozen_of_row w _ 2 _ _ h, frozen_of_row w _ 3 _ _ h, frozen_of_row w _ 4 _ _ h, frozen_of_row w _ 5 _ _ h, frozen_of_row w _ 6 _ _ h, frozen_of_row w _ 7 _ _ h, frozen_of_row w _ 8 _ _ h, frozen_of_row w _ 9 _ _ h⟩
theorem Px.below (h : Px w b t p q) (hb : Below w.heap.size w w') : Px w' b t p q := (hb.block b h.lt).trans h
theorem px_new (w : World) (t : TypeId) (p : Pk) (q : Pl) : Px (w.alloc (p.obj q t)) w.heap.size t p q := heap_alloc_new w _
theorem Px.other {d o : Nat} (h : Px w b t p q) (u : Value) (hne : b ≠ d) : Px (w.setCell ⟨d, o, none⟩ u) b t p q := by
  unfold Px at h ⊢
  rw [← h]
  exact Below.heap_setCell _ _ _ _ (fun e => hne e)
end

/-- A packet is written into a block, cell by cell. -/
abbrev put10 (w : World) (b : Nat) (p : Pk) (q : Pl) : World :=
  (((((((((w.setCell ⟨b, 0, none⟩ (.int .u16 (p.proto : Int))).setCell ⟨b, 1, none⟩ (.int .u8 (p.code : Int))).setCell ⟨b, 2, none⟩ (.int .u8 (p.id : Int))).setCell ⟨b, 3, none⟩ (.slice q.ao q.no q.co)).setCell ⟨b, 4, none⟩ (.int .u16 (p.sub : Int))).setCell ⟨b, 5, none⟩ (.int .u32 (p.magic : Int))).setCell ⟨b, 6, none⟩ (.slice q.a1 q.n1 q.c1)).setCell ⟨b, 7, none⟩ (.slice q.a2 q.n2 q.c2)).setCell ⟨b, 8, none⟩ (.slice q.ad q.nd q.cd)).setCell ⟨b, 9, none⟩ (.slice q.an q.nn q.cn)
theorem put10_below {W w : World} {B b : Nat} (h : Below B W w) (hb : B ≤ b) (p : Pk) (q : Pl) : Below B W (put10 w b p q) :=
  (((((((((h.setCell (p := ⟨b, 0, none⟩) hb _).setCell (p := ⟨b, 1, none⟩) hb _).setCell (p := ⟨b, 2, none⟩) hb _).setCell (p := ⟨b, 3, none⟩) hb _).setCell (p := ⟨b, 4, none⟩) hb _).setCell (p := ⟨b, 5, none⟩) hb _).setCell (p := ⟨b, 6, none⟩) hb _).setCell (p := ⟨b, 7, none⟩) hb _).setCell (p := ⟨b, 8, none⟩) hb _).setCell (p := ⟨b, 9, none⟩) hb _
section
variable {w : World} {b : Nat} {t : TypeId} {p : Pk} {q : Pl}
theorem Px.setCode (h : Px w b t p q) (v : Nat) : Px (w.setCell ⟨b, 1, none⟩ (.int .u8 (v : Int))) b t { p with code := v } q := heap_setCell_same _ b 1 _ _ _ h
theorem Px.setId (h : Px w b t p q) (v : Nat) : Px (w.setCell ⟨b, 2, none⟩ (.int .u8 (v : Int))) b t { p with id := v } q := heap_setCell_same _ b 2 _ _ _ h
theorem Px.setOpts (h : Px w b t p q) (A : Option Addr) (n c : Nat) (l : List (Nat × List Nat)) : Px (w.setCell ⟨b, 3, none⟩ (.slice A n c)) b t { p with opts := l } { q with ao := A, no := n, co := c } := heap_setCell_same _ b 3 _ _ _ h
theorem Px.setSub (h : Px w b t p q) (v : Nat) : Px (w.setCell ⟨b, 4, none⟩ (.int .u16 (v : Int))) b t { p with sub := v } q := heap_setCell_same _ b 4 _ _ _ h
theorem Px.setMagic (h : Px w b t p q) (v : Nat) : Px (w.setCell ⟨b, 5, none⟩ (.int .u32 (v : Int))) b t { p with magic := v } q := heap_setCell_same _ b 5 _ _ _ h
theorem Px.setProto (h : Px w b t p q) (v : Nat) : Px (w.setCell ⟨b, 0, none⟩ (.int .u16 (v : Int))) b t { p with proto := v } q := heap_setCell_same _ b 0 _ _ _ h
theorem Px.setOne (h : Px w b t p q) (A : Option Addr) (n c : Nat) (l : List Nat) : Px (w.setCell ⟨b, 6, none⟩ (.slice A n c)) b t { p with one := l } { q with a1 := A, n1 := n, c1 := c } := heap_setCell_same _ b 6 _ _ _ h
theorem Px.setTwo (h : Px w b t p q) (A : Option Addr) (n c : Nat) (l : List Nat) : Px (w.setCell ⟨b, 7, none⟩ (.slice A n c)) b t { p with two := l } { q with a2 := A, n2 := n, c2 := c } := heap_setCell_same _ b 7 _ _ _ h
theorem Px.setData (h : Px w b t p q) (A : Option Addr) (n c : Nat) (l : List Nat) : Px (w.setCell ⟨b, 8, none⟩ (.slice A n c)) b t { p with data := l } { q with ad := A, nd := n, cd := c } := heap_setCell_same _ b 8 _ _ _ h
theorem Px.setNums (h : Px w b t p q) (A : Option Addr) (n c : Nat) (l : List Nat) : Px (w.setCell ⟨b, 9, none⟩ (.slice A n c)) b t { p with nums := l } { q with an := A, nn := n, cn := c } := heap_setCell_same _ b 9 _ _ _ h
end

theorem put10_px {w : World} {b : Nat} {t : TypeId} {p0 : Pk} {q0 : Pl} (h : Px w b t p0 q0) (p : Pk) (q : Pl) : Px (put10 w b p q) b t p q :=
  (((((((((h.setProto p.proto).setCode p.code).setId p.id).setOpts q.ao q.no q.co p.opts).setSub p.sub).setMagic p.magic).setOne q.a1 q.n1 q.c1 p.one).setTwo q.a2 q.n2 q.c2 p.two).setData q.ad q.nd q.cd p.data).setNums q.an q.nn q.cn p.nums
/-- A walk goes on in a world of which a few things alone are known. -/
theorem at_worldP {F : Act → World → Prop} {x : Act} {W : World} (R : World → Prop) (C : R W) (h : ∀ W', R W' → F x W') : F x W := h W C
theorem results_row_tmpP {fn : Func} {p u : Tmp} {ty : TypeId} (h : fn.results = #[.cell p ty, .tmp u]) (tmps : Array Value) (v : Value) (w : World) (g : Nat) (t : TypeId) (cs : Array Value) (fr : Nat × Nat) (fs : Array Field)
    (hp : tmps.getD p undef = .pointer (some ⟨g, 0, none⟩)) (hv : tmps.getD u undef = v) (hg : w.heap[g]? = some (.cells cs t fr))
    (hu : Try.prog.underlying ty = some (.struct fs)) (hi : (Try.prog.info? ty).map (·.size) = some cs.size) :
    (results fn tmps).run Try.prog w = .ok (.tuple #[.agg cs, v]) w := by
  have hp' : tmps[p]?.getD undef = .pointer (some ⟨g, 0, none⟩) := by simpa using hp
  have hv' : tmps[u]?.getD undef = v := by simpa using hv
  rw [results_cell_tmp h]
  simp [hp', hv', asAddr, run_loadVar_row w g t ty cs fr _ hg hu rfl hi, Result.andThen]
end Go.Proofs.Ytppblnpcbiochaa
