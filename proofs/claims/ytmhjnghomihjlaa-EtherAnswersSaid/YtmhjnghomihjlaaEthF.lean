
/-
  Frames on an Ethernet, in memory: as values and in blocks. No condition.
-/
import Derived.Test.YtmhjnghomihjlaaEthM
import Derived.Test.YtmhjnghomihjlaaGTag
import Derived.Test.YtmhjnghomihjlaaGPks
namespace Go.Proofs.Ytmhjnghomihjlaa
set_option maxRecDepth 4000
open Go.RowKit

/-- Where a frame's slices lie. -/
structure Fl where
  at_ : Option Addr
  nt : Nat
  ct : Nat
  pl : Pl
def fl0 : Fl := ⟨none, 0, 0, pl0⟩
/-- A frame's value. -/
abbrev Fr.val (f : Fr) (q : Fl) : Value := .agg #[.int .u8 (f.code : Int), .int .u16 (f.sess : Int), .slice q.at_ q.nt q.ct, .int .u16 (f.pkt.proto : Int), .int .u8 (f.pkt.code : Int), .int .u8 (f.pkt.id : Int), .slice q.pl.ao q.pl.no q.pl.co, .int .u16 (f.pkt.sub : Int), .int .u32 (f.pkt.magic : Int), .slice q.pl.a1 q.pl.n1 q.pl.c1, .slice q.pl.a2 q.pl.n2 q.pl.c2, .slice q.pl.ad q.pl.nd q.pl.cd, .slice q.pl.an q.pl.nn q.pl.cn]
/-- A frame as an object. -/
abbrev Fr.obj (f : Fr) (q : Fl) (t : TypeId) : Obj := .cells #[.int .u8 (f.code : Int), .int .u16 (f.sess : Int), .slice q.at_ q.nt q.ct, .int .u16 (f.pkt.proto : Int), .int .u8 (f.pkt.code : Int), .int .u8 (f.pkt.id : Int), .slice q.pl.ao q.pl.no q.pl.co, .int .u16 (f.pkt.sub : Int), .int .u32 (f.pkt.magic : Int), .slice q.pl.a1 q.pl.n1 q.pl.c1, .slice q.pl.a2 q.pl.n2 q.pl.c2, .slice q.pl.ad q.pl.nd q.pl.cd, .slice q.pl.an q.pl.nn q.pl.cn] t (0, 0)
/-- No frame, as an object. -/
abbrev obj0F (t : TypeId) : Obj := .cells #[.int .u8 0, .int .u16 0, .slice none 0 0, .int .u16 0, .int .u8 0, .int .u8 0, .slice none 0 0, .int .u16 0, .int .u32 0, .slice none 0 0, .slice none 0 0, .slice none 0 0, .slice none 0 0] t (0, 0)
/-- Its slices lead to what it says, through blocks that F tells. -/
structure FwF (F : Nat → Prop) (w : World) (f : Fr) (q : Fl) : Prop where
  lt : f.tags.length = q.nt
  rt : Rws shG F w q.at_ f.tags
  kt : q.nt ≤ q.ct
  pk : PwF F w f.pkt q.pl
theorem FwF.keep {F : Nat → Prop} {w w' : World} {f : Fr} {q : Fl} (h : FwF F w f q) (hk : Keeps F w w') : FwF F w' f q := ⟨h.lt, h.rt.keep hk, h.kt, h.pk.keep hk⟩
theorem FwF.mono {F G : Nat → Prop} {w : World} {f : Fr} {q : Fl} (h : FwF F w f q) (hF : ∀ b, b < w.heap.size → F b → G b) : FwF G w f q := ⟨h.lt, h.rt.mono hF, h.kt, h.pk.mono hF⟩
theorem FwF.on {F : Nat → Prop} {w w' : World} {f : Fr} {q : Fl} (h : FwF F w f q) (hb : Below w.heap.size w w') : FwF F w' f q := h.keep (.of_below hb)
theorem FwF.there {F : Nat → Prop} {w : World} {f : Fr} {q : Fl} (h : FwF F w f q) : FwF (fun b => b < w.heap.size) w f q := h.mono fun _ hb _ => hb
theorem FwF.all {F : Nat → Prop} {w : World} {f : Fr} {q : Fl} (h : FwF F w f q) : FwF (fun _ => True) w f q := h.mono fun _ _ _ => trivial
theorem fwF0 {F : Nat → Prop} {w : World} : FwF F w fr0 fl0 := ⟨rfl, Rws.nilG, Nat.le_refl _, pwF0⟩
/-- A frame lies in block b. -/
def Fx (w : World) (b : Nat) (t : TypeId) (f : Fr) (q : Fl) : Prop := w.heap[b]? = some (f.obj q t)
/-- Its cells. -/
abbrev Fc (w : World) (b : Nat) (f : Fr) (q : Fl) : Prop := w.cell? ⟨b, 0, none⟩ = some (.int .u8 (f.code : Int)) ∧ w.cell? ⟨b, 1, none⟩ = some (.int .u16 (f.sess : Int)) ∧ w.cell? ⟨b, 2, none⟩ = some (.slice q.at_ q.nt q.ct) ∧ w.cell? ⟨b, 3, none⟩ = some (.int .u16 (f.pkt.proto : Int)) ∧ w.cell? ⟨b, 4, none⟩ = some (.int .u8 (f.pkt.code : Int)) ∧ w.cell? ⟨b, 5, none⟩ = some (.int .u8 (f.pkt.id : Int)) ∧ w.cell? ⟨b, 6, none⟩ = some (.slice q.pl.ao q.pl.no q.pl.co) ∧ w.cell? ⟨b, 7, none⟩ = some (.int .u16 (f.pkt.sub : Int)) ∧ w.cell? ⟨b, 8, none⟩ = some (.int .u32 (f.pkt.magic : Int)) ∧ w.cell? ⟨b, 9, none⟩ = some (.slice q.pl.a1 q.pl.n1 q.pl.c1) ∧ w.cell? ⟨b, 10, none⟩ = some (.slice q.pl.a2 q.pl.n2 q.pl.c2) ∧ w.cell? ⟨b, 11, none⟩ = some (.slice q.pl.ad q.pl.nd q.pl.cd) ∧ w.cell? ⟨b, 12, none⟩ = some (.slice q.pl.an q.pl.nn q.pl.cn)
/-- .. none of them frozen. -/
abbrev Ff (w : World) (b : Nat) : Prop := w.frozen? ⟨b, 0, none⟩ = false ∧ w.frozen? ⟨b, 1, none⟩ = false ∧ w.frozen? ⟨b, 2, none⟩ = false ∧ w.frozen? ⟨b, 3, none⟩ = false ∧ w.frozen? ⟨b, 4, none⟩ = false ∧ w.frozen? ⟨b, 5, none⟩ = false ∧ w.frozen? ⟨b, 6, none⟩ = false ∧ w.frozen? ⟨b, 7, none⟩ = false ∧ w.frozen? ⟨b, 8, none⟩ = false ∧ w.frozen? ⟨b, 9, none⟩ = false ∧ w.frozen? ⟨b, 10, none⟩ = false ∧ w.frozen? ⟨b, 11, none⟩ = false ∧ w.frozen? ⟨b, 12, none⟩ = false
section
variable {w w' : World} {b : Nat} {t : TypeId} {f : Fr} {q : Fl}
theorem Fx.lt (h : Fx w b t f q) : b < w.heap.size := (Array.getElem?_eq_some_iff.1 h).1
theorem Fx.all (h : Fx w b t f q) : Fc w b f q := by
  refine ⟨?_, ?_, ?_, ?_, ?_, ?_, ?_, ?_, ?_, ?_, ?_, ?_, ?_⟩ <;> (rw [cell_of_row w b _ _ _ _ h]; rfl)
theorem Fx.free (h : Fx w b t f q) : Ff w b :=
  ⟨frozen_of_row w _ 0 _ _ h, frozen_of_row w _ 1 _ _ h, frozen_of_row w _ 2 _ _ h, frozen_of_row w _ 3 _ _ h, frozen_of_row w _ 4 _ _ h, frozen_of_row w _ 5 _ _ h, frozen_of_row w _ 6 _ _ h, frozen_of_row w _ 7 _ _ h, frozen_of_row w _ 8 _ _ h, frozen_of_row w _ 9 _ _ h, frozen_of_row w _ 10 _ _ h, frozen_of_row w _ 11 _ _ h, frozen_of_row w _ 12 _ _ h⟩
theorem Fx.below (h : Fx w b t f q) (hb : Below w.heap.size w w') : Fx w' b t f q := (hb.block b h.lt).trans h
theorem fx_new (w : World) (t : TypeId) (f : Fr) (q : Fl) : Fx (w.alloc (f.obj q t)) w.heap.size t f q := heap_alloc_new w _
theorem fx0 (h : w.heap[b]? = some (obj0F t)) : Fx w b t fr0 fl0 := h
theorem Fx.other {d o : Nat} (h : Fx w b t f q) (u : Value) (hne : b ≠ d) : Fx (w.setCell ⟨d, o, none⟩ u) b t f q := by
  unfold Fx at h ⊢
  rw [← h]
  exact Below.heap_setCell _ _ _ _ (fun e => hne e)
end
/-- A frame is written into a block, cell by cell. -/
abbrev put13 (w : World) (b : Nat) (f : Fr) (q : Fl) : World := ((((((((((((w.setCell ⟨b, 0, none⟩ (.int .u8 (f.code : Int))).setCell ⟨b, 1, none⟩ (.int .u16 (f.sess : Int))).setCell ⟨b, 2, none⟩ (.slice q.at_ q.nt q.ct)).setCell ⟨b, 3, none⟩ (.int .u16 (f.pkt.proto : Int))).setCell ⟨b, 4, none⟩ (.int .u8 (f.pkt.code : Int))).setCell ⟨b, 5, none⟩ (.int .u8 (f.pkt.id : Int))).setCell ⟨b, 6, none⟩ (.slice q.pl.ao q.pl.no q.pl.co)).setCell ⟨b, 7, none⟩ (.int .u16 (f.pkt.sub : Int))).setCell ⟨b, 8, none⟩ (.int .u32 (f.pkt.magic : Int))).setCell ⟨b, 9, none⟩ (.slice q.pl.a1 q.pl.n1 q.pl.c1)).setCell ⟨b, 10, none⟩ (.slice q.pl.a2 q.pl.n2 q.pl.c2)).setCell ⟨b, 11, none⟩ (.slice q.pl.ad q.pl.nd q.pl.cd)).setCell ⟨b, 12, none⟩ (.slice q.pl.an q.pl.nn q.pl.cn)
theorem put13_below {W w : World} {B b : Nat} (h : Below B W w) (hb : B ≤ b) (f : Fr) (q : Fl) : Below B W (put13 w b f q) := ((((((((((((h.setCell (p := ⟨b, 0, none⟩) hb _).setCell (p := ⟨b, 1, none⟩) hb _).setCell (p := ⟨b, 2, none⟩) hb _).setCell (p := ⟨b, 3, none⟩) hb _).setCell (p := ⟨b, 4, none⟩) hb _).setCell (p := ⟨b, 5, none⟩) hb _).setCell (p := ⟨b, 6, none⟩) hb _).setCell (p := ⟨b, 7, none⟩) hb _).setCell (p := ⟨b, 8, none⟩) hb _).setCell (p := ⟨b, 9, none⟩) hb _).setCell (p := ⟨b, 10, none⟩) hb _).setCell (p := ⟨b, 11, none⟩) hb _).setCell (p := ⟨b, 12, none⟩) hb _
theorem put13_keeps (w : World) (b : Nat) (f : Fr) (q : Fl) : Keeps (fun i => i ≠ b) w (put13 w b f q) :=
  ((((((((((((keeps_set _ _ _ _).trans (keeps_set _ _ _ _)).trans (keeps_set _ _ _ _)).trans (keeps_set _ _ _ _)).trans (keeps_set _ _ _ _)).trans (keeps_set _ _ _ _)).trans (keeps_set _ _ _ _)).trans (keeps_set _ _ _ _)).trans (keeps_set _ _ _ _)).trans (keeps_set _ _ _ _)).trans (keeps_set _ _ _ _)).trans (keeps_set _ _ _ _)).trans (keeps_set _ _ _ _)
theorem Fx.putOther {w : World} {b d : Nat} {t : TypeId} {f : Fr} {q : Fl} (h : Fx w b t f q) (g : Fr) (r : Fl) (hne : b ≠ d) : Fx (put13 w d g r) b t f q :=
  ((((((((((((h.other _ hne).other _ hne).other _ hne).other _ hne).other _ hne).other _ hne).other _ hne).other _ hne).other _ hne).other _ hne).other _ hne).other _ hne).other _ hne
section
variable {w : World} {b : Nat} {t : TypeId} {f : Fr} {q : Fl}
theorem Fx.setCode (h : Fx w b t f q) (v : Nat) : Fx (w.setCell ⟨b, 0, none⟩ (.int .u8 (v : Int))) b t { f with code := v } q := heap_setCell_same _ b 0 _ _ _ h
theorem Fx.setSess (h : Fx w b t f q) (v : Nat) : Fx (w.setCell ⟨b, 1, none⟩ (.int .u16 (v : Int))) b t { f with sess := v } q := heap_setCell_same _ b 1 _ _ _ h
theorem Fx.setTags (h : Fx w b t f q) (A : Option Addr) (n c : Nat) (l : List (Nat × List Nat)) : Fx (w.setCell ⟨b, 2, none⟩ (.slice A n c)) b t { f with tags := l } { q with at_ := A, nt := n, ct := c } := heap_setCell_same _ b 2 _ _ _ h
theorem Fx.setProto (h : Fx w b t f q) (v : Nat) : Fx (w.setCell ⟨b, 3, none⟩ (.int .u16 (v : Int))) b t { f with pkt := { f.pkt with proto := v } } q := heap_setCell_same _ b 3 _ _ _ h
theorem Fx.setPcode (h : Fx w b t f q) (v : Nat) : Fx (w.setCell ⟨b, 4, none⟩ (.int .u8 (v : Int))) b t { f with pkt := { f.pkt with code := v } } q := heap_setCell_same _ b 4 _ _ _ h
theorem Fx.setId (h : Fx w b t f q) (v : Nat) : Fx (w.setCell ⟨b, 5, none⟩ (.int .u8 (v : Int))) b t { f with pkt := { f.pkt with id := v } } q := heap_setCell_same _ b 5 _ _ _ h
theorem Fx.setOpts (h : Fx w b t f q) (A : Option Addr) (n c : Nat) (l : List (Nat × List Nat)) : Fx (w.setCell ⟨b, 6, none⟩ (.slice A n c)) b t { f with pkt := { f.pkt with opts := l } } { q with pl := { q.pl with ao := A, no := n, co := c } } := heap_setCell_same _ b 6 _ _ _ h
theorem Fx.setSub (h : Fx w b t f q) (v : Nat) : Fx (w.setCell ⟨b, 7, none⟩ (.int .u16 (v : Int))) b t { f with pkt := { f.pkt with sub := v } } q := heap_setCell_same _ b 7 _ _ _ h
theorem Fx.setMagic (h : Fx w b t f q) (v : Nat) : Fx (w.setCell ⟨b, 8, none⟩ (.int .u32 (v : Int))) b t { f with pkt := { f.pkt with magic := v } } q := heap_setCell_same _ b 8 _ _ _ h
theorem Fx.setOne (h : Fx w b t f q) (A : Option Addr) (n c : Nat) (l : List Nat) : Fx (w.setCell ⟨b, 9, none⟩ (.slice A n c)) b t { f with pkt := { f.pkt with one := l } } { q with pl := { q.pl with a1 := A, n1 := n, c1 := c } } := heap_setCell_same _ b 9 _ _ _ h
theorem Fx.setTwo (h : Fx w b t f q) (A : Option Addr) (n c : Nat) (l : List Nat) : Fx (w.setCell ⟨b, 10, none⟩ (.slice A n c)) b t { f with pkt := { f.pkt with two := l } } { q with pl := { q.pl with a2 := A, n2 := n, c2 := c } } := heap_setCell_same _ b 10 _ _ _ h
theorem Fx.setData (h : Fx w b t f q) (A : Option Addr) (n c : Nat) (l : List Nat) : Fx (w.setCell ⟨b, 11, none⟩ (.slice A n c)) b t { f with pkt := { f.pkt with data := l } } { q with pl := { q.pl with ad := A, nd := n, cd := c } } := heap_setCell_same _ b 11 _ _ _ h
theorem Fx.setNums (h : Fx w b t f q) (A : Option Addr) (n c : Nat) (l : List Nat) : Fx (w.setCell ⟨b, 12, none⟩ (.slice A n c)) b t { f with pkt := { f.pkt with nums := l } } { q with pl := { q.pl with an := A, nn := n, cn := c } } := heap_setCell_same _ b 12 _ _ _ h
end
theorem put13_fx {w : World} {b : Nat} {t : TypeId} {f0 : Fr} {q0 : Fl} (h : Fx w b t f0 q0) (f : Fr) (q : Fl) : Fx (put13 w b f q) b t f q :=
  ((((((((((((h.setCode f.code).setSess f.sess).setTags q.at_ q.nt q.ct f.tags).setProto f.pkt.proto).setPcode f.pkt.code).setId f.pkt.id).setOpts q.pl.ao q.pl.no q.pl.co f.pkt.opts).setSub f.pkt.sub).setMagic f.pkt.magic).setOne q.pl.a1 q.pl.n1 q.pl.c1 f.pkt.one).setTwo q.pl.a2 q.pl.n2 q.pl.c2 f.pkt.two).setData q.pl.ad q.pl.nd q.pl.cd f.pkt.data).setNums q.pl.an q.pl.nn q.pl.cn f.pkt.nums
end Go.Proofs.Ytmhjnghomihjlaa
