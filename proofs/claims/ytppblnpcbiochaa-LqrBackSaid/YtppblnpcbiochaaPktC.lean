
/-
  Packets in a call's hands: what is known of the world that it stands in, whatever layer it is of: a packet of its own, an answer's block, two rows, two packets. No condition.
-/
import Derived.Test.YtppblnpcbiochaaPktL
import Derived.Test.YtppblnpcbiochaaCat
namespace Go.Proofs.Ytppblnpcbiochaa
open Go.RowKit
set_option linter.unusedVariables false

theorem rr_two (w : World) (A A2 : Option Addr) (l l2 : List Nat) (n n2 c c2 : Nat) (T : TypeId) (h : Rd w w.heap.size A l) (h2 : Rd w w.heap.size A2 l2) (e : l.length = n) (e2 : l2.length = n2) :
    Rr (w.alloc (.cells #[.slice A n c, .slice A2 n2 c2] T)) (some ⟨w.heap.size, 0, none⟩) [l, l2] := by
  subst e; subst e2
  intro _
  have hb := (Below.refl w.heap.size w).alloc (Nat.le_refl _) (.cells #[.slice A l.length c, .slice A2 l2.length c2] T)
  have cell : ∀ k u, (#[.slice A l.length c, .slice A2 l2.length c2] : Array Value)[k]? = some u → (w.alloc (.cells #[.slice A l.length c, .slice A2 l2.length c2] T)).cell? ⟨w.heap.size, 0 + k, none⟩ = some u := by
    intro k u hu
    rw [Nat.zero_add, World.cell?_alloc_at _ _ _ _ rfl]
    exact hu
  refine ⟨w.heap.size, 0, rfl, fun k x hx => ?_⟩
  match k, hx with
  | 0, hx => injection hx with hx; subst hx; exact ⟨A, c, cell 0 _ rfl, (h.below hb).more hb.size⟩
  | 1, hx => injection hx with hx; subst hx; exact ⟨A2, c2, cell 1 _ rfl, (h2.below hb).more hb.size⟩
  | k + 2, hx => simp at hx

/-- What a call knows of the world it stands in: a packet of its own. -/
structure BxC (T : TypeId) (w W : World) (p : Pk) (q : Pl) : Prop where
  bel : Below w.heap.size w W
  cf : Px W w.heap.size T p q
section
variable {T : TypeId} {w W X W' : World} {p : Pk} {q : Pl}
theorem BxC.made (T : TypeId) (w : World) (p : Pk) (q : Pl) : BxC T w (w.alloc (p.obj q T)) p q := ⟨(Below.refl _ _).alloc (Nat.le_refl _) _, px_new w T p q⟩
theorem BxC.step (h : BxC T w W p q) (hb : Below X.heap.size X W') (hX : Below W.heap.size W X := by first | exact Below.refl _ _ | exact (Below.refl _ _).drew) : BxC T w W' p q :=
  have hh := hX.trans (hb.mono hX.size)
  ⟨h.bel.trans (hh.mono h.bel.size), h.cf.below hh⟩
theorem BxC.c48 (h : BxC T w W p q) : W.cell? ⟨w.heap.size, 4, none⟩ = some (.int .u16 (p.sub : Int)) ∧ W.cell? ⟨w.heap.size, 8, none⟩ = some (.slice q.ad q.nd q.cd) := ⟨h.cf.all.2.2.2.2.1, h.cf.all.2.2.2.2.2.2.2.2.1⟩
theorem BxC.c58 (h : BxC T w W p q) : W.cell? ⟨w.heap.size, 5, none⟩ = some (.int .u32 (p.magic : Int)) ∧ W.cell? ⟨w.heap.size, 8, none⟩ = some (.slice q.ad q.nd q.cd) := ⟨h.cf.all.2.2.2.2.2.1, h.cf.all.2.2.2.2.2.2.2.2.1⟩
theorem BxC.on (h : BxC T w W p q) : Below w.heap.size w W := h.bel
end

theorem BxC.grown {T : TypeId} {w W X W' : World} {p : Pk} {q : Pl} {row : Option Nat} (h : BxC T w W p q) (hg : X.grownBy W' row) (hrow : ∀ k, row = some k → w.heap.size < k) (hX : Below W.heap.size W X := by first | exact Below.refl _ _ | exact (Below.refl _ _).drew) : BxC T w W' p q :=
  have h1 : BxC T w X p q := h.step hX
  ⟨h1.bel.grown hg h1.bel.size (fun k hk => Nat.le_of_lt (hrow k hk)), (hg.block _ h1.cf.lt (fun e => Nat.lt_irrefl _ (hrow _ e.symm))).trans h1.cf⟩
theorem BxC.c128 {T : TypeId} {w W : World} {p : Pk} {q : Pl} (h : BxC T w W p q) : W.cell? ⟨w.heap.size, 1, none⟩ = some (.int .u8 (p.code : Int)) ∧ W.cell? ⟨w.heap.size, 2, none⟩ = some (.int .u8 (p.id : Int)) ∧ W.cell? ⟨w.heap.size, 8, none⟩ = some (.slice q.ad q.nd q.cd) := ⟨h.cf.all.2.1, h.cf.all.2.2.1, h.cf.all.2.2.2.2.2.2.2.2.1⟩
/-- What Put answers: octets, and the error's number. -/
def PutR (w : World) (m : List Nat) (n k : Nat) (e : Ending) (w' : World) : Prop := ∃ A c, e = .returned (.tuple #[.slice A n c, .int .i64 (k : Int)]) ∧ Rd w' w'.heap.size A m ∧ n ≤ c ∧ Below w.heap.size w w'
theorem PutR.mk {w w' : World} {m : List Nat} {n k : Nat} {e : Ending} (A : Option Addr) (c : Nat) (h1 : e = .returned (.tuple #[.slice A n c, .int .i64 (k : Int)])) (h2 : Rd w' w'.heap.size A m) (h3 : n ≤ c) (h4 : Below w.heap.size w w') : PutR w m n k e w' := ⟨A, c, h1, h2, h3, h4⟩
/-- What Get answers: a packet, and the error's number. -/
def GetR (w : World) (x : Pk) (k : Nat) (e : Ending) (w' : World) : Prop := ∃ q, e = .returned (.tuple #[x.val q, .int .i64 (k : Int)]) ∧ Pw w' x q ∧ Below w.heap.size w w'
theorem GetR.mk {w w' : World} {x : Pk} {k : Nat} {e : Ending} (q : Pl) (h1 : e = .returned (.tuple #[x.val q, .int .i64 (k : Int)])) (h2 : Pw w' x q) (h3 : Below w.heap.size w w') : GetR w x k e w' := ⟨q, h1, h2, h3⟩

/-- What Get knows of the world it stands in: the answer's block. -/
structure GeC (T : TypeId) (w W : World) : Prop where
  bel : Below w.heap.size w W
  res : Px W w.heap.size T pk0 pl0
/-- .. and a packet's. -/
structure GpC (T : TypeId) (w W : World) (g : Nat) (p : Pk) (q : Pl) : Prop where
  bel : Below w.heap.size w W
  res : Px W w.heap.size T pk0 pl0
  lt : w.heap.size < g
  cf : Px W g T p q
section
variable {T : TypeId} {w W X W' : World} {g : Nat} {p : Pk} {q : Pl}
theorem GeC.made (T : TypeId) (w : World) : GeC T w (w.alloc (obj0P T)) := ⟨(Below.refl _ _).alloc (Nat.le_refl _) _, px0 (heap_alloc_new w _)⟩
theorem GeC.step (h : GeC T w W) (hb : Below X.heap.size X W') (hX : Below W.heap.size W X := by first | exact Below.refl _ _ | exact (Below.refl _ _).drew) : GeC T w W' :=
  have hh := hX.trans (hb.mono hX.size)
  ⟨h.bel.trans (hh.mono h.bel.size), h.res.below hh⟩
theorem GeC.pk (h : GeC T w W) (p : Pk) (q : Pl) : GpC T w (W.alloc (p.obj q T)) W.heap.size p q :=
  have hb := (Below.refl W.heap.size W).alloc (Nat.le_refl _) (p.obj q T)
  ⟨h.bel.trans (hb.mono h.bel.size), h.res.below hb, h.res.lt, px_new W T p q⟩
theorem GpC.step (h : GpC T w W g p q) (hb : Below X.heap.size X W') (hX : Below W.heap.size W X := by first | exact Below.refl _ _ | exact (Below.refl _ _).drew) : GpC T w W' g p q :=
  have hh := hX.trans (hb.mono hX.size)
  ⟨h.bel.trans (hh.mono h.bel.size), h.res.below hh, h.lt, h.cf.below hh⟩
theorem GpC.set (h : GpC T w W g p q) (o : Nat) (u : Value) {x : Pk} {r : Pl} (hx : Px (W.setCell ⟨g, o, none⟩ u) g T x r) : GpC T w (W.setCell ⟨g, o, none⟩ u) g x r :=
  ⟨h.bel.setCell (p := ⟨g, o, none⟩) (Nat.le_of_lt h.lt) _, h.res.other _ (Nat.ne_of_lt h.lt), h.lt, hx⟩
end
/-- A packet's slices, with the blocks that they lie in. -/
structure PwF (F : Nat → Prop) (w : World) (p : Pk) (q : Pl) : Prop where
  lo : p.opts.length = q.no
  ro : Rws shO F w q.ao p.opts
  l1 : p.one.length = q.n1
  r1 : RdF F w q.a1 p.one
  l2 : p.two.length = q.n2
  r2 : RdF F w q.a2 p.two
  ld : p.data.length = q.nd
  rd : RdF F w q.ad p.data
  ln : p.nums.length = q.nn
  rn : Rws shN F w q.an p.nums
  k1 : q.n1 ≤ q.c1
  k2 : q.n2 ≤ q.c2
  kd : q.nd ≤ q.cd
theorem PwF.pw {F : Nat → Prop} {w : World} {p : Pk} {q : Pl} (h : PwF F w p q) : Pw w p q :=
  ⟨h.lo, h.ro.mono (fun _ _ _ => trivial), h.l1, h.r1.rd, h.l2, h.r2.rd, h.ld, h.rd.rd, h.ln, h.rn.mono (fun _ _ _ => trivial), h.k1, h.k2, h.kd⟩
theorem PwF.keep {F : Nat → Prop} {w w' : World} {p : Pk} {q : Pl} (h : PwF F w p q) (hk : Keeps F w w') : PwF F w' p q :=
  ⟨h.lo, h.ro.keep hk, h.l1, h.r1.keep hk, h.l2, h.r2.keep hk, h.ld, h.rd.keep hk, h.ln, h.rn.keep hk, h.k1, h.k2, h.kd⟩
theorem pwF_data {F : Nat → Prop} {w : World} (t c i s m : Nat) {A : Option Addr} {n k : Nat} {d : List Nat} (hl : d.length = n) (hr : RdF F w A d) (hk : n ≤ k) : PwF F w ⟨t, c, i, [], s, m, [], [], d, []⟩ { pl0 with ad := A, nd := n, cd := k } :=
  ⟨rfl, Rws.nilO, rfl, RdF.nil, rfl, RdF.nil, hl, hr, rfl, Rws.nil, Nat.le_refl _, Nat.le_refl _, hk⟩
theorem pwF_opts {F : Nat → Prop} {w : World} (t c i s m : Nat) {A : Option Addr} {n k : Nat} {l : List (Nat × List Nat)} (hl : l.length = n) (hr : Rws shO F w A l) : PwF F w ⟨t, c, i, l, s, m, [], [], [], []⟩ { pl0 with ao := A, no := n, co := k } :=
  ⟨hl, hr, rfl, RdF.nil, rfl, RdF.nil, rfl, RdF.nil, rfl, Rws.nil, Nat.le_refl _, Nat.le_refl _, Nat.le_refl _⟩
/-- Neither of two blocks. -/
def Nn (a b i : Nat) : Prop := i ≠ a ∧ i ≠ b
theorem keeps_n1 (w : World) (a b j : Nat) (u : Value) : Keeps (Nn a b) w (w.setCell ⟨b, j, none⟩ u) := (keeps_set w b j u).less (fun _ _ h => h.2)
theorem keeps_n2 (w : World) (a b : Nat) (p : Pk) (q : Pl) : Keeps (Nn a b) w (put10 w a p q) := (put10_keeps w a p q).less (fun _ _ h => h.1)
theorem GpC.far {T : TypeId} {w W : World} {g : Nat} {p : Pk} {q : Pl} (h : GpC T w W g p q) : ∀ i, W.heap.size ≤ i → Nn w.heap.size g i := fun i hi => by
  have h1 := h.cf.lt
  have h2 := h.lt
  exact ⟨by omega, by omega⟩
theorem RdF.cut0 {F : Nat → Prop} {w : World} {A : Option Addr} {l : List Nat} (h : RdF F w A l) (c : Nat) : RdF F w (if c = 0 then A else A.map (fun a => a.add 0)) l := by
  have e : A.map (fun a => a.add 0) = A := by cases A <;> simp [Addr.add]
  rw [e]
  split <;> exact h
theorem Rd.rdFlt {w : World} {A : Option Addr} {l : List Nat} (h : Rd w w.heap.size A l) : RdF (fun i => i < w.heap.size) w A l := h.rdF (fun _ hb => hb) (Nat.le_refl _)
/-- A packet's slices lie in blocks that were there. -/
theorem Pw.pwF {w : World} {p : Pk} {q : Pl} (h : Pw w p q) : PwF (fun i => i < w.heap.size) w p q :=
  ⟨h.lo, h.ro.mono (fun _ hb _ => hb), h.l1, h.r1.rdFlt, h.l2, h.r2.rdFlt, h.ld, h.rd.rdFlt, h.ln, h.rn.mono (fun _ hb _ => hb), h.k1, h.k2, h.kd⟩
/-- What the last region of LcpTells knows of the world it stands in: two rows, two packets in blocks of their own. -/
structure TeL (w W : World) (g1 g2 : Nat) (y : Pk) (q1 q2 : Pl) (A B : Option Addr) (m : List Nat) : Prop where
  bel : Below w.heap.size w W
  x1 : Px W g1 36 y q1
  x2 : Px W g2 28 y q2
  p1 : Pw W y q1
  p2 : Pw W y q2
  ra : Rd W W.heap.size A m
  rb : Rd W W.heap.size B m
section
variable {w W X W' : World} {g1 g2 : Nat} {y : Pk} {q1 q2 : Pl} {A B : Option Addr} {m : List Nat}
theorem TeL.step (h : TeL w W g1 g2 y q1 q2 A B m) (hb : Below X.heap.size X W') (hX : Below W.heap.size W X := by first | exact Below.refl _ _ | exact (Below.refl _ _).drew) : TeL w W' g1 g2 y q1 q2 A B m :=
  have hh := hX.trans (hb.mono hX.size)
  ⟨h.bel.trans (hh.mono h.bel.size), h.x1.below hh, h.x2.below hh, h.p1.on hh, h.p2.on hh, h.ra.ons hh, h.rb.ons hh⟩
theorem TeL.drew (h : TeL w W g1 g2 y q1 q2 A B m) : TeL w W.drew g1 g2 y q1 q2 A B m := h.step (X := W) (Below.refl _ _).drew
theorem TeL.flat (h : TeL w W g1 g2 y q1 q2 A B m) : W.cell? ⟨g1, 0, none⟩ = some (.int .u16 (y.proto : Int)) ∧ W.cell? ⟨g1, 1, none⟩ = some (.int .u8 (y.code : Int)) ∧ W.cell? ⟨g1, 2, none⟩ = some (.int .u8 (y.id : Int)) ∧ W.cell? ⟨g1, 3, none⟩ = some (.slice q1.ao q1.no q1.co) ∧ W.cell? ⟨g1, 4, none⟩ = some (.int .u16 (y.sub : Int)) ∧ W.cell? ⟨g1, 5, none⟩ = some (.int .u32 (y.magic : Int)) ∧ W.cell? ⟨g1, 6, none⟩ = some (.slice q1.a1 q1.n1 q1.c1) ∧ W.cell? ⟨g1, 7, none⟩ = some (.slice q1.a2 q1.n2 q1.c2) ∧ W.cell? ⟨g1, 8, none⟩ = some (.slice q1.ad q1.nd q1.cd) ∧ W.cell? ⟨g1, 9, none⟩ = some (.slice q1.an q1.nn q1.cn) ∧ W.cell? ⟨g2, 0, none⟩ = some (.int .u16 (y.proto : Int)) ∧ W.cell? ⟨g2, 1, none⟩ = some (.int .u8 (y.code : Int)) ∧ W.cell? ⟨g2, 2, none⟩ = some (.int .u8 (y.id : Int)) ∧ W.cell? ⟨g2, 3, none⟩ = some (.slice q2.ao q2.no q2.co) ∧ W.cell? ⟨g2, 4, none⟩ = some (.int .u16 (y.sub : Int)) ∧ W.cell? ⟨g2, 5, none⟩ = some (.int .u32 (y.magic : Int)) ∧ W.cell? ⟨g2, 6, none⟩ = some (.slice q2.a1 q2.n1 q2.c1) ∧ W.cell? ⟨g2, 7, none⟩ = some (.slice q2.a2 q2.n2 q2.c2) ∧ W.cell? ⟨g2, 8, none⟩ = some (.slice q2.ad q2.nd q2.cd) ∧ W.cell? ⟨g2, 9, none⟩ = some (.slice q2.an q2.nn q2.cn) := by
  obtain ⟨x0, x1, x2, x3, x4, x5, x6, x7, x8, x9⟩ := h.x1.all
  exact ⟨x0, x1, x2, x3, x4, x5, x6, x7, x8, x9, h.x2.all⟩
end
/-- What the drawn region of LcpBack knows of the world it stands in: the packet, and what was read, in blocks of their own. -/
structure BaL (w W : World) (g : Nat) (p : Pk) (q r : Pl) : Prop where
  bel : Below w.heap.size w W
  x1 : Px W g 36 p r
  cf : Px W w.heap.size 28 p q
  p1 : Pw W p r
section
variable {w W X W' : World} {g : Nat} {p : Pk} {q r : Pl}
theorem BaL.step (h : BaL w W g p q r) (hb : Below X.heap.size X W') (hX : Below W.heap.size W X := by first | exact Below.refl _ _ | exact (Below.refl _ _).drew) : BaL w W' g p q r :=
  have hh := hX.trans (hb.mono hX.size)
  ⟨h.bel.trans (hh.mono h.bel.size), h.x1.below hh, h.cf.below hh, h.p1.on hh⟩
theorem BaL.drew (h : BaL w W g p q r) : BaL w W.drew g p q r := h.step (X := W) (Below.refl _ _).drew
theorem BaL.flat (h : BaL w W g p q r) : W.cell? ⟨g, 0, none⟩ = some (.int .u16 (p.proto : Int)) ∧ W.cell? ⟨g, 1, none⟩ = some (.int .u8 (p.code : Int)) ∧ W.cell? ⟨g, 2, none⟩ = some (.int .u8 (p.id : Int)) ∧ W.cell? ⟨g, 3, none⟩ = some (.slice r.ao r.no r.co) ∧ W.cell? ⟨g, 4, none⟩ = some (.int .u16 (p.sub : Int)) ∧ W.cell? ⟨g, 5, none⟩ = some (.int .u32 (p.magic : Int)) ∧ W.cell? ⟨g, 6, none⟩ = some (.slice r.a1 r.n1 r.c1) ∧ W.cell? ⟨g, 7, none⟩ = some (.slice r.a2 r.n2 r.c2) ∧ W.cell? ⟨g, 8, none⟩ = some (.slice r.ad r.nd r.cd) ∧ W.cell? ⟨g, 9, none⟩ = some (.slice r.an r.nn r.cn) ∧ W.cell? ⟨w.heap.size, 0, none⟩ = some (.int .u16 (p.proto : Int)) ∧ W.cell? ⟨w.heap.size, 1, none⟩ = some (.int .u8 (p.code : Int)) ∧ W.cell? ⟨w.heap.size, 2, none⟩ = some (.int .u8 (p.id : Int)) ∧ W.cell? ⟨w.heap.size, 3, none⟩ = some (.slice q.ao q.no q.co) ∧ W.cell? ⟨w.heap.size, 4, none⟩ = some (.int .u16 (p.sub : Int)) ∧ W.cell? ⟨w.heap.size, 5, none⟩ = some (.int .u32 (p.magic : Int)) ∧ W.cell? ⟨w.heap.size, 6, none⟩ = some (.slice q.a1 q.n1 q.c1) ∧ W.cell? ⟨w.heap.size, 7, none⟩ = some (.slice q.a2 q.n2 q.c2) ∧ W.cell? ⟨w.heap.size, 8, none⟩ = some (.slice q.ad q.nd q.cd) ∧ W.cell? ⟨w.heap.size, 9, none⟩ = some (.slice q.an q.nn q.cn) := by
  obtain ⟨x0, x1, x2, x3, x4, x5, x6, x7, x8, x9⟩ := h.x1.all
  exact ⟨x0, x1, x2, x3, x4, x5, x6, x7, x8, x9, h.cf.all⟩
theorem BaL.bx (h : BaL w W g p q r) : BxC 28 w W p q := ⟨h.bel, h.cf⟩
end
theorem sm0 : pk0.sm := ⟨by decide, by decide, by decide, by decide, by decide, by decide⟩
theorem psame_zero (y : Pk) (hy : y = pk0) (q : Pl) (w : World) (ha : Pw w y q) :
    Calls Try.prog 16 #[y.val q, .agg #[.int .u16 0, .int .u8 0, .int .u8 0, .slice none 0 0, .int .u16 0, .int .u32 0, .slice none 0 0, .slice none 0 0, .slice none 0 0, .slice none 0 0]] w fun e w' => e = .returned (.bool true) ∧ Below w.heap.size w w' := by
  subst hy
  exact psame_yes pk0 q pl0 w ha (pw0 w) sm0
end Go.Proofs.Ytppblnpcbiochaa
