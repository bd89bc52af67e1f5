
/-
  EtherAnswers' walk. No condition.
-/
import Derived.Test.YtmhjnghomihjlaaEthQ
import Derived.Test.YtmhjnghomihjlaaEthY
import Derived.Test.YtmhjnghomihjlaaEthO
import Derived.Test.YtmhjnghomihjlaaEthH
import Derived.Deep.CutRange
import Derived.Deep.RegionHeld3
namespace Go.Proofs.Ytmhjnghomihjlaa
set_option maxRecDepth 4000
open Go.RowKit
set_option linter.unusedVariables false

theorem fewE_ofA {f : Fr} (h : fewE f = true) : tgfew f.tags = true ∧ fewP f.pkt = true := by
  unfold fewE at h
  simpa using h
theorem TwF.flat {w W : World} {f o : Fr} {q r : Fl} (h : TwF 31 w W f o q r) : W.cell? ⟨w.heap.size, 0, none⟩ = some (.int .u8 (f.code : Int)) ∧ W.cell? ⟨w.heap.size, 1, none⟩ = some (.int .u16 (f.sess : Int)) ∧ W.cell? ⟨w.heap.size, 2, none⟩ = some (.slice q.at_ q.nt q.ct) ∧ W.cell? ⟨w.heap.size, 3, none⟩ = some (.int .u16 (f.pkt.proto : Int)) ∧ W.cell? ⟨w.heap.size, 4, none⟩ = some (.int .u8 (f.pkt.code : Int)) ∧ W.cell? ⟨w.heap.size, 5, none⟩ = some (.int .u8 (f.pkt.id : Int)) ∧ W.cell? ⟨w.heap.size, 6, none⟩ = some (.slice q.pl.ao q.pl.no q.pl.co) ∧ W.cell? ⟨w.heap.size, 7, none⟩ = some (.int .u16 (f.pkt.sub : Int)) ∧ W.cell? ⟨w.heap.size, 8, none⟩ = some (.int .u32 (f.pkt.magic : Int)) ∧ W.cell? ⟨w.heap.size, 9, none⟩ = some (.slice q.pl.a1 q.pl.n1 q.pl.c1) ∧ W.cell? ⟨w.heap.size, 10, none⟩ = some (.slice q.pl.a2 q.pl.n2 q.pl.c2) ∧ W.cell? ⟨w.heap.size, 11, none⟩ = some (.slice q.pl.ad q.pl.nd q.pl.cd) ∧ W.cell? ⟨w.heap.size, 12, none⟩ = some (.slice q.pl.an q.pl.nn q.pl.cn) ∧ W.cell? ⟨(w.heap.size + 1), 0, none⟩ = some (.int .u8 (o.code : Int)) ∧ W.cell? ⟨(w.heap.size + 1), 1, none⟩ = some (.int .u16 (o.sess : Int)) ∧ W.cell? ⟨(w.heap.size + 1), 2, none⟩ = some (.slice r.at_ r.nt r.ct) ∧ W.cell? ⟨(w.heap.size + 1), 3, none⟩ = some (.int .u16 (o.pkt.proto : Int)) ∧ W.cell? ⟨(w.heap.size + 1), 4, none⟩ = some (.int .u8 (o.pkt.code : Int)) ∧ W.cell? ⟨(w.heap.size + 1), 5, none⟩ = some (.int .u8 (o.pkt.id : Int)) ∧ W.cell? ⟨(w.heap.size + 1), 6, none⟩ = some (.slice r.pl.ao r.pl.no r.pl.co) ∧ W.cell? ⟨(w.heap.size + 1), 7, none⟩ = some (.int .u16 (o.pkt.sub : Int)) ∧ W.cell? ⟨(w.heap.size + 1), 8, none⟩ = some (.int .u32 (o.pkt.magic : Int)) ∧ W.cell? ⟨(w.heap.size + 1), 9, none⟩ = some (.slice r.pl.a1 r.pl.n1 r.pl.c1) ∧ W.cell? ⟨(w.heap.size + 1), 10, none⟩ = some (.slice r.pl.a2 r.pl.n2 r.pl.c2) ∧ W.cell? ⟨(w.heap.size + 1), 11, none⟩ = some (.slice r.pl.ad r.pl.nd r.pl.cd) ∧ W.cell? ⟨(w.heap.size + 1), 12, none⟩ = some (.slice r.pl.an r.pl.nn r.pl.cn) := by
  obtain ⟨x0, x1, x2, x3, x4, x5, x6, x7, x8, x9, x10, x11, x12⟩ := h.x.all
  exact ⟨x0, x1, x2, x3, x4, x5, x6, x7, x8, x9, x10, x11, x12, h.y.all⟩
theorem TwF.drew {w W : World} {f o : Fr} {q r : Fl} (h : TwF 31 w W f o q r) : TwF 31 w W.drew f o q r := h.step (Below.refl _ _).drew
theorem TwF.al {w W : World} {f o : Fr} {q r : Fl} (h : TwF 31 w W f o q r) (u : Obj) : TwF 31 w (W.alloc u) f o q r := h.step ((Below.refl W.heap.size W).alloc (Nat.le_refl _) u)
theorem TwF.putY {w W : World} {f o : Fr} {q r : Fl} {d : Nat} (h : TwF 31 w W f o q r) (hd : w.heap.size + 1 < d) (x : Fr) (y : Fl) : TwF 31 w (put13 W d x y) f o q r :=
  ⟨put13_below h.bel (by omega) x y, h.x.putOther x y (by omega), h.y.putOther x y (by omega)⟩
/-- A variable of its own holds a frame. -/
structure Vf (w W : World) (b : Nat) (f : Fr) (q : Fl) : Prop where
  gt : w.heap.size + 1 < b
  bx : Fx W b 39 f q
section
variable {w W X W' : World} {b d : Nat} {f o x : Fr} {q r y : Fl}
theorem Vf.new (h : TwF 31 w W f o q r) : Vf w (W.alloc (obj0F 39)) W.heap.size fr0 fl0 := ⟨h.y.lt, fx0 (heap_alloc_new W _)⟩
theorem Vf.below (h : Vf w W b f q) (hb : Below W.heap.size W W') : Vf w W' b f q := ⟨h.gt, h.bx.below hb⟩
theorem Vf.al (h : Vf w W b f q) (u : Obj) : Vf w (W.alloc u) b f q := h.below ((Below.refl W.heap.size W).alloc (Nat.le_refl _) u)
theorem Vf.put (h : Vf w W b f q) (x : Fr) (y : Fl) : Vf w (put13 W b x y) b x y := ⟨h.gt, put13_fx h.bx x y⟩
theorem Vf.putO (h : Vf w W b f q) (hne : b ≠ d) (x : Fr) (y : Fl) : Vf w (put13 W d x y) b f q := ⟨h.gt, h.bx.putOther x y hne⟩
end
/-- What EtherAnswers knows behind its two variables. -/
structure AnV (w W : World) (b5 b6 : Nat) (x y : Fr) (r3 r4 : Fl) (f : Fr) (q : Fl) : Prop where
  bel : Below w.heap.size w W
  g5 : w.heap.size + 1 < b5
  g6 : w.heap.size + 1 < b6
  ne : b5 ≠ b6
  v5 : Fx W b5 39 x r3
  v6 : Fx W b6 39 y r4
  p5 : FwF (fun i => i ≠ b5 ∧ i ≠ b6) W x r3
  p6 : FwF (fun i => i ≠ b5 ∧ i ≠ b6) W y r4
  cf : Fx W w.heap.size 31 f q
section
variable {w W X W' : World} {b5 b6 : Nat} {x y f : Fr} {r3 r4 q : Fl}
theorem AnV.step (h : AnV w W b5 b6 x y r3 r4 f q) (hb : Below X.heap.size X W') (hX : Below W.heap.size W X := by first | exact Below.refl _ _ | exact (Below.refl _ _).drew) : AnV w W' b5 b6 x y r3 r4 f q :=
  have hh := hX.trans (hb.mono hX.size)
  ⟨h.bel.trans (hh.mono h.bel.size), h.g5, h.g6, h.ne, h.v5.below hh, h.v6.below hh, h.p5.on hh, h.p6.on hh, h.cf.below hh⟩
theorem AnV.drew (h : AnV w W b5 b6 x y r3 r4 f q) : AnV w W.drew b5 b6 x y r3 r4 f q := h.step (X := W) (Below.refl _ _).drew
theorem AnV.flat (h : AnV w W b5 b6 x y r3 r4 f q) : W.cell? ⟨b5, 0, none⟩ = some (.int .u8 (x.code : Int)) ∧ W.cell? ⟨b5, 1, none⟩ = some (.int .u16 (x.sess : Int)) ∧ W.cell? ⟨b5, 2, none⟩ = some (.slice r3.at_ r3.nt r3.ct) ∧ W.cell? ⟨b5, 3, none⟩ = some (.int .u16 (x.pkt.proto : Int)) ∧ W.cell? ⟨b5, 4, none⟩ = some (.int .u8 (x.pkt.code : Int)) ∧ W.cell? ⟨b5, 5, none⟩ = some (.int .u8 (x.pkt.id : Int)) ∧ W.cell? ⟨b5, 6, none⟩ = some (.slice r3.pl.ao r3.pl.no r3.pl.co) ∧ W.cell? ⟨b5, 7, none⟩ = some (.int .u16 (x.pkt.sub : Int)) ∧ W.cell? ⟨b5, 8, none⟩ = some (.int .u32 (x.pkt.magic : Int)) ∧ W.cell? ⟨b5, 9, none⟩ = some (.slice r3.pl.a1 r3.pl.n1 r3.pl.c1) ∧ W.cell? ⟨b5, 10, none⟩ = some (.slice r3.pl.a2 r3.pl.n2 r3.pl.c2) ∧ W.cell? ⟨b5, 11, none⟩ = some (.slice r3.pl.ad r3.pl.nd r3.pl.cd) ∧ W.cell? ⟨b5, 12, none⟩ = some (.slice r3.pl.an r3.pl.nn r3.pl.cn) ∧ W.cell? ⟨b6, 0, none⟩ = some (.int .u8 (y.code : Int)) ∧ W.cell? ⟨b6, 1, none⟩ = some (.int .u16 (y.sess : Int)) ∧ W.cell? ⟨b6, 2, none⟩ = some (.slice r4.at_ r4.nt r4.ct) ∧ W.cell? ⟨b6, 3, none⟩ = some (.int .u16 (y.pkt.proto : Int)) ∧ W.cell? ⟨b6, 4, none⟩ = some (.int .u8 (y.pkt.code : Int)) ∧ W.cell? ⟨b6, 5, none⟩ = some (.int .u8 (y.pkt.id : Int)) ∧ W.cell? ⟨b6, 6, none⟩ = some (.slice r4.pl.ao r4.pl.no r4.pl.co) ∧ W.cell? ⟨b6, 7, none⟩ = some (.int .u16 (y.pkt.sub : Int)) ∧ W.cell? ⟨b6, 8, none⟩ = some (.int .u32 (y.pkt.magic : Int)) ∧ W.cell? ⟨b6, 9, none⟩ = some (.slice r4.pl.a1 r4.pl.n1 r4.pl.c1) ∧ W.cell? ⟨b6, 10, none⟩ = some (.slice r4.pl.a2 r4.pl.n2 r4.pl.c2) ∧ W.cell? ⟨b6, 11, none⟩ = some (.slice r4.pl.ad r4.pl.nd r4.pl.cd) ∧ W.cell? ⟨b6, 12, none⟩ = some (.slice r4.pl.an r4.pl.nn r4.pl.cn) ∧ W.cell? ⟨w.heap.size, 0, none⟩ = some (.int .u8 (f.code : Int)) ∧ W.cell? ⟨w.heap.size, 1, none⟩ = some (.int .u16 (f.sess : Int)) ∧ W.cell? ⟨w.heap.size, 2, none⟩ = some (.slice q.at_ q.nt q.ct) ∧ W.cell? ⟨w.heap.size, 3, none⟩ = some (.int .u16 (f.pkt.proto : Int)) ∧ W.cell? ⟨w.heap.size, 4, none⟩ = some (.int .u8 (f.pkt.code : Int)) ∧ W.cell? ⟨w.heap.size, 5, none⟩ = some (.int .u8 (f.pkt.id : Int)) ∧ W.cell? ⟨w.heap.size, 6, none⟩ = some (.slice q.pl.ao q.pl.no q.pl.co) ∧ W.cell? ⟨w.heap.size, 7, none⟩ = some (.int .u16 (f.pkt.sub : Int)) ∧ W.cell? ⟨w.heap.size, 8, none⟩ = some (.int .u32 (f.pkt.magic : Int)) ∧ W.cell? ⟨w.heap.size, 9, none⟩ = some (.slice q.pl.a1 q.pl.n1 q.pl.c1) ∧ W.cell? ⟨w.heap.size, 10, none⟩ = some (.slice q.pl.a2 q.pl.n2 q.pl.c2) ∧ W.cell? ⟨w.heap.size, 11, none⟩ = some (.slice q.pl.ad q.pl.nd q.pl.cd) ∧ W.cell? ⟨w.heap.size, 12, none⟩ = some (.slice q.pl.an q.pl.nn q.pl.cn) := by
  obtain ⟨x0, x1, x2, x3, x4, x5, x6, x7, x8, x9, x10, x11, x12⟩ := h.v5.all
  obtain ⟨y0, y1, y2, y3, y4, y5, y6, y7, y8, y9, y10, y11, y12⟩ := h.v6.all
  exact ⟨x0, x1, x2, x3, x4, x5, x6, x7, x8, x9, x10, x11, x12, y0, y1, y2, y3, y4, y5, y6, y7, y8, y9, y10, y11, y12, h.cf.all⟩
theorem AnV.k5 (h : AnV w W b5 b6 x y r3 r4 f q) (j : Nat) (u : Value) : Keeps (fun i => i ≠ b5 ∧ i ≠ b6) W (W.setCell ⟨b5, j, none⟩ u) := (keeps_set W b5 j u).less (fun _ _ hi => hi.1)
theorem AnV.k6 (h : AnV w W b5 b6 x y r3 r4 f q) (j : Nat) (u : Value) : Keeps (fun i => i ≠ b5 ∧ i ≠ b6) W (W.setCell ⟨b6, j, none⟩ u) := (keeps_set W b6 j u).less (fun _ _ hi => hi.2)
theorem AnV.code5 (h : AnV w W b5 b6 x y r3 r4 f q) (v : Nat) : AnV w (W.setCell ⟨b5, 0, none⟩ (.int .u8 (v : Int))) b5 b6 { x with code := v } y r3 r4 f q :=
  have k := h.p5.keep (h.k5 0 (.int .u8 (v : Int)))
  ⟨h.bel.setCell (p := ⟨b5, 0, none⟩) (Nat.le_of_lt (Nat.lt_trans (Nat.lt_succ_self _) h.g5)) _, h.g5, h.g6, h.ne, h.v5.setCode v, h.v6.other _ h.ne.symm, ⟨k.lt, k.rt, k.kt, k.pk⟩, h.p6.keep (h.k5 0 _), h.cf.other _ (Nat.ne_of_lt (Nat.lt_trans (Nat.lt_succ_self _) h.g5))⟩
theorem AnV.code6 (h : AnV w W b5 b6 x y r3 r4 f q) (v : Nat) : AnV w (W.setCell ⟨b6, 0, none⟩ (.int .u8 (v : Int))) b5 b6 x { y with code := v } r3 r4 f q :=
  have k := h.p6.keep (h.k6 0 (.int .u8 (v : Int)))
  ⟨h.bel.setCell (p := ⟨b6, 0, none⟩) (Nat.le_of_lt (Nat.lt_trans (Nat.lt_succ_self _) h.g6)) _, h.g5, h.g6, h.ne, h.v5.other _ h.ne, h.v6.setCode v, h.p5.keep (h.k6 0 _), ⟨k.lt, k.rt, k.kt, k.pk⟩, h.cf.other _ (Nat.ne_of_lt (Nat.lt_trans (Nat.lt_succ_self _) h.g6))⟩
theorem AnV.tags5 (h : AnV w W b5 b6 x y r3 r4 f q) {A : Option Addr} {n c : Nat} {l : List (Nat × List Nat)} (hl : l.length = n) (hc : n ≤ c) (hr : Rws shG (fun i => i ≠ b5 ∧ i ≠ b6) W A l) : AnV w (W.setCell ⟨b5, 2, none⟩ (.slice A n c)) b5 b6 { x with tags := l } y { r3 with at_ := A, nt := n, ct := c } r4 f q :=
  ⟨h.bel.setCell (p := ⟨b5, 2, none⟩) (Nat.le_of_lt (Nat.lt_trans (Nat.lt_succ_self _) h.g5)) _, h.g5, h.g6, h.ne, h.v5.setTags A n c l, h.v6.other _ h.ne.symm, ⟨hl, hr.keep (h.k5 2 _), hc, h.p5.pk.keep (h.k5 2 _)⟩, h.p6.keep (h.k5 2 _), h.cf.other _ (Nat.ne_of_lt (Nat.lt_trans (Nat.lt_succ_self _) h.g5))⟩
theorem AnV.tags6 (h : AnV w W b5 b6 x y r3 r4 f q) {A : Option Addr} {n c : Nat} {l : List (Nat × List Nat)} (hl : l.length = n) (hc : n ≤ c) (hr : Rws shG (fun i => i ≠ b5 ∧ i ≠ b6) W A l) : AnV w (W.setCell ⟨b6, 2, none⟩ (.slice A n c)) b5 b6 x { y with tags := l } r3 { r4 with at_ := A, nt := n, ct := c } f q :=
  ⟨h.bel.setCell (p := ⟨b6, 2, none⟩) (Nat.le_of_lt (Nat.lt_trans (Nat.lt_succ_self _) h.g6)) _, h.g5, h.g6, h.ne, h.v5.other _ h.ne, h.v6.setTags A n c l, h.p5.keep (h.k6 2 _), ⟨hl, hr.keep (h.k6 2 _), hc, h.p6.pk.keep (h.k6 2 _)⟩, h.cf.other _ (Nat.ne_of_lt (Nat.lt_trans (Nat.lt_succ_self _) h.g6))⟩
end
/-- All tags but the first one. -/
theorem Rws.tailG {F : Nat → Prop} {w : World} {b off : Nat} {o : Nat × List Nat} {l : List (Nat × List Nat)} (h : Rws shG F w (some ⟨b, off, none⟩) (o :: l)) : Rws shG F w (some ⟨b, off + 2, none⟩) l := fun hl => by
  obtain ⟨b', off', h1, h2, h3, h4⟩ := h (by simp)
  injection h1 with h1
  injection h1 with h1 h1'
  subst h1; subst h1'
  refine ⟨_, _, rfl, h2, h3, fun k x hx => ?_⟩
  obtain ⟨cs, h5, h6⟩ := h4 (k + 1) x (by simpa using hx)
  refine ⟨cs, h5, fun j u hu => ?_⟩
  have h7 := h6 j u hu
  rw [show off + ((k + 1) * shG.sz + j) = off + 2 + (k * shG.sz + j) by show off + ((k + 1) * 2 + j) = off + 2 + (k * 2 + j); omega] at h7
  exact h7
theorem Rws.atG {F : Nat → Prop} {w : World} {A : Option Addr} {o : Nat × List Nat} {l : List (Nat × List Nat)} (h : Rws shG F w A (o :: l)) : ∃ b off, A = some ⟨b, off, none⟩ := by
  obtain ⟨b, off, h1, -⟩ := h (by simp)
  exact ⟨b, off, h1⟩

set_option maxHeartbeats 4000000 in
theorem etan_few1 (f : Fr) (q : Fl) (o : Fr) (r : Fl) (A1 : Option Addr) (n1 c1 : Nat) (A2 : Option Addr) (n2 c2 : Nat) (w : World) (h : IsFr w f q) (h' : IsFr w o r) (hf : fewE f = false) :
    Calls Try.prog 3 #[f.val q, o.val r, .slice A1 n1 c1, .slice A2 n2 c2] w fun e w' => e = .returned (.bool true) ∧ Below w.heap.size w w' := by
  have C := Lib.hid (TwF.made 31 w f o q r)
  have H := Lib.hid h.fw
  have HI := Lib.hid h
  have H2 := Lib.hid h'.fw
  have HI2 := Lib.hid h'
  have HF := Lib.hid hf
  clear hf
  clear h h'
  go_enter Try.func3, Try.ntmps3
  go_wp2_with (first
    | (go_at_call 4; (with_reducible refine (speaks22 _).mono ?_); rintro e wn ⟨rfl, hb⟩; replace C := Lib.hid (C.out.step hb); clear hb; (try clear x0 x1 x2 x3 x4 x5 x6 x7 x8 x9 x10 x11 x12 y0 y1 y2 y3 y4 y5 y6 y7 y8 y9 y10 y11 y12); obtain ⟨x0, x1, x2, x3, x4, x5, x6, x7, x8, x9, x10, x11, x12⟩ := C.out.x.all; obtain ⟨y0, y1, y2, y3, y4, y5, y6, y7, y8, y9, y10, y11, y12⟩ := C.out.y.all)
    | (go_at_call 5; (with_reducible refine (efew_any f q _ (fun _ => True) (H.out.on C.out.bel) HI.out.nt HI.out.td HI.out.no HI.out.od _ HF.out).mono ?_); rintro e wn ⟨rfl, hb⟩; replace C := Lib.hid (C.out.step hb); clear hb; (try clear x0 x1 x2 x3 x4 x5 x6 x7 x8 x9 x10 x11 x12 y0 y1 y2 y3 y4 y5 y6 y7 y8 y9 y10 y11 y12); obtain ⟨x0, x1, x2, x3, x4, x5, x6, x7, x8, x9, x10, x11, x12⟩ := C.out.x.all; obtain ⟨y0, y1, y2, y3, y4, y5, y6, y7, y8, y9, y10, y11, y12⟩ := C.out.y.all))
  go_ret
  exact ⟨rfl, C.out.bel⟩

set_option maxHeartbeats 4000000 in
theorem etan_few2 (f : Fr) (q : Fl) (o : Fr) (r : Fl) (A1 : Option Addr) (n1 c1 : Nat) (A2 : Option Addr) (n2 c2 : Nat) (w : World) (h : IsFr w f q) (h' : IsFr w o r) (hf : fewE f = true) (hf2 : fewE o = false) :
    Calls Try.prog 3 #[f.val q, o.val r, .slice A1 n1 c1, .slice A2 n2 c2] w fun e w' => e = .returned (.bool true) ∧ Below w.heap.size w w' := by
  have C := Lib.hid (TwF.made 31 w f o q r)
  have H := Lib.hid h.fw
  have HI := Lib.hid h
  have H2 := Lib.hid h'.fw
  have HI2 := Lib.hid h'
  have HF := Lib.hid hf
  have HF2 := Lib.hid hf2
  clear hf hf2
  clear h h'
  go_enter Try.func3, Try.ntmps3
  go_wp2_with (first
    | (go_at_call 4; (with_reducible refine (speaks22 _).mono ?_); rintro e wn ⟨rfl, hb⟩; replace C := Lib.hid (C.out.step hb); clear hb; (try clear x0 x1 x2 x3 x4 x5 x6 x7 x8 x9 x10 x11 x12 y0 y1 y2 y3 y4 y5 y6 y7 y8 y9 y10 y11 y12); obtain ⟨x0, x1, x2, x3, x4, x5, x6, x7, x8, x9, x10, x11, x12⟩ := C.out.x.all; obtain ⟨y0, y1, y2, y3, y4, y5, y6, y7, y8, y9, y10, y11, y12⟩ := C.out.y.all)
    | (go_at_call 5; (with_reducible refine (efew_any f q _ (fun _ => True) (H.out.on C.out.bel) HI.out.nt HI.out.td HI.out.no HI.out.od _ HF.out).mono ?_); rintro e wn ⟨rfl, hb⟩; replace C := Lib.hid (C.out.step hb); clear hb; (try clear x0 x1 x2 x3 x4 x5 x6 x7 x8 x9 x10 x11 x12 y0 y1 y2 y3 y4 y5 y6 y7 y8 y9 y10 y11 y12); obtain ⟨x0, x1, x2, x3, x4, x5, x6, x7, x8, x9, x10, x11, x12⟩ := C.out.x.all; obtain ⟨y0, y1, y2, y3, y4, y5, y6, y7, y8, y9, y10, y11, y12⟩ := C.out.y.all)
    | (go_at_call 5; (with_reducible refine (efew_any o r _ (fun _ => True) (H2.out.on C.out.bel) HI2.out.nt HI2.out.td HI2.out.no HI2.out.od _ HF2.out).mono ?_); rintro e wn ⟨rfl, hb⟩; replace C := Lib.hid (C.out.step hb); clear hb; (try clear x0 x1 x2 x3 x4 x5 x6 x7 x8 x9 x10 x11 x12 y0 y1 y2 y3 y4 y5 y6 y7 y8 y9 y10 y11 y12); obtain ⟨x0, x1, x2, x3, x4, x5, x6, x7, x8, x9, x10, x11, x12⟩ := C.out.x.all; obtain ⟨y0, y1, y2, y3, y4, y5, y6, y7, y8, y9, y10, y11, y12⟩ := C.out.y.all))
  go_ret
  exact ⟨rfl, C.out.bel⟩

set_option maxHeartbeats 4000000 in
theorem etan_long1 (f : Fr) (q : Fl) (o : Fr) (r : Fl) (A1 : Option Addr) (n1 c1 : Nat) (A2 : Option Addr) (n2 c2 : Nat) (w : World) (h : IsFr w f q) (h' : IsFr w o r) (hf : fewE f = true) (hf2 : fewE o = true) (h1 : ¬ n1 ≤ 100) :
    Calls Try.prog 3 #[f.val q, o.val r, .slice A1 n1 c1, .slice A2 n2 c2] w fun e w' => e = .returned (.bool true) ∧ Below w.heap.size w w' := by
  have C := Lib.hid (TwF.made 31 w f o q r)
  have H := Lib.hid h.fw
  have HI := Lib.hid h
  have H2 := Lib.hid h'.fw
  have HI2 := Lib.hid h'
  have HF := Lib.hid hf
  have HF2 := Lib.hid hf2
  have j1 : (100 : Int) < (n1 : Int) := by omega
  clear hf hf2 h1
  clear h h'
  go_enter Try.func3, Try.ntmps3
  go_wp2_with (first
    | (go_at_call 4; (with_reducible refine (speaks22 _).mono ?_); rintro e wn ⟨rfl, hb⟩; replace C := Lib.hid (C.out.step hb); clear hb; (try clear x0 x1 x2 x3 x4 x5 x6 x7 x8 x9 x10 x11 x12 y0 y1 y2 y3 y4 y5 y6 y7 y8 y9 y10 y11 y12); obtain ⟨x0, x1, x2, x3, x4, x5, x6, x7, x8, x9, x10, x11, x12⟩ := C.out.x.all; obtain ⟨y0, y1, y2, y3, y4, y5, y6, y7, y8, y9, y10, y11, y12⟩ := C.out.y.all)
    | (go_at_call 5; (with_reducible refine (efew_any f q _ (fun _ => True) (H.out.on C.out.bel) HI.out.nt HI.out.td HI.out.no HI.out.od _ HF.out).mono ?_); rintro e wn ⟨rfl, hb⟩; replace C := Lib.hid (C.out.step hb); clear hb; (try clear x0 x1 x2 x3 x4 x5 x6 x7 x8 x9 x10 x11 x12 y0 y1 y2 y3 y4 y5 y6 y7 y8 y9 y10 y11 y12); obtain ⟨x0, x1, x2, x3, x4, x5, x6, x7, x8, x9, x10, x11, x12⟩ := C.out.x.all; obtain ⟨y0, y1, y2, y3, y4, y5, y6, y7, y8, y9, y10, y11, y12⟩ := C.out.y.all)
    | (go_at_call 5; (with_reducible refine (efew_any o r _ (fun _ => True) (H2.out.on C.out.bel) HI2.out.nt HI2.out.td HI2.out.no HI2.out.od _ HF2.out).mono ?_); rintro e wn ⟨rfl, hb⟩; replace C := Lib.hid (C.out.step hb); clear hb; (try clear x0 x1 x2 x3 x4 x5 x6 x7 x8 x9 x10 x11 x12 y0 y1 y2 y3 y4 y5 y6 y7 y8 y9 y10 y11 y12); obtain ⟨x0, x1, x2, x3, x4, x5, x6, x7, x8, x9, x10, x11, x12⟩ := C.out.x.all; obtain ⟨y0, y1, y2, y3, y4, y5, y6, y7, y8, y9, y10, y11, y12⟩ := C.out.y.all))
  go_ret
  exact ⟨rfl, C.out.bel⟩

set_option maxHeartbeats 4000000 in
theorem etan_long2 (f : Fr) (q : Fl) (o : Fr) (r : Fl) (A1 : Option Addr) (n1 c1 : Nat) (A2 : Option Addr) (n2 c2 : Nat) (w : World) (h : IsFr w f q) (h' : IsFr w o r) (hf : fewE f = true) (hf2 : fewE o = true) (h1 : n1 ≤ 100) (h2 : ¬ n2 ≤ 100) :
    Calls Try.prog 3 #[f.val q, o.val r, .slice A1 n1 c1, .slice A2 n2 c2] w fun e w' => e = .returned (.bool true) ∧ Below w.heap.size w w' := by
  have C := Lib.hid (TwF.made 31 w f o q r)
  have H := Lib.hid h.fw
  have HI := Lib.hid h
  have H2 := Lib.hid h'.fw
  have HI2 := Lib.hid h'
  have HF := Lib.hid hf
  have HF2 := Lib.hid hf2
  have j1 : ¬ (100 : Int) < (n1 : Int) := by omega
  have j2 : (100 : Int) < (n2 : Int) := by omega
  clear hf hf2 h1 h2
  clear h h'
  go_enter Try.func3, Try.ntmps3
  go_wp2_with (first
    | (go_at_call 4; (with_reducible refine (speaks22 _).mono ?_); rintro e wn ⟨rfl, hb⟩; replace C := Lib.hid (C.out.step hb); clear hb; (try clear x0 x1 x2 x3 x4 x5 x6 x7 x8 x9 x10 x11 x12 y0 y1 y2 y3 y4 y5 y6 y7 y8 y9 y10 y11 y12); obtain ⟨x0, x1, x2, x3, x4, x5, x6, x7, x8, x9, x10, x11, x12⟩ := C.out.x.all; obtain ⟨y0, y1, y2, y3, y4, y5, y6, y7, y8, y9, y10, y11, y12⟩ := C.out.y.all)
    | (go_at_call 5; (with_reducible refine (efew_any f q _ (fun _ => True) (H.out.on C.out.bel) HI.out.nt HI.out.td HI.out.no HI.out.od _ HF.out).mono ?_); rintro e wn ⟨rfl, hb⟩; replace C := Lib.hid (C.out.step hb); clear hb; (try clear x0 x1 x2 x3 x4 x5 x6 x7 x8 x9 x10 x11 x12 y0 y1 y2 y3 y4 y5 y6 y7 y8 y9 y10 y11 y12); obtain ⟨x0, x1, x2, x3, x4, x5, x6, x7, x8, x9, x10, x11, x12⟩ := C.out.x.all; obtain ⟨y0, y1, y2, y3, y4, y5, y6, y7, y8, y9, y10, y11, y12⟩ := C.out.y.all)
    | (go_at_call 5; (with_reducible refine (efew_any o r _ (fun _ => True) (H2.out.on C.out.bel) HI2.out.nt HI2.out.td HI2.out.no HI2.out.od _ HF2.out).mono ?_); rintro e wn ⟨rfl, hb⟩; replace C := Lib.hid (C.out.step hb); clear hb; (try clear x0 x1 x2 x3 x4 x5 x6 x7 x8 x9 x10 x11 x12 y0 y1 y2 y3 y4 y5 y6 y7 y8 y9 y10 y11 y12); obtain ⟨x0, x1, x2, x3, x4, x5, x6, x7, x8, x9, x10, x11, x12⟩ := C.out.x.all; obtain ⟨y0, y1, y2, y3, y4, y5, y6, y7, y8, y9, y10, y11, y12⟩ := C.out.y.all))
  go_ret
  exact ⟨rfl, C.out.bel⟩

theorem equal_z (a b : List Nat) (z : Bool) (hz : decide (a = b) = z) (n m : Nat) (A B : Option Addr) (c d : Nat) (w : World) (ha : Rd w w.heap.size A a) (hb : Rd w w.heap.size B b) (hn : a.length = n) (hm : b.length = m) (hA : By a) (hB : By b) (hl : n ≤ 1099511627776) :
    Calls Try.prog 8 #[.slice A n c, .slice B m d] w fun e w' => e = .returned (.bool z) ∧ Below w.heap.size w w' := hz ▸ equal_c a b n m A B c d w ha hb hn hm hl
/-- Answers, the codes as the law writes them. -/
theorem eans_lit (c d : Nat) (ci di : Int) (hci : (c : Int) = ci) (hdi : (d : Int) = di) (s u : Nat) (lx ly : List (Nat × List Nat)) (p1 p2 : Pk) (A B : Option Addr) (nt ct mt et : Nat) (pl ql : Pl) (w : World) (ha : FwF (fun _ => True) w ⟨c, s, lx, p1⟩ ⟨A, nt, ct, pl⟩) (hb : FwF (fun _ => True) w ⟨d, u, ly, p2⟩ ⟨B, mt, et, ql⟩) (hf : ByG lx) (ho : ByG ly) (hn : lx.length ≤ 274877906944) (hm : ly.length ≤ 274877906944) (hd : ∀ x ∈ lx, x.2.length ≤ 274877906944) (he : ∀ x ∈ ly, x.2.length ≤ 274877906944) (z : Bool) (hz : eansB ⟨c, s, lx, p1⟩ ⟨d, u, ly, p2⟩ = z) :
    Calls Try.prog 7 #[.agg #[.int .u8 ci, .int .u16 (s : Int), .slice A nt ct, .int .u16 (p1.proto : Int), .int .u8 (p1.code : Int), .int .u8 (p1.id : Int), .slice pl.ao pl.no pl.co, .int .u16 (p1.sub : Int), .int .u32 (p1.magic : Int), .slice pl.a1 pl.n1 pl.c1, .slice pl.a2 pl.n2 pl.c2, .slice pl.ad pl.nd pl.cd, .slice pl.an pl.nn pl.cn], .agg #[.int .u8 di, .int .u16 (u : Int), .slice B mt et, .int .u16 (p2.proto : Int), .int .u8 (p2.code : Int), .int .u8 (p2.id : Int), .slice ql.ao ql.no ql.co, .int .u16 (p2.sub : Int), .int .u32 (p2.magic : Int), .slice ql.a1 ql.n1 ql.c1, .slice ql.a2 ql.n2 ql.c2, .slice ql.ad ql.nd ql.cd, .slice ql.an ql.nn ql.cn]] w fun e w' => e = .returned (.bool z) ∧ Below w.heap.size w w' := by
  subst hci; subst hdi
  exact eans_any ⟨c, s, lx, p1⟩ ⟨d, u, ly, p2⟩ ⟨A, nt, ct, pl⟩ ⟨B, mt, et, ql⟩ w ha hb hf ho (by rw [← ha.lt]; exact hn) (by rw [← hb.lt]; exact hm) hd he z hz

end Go.Proofs.Ytmhjnghomihjlaa
