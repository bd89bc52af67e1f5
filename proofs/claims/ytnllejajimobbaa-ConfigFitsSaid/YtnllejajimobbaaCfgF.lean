
/-
  The walk of the statement ConfigFits. No condition beyond: numbers that Go's types have.
-/
import Derived.Test.YtnllejajimobbaaCfgS
namespace Go.Proofs.Ytnllejajimobbaa
open Go.RowKit

theorem fits_self (c : Cf) : fitsB c c = true ∨ withinB c.recv c.send = false := by
  cases h : withinB c.recv c.send
  · exact .inr rfl
  · left; simp [fitsB, folB, h]
theorem within_self (m : Nat) (hm : m < 4294967296) : withinB m m = true := (withinC_bit m m hm hm).2 fun _ h => h
theorem fits_same (c : Cf) (h : c.send < 4294967296) : fitsB c { c with recv := c.send } = true := by
  simp [fitsB, folB, within_self c.send h]
theorem fol_trans {p q r : Bool} (h : folB p q = true) (g : folB q r = true) : folB p r = true := by cases p <;> cases q <;> cases r <;> simp_all [folB]
theorem fits_trans {x y z : Cf} (h : fitsB x y = true) (g : fitsB y z = true) (k : (!x.sync && !withinB z.recv x.send) = false) : fitsB x z = true := by
  simp only [fitsB, Bool.and_eq_true, beq_iff_eq, decide_eq_true_eq] at h g ⊢
  obtain ⟨h1, h2, h3, h4, _, h6⟩ := h
  obtain ⟨g1, g2, g3, g4, _, g6⟩ := g
  refine ⟨h1.trans g1, h2.trans g2, fol_trans h3 g3, fol_trans h4 g4, ?_, Int.le_trans h6 g6⟩
  cases hs : x.sync <;> simp_all

theorem Bx.in0 {w : World} {c d e : Cf} {t u v : TypeId} {p : Nat} (h : w.heap.size = p) : Bx (((w.alloc (c.obj t)).alloc (d.obj u)).alloc (e.obj v)).drew p t c := by
  subst h
  exact Eq.trans (heap_alloc_old ((w.alloc (c.obj t)).alloc (d.obj u)) (e.obj v) (by simp; omega)) (heap_alloc2_old w _ _)
theorem Bx.in1 {w : World} {c d e : Cf} {t u v : TypeId} {p : Nat} (h : w.heap.size + 1 = p) : Bx (((w.alloc (c.obj t)).alloc (d.obj u)).alloc (e.obj v)).drew p u d := by
  subst h
  exact Eq.trans (heap_alloc_old ((w.alloc (c.obj t)).alloc (d.obj u)) (e.obj v) (by simp)) (heap_alloc2_new w _ _)
theorem Bx.in2 {w : World} {c d e : Cf} {t u v : TypeId} {p : Nat} (h : w.heap.size + 1 + 1 = p) : Bx (((w.alloc (c.obj t)).alloc (d.obj u)).alloc (e.obj v)).drew p v e := by
  subst h
  have h := heap_alloc_new ((w.alloc (c.obj t)).alloc (d.obj u)) (e.obj v)
  rw [World.size_alloc, World.size_alloc] at h
  exact h
theorem below_three (w : World) (o1 o2 o3 : Obj) : Below w.heap.size w (((w.alloc o1).alloc o2).alloc o3) := (below_two w o1 o2).alloc (by simp; omega) _

/-- Three configs in blocks of the call's own, in a world behind w0. -/
structure Tri (w0 W : World) (t : TypeId) (p q r : Nat) (a b c : Cf) : Prop where
  a : Bx W p t a
  b : Bx W q t b
  c : Bx W r t c
  bel : Below w0.heap.size w0 W
  lp : w0.heap.size ≤ p
  lq : w0.heap.size ≤ q
  lr : w0.heap.size ≤ r
  pq : p ≠ q
  pr : p ≠ r
  qr : q ≠ r
theorem Tri.step {w0 W W' : World} {t : TypeId} {p q r : Nat} {a b c : Cf} (h : Tri w0 W t p q r a b c) (hb : Below W.heap.size W W') : Tri w0 W' t p q r a b c :=
  ⟨h.a.below hb, h.b.below hb, h.c.below hb, h.bel.trans (hb.mono h.bel.size), h.lp, h.lq, h.lr, h.pq, h.pr, h.qr⟩
theorem Bx.fz {w : World} {b : Nat} {t : TypeId} {c : Cf} (h : Bx w b t c) (j : Nat) : w.frozen? ⟨b, j, none⟩ = false := frozen_of_row w b j _ _ h
theorem Bx.set5 {w : World} {b : Nat} {t : TypeId} {c : Cf} (h : Bx w b t c) (n : Nat) : Bx (w.setCell ⟨b, 5, none⟩ (.int .u32 (n : Int))) b t { c with recv := n } := heap_setCell_same w b 5 _ _ _ h
theorem Bx.set_off {w : World} {b g : Nat} {t : TypeId} {c : Cf} (h : Bx w b t c) (v : Value) (hg : b ≠ g) : Bx (w.setCell ⟨g, 5, none⟩ v) b t c := (heap_setCell_other w ⟨g, 5, none⟩ b v hg).trans h
theorem Tri.set {w0 W : World} {t : TypeId} {p q r : Nat} {a b c : Cf} (h : Tri w0 W t p q r a b c) (n : Nat) : Tri w0 (W.setCell ⟨q, 5, none⟩ (.int .u32 (n : Int))) t p q r a { b with recv := n } c :=
  ⟨h.a.set_off _ h.pq, h.b.set5 n, h.c.set_off _ (fun e => h.qr e.symm), h.bel.setCell h.lq _, h.lp, h.lq, h.lr, h.pq, h.pr, h.qr⟩
theorem flat3 {W : World} {t : TypeId} {w0 : World} {p q r : Nat} {a b c : Cf} (h : Tri w0 W t p q r a b c) : W.cell? ⟨p, 0, none⟩ = some (.bool a.sync) ∧ W.cell? ⟨p, 1, none⟩ = some (.bool a.wide) ∧ W.cell? ⟨p, 2, none⟩ = some (.bool a.acfc) ∧ W.cell? ⟨p, 3, none⟩ = some (.bool a.pfc) ∧ W.cell? ⟨p, 4, none⟩ = some (.int .u32 (a.send : Int)) ∧ W.cell? ⟨p, 5, none⟩ = some (.int .u32 (a.recv : Int)) ∧ W.cell? ⟨p, 6, none⟩ = some (.int .i64 a.mru) ∧ W.cell? ⟨q, 0, none⟩ = some (.bool b.sync) ∧ W.cell? ⟨q, 1, none⟩ = some (.bool b.wide) ∧ W.cell? ⟨q, 2, none⟩ = some (.bool b.acfc) ∧ W.cell? ⟨q, 3, none⟩ = some (.bool b.pfc) ∧ W.cell? ⟨q, 4, none⟩ = some (.int .u32 (b.send : Int)) ∧ W.cell? ⟨q, 5, none⟩ = some (.int .u32 (b.recv : Int)) ∧ W.cell? ⟨q, 6, none⟩ = some (.int .i64 b.mru) ∧ W.cell? ⟨r, 0, none⟩ = some (.bool c.sync) ∧ W.cell? ⟨r, 1, none⟩ = some (.bool c.wide) ∧ W.cell? ⟨r, 2, none⟩ = some (.bool c.acfc) ∧ W.cell? ⟨r, 3, none⟩ = some (.bool c.pfc) ∧ W.cell? ⟨r, 4, none⟩ = some (.int .u32 (c.send : Int)) ∧ W.cell? ⟨r, 5, none⟩ = some (.int .u32 (c.recv : Int)) ∧ W.cell? ⟨r, 6, none⟩ = some (.int .i64 c.mru) := by
  obtain ⟨x0, x1, x2, x3, x4, x5, x6⟩ := h.a.all
  obtain ⟨y0, y1, y2, y3, y4, y5, y6⟩ := h.b.all
  exact ⟨x0, x1, x2, x3, x4, x5, x6, y0, y1, y2, y3, y4, y5, y6, h.c.all⟩

set_option maxHeartbeats 6000000 in
theorem fits_walk (a b c : Cf) (ha : a.ok) (hb : b.ok) (hc : c.ok) (w : World) :
    Calls Try.prog 4 #[a.val, b.val, c.val] w fun e w' => e = .returned (.bool true) ∧ Below w.heap.size w w' := by
  have HA := Lib.hid ha
  have HB := Lib.hid hb
  have HC := Lib.hid hc
  clear ha hb hc
  go_enter Try.func4, Try.ntmps4
  go_wp2_with fail
  refine (speaks_any _).mono ?_
  rintro e w1 ⟨rfl, hB1⟩
  obtain ⟨q5, hq5⟩ : ∃ p, Hid (w.heap.size + 1 + 1 = p) := ⟨_, Lib.hid rfl⟩
  obtain ⟨q4, hq4⟩ : ∃ p, Hid (w.heap.size + 1 = p) := ⟨_, Lib.hid rfl⟩
  rw [hq5.out, hq4.out]
  have D0 : Tri w ((((w.alloc (a.obj 24)).alloc (b.obj 24)).alloc (c.obj 24)).drew) 24 w.heap.size q4 q5 a b c :=
    ⟨Bx.in0 rfl, Bx.in1 hq4.out, Bx.in2 hq5.out, (below_three _ _ _ _).drew, Nat.le_refl _, by have := hq4.out; omega, by have := hq5.out; omega, by have := hq4.out; omega, by have := hq5.out; omega, by have := hq5.out; have := hq4.out; omega⟩
  have D1 : Tri w (((w.alloc (a.obj 24)).alloc (b.obj 24)).alloc (c.obj 24)) 24 w.heap.size q4 q5 a b c :=
    ⟨D0.a, D0.b, D0.c, below_three _ _ _ _, D0.lp, D0.lq, D0.lr, D0.pq, D0.pr, D0.qr⟩
  have D := D1.step hB1
  clear hq4 hq5 D0 D1 hB1
  have G := flat3 D
  obtain ⟨u0, u1, u2, u3, u4, u5, u6, u7, u8, u9, u10, u11, u12, u13, u14, u15, u16, u17, u18, u19, u20⟩ := G
  by_cases hma : a.may
  case neg =>
    have hz5 := Lib.hid (chk_not hma)
    go_wp2_with fail
    refine (rcheck_any a _).mono ?_
    rintro e w5 ⟨rfl, hb5⟩
    rw [hz5.out]
    have hB := (D.step hb5).bel
    clear hb5 D
    go_wp2_with fail
    refine (speaks_any _).mono ?_
    rintro e w6 ⟨rfl, hb6⟩
    have hB6 := hB.trans (hb6.mono hB.size)
    clear hb6 hB
    go_wp2_with fail
    go_ret
    exact ⟨rfl, hB6⟩
  have hza := Lib.hid (chk_may hma)
  go_wp2_with fail
  refine (rcheck_any a _).mono ?_
  rintro e wa ⟨rfl, hbn⟩
  rw [hza.out]
  replace D := D.step hbn
  have G := flat3 D
  clear hbn u0 u1 u2 u3 u4 u5 u6 u7 u8 u9 u10 u11 u12 u13 u14 u15 u16 u17 u18 u19 u20
  obtain ⟨u0, u1, u2, u3, u4, u5, u6, u7, u8, u9, u10, u11, u12, u13, u14, u15, u16, u17, u18, u19, u20⟩ := G
  by_cases hmb : b.may
  case neg =>
    have hz5 := Lib.hid (chk_not hmb)
    go_wp2_with fail
    refine (rcheck_any b _).mono ?_
    rintro e w5 ⟨rfl, hb5⟩
    rw [hz5.out]
    have hB := (D.step hb5).bel
    clear hb5 D
    go_wp2_with fail
    refine (speaks_any _).mono ?_
    rintro e w6 ⟨rfl, hb6⟩
    have hB6 := hB.trans (hb6.mono hB.size)
    clear hb6 hB
    go_wp2_with fail
    go_ret
    exact ⟨rfl, hB6⟩
  have hzb := Lib.hid (chk_may hmb)
  go_wp2_with fail
  refine (rcheck_any b _).mono ?_
  rintro e wb ⟨rfl, hbn⟩
  rw [hzb.out]
  replace D := D.step hbn
  have G := flat3 D
  clear hbn u0 u1 u2 u3 u4 u5 u6 u7 u8 u9 u10 u11 u12 u13 u14 u15 u16 u17 u18 u19 u20
  obtain ⟨u0, u1, u2, u3, u4, u5, u6, u7, u8, u9, u10, u11, u12, u13, u14, u15, u16, u17, u18, u19, u20⟩ := G
  by_cases hmc : c.may
  case neg =>
    have hz5 := Lib.hid (chk_not hmc)
    go_wp2_with fail
    refine (rcheck_any c _).mono ?_
    rintro e w5 ⟨rfl, hb5⟩
    rw [hz5.out]
    have hB := (D.step hb5).bel
    clear hb5 D
    go_wp2_with fail
    refine (speaks_any _).mono ?_
    rintro e w6 ⟨rfl, hb6⟩
    have hB6 := hB.trans (hb6.mono hB.size)
    clear hb6 hB
    go_wp2_with fail
    go_ret
    exact ⟨rfl, hB6⟩
  have hzc := Lib.hid (chk_may hmc)
  go_wp2_with fail
  refine (rcheck_any c _).mono ?_
  rintro e w2 ⟨rfl, hbn⟩
  rw [hzc.out]
  replace D := D.step hbn
  have G := flat3 D
  clear hbn u0 u1 u2 u3 u4 u5 u6 u7 u8 u9 u10 u11 u12 u13 u14 u15 u16 u17 u18 u19 u20
  obtain ⟨u0, u1, u2, u3, u4, u5, u6, u7, u8, u9, u10, u11, u12, u13, u14, u15, u16, u17, u18, u19, u20⟩ := G
  have l0 : w.heap.size < w2.heap.size := D.a.lt
  have l1 : q4 < w2.heap.size := D.b.lt
  have l2 : q5 < w2.heap.size := D.c.lt
  have l3 : w.heap.size < w2.heap.size + 1 := by omega
  have l4 : q4 < w2.heap.size + 1 := by omega
  have l5 : q5 < w2.heap.size + 1 := by omega
  have l6 : w.heap.size < w2.heap.size + 1 + 1 := by omega
  have l7 : q4 < w2.heap.size + 1 + 1 := by omega
  have l8 : q5 < w2.heap.size + 1 + 1 := by omega
  clear hma hmb hmc
  go_wp2_with fail
  go_region
  all_goals
    clear u0 u1 u2 u3 u4 u5 u6 u7 u8 u9 u10 u11 u12 u13 u14 u15 u16 u17 u18 u19 u20 l0 l1 l2 l3 l4 l5 l6 l7 l8
    first
      | (obtain ⟨p9, hp9⟩ : ∃ p, Hid (w2.heap.size + 1 + 1 = p) := ⟨_, Lib.hid rfl⟩
         obtain ⟨p8, hp8⟩ : ∃ p, Hid (w2.heap.size + 1 = p) := ⟨_, Lib.hid rfl⟩
         obtain ⟨p7, hp7⟩ : ∃ p, Hid (w2.heap.size = p) := ⟨_, Lib.hid rfl⟩
         rw [hp9.out, hp8.out, hp7.out]
         refine at_world (fun W => Tri w W 26 p7 p8 p9 a b c) ⟨Bx.in0 hp7.out, Bx.in1 hp8.out, Bx.in2 hp9.out, D.bel.trans ((below_three _ _ _ _).drew.mono D.bel.size), by have := D.bel.size; have := hp7.out; omega, by have := D.bel.size; have := hp8.out; omega, by have := D.bel.size; have := hp9.out; omega, by have := hp7.out; have := hp8.out; omega, by have := hp7.out; have := hp9.out; omega, by have := hp8.out; have := hp9.out; omega⟩ ?_
         clear hp7 hp8 hp9)
      | (obtain ⟨p8, hp8⟩ : ∃ p, Hid (w2.heap.size + 1 + 1 = p) := ⟨_, Lib.hid rfl⟩
         obtain ⟨p9, hp9⟩ : ∃ p, Hid (w2.heap.size + 1 = p) := ⟨_, Lib.hid rfl⟩
         obtain ⟨p7, hp7⟩ : ∃ p, Hid (w2.heap.size = p) := ⟨_, Lib.hid rfl⟩
         rw [hp8.out, hp9.out, hp7.out]
         refine at_world (fun W => Tri w W 26 p7 p8 p9 a b c) ⟨Bx.in0 hp7.out, Bx.in2 hp8.out, Bx.in1 hp9.out, D.bel.trans ((below_three _ _ _ _).drew.mono D.bel.size), by have := D.bel.size; have := hp7.out; omega, by have := D.bel.size; have := hp8.out; omega, by have := D.bel.size; have := hp9.out; omega, by have := hp7.out; have := hp8.out; omega, by have := hp7.out; have := hp9.out; omega, by have := hp8.out; have := hp9.out; omega⟩ ?_
         clear hp7 hp8 hp9)
      | (obtain ⟨p9, hp9⟩ : ∃ p, Hid (w2.heap.size + 1 + 1 = p) := ⟨_, Lib.hid rfl⟩
         obtain ⟨p7, hp7⟩ : ∃ p, Hid (w2.heap.size + 1 = p) := ⟨_, Lib.hid rfl⟩
         obtain ⟨p8, hp8⟩ : ∃ p, Hid (w2.heap.size = p) := ⟨_, Lib.hid rfl⟩
         rw [hp9.out, hp7.out, hp8.out]
         refine at_world (fun W => Tri w W 26 p7 p8 p9 a b c) ⟨Bx.in1 hp7.out, Bx.in0 hp8.out, Bx.in2 hp9.out, D.bel.trans ((below_three _ _ _ _).drew.mono D.bel.size), by have := D.bel.size; have := hp7.out; omega, by have := D.bel.size; have := hp8.out; omega, by have := D.bel.size; have := hp9.out; omega, by have := hp7.out; have := hp8.out; omega, by have := hp7.out; have := hp9.out; omega, by have := hp8.out; have := hp9.out; omega⟩ ?_
         clear hp7 hp8 hp9)
      | (obtain ⟨p8, hp8⟩ : ∃ p, Hid (w2.heap.size + 1 + 1 = p) := ⟨_, Lib.hid rfl⟩
         obtain ⟨p7, hp7⟩ : ∃ p, Hid (w2.heap.size + 1 = p) := ⟨_, Lib.hid rfl⟩
         obtain ⟨p9, hp9⟩ : ∃ p, Hid (w2.heap.size = p) := ⟨_, Lib.hid rfl⟩
         rw [hp8.out, hp7.out, hp9.out]
         refine at_world (fun W => Tri w W 26 p7 p8 p9 a b c) ⟨Bx.in1 hp7.out, Bx.in2 hp8.out, Bx.in0 hp9.out, D.bel.trans ((below_three _ _ _ _).drew.mono D.bel.size), by have := D.bel.size; have := hp7.out; omega, by have := D.bel.size; have := hp8.out; omega, by have := D.bel.size; have := hp9.out; omega, by have := hp7.out; have := hp8.out; omega, by have := hp7.out; have := hp9.out; omega, by have := hp8.out; have := hp9.out; omega⟩ ?_
         clear hp7 hp8 hp9)
      | (obtain ⟨p7, hp7⟩ : ∃ p, Hid (w2.heap.size + 1 + 1 = p) := ⟨_, Lib.hid rfl⟩
         obtain ⟨p9, hp9⟩ : ∃ p, Hid (w2.heap.size + 1 = p) := ⟨_, Lib.hid rfl⟩
         obtain ⟨p8, hp8⟩ : ∃ p, Hid (w2.heap.size = p) := ⟨_, Lib.hid rfl⟩
         rw [hp7.out, hp9.out, hp8.out]
         refine at_world (fun W => Tri w W 26 p7 p8 p9 a b c) ⟨Bx.in2 hp7.out, Bx.in0 hp8.out, Bx.in1 hp9.out, D.bel.trans ((below_three _ _ _ _).drew.mono D.bel.size), by have := D.bel.size; have := hp7.out; omega, by have := D.bel.size; have := hp8.out; omega, by have := D.bel.size; have := hp9.out; omega, by have := hp7.out; have := hp8.out; omega, by have := hp7.out; have := hp9.out; omega, by have := hp8.out; have := hp9.out; omega⟩ ?_
         clear hp7 hp8 hp9)
      | (obtain ⟨p7, hp7⟩ : ∃ p, Hid (w2.heap.size + 1 + 1 = p) := ⟨_, Lib.hid rfl⟩
         obtain ⟨p8, hp8⟩ : ∃ p, Hid (w2.heap.size + 1 = p) := ⟨_, Lib.hid rfl⟩
         obtain ⟨p9, hp9⟩ : ∃ p, Hid (w2.heap.size = p) := ⟨_, Lib.hid rfl⟩
         rw [hp7.out, hp8.out, hp9.out]
         refine at_world (fun W => Tri w W 26 p7 p8 p9 a b c) ⟨Bx.in2 hp7.out, Bx.in1 hp8.out, Bx.in0 hp9.out, D.bel.trans ((below_three _ _ _ _).drew.mono D.bel.size), by have := D.bel.size; have := hp7.out; omega, by have := D.bel.size; have := hp8.out; omega, by have := D.bel.size; have := hp9.out; omega, by have := hp7.out; have := hp8.out; omega, by have := hp7.out; have := hp9.out; omega, by have := hp8.out; have := hp9.out; omega⟩ ?_
         clear hp7 hp8 hp9)
    clear D
    intro w3 C
  all_goals
    go_wp2_with fail
    refine (default_any _).mono ?_
    rintro e w4 ⟨rfl, hb4⟩
    replace C := C.step hb4
    clear hb4
    go_wp2_with fail
    refine (check_any ⟨false, false, false, false, 4294967295, 4294967295, 1500⟩ _).mono ?_
    rintro e w5 ⟨rfl, hb5⟩
    rw [show chk (Cf.mru ⟨false, false, false, false, 4294967295, 4294967295, 1500⟩) = 0 from rfl]
    replace C := C.step hb5
    clear hb5
    go_wp2_with fail
    refine (default_any _).mono ?_
    rintro e w6 ⟨rfl, hb6⟩
    replace C := C.step hb6
    clear hb6
    go_wp2_with fail
    refine (default_any _).mono ?_
    rintro e w7 ⟨rfl, hb7⟩
    replace C := C.step hb7
    clear hb7
    go_wp2_with fail
    refine (fits_any ⟨false, false, false, false, 4294967295, 4294967295, 1500⟩ ⟨false, false, false, false, 4294967295, 4294967295, 1500⟩ (by decide) (by decide) _).mono ?_
    rintro e w8 ⟨rfl, hb8⟩
    rw [show fitsB ⟨false, false, false, false, 4294967295, 4294967295, 1500⟩ ⟨false, false, false, false, 4294967295, 4294967295, 1500⟩ = true from by decide]
    replace C := C.step hb8
    clear hb8
    have k7 := C.a.lt
    have k8 := C.b.lt
    have k9 := C.c.lt
    have G := flat3 C
    obtain ⟨u0, u1, u2, u3, u4, u5, u6, u7, u8, u9, u10, u11, u12, u13, u14, u15, u16, u17, u18, u19, u20⟩ := G
    go_wp2_with fail
    refine (fits_any a { a with recv := a.send } HA.out.s HA.out.s _).mono ?_
    rintro e w9 ⟨rfl, hb9⟩
    rw [fits_same a HA.out.s]
    replace C := (C.step ((Below.refl _ _).alloc (Nat.le_refl _) (Cf.obj { a with recv := a.send } 26))).step hb9
    clear hb9 k7 k8 k9
    have hfz := C.b.fz 5
    have G := flat3 C
    clear u0 u1 u2 u3 u4 u5 u6 u7 u8 u9 u10 u11 u12 u13 u14 u15 u16 u17 u18 u19 u20
    obtain ⟨u0, u1, u2, u3, u4, u5, u6, u7, u8, u9, u10, u11, u12, u13, u14, u15, u16, u17, u18, u19, u20⟩ := G
    have n78 : ¬ p7 = p8 := C.pq
    have n98 : ¬ p9 = p8 := fun e => C.qr e.symm
    obtain ⟨f1, hf1⟩ : ∃ f, Hid (fitsB a { b with recv := b.send } = f) := ⟨_, Lib.hid rfl⟩
    obtain ⟨f2, hf2⟩ : ∃ f, Hid (fitsB { b with recv := b.send } c = f) := ⟨_, Lib.hid rfl⟩
    obtain ⟨g, hg⟩ : ∃ g, Hid ((!a.sync && !withinB c.recv a.send) = g) := ⟨_, Lib.hid rfl⟩
    obtain ⟨f3, hf3⟩ : ∃ f, Hid (fitsB a c = f) := ⟨_, Lib.hid rfl⟩
    have HH := Lib.hid (show f1 = true → f2 = true → g = false → f3 = true by
      rw [← hf1.out, ← hf2.out, ← hg.out, ← hf3.out]
      exact fun h1 h2 h3 => fits_trans h1 h2 h3)
    go_wp2_with fail
    refine (fits_any a { b with recv := b.send } HA.out.s HB.out.s _).mono ?_
    rintro e w11 ⟨rfl, hbn⟩
    rw [hf1.out]
    replace C := (C.set b.send).step hbn
    clear hbn hfz n78 n98
    have G := flat3 C
    clear u0 u1 u2 u3 u4 u5 u6 u7 u8 u9 u10 u11 u12 u13 u14 u15 u16 u17 u18 u19 u20
    obtain ⟨u0, u1, u2, u3, u4, u5, u6, u7, u8, u9, u10, u11, u12, u13, u14, u15, u16, u17, u18, u19, u20⟩ := G
    cases f1
    case' false =>
      have hB := C.bel
      clear C HH
      go_wp2_with fail
      go_ret
      exact ⟨rfl, hB⟩
    go_wp2_with fail
    refine (fits_any { b with recv := b.send } c HB.out.s HC.out.r _).mono ?_
    rintro e w12 ⟨rfl, hbn⟩
    rw [hf2.out]
    replace C := C.step hbn
    clear hbn
    have G := flat3 C
    clear u0 u1 u2 u3 u4 u5 u6 u7 u8 u9 u10 u11 u12 u13 u14 u15 u16 u17 u18 u19 u20
    obtain ⟨u0, u1, u2, u3, u4, u5, u6, u7, u8, u9, u10, u11, u12, u13, u14, u15, u16, u17, u18, u19, u20⟩ := G
    cases f2
    case' false =>
      have hB := C.bel
      clear C HH
      go_wp2_with fail
      go_ret
      exact ⟨rfl, hB⟩
    go_wp2_with fail
    refine (lfits_any a c HA.out.s HC.out.r _).mono ?_
    rintro e w13 ⟨rfl, hbn⟩
    rw [hg.out]
    replace C := C.step hbn
    clear hbn
    have G := flat3 C
    clear u0 u1 u2 u3 u4 u5 u6 u7 u8 u9 u10 u11 u12 u13 u14 u15 u16 u17 u18 u19 u20
    obtain ⟨u0, u1, u2, u3, u4, u5, u6, u7, u8, u9, u10, u11, u12, u13, u14, u15, u16, u17, u18, u19, u20⟩ := G
    cases g
    case' true =>
      have hB := C.bel
      clear C HH
      go_wp2_with fail
      go_ret
      exact ⟨rfl, hB⟩
    have h3 : f3 = true := by simpa using HH.out
    subst h3
    go_wp2_with fail
    refine (fits_any a c HA.out.s HC.out.r _).mono ?_
    rintro e w14 ⟨rfl, hbn⟩
    rw [hf3.out]
    have hB := (C.step hbn).bel
    clear hbn C HH u0 u1 u2 u3 u4 u5 u6 u7 u8 u9 u10 u11 u12 u13 u14 u15 u16 u17 u18 u19 u20
    go_wp2_with fail
    go_ret
    exact ⟨rfl, hB⟩
end Go.Proofs.Ytnllejajimobbaa
