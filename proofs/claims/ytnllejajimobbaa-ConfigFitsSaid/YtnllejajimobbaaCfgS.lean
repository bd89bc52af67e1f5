
/-
  The example of the document for layer 8; what hinders but the maps; a config in a variable of the law's. No condition.
-/
import Derived.Test.YtnllejajimobbaaCfg
import Derived.Deep.RegionHeld3
namespace Go.Proofs.Ytnllejajimobbaa
open Go.RowKit

set_option maxHeartbeats 400000 in
theorem lfits_any (x z : Cf) (hx : x.send < 4294967296) (hz : z.recv < 4294967296) (w : World) :
    Calls Try.prog 13 #[x.val, z.val] w fun e w' => e = .returned (.bool (!x.sync && !withinB z.recv x.send)) ∧ Below w.heap.size w w' := by
  have W := Lib.hid (show (bits .andNot .u32 (z.recv : Int) (x.send : Int) != 0) = !withinB z.recv x.send by
    rw [u32_andNot_nat z.recv x.send hz hx, withinB, Bool.eq_iff_iff]
    simp)
  go_enter Try.func13, Try.ntmps13
  go_wp2
  all_goals
    go_ret
    refine ⟨?_, below_two _ _ _⟩
    show Ending.returned (.bool _) = _
    have W' := W.out
    clear W
    congr 2
    simp_all

set_option maxHeartbeats 400000 in
theorem speaks_any (w : World) : Calls Try.prog 5 #[] w fun e w' => e = .returned (.bool true) ∧ Below w.heap.size w w' := by
  go_enter Try.func5, Try.ntmps5
  go_wp2_with fail
  refine (default_any _).mono ?_
  rintro e w1 ⟨rfl, hB1⟩
  go_wp2_with fail
  refine (most_any ⟨false, false, false, false, 4294967295, 4294967295, 1500⟩ ⟨by decide, by decide⟩ _).mono ?_
  rintro e w2 ⟨rfl, hB2⟩
  have hB := hB1.trans (hB2.mono hB1.size)
  clear hB1 hB2
  go_wp2_with fail
  go_ret
  exact ⟨rfl, hB⟩

/-- A config lies at block b. -/
def Bx (w : World) (b : Nat) (t : TypeId) (c : Cf) : Prop := w.heap[b]? = some (.cells #[.bool c.sync, .bool c.wide, .bool c.acfc, .bool c.pfc, .int .u32 (c.send : Int), .int .u32 (c.recv : Int), .int .i64 c.mru] t (0, 0))
theorem Bx.lt {w : World} {b : Nat} {t : TypeId} {c : Cf} (h : Bx w b t c) : b < w.heap.size := (Array.getElem?_eq_some_iff.1 h).1
/-- Its cells. -/
abbrev Bc (w : World) (b : Nat) (c : Cf) : Prop := w.cell? ⟨b, 0, none⟩ = some (.bool c.sync) ∧ w.cell? ⟨b, 1, none⟩ = some (.bool c.wide) ∧ w.cell? ⟨b, 2, none⟩ = some (.bool c.acfc) ∧ w.cell? ⟨b, 3, none⟩ = some (.bool c.pfc) ∧ w.cell? ⟨b, 4, none⟩ = some (.int .u32 (c.send : Int)) ∧ w.cell? ⟨b, 5, none⟩ = some (.int .u32 (c.recv : Int)) ∧ w.cell? ⟨b, 6, none⟩ = some (.int .i64 c.mru)
theorem Bx.all {w : World} {b : Nat} {t : TypeId} {c : Cf} (h : Bx w b t c) : Bc w b c := by
  refine ⟨?_, ?_, ?_, ?_, ?_, ?_, ?_⟩ <;> (rw [cell_of_row w b _ _ _ _ h]; rfl)
theorem Bx.below {w w' : World} {b : Nat} {t : TypeId} {c : Cf} (h : Bx w b t c) (hb : Below w.heap.size w w') : Bx w' b t c := (hb.block b h.lt).trans h

/-- A walk goes on in a world of which a few things alone are known. -/
theorem at_world {F : Act → World → Prop} {x : Act} {W : World} (R : World → Prop) (C : R W) (h : ∀ W', R W' → F x W') : F x W := h W C
abbrev Cf.obj (c : Cf) (t : TypeId) : Obj := .cells #[.bool c.sync, .bool c.wide, .bool c.acfc, .bool c.pfc, .int .u32 (c.send : Int), .int .u32 (c.recv : Int), .int .i64 c.mru] t (0, 0)

/-- The law's four variables, in a world behind w0. -/
structure Cur (w0 W : World) (b1 b2 p5 p6 : Nat) (a b : Cf) : Prop where
  a1 : Bx W b1 24 a
  b1 : Bx W b2 24 b
  a2 : Bx W p5 26 a
  b2 : Bx W p6 26 b
  bel : Below w0.heap.size w0 W
theorem Cur.step {w0 W W' : World} {b1 b2 p5 p6 : Nat} {a b : Cf} (h : Cur w0 W b1 b2 p5 p6 a b) (hb : Below W.heap.size W W') : Cur w0 W' b1 b2 p5 p6 a b :=
  ⟨h.a1.below hb, h.b1.below hb, h.a2.below hb, h.b2.below hb, h.bel.trans (hb.mono h.bel.size)⟩
theorem Cur.drew {w0 W : World} {b1 b2 p5 p6 : Nat} {a b : Cf} (h : Cur w0 W b1 b2 p5 p6 a b) : Cur w0 W.drew b1 b2 p5 p6 a b := ⟨h.a1, h.b1, h.a2, h.b2, h.bel.drew⟩

theorem flat2 {W : World} {b1 b2 : Nat} {t u : TypeId} {a b : Cf} (h : Bx W b1 t a) (g : Bx W b2 u b) : W.cell? ⟨b1, 0, none⟩ = some (.bool a.sync) ∧ W.cell? ⟨b1, 1, none⟩ = some (.bool a.wide) ∧ W.cell? ⟨b1, 2, none⟩ = some (.bool a.acfc) ∧ W.cell? ⟨b1, 3, none⟩ = some (.bool a.pfc) ∧ W.cell? ⟨b1, 4, none⟩ = some (.int .u32 (a.send : Int)) ∧ W.cell? ⟨b1, 5, none⟩ = some (.int .u32 (a.recv : Int)) ∧ W.cell? ⟨b1, 6, none⟩ = some (.int .i64 a.mru) ∧ W.cell? ⟨b2, 0, none⟩ = some (.bool b.sync) ∧ W.cell? ⟨b2, 1, none⟩ = some (.bool b.wide) ∧ W.cell? ⟨b2, 2, none⟩ = some (.bool b.acfc) ∧ W.cell? ⟨b2, 3, none⟩ = some (.bool b.pfc) ∧ W.cell? ⟨b2, 4, none⟩ = some (.int .u32 (b.send : Int)) ∧ W.cell? ⟨b2, 5, none⟩ = some (.int .u32 (b.recv : Int)) ∧ W.cell? ⟨b2, 6, none⟩ = some (.int .i64 b.mru) := by
  obtain ⟨x0, x1, x2, x3, x4, x5, x6⟩ := h.all
  exact ⟨x0, x1, x2, x3, x4, x5, x6, g.all⟩
theorem Cur.step' {w0 W X W' : World} {b1 b2 p5 p6 : Nat} {a b : Cf} (h : Cur w0 W b1 b2 p5 p6 a b) (hb : Below X.heap.size X W') (hX : Below W.heap.size W X := by first | exact Below.refl _ _ | exact (Below.refl _ _).drew) : Cur w0 W' b1 b2 p5 p6 a b :=
  (h.step hX).step hb
theorem flat4 {W : World} {b1 b2 b3 b4 : Nat} {t u v x : TypeId} {a b c d : Cf} (h1 : Bx W b1 t a) (h2 : Bx W b2 u b) (h3 : Bx W b3 v c) (h4 : Bx W b4 x d) : W.cell? ⟨b1, 0, none⟩ = some (.bool a.sync) ∧ W.cell? ⟨b1, 1, none⟩ = some (.bool a.wide) ∧ W.cell? ⟨b1, 2, none⟩ = some (.bool a.acfc) ∧ W.cell? ⟨b1, 3, none⟩ = some (.bool a.pfc) ∧ W.cell? ⟨b1, 4, none⟩ = some (.int .u32 (a.send : Int)) ∧ W.cell? ⟨b1, 5, none⟩ = some (.int .u32 (a.recv : Int)) ∧ W.cell? ⟨b1, 6, none⟩ = some (.int .i64 a.mru) ∧ W.cell? ⟨b2, 0, none⟩ = some (.bool b.sync) ∧ W.cell? ⟨b2, 1, none⟩ = some (.bool b.wide) ∧ W.cell? ⟨b2, 2, none⟩ = some (.bool b.acfc) ∧ W.cell? ⟨b2, 3, none⟩ = some (.bool b.pfc) ∧ W.cell? ⟨b2, 4, none⟩ = some (.int .u32 (b.send : Int)) ∧ W.cell? ⟨b2, 5, none⟩ = some (.int .u32 (b.recv : Int)) ∧ W.cell? ⟨b2, 6, none⟩ = some (.int .i64 b.mru) ∧ W.cell? ⟨b3, 0, none⟩ = some (.bool c.sync) ∧ W.cell? ⟨b3, 1, none⟩ = some (.bool c.wide) ∧ W.cell? ⟨b3, 2, none⟩ = some (.bool c.acfc) ∧ W.cell? ⟨b3, 3, none⟩ = some (.bool c.pfc) ∧ W.cell? ⟨b3, 4, none⟩ = some (.int .u32 (c.send : Int)) ∧ W.cell? ⟨b3, 5, none⟩ = some (.int .u32 (c.recv : Int)) ∧ W.cell? ⟨b3, 6, none⟩ = some (.int .i64 c.mru) ∧ W.cell? ⟨b4, 0, none⟩ = some (.bool d.sync) ∧ W.cell? ⟨b4, 1, none⟩ = some (.bool d.wide) ∧ W.cell? ⟨b4, 2, none⟩ = some (.bool d.acfc) ∧ W.cell? ⟨b4, 3, none⟩ = some (.bool d.pfc) ∧ W.cell? ⟨b4, 4, none⟩ = some (.int .u32 (d.send : Int)) ∧ W.cell? ⟨b4, 5, none⟩ = some (.int .u32 (d.recv : Int)) ∧ W.cell? ⟨b4, 6, none⟩ = some (.int .i64 d.mru) := by
  obtain ⟨x0, x1, x2, x3, x4, x5, x6⟩ := h1.all
  obtain ⟨y0, y1, y2, y3, y4, y5, y6⟩ := h2.all
  obtain ⟨z0, z1, z2, z3, z4, z5, z6⟩ := h3.all
  exact ⟨x0, x1, x2, x3, x4, x5, x6, y0, y1, y2, y3, y4, y5, y6, z0, z1, z2, z3, z4, z5, z6, h4.all⟩
theorem Cur.new1 {w0 w1 : World} {b1 b2 p5 p6 : Nat} {a b : Cf} (h1 : Bx w1 b1 24 a) (h2 : Bx w1 b2 24 b) (hb : Below w0.heap.size w0 w1) (h5 : w1.heap.size = p5) (h6 : w1.heap.size + 1 = p6) :
    Cur w0 ((w1.alloc (a.obj 26)).alloc (b.obj 26)).drew b1 b2 p5 p6 a b :=
  ⟨h1.below (below_two _ _ _).drew, h2.below (below_two _ _ _).drew, h5 ▸ heap_alloc2_old w1 _ _, h6 ▸ heap_alloc2_new w1 _ _, hb.trans ((below_two _ _ _).drew.mono hb.size)⟩
theorem Cur.new2 {w0 w1 : World} {b1 b2 p5 p6 : Nat} {a b : Cf} (h1 : Bx w1 b1 24 a) (h2 : Bx w1 b2 24 b) (hb : Below w0.heap.size w0 w1) (h5 : w1.heap.size = p5) (h6 : w1.heap.size + 1 = p6) :
    Cur w0 ((w1.alloc (b.obj 26)).alloc (a.obj 26)).drew b1 b2 p6 p5 a b :=
  ⟨h1.below (below_two _ _ _).drew, h2.below (below_two _ _ _).drew, h6 ▸ heap_alloc2_new w1 _ _, h5 ▸ heap_alloc2_old w1 _ _, hb.trans ((below_two _ _ _).drew.mono hb.size)⟩

set_option maxHeartbeats 1000000 in
theorem tells_walk (a b : Cf) (ha : a.ok) (hb : b.ok) (w : World) :
    Calls Try.prog 3 #[a.val, b.val] w fun e w' => e = .returned (.bool true) ∧ Below w.heap.size w w' := by
  have HA := Lib.hid ha
  have HB := Lib.hid hb
  clear ha hb
  go_enter Try.func3, Try.ntmps3
  go_wp2_with fail
  refine (speaks_any _).mono ?_
  rintro e w1 ⟨rfl, hB1⟩
  have a1 : Bx w1 w.heap.size 24 a := (hB1.block _ (by simp; omega)).trans (heap_alloc2_old _ _ _)
  have b1 : Bx w1 (w.heap.size + 1) 24 b := (hB1.block _ (by simp)).trans (heap_alloc2_new _ _ _)
  have hB : Below w.heap.size w w1 := (below_two _ _ _).trans (hB1.mono (by simp; omega))
  have A1 := Lib.hid a1
  have B1 := Lib.hid b1
  have hsz := Lib.hid hB1.size
  clear hB1
  clear a1 b1
  have n0 : w.heap.size < w1.heap.size := by have := B1.out.lt; omega
  have n2 : w.heap.size < w1.heap.size + 1 := by have := B1.out.lt; omega
  obtain ⟨q, hq⟩ : ∃ q, Hid (w.heap.size + 1 = q) := ⟨_, Lib.hid rfl⟩
  rw [hq.out] at B1 ⊢
  have n1 : q < w1.heap.size := by have := B1.out.lt; omega
  have n3 : q < w1.heap.size + 1 := by have := B1.out.lt; omega
  obtain ⟨x0, x1, x2, x3, x4, x5, x6⟩ := A1.out.all
  obtain ⟨y0, y1, y2, y3, y4, y5, y6⟩ := B1.out.all
  go_wp2_with fail
  go_region
  all_goals
    clear x0 x1 x2 x3 x4 x5 x6 y0 y1 y2 y3 y4 y5 y6 n0 n1 n2 n3
    first
      | (obtain ⟨p6, hp6⟩ : ∃ p, Hid (w1.heap.size + 1 = p) := ⟨_, Lib.hid rfl⟩
         obtain ⟨p5, hp5⟩ : ∃ p, Hid (w1.heap.size = p) := ⟨_, Lib.hid rfl⟩
         rw [hp6.out, hp5.out]
         refine at_world (fun W => Cur w W w.heap.size q p5 p6 a b) (Cur.new1 A1.out B1.out hB hp5.out hp6.out) ?_
         clear A1 B1 hp5 hp6 hB hsz
         intro w2 C)
      | (obtain ⟨p5, hp5⟩ : ∃ p, Hid (w1.heap.size + 1 = p) := ⟨_, Lib.hid rfl⟩
         obtain ⟨p6, hp6⟩ : ∃ p, Hid (w1.heap.size = p) := ⟨_, Lib.hid rfl⟩
         rw [hp5.out, hp6.out]
         refine at_world (fun W => Cur w W w.heap.size q p5 p6 a b) (Cur.new2 A1.out B1.out hB hp6.out hp5.out) ?_
         clear A1 B1 hp5 hp6 hB hsz
         intro w2 C)
  all_goals
    have hsz0 := Lib.hid C.bel.size
    obtain ⟨z, hz⟩ : ∃ z, Hid (chk a.mru = z) := ⟨_, Lib.hid rfl⟩
    have hzz : (z != z) = false := by simp
    go_wp2_with fail
    have F := flat2 C.a1 C.a2
    obtain ⟨u0, u1, u2, u3, u4, u5, u6, u7, u8, u9, u10, u11, u12, u13⟩ := F
    go_region_held3 (fun W => W.cell? ⟨w.heap.size, 0, none⟩ = some (.bool a.sync) ∧ W.cell? ⟨w.heap.size, 1, none⟩ = some (.bool a.wide) ∧ W.cell? ⟨w.heap.size, 2, none⟩ = some (.bool a.acfc) ∧ W.cell? ⟨w.heap.size, 3, none⟩ = some (.bool a.pfc) ∧ W.cell? ⟨w.heap.size, 4, none⟩ = some (.int .u32 (a.send : Int)) ∧ W.cell? ⟨w.heap.size, 5, none⟩ = some (.int .u32 (a.recv : Int)) ∧ W.cell? ⟨w.heap.size, 6, none⟩ = some (.int .i64 a.mru) ∧ W.cell? ⟨p5, 0, none⟩ = some (.bool a.sync) ∧ W.cell? ⟨p5, 1, none⟩ = some (.bool a.wide) ∧ W.cell? ⟨p5, 2, none⟩ = some (.bool a.acfc) ∧ W.cell? ⟨p5, 3, none⟩ = some (.bool a.pfc) ∧ W.cell? ⟨p5, 4, none⟩ = some (.int .u32 (a.send : Int)) ∧ W.cell? ⟨p5, 5, none⟩ = some (.int .u32 (a.recv : Int)) ∧ W.cell? ⟨p5, 6, none⟩ = some (.int .i64 a.mru)) (first | exact flat2 C.a1 C.a2) (first
      | (go_at_call 6; with_reducible refine (check_any a _).mono ?_; rintro e wn ⟨rfl, hbn⟩; rw [hz.out]; replace C := C.step' hbn; clear hbn; dsimp only)
      | (go_at_call 7; with_reducible refine (rcheck_any a _).mono ?_; rintro e wn ⟨rfl, hbn⟩; rw [hz.out]; replace C := C.step' hbn; clear hbn; dsimp only))
    clear u0 u1 u2 u3 u4 u5 u6 u7 u8 u9 u10 u11 u12 u13
    have G := flat2 C.a1 C.b1
    obtain ⟨u0, u1, u2, u3, u4, u5, u6, u7, u8, u9, u10, u11, u12, u13⟩ := G
    by_cases hma : a.may
    case neg =>
      have hz5 := Lib.hid (chk_not hma)
      go_wp2_with fail
      refine (rcheck_any a _).mono ?_
      rintro e w4 ⟨rfl, hb4⟩
      rw [hz5.out]
      have C4 := C.step hb4
      have hB := C4.bel
      clear hb4 C4 C
      go_wp2_with fail
      go_ret
      exact ⟨rfl, hB⟩
    have hz0 := Lib.hid (chk_may hma)
    go_wp2_with fail
    refine (rcheck_any a _).mono ?_
    rintro e w4 ⟨rfl, hb4⟩
    rw [hz0.out]
    replace C := C.step hb4
    have D := flat2 C.a1 C.b1
    clear hb4 u0 u1 u2 u3 u4 u5 u6 u7 u8 u9 u10 u11 u12 u13
    obtain ⟨u0, u1, u2, u3, u4, u5, u6, u7, u8, u9, u10, u11, u12, u13⟩ := D
    by_cases hmb : b.may
    case neg =>
      have hz5 := Lib.hid (chk_not hmb)
      go_wp2_with fail
      refine (rcheck_any b _).mono ?_
      rintro e w5 ⟨rfl, hb5⟩
      rw [hz5.out]
      have hB := (C.step hb5).bel
      clear hb5 C
      go_wp2_with fail
      go_ret
      exact ⟨rfl, hB⟩
    have hz1 := Lib.hid (chk_may hmb)
    go_wp2_with fail
    refine (rcheck_any b _).mono ?_
    rintro e w5 ⟨rfl, hb5⟩
    rw [hz1.out]
    replace C := C.step hb5
    clear hb5 u0 u1 u2 u3 u4 u5 u6 u7 u8 u9 u10 u11 u12 u13
    go_wp2_with fail
    obtain ⟨m, hm⟩ : ∃ m, Hid (mostI a = m) := ⟨_, Lib.hid rfl⟩
    obtain ⟨f, hf⟩ : ∃ f, Hid (fitsB a b = f) := ⟨_, Lib.hid rfl⟩
    have hmm : (m == m) = true := by simp
    have hff : (f == f) = true := by simp
    have HMA := Lib.hid hma
    clear hma hmb
    go_region_held3 (fun W => W.cell? ⟨w.heap.size, 0, none⟩ = some (.bool a.sync) ∧ W.cell? ⟨w.heap.size, 1, none⟩ = some (.bool a.wide) ∧ W.cell? ⟨w.heap.size, 2, none⟩ = some (.bool a.acfc) ∧ W.cell? ⟨w.heap.size, 3, none⟩ = some (.bool a.pfc) ∧ W.cell? ⟨w.heap.size, 4, none⟩ = some (.int .u32 (a.send : Int)) ∧ W.cell? ⟨w.heap.size, 5, none⟩ = some (.int .u32 (a.recv : Int)) ∧ W.cell? ⟨w.heap.size, 6, none⟩ = some (.int .i64 a.mru) ∧ W.cell? ⟨q, 0, none⟩ = some (.bool b.sync) ∧ W.cell? ⟨q, 1, none⟩ = some (.bool b.wide) ∧ W.cell? ⟨q, 2, none⟩ = some (.bool b.acfc) ∧ W.cell? ⟨q, 3, none⟩ = some (.bool b.pfc) ∧ W.cell? ⟨q, 4, none⟩ = some (.int .u32 (b.send : Int)) ∧ W.cell? ⟨q, 5, none⟩ = some (.int .u32 (b.recv : Int)) ∧ W.cell? ⟨q, 6, none⟩ = some (.int .i64 b.mru) ∧ W.cell? ⟨p5, 0, none⟩ = some (.bool a.sync) ∧ W.cell? ⟨p5, 1, none⟩ = some (.bool a.wide) ∧ W.cell? ⟨p5, 2, none⟩ = some (.bool a.acfc) ∧ W.cell? ⟨p5, 3, none⟩ = some (.bool a.pfc) ∧ W.cell? ⟨p5, 4, none⟩ = some (.int .u32 (a.send : Int)) ∧ W.cell? ⟨p5, 5, none⟩ = some (.int .u32 (a.recv : Int)) ∧ W.cell? ⟨p5, 6, none⟩ = some (.int .i64 a.mru) ∧ W.cell? ⟨p6, 0, none⟩ = some (.bool b.sync) ∧ W.cell? ⟨p6, 1, none⟩ = some (.bool b.wide) ∧ W.cell? ⟨p6, 2, none⟩ = some (.bool b.acfc) ∧ W.cell? ⟨p6, 3, none⟩ = some (.bool b.pfc) ∧ W.cell? ⟨p6, 4, none⟩ = some (.int .u32 (b.send : Int)) ∧ W.cell? ⟨p6, 5, none⟩ = some (.int .u32 (b.recv : Int)) ∧ W.cell? ⟨p6, 6, none⟩ = some (.int .i64 b.mru)) (first | exact flat4 C.a1 C.b1 C.a2 C.b2) (first
      | (go_at_call 8; with_reducible refine (most_any a HMA.out _).mono ?_; rintro e wn ⟨rfl, hbn⟩; rw [hm.out]; replace C := C.step' hbn; clear hbn; dsimp only)
      | (go_at_call 9; with_reducible refine (rmost_any a HMA.out _).mono ?_; rintro e wn ⟨rfl, hbn⟩; rw [hm.out]; replace C := C.step' hbn; clear hbn; dsimp only)
      | (go_at_call 10; with_reducible refine (fits_any a b HA.out.s HB.out.r _).mono ?_; rintro e wn ⟨rfl, hbn⟩; rw [hf.out]; replace C := C.step' hbn; clear hbn; dsimp only)
      | (go_at_call 11; with_reducible refine (rfits_any a b HA.out.s HB.out.r _).mono ?_; rintro e wn ⟨rfl, hbn⟩; rw [hf.out]; replace C := C.step' hbn; clear hbn; dsimp only))
    all_goals
      have hB := C.bel
      clear C
      go_wp2_with fail
      go_ret
      exact ⟨rfl, hB⟩
end Go.Proofs.Ytnllejajimobbaa
