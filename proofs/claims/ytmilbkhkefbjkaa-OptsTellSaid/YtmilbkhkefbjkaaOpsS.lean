
/-
  What grant and Settle answer, and the document's Settle. No condition beyond: configs that Go may have, types and octets below 256, lists of at most 2^36 options.
-/
import Derived.Test.YtmilbkhkefbjkaaOpsC
import Derived.Test.YtmilbkhkefbjkaaOpsV
import Derived.Test.YtmilbkhkefbjkaaCfgS
namespace Go.Proofs.Ytmilbkhkefbjkaa
open Go.RowKit

theorem grant_len {o : Nat × List Nat} (h : okO (tabB 49185) o = true) : (o.1 = 1 → o.2.length = 2) ∧ (o.1 = 2 → o.2.length = 4) := by
  have h1 := okO_yes h
  constructor
  · intro e
    rw [e, show spanB (tabB 49185) 1 = (2, 2) by decide] at h1
    dsimp only at h1
    omega
  · intro e
    rw [e, show spanB (tabB 49185) 2 = (4, 4) by decide] at h1
    dsimp only at h1
    omega
theorem grant_lt {o : Nat × List Nat} (h : okO (tabB 49185) o = true) (hb : By o.2) : (o.1 = 1 → valB o.2 < 65536) ∧ (o.1 = 2 → valB o.2 < 4294967296) :=
  ⟨fun e => (valB_small hb 2 ((grant_len h).1 e) (by omega)).2, fun e => (valB_small hb 4 ((grant_len h).2 e) (by omega)).2⟩

/-- The cells of a config at a block, none of them frozen. -/
abbrev Bf (w : World) (b : Nat) : Prop := w.frozen? ⟨b, 0, none⟩ = false ∧ w.frozen? ⟨b, 1, none⟩ = false ∧ w.frozen? ⟨b, 2, none⟩ = false ∧ w.frozen? ⟨b, 3, none⟩ = false ∧ w.frozen? ⟨b, 4, none⟩ = false ∧ w.frozen? ⟨b, 5, none⟩ = false ∧ w.frozen? ⟨b, 6, none⟩ = false
theorem Bx.free {w : World} {b : Nat} {t : TypeId} {c : Cf} (h : Bx w b t c) : Bf w b :=
  ⟨frozen_of_row w _ 0 _ _ h, frozen_of_row w _ 1 _ _ h, frozen_of_row w _ 2 _ _ h, frozen_of_row w _ 3 _ _ h, frozen_of_row w _ 4 _ _ h, frozen_of_row w _ 5 _ _ h, frozen_of_row w _ 6 _ _ h⟩

theorem and4_nat (v : Nat) : v &&& 4 = if v.testBit 2 then 4 else 0 := by
  apply Nat.eq_of_testBit_eq
  intro i
  have h4 : (4 : Nat).testBit i = decide (2 = i) := by rw [show (4 : Nat) = 2 ^ 2 from rfl, Nat.testBit_two_pow]
  rw [Nat.testBit_and, h4]
  by_cases h : 2 = i
  · subst h
    cases v.testBit 2 <;> simp [h4]
  · cases v.testBit 2 <;> simp [h, h4]
theorem and4 (v : Nat) (hv : v < 18446744073709551616) : (bits .and .u64 (v : Int) 4 != 0) = decide (v / 4 % 2 = 1) := by
  have h := bits_and_u64_nat v 4 hv (by omega)
  rw [show ((4 : Nat) : Int) = 4 from rfl] at h
  rw [h, and4_nat, Nat.testBit_eq_decide_div_mod_eq, show (2 : Nat) ^ 2 = 4 from rfl]
  by_cases hq : v / 4 % 2 = 1 <;> simp [hq]

/-- No config, in memory. -/
abbrev obj0 (t : TypeId) : Obj := .cells #[.bool false, .bool false, .bool false, .bool false, .int .u32 0, .int .u32 0, .int .i64 0] t (0, 0)
theorem bx0 {w : World} {b : Nat} {t : TypeId} (h : w.heap[b]? = some (obj0 t)) : Bx w b t cf0 := h

/-- What grant knows of the world it stands in. -/
structure GrC (w W : World) (c : Cf) (t : Int) (A : Option Addr) (n k : Nat) : Prop where
  bel : Below w.heap.size w W
  cf : Bx W w.heap.size 56 c
  op : W.heap[w.heap.size + 1]? = some (.cells #[.int .u8 t, .slice A n k] 33 (0, 0))
  res : Bx W (w.heap.size + 1 + 1) 56 cf0
theorem GrC.made (w : World) (c : Cf) (t : Int) (A : Option Addr) (n k : Nat) : GrC w (((w.alloc (c.obj 56)).alloc (.cells #[.int .u8 t, .slice A n k] 33)).alloc (obj0 56)) c t A n k := by
  have e1 : (w.alloc (c.obj 56)).heap.size = w.heap.size + 1 := World.size_alloc _ _
  have e2 : ((w.alloc (c.obj 56)).alloc (.cells #[.int .u8 t, .slice A n k] 33)).heap.size = w.heap.size + 1 + 1 := by rw [World.size_alloc, e1]
  refine ⟨(below_two w _ _).alloc (by rw [e2]; omega) _, ?_, ?_, ?_⟩
  · exact (show Bx _ _ _ _ from heap_alloc2_old w _ _).below ((Below.refl _ _).alloc (Nat.le_refl _) _)
  · have := heap_alloc2_old (w.alloc (c.obj 56)) (.cells #[.int .u8 t, .slice A n k] 33) (obj0 56)
    rwa [e1] at this
  · have := heap_alloc_new ((w.alloc (c.obj 56)).alloc (.cells #[.int .u8 t, .slice A n k] 33)) (obj0 56)
    rwa [e2] at this
theorem GrC.step {w W W' : World} {c : Cf} {t : Int} {A : Option Addr} {n k : Nat} (h : GrC w W c t A n k) (hb : Below W.heap.size W W') : GrC w W' c t A n k :=
  ⟨h.bel.trans (hb.mono h.bel.size), h.cf.below hb, (hb.block _ (Array.getElem?_eq_some_iff.1 h.op).1).trans h.op, h.res.below hb⟩
theorem GrC.o0 {w W : World} {c : Cf} {t : Int} {A : Option Addr} {n k : Nat} (h : GrC w W c t A n k) : W.cell? ⟨w.heap.size + 1, 0, none⟩ = some (.int .u8 t) := by rw [cell_of_row W _ 0 _ _ _ h.op]; rfl
theorem GrC.o1 {w W : World} {c : Cf} {t : Int} {A : Option Addr} {n k : Nat} (h : GrC w W c t A n k) : W.cell? ⟨w.heap.size + 1, 1, none⟩ = some (.slice A n k) := by rw [cell_of_row W _ 1 _ _ _ h.op]; rfl

/-- A config is written into a block, cell by cell. -/
abbrev put7 (w : World) (b : Nat) (d : Cf) : World :=
  ((((((w.setCell ⟨b, 0, none⟩ (.bool d.sync)).setCell ⟨b, 1, none⟩ (.bool d.wide)).setCell ⟨b, 2, none⟩ (.bool d.acfc)).setCell ⟨b, 3, none⟩ (.bool d.pfc)).setCell ⟨b, 4, none⟩ (.int .u32 (d.send : Int))).setCell ⟨b, 5, none⟩ (.int .u32 (d.recv : Int))).setCell ⟨b, 6, none⟩ (.int .i64 d.mru)
theorem put7_bx {w : World} {b : Nat} {t : TypeId} {c : Cf} (h : Bx w b t c) (d : Cf) : Bx (put7 w b d) b t d := by
  have h0 : (w.setCell ⟨b, 0, none⟩ (.bool d.sync)).heap[b]? = some (.cells #[.bool d.sync, .bool c.wide, .bool c.acfc, .bool c.pfc, .int .u32 (c.send : Int), .int .u32 (c.recv : Int), .int .i64 c.mru] t (0, 0)) := by rw [heap_setCell_same _ b 0 _ _ _ h]; rfl
  have h1 : ((w.setCell ⟨b, 0, none⟩ (.bool d.sync)).setCell ⟨b, 1, none⟩ (.bool d.wide)).heap[b]? = some (.cells #[.bool d.sync, .bool d.wide, .bool c.acfc, .bool c.pfc, .int .u32 (c.send : Int), .int .u32 (c.recv : Int), .int .i64 c.mru] t (0, 0)) := by rw [heap_setCell_same _ b 1 _ _ _ h0]; rfl
  have h2 : (((w.setCell ⟨b, 0, none⟩ (.bool d.sync)).setCell ⟨b, 1, none⟩ (.bool d.wide)).setCell ⟨b, 2, none⟩ (.bool d.acfc)).heap[b]? = some (.cells #[.bool d.sync, .bool d.wide, .bool d.acfc, .bool c.pfc, .int .u32 (c.send : Int), .int .u32 (c.recv : Int), .int .i64 c.mru] t (0, 0)) := by rw [heap_setCell_same _ b 2 _ _ _ h1]; rfl
  have h3 : ((((w.setCell ⟨b, 0, none⟩ (.bool d.sync)).setCell ⟨b, 1, none⟩ (.bool d.wide)).setCell ⟨b, 2, none⟩ (.bool d.acfc)).setCell ⟨b, 3, none⟩ (.bool d.pfc)).heap[b]? = some (.cells #[.bool d.sync, .bool d.wide, .bool d.acfc, .bool d.pfc, .int .u32 (c.send : Int), .int .u32 (c.recv : Int), .int .i64 c.mru] t (0, 0)) := by rw [heap_setCell_same _ b 3 _ _ _ h2]; rfl
  have h4 : (((((w.setCell ⟨b, 0, none⟩ (.bool d.sync)).setCell ⟨b, 1, none⟩ (.bool d.wide)).setCell ⟨b, 2, none⟩ (.bool d.acfc)).setCell ⟨b, 3, none⟩ (.bool d.pfc)).setCell ⟨b, 4, none⟩ (.int .u32 (d.send : Int))).heap[b]? = some (.cells #[.bool d.sync, .bool d.wide, .bool d.acfc, .bool d.pfc, .int .u32 (d.send : Int), .int .u32 (c.recv : Int), .int .i64 c.mru] t (0, 0)) := by rw [heap_setCell_same _ b 4 _ _ _ h3]; rfl
  have h5 : ((((((w.setCell ⟨b, 0, none⟩ (.bool d.sync)).setCell ⟨b, 1, none⟩ (.bool d.wide)).setCell ⟨b, 2, none⟩ (.bool d.acfc)).setCell ⟨b, 3, none⟩ (.bool d.pfc)).setCell ⟨b, 4, none⟩ (.int .u32 (d.send : Int))).setCell ⟨b, 5, none⟩ (.int .u32 (d.recv : Int))).heap[b]? = some (.cells #[.bool d.sync, .bool d.wide, .bool d.acfc, .bool d.pfc, .int .u32 (d.send : Int), .int .u32 (d.recv : Int), .int .i64 c.mru] t (0, 0)) := by rw [heap_setCell_same _ b 5 _ _ _ h4]; rfl
  have h6 : (((((((w.setCell ⟨b, 0, none⟩ (.bool d.sync)).setCell ⟨b, 1, none⟩ (.bool d.wide)).setCell ⟨b, 2, none⟩ (.bool d.acfc)).setCell ⟨b, 3, none⟩ (.bool d.pfc)).setCell ⟨b, 4, none⟩ (.int .u32 (d.send : Int))).setCell ⟨b, 5, none⟩ (.int .u32 (d.recv : Int))).setCell ⟨b, 6, none⟩ (.int .i64 d.mru)).heap[b]? = some (.cells #[.bool d.sync, .bool d.wide, .bool d.acfc, .bool d.pfc, .int .u32 (d.send : Int), .int .u32 (d.recv : Int), .int .i64 d.mru] t (0, 0)) := by rw [heap_setCell_same _ b 6 _ _ _ h5]; rfl
  exact h6
theorem put7_below {W w : World} {B b : Nat} (h : Below B W w) (hb : B ≤ b) (d : Cf) : Below B W (put7 w b d) :=
  ((((((h.setCell (p := ⟨b, 0, none⟩) hb _).setCell (p := ⟨b, 1, none⟩) hb _).setCell (p := ⟨b, 2, none⟩) hb _).setCell (p := ⟨b, 3, none⟩) hb _).setCell (p := ⟨b, 4, none⟩) hb _).setCell (p := ⟨b, 5, none⟩) hb _).setCell (p := ⟨b, 6, none⟩) hb _
theorem Bx.other {w : World} {b a o : Nat} {t : TypeId} {c : Cf} (h : Bx w b t c) (u : Value) (hne : b ≠ a) : Bx (w.setCell ⟨a, o, none⟩ u) b t c := (heap_setCell_other w ⟨a, o, none⟩ b u hne).trans h

set_option maxHeartbeats 4000000 in
theorem grant_1 (c : Cf) (v : Nat) (hv : v < 65536) (l : List Nat) (n k : Nat) (A : Option Addr) (w : World) (h : Rd w w.heap.size A l) (hb : By l) (hl : l.length = n) (hn : n ≤ 274877906944) (hq : valB l = v) :
    Calls Try.prog 35 #[c.val, .agg #[.int .u8 1, .slice A n k]] w fun e w' => e = .returned (Cf.val { c with mru := (v : Int) }) ∧ Below w.heap.size w w' := by
  have C := Lib.hid (GrC.made w c 1 A n k)
  have HR := Lib.hid h
  have HL := Lib.hid hl
  have HQ := Lib.hid hq
  clear h hl hq
  go_enter Try.func35, Try.ntmps35
  go_wp2_with (go_at_call 15; (with_reducible refine (value_any 1 l n k A _ (HR.out.on C.out.bel) hb HL.out hn v HQ.out).mono ?_); rintro e wn ⟨rfl, hb⟩; replace C := Lib.hid (C.out.step hb); obtain ⟨x0, x1, x2, x3, x4, x5, x6⟩ := C.out.cf.all; obtain ⟨y0, y1, y2, y3, y4, y5, y6⟩ := C.out.cf.free; obtain ⟨r0, r1, r2, r3, r4, r5, r6⟩ := C.out.res.all; obtain ⟨s0, s1, s2, s3, s4, s5, s6⟩ := C.out.res.free; have o0 := C.out.o0; clear hb)
  refine bodyPost_ret (v := Cf.val { c with mru := (v : Int) }) ?_ rfl ⟨rfl, ?_⟩
  · exact results_cell_row rfl _ _ (w.heap.size + 1 + 1) 56 _ _ _ rfl (put7_bx (C.out.res.other _ (by omega)) { c with mru := (v : Int) }) Try.underlying56 rfl (by kernel_rfl)
  · exact put7_below (C.out.bel.setCell (p := ⟨w.heap.size, 6, none⟩) (Nat.le_refl _) _) (by omega) { c with mru := (v : Int) }

set_option maxHeartbeats 4000000 in
theorem grant_2 (c : Cf) (v : Nat) (hv : v < 4294967296) (l : List Nat) (n k : Nat) (A : Option Addr) (w : World) (h : Rd w w.heap.size A l) (hb : By l) (hl : l.length = n) (hn : n ≤ 274877906944) (hq : valB l = v) :
    Calls Try.prog 35 #[c.val, .agg #[.int .u8 2, .slice A n k]] w fun e w' => e = .returned (Cf.val { c with send := v }) ∧ Below w.heap.size w w' := by
  have C := Lib.hid (GrC.made w c 2 A n k)
  have HR := Lib.hid h
  have HL := Lib.hid hl
  have HQ := Lib.hid hq
  clear h hl hq
  go_enter Try.func35, Try.ntmps35
  go_wp2_with (go_at_call 15; (with_reducible refine (value_any 2 l n k A _ (HR.out.on C.out.bel) hb HL.out hn v HQ.out).mono ?_); rintro e wn ⟨rfl, hb⟩; replace C := Lib.hid (C.out.step hb); obtain ⟨x0, x1, x2, x3, x4, x5, x6⟩ := C.out.cf.all; obtain ⟨y0, y1, y2, y3, y4, y5, y6⟩ := C.out.cf.free; obtain ⟨r0, r1, r2, r3, r4, r5, r6⟩ := C.out.res.all; obtain ⟨s0, s1, s2, s3, s4, s5, s6⟩ := C.out.res.free; have o0 := C.out.o0; clear hb)
  refine bodyPost_ret (v := Cf.val { c with send := v }) ?_ rfl ⟨rfl, ?_⟩
  · exact results_cell_row rfl _ _ (w.heap.size + 1 + 1) 56 _ _ _ rfl (put7_bx (C.out.res.other _ (by omega)) { c with send := v }) Try.underlying56 rfl (by kernel_rfl)
  · exact put7_below (C.out.bel.setCell (p := ⟨w.heap.size, 4, none⟩) (Nat.le_refl _) _) (by omega) { c with send := v }

set_option maxHeartbeats 4000000 in
theorem grant_7 (c : Cf) (v : Nat) (l : List Nat) (n k : Nat) (A : Option Addr) (w : World) (h : Rd w w.heap.size A l) (hb : By l) (hl : l.length = n) (hn : n ≤ 274877906944) (hq : valB l = v) :
    Calls Try.prog 35 #[c.val, .agg #[.int .u8 7, .slice A n k]] w fun e w' => e = .returned (Cf.val { c with pfc := true }) ∧ Below w.heap.size w w' := by
  have C := Lib.hid (GrC.made w c 7 A n k)
  have HR := Lib.hid h
  have HL := Lib.hid hl
  have HQ := Lib.hid hq
  clear h hl hq
  go_enter Try.func35, Try.ntmps35
  go_wp2_with (go_at_call 15; (with_reducible refine (value_any 7 l n k A _ (HR.out.on C.out.bel) hb HL.out hn v HQ.out).mono ?_); rintro e wn ⟨rfl, hb⟩; replace C := Lib.hid (C.out.step hb); obtain ⟨x0, x1, x2, x3, x4, x5, x6⟩ := C.out.cf.all; obtain ⟨y0, y1, y2, y3, y4, y5, y6⟩ := C.out.cf.free; obtain ⟨r0, r1, r2, r3, r4, r5, r6⟩ := C.out.res.all; obtain ⟨s0, s1, s2, s3, s4, s5, s6⟩ := C.out.res.free; have o0 := C.out.o0; clear hb)
  refine bodyPost_ret (v := Cf.val { c with pfc := true }) ?_ rfl ⟨rfl, ?_⟩
  · exact results_cell_row rfl _ _ (w.heap.size + 1 + 1) 56 _ _ _ rfl (put7_bx (C.out.res.other _ (by omega)) { c with pfc := true }) Try.underlying56 rfl (by kernel_rfl)
  · exact put7_below (C.out.bel.setCell (p := ⟨w.heap.size, 3, none⟩) (Nat.le_refl _) _) (by omega) { c with pfc := true }

set_option maxHeartbeats 4000000 in
theorem grant_8 (c : Cf) (v : Nat) (l : List Nat) (n k : Nat) (A : Option Addr) (w : World) (h : Rd w w.heap.size A l) (hb : By l) (hl : l.length = n) (hn : n ≤ 274877906944) (hq : valB l = v) :
    Calls Try.prog 35 #[c.val, .agg #[.int .u8 8, .slice A n k]] w fun e w' => e = .returned (Cf.val { c with acfc := true }) ∧ Below w.heap.size w w' := by
  have C := Lib.hid (GrC.made w c 8 A n k)
  have HR := Lib.hid h
  have HL := Lib.hid hl
  have HQ := Lib.hid hq
  clear h hl hq
  go_enter Try.func35, Try.ntmps35
  go_wp2_with (go_at_call 15; (with_reducible refine (value_any 8 l n k A _ (HR.out.on C.out.bel) hb HL.out hn v HQ.out).mono ?_); rintro e wn ⟨rfl, hb⟩; replace C := Lib.hid (C.out.step hb); obtain ⟨x0, x1, x2, x3, x4, x5, x6⟩ := C.out.cf.all; obtain ⟨y0, y1, y2, y3, y4, y5, y6⟩ := C.out.cf.free; obtain ⟨r0, r1, r2, r3, r4, r5, r6⟩ := C.out.res.all; obtain ⟨s0, s1, s2, s3, s4, s5, s6⟩ := C.out.res.free; have o0 := C.out.o0; clear hb)
  refine bodyPost_ret (v := Cf.val { c with acfc := true }) ?_ rfl ⟨rfl, ?_⟩
  · exact results_cell_row rfl _ _ (w.heap.size + 1 + 1) 56 _ _ _ rfl (put7_bx (C.out.res.other _ (by omega)) { c with acfc := true }) Try.underlying56 rfl (by kernel_rfl)
  · exact put7_below (C.out.bel.setCell (p := ⟨w.heap.size, 2, none⟩) (Nat.le_refl _) _) (by omega) { c with acfc := true }

set_option maxHeartbeats 4000000 in
theorem grant_9 (c : Cf) (v : Nat) (hv : v < 18446744073709551616) (l : List Nat) (n k : Nat) (A : Option Addr) (w : World) (h : Rd w w.heap.size A l) (hb : By l) (hl : l.length = n) (hn : n ≤ 274877906944) (hq : valB l = v) :
    Calls Try.prog 35 #[c.val, .agg #[.int .u8 9, .slice A n k]] w fun e w' => e = .returned (Cf.val { c with wide := decide (v / 4 % 2 = 1) }) ∧ Below w.heap.size w w' := by
  have C := Lib.hid (GrC.made w c 9 A n k)
  have HR := Lib.hid h
  have HL := Lib.hid hl
  have HQ := Lib.hid hq
  have a4 := and4 v hv
  clear h hl hq
  go_enter Try.func35, Try.ntmps35
  go_wp2_with (go_at_call 15; (with_reducible refine (value_any 9 l n k A _ (HR.out.on C.out.bel) hb HL.out hn v HQ.out).mono ?_); rintro e wn ⟨rfl, hb⟩; replace C := Lib.hid (C.out.step hb); obtain ⟨x0, x1, x2, x3, x4, x5, x6⟩ := C.out.cf.all; obtain ⟨y0, y1, y2, y3, y4, y5, y6⟩ := C.out.cf.free; obtain ⟨r0, r1, r2, r3, r4, r5, r6⟩ := C.out.res.all; obtain ⟨s0, s1, s2, s3, s4, s5, s6⟩ := C.out.res.free; have o0 := C.out.o0; clear hb)
  refine bodyPost_ret (v := Cf.val { c with wide := decide (v / 4 % 2 = 1) }) ?_ rfl ⟨rfl, ?_⟩
  · exact results_cell_row rfl _ _ (w.heap.size + 1 + 1) 56 _ _ _ rfl (put7_bx (C.out.res.other _ (by omega)) { c with wide := decide (v / 4 % 2 = 1) }) Try.underlying56 rfl (by kernel_rfl)
  · exact put7_below (C.out.bel.setCell (p := ⟨w.heap.size, 1, none⟩) (Nat.le_refl _) _) (by omega) { c with wide := decide (v / 4 % 2 = 1) }

set_option maxHeartbeats 4000000 in
theorem grant_n (c : Cf) (v : Nat) (t : Nat) (h1 : t ≠ 1) (h2 : t ≠ 2) (h7 : t ≠ 7) (h8 : t ≠ 8) (h9 : t ≠ 9) (l : List Nat) (n k : Nat) (A : Option Addr) (w : World) (h : Rd w w.heap.size A l) (hb : By l) (hl : l.length = n) (hn : n ≤ 274877906944) (hq : valB l = v) :
    Calls Try.prog 35 #[c.val, .agg #[.int .u8 (t : Int), .slice A n k]] w fun e w' => e = .returned (Cf.val c) ∧ Below w.heap.size w w' := by
  have C := Lib.hid (GrC.made w c (t : Int) A n k)
  have HR := Lib.hid h
  have HL := Lib.hid hl
  have HQ := Lib.hid hq
  have j1 : ¬ (t : Int) = 1 := by omega
  have j2 : ¬ (t : Int) = 2 := by omega
  have j7 : ¬ (t : Int) = 7 := by omega
  have j8 : ¬ (t : Int) = 8 := by omega
  have j9 : ¬ (t : Int) = 9 := by omega
  clear h hl hq h1 h2 h7 h8 h9
  go_enter Try.func35, Try.ntmps35
  go_wp2_with (go_at_call 15; (with_reducible refine (value_any (t : Int) l n k A _ (HR.out.on C.out.bel) hb HL.out hn v HQ.out).mono ?_); rintro e wn ⟨rfl, hb⟩; replace C := Lib.hid (C.out.step hb); obtain ⟨x0, x1, x2, x3, x4, x5, x6⟩ := C.out.cf.all; obtain ⟨y0, y1, y2, y3, y4, y5, y6⟩ := C.out.cf.free; obtain ⟨r0, r1, r2, r3, r4, r5, r6⟩ := C.out.res.all; obtain ⟨s0, s1, s2, s3, s4, s5, s6⟩ := C.out.res.free; have o0 := C.out.o0; clear hb)
  refine bodyPost_ret (v := Cf.val c) ?_ rfl ⟨rfl, ?_⟩
  · exact results_cell_row rfl _ _ (w.heap.size + 1 + 1) 56 _ _ _ rfl (put7_bx C.out.res c) Try.underlying56 rfl (by kernel_rfl)
  · exact put7_below C.out.bel (by omega) c

theorem grant_any (c : Cf) (o : Nat × List Nat) (hc : okO (tabB 49185) o = true) (hb : By o.2) (n k : Nat) (A : Option Addr) (w : World) (h : Rd w w.heap.size A o.2) (hl : o.2.length = n) (hn : n ≤ 274877906944) (d : Cf) (hd : grantB c o = d) :
    Calls Try.prog 35 #[c.val, .agg #[.int .u8 (o.1 : Int), .slice A n k]] w fun e w' => e = .returned d.val ∧ Below w.heap.size w w' := by
  subst hd
  have hlt := grant_lt hc hb
  obtain ⟨t, l⟩ := o
  dsimp only at h hl hlt hb ⊢
  by_cases h1 : t = 1
  · subst h1
    have e : grantB c (1, l) = { c with mru := (valB l : Int) } := by simp [grantB]
    rw [e]
    exact grant_1 c (valB l) (hlt.1 rfl) l n k A w h hb hl hn rfl
  by_cases h2 : t = 2
  · subst h2
    have e : grantB c (2, l) = { c with send := valB l } := by simp [grantB]
    rw [e]
    exact grant_2 c (valB l) (hlt.2 rfl) l n k A w h hb hl hn rfl
  by_cases h7 : t = 7
  · subst h7
    have e : grantB c (7, l) = { c with pfc := true } := by simp [grantB]
    rw [e]
    exact grant_7 c (valB l) l n k A w h hb hl hn rfl
  by_cases h8 : t = 8
  · subst h8
    have e : grantB c (8, l) = { c with acfc := true } := by simp [grantB]
    rw [e]
    exact grant_8 c (valB l) l n k A w h hb hl hn rfl
  by_cases h9 : t = 9
  · subst h9
    have e : grantB c (9, l) = { c with wide := decide (valB l / 4 % 2 = 1) } := by simp [grantB]
    rw [e]
    exact grant_9 c (valB l) (valB_lt l) l n k A w h hb hl hn rfl
  have e : grantB c (t, l) = c := by simp [grantB, h1, h2, h7, h8, h9]
  rw [e]
  exact grant_n c (valB l) t h1 h2 h7 h8 h9 l n k A w h hb hl hn rfl
end Go.Proofs.Ytmilbkhkefbjkaa
