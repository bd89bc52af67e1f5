
/-
  The walk of the statement FrameTells. Conditions: the tables hold what the start-up lays ('Tabs'); numbers that Go's types have.
-/
import Derived.Test.YtkakkligndejaaaDoorFrq
import Derived.Test.YtkakkligndejaaaDoorFrw
namespace Go.Proofs.YtkakkligndejaaaDoor
open Go.RowKit

theorem swB_le (l : List Nat) : (swB l).length ≤ 16 * l.length + 16 := swB_len l
theorem wireB_le (c : Cf) (l : List Nat) : (wireB c l).length ≤ 16 * l.length + 16 := by
  unfold wireB
  split
  · exact swB_len l
  · have := esc_le c.send l
    simp
    omega

set_option maxHeartbeats 1000000 in
theorem ftells_early (c : Cf) (p : Int) (A A2 : Option Addr) (n cp n2 cp2 : Nat) (w : World) (hT : Tabs w) (h : c.may → n ≤ 400 → 400 < n2) :
    Calls Tryd.prog 3 #[c.val, .int .u16 p, .slice A n cp, .slice A2 n2 cp2] w fun e w' => e = .returned (.bool true) ∧ Below w.heap.size w w' := by
  have C0 := Lib.hid (show One w (w.alloc (c.obj 24)) w.heap.size 24 c from ⟨Bx.new _ _ _, (Below.refl _ _).alloc (Nat.le_refl _) _⟩)
  have HT := Lib.hid hT
  clear hT
  have HS := fun (W : World) (hB : Below w.heap.size w W) => speaks11_any W (HT.out.below hB)
  by_cases hc : c.may
  case neg =>
    have HZ := Lib.hid (chk_not hc)
    go_enter Tryd.func3, Tryd.ntmps3
    go_wp2_with fail
    refine (HS _ C0.out.bel).mono ?_
    rintro e w1 ⟨rfl, hb1⟩
    have C1 := Lib.hid (C0.out.step hb1)
    obtain ⟨x0, x1, x2, x3, x4, x5, x6⟩ := C1.out.x.all
    clear hb1
    go_wp2_with fail
    refine (rcheck_any c _).mono ?_
    rintro e w2 ⟨rfl, hb2⟩
    rw [HZ.out]
    have C2 := Lib.hid (C1.out.step hb2)
    clear hb2
    go_wp2_with fail
    refine (HS _ C2.out.bel).mono ?_
    rintro e w3 ⟨rfl, hb3⟩
    go_wp2_with fail
    go_ret
    exact ⟨rfl, (C2.out.step hb3).bel⟩
  case pos =>
    have HZ := Lib.hid (chk_may hc)
    by_cases hn : n ≤ 400
    · have hn2 := h hc hn
      have h1 : ¬ (400 : Int) < (n : Int) := by omega
      have h2 : (400 : Int) < (n2 : Int) := by omega
      clear h
      go_enter Tryd.func3, Tryd.ntmps3
      go_wp2_with fail
      refine (HS _ C0.out.bel).mono ?_
      rintro e w1 ⟨rfl, hb1⟩
      have C1 := Lib.hid (C0.out.step hb1)
      obtain ⟨x0, x1, x2, x3, x4, x5, x6⟩ := C1.out.x.all
      clear hb1
      go_wp2_with fail
      refine (rcheck_any c _).mono ?_
      rintro e w2 ⟨rfl, hb2⟩
      rw [HZ.out]
      have C2 := Lib.hid (C1.out.step hb2)
      clear hb2
      go_wp2_with fail
      refine (HS _ C2.out.bel).mono ?_
      rintro e w3 ⟨rfl, hb3⟩
      go_wp2_with fail
      go_ret
      exact ⟨rfl, (C2.out.step hb3).bel⟩
    · have h1 : (400 : Int) < (n : Int) := by omega
      clear h
      go_enter Tryd.func3, Tryd.ntmps3
      go_wp2_with fail
      refine (HS _ C0.out.bel).mono ?_
      rintro e w1 ⟨rfl, hb1⟩
      have C1 := Lib.hid (C0.out.step hb1)
      obtain ⟨x0, x1, x2, x3, x4, x5, x6⟩ := C1.out.x.all
      clear hb1
      go_wp2_with fail
      refine (rcheck_any c _).mono ?_
      rintro e w2 ⟨rfl, hb2⟩
      rw [HZ.out]
      have C2 := Lib.hid (C1.out.step hb2)
      clear hb2
      go_wp2_with fail
      refine (HS _ C2.out.bel).mono ?_
      rintro e w3 ⟨rfl, hb3⟩
      go_wp2_with fail
      go_ret
      exact ⟨rfl, (C2.out.step hb3).bel⟩

set_option maxHeartbeats 4000000 in
theorem ftells_walk (c : Cf) (hk : c.ok) (hc : c.may) (p : Nat) (hp : p < 65536) (l l2 : List Nat) (A A2 : Option Addr) (n cp n2 cp2 : Nat) (w : World) (hT : Tabs w)
    (hl : l.length = n) (hb : By l) (h : Rd w w.heap.size A l) (h4 : n ≤ 400) (hl2 : l2.length = n2) (hb2 : By l2) (h2 : Rd w w.heap.size A2 l2) (h5 : n2 ≤ 400) (hcp : n2 ≤ cp2) :
    Calls Tryd.prog 3 #[c.val, .int .u16 (p : Int), .slice A n cp, .slice A2 n2 cp2] w fun e w' => e = .returned (.bool true) ∧ Below w.heap.size w w' := by
  have C0 := Lib.hid (show One w (w.alloc (c.obj 24)) w.heap.size 24 c from ⟨Bx.new _ _ _, (Below.refl _ _).alloc (Nat.le_refl _) _⟩)
  have HT := Lib.hid hT
  have HS := fun (W : World) (hB : Below w.heap.size w W) => speaks11_any W (HT.out.below hB)
  have HZ := Lib.hid (chk_may hc)
  have HL := Lib.hid hl
  have HBy := Lib.hid hb
  have HR := Lib.hid h
  have HL2 := Lib.hid hl2
  have HBy2 := Lib.hid hb2
  have HR2 := Lib.hid h2
  have h4' : ¬ (400 : Int) < (n : Int) := by omega
  have h5' : ¬ (400 : Int) < (n2 : Int) := by omega
  have hse := hk.s
  obtain ⟨g1, g2, g3, hg⟩ : ∃ g1 g2 g3, Hid (parseB c l2 = (g1, g2, g3)) := ⟨_, _, _, Lib.hid rfl⟩
  have HG2 := Lib.hid (show g2.length ≤ 400 by have := parseB_len c l2; rw [hg.out, HL2.out] at this; exact Nat.le_trans this h5)
  have hg1 : g1 < 65536 := by have := parseB_lt c hb2; rw [hg.out] at this; exact this
  clear hl hb h hl2 hb2 h2 hT hk
  by_cases hok : rightB p = true ∧ (n : Int) ≤ c.mru
  · have hpl := hputB_len c p
    have hfl := frameB_len c p l
    have hzw := size_pos c.wide
    have HFl := Lib.hid (show (frameB c p l).length ≤ 408 by have := HL.out; omega)
    have HWl := Lib.hid (show (wireB c (frameB c p l)).length ≤ 10000 by have := wireB_le c (frameB c p l); have := HFl.out; omega)
    have HFb := Lib.hid (frameB_by c hp HBy.out)
    clear hpl hfl hzw
    go_enter Tryd.func3, Tryd.ntmps3
    go_wp2_with fail
    refine (HS _ C0.out.bel).mono ?_
    rintro e w1 ⟨rfl, hb1⟩
    have C1 := Lib.hid (C0.out.step hb1)
    obtain ⟨x0, x1, x2, x3, x4, x5, x6⟩ := C1.out.x.all
    clear hb1
    go_wp2_with fail
    refine (rcheck_any c _).mono ?_
    rintro e w2 ⟨rfl, hb2⟩
    rw [HZ.out]
    have C2 := Lib.hid (C1.out.step hb2)
    clear hb2 x0 x1 x2 x3 x4 x5 x6
    obtain ⟨x0, x1, x2, x3, x4, x5, x6⟩ := C2.out.x.all
    have T2 := Lib.hid (show Two w (w2.alloc (c.obj 29)) w.heap.size w2.heap.size c from ⟨C2.out.x.al _, Bx.new _ _ _, C2.out.bel.alloc C2.out.bel.size _⟩)
    go_wp2_with fail
    clear x0 x1 x2 x3 x4 x5 x6
    refine (build_ok c p hp l A n cp _ (HR.out.on T2.out.bel) HBy.out HL.out (by omega) hok.1 hok.2 (HT.out.below T2.out.bel)).mono ?_
    rintro e w3 ⟨A3, c3, k3, rfl, hN3⟩
    have HN3 := Lib.hid hN3
    have hk3 : k3 ≤ 408 := by rw [← hN3.1]; exact HFl.out
    have T3 := Lib.hid (T2.out.step hN3.2.2.2)
    clear hN3
    obtain ⟨x0, x1, x2, x3, x4, x5, x6⟩ := T3.out.a.all
    obtain ⟨y0, y1, y2, y3, y4, y5, y6⟩ := T3.out.x.all
    go_wp2_with fail
    clear x0 x1 x2 x3 x4 x5 x6 y0 y1 y2 y3 y4 y5 y6
    refine (rbuild_ok c p hp l A n cp _ (HR.out.on T3.out.bel) HBy.out HL.out (by omega) hok.1 hok.2).mono ?_
    rintro e w4 ⟨A4, c4, k4, rfl, hN4⟩
    have HN4 := Lib.hid hN4
    have T4 := Lib.hid (T3.out.step hN4.2.2.2)
    have F4 := Lib.hid (HN3.out.2.2.1.on hN4.2.2.2)
    clear hN4
    obtain ⟨x0, x1, x2, x3, x4, x5, x6⟩ := T4.out.a.all
    obtain ⟨y0, y1, y2, y3, y4, y5, y6⟩ := T4.out.x.all
    go_wp2_with fail
    clear x0 x1 x2 x3 x4 x5 x6 y0 y1 y2 y3 y4 y5 y6
    refine (wire_ok c hse p hp l A n cp _ (HR.out.on T4.out.bel) HBy.out HL.out (by omega) hok.1 hok.2 (HT.out.below T4.out.bel)).mono ?_
    rintro e w5 ⟨A5, c5, k5, rfl, hN5⟩
    have HN5 := Lib.hid hN5
    have hk5 : k5 ≤ 10000 := by rw [← hN5.1]; exact HWl.out
    have T5 := Lib.hid (T4.out.step hN5.2.2.2)
    have F5 := Lib.hid (F4.out.on hN5.2.2.2)
    have G5 := Lib.hid (HN4.out.2.2.1.on hN5.2.2.2)
    clear hN5
    obtain ⟨x0, x1, x2, x3, x4, x5, x6⟩ := T5.out.a.all
    obtain ⟨y0, y1, y2, y3, y4, y5, y6⟩ := T5.out.x.all
    go_wp2_with fail
    refine (equal_yes (frameB c p l) (frameB c p l) k3 k4 _ _ _ _ _ F5.out G5.out HN3.out.1 HN4.out.1 (by omega) rfl).mono ?_
    rintro e w6 ⟨rfl, hb6⟩
    have T6 := Lib.hid (T5.out.step hb6)
    have G6 := Lib.hid (G5.out.on hb6)
    have W6 := Lib.hid (HN5.out.2.2.1.on hb6)
    clear hb6
    clear x0 x1 x2 x3 x4 x5 x6 y0 y1 y2 y3 y4 y5 y6
    obtain ⟨x0, x1, x2, x3, x4, x5, x6⟩ := T6.out.a.all
    obtain ⟨y0, y1, y2, y3, y4, y5, y6⟩ := T6.out.x.all
    go_wp2_with fail
    clear x0 x1 x2 x3 x4 x5 x6 y0 y1 y2 y3 y4 y5 y6
    refine (rwire_any c hse (frameB c p l) A4 k4 c4 w6 G6.out HFb.out HN4.out.1 (by have := HN4.out.1; have := HFl.out; omega)).mono ?_
    rintro e w7 ⟨A7, c7, k7, rfl, hN7⟩
    have HN7 := Lib.hid hN7
    have T7 := Lib.hid (T6.out.step hN7.2.2.2)
    have W7 := Lib.hid (W6.out.on hN7.2.2.2)
    clear hN7
    go_wp2_with fail
    refine (equal_yes (wireB c (frameB c p l)) (wireB c (frameB c p l)) k5 k7 _ _ _ _ _ W7.out HN7.out.2.2.1 HN5.out.1 HN7.out.1 (by omega) rfl).mono ?_
    rintro e w8 ⟨rfl, hb8⟩
    have T8 := Lib.hid (T7.out.step hb8)
    clear hb8
    obtain ⟨x0, x1, x2, x3, x4, x5, x6⟩ := T8.out.a.all
    obtain ⟨y0, y1, y2, y3, y4, y5, y6⟩ := T8.out.x.all
    go_wp2_with fail
    clear x0 x1 x2 x3 x4 x5 x6 y0 y1 y2 y3 y4 y5 y6
    refine (parse_v c hc l2 g1 g2 g3 hg.out A2 n2 cp2 _ (HR2.out.on T8.out.bel) HBy2.out HL2.out hcp (by omega) (HT.out.below T8.out.bel)).mono ?_
    rintro e w9 ⟨A9, c9, k9, rfl, hl9, hr9, hb9⟩
    have HL9 := Lib.hid hl9
    have hk9 : k9 ≤ 400 := by rw [← hl9]; exact HG2.out
    have T9 := Lib.hid (T8.out.step hb9)
    clear hl9 hb9
    obtain ⟨x0, x1, x2, x3, x4, x5, x6⟩ := T9.out.a.all
    obtain ⟨y0, y1, y2, y3, y4, y5, y6⟩ := T9.out.x.all
    go_wp2_with fail
    clear x0 x1 x2 x3 x4 x5 x6 y0 y1 y2 y3 y4 y5 y6
    refine (rparse_v c hc l2 g1 g2 g3 hg.out A2 n2 cp2 _ (HR2.out.on T9.out.bel) HBy2.out HL2.out hcp (by omega)).mono ?_
    rintro e w10 ⟨A10, c10, k10, rfl, hl10, hr10, hb10⟩
    have HL10 := Lib.hid hl10
    have hr9' := hr9.on hb10
    have T10 := Lib.hid (T9.out.step hb10)
    clear hl10 hb10
    go_wp2_with fail
    refine (equal_yes g2 g2 k9 k10 _ _ _ _ _ hr9' hr10 HL9.out HL10.out (by omega) rfl).mono ?_
    rintro e w11 ⟨rfl, hb11⟩
    go_wp2_with fail
    go_ret
    exact ⟨rfl, (T10.out.step hb11).bel⟩

  · have hno : rightB p = true → c.mru < (n : Int) := fun h1 => by
      by_cases h2 : c.mru < (n : Int)
      · exact h2
      · exact absurd ⟨h1, by omega⟩ hok
    have hz0 := bErr_pos p
    obtain ⟨z, hz⟩ : ∃ z, Hid (bErr p = z) := ⟨_, Lib.hid rfl⟩
    rw [hz.out] at hz0
    have hz1 : ((z : Int) != 0) = true := by rw [bne_iff_ne]; omega
    have hz2 : ((z : Int) == 0) = false := by rw [beq_eq_false_iff_ne]; omega
    have HNo := Lib.hid hno
    clear hno hok hz0
    go_enter Tryd.func3, Tryd.ntmps3
    go_wp2_with fail
    refine (HS _ C0.out.bel).mono ?_
    rintro e w1 ⟨rfl, hb1⟩
    have C1 := Lib.hid (C0.out.step hb1)
    obtain ⟨x0, x1, x2, x3, x4, x5, x6⟩ := C1.out.x.all
    clear hb1
    go_wp2_with fail
    refine (rcheck_any c _).mono ?_
    rintro e w2 ⟨rfl, hb2⟩
    rw [HZ.out]
    have C2 := Lib.hid (C1.out.step hb2)
    clear hb2 x0 x1 x2 x3 x4 x5 x6
    obtain ⟨x0, x1, x2, x3, x4, x5, x6⟩ := C2.out.x.all
    have T2 := Lib.hid (show Two w (w2.alloc (c.obj 29)) w.heap.size w2.heap.size c from ⟨C2.out.x.al _, Bx.new _ _ _, C2.out.bel.alloc C2.out.bel.size _⟩)
    go_wp2_with fail
    clear x0 x1 x2 x3 x4 x5 x6
    refine (build_no c p hp A n cp _ HNo.out).mono ?_
    rintro e w3 ⟨rfl, hb3⟩
    rw [hz.out]
    have T3 := Lib.hid (T2.out.step hb3)
    clear hb3
    obtain ⟨x0, x1, x2, x3, x4, x5, x6⟩ := T3.out.a.all
    obtain ⟨y0, y1, y2, y3, y4, y5, y6⟩ := T3.out.x.all
    go_wp2_with fail
    clear x0 x1 x2 x3 x4 x5 x6 y0 y1 y2 y3 y4 y5 y6
    refine (rbuild_no c p hp A n cp _ HNo.out).mono ?_
    rintro e w4 ⟨rfl, hb4⟩
    rw [hz.out]
    have T4 := Lib.hid (T3.out.step hb4)
    clear hb4
    obtain ⟨x0, x1, x2, x3, x4, x5, x6⟩ := T4.out.a.all
    obtain ⟨y0, y1, y2, y3, y4, y5, y6⟩ := T4.out.x.all
    go_wp2_with fail
    clear x0 x1 x2 x3 x4 x5 x6 y0 y1 y2 y3 y4 y5 y6
    refine (wire_no c p hp A n cp _ HNo.out).mono ?_
    rintro e w5 ⟨rfl, hb5⟩
    rw [hz.out]
    have T5 := Lib.hid (T4.out.step hb5)
    clear hb5
    obtain ⟨x0, x1, x2, x3, x4, x5, x6⟩ := T5.out.a.all
    obtain ⟨y0, y1, y2, y3, y4, y5, y6⟩ := T5.out.x.all
    go_wp2_with fail
    refine (equal_yes [] [] 0 0 _ _ _ _ _ Rd.nil Rd.nil rfl rfl (by omega) rfl).mono ?_
    rintro e w8 ⟨rfl, hb8⟩
    have T8 := Lib.hid (T5.out.step hb8)
    clear hb8
    clear x0 x1 x2 x3 x4 x5 x6 y0 y1 y2 y3 y4 y5 y6
    obtain ⟨x0, x1, x2, x3, x4, x5, x6⟩ := T8.out.a.all
    obtain ⟨y0, y1, y2, y3, y4, y5, y6⟩ := T8.out.x.all
    go_wp2_with fail
    clear x0 x1 x2 x3 x4 x5 x6 y0 y1 y2 y3 y4 y5 y6
    refine (parse_v c hc l2 g1 g2 g3 hg.out A2 n2 cp2 _ (HR2.out.on T8.out.bel) HBy2.out HL2.out hcp (by omega) (HT.out.below T8.out.bel)).mono ?_
    rintro e w9 ⟨A9, c9, k9, rfl, hl9, hr9, hb9⟩
    have HL9 := Lib.hid hl9
    have hk9 : k9 ≤ 400 := by rw [← hl9]; exact HG2.out
    have T9 := Lib.hid (T8.out.step hb9)
    clear hl9 hb9
    obtain ⟨x0, x1, x2, x3, x4, x5, x6⟩ := T9.out.a.all
    obtain ⟨y0, y1, y2, y3, y4, y5, y6⟩ := T9.out.x.all
    go_wp2_with fail
    clear x0 x1 x2 x3 x4 x5 x6 y0 y1 y2 y3 y4 y5 y6
    refine (rparse_v c hc l2 g1 g2 g3 hg.out A2 n2 cp2 _ (HR2.out.on T9.out.bel) HBy2.out HL2.out hcp (by omega)).mono ?_
    rintro e w10 ⟨A10, c10, k10, rfl, hl10, hr10, hb10⟩
    have HL10 := Lib.hid hl10
    have hr9' := hr9.on hb10
    have T10 := Lib.hid (T9.out.step hb10)
    clear hl10 hb10
    go_wp2_with fail
    refine (equal_yes g2 g2 k9 k10 _ _ _ _ _ hr9' hr10 HL9.out HL10.out (by omega) rfl).mono ?_
    rintro e w11 ⟨rfl, hb11⟩
    go_wp2_with fail
    go_ret
    exact ⟨rfl, (T10.out.step hb11).bel⟩

end Go.Proofs.YtkakkligndejaaaDoor
