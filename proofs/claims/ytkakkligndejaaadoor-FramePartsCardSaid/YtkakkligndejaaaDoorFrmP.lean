
/-
  The walk of the statement FrameParts. Conditions: the tables hold what the start-up lays ('Tabs'); numbers that Go's types have.
-/
import Derived.Test.YtkakkligndejaaaDoorFrq
import Derived.Test.YtkakkligndejaaaDoorFrw
namespace Go.Proofs.YtkakkligndejaaaDoor
open Go.RowKit

set_option maxHeartbeats 1000000 in
theorem fparts_early (c : Cf) (A : Option Addr) (n cp : Nat) (w : World) (hT : Tabs w) (h : c.may → 400 < n) :
    Calls Tryd.prog 6 #[c.val, .slice A n cp] w fun e w' => e = .returned (.bool true) ∧ Below w.heap.size w w' := by
  have C0 := Lib.hid (show One w (w.alloc (c.obj 24)) w.heap.size 24 c from ⟨Bx.new _ _ _, (Below.refl _ _).alloc (Nat.le_refl _) _⟩)
  have HT := Lib.hid hT
  clear hT
  have HS := fun (W : World) (hB : Below w.heap.size w W) => speaks11_any W (HT.out.below hB)
  have key : (¬ c.may) ∨ (c.may ∧ (400 : Int) < (n : Int)) := by
    by_cases h1 : c.may
    · exact .inr ⟨h1, by have := h h1; omega⟩
    · exact .inl h1
  clear h
  rcases key with hc | ⟨hc, h2⟩
  all_goals
    first | have HZ := Lib.hid (chk_not hc) | have HZ := Lib.hid (chk_may hc)
    go_enter Tryd.func6, Tryd.ntmps6
    go_wp2_with fail
    refine (HS _ C0.out.bel).mono ?_
    rintro e w1 ⟨rfl, hb1⟩
    have C1 := Lib.hid (C0.out.step hb1)
    obtain ⟨x0, x1, x2, x3, x4, x5, x6⟩ := C1.out.x.all
    clear hb1
    go_wp2_with fail
    refine (rcheck_any c _).mono ?_
    rintro e w2 ⟨rfl, hb2⟩
    rw [HZ.out]
    have C2 := Lib.hid (C1.out.step hb2)
    clear hb2
    go_wp2_with fail
    refine (HS _ C2.out.bel).mono ?_
    rintro e w3 ⟨rfl, hb3⟩
    go_wp2_with fail
    go_ret
    exact ⟨rfl, (C2.out.step hb3).bel⟩

set_option maxHeartbeats 4000000 in
theorem fparts_walk (c : Cf) (hc : c.may) (l : List Nat) (A : Option Addr) (n cp : Nat) (w : World) (hT : Tabs w)
    (hl : l.length = n) (hb : By l) (h : Rd w w.heap.size A l) (h4 : n ≤ 400) :
    Calls Tryd.prog 6 #[c.val, .slice A n cp] w fun e w' => e = .returned (.bool true) ∧ Below w.heap.size w w' := by
  obtain ⟨i0, hi, hz0, hz1, hz2⟩ := info_parts byte_info
  have C0 := Lib.hid (show One w (w.alloc (c.obj 24)) w.heap.size 24 c from ⟨Bx.new _ _ _, (Below.refl _ _).alloc (Nat.le_refl _) _⟩)
  have HT := Lib.hid hT
  have HS := fun (W : World) (hB : Below w.heap.size w W) => speaks11_any W (HT.out.below hB)
  have HZ := Lib.hid (chk_may hc)
  have HL := Lib.hid hl
  have HBy := Lib.hid hb
  have HR := Lib.hid h
  have h4' : ¬ (400 : Int) < (n : Int) := by omega
  have HP := Lib.hid (parse_again c l hb)
  have hzw := size_pos c.wide
  have HTb := Lib.hid (show By (trail c.wide (sumW c.wide l)) from trail_by c.wide _ (sumW_lt (wide := c.wide) hb))
  obtain ⟨z, hz⟩ : ∃ z, Hid (sizeW c.wide = z) := ⟨_, Lib.hid rfl⟩
  obtain ⟨t, ht⟩ : ∃ t, Hid (trail c.wide (sumW c.wide l) = t) := ⟨_, Lib.hid rfl⟩
  obtain ⟨g1, g2, g3, hg⟩ : ∃ g1 g2 g3, Hid (parseB c (l ++ t) = (g1, g2, g3)) := ⟨_, _, _, Lib.hid rfl⟩
  have hHP := HP.out
  rw [ht.out, hg.out, hz.out] at hHP
  rw [hz.out] at hzw
  rw [ht.out] at HTb
  have HQ := Lib.hid hHP
  clear hHP HP hl hb h hT
  have HTr := fun (W : World) (B : Option Addr) (k : Nat) (hr : Rd W W.heap.size B l) (hT : Tabs W) => trailer_z c.wide l n z B k W hz.out hr HBy.out HL.out (by omega) hT
  rw [ht.out] at HTr
  go_enter Tryd.func6, Tryd.ntmps6
  go_wp2_with fail
  refine (HS _ C0.out.bel).mono ?_
  rintro e w1 ⟨rfl, hb1⟩
  have C1 := Lib.hid (C0.out.step hb1)
  obtain ⟨x0, x1, x2, x3, x4, x5, x6⟩ := C1.out.x.all
  clear hb1
  go_wp2_with fail
  refine (rcheck_any c _).mono ?_
  rintro e w2 ⟨rfl, hb2⟩
  rw [HZ.out]
  have C2 := Lib.hid (C1.out.step hb2)
  clear hb2 x0 x1 x2 x3 x4 x5 x6
  obtain ⟨x0, x1, x2, x3, x4, x5, x6⟩ := C2.out.x.all
  have T2 := Lib.hid (show Two w (w2.alloc (c.obj 29)) w.heap.size w2.heap.size c from ⟨C2.out.x.al _, Bx.new _ _ _, C2.out.bel.alloc C2.out.bel.size _⟩)
  go_wp2_with fail
  clear x0 x1 x2 x3 x4 x5 x6
  obtain ⟨b2, hb2⟩ : ∃ b, Hid (w2.heap.size = b) := ⟨_, Lib.hid rfl⟩
  rw [hb2.out] at T2 ⊢
  refine at_world (fun W => Hid (Two w W w.heap.size b2 c)) T2 ?_
  clear T2 C2 C1 C0 hb2
  intro w3 T
  have HO := Lib.hid (show (w3.drew.alloc (.cells #[] 5)).ownsRow w3.heap.size 5 1 (.slice (some ⟨w3.heap.size, 0, none⟩) 0 0) 0 (bvs []) from World.ownsRow_lit w3.drew #[] 0 (Nat.le_refl _) (by unfold maxLen; omega) rfl)
  have HB := Lib.hid (show Below w3.heap.size w3 (w3.drew.alloc (.cells #[] 5)) from (Below.refl _ _).drew.alloc (Nat.le_refl _) _)
  obtain ⟨x0, x1, x2, x3, x4, x5, x6⟩ := T.out.a.all
  have n0 := T.out.a.lt
  go_region_held3 (fun W => W.cell? ⟨w.heap.size, 1, none⟩ = some (.bool c.wide)) (first | exact (T.out.step HB.out).a.all.2.1 | exact T.out.drew.a.all.2.1 | exact T.out.a.all.2.1) (first
    | (have _g := HO.out; clear _g; (refine step_app _ (by rfl) _ _ _ (by rfl) _ i0 Tryd.underlying26 hi hz0 hz1 hz2 _ _ 0 [] (by rfl) HO.out _ _ n _ l (by rfl) (HR.out.on (T.out.step HB.out).bel) HL.out (by omega) HB.out.size ?_); intro A4 c4 w4 ho4 hg4; rw [List.nil_append, Nat.zero_add] at ho4; rw [Nat.zero_add]; replace HB := Lib.hid (app_below HB.out (Nat.le_refl _) HO.out hg4); have HO4 := Lib.hid ho4; clear hg4 HO ho4)
    | (go_at_call 20; (with_reducible refine (HTr _ _ _ (HR.out.on (T.out.step HB.out).bel) (HT.out.below (T.out.step HB.out).bel)).mono ?_); rintro e w5 ⟨A5, c5, rfl, hN5⟩; replace HB := Lib.hid (HB.out.trans (hN5.2.2.2.mono HB.out.size)); replace HO4 := Lib.hid (own_below HO4.out hN5.2.2.2); have HN5 := Lib.hid hN5; clear hN5; dsimp only)
    | (have _g := HN5.out; clear _g; (refine step_app _ (by rfl) _ _ _ (by rfl) _ i0 Tryd.underlying26 hi hz0 hz1 hz2 _ _ n l (by rfl) HO4.out _ _ z _ t (by rfl) HN5.out.2.2.1 HN5.out.1 (by omega) HB.out.size ?_); intro A6 c6 w6 ho6 hg6; replace HB := Lib.hid (app_below HB.out (Nat.le_refl _) HO4.out hg6); have HO6 := Lib.hid ho6; clear hg6 HO4 ho6))
  have T6 := Lib.hid (T.out.step HB.out)
  have hWl := Lib.hid (show (l ++ t).length = n + z by have := HO6.out.1; rw [bvs_len] at this; omega)
  have hcap := own_cap HO6.out
  have HG2 := Lib.hid (show g2.length ≤ n + z by have := parseB_len c (l ++ t); rw [hg.out, hWl.out] at this; exact this)
  clear x0 x1 x2 x3 x4 x5 x6 n0 T HB
  obtain ⟨x0, x1, x2, x3, x4, x5, x6⟩ := T6.out.a.all
  obtain ⟨y0, y1, y2, y3, y4, y5, y6⟩ := T6.out.x.all
  go_wp2_with fail
  clear x0 x1 x2 x3 x4 x5 x6 y0 y1 y2 y3 y4 y5 y6
  refine (parse_v c hc (l ++ t) g1 g2 g3 hg.out A6 (n + z) c6 _ (Rd.own HO6.out) (HBy.out.app HTb.out) hWl.out hcap (by omega) (HT.out.below T6.out.bel)).mono ?_
  rintro e w7 ⟨A7, c7, k7, rfl, hl7, hr7, hb7⟩
  have T7 := Lib.hid (T6.out.step hb7)
  have HL7 := Lib.hid hl7
  have hk7 : k7 ≤ n + z := by rw [← hl7]; exact HG2.out
  have HR7 := Lib.hid hr7
  clear hl7 hr7 hb7 HO6 hcap
  by_cases h0 : g3 = 0
  case neg =>
    obtain ⟨q1, q2, q3⟩ := HQ.out.1 h0
    subst q1; subst q2
    obtain rfl : k7 = 0 := HL7.out.symm
    have e1 : ((g3 : Int) != 0) = true := by rw [bne_iff_ne]; omega
    have e2 : ((g3 : Int) != 6) = true := by rw [bne_iff_ne]; omega
    go_wp2_with fail
    go_ret
    exact ⟨rfl, T7.out.bel⟩
  case pos =>
    obtain ⟨q1, q2, q3, q4, q5⟩ := HQ.out.2 h0
    subst h0
    have hmr : ¬ c.mru < (k7 : Int) := by have := HL7.out; omega
    have HY := Lib.hid q4
    have hmr2 := Lib.hid (show (k7 : Int) ≤ c.mru by omega)
    have HW := Lib.hid (parse_frame c c g1 g2 q2 rfl (fun h => h) (fun h => h) q3)
    have HF := Lib.hid (frameB_by c q1 q4)
    have HFl := Lib.hid (frameB_len c g1 g2)
    have hpl := hputB_len c g1
    have HFq := Lib.hid q5
    clear q3 q4 q5
    obtain ⟨x0, x1, x2, x3, x4, x5, x6⟩ := T7.out.a.all
    obtain ⟨y0, y1, y2, y3, y4, y5, y6⟩ := T7.out.x.all
    go_wp2_with fail
    clear x0 x1 x2 x3 x4 x5 x6 y0 y1 y2 y3 y4 y5 y6
    refine (build_ok c g1 q1 g2 A7 k7 c7 _ HR7.out HY.out HL7.out (by omega) q2 hmr2.out (HT.out.below T7.out.bel)).mono ?_
    rintro e w8 ⟨A8, c8, k8, rfl, hN8⟩
    have hk8 : k8 ≤ 1000 := by have h1 := hN8.1; have h2 := HFl.out; have h3 := HL7.out; have h4 := size_pos c.wide; omega
    have T8 := Lib.hid (T7.out.step hN8.2.2.2)
    have HR8 := Lib.hid (HR7.out.on hN8.2.2.2)
    have HN8 := Lib.hid hN8
    have hle : k8 ≤ n + z ∨ g1 = 49185 := by
      have := HFq.out
      rw [hN8.1, HL.out] at this
      exact this
    clear hN8
    obtain ⟨x0, x1, x2, x3, x4, x5, x6⟩ := T8.out.a.all
    obtain ⟨y0, y1, y2, y3, y4, y5, y6⟩ := T8.out.x.all
    go_wp2_with (go_at_call 16; (with_reducible refine (rright_v g1 true q1 q2 _).mono ?_); rintro e w' ⟨rfl, rfl⟩)
    clear x0 x1 x2 x3 x4 x5 x6 y0 y1 y2 y3 y4 y5 y6
    refine (parse_v c hc (frameB c g1 g2) g1 g2 0 HW.out A8 k8 c8 _ HN8.out.2.2.1 HF.out HN8.out.1 (own_cap HN8.out.2.1) (by omega) (HT.out.below T8.out.bel)).mono ?_
    rintro e w9 ⟨A9, c9, k9, rfl, hl9, hr9, hb9⟩
    have T9 := Lib.hid (T8.out.step hb9)
    have HR9 := Lib.hid (HR8.out.on hb9)
    have HL9 := Lib.hid hl9
    clear hb9 hl9
    go_wp2_with fail
    refine (equal_yes g2 g2 k9 k7 _ _ _ _ _ hr9 HR9.out HL9.out HL7.out (by have := HL9.out; have := HL7.out; omega) rfl).mono ?_
    rintro e w10 ⟨rfl, hb10⟩
    have hB := (T9.out.step hb10).bel
    rcases hle with hle | rfl
    · have e1 : (k8 : Int) ≤ ((n + z : Nat) : Int) := by omega
      have e2 : (k8 : Int) ≤ (n : Int) + (z : Int) := by omega
      go_wp2_with fail
      go_ret
      exact ⟨rfl, hB⟩
    · go_wp2_with fail
      all_goals
        go_ret
        exact ⟨by simp, hB⟩

end Go.Proofs.YtkakkligndejaaaDoor
