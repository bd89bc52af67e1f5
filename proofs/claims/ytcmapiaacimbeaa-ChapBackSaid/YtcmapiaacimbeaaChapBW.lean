
/-
  ChapBack's walk. No condition.
-/
import Derived.Test.YtcmapiaacimbeaaChpG
import Derived.Test.YtcmapiaacimbeaaPktH
import Derived.Deep.CutRange
import Derived.Deep.RegionHeld3
namespace Go.Proofs.Ytcmapiaacimbeaa
open Go.RowKit
set_option linter.unusedVariables false


set_option maxHeartbeats 4000000 in
theorem chback_few (p : Pk) (q : Pl) (A1 : Option Addr) (n1 c1 : Nat) (A2 : Option Addr) (n2 c2 : Nat) (w : World) (h : IsPk w p q) (hf : fewP p = false) :
    Calls Try.prog 4 #[p.val q, .slice A1 n1 c1, .slice A2 n2 c2] w fun e w' => e = .returned (.bool true) ∧ Below w.heap.size w w' := by
  have C := Lib.hid (BxC.made 28 w p q)
  have H := Lib.hid h.pw
  have hno := h.no
  have HD := Lib.hid h.od
  have HF := Lib.hid hf
  clear hf
  clear h
  go_enter Try.func4, Try.ntmps4
  go_wp2_with (first
    | (go_at_call 6; (with_reducible refine (speaks18 _).mono ?_); rintro e wn ⟨rfl, hb⟩; replace C := Lib.hid (C.out.step hb); clear hb; (try clear x0 x1 x2 x3 x4 x5 x6 x7 x8 x9); obtain ⟨x0, x1, x2, x3, x4, x5, x6, x7, x8, x9⟩ := C.out.cf.all)
    | (go_at_call 7; (with_reducible refine (few15_any p q _ (H.out.on C.out.bel) hno HD.out _ HF.out).mono ?_); rintro e wn ⟨rfl, hb⟩; replace C := Lib.hid (C.out.step hb); clear hb; (try clear x0 x1 x2 x3 x4 x5 x6 x7 x8 x9); obtain ⟨x0, x1, x2, x3, x4, x5, x6, x7, x8, x9⟩ := C.out.cf.all))
  go_ret
  exact ⟨rfl, C.out.bel⟩

set_option maxHeartbeats 4000000 in
theorem chback_long1 (p : Pk) (q : Pl) (A1 : Option Addr) (n1 c1 : Nat) (A2 : Option Addr) (n2 c2 : Nat) (w : World) (h : IsPk w p q) (hf : fewP p = true) (h1 : 600 < n1) :
    Calls Try.prog 4 #[p.val q, .slice A1 n1 c1, .slice A2 n2 c2] w fun e w' => e = .returned (.bool true) ∧ Below w.heap.size w w' := by
  have C := Lib.hid (BxC.made 28 w p q)
  have H := Lib.hid h.pw
  have hno := h.no
  have HD := Lib.hid h.od
  have HF := Lib.hid hf
  have j1 : (600 : Int) < (n1 : Int) := by omega
  clear hf h1
  clear h
  go_enter Try.func4, Try.ntmps4
  go_wp2_with (first
    | (go_at_call 6; (with_reducible refine (speaks18 _).mono ?_); rintro e wn ⟨rfl, hb⟩; replace C := Lib.hid (C.out.step hb); clear hb; (try clear x0 x1 x2 x3 x4 x5 x6 x7 x8 x9); obtain ⟨x0, x1, x2, x3, x4, x5, x6, x7, x8, x9⟩ := C.out.cf.all)
    | (go_at_call 7; (with_reducible refine (few15_any p q _ (H.out.on C.out.bel) hno HD.out _ HF.out).mono ?_); rintro e wn ⟨rfl, hb⟩; replace C := Lib.hid (C.out.step hb); clear hb; (try clear x0 x1 x2 x3 x4 x5 x6 x7 x8 x9); obtain ⟨x0, x1, x2, x3, x4, x5, x6, x7, x8, x9⟩ := C.out.cf.all))
  go_ret
  exact ⟨rfl, C.out.bel⟩

set_option maxHeartbeats 4000000 in
theorem chback_long2 (p : Pk) (q : Pl) (A1 : Option Addr) (n1 c1 : Nat) (A2 : Option Addr) (n2 c2 : Nat) (w : World) (h : IsPk w p q) (hf : fewP p = true) (h1 : n1 ≤ 600) (h2 : 600 < n2) :
    Calls Try.prog 4 #[p.val q, .slice A1 n1 c1, .slice A2 n2 c2] w fun e w' => e = .returned (.bool true) ∧ Below w.heap.size w w' := by
  have C := Lib.hid (BxC.made 28 w p q)
  have H := Lib.hid h.pw
  have hno := h.no
  have HD := Lib.hid h.od
  have HF := Lib.hid hf
  have j1 : ¬ (600 : Int) < (n1 : Int) := by omega
  have j2 : (600 : Int) < (n2 : Int) := by omega
  clear hf h1 h2
  clear h
  go_enter Try.func4, Try.ntmps4
  go_wp2_with (first
    | (go_at_call 6; (with_reducible refine (speaks18 _).mono ?_); rintro e wn ⟨rfl, hb⟩; replace C := Lib.hid (C.out.step hb); clear hb; (try clear x0 x1 x2 x3 x4 x5 x6 x7 x8 x9); obtain ⟨x0, x1, x2, x3, x4, x5, x6, x7, x8, x9⟩ := C.out.cf.all)
    | (go_at_call 7; (with_reducible refine (few15_any p q _ (H.out.on C.out.bel) hno HD.out _ HF.out).mono ?_); rintro e wn ⟨rfl, hb⟩; replace C := Lib.hid (C.out.step hb); clear hb; (try clear x0 x1 x2 x3 x4 x5 x6 x7 x8 x9); obtain ⟨x0, x1, x2, x3, x4, x5, x6, x7, x8, x9⟩ := C.out.cf.all))
  go_ret
  exact ⟨rfl, C.out.bel⟩

set_option maxRecDepth 4000 in
set_option maxHeartbeats 40000000 in
theorem chback_yes_yes (p : Pk) (q : Pl) (l1 : List Nat) (A1 : Option Addr) (n1 c1 : Nat) (b : List Nat) (A2 : Option Addr) (n2 c2 : Nat) (w : World) (h : IsPk w p q) (hR1 : Rd w w.heap.size A1 l1) (hB1 : By l1) (hL1 : l1.length = n1) (hR2 : Rd w w.heap.size A2 b) (hB2 : By b) (hL2 : b.length = n2) (hc2 : n2 ≤ c2) (hf : fewP p = true) (h1 : n1 ≤ 600) (h2 : n2 ≤ 600) (m : List Nat) (k : Nat) (hm : chputB p = (m, k)) (hk : k = 0) (y : Pk) (k2 : Nat) (hy : chgetB b = (y, k2)) (hk2 : k2 = 0) :
    Calls Try.prog 4 #[p.val q, .slice A1 n1 c1, .slice A2 n2 c2] w fun e w' => e = .returned (.bool true) ∧ Below w.heap.size w w' := by
  obtain ⟨i0, hi, hz0, hz1, hz2⟩ := info_parts byte_info
  have C := Lib.hid (BxC.made 28 w p q)
  have H := Lib.hid h.pw
  have hno := h.no
  have HD := Lib.hid h.od
  have HK := Lib.hid h.ok
  have HF := Lib.hid hf
  have HS := Lib.hid (fewP_sm hf)
  have HR1 := Lib.hid hR1
  have HL1 := Lib.hid hL1
  have HR2 := Lib.hid hR2
  have HB2 := Lib.hid hB2
  have HL2 := Lib.hid hL2
  have hno2 : q.no ≤ 1073741824 := by rw [← h.pw.lo]; exact (fewP_sm hf).o
  have j1 : ¬ (600 : Int) < (n1 : Int) := by omega
  have j2 : ¬ (600 : Int) < (n2 : Int) := by omega
  have HY := Lib.hid (chget_ok hB2 hy (by omega))
  subst hk
  have HM := Lib.hid hm
  obtain ⟨n, hn⟩ : ∃ n, Hid (m.length = n) := ⟨_, Lib.hid rfl⟩
  have n9 : n ≤ 2000 := by rw [← hn.out]; exact chput_len hm hf
  have HG := Lib.hid (chget_put hm l1)
  have HBab := Lib.hid ((chput_by h.ok hm).app hB1)
  obtain ⟨s, hs⟩ : ∃ s, n + n1 = s := ⟨_, rfl⟩
  have SL := Lib.hid (show (m ++ l1).length = s by rw [List.length_append, hn.out, hL1, hs])
  subst hk2
  have HGY := Lib.hid hy
  obtain ⟨m2, hm2, hle2, htk2⟩ := chput_get hB2 hy
  have HM2 := Lib.hid hm2
  obtain ⟨n3, hn3⟩ : ∃ n3, Hid (m2.length = n3) := ⟨_, Lib.hid rfl⟩
  have n39 : n3 ≤ n2 := by rw [← hn3.out, ← hL2]; exact hle2
  have HT := Lib.hid (show m2 = b.take n3 by rw [← hn3.out]; exact htk2)
  have HT2 := Lib.hid (show (b.take n3).length = n3 by rw [List.length_take, hL2]; omega)
  have g1 : (n3 : Int) ≤ (n2 : Int) := by omega
  have g2 : (n3 : Int) ≤ (c2 : Int) := by omega
  have g3 : (0 : Int) ≤ (n3 : Int) := by omega
  clear hm2 hle2 htk2
  clear h hR1 hB1 hL1 hR2 hB2 hL2 hf hm hy 
  go_enter Try.func4, Try.ntmps4
  go_wp2_with (first
    | (go_at_call 6; (with_reducible refine (speaks18 _).mono ?_); rintro e wn ⟨rfl, hb⟩; replace C := Lib.hid (C.out.step hb); clear hb; (try clear x0 x1 x2 x3 x4 x5 x6 x7 x8 x9); obtain ⟨x0, x1, x2, x3, x4, x5, x6, x7, x8, x9⟩ := C.out.cf.all)
    | (go_at_call 7; (with_reducible refine (few15_any p q _ (H.out.on C.out.bel) hno HD.out _ HF.out).mono ?_); rintro e wn ⟨rfl, hb⟩; replace C := Lib.hid (C.out.step hb); clear hb; (try clear x0 x1 x2 x3 x4 x5 x6 x7 x8 x9); obtain ⟨x0, x1, x2, x3, x4, x5, x6, x7, x8, x9⟩ := C.out.cf.all)
    | (go_at_call 9; (with_reducible refine (of15_any p q _ (H.out.on C.out.bel) hno2).mono ?_); rintro e wn ⟨r, rfl, hp, hb⟩; have P := Lib.hid hp; replace C := Lib.hid (C.out.step hb); clear hp hb; clear x0 x1 x2 x3 x4 x5 x6 x7 x8 x9; obtain ⟨x0, x1, x2, x3, x4, x5, x6, x7, x8, x9⟩ := C.out.cf.all)
    | (go_at_call 8; (with_reducible refine (chput_any p r _ P.out HS.out m _ HM.out n hn.out).mono ?_); rintro e wn ⟨A5, c5, rfl, h5, h5c, hb⟩; replace C := Lib.hid (C.out.step hb); have X5 := Lib.hid h5; have HO := Lib.hid (show (wn.alloc (.cells #[] 5)).ownsRow wn.heap.size 5 1 (.slice (some ⟨wn.heap.size, 0, none⟩) 0 0) 0 (bvs []) from World.ownsRow_lit wn #[] 0 (Nat.le_refl _) (by unfold maxLen; omega) rfl); have HX := Lib.hid ((Below.refl wn.heap.size wn).alloc (Nat.le_refl _) (.cells #[] 5)); clear h5 h5c hb P; clear x0 x1 x2 x3 x4 x5 x6 x7 x8 x9)
    | (at_builtin; refine list_app rfl _ _ _ rfl _ i0 Try.underlying25 hi hz0 hz1 hz2 _ _ 0 [] rfl HO.out _ _ n _ m rfl (X5.out.below HX.out) hn.out (by omega) HX.out.size ?_; intro A6 c6 w6 ho6 hg6; rw [Nat.zero_add] at ho6; have HO6 := Lib.hid ho6; replace HX := Lib.hid (HX.out.grown hg6 HX.out.size (fun g hk => (HO.out.lt g hk).1)); clear ho6 hg6 HO X5)
    | (at_builtin; refine list_app rfl _ _ _ rfl _ i0 Try.underlying25 hi hz0 hz1 hz2 _ _ n _ rfl HO6.out _ _ n1 _ l1 rfl ((HR1.out.ons C.out.bel).below HX.out) HL1.out (by omega) HX.out.size ?_; intro A7 c7 w7 ho7 hg7; have hb := HX.out.grown hg7 HX.out.size (fun g hk => (HO6.out.lt g hk).1); replace C := Lib.hid (C.out.step hb); have Y := Lib.hid (show Rd w7 w7.heap.size A7 (m ++ l1) from Rd.own ho7); have hc7 := own_cap ho7; rw [hs] at hc7 ⊢; clear ho7 hg7 HX HO6 hb)
    | (go_at_call 11; (with_reducible refine (chget_any (m ++ l1) s c7 A7 _ Y.out HBab.out SL.out (by omega) hc7 p _ HG.out).mono ?_); rintro e w9 ⟨r1, rfl, hp1, hb⟩; have ba := (Below.refl w9.heap.size w9).alloc (Nat.le_refl _) (p.obj r1 36); have Z := Lib.hid (show BaL w (w9.alloc (p.obj r1 36)) w9.heap.size p q r1 from ⟨((C.out.step hb).step ba).bel, px_new w9 36 p r1, ((C.out.step hb).step ba).cf, hp1.pw.on ba⟩); clear hp1 hb ba Y hc7 C))
  obtain ⟨x0, x1, x2, x3, x4, x5, x6, x7, x8, x9, y0, y1, y2, y3, y4, y5, y6, y7, y8, y9⟩ := Z.out.flat
  go_region_held3 (fun W => W.cell? ⟨w9.heap.size, 0, none⟩ = some (.int .u16 (p.proto : Int)) ∧ W.cell? ⟨w9.heap.size, 1, none⟩ = some (.int .u8 (p.code : Int)) ∧ W.cell? ⟨w9.heap.size, 2, none⟩ = some (.int .u8 (p.id : Int)) ∧ W.cell? ⟨w9.heap.size, 3, none⟩ = some (.slice r1.ao r1.no r1.co) ∧ W.cell? ⟨w9.heap.size, 4, none⟩ = some (.int .u16 (p.sub : Int)) ∧ W.cell? ⟨w9.heap.size, 5, none⟩ = some (.int .u32 (p.magic : Int)) ∧ W.cell? ⟨w9.heap.size, 6, none⟩ = some (.slice r1.a1 r1.n1 r1.c1) ∧ W.cell? ⟨w9.heap.size, 7, none⟩ = some (.slice r1.a2 r1.n2 r1.c2) ∧ W.cell? ⟨w9.heap.size, 8, none⟩ = some (.slice r1.ad r1.nd r1.cd) ∧ W.cell? ⟨w9.heap.size, 9, none⟩ = some (.slice r1.an r1.nn r1.cn) ∧ W.cell? ⟨w.heap.size, 0, none⟩ = some (.int .u16 (p.proto : Int)) ∧ W.cell? ⟨w.heap.size, 1, none⟩ = some (.int .u8 (p.code : Int)) ∧ W.cell? ⟨w.heap.size, 2, none⟩ = some (.int .u8 (p.id : Int)) ∧ W.cell? ⟨w.heap.size, 3, none⟩ = some (.slice q.ao q.no q.co) ∧ W.cell? ⟨w.heap.size, 4, none⟩ = some (.int .u16 (p.sub : Int)) ∧ W.cell? ⟨w.heap.size, 5, none⟩ = some (.int .u32 (p.magic : Int)) ∧ W.cell? ⟨w.heap.size, 6, none⟩ = some (.slice q.a1 q.n1 q.c1) ∧ W.cell? ⟨w.heap.size, 7, none⟩ = some (.slice q.a2 q.n2 q.c2) ∧ W.cell? ⟨w.heap.size, 8, none⟩ = some (.slice q.ad q.nd q.cd) ∧ W.cell? ⟨w.heap.size, 9, none⟩ = some (.slice q.an q.nn q.cn)) (first | (with_reducible exact Z.out.flat) | (with_reducible exact Z.out.drew.flat)) (first
    | (go_at_call 15; (first | (with_reducible refine (to15_any p r1 _ Z.out.p1 (by rw [← Z.out.p1.lo]; exact HS.out.o)).mono ?_) | (with_reducible refine (to15_any p r1 _ Z.out.drew.p1 (by rw [← Z.out.p1.lo]; exact HS.out.o)).mono ?_)); rintro e wn ⟨r3, rfl, hp3, hb⟩; replace Z := Lib.hid (Z.out.step hb); have P3 := Lib.hid hp3; clear hp3 hb; dsimp only)
    | (go_at_call 14; (with_reducible refine (psame_yes p r3 q _ P3.out (H.out.on Z.out.bel) HS.out).mono ?_); rintro e wn ⟨rfl, hb⟩; replace Z := Lib.hid (Z.out.step hb); clear hb P3; dsimp only))
  have C := Lib.hid Z.out.bx
  clear Z x0 x1 x2 x3 x4 x5 x6 x7 x8 x9 y0 y1 y2 y3 y4 y5 y6 y7 y8 y9
  go_wp2_with (first
    | (go_at_call 11; (with_reducible refine (chget_any b n2 c2 A2 _ (HR2.out.ons C.out.bel) HB2.out HL2.out (by omega) hc2 y _ HGY.out).mono ?_); rintro e w11 ⟨q1, rfl, hp1, hb⟩; have ba := (Below.refl w11.heap.size w11).alloc (Nat.le_refl _) (y.obj q1 36); have P1 := Lib.hid (hp1.pw.on ba); obtain ⟨x0, x1, x2, x3, x4, x5, x6, x7, x8, x9⟩ := (px_new w11 36 y q1).all; replace C := Lib.hid ((C.out.step hb).step ba); clear hp1 hb ba)
    | (go_at_call 8; (with_reducible refine (chput_any y q1 _ P1.out HY.out.2 m2 _ HM2.out n3 hn3.out).mono ?_); rintro e wn ⟨A8, c8, rfl, h8, h8c, hb⟩; replace C := Lib.hid (C.out.step hb); have X8 := Lib.hid h8; clear h8 h8c hb P1; clear x0 x1 x2 x3 x4 x5 x6 x7 x8 x9)
    | (go_at_call 13; (with_reducible refine (equal_yes m2 (b.take n3) n3 n3 _ _ _ _ _ X8.out ((HR2.out.ons C.out.bel).take n3) hn3.out HT2.out (by omega) HT.out).mono ?_); rintro e wn ⟨rfl, hb⟩; replace C := Lib.hid (C.out.step hb); clear hb X8))
  go_ret
  exact ⟨rfl, C.out.bel⟩

set_option maxRecDepth 4000 in
set_option maxHeartbeats 40000000 in
theorem chback_yes_no (p : Pk) (q : Pl) (l1 : List Nat) (A1 : Option Addr) (n1 c1 : Nat) (b : List Nat) (A2 : Option Addr) (n2 c2 : Nat) (w : World) (h : IsPk w p q) (hR1 : Rd w w.heap.size A1 l1) (hB1 : By l1) (hL1 : l1.length = n1) (hR2 : Rd w w.heap.size A2 b) (hB2 : By b) (hL2 : b.length = n2) (hc2 : n2 ≤ c2) (hf : fewP p = true) (h1 : n1 ≤ 600) (h2 : n2 ≤ 600) (m : List Nat) (k : Nat) (hm : chputB p = (m, k)) (hk : k = 0) (y : Pk) (k2 : Nat) (hy : chgetB b = (y, k2)) (hk2 : ¬ k2 = 0) :
    Calls Try.prog 4 #[p.val q, .slice A1 n1 c1, .slice A2 n2 c2] w fun e w' => e = .returned (.bool true) ∧ Below w.heap.size w w' := by
  obtain ⟨i0, hi, hz0, hz1, hz2⟩ := info_parts byte_info
  have C := Lib.hid (BxC.made 28 w p q)
  have H := Lib.hid h.pw
  have hno := h.no
  have HD := Lib.hid h.od
  have HK := Lib.hid h.ok
  have HF := Lib.hid hf
  have HS := Lib.hid (fewP_sm hf)
  have HR1 := Lib.hid hR1
  have HL1 := Lib.hid hL1
  have HR2 := Lib.hid hR2
  have HB2 := Lib.hid hB2
  have HL2 := Lib.hid hL2
  have hno2 : q.no ≤ 1073741824 := by rw [← h.pw.lo]; exact (fewP_sm hf).o
  have j1 : ¬ (600 : Int) < (n1 : Int) := by omega
  have j2 : ¬ (600 : Int) < (n2 : Int) := by omega
  have HY := Lib.hid (chget_ok hB2 hy (by omega))
  subst hk
  have HM := Lib.hid hm
  obtain ⟨n, hn⟩ : ∃ n, Hid (m.length = n) := ⟨_, Lib.hid rfl⟩
  have n9 : n ≤ 2000 := by rw [← hn.out]; exact chput_len hm hf
  have HG := Lib.hid (chget_put hm l1)
  have HBab := Lib.hid ((chput_by h.ok hm).app hB1)
  obtain ⟨s, hs⟩ : ∃ s, n + n1 = s := ⟨_, rfl⟩
  have SL := Lib.hid (show (m ++ l1).length = s by rw [List.length_append, hn.out, hL1, hs])
  have HGY := Lib.hid hy
  have HY0 := Lib.hid (chget_err hy hk2)
  have jk2 : ((k2 : Int) != 0) = true := by rw [bne_iff_ne]; omega
  clear h hR1 hB1 hL1 hR2 hB2 hL2 hf hm hy hk2
  go_enter Try.func4, Try.ntmps4
  go_wp2_with (first
    | (go_at_call 6; (with_reducible refine (speaks18 _).mono ?_); rintro e wn ⟨rfl, hb⟩; replace C := Lib.hid (C.out.step hb); clear hb; (try clear x0 x1 x2 x3 x4 x5 x6 x7 x8 x9); obtain ⟨x0, x1, x2, x3, x4, x5, x6, x7, x8, x9⟩ := C.out.cf.all)
    | (go_at_call 7; (with_reducible refine (few15_any p q _ (H.out.on C.out.bel) hno HD.out _ HF.out).mono ?_); rintro e wn ⟨rfl, hb⟩; replace C := Lib.hid (C.out.step hb); clear hb; (try clear x0 x1 x2 x3 x4 x5 x6 x7 x8 x9); obtain ⟨x0, x1, x2, x3, x4, x5, x6, x7, x8, x9⟩ := C.out.cf.all)
    | (go_at_call 9; (with_reducible refine (of15_any p q _ (H.out.on C.out.bel) hno2).mono ?_); rintro e wn ⟨r, rfl, hp, hb⟩; have P := Lib.hid hp; replace C := Lib.hid (C.out.step hb); clear hp hb; clear x0 x1 x2 x3 x4 x5 x6 x7 x8 x9; obtain ⟨x0, x1, x2, x3, x4, x5, x6, x7, x8, x9⟩ := C.out.cf.all)
    | (go_at_call 8; (with_reducible refine (chput_any p r _ P.out HS.out m _ HM.out n hn.out).mono ?_); rintro e wn ⟨A5, c5, rfl, h5, h5c, hb⟩; replace C := Lib.hid (C.out.step hb); have X5 := Lib.hid h5; have HO := Lib.hid (show (wn.alloc (.cells #[] 5)).ownsRow wn.heap.size 5 1 (.slice (some ⟨wn.heap.size, 0, none⟩) 0 0) 0 (bvs []) from World.ownsRow_lit wn #[] 0 (Nat.le_refl _) (by unfold maxLen; omega) rfl); have HX := Lib.hid ((Below.refl wn.heap.size wn).alloc (Nat.le_refl _) (.cells #[] 5)); clear h5 h5c hb P; clear x0 x1 x2 x3 x4 x5 x6 x7 x8 x9)
    | (at_builtin; refine list_app rfl _ _ _ rfl _ i0 Try.underlying25 hi hz0 hz1 hz2 _ _ 0 [] rfl HO.out _ _ n _ m rfl (X5.out.below HX.out) hn.out (by omega) HX.out.size ?_; intro A6 c6 w6 ho6 hg6; rw [Nat.zero_add] at ho6; have HO6 := Lib.hid ho6; replace HX := Lib.hid (HX.out.grown hg6 HX.out.size (fun g hk => (HO.out.lt g hk).1)); clear ho6 hg6 HO X5)
    | (at_builtin; refine list_app rfl _ _ _ rfl _ i0 Try.underlying25 hi hz0 hz1 hz2 _ _ n _ rfl HO6.out _ _ n1 _ l1 rfl ((HR1.out.ons C.out.bel).below HX.out) HL1.out (by omega) HX.out.size ?_; intro A7 c7 w7 ho7 hg7; have hb := HX.out.grown hg7 HX.out.size (fun g hk => (HO6.out.lt g hk).1); replace C := Lib.hid (C.out.step hb); have Y := Lib.hid (show Rd w7 w7.heap.size A7 (m ++ l1) from Rd.own ho7); have hc7 := own_cap ho7; rw [hs] at hc7 ⊢; clear ho7 hg7 HX HO6 hb)
    | (go_at_call 11; (with_reducible refine (chget_any (m ++ l1) s c7 A7 _ Y.out HBab.out SL.out (by omega) hc7 p _ HG.out).mono ?_); rintro e w9 ⟨r1, rfl, hp1, hb⟩; have ba := (Below.refl w9.heap.size w9).alloc (Nat.le_refl _) (p.obj r1 36); have Z := Lib.hid (show BaL w (w9.alloc (p.obj r1 36)) w9.heap.size p q r1 from ⟨((C.out.step hb).step ba).bel, px_new w9 36 p r1, ((C.out.step hb).step ba).cf, hp1.pw.on ba⟩); clear hp1 hb ba Y hc7 C))
  obtain ⟨x0, x1, x2, x3, x4, x5, x6, x7, x8, x9, y0, y1, y2, y3, y4, y5, y6, y7, y8, y9⟩ := Z.out.flat
  go_region_held3 (fun W => W.cell? ⟨w9.heap.size, 0, none⟩ = some (.int .u16 (p.proto : Int)) ∧ W.cell? ⟨w9.heap.size, 1, none⟩ = some (.int .u8 (p.code : Int)) ∧ W.cell? ⟨w9.heap.size, 2, none⟩ = some (.int .u8 (p.id : Int)) ∧ W.cell? ⟨w9.heap.size, 3, none⟩ = some (.slice r1.ao r1.no r1.co) ∧ W.cell? ⟨w9.heap.size, 4, none⟩ = some (.int .u16 (p.sub : Int)) ∧ W.cell? ⟨w9.heap.size, 5, none⟩ = some (.int .u32 (p.magic : Int)) ∧ W.cell? ⟨w9.heap.size, 6, none⟩ = some (.slice r1.a1 r1.n1 r1.c1) ∧ W.cell? ⟨w9.heap.size, 7, none⟩ = some (.slice r1.a2 r1.n2 r1.c2) ∧ W.cell? ⟨w9.heap.size, 8, none⟩ = some (.slice r1.ad r1.nd r1.cd) ∧ W.cell? ⟨w9.heap.size, 9, none⟩ = some (.slice r1.an r1.nn r1.cn) ∧ W.cell? ⟨w.heap.size, 0, none⟩ = some (.int .u16 (p.proto : Int)) ∧ W.cell? ⟨w.heap.size, 1, none⟩ = some (.int .u8 (p.code : Int)) ∧ W.cell? ⟨w.heap.size, 2, none⟩ = some (.int .u8 (p.id : Int)) ∧ W.cell? ⟨w.heap.size, 3, none⟩ = some (.slice q.ao q.no q.co) ∧ W.cell? ⟨w.heap.size, 4, none⟩ = some (.int .u16 (p.sub : Int)) ∧ W.cell? ⟨w.heap.size, 5, none⟩ = some (.int .u32 (p.magic : Int)) ∧ W.cell? ⟨w.heap.size, 6, none⟩ = some (.slice q.a1 q.n1 q.c1) ∧ W.cell? ⟨w.heap.size, 7, none⟩ = some (.slice q.a2 q.n2 q.c2) ∧ W.cell? ⟨w.heap.size, 8, none⟩ = some (.slice q.ad q.nd q.cd) ∧ W.cell? ⟨w.heap.size, 9, none⟩ = some (.slice q.an q.nn q.cn)) (first | (with_reducible exact Z.out.flat) | (with_reducible exact Z.out.drew.flat)) (first
    | (go_at_call 15; (first | (with_reducible refine (to15_any p r1 _ Z.out.p1 (by rw [← Z.out.p1.lo]; exact HS.out.o)).mono ?_) | (with_reducible refine (to15_any p r1 _ Z.out.drew.p1 (by rw [← Z.out.p1.lo]; exact HS.out.o)).mono ?_)); rintro e wn ⟨r3, rfl, hp3, hb⟩; replace Z := Lib.hid (Z.out.step hb); have P3 := Lib.hid hp3; clear hp3 hb; dsimp only)
    | (go_at_call 14; (with_reducible refine (psame_yes p r3 q _ P3.out (H.out.on Z.out.bel) HS.out).mono ?_); rintro e wn ⟨rfl, hb⟩; replace Z := Lib.hid (Z.out.step hb); clear hb P3; dsimp only))
  have C := Lib.hid Z.out.bx
  clear Z x0 x1 x2 x3 x4 x5 x6 x7 x8 x9 y0 y1 y2 y3 y4 y5 y6 y7 y8 y9
  go_wp2_with (first
    | (go_at_call 11; (with_reducible refine (chget_any b n2 c2 A2 _ (HR2.out.ons C.out.bel) HB2.out HL2.out (by omega) hc2 y k2 HGY.out).mono ?_); rintro e w11 ⟨q1, rfl, hp1, hb⟩; have ba := (Below.refl w11.heap.size w11).alloc (Nat.le_refl _) (y.obj q1 36); have P1 := Lib.hid (hp1.pw.on ba); obtain ⟨x0, x1, x2, x3, x4, x5, x6, x7, x8, x9⟩ := (px_new w11 36 y q1).all; replace C := Lib.hid ((C.out.step hb).step ba); clear hp1 hb ba)
    | (go_at_call 15; (with_reducible refine (to15_any y q1 _ P1.out (by rw [← P1.out.lo]; exact HY.out.2.o)).mono ?_); rintro e wn ⟨q3, rfl, hp3, hb⟩; replace C := Lib.hid (C.out.step hb); have P3 := Lib.hid hp3; clear hp3 hb P1; clear x0 x1 x2 x3 x4 x5 x6 x7 x8 x9)
    | (go_at_call 14; (with_reducible refine (psame_zero y HY0.out q3 _ P3.out).mono ?_); rintro e wn ⟨rfl, hb⟩; replace C := Lib.hid (C.out.step hb); clear hb P3))
  go_ret
  exact ⟨rfl, C.out.bel⟩

set_option maxRecDepth 4000 in
set_option maxHeartbeats 40000000 in
theorem chback_no_yes (p : Pk) (q : Pl) (l1 : List Nat) (A1 : Option Addr) (n1 c1 : Nat) (b : List Nat) (A2 : Option Addr) (n2 c2 : Nat) (w : World) (h : IsPk w p q) (hR1 : Rd w w.heap.size A1 l1) (hB1 : By l1) (hL1 : l1.length = n1) (hR2 : Rd w w.heap.size A2 b) (hB2 : By b) (hL2 : b.length = n2) (hc2 : n2 ≤ c2) (hf : fewP p = true) (h1 : n1 ≤ 600) (h2 : n2 ≤ 600) (m : List Nat) (k : Nat) (hm : chputB p = (m, k)) (hk : ¬ k = 0) (y : Pk) (k2 : Nat) (hy : chgetB b = (y, k2)) (hk2 : k2 = 0) :
    Calls Try.prog 4 #[p.val q, .slice A1 n1 c1, .slice A2 n2 c2] w fun e w' => e = .returned (.bool true) ∧ Below w.heap.size w w' := by
  obtain ⟨i0, hi, hz0, hz1, hz2⟩ := info_parts byte_info
  have C := Lib.hid (BxC.made 28 w p q)
  have H := Lib.hid h.pw
  have hno := h.no
  have HD := Lib.hid h.od
  have HK := Lib.hid h.ok
  have HF := Lib.hid hf
  have HS := Lib.hid (fewP_sm hf)
  have HR1 := Lib.hid hR1
  have HL1 := Lib.hid hL1
  have HR2 := Lib.hid hR2
  have HB2 := Lib.hid hB2
  have HL2 := Lib.hid hL2
  have hno2 : q.no ≤ 1073741824 := by rw [← h.pw.lo]; exact (fewP_sm hf).o
  have j1 : ¬ (600 : Int) < (n1 : Int) := by omega
  have j2 : ¬ (600 : Int) < (n2 : Int) := by omega
  have HY := Lib.hid (chget_ok hB2 hy (by omega))
  have HM := Lib.hid hm
  have hn := Lib.hid (show m.length = 0 by rw [chput_err hm hk]; rfl)
  have jk : ((k : Int) == 0) = false := by simp; omega
  subst hk2
  have HGY := Lib.hid hy
  obtain ⟨m2, hm2, hle2, htk2⟩ := chput_get hB2 hy
  have HM2 := Lib.hid hm2
  obtain ⟨n3, hn3⟩ : ∃ n3, Hid (m2.length = n3) := ⟨_, Lib.hid rfl⟩
  have n39 : n3 ≤ n2 := by rw [← hn3.out, ← hL2]; exact hle2
  have HT := Lib.hid (show m2 = b.take n3 by rw [← hn3.out]; exact htk2)
  have HT2 := Lib.hid (show (b.take n3).length = n3 by rw [List.length_take, hL2]; omega)
  have g1 : (n3 : Int) ≤ (n2 : Int) := by omega
  have g2 : (n3 : Int) ≤ (c2 : Int) := by omega
  have g3 : (0 : Int) ≤ (n3 : Int) := by omega
  clear hm2 hle2 htk2
  clear h hR1 hB1 hL1 hR2 hB2 hL2 hf hm hy hk 
  go_enter Try.func4, Try.ntmps4
  go_wp2_with (first
    | (go_at_call 6; (with_reducible refine (speaks18 _).mono ?_); rintro e wn ⟨rfl, hb⟩; replace C := Lib.hid (C.out.step hb); clear hb; (try clear x0 x1 x2 x3 x4 x5 x6 x7 x8 x9); obtain ⟨x0, x1, x2, x3, x4, x5, x6, x7, x8, x9⟩ := C.out.cf.all)
    | (go_at_call 7; (with_reducible refine (few15_any p q _ (H.out.on C.out.bel) hno HD.out _ HF.out).mono ?_); rintro e wn ⟨rfl, hb⟩; replace C := Lib.hid (C.out.step hb); clear hb; (try clear x0 x1 x2 x3 x4 x5 x6 x7 x8 x9); obtain ⟨x0, x1, x2, x3, x4, x5, x6, x7, x8, x9⟩ := C.out.cf.all)
    | (go_at_call 9; (with_reducible refine (of15_any p q _ (H.out.on C.out.bel) hno2).mono ?_); rintro e wn ⟨r, rfl, hp, hb⟩; have P := Lib.hid hp; replace C := Lib.hid (C.out.step hb); clear hp hb; clear x0 x1 x2 x3 x4 x5 x6 x7 x8 x9; obtain ⟨x0, x1, x2, x3, x4, x5, x6, x7, x8, x9⟩ := C.out.cf.all)
    | (go_at_call 8; (with_reducible refine (chput_any p r _ P.out HS.out m k HM.out 0 hn.out).mono ?_); rintro e wn ⟨A5, c5, rfl, h5, h5c, hb⟩; replace C := Lib.hid (C.out.step hb); clear h5 h5c hb P; clear x0 x1 x2 x3 x4 x5 x6 x7 x8 x9)
    | (go_at_call 11; (with_reducible refine (chget_any b n2 c2 A2 _ (HR2.out.ons C.out.bel) HB2.out HL2.out (by omega) hc2 y _ HGY.out).mono ?_); rintro e w11 ⟨q1, rfl, hp1, hb⟩; have ba := (Below.refl w11.heap.size w11).alloc (Nat.le_refl _) (y.obj q1 36); have P1 := Lib.hid (hp1.pw.on ba); obtain ⟨x0, x1, x2, x3, x4, x5, x6, x7, x8, x9⟩ := (px_new w11 36 y q1).all; replace C := Lib.hid ((C.out.step hb).step ba); clear hp1 hb ba)
    | (go_at_call 8; (with_reducible refine (chput_any y q1 _ P1.out HY.out.2 m2 _ HM2.out n3 hn3.out).mono ?_); rintro e wn ⟨A8, c8, rfl, h8, h8c, hb⟩; replace C := Lib.hid (C.out.step hb); have X8 := Lib.hid h8; clear h8 h8c hb P1; clear x0 x1 x2 x3 x4 x5 x6 x7 x8 x9)
    | (go_at_call 13; (with_reducible refine (equal_yes m2 (b.take n3) n3 n3 _ _ _ _ _ X8.out ((HR2.out.ons C.out.bel).take n3) hn3.out HT2.out (by omega) HT.out).mono ?_); rintro e wn ⟨rfl, hb⟩; replace C := Lib.hid (C.out.step hb); clear hb X8))
  go_ret
  exact ⟨rfl, C.out.bel⟩

set_option maxRecDepth 4000 in
set_option maxHeartbeats 40000000 in
theorem chback_no_no (p : Pk) (q : Pl) (l1 : List Nat) (A1 : Option Addr) (n1 c1 : Nat) (b : List Nat) (A2 : Option Addr) (n2 c2 : Nat) (w : World) (h : IsPk w p q) (hR1 : Rd w w.heap.size A1 l1) (hB1 : By l1) (hL1 : l1.length = n1) (hR2 : Rd w w.heap.size A2 b) (hB2 : By b) (hL2 : b.length = n2) (hc2 : n2 ≤ c2) (hf : fewP p = true) (h1 : n1 ≤ 600) (h2 : n2 ≤ 600) (m : List Nat) (k : Nat) (hm : chputB p = (m, k)) (hk : ¬ k = 0) (y : Pk) (k2 : Nat) (hy : chgetB b = (y, k2)) (hk2 : ¬ k2 = 0) :
    Calls Try.prog 4 #[p.val q, .slice A1 n1 c1, .slice A2 n2 c2] w fun e w' => e = .returned (.bool true) ∧ Below w.heap.size w w' := by
  obtain ⟨i0, hi, hz0, hz1, hz2⟩ := info_parts byte_info
  have C := Lib.hid (BxC.made 28 w p q)
  have H := Lib.hid h.pw
  have hno := h.no
  have HD := Lib.hid h.od
  have HK := Lib.hid h.ok
  have HF := Lib.hid hf
  have HS := Lib.hid (fewP_sm hf)
  have HR1 := Lib.hid hR1
  have HL1 := Lib.hid hL1
  have HR2 := Lib.hid hR2
  have HB2 := Lib.hid hB2
  have HL2 := Lib.hid hL2
  have hno2 : q.no ≤ 1073741824 := by rw [← h.pw.lo]; exact (fewP_sm hf).o
  have j1 : ¬ (600 : Int) < (n1 : Int) := by omega
  have j2 : ¬ (600 : Int) < (n2 : Int) := by omega
  have HY := Lib.hid (chget_ok hB2 hy (by omega))
  have HM := Lib.hid hm
  have hn := Lib.hid (show m.length = 0 by rw [chput_err hm hk]; rfl)
  have jk : ((k : Int) == 0) = false := by simp; omega
  have HGY := Lib.hid hy
  have HY0 := Lib.hid (chget_err hy hk2)
  have jk2 : ((k2 : Int) != 0) = true := by rw [bne_iff_ne]; omega
  clear h hR1 hB1 hL1 hR2 hB2 hL2 hf hm hy hk hk2
  go_enter Try.func4, Try.ntmps4
  go_wp2_with (first
    | (go_at_call 6; (with_reducible refine (speaks18 _).mono ?_); rintro e wn ⟨rfl, hb⟩; replace C := Lib.hid (C.out.step hb); clear hb; (try clear x0 x1 x2 x3 x4 x5 x6 x7 x8 x9); obtain ⟨x0, x1, x2, x3, x4, x5, x6, x7, x8, x9⟩ := C.out.cf.all)
    | (go_at_call 7; (with_reducible refine (few15_any p q _ (H.out.on C.out.bel) hno HD.out _ HF.out).mono ?_); rintro e wn ⟨rfl, hb⟩; replace C := Lib.hid (C.out.step hb); clear hb; (try clear x0 x1 x2 x3 x4 x5 x6 x7 x8 x9); obtain ⟨x0, x1, x2, x3, x4, x5, x6, x7, x8, x9⟩ := C.out.cf.all)
    | (go_at_call 9; (with_reducible refine (of15_any p q _ (H.out.on C.out.bel) hno2).mono ?_); rintro e wn ⟨r, rfl, hp, hb⟩; have P := Lib.hid hp; replace C := Lib.hid (C.out.step hb); clear hp hb; clear x0 x1 x2 x3 x4 x5 x6 x7 x8 x9; obtain ⟨x0, x1, x2, x3, x4, x5, x6, x7, x8, x9⟩ := C.out.cf.all)
    | (go_at_call 8; (with_reducible refine (chput_any p r _ P.out HS.out m k HM.out 0 hn.out).mono ?_); rintro e wn ⟨A5, c5, rfl, h5, h5c, hb⟩; replace C := Lib.hid (C.out.step hb); clear h5 h5c hb P; clear x0 x1 x2 x3 x4 x5 x6 x7 x8 x9)
    | (go_at_call 11; (with_reducible refine (chget_any b n2 c2 A2 _ (HR2.out.ons C.out.bel) HB2.out HL2.out (by omega) hc2 y k2 HGY.out).mono ?_); rintro e w11 ⟨q1, rfl, hp1, hb⟩; have ba := (Below.refl w11.heap.size w11).alloc (Nat.le_refl _) (y.obj q1 36); have P1 := Lib.hid (hp1.pw.on ba); obtain ⟨x0, x1, x2, x3, x4, x5, x6, x7, x8, x9⟩ := (px_new w11 36 y q1).all; replace C := Lib.hid ((C.out.step hb).step ba); clear hp1 hb ba)
    | (go_at_call 15; (with_reducible refine (to15_any y q1 _ P1.out (by rw [← P1.out.lo]; exact HY.out.2.o)).mono ?_); rintro e wn ⟨q3, rfl, hp3, hb⟩; replace C := Lib.hid (C.out.step hb); have P3 := Lib.hid hp3; clear hp3 hb P1; clear x0 x1 x2 x3 x4 x5 x6 x7 x8 x9)
    | (go_at_call 14; (with_reducible refine (psame_zero y HY0.out q3 _ P3.out).mono ?_); rintro e wn ⟨rfl, hb⟩; replace C := Lib.hid (C.out.step hb); clear hb P3))
  go_ret
  exact ⟨rfl, C.out.bel⟩
end Go.Proofs.Ytcmapiaacimbeaa
