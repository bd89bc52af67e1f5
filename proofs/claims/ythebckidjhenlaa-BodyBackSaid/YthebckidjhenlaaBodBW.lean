
/-
  BodyBack's walk. No condition.
-/
import Derived.Test.YthebckidjhenlaaBodC
import Derived.Test.YthebckidjhenlaaBodE
import Derived.Test.YthebckidjhenlaaGPkt
import Derived.Deep.CutRange
import Derived.Deep.RegionHeld3
namespace Go.Proofs.Ythebckidjhenlaa
set_option maxRecDepth 4000
open Go.RowKit
set_option linter.unusedVariables false

set_option maxHeartbeats 4000000 in
theorem bbk_few (p : Pk) (q : Pl) (t : Nat) (A : Option Addr) (n c : Nat) (w : World) (h : IsPk w p q) (hf : fewP p = false) :
    Calls Try.prog 3 #[p.val q, .int .u16 (t : Int), .slice A n c] w fun e w' => e = .returned (.bool true) ∧ Below w.heap.size w w' := by
  have C := Lib.hid (BxC.made 28 w p q)
  have H := Lib.hid h.pw
  have hno := h.no
  have HD := Lib.hid h.od
  have HF := Lib.hid hf
  clear hf h
  go_enter Try.func3, Try.ntmps3
  go_wp2_with (first
    | (go_at_call 6; (with_reducible refine (speaks20 _).mono ?_); rintro e wn ⟨rfl, hb⟩; replace C := Lib.hid (C.out.step hb); clear hb; (try clear x0 x1 x2 x3 x4 x5 x6 x7 x8 x9); obtain ⟨x0, x1, x2, x3, x4, x5, x6, x7, x8, x9⟩ := C.out.cf.all)
    | (go_at_call 7; (with_reducible refine (few15_any p q _ (H.out.on C.out.bel) hno HD.out _ HF.out).mono ?_); rintro e wn ⟨rfl, hb⟩; replace C := Lib.hid (C.out.step hb); clear hb; (try clear x0 x1 x2 x3 x4 x5 x6 x7 x8 x9); obtain ⟨x0, x1, x2, x3, x4, x5, x6, x7, x8, x9⟩ := C.out.cf.all))
  go_ret
  exact ⟨rfl, C.out.bel⟩

set_option maxHeartbeats 4000000 in
theorem bbk_long (p : Pk) (q : Pl) (t : Nat) (A : Option Addr) (n c : Nat) (w : World) (h : IsPk w p q) (hf : fewP p = true) (hn : ¬ n ≤ 600) :
    Calls Try.prog 3 #[p.val q, .int .u16 (t : Int), .slice A n c] w fun e w' => e = .returned (.bool true) ∧ Below w.heap.size w w' := by
  have C := Lib.hid (BxC.made 28 w p q)
  have H := Lib.hid h.pw
  have hno := h.no
  have HD := Lib.hid h.od
  have HF := Lib.hid hf
  have j1 : (600 : Int) < (n : Int) := by omega
  clear hf h hn
  go_enter Try.func3, Try.ntmps3
  go_wp2_with (first
    | (go_at_call 6; (with_reducible refine (speaks20 _).mono ?_); rintro e wn ⟨rfl, hb⟩; replace C := Lib.hid (C.out.step hb); clear hb; (try clear x0 x1 x2 x3 x4 x5 x6 x7 x8 x9); obtain ⟨x0, x1, x2, x3, x4, x5, x6, x7, x8, x9⟩ := C.out.cf.all)
    | (go_at_call 7; (with_reducible refine (few15_any p q _ (H.out.on C.out.bel) hno HD.out _ HF.out).mono ?_); rintro e wn ⟨rfl, hb⟩; replace C := Lib.hid (C.out.step hb); clear hb; (try clear x0 x1 x2 x3 x4 x5 x6 x7 x8 x9); obtain ⟨x0, x1, x2, x3, x4, x5, x6, x7, x8, x9⟩ := C.out.cf.all))
  go_ret
  exact ⟨rfl, C.out.bel⟩

set_option maxRecDepth 8000 in
set_option maxHeartbeats 40000000 in
theorem bbk_yes_yes (p : Pk) (q : Pl) (t : Nat) (b : List Nat) (A : Option Addr) (n c : Nat) (w : World) (h : IsPk w p q) (hf : fewP p = true) (ht : t < 65536) (hR : Rd w w.heap.size A b) (hB : By b) (hL : b.length = n) (hc : n ≤ c) (hn : n ≤ 600) (m : List Nat) (k : Nat) (hm : bputB p = (m, k)) (hk : k = 0) (y : Pk) (k2 : Nat) (hy : bgetB t b = (y, k2)) (hk2 : k2 = 0) :
    Calls Try.prog 3 #[p.val q, .int .u16 (t : Int), .slice A n c] w fun e w' => e = .returned (.bool true) ∧ Below w.heap.size w w' := by
  have C := Lib.hid (BxC.made 28 w p q)
  have H := Lib.hid h.pw
  have hno := h.no
  have HD := Lib.hid h.od
  have HF := Lib.hid hf
  have HOK := Lib.hid h.ok
  have HS := Lib.hid (fewP_sm hf)
  have hno2 : q.no ≤ 1073741824 := by rw [← h.pw.lo]; exact (fewP_sm hf).o
  have HR := Lib.hid hR
  have HB := Lib.hid hB
  have HL := Lib.hid hL
  have HC := Lib.hid hc
  have H65 := Lib.hid ht
  have j1 : ¬ (600 : Int) < (n : Int) := by omega
  have HN6 := Lib.hid (show n ≤ 1073741824 by omega)
  obtain ⟨n1, hn1⟩ : ∃ x, Hid (m.length = x) := ⟨_, Lib.hid rfl⟩
  have HY := Lib.hid (bget_ok ht hB hy (by omega))
  subst hk
  have HM := Lib.hid hm
  have HG := Lib.hid (bget_put h.ok hm)
  have HBM := Lib.hid (bput_by h.ok hm)
  have HN1 := Lib.hid (show n1 ≤ 1073741824 by rw [← hn1.out]; exact Nat.le_trans (bput_len hm hf) (by omega))
  have HP6 := Lib.hid h.ok.proto
  subst hk2
  have HGY := Lib.hid hy
  obtain ⟨hyp, m2, hm2, hm2l, hm2e⟩ := bput_get ht hB hy
  have HM2 := Lib.hid hm2
  obtain ⟨n2, hn2⟩ : ∃ x, Hid (m2.length = x) := ⟨_, Lib.hid rfl⟩
  have HE2 := Lib.hid (show b.take n2 = m2 by rw [← hn2.out]; exact hm2e.symm)
  have HG2 := Lib.hid (show bgetB t m2 = (y, 0) by have := bget_put (bget_ok ht hB hy (by omega)).1 hm2; rw [hyp] at this; exact this)
  have HB2 := Lib.hid (bput_by (bget_ok ht hB hy (by omega)).1 hm2)
  have HN2 := Lib.hid (show n2 ≤ 1073741824 by have := hn2.out; omega)
  have g5 : (n2 : Int) ≤ (n : Int) := by have := hn2.out; omega
  have g6 : (n2 : Int) ≤ (c : Int) := by omega
  have g8 : (0 : Int) ≤ (n2 : Int) := by omega
  have g7 : ((y.proto : Int) == (t : Int)) = true := by simp; omega
  clear h hf ht hR hB hL hc hn hm hy hyp hm2 hm2l hm2e 
  go_enter Try.func3, Try.ntmps3
  go_upto_region 5 with (first
    | (go_at_call 6; (with_reducible refine (speaks20 _).mono ?_); rintro e wn ⟨rfl, hb⟩; replace C := Lib.hid (C.out.step hb); clear hb; (try clear x0 x1 x2 x3 x4 x5 x6 x7 x8 x9); obtain ⟨x0, x1, x2, x3, x4, x5, x6, x7, x8, x9⟩ := C.out.cf.all)
    | (go_at_call 7; (with_reducible refine (few15_any p q _ (H.out.on C.out.bel) hno HD.out _ HF.out).mono ?_); rintro e wn ⟨rfl, hb⟩; replace C := Lib.hid (C.out.step hb); clear hb; (try clear x0 x1 x2 x3 x4 x5 x6 x7 x8 x9); obtain ⟨x0, x1, x2, x3, x4, x5, x6, x7, x8, x9⟩ := C.out.cf.all)
    | (go_at_call 9; (with_reducible refine (of15_any p q _ (H.out.on C.out.bel) hno2).mono ?_); rintro e wn ⟨r1, rfl, hp, hb⟩; have P := Lib.hid hp; replace C := Lib.hid (C.out.step hb); clear hp hb; (try clear x0 x1 x2 x3 x4 x5 x6 x7 x8 x9); obtain ⟨x0, x1, x2, x3, x4, x5, x6, x7, x8, x9⟩ := C.out.cf.all)
    | (go_at_call 8; (with_reducible refine (bput_any p r1 _ P.out HOK.out HS.out m 0 HM.out n1 hn1.out).mono ?_); rintro e wn ⟨A5, c5, rfl, h5, h5c, hb⟩; replace C := Lib.hid (C.out.step hb); have X5 := Lib.hid h5; have K5 := Lib.hid h5c; clear h5 h5c hb P; (try clear x0 x1 x2 x3 x4 x5 x6 x7 x8 x9); obtain ⟨x0, x1, x2, x3, x4, x5, x6, x7, x8, x9⟩ := C.out.cf.all))
  go_upto_region 6 with (first
    | (go_at_call 10; (with_reducible refine (bget_any p.proto m n1 c5 A5 _ X5.out HBM.out hn1.out HN1.out K5.out HP6.out p 0 HG.out).mono ?_); rintro e w9 ⟨q1, rfl, hp1, hb⟩; have ba := (Below.refl w9.heap.size w9).alloc (Nat.le_refl _) (p.obj q1 36); have Z := Lib.hid (show BaL w (w9.alloc (p.obj q1 36)) w9.heap.size p q q1 from ⟨((C.out.step hb).step ba).bel, px_new w9 36 p q1, ((C.out.step hb).step ba).cf, hp1.pw.on ba⟩); clear hp1 hb ba C X5))
  obtain ⟨g, hg⟩ : ∃ g, Hid (w9.heap.size = g) := ⟨_, Lib.hid rfl⟩
  rw [hg.out] at Z ⊢
  with_reducible refine at_worldP (fun W => Hid (BaL w W g p q q1)) Z ?_
  clear Z hg x0 x1 x2 x3 x4 x5 x6 x7 x8 x9
  rintro W Z
  obtain ⟨x0, x1, x2, x3, x4, x5, x6, x7, x8, x9, y0, y1, y2, y3, y4, y5, y6, y7, y8, y9⟩ := Z.out.flat
  go_region_held3 (fun W => W.cell? ⟨g, 0, none⟩ = some (.int .u16 (p.proto : Int)) ∧ W.cell? ⟨g, 1, none⟩ = some (.int .u8 (p.code : Int)) ∧ W.cell? ⟨g, 2, none⟩ = some (.int .u8 (p.id : Int)) ∧ W.cell? ⟨g, 3, none⟩ = some (.slice q1.ao q1.no q1.co) ∧ W.cell? ⟨g, 4, none⟩ = some (.int .u16 (p.sub : Int)) ∧ W.cell? ⟨g, 5, none⟩ = some (.int .u32 (p.magic : Int)) ∧ W.cell? ⟨g, 6, none⟩ = some (.slice q1.a1 q1.n1 q1.c1) ∧ W.cell? ⟨g, 7, none⟩ = some (.slice q1.a2 q1.n2 q1.c2) ∧ W.cell? ⟨g, 8, none⟩ = some (.slice q1.ad q1.nd q1.cd) ∧ W.cell? ⟨g, 9, none⟩ = some (.slice q1.an q1.nn q1.cn) ∧ W.cell? ⟨w.heap.size, 0, none⟩ = some (.int .u16 (p.proto : Int)) ∧ W.cell? ⟨w.heap.size, 1, none⟩ = some (.int .u8 (p.code : Int)) ∧ W.cell? ⟨w.heap.size, 2, none⟩ = some (.int .u8 (p.id : Int)) ∧ W.cell? ⟨w.heap.size, 3, none⟩ = some (.slice q.ao q.no q.co) ∧ W.cell? ⟨w.heap.size, 4, none⟩ = some (.int .u16 (p.sub : Int)) ∧ W.cell? ⟨w.heap.size, 5, none⟩ = some (.int .u32 (p.magic : Int)) ∧ W.cell? ⟨w.heap.size, 6, none⟩ = some (.slice q.a1 q.n1 q.c1) ∧ W.cell? ⟨w.heap.size, 7, none⟩ = some (.slice q.a2 q.n2 q.c2) ∧ W.cell? ⟨w.heap.size, 8, none⟩ = some (.slice q.ad q.nd q.cd) ∧ W.cell? ⟨w.heap.size, 9, none⟩ = some (.slice q.an q.nn q.cn)) (first | (with_reducible exact Z.out.flat) | (with_reducible exact Z.out.drew.flat)) (first
    | (go_at_call 9; (first | (with_reducible refine (of15_any p q _ (H.out.on Z.out.bel) hno2).mono ?_) | (with_reducible refine (of15_any p q _ (H.out.on Z.out.drew.bel) hno2).mono ?_)); rintro e wn ⟨r2, rfl, hp, hb⟩; have P2 := Lib.hid hp; (try replace P3 := Lib.hid (P3.out.on hb)); replace Z := Lib.hid (Z.out.step hb); clear hp hb; dsimp only)
    | (go_at_call 13; (first | (with_reducible refine (to15_any p q1 _ Z.out.p1 (by rw [← Z.out.p1.lo]; exact HS.out.o)).mono ?_) | (with_reducible refine (to15_any p q1 _ Z.out.drew.p1 (by rw [← Z.out.p1.lo]; exact HS.out.o)).mono ?_)); rintro e wn ⟨q3, rfl, hp, hb⟩; have P3 := Lib.hid hp; (try replace P2 := Lib.hid (P2.out.on hb)); replace Z := Lib.hid (Z.out.step hb); clear hp hb; dsimp only)
    | (go_at_call 11; (with_reducible refine (bsame_any p p q1 r2 _ Z.out.p1 P2.out HOK.out HOK.out HS.out true (decide_eq_true rfl)).mono ?_); rintro e wn ⟨rfl, hb⟩; (try replace P3 := Lib.hid (P3.out.on hb)); replace Z := Lib.hid (Z.out.step hb); clear hb; dsimp only)
    | (go_at_call 12; (with_reducible refine (psame_yes p q3 q _ P3.out (H.out.on Z.out.bel) HS.out).mono ?_); rintro e wn ⟨rfl, hb⟩; (try replace P2 := Lib.hid (P2.out.on hb)); replace Z := Lib.hid (Z.out.step hb); clear hb; dsimp only))
  all_goals (clear x0 x1 x2 x3 x4 x5 x6 x7 x8 x9 y0 y1 y2 y3 y4 y5 y6 y7 y8 y9; have C := Lib.hid Z.out.bx; clear Z)
  all_goals
    go_upto_region 13 with ((go_at_call 10; (with_reducible refine (bget_any t b n c A _ (HR.out.ons C.out.bel) HB.out HL.out HN6.out HC.out H65.out y 0 HGY.out).mono ?_); rintro e w9 ⟨q1, rfl, hp1, hb⟩; have ba := (Below.refl w9.heap.size w9).alloc (Nat.le_refl _) (y.obj q1 36); have B := Lib.hid (((C.out.step hb).step ba).bel); have V := Lib.hid (px_new w9 36 y q1); have PV := Lib.hid (hp1.pw.on ba); clear hp1 hb ba C))
    obtain ⟨g, hg⟩ : ∃ g, Hid (w9.heap.size = g) := ⟨_, Lib.hid rfl⟩
    rw [hg.out] at V ⊢
    with_reducible refine at_worldP (fun W => Hid (Below w.heap.size w W) ∧ Hid (Px W g 36 y q1) ∧ Hid (Pw W y q1)) ⟨B, V, PV⟩ ?_
    clear B V PV hg
    rintro W ⟨B, V, PV⟩
    obtain ⟨x0, x1, x2, x3, x4, x5, x6, x7, x8, x9⟩ := V.out.all
    go_upto_region 15 with (first
      | (go_at_call 8; (with_reducible refine (bput_any y q1 _ PV.out HY.out.1 HY.out.2 m2 0 HM2.out n2 hn2.out).mono ?_); rintro e wn ⟨A7, c7, rfl, h7, h7c, hb⟩; replace B := Lib.hid (B.out.trans (hb.mono B.out.size)); replace V := Lib.hid (V.out.below hb); replace PV := Lib.hid (PV.out.on hb); have X7 := Lib.hid h7; have K7 := Lib.hid h7c; clear h7 h7c hb; clear x0 x1 x2 x3 x4 x5 x6 x7 x8 x9)
      | (go_at_call 10; (with_reducible refine (bget_any t m2 n2 c7 A7 _ X7.out HB2.out hn2.out HN2.out K7.out H65.out y 0 HG2.out).mono ?_); rintro e wm ⟨q2, rfl, hp2, hb⟩; have ba := (Below.refl wm.heap.size wm).alloc (Nat.le_refl _) (y.obj q2 36); replace B := Lib.hid ((B.out.trans (hb.mono B.out.size)).trans (ba.mono (Nat.le_trans B.out.size hb.size))); replace V := Lib.hid ((V.out.below hb).below ba); replace PV := Lib.hid ((PV.out.on hb).on ba); replace X7 := Lib.hid ((X7.out.ons hb).ons ba); have V2 := Lib.hid (px_new wm 36 y q2); have PV2 := Lib.hid (hp2.pw.on ba); clear hp2 hb ba))
    obtain ⟨g2, hg2⟩ : ∃ g, Hid (wm.heap.size = g) := ⟨_, Lib.hid rfl⟩
    rw [hg2.out] at V2 ⊢
    with_reducible refine at_worldP (fun W => Hid (Below w.heap.size w W) ∧ Hid (Px W g 36 y q1) ∧ Hid (Pw W y q1) ∧ Hid (Px W g2 36 y q2) ∧ Hid (Pw W y q2) ∧ Hid (Rd W W.heap.size A7 m2)) ⟨B, V, PV, V2, PV2, X7⟩ ?_
    clear B V PV V2 PV2 X7 hg2
    rintro W2 ⟨B, V, PV, V2, PV2, X7⟩
    obtain ⟨x0, x1, x2, x3, x4, x5, x6, x7, x8, x9⟩ := V.out.all
    obtain ⟨y0, y1, y2, y3, y4, y5, y6, y7, y8, y9⟩ := V2.out.all
    go_wp2_with (first
      | (go_at_call 14; (with_reducible refine (equal_yes m2 m2 n2 n2 _ _ _ _ _ X7.out (by have h0 := (HR.out.ons B.out).take n2; rw [HE2.out] at h0; exact h0) hn2.out hn2.out (by have := HN2.out; omega) rfl).mono ?_); rintro e wn ⟨rfl, hb⟩; replace B := Lib.hid (B.out.trans (hb.mono B.out.size)); replace V := Lib.hid (V.out.below hb); replace V2 := Lib.hid (V2.out.below hb); replace PV := Lib.hid (PV.out.on hb); replace PV2 := Lib.hid (PV2.out.on hb); clear hb; clear x0 x1 x2 x3 x4 x5 x6 x7 x8 x9 y0 y1 y2 y3 y4 y5 y6 y7 y8 y9; obtain ⟨x0, x1, x2, x3, x4, x5, x6, x7, x8, x9⟩ := V.out.all; obtain ⟨y0, y1, y2, y3, y4, y5, y6, y7, y8, y9⟩ := V2.out.all)
      | (go_at_call 11; (with_reducible refine (bsame_any y y q2 q1 _ PV2.out PV.out HY.out.1 HY.out.1 HY.out.2 true (decide_eq_true rfl)).mono ?_); rintro e wn ⟨rfl, hb⟩; replace B := Lib.hid (B.out.trans (hb.mono B.out.size)); replace V := Lib.hid (V.out.below hb); clear hb; clear x0 x1 x2 x3 x4 x5 x6 x7 x8 x9 y0 y1 y2 y3 y4 y5 y6 y7 y8 y9; obtain ⟨x0, x1, x2, x3, x4, x5, x6, x7, x8, x9⟩ := V.out.all))
    go_ret
    exact ⟨rfl, B.out⟩

set_option maxRecDepth 8000 in
set_option maxHeartbeats 40000000 in
theorem bbk_yes_no (p : Pk) (q : Pl) (t : Nat) (b : List Nat) (A : Option Addr) (n c : Nat) (w : World) (h : IsPk w p q) (hf : fewP p = true) (ht : t < 65536) (hR : Rd w w.heap.size A b) (hB : By b) (hL : b.length = n) (hc : n ≤ c) (hn : n ≤ 600) (m : List Nat) (k : Nat) (hm : bputB p = (m, k)) (hk : k = 0) (y : Pk) (k2 : Nat) (hy : bgetB t b = (y, k2)) (hk2 : ¬ k2 = 0) :
    Calls Try.prog 3 #[p.val q, .int .u16 (t : Int), .slice A n c] w fun e w' => e = .returned (.bool true) ∧ Below w.heap.size w w' := by
  have C := Lib.hid (BxC.made 28 w p q)
  have H := Lib.hid h.pw
  have hno := h.no
  have HD := Lib.hid h.od
  have HF := Lib.hid hf
  have HOK := Lib.hid h.ok
  have HS := Lib.hid (fewP_sm hf)
  have hno2 : q.no ≤ 1073741824 := by rw [← h.pw.lo]; exact (fewP_sm hf).o
  have HR := Lib.hid hR
  have HB := Lib.hid hB
  have HL := Lib.hid hL
  have HC := Lib.hid hc
  have H65 := Lib.hid ht
  have j1 : ¬ (600 : Int) < (n : Int) := by omega
  have HN6 := Lib.hid (show n ≤ 1073741824 by omega)
  obtain ⟨n1, hn1⟩ : ∃ x, Hid (m.length = x) := ⟨_, Lib.hid rfl⟩
  have HY := Lib.hid (bget_ok ht hB hy (by omega))
  subst hk
  have HM := Lib.hid hm
  have HG := Lib.hid (bget_put h.ok hm)
  have HBM := Lib.hid (bput_by h.ok hm)
  have HN1 := Lib.hid (show n1 ≤ 1073741824 by rw [← hn1.out]; exact Nat.le_trans (bput_len hm hf) (by omega))
  have HP6 := Lib.hid h.ok.proto
  have HGY := Lib.hid hy
  have HY0 := Lib.hid (show y = pk0 from bget_err hy hk2)
  have g3 : ((k2 : Int) != 0) = true := by rw [bne_iff_ne]; omega
  clear h hf ht hR hB hL hc hn hm hy hk2 
  go_enter Try.func3, Try.ntmps3
  go_upto_region 5 with (first
    | (go_at_call 6; (with_reducible refine (speaks20 _).mono ?_); rintro e wn ⟨rfl, hb⟩; replace C := Lib.hid (C.out.step hb); clear hb; (try clear x0 x1 x2 x3 x4 x5 x6 x7 x8 x9); obtain ⟨x0, x1, x2, x3, x4, x5, x6, x7, x8, x9⟩ := C.out.cf.all)
    | (go_at_call 7; (with_reducible refine (few15_any p q _ (H.out.on C.out.bel) hno HD.out _ HF.out).mono ?_); rintro e wn ⟨rfl, hb⟩; replace C := Lib.hid (C.out.step hb); clear hb; (try clear x0 x1 x2 x3 x4 x5 x6 x7 x8 x9); obtain ⟨x0, x1, x2, x3, x4, x5, x6, x7, x8, x9⟩ := C.out.cf.all)
    | (go_at_call 9; (with_reducible refine (of15_any p q _ (H.out.on C.out.bel) hno2).mono ?_); rintro e wn ⟨r1, rfl, hp, hb⟩; have P := Lib.hid hp; replace C := Lib.hid (C.out.step hb); clear hp hb; (try clear x0 x1 x2 x3 x4 x5 x6 x7 x8 x9); obtain ⟨x0, x1, x2, x3, x4, x5, x6, x7, x8, x9⟩ := C.out.cf.all)
    | (go_at_call 8; (with_reducible refine (bput_any p r1 _ P.out HOK.out HS.out m 0 HM.out n1 hn1.out).mono ?_); rintro e wn ⟨A5, c5, rfl, h5, h5c, hb⟩; replace C := Lib.hid (C.out.step hb); have X5 := Lib.hid h5; have K5 := Lib.hid h5c; clear h5 h5c hb P; (try clear x0 x1 x2 x3 x4 x5 x6 x7 x8 x9); obtain ⟨x0, x1, x2, x3, x4, x5, x6, x7, x8, x9⟩ := C.out.cf.all))
  go_upto_region 6 with (first
    | (go_at_call 10; (with_reducible refine (bget_any p.proto m n1 c5 A5 _ X5.out HBM.out hn1.out HN1.out K5.out HP6.out p 0 HG.out).mono ?_); rintro e w9 ⟨q1, rfl, hp1, hb⟩; have ba := (Below.refl w9.heap.size w9).alloc (Nat.le_refl _) (p.obj q1 36); have Z := Lib.hid (show BaL w (w9.alloc (p.obj q1 36)) w9.heap.size p q q1 from ⟨((C.out.step hb).step ba).bel, px_new w9 36 p q1, ((C.out.step hb).step ba).cf, hp1.pw.on ba⟩); clear hp1 hb ba C X5))
  obtain ⟨g, hg⟩ : ∃ g, Hid (w9.heap.size = g) := ⟨_, Lib.hid rfl⟩
  rw [hg.out] at Z ⊢
  with_reducible refine at_worldP (fun W => Hid (BaL w W g p q q1)) Z ?_
  clear Z hg x0 x1 x2 x3 x4 x5 x6 x7 x8 x9
  rintro W Z
  obtain ⟨x0, x1, x2, x3, x4, x5, x6, x7, x8, x9, y0, y1, y2, y3, y4, y5, y6, y7, y8, y9⟩ := Z.out.flat
  go_region_held3 (fun W => W.cell? ⟨g, 0, none⟩ = some (.int .u16 (p.proto : Int)) ∧ W.cell? ⟨g, 1, none⟩ = some (.int .u8 (p.code : Int)) ∧ W.cell? ⟨g, 2, none⟩ = some (.int .u8 (p.id : Int)) ∧ W.cell? ⟨g, 3, none⟩ = some (.slice q1.ao q1.no q1.co) ∧ W.cell? ⟨g, 4, none⟩ = some (.int .u16 (p.sub : Int)) ∧ W.cell? ⟨g, 5, none⟩ = some (.int .u32 (p.magic : Int)) ∧ W.cell? ⟨g, 6, none⟩ = some (.slice q1.a1 q1.n1 q1.c1) ∧ W.cell? ⟨g, 7, none⟩ = some (.slice q1.a2 q1.n2 q1.c2) ∧ W.cell? ⟨g, 8, none⟩ = some (.slice q1.ad q1.nd q1.cd) ∧ W.cell? ⟨g, 9, none⟩ = some (.slice q1.an q1.nn q1.cn) ∧ W.cell? ⟨w.heap.size, 0, none⟩ = some (.int .u16 (p.proto : Int)) ∧ W.cell? ⟨w.heap.size, 1, none⟩ = some (.int .u8 (p.code : Int)) ∧ W.cell? ⟨w.heap.size, 2, none⟩ = some (.int .u8 (p.id : Int)) ∧ W.cell? ⟨w.heap.size, 3, none⟩ = some (.slice q.ao q.no q.co) ∧ W.cell? ⟨w.heap.size, 4, none⟩ = some (.int .u16 (p.sub : Int)) ∧ W.cell? ⟨w.heap.size, 5, none⟩ = some (.int .u32 (p.magic : Int)) ∧ W.cell? ⟨w.heap.size, 6, none⟩ = some (.slice q.a1 q.n1 q.c1) ∧ W.cell? ⟨w.heap.size, 7, none⟩ = some (.slice q.a2 q.n2 q.c2) ∧ W.cell? ⟨w.heap.size, 8, none⟩ = some (.slice q.ad q.nd q.cd) ∧ W.cell? ⟨w.heap.size, 9, none⟩ = some (.slice q.an q.nn q.cn)) (first | (with_reducible exact Z.out.flat) | (with_reducible exact Z.out.drew.flat)) (first
    | (go_at_call 9; (first | (with_reducible refine (of15_any p q _ (H.out.on Z.out.bel) hno2).mono ?_) | (with_reducible refine (of15_any p q _ (H.out.on Z.out.drew.bel) hno2).mono ?_)); rintro e wn ⟨r2, rfl, hp, hb⟩; have P2 := Lib.hid hp; (try replace P3 := Lib.hid (P3.out.on hb)); replace Z := Lib.hid (Z.out.step hb); clear hp hb; dsimp only)
    | (go_at_call 13; (first | (with_reducible refine (to15_any p q1 _ Z.out.p1 (by rw [← Z.out.p1.lo]; exact HS.out.o)).mono ?_) | (with_reducible refine (to15_any p q1 _ Z.out.drew.p1 (by rw [← Z.out.p1.lo]; exact HS.out.o)).mono ?_)); rintro e wn ⟨q3, rfl, hp, hb⟩; have P3 := Lib.hid hp; (try replace P2 := Lib.hid (P2.out.on hb)); replace Z := Lib.hid (Z.out.step hb); clear hp hb; dsimp only)
    | (go_at_call 11; (with_reducible refine (bsame_any p p q1 r2 _ Z.out.p1 P2.out HOK.out HOK.out HS.out true (decide_eq_true rfl)).mono ?_); rintro e wn ⟨rfl, hb⟩; (try replace P3 := Lib.hid (P3.out.on hb)); replace Z := Lib.hid (Z.out.step hb); clear hb; dsimp only)
    | (go_at_call 12; (with_reducible refine (psame_yes p q3 q _ P3.out (H.out.on Z.out.bel) HS.out).mono ?_); rintro e wn ⟨rfl, hb⟩; (try replace P2 := Lib.hid (P2.out.on hb)); replace Z := Lib.hid (Z.out.step hb); clear hb; dsimp only))
  all_goals (clear x0 x1 x2 x3 x4 x5 x6 x7 x8 x9 y0 y1 y2 y3 y4 y5 y6 y7 y8 y9; have C := Lib.hid Z.out.bx; clear Z)
  all_goals
    go_upto_region 11 with ((go_at_call 10; (with_reducible refine (bget_any t b n c A _ (HR.out.ons C.out.bel) HB.out HL.out HN6.out HC.out H65.out y k2 HGY.out).mono ?_); rintro e w9 ⟨q1, rfl, hp1, hb⟩; have ba := (Below.refl w9.heap.size w9).alloc (Nat.le_refl _) (y.obj q1 36); have B := Lib.hid (((C.out.step hb).step ba).bel); have V := Lib.hid (px_new w9 36 y q1); have PV := Lib.hid (hp1.pw.on ba); clear hp1 hb ba C))
    obtain ⟨g, hg⟩ : ∃ g, Hid (w9.heap.size = g) := ⟨_, Lib.hid rfl⟩
    rw [hg.out] at V ⊢
    with_reducible refine at_worldP (fun W => Hid (Below w.heap.size w W) ∧ Hid (Px W g 36 y q1) ∧ Hid (Pw W y q1)) ⟨B, V, PV⟩ ?_
    clear B V PV hg
    rintro W ⟨B, V, PV⟩
    obtain ⟨x0, x1, x2, x3, x4, x5, x6, x7, x8, x9⟩ := V.out.all
    go_wp2_with (first
      | (go_at_call 13; (with_reducible refine (to15_any y q1 _ PV.out (by rw [← PV.out.lo]; exact HY.out.2.o)).mono ?_); rintro e wn ⟨q3, rfl, hp, hb⟩; have P3 := Lib.hid hp; replace B := Lib.hid (B.out.trans (hb.mono B.out.size)); clear hp hb)
      | (go_at_call 12; (with_reducible refine (psame_zero y HY0.out q3 _ P3.out).mono ?_); rintro e wn ⟨rfl, hb⟩; replace B := Lib.hid (B.out.trans (hb.mono B.out.size)); clear hb))
    go_ret
    exact ⟨rfl, B.out⟩

set_option maxRecDepth 8000 in
set_option maxHeartbeats 40000000 in
theorem bbk_no_yes (p : Pk) (q : Pl) (t : Nat) (b : List Nat) (A : Option Addr) (n c : Nat) (w : World) (h : IsPk w p q) (hf : fewP p = true) (ht : t < 65536) (hR : Rd w w.heap.size A b) (hB : By b) (hL : b.length = n) (hc : n ≤ c) (hn : n ≤ 600) (m : List Nat) (k : Nat) (hm : bputB p = (m, k)) (hk : ¬ k = 0) (y : Pk) (k2 : Nat) (hy : bgetB t b = (y, k2)) (hk2 : k2 = 0) :
    Calls Try.prog 3 #[p.val q, .int .u16 (t : Int), .slice A n c] w fun e w' => e = .returned (.bool true) ∧ Below w.heap.size w w' := by
  have C := Lib.hid (BxC.made 28 w p q)
  have H := Lib.hid h.pw
  have hno := h.no
  have HD := Lib.hid h.od
  have HF := Lib.hid hf
  have HOK := Lib.hid h.ok
  have HS := Lib.hid (fewP_sm hf)
  have hno2 : q.no ≤ 1073741824 := by rw [← h.pw.lo]; exact (fewP_sm hf).o
  have HR := Lib.hid hR
  have HB := Lib.hid hB
  have HL := Lib.hid hL
  have HC := Lib.hid hc
  have H65 := Lib.hid ht
  have j1 : ¬ (600 : Int) < (n : Int) := by omega
  have HN6 := Lib.hid (show n ≤ 1073741824 by omega)
  obtain ⟨n1, hn1⟩ : ∃ x, Hid (m.length = x) := ⟨_, Lib.hid rfl⟩
  have HY := Lib.hid (bget_ok ht hB hy (by omega))
  have HM := Lib.hid hm
  have hm0 : m = [] := bput_err hm hk
  have g1 : ((n1 : Int) != 0) = false := by rw [← hn1.out, hm0]; rfl
  have g2 : ((k : Int) == 0) = false := by simp; omega
  subst hk2
  have HGY := Lib.hid hy
  obtain ⟨hyp, m2, hm2, hm2l, hm2e⟩ := bput_get ht hB hy
  have HM2 := Lib.hid hm2
  obtain ⟨n2, hn2⟩ : ∃ x, Hid (m2.length = x) := ⟨_, Lib.hid rfl⟩
  have HE2 := Lib.hid (show b.take n2 = m2 by rw [← hn2.out]; exact hm2e.symm)
  have HG2 := Lib.hid (show bgetB t m2 = (y, 0) by have := bget_put (bget_ok ht hB hy (by omega)).1 hm2; rw [hyp] at this; exact this)
  have HB2 := Lib.hid (bput_by (bget_ok ht hB hy (by omega)).1 hm2)
  have HN2 := Lib.hid (show n2 ≤ 1073741824 by have := hn2.out; omega)
  have g5 : (n2 : Int) ≤ (n : Int) := by have := hn2.out; omega
  have g6 : (n2 : Int) ≤ (c : Int) := by omega
  have g8 : (0 : Int) ≤ (n2 : Int) := by omega
  have g7 : ((y.proto : Int) == (t : Int)) = true := by simp; omega
  clear h hf ht hR hB hL hc hn hm hy hyp hm2 hm2l hm2e hk hm0
  go_enter Try.func3, Try.ntmps3
  go_upto_region 10 with (first
    | (go_at_call 6; (with_reducible refine (speaks20 _).mono ?_); rintro e wn ⟨rfl, hb⟩; replace C := Lib.hid (C.out.step hb); clear hb; (try clear x0 x1 x2 x3 x4 x5 x6 x7 x8 x9); obtain ⟨x0, x1, x2, x3, x4, x5, x6, x7, x8, x9⟩ := C.out.cf.all)
    | (go_at_call 7; (with_reducible refine (few15_any p q _ (H.out.on C.out.bel) hno HD.out _ HF.out).mono ?_); rintro e wn ⟨rfl, hb⟩; replace C := Lib.hid (C.out.step hb); clear hb; (try clear x0 x1 x2 x3 x4 x5 x6 x7 x8 x9); obtain ⟨x0, x1, x2, x3, x4, x5, x6, x7, x8, x9⟩ := C.out.cf.all)
    | (go_at_call 9; (with_reducible refine (of15_any p q _ (H.out.on C.out.bel) hno2).mono ?_); rintro e wn ⟨r1, rfl, hp, hb⟩; have P := Lib.hid hp; replace C := Lib.hid (C.out.step hb); clear hp hb; (try clear x0 x1 x2 x3 x4 x5 x6 x7 x8 x9); obtain ⟨x0, x1, x2, x3, x4, x5, x6, x7, x8, x9⟩ := C.out.cf.all)
    | (go_at_call 8; (with_reducible refine (bput_any p r1 _ P.out HOK.out HS.out m k HM.out n1 hn1.out).mono ?_); rintro e wn ⟨A5, c5, rfl, h5, h5c, hb⟩; replace C := Lib.hid (C.out.step hb); have X5 := Lib.hid h5; have K5 := Lib.hid h5c; clear h5 h5c hb P; (try clear x0 x1 x2 x3 x4 x5 x6 x7 x8 x9); obtain ⟨x0, x1, x2, x3, x4, x5, x6, x7, x8, x9⟩ := C.out.cf.all))
  clear x0 x1 x2 x3 x4 x5 x6 x7 x8 x9
  go_upto_region 13 with ((go_at_call 10; (with_reducible refine (bget_any t b n c A _ (HR.out.ons C.out.bel) HB.out HL.out HN6.out HC.out H65.out y 0 HGY.out).mono ?_); rintro e w9 ⟨q1, rfl, hp1, hb⟩; have ba := (Below.refl w9.heap.size w9).alloc (Nat.le_refl _) (y.obj q1 36); have B := Lib.hid (((C.out.step hb).step ba).bel); have V := Lib.hid (px_new w9 36 y q1); have PV := Lib.hid (hp1.pw.on ba); clear hp1 hb ba C))
  obtain ⟨g, hg⟩ : ∃ g, Hid (w9.heap.size = g) := ⟨_, Lib.hid rfl⟩
  rw [hg.out] at V ⊢
  with_reducible refine at_worldP (fun W => Hid (Below w.heap.size w W) ∧ Hid (Px W g 36 y q1) ∧ Hid (Pw W y q1)) ⟨B, V, PV⟩ ?_
  clear B V PV hg
  rintro W ⟨B, V, PV⟩
  obtain ⟨x0, x1, x2, x3, x4, x5, x6, x7, x8, x9⟩ := V.out.all
  go_upto_region 15 with (first
    | (go_at_call 8; (with_reducible refine (bput_any y q1 _ PV.out HY.out.1 HY.out.2 m2 0 HM2.out n2 hn2.out).mono ?_); rintro e wn ⟨A7, c7, rfl, h7, h7c, hb⟩; replace B := Lib.hid (B.out.trans (hb.mono B.out.size)); replace V := Lib.hid (V.out.below hb); replace PV := Lib.hid (PV.out.on hb); have X7 := Lib.hid h7; have K7 := Lib.hid h7c; clear h7 h7c hb; clear x0 x1 x2 x3 x4 x5 x6 x7 x8 x9)
    | (go_at_call 10; (with_reducible refine (bget_any t m2 n2 c7 A7 _ X7.out HB2.out hn2.out HN2.out K7.out H65.out y 0 HG2.out).mono ?_); rintro e wm ⟨q2, rfl, hp2, hb⟩; have ba := (Below.refl wm.heap.size wm).alloc (Nat.le_refl _) (y.obj q2 36); replace B := Lib.hid ((B.out.trans (hb.mono B.out.size)).trans (ba.mono (Nat.le_trans B.out.size hb.size))); replace V := Lib.hid ((V.out.below hb).below ba); replace PV := Lib.hid ((PV.out.on hb).on ba); replace X7 := Lib.hid ((X7.out.ons hb).ons ba); have V2 := Lib.hid (px_new wm 36 y q2); have PV2 := Lib.hid (hp2.pw.on ba); clear hp2 hb ba))
  obtain ⟨g2, hg2⟩ : ∃ g, Hid (wm.heap.size = g) := ⟨_, Lib.hid rfl⟩
  rw [hg2.out] at V2 ⊢
  with_reducible refine at_worldP (fun W => Hid (Below w.heap.size w W) ∧ Hid (Px W g 36 y q1) ∧ Hid (Pw W y q1) ∧ Hid (Px W g2 36 y q2) ∧ Hid (Pw W y q2) ∧ Hid (Rd W W.heap.size A7 m2)) ⟨B, V, PV, V2, PV2, X7⟩ ?_
  clear B V PV V2 PV2 X7 hg2
  rintro W2 ⟨B, V, PV, V2, PV2, X7⟩
  obtain ⟨x0, x1, x2, x3, x4, x5, x6, x7, x8, x9⟩ := V.out.all
  obtain ⟨y0, y1, y2, y3, y4, y5, y6, y7, y8, y9⟩ := V2.out.all
  go_wp2_with (first
    | (go_at_call 14; (with_reducible refine (equal_yes m2 m2 n2 n2 _ _ _ _ _ X7.out (by have h0 := (HR.out.ons B.out).take n2; rw [HE2.out] at h0; exact h0) hn2.out hn2.out (by have := HN2.out; omega) rfl).mono ?_); rintro e wn ⟨rfl, hb⟩; replace B := Lib.hid (B.out.trans (hb.mono B.out.size)); replace V := Lib.hid (V.out.below hb); replace V2 := Lib.hid (V2.out.below hb); replace PV := Lib.hid (PV.out.on hb); replace PV2 := Lib.hid (PV2.out.on hb); clear hb; clear x0 x1 x2 x3 x4 x5 x6 x7 x8 x9 y0 y1 y2 y3 y4 y5 y6 y7 y8 y9; obtain ⟨x0, x1, x2, x3, x4, x5, x6, x7, x8, x9⟩ := V.out.all; obtain ⟨y0, y1, y2, y3, y4, y5, y6, y7, y8, y9⟩ := V2.out.all)
    | (go_at_call 11; (with_reducible refine (bsame_any y y q2 q1 _ PV2.out PV.out HY.out.1 HY.out.1 HY.out.2 true (decide_eq_true rfl)).mono ?_); rintro e wn ⟨rfl, hb⟩; replace B := Lib.hid (B.out.trans (hb.mono B.out.size)); replace V := Lib.hid (V.out.below hb); clear hb; clear x0 x1 x2 x3 x4 x5 x6 x7 x8 x9 y0 y1 y2 y3 y4 y5 y6 y7 y8 y9; obtain ⟨x0, x1, x2, x3, x4, x5, x6, x7, x8, x9⟩ := V.out.all))
  go_ret
  exact ⟨rfl, B.out⟩

set_option maxRecDepth 8000 in
set_option maxHeartbeats 40000000 in
theorem bbk_no_no (p : Pk) (q : Pl) (t : Nat) (b : List Nat) (A : Option Addr) (n c : Nat) (w : World) (h : IsPk w p q) (hf : fewP p = true) (ht : t < 65536) (hR : Rd w w.heap.size A b) (hB : By b) (hL : b.length = n) (hc : n ≤ c) (hn : n ≤ 600) (m : List Nat) (k : Nat) (hm : bputB p = (m, k)) (hk : ¬ k = 0) (y : Pk) (k2 : Nat) (hy : bgetB t b = (y, k2)) (hk2 : ¬ k2 = 0) :
    Calls Try.prog 3 #[p.val q, .int .u16 (t : Int), .slice A n c] w fun e w' => e = .returned (.bool true) ∧ Below w.heap.size w w' := by
  have C := Lib.hid (BxC.made 28 w p q)
  have H := Lib.hid h.pw
  have hno := h.no
  have HD := Lib.hid h.od
  have HF := Lib.hid hf
  have HOK := Lib.hid h.ok
  have HS := Lib.hid (fewP_sm hf)
  have hno2 : q.no ≤ 1073741824 := by rw [← h.pw.lo]; exact (fewP_sm hf).o
  have HR := Lib.hid hR
  have HB := Lib.hid hB
  have HL := Lib.hid hL
  have HC := Lib.hid hc
  have H65 := Lib.hid ht
  have j1 : ¬ (600 : Int) < (n : Int) := by omega
  have HN6 := Lib.hid (show n ≤ 1073741824 by omega)
  obtain ⟨n1, hn1⟩ : ∃ x, Hid (m.length = x) := ⟨_, Lib.hid rfl⟩
  have HY := Lib.hid (bget_ok ht hB hy (by omega))
  have HM := Lib.hid hm
  have hm0 : m = [] := bput_err hm hk
  have g1 : ((n1 : Int) != 0) = false := by rw [← hn1.out, hm0]; rfl
  have g2 : ((k : Int) == 0) = false := by simp; omega
  have HGY := Lib.hid hy
  have HY0 := Lib.hid (show y = pk0 from bget_err hy hk2)
  have g3 : ((k2 : Int) != 0) = true := by rw [bne_iff_ne]; omega
  clear h hf ht hR hB hL hc hn hm hy hk2 hk hm0
  go_enter Try.func3, Try.ntmps3
  go_upto_region 10 with (first
    | (go_at_call 6; (with_reducible refine (speaks20 _).mono ?_); rintro e wn ⟨rfl, hb⟩; replace C := Lib.hid (C.out.step hb); clear hb; (try clear x0 x1 x2 x3 x4 x5 x6 x7 x8 x9); obtain ⟨x0, x1, x2, x3, x4, x5, x6, x7, x8, x9⟩ := C.out.cf.all)
    | (go_at_call 7; (with_reducible refine (few15_any p q _ (H.out.on C.out.bel) hno HD.out _ HF.out).mono ?_); rintro e wn ⟨rfl, hb⟩; replace C := Lib.hid (C.out.step hb); clear hb; (try clear x0 x1 x2 x3 x4 x5 x6 x7 x8 x9); obtain ⟨x0, x1, x2, x3, x4, x5, x6, x7, x8, x9⟩ := C.out.cf.all)
    | (go_at_call 9; (with_reducible refine (of15_any p q _ (H.out.on C.out.bel) hno2).mono ?_); rintro e wn ⟨r1, rfl, hp, hb⟩; have P := Lib.hid hp; replace C := Lib.hid (C.out.step hb); clear hp hb; (try clear x0 x1 x2 x3 x4 x5 x6 x7 x8 x9); obtain ⟨x0, x1, x2, x3, x4, x5, x6, x7, x8, x9⟩ := C.out.cf.all)
    | (go_at_call 8; (with_reducible refine (bput_any p r1 _ P.out HOK.out HS.out m k HM.out n1 hn1.out).mono ?_); rintro e wn ⟨A5, c5, rfl, h5, h5c, hb⟩; replace C := Lib.hid (C.out.step hb); have X5 := Lib.hid h5; have K5 := Lib.hid h5c; clear h5 h5c hb P; (try clear x0 x1 x2 x3 x4 x5 x6 x7 x8 x9); obtain ⟨x0, x1, x2, x3, x4, x5, x6, x7, x8, x9⟩ := C.out.cf.all))
  clear x0 x1 x2 x3 x4 x5 x6 x7 x8 x9
  go_upto_region 11 with ((go_at_call 10; (with_reducible refine (bget_any t b n c A _ (HR.out.ons C.out.bel) HB.out HL.out HN6.out HC.out H65.out y k2 HGY.out).mono ?_); rintro e w9 ⟨q1, rfl, hp1, hb⟩; have ba := (Below.refl w9.heap.size w9).alloc (Nat.le_refl _) (y.obj q1 36); have B := Lib.hid (((C.out.step hb).step ba).bel); have V := Lib.hid (px_new w9 36 y q1); have PV := Lib.hid (hp1.pw.on ba); clear hp1 hb ba C))
  obtain ⟨g, hg⟩ : ∃ g, Hid (w9.heap.size = g) := ⟨_, Lib.hid rfl⟩
  rw [hg.out] at V ⊢
  with_reducible refine at_worldP (fun W => Hid (Below w.heap.size w W) ∧ Hid (Px W g 36 y q1) ∧ Hid (Pw W y q1)) ⟨B, V, PV⟩ ?_
  clear B V PV hg
  rintro W ⟨B, V, PV⟩
  obtain ⟨x0, x1, x2, x3, x4, x5, x6, x7, x8, x9⟩ := V.out.all
  go_wp2_with (first
    | (go_at_call 13; (with_reducible refine (to15_any y q1 _ PV.out (by rw [← PV.out.lo]; exact HY.out.2.o)).mono ?_); rintro e wn ⟨q3, rfl, hp, hb⟩; have P3 := Lib.hid hp; replace B := Lib.hid (B.out.trans (hb.mono B.out.size)); clear hp hb)
    | (go_at_call 12; (with_reducible refine (psame_zero y HY0.out q3 _ P3.out).mono ?_); rintro e wn ⟨rfl, hb⟩; replace B := Lib.hid (B.out.trans (hb.mono B.out.size)); clear hb))
  go_ret
  exact ⟨rfl, B.out⟩

theorem bbk_any (p : Pk) (q : Pl) (t : Nat) (b : List Nat) (A : Option Addr) (n c : Nat) (w : World) (h : IsPk w p q) (ht : t < 65536) (hR : Rd w w.heap.size A b) (hB : By b) (hL : b.length = n) (hc : n ≤ c) :
    Calls Try.prog 3 #[p.val q, .int .u16 (t : Int), .slice A n c] w fun e w' => e = .returned (.bool true) ∧ Below w.heap.size w w' := by
  cases hf : fewP p
  · exact bbk_few p q t A n c w h hf
  by_cases hn : n ≤ 600
  case neg => exact bbk_long p q t A n c w h hf hn
  obtain ⟨m, k, hm⟩ : ∃ m k, bputB p = (m, k) := ⟨_, _, rfl⟩
  obtain ⟨y, k2, hy⟩ : ∃ y k2, bgetB t b = (y, k2) := ⟨_, _, rfl⟩
  by_cases hk : k = 0
  · by_cases hk2 : k2 = 0
    · exact bbk_yes_yes p q t b A n c w h hf ht hR hB hL hc hn m k hm hk y k2 hy hk2
    · exact bbk_yes_no p q t b A n c w h hf ht hR hB hL hc hn m k hm hk y k2 hy hk2
  · by_cases hk2 : k2 = 0
    · exact bbk_no_yes p q t b A n c w h hf ht hR hB hL hc hn m k hm hk y k2 hy hk2
    · exact bbk_no_no p q t b A n c w h hf ht hR hB hL hc hn m k hm hk y k2 hy hk2
end Go.Proofs.Ythebckidjhenlaa
