
/-
  BodyMost's walk. No condition.
-/
import Derived.Test.YthebckidjhenlaaBodC
import Derived.Test.YthebckidjhenlaaBodQ
import Derived.Test.YthebckidjhenlaaGPkt
import Derived.Deep.CutRange
import Derived.Deep.RegionHeld3
namespace Go.Proofs.Ythebckidjhenlaa
set_option maxRecDepth 4000
open Go.RowKit
set_option linter.unusedVariables false

/-- A config of an MRU alone. -/
def cfM (m : Int) : Cf := ⟨false, false, false, false, 0, 0, m⟩
theorem cfM_all {W : World} {b : Nat} {t : TypeId} {m : Int} (h : Cb W b t (cfM m)) : W.cell? ⟨b, 0, none⟩ = some (.bool false) ∧ W.cell? ⟨b, 1, none⟩ = some (.bool false) ∧ W.cell? ⟨b, 2, none⟩ = some (.bool false) ∧ W.cell? ⟨b, 3, none⟩ = some (.bool false) ∧ W.cell? ⟨b, 4, none⟩ = some (.int .u32 0) ∧ W.cell? ⟨b, 5, none⟩ = some (.int .u32 0) ∧ W.cell? ⟨b, 6, none⟩ = some (.int .i64 m) := h.all
theorem bchk_lit (m : Int) (p : Pk) (q : Pl) (w : World) (hp : Pw w p q) (hok : p.ok) (hs : p.sm) (k : Nat) (hk : bchkB m p = k) :
    Calls Try.prog 15 #[.agg #[.bool false, .bool false, .bool false, .bool false, .int .u32 0, .int .u32 0, .int .i64 m], p.val q] w fun e w' => e = .returned (.int .i64 (k : Int)) ∧ Below w.heap.size w w' := bchk_any (cfM m) p q w hp hok hs k hk
/-- What BodyMost knows ahead of its checks. -/
structure MoC (w W : World) (g c1 c2 : Nat) (p : Pk) (r : Pl) (lo hi : Int) : Prop where
  bel : Below w.heap.size w W
  x : Px W g 36 p r
  pw : Pw W p r
  k1 : Cb W c1 46 (cfM lo)
  k2 : Cb W c2 46 (cfM hi)
section
variable {w W X W' : World} {g c1 c2 : Nat} {p : Pk} {r : Pl} {lo hi : Int}
theorem MoC.step (h : MoC w W g c1 c2 p r lo hi) (hb : Below X.heap.size X W') (hX : Below W.heap.size W X := by first | exact Below.refl _ _ | exact (Below.refl _ _).drew) : MoC w W' g c1 c2 p r lo hi :=
  have hh := hX.trans (hb.mono hX.size)
  ⟨h.bel.trans (hh.mono h.bel.size), h.x.below hh, h.pw.on hh, h.k1.below hh, h.k2.below hh⟩
theorem MoC.drew (h : MoC w W g c1 c2 p r lo hi) : MoC w W.drew g c1 c2 p r lo hi := h.step (X := W) (Below.refl _ _).drew
theorem MoC.flat (h : MoC w W g c1 c2 p r lo hi) : W.cell? ⟨c1, 0, none⟩ = some (.bool false) ∧ W.cell? ⟨c1, 1, none⟩ = some (.bool false) ∧ W.cell? ⟨c1, 2, none⟩ = some (.bool false) ∧ W.cell? ⟨c1, 3, none⟩ = some (.bool false) ∧ W.cell? ⟨c1, 4, none⟩ = some (.int .u32 0) ∧ W.cell? ⟨c1, 5, none⟩ = some (.int .u32 0) ∧ W.cell? ⟨c1, 6, none⟩ = some (.int .i64 lo) ∧ W.cell? ⟨c2, 0, none⟩ = some (.bool false) ∧ W.cell? ⟨c2, 1, none⟩ = some (.bool false) ∧ W.cell? ⟨c2, 2, none⟩ = some (.bool false) ∧ W.cell? ⟨c2, 3, none⟩ = some (.bool false) ∧ W.cell? ⟨c2, 4, none⟩ = some (.int .u32 0) ∧ W.cell? ⟨c2, 5, none⟩ = some (.int .u32 0) ∧ W.cell? ⟨c2, 6, none⟩ = some (.int .i64 hi) ∧ W.cell? ⟨g, 0, none⟩ = some (.int .u16 (p.proto : Int)) ∧ W.cell? ⟨g, 1, none⟩ = some (.int .u8 (p.code : Int)) ∧ W.cell? ⟨g, 2, none⟩ = some (.int .u8 (p.id : Int)) ∧ W.cell? ⟨g, 3, none⟩ = some (.slice r.ao r.no r.co) ∧ W.cell? ⟨g, 4, none⟩ = some (.int .u16 (p.sub : Int)) ∧ W.cell? ⟨g, 5, none⟩ = some (.int .u32 (p.magic : Int)) ∧ W.cell? ⟨g, 6, none⟩ = some (.slice r.a1 r.n1 r.c1) ∧ W.cell? ⟨g, 7, none⟩ = some (.slice r.a2 r.n2 r.c2) ∧ W.cell? ⟨g, 8, none⟩ = some (.slice r.ad r.nd r.cd) ∧ W.cell? ⟨g, 9, none⟩ = some (.slice r.an r.nn r.cn) := by
  obtain ⟨u0, u1, u2, u3, u4, u5, u6⟩ := cfM_all h.k1
  obtain ⟨v0, v1, v2, v3, v4, v5, v6⟩ := cfM_all h.k2
  exact ⟨u0, u1, u2, u3, u4, u5, u6, v0, v1, v2, v3, v4, v5, v6, h.x.all⟩
theorem MoC.made (hb : Below w.heap.size w W) (hx : Px W g 36 p r) (hp : Pw W p r) (lo hi : Int) : MoC w ((W.alloc (.cells #[.bool false, .bool false, .bool false, .bool false, .int .u32 0, .int .u32 0, .int .i64 lo] 46)).alloc (.cells #[.bool false, .bool false, .bool false, .bool false, .int .u32 0, .int .u32 0, .int .i64 hi] 46)) g W.heap.size (W.heap.size + 1) p r lo hi := by
  have e1 : (W.alloc (.cells #[.bool false, .bool false, .bool false, .bool false, .int .u32 0, .int .u32 0, .int .i64 lo] 46)).heap.size = W.heap.size + 1 := World.size_alloc _ _
  have hh := belowP_two W (.cells #[.bool false, .bool false, .bool false, .bool false, .int .u32 0, .int .u32 0, .int .i64 lo] 46) (.cells #[.bool false, .bool false, .bool false, .bool false, .int .u32 0, .int .u32 0, .int .i64 hi] 46)
  refine ⟨hb.trans (hh.mono hb.size), hx.below hh, hp.on hh, heap_alloc2_old W _ _, ?_⟩
  have h2 : Cb _ _ 46 (cfM hi) := heap_alloc_new (W.alloc (.cells #[.bool false, .bool false, .bool false, .bool false, .int .u32 0, .int .u32 0, .int .i64 lo] 46)) (.cells #[.bool false, .bool false, .bool false, .bool false, .int .u32 0, .int .u32 0, .int .i64 hi] 46)
  rw [e1] at h2
  exact h2
end

set_option maxHeartbeats 4000000 in
theorem bmost_few (p : Pk) (q : Pl) (a b : Int) (w : World) (h : IsPk w p q) (hf : fewP p = false) :
    Calls Try.prog 4 #[p.val q, .int .u16 a, .int .u16 b] w fun e w' => e = .returned (.bool true) ∧ Below w.heap.size w w' := by
  have C := Lib.hid (BxC.made 28 w p q)
  have H := Lib.hid h.pw
  have hno := h.no
  have HD := Lib.hid h.od
  have HF := Lib.hid hf
  clear hf h
  go_enter Try.func4, Try.ntmps4
  go_wp2_with (first
    | (go_at_call 6; (with_reducible refine (speaks20 _).mono ?_); rintro e wn ⟨rfl, hb⟩; replace C := Lib.hid (C.out.step hb); clear hb; (try clear x0 x1 x2 x3 x4 x5 x6 x7 x8 x9); obtain ⟨x0, x1, x2, x3, x4, x5, x6, x7, x8, x9⟩ := C.out.cf.all)
    | (go_at_call 7; (with_reducible refine (few15_any p q _ (H.out.on C.out.bel) hno HD.out _ HF.out).mono ?_); rintro e wn ⟨rfl, hb⟩; replace C := Lib.hid (C.out.step hb); clear hb; (try clear x0 x1 x2 x3 x4 x5 x6 x7 x8 x9); obtain ⟨x0, x1, x2, x3, x4, x5, x6, x7, x8, x9⟩ := C.out.cf.all))
  go_ret
  exact ⟨rfl, C.out.bel⟩

set_option maxHeartbeats 4000000 in
theorem bmost_low0 (p : Pk) (q : Pl) (a b : Int) (w : World) (h : IsPk w p q) (hf : fewP p = true) (hab : a ≤ b) (hl : a < 64) :
    Calls Try.prog 4 #[p.val q, .int .u16 a, .int .u16 b] w fun e w' => e = .returned (.bool true) ∧ Below w.heap.size w w' := by
  have C := Lib.hid (BxC.made 28 w p q)
  have H := Lib.hid h.pw
  have hno := h.no
  have HD := Lib.hid h.od
  have HF := Lib.hid hf
  have mx : (if a < b then b else a) = b := by split <;> omega
  clear hf h
  go_enter Try.func4, Try.ntmps4
  go_wp2_with (first
    | (go_at_call 6; (with_reducible refine (speaks20 _).mono ?_); rintro e wn ⟨rfl, hb⟩; replace C := Lib.hid (C.out.step hb); clear hb; (try clear x0 x1 x2 x3 x4 x5 x6 x7 x8 x9); obtain ⟨x0, x1, x2, x3, x4, x5, x6, x7, x8, x9⟩ := C.out.cf.all)
    | (go_at_call 7; (with_reducible refine (few15_any p q _ (H.out.on C.out.bel) hno HD.out _ HF.out).mono ?_); rintro e wn ⟨rfl, hb⟩; replace C := Lib.hid (C.out.step hb); clear hb; (try clear x0 x1 x2 x3 x4 x5 x6 x7 x8 x9); obtain ⟨x0, x1, x2, x3, x4, x5, x6, x7, x8, x9⟩ := C.out.cf.all))
  go_ret
  exact ⟨rfl, C.out.bel⟩

set_option maxRecDepth 8000 in
set_option maxHeartbeats 16000000 in
theorem bmost_err0 (p : Pk) (q : Pl) (a b : Int) (w : World) (h : IsPk w p q) (hf : fewP p = true) (hab : a ≤ b) (ha : 0 ≤ a ∧ a < 65536) (hb : 0 ≤ b ∧ b < 65536) (hl : ¬ a < 64) (m : List Nat) (k : Nat) (hm : Hid (bputB p = (m, k))) (hk : ¬ k = 0) :
    Calls Try.prog 4 #[p.val q, .int .u16 a, .int .u16 b] w fun e w' => e = .returned (.bool true) ∧ Below w.heap.size w w' := by
  have C := Lib.hid (BxC.made 28 w p q)
  have H := Lib.hid h.pw
  have hno := h.no
  have HD := Lib.hid h.od
  have HF := Lib.hid hf
  have HOK := Lib.hid h.ok
  have HS := Lib.hid (fewP_sm hf)
  have hno2 : q.no ≤ 1073741824 := by rw [← h.pw.lo]; exact (fewP_sm hf).o
  obtain ⟨n, hn⟩ : ∃ n, Hid (m.length = n) := ⟨_, Lib.hid rfl⟩
  have wa : wrap64 a = a := by unfold wrap64; omega
  have wb : wrap64 b = b := by unfold wrap64; omega
  have KF := Lib.hid (show bchkB a p = k by unfold bchkB; rw [hm.out, if_neg (fun h => hk h.1)])
  have KG := Lib.hid (show bchkB b p = k by unfold bchkB; rw [hm.out, if_neg (fun h => hk h.1)])
  have f0 : ((k : Int) != 0) = true := by rw [bne_iff_ne]; omega
  have mx : (if a < b then b else a) = b := by split <;> omega
  clear hf h ha hb hk
  go_enter Try.func4, Try.ntmps4
  go_upto_region 5 with (first
    | (go_at_call 6; (with_reducible refine (speaks20 _).mono ?_); rintro e wn ⟨rfl, hb⟩; replace C := Lib.hid (C.out.step hb); clear hb; (try clear x0 x1 x2 x3 x4 x5 x6 x7 x8 x9); obtain ⟨x0, x1, x2, x3, x4, x5, x6, x7, x8, x9⟩ := C.out.cf.all)
    | (go_at_call 7; (with_reducible refine (few15_any p q _ (H.out.on C.out.bel) hno HD.out _ HF.out).mono ?_); rintro e wn ⟨rfl, hb⟩; replace C := Lib.hid (C.out.step hb); clear hb; (try clear x0 x1 x2 x3 x4 x5 x6 x7 x8 x9); obtain ⟨x0, x1, x2, x3, x4, x5, x6, x7, x8, x9⟩ := C.out.cf.all)
    | (go_at_call 9; (with_reducible refine (of15_any p q _ (H.out.on C.out.bel) hno2).mono ?_); rintro e w9 ⟨r1, rfl, hp, hb⟩; have ba := (Below.refl w9.heap.size w9).alloc (Nat.le_refl _) (p.obj r1 36); have P := Lib.hid (hp.on ba); have XX := Lib.hid (px_new w9 36 p r1); have B := Lib.hid (((C.out.step hb).step ba).bel); clear hp hb ba; clear x0 x1 x2 x3 x4 x5 x6 x7 x8 x9; obtain ⟨x0, x1, x2, x3, x4, x5, x6, x7, x8, x9⟩ := XX.out.all)
    | (go_at_call 8; (with_reducible refine (bput_any p r1 _ P.out HOK.out HS.out m k hm.out n hn.out).mono ?_); rintro e wn ⟨A5, c5, rfl, -, -, hb⟩; replace B := Lib.hid (B.out.trans (hb.mono B.out.size)); replace P := Lib.hid (P.out.on hb); replace XX := Lib.hid (XX.out.below hb); clear hb; clear x0 x1 x2 x3 x4 x5 x6 x7 x8 x9))
  go_upto_region 6 with fail
  have Z := Lib.hid (MoC.made B.out XX.out P.out a b)
  obtain ⟨c1, hc1⟩ : ∃ g, Hid (wn.heap.size = g) := ⟨_, Lib.hid rfl⟩
  obtain ⟨c2, hc2⟩ : ∃ g, Hid (wn.heap.size + 1 = g) := ⟨_, Lib.hid rfl⟩
  obtain ⟨g, hg⟩ : ∃ g, Hid (w9.heap.size = g) := ⟨_, Lib.hid rfl⟩
  rw [hc2.out, hc1.out, hg.out] at Z
  rw [hc2.out, hc1.out, hg.out]
  with_reducible refine at_worldP (fun W => Hid (MoC w W g c1 c2 p r1 a b)) Z ?_
  clear Z hc1 hc2 hg B XX P C
  rintro W Z
  obtain ⟨u0, u1, u2, u3, u4, u5, u6, v0, v1, v2, v3, v4, v5, v6, x0, x1, x2, x3, x4, x5, x6, x7, x8, x9⟩ := Z.out.flat
  go_region_held3 (fun W => W.cell? ⟨c1, 0, none⟩ = some (.bool false) ∧ W.cell? ⟨c1, 1, none⟩ = some (.bool false) ∧ W.cell? ⟨c1, 2, none⟩ = some (.bool false) ∧ W.cell? ⟨c1, 3, none⟩ = some (.bool false) ∧ W.cell? ⟨c1, 4, none⟩ = some (.int .u32 0) ∧ W.cell? ⟨c1, 5, none⟩ = some (.int .u32 0) ∧ W.cell? ⟨c1, 6, none⟩ = some (.int .i64 a) ∧ W.cell? ⟨c2, 0, none⟩ = some (.bool false) ∧ W.cell? ⟨c2, 1, none⟩ = some (.bool false) ∧ W.cell? ⟨c2, 2, none⟩ = some (.bool false) ∧ W.cell? ⟨c2, 3, none⟩ = some (.bool false) ∧ W.cell? ⟨c2, 4, none⟩ = some (.int .u32 0) ∧ W.cell? ⟨c2, 5, none⟩ = some (.int .u32 0) ∧ W.cell? ⟨c2, 6, none⟩ = some (.int .i64 b) ∧ W.cell? ⟨g, 0, none⟩ = some (.int .u16 (p.proto : Int)) ∧ W.cell? ⟨g, 1, none⟩ = some (.int .u8 (p.code : Int)) ∧ W.cell? ⟨g, 2, none⟩ = some (.int .u8 (p.id : Int)) ∧ W.cell? ⟨g, 3, none⟩ = some (.slice r1.ao r1.no r1.co) ∧ W.cell? ⟨g, 4, none⟩ = some (.int .u16 (p.sub : Int)) ∧ W.cell? ⟨g, 5, none⟩ = some (.int .u32 (p.magic : Int)) ∧ W.cell? ⟨g, 6, none⟩ = some (.slice r1.a1 r1.n1 r1.c1) ∧ W.cell? ⟨g, 7, none⟩ = some (.slice r1.a2 r1.n2 r1.c2) ∧ W.cell? ⟨g, 8, none⟩ = some (.slice r1.ad r1.nd r1.cd) ∧ W.cell? ⟨g, 9, none⟩ = some (.slice r1.an r1.nn r1.cn)) (first | (with_reducible exact Z.out.flat) | (with_reducible exact Z.out.drew.flat)) (first
    | (go_at_call 15; (first | (with_reducible refine (bchk_lit a p r1 _ Z.out.pw HOK.out HS.out k KF.out).mono ?_) | (with_reducible refine (bchk_lit a p r1 _ Z.out.drew.pw HOK.out HS.out k KF.out).mono ?_)); rintro e wn ⟨rfl, hb⟩; replace Z := Lib.hid (Z.out.step hb); clear hb; dsimp only)
    | (go_at_call 15; (first | (with_reducible refine (bchk_lit b p r1 _ Z.out.pw HOK.out HS.out k KG.out).mono ?_) | (with_reducible refine (bchk_lit b p r1 _ Z.out.drew.pw HOK.out HS.out k KG.out).mono ?_)); rintro e wn ⟨rfl, hb⟩; replace Z := Lib.hid (Z.out.step hb); clear hb; dsimp only))
  all_goals (clear u0 u1 u2 u3 u4 u5 u6 v0 v1 v2 v3 v4 v5 v6 x0 x1 x2 x3 x4 x5 x6 x7 x8 x9; obtain ⟨u0, u1, u2, u3, u4, u5, u6, v0, v1, v2, v3, v4, v5, v6, x0, x1, x2, x3, x4, x5, x6, x7, x8, x9⟩ := Z.out.flat)
  all_goals go_wp2_with fail
  all_goals
    go_ret
    exact ⟨rfl, Z.out.bel⟩

set_option maxRecDepth 8000 in
set_option maxHeartbeats 16000000 in
theorem bmost_long0 (p : Pk) (q : Pl) (a b : Int) (w : World) (h : IsPk w p q) (hf : fewP p = true) (hab : a ≤ b) (ha : 0 ≤ a ∧ a < 65536) (hb : 0 ≤ b ∧ b < 65536) (hl : ¬ a < 64) (m : List Nat) (k : Nat) (hm : Hid (bputB p = (m, k))) (hk : k = 0) (hn2 : a < (m.length : Int)) :
    Calls Try.prog 4 #[p.val q, .int .u16 a, .int .u16 b] w fun e w' => e = .returned (.bool true) ∧ Below w.heap.size w w' := by
  have C := Lib.hid (BxC.made 28 w p q)
  have H := Lib.hid h.pw
  have hno := h.no
  have HD := Lib.hid h.od
  have HF := Lib.hid hf
  have HOK := Lib.hid h.ok
  have HS := Lib.hid (fewP_sm hf)
  have hno2 : q.no ≤ 1073741824 := by rw [← h.pw.lo]; exact (fewP_sm hf).o
  obtain ⟨n, hn⟩ : ∃ n, Hid (m.length = n) := ⟨_, Lib.hid rfl⟩
  have wa : wrap64 a = a := by unfold wrap64; omega
  have wb : wrap64 b = b := by unfold wrap64; omega
  subst hk
  have KF := Lib.hid (show bchkB a p = 3 by unfold bchkB; rw [hm.out, if_pos ⟨rfl, hn2⟩])
  obtain ⟨kg, KG⟩ : ∃ kg, Hid (bchkB b p = kg) := ⟨_, Lib.hid rfl⟩
  have J5 := Lib.hid (show ¬ (n : Int) ≤ a by rw [← hn.out]; omega)
  have mx : (if a < b then b else a) = b := by split <;> omega
  clear hf h ha hb hn2
  go_enter Try.func4, Try.ntmps4
  go_upto_region 5 with (first
    | (go_at_call 6; (with_reducible refine (speaks20 _).mono ?_); rintro e wn ⟨rfl, hb⟩; replace C := Lib.hid (C.out.step hb); clear hb; (try clear x0 x1 x2 x3 x4 x5 x6 x7 x8 x9); obtain ⟨x0, x1, x2, x3, x4, x5, x6, x7, x8, x9⟩ := C.out.cf.all)
    | (go_at_call 7; (with_reducible refine (few15_any p q _ (H.out.on C.out.bel) hno HD.out _ HF.out).mono ?_); rintro e wn ⟨rfl, hb⟩; replace C := Lib.hid (C.out.step hb); clear hb; (try clear x0 x1 x2 x3 x4 x5 x6 x7 x8 x9); obtain ⟨x0, x1, x2, x3, x4, x5, x6, x7, x8, x9⟩ := C.out.cf.all)
    | (go_at_call 9; (with_reducible refine (of15_any p q _ (H.out.on C.out.bel) hno2).mono ?_); rintro e w9 ⟨r1, rfl, hp, hb⟩; have ba := (Below.refl w9.heap.size w9).alloc (Nat.le_refl _) (p.obj r1 36); have P := Lib.hid (hp.on ba); have XX := Lib.hid (px_new w9 36 p r1); have B := Lib.hid (((C.out.step hb).step ba).bel); clear hp hb ba; clear x0 x1 x2 x3 x4 x5 x6 x7 x8 x9; obtain ⟨x0, x1, x2, x3, x4, x5, x6, x7, x8, x9⟩ := XX.out.all)
    | (go_at_call 8; (with_reducible refine (bput_any p r1 _ P.out HOK.out HS.out m 0 hm.out n hn.out).mono ?_); rintro e wn ⟨A5, c5, rfl, -, -, hb⟩; replace B := Lib.hid (B.out.trans (hb.mono B.out.size)); replace P := Lib.hid (P.out.on hb); replace XX := Lib.hid (XX.out.below hb); clear hb; clear x0 x1 x2 x3 x4 x5 x6 x7 x8 x9))
  go_upto_region 6 with fail
  have Z := Lib.hid (MoC.made B.out XX.out P.out a b)
  obtain ⟨c1, hc1⟩ : ∃ g, Hid (wn.heap.size = g) := ⟨_, Lib.hid rfl⟩
  obtain ⟨c2, hc2⟩ : ∃ g, Hid (wn.heap.size + 1 = g) := ⟨_, Lib.hid rfl⟩
  obtain ⟨g, hg⟩ : ∃ g, Hid (w9.heap.size = g) := ⟨_, Lib.hid rfl⟩
  rw [hc2.out, hc1.out, hg.out] at Z
  rw [hc2.out, hc1.out, hg.out]
  with_reducible refine at_worldP (fun W => Hid (MoC w W g c1 c2 p r1 a b)) Z ?_
  clear Z hc1 hc2 hg B XX P C
  rintro W Z
  obtain ⟨u0, u1, u2, u3, u4, u5, u6, v0, v1, v2, v3, v4, v5, v6, x0, x1, x2, x3, x4, x5, x6, x7, x8, x9⟩ := Z.out.flat
  go_region_held3 (fun W => W.cell? ⟨c1, 0, none⟩ = some (.bool false) ∧ W.cell? ⟨c1, 1, none⟩ = some (.bool false) ∧ W.cell? ⟨c1, 2, none⟩ = some (.bool false) ∧ W.cell? ⟨c1, 3, none⟩ = some (.bool false) ∧ W.cell? ⟨c1, 4, none⟩ = some (.int .u32 0) ∧ W.cell? ⟨c1, 5, none⟩ = some (.int .u32 0) ∧ W.cell? ⟨c1, 6, none⟩ = some (.int .i64 a) ∧ W.cell? ⟨c2, 0, none⟩ = some (.bool false) ∧ W.cell? ⟨c2, 1, none⟩ = some (.bool false) ∧ W.cell? ⟨c2, 2, none⟩ = some (.bool false) ∧ W.cell? ⟨c2, 3, none⟩ = some (.bool false) ∧ W.cell? ⟨c2, 4, none⟩ = some (.int .u32 0) ∧ W.cell? ⟨c2, 5, none⟩ = some (.int .u32 0) ∧ W.cell? ⟨c2, 6, none⟩ = some (.int .i64 b) ∧ W.cell? ⟨g, 0, none⟩ = some (.int .u16 (p.proto : Int)) ∧ W.cell? ⟨g, 1, none⟩ = some (.int .u8 (p.code : Int)) ∧ W.cell? ⟨g, 2, none⟩ = some (.int .u8 (p.id : Int)) ∧ W.cell? ⟨g, 3, none⟩ = some (.slice r1.ao r1.no r1.co) ∧ W.cell? ⟨g, 4, none⟩ = some (.int .u16 (p.sub : Int)) ∧ W.cell? ⟨g, 5, none⟩ = some (.int .u32 (p.magic : Int)) ∧ W.cell? ⟨g, 6, none⟩ = some (.slice r1.a1 r1.n1 r1.c1) ∧ W.cell? ⟨g, 7, none⟩ = some (.slice r1.a2 r1.n2 r1.c2) ∧ W.cell? ⟨g, 8, none⟩ = some (.slice r1.ad r1.nd r1.cd) ∧ W.cell? ⟨g, 9, none⟩ = some (.slice r1.an r1.nn r1.cn)) (first | (with_reducible exact Z.out.flat) | (with_reducible exact Z.out.drew.flat)) (first
    | (go_at_call 15; (first | (with_reducible refine (bchk_lit a p r1 _ Z.out.pw HOK.out HS.out 3 KF.out).mono ?_) | (with_reducible refine (bchk_lit a p r1 _ Z.out.drew.pw HOK.out HS.out 3 KF.out).mono ?_)); rintro e wn ⟨rfl, hb⟩; replace Z := Lib.hid (Z.out.step hb); clear hb; dsimp only)
    | (go_at_call 15; (first | (with_reducible refine (bchk_lit b p r1 _ Z.out.pw HOK.out HS.out kg KG.out).mono ?_) | (with_reducible refine (bchk_lit b p r1 _ Z.out.drew.pw HOK.out HS.out kg KG.out).mono ?_)); rintro e wn ⟨rfl, hb⟩; replace Z := Lib.hid (Z.out.step hb); clear hb; dsimp only))
  all_goals (clear u0 u1 u2 u3 u4 u5 u6 v0 v1 v2 v3 v4 v5 v6 x0 x1 x2 x3 x4 x5 x6 x7 x8 x9; obtain ⟨u0, u1, u2, u3, u4, u5, u6, v0, v1, v2, v3, v4, v5, v6, x0, x1, x2, x3, x4, x5, x6, x7, x8, x9⟩ := Z.out.flat)
  all_goals go_wp2_with fail
  all_goals
    go_ret
    refine ⟨?_, Z.out.bel⟩
    show Ending.returned (Value.bool (!decide ((n : Int) ≤ a))) = _
    rw [decide_eq_false (show ¬ (n : Int) ≤ a by have := J5.out; omega)]
    rfl

set_option maxRecDepth 8000 in
set_option maxHeartbeats 16000000 in
theorem bmost_fits0 (p : Pk) (q : Pl) (a b : Int) (w : World) (h : IsPk w p q) (hf : fewP p = true) (hab : a ≤ b) (ha : 0 ≤ a ∧ a < 65536) (hb : 0 ≤ b ∧ b < 65536) (hl : ¬ a < 64) (m : List Nat) (k : Nat) (hm : Hid (bputB p = (m, k))) (hk : k = 0) (hn2 : (m.length : Int) ≤ a) :
    Calls Try.prog 4 #[p.val q, .int .u16 a, .int .u16 b] w fun e w' => e = .returned (.bool true) ∧ Below w.heap.size w w' := by
  have C := Lib.hid (BxC.made 28 w p q)
  have H := Lib.hid h.pw
  have hno := h.no
  have HD := Lib.hid h.od
  have HF := Lib.hid hf
  have HOK := Lib.hid h.ok
  have HS := Lib.hid (fewP_sm hf)
  have hno2 : q.no ≤ 1073741824 := by rw [← h.pw.lo]; exact (fewP_sm hf).o
  obtain ⟨n, hn⟩ : ∃ n, Hid (m.length = n) := ⟨_, Lib.hid rfl⟩
  have wa : wrap64 a = a := by unfold wrap64; omega
  have wb : wrap64 b = b := by unfold wrap64; omega
  subst hk
  have KF := Lib.hid (show bchkB a p = 0 by unfold bchkB; rw [hm.out, if_neg (fun h => absurd h.2 (by show ¬ a < (m.length : Int); omega))])
  have KG := Lib.hid (show bchkB b p = 0 by unfold bchkB; rw [hm.out, if_neg (fun h => absurd h.2 (by show ¬ b < (m.length : Int); omega))])
  have j5 : (n : Int) ≤ a := by rw [← hn.out]; exact hn2
  have mx : (if a < b then b else a) = b := by split <;> omega
  clear hf h ha hb hn2
  go_enter Try.func4, Try.ntmps4
  go_upto_region 5 with (first
    | (go_at_call 6; (with_reducible refine (speaks20 _).mono ?_); rintro e wn ⟨rfl, hb⟩; replace C := Lib.hid (C.out.step hb); clear hb; (try clear x0 x1 x2 x3 x4 x5 x6 x7 x8 x9); obtain ⟨x0, x1, x2, x3, x4, x5, x6, x7, x8, x9⟩ := C.out.cf.all)
    | (go_at_call 7; (with_reducible refine (few15_any p q _ (H.out.on C.out.bel) hno HD.out _ HF.out).mono ?_); rintro e wn ⟨rfl, hb⟩; replace C := Lib.hid (C.out.step hb); clear hb; (try clear x0 x1 x2 x3 x4 x5 x6 x7 x8 x9); obtain ⟨x0, x1, x2, x3, x4, x5, x6, x7, x8, x9⟩ := C.out.cf.all)
    | (go_at_call 9; (with_reducible refine (of15_any p q _ (H.out.on C.out.bel) hno2).mono ?_); rintro e w9 ⟨r1, rfl, hp, hb⟩; have ba := (Below.refl w9.heap.size w9).alloc (Nat.le_refl _) (p.obj r1 36); have P := Lib.hid (hp.on ba); have XX := Lib.hid (px_new w9 36 p r1); have B := Lib.hid (((C.out.step hb).step ba).bel); clear hp hb ba; clear x0 x1 x2 x3 x4 x5 x6 x7 x8 x9; obtain ⟨x0, x1, x2, x3, x4, x5, x6, x7, x8, x9⟩ := XX.out.all)
    | (go_at_call 8; (with_reducible refine (bput_any p r1 _ P.out HOK.out HS.out m 0 hm.out n hn.out).mono ?_); rintro e wn ⟨A5, c5, rfl, -, -, hb⟩; replace B := Lib.hid (B.out.trans (hb.mono B.out.size)); replace P := Lib.hid (P.out.on hb); replace XX := Lib.hid (XX.out.below hb); clear hb; clear x0 x1 x2 x3 x4 x5 x6 x7 x8 x9))
  go_upto_region 6 with fail
  have Z := Lib.hid (MoC.made B.out XX.out P.out a b)
  obtain ⟨c1, hc1⟩ : ∃ g, Hid (wn.heap.size = g) := ⟨_, Lib.hid rfl⟩
  obtain ⟨c2, hc2⟩ : ∃ g, Hid (wn.heap.size + 1 = g) := ⟨_, Lib.hid rfl⟩
  obtain ⟨g, hg⟩ : ∃ g, Hid (w9.heap.size = g) := ⟨_, Lib.hid rfl⟩
  rw [hc2.out, hc1.out, hg.out] at Z
  rw [hc2.out, hc1.out, hg.out]
  with_reducible refine at_worldP (fun W => Hid (MoC w W g c1 c2 p r1 a b)) Z ?_
  clear Z hc1 hc2 hg B XX P C
  rintro W Z
  obtain ⟨u0, u1, u2, u3, u4, u5, u6, v0, v1, v2, v3, v4, v5, v6, x0, x1, x2, x3, x4, x5, x6, x7, x8, x9⟩ := Z.out.flat
  go_region_held3 (fun W => W.cell? ⟨c1, 0, none⟩ = some (.bool false) ∧ W.cell? ⟨c1, 1, none⟩ = some (.bool false) ∧ W.cell? ⟨c1, 2, none⟩ = some (.bool false) ∧ W.cell? ⟨c1, 3, none⟩ = some (.bool false) ∧ W.cell? ⟨c1, 4, none⟩ = some (.int .u32 0) ∧ W.cell? ⟨c1, 5, none⟩ = some (.int .u32 0) ∧ W.cell? ⟨c1, 6, none⟩ = some (.int .i64 a) ∧ W.cell? ⟨c2, 0, none⟩ = some (.bool false) ∧ W.cell? ⟨c2, 1, none⟩ = some (.bool false) ∧ W.cell? ⟨c2, 2, none⟩ = some (.bool false) ∧ W.cell? ⟨c2, 3, none⟩ = some (.bool false) ∧ W.cell? ⟨c2, 4, none⟩ = some (.int .u32 0) ∧ W.cell? ⟨c2, 5, none⟩ = some (.int .u32 0) ∧ W.cell? ⟨c2, 6, none⟩ = some (.int .i64 b) ∧ W.cell? ⟨g, 0, none⟩ = some (.int .u16 (p.proto : Int)) ∧ W.cell? ⟨g, 1, none⟩ = some (.int .u8 (p.code : Int)) ∧ W.cell? ⟨g, 2, none⟩ = some (.int .u8 (p.id : Int)) ∧ W.cell? ⟨g, 3, none⟩ = some (.slice r1.ao r1.no r1.co) ∧ W.cell? ⟨g, 4, none⟩ = some (.int .u16 (p.sub : Int)) ∧ W.cell? ⟨g, 5, none⟩ = some (.int .u32 (p.magic : Int)) ∧ W.cell? ⟨g, 6, none⟩ = some (.slice r1.a1 r1.n1 r1.c1) ∧ W.cell? ⟨g, 7, none⟩ = some (.slice r1.a2 r1.n2 r1.c2) ∧ W.cell? ⟨g, 8, none⟩ = some (.slice r1.ad r1.nd r1.cd) ∧ W.cell? ⟨g, 9, none⟩ = some (.slice r1.an r1.nn r1.cn)) (first | (with_reducible exact Z.out.flat) | (with_reducible exact Z.out.drew.flat)) (first
    | (go_at_call 15; (first | (with_reducible refine (bchk_lit a p r1 _ Z.out.pw HOK.out HS.out 0 KF.out).mono ?_) | (with_reducible refine (bchk_lit a p r1 _ Z.out.drew.pw HOK.out HS.out 0 KF.out).mono ?_)); rintro e wn ⟨rfl, hb⟩; replace Z := Lib.hid (Z.out.step hb); clear hb; dsimp only)
    | (go_at_call 15; (first | (with_reducible refine (bchk_lit b p r1 _ Z.out.pw HOK.out HS.out 0 KG.out).mono ?_) | (with_reducible refine (bchk_lit b p r1 _ Z.out.drew.pw HOK.out HS.out 0 KG.out).mono ?_)); rintro e wn ⟨rfl, hb⟩; replace Z := Lib.hid (Z.out.step hb); clear hb; dsimp only))
  all_goals (clear u0 u1 u2 u3 u4 u5 u6 v0 v1 v2 v3 v4 v5 v6 x0 x1 x2 x3 x4 x5 x6 x7 x8 x9; obtain ⟨u0, u1, u2, u3, u4, u5, u6, v0, v1, v2, v3, v4, v5, v6, x0, x1, x2, x3, x4, x5, x6, x7, x8, x9⟩ := Z.out.flat)
  all_goals go_wp2_with fail
  all_goals
    go_ret
    exact ⟨rfl, Z.out.bel⟩

set_option maxHeartbeats 4000000 in
theorem bmost_low1 (p : Pk) (q : Pl) (a b : Int) (w : World) (h : IsPk w p q) (hf : fewP p = true) (hab : ¬ a ≤ b) (hl : b < 64) :
    Calls Try.prog 4 #[p.val q, .int .u16 a, .int .u16 b] w fun e w' => e = .returned (.bool true) ∧ Below w.heap.size w w' := by
  have C := Lib.hid (BxC.made 28 w p q)
  have H := Lib.hid h.pw
  have hno := h.no
  have HD := Lib.hid h.od
  have HF := Lib.hid hf
  have hba : b ≤ a := by omega
  have hba2 : b < a := by omega
  clear hf h
  go_enter Try.func4, Try.ntmps4
  go_wp2_with (first
    | (go_at_call 6; (with_reducible refine (speaks20 _).mono ?_); rintro e wn ⟨rfl, hb⟩; replace C := Lib.hid (C.out.step hb); clear hb; (try clear x0 x1 x2 x3 x4 x5 x6 x7 x8 x9); obtain ⟨x0, x1, x2, x3, x4, x5, x6, x7, x8, x9⟩ := C.out.cf.all)
    | (go_at_call 7; (with_reducible refine (few15_any p q _ (H.out.on C.out.bel) hno HD.out _ HF.out).mono ?_); rintro e wn ⟨rfl, hb⟩; replace C := Lib.hid (C.out.step hb); clear hb; (try clear x0 x1 x2 x3 x4 x5 x6 x7 x8 x9); obtain ⟨x0, x1, x2, x3, x4, x5, x6, x7, x8, x9⟩ := C.out.cf.all))
  go_ret
  exact ⟨rfl, C.out.bel⟩

set_option maxRecDepth 8000 in
set_option maxHeartbeats 16000000 in
theorem bmost_err1 (p : Pk) (q : Pl) (a b : Int) (w : World) (h : IsPk w p q) (hf : fewP p = true) (hab : ¬ a ≤ b) (ha : 0 ≤ a ∧ a < 65536) (hb : 0 ≤ b ∧ b < 65536) (hl : ¬ b < 64) (m : List Nat) (k : Nat) (hm : Hid (bputB p = (m, k))) (hk : ¬ k = 0) :
    Calls Try.prog 4 #[p.val q, .int .u16 a, .int .u16 b] w fun e w' => e = .returned (.bool true) ∧ Below w.heap.size w w' := by
  have C := Lib.hid (BxC.made 28 w p q)
  have H := Lib.hid h.pw
  have hno := h.no
  have HD := Lib.hid h.od
  have HF := Lib.hid hf
  have HOK := Lib.hid h.ok
  have HS := Lib.hid (fewP_sm hf)
  have hno2 : q.no ≤ 1073741824 := by rw [← h.pw.lo]; exact (fewP_sm hf).o
  obtain ⟨n, hn⟩ : ∃ n, Hid (m.length = n) := ⟨_, Lib.hid rfl⟩
  have wa : wrap64 a = a := by unfold wrap64; omega
  have wb : wrap64 b = b := by unfold wrap64; omega
  have KF := Lib.hid (show bchkB b p = k by unfold bchkB; rw [hm.out, if_neg (fun h => hk h.1)])
  have KG := Lib.hid (show bchkB a p = k by unfold bchkB; rw [hm.out, if_neg (fun h => hk h.1)])
  have f0 : ((k : Int) != 0) = true := by rw [bne_iff_ne]; omega
  have hba : b ≤ a := by omega
  have hba2 : b < a := by omega
  clear hf h ha hb hk
  go_enter Try.func4, Try.ntmps4
  go_upto_region 5 with (first
    | (go_at_call 6; (with_reducible refine (speaks20 _).mono ?_); rintro e wn ⟨rfl, hb⟩; replace C := Lib.hid (C.out.step hb); clear hb; (try clear x0 x1 x2 x3 x4 x5 x6 x7 x8 x9); obtain ⟨x0, x1, x2, x3, x4, x5, x6, x7, x8, x9⟩ := C.out.cf.all)
    | (go_at_call 7; (with_reducible refine (few15_any p q _ (H.out.on C.out.bel) hno HD.out _ HF.out).mono ?_); rintro e wn ⟨rfl, hb⟩; replace C := Lib.hid (C.out.step hb); clear hb; (try clear x0 x1 x2 x3 x4 x5 x6 x7 x8 x9); obtain ⟨x0, x1, x2, x3, x4, x5, x6, x7, x8, x9⟩ := C.out.cf.all)
    | (go_at_call 9; (with_reducible refine (of15_any p q _ (H.out.on C.out.bel) hno2).mono ?_); rintro e w9 ⟨r1, rfl, hp, hb⟩; have ba := (Below.refl w9.heap.size w9).alloc (Nat.le_refl _) (p.obj r1 36); have P := Lib.hid (hp.on ba); have XX := Lib.hid (px_new w9 36 p r1); have B := Lib.hid (((C.out.step hb).step ba).bel); clear hp hb ba; clear x0 x1 x2 x3 x4 x5 x6 x7 x8 x9; obtain ⟨x0, x1, x2, x3, x4, x5, x6, x7, x8, x9⟩ := XX.out.all)
    | (go_at_call 8; (with_reducible refine (bput_any p r1 _ P.out HOK.out HS.out m k hm.out n hn.out).mono ?_); rintro e wn ⟨A5, c5, rfl, -, -, hb⟩; replace B := Lib.hid (B.out.trans (hb.mono B.out.size)); replace P := Lib.hid (P.out.on hb); replace XX := Lib.hid (XX.out.below hb); clear hb; clear x0 x1 x2 x3 x4 x5 x6 x7 x8 x9))
  go_upto_region 6 with fail
  have Z := Lib.hid (MoC.made B.out XX.out P.out b a)
  obtain ⟨c1, hc1⟩ : ∃ g, Hid (wn.heap.size = g) := ⟨_, Lib.hid rfl⟩
  obtain ⟨c2, hc2⟩ : ∃ g, Hid (wn.heap.size + 1 = g) := ⟨_, Lib.hid rfl⟩
  obtain ⟨g, hg⟩ : ∃ g, Hid (w9.heap.size = g) := ⟨_, Lib.hid rfl⟩
  rw [hc2.out, hc1.out, hg.out] at Z
  rw [hc2.out, hc1.out, hg.out]
  with_reducible refine at_worldP (fun W => Hid (MoC w W g c1 c2 p r1 b a)) Z ?_
  clear Z hc1 hc2 hg B XX P C
  rintro W Z
  obtain ⟨u0, u1, u2, u3, u4, u5, u6, v0, v1, v2, v3, v4, v5, v6, x0, x1, x2, x3, x4, x5, x6, x7, x8, x9⟩ := Z.out.flat
  go_region_held3 (fun W => W.cell? ⟨c1, 0, none⟩ = some (.bool false) ∧ W.cell? ⟨c1, 1, none⟩ = some (.bool false) ∧ W.cell? ⟨c1, 2, none⟩ = some (.bool false) ∧ W.cell? ⟨c1, 3, none⟩ = some (.bool false) ∧ W.cell? ⟨c1, 4, none⟩ = some (.int .u32 0) ∧ W.cell? ⟨c1, 5, none⟩ = some (.int .u32 0) ∧ W.cell? ⟨c1, 6, none⟩ = some (.int .i64 b) ∧ W.cell? ⟨c2, 0, none⟩ = some (.bool false) ∧ W.cell? ⟨c2, 1, none⟩ = some (.bool false) ∧ W.cell? ⟨c2, 2, none⟩ = some (.bool false) ∧ W.cell? ⟨c2, 3, none⟩ = some (.bool false) ∧ W.cell? ⟨c2, 4, none⟩ = some (.int .u32 0) ∧ W.cell? ⟨c2, 5, none⟩ = some (.int .u32 0) ∧ W.cell? ⟨c2, 6, none⟩ = some (.int .i64 a) ∧ W.cell? ⟨g, 0, none⟩ = some (.int .u16 (p.proto : Int)) ∧ W.cell? ⟨g, 1, none⟩ = some (.int .u8 (p.code : Int)) ∧ W.cell? ⟨g, 2, none⟩ = some (.int .u8 (p.id : Int)) ∧ W.cell? ⟨g, 3, none⟩ = some (.slice r1.ao r1.no r1.co) ∧ W.cell? ⟨g, 4, none⟩ = some (.int .u16 (p.sub : Int)) ∧ W.cell? ⟨g, 5, none⟩ = some (.int .u32 (p.magic : Int)) ∧ W.cell? ⟨g, 6, none⟩ = some (.slice r1.a1 r1.n1 r1.c1) ∧ W.cell? ⟨g, 7, none⟩ = some (.slice r1.a2 r1.n2 r1.c2) ∧ W.cell? ⟨g, 8, none⟩ = some (.slice r1.ad r1.nd r1.cd) ∧ W.cell? ⟨g, 9, none⟩ = some (.slice r1.an r1.nn r1.cn)) (first | (with_reducible exact Z.out.flat) | (with_reducible exact Z.out.drew.flat)) (first
    | (go_at_call 15; (first | (with_reducible refine (bchk_lit b p r1 _ Z.out.pw HOK.out HS.out k KF.out).mono ?_) | (with_reducible refine (bchk_lit b p r1 _ Z.out.drew.pw HOK.out HS.out k KF.out).mono ?_)); rintro e wn ⟨rfl, hb⟩; replace Z := Lib.hid (Z.out.step hb); clear hb; dsimp only)
    | (go_at_call 15; (first | (with_reducible refine (bchk_lit a p r1 _ Z.out.pw HOK.out HS.out k KG.out).mono ?_) | (with_reducible refine (bchk_lit a p r1 _ Z.out.drew.pw HOK.out HS.out k KG.out).mono ?_)); rintro e wn ⟨rfl, hb⟩; replace Z := Lib.hid (Z.out.step hb); clear hb; dsimp only))
  all_goals (clear u0 u1 u2 u3 u4 u5 u6 v0 v1 v2 v3 v4 v5 v6 x0 x1 x2 x3 x4 x5 x6 x7 x8 x9; obtain ⟨u0, u1, u2, u3, u4, u5, u6, v0, v1, v2, v3, v4, v5, v6, x0, x1, x2, x3, x4, x5, x6, x7, x8, x9⟩ := Z.out.flat)
  all_goals go_wp2_with fail
  all_goals
    go_ret
    exact ⟨rfl, Z.out.bel⟩

set_option maxRecDepth 8000 in
set_option maxHeartbeats 16000000 in
theorem bmost_long1 (p : Pk) (q : Pl) (a b : Int) (w : World) (h : IsPk w p q) (hf : fewP p = true) (hab : ¬ a ≤ b) (ha : 0 ≤ a ∧ a < 65536) (hb : 0 ≤ b ∧ b < 65536) (hl : ¬ b < 64) (m : List Nat) (k : Nat) (hm : Hid (bputB p = (m, k))) (hk : k = 0) (hn2 : b < (m.length : Int)) :
    Calls Try.prog 4 #[p.val q, .int .u16 a, .int .u16 b] w fun e w' => e = .returned (.bool true) ∧ Below w.heap.size w w' := by
  have C := Lib.hid (BxC.made 28 w p q)
  have H := Lib.hid h.pw
  have hno := h.no
  have HD := Lib.hid h.od
  have HF := Lib.hid hf
  have HOK := Lib.hid h.ok
  have HS := Lib.hid (fewP_sm hf)
  have hno2 : q.no ≤ 1073741824 := by rw [← h.pw.lo]; exact (fewP_sm hf).o
  obtain ⟨n, hn⟩ : ∃ n, Hid (m.length = n) := ⟨_, Lib.hid rfl⟩
  have wa : wrap64 a = a := by unfold wrap64; omega
  have wb : wrap64 b = b := by unfold wrap64; omega
  subst hk
  have KF := Lib.hid (show bchkB b p = 3 by unfold bchkB; rw [hm.out, if_pos ⟨rfl, hn2⟩])
  obtain ⟨kg, KG⟩ : ∃ kg, Hid (bchkB a p = kg) := ⟨_, Lib.hid rfl⟩
  have J5 := Lib.hid (show ¬ (n : Int) ≤ b by rw [← hn.out]; omega)
  have hba : b ≤ a := by omega
  have hba2 : b < a := by omega
  clear hf h ha hb hn2
  go_enter Try.func4, Try.ntmps4
  go_upto_region 5 with (first
    | (go_at_call 6; (with_reducible refine (speaks20 _).mono ?_); rintro e wn ⟨rfl, hb⟩; replace C := Lib.hid (C.out.step hb); clear hb; (try clear x0 x1 x2 x3 x4 x5 x6 x7 x8 x9); obtain ⟨x0, x1, x2, x3, x4, x5, x6, x7, x8, x9⟩ := C.out.cf.all)
    | (go_at_call 7; (with_reducible refine (few15_any p q _ (H.out.on C.out.bel) hno HD.out _ HF.out).mono ?_); rintro e wn ⟨rfl, hb⟩; replace C := Lib.hid (C.out.step hb); clear hb; (try clear x0 x1 x2 x3 x4 x5 x6 x7 x8 x9); obtain ⟨x0, x1, x2, x3, x4, x5, x6, x7, x8, x9⟩ := C.out.cf.all)
    | (go_at_call 9; (with_reducible refine (of15_any p q _ (H.out.on C.out.bel) hno2).mono ?_); rintro e w9 ⟨r1, rfl, hp, hb⟩; have ba := (Below.refl w9.heap.size w9).alloc (Nat.le_refl _) (p.obj r1 36); have P := Lib.hid (hp.on ba); have XX := Lib.hid (px_new w9 36 p r1); have B := Lib.hid (((C.out.step hb).step ba).bel); clear hp hb ba; clear x0 x1 x2 x3 x4 x5 x6 x7 x8 x9; obtain ⟨x0, x1, x2, x3, x4, x5, x6, x7, x8, x9⟩ := XX.out.all)
    | (go_at_call 8; (with_reducible refine (bput_any p r1 _ P.out HOK.out HS.out m 0 hm.out n hn.out).mono ?_); rintro e wn ⟨A5, c5, rfl, -, -, hb⟩; replace B := Lib.hid (B.out.trans (hb.mono B.out.size)); replace P := Lib.hid (P.out.on hb); replace XX := Lib.hid (XX.out.below hb); clear hb; clear x0 x1 x2 x3 x4 x5 x6 x7 x8 x9))
  go_upto_region 6 with fail
  have Z := Lib.hid (MoC.made B.out XX.out P.out b a)
  obtain ⟨c1, hc1⟩ : ∃ g, Hid (wn.heap.size = g) := ⟨_, Lib.hid rfl⟩
  obtain ⟨c2, hc2⟩ : ∃ g, Hid (wn.heap.size + 1 = g) := ⟨_, Lib.hid rfl⟩
  obtain ⟨g, hg⟩ : ∃ g, Hid (w9.heap.size = g) := ⟨_, Lib.hid rfl⟩
  rw [hc2.out, hc1.out, hg.out] at Z
  rw [hc2.out, hc1.out, hg.out]
  with_reducible refine at_worldP (fun W => Hid (MoC w W g c1 c2 p r1 b a)) Z ?_
  clear Z hc1 hc2 hg B XX P C
  rintro W Z
  obtain ⟨u0, u1, u2, u3, u4, u5, u6, v0, v1, v2, v3, v4, v5, v6, x0, x1, x2, x3, x4, x5, x6, x7, x8, x9⟩ := Z.out.flat
  go_region_held3 (fun W => W.cell? ⟨c1, 0, none⟩ = some (.bool false) ∧ W.cell? ⟨c1, 1, none⟩ = some (.bool false) ∧ W.cell? ⟨c1, 2, none⟩ = some (.bool false) ∧ W.cell? ⟨c1, 3, none⟩ = some (.bool false) ∧ W.cell? ⟨c1, 4, none⟩ = some (.int .u32 0) ∧ W.cell? ⟨c1, 5, none⟩ = some (.int .u32 0) ∧ W.cell? ⟨c1, 6, none⟩ = some (.int .i64 b) ∧ W.cell? ⟨c2, 0, none⟩ = some (.bool false) ∧ W.cell? ⟨c2, 1, none⟩ = some (.bool false) ∧ W.cell? ⟨c2, 2, none⟩ = some (.bool false) ∧ W.cell? ⟨c2, 3, none⟩ = some (.bool false) ∧ W.cell? ⟨c2, 4, none⟩ = some (.int .u32 0) ∧ W.cell? ⟨c2, 5, none⟩ = some (.int .u32 0) ∧ W.cell? ⟨c2, 6, none⟩ = some (.int .i64 a) ∧ W.cell? ⟨g, 0, none⟩ = some (.int .u16 (p.proto : Int)) ∧ W.cell? ⟨g, 1, none⟩ = some (.int .u8 (p.code : Int)) ∧ W.cell? ⟨g, 2, none⟩ = some (.int .u8 (p.id : Int)) ∧ W.cell? ⟨g, 3, none⟩ = some (.slice r1.ao r1.no r1.co) ∧ W.cell? ⟨g, 4, none⟩ = some (.int .u16 (p.sub : Int)) ∧ W.cell? ⟨g, 5, none⟩ = some (.int .u32 (p.magic : Int)) ∧ W.cell? ⟨g, 6, none⟩ = some (.slice r1.a1 r1.n1 r1.c1) ∧ W.cell? ⟨g, 7, none⟩ = some (.slice r1.a2 r1.n2 r1.c2) ∧ W.cell? ⟨g, 8, none⟩ = some (.slice r1.ad r1.nd r1.cd) ∧ W.cell? ⟨g, 9, none⟩ = some (.slice r1.an r1.nn r1.cn)) (first | (with_reducible exact Z.out.flat) | (with_reducible exact Z.out.drew.flat)) (first
    | (go_at_call 15; (first | (with_reducible refine (bchk_lit b p r1 _ Z.out.pw HOK.out HS.out 3 KF.out).mono ?_) | (with_reducible refine (bchk_lit b p r1 _ Z.out.drew.pw HOK.out HS.out 3 KF.out).mono ?_)); rintro e wn ⟨rfl, hb⟩; replace Z := Lib.hid (Z.out.step hb); clear hb; dsimp only)
    | (go_at_call 15; (first | (with_reducible refine (bchk_lit a p r1 _ Z.out.pw HOK.out HS.out kg KG.out).mono ?_) | (with_reducible refine (bchk_lit a p r1 _ Z.out.drew.pw HOK.out HS.out kg KG.out).mono ?_)); rintro e wn ⟨rfl, hb⟩; replace Z := Lib.hid (Z.out.step hb); clear hb; dsimp only))
  all_goals (clear u0 u1 u2 u3 u4 u5 u6 v0 v1 v2 v3 v4 v5 v6 x0 x1 x2 x3 x4 x5 x6 x7 x8 x9; obtain ⟨u0, u1, u2, u3, u4, u5, u6, v0, v1, v2, v3, v4, v5, v6, x0, x1, x2, x3, x4, x5, x6, x7, x8, x9⟩ := Z.out.flat)
  all_goals go_wp2_with fail
  all_goals
    go_ret
    refine ⟨?_, Z.out.bel⟩
    show Ending.returned (Value.bool (!decide ((n : Int) ≤ b))) = _
    rw [decide_eq_false (show ¬ (n : Int) ≤ b by have := J5.out; omega)]
    rfl

set_option maxRecDepth 8000 in
set_option maxHeartbeats 16000000 in
theorem bmost_fits1 (p : Pk) (q : Pl) (a b : Int) (w : World) (h : IsPk w p q) (hf : fewP p = true) (hab : ¬ a ≤ b) (ha : 0 ≤ a ∧ a < 65536) (hb : 0 ≤ b ∧ b < 65536) (hl : ¬ b < 64) (m : List Nat) (k : Nat) (hm : Hid (bputB p = (m, k))) (hk : k = 0) (hn2 : (m.length : Int) ≤ b) :
    Calls Try.prog 4 #[p.val q, .int .u16 a, .int .u16 b] w fun e w' => e = .returned (.bool true) ∧ Below w.heap.size w w' := by
  have C := Lib.hid (BxC.made 28 w p q)
  have H := Lib.hid h.pw
  have hno := h.no
  have HD := Lib.hid h.od
  have HF := Lib.hid hf
  have HOK := Lib.hid h.ok
  have HS := Lib.hid (fewP_sm hf)
  have hno2 : q.no ≤ 1073741824 := by rw [← h.pw.lo]; exact (fewP_sm hf).o
  obtain ⟨n, hn⟩ : ∃ n, Hid (m.length = n) := ⟨_, Lib.hid rfl⟩
  have wa : wrap64 a = a := by unfold wrap64; omega
  have wb : wrap64 b = b := by unfold wrap64; omega
  subst hk
  have KF := Lib.hid (show bchkB b p = 0 by unfold bchkB; rw [hm.out, if_neg (fun h => absurd h.2 (by show ¬ b < (m.length : Int); omega))])
  have KG := Lib.hid (show bchkB a p = 0 by unfold bchkB; rw [hm.out, if_neg (fun h => absurd h.2 (by show ¬ a < (m.length : Int); omega))])
  have j5 : (n : Int) ≤ b := by rw [← hn.out]; exact hn2
  have hba : b ≤ a := by omega
  have hba2 : b < a := by omega
  clear hf h ha hb hn2
  go_enter Try.func4, Try.ntmps4
  go_upto_region 5 with (first
    | (go_at_call 6; (with_reducible refine (speaks20 _).mono ?_); rintro e wn ⟨rfl, hb⟩; replace C := Lib.hid (C.out.step hb); clear hb; (try clear x0 x1 x2 x3 x4 x5 x6 x7 x8 x9); obtain ⟨x0, x1, x2, x3, x4, x5, x6, x7, x8, x9⟩ := C.out.cf.all)
    | (go_at_call 7; (with_reducible refine (few15_any p q _ (H.out.on C.out.bel) hno HD.out _ HF.out).mono ?_); rintro e wn ⟨rfl, hb⟩; replace C := Lib.hid (C.out.step hb); clear hb; (try clear x0 x1 x2 x3 x4 x5 x6 x7 x8 x9); obtain ⟨x0, x1, x2, x3, x4, x5, x6, x7, x8, x9⟩ := C.out.cf.all)
    | (go_at_call 9; (with_reducible refine (of15_any p q _ (H.out.on C.out.bel) hno2).mono ?_); rintro e w9 ⟨r1, rfl, hp, hb⟩; have ba := (Below.refl w9.heap.size w9).alloc (Nat.le_refl _) (p.obj r1 36); have P := Lib.hid (hp.on ba); have XX := Lib.hid (px_new w9 36 p r1); have B := Lib.hid (((C.out.step hb).step ba).bel); clear hp hb ba; clear x0 x1 x2 x3 x4 x5 x6 x7 x8 x9; obtain ⟨x0, x1, x2, x3, x4, x5, x6, x7, x8, x9⟩ := XX.out.all)
    | (go_at_call 8; (with_reducible refine (bput_any p r1 _ P.out HOK.out HS.out m 0 hm.out n hn.out).mono ?_); rintro e wn ⟨A5, c5, rfl, -, -, hb⟩; replace B := Lib.hid (B.out.trans (hb.mono B.out.size)); replace P := Lib.hid (P.out.on hb); replace XX := Lib.hid (XX.out.below hb); clear hb; clear x0 x1 x2 x3 x4 x5 x6 x7 x8 x9))
  go_upto_region 6 with fail
  have Z := Lib.hid (MoC.made B.out XX.out P.out b a)
  obtain ⟨c1, hc1⟩ : ∃ g, Hid (wn.heap.size = g) := ⟨_, Lib.hid rfl⟩
  obtain ⟨c2, hc2⟩ : ∃ g, Hid (wn.heap.size + 1 = g) := ⟨_, Lib.hid rfl⟩
  obtain ⟨g, hg⟩ : ∃ g, Hid (w9.heap.size = g) := ⟨_, Lib.hid rfl⟩
  rw [hc2.out, hc1.out, hg.out] at Z
  rw [hc2.out, hc1.out, hg.out]
  with_reducible refine at_worldP (fun W => Hid (MoC w W g c1 c2 p r1 b a)) Z ?_
  clear Z hc1 hc2 hg B XX P C
  rintro W Z
  obtain ⟨u0, u1, u2, u3, u4, u5, u6, v0, v1, v2, v3, v4, v5, v6, x0, x1, x2, x3, x4, x5, x6, x7, x8, x9⟩ := Z.out.flat
  go_region_held3 (fun W => W.cell? ⟨c1, 0, none⟩ = some (.bool false) ∧ W.cell? ⟨c1, 1, none⟩ = some (.bool false) ∧ W.cell? ⟨c1, 2, none⟩ = some (.bool false) ∧ W.cell? ⟨c1, 3, none⟩ = some (.bool false) ∧ W.cell? ⟨c1, 4, none⟩ = some (.int .u32 0) ∧ W.cell? ⟨c1, 5, none⟩ = some (.int .u32 0) ∧ W.cell? ⟨c1, 6, none⟩ = some (.int .i64 b) ∧ W.cell? ⟨c2, 0, none⟩ = some (.bool false) ∧ W.cell? ⟨c2, 1, none⟩ = some (.bool false) ∧ W.cell? ⟨c2, 2, none⟩ = some (.bool false) ∧ W.cell? ⟨c2, 3, none⟩ = some (.bool false) ∧ W.cell? ⟨c2, 4, none⟩ = some (.int .u32 0) ∧ W.cell? ⟨c2, 5, none⟩ = some (.int .u32 0) ∧ W.cell? ⟨c2, 6, none⟩ = some (.int .i64 a) ∧ W.cell? ⟨g, 0, none⟩ = some (.int .u16 (p.proto : Int)) ∧ W.cell? ⟨g, 1, none⟩ = some (.int .u8 (p.code : Int)) ∧ W.cell? ⟨g, 2, none⟩ = some (.int .u8 (p.id : Int)) ∧ W.cell? ⟨g, 3, none⟩ = some (.slice r1.ao r1.no r1.co) ∧ W.cell? ⟨g, 4, none⟩ = some (.int .u16 (p.sub : Int)) ∧ W.cell? ⟨g, 5, none⟩ = some (.int .u32 (p.magic : Int)) ∧ W.cell? ⟨g, 6, none⟩ = some (.slice r1.a1 r1.n1 r1.c1) ∧ W.cell? ⟨g, 7, none⟩ = some (.slice r1.a2 r1.n2 r1.c2) ∧ W.cell? ⟨g, 8, none⟩ = some (.slice r1.ad r1.nd r1.cd) ∧ W.cell? ⟨g, 9, none⟩ = some (.slice r1.an r1.nn r1.cn)) (first | (with_reducible exact Z.out.flat) | (with_reducible exact Z.out.drew.flat)) (first
    | (go_at_call 15; (first | (with_reducible refine (bchk_lit b p r1 _ Z.out.pw HOK.out HS.out 0 KF.out).mono ?_) | (with_reducible refine (bchk_lit b p r1 _ Z.out.drew.pw HOK.out HS.out 0 KF.out).mono ?_)); rintro e wn ⟨rfl, hb⟩; replace Z := Lib.hid (Z.out.step hb); clear hb; dsimp only)
    | (go_at_call 15; (first | (with_reducible refine (bchk_lit a p r1 _ Z.out.pw HOK.out HS.out 0 KG.out).mono ?_) | (with_reducible refine (bchk_lit a p r1 _ Z.out.drew.pw HOK.out HS.out 0 KG.out).mono ?_)); rintro e wn ⟨rfl, hb⟩; replace Z := Lib.hid (Z.out.step hb); clear hb; dsimp only))
  all_goals (clear u0 u1 u2 u3 u4 u5 u6 v0 v1 v2 v3 v4 v5 v6 x0 x1 x2 x3 x4 x5 x6 x7 x8 x9; obtain ⟨u0, u1, u2, u3, u4, u5, u6, v0, v1, v2, v3, v4, v5, v6, x0, x1, x2, x3, x4, x5, x6, x7, x8, x9⟩ := Z.out.flat)
  all_goals go_wp2_with fail
  all_goals
    go_ret
    exact ⟨rfl, Z.out.bel⟩

theorem bmost_any (p : Pk) (q : Pl) (a b : Int) (w : World) (h : IsPk w p q) (ha : 0 ≤ a ∧ a < 65536) (hb : 0 ≤ b ∧ b < 65536) :
    Calls Try.prog 4 #[p.val q, .int .u16 a, .int .u16 b] w fun e w' => e = .returned (.bool true) ∧ Below w.heap.size w w' := by
  cases hf : fewP p
  · exact bmost_few p q a b w h hf
  obtain ⟨m, k, hm⟩ : ∃ m k, Hid (bputB p = (m, k)) := ⟨_, _, Lib.hid rfl⟩
  by_cases hab : a ≤ b
  · by_cases hl : a < 64
    · exact bmost_low0 p q a b w h hf hab hl
    by_cases hk : k = 0
    · rcases Int.lt_or_le a (m.length : Int) with h1 | h1
      · exact bmost_long0 p q a b w h hf hab ha hb hl m k hm hk h1
      · exact bmost_fits0 p q a b w h hf hab ha hb hl m k hm hk h1
    · exact bmost_err0 p q a b w h hf hab ha hb hl m k hm hk
  · by_cases hl : b < 64
    · exact bmost_low1 p q a b w h hf hab hl
    by_cases hk : k = 0
    · rcases Int.lt_or_le b (m.length : Int) with h1 | h1
      · exact bmost_long1 p q a b w h hf hab ha hb hl m k hm hk h1
      · exact bmost_fits1 p q a b w h hf hab ha hb hl m k hm hk h1
    · exact bmost_err1 p q a b w h hf hab ha hb hl m k hm hk
end Go.Proofs.Ythebckidjhenlaa
