
/-
  NcpBack's walk. No condition.
-/
import Derived.Test.YtdnnincdbenjfaaNcpTW
import Derived.Test.YtdnnincdbenjfaaPktQ
namespace Go.Proofs.Ytdnnincdbenjfaa
open Go.RowKit
set_option linter.unusedVariables false


set_option maxHeartbeats 4000000 in
theorem nback_few (p : Pk) (q : Pl) (t : Int) (A1 : Option Addr) (n1 c1 : Nat) (A2 : Option Addr) (n2 c2 : Nat) (w : World) (h : IsPk w p q) (hf : fewP p = false) :
    Calls Try.prog 4 #[p.val q, .int .u16 t, .slice A1 n1 c1, .slice A2 n2 c2] w fun e w' => e = .returned (.bool true) ∧ Below w.heap.size w w' := by
  have C := Lib.hid (BxC.made 28 w p q)
  have H := Lib.hid h.pw
  have hno := h.no
  have HD := Lib.hid h.od
  have HF := Lib.hid hf
  clear hf
  clear h
  go_enter Try.func4, Try.ntmps4
  go_wp2_with (first
    | (go_at_call 6; (with_reducible refine (speaks16 _).mono ?_); rintro e wn ⟨rfl, hb⟩; replace C := Lib.hid (C.out.step hb); clear hb; (try clear x0 x1 x2 x3 x4 x5 x6 x7 x8 x9); obtain ⟨x0, x1, x2, x3, x4, x5, x6, x7, x8, x9⟩ := C.out.cf.all)
    | (go_at_call 7; (with_reducible refine (few15_any p q _ (H.out.on C.out.bel) hno HD.out _ HF.out).mono ?_); rintro e wn ⟨rfl, hb⟩; replace C := Lib.hid (C.out.step hb); clear hb; (try clear x0 x1 x2 x3 x4 x5 x6 x7 x8 x9); obtain ⟨x0, x1, x2, x3, x4, x5, x6, x7, x8, x9⟩ := C.out.cf.all))
  go_ret
  exact ⟨rfl, C.out.bel⟩

set_option maxHeartbeats 4000000 in
theorem nback_long1 (p : Pk) (q : Pl) (t : Int) (A1 : Option Addr) (n1 c1 : Nat) (A2 : Option Addr) (n2 c2 : Nat) (w : World) (h : IsPk w p q) (hf : fewP p = true) (h1 : 600 < n1) :
    Calls Try.prog 4 #[p.val q, .int .u16 t, .slice A1 n1 c1, .slice A2 n2 c2] w fun e w' => e = .returned (.bool true) ∧ Below w.heap.size w w' := by
  have C := Lib.hid (BxC.made 28 w p q)
  have H := Lib.hid h.pw
  have hno := h.no
  have HD := Lib.hid h.od
  have HF := Lib.hid hf
  have j1 : (600 : Int) < (n1 : Int) := by omega
  clear hf h1
  clear h
  go_enter Try.func4, Try.ntmps4
  go_wp2_with (first
    | (go_at_call 6; (with_reducible refine (speaks16 _).mono ?_); rintro e wn ⟨rfl, hb⟩; replace C := Lib.hid (C.out.step hb); clear hb; (try clear x0 x1 x2 x3 x4 x5 x6 x7 x8 x9); obtain ⟨x0, x1, x2, x3, x4, x5, x6, x7, x8, x9⟩ := C.out.cf.all)
    | (go_at_call 7; (with_reducible refine (few15_any p q _ (H.out.on C.out.bel) hno HD.out _ HF.out).mono ?_); rintro e wn ⟨rfl, hb⟩; replace C := Lib.hid (C.out.step hb); clear hb; (try clear x0 x1 x2 x3 x4 x5 x6 x7 x8 x9); obtain ⟨x0, x1, x2, x3, x4, x5, x6, x7, x8, x9⟩ := C.out.cf.all))
  go_ret
  exact ⟨rfl, C.out.bel⟩

set_option maxHeartbeats 4000000 in
theorem nback_long2 (p : Pk) (q : Pl) (t : Int) (A1 : Option Addr) (n1 c1 : Nat) (A2 : Option Addr) (n2 c2 : Nat) (w : World) (h : IsPk w p q) (hf : fewP p = true) (h1 : n1 ≤ 600) (h2 : 600 < n2) :
    Calls Try.prog 4 #[p.val q, .int .u16 t, .slice A1 n1 c1, .slice A2 n2 c2] w fun e w' => e = .returned (.bool true) ∧ Below w.heap.size w w' := by
  have C := Lib.hid (BxC.made 28 w p q)
  have H := Lib.hid h.pw
  have hno := h.no
  have HD := Lib.hid h.od
  have HF := Lib.hid hf
  have j1 : ¬ (600 : Int) < (n1 : Int) := by omega
  have j2 : (600 : Int) < (n2 : Int) := by omega
  clear hf h1 h2
  clear h
  go_enter Try.func4, Try.ntmps4
  go_wp2_with (first
    | (go_at_call 6; (with_reducible refine (speaks16 _).mono ?_); rintro e wn ⟨rfl, hb⟩; replace C := Lib.hid (C.out.step hb); clear hb; (try clear x0 x1 x2 x3 x4 x5 x6 x7 x8 x9); obtain ⟨x0, x1, x2, x3, x4, x5, x6, x7, x8, x9⟩ := C.out.cf.all)
    | (go_at_call 7; (with_reducible refine (few15_any p q _ (H.out.on C.out.bel) hno HD.out _ HF.out).mono ?_); rintro e wn ⟨rfl, hb⟩; replace C := Lib.hid (C.out.step hb); clear hb; (try clear x0 x1 x2 x3 x4 x5 x6 x7 x8 x9); obtain ⟨x0, x1, x2, x3, x4, x5, x6, x7, x8, x9⟩ := C.out.cf.all))
  go_ret
  exact ⟨rfl, C.out.bel⟩

set_option maxRecDepth 4000 in
set_option maxHeartbeats 40000000 in
theorem nback_yes_yes (p : Pk) (q : Pl) (t : Nat) (t16 : t < 65536) (l1 : List Nat) (A1 : Option Addr) (n1 c1 : Nat) (b : List Nat) (A2 : Option Addr) (n2 c2 : Nat) (w : World) (h : IsPk w p q) (hR1 : Rd w w.heap.size A1 l1) (hB1 : By l1) (hL1 : l1.length = n1) (hR2 : Rd w w.heap.size A2 b) (hB2 : By b) (hL2 : b.length = n2) (hc2 : n2 ≤ c2) (hf : fewP p = true) (h1 : n1 ≤ 600) (h2 : n2 ≤ 600) (m : List Nat) (k : Nat) (hm : nputB p = (m, k)) (hk : k = 0) (y : Pk) (k2 : Nat) (hy : ngetB t b = (y, k2)) (hk2 : k2 = 0) :
    Calls Try.prog 4 #[p.val q, .int .u16 (t : Int), .slice A1 n1 c1, .slice A2 n2 c2] w fun e w' => e = .returned (.bool true) ∧ Below w.heap.size w w' := by
  obtain ⟨i0, hi, hz0, hz1, hz2⟩ := info_parts byte_info
  have C := Lib.hid (BxC.made 28 w p q)
  have H := Lib.hid h.pw
  have hno := h.no
  have HD := Lib.hid h.od
  have HK := Lib.hid h.ok
  have HF := Lib.hid hf
  have HS := Lib.hid (fewP_sm hf)
  have HR1 := Lib.hid hR1
  have HL1 := Lib.hid hL1
  have HR2 := Lib.hid hR2
  have HB2 := Lib.hid hB2
  have HL2 := Lib.hid hL2
  have hno2 : q.no ≤ 1073741824 := by rw [← h.pw.lo]; exact (fewP_sm hf).o
  have j1 : ¬ (600 : Int) < (n1 : Int) := by omega
  have j2 : ¬ (600 : Int) < (n2 : Int) := by omega
  have HY := Lib.hid (nget_ok t16 hB2 hy (by omega))
  subst hk
  have HM := Lib.hid hm
  obtain ⟨n, hn⟩ : ∃ n, Hid (m.length = n) := ⟨_, Lib.hid rfl⟩
  have n9 : n ≤ 2000 := by rw [← hn.out]; exact nput_len hm hf
  have HG := Lib.hid (nget_put hm l1)
  have HBab := Lib.hid ((nput_by h.ok hm).app hB1)
  obtain ⟨s, hs⟩ : ∃ s, n + n1 = s := ⟨_, rfl⟩
  have SL := Lib.hid (show (m ++ l1).length = s by rw [List.length_append, hn.out, hL1, hs])
  subst hk2
  have HGY := Lib.hid hy
  obtain ⟨hpt, m2, hm2, hle2, htk2⟩ := nput_get t16 hB2 hy
  have jp : ((y.proto : Int) == (t : Int)) = true := by rw [hpt]; simp
  have HM2 := Lib.hid hm2
  obtain ⟨n3, hn3⟩ : ∃ n3, Hid (m2.length = n3) := ⟨_, Lib.hid rfl⟩
  have n39 : n3 ≤ n2 := by rw [← hn3.out, ← hL2]; exact hle2
  have HT := Lib.hid (show m2 = b.take n3 by rw [← hn3.out]; exact htk2)
  have HT2 := Lib.hid (show (b.take n3).length = n3 by rw [List.length_take, hL2]; omega)
  have g1 : (n3 : Int) ≤ (n2 : Int) := by omega
  have g2 : (n3 : Int) ≤ (c2 : Int) := by omega
  have g3 : (0 : Int) ≤ (n3 : Int) := by omega
  clear hm2 hle2 htk2 hpt
  clear h hR1 hB1 hL1 hR2 hB2 hL2 hf hm hy 
  go_enter Try.func4, Try.ntmps4
  go_upto_region 5 with (first
    | (go_at_call 6; (with_reducible refine (speaks16 _).mono ?_); rintro e wn ⟨rfl, hb⟩; replace C := Lib.hid (C.out.step hb); clear hb; (try clear x0 x1 x2 x3 x4 x5 x6 x7 x8 x9); obtain ⟨x0, x1, x2, x3, x4, x5, x6, x7, x8, x9⟩ := C.out.cf.all)
    | (go_at_call 7; (with_reducible refine (few15_any p q _ (H.out.on C.out.bel) hno HD.out _ HF.out).mono ?_); rintro e wn ⟨rfl, hb⟩; replace C := Lib.hid (C.out.step hb); clear hb; (try clear x0 x1 x2 x3 x4 x5 x6 x7 x8 x9); obtain ⟨x0, x1, x2, x3, x4, x5, x6, x7, x8, x9⟩ := C.out.cf.all)
    | (go_at_call 9; (with_reducible refine (of15_any p q _ (H.out.on C.out.bel) hno2).mono ?_); rintro e wn ⟨r, rfl, hp, hb⟩; have P := Lib.hid hp; replace C := Lib.hid (C.out.step hb); clear hp hb; clear x0 x1 x2 x3 x4 x5 x6 x7 x8 x9; obtain ⟨x0, x1, x2, x3, x4, x5, x6, x7, x8, x9⟩ := C.out.cf.all)
    | (go_at_call 8; (with_reducible refine (nput_any p r _ P.out HK.out HS.out m _ HM.out n hn.out).mono ?_); rintro e wn ⟨A5, c5, rfl, h5, h5c, hb⟩; replace C := Lib.hid (C.out.step hb); have X5 := Lib.hid h5; clear h5 h5c hb P; clear x0 x1 x2 x3 x4 x5 x6 x7 x8 x9))
  have BR := Lib.hid (Below.refl wn.heap.size wn)
  go_cut [11, 12] from 43 to 53 (fun s11 s12 wx => ∃ b1 r1, s11 = .pointer (some ⟨b1, 0, none⟩) ∧ s12 = .int .i64 0 ∧ Hid (Below wn.heap.size wn wx) ∧ Hid (VaP wx b1 p r1))
  case first =>
    go_region_held3 (fun W => W.cell? ⟨w.heap.size, 0, none⟩ = some (.int .u16 (p.proto : Int))) (first | (with_reducible exact (C.out.step BR.out).cf.all.1) | (with_reducible exact (C.out.step BR.out.drew).cf.all.1) | (with_reducible exact (C.out.step (BR.out.alloc BR.out.size _)).cf.all.1) | (with_reducible exact (C.out.step (BR.out.alloc BR.out.size _).drew).cf.all.1) | (with_reducible exact (C.out.step ((BR.out.alloc BR.out.size _).alloc (BR.out.alloc BR.out.size _).size _).drew).cf.all.1) | (with_reducible exact (C.out.step (put10_below BR.out Q.out.ge p r1)).cf.all.1)) (first
      | ((with_reducible refine at_step ((wn.alloc (.cells #[] 5)).drew) ?_); have HO := Lib.hid (own_new wn wn.heap.size (Nat.le_refl _)); replace BR := Lib.hid (BR.out.alloc BR.out.size (.cells #[] 5)); replace HO := Lib.hid (own_below HO.out (Below.refl _ _).drew); replace BR := Lib.hid BR.out.drew; (refine step_app _ (by rfl) _ _ _ (by rfl) _ i0 Try.underlying25 hi hz0 hz1 hz2 wn.heap.size _ 0 [] (by rfl) HO.out _ _ n _ m (by rfl) ((X5.out.below BR.out).more BR.out.size) hn.out (by omega) BR.out.size ?_); intro A6 c6 w6 ho6 hg6; rw [Nat.zero_add] at ho6 ⊢; replace BR := Lib.hid (BR.out.grown hg6 BR.out.size (fun g hk => (HO.out.lt g hk).1)); replace HO := Lib.hid ho6; have G1 := Lib.hid trivial; clear ho6 hg6 X5)
      | ((with_reducible refine at_step (((wn.alloc (.cells #[] 5)).alloc (obj0P 36)).drew) ?_); have HO := Lib.hid (own_new wn wn.heap.size (Nat.le_refl _)); replace BR := Lib.hid (BR.out.alloc BR.out.size (.cells #[] 5)); have Q := Lib.hid (QpR.newAt BR.out (wn.heap.size + 1) (World.size_alloc ..)); replace HO := Lib.hid (own_below HO.out ((Below.refl _ _).alloc (Nat.le_refl _) (obj0P 36))); replace BR := Lib.hid (BR.out.alloc BR.out.size (obj0P 36)); replace HO := Lib.hid (own_below HO.out (Below.refl _ _).drew); replace Q := Lib.hid (Q.out.step (Below.refl _ _).drew); replace BR := Lib.hid BR.out.drew; (refine step_app _ (by rfl) _ _ _ (by rfl) _ i0 Try.underlying25 hi hz0 hz1 hz2 wn.heap.size _ 0 [] (by rfl) HO.out _ _ n _ m (by rfl) ((X5.out.below BR.out).more BR.out.size) hn.out (by omega) BR.out.size ?_); intro A6 c6 w6 ho6 hg6; rw [Nat.zero_add] at ho6 ⊢; replace Q := Lib.hid (Q.out.grown hg6 (own_px HO.out Q.out.bx)); replace BR := Lib.hid (BR.out.grown hg6 BR.out.size (fun g hk => (HO.out.lt g hk).1)); replace HO := Lib.hid ho6; have G1 := Lib.hid trivial; clear ho6 hg6 X5)
      | ((with_reducible refine at_step (((wn.alloc (obj0P 36)).alloc (.cells #[] 5)).drew) ?_); have Q := Lib.hid (QpR.new BR.out); replace BR := Lib.hid (BR.out.alloc BR.out.size (obj0P 36)); have HO := Lib.hid (own_newAt (wn.alloc (obj0P 36)) wn.heap.size BR.out.size (wn.heap.size + 1) (World.size_alloc ..)); replace Q := Lib.hid (Q.out.step ((Below.refl _ _).alloc (Nat.le_refl _) (.cells #[] 5))); replace BR := Lib.hid (BR.out.alloc BR.out.size (.cells #[] 5)); replace HO := Lib.hid (own_below HO.out (Below.refl _ _).drew); replace Q := Lib.hid (Q.out.step (Below.refl _ _).drew); replace BR := Lib.hid BR.out.drew; (refine step_app _ (by rfl) _ _ _ (by rfl) _ i0 Try.underlying25 hi hz0 hz1 hz2 wn.heap.size _ 0 [] (by rfl) HO.out _ _ n _ m (by rfl) ((X5.out.below BR.out).more BR.out.size) hn.out (by omega) BR.out.size ?_); intro A6 c6 w6 ho6 hg6; rw [Nat.zero_add] at ho6 ⊢; replace Q := Lib.hid (Q.out.grown hg6 (own_px HO.out Q.out.bx)); replace BR := Lib.hid (BR.out.grown hg6 BR.out.size (fun g hk => (HO.out.lt g hk).1)); replace HO := Lib.hid ho6; have G1 := Lib.hid trivial; clear ho6 hg6 X5)
      | ((fail_if_success (have _q := Q.out.lt)); (with_reducible refine at_step (w6) ?_); have _g := G1; clear _g; have BW := Lib.hid (C.out.step BR.out).bel; (refine step_app _ (by rfl) _ _ _ (by rfl) _ i0 Try.underlying25 hi hz0 hz1 hz2 wn.heap.size _ n m (by rfl) HO.out _ _ n1 _ l1 (by rfl) ((HR1.out.below BW.out).more BW.out.size) HL1.out (by omega) BR.out.size ?_); intro A7 c7 w7 ho7 hg7; rw [hs] at ho7 ⊢; replace BR := Lib.hid (BR.out.grown hg7 BR.out.size (fun g hk => (HO.out.lt g hk).1)); have Y := Lib.hid (show Rd w7 w7.heap.size A7 (m ++ l1) from Rd.own ho7); have hc7 := own_cap ho7; clear ho7 hg7 HO BW G1)
      | ((fail_if_success (have _q := Q.out.lt)); (with_reducible refine at_step (w6.alloc (obj0P 36)) ?_); have Q := Lib.hid (QpR.new BR.out); replace HO := Lib.hid (own_below HO.out ((Below.refl _ _).alloc (Nat.le_refl _) (obj0P 36))); replace BR := Lib.hid (BR.out.alloc BR.out.size (obj0P 36)); have _g := G1; clear _g; have BW := Lib.hid (C.out.step BR.out).bel; (refine step_app _ (by rfl) _ _ _ (by rfl) _ i0 Try.underlying25 hi hz0 hz1 hz2 wn.heap.size _ n m (by rfl) HO.out _ _ n1 _ l1 (by rfl) ((HR1.out.below BW.out).more BW.out.size) HL1.out (by omega) BR.out.size ?_); intro A7 c7 w7 ho7 hg7; rw [hs] at ho7 ⊢; replace Q := Lib.hid (Q.out.grown hg7 (own_px HO.out Q.out.bx)); replace BR := Lib.hid (BR.out.grown hg7 BR.out.size (fun g hk => (HO.out.lt g hk).1)); have Y := Lib.hid (show Rd w7 w7.heap.size A7 (m ++ l1) from Rd.own ho7); have hc7 := own_cap ho7; clear ho7 hg7 HO BW G1)
      | ((with_reducible refine at_step (w6) ?_); have _g := G1; clear _g; have BW := Lib.hid (C.out.step BR.out).bel; (refine step_app _ (by rfl) _ _ _ (by rfl) _ i0 Try.underlying25 hi hz0 hz1 hz2 wn.heap.size _ n m (by rfl) HO.out _ _ n1 _ l1 (by rfl) ((HR1.out.below BW.out).more BW.out.size) HL1.out (by omega) BR.out.size ?_); intro A7 c7 w7 ho7 hg7; rw [hs] at ho7 ⊢; replace Q := Lib.hid (Q.out.grown hg7 (own_px HO.out Q.out.bx)); replace BR := Lib.hid (BR.out.grown hg7 BR.out.size (fun g hk => (HO.out.lt g hk).1)); have Y := Lib.hid (show Rd w7 w7.heap.size A7 (m ++ l1) from Rd.own ho7); have hc7 := own_cap ho7; clear ho7 hg7 HO BW G1)
      | ((fail_if_success (have _q := Q.out.lt)); go_at_call 11; (with_reducible refine (nget_any p.proto (m ++ l1) s c7 A7 _ Y.out HBab.out SL.out (by omega) hc7 p _ HG.out).mono ?_); rintro e w9 ⟨r1, rfl, hp1, hb⟩; have PF := Lib.hid hp1; replace BR := Lib.hid (BR.out.trans (hb.mono BR.out.size)); clear hp1 hb Y; dsimp only)
      | ((fail_if_success (have _q := Q.out.lt)); have Q := Lib.hid (QpR.new BR.out); replace Y := Lib.hid (Y.out.ons ((Below.refl _ _).alloc (Nat.le_refl _) (obj0P 36))); replace BR := Lib.hid (BR.out.alloc BR.out.size (obj0P 36)); go_at_call 11; (with_reducible refine (nget_any p.proto (m ++ l1) s c7 A7 _ Y.out HBab.out SL.out (by omega) hc7 p _ HG.out).mono ?_); rintro e w9 ⟨r1, rfl, hp1, hb⟩; have PF := Lib.hid hp1; have QL := Lib.hid (Nat.not_le.2 Q.out.lt); replace Q := Lib.hid (Q.out.step hb); obtain ⟨y0, y1, y2, y3, y4, y5, y6, y7, y8, y9⟩ := Q.out.bx.all; obtain ⟨z0, z1, z2, z3, z4, z5, z6, z7, z8, z9⟩ := Q.out.bx.free; replace BR := Lib.hid (BR.out.trans (hb.mono BR.out.size)); clear hp1 hb Y; dsimp only)
      | (go_at_call 11; (with_reducible refine (nget_any p.proto (m ++ l1) s c7 A7 _ Y.out HBab.out SL.out (by omega) hc7 p _ HG.out).mono ?_); rintro e w9 ⟨r1, rfl, hp1, hb⟩; have PF := Lib.hid hp1; have QL := Lib.hid (Nat.not_le.2 Q.out.lt); replace Q := Lib.hid (Q.out.step hb); obtain ⟨y0, y1, y2, y3, y4, y5, y6, y7, y8, y9⟩ := Q.out.bx.all; obtain ⟨z0, z1, z2, z3, z4, z5, z6, z7, z8, z9⟩ := Q.out.bx.free; replace BR := Lib.hid (BR.out.trans (hb.mono BR.out.size)); clear hp1 hb Y; dsimp only))
    all_goals (go_wp2_with fail; go_meet)
    all_goals (first | (with_reducible exact ⟨_, r1, rfl, rfl, Lib.hid (newP_put BR.out PF.out.pw).1, Lib.hid (newP_put BR.out PF.out.pw).2⟩) | (with_reducible exact ⟨_, r1, rfl, rfl, Lib.hid (Q.out.put BR.out PF.out QL.out).1, Lib.hid (Q.out.put BR.out PF.out QL.out).2⟩))
  case rest =>
    obtain ⟨b1, r1, rfl, rfl, BW, VP⟩ := hcut
    have Z := Lib.hid (show BaL w wc b1 p q r1 from ⟨(C.out.step BW.out).bel, VP.out.1, (C.out.step BW.out).cf, VP.out.2⟩)
    clear BW BR VP X5 C
    go_upto_region 6 with fail
    obtain ⟨x0, x1, x2, x3, x4, x5, x6, x7, x8, x9, y0, y1, y2, y3, y4, y5, y6, y7, y8, y9⟩ := Z.out.flat
    go_region_held3 (fun W => W.cell? ⟨b1, 0, none⟩ = some (.int .u16 (p.proto : Int)) ∧ W.cell? ⟨b1, 1, none⟩ = some (.int .u8 (p.code : Int)) ∧ W.cell? ⟨b1, 2, none⟩ = some (.int .u8 (p.id : Int)) ∧ W.cell? ⟨b1, 3, none⟩ = some (.slice r1.ao r1.no r1.co) ∧ W.cell? ⟨b1, 4, none⟩ = some (.int .u16 (p.sub : Int)) ∧ W.cell? ⟨b1, 5, none⟩ = some (.int .u32 (p.magic : Int)) ∧ W.cell? ⟨b1, 6, none⟩ = some (.slice r1.a1 r1.n1 r1.c1) ∧ W.cell? ⟨b1, 7, none⟩ = some (.slice r1.a2 r1.n2 r1.c2) ∧ W.cell? ⟨b1, 8, none⟩ = some (.slice r1.ad r1.nd r1.cd) ∧ W.cell? ⟨b1, 9, none⟩ = some (.slice r1.an r1.nn r1.cn) ∧ W.cell? ⟨w.heap.size, 0, none⟩ = some (.int .u16 (p.proto : Int)) ∧ W.cell? ⟨w.heap.size, 1, none⟩ = some (.int .u8 (p.code : Int)) ∧ W.cell? ⟨w.heap.size, 2, none⟩ = some (.int .u8 (p.id : Int)) ∧ W.cell? ⟨w.heap.size, 3, none⟩ = some (.slice q.ao q.no q.co) ∧ W.cell? ⟨w.heap.size, 4, none⟩ = some (.int .u16 (p.sub : Int)) ∧ W.cell? ⟨w.heap.size, 5, none⟩ = some (.int .u32 (p.magic : Int)) ∧ W.cell? ⟨w.heap.size, 6, none⟩ = some (.slice q.a1 q.n1 q.c1) ∧ W.cell? ⟨w.heap.size, 7, none⟩ = some (.slice q.a2 q.n2 q.c2) ∧ W.cell? ⟨w.heap.size, 8, none⟩ = some (.slice q.ad q.nd q.cd) ∧ W.cell? ⟨w.heap.size, 9, none⟩ = some (.slice q.an q.nn q.cn)) (first | (with_reducible exact Z.out.flat) | (with_reducible exact Z.out.drew.flat)) (first
      | (go_at_call 15; (first | (with_reducible refine (to15_any p r1 _ Z.out.p1 (by rw [← Z.out.p1.lo]; exact HS.out.o)).mono ?_) | (with_reducible refine (to15_any p r1 _ Z.out.drew.p1 (by rw [← Z.out.p1.lo]; exact HS.out.o)).mono ?_)); rintro e wn ⟨r3, rfl, hp3, hb⟩; replace Z := Lib.hid (Z.out.step hb); have P3 := Lib.hid hp3; clear hp3 hb; dsimp only)
      | (go_at_call 14; (with_reducible refine (psame_yes p r3 q _ P3.out (H.out.on Z.out.bel) HS.out).mono ?_); rintro e wn ⟨rfl, hb⟩; replace Z := Lib.hid (Z.out.step hb); clear hb P3; dsimp only))
    have C := Lib.hid Z.out.bx
    clear Z x0 x1 x2 x3 x4 x5 x6 x7 x8 x9 y0 y1 y2 y3 y4 y5 y6 y7 y8 y9
    go_wp2_with (first
    | (go_at_call 11; (with_reducible refine (nget_any t b n2 c2 A2 _ (HR2.out.ons C.out.bel) HB2.out HL2.out (by omega) hc2 y _ HGY.out).mono ?_); rintro e w11 ⟨q1, rfl, hp1, hb⟩; have ba := (Below.refl w11.heap.size w11).alloc (Nat.le_refl _) (y.obj q1 36); have P1 := Lib.hid (hp1.pw.on ba); have PY := Lib.hid (px_new w11 36 y q1); obtain ⟨x0, x1, x2, x3, x4, x5, x6, x7, x8, x9⟩ := PY.out.all; replace C := Lib.hid ((C.out.step hb).step ba); clear hp1 hb ba)
    | (go_at_call 8; (with_reducible refine (nput_any y q1 _ P1.out HY.out.1 HY.out.2 m2 _ HM2.out n3 hn3.out).mono ?_); rintro e wn ⟨A8, c8, rfl, h8, h8c, hb⟩; replace C := Lib.hid (C.out.step hb); have X8 := Lib.hid h8; replace PY := Lib.hid (PY.out.below hb); clear x0 x1 x2 x3 x4 x5 x6 x7 x8 x9; obtain ⟨x0, x1, x2, x3, x4, x5, x6, x7, x8, x9⟩ := PY.out.all; clear h8 h8c hb P1)
    | (go_at_call 13; (with_reducible refine (equal_yes m2 (b.take n3) n3 n3 _ _ _ _ _ X8.out ((HR2.out.ons C.out.bel).take n3) hn3.out HT2.out (by omega) HT.out).mono ?_); rintro e wn ⟨rfl, hb⟩; replace C := Lib.hid (C.out.step hb); clear hb X8))
    go_ret
    exact ⟨rfl, C.out.bel⟩

set_option maxRecDepth 4000 in
set_option maxHeartbeats 40000000 in
theorem nback_yes_no (p : Pk) (q : Pl) (t : Nat) (t16 : t < 65536) (l1 : List Nat) (A1 : Option Addr) (n1 c1 : Nat) (b : List Nat) (A2 : Option Addr) (n2 c2 : Nat) (w : World) (h : IsPk w p q) (hR1 : Rd w w.heap.size A1 l1) (hB1 : By l1) (hL1 : l1.length = n1) (hR2 : Rd w w.heap.size A2 b) (hB2 : By b) (hL2 : b.length = n2) (hc2 : n2 ≤ c2) (hf : fewP p = true) (h1 : n1 ≤ 600) (h2 : n2 ≤ 600) (m : List Nat) (k : Nat) (hm : nputB p = (m, k)) (hk : k = 0) (y : Pk) (k2 : Nat) (hy : ngetB t b = (y, k2)) (hk2 : ¬ k2 = 0) :
    Calls Try.prog 4 #[p.val q, .int .u16 (t : Int), .slice A1 n1 c1, .slice A2 n2 c2] w fun e w' => e = .returned (.bool true) ∧ Below w.heap.size w w' := by
  obtain ⟨i0, hi, hz0, hz1, hz2⟩ := info_parts byte_info
  have C := Lib.hid (BxC.made 28 w p q)
  have H := Lib.hid h.pw
  have hno := h.no
  have HD := Lib.hid h.od
  have HK := Lib.hid h.ok
  have HF := Lib.hid hf
  have HS := Lib.hid (fewP_sm hf)
  have HR1 := Lib.hid hR1
  have HL1 := Lib.hid hL1
  have HR2 := Lib.hid hR2
  have HB2 := Lib.hid hB2
  have HL2 := Lib.hid hL2
  have hno2 : q.no ≤ 1073741824 := by rw [← h.pw.lo]; exact (fewP_sm hf).o
  have j1 : ¬ (600 : Int) < (n1 : Int) := by omega
  have j2 : ¬ (600 : Int) < (n2 : Int) := by omega
  have HY := Lib.hid (nget_ok t16 hB2 hy (by omega))
  subst hk
  have HM := Lib.hid hm
  obtain ⟨n, hn⟩ : ∃ n, Hid (m.length = n) := ⟨_, Lib.hid rfl⟩
  have n9 : n ≤ 2000 := by rw [← hn.out]; exact nput_len hm hf
  have HG := Lib.hid (nget_put hm l1)
  have HBab := Lib.hid ((nput_by h.ok hm).app hB1)
  obtain ⟨s, hs⟩ : ∃ s, n + n1 = s := ⟨_, rfl⟩
  have SL := Lib.hid (show (m ++ l1).length = s by rw [List.length_append, hn.out, hL1, hs])
  have HGY := Lib.hid hy
  have HY0 := Lib.hid (nget_err hy hk2)
  have jk2 : ((k2 : Int) != 0) = true := by rw [bne_iff_ne]; omega
  clear h hR1 hB1 hL1 hR2 hB2 hL2 hf hm hy hk2
  go_enter Try.func4, Try.ntmps4
  go_upto_region 5 with (first
    | (go_at_call 6; (with_reducible refine (speaks16 _).mono ?_); rintro e wn ⟨rfl, hb⟩; replace C := Lib.hid (C.out.step hb); clear hb; (try clear x0 x1 x2 x3 x4 x5 x6 x7 x8 x9); obtain ⟨x0, x1, x2, x3, x4, x5, x6, x7, x8, x9⟩ := C.out.cf.all)
    | (go_at_call 7; (with_reducible refine (few15_any p q _ (H.out.on C.out.bel) hno HD.out _ HF.out).mono ?_); rintro e wn ⟨rfl, hb⟩; replace C := Lib.hid (C.out.step hb); clear hb; (try clear x0 x1 x2 x3 x4 x5 x6 x7 x8 x9); obtain ⟨x0, x1, x2, x3, x4, x5, x6, x7, x8, x9⟩ := C.out.cf.all)
    | (go_at_call 9; (with_reducible refine (of15_any p q _ (H.out.on C.out.bel) hno2).mono ?_); rintro e wn ⟨r, rfl, hp, hb⟩; have P := Lib.hid hp; replace C := Lib.hid (C.out.step hb); clear hp hb; clear x0 x1 x2 x3 x4 x5 x6 x7 x8 x9; obtain ⟨x0, x1, x2, x3, x4, x5, x6, x7, x8, x9⟩ := C.out.cf.all)
    | (go_at_call 8; (with_reducible refine (nput_any p r _ P.out HK.out HS.out m _ HM.out n hn.out).mono ?_); rintro e wn ⟨A5, c5, rfl, h5, h5c, hb⟩; replace C := Lib.hid (C.out.step hb); have X5 := Lib.hid h5; clear h5 h5c hb P; clear x0 x1 x2 x3 x4 x5 x6 x7 x8 x9))
  have BR := Lib.hid (Below.refl wn.heap.size wn)
  go_cut [11, 12] from 43 to 53 (fun s11 s12 wx => ∃ b1 r1, s11 = .pointer (some ⟨b1, 0, none⟩) ∧ s12 = .int .i64 0 ∧ Hid (Below wn.heap.size wn wx) ∧ Hid (VaP wx b1 p r1))
  case first =>
    go_region_held3 (fun W => W.cell? ⟨w.heap.size, 0, none⟩ = some (.int .u16 (p.proto : Int))) (first | (with_reducible exact (C.out.step BR.out).cf.all.1) | (with_reducible exact (C.out.step BR.out.drew).cf.all.1) | (with_reducible exact (C.out.step (BR.out.alloc BR.out.size _)).cf.all.1) | (with_reducible exact (C.out.step (BR.out.alloc BR.out.size _).drew).cf.all.1) | (with_reducible exact (C.out.step ((BR.out.alloc BR.out.size _).alloc (BR.out.alloc BR.out.size _).size _).drew).cf.all.1) | (with_reducible exact (C.out.step (put10_below BR.out Q.out.ge p r1)).cf.all.1)) (first
      | ((with_reducible refine at_step ((wn.alloc (.cells #[] 5)).drew) ?_); have HO := Lib.hid (own_new wn wn.heap.size (Nat.le_refl _)); replace BR := Lib.hid (BR.out.alloc BR.out.size (.cells #[] 5)); replace HO := Lib.hid (own_below HO.out (Below.refl _ _).drew); replace BR := Lib.hid BR.out.drew; (refine step_app _ (by rfl) _ _ _ (by rfl) _ i0 Try.underlying25 hi hz0 hz1 hz2 wn.heap.size _ 0 [] (by rfl) HO.out _ _ n _ m (by rfl) ((X5.out.below BR.out).more BR.out.size) hn.out (by omega) BR.out.size ?_); intro A6 c6 w6 ho6 hg6; rw [Nat.zero_add] at ho6 ⊢; replace BR := Lib.hid (BR.out.grown hg6 BR.out.size (fun g hk => (HO.out.lt g hk).1)); replace HO := Lib.hid ho6; have G1 := Lib.hid trivial; clear ho6 hg6 X5)
      | ((with_reducible refine at_step (((wn.alloc (.cells #[] 5)).alloc (obj0P 36)).drew) ?_); have HO := Lib.hid (own_new wn wn.heap.size (Nat.le_refl _)); replace BR := Lib.hid (BR.out.alloc BR.out.size (.cells #[] 5)); have Q := Lib.hid (QpR.newAt BR.out (wn.heap.size + 1) (World.size_alloc ..)); replace HO := Lib.hid (own_below HO.out ((Below.refl _ _).alloc (Nat.le_refl _) (obj0P 36))); replace BR := Lib.hid (BR.out.alloc BR.out.size (obj0P 36)); replace HO := Lib.hid (own_below HO.out (Below.refl _ _).drew); replace Q := Lib.hid (Q.out.step (Below.refl _ _).drew); replace BR := Lib.hid BR.out.drew; (refine step_app _ (by rfl) _ _ _ (by rfl) _ i0 Try.underlying25 hi hz0 hz1 hz2 wn.heap.size _ 0 [] (by rfl) HO.out _ _ n _ m (by rfl) ((X5.out.below BR.out).more BR.out.size) hn.out (by omega) BR.out.size ?_); intro A6 c6 w6 ho6 hg6; rw [Nat.zero_add] at ho6 ⊢; replace Q := Lib.hid (Q.out.grown hg6 (own_px HO.out Q.out.bx)); replace BR := Lib.hid (BR.out.grown hg6 BR.out.size (fun g hk => (HO.out.lt g hk).1)); replace HO := Lib.hid ho6; have G1 := Lib.hid trivial; clear ho6 hg6 X5)
      | ((with_reducible refine at_step (((wn.alloc (obj0P 36)).alloc (.cells #[] 5)).drew) ?_); have Q := Lib.hid (QpR.new BR.out); replace BR := Lib.hid (BR.out.alloc BR.out.size (obj0P 36)); have HO := Lib.hid (own_newAt (wn.alloc (obj0P 36)) wn.heap.size BR.out.size (wn.heap.size + 1) (World.size_alloc ..)); replace Q := Lib.hid (Q.out.step ((Below.refl _ _).alloc (Nat.le_refl _) (.cells #[] 5))); replace BR := Lib.hid (BR.out.alloc BR.out.size (.cells #[] 5)); replace HO := Lib.hid (own_below HO.out (Below.refl _ _).drew); replace Q := Lib.hid (Q.out.step (Below.refl _ _).drew); replace BR := Lib.hid BR.out.drew; (refine step_app _ (by rfl) _ _ _ (by rfl) _ i0 Try.underlying25 hi hz0 hz1 hz2 wn.heap.size _ 0 [] (by rfl) HO.out _ _ n _ m (by rfl) ((X5.out.below BR.out).more BR.out.size) hn.out (by omega) BR.out.size ?_); intro A6 c6 w6 ho6 hg6; rw [Nat.zero_add] at ho6 ⊢; replace Q := Lib.hid (Q.out.grown hg6 (own_px HO.out Q.out.bx)); replace BR := Lib.hid (BR.out.grown hg6 BR.out.size (fun g hk => (HO.out.lt g hk).1)); replace HO := Lib.hid ho6; have G1 := Lib.hid trivial; clear ho6 hg6 X5)
      | ((fail_if_success (have _q := Q.out.lt)); (with_reducible refine at_step (w6) ?_); have _g := G1; clear _g; have BW := Lib.hid (C.out.step BR.out).bel; (refine step_app _ (by rfl) _ _ _ (by rfl) _ i0 Try.underlying25 hi hz0 hz1 hz2 wn.heap.size _ n m (by rfl) HO.out _ _ n1 _ l1 (by rfl) ((HR1.out.below BW.out).more BW.out.size) HL1.out (by omega) BR.out.size ?_); intro A7 c7 w7 ho7 hg7; rw [hs] at ho7 ⊢; replace BR := Lib.hid (BR.out.grown hg7 BR.out.size (fun g hk => (HO.out.lt g hk).1)); have Y := Lib.hid (show Rd w7 w7.heap.size A7 (m ++ l1) from Rd.own ho7); have hc7 := own_cap ho7; clear ho7 hg7 HO BW G1)
      | ((fail_if_success (have _q := Q.out.lt)); (with_reducible refine at_step (w6.alloc (obj0P 36)) ?_); have Q := Lib.hid (QpR.new BR.out); replace HO := Lib.hid (own_below HO.out ((Below.refl _ _).alloc (Nat.le_refl _) (obj0P 36))); replace BR := Lib.hid (BR.out.alloc BR.out.size (obj0P 36)); have _g := G1; clear _g; have BW := Lib.hid (C.out.step BR.out).bel; (refine step_app _ (by rfl) _ _ _ (by rfl) _ i0 Try.underlying25 hi hz0 hz1 hz2 wn.heap.size _ n m (by rfl) HO.out _ _ n1 _ l1 (by rfl) ((HR1.out.below BW.out).more BW.out.size) HL1.out (by omega) BR.out.size ?_); intro A7 c7 w7 ho7 hg7; rw [hs] at ho7 ⊢; replace Q := Lib.hid (Q.out.grown hg7 (own_px HO.out Q.out.bx)); replace BR := Lib.hid (BR.out.grown hg7 BR.out.size (fun g hk => (HO.out.lt g hk).1)); have Y := Lib.hid (show Rd w7 w7.heap.size A7 (m ++ l1) from Rd.own ho7); have hc7 := own_cap ho7; clear ho7 hg7 HO BW G1)
      | ((with_reducible refine at_step (w6) ?_); have _g := G1; clear _g; have BW := Lib.hid (C.out.step BR.out).bel; (refine step_app _ (by rfl) _ _ _ (by rfl) _ i0 Try.underlying25 hi hz0 hz1 hz2 wn.heap.size _ n m (by rfl) HO.out _ _ n1 _ l1 (by rfl) ((HR1.out.below BW.out).more BW.out.size) HL1.out (by omega) BR.out.size ?_); intro A7 c7 w7 ho7 hg7; rw [hs] at ho7 ⊢; replace Q := Lib.hid (Q.out.grown hg7 (own_px HO.out Q.out.bx)); replace BR := Lib.hid (BR.out.grown hg7 BR.out.size (fun g hk => (HO.out.lt g hk).1)); have Y := Lib.hid (show Rd w7 w7.heap.size A7 (m ++ l1) from Rd.own ho7); have hc7 := own_cap ho7; clear ho7 hg7 HO BW G1)
      | ((fail_if_success (have _q := Q.out.lt)); go_at_call 11; (with_reducible refine (nget_any p.proto (m ++ l1) s c7 A7 _ Y.out HBab.out SL.out (by omega) hc7 p _ HG.out).mono ?_); rintro e w9 ⟨r1, rfl, hp1, hb⟩; have PF := Lib.hid hp1; replace BR := Lib.hid (BR.out.trans (hb.mono BR.out.size)); clear hp1 hb Y; dsimp only)
      | ((fail_if_success (have _q := Q.out.lt)); have Q := Lib.hid (QpR.new BR.out); replace Y := Lib.hid (Y.out.ons ((Below.refl _ _).alloc (Nat.le_refl _) (obj0P 36))); replace BR := Lib.hid (BR.out.alloc BR.out.size (obj0P 36)); go_at_call 11; (with_reducible refine (nget_any p.proto (m ++ l1) s c7 A7 _ Y.out HBab.out SL.out (by omega) hc7 p _ HG.out).mono ?_); rintro e w9 ⟨r1, rfl, hp1, hb⟩; have PF := Lib.hid hp1; have QL := Lib.hid (Nat.not_le.2 Q.out.lt); replace Q := Lib.hid (Q.out.step hb); obtain ⟨y0, y1, y2, y3, y4, y5, y6, y7, y8, y9⟩ := Q.out.bx.all; obtain ⟨z0, z1, z2, z3, z4, z5, z6, z7, z8, z9⟩ := Q.out.bx.free; replace BR := Lib.hid (BR.out.trans (hb.mono BR.out.size)); clear hp1 hb Y; dsimp only)
      | (go_at_call 11; (with_reducible refine (nget_any p.proto (m ++ l1) s c7 A7 _ Y.out HBab.out SL.out (by omega) hc7 p _ HG.out).mono ?_); rintro e w9 ⟨r1, rfl, hp1, hb⟩; have PF := Lib.hid hp1; have QL := Lib.hid (Nat.not_le.2 Q.out.lt); replace Q := Lib.hid (Q.out.step hb); obtain ⟨y0, y1, y2, y3, y4, y5, y6, y7, y8, y9⟩ := Q.out.bx.all; obtain ⟨z0, z1, z2, z3, z4, z5, z6, z7, z8, z9⟩ := Q.out.bx.free; replace BR := Lib.hid (BR.out.trans (hb.mono BR.out.size)); clear hp1 hb Y; dsimp only))
    all_goals (go_wp2_with fail; go_meet)
    all_goals (first | (with_reducible exact ⟨_, r1, rfl, rfl, Lib.hid (newP_put BR.out PF.out.pw).1, Lib.hid (newP_put BR.out PF.out.pw).2⟩) | (with_reducible exact ⟨_, r1, rfl, rfl, Lib.hid (Q.out.put BR.out PF.out QL.out).1, Lib.hid (Q.out.put BR.out PF.out QL.out).2⟩))
  case rest =>
    obtain ⟨b1, r1, rfl, rfl, BW, VP⟩ := hcut
    have Z := Lib.hid (show BaL w wc b1 p q r1 from ⟨(C.out.step BW.out).bel, VP.out.1, (C.out.step BW.out).cf, VP.out.2⟩)
    clear BW BR VP X5 C
    go_upto_region 6 with fail
    obtain ⟨x0, x1, x2, x3, x4, x5, x6, x7, x8, x9, y0, y1, y2, y3, y4, y5, y6, y7, y8, y9⟩ := Z.out.flat
    go_region_held3 (fun W => W.cell? ⟨b1, 0, none⟩ = some (.int .u16 (p.proto : Int)) ∧ W.cell? ⟨b1, 1, none⟩ = some (.int .u8 (p.code : Int)) ∧ W.cell? ⟨b1, 2, none⟩ = some (.int .u8 (p.id : Int)) ∧ W.cell? ⟨b1, 3, none⟩ = some (.slice r1.ao r1.no r1.co) ∧ W.cell? ⟨b1, 4, none⟩ = some (.int .u16 (p.sub : Int)) ∧ W.cell? ⟨b1, 5, none⟩ = some (.int .u32 (p.magic : Int)) ∧ W.cell? ⟨b1, 6, none⟩ = some (.slice r1.a1 r1.n1 r1.c1) ∧ W.cell? ⟨b1, 7, none⟩ = some (.slice r1.a2 r1.n2 r1.c2) ∧ W.cell? ⟨b1, 8, none⟩ = some (.slice r1.ad r1.nd r1.cd) ∧ W.cell? ⟨b1, 9, none⟩ = some (.slice r1.an r1.nn r1.cn) ∧ W.cell? ⟨w.heap.size, 0, none⟩ = some (.int .u16 (p.proto : Int)) ∧ W.cell? ⟨w.heap.size, 1, none⟩ = some (.int .u8 (p.code : Int)) ∧ W.cell? ⟨w.heap.size, 2, none⟩ = some (.int .u8 (p.id : Int)) ∧ W.cell? ⟨w.heap.size, 3, none⟩ = some (.slice q.ao q.no q.co) ∧ W.cell? ⟨w.heap.size, 4, none⟩ = some (.int .u16 (p.sub : Int)) ∧ W.cell? ⟨w.heap.size, 5, none⟩ = some (.int .u32 (p.magic : Int)) ∧ W.cell? ⟨w.heap.size, 6, none⟩ = some (.slice q.a1 q.n1 q.c1) ∧ W.cell? ⟨w.heap.size, 7, none⟩ = some (.slice q.a2 q.n2 q.c2) ∧ W.cell? ⟨w.heap.size, 8, none⟩ = some (.slice q.ad q.nd q.cd) ∧ W.cell? ⟨w.heap.size, 9, none⟩ = some (.slice q.an q.nn q.cn)) (first | (with_reducible exact Z.out.flat) | (with_reducible exact Z.out.drew.flat)) (first
      | (go_at_call 15; (first | (with_reducible refine (to15_any p r1 _ Z.out.p1 (by rw [← Z.out.p1.lo]; exact HS.out.o)).mono ?_) | (with_reducible refine (to15_any p r1 _ Z.out.drew.p1 (by rw [← Z.out.p1.lo]; exact HS.out.o)).mono ?_)); rintro e wn ⟨r3, rfl, hp3, hb⟩; replace Z := Lib.hid (Z.out.step hb); have P3 := Lib.hid hp3; clear hp3 hb; dsimp only)
      | (go_at_call 14; (with_reducible refine (psame_yes p r3 q _ P3.out (H.out.on Z.out.bel) HS.out).mono ?_); rintro e wn ⟨rfl, hb⟩; replace Z := Lib.hid (Z.out.step hb); clear hb P3; dsimp only))
    have C := Lib.hid Z.out.bx
    clear Z x0 x1 x2 x3 x4 x5 x6 x7 x8 x9 y0 y1 y2 y3 y4 y5 y6 y7 y8 y9
    go_wp2_with (first
    | (go_at_call 11; (with_reducible refine (nget_any t b n2 c2 A2 _ (HR2.out.ons C.out.bel) HB2.out HL2.out (by omega) hc2 y k2 HGY.out).mono ?_); rintro e w11 ⟨q1, rfl, hp1, hb⟩; have ba := (Below.refl w11.heap.size w11).alloc (Nat.le_refl _) (y.obj q1 36); have P1 := Lib.hid (hp1.pw.on ba); have PY := Lib.hid (px_new w11 36 y q1); obtain ⟨x0, x1, x2, x3, x4, x5, x6, x7, x8, x9⟩ := PY.out.all; replace C := Lib.hid ((C.out.step hb).step ba); clear hp1 hb ba)
    | (go_at_call 15; (with_reducible refine (to15_any y q1 _ P1.out (by rw [← P1.out.lo]; exact HY.out.2.o)).mono ?_); rintro e wn ⟨q3, rfl, hp3, hb⟩; replace C := Lib.hid (C.out.step hb); have P3 := Lib.hid hp3; clear hp3 hb P1 PY; clear x0 x1 x2 x3 x4 x5 x6 x7 x8 x9)
    | (go_at_call 14; (with_reducible refine (psame_zero y HY0.out q3 _ P3.out).mono ?_); rintro e wn ⟨rfl, hb⟩; replace C := Lib.hid (C.out.step hb); clear hb P3))
    go_ret
    exact ⟨rfl, C.out.bel⟩

set_option maxRecDepth 4000 in
set_option maxHeartbeats 40000000 in
theorem nback_no_yes (p : Pk) (q : Pl) (t : Nat) (t16 : t < 65536) (l1 : List Nat) (A1 : Option Addr) (n1 c1 : Nat) (b : List Nat) (A2 : Option Addr) (n2 c2 : Nat) (w : World) (h : IsPk w p q) (hR1 : Rd w w.heap.size A1 l1) (hB1 : By l1) (hL1 : l1.length = n1) (hR2 : Rd w w.heap.size A2 b) (hB2 : By b) (hL2 : b.length = n2) (hc2 : n2 ≤ c2) (hf : fewP p = true) (h1 : n1 ≤ 600) (h2 : n2 ≤ 600) (m : List Nat) (k : Nat) (hm : nputB p = (m, k)) (hk : ¬ k = 0) (y : Pk) (k2 : Nat) (hy : ngetB t b = (y, k2)) (hk2 : k2 = 0) :
    Calls Try.prog 4 #[p.val q, .int .u16 (t : Int), .slice A1 n1 c1, .slice A2 n2 c2] w fun e w' => e = .returned (.bool true) ∧ Below w.heap.size w w' := by
  obtain ⟨i0, hi, hz0, hz1, hz2⟩ := info_parts byte_info
  have C := Lib.hid (BxC.made 28 w p q)
  have H := Lib.hid h.pw
  have hno := h.no
  have HD := Lib.hid h.od
  have HK := Lib.hid h.ok
  have HF := Lib.hid hf
  have HS := Lib.hid (fewP_sm hf)
  have HR1 := Lib.hid hR1
  have HL1 := Lib.hid hL1
  have HR2 := Lib.hid hR2
  have HB2 := Lib.hid hB2
  have HL2 := Lib.hid hL2
  have hno2 : q.no ≤ 1073741824 := by rw [← h.pw.lo]; exact (fewP_sm hf).o
  have j1 : ¬ (600 : Int) < (n1 : Int) := by omega
  have j2 : ¬ (600 : Int) < (n2 : Int) := by omega
  have HY := Lib.hid (nget_ok t16 hB2 hy (by omega))
  have HM := Lib.hid hm
  have hn := Lib.hid (show m.length = 0 by rw [nput_err hm hk]; rfl)
  have jk : ((k : Int) == 0) = false := by simp; omega
  subst hk2
  have HGY := Lib.hid hy
  obtain ⟨hpt, m2, hm2, hle2, htk2⟩ := nput_get t16 hB2 hy
  have jp : ((y.proto : Int) == (t : Int)) = true := by rw [hpt]; simp
  have HM2 := Lib.hid hm2
  obtain ⟨n3, hn3⟩ : ∃ n3, Hid (m2.length = n3) := ⟨_, Lib.hid rfl⟩
  have n39 : n3 ≤ n2 := by rw [← hn3.out, ← hL2]; exact hle2
  have HT := Lib.hid (show m2 = b.take n3 by rw [← hn3.out]; exact htk2)
  have HT2 := Lib.hid (show (b.take n3).length = n3 by rw [List.length_take, hL2]; omega)
  have g1 : (n3 : Int) ≤ (n2 : Int) := by omega
  have g2 : (n3 : Int) ≤ (c2 : Int) := by omega
  have g3 : (0 : Int) ≤ (n3 : Int) := by omega
  clear hm2 hle2 htk2 hpt
  clear h hR1 hB1 hL1 hR2 hB2 hL2 hf hm hy hk 
  go_enter Try.func4, Try.ntmps4
  go_wp2_with (first
    | (go_at_call 6; (with_reducible refine (speaks16 _).mono ?_); rintro e wn ⟨rfl, hb⟩; replace C := Lib.hid (C.out.step hb); clear hb; (try clear x0 x1 x2 x3 x4 x5 x6 x7 x8 x9); obtain ⟨x0, x1, x2, x3, x4, x5, x6, x7, x8, x9⟩ := C.out.cf.all)
    | (go_at_call 7; (with_reducible refine (few15_any p q _ (H.out.on C.out.bel) hno HD.out _ HF.out).mono ?_); rintro e wn ⟨rfl, hb⟩; replace C := Lib.hid (C.out.step hb); clear hb; (try clear x0 x1 x2 x3 x4 x5 x6 x7 x8 x9); obtain ⟨x0, x1, x2, x3, x4, x5, x6, x7, x8, x9⟩ := C.out.cf.all)
    | (go_at_call 9; (with_reducible refine (of15_any p q _ (H.out.on C.out.bel) hno2).mono ?_); rintro e wn ⟨r, rfl, hp, hb⟩; have P := Lib.hid hp; replace C := Lib.hid (C.out.step hb); clear hp hb; clear x0 x1 x2 x3 x4 x5 x6 x7 x8 x9; obtain ⟨x0, x1, x2, x3, x4, x5, x6, x7, x8, x9⟩ := C.out.cf.all)
    | (go_at_call 8; (with_reducible refine (nput_any p r _ P.out HK.out HS.out m k HM.out 0 hn.out).mono ?_); rintro e wn ⟨A5, c5, rfl, h5, h5c, hb⟩; replace C := Lib.hid (C.out.step hb); clear h5 h5c hb P; clear x0 x1 x2 x3 x4 x5 x6 x7 x8 x9)
    | (go_at_call 11; (with_reducible refine (nget_any t b n2 c2 A2 _ (HR2.out.ons C.out.bel) HB2.out HL2.out (by omega) hc2 y _ HGY.out).mono ?_); rintro e w11 ⟨q1, rfl, hp1, hb⟩; have ba := (Below.refl w11.heap.size w11).alloc (Nat.le_refl _) (y.obj q1 36); have P1 := Lib.hid (hp1.pw.on ba); have PY := Lib.hid (px_new w11 36 y q1); obtain ⟨x0, x1, x2, x3, x4, x5, x6, x7, x8, x9⟩ := PY.out.all; replace C := Lib.hid ((C.out.step hb).step ba); clear hp1 hb ba)
    | (go_at_call 8; (with_reducible refine (nput_any y q1 _ P1.out HY.out.1 HY.out.2 m2 _ HM2.out n3 hn3.out).mono ?_); rintro e wn ⟨A8, c8, rfl, h8, h8c, hb⟩; replace C := Lib.hid (C.out.step hb); have X8 := Lib.hid h8; replace PY := Lib.hid (PY.out.below hb); clear x0 x1 x2 x3 x4 x5 x6 x7 x8 x9; obtain ⟨x0, x1, x2, x3, x4, x5, x6, x7, x8, x9⟩ := PY.out.all; clear h8 h8c hb P1)
    | (go_at_call 13; (with_reducible refine (equal_yes m2 (b.take n3) n3 n3 _ _ _ _ _ X8.out ((HR2.out.ons C.out.bel).take n3) hn3.out HT2.out (by omega) HT.out).mono ?_); rintro e wn ⟨rfl, hb⟩; replace C := Lib.hid (C.out.step hb); clear hb X8))
  go_ret
  exact ⟨rfl, C.out.bel⟩

set_option maxRecDepth 4000 in
set_option maxHeartbeats 40000000 in
theorem nback_no_no (p : Pk) (q : Pl) (t : Nat) (t16 : t < 65536) (l1 : List Nat) (A1 : Option Addr) (n1 c1 : Nat) (b : List Nat) (A2 : Option Addr) (n2 c2 : Nat) (w : World) (h : IsPk w p q) (hR1 : Rd w w.heap.size A1 l1) (hB1 : By l1) (hL1 : l1.length = n1) (hR2 : Rd w w.heap.size A2 b) (hB2 : By b) (hL2 : b.length = n2) (hc2 : n2 ≤ c2) (hf : fewP p = true) (h1 : n1 ≤ 600) (h2 : n2 ≤ 600) (m : List Nat) (k : Nat) (hm : nputB p = (m, k)) (hk : ¬ k = 0) (y : Pk) (k2 : Nat) (hy : ngetB t b = (y, k2)) (hk2 : ¬ k2 = 0) :
    Calls Try.prog 4 #[p.val q, .int .u16 (t : Int), .slice A1 n1 c1, .slice A2 n2 c2] w fun e w' => e = .returned (.bool true) ∧ Below w.heap.size w w' := by
  obtain ⟨i0, hi, hz0, hz1, hz2⟩ := info_parts byte_info
  have C := Lib.hid (BxC.made 28 w p q)
  have H := Lib.hid h.pw
  have hno := h.no
  have HD := Lib.hid h.od
  have HK := Lib.hid h.ok
  have HF := Lib.hid hf
  have HS := Lib.hid (fewP_sm hf)
  have HR1 := Lib.hid hR1
  have HL1 := Lib.hid hL1
  have HR2 := Lib.hid hR2
  have HB2 := Lib.hid hB2
  have HL2 := Lib.hid hL2
  have hno2 : q.no ≤ 1073741824 := by rw [← h.pw.lo]; exact (fewP_sm hf).o
  have j1 : ¬ (600 : Int) < (n1 : Int) := by omega
  have j2 : ¬ (600 : Int) < (n2 : Int) := by omega
  have HY := Lib.hid (nget_ok t16 hB2 hy (by omega))
  have HM := Lib.hid hm
  have hn := Lib.hid (show m.length = 0 by rw [nput_err hm hk]; rfl)
  have jk : ((k : Int) == 0) = false := by simp; omega
  have HGY := Lib.hid hy
  have HY0 := Lib.hid (nget_err hy hk2)
  have jk2 : ((k2 : Int) != 0) = true := by rw [bne_iff_ne]; omega
  clear h hR1 hB1 hL1 hR2 hB2 hL2 hf hm hy hk hk2
  go_enter Try.func4, Try.ntmps4
  go_wp2_with (first
    | (go_at_call 6; (with_reducible refine (speaks16 _).mono ?_); rintro e wn ⟨rfl, hb⟩; replace C := Lib.hid (C.out.step hb); clear hb; (try clear x0 x1 x2 x3 x4 x5 x6 x7 x8 x9); obtain ⟨x0, x1, x2, x3, x4, x5, x6, x7, x8, x9⟩ := C.out.cf.all)
    | (go_at_call 7; (with_reducible refine (few15_any p q _ (H.out.on C.out.bel) hno HD.out _ HF.out).mono ?_); rintro e wn ⟨rfl, hb⟩; replace C := Lib.hid (C.out.step hb); clear hb; (try clear x0 x1 x2 x3 x4 x5 x6 x7 x8 x9); obtain ⟨x0, x1, x2, x3, x4, x5, x6, x7, x8, x9⟩ := C.out.cf.all)
    | (go_at_call 9; (with_reducible refine (of15_any p q _ (H.out.on C.out.bel) hno2).mono ?_); rintro e wn ⟨r, rfl, hp, hb⟩; have P := Lib.hid hp; replace C := Lib.hid (C.out.step hb); clear hp hb; clear x0 x1 x2 x3 x4 x5 x6 x7 x8 x9; obtain ⟨x0, x1, x2, x3, x4, x5, x6, x7, x8, x9⟩ := C.out.cf.all)
    | (go_at_call 8; (with_reducible refine (nput_any p r _ P.out HK.out HS.out m k HM.out 0 hn.out).mono ?_); rintro e wn ⟨A5, c5, rfl, h5, h5c, hb⟩; replace C := Lib.hid (C.out.step hb); clear h5 h5c hb P; clear x0 x1 x2 x3 x4 x5 x6 x7 x8 x9)
    | (go_at_call 11; (with_reducible refine (nget_any t b n2 c2 A2 _ (HR2.out.ons C.out.bel) HB2.out HL2.out (by omega) hc2 y k2 HGY.out).mono ?_); rintro e w11 ⟨q1, rfl, hp1, hb⟩; have ba := (Below.refl w11.heap.size w11).alloc (Nat.le_refl _) (y.obj q1 36); have P1 := Lib.hid (hp1.pw.on ba); have PY := Lib.hid (px_new w11 36 y q1); obtain ⟨x0, x1, x2, x3, x4, x5, x6, x7, x8, x9⟩ := PY.out.all; replace C := Lib.hid ((C.out.step hb).step ba); clear hp1 hb ba)
    | (go_at_call 15; (with_reducible refine (to15_any y q1 _ P1.out (by rw [← P1.out.lo]; exact HY.out.2.o)).mono ?_); rintro e wn ⟨q3, rfl, hp3, hb⟩; replace C := Lib.hid (C.out.step hb); have P3 := Lib.hid hp3; clear hp3 hb P1 PY; clear x0 x1 x2 x3 x4 x5 x6 x7 x8 x9)
    | (go_at_call 14; (with_reducible refine (psame_zero y HY0.out q3 _ P3.out).mono ?_); rintro e wn ⟨rfl, hb⟩; replace C := Lib.hid (C.out.step hb); clear hb P3))
  go_ret
  exact ⟨rfl, C.out.bel⟩
end Go.Proofs.Ytdnnincdbenjfaa
