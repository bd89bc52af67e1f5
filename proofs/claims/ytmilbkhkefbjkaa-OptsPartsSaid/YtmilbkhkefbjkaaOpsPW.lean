
/-
  OptsParts' walk. No condition.
-/
import Derived.Test.YtmilbkhkefbjkaaOpsR
import Derived.Deep.CutRange
import Derived.Deep.RegionHeld3
namespace Go.Proofs.Ytmilbkhkefbjkaa
open Go.RowKit

set_option maxHeartbeats 2000000 in
theorem parts_early (c : Cf) (a : List (Nat × List Nat)) (A0 : Option Addr) (n0 c0 : Nat) (b : List (Nat × List Nat)) (A1 : Option Addr) (n1 c1 : Nat) (w : World) (hL0 : a.length = n0) (hn0 : n0 ≤ 140737488351232) (hD0 : ∀ x ∈ a, x.2.length ≤ 140737488351232) (hR0 : Rws shO (fun _ => True) w A0 a) (hL1 : b.length = n1) (hn1 : n1 ≤ 140737488351232) (hD1 : ∀ x ∈ b, x.2.length ≤ 140737488351232) (hR1 : Rws shO (fun _ => True) w A1 b) (h : ¬ (fewB a = true ∧ fewB b = true)) :
    Calls Try.prog 7 #[c.val, .slice A0 n0 c0, .slice A1 n1 c1] w fun e w' => e = .returned (.bool true) ∧ Below w.heap.size w w' := by
  have HR0 := Lib.hid hR0
  have HL0 := Lib.hid hL0
  have HD0 := Lib.hid hD0
  clear hR0 hL0 hD0
  have HR1 := Lib.hid hR1
  have HL1 := Lib.hid hL1
  have HD1 := Lib.hid hD1
  clear hR1 hL1 hD1
  have C := Lib.hid (CxL.made w c)
  cases hf : fewB a
  · have HF := Lib.hid hf
    clear hf h
    go_enter Try.func7, Try.ntmps7
    go_wp2_with (first
      | (go_at_call 8; (with_reducible refine (speaks14 _).mono ?_); rintro e wn ⟨rfl, hb⟩; replace C := Lib.hid (C.out.step hb); clear hb)
      | (go_at_call 9; (with_reducible refine (few_v a _ HF.out n0 c0 A0 _ _ (HR0.out.below C.out.bel) HL0.out (by omega) HD0.out).mono ?_); rintro e wn ⟨rfl, hb⟩; replace C := Lib.hid (C.out.step hb); clear hb))
    go_ret
    exact ⟨rfl, C.out.bel⟩
  · have HF := Lib.hid hf
    have HG := Lib.hid (show fewB b = false from Bool.eq_false_iff.2 fun e => h ⟨hf, e⟩)
    clear hf h
    go_enter Try.func7, Try.ntmps7
    go_wp2_with (first
      | (go_at_call 8; (with_reducible refine (speaks14 _).mono ?_); rintro e wn ⟨rfl, hb⟩; replace C := Lib.hid (C.out.step hb); clear hb)
      | (go_at_call 9; (with_reducible refine (few_v a _ HF.out n0 c0 A0 _ _ (HR0.out.below C.out.bel) HL0.out (by omega) HD0.out).mono ?_); rintro e wn ⟨rfl, hb⟩; replace C := Lib.hid (C.out.step hb); clear hb)
      | (go_at_call 9; (with_reducible refine (few_v b _ HG.out n1 c1 A1 _ _ (HR1.out.below C.out.bel) HL1.out (by omega) HD1.out).mono ?_); rintro e wn ⟨rfl, hb⟩; replace C := Lib.hid (C.out.step hb); clear hb))
    go_ret
    exact ⟨rfl, C.out.bel⟩

set_option maxHeartbeats 40000000 in
theorem parts_walk (c : Cf) (a : List (Nat × List Nat)) (A0 : Option Addr) (n0 c0 : Nat) (b : List (Nat × List Nat)) (A1 : Option Addr) (n1 c1 : Nat) (w : World) (hL0 : a.length = n0) (hn0 : n0 ≤ 140737488351232) (hO0 : ByO a) (hD0 : ∀ x ∈ a, x.2.length ≤ 140737488351232) (hR0 : Rws shO (fun _ => True) w A0 a) (hL1 : b.length = n1) (hn1 : n1 ≤ 140737488351232) (hO1 : ByO b) (hD1 : ∀ x ∈ b, x.2.length ≤ 140737488351232) (hR1 : Rws shO (fun _ => True) w A1 b) (hf : fewB a = true) (hg : fewB b = true) :
    Calls Try.prog 7 #[c.val, .slice A0 n0 c0, .slice A1 n1 c1] w fun e w' => e = .returned (.bool true) ∧ Below w.heap.size w w' := by
  have HR0 := Lib.hid hR0
  have HL0 := Lib.hid hL0
  have HD0 := Lib.hid hD0
  have HO0 := Lib.hid hO0
  clear hR0 hL0 hD0 hO0
  have HR1 := Lib.hid hR1
  have HL1 := Lib.hid hL1
  have HD1 := Lib.hid hD1
  have HO1 := Lib.hid hO1
  clear hR1 hL1 hD1 hO1
  obtain ⟨ity, gi, gz0, gz1, gz2⟩ := info_parts opt_info
  obtain ⟨q1, q2⟩ := few_of hf
  obtain ⟨q3, q4⟩ := few_of hg
  rw [HL0.out] at q1
  rw [HL1.out] at q3
  have HF := Lib.hid hf
  have HG := Lib.hid hg
  have HE0 := Lib.hid (dat_each q2 (by decide))
  have HE1 := Lib.hid (dat_each q4 (by decide))
  have C := Lib.hid (CxL.made w c)
  obtain ⟨x, q, ha⟩ : ∃ x q, Hid (ansB c a = (x, q)) := ⟨_, _, Lib.hid rfl⟩
  clear hf hg q2 q4
  go_enter Try.func7, Try.ntmps7
  go_upto_region 3 with (first
    | (go_at_call 8; (with_reducible refine (speaks14 _).mono ?_); rintro e wn ⟨rfl, hb⟩; replace C := Lib.hid (C.out.step hb); clear hb)
    | (go_at_call 9; (with_reducible refine (few_v a _ HF.out n0 c0 A0 _ _ (HR0.out.below C.out.bel) HL0.out (by omega) HD0.out).mono ?_); rintro e wn ⟨rfl, hb⟩; replace C := Lib.hid (C.out.step hb); clear hb)
    | (go_at_call 9; (with_reducible refine (few_v b _ HG.out n1 c1 A1 _ _ (HR1.out.below C.out.bel) HL1.out (by omega) HD1.out).mono ?_); rintro e wn ⟨rfl, hb⟩; replace C := Lib.hid (C.out.step hb); clear hb))
  have BR := Lib.hid (Below.refl wn.heap.size wn)
  go_cut [7, 8] from 26 to 32 (fun s7 s8 wx => ∃ b1, s7 = .pointer (some ⟨b1, 0, none⟩) ∧ s8 = .int .i64 q ∧ Hid (Below wn.heap.size wn wx) ∧ Hid (Bx wx b1 56 x))
  case first =>
    go_region_held3 (fun W => Bc W w.heap.size c) (first | (with_reducible exact (C.out.step BR.out).cf.all) | (with_reducible exact (C.out.step BR.out.drew).cf.all) | (with_reducible exact (C.out.step (BR.out.alloc BR.out.size _)).cf.all) | (with_reducible exact (C.out.step (BR.out.alloc BR.out.size _).drew).cf.all) | (with_reducible exact (C.out.step (put7_below BR.out Q.out.ge x)).cf.all)) (first
      | (go_at_call 12; (with_reducible refine (oof_v a n0 c0 A0 _ (HR0.out.below (C.out.step BR.out.drew).bel) HL0.out (by omega)).mono ?_); rintro e wn ⟨A3, c3, rfl, h3, hb⟩; (try replace Q := Lib.hid (Q.out.step hb)); replace BR := Lib.hid (BR.out.drew.trans (hb.mono BR.out.drew.size)); have L := Lib.hid h3; clear h3 hb; dsimp only)
      | (have Q := Lib.hid (QxR.new BR.out); replace BR := Lib.hid (BR.out.alloc BR.out.size (obj0 56)); go_at_call 12; (with_reducible refine (oof_v a n0 c0 A0 _ (HR0.out.below (C.out.step BR.out.drew).bel) HL0.out (by omega)).mono ?_); rintro e wn ⟨A3, c3, rfl, h3, hb⟩; (try replace Q := Lib.hid (Q.out.step hb)); replace BR := Lib.hid (BR.out.drew.trans (hb.mono BR.out.drew.size)); have L := Lib.hid h3; clear h3 hb; dsimp only)
      | (go_at_call 24; (with_reducible refine (settle_any c a n0 _ _ _ _ L.out HO0.out HL0.out (by omega) x q ha.out HE0.out).mono ?_); rintro e ws ⟨rfl, hb⟩; (try (replace Q := Lib.hid (Q.out.step hb); obtain ⟨r0, r1, r2, r3, r4, r5, r6⟩ := Q.out.bx.all; obtain ⟨s0, s1, s2, s3, s4, s5, s6⟩ := Q.out.bx.free)); replace BR := Lib.hid (BR.out.trans (hb.mono BR.out.size)); clear L hb; dsimp only)
      | (have Q := Lib.hid (QxR.new BR.out); replace L := Lib.hid (L.out.below ((Below.refl _ _).alloc (Nat.le_refl _) (obj0 56))); replace BR := Lib.hid (BR.out.alloc BR.out.size (obj0 56)); go_at_call 24; (with_reducible refine (settle_any c a n0 _ _ _ _ L.out HO0.out HL0.out (by omega) x q ha.out HE0.out).mono ?_); rintro e ws ⟨rfl, hb⟩; (try (replace Q := Lib.hid (Q.out.step hb); obtain ⟨r0, r1, r2, r3, r4, r5, r6⟩ := Q.out.bx.all; obtain ⟨s0, s1, s2, s3, s4, s5, s6⟩ := Q.out.bx.free)); replace BR := Lib.hid (BR.out.trans (hb.mono BR.out.size)); clear L hb; dsimp only))
    all_goals (go_wp2_with fail; go_meet)
    all_goals (first | (with_reducible exact ⟨_, rfl, rfl, Lib.hid (new_put BR.out x).1, Lib.hid (new_put BR.out x).2⟩) | (with_reducible exact ⟨_, rfl, rfl, Lib.hid (Q.out.put BR.out x).1, Lib.hid (Q.out.put BR.out x).2⟩))
  case rest =>
    obtain ⟨b1, rfl, rfl, BW, X⟩ := hcut
    replace C := Lib.hid (C.out.step BW.out)
    clear BW BR
    by_cases hq0 : q = 0
    case neg =>
      have k1 : (q != 0) = true := by rw [bne_iff_ne]; exact hq0
      obtain rfl := ans_err ha.out hq0
      obtain ⟨x0, x1, x2, x3, x4, x5, x6⟩ := X.out.all
      clear hq0
      go_wp2_with fail
      go_ret
      exact ⟨rfl, C.out.bel⟩
    subst hq0
    obtain ⟨y, f, hz⟩ : ∃ y f, Hid (ansB x b = (y, f)) := ⟨_, _, Lib.hid rfl⟩
    have HZ := Lib.hid (show ansB c (a ++ b) = (y, f) by rw [ans_app ha.out]; exact hz.out)
    have HK := Lib.hid (show x.sync = c.sync ∧ x.recv = c.recv by rw [(ans_ok ha.out).2]; exact set_keeps c a)
    have HOab := Lib.hid (show ByO (a ++ b) from fun o ho => (List.mem_append.1 ho).elim (HO0.out o) (HO1.out o))
    have HLab := Lib.hid (show (a ++ b).length = n0 + n1 by rw [List.length_append, HL0.out, HL1.out])
    have HEab := Lib.hid (show ∀ o ∈ a ++ b, o.2.length ≤ 274877906944 from fun o ho => (List.mem_append.1 ho).elim (HE0.out o) (HE1.out o))
    go_upto_region 6 with fail
    have BR := Lib.hid (Below.refl wc.heap.size wc)
    go_cut [9, 10] from 39 to 44 (fun s9 s10 wx => ∃ b2, s9 = .pointer (some ⟨b2, 0, none⟩) ∧ s10 = .int .i64 f ∧ Hid (Below wc.heap.size wc wx) ∧ Hid (Bx wx b2 56 y))
    case first =>
      go_region_held3 (fun W => Bc W b1 x) (first | (with_reducible exact (X.out.below BR.out).all) | (with_reducible exact (X.out.below BR.out.drew).all) | (with_reducible exact (X.out.below (BR.out.alloc BR.out.size _)).all) | (with_reducible exact (X.out.below (BR.out.alloc BR.out.size _).drew).all) | (with_reducible exact (X.out.below (put7_below BR.out Q.out.ge y)).all)) (first
        | (go_at_call 12; (with_reducible refine (oof_v b n1 c1 A1 _ (HR1.out.below (C.out.step BR.out.drew).bel) HL1.out (by omega)).mono ?_); rintro e wn ⟨A3, c3, rfl, h3, hb⟩; (try replace Q := Lib.hid (Q.out.step hb)); replace BR := Lib.hid (BR.out.drew.trans (hb.mono BR.out.drew.size)); have L := Lib.hid h3; clear h3 hb; dsimp only)
        | (have Q := Lib.hid (QxR.new BR.out); replace BR := Lib.hid (BR.out.alloc BR.out.size (obj0 56)); go_at_call 12; (with_reducible refine (oof_v b n1 c1 A1 _ (HR1.out.below (C.out.step BR.out.drew).bel) HL1.out (by omega)).mono ?_); rintro e wn ⟨A3, c3, rfl, h3, hb⟩; (try replace Q := Lib.hid (Q.out.step hb)); replace BR := Lib.hid (BR.out.drew.trans (hb.mono BR.out.drew.size)); have L := Lib.hid h3; clear h3 hb; dsimp only)
        | (go_at_call 24; (with_reducible refine (settle_any x b n1 _ _ _ _ L.out HO1.out HL1.out (by omega) y f hz.out HE1.out).mono ?_); rintro e ws ⟨rfl, hb⟩; (try (replace Q := Lib.hid (Q.out.step hb); obtain ⟨r0, r1, r2, r3, r4, r5, r6⟩ := Q.out.bx.all; obtain ⟨s0, s1, s2, s3, s4, s5, s6⟩ := Q.out.bx.free)); replace BR := Lib.hid (BR.out.trans (hb.mono BR.out.size)); clear L hb; dsimp only)
        | (have Q := Lib.hid (QxR.new BR.out); replace L := Lib.hid (L.out.below ((Below.refl _ _).alloc (Nat.le_refl _) (obj0 56))); replace BR := Lib.hid (BR.out.alloc BR.out.size (obj0 56)); go_at_call 24; (with_reducible refine (settle_any x b n1 _ _ _ _ L.out HO1.out HL1.out (by omega) y f hz.out HE1.out).mono ?_); rintro e ws ⟨rfl, hb⟩; (try (replace Q := Lib.hid (Q.out.step hb); obtain ⟨r0, r1, r2, r3, r4, r5, r6⟩ := Q.out.bx.all; obtain ⟨s0, s1, s2, s3, s4, s5, s6⟩ := Q.out.bx.free)); replace BR := Lib.hid (BR.out.trans (hb.mono BR.out.size)); clear L hb; dsimp only))
      all_goals (go_wp2_with fail; go_meet)
      all_goals (first | (with_reducible exact ⟨_, rfl, rfl, Lib.hid (new_put BR.out y).1, Lib.hid (new_put BR.out y).2⟩) | (with_reducible exact ⟨_, rfl, rfl, Lib.hid (Q.out.put BR.out y).1, Lib.hid (Q.out.put BR.out y).2⟩))
    case rest =>
      obtain ⟨b2, rfl, rfl, BW, Y⟩ := hcut
      replace C := Lib.hid (C.out.step BW.out)
      replace X := Lib.hid (X.out.below BW.out)
      clear BW BR
      have HC5 := Lib.hid ((HR1.out.below C.out.bel).mono (G := fun g => g < wc.heap.size) (fun g hg _ => hg))
      go_upto_region 7 with fail
      have BR := Lib.hid (Below.refl wc.heap.size wc)
      go_cut [11, 12] from 46 to 54 (fun s11 s12 wx => ∃ b3, s11 = .pointer (some ⟨b3, 0, none⟩) ∧ s12 = .int .i64 f ∧ Hid (Below wc.heap.size wc wx) ∧ Hid (Bx wx b3 56 y))
      case first =>
        go_region_held3 (fun W => Bc W w.heap.size c) (first | (with_reducible exact (C.out.step BR.out).cf.all) | (with_reducible exact (C.out.step BR.out.drew).cf.all) | (with_reducible exact (C.out.step (BR.out.alloc BR.out.size _)).cf.all) | (with_reducible exact (C.out.step (BR.out.alloc BR.out.size _).drew).cf.all) | (with_reducible exact (C.out.step (put7_below BR.out Q.out.ge y)).cf.all)) (first
          | (go_at_call 12; (with_reducible refine (oof_any a n0 c0 A0 (fun _ => True) _ (HR0.out.below (C.out.step BR.out.drew).bel) (fun _ _ => trivial) HL0.out (by omega)).mono ?_); rintro e wn ⟨v6, rfl, h6, hb⟩; obtain ⟨A6, c6, rfl, -, -, -⟩ := h6.slice; rw [HL0.out] at h6 ⊢; (try have QN := Lib.hid (show (Value.slice A6 n0 c6).ownBlock ≠ some _ from fun e => absurd (h6.lt e).1 (Nat.not_le.2 Q.out.lt))); (try replace Q := Lib.hid (Q.out.step hb)); have OA := Lib.hid (h6.lo (B' := wc.heap.size) BR.out.drew.size); replace BR := Lib.hid (BR.out.drew.trans (hb.mono BR.out.drew.size)); clear h6 hb; dsimp only)
          | (have Q := Lib.hid (QxR.new BR.out); replace BR := Lib.hid (BR.out.alloc BR.out.size (obj0 56)); go_at_call 12; (with_reducible refine (oof_any a n0 c0 A0 (fun _ => True) _ (HR0.out.below (C.out.step BR.out.drew).bel) (fun _ _ => trivial) HL0.out (by omega)).mono ?_); rintro e wn ⟨v6, rfl, h6, hb⟩; obtain ⟨A6, c6, rfl, -, -, -⟩ := h6.slice; rw [HL0.out] at h6 ⊢; (try have QN := Lib.hid (show (Value.slice A6 n0 c6).ownBlock ≠ some _ from fun e => absurd (h6.lt e).1 (Nat.not_le.2 Q.out.lt))); (try replace Q := Lib.hid (Q.out.step hb)); have OA := Lib.hid (h6.lo (B' := wc.heap.size) BR.out.drew.size); replace BR := Lib.hid (BR.out.drew.trans (hb.mono BR.out.drew.size)); clear h6 hb; dsimp only)
          | (go_at_call 12; have _g := OA; clear _g; (with_reducible refine (oof_any b n1 c1 A1 (fun g => (Value.slice A6 n0 c6).ownBlock ≠ some g) _ ((HC5.out.below BR.out).mono (fun g _ hg e => absurd hg (Nat.not_lt.2 (OA.out.lt e).1))) (fun g hg e => absurd (OA.out.lt e).2 (Nat.not_lt.2 hg)) HL1.out (by omega)).mono ?_); rintro e wn ⟨v7, rfl, h7, hb⟩; obtain ⟨A7, c7, rfl, -, -, g7⟩ := h7.slice; rw [HL1.out] at h7 ⊢; have L1 := Lib.hid (g7.mono (G := fun g => (Value.slice A6 n0 c6).ownBlock ≠ some g) (fun g _ hg => hg.elim id (fun h e => absurd (OA.out.lt e).2 (Nat.not_lt.2 h)))); replace OA := Lib.hid (OA.out.below hb); (try replace Q := Lib.hid (Q.out.step hb)); replace BR := Lib.hid (BR.out.trans (hb.mono BR.out.size)); clear h7 g7 hb; dsimp only)
          | (have Q := Lib.hid (QxR.new BR.out); have QN := Lib.hid (show (Value.slice A6 n0 c6).ownBlock ≠ some _ from fun e => absurd (OA.out.lt e).2 (Nat.lt_irrefl _)); replace OA := Lib.hid (OA.out.below ((Below.refl _ _).alloc (Nat.le_refl _) (obj0 56))); replace BR := Lib.hid (BR.out.alloc BR.out.size (obj0 56)); go_at_call 12; have _g := OA; clear _g; (with_reducible refine (oof_any b n1 c1 A1 (fun g => (Value.slice A6 n0 c6).ownBlock ≠ some g) _ ((HC5.out.below BR.out).mono (fun g _ hg e => absurd hg (Nat.not_lt.2 (OA.out.lt e).1))) (fun g hg e => absurd (OA.out.lt e).2 (Nat.not_lt.2 hg)) HL1.out (by omega)).mono ?_); rintro e wn ⟨v7, rfl, h7, hb⟩; obtain ⟨A7, c7, rfl, -, -, g7⟩ := h7.slice; rw [HL1.out] at h7 ⊢; have L1 := Lib.hid (g7.mono (G := fun g => (Value.slice A6 n0 c6).ownBlock ≠ some g) (fun g _ hg => hg.elim id (fun h e => absurd (OA.out.lt e).2 (Nat.not_lt.2 h)))); replace OA := Lib.hid (OA.out.below hb); (try replace Q := Lib.hid (Q.out.step hb)); replace BR := Lib.hid (BR.out.trans (hb.mono BR.out.size)); clear h7 g7 hb; dsimp only)
          | (have _g := L1.out; clear _g; (refine step_rows shO _ (by rfl) _ _ _ (by rfl) 33 ity (.agg #[.int .u8 0, .slice none 0 0]) 32 Try.underlying30 gi gz0 gz1 gz2 rfl (by decide) (fun _ => True) _ _ _ n0 a (by rfl) OA.out HL0.out _ n1 _ b (by rfl) L1.out HL1.out (fun g _ hg => ⟨trivial, hg⟩) (by unfold maxLen; omega) (by omega) BR.out.size ?_); intro v8 w8 h8 hg8 hm8; obtain ⟨A8, c8, rfl, -, -, g8⟩ := h8.slice; rw [HLab.out]; have L := Lib.hid (g8.mono (G := fun _ => True) (fun _ _ _ => trivial)); (try replace Q := Lib.hid (Q.out.grown hg8 QN.out)); replace BR := Lib.hid (BR.out.grown hg8 BR.out.size (fun k hk => (OA.out.lt hk).1)); clear h8 g8 hg8 hm8 OA L1)
          | (have Q := Lib.hid (QxR.new BR.out); have QN := Lib.hid (show (Value.slice A6 n0 c6).ownBlock ≠ some _ from fun e => absurd (OA.out.lt e).2 (Nat.lt_irrefl _)); replace OA := Lib.hid (OA.out.below ((Below.refl _ _).alloc (Nat.le_refl _) (obj0 56))); replace L1 := Lib.hid (L1.out.below ((Below.refl _ _).alloc (Nat.le_refl _) (obj0 56))); replace BR := Lib.hid (BR.out.alloc BR.out.size (obj0 56)); have _g := L1.out; clear _g; (refine step_rows shO _ (by rfl) _ _ _ (by rfl) 33 ity (.agg #[.int .u8 0, .slice none 0 0]) 32 Try.underlying30 gi gz0 gz1 gz2 rfl (by decide) (fun _ => True) _ _ _ n0 a (by rfl) OA.out HL0.out _ n1 _ b (by rfl) L1.out HL1.out (fun g _ hg => ⟨trivial, hg⟩) (by unfold maxLen; omega) (by omega) BR.out.size ?_); intro v8 w8 h8 hg8 hm8; obtain ⟨A8, c8, rfl, -, -, g8⟩ := h8.slice; rw [HLab.out]; have L := Lib.hid (g8.mono (G := fun _ => True) (fun _ _ _ => trivial)); (try replace Q := Lib.hid (Q.out.grown hg8 QN.out)); replace BR := Lib.hid (BR.out.grown hg8 BR.out.size (fun k hk => (OA.out.lt hk).1)); clear h8 g8 hg8 hm8 OA L1)
          | (go_at_call 24; (with_reducible refine (settle_any c (a ++ b) (n0 + n1) _ _ _ _ L.out HOab.out HLab.out (by omega) y f HZ.out HEab.out).mono ?_); rintro e ws ⟨rfl, hb⟩; (try (replace Q := Lib.hid (Q.out.step hb); obtain ⟨r0, r1, r2, r3, r4, r5, r6⟩ := Q.out.bx.all; obtain ⟨s0, s1, s2, s3, s4, s5, s6⟩ := Q.out.bx.free)); replace BR := Lib.hid (BR.out.trans (hb.mono BR.out.size)); clear L hb; dsimp only)
          | (have Q := Lib.hid (QxR.new BR.out); replace L := Lib.hid (L.out.below ((Below.refl _ _).alloc (Nat.le_refl _) (obj0 56))); replace BR := Lib.hid (BR.out.alloc BR.out.size (obj0 56)); go_at_call 24; (with_reducible refine (settle_any c (a ++ b) (n0 + n1) _ _ _ _ L.out HOab.out HLab.out (by omega) y f HZ.out HEab.out).mono ?_); rintro e ws ⟨rfl, hb⟩; (try (replace Q := Lib.hid (Q.out.step hb); obtain ⟨r0, r1, r2, r3, r4, r5, r6⟩ := Q.out.bx.all; obtain ⟨s0, s1, s2, s3, s4, s5, s6⟩ := Q.out.bx.free)); replace BR := Lib.hid (BR.out.trans (hb.mono BR.out.size)); clear L hb; dsimp only))
        all_goals (go_wp2_with fail; go_meet)
        all_goals (first | (with_reducible exact ⟨_, rfl, rfl, Lib.hid (new_put BR.out y).1, Lib.hid (new_put BR.out y).2⟩) | (with_reducible exact ⟨_, rfl, rfl, Lib.hid (Q.out.put BR.out y).1, Lib.hid (Q.out.put BR.out y).2⟩))
      case rest =>
        obtain ⟨b3, rfl, rfl, BW, Z⟩ := hcut
        replace C := Lib.hid (C.out.step BW.out)
        replace X := Lib.hid (X.out.below BW.out)
        replace Y := Lib.hid (Y.out.below BW.out)
        clear BW BR
        obtain ⟨x0, -, -, -, -, x5, -⟩ := X.out.all
        rw [HK.out.1] at x0
        rw [HK.out.2] at x5
        obtain ⟨y0, y1, y2, y3, y4, y5, y6⟩ := Y.out.all
        obtain ⟨z0, z1, z2, z3, z4, z5, z6⟩ := Z.out.all
        obtain ⟨d0, -, -, -, -, d5, -⟩ := C.out.cf.all
        go_wp2_with fail
        go_ret
        exact ⟨rfl, C.out.bel⟩
end Go.Proofs.Ytmilbkhkefbjkaa
