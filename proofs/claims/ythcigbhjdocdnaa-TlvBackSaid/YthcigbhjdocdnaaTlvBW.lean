
/-
  TlvBack's walk. No condition.
-/
import Derived.Test.YthcigbhjdocdnaaTlvV
namespace Go.Proofs.Ythcigbhjdocdnaa
open Go.RowKit

set_option maxHeartbeats 2000000 in
theorem back_early (a : List (Nat × List Nat)) (A0 : Option Addr) (n0 c0 : Nat) (A1 : Option Addr) (n1 c1 : Nat) (w : World) (hL0 : a.length = n0) (hn0 : n0 ≤ 140737488351232) (hO0 : ByO a) (hD0 : ∀ x ∈ a, x.2.length ≤ 140737488351232) (hR0 : Rws shO (fun _ => True) w A0 a) (h : ¬ (fewB a = true ∧ n1 ≤ 1000)) :
    Calls Try.prog 4 #[.slice A0 n0 c0, .slice A1 n1 c1] w fun e w' => e = .returned (.bool true) ∧ Below w.heap.size w w' := by
  have HR0 := Lib.hid hR0
  have HL0 := Lib.hid hL0
  have HD0 := Lib.hid hD0
  have HO0 := Lib.hid hO0
  clear hR0 hL0 hD0 hO0
  have B := Lib.hid (Below.refl w.heap.size w)
  cases hf : fewB a
  · have HF := Lib.hid hf
    clear hf h
    go_enter Try.func4, Try.ntmps4
    go_wp2_with (first
      | (go_at_call 7; (with_reducible refine (speaks12 _).mono ?_); rintro e wn ⟨rfl, hb⟩; replace B := Lib.hid (B.out.trans (hb.mono B.out.size)); clear hb)
      | (go_at_call 8; (with_reducible refine (few_v a _ HF.out n0 c0 A0 _ _ (HR0.out.below B.out) HL0.out (by omega) HD0.out).mono ?_); rintro e wn ⟨rfl, hb⟩; replace B := Lib.hid (B.out.trans (hb.mono B.out.size)); clear hb))
    go_ret
    exact ⟨rfl, B.out⟩
  · have j1 : (1000 : Int) < (n1 : Int) := by
      have : ¬ n1 ≤ 1000 := fun h1 => h ⟨hf, h1⟩
      omega
    have HF := Lib.hid hf
    clear hf h
    go_enter Try.func4, Try.ntmps4
    go_wp2_with (first
      | (go_at_call 7; (with_reducible refine (speaks12 _).mono ?_); rintro e wn ⟨rfl, hb⟩; replace B := Lib.hid (B.out.trans (hb.mono B.out.size)); clear hb)
      | (go_at_call 8; (with_reducible refine (few_v a _ HF.out n0 c0 A0 _ _ (HR0.out.below B.out) HL0.out (by omega) HD0.out).mono ?_); rintro e wn ⟨rfl, hb⟩; replace B := Lib.hid (B.out.trans (hb.mono B.out.size)); clear hb))
    go_ret
    exact ⟨rfl, B.out⟩

set_option maxHeartbeats 20000000 in
theorem back_walk (a : List (Nat × List Nat)) (A0 : Option Addr) (n0 c0 : Nat) (b : List Nat) (A1 : Option Addr) (n1 c1 : Nat) (w : World) (hL0 : a.length = n0) (hn0 : n0 ≤ 140737488351232) (hO0 : ByO a) (hD0 : ∀ x ∈ a, x.2.length ≤ 140737488351232) (hR0 : Rws shO (fun _ => True) w A0 a) (hL1 : b.length = n1) (hc1 : n1 ≤ c1) (hB1 : By b) (hR1 : Rd w w.heap.size A1 b) (hf : fewB a = true) (h1 : n1 ≤ 1000) :
    Calls Try.prog 4 #[.slice A0 n0 c0, .slice A1 n1 c1] w fun e w' => e = .returned (.bool true) ∧ Below w.heap.size w w' := by
  have HR0 := Lib.hid hR0
  have HL0 := Lib.hid hL0
  have HD0 := Lib.hid hD0
  have HO0 := Lib.hid hO0
  clear hR0 hL0 hD0 hO0
  have B := Lib.hid (Below.refl w.heap.size w)
  have HR1 := Lib.hid hR1
  have HL1 := Lib.hid hL1
  have HB1 := Lib.hid hB1
  clear hR1 hL1 hB1
  obtain ⟨q1, q2⟩ := few_of hf
  rw [HL0.out] at q1
  have HF := Lib.hid hf
  have j1 : ¬ (1000 : Int) < (n1 : Int) := by omega
  obtain ⟨k, hk⟩ : ∃ k, Hid ((putB a).length = k) := ⟨_, Lib.hid rfl⟩
  have hk2 : k ≤ 1120 := by have := hk.out; rw [put_len, HL0.out] at this; omega
  have Q2 := Lib.hid q2
  obtain ⟨l2, kk, hg⟩ : ∃ l2 kk, Hid (getB b = (l2, kk)) := ⟨_, _, Lib.hid rfl⟩
  have hlen := get_len b HB1.out
  rw [hg.out, HL1.out] at hlen
  dsimp only at hlen
  obtain ⟨n2, hn2⟩ : ∃ n2, Hid (l2.length = n2) := ⟨_, Lib.hid rfl⟩
  rw [hn2.out] at hlen
  have s1 : n2 ≤ 500 := by omega
  have S2 := Lib.hid (show datB l2 ≤ 1000 by omega)
  clear hf q2 hlen
  cases hlg : longB a
  · have EP := Lib.hid (errP_ok hlg)
    have HBX := Lib.hid (put_by HO0.out hlg)
    clear hlg
    by_cases hkk : kk = 0
    · subst hkk
      have hpg := put_get b HB1.out (by rw [hg.out])
      rw [hg.out] at hpg
      dsimp only at hpg
      have EP2 := Lib.hid (show errP l2 = 0 ∧ putA l2 = b from ⟨(errP_ok hpg.2.1).1, (errP_ok hpg.2.1).2.trans hpg.1⟩)
      clear hpg
      go_enter Try.func4, Try.ntmps4
      go_wp2_with (first
        | (go_at_call 7; (with_reducible refine (speaks12 _).mono ?_); rintro e wn ⟨rfl, hb⟩; replace B := Lib.hid (B.out.trans (hb.mono B.out.size)); (try replace L := Lib.hid (L.out.below hb)); (try replace X := Lib.hid (X.out.on hb)); (try replace Y := Lib.hid (Y.out.below hb)); (try replace TT := Lib.hid (TT.out.below hb)); (try replace Y2 := Lib.hid (Y2.out.below hb)); (try replace X2 := Lib.hid (X2.out.on hb)); clear hb)
        | (go_at_call 8; (with_reducible refine (few_v a _ HF.out n0 c0 A0 _ _ (HR0.out.below B.out) HL0.out (by omega) HD0.out).mono ?_); rintro e wn ⟨rfl, hb⟩; replace B := Lib.hid (B.out.trans (hb.mono B.out.size)); (try replace L := Lib.hid (L.out.below hb)); (try replace X := Lib.hid (X.out.on hb)); (try replace Y := Lib.hid (Y.out.below hb)); (try replace TT := Lib.hid (TT.out.below hb)); (try replace Y2 := Lib.hid (Y2.out.below hb)); (try replace X2 := Lib.hid (X2.out.on hb)); clear hb)
        | (go_at_call 9; (with_reducible refine (oof_v a n0 c0 A0 _ (HR0.out.below B.out) HL0.out (by omega)).mono ?_); rintro e wn ⟨A3, c3, rfl, h3, hb⟩; replace B := Lib.hid (B.out.trans (hb.mono B.out.size)); (try replace L := Lib.hid (L.out.below hb)); (try replace X := Lib.hid (X.out.on hb)); (try replace Y := Lib.hid (Y.out.below hb)); (try replace TT := Lib.hid (TT.out.below hb)); (try replace Y2 := Lib.hid (Y2.out.below hb)); (try replace X2 := Lib.hid (X2.out.on hb)); have L := Lib.hid h3; clear h3; clear hb)
        | (go_at_call 10; (with_reducible refine (oput_v a _ EP.out.1 _ EP.out.2 _ hk.out n0 _ _ _ _ L.out HL0.out (by omega) (Nat.le_trans Q2.out (by decide))).mono ?_); rintro e wn ⟨A4, c4, rfl, h4, h4c, hb⟩; replace B := Lib.hid (B.out.trans (hb.mono B.out.size)); (try replace L := Lib.hid (L.out.below hb)); (try replace X := Lib.hid (X.out.on hb)); (try replace Y := Lib.hid (Y.out.below hb)); (try replace TT := Lib.hid (TT.out.below hb)); (try replace Y2 := Lib.hid (Y2.out.below hb)); (try replace X2 := Lib.hid (X2.out.on hb)); have X := Lib.hid h4; clear h4; clear hb)
        | (go_at_call 12; (with_reducible refine (oget_v (putB a) a 0 (get_put a) k _ _ _ X.out HBX.out hk.out (by omega) h4c).mono ?_); rintro e wn ⟨A5, c5, rfl, h5, hb⟩; replace B := Lib.hid (B.out.trans (hb.mono B.out.size)); (try replace L := Lib.hid (L.out.below hb)); (try replace X := Lib.hid (X.out.on hb)); (try replace Y := Lib.hid (Y.out.below hb)); (try replace TT := Lib.hid (TT.out.below hb)); (try replace Y2 := Lib.hid (Y2.out.below hb)); (try replace X2 := Lib.hid (X2.out.on hb)); have Y := Lib.hid (h5.read.mono (G := fun _ => True) (fun _ _ _ => trivial)); rw [HL0.out]; clear h5; clear hb)
        | (go_at_call 17; (with_reducible refine (osame_v a a _ (decide_eq_true rfl) n0 n0 _ _ _ _ _ _ _ Y.out L.out HO0.out HO0.out HL0.out HL0.out (by omega)).mono ?_); rintro e wn ⟨rfl, hb⟩; replace B := Lib.hid (B.out.trans (hb.mono B.out.size)); (try replace L := Lib.hid (L.out.below hb)); (try replace X := Lib.hid (X.out.on hb)); (try replace Y := Lib.hid (Y.out.below hb)); (try replace TT := Lib.hid (TT.out.below hb)); (try replace Y2 := Lib.hid (Y2.out.below hb)); (try replace X2 := Lib.hid (X2.out.on hb)); clear hb)
        | (go_at_call 16; (with_reducible refine (oto_v a n0 _ _ _ Y.out HL0.out (by omega)).mono ?_); rintro e wn ⟨A6, c6, rfl, h6, hb⟩; replace B := Lib.hid (B.out.trans (hb.mono B.out.size)); (try replace L := Lib.hid (L.out.below hb)); (try replace X := Lib.hid (X.out.on hb)); (try replace Y := Lib.hid (Y.out.below hb)); (try replace TT := Lib.hid (TT.out.below hb)); (try replace Y2 := Lib.hid (Y2.out.below hb)); (try replace X2 := Lib.hid (X2.out.on hb)); have TT := Lib.hid h6; clear h6; clear hb)
        | (go_at_call 15; (with_reducible refine (orsame_v a a _ (decide_eq_true rfl) n0 n0 _ _ _ _ _ _ _ TT.out (HR0.out.below B.out) HL0.out HL0.out (by omega) (Nat.le_trans Q2.out (by decide))).mono ?_); rintro e wn ⟨rfl, hb⟩; replace B := Lib.hid (B.out.trans (hb.mono B.out.size)); (try replace L := Lib.hid (L.out.below hb)); (try replace X := Lib.hid (X.out.on hb)); (try replace Y := Lib.hid (Y.out.below hb)); (try replace TT := Lib.hid (TT.out.below hb)); (try replace Y2 := Lib.hid (Y2.out.below hb)); (try replace X2 := Lib.hid (X2.out.on hb)); clear hb)
        | (go_at_call 19; (with_reducible refine (osz_v a k n0 _ hk.out _ _ _ L.out HL0.out (by omega) (Nat.le_trans Q2.out (by decide))).mono ?_); rintro e wn ⟨rfl, hb⟩; replace B := Lib.hid (B.out.trans (hb.mono B.out.size)); (try replace L := Lib.hid (L.out.below hb)); (try replace X := Lib.hid (X.out.on hb)); (try replace Y := Lib.hid (Y.out.below hb)); (try replace TT := Lib.hid (TT.out.below hb)); (try replace Y2 := Lib.hid (Y2.out.below hb)); (try replace X2 := Lib.hid (X2.out.on hb)); clear hb)
        | (go_at_call 12; (with_reducible refine (oget_v b l2 _ hg.out n1 _ _ _ (HR1.out.on B.out) HB1.out HL1.out (by omega) hc1).mono ?_); rintro e wn ⟨A7, c7, rfl, h7, hb⟩; replace B := Lib.hid (B.out.trans (hb.mono B.out.size)); (try replace L := Lib.hid (L.out.below hb)); (try replace X := Lib.hid (X.out.on hb)); (try replace Y := Lib.hid (Y.out.below hb)); (try replace TT := Lib.hid (TT.out.below hb)); (try replace Y2 := Lib.hid (Y2.out.below hb)); (try replace X2 := Lib.hid (X2.out.on hb)); have Y2 := Lib.hid (h7.read.mono (G := fun _ => True) (fun _ _ _ => trivial)); rw [hn2.out]; clear h7; clear hb)
        | (go_at_call 10; (with_reducible refine (oput_v l2 _ EP2.out.1 _ EP2.out.2 n1 HL1.out n2 _ _ _ _ Y2.out hn2.out (by omega) (Nat.le_trans S2.out (by decide))).mono ?_); rintro e wn ⟨A8, c8, rfl, h8, h8c, hb⟩; replace B := Lib.hid (B.out.trans (hb.mono B.out.size)); (try replace L := Lib.hid (L.out.below hb)); (try replace X := Lib.hid (X.out.on hb)); (try replace Y := Lib.hid (Y.out.below hb)); (try replace TT := Lib.hid (TT.out.below hb)); (try replace Y2 := Lib.hid (Y2.out.below hb)); (try replace X2 := Lib.hid (X2.out.on hb)); have X2 := Lib.hid h8; clear h8 h8c; clear hb)
        | (go_at_call 14; (with_reducible refine (equal_yes b b n1 n1 _ _ _ _ _ X2.out (HR1.out.on B.out) HL1.out HL1.out (by omega) rfl).mono ?_); rintro e wn ⟨rfl, hb⟩; replace B := Lib.hid (B.out.trans (hb.mono B.out.size)); (try replace L := Lib.hid (L.out.below hb)); (try replace X := Lib.hid (X.out.on hb)); (try replace Y := Lib.hid (Y.out.below hb)); (try replace TT := Lib.hid (TT.out.below hb)); (try replace Y2 := Lib.hid (Y2.out.below hb)); (try replace X2 := Lib.hid (X2.out.on hb)); clear hb))
      go_ret
      exact ⟨rfl, B.out⟩
    · have hl2 : l2 = [] := by
        have := get_err b (by rw [hg.out]; exact hkk)
        rw [hg.out] at this
        exact this
      have z2 : n2 = 0 := by rw [← hn2.out, hl2]; rfl
      have hk1 : ((kk : Int) != 0) = true := by rw [bne_iff_ne]; omega
      subst z2
      clear hkk hl2
      go_enter Try.func4, Try.ntmps4
      go_wp2_with (first
        | (go_at_call 7; (with_reducible refine (speaks12 _).mono ?_); rintro e wn ⟨rfl, hb⟩; replace B := Lib.hid (B.out.trans (hb.mono B.out.size)); (try replace L := Lib.hid (L.out.below hb)); (try replace X := Lib.hid (X.out.on hb)); (try replace Y := Lib.hid (Y.out.below hb)); (try replace TT := Lib.hid (TT.out.below hb)); (try replace Y2 := Lib.hid (Y2.out.below hb)); (try replace X2 := Lib.hid (X2.out.on hb)); clear hb)
        | (go_at_call 8; (with_reducible refine (few_v a _ HF.out n0 c0 A0 _ _ (HR0.out.below B.out) HL0.out (by omega) HD0.out).mono ?_); rintro e wn ⟨rfl, hb⟩; replace B := Lib.hid (B.out.trans (hb.mono B.out.size)); (try replace L := Lib.hid (L.out.below hb)); (try replace X := Lib.hid (X.out.on hb)); (try replace Y := Lib.hid (Y.out.below hb)); (try replace TT := Lib.hid (TT.out.below hb)); (try replace Y2 := Lib.hid (Y2.out.below hb)); (try replace X2 := Lib.hid (X2.out.on hb)); clear hb)
        | (go_at_call 9; (with_reducible refine (oof_v a n0 c0 A0 _ (HR0.out.below B.out) HL0.out (by omega)).mono ?_); rintro e wn ⟨A3, c3, rfl, h3, hb⟩; replace B := Lib.hid (B.out.trans (hb.mono B.out.size)); (try replace L := Lib.hid (L.out.below hb)); (try replace X := Lib.hid (X.out.on hb)); (try replace Y := Lib.hid (Y.out.below hb)); (try replace TT := Lib.hid (TT.out.below hb)); (try replace Y2 := Lib.hid (Y2.out.below hb)); (try replace X2 := Lib.hid (X2.out.on hb)); have L := Lib.hid h3; clear h3; clear hb)
        | (go_at_call 10; (with_reducible refine (oput_v a _ EP.out.1 _ EP.out.2 _ hk.out n0 _ _ _ _ L.out HL0.out (by omega) (Nat.le_trans Q2.out (by decide))).mono ?_); rintro e wn ⟨A4, c4, rfl, h4, h4c, hb⟩; replace B := Lib.hid (B.out.trans (hb.mono B.out.size)); (try replace L := Lib.hid (L.out.below hb)); (try replace X := Lib.hid (X.out.on hb)); (try replace Y := Lib.hid (Y.out.below hb)); (try replace TT := Lib.hid (TT.out.below hb)); (try replace Y2 := Lib.hid (Y2.out.below hb)); (try replace X2 := Lib.hid (X2.out.on hb)); have X := Lib.hid h4; clear h4; clear hb)
        | (go_at_call 12; (with_reducible refine (oget_v (putB a) a 0 (get_put a) k _ _ _ X.out HBX.out hk.out (by omega) h4c).mono ?_); rintro e wn ⟨A5, c5, rfl, h5, hb⟩; replace B := Lib.hid (B.out.trans (hb.mono B.out.size)); (try replace L := Lib.hid (L.out.below hb)); (try replace X := Lib.hid (X.out.on hb)); (try replace Y := Lib.hid (Y.out.below hb)); (try replace TT := Lib.hid (TT.out.below hb)); (try replace Y2 := Lib.hid (Y2.out.below hb)); (try replace X2 := Lib.hid (X2.out.on hb)); have Y := Lib.hid (h5.read.mono (G := fun _ => True) (fun _ _ _ => trivial)); rw [HL0.out]; clear h5; clear hb)
        | (go_at_call 17; (with_reducible refine (osame_v a a _ (decide_eq_true rfl) n0 n0 _ _ _ _ _ _ _ Y.out L.out HO0.out HO0.out HL0.out HL0.out (by omega)).mono ?_); rintro e wn ⟨rfl, hb⟩; replace B := Lib.hid (B.out.trans (hb.mono B.out.size)); (try replace L := Lib.hid (L.out.below hb)); (try replace X := Lib.hid (X.out.on hb)); (try replace Y := Lib.hid (Y.out.below hb)); (try replace TT := Lib.hid (TT.out.below hb)); (try replace Y2 := Lib.hid (Y2.out.below hb)); (try replace X2 := Lib.hid (X2.out.on hb)); clear hb)
        | (go_at_call 16; (with_reducible refine (oto_v a n0 _ _ _ Y.out HL0.out (by omega)).mono ?_); rintro e wn ⟨A6, c6, rfl, h6, hb⟩; replace B := Lib.hid (B.out.trans (hb.mono B.out.size)); (try replace L := Lib.hid (L.out.below hb)); (try replace X := Lib.hid (X.out.on hb)); (try replace Y := Lib.hid (Y.out.below hb)); (try replace TT := Lib.hid (TT.out.below hb)); (try replace Y2 := Lib.hid (Y2.out.below hb)); (try replace X2 := Lib.hid (X2.out.on hb)); have TT := Lib.hid h6; clear h6; clear hb)
        | (go_at_call 15; (with_reducible refine (orsame_v a a _ (decide_eq_true rfl) n0 n0 _ _ _ _ _ _ _ TT.out (HR0.out.below B.out) HL0.out HL0.out (by omega) (Nat.le_trans Q2.out (by decide))).mono ?_); rintro e wn ⟨rfl, hb⟩; replace B := Lib.hid (B.out.trans (hb.mono B.out.size)); (try replace L := Lib.hid (L.out.below hb)); (try replace X := Lib.hid (X.out.on hb)); (try replace Y := Lib.hid (Y.out.below hb)); (try replace TT := Lib.hid (TT.out.below hb)); (try replace Y2 := Lib.hid (Y2.out.below hb)); (try replace X2 := Lib.hid (X2.out.on hb)); clear hb)
        | (go_at_call 19; (with_reducible refine (osz_v a k n0 _ hk.out _ _ _ L.out HL0.out (by omega) (Nat.le_trans Q2.out (by decide))).mono ?_); rintro e wn ⟨rfl, hb⟩; replace B := Lib.hid (B.out.trans (hb.mono B.out.size)); (try replace L := Lib.hid (L.out.below hb)); (try replace X := Lib.hid (X.out.on hb)); (try replace Y := Lib.hid (Y.out.below hb)); (try replace TT := Lib.hid (TT.out.below hb)); (try replace Y2 := Lib.hid (Y2.out.below hb)); (try replace X2 := Lib.hid (X2.out.on hb)); clear hb)
        | (go_at_call 12; (with_reducible refine (oget_v b l2 _ hg.out n1 _ _ _ (HR1.out.on B.out) HB1.out HL1.out (by omega) hc1).mono ?_); rintro e wn ⟨A7, c7, rfl, h7, hb⟩; replace B := Lib.hid (B.out.trans (hb.mono B.out.size)); (try replace L := Lib.hid (L.out.below hb)); (try replace X := Lib.hid (X.out.on hb)); (try replace Y := Lib.hid (Y.out.below hb)); (try replace TT := Lib.hid (TT.out.below hb)); (try replace Y2 := Lib.hid (Y2.out.below hb)); (try replace X2 := Lib.hid (X2.out.on hb)); have Y2 := Lib.hid (h7.read.mono (G := fun _ => True) (fun _ _ _ => trivial)); rw [hn2.out]; clear h7; clear hb))
      go_ret
      exact ⟨rfl, B.out⟩
  · have EP := Lib.hid (errP_long hlg)
    clear hlg
    by_cases hkk : kk = 0
    · subst hkk
      have hpg := put_get b HB1.out (by rw [hg.out])
      rw [hg.out] at hpg
      dsimp only at hpg
      have EP2 := Lib.hid (show errP l2 = 0 ∧ putA l2 = b from ⟨(errP_ok hpg.2.1).1, (errP_ok hpg.2.1).2.trans hpg.1⟩)
      clear hpg
      go_enter Try.func4, Try.ntmps4
      go_wp2_with (first
        | (go_at_call 7; (with_reducible refine (speaks12 _).mono ?_); rintro e wn ⟨rfl, hb⟩; replace B := Lib.hid (B.out.trans (hb.mono B.out.size)); (try replace L := Lib.hid (L.out.below hb)); (try replace X := Lib.hid (X.out.on hb)); (try replace Y := Lib.hid (Y.out.below hb)); (try replace TT := Lib.hid (TT.out.below hb)); (try replace Y2 := Lib.hid (Y2.out.below hb)); (try replace X2 := Lib.hid (X2.out.on hb)); clear hb)
        | (go_at_call 8; (with_reducible refine (few_v a _ HF.out n0 c0 A0 _ _ (HR0.out.below B.out) HL0.out (by omega) HD0.out).mono ?_); rintro e wn ⟨rfl, hb⟩; replace B := Lib.hid (B.out.trans (hb.mono B.out.size)); (try replace L := Lib.hid (L.out.below hb)); (try replace X := Lib.hid (X.out.on hb)); (try replace Y := Lib.hid (Y.out.below hb)); (try replace TT := Lib.hid (TT.out.below hb)); (try replace Y2 := Lib.hid (Y2.out.below hb)); (try replace X2 := Lib.hid (X2.out.on hb)); clear hb)
        | (go_at_call 9; (with_reducible refine (oof_v a n0 c0 A0 _ (HR0.out.below B.out) HL0.out (by omega)).mono ?_); rintro e wn ⟨A3, c3, rfl, h3, hb⟩; replace B := Lib.hid (B.out.trans (hb.mono B.out.size)); (try replace L := Lib.hid (L.out.below hb)); (try replace X := Lib.hid (X.out.on hb)); (try replace Y := Lib.hid (Y.out.below hb)); (try replace TT := Lib.hid (TT.out.below hb)); (try replace Y2 := Lib.hid (Y2.out.below hb)); (try replace X2 := Lib.hid (X2.out.on hb)); have L := Lib.hid h3; clear h3; clear hb)
        | (go_at_call 10; (with_reducible refine (oput_v a _ EP.out.1 _ EP.out.2 0 rfl n0 _ _ _ _ L.out HL0.out (by omega) (Nat.le_trans Q2.out (by decide))).mono ?_); rintro e wn ⟨A4, c4, rfl, h4, h4c, hb⟩; replace B := Lib.hid (B.out.trans (hb.mono B.out.size)); (try replace L := Lib.hid (L.out.below hb)); (try replace X := Lib.hid (X.out.on hb)); (try replace Y := Lib.hid (Y.out.below hb)); (try replace TT := Lib.hid (TT.out.below hb)); (try replace Y2 := Lib.hid (Y2.out.below hb)); (try replace X2 := Lib.hid (X2.out.on hb)); clear h4 h4c; clear hb)
        | (go_at_call 12; (with_reducible refine (oget_v b l2 _ hg.out n1 _ _ _ (HR1.out.on B.out) HB1.out HL1.out (by omega) hc1).mono ?_); rintro e wn ⟨A7, c7, rfl, h7, hb⟩; replace B := Lib.hid (B.out.trans (hb.mono B.out.size)); (try replace L := Lib.hid (L.out.below hb)); (try replace X := Lib.hid (X.out.on hb)); (try replace Y := Lib.hid (Y.out.below hb)); (try replace TT := Lib.hid (TT.out.below hb)); (try replace Y2 := Lib.hid (Y2.out.below hb)); (try replace X2 := Lib.hid (X2.out.on hb)); have Y2 := Lib.hid (h7.read.mono (G := fun _ => True) (fun _ _ _ => trivial)); rw [hn2.out]; clear h7; clear hb)
        | (go_at_call 10; (with_reducible refine (oput_v l2 _ EP2.out.1 _ EP2.out.2 n1 HL1.out n2 _ _ _ _ Y2.out hn2.out (by omega) (Nat.le_trans S2.out (by decide))).mono ?_); rintro e wn ⟨A8, c8, rfl, h8, h8c, hb⟩; replace B := Lib.hid (B.out.trans (hb.mono B.out.size)); (try replace L := Lib.hid (L.out.below hb)); (try replace X := Lib.hid (X.out.on hb)); (try replace Y := Lib.hid (Y.out.below hb)); (try replace TT := Lib.hid (TT.out.below hb)); (try replace Y2 := Lib.hid (Y2.out.below hb)); (try replace X2 := Lib.hid (X2.out.on hb)); have X2 := Lib.hid h8; clear h8 h8c; clear hb)
        | (go_at_call 14; (with_reducible refine (equal_yes b b n1 n1 _ _ _ _ _ X2.out (HR1.out.on B.out) HL1.out HL1.out (by omega) rfl).mono ?_); rintro e wn ⟨rfl, hb⟩; replace B := Lib.hid (B.out.trans (hb.mono B.out.size)); (try replace L := Lib.hid (L.out.below hb)); (try replace X := Lib.hid (X.out.on hb)); (try replace Y := Lib.hid (Y.out.below hb)); (try replace TT := Lib.hid (TT.out.below hb)); (try replace Y2 := Lib.hid (Y2.out.below hb)); (try replace X2 := Lib.hid (X2.out.on hb)); clear hb))
      go_ret
      exact ⟨rfl, B.out⟩
    · have hl2 : l2 = [] := by
        have := get_err b (by rw [hg.out]; exact hkk)
        rw [hg.out] at this
        exact this
      have z2 : n2 = 0 := by rw [← hn2.out, hl2]; rfl
      have hk1 : ((kk : Int) != 0) = true := by rw [bne_iff_ne]; omega
      subst z2
      clear hkk hl2
      go_enter Try.func4, Try.ntmps4
      go_wp2_with (first
        | (go_at_call 7; (with_reducible refine (speaks12 _).mono ?_); rintro e wn ⟨rfl, hb⟩; replace B := Lib.hid (B.out.trans (hb.mono B.out.size)); (try replace L := Lib.hid (L.out.below hb)); (try replace X := Lib.hid (X.out.on hb)); (try replace Y := Lib.hid (Y.out.below hb)); (try replace TT := Lib.hid (TT.out.below hb)); (try replace Y2 := Lib.hid (Y2.out.below hb)); (try replace X2 := Lib.hid (X2.out.on hb)); clear hb)
        | (go_at_call 8; (with_reducible refine (few_v a _ HF.out n0 c0 A0 _ _ (HR0.out.below B.out) HL0.out (by omega) HD0.out).mono ?_); rintro e wn ⟨rfl, hb⟩; replace B := Lib.hid (B.out.trans (hb.mono B.out.size)); (try replace L := Lib.hid (L.out.below hb)); (try replace X := Lib.hid (X.out.on hb)); (try replace Y := Lib.hid (Y.out.below hb)); (try replace TT := Lib.hid (TT.out.below hb)); (try replace Y2 := Lib.hid (Y2.out.below hb)); (try replace X2 := Lib.hid (X2.out.on hb)); clear hb)
        | (go_at_call 9; (with_reducible refine (oof_v a n0 c0 A0 _ (HR0.out.below B.out) HL0.out (by omega)).mono ?_); rintro e wn ⟨A3, c3, rfl, h3, hb⟩; replace B := Lib.hid (B.out.trans (hb.mono B.out.size)); (try replace L := Lib.hid (L.out.below hb)); (try replace X := Lib.hid (X.out.on hb)); (try replace Y := Lib.hid (Y.out.below hb)); (try replace TT := Lib.hid (TT.out.below hb)); (try replace Y2 := Lib.hid (Y2.out.below hb)); (try replace X2 := Lib.hid (X2.out.on hb)); have L := Lib.hid h3; clear h3; clear hb)
        | (go_at_call 10; (with_reducible refine (oput_v a _ EP.out.1 _ EP.out.2 0 rfl n0 _ _ _ _ L.out HL0.out (by omega) (Nat.le_trans Q2.out (by decide))).mono ?_); rintro e wn ⟨A4, c4, rfl, h4, h4c, hb⟩; replace B := Lib.hid (B.out.trans (hb.mono B.out.size)); (try replace L := Lib.hid (L.out.below hb)); (try replace X := Lib.hid (X.out.on hb)); (try replace Y := Lib.hid (Y.out.below hb)); (try replace TT := Lib.hid (TT.out.below hb)); (try replace Y2 := Lib.hid (Y2.out.below hb)); (try replace X2 := Lib.hid (X2.out.on hb)); clear h4 h4c; clear hb)
        | (go_at_call 12; (with_reducible refine (oget_v b l2 _ hg.out n1 _ _ _ (HR1.out.on B.out) HB1.out HL1.out (by omega) hc1).mono ?_); rintro e wn ⟨A7, c7, rfl, h7, hb⟩; replace B := Lib.hid (B.out.trans (hb.mono B.out.size)); (try replace L := Lib.hid (L.out.below hb)); (try replace X := Lib.hid (X.out.on hb)); (try replace Y := Lib.hid (Y.out.below hb)); (try replace TT := Lib.hid (TT.out.below hb)); (try replace Y2 := Lib.hid (Y2.out.below hb)); (try replace X2 := Lib.hid (X2.out.on hb)); have Y2 := Lib.hid (h7.read.mono (G := fun _ => True) (fun _ _ _ => trivial)); rw [hn2.out]; clear h7; clear hb))
      go_ret
      exact ⟨rfl, B.out⟩
end Go.Proofs.Ythcigbhjdocdnaa
