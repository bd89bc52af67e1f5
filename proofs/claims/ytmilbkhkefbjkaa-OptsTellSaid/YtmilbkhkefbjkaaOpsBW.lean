
/-
  OptsBack's walk. No condition.
-/
import Derived.Test.YtmilbkhkefbjkaaOpsW
namespace Go.Proofs.Ytmilbkhkefbjkaa
open Go.RowKit

theorem getO_put {p : Nat} {a : List (Nat × List Nat)} (h : okL (tabB p) a = true) : getO p (putB a) = (a, 0) := by
  unfold getO
  rw [get_put a]
  dsimp only
  rw [if_pos rfl, h, if_pos rfl]
theorem getO_ok {p : Nat} {b : List Nat} {l : List (Nat × List Nat)} (h : getO p b = (l, 0)) (hb : By b) : putO p l = (b, 0) ∧ ByO l ∧ okL (tabB p) l = true ∧ getB b = (l, 0) ∧ 2 * l.length + datB l ≤ b.length := by
  obtain ⟨m, e, hg⟩ : ∃ m e, getB b = (m, e) := ⟨_, _, rfl⟩
  unfold getO at h
  rw [hg] at h
  dsimp only at h
  by_cases he : e = 0
  · subst he
    rw [if_pos rfl] at h
    cases hq : okL (tabB p) m
    · rw [hq, if_neg (by decide)] at h
      exact absurd (Prod.mk.inj h).2 (by decide)
    · rw [hq, if_pos rfl] at h
      obtain ⟨rfl, -⟩ := Prod.mk.inj h
      have h1 := put_get b hb (by rw [hg])
      have h2 := get_len b hb
      rw [hg] at h1 h2
      dsimp only at h1 h2
      exact ⟨by rw [putO, hq, if_pos rfl, h1.1], h1.2.2, hq, hg, by omega⟩
  · rw [if_neg he] at h
    exact absurd (Prod.mk.inj h).2 he
theorem getO_err {p : Nat} {b : List Nat} {l : List (Nat × List Nat)} {k : Nat} (h : getO p b = (l, k)) (hk : k ≠ 0) : l = [] := by
  unfold getO at h
  split at h
  · split at h
    · exact absurd (Prod.mk.inj h).2.symm hk
    · exact (Prod.mk.inj h).1.symm
  · exact (Prod.mk.inj h).1.symm

set_option maxHeartbeats 2000000 in
theorem back_early (p : Int) (a : List (Nat × List Nat)) (A0 : Option Addr) (n0 c0 : Nat) (A1 : Option Addr) (n1 c1 : Nat) (w : World) (hL0 : a.length = n0) (hn0 : n0 ≤ 140737488351232) (hO0 : ByO a) (hD0 : ∀ x ∈ a, x.2.length ≤ 140737488351232) (hR0 : Rws shO (fun _ => True) w A0 a) (h : ¬ (fewB a = true ∧ n1 ≤ 1000)) :
    Calls Try.prog 6 #[.int .u16 p, .slice A0 n0 c0, .slice A1 n1 c1] w fun e w' => e = .returned (.bool true) ∧ Below w.heap.size w w' := by
  have HR0 := Lib.hid hR0
  have HL0 := Lib.hid hL0
  have HD0 := Lib.hid hD0
  have HO0 := Lib.hid hO0
  clear hR0 hL0 hD0 hO0
  have B := Lib.hid (Below.refl w.heap.size w)
  cases hf : fewB a
  · have HF := Lib.hid hf
    clear hf h HO0
    go_enter Try.func6, Try.ntmps6
    go_wp2_with (first
      | (go_at_call 8; (with_reducible refine (speaks14 _).mono ?_); rintro e wn ⟨rfl, hb⟩; replace B := Lib.hid (B.out.trans (hb.mono B.out.size)); clear hb)
      | (go_at_call 9; (with_reducible refine (few_v a _ HF.out n0 c0 A0 _ _ (HR0.out.below B.out) HL0.out (by omega) HD0.out).mono ?_); rintro e wn ⟨rfl, hb⟩; replace B := Lib.hid (B.out.trans (hb.mono B.out.size)); clear hb))
    go_ret
    exact ⟨rfl, B.out⟩
  · have j1 : (1000 : Int) < (n1 : Int) := by
      have : ¬ n1 ≤ 1000 := fun h1 => h ⟨hf, h1⟩
      omega
    have HF := Lib.hid hf
    clear hf h HO0
    go_enter Try.func6, Try.ntmps6
    go_wp2_with (first
      | (go_at_call 8; (with_reducible refine (speaks14 _).mono ?_); rintro e wn ⟨rfl, hb⟩; replace B := Lib.hid (B.out.trans (hb.mono B.out.size)); clear hb)
      | (go_at_call 9; (with_reducible refine (few_v a _ HF.out n0 c0 A0 _ _ (HR0.out.below B.out) HL0.out (by omega) HD0.out).mono ?_); rintro e wn ⟨rfl, hb⟩; replace B := Lib.hid (B.out.trans (hb.mono B.out.size)); clear hb))
    go_ret
    exact ⟨rfl, B.out⟩

set_option maxHeartbeats 20000000 in
theorem back_walk (p : Nat) (a : List (Nat × List Nat)) (A0 : Option Addr) (n0 c0 : Nat) (b : List Nat) (A1 : Option Addr) (n1 c1 : Nat) (w : World) (hL0 : a.length = n0) (hn0 : n0 ≤ 140737488351232) (hO0 : ByO a) (hD0 : ∀ x ∈ a, x.2.length ≤ 140737488351232) (hR0 : Rws shO (fun _ => True) w A0 a) (hL1 : b.length = n1) (hc1 : n1 ≤ c1) (hB1 : By b) (hR1 : Rd w w.heap.size A1 b) (hf : fewB a = true) (h1 : n1 ≤ 1000) :
    Calls Try.prog 6 #[.int .u16 (p : Int), .slice A0 n0 c0, .slice A1 n1 c1] w fun e w' => e = .returned (.bool true) ∧ Below w.heap.size w w' := by
  have HR0 := Lib.hid hR0
  have HL0 := Lib.hid hL0
  have HD0 := Lib.hid hD0
  have HO0 := Lib.hid hO0
  clear hR0 hL0 hD0 hO0
  have B := Lib.hid (Below.refl w.heap.size w)
  have HR1 := Lib.hid hR1
  have HL1 := Lib.hid hL1
  have HB1 := Lib.hid hB1
  clear hR1 hL1 hB1
  obtain ⟨q1, q2⟩ := few_of hf
  rw [HL0.out] at q1
  have HF := Lib.hid hf
  have j1 : ¬ (1000 : Int) < (n1 : Int) := by omega
  have Q2 := Lib.hid q2
  obtain ⟨l2, kk, hg⟩ : ∃ l2 kk, getO p b = (l2, kk) := ⟨_, _, rfl⟩
  have HG2 := Lib.hid hg
  obtain ⟨n2, hn2⟩ : ∃ n2, Hid (l2.length = n2) := ⟨_, Lib.hid rfl⟩
  clear hf q2
  by_cases hkk : kk = 0
  · subst hkk
    obtain ⟨g1, g2, g3, g4, g5⟩ := getO_ok hg HB1.out
    rw [HL1.out] at g5
    have HP2 := Lib.hid g1
    have HO2 := Lib.hid g2
    have S2 := Lib.hid (show datB l2 ≤ 1000 by omega)
    have s1 : n2 ≤ 500 := by rw [← hn2.out]; omega
    clear hg g1 g2 g3 g4 g5
    cases hok : okL (tabB p) a
    · have HP := Lib.hid (show putO p a = ([], 4) by rw [putO, hok]; rfl)
      have hk := Lib.hid (show ([] : List Nat).length = 0 from rfl)
      clear hok
      go_enter Try.func6, Try.ntmps6
      go_wp2_with (first
        | (go_at_call 8; (with_reducible refine (speaks14 _).mono ?_); rintro e wn ⟨rfl, hb⟩; replace B := Lib.hid (B.out.trans (hb.mono B.out.size)); (try replace L := Lib.hid (L.out.below hb)); (try replace X := Lib.hid (X.out.on hb)); (try replace Y := Lib.hid (Y.out.below hb)); (try replace TT := Lib.hid (TT.out.below hb)); (try replace Y2 := Lib.hid (Y2.out.below hb)); (try replace X2 := Lib.hid (X2.out.on hb)); clear hb)
        | (go_at_call 9; (with_reducible refine (few_v a _ HF.out n0 c0 A0 _ _ (HR0.out.below B.out) HL0.out (by omega) HD0.out).mono ?_); rintro e wn ⟨rfl, hb⟩; replace B := Lib.hid (B.out.trans (hb.mono B.out.size)); (try replace L := Lib.hid (L.out.below hb)); (try replace X := Lib.hid (X.out.on hb)); (try replace Y := Lib.hid (Y.out.below hb)); (try replace TT := Lib.hid (TT.out.below hb)); (try replace Y2 := Lib.hid (Y2.out.below hb)); (try replace X2 := Lib.hid (X2.out.on hb)); clear hb)
        | (go_at_call 12; (with_reducible refine (oof_v a n0 c0 A0 _ (HR0.out.below B.out) HL0.out (by omega)).mono ?_); rintro e wn ⟨A3, c3, rfl, h3, hb⟩; replace B := Lib.hid (B.out.trans (hb.mono B.out.size)); (try replace L := Lib.hid (L.out.below hb)); (try replace X := Lib.hid (X.out.on hb)); (try replace Y := Lib.hid (Y.out.below hb)); (try replace TT := Lib.hid (TT.out.below hb)); (try replace Y2 := Lib.hid (Y2.out.below hb)); (try replace X2 := Lib.hid (X2.out.on hb)); have L := Lib.hid h3; clear h3; clear hb)
        | (go_at_call 17; (with_reducible refine (pput_any p a _ _ HP.out _ hk.out n0 _ _ _ _ L.out HO0.out HL0.out (by omega) (Nat.le_trans Q2.out (by decide))).mono ?_); rintro e wn ⟨A4, c4, rfl, h4, h4c, hb⟩; replace B := Lib.hid (B.out.trans (hb.mono B.out.size)); (try replace L := Lib.hid (L.out.below hb)); (try replace X := Lib.hid (X.out.on hb)); (try replace Y := Lib.hid (Y.out.below hb)); (try replace TT := Lib.hid (TT.out.below hb)); (try replace Y2 := Lib.hid (Y2.out.below hb)); (try replace X2 := Lib.hid (X2.out.on hb)); have X := Lib.hid h4; clear h4 L; clear hb)
        | (go_at_call 19; (with_reducible refine (pget_any p b l2 _ HG2.out _ hn2.out n1 _ _ _ (HR1.out.on B.out) HB1.out HL1.out (by omega) hc1).mono ?_); rintro e wn ⟨A7, c7, rfl, h7, hb⟩; replace B := Lib.hid (B.out.trans (hb.mono B.out.size)); (try replace L := Lib.hid (L.out.below hb)); (try replace X := Lib.hid (X.out.on hb)); (try replace Y := Lib.hid (Y.out.below hb)); (try replace TT := Lib.hid (TT.out.below hb)); (try replace Y2 := Lib.hid (Y2.out.below hb)); (try replace X2 := Lib.hid (X2.out.on hb)); have Y2 := Lib.hid h7; clear h7; clear hb)
        | (go_at_call 17; (with_reducible refine (pput_any p l2 b 0 HP2.out n1 HL1.out n2 _ _ _ _ Y2.out HO2.out hn2.out (by omega) (Nat.le_trans S2.out (by decide))).mono ?_); rintro e wn ⟨A8, c8, rfl, h8, h8c, hb⟩; replace B := Lib.hid (B.out.trans (hb.mono B.out.size)); (try replace L := Lib.hid (L.out.below hb)); (try replace X := Lib.hid (X.out.on hb)); (try replace Y := Lib.hid (Y.out.below hb)); (try replace TT := Lib.hid (TT.out.below hb)); (try replace Y2 := Lib.hid (Y2.out.below hb)); (try replace X2 := Lib.hid (X2.out.on hb)); have X2 := Lib.hid h8; clear h8 h8c Y2; clear hb)
        | (go_at_call 21; (with_reducible refine (equal_yes b b n1 n1 _ _ _ _ _ X2.out (HR1.out.on B.out) HL1.out HL1.out (by omega) rfl).mono ?_); rintro e wn ⟨rfl, hb⟩; replace B := Lib.hid (B.out.trans (hb.mono B.out.size)); (try replace L := Lib.hid (L.out.below hb)); (try replace X := Lib.hid (X.out.on hb)); (try replace Y := Lib.hid (Y.out.below hb)); (try replace TT := Lib.hid (TT.out.below hb)); (try replace Y2 := Lib.hid (Y2.out.below hb)); (try replace X2 := Lib.hid (X2.out.on hb)); clear X2; clear hb))
      go_ret
      exact ⟨rfl, B.out⟩
    · have HP := Lib.hid (show putO p a = (putB a, 0) by rw [putO, hok]; rfl)
      obtain ⟨k, hk⟩ : ∃ k, Hid ((putB a).length = k) := ⟨_, Lib.hid rfl⟩
      have hk2 : k ≤ 1120 := by have := hk.out; rw [put_len, HL0.out] at this; have := Q2.out; omega
      have HG := Lib.hid (getO_put hok)
      have HBX := Lib.hid (put_by HO0.out (okL_short hok))
      clear hok
      go_enter Try.func6, Try.ntmps6
      go_wp2_with (first
        | (go_at_call 8; (with_reducible refine (speaks14 _).mono ?_); rintro e wn ⟨rfl, hb⟩; replace B := Lib.hid (B.out.trans (hb.mono B.out.size)); (try replace L := Lib.hid (L.out.below hb)); (try replace X := Lib.hid (X.out.on hb)); (try replace Y := Lib.hid (Y.out.below hb)); (try replace TT := Lib.hid (TT.out.below hb)); (try replace Y2 := Lib.hid (Y2.out.below hb)); (try replace X2 := Lib.hid (X2.out.on hb)); clear hb)
        | (go_at_call 9; (with_reducible refine (few_v a _ HF.out n0 c0 A0 _ _ (HR0.out.below B.out) HL0.out (by omega) HD0.out).mono ?_); rintro e wn ⟨rfl, hb⟩; replace B := Lib.hid (B.out.trans (hb.mono B.out.size)); (try replace L := Lib.hid (L.out.below hb)); (try replace X := Lib.hid (X.out.on hb)); (try replace Y := Lib.hid (Y.out.below hb)); (try replace TT := Lib.hid (TT.out.below hb)); (try replace Y2 := Lib.hid (Y2.out.below hb)); (try replace X2 := Lib.hid (X2.out.on hb)); clear hb)
        | (go_at_call 12; (with_reducible refine (oof_v a n0 c0 A0 _ (HR0.out.below B.out) HL0.out (by omega)).mono ?_); rintro e wn ⟨A3, c3, rfl, h3, hb⟩; replace B := Lib.hid (B.out.trans (hb.mono B.out.size)); (try replace L := Lib.hid (L.out.below hb)); (try replace X := Lib.hid (X.out.on hb)); (try replace Y := Lib.hid (Y.out.below hb)); (try replace TT := Lib.hid (TT.out.below hb)); (try replace Y2 := Lib.hid (Y2.out.below hb)); (try replace X2 := Lib.hid (X2.out.on hb)); have L := Lib.hid h3; clear h3; clear hb)
        | (go_at_call 17; (with_reducible refine (pput_any p a _ _ HP.out _ hk.out n0 _ _ _ _ L.out HO0.out HL0.out (by omega) (Nat.le_trans Q2.out (by decide))).mono ?_); rintro e wn ⟨A4, c4, rfl, h4, h4c, hb⟩; replace B := Lib.hid (B.out.trans (hb.mono B.out.size)); (try replace L := Lib.hid (L.out.below hb)); (try replace X := Lib.hid (X.out.on hb)); (try replace Y := Lib.hid (Y.out.below hb)); (try replace TT := Lib.hid (TT.out.below hb)); (try replace Y2 := Lib.hid (Y2.out.below hb)); (try replace X2 := Lib.hid (X2.out.on hb)); have X := Lib.hid h4; clear h4 L; clear hb)
        | (go_at_call 19; (with_reducible refine (pget_any p (putB a) a 0 HG.out n0 HL0.out k _ _ _ X.out HBX.out hk.out (by omega) h4c).mono ?_); rintro e wn ⟨A5, c5, rfl, h5, hb⟩; replace B := Lib.hid (B.out.trans (hb.mono B.out.size)); (try replace L := Lib.hid (L.out.below hb)); (try replace X := Lib.hid (X.out.on hb)); (try replace Y := Lib.hid (Y.out.below hb)); (try replace TT := Lib.hid (TT.out.below hb)); (try replace Y2 := Lib.hid (Y2.out.below hb)); (try replace X2 := Lib.hid (X2.out.on hb)); have Y := Lib.hid h5; clear h5 X; clear hb)
        | (go_at_call 23; (with_reducible refine (oto_v a n0 _ _ _ Y.out HL0.out (by omega)).mono ?_); rintro e wn ⟨A6, c6, rfl, h6, hb⟩; replace B := Lib.hid (B.out.trans (hb.mono B.out.size)); (try replace L := Lib.hid (L.out.below hb)); (try replace X := Lib.hid (X.out.on hb)); (try replace Y := Lib.hid (Y.out.below hb)); (try replace TT := Lib.hid (TT.out.below hb)); (try replace Y2 := Lib.hid (Y2.out.below hb)); (try replace X2 := Lib.hid (X2.out.on hb)); have TT := Lib.hid h6; clear h6 Y; clear hb)
        | (go_at_call 22; (with_reducible refine (orsame_v a a _ (decide_eq_true rfl) n0 n0 _ _ _ _ _ _ _ TT.out (HR0.out.below B.out) HL0.out HL0.out (by omega) (Nat.le_trans Q2.out (by decide))).mono ?_); rintro e wn ⟨rfl, hb⟩; replace B := Lib.hid (B.out.trans (hb.mono B.out.size)); (try replace L := Lib.hid (L.out.below hb)); (try replace X := Lib.hid (X.out.on hb)); (try replace Y := Lib.hid (Y.out.below hb)); (try replace TT := Lib.hid (TT.out.below hb)); (try replace Y2 := Lib.hid (Y2.out.below hb)); (try replace X2 := Lib.hid (X2.out.on hb)); clear TT; clear hb)
        | (go_at_call 19; (with_reducible refine (pget_any p b l2 _ HG2.out _ hn2.out n1 _ _ _ (HR1.out.on B.out) HB1.out HL1.out (by omega) hc1).mono ?_); rintro e wn ⟨A7, c7, rfl, h7, hb⟩; replace B := Lib.hid (B.out.trans (hb.mono B.out.size)); (try replace L := Lib.hid (L.out.below hb)); (try replace X := Lib.hid (X.out.on hb)); (try replace Y := Lib.hid (Y.out.below hb)); (try replace TT := Lib.hid (TT.out.below hb)); (try replace Y2 := Lib.hid (Y2.out.below hb)); (try replace X2 := Lib.hid (X2.out.on hb)); have Y2 := Lib.hid h7; clear h7; clear hb)
        | (go_at_call 17; (with_reducible refine (pput_any p l2 b 0 HP2.out n1 HL1.out n2 _ _ _ _ Y2.out HO2.out hn2.out (by omega) (Nat.le_trans S2.out (by decide))).mono ?_); rintro e wn ⟨A8, c8, rfl, h8, h8c, hb⟩; replace B := Lib.hid (B.out.trans (hb.mono B.out.size)); (try replace L := Lib.hid (L.out.below hb)); (try replace X := Lib.hid (X.out.on hb)); (try replace Y := Lib.hid (Y.out.below hb)); (try replace TT := Lib.hid (TT.out.below hb)); (try replace Y2 := Lib.hid (Y2.out.below hb)); (try replace X2 := Lib.hid (X2.out.on hb)); have X2 := Lib.hid h8; clear h8 h8c Y2; clear hb)
        | (go_at_call 21; (with_reducible refine (equal_yes b b n1 n1 _ _ _ _ _ X2.out (HR1.out.on B.out) HL1.out HL1.out (by omega) rfl).mono ?_); rintro e wn ⟨rfl, hb⟩; replace B := Lib.hid (B.out.trans (hb.mono B.out.size)); (try replace L := Lib.hid (L.out.below hb)); (try replace X := Lib.hid (X.out.on hb)); (try replace Y := Lib.hid (Y.out.below hb)); (try replace TT := Lib.hid (TT.out.below hb)); (try replace Y2 := Lib.hid (Y2.out.below hb)); (try replace X2 := Lib.hid (X2.out.on hb)); clear X2; clear hb))
      go_ret
      exact ⟨rfl, B.out⟩
  · have hl2 : l2 = [] := getO_err hg hkk
    have z2 : n2 = 0 := by rw [← hn2.out, hl2]; rfl
    have hk1 : ((kk : Int) != 0) = true := by rw [bne_iff_ne]; omega
    subst z2
    clear hg hkk hl2
    cases hok : okL (tabB p) a
    · have HP := Lib.hid (show putO p a = ([], 4) by rw [putO, hok]; rfl)
      have hk := Lib.hid (show ([] : List Nat).length = 0 from rfl)
      clear hok
      go_enter Try.func6, Try.ntmps6
      go_wp2_with (first
        | (go_at_call 8; (with_reducible refine (speaks14 _).mono ?_); rintro e wn ⟨rfl, hb⟩; replace B := Lib.hid (B.out.trans (hb.mono B.out.size)); (try replace L := Lib.hid (L.out.below hb)); (try replace X := Lib.hid (X.out.on hb)); (try replace Y := Lib.hid (Y.out.below hb)); (try replace TT := Lib.hid (TT.out.below hb)); (try replace Y2 := Lib.hid (Y2.out.below hb)); (try replace X2 := Lib.hid (X2.out.on hb)); clear hb)
        | (go_at_call 9; (with_reducible refine (few_v a _ HF.out n0 c0 A0 _ _ (HR0.out.below B.out) HL0.out (by omega) HD0.out).mono ?_); rintro e wn ⟨rfl, hb⟩; replace B := Lib.hid (B.out.trans (hb.mono B.out.size)); (try replace L := Lib.hid (L.out.below hb)); (try replace X := Lib.hid (X.out.on hb)); (try replace Y := Lib.hid (Y.out.below hb)); (try replace TT := Lib.hid (TT.out.below hb)); (try replace Y2 := Lib.hid (Y2.out.below hb)); (try replace X2 := Lib.hid (X2.out.on hb)); clear hb)
        | (go_at_call 12; (with_reducible refine (oof_v a n0 c0 A0 _ (HR0.out.below B.out) HL0.out (by omega)).mono ?_); rintro e wn ⟨A3, c3, rfl, h3, hb⟩; replace B := Lib.hid (B.out.trans (hb.mono B.out.size)); (try replace L := Lib.hid (L.out.below hb)); (try replace X := Lib.hid (X.out.on hb)); (try replace Y := Lib.hid (Y.out.below hb)); (try replace TT := Lib.hid (TT.out.below hb)); (try replace Y2 := Lib.hid (Y2.out.below hb)); (try replace X2 := Lib.hid (X2.out.on hb)); have L := Lib.hid h3; clear h3; clear hb)
        | (go_at_call 17; (with_reducible refine (pput_any p a _ _ HP.out _ hk.out n0 _ _ _ _ L.out HO0.out HL0.out (by omega) (Nat.le_trans Q2.out (by decide))).mono ?_); rintro e wn ⟨A4, c4, rfl, h4, h4c, hb⟩; replace B := Lib.hid (B.out.trans (hb.mono B.out.size)); (try replace L := Lib.hid (L.out.below hb)); (try replace X := Lib.hid (X.out.on hb)); (try replace Y := Lib.hid (Y.out.below hb)); (try replace TT := Lib.hid (TT.out.below hb)); (try replace Y2 := Lib.hid (Y2.out.below hb)); (try replace X2 := Lib.hid (X2.out.on hb)); have X := Lib.hid h4; clear h4 L; clear hb)
        | (go_at_call 19; (with_reducible refine (pget_any p b l2 _ HG2.out _ hn2.out n1 _ _ _ (HR1.out.on B.out) HB1.out HL1.out (by omega) hc1).mono ?_); rintro e wn ⟨A7, c7, rfl, h7, hb⟩; replace B := Lib.hid (B.out.trans (hb.mono B.out.size)); (try replace L := Lib.hid (L.out.below hb)); (try replace X := Lib.hid (X.out.on hb)); (try replace Y := Lib.hid (Y.out.below hb)); (try replace TT := Lib.hid (TT.out.below hb)); (try replace Y2 := Lib.hid (Y2.out.below hb)); (try replace X2 := Lib.hid (X2.out.on hb)); have Y2 := Lib.hid h7; clear h7; clear hb))
      go_ret
      exact ⟨rfl, B.out⟩
    · have HP := Lib.hid (show putO p a = (putB a, 0) by rw [putO, hok]; rfl)
      obtain ⟨k, hk⟩ : ∃ k, Hid ((putB a).length = k) := ⟨_, Lib.hid rfl⟩
      have hk2 : k ≤ 1120 := by have := hk.out; rw [put_len, HL0.out] at this; have := Q2.out; omega
      have HG := Lib.hid (getO_put hok)
      have HBX := Lib.hid (put_by HO0.out (okL_short hok))
      clear hok
      go_enter Try.func6, Try.ntmps6
      go_wp2_with (first
        | (go_at_call 8; (with_reducible refine (speaks14 _).mono ?_); rintro e wn ⟨rfl, hb⟩; replace B := Lib.hid (B.out.trans (hb.mono B.out.size)); (try replace L := Lib.hid (L.out.below hb)); (try replace X := Lib.hid (X.out.on hb)); (try replace Y := Lib.hid (Y.out.below hb)); (try replace TT := Lib.hid (TT.out.below hb)); (try replace Y2 := Lib.hid (Y2.out.below hb)); (try replace X2 := Lib.hid (X2.out.on hb)); clear hb)
        | (go_at_call 9; (with_reducible refine (few_v a _ HF.out n0 c0 A0 _ _ (HR0.out.below B.out) HL0.out (by omega) HD0.out).mono ?_); rintro e wn ⟨rfl, hb⟩; replace B := Lib.hid (B.out.trans (hb.mono B.out.size)); (try replace L := Lib.hid (L.out.below hb)); (try replace X := Lib.hid (X.out.on hb)); (try replace Y := Lib.hid (Y.out.below hb)); (try replace TT := Lib.hid (TT.out.below hb)); (try replace Y2 := Lib.hid (Y2.out.below hb)); (try replace X2 := Lib.hid (X2.out.on hb)); clear hb)
        | (go_at_call 12; (with_reducible refine (oof_v a n0 c0 A0 _ (HR0.out.below B.out) HL0.out (by omega)).mono ?_); rintro e wn ⟨A3, c3, rfl, h3, hb⟩; replace B := Lib.hid (B.out.trans (hb.mono B.out.size)); (try replace L := Lib.hid (L.out.below hb)); (try replace X := Lib.hid (X.out.on hb)); (try replace Y := Lib.hid (Y.out.below hb)); (try replace TT := Lib.hid (TT.out.below hb)); (try replace Y2 := Lib.hid (Y2.out.below hb)); (try replace X2 := Lib.hid (X2.out.on hb)); have L := Lib.hid h3; clear h3; clear hb)
        | (go_at_call 17; (with_reducible refine (pput_any p a _ _ HP.out _ hk.out n0 _ _ _ _ L.out HO0.out HL0.out (by omega) (Nat.le_trans Q2.out (by decide))).mono ?_); rintro e wn ⟨A4, c4, rfl, h4, h4c, hb⟩; replace B := Lib.hid (B.out.trans (hb.mono B.out.size)); (try replace L := Lib.hid (L.out.below hb)); (try replace X := Lib.hid (X.out.on hb)); (try replace Y := Lib.hid (Y.out.below hb)); (try replace TT := Lib.hid (TT.out.below hb)); (try replace Y2 := Lib.hid (Y2.out.below hb)); (try replace X2 := Lib.hid (X2.out.on hb)); have X := Lib.hid h4; clear h4 L; clear hb)
        | (go_at_call 19; (with_reducible refine (pget_any p (putB a) a 0 HG.out n0 HL0.out k _ _ _ X.out HBX.out hk.out (by omega) h4c).mono ?_); rintro e wn ⟨A5, c5, rfl, h5, hb⟩; replace B := Lib.hid (B.out.trans (hb.mono B.out.size)); (try replace L := Lib.hid (L.out.below hb)); (try replace X := Lib.hid (X.out.on hb)); (try replace Y := Lib.hid (Y.out.below hb)); (try replace TT := Lib.hid (TT.out.below hb)); (try replace Y2 := Lib.hid (Y2.out.below hb)); (try replace X2 := Lib.hid (X2.out.on hb)); have Y := Lib.hid h5; clear h5 X; clear hb)
        | (go_at_call 23; (with_reducible refine (oto_v a n0 _ _ _ Y.out HL0.out (by omega)).mono ?_); rintro e wn ⟨A6, c6, rfl, h6, hb⟩; replace B := Lib.hid (B.out.trans (hb.mono B.out.size)); (try replace L := Lib.hid (L.out.below hb)); (try replace X := Lib.hid (X.out.on hb)); (try replace Y := Lib.hid (Y.out.below hb)); (try replace TT := Lib.hid (TT.out.below hb)); (try replace Y2 := Lib.hid (Y2.out.below hb)); (try replace X2 := Lib.hid (X2.out.on hb)); have TT := Lib.hid h6; clear h6 Y; clear hb)
        | (go_at_call 22; (with_reducible refine (orsame_v a a _ (decide_eq_true rfl) n0 n0 _ _ _ _ _ _ _ TT.out (HR0.out.below B.out) HL0.out HL0.out (by omega) (Nat.le_trans Q2.out (by decide))).mono ?_); rintro e wn ⟨rfl, hb⟩; replace B := Lib.hid (B.out.trans (hb.mono B.out.size)); (try replace L := Lib.hid (L.out.below hb)); (try replace X := Lib.hid (X.out.on hb)); (try replace Y := Lib.hid (Y.out.below hb)); (try replace TT := Lib.hid (TT.out.below hb)); (try replace Y2 := Lib.hid (Y2.out.below hb)); (try replace X2 := Lib.hid (X2.out.on hb)); clear TT; clear hb)
        | (go_at_call 19; (with_reducible refine (pget_any p b l2 _ HG2.out _ hn2.out n1 _ _ _ (HR1.out.on B.out) HB1.out HL1.out (by omega) hc1).mono ?_); rintro e wn ⟨A7, c7, rfl, h7, hb⟩; replace B := Lib.hid (B.out.trans (hb.mono B.out.size)); (try replace L := Lib.hid (L.out.below hb)); (try replace X := Lib.hid (X.out.on hb)); (try replace Y := Lib.hid (Y.out.below hb)); (try replace TT := Lib.hid (TT.out.below hb)); (try replace Y2 := Lib.hid (Y2.out.below hb)); (try replace X2 := Lib.hid (X2.out.on hb)); have Y2 := Lib.hid h7; clear h7; clear hb))
      go_ret
      exact ⟨rfl, B.out⟩
end Go.Proofs.Ytmilbkhkefbjkaa
