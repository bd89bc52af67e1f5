
/-
  TlvTells' walk. No condition.
-/
import Derived.Test.YthcigbhjdocdnaaTlvV
import Derived.Test.YthcigbhjdocdnaaTlvTF
namespace Go.Proofs.Ythcigbhjdocdnaa
open Go.RowKit

set_option maxRecDepth 2000 in
set_option maxHeartbeats 40000000 in
theorem tells_walk (a : List (Nat × List Nat)) (A0 : Option Addr) (n0 c0 : Nat) (c : List (Nat × List Nat)) (A1 : Option Addr) (n1 c1 : Nat) (b : List Nat) (A2 : Option Addr) (n2 c2 : Nat) (t : Nat) (w : World) (hL0 : a.length = n0) (hn0 : n0 ≤ 140737488351232) (hO0 : ByO a) (hD0 : ∀ x ∈ a, x.2.length ≤ 140737488351232) (hR0 : Rws shO (fun _ => True) w A0 a) (hL1 : c.length = n1) (hn1 : n1 ≤ 140737488351232) (hO1 : ByO c) (hD1 : ∀ x ∈ c, x.2.length ≤ 140737488351232) (hR1 : Rws shO (fun _ => True) w A1 c) (hL2 : b.length = n2) (hc2 : n2 ≤ c2) (hB2 : By b) (hR2 : Rd w w.heap.size A2 b) (hf : fewB a = true) (hg : fewB c = true) (h2 : n2 ≤ 1000) :
    Calls Try.prog 3 #[.slice A0 n0 c0, .slice A1 n1 c1, .slice A2 n2 c2, .int .u8 (t : Int)] w fun e w' => e = .returned (.bool true) ∧ Below w.heap.size w w' := by
  have HR0 := Lib.hid hR0
  have HL0 := Lib.hid hL0
  have HD0 := Lib.hid hD0
  have HO0 := Lib.hid hO0
  clear hR0 hL0 hD0 hO0
  have HR1 := Lib.hid hR1
  have HL1 := Lib.hid hL1
  have HD1 := Lib.hid hD1
  have HO1 := Lib.hid hO1
  clear hR1 hL1 hD1 hO1
  have B := Lib.hid (Below.refl w.heap.size w)
  have HR2 := Lib.hid hR2
  have HL2 := Lib.hid hL2
  have HB2 := Lib.hid hB2
  clear hR2 hL2 hB2
  obtain ⟨ity, gi, gz0, gz1, gz2⟩ := info_parts ropt_info
  obtain ⟨q1, q2⟩ := few_of hf
  obtain ⟨q3, q4⟩ := few_of hg
  rw [HL0.out] at q1
  rw [HL1.out] at q3
  have HF := Lib.hid hf
  have HG := Lib.hid hg
  have Q2 := Lib.hid q2
  have Q4 := Lib.hid q4
  have j1 : ¬ (1000 : Int) < (n2 : Int) := by omega
  clear hf hg q2 q4
  obtain ⟨e0, m0, k0, he0, hm0, hk0, hkl0⟩ : ∃ e0 m0 k0, Hid (errP a = e0) ∧ Hid (putA a = m0) ∧ Hid (m0.length = k0) ∧ k0 ≤ 1120 := ⟨_, _, _, Lib.hid rfl, Lib.hid rfl, Lib.hid rfl, putA_le a 60 1000 (by rw [HL0.out]; exact q1) Q2.out⟩
  obtain ⟨lb, kb, hgb⟩ : ∃ l k, Hid (getB b = (l, k)) := ⟨_, _, Lib.hid rfl⟩
  obtain ⟨nb, hnb⟩ : ∃ n, Hid (lb.length = n) := ⟨_, Lib.hid rfl⟩
  have hlen := get_len b HB2.out
  rw [hgb.out, HL2.out] at hlen
  dsimp only at hlen
  rw [hnb.out] at hlen
  have snb : nb ≤ 500 := by omega
  have SB := Lib.hid (show datB lb ≤ 1000 by omega)
  obtain ⟨q, hq⟩ : ∃ q, Hid (decide (a = c) = q) := ⟨_, Lib.hid rfl⟩
  obtain ⟨p, hp⟩ : ∃ p : Nat × List Nat → Bool, p = fun o => decide (o.1 = t) := ⟨_, rfl⟩
  have HP := Lib.hid hp
  have P1 := Lib.hid trivial
  clear hlen hp
  go_enter Try.func3, Try.ntmps3
  go_wp2_with (first
    | (go_at_call 7; (with_reducible refine (speaks12 _).mono ?_); rintro e wn ⟨rfl, hb⟩; replace B := Lib.hid (B.out.trans (hb.mono B.out.size)); (try replace L := Lib.hid (L.out.below hb)); (try replace X := Lib.hid (X.out.on hb)); (try replace X2 := Lib.hid (X2.out.on hb)); (try replace Y := Lib.hid (Y.out.below hb)); (try replace Y2 := Lib.hid (Y2.out.below hb)); (try replace TT := Lib.hid (TT.out.below hb)); (try replace M := Lib.hid (M.out.below hb)); clear hb)
    | (go_at_call 8; (with_reducible refine (few_v a _ HF.out n0 c0 A0 _ _ (HR0.out.below B.out) HL0.out (by omega) HD0.out).mono ?_); rintro e wn ⟨rfl, hb⟩; replace B := Lib.hid (B.out.trans (hb.mono B.out.size)); (try replace L := Lib.hid (L.out.below hb)); (try replace X := Lib.hid (X.out.on hb)); (try replace X2 := Lib.hid (X2.out.on hb)); (try replace Y := Lib.hid (Y.out.below hb)); (try replace Y2 := Lib.hid (Y2.out.below hb)); (try replace TT := Lib.hid (TT.out.below hb)); (try replace M := Lib.hid (M.out.below hb)); clear hb)
    | (go_at_call 8; (with_reducible refine (few_v c _ HG.out n1 c1 A1 _ _ (HR1.out.below B.out) HL1.out (by omega) HD1.out).mono ?_); rintro e wn ⟨rfl, hb⟩; replace B := Lib.hid (B.out.trans (hb.mono B.out.size)); (try replace L := Lib.hid (L.out.below hb)); (try replace X := Lib.hid (X.out.on hb)); (try replace X2 := Lib.hid (X2.out.on hb)); (try replace Y := Lib.hid (Y.out.below hb)); (try replace Y2 := Lib.hid (Y2.out.below hb)); (try replace TT := Lib.hid (TT.out.below hb)); (try replace M := Lib.hid (M.out.below hb)); clear hb)
    | (go_at_call 9; have _g := P1; clear _g; (with_reducible refine (oof_v a n0 c0 A0 _ (HR0.out.below B.out) HL0.out (by omega)).mono ?_); rintro e wn ⟨A4, c4, rfl, h4, hb⟩; replace B := Lib.hid (B.out.trans (hb.mono B.out.size)); (try replace L := Lib.hid (L.out.below hb)); (try replace X := Lib.hid (X.out.on hb)); (try replace X2 := Lib.hid (X2.out.on hb)); (try replace Y := Lib.hid (Y.out.below hb)); (try replace Y2 := Lib.hid (Y2.out.below hb)); (try replace TT := Lib.hid (TT.out.below hb)); (try replace M := Lib.hid (M.out.below hb)); have L := Lib.hid h4; clear h4 P1; clear hb)
    | (go_at_call 10; (with_reducible refine (oput_v a _ he0.out _ hm0.out _ hk0.out n0 _ _ _ _ L.out HL0.out (by omega) (Nat.le_trans Q2.out (by decide))).mono ?_); rintro e wn ⟨A5, c5, rfl, h5, h5c, hb⟩; replace B := Lib.hid (B.out.trans (hb.mono B.out.size)); (try replace L := Lib.hid (L.out.below hb)); (try replace X := Lib.hid (X.out.on hb)); (try replace X2 := Lib.hid (X2.out.on hb)); (try replace Y := Lib.hid (Y.out.below hb)); (try replace Y2 := Lib.hid (Y2.out.below hb)); (try replace TT := Lib.hid (TT.out.below hb)); (try replace M := Lib.hid (M.out.below hb)); have X := Lib.hid h5; clear h5 h5c; clear hb)
    | (go_at_call 11; (with_reducible refine (orput_v a _ he0.out _ hm0.out _ hk0.out n0 _ _ _ _ (HR0.out.below B.out) HL0.out (by omega) (Nat.le_trans Q2.out (by decide))).mono ?_); rintro e wn ⟨A6, c6, rfl, h6, h6c, hb⟩; replace B := Lib.hid (B.out.trans (hb.mono B.out.size)); (try replace L := Lib.hid (L.out.below hb)); (try replace X := Lib.hid (X.out.on hb)); (try replace X2 := Lib.hid (X2.out.on hb)); (try replace Y := Lib.hid (Y.out.below hb)); (try replace Y2 := Lib.hid (Y2.out.below hb)); (try replace TT := Lib.hid (TT.out.below hb)); (try replace M := Lib.hid (M.out.below hb)); have X2 := Lib.hid h6; clear h6 h6c; clear hb)
    | (go_at_call 12; (with_reducible refine (oget_v b lb _ hgb.out n2 c2 A2 _ (HR2.out.on B.out) HB2.out HL2.out (by omega) hc2).mono ?_); rintro e wn ⟨A7, c7, rfl, h7, hb⟩; replace B := Lib.hid (B.out.trans (hb.mono B.out.size)); (try replace L := Lib.hid (L.out.below hb)); (try replace X := Lib.hid (X.out.on hb)); (try replace X2 := Lib.hid (X2.out.on hb)); (try replace Y := Lib.hid (Y.out.below hb)); (try replace Y2 := Lib.hid (Y2.out.below hb)); (try replace TT := Lib.hid (TT.out.below hb)); (try replace M := Lib.hid (M.out.below hb)); have Y := Lib.hid (h7.read.mono (G := fun _ => True) (fun _ _ _ => trivial)); rw [hnb.out]; clear h7; clear hb)
    | (go_at_call 13; (with_reducible refine (orget_v b lb _ hgb.out n2 c2 A2 _ (HR2.out.on B.out) HB2.out HL2.out (by omega) hc2).mono ?_); rintro e wn ⟨A8, c8, rfl, h8, hb⟩; replace B := Lib.hid (B.out.trans (hb.mono B.out.size)); (try replace L := Lib.hid (L.out.below hb)); (try replace X := Lib.hid (X.out.on hb)); (try replace X2 := Lib.hid (X2.out.on hb)); (try replace Y := Lib.hid (Y.out.below hb)); (try replace Y2 := Lib.hid (Y2.out.below hb)); (try replace TT := Lib.hid (TT.out.below hb)); (try replace M := Lib.hid (M.out.below hb)); have Y2 := Lib.hid h8; rw [hnb.out]; clear h8; clear hb)
    | (go_at_call 14; (with_reducible refine (equal_yes m0 m0 k0 k0 _ _ _ _ _ X.out X2.out hk0.out hk0.out (by omega) rfl).mono ?_); rintro e wn ⟨rfl, hb⟩; replace B := Lib.hid (B.out.trans (hb.mono B.out.size)); (try replace L := Lib.hid (L.out.below hb)); (try replace X := Lib.hid (X.out.on hb)); (try replace X2 := Lib.hid (X2.out.on hb)); (try replace Y := Lib.hid (Y.out.below hb)); (try replace Y2 := Lib.hid (Y2.out.below hb)); (try replace TT := Lib.hid (TT.out.below hb)); (try replace M := Lib.hid (M.out.below hb)); clear X X2; clear hb)
    | (go_at_call 16; (with_reducible refine (oto_v lb nb _ _ _ Y.out hnb.out (by omega)).mono ?_); rintro e wn ⟨A9, c9, rfl, h9, hb⟩; replace B := Lib.hid (B.out.trans (hb.mono B.out.size)); (try replace L := Lib.hid (L.out.below hb)); (try replace X := Lib.hid (X.out.on hb)); (try replace X2 := Lib.hid (X2.out.on hb)); (try replace Y := Lib.hid (Y.out.below hb)); (try replace Y2 := Lib.hid (Y2.out.below hb)); (try replace TT := Lib.hid (TT.out.below hb)); (try replace M := Lib.hid (M.out.below hb)); have TT := Lib.hid h9; clear h9 Y; clear hb)
    | (go_at_call 15; (with_reducible refine (orsame_v lb lb _ (decide_eq_true rfl) nb nb _ _ _ _ _ _ _ TT.out Y2.out hnb.out hnb.out (by omega) (Nat.le_trans SB.out (by decide))).mono ?_); rintro e wn ⟨rfl, hb⟩; replace B := Lib.hid (B.out.trans (hb.mono B.out.size)); (try replace L := Lib.hid (L.out.below hb)); (try replace X := Lib.hid (X.out.on hb)); (try replace X2 := Lib.hid (X2.out.on hb)); (try replace Y := Lib.hid (Y.out.below hb)); (try replace Y2 := Lib.hid (Y2.out.below hb)); (try replace TT := Lib.hid (TT.out.below hb)); (try replace M := Lib.hid (M.out.below hb)); clear TT Y2; clear hb)
    | (go_at_call 9; (with_reducible refine (oof_v c n1 c1 A1 _ (HR1.out.below B.out) HL1.out (by omega)).mono ?_); rintro e wn ⟨A10, c10, rfl, h10, hb⟩; replace B := Lib.hid (B.out.trans (hb.mono B.out.size)); (try replace L := Lib.hid (L.out.below hb)); (try replace X := Lib.hid (X.out.on hb)); (try replace X2 := Lib.hid (X2.out.on hb)); (try replace Y := Lib.hid (Y.out.below hb)); (try replace Y2 := Lib.hid (Y2.out.below hb)); (try replace TT := Lib.hid (TT.out.below hb)); (try replace M := Lib.hid (M.out.below hb)); have M := Lib.hid h10; clear h10; clear hb)
    | (go_at_call 17; (with_reducible refine (osame_v a c _ hq.out n0 n1 _ _ _ _ _ _ _ L.out M.out HO0.out HO1.out HL0.out HL1.out (by omega)).mono ?_); rintro e wn ⟨rfl, hb⟩; replace B := Lib.hid (B.out.trans (hb.mono B.out.size)); (try replace L := Lib.hid (L.out.below hb)); (try replace X := Lib.hid (X.out.on hb)); (try replace X2 := Lib.hid (X2.out.on hb)); (try replace Y := Lib.hid (Y.out.below hb)); (try replace Y2 := Lib.hid (Y2.out.below hb)); (try replace TT := Lib.hid (TT.out.below hb)); (try replace M := Lib.hid (M.out.below hb)); clear M; clear hb)
    | (go_at_call 15; (with_reducible refine (orsame_v a c _ hq.out n0 n1 _ _ _ _ _ _ _ (HR0.out.below B.out) (HR1.out.below B.out) HL0.out HL1.out (by omega) (Nat.le_trans Q2.out (by decide))).mono ?_); rintro e wn ⟨rfl, hb⟩; replace B := Lib.hid (B.out.trans (hb.mono B.out.size)); (try replace L := Lib.hid (L.out.below hb)); (try replace X := Lib.hid (X.out.on hb)); (try replace X2 := Lib.hid (X2.out.on hb)); (try replace Y := Lib.hid (Y.out.below hb)); (try replace Y2 := Lib.hid (Y2.out.below hb)); (try replace TT := Lib.hid (TT.out.below hb)); (try replace M := Lib.hid (M.out.below hb)); clear hb))
  obtain ⟨wl, hwl⟩ : ∃ wl, wl = wn := ⟨_, rfl⟩
  subst hwl
  have BL := Lib.hid B.out
  have LL := Lib.hid L.out
  clear B L
  go_loopw [18, 19, 97] (fun s f i wr => ∃ (k z : Nat) (fo : Option (Nat × List Nat)), k ≤ n0 ∧ i = .int .i64 k ∧ s = .int .i64 z ∧ Hid (2 * k + datB (a.take k) = z) ∧ Hid ((a.take k).find? p = fo) ∧ Orw shO 42 (fun _ => True) wl.heap.size wr f fo.toList ∧ Below wl.heap.size wl wr) (fun _ _ i _ => n0 - (intOf i).toNat)
  case atStart => exact ⟨0, 0, none, Nat.zero_le _, rfl, rfl, Lib.hid rfl, Lib.hid rfl, Orw.nil _ _ _ _ _, Below.refl _ _⟩
  case round =>
    obtain ⟨k, z, fo, hk, rfl, rfl, hz, hfo, hown, hbel⟩ := hrel
    have hz1 : z ≤ 1120 := by have := hz.out; have := dat_take a k; have := Q2.out; omega
    obtain ⟨Af, cf, rfl, hfc, -, hfr⟩ := hown.slice
    by_cases hlt : k < n0
    · obtain ⟨b3, o3, x, A3, c3, rfl, hb3, hx, h3, h4, h5, h6⟩ := ((HR0.out.mono (G := fun b => b < wl.heap.size) (fun b hb _ => Nat.lt_of_lt_of_le hb BL.out.size)).below (BL.out.trans (hbel.mono BL.out.size))).opt (k := k) (by rw [HL0.out]; exact hlt)
      have HX := Lib.hid hx
      have hxl : x.2.length ≤ 1000 := Nat.le_trans (dat_le hx) Q2.out
      obtain ⟨y, hy⟩ : ∃ y, Hid (2 + x.2.length = y) := ⟨_, Lib.hid rfl⟩
      have hy2 : y ≤ 1002 := by have := hy.out; omega
      have i5 : (2 : Int) + (x.2.length : Int) = (y : Int) := by have := hy.out; omega
      have HZ := Lib.hid (show 2 * (k + 1) + datB (a.take (k + 1)) = z + y by rw [dat_at hx, ← hz.out, ← hy.out]; omega)
      have i1 : (0 : Int) ≤ k := by omega
      have i2 : (k : Int) < n0 := by omega
      obtain ⟨wk, hwk⟩ : ∃ wk, wk = wr.alloc (.cells #[.int .u8 (x.1 : Int), .slice A3 x.2.length c3] 42) := ⟨_, rfl⟩
      have hbe : Below wr.heap.size wr wk := by rw [hwk]; exact (Below.refl _ _).alloc (Nat.le_refl _) _
      have HS := Lib.hid (show wk.heap.size = wr.heap.size + 1 by rw [hwk, World.size_alloc])
      have HWK := Lib.hid hwk
      have H6 := Lib.hid (h6.keep (.of_below hbe))
      have OW := Lib.hid (hown.below hbe)
      have BE := Lib.hid (hbel.trans (hbe.mono hbel.size))
      have HFS := Lib.hid (find_succ (p := p) hx)
      clear hx h6 hwk hown hbel hbe hfr
      by_cases ht : x.1 = t
      · have k1 : ((x.1 : Int) == (t : Int)) = true := by rw [ht]; simp
        have hpx : p x = true := by rw [HP.out]; exact decide_eq_true ht
        clear ht
        cases fo with
        | none =>
          have HF1 := Lib.hid (show (a.take (k + 1)).find? p = some x by rw [HFS.out, hfo.out, hpx]; rfl)
          have k2 : ((List.length (Option.toList (none : Option (Nat × List Nat))) : Nat) : Int) = 0 := rfl
          rw [show (Option.toList (none : Option (Nat × List Nat))).length = 0 from rfl] at *
          clear hpx HFS hfo k2
          have BE2 := Lib.hid (BE.out.alloc BE.out.size (.cells #[.int .u8 (x.1 : Int), .slice A3 x.2.length c3] 42))
          go_wp2_with (at_builtin; rw [← HWK.out, ← HS.out]; refine list_rows shO rfl _ _ _ rfl 42 ity (.agg #[.int .u8 0, .slice none 0 0]) 32 Try.underlying22 gi gz0 gz1 gz2 rfl (by decide) (fun _ => True) _ _ _ 0 [] rfl (OW.out.below ((Below.refl _ _).alloc (Nat.le_refl _) _)) rfl _ 1 1 _ rfl (lito _ rfl h5 H6.out).read rfl (fun b _ hb => ⟨trivial, hb.elim (fun h e => absurd (OW.out.lt e).1 (Nat.not_le.2 h)) (fun h e => Nat.lt_irrefl _ (Nat.lt_of_lt_of_le (OW.out.lt e).2 h))⟩) (by unfold maxLen; omega) (by omega) BE2.out.size ?_; intro v7 w7 ho7 hg7 hm7; rw [List.nil_append] at ho7; obtain ⟨A17, c17, hv17, -⟩ := ho7.slice; have R2 := Lib.hid (BE2.out.grown hg7 BE2.out.size (fun g hg => (OW.out.lt hg).1)); subst hv17; clear hg7 hm7; replace ho7 := Lib.hid ho7; rw [show [x].length = 1 from rfl])
          go_roundw
          case rel => exact ⟨k + 1, z + y, some x, by omega, by go_num, by go_num, HZ, HF1, ho7.out, R2.out⟩
          case measure => simp [intOf]; omega
        | some o =>
          have HF1 := Lib.hid (show (a.take (k + 1)).find? p = some o by rw [HFS.out, hfo.out]; rfl)
          rw [show (Option.toList (some o)).length = 1 from rfl] at *
          clear hpx HFS hfo
          go_wp2_with fail
          go_roundw
          case rel => exact ⟨k + 1, z + y, some o, by omega, by go_num, by go_num, HZ, HF1, HWK.out ▸ OW.out, HWK.out ▸ BE.out⟩
          case measure => simp [intOf]; omega
      · have k1 : ((x.1 : Int) == (t : Int)) = false := by simp; omega
        have hpx : p x = false := by rw [HP.out]; exact decide_eq_false ht
        have HF1 := Lib.hid (show (a.take (k + 1)).find? p = fo by rw [HFS.out, hfo.out, hpx]; cases fo <;> rfl)
        clear ht hpx HFS hfo
        go_wp2_with fail
        go_roundw
        case rel => exact ⟨k + 1, z + y, fo, by omega, by go_num, by go_num, HZ, HF1, HWK.out ▸ OW.out, HWK.out ▸ BE.out⟩
        case measure => simp [intOf]; omega
    · have he : k = n0 := by omega
      subst he
      have hz2 := hz.out
      have hf2 := hfo.out
      rw [List.take_of_length_le (by rw [HL0.out]; exact Nat.le_refl _)] at hz2 hf2
      have HZ := Lib.hid (show (putB a).length = z by rw [put_len, HL0.out]; exact hz2)
      rw [HP.out] at hf2
      have HF2 := Lib.hid hf2
      have B := Lib.hid (BL.out.trans (hbel.mono BL.out.size))
      have L := Lib.hid (LL.out.below hbel)
      have HFR := Lib.hid (hfr.mono (G := fun _ => True) (fun _ _ _ => trivial))
      clear hz2 hf2 hz hfo BL LL hown hbel hfr
      cases fo with
      | none =>
        rw [show (Option.toList (none : Option (Nat × List Nat))).length = 0 from rfl] at *
        go_wp2_with (first
          | (go_at_call 18; (with_reducible refine (ofind_none a t k _ _ _ _ L.out HL0.out (by omega) (Nat.le_trans Q2.out (by decide)) HF2.out).mono ?_); rintro e wn ⟨rfl, hb⟩; replace B := Lib.hid (B.out.trans (hb.mono B.out.size)); (try replace L := Lib.hid (L.out.below hb)); (try replace HFR := Lib.hid (HFR.out.below hb)); clear hb; have hb := (Below.refl wn.heap.size wn).alloc (Nat.le_refl _) (.cells #[.int .u8 0, .slice none 0 0] 43); replace B := Lib.hid (B.out.trans (hb.mono B.out.size)); replace L := Lib.hid (L.out.below hb); replace HFR := Lib.hid (HFR.out.below hb); clear hb)
          | (go_at_call 19; (with_reducible refine (osz_v a z k _ HZ.out _ _ _ L.out HL0.out (by omega) (Nat.le_trans Q2.out (by decide))).mono ?_); rintro e wn ⟨rfl, hb⟩; replace B := Lib.hid (B.out.trans (hb.mono B.out.size)); (try replace L := Lib.hid (L.out.below hb)); (try replace HFR := Lib.hid (HFR.out.below hb)); clear hb))
        go_ret
        exact ⟨rfl, B.out⟩
      | some o =>
        obtain ⟨ko, hko⟩ : ∃ k, Hid (o.2.length = k) := ⟨_, Lib.hid rfl⟩
        have hot := List.find?_some HF2.out
        have hot2 : o.1 = t := of_decide_eq_true hot
        have hko2 : ko ≤ 1000 := by
          obtain ⟨i, hi⟩ := List.mem_iff_getElem?.1 (List.mem_of_find?_eq_some HF2.out)
          have := dat_le hi
          have := Q2.out
          rw [← hko.out]
          omega
        have HOT := Lib.hid (show [(t, o.2)] = [o] by rw [← hot2])
        rw [show (Option.toList (some o)).length = 1 from rfl] at *
        rw [show (Option.toList (some o)) = [o] from rfl] at HFR
        clear hot hot2
        go_wp2_with (first
          | (go_at_call 18; (with_reducible refine (ofind_some a o t k _ _ _ _ L.out HL0.out (by omega) (Nat.le_trans Q2.out (by decide)) HF2.out ko hko.out).mono ?_); rintro e wn ⟨A11, c11, rfl, h11, hb⟩; replace B := Lib.hid (B.out.trans (hb.mono B.out.size)); (try replace L := Lib.hid (L.out.below hb)); (try replace HFR := Lib.hid (HFR.out.below hb)); have HD := Rd.own h11; have HCP := own_cap h11; clear hb h11; have hb := (Below.refl wn.heap.size wn).alloc (Nat.le_refl _) (.cells #[.int .u8 (t : Int), .slice A11 ko c11] 43); replace B := Lib.hid (B.out.trans (hb.mono B.out.size)); replace L := Lib.hid (L.out.below hb); replace HFR := Lib.hid (HFR.out.below hb); obtain ⟨wk, hwk⟩ : ∃ wk, wk = wn.alloc (.cells #[.int .u8 (t : Int), .slice A11 ko c11] 43) := ⟨_, rfl⟩; rw [← hwk] at hb B L HFR; have HS := Lib.hid (show wk.heap.size = wn.heap.size + 1 by rw [hwk, World.size_alloc]); have HWK := Lib.hid hwk; replace HD := Lib.hid ((HD.on hb).rdF (F := fun _ => True) (fun _ _ => trivial) (Nat.le_refl _)); clear hb hwk)
          | (go_at_call 15; rw [← HWK.out, ← HS.out]; (with_reducible refine (orsame_v [(t, o.2)] [o] _ (decide_eq_true HOT.out) 1 1 _ _ _ _ _ _ _ (lito wk hko.out HCP HD.out).read (HFR.out.below ((Below.refl wk.heap.size wk).alloc (Nat.le_refl _) _)) rfl rfl (by omega) (by simp only [datB, List.map_cons, List.map_nil, List.sum_cons, List.sum_nil]; rw [hko.out]; omega)).mono ?_); rintro e wn ⟨rfl, hb⟩; replace hb := ((Below.refl wk.heap.size wk).alloc (Nat.le_refl _) _).trans (hb.mono (by simp)); replace B := Lib.hid (B.out.trans (hb.mono B.out.size)); replace L := Lib.hid (L.out.below hb); clear hb)
          | (go_at_call 19; (with_reducible refine (osz_v a z k _ HZ.out _ _ _ L.out HL0.out (by omega) (Nat.le_trans Q2.out (by decide))).mono ?_); rintro e wn ⟨rfl, hb⟩; replace B := Lib.hid (B.out.trans (hb.mono B.out.size)); (try replace L := Lib.hid (L.out.below hb)); (try replace HFR := Lib.hid (HFR.out.below hb)); clear hb))
        go_ret
        exact ⟨rfl, B.out⟩
end Go.Proofs.Ythcigbhjdocdnaa
