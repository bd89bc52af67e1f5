
/-
  What the document's Glue of layer 23 answers. Condition: at most 2^38 pieces, with at most 2^38 octets.
-/
import Derived.Test.YtdeabomcmbgepaaDoorFrgU
import Derived.Test.YtdeabomcmbgepaaDoorFrgD
namespace Go.Proofs.YtdeabomcmbgepaaDoor
open Go.RowKit

/-- What is known of the numbers so far: none read; or the last, and what is left to read. -/
def FrJ (s : Bool) (l : List Pc) (k : Nat) : Prop := k = 0 ∨ ∃ j pr y, k = j + 1 ∧ l[j]? = some pr ∧ pr.n = ((y : Nat) : Int) ∧ y < frmod s ∧ frfollow s l = frfoR s ((y + 1) % frmod s) (l.drop k)
theorem frj_head {l : List Pc} {p : Pc} (h : l[0]? = some p) : l.headD pc0 = p := by cases l with
  | nil => simp at h
  | cons a t => simpa using h
theorem frj_bad {s : Bool} {l : List Pc} {k : Nat} {p : Pc} (h : FrJ s l k) (hp : l[k]? = some p) (hr : frright s p.n = false) : frfollow s l = false := by
  rcases h with rfl | ⟨j, pr, y, rfl, h1, h2, h3, h4⟩
  · unfold frfollow
    rw [frj_head hp, hr]
    rfl
  · rw [h4, frfo_step hp]
    by_cases c : p.n = (((y + 1) % frmod s : Nat) : Int)
    · exfalso
      have hm : (y + 1) % frmod s < frmod s := Nat.mod_lt _ (frmod_pos s)
      have : frright s p.n = true := frright_iff.2 ⟨by omega, by omega⟩
      rw [this] at hr
      cases hr
    · rw [decide_eq_false c]; rfl
theorem frj_ne {s : Bool} {l : List Pc} {j y : Nat} {p : Pc} (h4 : frfollow s l = frfoR s ((y + 1) % frmod s) (l.drop (j + 1))) (hp : l[j + 1]? = some p) (c : ¬ p.n = (((y + 1) % frmod s : Nat) : Int)) : frfollow s l = false := by
  rw [h4, frfo_step hp, decide_eq_false c]; rfl
theorem frj_eq {s : Bool} {l : List Pc} {j y : Nat} {p : Pc} (h4 : frfollow s l = frfoR s ((y + 1) % frmod s) (l.drop (j + 1))) (hp : l[j + 1]? = some p) (c : p.n = (((y + 1) % frmod s : Nat) : Int)) : FrJ s l (j + 1 + 1) :=
  .inr ⟨j + 1, p, (y + 1) % frmod s, rfl, hp, c, Nat.mod_lt _ (frmod_pos s), by rw [h4, frfo_step hp, decide_eq_true c]; rfl⟩
theorem frj_one {s : Bool} {l : List Pc} {v : Nat} {p : Pc} (hp : l[0]? = some p) (hv : p.n = (v : Int)) (hr : v < frmod s) : FrJ s l 1 :=
  .inr ⟨0, p, v, rfl, hp, hv, hr, by
    have h1 := frfo_step (s := s) (x := v) hp
    unfold frfollow
    rw [frj_head hp, hv, frright_iff.2 ⟨by omega, by omega⟩]
    rw [List.drop_zero] at h1
    rw [Int.toNat_natCast, h1, decide_eq_true hv]
    rfl⟩
theorem frj_end {s : Bool} {l : List Pc} {n : Nat} (h : FrJ s l n) (hn : l.length = n) (h0 : 0 < n) : frfollow s l = true := by
  rcases h with rfl | ⟨j, pr, y, h0, h1, h2, h3, h4⟩
  · omega
  · rw [h4, List.drop_of_length_le (by omega)]; rfl
theorem frq_rem (y M x : Nat) (h : (y + 1) % M = x) (hy : y < 16777216) : IntKind.i64.wrap ((y : Int) + 1) = (y : Int) + 1 ∧ ((y : Int) + 1).tmod (M : Int) = (x : Int) := by
  refine ⟨IntWalk.i64_in _ (by omega), ?_⟩
  have := frd_rem (y + 1) M x h
  rw [← this]
  rfl
theorem frq_own0 (w : World) (B : Nat) (hB : B ≤ w.heap.size) : (w.alloc (.cells #[] 5)).ownsRow B 5 1 (.slice (some ⟨w.heap.size, 0, none⟩) 0 0) 0 (bvs []) :=
  ⟨rfl, .inr ⟨w.heap.size, 0, #[], rfl, hB, heap_alloc_new w _, Nat.le_refl _, by unfold maxLen; omega, rfl, rfl⟩⟩

set_option maxHeartbeats 2000000 in
theorem frrglue_any (s : Bool) (l : List Pc) (n c : Nat) (A : Option Addr) (F : Nat → Prop) (w : World) (h : Rws shF F w A l) (hl : l.length = n) (hn : n ≤ 274877906944) (hd : frdat l ≤ 274877906944) (q z : Nat) (hq : frglueE s l = q) (hz : (frglueA s l).length = z) :
    Calls Tryd.prog 20 #[.bool s, .slice A n c] w fun e w' => ∃ A' c', e = .returned (.tuple #[.slice A' z c', .int .i64 (q : Int)]) ∧ New w w' A' c' z (frglueA s l) := by
  obtain ⟨i0, hi, hz0, hz1, hz2⟩ := info_parts byte_info
  have HL := Lib.hid hl
  have HZ := Lib.hid hz
  by_cases h0n : n = 0
  · subst h0n
    have hq9 : frglueE s l = 13 := by unfold frglueE; rw [if_pos hl]
    have hq8 : q = 13 := by rw [← hq, hq9]
    have E1 : frglueA s l = [] := by unfold frglueA; rw [if_neg (by omega)]
    have hz8 : z = 0 := by rw [← hz, E1]; rfl
    subst hq8 hz8
    have EE := Lib.hid E1
    clear hq hz hq9 E1
    go_enter Tryd.func20, Tryd.ntmps20
    go_wp2_with fail
    go_ret2
    exact ⟨none, 0, rfl, by rw [EE.out]; exact ⟨rfl, ⟨rfl, .inl ⟨rfl, rfl⟩⟩, Rd.nil, Below.refl _ _⟩⟩
  · have j0 : ((n : Int) == 0) = false := by rw [beq_eq_false_iff_ne]; omega
    have h1n := Lib.hid (Nat.pos_of_ne_zero h0n)
    have Q0 := Lib.hid (show q = if frwhole l then (if frfollow s l then 0 else 14) else 4 by rw [← hq]; unfold frglueE; rw [if_neg (by omega)])
    have FZ := Lib.hid (show q ≠ 0 → z = 0 from fun h0 => by
      have e : frglueA s l = [] := by unfold frglueA; rw [if_neg (by rw [hq]; exact h0)]
      rw [← hz, e]; rfl)
    have FIN := Lib.hid (show ∀ W, q ≠ 0 → Below w.heap.size w W → New w W none 0 0 (frglueA s l) from fun W h0 hb => by
      have e : frglueA s l = [] := by unfold frglueA; rw [if_neg (by rw [hq]; exact h0)]
      rw [e]
      exact ⟨rfl, ⟨rfl, .inl ⟨rfl, rfl⟩⟩, Rd.nil, hb⟩)
    have GA := Lib.hid (show q = 0 → frglueA s l = frjoin l from fun h0 => by unfold frglueA; rw [if_pos (by rw [hq]; exact h0)])
    have HLE := Lib.hid (frjoin_le l)
    have HD := Lib.hid (show (frjoin l).length ≤ 274877906944 by rw [frjoin_len]; exact hd)
    have H0 := Lib.hid (show frwhR n 0 (l.drop 0) = frwhole l by rw [List.drop_zero, ← hl]; rfl)
    obtain ⟨M, hM0⟩ : ∃ M, frmod s = M := ⟨_, rfl⟩
    have HM := Lib.hid (And.intro hM0 (show 0 < M ∧ M ≤ 16777216 by rw [← hM0]; exact ⟨frmod_pos s, by cases s <;> simp [frmod]⟩))
    have hmod := fun W => frrmod_q s W
    rw [hM0] at hmod
    clear hq hz hl hd h0n hM0
    go_enter Tryd.func20, Tryd.ntmps20
    go_wp2_with fail
    go_loopw [6] (fun i wr => ∃ k : Nat, k ≤ n ∧ i = .int .i64 k ∧ Hid (frwhR n k (l.drop k) = frwhole l) ∧ Below w.heap.size w wr) (fun i _ => n - (intOf i).toNat)
    case atStart => exact ⟨0, Nat.zero_le _, rfl, H0, Below.refl _ _⟩
    case round =>
      obtain ⟨k, hk, rfl, hR, hbel⟩ := hrel
      by_cases hlt : k < n
      · obtain ⟨b, o, p, A3, c3, rfl, hb3, hx, h0, h1, h2, h3, h5, h6⟩ := (h.below hbel).pc (k := k) (by rw [HL.out]; exact hlt)
        have HS := Lib.hid (frwh_step (n := n) hx)
        obtain ⟨t0, ht0⟩ : ∃ t0, Hid (decide (k = 0) = t0) := ⟨_, Lib.hid rfl⟩
        obtain ⟨t1, ht1⟩ : ∃ t1, Hid (decide (k + 1 = n) = t1) := ⟨_, Lib.hid rfl⟩
        have i0' : ((k : Int) == 0) = t0 := by rw [← ht0.out, Bool.eq_iff_iff]; simp
        have i9 : ((k : Int) == (n : Int) - 1) = t1 := by rw [← ht1.out, Bool.eq_iff_iff]; simp; omega
        have HB := Lib.hid (show frwhB n k p = ((p.b == t0) && (p.e == t1)) by unfold frwhB; rw [ht0.out, ht1.out])
        have i1 : (0 : Int) ≤ k := by omega
        have i2 : (k : Int) < n := by omega
        clear hx h6
        by_cases c0 : p.b = t0
        · have j0 : (p.b == t0) = true := by rw [c0]; cases t0 <;> rfl
          by_cases c1 : p.e = t1
          · have j1 : (p.e == t1) = true := by rw [c1]; cases t1 <;> rfl
            have HR := Lib.hid (show frwhR n (k + 1) (l.drop (k + 1)) = frwhole l by rw [← hR.out, HS.out, HB.out, j0, j1]; rfl)
            clear c0 c1
            go_wp2_with fail
            go_roundw
            case rel => exact ⟨k + 1, by omega, by go_num, HR, hbel⟩
            case measure => simp [intOf]; omega
          · have j1 : (p.e == t1) = false := by rw [beq_eq_false_iff_ne]; exact c1
            have E : frwhole l = false := by rw [← hR.out, HS.out, HB.out, j0, j1]; rfl
            have E4 : q = 4 := by rw [Q0.out, E]; rfl
            clear c0 c1 E
            subst E4
            obtain rfl : z = 0 := FZ.out (by decide)
            go_wp2_with fail
            go_ret2
            exact ⟨none, 0, rfl, FIN.out _ (by decide) hbel⟩
        · have j0 : (p.b == t0) = false := by rw [beq_eq_false_iff_ne]; exact c0
          have E : frwhole l = false := by rw [← hR.out, HS.out, HB.out, j0]; rfl
          have E4 : q = 4 := by rw [Q0.out, E]; rfl
          clear c0 E
          subst E4
          obtain rfl : z = 0 := FZ.out (by decide)
          go_wp2_with fail
          go_ret2
          exact ⟨none, 0, rfl, FIN.out _ (by decide) hbel⟩
      · have he : n = k := by omega
        subst he
        have E := Lib.hid (show frwhole l = true by rw [← hR.out, List.drop_of_length_le (by rw [HL.out]; exact Nat.le_refl _)]; rfl)
        replace Q0 := Lib.hid (show q = if frfollow s l then 0 else 14 by rw [Q0.out, E.out]; rfl)
        have OWN := Lib.hid (frq_own0 wr w.heap.size hbel.size)
        have BEL := Lib.hid (hbel.alloc hbel.size (.cells #[] 5))
        clear hR hlt hk
        go_wp2_with fail
        go_loopw [7, 8] (fun v i wr => ∃ k m : Nat, k ≤ n ∧ i = .int .i64 k ∧ Hid (FrJ s l k) ∧ wr.ownsRow w.heap.size 5 1 v m (bvs (frjoin (l.take k))) ∧ Below w.heap.size w wr) (fun _ i _ => n - (intOf i).toNat)
        case atStart => exact ⟨0, 0, Nat.zero_le _, rfl, Lib.hid (.inl rfl), OWN.out, BEL.out⟩
        case round =>
          obtain ⟨k, m, hk, rfl, hJ, hown, hbel2⟩ := hrel
          by_cases hlt : k < n
          · obtain ⟨b, o, p, A3, c3, rfl, hb3, hx, h0, h1, h2, h3, h5, h6⟩ := (h.below hbel2).pc (k := k) (by rw [HL.out]; exact hlt)
            have i1 : (0 : Int) ≤ k := by omega
            have i2 : (k : Int) < n := by omega
            have HX := Lib.hid hx
            have R6 := Lib.hid h6.rd
            have OW := Lib.hid hown
            have BW := Lib.hid hbel2
            clear h6 hx hown hbel2
            cases hr : frright s p.n
            · have E14 : q = 14 := by rw [Q0.out, frj_bad hJ.out HX.out hr]; rfl
              subst E14
              obtain rfl : z = 0 := FZ.out (by decide)
              by_cases hx0 : p.n < 0
              · clear hr
                go_upto_region 12 with fail
                go_quiet (fail)
                all_goals go_wp2_with fail
                go_ret2
                exact ⟨none, 0, rfl, FIN.out _ (by decide) (below_drewN BW.out _)⟩
              · have hx1 : (M : Int) ≤ p.n := by rcases frright_no hr with h | h; exact absurd h hx0; rw [HM.out.1] at h; exact h
                have hx2 : ¬ p.n < 0 := hx0
                clear hr hx0
                go_upto_region 12 with fail
                go_quiet (first | (go_at_call 26; with_reducible exact Calls.quiet_of (hmod _)))
                all_goals go_wp2_with fail
                go_ret2
                exact ⟨none, 0, rfl, FIN.out _ (by decide) (below_drewN BW.out _)⟩
            · obtain ⟨g0, g1⟩ := frright_iff.1 hr
              obtain ⟨v, hv⟩ := Int.eq_ofNat_of_zero_le g0
              rw [HM.out.1] at g1
              rw [hv] at h2 g1
              have HV := Lib.hid hv
              have hx2 : ¬ (v : Int) < 0 := by omega
              have hx1 : ¬ (M : Int) ≤ (v : Int) := by omega
              have HVM := Lib.hid (show v < frmod s by rw [HM.out.1]; omega)
              clear hr g0 g1 hv
              have TK := Lib.hid (frjoin_take HX.out)
              rcases Nat.eq_zero_or_pos k with hk0 | hk0
              · have J1 := Lib.hid (show FrJ s l (k + 1) by rw [hk0]; exact frj_one (by rw [← hk0]; exact HX.out) HV.out HVM.out)
                have i5 : ¬ (0 : Int) < (k : Int) := by omega
                have i6 : ¬ 0 < k := by omega
                clear hk0
                go_upto_region 12 with fail
                go_quiet (first | (go_at_call 26; with_reducible exact Calls.quiet_of (hmod _)))
                all_goals
                  go_upto_region 14 with fail
                  with_reducible refine at_worldF (fun W => Hid (W.ownsRow w.heap.size 5 1 u7 m (bvs (frjoin (l.take k)))) ∧ Hid (Below w.heap.size w W) ∧ Hid (W.cell? ⟨b, o + k * 4 + 3, none⟩ = some (.slice A3 p.d.length c3)) ∧ Hid (Rd W W.heap.size A3 p.d)) ⟨Lib.hid (own_below OW.out (below_drewN (Below.refl _ _) _)), Lib.hid (below_drewN BW.out _), Lib.hid (((below_drewN (Below.refl _ _) _).cell (p := ⟨b, o + k * 4 + 3, none⟩) hb3).trans h3), Lib.hid (R6.out.on (below_drewN (Below.refl _ _) _))⟩ ?_
                  clear OW BW R6 h0 h1 h2 h3 hb3
                  rintro w14 ⟨OW, BW, h3, R6⟩
                  have HE := Lib.hid (show bvs (frjoin (l.take (k + 1))) = bvs (frjoin (l.take k)) ++ bvs p.d by rw [TK.out, bvs_app])
                  have hm1 := OW.out.1
                  rw [bvs_len] at hm1
                  have hq2 : m + p.d.length ≤ 1099511627776 := by
                    have h1 := HLE.out (k + 1)
                    rw [TK.out, List.length_append] at h1
                    have := HD.out
                    omega
                  have h3 := h3.out
                  clear hm1
                  go_wp2_with (at_builtin; refine list_mv rfl _ _ 22 rfl 5 i0 (.int .u8 0) 1 1 Tryd.underlying22 hi hz0 hz1 hz2 rfl (by decide) w.heap.size _ _ _ rfl OW.out A3 p.d.length c3 (bvs p.d) rfl (rd_nil R6.out) (by rw [bvs_len]; omega) (rd_news R6.out) (bvs_one p.d) (by unfold maxLen; omega) (by omega) BW.out.size ?_; intro v' w3 hown3 hgrow3 hmv3)
                  have R := hown3
                  rw [← HE.out] at R
                  have R2 := BW.out.grown hgrow3 BW.out.size (fun g hg => (OW.out.lt g hg).1)
                  go_roundw
                  case rel => exact ⟨k + 1, m + p.d.length, by omega, by go_num, J1, R, R2⟩
                  case measure => simp [intOf]; omega
              · obtain ⟨j, pr, y, hkj, hpr, hpy, hyM, hfo⟩ := hJ.out.resolve_left (by omega)
                obtain ⟨b', o', pr', A4, c4, e', hb4, hx4, -, -, g2, -, -, -⟩ := (h.below BW.out).pc (k := j) (by rw [HL.out]; omega)
                injection e' with e'
                injection e' with e1 e2
                subst e1; subst e2
                rw [hpr] at hx4
                injection hx4 with hx4
                subst hx4
                rw [hpy] at g2
                rw [HM.out.1] at hyM hfo
                obtain ⟨x, hx'⟩ : ∃ x, (y + 1) % M = x := ⟨_, rfl⟩
                obtain ⟨d1, d2⟩ := frq_rem y M x hx' (Nat.lt_of_lt_of_le hyM HM.out.2.2)
                have i5 : (0 : Int) < (k : Int) := by omega
                have i6 : 0 < k := hk0
                have i7 : (0 : Int) ≤ (j : Int) := by omega
                have i8 : (j : Int) < (n : Int) := by omega
                have d3 : IntKind.i64.wrap ((k : Int) - 1) = (j : Int) := by rw [hkj]; exact (congrArg _ (by omega)).trans (IntWalk.i64_in _ (by omega))
                have d4 : ¬ M = 0 := by have := HM.out.2.1; omega
                have HFO := Lib.hid (show frfollow s l = frfoR s ((y + 1) % frmod s) (l.drop (j + 1)) by rw [HM.out.1, ← hkj]; exact hfo)
                have HXJ := Lib.hid (show l[j + 1]? = some p by rw [← hkj]; exact HX.out)
                have HXX := Lib.hid (show (y + 1) % frmod s = x by rw [HM.out.1]; exact hx')
                have HKJ := Lib.hid hkj
                by_cases hvx : v = x
                · have d5 : ((v : Int) != (x : Int)) = false := by rw [hvx]; simp
                  have J1 := Lib.hid (show FrJ s l (k + 1) by rw [HKJ.out]; exact frj_eq HFO.out HXJ.out (by rw [HXX.out, HV.out, hvx]))
                  clear hk0 hkj hpr hpy hyM hfo hx' hvx
                  go_upto_region 12 with fail
                  go_quiet (first | (go_at_call 26; with_reducible exact Calls.quiet_of (hmod _)))
                  clear d1 d2 d3 d4 d5 g2
                  all_goals
                    go_upto_region 14 with fail
                    with_reducible refine at_worldF (fun W => Hid (W.ownsRow w.heap.size 5 1 u7 m (bvs (frjoin (l.take k)))) ∧ Hid (Below w.heap.size w W) ∧ Hid (W.cell? ⟨b, o + k * 4 + 3, none⟩ = some (.slice A3 p.d.length c3)) ∧ Hid (Rd W W.heap.size A3 p.d)) ⟨Lib.hid (own_below OW.out (below_drewN (Below.refl _ _) _)), Lib.hid (below_drewN BW.out _), Lib.hid (((below_drewN (Below.refl _ _) _).cell (p := ⟨b, o + k * 4 + 3, none⟩) hb3).trans h3), Lib.hid (R6.out.on (below_drewN (Below.refl _ _) _))⟩ ?_
                    clear OW BW R6 h0 h1 h2 h3 hb3
                    rintro w14 ⟨OW, BW, h3, R6⟩
                    have HE := Lib.hid (show bvs (frjoin (l.take (k + 1))) = bvs (frjoin (l.take k)) ++ bvs p.d by rw [TK.out, bvs_app])
                    have hm1 := OW.out.1
                    rw [bvs_len] at hm1
                    have hq2 : m + p.d.length ≤ 1099511627776 := by
                      have h1 := HLE.out (k + 1)
                      rw [TK.out, List.length_append] at h1
                      have := HD.out
                      omega
                    have h3 := h3.out
                    clear hm1
                    go_wp2_with (at_builtin; refine list_mv rfl _ _ 22 rfl 5 i0 (.int .u8 0) 1 1 Tryd.underlying22 hi hz0 hz1 hz2 rfl (by decide) w.heap.size _ _ _ rfl OW.out A3 p.d.length c3 (bvs p.d) rfl (rd_nil R6.out) (by rw [bvs_len]; omega) (rd_news R6.out) (bvs_one p.d) (by unfold maxLen; omega) (by omega) BW.out.size ?_; intro v' w3 hown3 hgrow3 hmv3)
                    have R := hown3
                    rw [← HE.out] at R
                    have R2 := BW.out.grown hgrow3 BW.out.size (fun g hg => (OW.out.lt g hg).1)
                    go_roundw
                    case rel => exact ⟨k + 1, m + p.d.length, by omega, by go_num, J1, R, R2⟩
                    case measure => simp [intOf]; omega
                · have d5 : ((v : Int) != (x : Int)) = true := by rw [bne_iff_ne]; omega
                  have E14 : q = 14 := by rw [Q0.out, frj_ne HFO.out HXJ.out (by rw [HXX.out, HV.out]; omega)]; rfl
                  subst E14
                  obtain rfl : z = 0 := FZ.out (by decide)
                  clear hk0 hkj hpr hpy hyM hfo hx' hvx
                  go_upto_region 12 with fail
                  go_quiet (first | (go_at_call 26; with_reducible exact Calls.quiet_of (hmod _)))
                  all_goals go_wp2_with fail
                  go_ret2
                  exact ⟨none, 0, rfl, FIN.out _ (by decide) (below_drewN BW.out _)⟩
          · have he : n = k := by omega
            subst he
            rw [List.take_of_length_le (by rw [HL.out]; exact Nat.le_refl _)] at hown
            have E0 : q = 0 := by rw [Q0.out, frj_end hJ.out HL.out h1n.out]; rfl
            rw [← GA.out E0] at hown
            have hm : m = z := by have := hown.1; rw [bvs_len, HZ.out] at this; omega
            subst hm E0
            go_wp2_with fail
            go_ret2
            obtain ⟨A', c', rfl, hN⟩ := New.mk hown hbel2
            exact ⟨A', c', rfl, hN⟩
end Go.Proofs.YtdeabomcmbgepaaDoor
