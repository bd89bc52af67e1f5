
/-
  What the program's whole, follow, Glue of layer 23 answer. Conditions: the shapes stand as the start-up lays them ('TabF'); at most 2^38 pieces, with at most 2^38 octets.
-/
import Derived.Test.YtdeabomcmbgepaaDoorFrgG
import Derived.Test.YtdeabomcmbgepaaDoorFrgK
namespace Go.Proofs.YtdeabomcmbgepaaDoor
open Go.RowKit

theorem frdrop_at {l : List Pc} {k : Nat} {p : Pc} (h : l[k]? = some p) : l.drop k = p :: l.drop (k + 1) := by
  obtain ⟨h1, h2⟩ := List.getElem?_eq_some_iff.1 h
  rw [← h2, ← List.drop_eq_getElem_cons h1]
theorem frwh_step {l : List Pc} {n k : Nat} {p : Pc} (h : l[k]? = some p) : frwhR n k (l.drop k) = (frwhB n k p && frwhR n (k + 1) (l.drop (k + 1))) := by rw [frdrop_at h, frwhR]
theorem frfo_step {s : Bool} {l : List Pc} {x k : Nat} {p : Pc} (h : l[k]? = some p) : frfoR s x (l.drop k) = (decide (p.n = (x : Int)) && frfoR s ((x + 1) % frmod s) (l.drop (k + 1))) := by rw [frdrop_at h, frfoR]
theorem frjoin_take {l : List Pc} {k : Nat} {p : Pc} (h : l[k]? = some p) : frjoin (l.take (k + 1)) = frjoin (l.take k) ++ p.d := by
  unfold frjoin
  rw [List.take_add_one, h, Option.toList_some, List.map_append, List.flatten_append]
  simp
theorem frjoin_len (l : List Pc) : (frjoin l).length = frdat l := by
  unfold frjoin frdat
  rw [List.length_flatten, List.map_map]
  rfl
theorem frjoin_le (l : List Pc) (k : Nat) : (frjoin (l.take k)).length ≤ (frjoin l).length := by
  have e : frjoin l = frjoin (l.take k) ++ frjoin (l.drop k) := by
    unfold frjoin
    rw [← List.flatten_append, ← List.map_append, List.take_append_drop]
  rw [e, List.length_append]
  omega

set_option maxHeartbeats 2000000 in
theorem frwhole_any (l : List Pc) (n c : Nat) (A : Option Addr) (F : Nat → Prop) (w : World) (h : Rws shF F w A l) (hl : l.length = n) (hn : n ≤ 274877906944) (q : Bool) (hq : frwhole l = q) :
    Calls Tryd.prog 33 #[.slice A n c] w fun e w' => e = .returned (.bool q) ∧ Below w.heap.size w w' := by
  have HL := Lib.hid hl
  have H0 := Lib.hid (show frwhR n 0 (l.drop 0) = q by rw [← hq, List.drop_zero, ← hl]; rfl)
  clear hl hq
  go_enter Tryd.func33, Tryd.ntmps33
  go_wp2_with fail
  go_loopw [7] (fun i wr => ∃ k : Nat, k ≤ n ∧ i = .int .i64 k ∧ Hid (frwhR n k (l.drop k) = q) ∧ Below w.heap.size w wr) (fun i _ => n - (intOf i).toNat)
  case atStart => exact ⟨0, Nat.zero_le _, rfl, H0, Below.refl _ _⟩
  case round =>
    obtain ⟨k, hk, rfl, hR, hbel⟩ := hrel
    by_cases hlt : k < n
    · obtain ⟨b, o, p, A3, c3, rfl, hb3, hx, h0, h1, h2, h3, h5, h6⟩ := (h.below hbel).pc (k := k) (by rw [HL.out]; exact hlt)
      have HS := Lib.hid (frwh_step (n := n) hx)
      obtain ⟨t0, ht0⟩ : ∃ t0, Hid (decide (k = 0) = t0) := ⟨_, Lib.hid rfl⟩
      obtain ⟨t1, ht1⟩ : ∃ t1, Hid (decide (k + 1 = n) = t1) := ⟨_, Lib.hid rfl⟩
      have i0 : ((k : Int) == 0) = t0 := by rw [← ht0.out, Bool.eq_iff_iff]; simp
      have i9 : ((k : Int) == (n : Int) - 1) = t1 := by rw [← ht1.out, Bool.eq_iff_iff]; simp; omega
      have HB := Lib.hid (show frwhB n k p = ((p.b == t0) && (p.e == t1)) by unfold frwhB; rw [ht0.out, ht1.out])
      have R2 := Lib.hid (hbel.alloc hbel.size (.cells #[.bool p.b, .bool p.e, .int .i64 p.n, .slice A3 p.d.length c3] 29))
      have i1 : (0 : Int) ≤ k := by omega
      have i2 : (k : Int) < n := by omega
      clear hx h6
      by_cases c0 : p.b = t0
      · have j0 : (p.b == t0) = true := by rw [c0]; cases t0 <;> rfl
        by_cases c1 : p.e = t1
        · have j1 : (p.e == t1) = true := by rw [c1]; cases t1 <;> rfl
          have HR := Lib.hid (show frwhR n (k + 1) (l.drop (k + 1)) = q by rw [← hR.out, HS.out, HB.out, j0, j1]; rfl)
          clear c0 c1
          go_wp2_with fail
          go_roundw
          case rel => exact ⟨k + 1, by omega, by go_num, HR, R2.out⟩
          case measure => simp [intOf]; omega
        · have j1 : (p.e == t1) = false := by rw [beq_eq_false_iff_ne]; exact c1
          have E := Lib.hid (show q = false by rw [← hR.out, HS.out, HB.out, j0, j1]; rfl)
          clear c0 c1
          go_wp2_with fail
          go_ret
          exact ⟨by rw [E.out]; rfl, R2.out⟩
      · have j0 : (p.b == t0) = false := by rw [beq_eq_false_iff_ne]; exact c0
        have E := Lib.hid (show q = false by rw [← hR.out, HS.out, HB.out, j0]; rfl)
        clear c0
        go_wp2_with fail
        go_ret
        exact ⟨by rw [E.out]; rfl, R2.out⟩
    · have he : k = n := by omega
      subst he
      have E := Lib.hid (show q = true by rw [← hR.out, List.drop_of_length_le (by rw [HL.out]; exact Nat.le_refl _)]; rfl)
      go_wp2_with fail
      go_ret
      exact ⟨by rw [E.out]; rfl, hbel⟩

set_option maxHeartbeats 2000000 in
theorem frfollow_any (s : Bool) (l : List Pc) (n c : Nat) (A : Option Addr) (F : Nat → Prop) (w : World) (h : Rws shF F w A l) (hl : l.length = n) (hn : n ≤ 274877906944) (h1n : 0 < n) (q : Bool) (hq : frfollow s l = q) (hT : TabF w) :
    Calls Tryd.prog 34 #[.bool s, .slice A n c] w fun e w' => e = .returned (.bool q) ∧ Below w.heap.size w w' := by
  have HL := Lib.hid hl
  obtain ⟨b, o, p0, A0, c0, rfl, hb0, hx0, _, _, y2, _, _, _⟩ := h.pc (k := 0) (by rw [hl]; exact h1n)
  have HH := Lib.hid (show l.headD pc0 = p0 by cases l with
    | nil => simp at hx0
    | cons a t => simpa using hx0)
  rw [Nat.zero_mul, Nat.add_zero] at y2
  have HT := Lib.hid hT
  clear hl hT hx0
  cases hr : frright s p0.n
  · have E := Lib.hid (show q = false by rw [← hq]; unfold frfollow; rw [HH.out, hr]; rfl)
    have HR := Lib.hid hr
    clear hr hq
    go_enter Tryd.func34, Tryd.ntmps34
    go_wp2_with (go_at_call 23; (with_reducible refine (frright_any s p0.n _ HT.out).mono ?_); rintro r w2 ⟨rfl, hb2⟩; rw [HR.out])
    go_ret
    exact ⟨by rw [E.out]; rfl, hb2⟩
  · obtain ⟨g0, g1⟩ := frright_iff.1 hr
    obtain ⟨v, hv⟩ := Int.eq_ofNat_of_zero_le g0
    have HQ := Lib.hid (show frfoR s v (l.drop 0) = q by rw [← hq]; unfold frfollow; rw [HH.out, hr, hv]; simp)
    rw [hv] at y2 hr g1
    have HR := Lib.hid hr
    have HV := Lib.hid (show v < frmod s by omega)
    clear hr hq g0 g1 hv
    go_enter Tryd.func34, Tryd.ntmps34
    go_wp2_with (go_at_call 23; (with_reducible refine (frright_any s (v : Int) _ HT.out).mono ?_); rintro r w2 ⟨rfl, hb2⟩; rw [HR.out]; have B2 := Lib.hid hb2; clear hb2)
    go_loopw [5, 18] (fun x i wr => ∃ k u : Nat, k ≤ n ∧ i = .int .i64 k ∧ x = .int .i64 (u : Int) ∧ Hid (frfoR s u (l.drop k) = q ∧ u < frmod s) ∧ Below w.heap.size w wr) (fun _ i _ => n - (intOf i).toNat)
    case atStart => exact ⟨0, v, Nat.zero_le _, rfl, rfl, Lib.hid ⟨HQ.out, HV.out⟩, B2.out⟩
    case round =>
      obtain ⟨k, u, hk, rfl, rfl, hR, hbel⟩ := hrel
      by_cases hlt : k < n
      · obtain ⟨b', o', p, A3, c3, e', hb3, hx, h0, h1, h2, h3, h5, h6⟩ := (h.below hbel).pc (k := k) (by rw [HL.out]; exact hlt)
        injection e' with e'
        injection e' with e1 e2
        subst e1; subst e2
        have HS := Lib.hid (frfo_step (s := s) (x := u) hx)
        have R2 := Lib.hid (hbel.alloc hbel.size (.cells #[.bool p.b, .bool p.e, .int .i64 p.n, .slice A3 p.d.length c3] 29))
        have TT := Lib.hid ((HT.out.below hbel).below ((Below.refl _ _).alloc (Nat.le_refl _) (.cells #[.bool p.b, .bool p.e, .int .i64 p.n, .slice A3 p.d.length c3] 29)))
        have i1 : (0 : Int) ≤ k := by omega
        have i2 : (k : Int) < n := by omega
        clear hx h6
        by_cases c0 : p.n = (u : Int)
        · have j0 : (p.n != (u : Int)) = false := by rw [c0]; simp
          have HR2 := Lib.hid (show frfoR s ((u + 1) % frmod s) (l.drop (k + 1)) = q by rw [← hR.out.1, HS.out, decide_eq_true c0]; rfl)
          have HM2 := Lib.hid (show (u + 1) % frmod s < frmod s from Nat.mod_lt _ (frmod_pos s))
          clear c0
          go_wp2_with (go_at_call 32; (with_reducible refine (frbeh_any s u hR.out.2 _ TT.out).mono ?_); rintro r w3 ⟨rfl, hb3'⟩; have R3 := Lib.hid (R2.out.trans (hb3'.mono R2.out.size)); clear hb3')
          go_roundw
          case rel => exact ⟨k + 1, (u + 1) % frmod s, by omega, by go_num, rfl, Lib.hid ⟨HR2.out, HM2.out⟩, R3.out⟩
          case measure => simp [intOf]; omega
        · have j0 : (p.n != (u : Int)) = true := by rw [bne_iff_ne]; exact c0
          have E := Lib.hid (show q = false by rw [← hR.out.1, HS.out, decide_eq_false c0]; rfl)
          clear c0
          go_wp2_with fail
          go_ret
          exact ⟨by rw [E.out]; rfl, R2.out⟩
      · have he : k = n := by omega
        subst he
        have E := Lib.hid (show q = true by rw [← hR.out.1, List.drop_of_length_le (by rw [HL.out]; exact Nat.le_refl _)]; rfl)
        go_wp2_with fail
        go_ret
        exact ⟨by rw [E.out]; rfl, hbel⟩

set_option maxHeartbeats 2000000 in
theorem frglue_any (s : Bool) (l : List Pc) (n c : Nat) (A : Option Addr) (F : Nat → Prop) (w : World) (h : Rws shF F w A l) (hl : l.length = n) (hn : n ≤ 274877906944) (hd : frdat l ≤ 274877906944) (q z : Nat) (hq : frglueE s l = q) (hz : (frglueA s l).length = z) (hT : TabF w) :
    Calls Tryd.prog 18 #[.bool s, .slice A n c] w fun e w' => ∃ A' c', e = .returned (.tuple #[.slice A' z c', .int .i64 (q : Int)]) ∧ New w w' A' c' z (frglueA s l) := by
  obtain ⟨i0, hi, hz0, hz1, hz2⟩ := info_parts byte_info
  have HL := Lib.hid hl
  have HT := Lib.hid hT
  by_cases hne : frglueE s l = 0
  · obtain ⟨k0, k1, k2⟩ := frglue_ok hne
    have E1 := Lib.hid (show frglueA s l = frjoin l by unfold frglueA; rw [if_pos hne])
    have hq0 : q = 0 := by omega
    subst hq0
    have h1n : 0 < n := by omega
    have j0 : ((n : Int) == 0) = false := by simp; omega
    have HLE := Lib.hid (frjoin_le l)
    have HD := Lib.hid (show (frjoin l).length ≤ 274877906944 by rw [frjoin_len]; exact hd)
    have HK1 := Lib.hid k1
    have HK2 := Lib.hid k2
    have HZ := Lib.hid hz
    clear hne k0 k1 k2 hq hd hl hT hz
    go_enter Tryd.func18, Tryd.ntmps18
    go_wp2_with (first
      | (go_at_call 33; (with_reducible refine (frwhole_any l n c A F _ h HL.out hn true HK1.out).mono ?_); rintro r w2 ⟨rfl, hb2⟩; have B2 := Lib.hid hb2; clear hb2)
      | (go_at_call 34; (with_reducible refine (frfollow_any s l n c A F _ (h.below B2.out) HL.out hn h1n true HK2.out (HT.out.below B2.out)).mono ?_); rintro r w3 ⟨rfl, hb3⟩; have B3 := Lib.hid (B2.out.trans (hb3.mono B2.out.size)); clear hb3))
    go_loopw [6, 24] (fun v i wr => ∃ k m : Nat, k ≤ n ∧ i = .int .i64 k ∧ wr.ownsRow w.heap.size 5 1 v m (bvs (frjoin (l.take k))) ∧ Below w.heap.size w wr) (fun _ i _ => n - (intOf i).toNat)
    case atStart => exact ⟨0, 0, Nat.zero_le _, rfl, by simpa [frjoin, bvs] using World.ownsRow_nil _ _ _ _, B3.out⟩
    case round =>
      obtain ⟨k, m, hk, rfl, hown, hbel⟩ := hrel
      by_cases hlt : k < n
      · obtain ⟨b, o, p, A3, c3, rfl, hb3, hx, h0, h1, h2, h3, h5, h6⟩ := (h.below hbel).pc (k := k) (by rw [HL.out]; exact hlt)
        have hm1 := hown.1
        rw [bvs_len] at hm1
        have hq2 : m + p.d.length ≤ 1099511627776 := by
          have h1 := HLE.out (k + 1)
          rw [frjoin_take hx, List.length_append] at h1
          have := HD.out
          omega
        have HE := Lib.hid (show bvs (frjoin (l.take (k + 1))) = bvs (frjoin (l.take k)) ++ bvs p.d by rw [frjoin_take hx, bvs_app])
        obtain ⟨wk, hwk⟩ : ∃ wk, wk = wr.alloc (.cells #[.bool p.b, .bool p.e, .int .i64 p.n, .slice A3 p.d.length c3] 29) := ⟨_, rfl⟩
        have hbe : Below wr.heap.size wr wk := by rw [hwk]; exact (Below.refl _ _).alloc (Nat.le_refl _) _
        have hbk := hbel.trans (hbe.mono hbel.size)
        have BK := Lib.hid hbk
        have OW := Lib.hid (own_below hown hbe)
        have H6 := Lib.hid (h6.rd.on hbe)
        have HWK := Lib.hid hwk
        have i1 : (0 : Int) ≤ k := by omega
        have i2 : (k : Int) < n := by omega
        clear hx h6 hm1 hown hbel hbe hbk hwk
        go_wp2_with (at_builtin; rw [← HWK.out]; refine list_mv rfl _ _ 22 rfl 5 i0 (.int .u8 0) 1 1 Tryd.underlying22 hi hz0 hz1 hz2 rfl (by decide) w.heap.size _ _ _ rfl OW.out A3 p.d.length c3 (bvs p.d) rfl (rd_nil H6.out) (by rw [bvs_len]; omega) (rd_news H6.out) (bvs_one p.d) (by unfold maxLen; omega) (by omega) BK.out.size ?_; intro v' w3 hown3 hgrow3 hmv3)
        have R := hown3
        rw [← HE.out] at R
        have R2 := BK.out.grown hgrow3 BK.out.size (fun g hg => (OW.out.lt g hg).1)
        go_roundw
        case rel => exact ⟨k + 1, m + p.d.length, by omega, by go_num, R, R2⟩
        case measure => simp [intOf]; omega
      · have he : k = n := by omega
        subst he
        rw [List.take_of_length_le (by rw [HL.out]; exact Nat.le_refl _), ← E1.out] at hown
        have hm : m = z := by have := hown.1; rw [bvs_len, HZ.out] at this; omega
        subst hm
        go_wp2_with fail
        go_ret2
        obtain ⟨A', c', rfl, hN⟩ := New.mk hown hbel
        exact ⟨A', c', rfl, hN⟩
  · have E1 := Lib.hid (show frglueA s l = [] by unfold frglueA; rw [if_neg hne])
    have hz0' : z = 0 := by rw [← hz, E1.out]; rfl
    subst hz0'
    have fin : ∀ W, Below w.heap.size w W → New w W none 0 0 (frglueA s l) := fun W hb => by rw [E1.out]; exact ⟨rfl, ⟨rfl, .inl ⟨rfl, rfl⟩⟩, Rd.nil, hb⟩
    have FIN := Lib.hid fin
    by_cases h0n : n = 0
    · subst h0n
      have hq9 : q = 13 := by rw [← hq]; unfold frglueE; rw [if_pos hl]
      subst hq9
      clear hne hq hz fin hd
      go_enter Tryd.func18, Tryd.ntmps18
      go_wp2_with fail
      go_ret2
      exact ⟨none, 0, rfl, FIN.out _ (Below.refl _ _)⟩
    · have j0 : ((n : Int) == 0) = false := by simp; omega
      have h1n : 0 < n := by omega
      cases hw : frwhole l
      · have hq9 : q = 4 := by rw [← hq]; unfold frglueE; rw [if_neg (by omega), hw]; rfl
        subst hq9
        have HW := Lib.hid hw
        clear hne hq hz fin hd hw h0n
        go_enter Tryd.func18, Tryd.ntmps18
        go_wp2_with (go_at_call 33; (with_reducible refine (frwhole_any l n c A F _ h HL.out hn false HW.out).mono ?_); rintro r w2 ⟨rfl, hb2⟩; have B2 := Lib.hid hb2; clear hb2)
        go_ret2
        exact ⟨none, 0, rfl, FIN.out _ B2.out⟩
      · cases hf : frfollow s l
        · have hq9 : q = 14 := by rw [← hq]; unfold frglueE; rw [if_neg (by omega), hw, hf]; rfl
          subst hq9
          have HW := Lib.hid hw
          have HF := Lib.hid hf
          clear hne hq hz fin hd hw hf h0n
          go_enter Tryd.func18, Tryd.ntmps18
          go_wp2_with (first
            | (go_at_call 33; (with_reducible refine (frwhole_any l n c A F _ h HL.out hn true HW.out).mono ?_); rintro r w2 ⟨rfl, hb2⟩; have B2 := Lib.hid hb2; clear hb2)
            | (go_at_call 34; (with_reducible refine (frfollow_any s l n c A F _ (h.below B2.out) HL.out hn h1n false HF.out (HT.out.below B2.out)).mono ?_); rintro r w3 ⟨rfl, hb3⟩; have B3 := Lib.hid (B2.out.trans (hb3.mono B2.out.size)); clear hb3))
          go_ret2
          exact ⟨none, 0, rfl, FIN.out _ B3.out⟩
        · exfalso
          apply hne
          unfold frglueE
          rw [if_neg (by omega), hw, hf]
          rfl
end Go.Proofs.YtdeabomcmbgepaaDoor
