
/-
  A deframer of bits in memory: keep, one, settle. No condition beyond: most and the bits counted at most 2^40.
-/
import Derived.Test.YteicednlgajpgaaSynD
namespace Go.Proofs.Yteicednlgajpgaa
open Go.RowKit

theorem oct_news {w : World} {n : Nat} {A : Option Addr} {l : List Nat} (h : Rd w w.heap.size A l) (hl : l.length = n) : (A = none → n = 0) ∧ ∀ ad, A = some ad → ∀ j u, (bvs l)[j]? = some u → w.cell? (ad.add j) = some u := by
  refine ⟨fun h0 => ?_, fun ad had j u hu => ?_⟩
  · rcases Nat.eq_zero_or_pos n with h1 | h1
    · exact h1
    · obtain ⟨_, _, h2, _⟩ := h (by omega)
      rw [h2] at h0; cases h0
  · rw [bvs, List.getElem?_map] at hu
    obtain ⟨x, hx, rfl⟩ := Option.map_eq_some_iff.1 hu
    obtain ⟨b, off, he, _, hc⟩ := h (by have := (List.getElem?_eq_some_iff.1 hx).1; omega)
    rw [he] at had
    injection had with had
    subst had
    have := hc j x hx
    by_cases hj : j = 0
    · subst hj; simpa [Addr.add, bv] using this
    · simpa [Addr.add, hj, bv] using this

theorem Sep.symm {V V' : Value} (h : Sep V V') : Sep V' V := fun g hg hg' => h g hg' hg

set_option maxHeartbeats 2000000 in
theorem keep_any {B : Nat} {w : World} {b most : Nat} {V1 V2 : Value} {s : St} (h : Df B w b most V1 V2 s) (x : Nat) (hx : x < 256) (hn : s.count ≤ 1099511627776) (hm : most ≤ 1099511627776) (hB : B ≤ w.heap.size) :
    Calls Try.prog 31 #[.pointer (some ⟨b, 0, none⟩), .int .u8 (x : Int)] w fun e w' => e = .returned (.tuple #[]) ∧ Dk B w w' b most V1 V2 (s.keep most x) := by
  obtain ⟨i0, hi, hz0, hz1, hz2⟩ := info_parts byte_info
  have c3 := h.cells.c3
  have f3 := h.cells.fz 3
  have hb := h.cells.lt
  have hc1 := h.cells.set3 (s.count + 1)
  have ho1 : Offs (fun i => i = b) w (w.setCell ⟨b, 3, none⟩ (.int .i64 ((s.count + 1 : Nat) : Int))) := Offs.set _ _ _ _ rfl
  rw [show ((s.count + 1 : Nat) : Int) = (s.count : Int) + 1 by omega] at hc1 ho1
  by_cases hbad : s.broken = true ∨ most < oct (s.count + 1)
  · have E := Lib.hid (keep_bad (x := x) hbad)
    have K := Lib.hid (ok_keep h.ok hx)
    have T : Hid ((s.broken || decide (most < oct (s.count + 1))) = true) := Lib.hid (by simpa using hbad)
    clear hbad
    go_enter Try.func31, Try.ntmps31
    go_wp2_with fail
    refine (spoiled_is hc1 (by omega) T).mono ?_
    rintro e w2 ⟨rfl, j, rfl⟩
    go_wp2_with fail
    refine (drop_any (hc1.drewN j)).mono ?_
    rintro e w3 ⟨rfl, hd3, ho3⟩
    go_wp2_with fail
    refine bodyPost_ret (results_none rfl _ _ _) rfl ⟨rfl, .slice none 0 0, .slice none 0 0, ?_, ?_, Mv.nil _ _ _ _, Mv.nil _ _ _ _⟩
    · rw [E.out]
      exact ⟨h.lo, hd3, World.ownsRow_nil _ _ _ _, World.ownsRow_nil _ _ _ _, Sep.nil1 _ _ _, by rw [← E.out]; exact K.out⟩
    · refine (ho1.trans (Z := fun i => i = b) ((Offs.of_below (X := fun i => i = b) (below_drewN (Below.refl _ _) j)).trans (Z := fun i => i = b) ho3 (fun _ h => h) (fun _ _ h => h)) (fun _ h => h) (fun _ _ h => h)).more (fun _ _ h => .inl h)
  · have T : Hid ((s.broken || decide (most < oct (s.count + 1))) = false) := Lib.hid (by obtain ⟨_, h2, h3⟩ := not_bad hbad; rw [h2]; simp; omega)
    have K := Lib.hid (ok_keep h.ok hx)
    have hh := h.ok.most
    have h8 := h.ok.lt
    have HBAD := Lib.hid hbad
    clear hbad
    obtain ⟨A2, cp2, hV2, _, _⟩ := own_form h.own2
    obtain ⟨A1, cp1, hV1, _, _⟩ := own_form h.own1
    have e2 := hc1.c2
    have f2 := hc1.fz 2
    rw [hV2] at e2
    have hbyx : By (s.begun ++ [x]) := h.ok.by2.app (by intro y hy; rw [List.mem_singleton] at hy; omega)
    have o1 := own_off h.own1 ho1 (fun g hg e => h.ne1 (by rw [hg, e]))
    have o2 := own_off h.own2 ho1 (fun g hg e => h.ne2 (by rw [hg, e]))
    have hsz1 : (w.setCell ⟨b, 3, none⟩ (.int .i64 ((s.count : Int) + 1))).heap.size = w.heap.size := by simp [World.setCell]
    have hb1 := hc1.lt
    go_enter Try.func31, Try.ntmps31
    go_wp2_with fail
    refine (spoiled_is hc1 (by omega) T).mono ?_
    rintro e w2 ⟨rfl, j, hw2⟩
    have hbw : Below (w.setCell ⟨b, 3, none⟩ (.int .i64 ((s.count : Int) + 1))).heap.size (w.setCell ⟨b, 3, none⟩ (.int .i64 ((s.count : Int) + 1))) w2 := by rw [hw2]; exact below_drewN (Below.refl _ _) j
    have hsz2 : w2.heap.size = w.heap.size := by rw [hw2]; exact hsz1
    have ho2 := Lib.hid (ho1.trans (Z := fun i => i = b) (Offs.of_below (X := fun i => i = b) hbw) (fun _ h => h) (fun _ _ h => h))
    have hc2 := hc1.below hbw
    have p1 := own_off o1 (X := fun _ => False) (.of_below hbw) (fun _ _ => id)
    have p2 := own_off o2 (X := fun _ => False) (.of_below hbw) (fun _ _ => id)
    have c2' := hc2.c2
    have f2' := hc2.fz 2
    rw [hV2] at c2'
    have hb2 := hc2.lt
    have HC2 := Lib.hid hc2
    have P1 := Lib.hid p1
    have P2 := Lib.hid p2
    have hBw : Hid (B ≤ (w2.alloc (.cells #[.int .u8 (x : Int)] 5)).heap.size) := Lib.hid (by simp; omega)
    have HS2 := Lib.hid hsz2
    have h8' : s.begun.length + 1 ≤ maxLen ∧ (s.begun.length + 1) * 1 ≤ 140737488355328 := ⟨by unfold maxLen; omega, by omega⟩
    have H8 := Lib.hid h8'
    clear o1 o2 hsz1 hc1 ho1 e2 f2 hb1 hbw hw2 c3 f3 hb p1 p2 hc2 hsz2 h8'
    go_wp2_with (at_builtin; refine list_mv rfl _ _ 27 rfl 5 i0 (.int .u8 0) 1 1 Try.underlying27 hi hz0 hz1 hz2 rfl (by decide) B V2 _ _ hV2.symm (P2.out.alloc _) (some ⟨w2.heap.size, 0, none⟩) 1 1 [.int .u8 (x : Int)] rfl (fun h => by cases h) rfl (fun ad had => by injection had with had; subst had; exact cell_one_new _ _ _) (fun x hx => by simp at hx; subst hx; rfl) H8.out.1 H8.out.2 hBw.out ?_; intro v3 w3 hown3 hgrow3 hmv3; obtain ⟨q1, sep3⟩ := sep_push P2.out P1.out h.sep.symm hgrow3 hmv3; have ho3 := (Offs.of_below (X := fun k => V2.ownBlock = some k) ((Below.refl w2.heap.size w2).alloc (Nat.le_refl _) _)).trans (Offs.of_grown (X := fun k => V2.ownBlock = some k) hgrow3 (fun k hk => hk)) (fun _ h => h) (fun _ _ h => h); have d3 := HC2.out.off ho3 h.ne2; obtain ⟨g, cap', rfl⟩ := own_some hown3 (Nat.succ_pos _); have e2' := d3.c2; have f2'' := d3.fz 2; have hb3 := d3.lt; rw [hV2] at e2'; have D3 := Lib.hid d3; have HO3 := Lib.hid ho3; have Q1 := Lib.hid q1; have OW3 := Lib.hid (push_row hown3 rfl); have SP3 := Lib.hid sep3; have MV3 := Lib.hid hmv3; clear d3 ho3 hgrow3 q1 hown3 sep3 hmv3)
    have d4 := D3.out.set2 (.slice (some ⟨g, 0, none⟩) (s.begun.length + 1) cap')
    have ho4 : Offs (fun i => i = b) w3 (w3.setCell ⟨b, 2, none⟩ (.slice (some ⟨g, 0, none⟩) (s.begun.length + 1) cap')) := Offs.set _ _ _ _ rfl
    have r1 := own_off Q1.out ho4 (fun k hk e => h.ne1 (by rw [hk, e]))
    have r2 := own_off OW3.out ho4 (fun k hk e => D3.out.own_ne OW3.out (by decide) (by rw [hk, e]))
    have hsz4 : Hid (w.heap.size ≤ (w3.setCell ⟨b, 2, none⟩ (.slice (some ⟨g, 0, none⟩) (s.begun.length + 1) cap')).heap.size) := Lib.hid (by have h1 := HO3.out.size; have h2 := HS2.out; have h3 := ho4.size; omega)
    have hmvA : Mv w.heap.size V2 (.slice (some ⟨g, 0, none⟩) (s.begun.length + 1) cap') := fun i hi => (MV3.out i hi).imp id (fun h => by have := HS2.out; simp at h; omega)
    have hoA := Lib.hid ((ho2.out.trans (Z := Xs b V1 V2) HO3.out (fun _ h => .inl h) (fun _ _ h => .inr (.inr h))).trans (Z := Xs b V1 V2) ho4 (fun _ h => h) (fun _ _ h => .inl h))
    have hlen : (s.begun ++ [x]).length = s.begun.length + 1 := by rw [List.length_append, List.length_singleton]
    have HLEN := Lib.hid hlen
    by_cases he : s.begun.length + 1 = 8
    · have E := Lib.hid (keep_full (x := x) HBAD.out he)
      have hr2 := Rd.own r2
      refine (octets_c (s.begun ++ [x]) (s.begun.length + 1) 1 _ _ _ hr2 hbyx HLEN.out (by omega) he).mono ?_
      rintro e w5 ⟨A5, c5, rfl, hN⟩
      have d5 := d4.below hN.2.2.2
      have s1 := own_off r1 (X := fun _ => False) (.of_below hN.2.2.2) (fun _ _ => id)
      have S1 := Lib.hid s1
      have hoB := Lib.hid (hoA.out.trans (Z := Xs b V1 V2) (Offs.of_below (X := Xs b V1 V2) hN.2.2.2) (fun _ h => h) (fun _ _ h => h))
      obtain ⟨hA5, hn5⟩ := oct_news hN.2.2.1 hN.1
      have e1 := d5.c1
      have f1 := d5.fz 1
      have g2 := d5.fz 2
      have hb5 := d5.lt
      have g2' := d5.c2
      rw [hV1] at e1
      have hB5 : Hid (B ≤ w5.heap.size) := Lib.hid (by have h1 := hN.2.2.2.size; have h2 := hsz4.out; omega)
      have HA5 := Lib.hid hA5
      have HN5 := Lib.hid hn5
      have HL5 := Lib.hid (show (bvs (toO (s.begun ++ [x]))).length = 1 * 1 by rw [bvs_len, hN.1])
      have D5 := Lib.hid d5
      have HM := Lib.hid (show s.held.length + 1 ≤ maxLen ∧ (s.held.length + 1) * 1 ≤ 140737488355328 from ⟨by unfold maxLen; omega, by omega⟩)
      have HMV := Lib.hid hmvA
      have HSZ5 : Hid (w.heap.size ≤ w5.heap.size) := Lib.hid (Nat.le_trans hsz4.out hN.2.2.2.size)
      clear hN s1 hA5 hn5 d5 d4 r1 r2 hr2 ho4 hlen hmvA
      go_wp2_with (at_builtin; refine list_mv rfl _ _ 27 rfl 5 i0 (.int .u8 0) 1 1 Try.underlying27 hi hz0 hz1 hz2 rfl (by decide) B V1 _ _ hV1.symm S1.out A5 1 c5 (bvs (toO (s.begun ++ [x]))) rfl (fun h => absurd (HA5.out h) (by decide)) HL5.out HN5.out (bvs_one _) HM.out.1 HM.out.2 hB5.out ?_; intro v6 w6 hown6 hgrow6 hmv6; have ho6 := Offs.of_grown (X := fun k => V1.ownBlock = some k) hgrow6 (fun k hk => hk); have d6 := D5.out.off ho6 h.ne1; obtain ⟨g6, cap6, rfl⟩ := own_some hown6 (Nat.succ_pos _); have t1 := d6.c1; have u1 := d6.fz 1; have t2 := d6.c2; have u2 := d6.fz 2; have hb6 := d6.lt; rw [hV1] at t1; have D6 := Lib.hid d6; have HO6 := Lib.hid ho6; have OW6 := Lib.hid hown6; have MV6 := Lib.hid hmv6; clear d6 ho6 hgrow6 hown6 hmv6)
      have X1 := D6.out.set1 (.slice (some ⟨g6, 0, none⟩) (s.held.length + 1) cap6)
      refine bodyPost_end (results_none rfl _ _ _) rfl ⟨rfl, .slice (some ⟨g6, 0, none⟩) (s.held.length + 1) cap6, .slice none 0 0, ?_, ?_, ?_, Mv.nil _ _ _ _⟩
      · rw [E.out]
        have ho7 := (Offs.set (X := fun i => i = b) w6 b 1 (.slice (some ⟨g6, 0, none⟩) (s.held.length + 1) cap6) rfl).trans (Z := fun i => i = b) (Offs.set (X := fun i => i = b) _ b 2 (.slice none 0 0) rfl) (fun _ h => h) (fun _ _ h => h)
        refine ⟨h.lo, X1.set2 _, ?_, World.ownsRow_nil _ _ _ _, Sep.nil2 _ _ _, by rw [← E.out]; exact K.out⟩
        have R := own_off OW6.out ho7 (fun k hk e => D6.out.own_ne OW6.out (by decide) (by rw [hk, e]))
        rw [← bvs_app] at R
        have hl : s.held.length + 1 = (s.held ++ toO (s.begun ++ [x])).length := by rw [List.length_append, toO_len, HLEN.out, he]
        rw [hl] at R ⊢
        exact R
      · exact (hoB.out.trans (Z := Xs b V1 V2) HO6.out (fun _ h => h) (fun _ _ h => .inr (.inl h))).trans (Z := Xs b V1 V2) ((Offs.set (X := Xs b V1 V2) w6 b 1 _ (.inl rfl)).trans (Z := Xs b V1 V2) (Offs.set (X := Xs b V1 V2) _ b 2 _ (.inl rfl)) (fun _ h => h) (fun _ _ h => h)) (fun _ h => h) (fun _ _ h => h)
      · exact fun i hi => (MV6.out i hi).imp id (fun h => Nat.le_trans HSZ5.out h)
    · have E := Lib.hid (keep_more (x := x) HBAD.out he)
      refine (octets_no (s.begun ++ [x]) (s.begun.length + 1) _ _ _ HLEN.out (by omega) (by omega)).mono ?_
      rintro e w5 ⟨rfl, rfl⟩
      have R1 := Lib.hid r1
      have R2 := Lib.hid r2
      have D4 := Lib.hid d4
      clear r1 r2 d4
      go_wp2_with fail
      refine bodyPost_end (results_none rfl _ _ _) rfl ⟨rfl, V1, .slice (some ⟨g, 0, none⟩) (s.begun.length + 1) cap', ?_, hoA.out, Mv.refl _ _, hmvA⟩
      rw [E.out]
      refine ⟨h.lo, D4.out, R1.out, ?_, SP3.out.symm, by rw [← E.out]; exact K.out⟩
      have R := R2.out
      rw [← HLEN.out] at R ⊢
      exact R

end Go.Proofs.Yteicednlgajpgaa
