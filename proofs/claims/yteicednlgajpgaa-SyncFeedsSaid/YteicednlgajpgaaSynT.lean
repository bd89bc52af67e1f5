
/-
  A deframer of bits in memory: tell, end, Held. No condition beyond: most and the bits counted at most 2^40.
-/
import Derived.Test.YteicednlgajpgaaSynH
namespace Go.Proofs.Yteicednlgajpgaa
open Go.RowKit

/-- What tell answers. -/
def tK (most : Nat) (s : St) : Nat := if s.broken then 2 else if s.count = 0 then 0 else if s.count % 8 ≠ 0 then 3 else if most < oct s.count then 4 else 0
def tV (most : Nat) (V : Value) (s : St) : Value := if s.broken then .slice none 0 0 else if s.count = 0 then .slice none 0 0 else if s.count % 8 ≠ 0 then .slice none 0 0 else if most < oct s.count then .slice none 0 0 else V
def tB (s : St) : Bool := s.broken || !decide (s.count = 0)

set_option maxHeartbeats 2000000 in
theorem tell_any {B : Nat} {w : World} {b most : Nat} {V1 V2 : Value} {s : St} (h : Df B w b most V1 V2 s) (hn : s.count ≤ 1099511627776) :
    Calls Try.prog 32 #[.pointer (some ⟨b, 0, none⟩)] w fun e w' => e = .returned (.tuple #[.agg #[.int .i64 (tK most s : Nat), tV most V1 s], .bool (tB s)]) ∧ Below w.heap.size w w' := by
  obtain ⟨A, c, hV, _, _⟩ := own_form h.own1
  have hA : Below w.heap.size w (w.alloc (.cells #[.int .i64 0, .slice none 0 0] 38)) := (Below.refl _ _).alloc (Nat.le_refl _) _
  have hcA := h.cells.below hA
  have HCA := Lib.hid hcA
  have c1 := h.cells.c1
  have c3 := h.cells.c3
  have c6 := h.cells.c6
  have hb := h.cells.lt
  rw [hV] at c1
  cases h1 : s.broken
  · by_cases h2 : s.count = 0
    · have E := Lib.hid (show tK most s = 0 ∧ tV most V1 s = .slice none 0 0 ∧ tB s = false by simp [tK, tV, tB, h1, h2])
      rw [h1] at c6
      rw [h2] at c3
      clear h1 h2 hV hcA
      go_enter Try.func32, Try.ntmps32
      go_wp2
      refine bodyPost_ret (v := .tuple #[.agg #[.int .i64 0, .slice none 0 0], .bool false]) ?_ rfl ⟨?_, ?_⟩
      · rw [results_cell_tmp rfl]; go_simp
      · obtain ⟨e1, e2, e3⟩ := E.out
        rw [e1, e2, e3]; rfl
      · (repeat' (first | exact Below.refl _ _ | refine Below.setCell ?_ (by simp) _ | refine Below.alloc ?_ (by simp) _))
    · have h2' : ((s.count : Int) == 0) = false := by simp; omega
      by_cases h3 : s.count % 8 = 0
      · have h3' : ((s.count : Int) % 8 != 0) = false := by rw [bne_eq_false_iff_eq]; omega
        by_cases h4 : most < oct s.count
        · have E := Lib.hid (show tK most s = 4 ∧ tV most V1 s = .slice none 0 0 ∧ tB s = true by simp [tK, tV, tB, h1, h2, h3, h4])
          have T := Lib.hid (show (s.broken || decide (most < oct s.count)) = true by simp [h4])
          rw [h1] at c6
          clear h1 h2 h3 h4 hV hcA
          go_enter Try.func32, Try.ntmps32
          go_wp2_with fail
          refine (spoiled_is HCA.out (by omega) T).mono ?_
          rintro e w2 ⟨rfl, j, rfl⟩
          go_wp2
          refine bodyPost_ret (v := .tuple #[.agg #[.int .i64 4, .slice none 0 0], .bool true]) ?_ rfl ⟨?_, ?_⟩
          · rw [results_cell_tmp rfl]; go_simp
          · obtain ⟨e1, e2, e3⟩ := E.out
            rw [e1, e2, e3]; rfl
          · (repeat' (first | exact Below.refl _ _ | refine Below.setCell ?_ (by simp) _ | refine below_drewN ?_ _ | refine Below.alloc ?_ (by simp) _))
        · have E := Lib.hid (show tK most s = 0 ∧ tV most V1 s = .slice A s.held.length c ∧ tB s = true by simp [tK, tV, tB, h1, h2, h3, h4, hV])
          have T := Lib.hid (show (s.broken || decide (most < oct s.count)) = false by simp [h1]; omega)
          rw [h1] at c6
          clear h1 h2 h3 h4 hV hcA
          go_enter Try.func32, Try.ntmps32
          go_wp2_with fail
          refine (spoiled_is HCA.out (by omega) T).mono ?_
          rintro e w2 ⟨rfl, j, rfl⟩
          go_wp2
          refine bodyPost_ret (v := .tuple #[.agg #[.int .i64 0, .slice A s.held.length c], .bool true]) ?_ rfl ⟨?_, ?_⟩
          · rw [results_cell_tmp rfl]; go_simp
          · obtain ⟨e1, e2, e3⟩ := E.out
            rw [e1, e2, e3]; rfl
          · (repeat' (first | exact Below.refl _ _ | refine Below.setCell ?_ (by simp) _ | refine below_drewN ?_ _ | refine Below.alloc ?_ (by simp) _))
      · have E := Lib.hid (show tK most s = 3 ∧ tV most V1 s = .slice none 0 0 ∧ tB s = true by simp [tK, tV, tB, h1, h2, h3])
        have h3' : ((s.count : Int) % 8 != 0) = true := by rw [bne_iff_ne]; omega
        rw [h1] at c6
        clear h1 h2 h3 hV hcA
        go_enter Try.func32, Try.ntmps32
        go_wp2
        refine bodyPost_ret (v := .tuple #[.agg #[.int .i64 3, .slice none 0 0], .bool true]) ?_ rfl ⟨?_, ?_⟩
        · rw [results_cell_tmp rfl]; go_simp
        · obtain ⟨e1, e2, e3⟩ := E.out
          rw [e1, e2, e3]; rfl
        · (repeat' (first | exact Below.refl _ _ | refine Below.setCell ?_ (by simp) _ | refine Below.alloc ?_ (by simp) _))
  · have E := Lib.hid (show tK most s = 2 ∧ tV most V1 s = .slice none 0 0 ∧ tB s = true by simp [tK, tV, tB, h1])
    rw [h1] at c6
    clear h1 hV hcA
    go_enter Try.func32, Try.ntmps32
    go_wp2
    refine bodyPost_ret (v := .tuple #[.agg #[.int .i64 2, .slice none 0 0], .bool true]) ?_ rfl ⟨?_, ?_⟩
    · rw [results_cell_tmp rfl]; go_simp
    · obtain ⟨e1, e2, e3⟩ := E.out
      rw [e1, e2, e3]; rfl
    · (repeat' (first | exact Below.refl _ _ | refine Below.setCell ?_ (by simp) _ | refine Below.alloc ?_ (by simp) _))

theorem tV_own {B most : Nat} {w : World} {V : Value} {s : St} (h : w.ownsRow B 5 1 V s.held.length (bvs s.held)) (hs : tB s = true) : ∃ x : Sg, s.tell most = [x] ∧ x.1 = tK most s ∧ w.ownsRow B 5 1 (tV most V s) x.2.length (bvs x.2) ∧ ∀ g, (tV most V s).ownBlock = some g → V.ownBlock = some g := by
  unfold St.tell tK tV
  unfold tB at hs
  cases h1 : s.broken
  · by_cases h2 : s.count = 0
    · rw [h1] at hs; simp [h2] at hs
    · simp only [h2, if_false, Bool.false_eq_true]
      by_cases h3 : s.count % 8 = 0
      · simp only [h3, ne_eq, not_true_eq_false, if_false]
        by_cases h4 : most < oct s.count
        · simp only [h4, if_true]
          exact ⟨_, rfl, rfl, World.ownsRow_nil _ _ _ _, fun g hg => by cases hg⟩
        · simp only [h4, if_false]
          exact ⟨_, rfl, rfl, h, fun g hg => hg⟩
      · simp only [h3, ne_eq, not_false_eq_true, if_true]
        exact ⟨_, rfl, rfl, World.ownsRow_nil _ _ _ _, fun g hg => by cases hg⟩
  · exact ⟨_, rfl, rfl, World.ownsRow_nil _ _ _ _, fun g hg => by cases hg⟩
theorem tB_no {most : Nat} {s : St} (hs : tB s = false) : s.tell most = [] := by
  unfold tB at hs
  simp only [Bool.or_eq_false_iff, Bool.not_eq_false'] at hs
  obtain ⟨h1, h2⟩ := hs
  unfold St.tell
  rw [h1, if_neg (by decide), if_pos (of_decide_eq_true h2)]

theorem oct_z (z : Int) (n : Nat) (hz : z = (n : Int)) (hn : n ≤ 2199023255552) (w : World) :
    Calls Try.prog 25 #[.int .i64 z] w fun e w' => e = .returned (.int .i64 (oct n : Nat)) ∧ w = w' := by
  subst hz; exact oct_any n hn w
set_option maxHeartbeats 2000000 in
theorem held_any {B : Nat} {w : World} {b most : Nat} {V1 V2 : Value} {s : St} (h : Df B w b most V1 V2 s) (hn : s.tot ≤ 1099511627776) :
    Calls Try.prog 13 #[.pointer (some ⟨b, 0, none⟩)] w fun e w' => ∃ q : Nat, e = .returned (.int .i64 (q : Nat)) ∧ q ≤ most + 1 ∧ ∃ j, w' = w.drewN j := by
  have c3 := h.cells.c3
  have c4 := h.cells.c4
  have c5 := h.cells.c5
  have hr := h.ok.row
  have ht : s.tot = s.count + s.row + s.ahead.toNat := rfl
  have hc : s.count ≤ 1099511627776 := by omega
  have HCA := Lib.hid h.cells
  cases hbad : (s.broken || decide (most < oct s.count))
  · have T := Lib.hid hbad
    have hmx := (Bool.or_eq_false_iff.1 hbad).2
    have hmx2 : oct s.count ≤ most := by have := of_decide_eq_false hmx; omega
    have hq : oct s.tot ≤ most + 1 := by
      have := Bool.toNat_le s.ahead
      unfold oct at hmx2 ⊢
      omega
    have HQ := Lib.hid hq
    clear hq hmx hmx2 hbad
    cases ha : s.ahead
    · have E := Lib.hid (show (s.count : Int) + (s.row : Int) = ((s.tot : Nat) : Int) by rw [ht, ha]; simp)
      rw [ha] at c4
      clear ha ht
      go_enter Try.func13, Try.ntmps13
      go_wp2_with fail
      refine (spoiled_is HCA.out (by omega) T).mono ?_
      rintro e w2 ⟨rfl, j, rfl⟩
      go_wp2_with fail
      go_quiet (fail)
      all_goals go_wp2_with fail
      refine (oct_z _ s.tot E.out (by omega) _).mono ?_
      rintro e w3 ⟨rfl, rfl⟩
      go_wp2_with fail
      go_ret
      exact ⟨oct s.tot, rfl, HQ.out, _, rfl⟩
    · have E := Lib.hid (show (s.count : Int) + (s.row : Int) + 1 = ((s.tot : Nat) : Int) by rw [ht, ha]; simp)
      rw [ha] at c4
      clear ha ht
      go_enter Try.func13, Try.ntmps13
      go_wp2_with fail
      refine (spoiled_is HCA.out (by omega) T).mono ?_
      rintro e w2 ⟨rfl, j, rfl⟩
      go_wp2_with fail
      go_quiet (fail)
      all_goals go_wp2_with fail
      refine (oct_z _ s.tot E.out (by omega) _).mono ?_
      rintro e w3 ⟨rfl, rfl⟩
      go_wp2_with fail
      go_ret
      exact ⟨oct s.tot, rfl, HQ.out, _, rfl⟩
  · have T := Lib.hid hbad
    clear hbad
    go_enter Try.func13, Try.ntmps13
    go_wp2_with fail
    refine (spoiled_is HCA.out (by omega) T).mono ?_
    rintro e w2 ⟨rfl, j, rfl⟩
    go_wp2_with fail
    go_ret
    exact ⟨0, rfl, by omega, j, rfl⟩

set_option maxHeartbeats 2000000 in
theorem end_any {B : Nat} {w : World} {b most : Nat} {V1 V2 : Value} {s : St} (h : Df B w b most V1 V2 s) (hn : s.count ≤ 1099511627776) :
    Calls Try.prog 21 #[.pointer (some ⟨b, 0, none⟩)] w fun e w' => e = .returned (.tuple #[.agg #[.int .i64 (tK most s : Nat), tV most V1 s], .bool (tB s)]) ∧ Df B w' b most (.slice none 0 0) (.slice none 0 0) St.start ∧ Offs (fun k => k = b) w w' := by
  obtain ⟨A, c, hV, _, _⟩ := own_form h.own1
  obtain ⟨A2, n2, c2, hV2⟩ : ∃ A2 n2 c2, tV most V1 s = .slice A2 n2 c2 := by
    unfold tV
    split
    · exact ⟨_, _, _, rfl⟩
    split
    · exact ⟨_, _, _, rfl⟩
    split
    · exact ⟨_, _, _, rfl⟩
    split
    · exact ⟨_, _, _, rfl⟩
    · exact ⟨_, _, _, hV⟩
  have hb := h.cells.lt
  go_enter Try.func21, Try.ntmps21
  go_wp2_with fail
  refine (tell_any (h.below ((Below.refl _ _).alloc (Nat.le_refl _) _)) hn).mono ?_
  rintro e w1 ⟨rfl, hb1⟩
  have hB1 : Below w.heap.size w w1 := ((Below.refl _ _).alloc (Nat.le_refl _) _).trans (hb1.mono (by simp))
  have hs1 : w.heap.size < w1.heap.size := by have := hb1.size; simp at this; omega
  have hb1' : b < w1.heap.size := by omega
  have hc1 := h.cells.off (X := fun _ => False) (.of_below hB1) id
  have f0 := hc1.fz 0
  have f1 := hc1.fz 1
  have f2 := hc1.fz 2
  have f3 := hc1.fz 3
  have f4 := hc1.fz 4
  have f5 := hc1.fz 5
  have f6 := hc1.fz 6
  have c0' := hc1.c0
  have c1' := hc1.c1
  have c2' := hc1.c2
  have c3' := hc1.c3
  have c4' := hc1.c4
  have c5' := hc1.c5
  have c6' := hc1.c6
  have hv : w1.heap[w.heap.size]? = some (.cells #[.int .i64 0, .slice none 0 0] 38 (0, 0)) := (hb1.block _ (by simp)).trans (heap_alloc_new w _)
  have v0 : w1.cell? ⟨w.heap.size, 0, none⟩ = some (.int .i64 0) := by rw [cell_of_row w1 _ 0 _ _ _ hv]; rfl
  have v1 : w1.cell? ⟨w.heap.size, 1, none⟩ = some (.slice none 0 0) := by rw [cell_of_row w1 _ 1 _ _ _ hv]; rfl
  have g0 := frozen_of_row w1 w.heap.size 0 _ _ hv
  have g1 := frozen_of_row w1 w.heap.size 1 _ _ hv
  have HC := Lib.hid hc1
  have hne : ¬ w.heap.size = b := by omega
  clear hc1 hv hb1
  rw [hV2]
  go_wp2
  refine bodyPost_ret (v := .tuple #[.agg #[.int .i64 (tK most s : Nat), .slice A2 n2 c2], .bool (tB s)]) ?_ rfl ⟨?_, ?_, ?_⟩
  · rw [results_cell_tmp rfl]; go_simp
  · rw [hV2]
  · have d1 := ((((((HC.out.set0.set1 (.slice none 0 0)).set2 (.slice none 0 0)).set3 0).set4 false).set5 0).set6 false)
    refine ⟨h.lo, ?_, World.ownsRow_nil _ _ _ _, World.ownsRow_nil _ _ _ _, Sep.nil1 _ _ _, ok_start _⟩
    refine (d1.off (X := fun k => k = w.heap.size) ?_ (fun e => hne e.symm)).off (X := fun _ => False) (.of_below ((Below.refl _ _).alloc (Nat.le_refl _) _)) id
    exact (Offs.set (X := fun k => k = w.heap.size) _ _ 0 _ rfl).trans (Offs.set (X := fun k => k = w.heap.size) _ _ 1 _ rfl) (fun _ h => h) (fun _ _ h => h)
  · refine (Offs.of_below (X := fun k => k = b) hB1).trans (Y := fun k => k = b ∨ k = w.heap.size) (.trans (X := fun k => k = b ∨ k = w.heap.size) (Y := fun _ => False) ?_ (.of_below ((Below.refl _ _).alloc (Nat.le_refl _) _)) (fun _ h => h) (fun _ _ h => h.elim)) (fun _ h => h) (fun i hi h => h.elim id (fun e => by omega))
    have st : ∀ (x : World) (j : Nat) (u : Value), Offs (fun k => k = b ∨ k = w.heap.size) w1 x → Offs (fun k => k = b ∨ k = w.heap.size) w1 (x.setCell ⟨b, j, none⟩ u) := fun x j u hx => hx.trans (Offs.set (X := fun k => k = b ∨ k = w.heap.size) _ _ _ _ (.inl rfl)) (fun _ h => h) (fun _ _ h => h)
    have su : ∀ (x : World) (j : Nat) (u : Value), Offs (fun k => k = b ∨ k = w.heap.size) w1 x → Offs (fun k => k = b ∨ k = w.heap.size) w1 (x.setCell ⟨w.heap.size, j, none⟩ u) := fun x j u hx => hx.trans (Offs.set (X := fun k => k = b ∨ k = w.heap.size) _ _ _ _ (.inr rfl)) (fun _ h => h) (fun _ _ h => h)
    exact su _ _ _ (su _ _ _ (st _ _ _ (st _ _ _ (st _ _ _ (st _ _ _ (st _ _ _ (st _ _ _ (st _ _ _ (Offs.refl _ _)))))))))

end Go.Proofs.Yteicednlgajpgaa
