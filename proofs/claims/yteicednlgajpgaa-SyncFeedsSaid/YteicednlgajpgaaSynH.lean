
/-
  A deframer of bits in memory: one, settle, tell, end, Held. No condition beyond: most and the bits counted at most 2^40.
-/
import Derived.Test.YteicednlgajpgaaSynE
namespace Go.Proofs.Yteicednlgajpgaa
open Go.RowKit

set_option maxHeartbeats 1000000 in
theorem one_any {B : Nat} {w : World} {b most : Nat} {V1 V2 : Value} {s : St} (h : Df B w b most V1 V2 s) :
    Calls Try.prog 19 #[.pointer (some ⟨b, 0, none⟩)] w fun e w' => e = .returned (.tuple #[]) ∧ Dk B w w' b most V1 V2 s.one := by
  have c5 := h.cells.c5
  have f5 := h.cells.fz 5
  have f6 := h.cells.fz 6
  have c6 := h.cells.c6
  have hb := h.cells.lt
  have K := Lib.hid (ok_one h.ok)
  have hr := h.ok.row
  by_cases h6 : 6 ≤ s.row
  · have E := Lib.hid (show s.one = ⟨[], [], s.count, s.ahead, 7, true⟩ by unfold St.one; rw [if_pos h6])
    have i1 : (if (7 : Int) < (s.row : Int) + 1 then (7 : Int) else (s.row : Int) + 1) = 7 := by split <;> omega
    have HS := Lib.hid h6
    clear h6
    have hd := (h.cells.set5 7).set6 true
    have ho := (Offs.set (X := fun i => i = b) w b 5 (.int .i64 (7 : Nat)) rfl).trans (Z := fun i => i = b) (Offs.set (X := fun i => i = b) _ b 6 (.bool true) rfl) (fun _ h => h) (fun _ _ h => h)
    go_enter Try.func19, Try.ntmps19
    go_wp2_with fail
    refine (drop_any hd).mono ?_
    rintro e w3 ⟨rfl, hd3, ho3⟩
    go_wp2_with fail
    refine bodyPost_end (results_none rfl _ _ _) rfl ⟨rfl, .slice none 0 0, .slice none 0 0, ?_, ?_, Mv.nil _ _ _ _, Mv.nil _ _ _ _⟩
    · rw [E.out]
      exact ⟨h.lo, hd3, World.ownsRow_nil _ _ _ _, World.ownsRow_nil _ _ _ _, Sep.nil1 _ _ _, by rw [← E.out]; exact K.out⟩
    · exact (ho.trans (Z := fun i => i = b) ho3 (fun _ h => h) (fun _ _ h => h)).more (fun _ _ h => .inl h)
  · have E := Lib.hid (show s.one = ⟨s.held, s.begun, s.count, s.ahead, s.row + 1, s.broken⟩ by unfold St.one; rw [if_neg h6])
    have i1 : ¬ ((7 : Int) < (s.row : Int) + 1) := by omega
    have i2 : ¬ ((6 : Int) < (s.row : Int) + 1) := by omega
    have hd := (h.cells.set5 (s.row + 1))
    go_enter Try.func19, Try.ntmps19
    go_wp2_with fail
    refine bodyPost_end (results_none rfl _ _ _) rfl ⟨rfl, V1, V2, ?_, Offs.set _ _ _ _ (.inl rfl), Mv.refl _ _, Mv.refl _ _⟩
    have ho := Offs.set (X := fun i => i = b) w b 5 (.int .i64 ((s.row : Int) + 1)) rfl
    rw [E.out]
    exact ⟨h.lo, hd, own_off h.own1 ho (fun k hk e => h.ne1 (by rw [hk, e])), own_off h.own2 ho (fun k hk e => h.ne2 (by rw [hk, e])), h.sep, by rw [← E.out]; exact K.out⟩

set_option maxHeartbeats 2000000 in
theorem settle_any {B : Nat} {w : World} {b most : Nat} {V1 V2 : Value} {s : St} (h : Df B w b most V1 V2 s) (hn : s.tot ≤ 1099511627776) (hm : most ≤ 1099511627776) (hB : B ≤ w.heap.size) :
    Calls Try.prog 20 #[.pointer (some ⟨b, 0, none⟩)] w fun e w' => e = .returned (.tuple #[]) ∧ Dk B w w' b most V1 V2 (s.settle most) := by
  have K := Lib.hid (ok_settle h.ok)
  have hr7 := h.ok.row
  have HN := Lib.hid hn
  obtain ⟨q, hq, HQ⟩ : ∃ q : Bool, ((s.row : Int) != 5) = q ∧ Hid (decide (s.row ≠ 5) = q) := ⟨_, rfl, Lib.hid (by
    by_cases h5 : s.row = 5
    · simp [h5]
    · have : ¬ (s.row : Int) = 5 := by omega
      simp [h5, this])⟩
  have c4 := h.cells.c4
  cases ha : s.ahead
  · have HD := Lib.hid (show s.first most = s by unfold St.first; rw [ha]; rfl)
    rw [ha] at c4
    obtain ⟨U1, U2, hD, hoD, mD1, mD2⟩ : Dk B w w b most V1 V2 (s.first most) := by rw [HD.out]; exact Dk.refl h
    clear ha hn
    go_enter Try.func20, Try.ntmps20
    have c5 := hD.cells.c5
    rw [first_row] at c5
    have hB1 := Nat.le_trans hB hoD.size
    go_wp2_with fail
    go_loopw [12] (fun i wr => ∃ k : Nat, k ≤ s.row ∧ i = .int .i64 k ∧ Dk B w wr b most V1 V2 (St.keeps most (s.first most) k)) (fun i _ => s.row - (intOf i).toNat)
    case atStart => exact ⟨0, Nat.zero_le _, rfl, U1, U2, hD, hoD, mD1, mD2⟩
    case round =>
      obtain ⟨k, hk, rfl, X1, X2, hX, hoX, mX1, mX2⟩ := hrel
      clear c5
      by_cases hlt : k < s.row
      · have i1 : (0 : Int) ≤ k := by omega
        have i2 : (k : Int) < s.row := by omega
        have hcnt : (St.keeps most (s.first most) k).count ≤ 1099511627776 := by rw [keeps_count, first_count]; have := HN.out; unfold St.tot at this; omega
        go_wp2_with fail
        refine (keep_any hX 1 (by omega) hcnt hm (Nat.le_trans hB hoX.size)).mono ?_
        rintro e w2 ⟨rfl, hk2⟩
        have R := Dk.step hoX mX1 mX2 hk2
        go_wp2_with fail
        go_roundw
        case rel => exact ⟨k + 1, by omega, by go_num, R⟩
        case measure => simp [intOf]; omega
      · have hke : k = s.row := by omega
        have i2 : ¬ (k : Int) < s.row := by omega
        have c5 := hX.cells.c5
        rw [keeps_row, first_row] at c5
        have f4 := hX.cells.fz 4
        have f5 := hX.cells.fz 5
        have c4 := hX.cells.c4
        have hb' := hX.cells.lt
        have HKE := Lib.hid hke
        clear hke hlt
        go_wp2_with fail
        refine bodyPost_end (results_none rfl _ _ _) rfl ⟨rfl, Dk.step hoX mX1 mX2 ⟨X1, X2, ?_, (Offs.set (X := Xs b X1 X2) wr b 4 (.bool q) (.inl rfl)).trans (Z := Xs b X1 X2) (Offs.set (X := Xs b X1 X2) _ b 5 (.int .i64 0) (.inl rfl)) (fun _ h => h) (fun _ _ h => h), Mv.refl _ _, Mv.refl _ _⟩⟩
        have ho9 := (Offs.set (X := fun i => i = b) wr b 4 (.bool q) rfl).trans (Z := fun i => i = b) (Offs.set (X := fun i => i = b) _ b 5 (.int .i64 0) rfl) (fun _ h => h) (fun _ _ h => h)
        have hX9 := hX
        rw [HKE.out] at hX9
        have hcc := (hX9.cells.set4 q).set5 0
        refine ⟨hX.lo, ?_, own_off hX9.own1 ho9 (fun k hk e => hX.ne1 (by rw [hk, e])), own_off hX9.own2 ho9 (fun k hk e => hX.ne2 (by rw [hk, e])), hX.sep, K.out⟩
        show Dc _ b most X1 X2 (St.keeps most (s.first most) s.row).count (decide (s.row ≠ 5)) 0 (St.keeps most (s.first most) s.row).broken
        rw [HQ.out]
        exact hcc
  · have HD := Lib.hid (show s.first most = s.keep most 0 by unfold St.first; rw [ha]; rfl)
    rw [ha] at c4
    have hcnt : s.count ≤ 1099511627776 := by unfold St.tot at hn; omega
    clear ha hn
    go_enter Try.func20, Try.ntmps20
    go_wp2_with fail
    refine (keep_any h 0 (by omega) hcnt hm hB).mono ?_
    rintro e w1 ⟨rfl, hk1⟩
    rw [← HD.out] at hk1
    obtain ⟨U1, U2, hD, hoD, mD1, mD2⟩ := hk1
    have c5 := hD.cells.c5
    rw [first_row] at c5
    have hB1 := Nat.le_trans hB hoD.size
    go_wp2_with fail
    go_loopw [12] (fun i wr => ∃ k : Nat, k ≤ s.row ∧ i = .int .i64 k ∧ Dk B w wr b most V1 V2 (St.keeps most (s.first most) k)) (fun i _ => s.row - (intOf i).toNat)
    case atStart => exact ⟨0, Nat.zero_le _, rfl, U1, U2, hD, hoD, mD1, mD2⟩
    case round =>
      obtain ⟨k, hk, rfl, X1, X2, hX, hoX, mX1, mX2⟩ := hrel
      clear c5
      by_cases hlt : k < s.row
      · have i1 : (0 : Int) ≤ k := by omega
        have i2 : (k : Int) < s.row := by omega
        have hcnt : (St.keeps most (s.first most) k).count ≤ 1099511627776 := by rw [keeps_count, first_count]; have := HN.out; unfold St.tot at this; omega
        go_wp2_with fail
        refine (keep_any hX 1 (by omega) hcnt hm (Nat.le_trans hB hoX.size)).mono ?_
        rintro e w2 ⟨rfl, hk2⟩
        have R := Dk.step hoX mX1 mX2 hk2
        go_wp2_with fail
        go_roundw
        case rel => exact ⟨k + 1, by omega, by go_num, R⟩
        case measure => simp [intOf]; omega
      · have hke : k = s.row := by omega
        have i2 : ¬ (k : Int) < s.row := by omega
        have c5 := hX.cells.c5
        rw [keeps_row, first_row] at c5
        have f4 := hX.cells.fz 4
        have f5 := hX.cells.fz 5
        have c4 := hX.cells.c4
        have hb' := hX.cells.lt
        have HKE := Lib.hid hke
        clear hke hlt
        go_wp2_with fail
        refine bodyPost_end (results_none rfl _ _ _) rfl ⟨rfl, Dk.step hoX mX1 mX2 ⟨X1, X2, ?_, (Offs.set (X := Xs b X1 X2) wr b 4 (.bool q) (.inl rfl)).trans (Z := Xs b X1 X2) (Offs.set (X := Xs b X1 X2) _ b 5 (.int .i64 0) (.inl rfl)) (fun _ h => h) (fun _ _ h => h), Mv.refl _ _, Mv.refl _ _⟩⟩
        have ho9 := (Offs.set (X := fun i => i = b) wr b 4 (.bool q) rfl).trans (Z := fun i => i = b) (Offs.set (X := fun i => i = b) _ b 5 (.int .i64 0) rfl) (fun _ h => h) (fun _ _ h => h)
        have hX9 := hX
        rw [HKE.out] at hX9
        have hcc := (hX9.cells.set4 q).set5 0
        refine ⟨hX.lo, ?_, own_off hX9.own1 ho9 (fun k hk e => hX.ne1 (by rw [hk, e])), own_off hX9.own2 ho9 (fun k hk e => hX.ne2 (by rw [hk, e])), hX.sep, K.out⟩
        show Dc _ b most X1 X2 (St.keeps most (s.first most) s.row).count (decide (s.row ≠ 5)) 0 (St.keeps most (s.first most) s.row).broken
        rw [HQ.out]
        exact hcc

end Go.Proofs.Yteicednlgajpgaa
