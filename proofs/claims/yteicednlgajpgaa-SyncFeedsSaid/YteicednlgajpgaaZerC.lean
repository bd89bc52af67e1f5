
/-
  What the document's own Remove answers; the example of the document. No condition beyond: bytes below 256, lists of at most 2^38 elements.
-/
import Derived.Test.YteicednlgajpgaaZerB
namespace Go.Proofs.Yteicednlgajpgaa
open Go.RowKit

theorem best_take_snoc {l : List Nat} {k x : Nat} (h : l[k]? = some x) (hb : best (l.take k) ≤ 5) (hx : x % 2 = 0 ∨ (remP (l.take k)).2 + 1 ≤ 5) : best (l.take (k + 1)) ≤ 5 := by
  rw [take_snoc h, best_snoc, ← remP_row]
  split <;> omega
theorem best_take_six {l : List Nat} {k x : Nat} (h : l[k]? = some x) (hx : x % 2 = 1) (hr : (remP (l.take k)).2 = 5) : 5 < best l := by
  have := best_take l (k + 1)
  rw [take_snoc h, best_snoc, ← remP_row, if_pos hx, hr] at this
  omega

set_option maxHeartbeats 1000000 in
theorem rremove_any (l : List Nat) (n : Nat) (A : Option Addr) (c : Nat) (w : World) (h : Rd w w.heap.size A l) (hb : By l) (hl : l.length = n) (hn : n ≤ 274877906944) :
    Calls Try.prog 34 #[.slice A n c] w fun e w' => ∃ A' c' k, e = .returned (.tuple #[.slice A' k c', .int .i64 (remE l : Int)]) ∧ k ≤ n ∧ (remB l).length = k ∧ Rd w' w'.heap.size A' (remB l) ∧ Below w.heap.size w w' := by
  obtain ⟨i0, hi, hz0, hz1, hz2⟩ := info_parts byte_info
  have HL := Lib.hid hl
  clear hl
  go_enter Try.func34, Try.ntmps34
  go_wp2_with fail
  have hown1 : (w.alloc (.cells #[] 5)).ownsRow w.heap.size 5 1 (.slice (some ⟨w.heap.size, 0, none⟩) 0 0) 0 (bvs (remP (l.take 0)).1) := World.ownsRow_lit w #[] 0 (Nat.le_refl _) (by unfold maxLen; omega) rfl
  have hb1 : Below w.heap.size w (w.alloc (.cells #[] 5)) := (Below.refl _ _).alloc (Nat.le_refl _) _
  go_loopw [4, 5, 6] (fun v r i wr => ∃ k q t : Nat, k ≤ n ∧ i = .int .i64 k ∧ r = .int .i64 t ∧ t ≤ 5 ∧ q ≤ k ∧ Hid ((remP (l.take k)).2 = t) ∧ Hid (best (l.take k) ≤ 5) ∧ wr.ownsRow w.heap.size 5 1 v q (bvs (remP (l.take k)).1) ∧ Below w.heap.size w wr) (fun _ _ i _ => n - (intOf i).toNat)
  case atStart => exact ⟨0, 0, 0, Nat.zero_le _, rfl, rfl, by omega, Nat.le_refl _, Lib.hid rfl, Lib.hid (by simp [best]), hown1, hb1⟩
  case round =>
    obtain ⟨k, q, t, hk, rfl, rfl, ht, hq, hrow, hbest, hown, hbel⟩ := hrel
    clear hown1 hb1
    by_cases hlt : k < n
    · obtain ⟨b, o, x, rfl, hbb, hx, hc⟩ := (h.below hbel).at_ (k := k) (by rw [HL.out]; exact hlt)
      have hx256 := hb.get hx
      have HX := Lib.hid hx
      clear hx
      have i1 : (0 : Int) ≤ k := by omega
      have i2 : (k : Int) < n := by omega
      have x0 : (0 : Int) ≤ x := by omega
      have hszw := hbel.size
      by_cases ho : x % 2 = 1
      · have hb1 : ((x : Int) % 2 == 1) = true := by rw [beq_iff_eq]; omega
        have HO := Lib.hid ho
        clear ho
        by_cases h5 : t = 5
        · have HP := Lib.hid (rem_bad (best_take_six HX.out HO.out (by rw [hrow.out]; exact h5)))
          have e5 : ((t : Int) + 1 == 6) = true := by rw [beq_iff_eq]; omega
          clear h5
          go_wp2_with fail
          go_ret2
          exact ⟨none, 0, 0, by rw [HP.out.2]; rfl, Nat.zero_le _, by rw [HP.out.1]; rfl, by rw [HP.out.1]; exact Rd.nil, hbel⟩
        · have e5 : ((t : Int) + 1 == 6) = false := by rw [beq_eq_false_iff_ne]; omega
          have ht5 : t + 1 ≤ 5 := by omega
          have RE := Lib.hid (show remP (l.take (k + 1)) = ((remP (l.take k)).1 ++ [1], t + 1) by
            have := HO.out
            rw [take_snoc HX.out, remP_snoc, stepQ, hrow.out, if_neg h5, HO.out]; rfl)
          have RB := Lib.hid (best_take_snoc HX.out hbest.out (.inr (by rw [hrow.out]; omega)))
          clear h5
          go_wp2_with (at_builtin; refine wpList_append_own _ rfl _ _ 27 rfl w.heap.size 5 i0 (.int .u8 0) 1 1 Try.underlying27 hi hz0 hz1 hz2 rfl (by decide) _ _ _ rfl (hown.alloc _) ⟨wr.heap.size, 0, none⟩ 1 1 [.int .u8 (1 : Nat)] rfl rfl (cell_one_new _ _ _) (fun x hx => by simp at hx; subst hx; rfl) (by unfold maxLen; omega) (by omega) (by simp; omega) ?_; intro v3 w3 hown3 hgrow3 hnil3)
          have R := push_row hown3 (m := q + 1) rfl
          rw [show (remP (l.take k)).1 ++ [1] = (remP (l.take (k + 1))).1 by rw [RE.out]] at R
          have R2 := push_below hbel hown hgrow3
          have R3 := Lib.hid (show (remP (l.take (k + 1))).2 = t + 1 by rw [RE.out])
          go_roundw
          case rel => exact ⟨k + 1, q + 1, t + 1, by omega, by go_num, by go_num, by omega, by omega, R3, RB, R, R2⟩
          case measure => simp [intOf]; omega
      · have hb1 : ((x : Int) % 2 == 1) = false := by rw [beq_eq_false_iff_ne]; omega
        have h0 : x % 2 = 0 := by omega
        have RB := Lib.hid (best_take_snoc HX.out hbest.out (.inl h0))
        have HO := Lib.hid h0
        clear ho h0
        by_cases h5 : t = 5
        · have e5 : ¬ (t : Int) < 5 := by omega
          have RE := Lib.hid (show remP (l.take (k + 1)) = ((remP (l.take k)).1, 0) by
            rw [take_snoc HX.out, remP_snoc, stepQ, hrow.out, if_pos h5, HO.out]; rfl)
          have R3 := Lib.hid (show (remP (l.take (k + 1))).2 = 0 by rw [RE.out])
          have R := hown
          rw [show (remP (l.take k)).1 = (remP (l.take (k + 1))).1 by rw [RE.out]] at R
          clear h5
          go_wp2_with fail
          go_roundw
          case rel => exact ⟨k + 1, q, 0, by omega, by go_num, rfl, by omega, by omega, R3, RB, R, hbel⟩
          case measure => simp [intOf]; omega
        · have e5 : (t : Int) < 5 := by omega
          have RE := Lib.hid (show remP (l.take (k + 1)) = ((remP (l.take k)).1 ++ [0], 0) by
            rw [take_snoc HX.out, remP_snoc, stepQ, hrow.out, if_neg h5, HO.out]; rfl)
          clear h5
          go_wp2_with (at_builtin; refine wpList_append_own _ rfl _ _ 27 rfl w.heap.size 5 i0 (.int .u8 0) 1 1 Try.underlying27 hi hz0 hz1 hz2 rfl (by decide) _ _ _ rfl (hown.alloc _) ⟨wr.heap.size, 0, none⟩ 1 1 [.int .u8 (0 : Nat)] rfl rfl (cell_one_new _ _ _) (fun x hx => by simp at hx; subst hx; rfl) (by unfold maxLen; omega) (by omega) (by simp; omega) ?_; intro v3 w3 hown3 hgrow3 hnil3)
          have R := push_row hown3 (m := q + 1) rfl
          rw [show (remP (l.take k)).1 ++ [0] = (remP (l.take (k + 1))).1 by rw [RE.out]] at R
          have R2 := push_below hbel hown hgrow3
          have R3 := Lib.hid (show (remP (l.take (k + 1))).2 = 0 by rw [RE.out])
          go_roundw
          case rel => exact ⟨k + 1, q + 1, 0, by omega, by go_num, rfl, by omega, by omega, R3, RB, R, R2⟩
          case measure => simp [intOf]; omega
    · go_wp2
      go_ret2
      have he : k = n := by omega
      subst he
      have hbs := hbest.out
      rw [List.take_of_length_le (by rw [HL.out]; omega)] at hown hbs
      have HP := rem_good (l := l) (by omega)
      rw [← HP.1] at hown
      obtain ⟨A', c', rfl, hl', -, hr', hB'⟩ := New.mk hown hbel
      exact ⟨A', c', q, by rw [HP.2]; rfl, by omega, hl', hr', hB'⟩

end Go.Proofs.Yteicednlgajpgaa
