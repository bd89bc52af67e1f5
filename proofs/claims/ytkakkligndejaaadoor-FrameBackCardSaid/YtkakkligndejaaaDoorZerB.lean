
/-
  What zero's Remove and the document's own Insert and Remove answer; the example of the document. No condition beyond: bytes below 256, lists of at most 2^38 elements.
-/
import Derived.Test.YtkakkligndejaaaDoorZerA
namespace Go.Proofs.YtkakkligndejaaaDoor
open Go.RowKit

theorem rem_bad {l : List Nat} (h : 5 < best l) : remB l = [] ∧ remE l = 10 := ⟨by rw [remB, if_pos h], by rw [remE, if_pos h]⟩
theorem rem_good {l : List Nat} (h : ¬ 5 < best l) : remB l = (remP l).1 ∧ remE l = 0 := ⟨by rw [remB, if_neg h], by rw [remE, if_neg h]⟩

/-- A bit of a byte, appended to what is written. -/
theorem mod2 {x : Nat} : ((x : Int) % 2) = ((x % 2 : Nat) : Int) := by omega

/-- Of what the document's answer looks at: the last five that are written. -/
theorem step_tail {l : List Nat} {k x y : Nat} (h : l[k]? = some x) (hy : x % 2 = y) :
    (tail5 ((insP (l.take k)).1 ++ [y]) → (insP (l.take (k + 1))).1 = (insP (l.take k)).1 ++ [y] ++ [0]) ∧ (¬ tail5 ((insP (l.take k)).1 ++ [y]) → (insP (l.take (k + 1))).1 = (insP (l.take k)).1 ++ [y]) := by
  rw [take_snoc h, insP_snoc, stepI]
  by_cases h0 : x % 2 = 0
  · have : y = 0 := by omega
    subst this
    rw [if_pos h0]
    exact ⟨fun ht => absurd ht (tail_no0 _), fun _ => rfl⟩
  · have : y = 1 := by omega
    subst this
    rw [if_neg h0]
    by_cases h4 : (insP (l.take k)).2 = 4
    · rw [if_pos h4]
      exact ⟨fun _ => rfl, fun hn => absurd (tail_yes h4) hn⟩
    · rw [if_neg h4]
      exact ⟨fun ht => absurd ht (tail_no1 h4), fun _ => rfl⟩

set_option maxHeartbeats 1000000 in
theorem rinsert_any (l : List Nat) (n : Nat) (A : Option Addr) (c : Nat) (w : World) (h : Rd w w.heap.size A l) (hb : By l) (hl : l.length = n) (hn : n ≤ 274877906944) :
    Calls Tryd.prog 29 #[.slice A n c] w fun e w' => ∃ A' c' k, e = .returned (.slice A' k c') ∧ New w w' A' c' k (insB l) := by
  obtain ⟨i0, hi, hz0, hz1, hz2⟩ := info_parts byte_info
  have HL := Lib.hid hl
  clear hl
  go_enter Tryd.func29, Tryd.ntmps29
  go_wp2_with fail
  have hown1 : (w.alloc (.cells #[] 5)).ownsRow w.heap.size 5 1 (.slice (some ⟨w.heap.size, 0, none⟩) 0 0) 0 (bvs (insP (l.take 0)).1) := World.ownsRow_lit w #[] 0 (Nat.le_refl _) (by unfold maxLen; omega) rfl
  have hb1 : Below w.heap.size w (w.alloc (.cells #[] 5)) := (Below.refl _ _).alloc (Nat.le_refl _) _
  go_loopw [3, 4] (fun v i wr => ∃ k q : Nat, k ≤ n ∧ i = .int .i64 k ∧ q ≤ 2 * k ∧ wr.ownsRow w.heap.size 5 1 v q (bvs (insP (l.take k)).1) ∧ Below w.heap.size w wr) (fun _ i _ => n - (intOf i).toNat)
  case atStart => exact ⟨0, 0, Nat.zero_le _, rfl, Nat.le_refl _, hown1, hb1⟩
  case round =>
    obtain ⟨k, q, hk, rfl, hq, hown, hbel⟩ := hrel
    clear hown1 hb1
    by_cases hlt : k < n
    · obtain ⟨b, o, x, rfl, hbb, hx, hc⟩ := (h.below hbel).at_ (k := k) (by rw [HL.out]; exact hlt)
      have hx256 := hb.get hx
      have HX := Lib.hid hx
      clear hx
      have i1 : (0 : Int) ≤ k := by omega
      have i2 : (k : Int) < n := by omega
      have x0 : (0 : Int) ≤ x := by omega
      have hszw := hbel.size
      obtain ⟨y, hy, ey⟩ : ∃ y : Nat, y < 2 ∧ Hid ((x : Int) % 2 = (y : Int) ∧ x % 2 = y) := ⟨x % 2, by omega, Lib.hid ⟨by omega, rfl⟩⟩
      have YE := Lib.hid (step_tail HX.out ey.out.2)
      have HLE := Lib.hid (show ((insP (l.take k)).1 ++ [y]).length = q + 1 by have := hown.1; rw [bvs_len] at this; simp; omega)
      by_cases h5 : q + 1 < 5
      · have i5 : (q : Int) + 1 < 5 := by omega
        have HN := Lib.hid (show (insP (l.take (k + 1))).1 = (insP (l.take k)).1 ++ [y] from YE.out.2 (fun ht => by have := ht.1; rw [HLE.out] at this; omega))
        go_wp2_with (at_builtin; refine wpList_append_own _ rfl _ _ 26 rfl w.heap.size 5 i0 (.int .u8 0) 1 1 Tryd.underlying26 hi hz0 hz1 hz2 rfl (by decide) _ _ _ rfl (hown.alloc _) ⟨wr.heap.size, 0, none⟩ 1 1 [.int .u8 ((x : Int) % 2)] rfl rfl (cell_one_new _ _ _) (fun x hx => by simp at hx; subst hx; rfl) (by unfold maxLen; omega) (by omega) (by simp; omega) ?_; intro v3 w3 hown3 hgrow3 hnil3; rw [ey.out.1] at hown3; have R := push_row hown3 (m := q + 1) rfl; have R2 := push_below hbel hown hgrow3; have hsz3 := R2.size; obtain ⟨A3, c3, rfl, hqc3, _⟩ := own_form R; clear hgrow3 hnil3 hown3 hown)
        rw [← HN.out] at R
        go_roundw
        case rel => exact ⟨k + 1, q + 1, by omega, by go_num, by omega, R, R2⟩
        case measure => simp [intOf]; omega
      · have i5 : ¬ (q : Int) + 1 < 5 := by omega
        go_wp2_with (at_builtin; refine wpList_append_own _ rfl _ _ 26 rfl w.heap.size 5 i0 (.int .u8 0) 1 1 Tryd.underlying26 hi hz0 hz1 hz2 rfl (by decide) _ _ _ rfl (hown.alloc _) ⟨wr.heap.size, 0, none⟩ 1 1 [.int .u8 ((x : Int) % 2)] rfl rfl (cell_one_new _ _ _) (fun x hx => by simp at hx; subst hx; rfl) (by unfold maxLen; omega) (by omega) (by simp; omega) ?_; intro v3 w3 hown3 hgrow3 hnil3; rw [ey.out.1] at hown3; have R := push_row hown3 (m := q + 1) rfl; have R2 := push_below hbel hown hgrow3; have hsz3 := R2.size; obtain ⟨A3, c3, rfl, hqc3, _⟩ := own_form R; clear hgrow3 hnil3 hown3 hown)
        have hr3 := Lib.hid (Rd.own R)
        have H5 := Lib.hid h5
        clear h5 i5
        go_loopw [6, 7] (fun a i w4 => ∃ (j m : Nat) (bb : Bool), j ≤ q + 1 ∧ q + 1 = 5 + m ∧ m ≤ j ∧ i = .int .i64 j ∧ a = .bool bb ∧ w4 = w3 ∧ Hid (bb = true ↔ ∀ j', m ≤ j' → j' < j → ((insP (l.take k)).1 ++ [y])[j']? = some 1)) (fun _ i _ => q + 1 - (intOf i).toNat)
        case atStart => exact ⟨q + 1 - 5, q + 1 - 5, true, by omega, by have := H5.out; omega, by omega, by have := H5.out; congr 1; omega, rfl, rfl, Lib.hid (by simp; intro j' h1 h2; omega)⟩
        case round =>
          obtain ⟨j, m, bb, hj, hm, hmj, rfl, rfl, rfl, hb5⟩ := hrel
          by_cases hlt2 : j < q + 1
          · obtain ⟨b3, o3, z, hA3, hb3, hz, hc3⟩ := hr3.out.at_ (k := j) (by rw [HLE.out]; exact hlt2)
            subst hA3
            have j1 : (0 : Int) ≤ j := by omega
            have j2 : (j : Int) < q + 1 := by omega
            have HZ := Lib.hid hz
            clear hz
            cases bb
            · have N1 := Lib.hid (show (false = true) ↔ ∀ j', m ≤ j' → j' < j + 1 → ((insP (l.take k)).1 ++ [y])[j']? = some 1 from ⟨fun h => (by cases h), fun h => hb5.out.2 fun j' h1 h2 => h j' h1 (by omega)⟩)
              go_wp2_with fail
              go_roundw
              case rel => exact ⟨j + 1, m, false, by omega, hm, by omega, by go_num, rfl, trivial, N1⟩
              case measure => simp [intOf]; omega
            · by_cases hz1' : z = 1
              · subst hz1'
                have N1 := Lib.hid (show (true = true) ↔ ∀ j', m ≤ j' → j' < j + 1 → ((insP (l.take k)).1 ++ [y])[j']? = some 1 from ⟨fun h j' h1 h2 => by
                  by_cases he : j' = j
                  · rw [he]; exact HZ.out
                  · exact hb5.out.1 h j' h1 (by omega), fun _ => rfl⟩)
                go_wp2_with fail
                go_roundw
                case rel => exact ⟨j + 1, m, true, by omega, hm, by omega, by go_num, rfl, trivial, N1⟩
                case measure => simp [intOf]; omega
              · have N1 := Lib.hid (show (false = true) ↔ ∀ j', m ≤ j' → j' < j + 1 → ((insP (l.take k)).1 ++ [y])[j']? = some 1 from ⟨fun h => (by cases h), fun h => by
                  have := h j hmj (by omega)
                  rw [HZ.out] at this
                  injection this with this
                  exact absurd this hz1'⟩)
                have ez : ((z : Int) == 1) = false := by rw [beq_eq_false_iff_ne]; omega
                go_wp2_with fail
                go_roundw
                case rel => exact ⟨j + 1, m, false, by omega, hm, by omega, by go_num, rfl, trivial, N1⟩
                case measure => simp [intOf]; omega
          · have hjq : j = q + 1 := by omega
            subst hjq
            have HT := Lib.hid (show bb = true ↔ tail5 ((insP (l.take k)).1 ++ [y]) from hb5.out.trans ⟨fun h => ⟨by rw [HLE.out]; omega, fun j' h1 h2 => h j' (by rw [HLE.out] at h1; omega) (by rw [HLE.out] at h2; exact h2)⟩, fun h j' h1 h2 => h.2 j' (by rw [HLE.out]; omega) (by rw [HLE.out]; exact h2)⟩)
            have hsz4 := R2.size
            cases bb
            · have HN := Lib.hid (show (insP (l.take (k + 1))).1 = (insP (l.take k)).1 ++ [y] from YE.out.2 (fun ht => by have := HT.out.2 ht; cases this))
              clear hlt2
              go_wp2_with fail
              rw [← HN.out] at R
              go_roundw
              case rel => exact ⟨k + 1, q + 1, by omega, by go_num, by omega, R, R2⟩
              case measure => simp [intOf]; omega
            · have HN := Lib.hid (show (insP (l.take (k + 1))).1 = (insP (l.take k)).1 ++ [y] ++ [0] from YE.out.1 (HT.out.1 rfl))
              clear hlt2
              go_wp2_with (at_builtin; refine wpList_append_own _ rfl _ _ 26 rfl w.heap.size 5 i0 (.int .u8 0) 1 1 Tryd.underlying26 hi hz0 hz1 hz2 rfl (by decide) _ _ _ rfl (R.alloc _) ⟨wr.heap.size, 0, none⟩ 1 1 [.int .u8 (0 : Nat)] rfl rfl (cell_one_new _ _ _) (fun x hx => by simp at hx; subst hx; rfl) (by unfold maxLen; omega) (by omega) (by simp; omega) ?_; intro v5 w5 hown5 hgrow5 hnil5)
              have S := push_row hown5 (m := q + 2) rfl
              rw [← HN.out] at S
              have S2 := push_below R2 R hgrow5
              go_roundw
              case rel => exact ⟨k + 1, q + 2, by omega, by go_num, by omega, S, S2⟩
              case measure => simp [intOf]; omega
    · go_wp2
      go_ret
      have he : k = n := by omega
      subst he
      rw [List.take_of_length_le (by rw [HL.out]; omega)] at hown
      obtain ⟨A', c', rfl, hN⟩ := New.mk hown hbel
      exact ⟨A', c', q, rfl, hN⟩

end Go.Proofs.YtkakkligndejaaaDoor
