
/-
  What the reading of escaped octets answers: the code's read, the document's Read and Unstuff. No condition beyond: maps below 2^32, bytes below 256, lists of at most 2^38 elements.
-/
import Derived.Test.YtdpkccbcfedhbaaStfA
namespace Go.Proofs.Ytdpkccbcfedhbaa
open Go.RowKit

theorem rdStep_esc {s : List Nat × Bool} (h : s.2 = true) (c : Nat) : rdStep s c = (s.1 ++ [turn c], false) := by simp [rdStep, h]
theorem rdStep_mark {s : List Nat × Bool} (h : s.2 = false) : rdStep s 125 = (s.1, true) := by simp [rdStep, h]
theorem rdStep_plain {s : List Nat × Bool} (h : s.2 = false) {c : Nat} (hc : c ≠ 125) : rdStep s c = (s.1 ++ [c], false) := by simp [rdStep, h, hc]

set_option maxHeartbeats 1000000 in
theorem rread_any (l : List Nat) (n : Nat) (A : Option Addr) (c : Nat) (w : World) (h : Rd w w.heap.size A l) (hb : By l) (hl : l.length = n) (hn : n ≤ 274877906944) :
    Calls Try.prog 27 #[.slice A n c] w fun e w' => ∃ A' c' k, e = .returned (.tuple #[.slice A' k c', .bool (!(rdF l).2)]) ∧ k ≤ n ∧ New w w' A' c' k (rdF l).1 := by
  obtain ⟨i0, hi, hz0, hz1, hz2⟩ := info_parts byte_info
  have HL := Lib.hid hl
  clear hl
  go_enter Try.func27, Try.ntmps27
  go_wp2_with fail
  have hown1 : (w.alloc (.cells #[] 5)).ownsRow w.heap.size 5 1 (.slice (some ⟨w.heap.size, 0, none⟩) 0 0) 0 (bvs (rdF (l.take 0)).1) := World.ownsRow_lit w #[] 0 (Nat.le_refl _) (by unfold maxLen; omega) rfl
  have hb1 : Below w.heap.size w (w.alloc (.cells #[] 5)) := (Below.refl _ _).alloc (Nat.le_refl _) _
  go_loopw [4, 5, 6] (fun v s i wr => ∃ k q : Nat, ∃ t : Bool, k ≤ n ∧ i = .int .i64 k ∧ s = .bool t ∧ Hid (t = (rdF (l.take k)).2) ∧ q ≤ k ∧ wr.ownsRow w.heap.size 5 1 v q (bvs (rdF (l.take k)).1) ∧ Below w.heap.size w wr) (fun _ _ i _ => n - (intOf i).toNat)
  case atStart => exact ⟨0, 0, false, Nat.zero_le _, rfl, rfl, Lib.hid rfl, Nat.le_refl _, hown1, hb1⟩
  case round =>
    obtain ⟨k, q, t, hk, rfl, rfl, ht, hq, hown, hbel⟩ := hrel
    clear hown1 hb1
    by_cases hlt : k < n
    · obtain ⟨b, o, x, rfl, hbb, hx, hc⟩ := (h.below hbel).at_ (k := k) (by rw [HL.out]; exact hlt)
      have hx256 := hb.get hx
      have HX := Lib.hid hx
      clear hx
      have i1 : (0 : Int) ≤ k := by omega
      have i2 : (k : Int) < n := by omega
      have hszw := hbel.size
      cases t
      · by_cases h5 : x = 125
        · subst h5
          have RE := Lib.hid (show rdF (l.take (k + 1)) = ((rdF (l.take k)).1, true) by rw [rdF_take HX.out, rdStep_mark ht.out.symm])
          have R := hown
          rw [show (rdF (l.take k)).1 = (rdF (l.take (k + 1))).1 by rw [RE.out]] at R
          have RT := Lib.hid (show true = (rdF (l.take (k + 1))).2 by rw [RE.out])
          go_wp2_with fail
          go_roundw
          case rel => exact ⟨k + 1, q, true, by omega, by go_num, rfl, RT, by omega, R, hbel⟩
          case measure => simp [intOf]; omega
        · have RE := Lib.hid (show rdF (l.take (k + 1)) = ((rdF (l.take k)).1 ++ [x], false) by rw [rdF_take HX.out, rdStep_plain ht.out.symm h5])
          have e5 : ((x : Int) == 125) = false := by simp; omega
          have RT := Lib.hid (show false = (rdF (l.take (k + 1))).2 by rw [RE.out])
          go_wp2_with (at_builtin; refine wpList_append_own _ rfl _ _ 28 rfl w.heap.size 5 i0 (.int .u8 0) 1 1 Try.underlying28 hi hz0 hz1 hz2 rfl (by decide) _ _ _ rfl (hown.alloc _) ⟨wr.heap.size, 0, none⟩ 1 1 [.int .u8 (x : Int)] rfl rfl (cell_one_new _ _ _) (fun x hx => by simp at hx; subst hx; rfl) (by unfold maxLen; omega) (by omega) (by simp; omega) ?_; intro v' w3 hown3 hgrow3 hnil3)
          have R := push_row hown3 (m := q + 1) rfl
          rw [show (rdF (l.take k)).1 ++ [x] = (rdF (l.take (k + 1))).1 by rw [RE.out]] at R
          have R2 := push_below hbel hown hgrow3
          go_roundw
          case rel => exact ⟨k + 1, q + 1, false, by omega, by go_num, rfl, RT, by omega, R, R2⟩
          case measure => simp [intOf]; omega
      · have RE := Lib.hid (show rdF (l.take (k + 1)) = ((rdF (l.take k)).1 ++ [turn x], false) by rw [rdF_take HX.out, rdStep_esc ht.out.symm])
        have RT := Lib.hid (show false = (rdF (l.take (k + 1))).2 by rw [RE.out])
        go_wp2_with (first
          | (go_at_call 31; refine (turn_any x hx256 _).mono ?_; rintro e w' ⟨rfl, rfl⟩)
          | (at_builtin; refine wpList_append_own _ rfl _ _ 28 rfl w.heap.size 5 i0 (.int .u8 0) 1 1 Try.underlying28 hi hz0 hz1 hz2 rfl (by decide) _ _ _ rfl (hown.alloc _) ⟨wr.heap.size, 0, none⟩ 1 1 [.int .u8 (turn x : Int)] rfl rfl (cell_one_new _ _ _) (fun x hx => by simp at hx; subst hx; rfl) (by unfold maxLen; omega) (by omega) (by simp; omega) ?_; intro v' w3 hown3 hgrow3 hnil3))
        have R := push_row hown3 (m := q + 1) rfl
        rw [show (rdF (l.take k)).1 ++ [turn x] = (rdF (l.take (k + 1))).1 by rw [RE.out]] at R
        have R2 := push_below hbel hown hgrow3
        go_roundw
        case rel => exact ⟨k + 1, q + 1, false, by omega, by go_num, rfl, RT, by omega, R, R2⟩
        case measure => simp [intOf]; omega
    · have he : k = n := by omega
      rw [he, List.take_of_length_le (by rw [HL.out]; omega)] at hown
      rw [he, List.take_of_length_le (by rw [HL.out]; omega)] at ht
      clear he
      cases t
      all_goals
        go_wp2
        go_ret2
        obtain ⟨A', c', rfl, hN⟩ := New.mk hown hbel
        exact ⟨A', c', q, by rw [← ht.out]; rfl, by omega, hN⟩

theorem flag_zero (l : List Nat) : flagIn (l.take 0) = false := by simp [flagIn]
theorem flag_take {l : List Nat} {k x : Nat} (h : l[k]? = some x) : flagIn (l.take (k + 1)) = (flagIn (l.take k) || decide (x = 126)) := by
  unfold flagIn
  rw [List.take_add_one, h, Option.toList_some]
  by_cases e : x = 126
  · subst e; simp
  · have : ¬ 126 = x := fun h => e h.symm
    simp [e, this]
theorem flag_mem {l : List Nat} {k : Nat} (h : l[k]? = some 126) : flagIn l = true := by
  unfold flagIn
  rw [decide_eq_true_iff]
  exact List.mem_of_getElem? h
theorem unst_flag {m : Nat} {l : List Nat} (h : flagIn l = true) : unst m l = ([], 4) := by simp [unst, h]
theorem unst_abort {m : Nat} {l : List Nat} (h : flagIn l = false) (h2 : (rdF (leftB m l)).2 = true) : unst m l = ([], 10) := by simp [unst, h, h2]
theorem unst_ok {m : Nat} {l : List Nat} (h : flagIn l = false) (h2 : (rdF (leftB m l)).2 = false) : unst m l = ((rdF (leftB m l)).1, 0) := by simp [unst, h, h2]

/-- What both Unstuffs answer. -/
def Unst (m : Nat) (l : List Nat) (n : Nat) (w : World) (e : Ending) (w' : World) : Prop :=
  ∃ A' c' k, e = .returned (.tuple #[.slice A' k c', .int .i64 ((unst m l).2 : Int)]) ∧ k ≤ n ∧ (unst m l).1.length = k ∧ Rd w' w'.heap.size A' (unst m l).1 ∧ Below w.heap.size w w'

end Go.Proofs.Ytdpkccbcfedhbaa
