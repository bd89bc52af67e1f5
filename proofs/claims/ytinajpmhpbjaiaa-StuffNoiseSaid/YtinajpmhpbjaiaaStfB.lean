
/-
  What the reading of escaped octets answers: the code's read, the document's Read and Unstuff. No condition beyond: maps below 2^32, bytes below 256, lists of at most 2^38 elements.
-/
import Derived.Test.YtinajpmhpbjaiaaStfA
namespace Go.Proofs.Ytinajpmhpbjaiaa
open Go.RowKit

theorem rdStep_esc {s : List Nat × Bool} (h : s.2 = true) (c : Nat) : rdStep s c = (s.1 ++ [turn c], false) := by simp [rdStep, h]
theorem rdStep_mark {s : List Nat × Bool} (h : s.2 = false) : rdStep s 125 = (s.1, true) := by simp [rdStep, h]
theorem rdStep_plain {s : List Nat × Bool} (h : s.2 = false) {c : Nat} (hc : c ≠ 125) : rdStep s c = (s.1 ++ [c], false) := by simp [rdStep, h, hc]

set_option maxHeartbeats 1000000 in
theorem read_any (l : List Nat) (n : Nat) (A : Option Addr) (c : Nat) (w : World) (h : Rd w w.heap.size A l) (hb : By l) (hl : l.length = n) (hn : n ≤ 274877906944) :
    Calls Try.prog 18 #[.slice A n c] w fun e w' =>
      ((rdF l).2 = true ∧ e = .returned (.tuple #[.slice none 0 0, .int .i64 10]) ∧ Below w.heap.size w w') ∨
      ((rdF l).2 = false ∧ ∃ A' c' k, e = .returned (.tuple #[.slice A' k c', .int .i64 0]) ∧ k ≤ n ∧ New w w' A' c' k (rdF l).1) := by
  obtain ⟨i0, hi, hz0, hz1, hz2⟩ := info_parts byte_info
  have HL := Lib.hid hl
  clear hl
  go_enter Try.func18, Try.ntmps18
  go_wp2_with (at_make; refine wpList_make_own _ rfl _ _ 23 rfl w.heap.size 5 i0 (.int .u8 0) 1 Try.underlying23 hi hz0 hz1 .i64 .i64 _ n rfl rfl rfl (by rw [hz2]; omega) (by unfold maxLen; omega) (Nat.le_refl _) ?_; intro w1 hown1 hgrow1)
  have hb1 : Below w.heap.size w w1 := (Below.refl _ _).grown hgrow1 (Nat.le_refl _) (by simp)
  rw [show ([] : List Value) = bvs (rdF (l.take 0)).1 from rfl] at hown1
  clear hgrow1
  go_loopw [4, 5, 13] (fun v s i wr => ∃ k q : Nat, ∃ t : Bool, k ≤ n ∧ i = .int .i64 k ∧ s = .bool t ∧ Hid (t = (rdF (l.take k)).2) ∧ q ≤ k ∧ wr.ownsRow w.heap.size 5 1 v q (bvs (rdF (l.take k)).1) ∧ Below w.heap.size w wr) (fun _ _ i _ => n - (intOf i).toNat)
  case atStart => exact ⟨0, 0, false, Nat.zero_le _, rfl, rfl, Lib.hid rfl, Nat.le_refl _, hown1, hb1⟩
  case round =>
    obtain ⟨k, q, t, hk, rfl, rfl, ht, hq, hown, hbel⟩ := hrel
    clear hown1 hb1
    by_cases hlt : k < n
    · obtain ⟨b, o, x, rfl, hbb, hx, hc⟩ := (h.below hbel).at_ (k := k) (by rw [HL.out]; exact hlt)
      have hx256 := hb.get hx
      have HX := Lib.hid hx
      clear hx
      have i1 : (0 : Int) ≤ k := by omega
      have i2 : (k : Int) < n := by omega
      have hszw := hbel.size
      cases t
      · by_cases h5 : x = 125
        · subst h5
          have RE := Lib.hid (show rdF (l.take (k + 1)) = ((rdF (l.take k)).1, true) by rw [rdF_take HX.out, rdStep_mark ht.out.symm])
          have R := hown
          rw [show (rdF (l.take k)).1 = (rdF (l.take (k + 1))).1 by rw [RE.out]] at R
          have RT := Lib.hid (show true = (rdF (l.take (k + 1))).2 by rw [RE.out])
          go_wp2_with fail
          go_roundw
          case rel => exact ⟨k + 1, q, true, by omega, by go_num, rfl, RT, by omega, R, hbel⟩
          case measure => simp [intOf]; omega
        · have RE := Lib.hid (show rdF (l.take (k + 1)) = ((rdF (l.take k)).1 ++ [x], false) by rw [rdF_take HX.out, rdStep_plain ht.out.symm h5])
          have e5 : ((x : Int) == 125) = false := by simp; omega
          have RT := Lib.hid (show false = (rdF (l.take (k + 1))).2 by rw [RE.out])
          go_wp2_with (at_builtin; refine wpList_append_own _ rfl _ _ 23 rfl w.heap.size 5 i0 (.int .u8 0) 1 1 Try.underlying23 hi hz0 hz1 hz2 rfl (by decide) _ _ _ rfl (hown.alloc _) ⟨wr.heap.size, 0, none⟩ 1 1 [.int .u8 (x : Int)] rfl rfl (cell_one_new _ _ _) (fun x hx => by simp at hx; subst hx; rfl) (by unfold maxLen; omega) (by omega) (by simp; omega) ?_; intro v' w3 hown3 hgrow3 hnil3)
          have R := push_row hown3 (m := q + 1) rfl
          rw [show (rdF (l.take k)).1 ++ [x] = (rdF (l.take (k + 1))).1 by rw [RE.out]] at R
          have R2 := push_below hbel hown hgrow3
          go_roundw
          case rel => exact ⟨k + 1, q + 1, false, by omega, by go_num, rfl, RT, by omega, R, R2⟩
          case measure => simp [intOf]; omega
      · have RE := Lib.hid (show rdF (l.take (k + 1)) = ((rdF (l.take k)).1 ++ [turn x], false) by rw [rdF_take HX.out, rdStep_esc ht.out.symm])
        have RT := Lib.hid (show false = (rdF (l.take (k + 1))).2 by rw [RE.out])
        have TV := Lib.hid (turn_val hx256)
        go_wp2_with (at_builtin; refine wpList_append_own _ rfl _ _ 23 rfl w.heap.size 5 i0 (.int .u8 0) 1 1 Try.underlying23 hi hz0 hz1 hz2 rfl (by decide) _ _ _ rfl (hown.alloc _) ⟨wr.heap.size, 0, none⟩ 1 1 [.int .u8 (bits .xor .u8 (x : Int) 32)] rfl rfl (cell_one_new _ _ _) (fun x hx => by simp at hx; subst hx; rfl) (by unfold maxLen; omega) (by omega) (by simp; omega) ?_; intro v' w3 hown3 hgrow3 hnil3)
        rw [TV.out] at hown3
        have R := push_row hown3 (m := q + 1) rfl
        rw [show (rdF (l.take k)).1 ++ [turn x] = (rdF (l.take (k + 1))).1 by rw [RE.out]] at R
        have R2 := push_below hbel hown hgrow3
        go_roundw
        case rel => exact ⟨k + 1, q + 1, false, by omega, by go_num, rfl, RT, by omega, R, R2⟩
        case measure => simp [intOf]; omega
    · have he : k = n := by omega
      have HK := Lib.hid he
      rw [he, List.take_of_length_le (by rw [HL.out]; omega)] at hown
      rw [he, List.take_of_length_le (by rw [HL.out]; omega)] at ht
      clear he
      cases t
      · go_wp2
        go_ret2
        obtain ⟨A', c', rfl, hN⟩ := New.mk hown hbel
        exact .inr ⟨ht.out.symm, A', c', q, rfl, by omega, hN⟩
      · go_wp2
        go_ret2
        exact .inl ⟨ht.out.symm, rfl, hbel⟩

set_option maxHeartbeats 1000000 in
theorem rread_any (l : List Nat) (n : Nat) (A : Option Addr) (c : Nat) (w : World) (h : Rd w w.heap.size A l) (hb : By l) (hl : l.length = n) (hn : n ≤ 274877906944) :
    Calls Try.prog 21 #[.slice A n c] w fun e w' => ∃ A' c' k, e = .returned (.tuple #[.slice A' k c', .bool (!(rdF l).2)]) ∧ k ≤ n ∧ New w w' A' c' k (rdF l).1 := by
  obtain ⟨i0, hi, hz0, hz1, hz2⟩ := info_parts byte_info
  have HL := Lib.hid hl
  clear hl
  go_enter Try.func21, Try.ntmps21
  go_wp2_with fail
  have hown1 : (w.alloc (.cells #[] 5)).ownsRow w.heap.size 5 1 (.slice (some ⟨w.heap.size, 0, none⟩) 0 0) 0 (bvs (rdF (l.take 0)).1) := World.ownsRow_lit w #[] 0 (Nat.le_refl _) (by unfold maxLen; omega) rfl
  have hb1 : Below w.heap.size w (w.alloc (.cells #[] 5)) := (Below.refl _ _).alloc (Nat.le_refl _) _
  go_loopw [4, 5, 6] (fun v s i wr => ∃ k q : Nat, ∃ t : Bool, k ≤ n ∧ i = .int .i64 k ∧ s = .bool t ∧ Hid (t = (rdF (l.take k)).2) ∧ q ≤ k ∧ wr.ownsRow w.heap.size 5 1 v q (bvs (rdF (l.take k)).1) ∧ Below w.heap.size w wr) (fun _ _ i _ => n - (intOf i).toNat)
  case atStart => exact ⟨0, 0, false, Nat.zero_le _, rfl, rfl, Lib.hid rfl, Nat.le_refl _, hown1, hb1⟩
  case round =>
    obtain ⟨k, q, t, hk, rfl, rfl, ht, hq, hown, hbel⟩ := hrel
    clear hown1 hb1
    by_cases hlt : k < n
    · obtain ⟨b, o, x, rfl, hbb, hx, hc⟩ := (h.below hbel).at_ (k := k) (by rw [HL.out]; exact hlt)
      have hx256 := hb.get hx
      have HX := Lib.hid hx
      clear hx
      have i1 : (0 : Int) ≤ k := by omega
      have i2 : (k : Int) < n := by omega
      have hszw := hbel.size
      cases t
      · by_cases h5 : x = 125
        · subst h5
          have RE := Lib.hid (show rdF (l.take (k + 1)) = ((rdF (l.take k)).1, true) by rw [rdF_take HX.out, rdStep_mark ht.out.symm])
          have R := hown
          rw [show (rdF (l.take k)).1 = (rdF (l.take (k + 1))).1 by rw [RE.out]] at R
          have RT := Lib.hid (show true = (rdF (l.take (k + 1))).2 by rw [RE.out])
          go_wp2_with fail
          go_roundw
          case rel => exact ⟨k + 1, q, true, by omega, by go_num, rfl, RT, by omega, R, hbel⟩
          case measure => simp [intOf]; omega
        · have RE := Lib.hid (show rdF (l.take (k + 1)) = ((rdF (l.take k)).1 ++ [x], false) by rw [rdF_take HX.out, rdStep_plain ht.out.symm h5])
          have e5 : ((x : Int) == 125) = false := by simp; omega
          have RT := Lib.hid (show false = (rdF (l.take (k + 1))).2 by rw [RE.out])
          go_wp2_with (at_builtin; refine wpList_append_own _ rfl _ _ 23 rfl w.heap.size 5 i0 (.int .u8 0) 1 1 Try.underlying23 hi hz0 hz1 hz2 rfl (by decide) _ _ _ rfl (hown.alloc _) ⟨wr.heap.size, 0, none⟩ 1 1 [.int .u8 (x : Int)] rfl rfl (cell_one_new _ _ _) (fun x hx => by simp at hx; subst hx; rfl) (by unfold maxLen; omega) (by omega) (by simp; omega) ?_; intro v' w3 hown3 hgrow3 hnil3)
          have R := push_row hown3 (m := q + 1) rfl
          rw [show (rdF (l.take k)).1 ++ [x] = (rdF (l.take (k + 1))).1 by rw [RE.out]] at R
          have R2 := push_below hbel hown hgrow3
          go_roundw
          case rel => exact ⟨k + 1, q + 1, false, by omega, by go_num, rfl, RT, by omega, R, R2⟩
          case measure => simp [intOf]; omega
      · have RE := Lib.hid (show rdF (l.take (k + 1)) = ((rdF (l.take k)).1 ++ [turn x], false) by rw [rdF_take HX.out, rdStep_esc ht.out.symm])
        have RT := Lib.hid (show false = (rdF (l.take (k + 1))).2 by rw [RE.out])
        go_wp2_with (first
          | (go_at_call 25; refine (turn_any x hx256 _).mono ?_; rintro e w' ⟨rfl, rfl⟩)
          | (at_builtin; refine wpList_append_own _ rfl _ _ 23 rfl w.heap.size 5 i0 (.int .u8 0) 1 1 Try.underlying23 hi hz0 hz1 hz2 rfl (by decide) _ _ _ rfl (hown.alloc _) ⟨wr.heap.size, 0, none⟩ 1 1 [.int .u8 (turn x : Int)] rfl rfl (cell_one_new _ _ _) (fun x hx => by simp at hx; subst hx; rfl) (by unfold maxLen; omega) (by omega) (by simp; omega) ?_; intro v' w3 hown3 hgrow3 hnil3))
        have R := push_row hown3 (m := q + 1) rfl
        rw [show (rdF (l.take k)).1 ++ [turn x] = (rdF (l.take (k + 1))).1 by rw [RE.out]] at R
        have R2 := push_below hbel hown hgrow3
        go_roundw
        case rel => exact ⟨k + 1, q + 1, false, by omega, by go_num, rfl, RT, by omega, R, R2⟩
        case measure => simp [intOf]; omega
    · have he : k = n := by omega
      rw [he, List.take_of_length_le (by rw [HL.out]; omega)] at hown
      rw [he, List.take_of_length_le (by rw [HL.out]; omega)] at ht
      clear he
      cases t
      all_goals
        go_wp2
        go_ret2
        obtain ⟨A', c', rfl, hN⟩ := New.mk hown hbel
        exact ⟨A', c', q, by rw [← ht.out]; rfl, by omega, hN⟩

theorem flag_zero (l : List Nat) : flagIn (l.take 0) = false := by simp [flagIn]
theorem flag_take {l : List Nat} {k x : Nat} (h : l[k]? = some x) : flagIn (l.take (k + 1)) = (flagIn (l.take k) || decide (x = 126)) := by
  unfold flagIn
  rw [List.take_add_one, h, Option.toList_some]
  by_cases e : x = 126
  · subst e; simp
  · have : ¬ 126 = x := fun h => e h.symm
    simp [e, this]
theorem flag_mem {l : List Nat} {k : Nat} (h : l[k]? = some 126) : flagIn l = true := by
  unfold flagIn
  rw [decide_eq_true_iff]
  exact List.mem_of_getElem? h
theorem unst_flag {m : Nat} {l : List Nat} (h : flagIn l = true) : unst m l = ([], 4) := by simp [unst, h]
theorem unst_abort {m : Nat} {l : List Nat} (h : flagIn l = false) (h2 : (rdF (leftB m l)).2 = true) : unst m l = ([], 10) := by simp [unst, h, h2]
theorem unst_ok {m : Nat} {l : List Nat} (h : flagIn l = false) (h2 : (rdF (leftB m l)).2 = false) : unst m l = ((rdF (leftB m l)).1, 0) := by simp [unst, h, h2]

/-- What both Unstuffs answer. -/
def Unst (m : Nat) (l : List Nat) (n : Nat) (w : World) (e : Ending) (w' : World) : Prop :=
  ∃ A' c' k, e = .returned (.tuple #[.slice A' k c', .int .i64 ((unst m l).2 : Int)]) ∧ k ≤ n ∧ (unst m l).1.length = k ∧ Rd w' w'.heap.size A' (unst m l).1 ∧ Below w.heap.size w w'

set_option maxHeartbeats 1000000 in
theorem runst_any (m : Nat) (hm : m < 4294967296) (l : List Nat) (n : Nat) (A : Option Addr) (c : Nat) (w : World) (h : Rd w w.heap.size A l) (hb : By l) (hl : l.length = n) (hn : n ≤ 274877906944) :
    Calls Try.prog 10 #[.int .u32 (m : Int), .slice A n c] w (Unst m l n w) := by
  have HB := leftB_by (m := m) hb
  have HL := Lib.hid hl
  clear hl
  go_enter Try.func10, Try.ntmps10
  go_wp2_with fail
  go_loop [6] (fun i => ∃ k : Nat, k ≤ n ∧ i = .int .i64 k ∧ Hid (flagIn (l.take k) = false)) (fun i => n - (intOf i).toNat)
  case atStart => exact ⟨0, Nat.zero_le _, rfl, Lib.hid (flag_zero l)⟩
  case round =>
    obtain ⟨k, hk, rfl, hf⟩ := hrel
    by_cases hlt : k < n
    · obtain ⟨b, o, x, rfl, hbb, hx, hc⟩ := h.at_ (k := k) (by rw [HL.out]; exact hlt)
      have HX := Lib.hid hx
      clear hx
      have i1 : (0 : Int) ≤ k := by omega
      have i2 : (k : Int) < n := by omega
      by_cases h6 : x = 126
      · subst h6
        go_wp2_with fail
        go_ret2
        refine ⟨none, 0, 0, ?_, Nat.zero_le _, ?_, ?_, Below.refl _ _⟩
        · rw [unst_flag (flag_mem HX.out)]; rfl
        · rw [unst_flag (flag_mem HX.out)]; rfl
        · rw [unst_flag (flag_mem HX.out)]; exact Rd.nil
      · have e6 : ((x : Int) == 126) = false := by simp; omega
        have R := Lib.hid (show flagIn (l.take (k + 1)) = false by rw [flag_take HX.out, hf.out]; simp [h6])
        go_wp2_with fail
        go_round
        case rel => exact ⟨k + 1, by omega, by go_num, R⟩
        case measure => simp [intOf]; omega
    · have he : k = n := by omega
      rw [he, List.take_of_length_le (by rw [HL.out]; omega)] at hf
      clear he
      go_wp2_with fail
      refine (left_any m hm l n A c w h hb HL.out hn).mono ?_
      rintro e w1 ⟨A1, c1, n1, rfl, hn1, hl1, -, hr1, hb1⟩
      have HL1 := Lib.hid hl1
      clear hl1
      go_wp2_with fail
      refine (rread_any (leftB m l) n1 A1 c1 w1 hr1 HB HL1.out (by omega)).mono ?_
      rintro e w2 ⟨A2, c2, n2, rfl, hn2, hl2, -, hr2, hb2⟩
      have HL2 := Lib.hid hl2
      have HB2 := hb1.trans (hb2.mono hb1.size)
      clear hl2
      obtain ⟨t, ht⟩ : ∃ t, Hid ((rdF (leftB m l)).2 = t) := ⟨_, Lib.hid rfl⟩
      rw [ht.out]
      cases t
      · go_wp2_with fail
        go_ret2
        refine ⟨A2, c2, n2, ?_, by omega, ?_, ?_, HB2⟩
        · rw [unst_ok hf.out ht.out]; rfl
        · rw [unst_ok hf.out ht.out]; exact HL2.out
        · rw [unst_ok hf.out ht.out]; exact hr2
      · go_wp2_with fail
        go_ret2
        refine ⟨none, 0, 0, ?_, Nat.zero_le _, ?_, ?_, HB2⟩
        · rw [unst_abort hf.out ht.out]; rfl
        · rw [unst_abort hf.out ht.out]; rfl
        · rw [unst_abort hf.out ht.out]; exact Rd.nil

end Go.Proofs.Ytinajpmhpbjaiaa
