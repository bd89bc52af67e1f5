
/-
  What the small calls of layer 12 answer: size, long, equal, first, Size, Put's search for data that are too long. No condition beyond: sizes below 2^47.
-/
import Derived.Test.YtdnnincdbenjfaaTlvO
import Derived.Test.YtdnnincdbenjfaaBEq
import Derived.WalkMore
namespace Go.Proofs.Ytdnnincdbenjfaa
open Go.RowKit

/-- An option as a value. -/
abbrev oV (t : Nat) (A : Option Addr) (n c : Nat) : Value := .agg #[.int .u8 (t : Int), .slice A n c]

set_option maxHeartbeats 400000 in
theorem osize_any (t n c : Nat) (A : Option Addr) (w : World) (hn : n ≤ 140737488351232) :
    Calls Try.prog 55 #[oV t A n c] w fun e w' => e = .returned (.int .i64 ((2 + n : Nat) : Int)) ∧ Below w.heap.size w w' := by
  go_enter Try.func55, Try.ntmps55
  go_wp2
  go_ret
  exact ⟨rfl, (Below.refl _ _).alloc (Nat.le_refl _) _⟩

set_option maxHeartbeats 400000 in
theorem olong_any (t n c : Nat) (A : Option Addr) (w : World) :
    Calls Try.prog 53 #[oV t A n c] w fun e w' => e = .returned (.bool (decide (253 < n))) ∧ Below w.heap.size w w' := by
  have h2 : decide ((253 : Int) < (n : Int)) = decide (253 < n) := by rw [Bool.eq_iff_iff]; simp; omega
  have H2 := Lib.hid h2
  clear h2
  go_enter Try.func53, Try.ntmps53
  go_wp2
  go_ret
  exact ⟨by show Ending.returned (.bool (decide ((253 : Int) < (n : Int)))) = _; rw [H2.out], (Below.refl _ _).alloc (Nat.le_refl _) _⟩

set_option maxHeartbeats 400000 in
theorem ofirst_any (b : List Nat) (n c : Nat) (A : Option Addr) (w : World) (h : Rd w w.heap.size A b) (hb : By b) (hn : b.length = n) (h1 : n ≤ 1099511627776) (h0 : 0 < n) :
    Calls Try.prog 56 #[.slice A n c] w fun e w' => e = .returned (.tuple #[.int .i64 ((stepB b).1 : Int), .int .i64 ((stepB b).2 : Int)]) ∧ w = w' := by
  match b, hn with
  | [], hn => simp at hn; omega
  | [x], hn =>
    have hs : stepB [x] = (0, 2) := rfl
    have hn1 : n = 1 := by simpa using hn.symm
    subst hn1
    have HS := Lib.hid hs
    clear hs hn h
    go_enter Try.func56, Try.ntmps56
    go_wp2
    go_ret2
    exact ⟨by rw [HS.out]; rfl, rfl⟩
  | x :: y :: t, hn =>
    have hy : y < 256 := hb y (by simp)
    have hlen : t.length + 2 = n := by simpa using hn
    obtain ⟨bb, o, z, rfl, hbb, hz, hc⟩ := h.at_ (k := 1) (by simp)
    have hz' : y = z := by simpa using hz
    subst hz'
    have hs : stepB (x :: y :: t) = if y < 2 then (0, 4) else if n < y then (0, 2) else (y, 0) := by rw [← hlen]; rfl
    have HS := Lib.hid hs
    have g1 : ¬ (n : Int) < 2 := by omega
    have g2 : (1 : Int) < (n : Int) := by omega
    clear hs hn h hz hlen
    by_cases c1 : y < 2
    · have E := Lib.hid (show stepB (x :: y :: t) = (0, 4) by rw [HS.out, if_pos c1])
      have g3 : (y : Int) < 2 := by omega
      clear c1 HS
      go_enter Try.func56, Try.ntmps56
      go_wp2
      go_ret2
      exact ⟨by rw [E.out]; rfl, rfl⟩
    · by_cases c2 : n < y
      · have E := Lib.hid (show stepB (x :: y :: t) = (0, 2) by rw [HS.out, if_neg c1, if_pos c2])
        have g3 : ¬ (y : Int) < 2 := by omega
        have g4 : (n : Int) < (y : Int) := by omega
        clear c1 c2 HS
        go_enter Try.func56, Try.ntmps56
        go_wp2
        go_ret2
        exact ⟨by rw [E.out]; rfl, rfl⟩
      · have E := Lib.hid (show stepB (x :: y :: t) = (y, 0) by rw [HS.out, if_neg c1, if_neg c2])
        have g3 : ¬ (y : Int) < 2 := by omega
        have g4 : ¬ (n : Int) < (y : Int) := by omega
        clear c1 c2 HS
        go_enter Try.func56, Try.ntmps56
        go_wp2
        go_ret2
        exact ⟨by rw [E.out]; rfl, rfl⟩
end Go.Proofs.Ytdnnincdbenjfaa
