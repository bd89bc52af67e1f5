
/-
  What the small calls of layer 12 answer: size, long, equal, first, Size, Put's search for data that are too long. No condition beyond: sizes below 2^47.
-/
import Derived.Test.YthcigbhjdocdnaaTlvO
import Derived.Test.YthcigbhjdocdnaaBEq
import Derived.WalkMore
namespace Go.Proofs.Ythcigbhjdocdnaa
open Go.RowKit

/-- An option as a value. -/
abbrev oV (t : Nat) (A : Option Addr) (n c : Nat) : Value := .agg #[.int .u8 (t : Int), .slice A n c]

set_option maxHeartbeats 400000 in
theorem osize_any (t n c : Nat) (A : Option Addr) (w : World) (hn : n ≤ 140737488351232) :
    Calls Try.prog 22 #[oV t A n c] w fun e w' => e = .returned (.int .i64 ((2 + n : Nat) : Int)) ∧ Below w.heap.size w w' := by
  go_enter Try.func22, Try.ntmps22
  go_wp2
  go_ret
  exact ⟨rfl, (Below.refl _ _).alloc (Nat.le_refl _) _⟩

set_option maxHeartbeats 400000 in
theorem olong_any (t n c : Nat) (A : Option Addr) (w : World) :
    Calls Try.prog 21 #[oV t A n c] w fun e w' => e = .returned (.bool (decide (253 < n))) ∧ Below w.heap.size w w' := by
  have h2 : decide ((253 : Int) < (n : Int)) = decide (253 < n) := by rw [Bool.eq_iff_iff]; simp; omega
  have H2 := Lib.hid h2
  clear h2
  go_enter Try.func21, Try.ntmps21
  go_wp2
  go_ret
  exact ⟨by show Ending.returned (.bool (decide ((253 : Int) < (n : Int)))) = _; rw [H2.out], (Below.refl _ _).alloc (Nat.le_refl _) _⟩

set_option maxHeartbeats 400000 in
theorem oequal_any (t u n m c d : Nat) (A B : Option Addr) (a b : List Nat) (w : World) (ha : Rd w w.heap.size A a) (hb : Rd w w.heap.size B b) (hA : By a) (hB : By b) (hn : a.length = n) (hm : b.length = m) :
    Calls Try.prog 26 #[oV t A n c, oV u B m d] w fun e w' => e = .returned (.bool (decide ((t, a) = (u, b)))) ∧ Below w.heap.size w w' := by
  have hbe : Below w.heap.size w ((w.alloc (.cells #[.int .u8 (t : Int), .slice A n c] 43)).alloc (.cells #[.int .u8 (u : Int), .slice B m d] 43)) := ((Below.refl w.heap.size w).alloc (Nat.le_refl _) _).alloc (by simp) _
  have HB := Lib.hid hbe
  have ha2 := Lib.hid (ha.on hbe)
  have hb2 := Lib.hid (hb.on hbe)
  clear hbe
  by_cases h : t = u
  · have h1 : ((t : Int) == (u : Int)) = true := by simp [h]
    have E := Lib.hid (show decide ((t, a) = (u, b)) = decide (a = b) by rw [Bool.eq_iff_iff]; simp [h])
    rw [E.out]
    have H := Lib.hid h
    clear h E
    go_enter Try.func26, Try.ntmps26
    go_wp2_with (go_at_call 28; (with_reducible refine (bequal_any a b n m A B c d _ _ ha2.out hb2.out hA hB hn hm).mono ?_); rintro e w' ⟨rfl, rfl⟩)
    go_ret
    exact ⟨rfl, HB.out⟩
  · have h1 : ((t : Int) == (u : Int)) = false := by simp; omega
    have E := Lib.hid (show decide ((t, a) = (u, b)) = false by simp [h])
    rw [E.out]
    have H := Lib.hid h
    clear h E
    go_enter Try.func26, Try.ntmps26
    go_wp2
    go_ret
    exact ⟨rfl, HB.out⟩

set_option maxHeartbeats 400000 in
theorem ofirst_any (b : List Nat) (n c : Nat) (A : Option Addr) (w : World) (h : Rd w w.heap.size A b) (hb : By b) (hn : b.length = n) (h1 : n ≤ 1099511627776) (h0 : 0 < n) :
    Calls Try.prog 23 #[.slice A n c] w fun e w' => e = .returned (.tuple #[.int .i64 ((stepB b).1 : Int), .int .i64 ((stepB b).2 : Int)]) ∧ w = w' := by
  match b, hn with
  | [], hn => simp at hn; omega
  | [x], hn =>
    have hs : stepB [x] = (0, 2) := rfl
    have hn1 : n = 1 := by simpa using hn.symm
    subst hn1
    have HS := Lib.hid hs
    clear hs hn h
    go_enter Try.func23, Try.ntmps23
    go_wp2
    go_ret2
    exact ⟨by rw [HS.out]; rfl, rfl⟩
  | x :: y :: t, hn =>
    have hy : y < 256 := hb y (by simp)
    have hlen : t.length + 2 = n := by simpa using hn
    obtain ⟨bb, o, z, rfl, hbb, hz, hc⟩ := h.at_ (k := 1) (by simp)
    have hz' : y = z := by simpa using hz
    subst hz'
    have hs : stepB (x :: y :: t) = if y < 2 then (0, 4) else if n < y then (0, 2) else (y, 0) := by rw [← hlen]; rfl
    have HS := Lib.hid hs
    have g1 : ¬ (n : Int) < 2 := by omega
    have g2 : (1 : Int) < (n : Int) := by omega
    clear hs hn h hz hlen
    by_cases c1 : y < 2
    · have E := Lib.hid (show stepB (x :: y :: t) = (0, 4) by rw [HS.out, if_pos c1])
      have g3 : (y : Int) < 2 := by omega
      clear c1 HS
      go_enter Try.func23, Try.ntmps23
      go_wp2
      go_ret2
      exact ⟨by rw [E.out]; rfl, rfl⟩
    · by_cases c2 : n < y
      · have E := Lib.hid (show stepB (x :: y :: t) = (0, 2) by rw [HS.out, if_neg c1, if_pos c2])
        have g3 : ¬ (y : Int) < 2 := by omega
        have g4 : (n : Int) < (y : Int) := by omega
        clear c1 c2 HS
        go_enter Try.func23, Try.ntmps23
        go_wp2
        go_ret2
        exact ⟨by rw [E.out]; rfl, rfl⟩
      · have E := Lib.hid (show stepB (x :: y :: t) = (y, 0) by rw [HS.out, if_neg c1, if_neg c2])
        have g3 : ¬ (y : Int) < 2 := by omega
        have g4 : ¬ (n : Int) < (y : Int) := by omega
        clear c1 c2 HS
        go_enter Try.func23, Try.ntmps23
        go_wp2
        go_ret2
        exact ⟨by rw [E.out]; rfl, rfl⟩
end Go.Proofs.Ythcigbhjdocdnaa
