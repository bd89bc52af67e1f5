
/-
  bits.Of and bits.Octets in the form that the laws use; bits of octets and octets of bits undo each other. No condition beyond: bytes below 256, lists of at most 2^40 elements.
-/
import Derived.Test.YteicednlgajpgaaSOct
namespace Go.Proofs.Yteicednlgajpgaa
open Go.RowKit

theorem of_c (l : List Nat) (n : Nat) (A : Option Addr) (c : Nat) (w : World) (h : Rd w w.heap.size A l) (hb : By l) (hn : l.length = n) (hl : n ≤ 1099511627776) :
    Calls Try.prog 28 #[.slice A n c] w fun e w' => ∃ A' c', e = .returned (.slice A' (8 * n) c') ∧ New w w' A' c' (8 * n) (ofB l) := by
  subst hn
  exact (of_any l A c w h hb hl).mono fun _ _ ⟨v, he, ho, hbl⟩ => by obtain ⟨A', c', rfl, hN⟩ := New.mk ho hbl; exact ⟨A', c', he, hN⟩
theorem octets_c (l : List Nat) (n q : Nat) (A : Option Addr) (c : Nat) (w : World) (h : Rd w w.heap.size A l) (hb : By l) (hn : l.length = n) (hl : n ≤ 1099511627776) (hq : n = 8 * q) :
    Calls Try.prog 39 #[.slice A n c] w fun e w' => ∃ A' c', e = .returned (.tuple #[.slice A' q c', .bool true]) ∧ New w w' A' c' q (toO l) := by
  subst hn
  exact (octets_any l A c q w h hb hl hq).mono fun _ _ ⟨v, he, ho, hbl⟩ => by obtain ⟨A', c', rfl, hN⟩ := New.mk ho hbl; exact ⟨A', c', he, hN⟩
theorem roctets_c (l : List Nat) (n q : Nat) (A : Option Addr) (c : Nat) (w : World) (h : Rd w w.heap.size A l) (hb : By l) (hn : l.length = n) (hl : n ≤ 1099511627776) (hq : n = 8 * q) :
    Calls Try.prog 35 #[.slice A n c] w fun e w' => ∃ A' c', e = .returned (.tuple #[.slice A' q c', .bool true]) ∧ New w w' A' c' q (toO l) := by
  subst hn
  exact (roctets_any l A c q w h hb hl hq).mono fun _ _ ⟨v, he, ho, hbl⟩ => by obtain ⟨A', c', rfl, hN⟩ := New.mk ho hbl; exact ⟨A', c', he, hN⟩
theorem octets_no (l : List Nat) (n : Nat) (A : Option Addr) (c : Nat) (w : World) (hn : l.length = n) (hl : n ≤ 1099511627776) (hq : ¬ n % 8 = 0) :
    Calls Try.prog 39 #[.slice A n c] w fun e w' => e = .returned (.tuple #[.slice none 0 0, .bool false]) ∧ w = w' := by
  subst hn; exact octets_none l A c w hl hq
theorem roctets_no (l : List Nat) (n : Nat) (A : Option Addr) (c : Nat) (w : World) (hn : l.length = n) (hl : n ≤ 1099511627776) (hq : ¬ n % 8 = 0) :
    Calls Try.prog 35 #[.slice A n c] w fun e w' => e = .returned (.tuple #[.slice none 0 0, .bool false]) ∧ w = w' := by
  subst hn; exact roctets_none l A c w hl hq

/-! Lists alone. -/
theorem toO_len (l : List Nat) : (toO l).length = l.length / 8 := by simp [toO, firstO_len]
theorem toO_by (l : List Nat) : By (toO l) := by
  intro x hx
  simp only [toO, firstO, List.mem_map] at hx
  obtain ⟨n, _, rfl⟩ := hx
  exact valO_lt l n 8

theorem ofB_at : ∀ (l : List Nat) (n j x : Nat), l[n]? = some x → j < 8 → (ofB l)[8 * n + j]? = some (x / 2 ^ j % 2)
  | [], n, j, x, h, _ => by simp at h
  | a :: t, 0, j, x, h, hj => by
    simp at h; subst h
    rw [ofB, List.flatMap_cons, List.getElem?_append_left (by rw [bitsN_len]; omega)]
    simp [bitsN, hj]
  | a :: t, n + 1, j, x, h, hj => by
    have ih := ofB_at t n j x (by simpa using h) hj
    rw [ofB, List.flatMap_cons, List.getElem?_append_right (by rw [bitsN_len]; omega), bitsN_len, show 8 * (n + 1) + j - 8 = 8 * n + j from by omega]
    exact ih
theorem valO_ofB {l : List Nat} {n x : Nat} (h : l[n]? = some x) : ∀ j, j ≤ 8 → valO (ofB l) n j = x % 2 ^ j
  | 0, _ => by simp [valO, Nat.mod_one]
  | j + 1, hj => by
    rw [valO, valO_ofB h j (by omega), List.getD_eq_getElem?_getD, ofB_at l n j x h (by omega), Option.getD_some, Nat.mod_mod, Nat.mod_pow_succ, Nat.mul_comm]
theorem toO_ofB {l : List Nat} (hb : By l) : toO (ofB l) = l := by
  apply List.ext_getElem?
  intro n
  rcases Nat.lt_or_ge n l.length with h | h
  · have hx := List.getElem?_eq_getElem h
    have h8 := valO_ofB hx 8 (by omega)
    rw [Nat.mod_eq_of_lt (hb.get hx)] at h8
    rw [toO, ofB_len, show 8 * l.length / 8 = l.length from by omega, firstO, hx]
    simp [h, h8]
  · rw [List.getElem?_eq_none h, List.getElem?_eq_none]
    rw [toO_len, ofB_len]; omega
theorem valO_bit (l : List Nat) (n j : Nat) : ∀ t, j < t → valO l n t / 2 ^ j % 2 = l.getD (8 * n + j) 0 % 2
  | 0, h => absurd h (by omega)
  | t + 1, h => by
    rw [valO]
    rcases Nat.lt_or_ge j t with h1 | h1
    · rw [show 2 ^ t = 2 ^ j * (2 * 2 ^ (t - j - 1)) from by rw [← Nat.pow_succ', ← Nat.pow_add]; congr 1; omega,
        show l.getD (8 * n + t) 0 % 2 * (2 ^ j * (2 * 2 ^ (t - j - 1))) = 2 ^ j * (2 * (l.getD (8 * n + t) 0 % 2 * 2 ^ (t - j - 1))) from by ac_rfl,
        Nat.add_mul_div_left _ _ (Nat.two_pow_pos j), Nat.add_mul_mod_self_left]
      exact valO_bit l n j t h1
    · have : j = t := by omega
      subst this
      rw [Nat.add_mul_div_right _ _ (Nat.two_pow_pos j), Nat.div_eq_of_lt (valO_lt l n j)]
      omega
theorem ofB_toO {l : List Nat} {q : Nat} (hq : l.length = 8 * q) : ofB (toO l) = lows l := by
  apply List.ext_getElem?
  intro i
  rcases Nat.lt_or_ge i l.length with h | h
  · have hn : (toO l)[i / 8]? = some (valO l (i / 8) 8) := by
      have : i / 8 < q := by omega
      rw [toO, hq, show 8 * q / 8 = q from by omega, firstO]
      simp [this]
    have h1 := ofB_at (toO l) (i / 8) (i % 8) _ hn (by omega)
    rw [show 8 * (i / 8) + i % 8 = i from by omega] at h1
    rw [h1, valO_bit _ _ _ 8 (by omega), show 8 * (i / 8) + i % 8 = i from by omega, lows]
    simp [h]
  · rw [List.getElem?_eq_none (by rw [ofB_len, toO_len]; omega), List.getElem?_eq_none (by rw [lows_len]; exact h)]

end Go.Proofs.Yteicednlgajpgaa
