/-
  Lists alone: bits of octets and octets of bits undo each other; parts. No program.
-/
import Derived.Test.YtbkebmpeofbnjaaBitC
namespace Go.Proofs.Ytbkebmpeofbnjaa

theorem ofB_at : ∀ (l : List Nat) (n j x : Nat), l[n]? = some x → j < 8 → (ofB l)[8 * n + j]? = some (x / 2 ^ j % 2)
  | [], n, j, x, h, _ => by simp at h
  | a :: t, 0, j, x, h, hj => by
    simp at h; subst h
    rw [ofB, List.flatMap_cons, List.getElem?_append_left (by rw [bitsN_len]; omega)]
    simp [bitsN, hj]
  | a :: t, n + 1, j, x, h, hj => by
    have ih := ofB_at t n j x (by simpa using h) hj
    rw [ofB, List.flatMap_cons, List.getElem?_append_right (by rw [bitsN_len]; omega), bitsN_len, show 8 * (n + 1) + j - 8 = 8 * n + j from by omega]
    exact ih
theorem valO_ofB {l : List Nat} {n x : Nat} (h : l[n]? = some x) : ∀ j, j ≤ 8 → valO (ofB l) n j = x % 2 ^ j
  | 0, _ => by simp [valO, Nat.mod_one]
  | j + 1, hj => by
    rw [valO, valO_ofB h j (by omega), List.getD_eq_getElem?_getD, ofB_at l n j x h (by omega), Option.getD_some, Nat.mod_mod, Nat.mod_pow_succ, Nat.mul_comm]
theorem toO_ofB {l : List Nat} (hb : By l) : toO (ofB l) = l := by
  apply List.ext_getElem?
  intro n
  rcases Nat.lt_or_ge n l.length with h | h
  · have hx := List.getElem?_eq_getElem h
    have h8 := valO_ofB hx 8 (by omega)
    rw [Nat.mod_eq_of_lt (hb.get hx)] at h8
    rw [toO, ofB_len, show 8 * l.length / 8 = l.length from by omega, firstO, hx]
    simp [h, h8]
  · rw [List.getElem?_eq_none h, List.getElem?_eq_none]
    rw [toO_len, ofB_len]; omega
theorem valO_bit (l : List Nat) (n j : Nat) : ∀ t, j < t → valO l n t / 2 ^ j % 2 = l.getD (8 * n + j) 0 % 2
  | 0, h => absurd h (by omega)
  | t + 1, h => by
    rw [valO]
    rcases Nat.lt_or_ge j t with h1 | h1
    · rw [show 2 ^ t = 2 ^ j * (2 * 2 ^ (t - j - 1)) from by rw [← Nat.pow_succ', ← Nat.pow_add]; congr 1; omega,
        show l.getD (8 * n + t) 0 % 2 * (2 ^ j * (2 * 2 ^ (t - j - 1))) = 2 ^ j * (2 * (l.getD (8 * n + t) 0 % 2 * 2 ^ (t - j - 1))) from by ac_rfl,
        Nat.add_mul_div_left _ _ (Nat.two_pow_pos j), Nat.add_mul_mod_self_left]
      exact valO_bit l n j t h1
    · have : j = t := by omega
      subst this
      rw [Nat.add_mul_div_right _ _ (Nat.two_pow_pos j), Nat.div_eq_of_lt (valO_lt l n j)]
      omega
theorem ofB_toO {l : List Nat} {q : Nat} (hq : l.length = 8 * q) : ofB (toO l) = lows l := by
  apply List.ext_getElem?
  intro i
  rcases Nat.lt_or_ge i l.length with h | h
  · have hn : (toO l)[i / 8]? = some (valO l (i / 8) 8) := by
      have : i / 8 < q := by omega
      rw [toO, hq, show 8 * q / 8 = q from by omega, firstO]
      simp [this]
    have h1 := ofB_at (toO l) (i / 8) (i % 8) _ hn (by omega)
    rw [show 8 * (i / 8) + i % 8 = i from by omega] at h1
    rw [h1, valO_bit _ _ _ 8 (by omega), show 8 * (i / 8) + i % 8 = i from by omega, lows]
    simp [h]
  · rw [List.getElem?_eq_none (by rw [ofB_len, toO_len]; omega), List.getElem?_eq_none (by rw [lows_len]; exact h)]
theorem lows_app (l m : List Nat) : lows (l ++ m) = lows l ++ lows m := by simp [lows]
theorem lows_mod (l : List Nat) : (lows l).map (· % 2) = l.map (· % 2) := by simp [lows]
theorem lead_lows (l : List Nat) : lead (lows l) = lead l := by
  induction l with
  | nil => rfl
  | cons a t ih => simp only [lows, List.map_cons, lead, Nat.mod_mod] at *; rw [ih]
theorem best_lows (l : List Nat) : best (lows l) = best l := by
  induction l with
  | nil => rfl
  | cons a t ih =>
    have h := lead_lows (a :: t)
    simp only [lows, List.map_cons, best] at *
    rw [ih, h]
theorem lead_app_le (a b : List Nat) : lead a ≤ lead (a ++ b) := by
  induction a with
  | nil => simp [lead]
  | cons x t ih => simp only [List.cons_append, lead]; split <;> omega
theorem lead_app (a b : List Nat) : lead (a ++ b) ≤ lead a + lead b := by
  induction a with
  | nil => simp [lead]
  | cons x t ih => simp only [List.cons_append, lead]; split <;> omega
theorem best_app_left (a b : List Nat) : best a ≤ best (a ++ b) := by
  induction a with
  | nil => simp [best]
  | cons x t ih =>
    have := lead_app_le (x :: t) b
    simp only [List.cons_append, best] at *
    omega
theorem best_app_right (a b : List Nat) : best b ≤ best (a ++ b) := by
  induction a with
  | nil => simp
  | cons x t ih => simp only [List.cons_append, best]; omega
theorem best_app (a b : List Nat) : best (a ++ b) ≤ best a + best b := by
  induction a with
  | nil => simp
  | cons x t ih =>
    have h1 := lead_app (x :: t) b
    have h2 := lead_le_best b
    simp only [List.cons_append, best] at *
    omega
/-- The document's largest of all: over the places of a list. -/
def topK (l : List Nat) (k : Nat) : Nat := (List.range k).foldl (fun m i => max m (lead (l.drop i))) 0
theorem topK_succ (l : List Nat) (k : Nat) : topK l (k + 1) = max (topK l k) (lead (l.drop k)) := by
  rw [topK, List.range_succ, List.foldl_append]; rfl
theorem best_drop {l : List Nat} {k : Nat} (h : k < l.length) : best (l.drop k) = max (lead (l.drop k)) (best (l.drop (k + 1))) := by
  rw [List.drop_eq_getElem_cons h, best]
theorem topK_best (l : List Nat) : ∀ k, k ≤ l.length → max (topK l k) (best (l.drop k)) = best l
  | 0, _ => by simp [topK]
  | k + 1, h => by
    have ih := topK_best l k (by omega)
    rw [best_drop (by omega)] at ih
    rw [topK_succ]
    omega
theorem topK_all (l : List Nat) : topK l l.length = best l := by
  have := topK_best l l.length (Nat.le_refl _)
  rw [List.drop_length] at this
  simpa [best] using this

end Go.Proofs.Ytbkebmpeofbnjaa
