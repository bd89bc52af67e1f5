
/-
  What the document's Name of a tag's type answers. No condition.
-/
import Derived.Test.YtldadfmcganejaaTagI
namespace Go.Proofs.Ytldadfmcganejaa
set_option maxRecDepth 4000
open Go.RowKit

/-- A type's name. -/
def tgname (t : Nat) : ByteArray := if t = 257 then ⟨#[115, 101, 114, 118, 105, 99, 101]⟩ else if t = 258 then ⟨#[110, 97, 109, 101]⟩ else if t = 259 then ⟨#[117, 110, 105, 113, 117, 101]⟩ else if t = 260 then ⟨#[99, 111, 111, 107, 105, 101]⟩ else if t = 261 then ⟨#[118, 101, 110, 100, 111, 114]⟩ else if t = 272 then ⟨#[114, 101, 108, 97, 121]⟩ else if t = 513 then ⟨#[110, 111, 45, 115, 101, 114, 118, 105, 99, 101]⟩ else if t = 514 then ⟨#[110, 111, 45, 115, 121, 115, 116, 101, 109]⟩ else if t = 515 then ⟨#[101, 114, 114, 111, 114]⟩ else ⟨#[]⟩

/-- The numbers that have a name, in their order. -/
def tgnums : List Nat := [257, 258, 259, 260, 261, 272, 513, 514, 515]

set_option maxRecDepth 4000 in
set_option maxHeartbeats 4000000 in
theorem tgrname_any (t : Nat) (w : World) :
    Calls Try.prog 18 #[.int .i64 (t : Int)] w fun e w' => e = .returned (.string (tgname t)) ∧ Below w.heap.size w w' := by
  have hbel : Below w.heap.size w ((w.alloc (.cells #[.int .i64 257, .int .i64 258, .int .i64 259, .int .i64 260, .int .i64 261, .int .i64 272, .int .i64 513, .int .i64 514, .int .i64 515] 3)).alloc (.cells #[.string ⟨#[115, 101, 114, 118, 105, 99, 101]⟩, .string ⟨#[110, 97, 109, 101]⟩, .string ⟨#[117, 110, 105, 113, 117, 101]⟩, .string ⟨#[99, 111, 111, 107, 105, 101]⟩, .string ⟨#[118, 101, 110, 100, 111, 114]⟩, .string ⟨#[114, 101, 108, 97, 121]⟩, .string ⟨#[110, 111, 45, 115, 101, 114, 118, 105, 99, 101]⟩, .string ⟨#[110, 111, 45, 115, 121, 115, 116, 101, 109]⟩, .string ⟨#[101, 114, 114, 111, 114]⟩] 9)) := ((Below.refl _ _).alloc (Nat.le_refl _) _).alloc (by simp) _
  have HB := Lib.hid hbel
  clear hbel
  go_enter Try.func18, Try.ntmps18
  go_wp2_with fail
  go_loopw [5] (fun i wr => ∃ k : Nat, k ≤ 9 ∧ i = .int .i64 k ∧ Hid (∀ j x, j < k → tgnums[j]? = some x → t ≠ x) ∧ wr = ((w.alloc (.cells #[.int .i64 257, .int .i64 258, .int .i64 259, .int .i64 260, .int .i64 261, .int .i64 272, .int .i64 513, .int .i64 514, .int .i64 515] 3)).alloc (.cells #[.string ⟨#[115, 101, 114, 118, 105, 99, 101]⟩, .string ⟨#[110, 97, 109, 101]⟩, .string ⟨#[117, 110, 105, 113, 117, 101]⟩, .string ⟨#[99, 111, 111, 107, 105, 101]⟩, .string ⟨#[118, 101, 110, 100, 111, 114]⟩, .string ⟨#[114, 101, 108, 97, 121]⟩, .string ⟨#[110, 111, 45, 115, 101, 114, 118, 105, 99, 101]⟩, .string ⟨#[110, 111, 45, 115, 121, 115, 116, 101, 109]⟩, .string ⟨#[101, 114, 114, 111, 114]⟩] 9))) (fun i _ => 9 - (intOf i).toNat)
  case atStart => exact ⟨0, Nat.zero_le _, rfl, Lib.hid (fun _ _ h => absurd h (Nat.not_lt_zero _)), rfl⟩
  case round =>
    obtain ⟨k, hk, rfl, hne, rfl⟩ := hrel
    by_cases k0 : k = 0
    · subst k0
      by_cases ht : t = 257
      · subst ht
        have E := Lib.hid (show tgname 257 = ⟨#[115, 101, 114, 118, 105, 99, 101]⟩ from rfl)
        go_wp2_with fail
        go_ret
        exact ⟨by rw [E.out]; rfl, HB.out⟩
      · have j1 : ((257 : Int) == (t : Int)) = false := by rw [beq_eq_false_iff_ne]; omega
        have R := Lib.hid (show ∀ j x, j < 1 → tgnums[j]? = some x → t ≠ x from fun j x hj hx => by
          rcases Nat.lt_or_ge j 0 with h | h
          · exact hne.out j x h hx
          · obtain rfl : j = 0 := by omega
            injection hx with hx
            omega)
        clear ht
        go_wp2_with fail
        go_roundw
        case rel => exact ⟨1, by omega, by go_num, R, by trivial⟩
        case measure => simp [intOf]
    by_cases k1 : k = 1
    · subst k1
      by_cases ht : t = 258
      · subst ht
        have E := Lib.hid (show tgname 258 = ⟨#[110, 97, 109, 101]⟩ from rfl)
        go_wp2_with fail
        go_ret
        exact ⟨by rw [E.out]; rfl, HB.out⟩
      · have j1 : ((258 : Int) == (t : Int)) = false := by rw [beq_eq_false_iff_ne]; omega
        have R := Lib.hid (show ∀ j x, j < 2 → tgnums[j]? = some x → t ≠ x from fun j x hj hx => by
          rcases Nat.lt_or_ge j 1 with h | h
          · exact hne.out j x h hx
          · obtain rfl : j = 1 := by omega
            injection hx with hx
            omega)
        clear ht
        go_wp2_with fail
        go_roundw
        case rel => exact ⟨2, by omega, by go_num, R, by trivial⟩
        case measure => simp [intOf]
    by_cases k2 : k = 2
    · subst k2
      by_cases ht : t = 259
      · subst ht
        have E := Lib.hid (show tgname 259 = ⟨#[117, 110, 105, 113, 117, 101]⟩ from rfl)
        go_wp2_with fail
        go_ret
        exact ⟨by rw [E.out]; rfl, HB.out⟩
      · have j1 : ((259 : Int) == (t : Int)) = false := by rw [beq_eq_false_iff_ne]; omega
        have R := Lib.hid (show ∀ j x, j < 3 → tgnums[j]? = some x → t ≠ x from fun j x hj hx => by
          rcases Nat.lt_or_ge j 2 with h | h
          · exact hne.out j x h hx
          · obtain rfl : j = 2 := by omega
            injection hx with hx
            omega)
        clear ht
        go_wp2_with fail
        go_roundw
        case rel => exact ⟨3, by omega, by go_num, R, by trivial⟩
        case measure => simp [intOf]
    by_cases k3 : k = 3
    · subst k3
      by_cases ht : t = 260
      · subst ht
        have E := Lib.hid (show tgname 260 = ⟨#[99, 111, 111, 107, 105, 101]⟩ from rfl)
        go_wp2_with fail
        go_ret
        exact ⟨by rw [E.out]; rfl, HB.out⟩
      · have j1 : ((260 : Int) == (t : Int)) = false := by rw [beq_eq_false_iff_ne]; omega
        have R := Lib.hid (show ∀ j x, j < 4 → tgnums[j]? = some x → t ≠ x from fun j x hj hx => by
          rcases Nat.lt_or_ge j 3 with h | h
          · exact hne.out j x h hx
          · obtain rfl : j = 3 := by omega
            injection hx with hx
            omega)
        clear ht
        go_wp2_with fail
        go_roundw
        case rel => exact ⟨4, by omega, by go_num, R, by trivial⟩
        case measure => simp [intOf]
    by_cases k4 : k = 4
    · subst k4
      by_cases ht : t = 261
      · subst ht
        have E := Lib.hid (show tgname 261 = ⟨#[118, 101, 110, 100, 111, 114]⟩ from rfl)
        go_wp2_with fail
        go_ret
        exact ⟨by rw [E.out]; rfl, HB.out⟩
      · have j1 : ((261 : Int) == (t : Int)) = false := by rw [beq_eq_false_iff_ne]; omega
        have R := Lib.hid (show ∀ j x, j < 5 → tgnums[j]? = some x → t ≠ x from fun j x hj hx => by
          rcases Nat.lt_or_ge j 4 with h | h
          · exact hne.out j x h hx
          · obtain rfl : j = 4 := by omega
            injection hx with hx
            omega)
        clear ht
        go_wp2_with fail
        go_roundw
        case rel => exact ⟨5, by omega, by go_num, R, by trivial⟩
        case measure => simp [intOf]
    by_cases k5 : k = 5
    · subst k5
      by_cases ht : t = 272
      · subst ht
        have E := Lib.hid (show tgname 272 = ⟨#[114, 101, 108, 97, 121]⟩ from rfl)
        go_wp2_with fail
        go_ret
        exact ⟨by rw [E.out]; rfl, HB.out⟩
      · have j1 : ((272 : Int) == (t : Int)) = false := by rw [beq_eq_false_iff_ne]; omega
        have R := Lib.hid (show ∀ j x, j < 6 → tgnums[j]? = some x → t ≠ x from fun j x hj hx => by
          rcases Nat.lt_or_ge j 5 with h | h
          · exact hne.out j x h hx
          · obtain rfl : j = 5 := by omega
            injection hx with hx
            omega)
        clear ht
        go_wp2_with fail
        go_roundw
        case rel => exact ⟨6, by omega, by go_num, R, by trivial⟩
        case measure => simp [intOf]
    by_cases k6 : k = 6
    · subst k6
      by_cases ht : t = 513
      · subst ht
        have E := Lib.hid (show tgname 513 = ⟨#[110, 111, 45, 115, 101, 114, 118, 105, 99, 101]⟩ from rfl)
        go_wp2_with fail
        go_ret
        exact ⟨by rw [E.out]; rfl, HB.out⟩
      · have j1 : ((513 : Int) == (t : Int)) = false := by rw [beq_eq_false_iff_ne]; omega
        have R := Lib.hid (show ∀ j x, j < 7 → tgnums[j]? = some x → t ≠ x from fun j x hj hx => by
          rcases Nat.lt_or_ge j 6 with h | h
          · exact hne.out j x h hx
          · obtain rfl : j = 6 := by omega
            injection hx with hx
            omega)
        clear ht
        go_wp2_with fail
        go_roundw
        case rel => exact ⟨7, by omega, by go_num, R, by trivial⟩
        case measure => simp [intOf]
    by_cases k7 : k = 7
    · subst k7
      by_cases ht : t = 514
      · subst ht
        have E := Lib.hid (show tgname 514 = ⟨#[110, 111, 45, 115, 121, 115, 116, 101, 109]⟩ from rfl)
        go_wp2_with fail
        go_ret
        exact ⟨by rw [E.out]; rfl, HB.out⟩
      · have j1 : ((514 : Int) == (t : Int)) = false := by rw [beq_eq_false_iff_ne]; omega
        have R := Lib.hid (show ∀ j x, j < 8 → tgnums[j]? = some x → t ≠ x from fun j x hj hx => by
          rcases Nat.lt_or_ge j 7 with h | h
          · exact hne.out j x h hx
          · obtain rfl : j = 7 := by omega
            injection hx with hx
            omega)
        clear ht
        go_wp2_with fail
        go_roundw
        case rel => exact ⟨8, by omega, by go_num, R, by trivial⟩
        case measure => simp [intOf]
    by_cases k8 : k = 8
    · subst k8
      by_cases ht : t = 515
      · subst ht
        have E := Lib.hid (show tgname 515 = ⟨#[101, 114, 114, 111, 114]⟩ from rfl)
        go_wp2_with fail
        go_ret
        exact ⟨by rw [E.out]; rfl, HB.out⟩
      · have j1 : ((515 : Int) == (t : Int)) = false := by rw [beq_eq_false_iff_ne]; omega
        have R := Lib.hid (show ∀ j x, j < 9 → tgnums[j]? = some x → t ≠ x from fun j x hj hx => by
          rcases Nat.lt_or_ge j 8 with h | h
          · exact hne.out j x h hx
          · obtain rfl : j = 8 := by omega
            injection hx with hx
            omega)
        clear ht
        go_wp2_with fail
        go_roundw
        case rel => exact ⟨9, by omega, by go_num, R, by trivial⟩
        case measure => simp [intOf]
    obtain rfl : k = 9 := by omega
    have E := Lib.hid (show tgname t = ⟨#[]⟩ by
      unfold tgname
      rw [if_neg (hne.out 0 257 (by omega) rfl)]
      rw [if_neg (hne.out 1 258 (by omega) rfl)]
      rw [if_neg (hne.out 2 259 (by omega) rfl)]
      rw [if_neg (hne.out 3 260 (by omega) rfl)]
      rw [if_neg (hne.out 4 261 (by omega) rfl)]
      rw [if_neg (hne.out 5 272 (by omega) rfl)]
      rw [if_neg (hne.out 6 513 (by omega) rfl)]
      rw [if_neg (hne.out 7 514 (by omega) rfl)]
      rw [if_neg (hne.out 8 515 (by omega) rfl)])
    go_wp2_with fail
    go_ret
    exact ⟨by rw [E.out]; rfl, HB.out⟩
end Go.Proofs.Ytldadfmcganejaa
