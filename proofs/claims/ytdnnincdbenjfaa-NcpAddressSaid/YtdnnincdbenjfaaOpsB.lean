
/-
  What the document's Size answers. No condition.
-/
import Derived.Test.YtdnnincdbenjfaaOpsM
import Derived.Test.YtdnnincdbenjfaaTlvS
namespace Go.Proofs.Ytdnnincdbenjfaa
open Go.RowKit

set_option maxHeartbeats 4000000 in
theorem rsize_49185 (t a b : Nat) (hs : spanB (tabB 49185) t = (a, b)) (w : World) : Calls Try.prog 49 #[.int .i64 49185, .int .u8 (t : Int)] w fun e w' => e = .returned (.tuple #[.int .i64 (a : Int), .int .i64 (b : Int)]) ∧ w = w' := by
  by_cases h1 : 1 = t
  · subst h1
    obtain ⟨rfl, rfl⟩ := Prod.mk.inj (hs.symm.trans (show spanB (tabB 49185) 1 = (2, 2) by decide))
    clear hs
    go_enter Try.func49, Try.ntmps49
    go_wp2_with fail
    go_ret2
    exact ⟨rfl, rfl⟩
  by_cases h2 : 2 = t
  · subst h2
    obtain ⟨rfl, rfl⟩ := Prod.mk.inj (hs.symm.trans (show spanB (tabB 49185) 2 = (4, 4) by decide))
    clear hs
    go_enter Try.func49, Try.ntmps49
    go_wp2_with fail
    go_ret2
    exact ⟨rfl, rfl⟩
  by_cases h3 : 3 = t
  · subst h3
    obtain ⟨rfl, rfl⟩ := Prod.mk.inj (hs.symm.trans (show spanB (tabB 49185) 3 = (2, 253) by decide))
    clear hs
    go_enter Try.func49, Try.ntmps49
    go_wp2_with fail
    go_ret2
    exact ⟨rfl, rfl⟩
  by_cases h4 : 4 = t
  · subst h4
    obtain ⟨rfl, rfl⟩ := Prod.mk.inj (hs.symm.trans (show spanB (tabB 49185) 4 = (2, 253) by decide))
    clear hs
    go_enter Try.func49, Try.ntmps49
    go_wp2_with fail
    go_ret2
    exact ⟨rfl, rfl⟩
  by_cases h5 : 5 = t
  · subst h5
    obtain ⟨rfl, rfl⟩ := Prod.mk.inj (hs.symm.trans (show spanB (tabB 49185) 5 = (4, 4) by decide))
    clear hs
    go_enter Try.func49, Try.ntmps49
    go_wp2_with fail
    go_ret2
    exact ⟨rfl, rfl⟩
  by_cases h7 : 7 = t
  · subst h7
    obtain ⟨rfl, rfl⟩ := Prod.mk.inj (hs.symm.trans (show spanB (tabB 49185) 7 = (0, 0) by decide))
    clear hs
    go_enter Try.func49, Try.ntmps49
    go_wp2_with fail
    go_ret2
    exact ⟨rfl, rfl⟩
  by_cases h8 : 8 = t
  · subst h8
    obtain ⟨rfl, rfl⟩ := Prod.mk.inj (hs.symm.trans (show spanB (tabB 49185) 8 = (0, 0) by decide))
    clear hs
    go_enter Try.func49, Try.ntmps49
    go_wp2_with fail
    go_ret2
    exact ⟨rfl, rfl⟩
  by_cases h9 : 9 = t
  · subst h9
    obtain ⟨rfl, rfl⟩ := Prod.mk.inj (hs.symm.trans (show spanB (tabB 49185) 9 = (1, 1) by decide))
    clear hs
    go_enter Try.func49, Try.ntmps49
    go_wp2_with fail
    go_ret2
    exact ⟨rfl, rfl⟩
  obtain ⟨rfl, rfl⟩ := Prod.mk.inj (hs.symm.trans (show spanB (tabB 49185) t = (0, 253) by simp [spanB, tabB, h1, h2, h3, h4, h5, h7, h8, h9]))
  have j1 : ¬ (t : Int) = 1 := by omega
  have j2 : ¬ (t : Int) = 2 := by omega
  have j3 : ¬ (t : Int) = 3 := by omega
  have j4 : ¬ (t : Int) = 4 := by omega
  have j5 : ¬ (t : Int) = 5 := by omega
  have j7 : ¬ (t : Int) = 7 := by omega
  have j8 : ¬ (t : Int) = 8 := by omega
  have j9 : ¬ (t : Int) = 9 := by omega
  clear hs h1 h2 h3 h4 h5 h7 h8 h9
  go_enter Try.func49, Try.ntmps49
  go_wp2_with fail
  go_ret2
  exact ⟨rfl, rfl⟩

set_option maxHeartbeats 4000000 in
theorem rsize_32801 (t a b : Nat) (hs : spanB (tabB 32801) t = (a, b)) (w : World) : Calls Try.prog 49 #[.int .i64 32801, .int .u8 (t : Int)] w fun e w' => e = .returned (.tuple #[.int .i64 (a : Int), .int .i64 (b : Int)]) ∧ w = w' := by
  by_cases h2 : 2 = t
  · subst h2
    obtain ⟨rfl, rfl⟩ := Prod.mk.inj (hs.symm.trans (show spanB (tabB 32801) 2 = (2, 253) by decide))
    clear hs
    go_enter Try.func49, Try.ntmps49
    go_wp2_with fail
    go_ret2
    exact ⟨rfl, rfl⟩
  by_cases h3 : 3 = t
  · subst h3
    obtain ⟨rfl, rfl⟩ := Prod.mk.inj (hs.symm.trans (show spanB (tabB 32801) 3 = (4, 4) by decide))
    clear hs
    go_enter Try.func49, Try.ntmps49
    go_wp2_with fail
    go_ret2
    exact ⟨rfl, rfl⟩
  by_cases h129 : 129 = t
  · subst h129
    obtain ⟨rfl, rfl⟩ := Prod.mk.inj (hs.symm.trans (show spanB (tabB 32801) 129 = (4, 4) by decide))
    clear hs
    go_enter Try.func49, Try.ntmps49
    go_wp2_with fail
    go_ret2
    exact ⟨rfl, rfl⟩
  by_cases h130 : 130 = t
  · subst h130
    obtain ⟨rfl, rfl⟩ := Prod.mk.inj (hs.symm.trans (show spanB (tabB 32801) 130 = (4, 4) by decide))
    clear hs
    go_enter Try.func49, Try.ntmps49
    go_wp2_with fail
    go_ret2
    exact ⟨rfl, rfl⟩
  by_cases h131 : 131 = t
  · subst h131
    obtain ⟨rfl, rfl⟩ := Prod.mk.inj (hs.symm.trans (show spanB (tabB 32801) 131 = (4, 4) by decide))
    clear hs
    go_enter Try.func49, Try.ntmps49
    go_wp2_with fail
    go_ret2
    exact ⟨rfl, rfl⟩
  by_cases h132 : 132 = t
  · subst h132
    obtain ⟨rfl, rfl⟩ := Prod.mk.inj (hs.symm.trans (show spanB (tabB 32801) 132 = (4, 4) by decide))
    clear hs
    go_enter Try.func49, Try.ntmps49
    go_wp2_with fail
    go_ret2
    exact ⟨rfl, rfl⟩
  obtain ⟨rfl, rfl⟩ := Prod.mk.inj (hs.symm.trans (show spanB (tabB 32801) t = (0, 253) by simp [spanB, tabB, h2, h3, h129, h130, h131, h132]))
  have j2 : ¬ (t : Int) = 2 := by omega
  have j3 : ¬ (t : Int) = 3 := by omega
  have j129 : ¬ (t : Int) = 129 := by omega
  have j130 : ¬ (t : Int) = 130 := by omega
  have j131 : ¬ (t : Int) = 131 := by omega
  have j132 : ¬ (t : Int) = 132 := by omega
  by_cases hq : (129 : Int) ≤ t
  · have hr : ¬ (t : Int) ≤ 132 := by omega
    clear hs h2 h3 h129 h130 h131 h132
    go_enter Try.func49, Try.ntmps49
    go_wp2_with fail
    go_ret2
    exact ⟨rfl, rfl⟩
  · clear hs h2 h3 h129 h130 h131 h132
    go_enter Try.func49, Try.ntmps49
    go_wp2_with fail
    go_ret2
    exact ⟨rfl, rfl⟩

set_option maxHeartbeats 4000000 in
theorem rsize_32855 (t a b : Nat) (hs : spanB (tabB 32855) t = (a, b)) (w : World) : Calls Try.prog 49 #[.int .i64 32855, .int .u8 (t : Int)] w fun e w' => e = .returned (.tuple #[.int .i64 (a : Int), .int .i64 (b : Int)]) ∧ w = w' := by
  by_cases h1 : 1 = t
  · subst h1
    obtain ⟨rfl, rfl⟩ := Prod.mk.inj (hs.symm.trans (show spanB (tabB 32855) 1 = (8, 8) by decide))
    clear hs
    go_enter Try.func49, Try.ntmps49
    go_wp2_with fail
    go_ret2
    exact ⟨rfl, rfl⟩
  by_cases h2 : 2 = t
  · subst h2
    obtain ⟨rfl, rfl⟩ := Prod.mk.inj (hs.symm.trans (show spanB (tabB 32855) 2 = (2, 253) by decide))
    clear hs
    go_enter Try.func49, Try.ntmps49
    go_wp2_with fail
    go_ret2
    exact ⟨rfl, rfl⟩
  obtain ⟨rfl, rfl⟩ := Prod.mk.inj (hs.symm.trans (show spanB (tabB 32855) t = (0, 253) by simp [spanB, tabB, h1, h2]))
  have j1 : ¬ (t : Int) = 1 := by omega
  have j2 : ¬ (t : Int) = 2 := by omega
  clear hs h1 h2
  go_enter Try.func49, Try.ntmps49
  go_wp2_with fail
  go_ret2
  exact ⟨rfl, rfl⟩

set_option maxHeartbeats 1000000 in
theorem rsize_none (p t a b : Nat) (h1 : p ≠ 49185) (h2 : p ≠ 32801) (h3 : p ≠ 32855) (hs : spanB (tabB p) t = (a, b)) (w : World) : Calls Try.prog 49 #[.int .i64 (p : Int), .int .u8 (t : Int)] w fun e w' => e = .returned (.tuple #[.int .i64 (a : Int), .int .i64 (b : Int)]) ∧ w = w' := by
  obtain ⟨rfl, rfl⟩ := Prod.mk.inj (hs.symm.trans (show spanB (tabB p) t = (0, 253) by simp [spanB, tabB, h1, h2, h3]))
  have j1 : ¬ (p : Int) = 49185 := by omega
  have j2 : ¬ (p : Int) = 32801 := by omega
  have j3 : ¬ (p : Int) = 32855 := by omega
  clear hs h1 h2 h3
  go_enter Try.func49, Try.ntmps49
  go_wp2_with fail
  go_ret2
  exact ⟨rfl, rfl⟩

theorem rsize_any (p t a b : Nat) (hs : spanB (tabB p) t = (a, b)) (w : World) : Calls Try.prog 49 #[.int .i64 (p : Int), .int .u8 (t : Int)] w fun e w' => e = .returned (.tuple #[.int .i64 (a : Int), .int .i64 (b : Int)]) ∧ w = w' := by
  by_cases h1 : p = 49185
  · subst h1; exact rsize_49185 t a b hs w
  by_cases h2 : p = 32801
  · subst h2; exact rsize_32801 t a b hs w
  by_cases h3 : p = 32855
  · subst h3; exact rsize_32855 t a b hs w
  exact rsize_none p t a b h1 h2 h3 hs w
end Go.Proofs.Ytdnnincdbenjfaa
