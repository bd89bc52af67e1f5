
/-
  What the program's Feed of layer 24 answers where the link or the number is none. No condition.
-/
import Derived.Test.YtamdaepeogmboaaDoorJqE
namespace Go.Proofs.YtamdaepeogmboaaDoor
set_option maxRecDepth 4000
open Go.RowKit Go.Maps

set_option maxHeartbeats 4000000 in
theorem pfeed_arg (b : Nat) (j : Jn) (q : Jq) (ol : List Int) (k : Int) (p : Pc) (A : Option Addr) (n c : Nat) (w : World) (h : Pw w b j q ol) (hk : k < 0 ∨ (j.last.length : Int) ≤ k) :
    Calls Tryd.prog 15 #[.pointer (some ⟨b, 0, none⟩), .int .i64 k, pvV p.b p.e p.n A n c] w fun e w' => e = .returned (.tuple #[.slice none 0 0, .int .i64 1]) ∧ Below w.heap.size w w' := by
  obtain ⟨ln, hln⟩ : ∃ m, Hid (j.last.length = m) := ⟨_, Lib.hid rfl⟩
  rw [hln.out] at hk
  have B := Lib.hid (show Below w.heap.size w (w.alloc (.cells #[.bool p.b, .bool p.e, .int .i64 p.n, .slice A n c] 50)) from (Below.refl _ _).alloc (Nat.le_refl _) _)
  have WAYS : k < 0 ∨ (¬ k < 0 ∧ (ln : Int) ≤ k) := by omega
  have H := Lib.hid h
  clear h hk
  go_enter Tryd.func15, Tryd.ntmps15
  go_upto_region 1 with fail
  refine at_worldJ (fun W => Hid (Below w.heap.size w W)) B ?_
  clear B
  intro W B
  have c4 := (H.out.below B.out).px.c4
  rw [hln.out] at c4
  rcases WAYS with t1 | ⟨t1, t2⟩
  · go_wp2_with fail
    exact bodyPost_ret (results_tmp2 rfl _ _ _) rfl ⟨rfl, B.out⟩
  · go_wp2_with fail
    exact bodyPost_ret (results_tmp2 rfl _ _ _) rfl ⟨rfl, B.out⟩
set_option maxHeartbeats 4000000 in
theorem pfeed_num (b : Nat) (j : Jn) (q : Jq) (ol : List Int) (k : Nat) (p : Pc) (A : Option Addr) (n c : Nat) (w : World) (h : Pw w b j q ol) (hk : k < j.last.length) (hp : p.n < 0 ∨ (frmod j.sh : Int) ≤ p.n) :
    Calls Tryd.prog 15 #[.pointer (some ⟨b, 0, none⟩), .int .i64 (k : Int), pvV p.b p.e p.n A n c] w fun e w' => e = .returned (.tuple #[.slice none 0 0, .int .i64 5]) ∧ Below w.heap.size w w' := by
  obtain ⟨mo, hmo1⟩ : ∃ m, Hid (frmod j.sh = m) := ⟨_, Lib.hid rfl⟩
  obtain ⟨ln, hln⟩ : ∃ m, Hid (j.last.length = m) := ⟨_, Lib.hid rfl⟩
  rw [hmo1.out] at hp
  have C := Lib.hid (show FrX (w.alloc (.cells #[.bool p.b, .bool p.e, .int .i64 p.n, .slice A n c] 50)) w.heap.size 50 p.b p.e p.n A n c ∧ Below w.heap.size w (w.alloc (.cells #[.bool p.b, .bool p.e, .int .i64 p.n, .slice A n c] 50)) from ⟨FrX.new _ _ _ _ _ _ _ _, (Below.refl _ _).alloc (Nat.le_refl _) _⟩)
  have WAYS : p.n < 0 ∨ (¬ p.n < 0 ∧ (mo : Int) ≤ p.n) := by omega
  have t1 : ¬ (k : Int) < 0 := by omega
  have t2 : ¬ (ln : Int) ≤ (k : Int) := by rw [← hln.out]; omega
  have H := Lib.hid h
  clear h hk hp
  go_enter Tryd.func15, Tryd.ntmps15
  go_upto_region 1 with fail
  refine at_worldJ (fun W => Hid (FrX W w.heap.size 50 p.b p.e p.n A n c ∧ Below w.heap.size w W)) C ?_
  clear C
  intro W C
  have c1 := (H.out.below C.out.2).px.c1; have c4 := (H.out.below C.out.2).px.c4
  rw [hmo1.out] at c1
  rw [hln.out] at c4
  have x2 := C.out.1.c2
  rcases WAYS with t3 | ⟨t3, t4⟩
  · have t5 : decide (p.n < 0) = true := by simp; exact t3
    go_wp2_with fail
    go_quiet (fail)
    go_wp2_with fail
    exact bodyPost_ret (results_tmp2 rfl _ _ _) rfl ⟨rfl, below_drewN C.out.2 _⟩
  · have t5 : decide (p.n < 0) = false := by simp; omega
    have t6 : decide ((mo : Int) ≤ p.n) = true := by simp; exact t4
    go_wp2_with fail
    go_quiet (fail)
    go_wp2_with fail
    exact bodyPost_ret (results_tmp2 rfl _ _ _) rfl ⟨rfl, below_drewN C.out.2 _⟩
end Go.Proofs.YtamdaepeogmboaaDoor
