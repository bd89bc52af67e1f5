
/-
  CtlMost's walk. No condition.
-/
import Derived.Test.YtjkgnpgmbdkgbaaCtlV
namespace Go.Proofs.Ytjkgnpgmbdkgbaa
open Go.RowKit

theorem len_zeros (n : Nat) : (List.replicate n 0 : List Nat).length = n := List.length_replicate
theorem by_zeros (n : Nat) : By (List.replicate n 0) := fun x hx => by rw [(List.mem_replicate.1 hx).2]; decide
theorem zeros_rd {w : World} {A : Option Addr} {base n c : Nat} (h : w.ownsRow base 5 1 (.slice A n c) n (madeCells (Value.cells (.int .u8 0)) (n * 1)).toList) : Rd w w.heap.size A (List.replicate n 0) := by
  rw [← part_zero] at h
  have e : part [] n 0 = List.replicate n 0 := by unfold part; rw [Nat.sub_zero]; rfl
  rw [e] at h
  exact Rd.own h
/-- The calls, their numbers as the law writes them. -/
theorem put_most (l : List Nat) (hl : l.length = 65531) (c : Nat) (A : Option Addr) (w : World) (h : Rd w w.heap.size A l) :
    Calls Try.prog 8 #[.int .u8 1, .int .u8 2, .slice A 65531 c] w fun e w' => ∃ A' c', e = .returned (.tuple #[.slice A' 65535 c', .int .i64 0]) ∧ Rd w' w'.heap.size A' (putB 1 2 l) ∧ 65535 ≤ c' ∧ Below w.heap.size w w' :=
  cput_v 1 2 l 0 (errP_ok (by omega)) (putB 1 2 l) (putA_ok 1 2 (by omega)) 65535 (by rw [put_len, hl]) 65531 c A w h hl
theorem put_long (l : List Nat) (hl : l.length = 65532) (c : Nat) (A : Option Addr) (w : World) (h : Rd w w.heap.size A l) :
    Calls Try.prog 8 #[.int .u8 1, .int .u8 2, .slice A 65532 c] w fun e w' => ∃ A' c', e = .returned (.tuple #[.slice A' 0 c', .int .i64 3]) ∧ Below w.heap.size w w' :=
  (cput_v 1 2 l 3 (by unfold errP; rw [if_neg (by omega)]) [] (by unfold putA; rw [if_neg (by omega)]) 0 rfl 65532 c A w h hl).mono fun _ _ ⟨A', c', h1, _, _, h4⟩ => ⟨A', c', h1, h4⟩
theorem get_most (l : List Nat) (hl : l.length = 65531) (hb : By l) (c : Nat) (A : Option Addr) (w : World) (h : Rd w w.heap.size A (putB 1 2 l)) (hc : 65535 ≤ c) :
    Calls Try.prog 10 #[.slice A 65535 c] w fun e w' => ∃ A' c', e = .returned (.tuple #[.int .u8 1, .int .u8 2, .slice A' 65531 c', .int .i64 0]) ∧ Below w.heap.size w w' :=
  (cget_v (putB 1 2 l) 1 2 l 0 (by have := get_put 1 2 l []; rwa [List.append_nil] at this) 65531 hl 65535 c A w h (put_by (by decide) (by decide) hb (by omega)) (by rw [put_len, hl]) (by omega) hc).mono fun _ _ ⟨A', c', h1, _, _, h4⟩ => ⟨A', c', h1, h4⟩
theorem make_zeros (n : Nat) (hn : n ≤ 1099511627776) (w : World) : ∃ w', (Instr.makeSlice 22 (.int .i64 (n : Int)) (.int .i64 (n : Int))).run Try.prog w = .ok (.slice (some ⟨w.heap.size, 0, none⟩) n n) w' ∧ Rd w' w'.heap.size (some ⟨w.heap.size, 0, none⟩) (List.replicate n 0) ∧ Below w.heap.size w w' := by
  obtain ⟨i0, hi, hz0, hz1, hz2⟩ := info_parts byte_info
  obtain ⟨w', h1, h2, h3⟩ := run_make_full (P := Try.prog) (w := w) w.heap.size 22 5 i0 (.int .u8 0) 1 Try.underlying22 hi hz0 hz1 .i64 .i64 n (by rw [hz2]; omega) (by unfold maxLen; omega) (Nat.le_refl _)
  exact ⟨w', h1, zeros_rd h2, (Below.refl _ _).grown h3 (Nat.le_refl _) (fun k hk => by cases hk)⟩
theorem make_most (w : World) : ∃ w', (Instr.makeSlice 22 (.int .i64 65531) (.int .i64 65531)).run Try.prog w = .ok (.slice (some ⟨w.heap.size, 0, none⟩) 65531 65531) w' ∧ Rd w' w'.heap.size (some ⟨w.heap.size, 0, none⟩) (List.replicate 65531 0) ∧ Below w.heap.size w w' := make_zeros 65531 (by omega) w
theorem make_more (w : World) : ∃ w', (Instr.makeSlice 22 (.int .i64 65532) (.int .i64 65532)).run Try.prog w = .ok (.slice (some ⟨w.heap.size, 0, none⟩) 65532 65532) w' ∧ Rd w' w'.heap.size (some ⟨w.heap.size, 0, none⟩) (List.replicate 65532 0) ∧ Below w.heap.size w w' := make_zeros 65532 (by omega) w

set_option maxHeartbeats 4000000 in
theorem most_walk (w : World) :
    Calls Try.prog 5 #[] w fun e w' => e = .returned (.bool true) ∧ Below w.heap.size w w' := by
  have B := Lib.hid (Below.refl w.heap.size w)
  obtain ⟨z1, hz1⟩ : ∃ l, Hid (l = (List.replicate 65531 0 : List Nat)) := ⟨_, Lib.hid rfl⟩
  obtain ⟨z2, hz2⟩ : ∃ l, Hid (l = (List.replicate 65532 0 : List Nat)) := ⟨_, Lib.hid rfl⟩
  have L1 := Lib.hid (show z1.length = 65531 by rw [hz1.out, len_zeros])
  have L2 := Lib.hid (show z2.length = 65532 by rw [hz2.out, len_zeros])
  have B1 := Lib.hid (show By z1 by rw [hz1.out]; exact by_zeros _)
  obtain ⟨w1, m1, r1, b1⟩ := make_most w
  rw [← hz1.out] at r1
  have R1 := Lib.hid r1
  replace B := Lib.hid (B.out.trans b1)
  clear r1 b1
  go_enter Try.func5, Try.ntmps5
  go_wp2_with (first
    | (go_at_call 8; (with_reducible refine (put_most z1 L1.out _ _ _ R1.out).mono ?_); rintro e wn ⟨A3, c3, rfl, h3, hc3, hb⟩; replace B := Lib.hid (B.out.trans (hb.mono B.out.size)); (try replace X := Lib.hid (X.out.on hb)); have X := Lib.hid h3; obtain ⟨w2, m2, r2, b2⟩ := make_more wn; rw [← hz2.out] at r2; have R2 := Lib.hid r2; replace B := Lib.hid (B.out.trans (b2.mono B.out.size)); have X2 := Lib.hid (X.out.on b2); clear h3 r2 b2 m1; clear hb)
    | (go_at_call 8; (with_reducible refine (put_long z2 L2.out _ _ _ R2.out).mono ?_); rintro e wn ⟨A4, c4, rfl, hb⟩; replace B := Lib.hid (B.out.trans (hb.mono B.out.size)); (try replace X := Lib.hid (X.out.on hb)); have X3 := Lib.hid (X2.out.on hb); clear m2; clear hb)
    | (go_at_call 10; (with_reducible refine (get_most z1 L1.out B1.out _ _ _ X3.out hc3).mono ?_); rintro e wn ⟨A5, c5, rfl, hb⟩; replace B := Lib.hid (B.out.trans (hb.mono B.out.size)); (try replace X := Lib.hid (X.out.on hb)); clear hb)
    | (go_at_call 7; (with_reducible refine (speaks13 _).mono ?_); rintro e wn ⟨rfl, hb⟩; replace B := Lib.hid (B.out.trans (hb.mono B.out.size)); (try replace X := Lib.hid (X.out.on hb)); clear hb))
  go_ret
  exact ⟨rfl, B.out⟩
end Go.Proofs.Ytjkgnpgmbdkgbaa
