
/-
  The examples of layer 20. No condition.
-/
import Derived.Test.YthebckidjhenlaaGreatBodP
namespace Go.Proofs.YthebckidjhenlaaGreat
set_option maxRecDepth 4000
open Go.RowKit
set_option linter.unusedVariables false

theorem bput_ex1 (A : Option Addr) (w : World) (h : Rd w w.heap.size A [1, 2]) :
    Calls Tryz.prog 6 #[.agg #[.int .u16 33, .int .u8 0, .int .u8 0, .slice none 0 0, .int .u16 0, .int .u32 0, .slice none 0 0, .slice none 0 0, .slice A 2 2, .slice none 0 0]] w fun e w' => PutR w [1, 2] 2 0 e w' :=
  bput_any (datP 33 [1, 2]) { pl0 with ad := A, nd := 2, cd := 2 } w ⟨rfl, Rws.nilO, rfl, Rd.nil, rfl, Rd.nil, rfl, h, rfl, Rws.nil, Nat.le_refl _, Nat.le_refl _, Nat.le_refl _⟩ ⟨by decide, by decide, by decide, fun x hx => (by cases hx), by decide, by decide, By.nil, By.nil, (by intro x hx; simp [datP] at hx; omega), fun x hx => (by cases hx)⟩ ⟨by decide, by decide, by decide, by decide, by decide, by decide⟩ [1, 2] 0 (bput_dat (by decide) (by unfold layB; decide) [1, 2]) 2 rfl
theorem bput_ex2 (w : World) :
    Calls Tryz.prog 6 #[.agg #[.int .u16 49185, .int .u8 5, .int .u8 0, .slice none 0 0, .int .u16 0, .int .u32 0, .slice none 0 0, .slice none 0 0, .slice none 0 0, .slice none 0 0]] w fun e w' => PutR w [5, 0, 0, 4] 4 0 e w' :=
  bput_any ⟨49185, 5, 0, [], 0, 0, [], [], [], []⟩ pl0 w ⟨rfl, Rws.nilO, rfl, Rd.nil, rfl, Rd.nil, rfl, Rd.nil, rfl, Rws.nil, Nat.le_refl _, Nat.le_refl _, Nat.le_refl _⟩ ⟨by decide, by decide, by decide, fun x hx => (by cases hx), by decide, by decide, By.nil, By.nil, By.nil, fun x hx => (by cases hx)⟩ ⟨by decide, by decide, by decide, by decide, by decide, by decide⟩ [5, 0, 0, 4] 0 (by decide) 4 rfl

set_option maxHeartbeats 4000000 in
theorem speaks20 (w : World) : Calls Tryz.prog 4 #[] w fun e w' => e = .returned (.bool true) ∧ Below w.heap.size w w' := by
  have B := Lib.hid ((Below.refl w.heap.size w).alloc (Nat.le_refl _) (.cells #[.int .u8 1, .int .u8 2] 5))
  have R1 := Lib.hid (show Rd (w.alloc (.cells #[.int .u8 1, .int .u8 2] 5)) (w.alloc (.cells #[.int .u8 1, .int .u8 2] 5)).heap.size (some ⟨w.heap.size, 0, none⟩) [1, 2] from Rd.lit_ w [1, 2])
  have W1 := Lib.hid trivial
  go_enter Tryz.func4, Tryz.ntmps4
  go_upto_region 3 with (first
    | (go_at_call 6; (with_reducible refine (bput_ex1 _ _ R1.out).mono ?_); rintro e wn ⟨A5, c5, rfl, h5, -, hb⟩; replace B := Lib.hid (B.out.trans (hb.mono B.out.size)); have X5 := Lib.hid h5; clear h5 hb R1)
    | (go_at_call 6; (with_reducible refine (bput_ex2 _).mono ?_); rintro e wn ⟨A6, c6, rfl, h6, -, hb⟩; replace B := Lib.hid (B.out.trans (hb.mono B.out.size)); replace X5 := Lib.hid (X5.out.ons hb); have X6 := Lib.hid h6; clear h6 hb))
  have hb1 := Lib.hid ((Below.refl wn.heap.size wn).alloc (Nat.le_refl _) (.cells #[.int .u8 1, .int .u8 2] 5))
  have L1 := Lib.hid (show Rd (wn.alloc (.cells #[.int .u8 1, .int .u8 2] 5)) (wn.alloc (.cells #[.int .u8 1, .int .u8 2] 5)).heap.size (some ⟨wn.heap.size, 0, none⟩) [1, 2] from Rd.lit_ wn [1, 2])
  go_wp2_with (first
    | (go_at_call 11; have _g := W1; clear _g; (with_reducible refine (equal_yes [1, 2] [1, 2] 2 2 _ _ _ _ _ (X5.out.ons hb1.out) L1.out rfl rfl (by omega) rfl).mono ?_); rintro e w5 ⟨rfl, hb5⟩; have hbb := hb1.out.trans (hb5.mono hb1.out.size); replace B := Lib.hid (B.out.trans (hbb.mono B.out.size)); have hb2 := (Below.refl w5.heap.size w5).alloc (Nat.le_refl _) (.cells #[.int .u8 5, .int .u8 0, .int .u8 0, .int .u8 4] 5); replace X6 := Lib.hid ((X6.out.ons hbb).ons hb2); have L2 := Lib.hid (show Rd (w5.alloc (.cells #[.int .u8 5, .int .u8 0, .int .u8 0, .int .u8 4] 5)) (w5.alloc (.cells #[.int .u8 5, .int .u8 0, .int .u8 0, .int .u8 4] 5)).heap.size (some ⟨w5.heap.size, 0, none⟩) [5, 0, 0, 4] from Rd.lit_ w5 [5, 0, 0, 4]); replace B := Lib.hid (B.out.trans (hb2.mono B.out.size)); clear hb1 L1 hb5 hbb hb2 W1)
    | (go_at_call 11; (with_reducible refine (equal_yes [5, 0, 0, 4] [5, 0, 0, 4] 4 4 _ _ _ _ _ X6.out L2.out rfl rfl (by omega) rfl).mono ?_); rintro e w7 ⟨rfl, hb7⟩; replace B := Lib.hid (B.out.trans (hb7.mono B.out.size)); clear hb7))
  go_ret
  exact ⟨rfl, B.out⟩
end Go.Proofs.YthebckidjhenlaaGreat
