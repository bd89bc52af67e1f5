
/-
  The example of layer 22's chapter. No condition.
-/
import Derived.Test.YtmhjnghomihjlaaEthU
namespace Go.Proofs.Ytmhjnghomihjlaa
set_option maxRecDepth 4000
open Go.RowKit
set_option linter.unusedVariables false

/-- The frame of the example. -/
def ex22 : Fr := ⟨9, 0, [(257, [])], pk0⟩
theorem ex22_ok : ex22.ok := ⟨by decide, by decide, fun o ho => by rcases List.mem_singleton.1 ho with rfl; exact ⟨by decide, By.nil⟩, pk0_ok⟩
theorem ex22_put : eputB ex22 = ([17, 9, 0, 0, 0, 4, 1, 1, 0, 0], 0) := by decide
theorem eput_ex (A : Option Addr) (w : World) (h : Rws shG (fun _ => True) w A [(257, [])]) (m : List Nat) (hm : ([17, 9, 0, 0, 0, 4, 1, 1, 0, 0] : List Nat) = m) :
    Calls Try.prog 13 #[.agg #[.int .u8 9, .int .u16 0, .slice A 1 1, .int .u16 0, .int .u8 0, .int .u8 0, .slice none 0 0, .int .u16 0, .int .u32 0, .slice none 0 0, .slice none 0 0, .slice none 0 0, .slice none 0 0]] w fun e w' => ∃ A' c', e = .returned (.tuple #[.slice A' 10 c', .int .i64 0]) ∧ Rd w' w'.heap.size A' m ∧ Below w.heap.size w w' := by
  subst hm
  have h9 := eput_any ex22 ⟨A, 1, 1, pl0⟩ w ⟨rfl, h, Nat.le_refl _, pwF0⟩ ex22_ok sm0 (show 1 ≤ 137438953472 by decide) (by decide) (by decide) _ _ ex22_put 10 rfl
  exact h9.mono fun _ _ ⟨A', c', h1, h2, _, h3⟩ => ⟨A', c', h1, h2, h3⟩

set_option maxHeartbeats 2000000 in
theorem speaks22 (w : World) : Calls Try.prog 4 #[] w fun e w' => e = .returned (.bool true) ∧ Below w.heap.size w w' := by
  have h2 := litg (F := fun _ => True) w (T := 43) (A := none) (t := 257) (n := 0) (c := 0) (l := []) rfl (Nat.le_refl 0) RdF.nil
  have HR2 := Lib.hid (show Rws shG (fun _ => True) (w.alloc (.cells #[.int .u16 257, .slice none 0 0] 43)) (some ⟨w.heap.size, 0, none⟩) [(257, [])] from h2.read.mono (fun _ _ _ => trivial))
  have hb2 := (Below.refl w.heap.size w).alloc (Nat.le_refl _) (.cells #[.int .u16 257, .slice none 0 0] 43)
  have B := Lib.hid hb2
  obtain ⟨m, hm⟩ : ∃ m, Hid (([17, 9, 0, 0, 0, 4, 1, 1, 0, 0] : List Nat) = m) := ⟨_, Lib.hid rfl⟩
  have LM := Lib.hid (show m.length = 10 by rw [← hm.out]; rfl)
  clear h2 hb2
  go_enter Try.func4, Try.ntmps4
  go_upto_region 2 with (go_at_call 13; (with_reducible refine (eput_ex _ _ HR2.out m hm.out).mono ?_); rintro e w3 ⟨A3, c3, rfl, h3, hb⟩; have B3 := Lib.hid (B.out.trans (hb.mono B.out.size)); have H3 := Lib.hid h3; clear h3 hb)
  have HL4 := Lib.hid (show Rd (w3.alloc (.cells #[.int .u8 17, .int .u8 9, .int .u8 0, .int .u8 0, .int .u8 0, .int .u8 4, .int .u8 1, .int .u8 1, .int .u8 0, .int .u8 0] 5)) (w3.alloc (.cells #[.int .u8 17, .int .u8 9, .int .u8 0, .int .u8 0, .int .u8 0, .int .u8 4, .int .u8 1, .int .u8 1, .int .u8 0, .int .u8 0] 5)).heap.size (some ⟨w3.heap.size, 0, none⟩) m by
    rw [← hm.out]
    exact Rd.lit_ w3 [17, 9, 0, 0, 0, 4, 1, 1, 0, 0])
  have hb4 := Lib.hid ((Below.refl w3.heap.size w3).alloc (Nat.le_refl _) (.cells #[.int .u8 17, .int .u8 9, .int .u8 0, .int .u8 0, .int .u8 0, .int .u8 4, .int .u8 1, .int .u8 1, .int .u8 0, .int .u8 0] 5))
  go_wp2_with (first
    | (go_at_call 8; (with_reducible refine (equal_yes m m 10 10 _ _ _ _ _ (H3.out.on hb4.out) HL4.out LM.out LM.out (by omega) rfl).mono ?_); rintro e w5 ⟨rfl, hb⟩; have B5 := Lib.hid ((B3.out.trans (hb4.out.mono B3.out.size)).trans (hb.mono (Nat.le_trans B3.out.size hb4.out.size))); clear hb))
  go_ret
  exact ⟨rfl, B5.out⟩
end Go.Proofs.Ytmhjnghomihjlaa
