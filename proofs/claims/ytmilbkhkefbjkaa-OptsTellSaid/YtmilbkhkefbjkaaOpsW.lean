
/-
  The example of the document for layer 14; the laws' calls by name. No condition.
-/
import Derived.Test.YtmilbkhkefbjkaaOpsG
import Derived.Test.YtmilbkhkefbjkaaOpsU
namespace Go.Proofs.Ytmilbkhkefbjkaa
open Go.RowKit

theorem num_ex (w : World) : Calls Try.prog 26 #[.int .u8 1, .int .u64 1500, .int .i64 2] w fun e w' => ∃ A c, e = .returned (.agg #[.int .u8 1, .slice A 2 c]) ∧ 2 ≤ c ∧ Rd w' w'.heap.size A [5, 220] ∧ Below w.heap.size w w' :=
  (num_any 1 1500 2 (by omega) w).mono fun _ _ ⟨A, c, h1, h2, h3⟩ => ⟨A, c, h1, own_cap h2, Rd.own h2, h3⟩
theorem settle_ex (A : Option Addr) (k : Nat) (F : Nat → Prop) (w : World) (h : Rws shO F w A [(1, [5, 220])]) :
    Calls Try.prog 24 #[.agg #[.bool false, .bool false, .bool false, .bool false, .int .u32 0, .int .u32 0, .int .i64 64], .slice A 1 k] w fun e w' => e = .returned (.tuple #[.agg #[.bool false, .bool false, .bool false, .bool false, .int .u32 0, .int .u32 0, .int .i64 1500], .int .i64 0]) ∧ Below w.heap.size w w' :=
  settle_any ⟨false, false, false, false, 0, 0, 64⟩ [(1, [5, 220])] 1 k A F w h (fun x hx => by simp at hx; subst hx; exact ⟨by decide, fun y hy => by have : y ∈ [5, 220] := hy; simp at this; omega⟩) rfl (by omega) ⟨false, false, false, false, 0, 0, 1500⟩ 0 rfl (by simp)

/-- A field of an option that lies nowhere. -/
theorem field_1 (x : Value) (A : Option Addr) (n c : Nat) (w : World) : (Instr.field 33 (.agg #[x, .slice A n c]) 1).run Try.prog w = .ok (.slice A n c) w := by kernel_rfl

set_option maxHeartbeats 2000000 in
theorem speaks14 (w : World) : Calls Try.prog 8 #[] w fun e w' => e = .returned (.bool true) ∧ Below w.heap.size w w' := by
  have B := Lib.hid (Below.refl w.heap.size w)
  have G1 := Lib.hid trivial
  have hfd := field_1
  go_enter Try.func8, Try.ntmps8
  go_wp2_with (first
    | (go_at_call 26; have _g := G1; clear _g; (with_reducible refine (num_ex _).mono ?_); rintro e wn ⟨A1, c1, rfl, hcap, h1, hb⟩; replace B := Lib.hid (B.out.trans (hb.mono B.out.size)); have R := Lib.hid (show Rws shO (fun b => True ∨ wn.heap.size ≤ b) (wn.alloc (.cells #[.int .u8 1, .slice A1 2 c1] 33)) (some ⟨wn.heap.size, 0, none⟩) [(1, [5, 220])] from (lito (F := fun _ => True) wn (T := 33) (t := 1) (n := 2) (c := c1) (l := [5, 220]) rfl hcap (h1.rdF (fun _ _ => trivial) (Nat.le_refl _))).read); replace B := Lib.hid (B.out.alloc B.out.size (.cells #[.int .u8 1, .slice A1 2 c1] 33)); clear h1 hb G1 hcap)
    | (go_at_call 24; (with_reducible refine (settle_ex _ 1 _ _ R.out).mono ?_); rintro e ws ⟨rfl, hb⟩; replace B := Lib.hid (B.out.trans (hb.mono B.out.size)); replace B := Lib.hid (B.out.alloc B.out.size (.cells #[.bool false, .bool false, .bool false, .bool false, .int .u32 0, .int .u32 0, .int .i64 1500] 56)); have K := Lib.hid (show ws.heap.size < (ws.alloc (.cells #[.bool false, .bool false, .bool false, .bool false, .int .u32 0, .int .u32 0, .int .i64 1500] 56)).heap.size ∧ (ws.alloc (.cells #[.bool false, .bool false, .bool false, .bool false, .int .u32 0, .int .u32 0, .int .i64 1500] 56)).cell? ⟨ws.heap.size, 6, none⟩ = some (.int .i64 1500) from ⟨by rw [World.size_alloc]; omega, by rw [cell_of_row _ _ 6 _ _ _ (heap_alloc_new ws _)]; rfl⟩); clear hb R; have G2 := Lib.hid trivial)
    | (go_at_call 26; have _g := G2; clear _g; (with_reducible refine (num_ex _).mono ?_); rintro e wn ⟨A2, c2, rfl, -, h1, hb⟩; replace B := Lib.hid (B.out.trans (hb.mono B.out.size)); replace K := Lib.hid (⟨Nat.lt_of_lt_of_le K.out.1 hb.size, (hb.cell (p := ⟨ws.heap.size, 6, none⟩) K.out.1).trans K.out.2⟩ : _ ∧ wn.cell? ⟨ws.heap.size, 6, none⟩ = some (.int .i64 1500)); have X := Lib.hid h1; have L := Lib.hid (show Rd (wn.alloc (.cells #[.int .u8 5, .int .u8 220] 5)) (wn.alloc (.cells #[.int .u8 5, .int .u8 220] 5)).heap.size (some ⟨wn.heap.size, 0, none⟩) [5, 220] from Rd.lit_ wn [5, 220]); have ba := (Below.refl wn.heap.size wn).alloc (Nat.le_refl _) (.cells #[.int .u8 5, .int .u8 220] 5); replace X := Lib.hid (X.out.on ba); replace B := Lib.hid (B.out.trans (ba.mono B.out.size)); replace K := Lib.hid (⟨Nat.lt_of_lt_of_le K.out.1 ba.size, (ba.cell (p := ⟨ws.heap.size, 6, none⟩) K.out.1).trans K.out.2⟩ : _ ∧ (wn.alloc (.cells #[.int .u8 5, .int .u8 220] 5)).cell? ⟨ws.heap.size, 6, none⟩ = some (.int .i64 1500)); clear h1 hb ba G2)
    | (go_at_call 21; (with_reducible refine (equal_yes [5, 220] [5, 220] 2 2 _ _ _ _ _ X.out L.out rfl rfl (by omega) rfl).mono ?_); rintro e wn ⟨rfl, hb⟩; replace B := Lib.hid (B.out.trans (hb.mono B.out.size)); have k6 := (hb.cell (p := ⟨ws.heap.size, 6, none⟩) K.out.1).trans K.out.2; clear X L hb))
  go_ret
  exact ⟨rfl, B.out⟩
end Go.Proofs.Ytmilbkhkefbjkaa
