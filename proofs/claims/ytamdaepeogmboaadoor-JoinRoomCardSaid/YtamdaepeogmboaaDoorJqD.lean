
/-
  The example of layer 24's document: the program answers it. Condition: the headers' shapes stand as the start-up lays them.
-/
import Derived.Test.YtamdaepeogmboaaDoorJqC
import Derived.Test.YtamdaepeogmboaaDoorEq
namespace Go.Proofs.YtamdaepeogmboaaDoor
set_option maxRecDepth 8000
open Go.RowKit Go.Maps

def sp0 : Jn := jnew true 2 4 100
def sp1 : Jn := { sp0 with last := [-1, 1], wait := [(1, ⟨false, true, 1, [2]⟩)] }
theorem sp_feed1 : jfeed sp0 1 ⟨false, true, 1, [2]⟩ = sp1 := by
  have e : jcame sp0 1 ⟨false, true, 1, [2]⟩ = sp1 := by rfl
  show jover 4 (jrun (jcame sp0 1 ⟨false, true, 1, [2]⟩)) = sp1
  rw [e, jrun_stop (j := sp1) (by rfl), jover_stop (by decide)]
def sp2 : Jn := ⟨true, 4, 100, [0, 1], [], 2, 0, [], [⟨0, [1, 2], 0, 0⟩]⟩
theorem sp_feed2 : jfeed sp1 0 ⟨true, false, 0, [1]⟩ = sp2 := by
  have e : jcame sp1 0 ⟨true, false, 0, [1]⟩ = { sp1 with last := [0, 1], wait := [(1, ⟨false, true, 1, [2]⟩), (0, ⟨true, false, 0, [1]⟩)] } := by rfl
  have e2 : jrun { sp1 with last := [0, 1], wait := [(1, ⟨false, true, 1, [2]⟩), (0, ⟨true, false, 0, [1]⟩)] } = sp2 := by
    rw [jrun_of (n := 2) (by rfl)]
    rfl
  show jover 4 (jrun (jcame sp1 0 ⟨true, false, 0, [1]⟩)) = sp2
  rw [e, e2, jover_stop (by decide)]
/-- The number of a link as Go has it. -/
theorem sp_call1 (b : Nat) (q : Jq) (ol : List Int) (A : Option Addr) (w : World) (h : Pw w b sp0 q ol) (hp : RdF (fun i => ¬ q.own b i) w A [2]) (hmn : q.mn < 1099511627776) (hfr : ∀ i, q.fr i) :
    Calls Tryd.prog 15 #[.pointer (some ⟨b, 0, none⟩), .int .i64 1, pvV false true 1 A 1 1] w fun e w' => ∃ q' ol' D c, e = .returned (.tuple #[.slice D 0 c, .int .i64 0]) ∧ Pw w' b sp1 q' ol' ∧ Ps b q w q' w' ∧ q'.mn ≤ q.mn + 1 ∧ ∀ i, q'.fr i := by
  have hc := pfeed_any b sp0 q ol 0 4096 1 ⟨false, true, 1, [2]⟩ A 1 1 w h hp rfl (Nat.le_refl _) (jnew_ok (s := true) (links := 2) (room := 4) (most := 100) (by decide) (by decide) (by decide) (by decide)).1 ⟨fun y hy => (by cases hy), fun _ => rfl⟩ rfl (by decide) (by decide) (by decide) (by decide) (by decide) (by decide) (by decide) hmn hfr
  refine Calls.mono hc ?_
  rintro e w' ⟨v, rfl, q', ol', D, n, c, rfl, k1, k2, k3, k4, k5, k6, k7⟩
  rw [sp_feed1] at k1 k3 k4
  subst k1
  exact ⟨q', ol', D, c, rfl, k4, k5, k6, k7⟩
theorem sp1_ok : Jok 4096 sp1 := by
  have h := (jnew_ok (s := true) (links := 2) (room := 4) (most := 100) (by decide) (by decide) (by decide) (by decide)).1
  have h2 := h.came (k := 1) (by decide) (p := ⟨false, true, 1, [2]⟩) (by decide) (by decide)
  exact h2
theorem sp_call2 (b : Nat) (q : Jq) (ol : List Int) (A : Option Addr) (w : World) (h : Pw w b sp1 q ol) (hp : RdF (fun i => ¬ q.own b i) w A [1]) (hmn : q.mn < 1099511627776) (hfr : ∀ i, q.fr i) :
    Calls Tryd.prog 15 #[.pointer (some ⟨b, 0, none⟩), .int .i64 0, pvV true false 0 A 1 1] w fun e w' => ∃ q' g off c E m, e = .returned (.tuple #[.slice (some ⟨g, off, none⟩) 1 c, .int .i64 0]) ∧ Ps b q w q' w' ∧ w'.cell? ⟨g, off, none⟩ = some (.int .i64 0) ∧ w'.cell? ⟨g, off + 1, none⟩ = some (.slice E 2 m) ∧ Rd w' w'.heap.size E [1, 2] := by
  have hc := pfeed_any b sp1 q ol 4096 8192 0 ⟨true, false, 0, [1]⟩ A 1 1 w h hp rfl (Nat.le_refl _) sp1_ok ⟨fun y hy => (by rw [List.mem_singleton.1 hy]; rfl), fun _ => rfl⟩ rfl (by decide) (by decide) (by decide) (by decide) (by decide) (by decide) (by decide) hmn hfr
  refine Calls.mono hc ?_
  rintro e w' ⟨v, rfl, q', ol', D, n, c, rfl, k1, k2, k3, k4, k5, k6, k7⟩
  rw [sp_feed2] at k1 k3 k4
  subst k1
  obtain ⟨g, off, x, E, m, rfl, g2, g3, g4, g5, g6, g7, g8, g9⟩ := k3.ev (k := 0) (by decide)
  injection g3 with g3
  subst g3
  exact ⟨q', g, off, c, E, m, rfl, k5, by simpa using g4, by simpa using g5, g9.rd⟩
set_option maxHeartbeats 4000000 in
theorem jspeaks (w : World) (hT : TabF w) : Calls Tryd.prog 7 #[] w fun e w' => e = .returned (.bool true) ∧ Below w.heap.size w w' := by
  have hnew := pnew_any true 2 4 100 w hT (by decide) (by decide) (by decide) (by decide) (by decide) (by decide)
  rw [show ((2 : Nat) : Int) = 2 from rfl] at hnew
  clear hT
  go_enter Tryd.func7, Tryd.ntmps7
  go_wp2_with (first
    | (go_at_call 8; (with_reducible refine hnew.mono ?_); rintro e w1 ⟨b, q, rfl, k1, k2, k3, k4, k5⟩; have C := Lib.hid (show Pw w1 b sp0 q [] ∧ Below w.heap.size w w1 ∧ (∀ i, q.own b i → w.heap.size ≤ i) ∧ q.mn = 0 ∧ ∀ i, q.fr i from ⟨k1, k2, k3, k4, k5⟩); have L1 := Lib.hid (show RdF (fun i => ¬ q.own b i) (w1.alloc (.cells #[.int .u8 2] 5)) (some ⟨w1.heap.size, 0, none⟩) [2] from fun _ => ⟨w1.heap.size, 0, rfl, by simp, k1.new (Nat.le_refl _), fun k x hx => by rw [cell_of_row _ _ _ _ _ _ (heap_alloc_new w1 _)]; rcases k with _ | k <;> simp at hx; subst hx; rfl⟩); clear k1 k2 k3 k4 k5 hnew; dsimp only)
    | (go_at_call 15; (with_reducible refine (sp_call1 b q [] _ _ (C.out.1.below ((Below.refl _ _).alloc (Nat.le_refl _) _)) L1.out (by rw [C.out.2.2.2.1]; decide) C.out.2.2.2.2).mono ?_); rintro e w2 ⟨q2, ol2, D2, c2, rfl, k1, k2, k3, k4⟩; have C2 := Lib.hid (show Pw w2 b sp1 q2 ol2 ∧ Ps b q w1 q2 w2 ∧ q2.mn ≤ 1 ∧ ∀ i, q2.fr i from ⟨k1, (Ps.of_below ((Below.refl _ _).alloc (Nat.le_refl _) _)).trans k2, by rw [C.out.2.2.2.1] at k3; exact k3, k4⟩); have L2 := Lib.hid (show RdF (fun i => ¬ q2.own b i) (w2.alloc (.cells #[.int .u8 1] 5)) (some ⟨w2.heap.size, 0, none⟩) [1] from fun _ => ⟨w2.heap.size, 0, rfl, by simp, k1.new (Nat.le_refl _), fun k x hx => by rw [cell_of_row _ _ _ _ _ _ (heap_alloc_new w2 _)]; rcases k with _ | k <;> simp at hx; subst hx; rfl⟩); clear k1 k2 k3 k4 L1; dsimp only)
    | (go_at_call 15; (with_reducible refine (sp_call2 b q2 ol2 _ _ (C2.out.1.below ((Below.refl _ _).alloc (Nat.le_refl _) _)) L2.out (by have := C2.out.2.2.1; omega) C2.out.2.2.2).mono ?_); rintro e w3 ⟨q3, g3, o3, c3, E3, m3, rfl, k1, x0, x1, k2⟩; have C3 := Lib.hid (show Ps b q w1 q3 w3 from C2.out.2.1.trans ((Ps.of_below ((Below.refl _ _).alloc (Nat.le_refl _) _)).trans k1)); have R3 := Lib.hid (show Rd (w3.alloc (.cells #[.int .u8 1, .int .u8 2] 5)) (w3.alloc (.cells #[.int .u8 1, .int .u8 2] 5)).heap.size E3 [1, 2] from (k2.below ((Below.refl _ _).alloc (Nat.le_refl _) _)).more (by simp)); have R4 := Lib.hid (show Rd (w3.alloc (.cells #[.int .u8 1, .int .u8 2] 5)) (w3.alloc (.cells #[.int .u8 1, .int .u8 2] 5)).heap.size (some ⟨w3.heap.size, 0, none⟩) [1, 2] from fun _ => ⟨w3.heap.size, 0, rfl, by simp, fun k x hx => by rw [cell_of_row _ _ _ _ _ _ (heap_alloc_new w3 _)]; rcases k with _ | _ | k <;> simp at hx <;> subst hx <;> rfl⟩); clear k1 k2 L2; dsimp only)
    | (go_at_call 18; (with_reducible refine (equal_yes [1, 2] [1, 2] 2 2 _ _ _ _ _ R3.out R4.out rfl rfl (by decide) rfl).mono ?_); rintro e w4 ⟨rfl, hb⟩; have B4 := Lib.hid hb; clear hb; dsimp only))
  go_ret
  refine ⟨rfl, ?_⟩
  have o1 : Below w.heap.size w w3 := ⟨(C3.out.off.os).trans C.out.2.1.os, (C3.out.off.tape).trans C.out.2.1.tape, (C3.out.off.output).trans C.out.2.1.output, Nat.le_trans C.out.2.1.size C3.out.off.size, fun i hi => (C3.out.off.block i (Nat.lt_of_lt_of_le hi C.out.2.1.size) (fun e => absurd hi (Nat.not_lt.2 (C.out.2.2.1 i e)))).trans (C.out.2.1.block i hi)⟩
  exact (o1.alloc o1.size _).trans (B4.out.mono (o1.alloc o1.size _).size)
end Go.Proofs.YtamdaepeogmboaaDoor
