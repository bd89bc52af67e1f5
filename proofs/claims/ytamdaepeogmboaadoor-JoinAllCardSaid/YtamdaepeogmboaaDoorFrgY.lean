
/-
  What Split of layer 23 answers, whatever its arguments. Conditions: at most 2000 octets; the shapes stand as the start-up lays them ('TabF').
-/
import Derived.Test.YtamdaepeogmboaaDoorFrgX
namespace Go.Proofs.YtamdaepeogmboaaDoor
set_option maxRecDepth 4000
open Go.RowKit

set_option maxHeartbeats 1000000 in
theorem frsplit_any (s : Bool) (f m : Int) (hm2 : m ≤ 9223372036854775807) (l : List Nat) (n c : Nat) (A : Option Addr) (w : World) (h : Rd w w.heap.size A l) (hb : By l) (hl : l.length = n) (hn : n ≤ 2000) (hc : n ≤ c) (hT : TabF w) (q z N : Nat) (hq : frsplE s f m = q) (hz : (frsplA s f m l).length = z) (hN : frsplN s f m l = N) :
    Calls Tryd.prog 19 #[.bool s, .int .i64 f, .int .i64 m, .slice A n c] w fun e w' => ∃ A' c', e = .returned (.tuple #[.slice A' z c', .int .i64 (N : Int), .int .i64 (q : Int)]) ∧ Orw shF 50 (fun b => w.heap.size ≤ b) w.heap.size w' (.slice A' z c') (frsplA s f m l) ∧ Below w.heap.size w w' := by
  by_cases h1 : m < 1
  · have E1 := Lib.hid (show frsplA s f m l = [] by unfold frsplA frsplE; rw [if_pos h1]; rfl)
    have E2 : q = 1 := by rw [← hq]; unfold frsplE; rw [if_pos h1]
    have E3 : z = 0 := by rw [← hz, E1.out]; rfl
    have E4 : N = 0 := by rw [← hN]; unfold frsplN frsplE; rw [if_pos h1]; rfl
    subst E2 E3 E4
    rw [E1.out]
    have hbe : ∀ o, Below w.heap.size w (w.alloc o) := fun o => (Below.refl _ _).alloc (Nat.le_refl _) _
    clear hq hz hN
    go_enter Tryd.func19, Tryd.ntmps19
    go_wp2
    refine bodyPost_ret (results_tmp3F rfl _ _ _ _ _ rfl rfl rfl) rfl ?_
    exact ⟨none, 0, rfl, Orw.nil _ _ _ _ _, hbe _⟩
  · cases hr : frright s f
    · have E1 := Lib.hid (show frsplA s f m l = [] by unfold frsplA frsplE; rw [if_neg h1, hr]; rfl)
      have E2 : q = 5 := by rw [← hq]; unfold frsplE; rw [if_neg h1, hr]; rfl
      have E3 : z = 0 := by rw [← hz, E1.out]; rfl
      have E4 : N = 0 := by rw [← hN]; unfold frsplN frsplE; rw [if_neg h1, hr]; rfl
      subst E2 E3 E4
      rw [E1.out]
      have HR := Lib.hid hr
      obtain ⟨w1, hw1⟩ : ∃ w1, w1 = w.alloc (.cells #[.bool s] 4) := ⟨_, rfl⟩
      have hb1 : Below w.heap.size w w1 := by rw [hw1]; exact (Below.refl _ _).alloc (Nat.le_refl _) _
      have bs : w1.cell? ⟨w.heap.size, 0, none⟩ = some (.bool s) := by rw [hw1]; exact (Boxed.new w 4 (.bool s)).cell
      have HW1 := Lib.hid hw1
      have T1 := Lib.hid (hT.below hb1)
      clear hq hz hN hr hw1
      go_enter Tryd.func19, Tryd.ntmps19
      go_wp2_with (go_at_call 31; rw [← HW1.out]; (with_reducible refine (frright_any s f _ T1.out).mono ?_); rintro e w2 ⟨rfl, hb2⟩; rw [HR.out])
      refine bodyPost_ret (results_tmp3F rfl _ _ _ _ _ rfl rfl rfl) rfl ?_
      exact ⟨none, 0, rfl, Orw.nil _ _ _ _ _, hb1.trans (hb2.mono hb1.size)⟩
    · obtain ⟨g0, g1⟩ := frright_iff.1 hr
      obtain ⟨fn, rfl⟩ := Int.eq_ofNat_of_zero_le g0
      obtain ⟨mn, rfl⟩ := Int.eq_ofNat_of_zero_le (show 0 ≤ m by omega)
      have hE : frsplE s (fn : Int) (mn : Int) = 0 := by unfold frsplE; rw [if_neg h1, hr]; rfl
      have E1 : frsplA s (fn : Int) (mn : Int) l = frpcs s fn mn l := by unfold frsplA; rw [if_pos hE]; rfl
      have E2 : q = 0 := by rw [← hq, hE]
      have E3 : frcnt mn n = z := by rw [← hz, E1, frpcs_len, hl]
      have E4 : N = frnum s fn z := by rw [← hN]; unfold frsplN; rw [if_pos hE, hl, ← E3]; rfl
      subst E2 E4
      rw [E1]
      exact frsplit_ok s fn mn (by omega) (by omega) (by omega) l n c A w h hb hl hn hc hT z E3
end Go.Proofs.YtamdaepeogmboaaDoor
