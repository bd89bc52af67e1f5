
/-
  What the document's Split of layer 23 answers, whatever its arguments. Condition: at most 2000 octets.
-/
import Derived.Test.YtdeabomcmbgepaaDoorFrgZ
namespace Go.Proofs.YtdeabomcmbgepaaDoor
set_option maxRecDepth 4000
open Go.RowKit

set_option maxHeartbeats 1000000 in
theorem frrsplit_any (s : Bool) (f m : Int) (hm2 : m ≤ 9223372036854775807) (l : List Nat) (n c : Nat) (A : Option Addr) (w : World) (h : Rd w w.heap.size A l) (hl : l.length = n) (hn : n ≤ 2000) (hc : n ≤ c) (q z N : Nat) (hq : frsplE s f m = q) (hz : (frsplA s f m l).length = z) (hN : frsplN s f m l = N) :
    Calls Tryd.prog 17 #[.bool s, .int .i64 f, .int .i64 m, .slice A n c] w fun e w' => ∃ A' c', e = .returned (.tuple #[.slice A' z c', .int .i64 (N : Int), .int .i64 (q : Int)]) ∧ Orw shF 24 (fun _ => True) w.heap.size w' (.slice A' z c') (frsplA s f m l) ∧ Below w.heap.size w w' := by
  by_cases h1 : m < 1
  · have E1 := Lib.hid (show frsplA s f m l = [] by unfold frsplA frsplE; rw [if_pos h1]; rfl)
    have E2 : q = 1 := by rw [← hq]; unfold frsplE; rw [if_pos h1]
    have E3 : z = 0 := by rw [← hz, E1.out]; rfl
    have E4 : N = 0 := by rw [← hN]; unfold frsplN frsplE; rw [if_pos h1]; rfl
    subst E2 E3 E4
    rw [E1.out]
    have hbe := Lib.hid (Below.refl w.heap.size w)
    clear hq hz hN
    go_enter Tryd.func17, Tryd.ntmps17
    go_wp2
    refine bodyPost_ret (results_tmp3F rfl _ _ _ _ _ rfl rfl rfl) rfl ?_
    exact ⟨none, 0, rfl, Orw.nil _ _ _ _ _, hbe.out⟩
  · cases hr : frright s f
    · have E1 := Lib.hid (show frsplA s f m l = [] by unfold frsplA frsplE; rw [if_neg h1, hr]; rfl)
      have E2 : q = 5 := by rw [← hq]; unfold frsplE; rw [if_neg h1, hr]; rfl
      have E3 : z = 0 := by rw [← hz, E1.out]; rfl
      have E4 : N = 0 := by rw [← hN]; unfold frsplN frsplE; rw [if_neg h1, hr]; rfl
      subst E2 E3 E4
      rw [E1.out]
      have HR := Lib.hid hr
      have hmod := fun W => frrmod_any s W
      have hbe := Lib.hid (Below.refl w.heap.size w)
      have hM9 := Lib.hid (show frmod s ≤ 16777216 by cases s <;> simp [frmod])
      obtain ⟨M, hM0⟩ : ∃ M, frmod s = M := ⟨_, rfl⟩
      have hno : f < 0 ∨ (¬ f < 0 ∧ (M : Int) ≤ f) := by
        by_cases h0 : f < 0
        · exact .inl h0
        · refine .inr ⟨h0, ?_⟩
          rw [← hM0]
          by_cases h2 : (frmod s : Int) ≤ f
          · exact h2
          · rw [frright_iff.2 ⟨by omega, by omega⟩] at hr; cases hr
      rw [hM0] at hmod
      clear hq hz hN hr hM0
      rcases hno with h0 | ⟨h0, h0'⟩
      all_goals
        go_enter Tryd.func17, Tryd.ntmps17
        go_wp2_with (go_at_call 26; (with_reducible refine (hmod _).mono ?_); rintro r w3 ⟨rfl, rfl⟩)
        refine bodyPost_ret (results_tmp3F rfl _ _ _ _ _ rfl rfl rfl) rfl ?_
        exact ⟨none, 0, rfl, Orw.nil _ _ _ _ _, hbe.out⟩
    · obtain ⟨g0, g1⟩ := frright_iff.1 hr
      obtain ⟨fn, rfl⟩ := Int.eq_ofNat_of_zero_le g0
      obtain ⟨mn, rfl⟩ := Int.eq_ofNat_of_zero_le (show 0 ≤ m by omega)
      have hE : frsplE s (fn : Int) (mn : Int) = 0 := by unfold frsplE; rw [if_neg h1, hr]; rfl
      have E1 : frsplA s (fn : Int) (mn : Int) l = frpcs s fn mn l := by unfold frsplA; rw [if_pos hE]; rfl
      have E2 : q = 0 := by rw [← hq, hE]
      have E3 : frcnt mn n = z := by rw [← hz, E1, frpcs_len, hl]
      have E4 : N = frnum s fn z := by rw [← hN]; unfold frsplN; rw [if_pos hE, hl, ← E3]; rfl
      subst E2 E4
      rw [E1]
      exact frrsplit_ok s fn mn (by omega) (by omega) (by omega) l n c A w h hl hn hc z E3
end Go.Proofs.YtdeabomcmbgepaaDoor
