
/-
  What known, sought and Size answer, and the document's Size. No condition beyond: a protocol below 2^16, a type below 256.
-/
import Derived.Test.YtdnnincdbenjfaaOpsK
namespace Go.Proofs.Ytdnnincdbenjfaa
open Go.RowKit Go.Maps

set_option maxHeartbeats 4000000 in
theorem known_49185 (w : World) : Calls Try.prog 50 #[.int .u16 49185] w fun e w' => ∃ m, e = .returned (.map m) ∧ Mp w' m (tabB 49185) ∧ Below w.heap.size w w' := by
  have M := Lib.hid (Mb.made w)
  have B := Lib.hid ((Below.refl w.heap.size w).alloc (Nat.le_refl _) (.map #[] 0))
  have hmm := @run_makeMap Try.prog
  go_enter Try.func50, Try.ntmps50
  go_wp2_with (first
      | (refine wpList_fill rfl _ _ _ rfl w.heap.size _ rfl M.out (by decide) 1 2 2 (by decide) rfl rfl ?_; intro w1 hm1 hg1; replace B := Lib.hid (B.out.grown hg1 B.out.size (fun k hk => by injection hk with hk; omega)); replace M := Lib.hid hm1; clear hm1 hg1)
      | (refine wpList_fill rfl _ _ _ rfl w.heap.size _ rfl M.out (by decide) 2 4 4 (by decide) rfl rfl ?_; intro w1 hm1 hg1; replace B := Lib.hid (B.out.grown hg1 B.out.size (fun k hk => by injection hk with hk; omega)); replace M := Lib.hid hm1; clear hm1 hg1)
      | (refine wpList_fill rfl _ _ _ rfl w.heap.size _ rfl M.out (by decide) 3 2 253 (by decide) rfl rfl ?_; intro w1 hm1 hg1; replace B := Lib.hid (B.out.grown hg1 B.out.size (fun k hk => by injection hk with hk; omega)); replace M := Lib.hid hm1; clear hm1 hg1)
      | (refine wpList_fill rfl _ _ _ rfl w.heap.size _ rfl M.out (by decide) 4 2 253 (by decide) rfl rfl ?_; intro w1 hm1 hg1; replace B := Lib.hid (B.out.grown hg1 B.out.size (fun k hk => by injection hk with hk; omega)); replace M := Lib.hid hm1; clear hm1 hg1)
      | (refine wpList_fill rfl _ _ _ rfl w.heap.size _ rfl M.out (by decide) 5 4 4 (by decide) rfl rfl ?_; intro w1 hm1 hg1; replace B := Lib.hid (B.out.grown hg1 B.out.size (fun k hk => by injection hk with hk; omega)); replace M := Lib.hid hm1; clear hm1 hg1)
      | (refine wpList_fill rfl _ _ _ rfl w.heap.size _ rfl M.out (by decide) 7 0 0 (by decide) rfl rfl ?_; intro w1 hm1 hg1; replace B := Lib.hid (B.out.grown hg1 B.out.size (fun k hk => by injection hk with hk; omega)); replace M := Lib.hid hm1; clear hm1 hg1)
      | (refine wpList_fill rfl _ _ _ rfl w.heap.size _ rfl M.out (by decide) 8 0 0 (by decide) rfl rfl ?_; intro w1 hm1 hg1; replace B := Lib.hid (B.out.grown hg1 B.out.size (fun k hk => by injection hk with hk; omega)); replace M := Lib.hid hm1; clear hm1 hg1)
      | (refine wpList_fill rfl _ _ _ rfl w.heap.size _ rfl M.out (by decide) 9 1 1 (by decide) rfl rfl ?_; intro w1 hm1 hg1; replace B := Lib.hid (B.out.grown hg1 B.out.size (fun k hk => by injection hk with hk; omega)); replace M := Lib.hid hm1; clear hm1 hg1))
  go_ret
  exact ⟨_, rfl, .inr ⟨_, rfl, M.out⟩, B.out⟩

set_option maxHeartbeats 4000000 in
theorem known_32801 (w : World) : Calls Try.prog 50 #[.int .u16 32801] w fun e w' => ∃ m, e = .returned (.map m) ∧ Mp w' m (tabB 32801) ∧ Below w.heap.size w w' := by
  have M := Lib.hid (Mb.made w)
  have B := Lib.hid ((Below.refl w.heap.size w).alloc (Nat.le_refl _) (.map #[] 0))
  have hmm := @run_makeMap Try.prog
  go_enter Try.func50, Try.ntmps50
  go_wp2_with (first
      | (refine wpList_fill rfl _ _ _ rfl w.heap.size _ rfl M.out (by decide) 2 2 253 (by decide) rfl rfl ?_; intro w1 hm1 hg1; replace B := Lib.hid (B.out.grown hg1 B.out.size (fun k hk => by injection hk with hk; omega)); replace M := Lib.hid hm1; clear hm1 hg1)
      | (refine wpList_fill rfl _ _ _ rfl w.heap.size _ rfl M.out (by decide) 3 4 4 (by decide) rfl rfl ?_; intro w1 hm1 hg1; replace B := Lib.hid (B.out.grown hg1 B.out.size (fun k hk => by injection hk with hk; omega)); replace M := Lib.hid hm1; clear hm1 hg1)
      | (refine wpList_fill rfl _ _ _ rfl w.heap.size _ rfl M.out (by decide) 129 4 4 (by decide) rfl rfl ?_; intro w1 hm1 hg1; replace B := Lib.hid (B.out.grown hg1 B.out.size (fun k hk => by injection hk with hk; omega)); replace M := Lib.hid hm1; clear hm1 hg1)
      | (refine wpList_fill rfl _ _ _ rfl w.heap.size _ rfl M.out (by decide) 130 4 4 (by decide) rfl rfl ?_; intro w1 hm1 hg1; replace B := Lib.hid (B.out.grown hg1 B.out.size (fun k hk => by injection hk with hk; omega)); replace M := Lib.hid hm1; clear hm1 hg1)
      | (refine wpList_fill rfl _ _ _ rfl w.heap.size _ rfl M.out (by decide) 131 4 4 (by decide) rfl rfl ?_; intro w1 hm1 hg1; replace B := Lib.hid (B.out.grown hg1 B.out.size (fun k hk => by injection hk with hk; omega)); replace M := Lib.hid hm1; clear hm1 hg1)
      | (refine wpList_fill rfl _ _ _ rfl w.heap.size _ rfl M.out (by decide) 132 4 4 (by decide) rfl rfl ?_; intro w1 hm1 hg1; replace B := Lib.hid (B.out.grown hg1 B.out.size (fun k hk => by injection hk with hk; omega)); replace M := Lib.hid hm1; clear hm1 hg1))
  go_ret
  exact ⟨_, rfl, .inr ⟨_, rfl, M.out⟩, B.out⟩

set_option maxHeartbeats 4000000 in
theorem known_32855 (w : World) : Calls Try.prog 50 #[.int .u16 32855] w fun e w' => ∃ m, e = .returned (.map m) ∧ Mp w' m (tabB 32855) ∧ Below w.heap.size w w' := by
  have M := Lib.hid (Mb.made w)
  have B := Lib.hid ((Below.refl w.heap.size w).alloc (Nat.le_refl _) (.map #[] 0))
  have hmm := @run_makeMap Try.prog
  go_enter Try.func50, Try.ntmps50
  go_wp2_with (first
      | (refine wpList_fill rfl _ _ _ rfl w.heap.size _ rfl M.out (by decide) 1 8 8 (by decide) rfl rfl ?_; intro w1 hm1 hg1; replace B := Lib.hid (B.out.grown hg1 B.out.size (fun k hk => by injection hk with hk; omega)); replace M := Lib.hid hm1; clear hm1 hg1)
      | (refine wpList_fill rfl _ _ _ rfl w.heap.size _ rfl M.out (by decide) 2 2 253 (by decide) rfl rfl ?_; intro w1 hm1 hg1; replace B := Lib.hid (B.out.grown hg1 B.out.size (fun k hk => by injection hk with hk; omega)); replace M := Lib.hid hm1; clear hm1 hg1))
  go_ret
  exact ⟨_, rfl, .inr ⟨_, rfl, M.out⟩, B.out⟩

set_option maxHeartbeats 1000000 in
theorem known_none (p : Nat) (h1 : p ≠ 49185) (h2 : p ≠ 32801) (h3 : p ≠ 32855) (w : World) : Calls Try.prog 50 #[.int .u16 (p : Int)] w fun e w' => ∃ m, e = .returned (.map m) ∧ Mp w' m (tabB p) ∧ Below w.heap.size w w' := by
  have j1 : ¬ (p : Int) = 49185 := by omega
  have j2 : ¬ (p : Int) = 32801 := by omega
  have j3 : ¬ (p : Int) = 32855 := by omega
  have E := Lib.hid (show tabB p = [] by simp [tabB, h1, h2, h3])
  clear h1 h2 h3
  go_enter Try.func50, Try.ntmps50
  go_wp2_with fail
  go_ret
  exact ⟨_, rfl, .inl ⟨rfl, E.out⟩, Below.refl _ _⟩

theorem known_any (p : Nat) (w : World) : Calls Try.prog 50 #[.int .u16 (p : Int)] w fun e w' => ∃ m, e = .returned (.map m) ∧ Mp w' m (tabB p) ∧ Below w.heap.size w w' := by
  by_cases h1 : p = 49185
  · subst h1; exact known_49185 w
  by_cases h2 : p = 32801
  · subst h2; exact known_32801 w
  by_cases h3 : p = 32855
  · subst h3; exact known_32855 w
  exact known_none p h1 h2 h3 w

set_option maxHeartbeats 2000000 in
theorem sought_any (T : Tab) (m : Option Nat) (t : Nat) (ht : t < 256) (w : World) (h : Mp w m T) (a b : Nat) (hs : spanB T t = (a, b)) :
    Calls Try.prog 52 #[.map m, .int .u8 (t : Int)] w fun e w' => e = .returned (spanV (a : Int) (b : Int)) ∧ Below w.heap.size w w' := by
  obtain ⟨p, q, r, hk⟩ : ∃ p q r, Hid (seekB T t = (p, q, r)) := ⟨_, _, _, Lib.hid rfl⟩
  have HM := Lib.hid h
  have HM1 := Lib.hid (h.below ((Below.refl w.heap.size w).alloc (Nat.le_refl _) (.cells #[.int .i64 0, .int .i64 0] 99)))
  clear h
  cases r
  · rw [span_no hk.out] at hs
    obtain ⟨rfl, rfl⟩ := Prod.mk.inj hs
    clear hs
    go_enter Try.func52, Try.ntmps52
    go_wp2_with (first
      | (refine wpList_seek rfl _ _ rfl _ T rfl HM.out t p q _ ht rfl hk.out ?_)
      | (refine wpList_seek rfl _ _ rfl _ T rfl HM1.out t p q _ ht rfl hk.out ?_))
    refine bodyPost_ret (v := spanV ((0 : Nat) : Int) ((253 : Nat) : Int)) ?_ rfl ⟨rfl, ?_⟩
    · exact results_cell_row rfl _ _ w.heap.size 99 _ _ _ rfl (heap_alloc2_old w _ _) Try.underlying99 rfl (by kernel_rfl)
    · exact below_two w _ _
  · rw [span_yes hk.out] at hs
    obtain ⟨rfl, rfl⟩ := Prod.mk.inj hs
    clear hs
    go_enter Try.func52, Try.ntmps52
    go_wp2_with (first
      | (refine wpList_seek rfl _ _ rfl _ T rfl HM.out t p q _ ht rfl hk.out ?_)
      | (refine wpList_seek rfl _ _ rfl _ T rfl HM1.out t p q _ ht rfl hk.out ?_))
    refine bodyPost_ret (v := spanV (p : Int) (q : Int)) ?_ rfl ⟨rfl, ?_⟩
    · exact results_cell_row rfl _ _ w.heap.size 99 _ _ _ rfl (heap_alloc2_old w _ _) Try.underlying99 rfl (by kernel_rfl)
    · exact below_two w _ _

end Go.Proofs.Ytdnnincdbenjfaa
