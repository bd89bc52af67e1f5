
/-
  The program's place and keep of layer 24. No condition beyond: places up to 2^36, sizes below 2^30.
-/
import Derived.Test.YtamdaepeogmboaaDoorJqI
import Derived.Test.YtamdaepeogmboaaDoorGJqs
import Derived.Test.YtamdaepeogmboaaDoorCln
namespace Go.Proofs.YtamdaepeogmboaaDoor
set_option maxRecDepth 4000
open Go.RowKit Go.Maps

/-- A link's next place is another one. -/
theorem Pw.slk {w : World} {b : Nat} {j : Jn} {q : Jq} {ol : List Int} (h : Pw w b j q ol) (k : Nat) (x : Int) : Pw (w.setCell ⟨q.lb, k, none⟩ (.int .i64 (x + 1))) b { j with last := j.last.set k x } q ol ∧ Ps b q w q (w.setCell ⟨q.lb, k, none⟩ (.int .i64 (x + 1))) := by
  have ho : Offs (fun i => i = q.lb) w (w.setCell ⟨q.lb, k, none⟩ (.int .i64 (x + 1))) := Offs.set w q.lb k _ rfl
  have hl := heap_setCell_same w q.lb k _ _ (.int .i64 (x + 1)) h.lk
  have e : (lkv j.last).setIfInBounds k (.int .i64 (x + 1)) = lkv (j.last.set k x) := by
    apply Array.toList_inj.1
    simp [List.map_set]
  rw [e] at hl
  have hx : Px (w.setCell ⟨q.lb, k, none⟩ (.int .i64 (x + 1))) b { j with last := j.last.set k x } q := by
    have := h.px.off ho (fun e => h.lb_b e.symm)
    unfold Px at this ⊢
    rw [this]
    simp
  refine ⟨⟨hx, hl, h.mp.off ho h.mb_lb (fun i hi e => hi.1 (.inr (.inl e))), h.od.off ho (fun g hg e => h.ap (by rw [hg, e])), h.sr, own_off h.dt ho (fun g hg e => h.dv_lb (by rw [hg, e])), h.dl, h.ap⟩, ho.more fun i _ e => .inr (.inl e), fun _ h => .inl h⟩
theorem place_num {M : Nat} (hM : 0 < M) {a n : Int} (ha : 0 ≤ a) (h0 : 0 ≤ n) : (n - a.tmod (M : Int) + (M : Int)).tmod (M : Int) = (n - a) % (M : Int) := by
  have e1 : a.tmod (M : Int) = a % (M : Int) := Int.tmod_eq_emod_of_nonneg ha
  have h2 := Int.emod_lt_of_pos a (show (0 : Int) < (M : Int) by omega)
  rw [e1, Int.tmod_eq_emod_of_nonneg (by omega), Int.add_emod_right, Int.sub_emod_emod]
set_option maxHeartbeats 4000000 in
theorem pplace_any (b : Nat) (j : Jn) (q : Jq) (ol : List Int) (k : Nat) (n : Int) (w : World) (h : Pw w b j q ol) (hk : k < j.last.length) (h0 : 0 ≤ n) (h1 : n < (frmod j.sh : Int)) (la : ∀ x ∈ j.last, -1 ≤ x ∧ x ≤ 1152921504606846976) :
    Calls Tryd.prog 29 #[.pointer (some ⟨b, 0, none⟩), .int .i64 (k : Int), .int .i64 n] w fun e w' => e = .returned (.int .i64 (jplc (frmod j.sh) (j.last.getD k (-1) + 1) n)) ∧ Pw w' b { j with last := j.last.set k (jplc (frmod j.sh) (j.last.getD k (-1) + 1) n) } q ol ∧ Ps b q w q w' := by
  obtain ⟨y, hy⟩ : ∃ y, j.last[k]? = some y := ⟨_, List.getElem?_eq_getElem hk⟩
  have hyb := la y (List.mem_of_getElem? hy)
  have eg : j.last.getD k (-1) = y := by rw [List.getD_eq_getElem?_getD, hy]; rfl
  rw [eg]
  obtain ⟨M, hM⟩ : ∃ M, Hid (frmod j.sh = M) := ⟨_, Lib.hid rfl⟩
  have hMp : 0 < M := by rw [← hM.out]; exact frmod_pos _
  have hMm : M ≤ 16777216 := by rw [← hM.out]; cases j.sh <;> decide
  rw [hM.out] at h1 ⊢
  obtain ⟨a, ha⟩ : ∃ a, y + 1 = a := ⟨_, rfl⟩
  rw [ha]
  have m0 : ¬ M = 0 := by omega
  have pn := place_num hMp (a := a) (n := n) (by omega) h0
  obtain ⟨r1, hr1⟩ : ∃ r, a.tmod (M : Int) = r := ⟨_, rfl⟩
  have r1b : 0 ≤ r1 ∧ r1 < (M : Int) := by
    rw [← hr1, Int.tmod_eq_emod_of_nonneg (by omega)]
    exact ⟨Int.emod_nonneg _ (by omega), Int.emod_lt_of_pos _ (by omega)⟩
  rw [hr1] at pn
  obtain ⟨r2, hr2⟩ : ∃ r, (n - a) % (M : Int) = r := ⟨_, rfl⟩
  have r2b : 0 ≤ r2 ∧ r2 < (M : Int) := by
    rw [← hr2]
    exact ⟨Int.emod_nonneg _ (by omega), Int.emod_lt_of_pos _ (by omega)⟩
  rw [hr2] at pn
  have EJ := Lib.hid (show jplc M a n = a + r2 by unfold jplc; rw [hr2])
  rw [EJ.out]
  have w1 : IntKind.i64.wrap (n - r1) = n - r1 := IntWalk.i64_in _ (by omega)
  have w2 : IntKind.i64.wrap (n - r1 + (M : Int)) = n - r1 + (M : Int) := IntWalk.i64_in _ (by omega)
  have w3 : IntKind.i64.wrap (a + r2) = a + r2 := IntWalk.i64_in _ (by omega)
  have w4 : IntKind.i64.wrap (a + r2 + 1) = a + r2 + 1 := IntWalk.i64_in _ (by omega)
  have c1 := h.px.c1; have c4 := h.px.c4
  rw [hM.out] at c1
  have cl : w.cell? ⟨q.lb, k, none⟩ = some (.int .i64 a) := by
    rw [cell_of_row w q.lb _ _ _ _ h.lk, ← ha]
    simp [hy]
  have fl := frozen_of_row w q.lb k _ _ h.lk
  have S := Lib.hid (((h.below (Below.refl _ _).drew).slk k (a + r2)))
  have b0 : (0 : Int) ≤ (k : Int) := by omega
  have b1 : (k : Int) < (j.last.length : Int) := by omega
  have tn : (k : Int).toNat = k := by omega
  clear h la hy hyb eg ha r1b r2b hr2
  go_enter Tryd.func29, Tryd.ntmps29
  go_wp2_with fail
  go_region
  all_goals
    go_wp2_with fail
    go_ret
    exact ⟨rfl, S.out.1, (Ps.of_below (Below.refl _ _).drew).trans S.out.2⟩
end Go.Proofs.YtamdaepeogmboaaDoor
