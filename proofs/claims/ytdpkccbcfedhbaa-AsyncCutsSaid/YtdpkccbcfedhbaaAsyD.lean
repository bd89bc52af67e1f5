
/-
  A deframer in memory: its cells, the octets that it holds; what turns where it is fed. New, tell, keep, Held. No condition beyond: most at most 2^40.
-/
import Derived.Test.YtdpkccbcfedhbaaAsyM
import Derived.Test.YtdpkccbcfedhbaaOffs
namespace Go.Proofs.Ytdpkccbcfedhbaa
open Go.RowKit

/-- A deframer's cells. -/
def Dc (w : World) (b m most : Nat) (V : Value) (e l : Bool) : Prop :=
  w.heap[b]? = some (.cells #[.int .u32 (m : Int), .int .i64 (most : Int), V, .bool e, .bool l] 45 (0, 0))
section
variable {w w' : World} {b m most : Nat} {V : Value} {e l : Bool}
theorem Dc.c0 (h : Dc w b m most V e l) : w.cell? ⟨b, 0, none⟩ = some (.int .u32 (m : Int)) := by rw [cell_of_row w b 0 _ _ _ h]; rfl
theorem Dc.c1 (h : Dc w b m most V e l) : w.cell? ⟨b, 1, none⟩ = some (.int .i64 (most : Int)) := by rw [cell_of_row w b 1 _ _ _ h]; rfl
theorem Dc.c2 (h : Dc w b m most V e l) : w.cell? ⟨b, 2, none⟩ = some V := by rw [cell_of_row w b 2 _ _ _ h]; rfl
theorem Dc.c3 (h : Dc w b m most V e l) : w.cell? ⟨b, 3, none⟩ = some (.bool e) := by rw [cell_of_row w b 3 _ _ _ h]; rfl
theorem Dc.c4 (h : Dc w b m most V e l) : w.cell? ⟨b, 4, none⟩ = some (.bool l) := by rw [cell_of_row w b 4 _ _ _ h]; rfl
theorem Dc.fz (h : Dc w b m most V e l) (j : Nat) : w.frozen? ⟨b, j, none⟩ = false := frozen_of_row w b j _ _ h
theorem Dc.set2 (h : Dc w b m most V e l) (u : Value) : Dc (w.setCell ⟨b, 2, none⟩ u) b m most u e l := heap_setCell_same w b 2 _ _ u h
theorem Dc.set3 (h : Dc w b m most V e l) (u : Bool) : Dc (w.setCell ⟨b, 3, none⟩ (.bool u)) b m most V u l := heap_setCell_same w b 3 _ _ _ h
theorem Dc.set4 (h : Dc w b m most V e l) (u : Bool) : Dc (w.setCell ⟨b, 4, none⟩ (.bool u)) b m most V e u := heap_setCell_same w b 4 _ _ _ h
theorem Dc.lt (h : Dc w b m most V e l) : b < w.heap.size := (Array.getElem?_eq_some_iff.1 h).1
theorem Dc.off {X : Nat → Prop} (h : Dc w b m most V e l) (ho : Offs X w w') (hb : ¬ X b) : Dc w' b m most V e l := (ho.block b h.lt hb).trans h
theorem Dc.own_ne {base : Nat} {t : TypeId} {sz n : Nat} {v : Value} {xs : List Value} (h : Dc w b m most V e l) (ho : w.ownsRow base t sz v n xs) (ht : t ≠ 45) : v.ownBlock ≠ some b := by
  intro hg
  obtain ⟨c, hc⟩ := own_blk ho hg
  rw [show w.heap[b]? = _ from h] at hc
  injection hc with h1
  injection h1 with _ h2
  exact ht h2.symm
end

/-- A deframer at block b, whose octets are the slice V. -/
structure Df (B : Nat) (w : World) (b m most : Nat) (V : Value) (s : St) : Prop where
  lo : B ≤ b
  cells : Dc w b m most V s.esc s.long
  own : w.ownsRow B 5 1 V s.held.length (bvs s.held)
  ok : s.ok most
section
variable {B : Nat} {w w' : World} {b m most : Nat} {V : Value} {s : St}
theorem Df.ne (h : Df B w b m most V s) : V.ownBlock ≠ some b := h.cells.own_ne h.own (by decide)
theorem Df.off {X : Nat → Prop} (h : Df B w b m most V s) (ho : Offs X w w') (hb : ¬ X b) (hv : ∀ g, V.ownBlock = some g → ¬ X g) : Df B w' b m most V s := ⟨h.lo, h.cells.off ho hb, own_off h.own ho hv, h.ok⟩
theorem Df.below (h : Df B w b m most V s) (ho : Below w.heap.size w w') : Df B w' b m most V s := h.off (X := fun _ => False) (.of_below ho) id (fun _ _ => id)
end

/-- What tell answers. -/
def tK (s : St) : Nat := if s.esc then 2 else if s.long then 4 else 0
def tV (V : Value) (s : St) : Value := if s.esc then .slice none 0 0 else if s.long then .slice none 0 0 else if s.held = [] then .slice none 0 0 else V
def tB (s : St) : Bool := s.esc || s.long || !decide (s.held = [])

theorem new_any (m most : Nat) (w : World) :
    Calls Try.prog 9 #[.int .u32 (m : Int), .int .i64 (most : Int)] w fun e w' => ∃ b, e = .returned (.pointer (some ⟨b, 0, none⟩)) ∧ w.heap.size ≤ b ∧ b < w'.heap.size ∧ (∀ B, B ≤ w.heap.size → Df B w' b m most (.slice none 0 0) St.start) ∧ Below w.heap.size w w' := by
  go_enter Try.func9, Try.ntmps9
  go_wp2
  go_ret
  refine ⟨w.heap.size, rfl, Nat.le_refl _, by simp, fun B hB => ⟨hB, ?_, World.ownsRow_nil _ _ _ _, ok_start _⟩, (Below.refl _ _).alloc (Nat.le_refl _) _⟩
  exact heap_alloc_new w _

set_option maxHeartbeats 400000 in
theorem held_any {B : Nat} {w : World} {b m most : Nat} {V : Value} {s : St} (h : Df B w b m most V s) :
    Calls Try.prog 15 #[.pointer (some ⟨b, 0, none⟩)] w fun e w' => e = .returned (.int .i64 (s.held.length : Nat)) ∧ w = w' := by
  obtain ⟨A, c, hV, _, _⟩ := own_form h.own
  have c2 := h.cells.c2
  have f2 := h.cells.fz 2
  rw [hV] at c2
  go_enter Try.func15, Try.ntmps15
  go_wp2
  go_ret
  exact ⟨rfl, rfl⟩

set_option maxHeartbeats 800000 in
theorem tell_any {B : Nat} {w : World} {b m most : Nat} {V : Value} {s : St} (h : Df B w b m most V s) :
    Calls Try.prog 26 #[.pointer (some ⟨b, 0, none⟩)] w fun e w' => e = .returned (.tuple #[.agg #[.int .i64 (tK s : Nat), tV V s], .bool (tB s)]) ∧ Below w.heap.size w w' := by
  obtain ⟨A, c, hV, _, _⟩ := own_form h.own
  have c2 := h.cells.c2
  have c3 := h.cells.c3
  have c4 := h.cells.c4
  have hb := h.cells.lt
  rw [hV] at c2
  cases h1 : s.esc
  · cases h2 : s.long
    · by_cases h3 : s.held.length = 0
      · have hn : ¬ (0 : Int) < (s.held.length : Int) := by omega
        have E := Lib.hid (show tK s = 0 ∧ tV V s = .slice none 0 0 ∧ tB s = false by simp [tK, tV, tB, h1, h2, List.length_eq_zero_iff.1 h3])
        rw [h1] at c3
        rw [h2] at c4
        clear h1 h2 h3 hV
        go_enter Try.func26, Try.ntmps26
        go_wp2
        refine bodyPost_ret (v := .tuple #[.agg #[.int .i64 0, .slice none 0 0], .bool false]) ?_ rfl ⟨?_, ?_⟩
        · rw [results_cell_tmp rfl]; go_simp
        · obtain ⟨e1, e2, e3⟩ := E.out
          rw [e1, e2, e3]; rfl
        · (repeat' (first | exact Below.refl _ _ | refine Below.setCell ?_ (by simp) _ | refine Below.alloc ?_ (by simp) _))
      · have hn : (0 : Int) < (s.held.length : Int) := by omega
        have E := Lib.hid (show tK s = 0 ∧ tV V s = .slice A s.held.length c ∧ tB s = true by
          have h4 : s.held ≠ [] := by intro h4; rw [h4] at h3; exact h3 rfl
          simp [tK, tV, tB, h1, h2, h4, hV])
        rw [h1] at c3
        rw [h2] at c4
        clear h1 h2 h3 hV
        go_enter Try.func26, Try.ntmps26
        go_wp2
        refine bodyPost_ret (v := .tuple #[.agg #[.int .i64 0, .slice A s.held.length c], .bool true]) ?_ rfl ⟨?_, ?_⟩
        · rw [results_cell_tmp rfl]; go_simp
        · obtain ⟨e1, e2, e3⟩ := E.out
          rw [e1, e2, e3]; rfl
        · (repeat' (first | exact Below.refl _ _ | refine Below.setCell ?_ (by simp) _ | refine Below.alloc ?_ (by simp) _))
    · have E := Lib.hid (show tK s = 4 ∧ tV V s = .slice none 0 0 ∧ tB s = true by simp [tK, tV, tB, h1, h2])
      rw [h1] at c3
      rw [h2] at c4
      clear h1 h2 hV
      go_enter Try.func26, Try.ntmps26
      go_wp2
      refine bodyPost_ret (v := .tuple #[.agg #[.int .i64 4, .slice none 0 0], .bool true]) ?_ rfl ⟨?_, ?_⟩
      · rw [results_cell_tmp rfl]; go_simp
      · obtain ⟨e1, e2, e3⟩ := E.out
        rw [e1, e2, e3]; rfl
      · (repeat' (first | exact Below.refl _ _ | refine Below.setCell ?_ (by simp) _ | refine Below.alloc ?_ (by simp) _))
  · have E := Lib.hid (show tK s = 2 ∧ tV V s = .slice none 0 0 ∧ tB s = true by simp [tK, tV, tB, h1])
    rw [h1] at c3
    clear h1 hV
    go_enter Try.func26, Try.ntmps26
    go_wp2
    refine bodyPost_ret (v := .tuple #[.agg #[.int .i64 2, .slice none 0 0], .bool true]) ?_ rfl ⟨?_, ?_⟩
    · rw [results_cell_tmp rfl]; go_simp
    · obtain ⟨e1, e2, e3⟩ := E.out
      rw [e1, e2, e3]; rfl
    · (repeat' (first | exact Below.refl _ _ | refine Below.setCell ?_ (by simp) _ | refine Below.alloc ?_ (by simp) _))

theorem tV_own {B : Nat} {w : World} {V : Value} {s : St} (h : w.ownsRow B 5 1 V s.held.length (bvs s.held)) (hs : tB s = true) : ∃ x : Sg, s.tell = [x] ∧ x.1 = tK s ∧ w.ownsRow B 5 1 (tV V s) x.2.length (bvs x.2) ∧ ∀ g, (tV V s).ownBlock = some g → V.ownBlock = some g := by
  unfold St.tell tK tV
  unfold tB at hs
  cases h1 : s.esc
  · cases h2 : s.long
    · by_cases h3 : s.held = []
      · rw [h1, h2] at hs; simp [h3] at hs
      · simp only [h3, if_false, Bool.false_eq_true]
        exact ⟨_, rfl, rfl, h, fun g hg => hg⟩
    · exact ⟨_, rfl, rfl, World.ownsRow_nil _ _ _ _, fun g hg => by cases hg⟩
  · exact ⟨_, rfl, rfl, World.ownsRow_nil _ _ _ _, fun g hg => by cases hg⟩
theorem tB_no {s : St} (hs : tB s = false) : s.tell = [] := by
  unfold tB at hs
  simp only [Bool.or_eq_false_iff, Bool.not_eq_false'] at hs
  obtain ⟨⟨h1, h2⟩, h3⟩ := hs
  unfold St.tell
  rw [h1, h2]
  simp [of_decide_eq_true h3]

set_option maxHeartbeats 800000 in
theorem end_any {B : Nat} {w : World} {b m most : Nat} {V : Value} {s : St} (h : Df B w b m most V s) :
    Calls Try.prog 18 #[.pointer (some ⟨b, 0, none⟩)] w fun e w' => e = .returned (.tuple #[.agg #[.int .i64 (tK s : Nat), tV V s], .bool (tB s)]) ∧ Df B w' b m most (.slice none 0 0) St.start ∧ Offs (fun k => k = b) w w' := by
  obtain ⟨A, c, hV, _, _⟩ := own_form h.own
  obtain ⟨A2, n2, c2, hV2⟩ : ∃ A2 n2 c2, tV V s = .slice A2 n2 c2 := by
    unfold tV
    split
    · exact ⟨_, _, _, rfl⟩
    split
    · exact ⟨_, _, _, rfl⟩
    split
    · exact ⟨_, _, _, rfl⟩
    · exact ⟨_, _, _, hV⟩
  have hb := h.cells.lt
  go_enter Try.func18, Try.ntmps18
  go_wp2_with fail
  refine (tell_any (h.below ((Below.refl _ _).alloc (Nat.le_refl _) _))).mono ?_
  rintro e w1 ⟨rfl, hb1⟩
  have hB1 : Below w.heap.size w w1 := ((Below.refl _ _).alloc (Nat.le_refl _) _).trans (hb1.mono (by simp))
  have hs1 : w.heap.size < w1.heap.size := by have := hb1.size; simp at this; omega
  have hb1' : b < w1.heap.size := by omega
  have hc1 := h.cells.off (X := fun _ => False) (.of_below hB1) id
  have f2 := hc1.fz 2
  have f3 := hc1.fz 3
  have f4 := hc1.fz 4
  have c2' := hc1.c2
  have c3' := hc1.c3
  have c4' := hc1.c4
  have hv : w1.heap[w.heap.size]? = some (.cells #[.int .i64 0, .slice none 0 0] 39 (0, 0)) := (hb1.block _ (by simp)).trans (heap_alloc_new w _)
  have v0 : w1.cell? ⟨w.heap.size, 0, none⟩ = some (.int .i64 0) := by rw [cell_of_row w1 _ 0 _ _ _ hv]; rfl
  have v1 : w1.cell? ⟨w.heap.size, 1, none⟩ = some (.slice none 0 0) := by rw [cell_of_row w1 _ 1 _ _ _ hv]; rfl
  have g0 := frozen_of_row w1 w.heap.size 0 _ _ hv
  have g1 := frozen_of_row w1 w.heap.size 1 _ _ hv
  have HC := Lib.hid hc1
  have hne : ¬ w.heap.size = b := by omega
  clear hc1 hv hb1
  rw [hV2]
  rw [hV] at c2'
  go_wp2
  refine bodyPost_ret (v := .tuple #[.agg #[.int .i64 (tK s : Nat), .slice A2 n2 c2], .bool (tB s)]) ?_ rfl ⟨?_, ?_, ?_⟩
  · rw [results_cell_tmp rfl]; go_simp
  · rw [hV2]
  · have d1 := ((HC.out.set2 (.slice none 0 0)).set3 false).set4 false
    refine ⟨h.lo, ?_, World.ownsRow_nil _ _ _ _, ok_start _⟩
    refine (d1.off (X := fun k => k = w.heap.size) ?_ (fun e => hne e.symm)).off (X := fun _ => False) (.of_below ((Below.refl _ _).alloc (Nat.le_refl _) _)) id
    exact (Offs.set (X := fun k => k = w.heap.size) _ _ 0 _ rfl).trans (Offs.set (X := fun k => k = w.heap.size) _ _ 1 _ rfl) (fun _ h => h) (fun _ _ h => h)
  · refine (Offs.of_below (X := fun k => k = b) hB1).trans (Y := fun k => k = b ∨ k = w.heap.size) (.trans (X := fun k => k = b ∨ k = w.heap.size) (Y := fun _ => False) ?_ (.of_below ((Below.refl _ _).alloc (Nat.le_refl _) _)) (fun _ h => h) (fun _ _ h => h.elim)) (fun _ h => h) (fun i hi h => h.elim id (fun e => by omega))
    refine .trans (X := fun k => k = b ∨ k = w.heap.size) (Y := fun k => k = b ∨ k = w.heap.size) ?_ (Offs.set _ _ 1 _ (.inr rfl)) (fun _ h => h) (fun _ _ h => h)
    refine .trans (X := fun k => k = b ∨ k = w.heap.size) (Y := fun k => k = b ∨ k = w.heap.size) ?_ (Offs.set _ _ 0 _ (.inr rfl)) (fun _ h => h) (fun _ _ h => h)
    refine .trans (X := fun k => k = b ∨ k = w.heap.size) (Y := fun k => k = b ∨ k = w.heap.size) ?_ (Offs.set _ _ 4 _ (.inl rfl)) (fun _ h => h) (fun _ _ h => h)
    exact .trans (X := fun k => k = b ∨ k = w.heap.size) (Y := fun k => k = b ∨ k = w.heap.size) (Offs.set _ _ 2 _ (.inl rfl)) (Offs.set _ _ 3 _ (.inl rfl)) (fun _ h => h) (fun _ _ h => h)

set_option maxHeartbeats 1000000 in
theorem keep_any {B : Nat} {w : World} {b m most : Nat} {V : Value} {s : St} (h : Df B w b m most V s) (c : Nat) (hc : c < 256) (hm : most ≤ 1099511627776) (hB : B ≤ w.heap.size) :
    Calls Try.prog 20 #[.pointer (some ⟨b, 0, none⟩), .int .u8 (c : Int)] w fun e w' => e = .returned (.tuple #[]) ∧ ∃ V', Df B w' b m most V' (s.keep most c) ∧ Offs (fun k => k = b ∨ V.ownBlock = some k) w w' ∧ Mv w.heap.size V V' := by
  obtain ⟨i0, hi, hz0, hz1, hz2⟩ := info_parts byte_info
  obtain ⟨A, cp, hV, _, _⟩ := own_form h.own
  have c1 := h.cells.c1
  have c2 := h.cells.c2
  have c4 := h.cells.c4
  have f2 := h.cells.fz 2
  have f4 := h.cells.fz 4
  have hb := h.cells.lt
  rw [hV] at c2
  by_cases hf : s.long = true ∨ most ≤ s.held.length
  · have E := Lib.hid (show s.keep most c = ⟨[], s.esc, true⟩ by unfold St.keep; rw [if_pos hf])
    have fin : ∀ n w', w' = ((w.drewN n).setCell ⟨b, 2, none⟩ (.slice none 0 0)).setCell ⟨b, 4, none⟩ (.bool true) → ∃ V', Df B w' b m most V' (s.keep most c) ∧ Offs (fun k => k = b ∨ V.ownBlock = some k) w w' ∧ Mv w.heap.size V V' := by
      rintro n w' rfl
      refine ⟨.slice none 0 0, ?_, (Offs.of_below (X := fun k => k = b ∨ V.ownBlock = some k) (below_drewN (Below.refl _ _) n)).trans (Y := fun k => k = b ∨ V.ownBlock = some k) ((Offs.set (X := fun k => k = b ∨ V.ownBlock = some k) _ _ 2 _ (.inl rfl)).trans (Y := fun k => k = b ∨ V.ownBlock = some k) (Offs.set _ _ 4 _ (.inl rfl)) (fun _ h => h) (fun _ _ h => h)) (fun _ h => h) (fun _ _ h => h), fun k hk => by cases hk⟩
      rw [E.out]
      exact ⟨h.lo, ((h.below (below_drewN (Below.refl _ _) n)).cells.set2 _).set4 true, World.ownsRow_nil _ _ _ _, ⟨By.nil, Nat.zero_le _, fun _ => rfl⟩⟩
    cases h1 : s.long
    · have h2 : most ≤ s.held.length := by rw [h1] at hf; exact hf.resolve_left (by decide)
      rw [h1] at c4
      clear hf h1
      go_enter Try.func20, Try.ntmps20
      go_wp2_with fail
      go_quiet (fail)
      all_goals go_wp2_with fail
      refine bodyPost_ret (results_none rfl _ _ _) rfl ?_
      exact ⟨rfl, fin _ _ rfl⟩
    · rw [h1] at c4
      clear hf h1
      go_enter Try.func20, Try.ntmps20
      go_wp2_with fail
      go_quiet (fail)
      all_goals go_wp2_with fail
      refine bodyPost_ret (results_none rfl _ _ _) rfl ?_
      exact ⟨rfl, fin _ _ rfl⟩
  · have E := Lib.hid (show s.keep most c = ⟨s.held ++ [c], s.esc, s.long⟩ by unfold St.keep; rw [if_neg hf])
    have K := Lib.hid (ok_keep h.ok hc)
    have h1 : s.long = false := by cases h1 : s.long; rfl; exact absurd (.inl h1) hf
    have h2 : ¬ most ≤ s.held.length := fun h2 => hf (.inr h2)
    have hl := h.ok.2.1
    rw [h1] at c4
    have H1 := Lib.hid h1
    clear hf h1
    go_enter Try.func20, Try.ntmps20
    go_wp2_with fail
    go_quiet (fail)
    have hD := (h.below (below_drewN (Below.refl _ _) nq)).own
    go_wp2_with (at_builtin; refine list_mv rfl _ _ 28 rfl 5 i0 (.int .u8 0) 1 1 Try.underlying28 hi hz0 hz1 hz2 rfl (by decide) B V _ _ hV.symm (hD.alloc _) (some ⟨w.heap.size, 0, none⟩) 1 1 [.int .u8 (c : Int)] rfl (fun h => by cases h) rfl (fun ad had => by injection had with had; subst had; exact cell_one_new _ _ _) (fun x hx => by simp at hx; subst hx; rfl) (by unfold maxLen; omega) (by omega) (by simp; omega) ?_; intro v' w3 hown3 hgrow3 hmv3; have ho3 := (Offs.of_below (X := fun k => k = b ∨ V.ownBlock = some k) ((below_drewN (Below.refl w.heap.size w) nq).alloc (Nat.le_refl _) _)).trans (Offs.of_grown (X := fun k => k = b ∨ V.ownBlock = some k) hgrow3 (fun k hk => .inr hk)) (fun _ h => h) (fun _ _ h => h); have d3 := h.cells.off ((Offs.of_below (X := fun k => V.ownBlock = some k) ((below_drewN (Below.refl w.heap.size w) nq).alloc (Nat.le_refl _) _)).trans (Offs.of_grown (X := fun k => V.ownBlock = some k) hgrow3 (fun k hk => hk)) (fun _ h => h) (fun _ _ h => h)) h.ne; obtain ⟨g, cap', rfl⟩ := own_some hown3 (Nat.succ_pos _); have e2 := d3.c2; have f2' := d3.fz 2; have hb3 := d3.lt; rw [hV] at e2; have D3 := Lib.hid d3; have HO := Lib.hid ho3; clear d3 ho3 hgrow3)
    refine bodyPost_end (results_none rfl _ _ _) rfl ⟨rfl, .slice (some ⟨g, 0, none⟩) (s.held.length + 1) cap', ?_, ?_, ?_⟩
    · rw [E.out]
      refine ⟨h.lo, by have := D3.out.set2 (.slice (some ⟨g, 0, none⟩) (s.held.length + 1) cap'); rw [H1.out] at this ⊢; exact this, ?_, by rw [← E.out]; exact K.out⟩
      have R := own_off hown3 (Offs.set (X := fun k => k = b) w3 b 2 (.slice (some ⟨g, 0, none⟩) (s.held.length + 1) cap') rfl) (fun k hk hkb => D3.out.own_ne hown3 (by decide) (by rw [hk, hkb]))
      exact push_row R (by simp)
    · exact HO.out.trans (Offs.set _ _ 2 _ (.inl rfl)) (fun _ h => h) (fun _ _ h => h)
    · intro k hk
      rcases hmv3 k hk with h1 | h1
      · exact .inl h1
      · exact .inr (by simp at h1; omega)

end Go.Proofs.Ytdpkccbcfedhbaa
