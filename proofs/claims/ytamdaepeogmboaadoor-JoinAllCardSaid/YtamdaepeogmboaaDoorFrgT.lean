
/-
  The headers' shapes as the start-up lays them; what the small calls of layer 23 answer: pick, Mod, right, behind, count, the document's Mod. Condition: the shapes stand as the start-up lays them ('TabF').
-/
import Derived.Test.YtamdaepeogmboaaDoorFrgO
import Derived.Laws.ResultCell
namespace Go.Proofs.YtamdaepeogmboaaDoor
set_option maxRecDepth 4000
open Go.RowKit

/-- The shapes as the start-up lays them. -/
def TabF (w : World) : Prop :=
  w.cell? ⟨0, 0, none⟩ = some (.int .i64 2) ∧ w.cell? ⟨0, 1, none⟩ = some (.int .i64 4096) ∧ w.cell? ⟨0, 2, none⟩ = some (.int .u8 48) ∧
  w.cell? ⟨0, 3, none⟩ = some (.int .i64 4) ∧ w.cell? ⟨0, 4, none⟩ = some (.int .i64 16777216) ∧ w.cell? ⟨0, 5, none⟩ = some (.int .u8 63)
theorem TabF.below {w w' : World} (h : TabF w) (hb : Below w.heap.size w w') : TabF w' := by
  obtain ⟨h0, h1, h2, h3, h4, h5⟩ := h
  exact ⟨(hb.cell (block_lt h0)).trans h0, (hb.cell (block_lt h1)).trans h1, (hb.cell (block_lt h2)).trans h2, (hb.cell (block_lt h3)).trans h3, (hb.cell (block_lt h4)).trans h4, (hb.cell (block_lt h5)).trans h5⟩
/-- A shape as a value. -/
abbrev shV (z m : Int) (k : Nat) : Value := .agg #[.int .i64 z, .int .i64 m, .int .u8 (k : Int)]

set_option maxHeartbeats 1000000 in
theorem frpick_any (s : Bool) (w : World) (hT : TabF w) :
    Calls Tryd.prog 36 #[.bool s] w fun e w' => e = .returned (shV (frsz s : Int) (frmod s : Int) (frspare s)) ∧ Below w.heap.size w w' := by
  have hT1 := hT.below ((Below.refl w.heap.size w).alloc (Nat.le_refl _) (.cells #[.int .i64 0, .int .i64 0, .int .u8 0] 93))
  obtain ⟨h0, h1, h2, h3, h4, h5⟩ := hT1
  clear hT
  cases s
  · go_enter Tryd.func36, Tryd.ntmps36
    go_wp2
    refine bodyPost_ret (v := shV 4 16777216 63) ?_ rfl ⟨rfl, ?_⟩
    · exact results_cell_row rfl _ _ w.heap.size 93 #[.int .i64 4, .int .i64 16777216, .int .u8 63] _ _ rfl (heap_alloc_new _ _) Tryd.underlying93 rfl (by kernel_rfl)
    · exact (Below.refl _ _).alloc (Nat.le_refl _) _
  · go_enter Tryd.func36, Tryd.ntmps36
    go_wp2
    refine bodyPost_ret (v := shV 2 4096 48) ?_ rfl ⟨rfl, ?_⟩
    · exact results_cell_row rfl _ _ w.heap.size 93 #[.int .i64 2, .int .i64 4096, .int .u8 48] _ _ rfl (heap_alloc_new _ _) Tryd.underlying93 rfl (by kernel_rfl)
    · exact (Below.refl _ _).alloc (Nat.le_refl _) _

theorem frfield_0 (z m : Int) (k : Nat) (w : World) : (Instr.field 93 (shV z m k) 0).run Tryd.prog w = .ok (.int .i64 z) w := by kernel_rfl
theorem frfield_1 (z m : Int) (k : Nat) (w : World) : (Instr.field 93 (shV z m k) 1).run Tryd.prog w = .ok (.int .i64 m) w := by kernel_rfl

set_option maxHeartbeats 1000000 in
theorem frmod_any (s : Bool) (w : World) (hT : TabF w) :
    Calls Tryd.prog 21 #[.bool s] w fun e w' => e = .returned (.int .i64 (frmod s : Int)) ∧ Below w.heap.size w w' := by
  have hfd := frfield_1
  go_enter Tryd.func21, Tryd.ntmps21
  go_wp2_with (go_at_call 36; (with_reducible refine (frpick_any s _ hT).mono ?_); rintro e w2 ⟨rfl, hb⟩)
  go_ret
  exact ⟨rfl, hb⟩

set_option maxHeartbeats 1000000 in
theorem frright_any (s : Bool) (x : Int) (w : World) (hT : TabF w) :
    Calls Tryd.prog 31 #[.bool s, .int .i64 x] w fun e w' => e = .returned (.bool (frright s x)) ∧ Below w.heap.size w w' := by
  by_cases h0 : x < 0
  · have E := Lib.hid (show frright s x = false by unfold frright; simp; omega)
    rw [E.out]
    have j : ¬ (0 : Int) ≤ x := by omega
    clear h0
    go_enter Tryd.func31, Tryd.ntmps31
    go_wp2
    go_ret
    exact ⟨rfl, Below.refl _ _⟩
  · have j : (0 : Int) ≤ x := by omega
    have E := Lib.hid (show frright s x = decide (x < (frmod s : Int)) by unfold frright; simp [j])
    rw [E.out]
    clear h0
    go_enter Tryd.func31, Tryd.ntmps31
    go_wp2_with (go_at_call 21; (with_reducible refine (frmod_any s _ hT).mono ?_); rintro e w2 ⟨rfl, hb⟩)
    go_ret
    exact ⟨rfl, hb⟩

set_option maxHeartbeats 1000000 in
theorem frbeh_any (s : Bool) (x : Nat) (hx : x < frmod s) (w : World) (hT : TabF w) :
    Calls Tryd.prog 35 #[.bool s, .int .i64 (x : Int)] w fun e w' => e = .returned (.int .i64 (((x + 1) % frmod s : Nat) : Int)) ∧ Below w.heap.size w w' := by
  have hm : (0 : Int) < (frmod s : Int) := by have := frmod_pos s; omega
  have h9 : (x : Int) < 16777216 := by
    have : frmod s ≤ 16777216 := by cases s <;> simp [frmod]
    omega
  have E := Lib.hid (show ((x : Int) + 1).tmod (frmod s : Int) = (((x + 1) % frmod s : Nat) : Int) by rw [Int.ofNat_tmod]; rfl)
  go_enter Tryd.func35, Tryd.ntmps35
  go_wp2_with (go_at_call 21; (with_reducible refine (frmod_any s _ hT).mono ?_); rintro e w2 ⟨rfl, hb⟩)
  go_ret
  exact ⟨by rw [← E.out]; rfl, hb⟩

set_option maxHeartbeats 1000000 in
theorem frrmod_any (s : Bool) (w : World) :
    Calls Tryd.prog 26 #[.bool s] w fun e w' => e = .returned (.int .i64 (frmod s : Int)) ∧ w = w' := by
  cases s
  all_goals
    go_enter Tryd.func26, Tryd.ntmps26
    go_wp2
    go_ret
    exact ⟨rfl, rfl⟩

set_option maxHeartbeats 1000000 in
theorem frcnt_any (m n c : Nat) (A : Option Addr) (hm : 0 < m) (hm2 : m ≤ 9223372036854775807) (hn : n ≤ 140737488351232) (w : World) :
    Calls Tryd.prog 32 #[.int .i64 (m : Int), .slice A n c] w fun e w' => e = .returned (.int .i64 (frcnt m n : Int)) ∧ w = w' := by
  have h0 : ((m : Int) == 0) = false := by simp; omega
  have h1 : ¬ (m : Int) = 0 := by omega
  obtain ⟨q, hq⟩ : ∃ q, Hid (frcnt m n = q + 1 ∧ (max n 1 - 1) / m = q ∧ q ≤ 140737488351232) := ⟨(max n 1 - 1) / m, Lib.hid ⟨rfl, rfl, by have := Nat.div_le_self (max n 1 - 1) m; omega⟩⟩
  rw [hq.out.1]
  by_cases hz : n = 0
  · subst hz
    go_enter Tryd.func32, Tryd.ntmps32
    go_wp2
    go_ret
    have h := hq.out.2.1
    simp at h
    subst h
    exact ⟨rfl, rfl⟩
  · go_enter Tryd.func32, Tryd.ntmps32
    go_wp2
    go_ret
    refine ⟨?_, rfl⟩
    have h := hq.out.2.1
    have h2 := hq.out.2.2
    rw [show max n 1 - 1 = n - 1 by omega] at h
    have e : ((n : Int) - 1) / (m : Int) = (q : Int) := by rw [← h, Int.natCast_ediv, Int.natCast_sub (by omega)]; rfl
    show Ending.returned (.int .i64 (wrap64 (((n : Int) - 1) / (m : Int) + 1))) = _
    rw [e, IntWalk.wrap64_in _ (by omega)]
    rfl
end Go.Proofs.YtamdaepeogmboaaDoor
