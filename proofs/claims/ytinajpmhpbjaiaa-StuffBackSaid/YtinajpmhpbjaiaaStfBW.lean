
/-
  The walk of the statement StuffBack: it answers true for every two maps and list of bytes, and writes nothing that was there. No condition.
-/
import Derived.Test.YtinajpmhpbjaiaaStfC
namespace Go.Proofs.Ytinajpmhpbjaiaa
open Go.RowKit

set_option maxHeartbeats 1000000 in
theorem sback_long (m p : Nat) (A : Option Addr) (n c : Nat) (w : World) (h : 400 < n) :
    Calls Try.prog 4 #[.int .u32 (m : Int), .int .u32 (p : Int), .slice A n c] w fun e w' => e = .returned (.bool true) ∧ Below w.heap.size w w' := by
  have h4 : (400 : Int) < (n : Int) := by omega
  go_enter Try.func4, Try.ntmps4
  go_wp2_with fail
  refine (speaks4_any _).mono ?_
  rintro e w1 ⟨rfl, hB1⟩
  go_wp2_with fail
  refine (speaks4_any _).mono ?_
  rintro e w2 ⟨rfl, hb2⟩
  go_wp2_with fail
  go_ret
  exact ⟨rfl, hB1.trans (hb2.mono hB1.size)⟩

/-- The three maps that are asked. -/
def three (m p k : Nat) : Nat := if k = 0 then m else if k = 1 then m &&& p else 0
theorem three_lt (m p k : Nat) (hm : m < 4294967296) : three m p k < 4294967296 := by
  unfold three
  split
  · exact hm
  · split
    · exact Nat.lt_of_le_of_lt Nat.and_le_left hm
    · omega
theorem has_bit (m c : Nat) : hasB m c = (decide (c < 32) && m.testBit c) := by
  rw [hasB, Nat.testBit_eq_decide_div_mod_eq]
theorem three_in (m p k c : Nat) (h : hasB (three m p k) c = true) : hasB m c = true := by
  rw [has_bit, Bool.and_eq_true] at h ⊢
  refine ⟨h.1, ?_⟩
  have h2 := h.2
  unfold three at h2
  split at h2
  · exact h2
  · split at h2
    · rw [Nat.testBit_and, Bool.and_eq_true] at h2
      exact h2.1
    · simp at h2
theorem three_cells (m p : Nat) (w : World) (hm : m < 4294967296) (hp : p < 4294967296) (k : Nat) (hk : k < 3) :
    (w.alloc (.cells #[.int .u32 (m : Int), .int .u32 (bits .and .u32 (m : Int) (p : Int)), .int .u32 0] 22)).cell? ⟨w.heap.size, k, none⟩ = some (.int .u32 (three m p k : Int)) := by
  rw [World.cell?_alloc_at _ _ _ _ rfl, u32_and_nat m p hm hp]
  have : k = 0 ∨ k = 1 ∨ k = 2 := by omega
  rcases this with rfl | rfl | rfl <;> rfl

set_option maxHeartbeats 2000000 in
theorem sback_walk (m p : Nat) (hm : m < 4294967296) (hp : p < 4294967296) (l : List Nat) (A : Option Addr) (n c : Nat) (w : World) (hl : l.length = n) (hb : By l) (h : Rd w w.heap.size A l) (h4 : n ≤ 400) :
    Calls Try.prog 4 #[.int .u32 (m : Int), .int .u32 (p : Int), .slice A n c] w fun e w' => e = .returned (.bool true) ∧ Below w.heap.size w w' := by
  have hes : (esc m l).length ≤ 2 * n := by rw [← hl]; exact esc_le m l
  have heg : n ≤ (esc m l).length := by rw [← hl]; exact esc_ge m l
  have hub := fun k => unst_esc (m := m) (n := three m p k) l (three_in m p k)
  have hEB := esc_by (m := m) hb
  have HNE := fun (x : Nat) (hx : x ∈ esc m l) => esc_ne hx
  have HL := Lib.hid hl
  have HR := Lib.hid h
  have HUB := Lib.hid hub
  have HN := Lib.hid HNE
  clear hl h hub HNE
  obtain ⟨s, hs⟩ : ∃ s, Hid (esc m l = s) := ⟨_, Lib.hid rfl⟩
  rw [hs.out] at hes heg hEB
  go_enter Try.func4, Try.ntmps4
  go_wp2_with fail
  refine (speaks4_any _).mono ?_
  rintro e w1 ⟨rfl, hB1⟩
  go_wp2_with fail
  refine (stuff_any m hm l n A c w1 ((HR.out.below hB1).more hB1.size) hb HL.out (by omega)).mono ?_
  rintro e w2 ⟨A2, c2, k2, rfl, hl2, -, hr2, hb2⟩
  rw [hs.out] at hl2 hr2
  have hB2 := hB1.trans (hb2.mono hB1.size)
  have hk2 : k2 ≤ 2 * n := by rw [← hl2]; exact hes
  have hk3 : n ≤ k2 := by rw [← hl2]; exact heg
  have HL2 := Lib.hid hl2
  clear hl2 hb2 hes heg
  go_wp2_with fail
  go_loop [27] (fun i => ∃ k : Nat, k ≤ k2 ∧ i = .int .i64 k) (fun i => k2 - (intOf i).toNat)
  case atStart => exact ⟨0, Nat.zero_le _, rfl⟩
  case round =>
    obtain ⟨k, hk, rfl⟩ := hrel
    by_cases hlt : k < k2
    · obtain ⟨b, o, x, rfl, hbb, hx, hc⟩ := hr2.at_ (k := k) (by rw [HL2.out]; exact hlt)
      have hx256 := hEB.get hx
      have hxn := HN.out x (by rw [hs.out]; exact List.mem_of_getElem? hx)
      have hx1 := hxn.1
      have HX := Lib.hid hxn.2
      clear hx hxn
      have e6 : ((x : Int) == 126) = false := by simp; omega
      have i1 : (0 : Int) ≤ k := by omega
      have i2 : (k : Int) < k2 := by omega
      go_wp2_with (go_at_call 15; refine (has_any m x hm hx256 _).mono ?_; rintro e w' ⟨rfl, rfl⟩; rw [HX.out])
      go_round
      case rel => exact ⟨k + 1, by omega, by go_num⟩
      case measure => simp [intOf]; omega
    · go_wp2_with fail
      clear hlt hk
      have hcells := fun k hk => three_cells m p w2 hm hp k hk
      have hB3 := hB2.alloc hB2.size (.cells #[.int .u32 (m : Int), .int .u32 (bits .and .u32 (m : Int) (p : Int)), .int .u32 0] 22)
      have hr3 : Rd (w2.alloc (.cells #[.int .u32 (m : Int), .int .u32 (bits .and .u32 (m : Int) (p : Int)), .int .u32 0] 22)) w2.heap.size A2 s := hr2.alloc (Nat.le_refl _) _
      have hsz3 : w2.heap.size < (w2.alloc (.cells #[.int .u32 (m : Int), .int .u32 (bits .and .u32 (m : Int) (p : Int)), .int .u32 0] 22)).heap.size := by simp
      generalize hw3 : w2.alloc (.cells #[.int .u32 (m : Int), .int .u32 (bits .and .u32 (m : Int) (p : Int)), .int .u32 0] 22) = w3 at hcells hB3 hr3 hsz3 ⊢
      have HC := Lib.hid hcells
      clear hw3 hcells
      go_loopw [45] (fun i wr => ∃ k : Nat, k ≤ 3 ∧ i = .int .i64 k ∧ Below w3.heap.size w3 wr) (fun i _ => 3 - (intOf i).toNat)
      case atStart => exact ⟨0, by omega, rfl, Below.refl _ _⟩
      case round =>
        obtain ⟨k, hk, rfl, hbel⟩ := hrel
        by_cases hlt : k < 3
        · have hc := (hbel.cell (p := ⟨w2.heap.size, k, none⟩) hsz3).trans (HC.out k hlt)
          have hU := Lib.hid (HUB.out k)
          have h3l := three_lt m p k hm
          obtain ⟨t, ht⟩ : ∃ t, Hid (three m p k = t) := ⟨_, Lib.hid rfl⟩
          rw [ht.out] at hc hU h3l
          have hB4 := hB3.trans (hbel.mono hB3.size)
          have hr4 := ((hr3.more (Nat.le_of_lt hsz3)).below hbel).more hbel.size
          have i1 : (0 : Int) ≤ k := by omega
          have i2 : (k : Int) < 3 := by omega
          go_wp2_with fail
          refine (unst_any t h3l s k2 A2 c2 wr hr4 hEB HL2.out (by omega)).mono ?_
          rintro e w5 ⟨A5, c5, k5, rfl, hk5, hl5, hr5, hb5⟩
          rw [← hs.out, hU.out] at hl5 hr5 ⊢
          have HL5 := Lib.hid hl5
          have hbel5 := hbel.trans (hb5.mono hbel.size)
          have hB5 := hB3.trans (hbel5.mono hB3.size)
          clear hl5 hb5
          go_wp2_with fail
          refine (equal_yes l l k5 n _ _ _ _ w5 hr5 ((HR.out.below hB5).more hB5.size) HL5.out HL.out (by omega) rfl).mono ?_
          rintro e w6 ⟨rfl, hb6⟩
          have hbel6 := hbel5.trans (hb6.mono hbel5.size)
          go_wp2_with fail
          go_roundw
          case rel => exact ⟨k + 1, by omega, by go_num, hbel6⟩
          case measure => simp [intOf]; omega
        · have hk3 : k = 3 := by omega
          have hB4 := hB3.trans (hbel.mono hB3.size)
          clear hlt hk
          have d1 : decide ((n : Int) ≤ k2) = true := by simp; omega
          have d2 : (k2 : Int) ≤ 2 * n := by omega
          subst hk3
          go_wp2_with fail
          go_ret
          exact ⟨rfl, hB4⟩

end Go.Proofs.Ytinajpmhpbjaiaa
