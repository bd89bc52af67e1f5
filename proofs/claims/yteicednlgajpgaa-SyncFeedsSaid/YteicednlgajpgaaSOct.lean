
/-
  What bits.Octets and the document's Octets answer, over the words of Eq and Part: the octets of a list of bits, in new memory, or none. No condition beyond: bytes below 256, lists of at most 2^40 elements.
-/
import Derived.Test.YteicednlgajpgaaSOf
import Derived.StillTailTactics
namespace Go.Proofs.Yteicednlgajpgaa
open Go.RowKit

/-- What the first j of the eight bits from 8 n on stand for. -/
def valO (l : List Nat) (n : Nat) : Nat → Nat
  | 0 => 0
  | j + 1 => valO l n j + l.getD (8 * n + j) 0 % 2 * 2 ^ j
def firstO (l : List Nat) (k : Nat) : List Nat := (List.range k).map fun n => valO l n 8
def toO (l : List Nat) : List Nat := firstO l (l.length / 8)
def midO (l : List Nat) (q k j : Nat) : List Nat := firstO l k ++ valO l k j :: List.replicate (q - (k + 1)) 0

theorem valO_lt (l : List Nat) (n j : Nat) : valO l n j < 2 ^ j := by
  induction j with
  | zero => simp [valO]
  | succ j ih =>
    rw [valO, Nat.pow_succ]
    have h2 : l.getD (8 * n + j) 0 % 2 < 2 := Nat.mod_lt _ (by omega)
    have : l.getD (8 * n + j) 0 % 2 * 2 ^ j ≤ 1 * 2 ^ j := Nat.mul_le_mul_right _ (by omega)
    omega
theorem firstO_len (l : List Nat) (k : Nat) : (firstO l k).length = k := by simp [firstO]
theorem firstO_succ (l : List Nat) (k : Nat) : firstO l (k + 1) = firstO l k ++ [valO l k 8] := by simp [firstO, List.range_succ]
theorem midO_len {l : List Nat} {q k j : Nat} (h : k < q) : (midO l q k j).length = q := by simp [midO, firstO_len]; omega
theorem midO_zero {l : List Nat} {q k : Nat} (h : k < q) : midO l q k 0 = part (firstO l k) q k := by
  rw [midO, part, show q - k = (q - (k + 1)) + 1 from by omega, List.replicate_succ]; rfl
theorem midO_eight {l : List Nat} {q k : Nat} : midO l q k 8 = part (firstO l (k + 1)) q (k + 1) := by
  rw [midO, part, firstO_succ, List.append_assoc]; rfl
theorem midO_at {l : List Nat} {q k j : Nat} : (bvs (midO l q k j))[k]? = some (.int .u8 (valO l k j : Int)) := by
  apply bvs_get
  rw [midO, List.getElem?_append_right (by rw [firstO_len]; omega), firstO_len]; simp
theorem midO_set {l : List Nat} {q k j : Nat} : (bvs (midO l q k j)).set k (.int .u8 (valO l k (j + 1) : Int)) = bvs (midO l q k (j + 1)) := by
  have : (.int .u8 (valO l k (j + 1) : Int)) = bv (valO l k (j + 1)) := rfl
  rw [this, bvs, ← List.map_set, midO, List.set_append_right _ _ (by rw [firstO_len]; omega), firstO_len]
  simp [midO, bvs]

theorem lowest_bit (x r : Nat) (hx : x < 256) (hr : Hid (x % 2 = r)) (w : World) :
    Calls Try.prog 38 #[.int .u8 (x : Int)] w fun e w' => e = .returned (.int .u8 (r : Int)) ∧ w' = w :=
  (lowest_any x hx w).mono fun _ _ ⟨he, hw⟩ => ⟨by rw [he, hr.out], hw.symm⟩

theorem or_step (V r j : Nat) (hV : V < 2 ^ j) (hr : r < 2) (hj : j < 8) : bits BinOp.or IntKind.u8 (V : Int) (IntKind.u8.wrap ((r : Int) * 2 ^ j)) = ((V + r * 2 ^ j : Nat) : Int) := by
  have hp : 2 ^ j ≤ 2 ^ 7 := Nat.pow_le_pow_right (by omega) (by omega)
  have h1 : r * 2 ^ j ≤ 1 * 2 ^ j := Nat.mul_le_mul_right _ (by omega)
  have h2 : ((r : Int) * 2 ^ j) = ((r * 2 ^ j : Nat) : Int) := by simp
  rw [h2, IntKind.wrap_u8', show ((r * 2 ^ j : Nat) : Int) % 256 = ((r * 2 ^ j : Nat) : Int) from by omega, u8_or_nat _ _ (by omega) (by omega), Nat.or_comm,
    nat_join j _ _ (Nat.mul_mod_left _ _) hV, Nat.add_comm]
theorem valO_step {l : List Nat} {k j x r : Nat} (hx : l[8 * k + j]? = some x) (hr : x % 2 = r) : valO l k (j + 1) = valO l k j + r * 2 ^ j := by
  rw [valO, List.getD_eq_getElem?_getD, hx, Option.getD_some, hr]

set_option maxHeartbeats 400000 in
theorem octets_any (l : List Nat) (A : Option Addr) (c q : Nat) (w : World) (h : Rd w w.heap.size A l) (hb : By l) (hn : l.length ≤ 1099511627776) (hq : l.length = 8 * q) :
    Calls Try.prog 39 #[.slice A l.length c] w fun e w' => ∃ v, e = .returned (.tuple #[v, .bool true]) ∧ w'.ownsRow w.heap.size 5 1 v q (bvs (toO l)) ∧ Below w.heap.size w w' := by
  obtain ⟨i0, hi, hz0, hz1, hz2⟩ := info_parts byte_info
  have hq' : l.length / 8 = q := by omega
  have HQ := Lib.hid hq
  have HQ' := Lib.hid hq'
  have hqb : q ≤ 1099511627776 := by omega
  clear hq hq'
  have hm : ((l.length : Int) % 8 != 0) = false := by have := HQ.out; rw [bne_eq_false_iff_eq]; omega
  go_enter Try.func39, Try.ntmps39
  go_wp2_with (at_make; refine wpList_make_full _ rfl _ _ 27 rfl w.heap.size 5 i0 (.int .u8 0) 1 Try.underlying27 hi hz0 hz1 .i64 .i64 _ _ q rfl rfl (by have := HQ.out; omega) (by have := HQ.out; omega) (by rw [hz2]; omega) (by unfold maxLen; omega) (Nat.le_refl _) ?_; intro w1 hown1 hgrow1)
  rw [← part_zero] at hown1
  have hb1 : Below w.heap.size w w1 := (Below.refl _ _).grown hgrow1 (Nat.le_refl _) (by simp)
  clear hgrow1 hi hz0 hz1 hz2
  go_loopw [17] (fun i wr => ∃ k : Nat, k ≤ q ∧ i = .int .i64 k ∧ wr.ownsRow w.heap.size 5 1 (.slice (some ⟨w.heap.size, 0, none⟩) q q) q (bvs (part (firstO l k) q k)) ∧ Below w.heap.size w wr) (fun i _ => q - (intOf i).toNat)
  case atStart => exact ⟨0, Nat.zero_le _, rfl, hown1, hb1⟩
  case round =>
    obtain ⟨k, hk, rfl, hown, hbel⟩ := hrel
    by_cases hlt : k < q
    · have i1 : (0 : Int) ≤ k := by omega
      have i2 : (k : Int) < q := by omega
      rw [← midO_zero hlt] at hown
      go_wp2_with fail
      go_loopw [20] (fun i w2 => ∃ j : Nat, j ≤ 8 ∧ i = .int .i64 j ∧ w2.ownsRow w.heap.size 5 1 (.slice (some ⟨w.heap.size, 0, none⟩) q q) q (bvs (midO l q k j)) ∧ Below w.heap.size w w2) (fun i _ => 8 - (intOf i).toNat)
      case atStart => exact ⟨0, by omega, rfl, hown, hbel⟩
      case round =>
        obtain ⟨j, hj, rfl, hown2, hbel2⟩ := hrel
        clear hown hbel
        by_cases hlt2 : j < 8
        · obtain ⟨b, o, x, rfl, hbb, hx, hc⟩ := (h.below hbel2).at_ (k := 8 * k + j) (by have := HQ.out; omega)
          have hx256 := hb.get hx
          have HX := Lib.hid hx
          have hc0 := hown2.cellAt k (by omega)
          rw [midO_at] at hc0
          have hf0 := hown2.frozenAt k
          have i3 : (0 : Int) ≤ 8 * k + j := by omega
          have i4 : 8 * (k : Int) + j < l.length := by have := HQ.out; omega
          obtain ⟨r, hr⟩ : ∃ r, Hid (x % 2 = r) := ⟨_, Lib.hid rfl⟩
          clear hx
          go_wp2_with fail
          have e1 : IntKind.i64.wrap (8 * (k : Int)) = 8 * k := IntWalk.i64_in _ (by omega)
          have e2 : IntKind.i64.wrap (8 * (k : Int) + j) = 8 * k + j := IntWalk.i64_in _ (by omega)
          have e3 : (8 * (k : Int) + j).toNat = 8 * k + j := by omega
          refine wp_region_still_tail 16 (by kernel_rfl) (by kernel_rfl) ?_
          simp only [List.take_succ_cons, List.take_zero, List.drop_succ_cons, List.drop_zero]
          repeat still_step
          clear e1 e2 e3
          refine wpStill_step (fun K hK => ?_)
          go_simp
          refine ⟨_, (lowest_bit x r hx256 hr _), hK _ ?_⟩
          clear hK K
          repeat still_step
          refine wpStill_nil ?_
          change wpList _ _ _ _ _ wr.drew
          rw [or_step (valO l k j) r j (valO_lt l k j) (by have := hr.out; omega) hlt2, ← valO_step HX.out hr.out]
          have hs := hown2.stored k (.int .u8 (valO l k (j + 1) : Int))
          rw [midO_set] at hs
          have HS := Lib.hid hs
          clear hs hc
          go_wp2
          go_roundw
          case rel => exact ⟨j + 1, by omega, by go_num, HS.out.1, hbel2.drew.setCell (Nat.le_refl _) _⟩
          case measure => simp [intOf]; omega
        · go_wp2
          go_roundw
          case rel =>
            have he : j = 8 := by omega
            subst he
            rw [midO_eight] at hown2
            exact ⟨k + 1, by omega, by go_num, hown2, hbel2⟩
          case measure => simp [intOf]; omega
    · go_wp2
      go_ret2
      have he : k = q := by omega
      subst he
      rw [part_full] at hown
      refine ⟨_, rfl, ?_, hbel⟩
      rw [toO, HQ'.out]
      exact hown

set_option maxHeartbeats 400000 in
theorem octets_none (l : List Nat) (A : Option Addr) (c : Nat) (w : World) (hn : l.length ≤ 1099511627776) (hq : ¬ l.length % 8 = 0) :
    Calls Try.prog 39 #[.slice A l.length c] w fun e w' => e = .returned (.tuple #[.slice none 0 0, .bool false]) ∧ w = w' := by
  have hm : ((l.length : Int) % 8 != 0) = true := by rw [bne_iff_ne]; omega
  clear hq
  go_enter Try.func39, Try.ntmps39
  go_wp2_with fail
  go_ret2
  exact ⟨rfl, rfl⟩
set_option maxHeartbeats 400000 in
theorem roctets_none (l : List Nat) (A : Option Addr) (c : Nat) (w : World) (hn : l.length ≤ 1099511627776) (hq : ¬ l.length % 8 = 0) :
    Calls Try.prog 35 #[.slice A l.length c] w fun e w' => e = .returned (.tuple #[.slice none 0 0, .bool false]) ∧ w = w' := by
  have hm : ((l.length : Int) % 8 != 0) = true := by rw [bne_iff_ne]; omega
  clear hq
  go_enter Try.func35, Try.ntmps35
  go_wp2_with fail
  go_ret2
  exact ⟨rfl, rfl⟩

theorem down_step {l : List Nat} {m t x n V : Nat} (h : valO l m (t + 1) + 2 ^ (t + 1) * n = V) (hx : l[8 * m + t]? = some x) : valO l m t + 2 ^ t * (2 * n + x % 2) = V := by
  rw [← h, valO_step hx rfl, Nat.pow_succ, Nat.mul_add, Nat.mul_assoc, Nat.mul_comm (x % 2)]
  omega
theorem down_le {l : List Nat} {m t n : Nat} (h : valO l m t + 2 ^ t * n = valO l m 8) : n < 256 := by
  have h1 := valO_lt l m 8
  have h2 : 1 * n ≤ 2 ^ t * n := Nat.mul_le_mul_right _ Nat.one_le_two_pow
  omega

set_option maxHeartbeats 400000 in
theorem roctets_any (l : List Nat) (A : Option Addr) (c q : Nat) (w : World) (h : Rd w w.heap.size A l) (hb : By l) (hn : l.length ≤ 1099511627776) (hq : l.length = 8 * q) :
    Calls Try.prog 35 #[.slice A l.length c] w fun e w' => ∃ v, e = .returned (.tuple #[v, .bool true]) ∧ w'.ownsRow w.heap.size 5 1 v q (bvs (toO l)) ∧ Below w.heap.size w w' := by
  obtain ⟨i0, hi, hz0, hz1, hz2⟩ := info_parts byte_info
  have hq' : l.length / 8 = q := by omega
  have HQ := Lib.hid hq
  have HQ' := Lib.hid hq'
  have hqb : q ≤ 1099511627776 := by omega
  clear hq hq'
  have hm : ((l.length : Int) % 8 != 0) = false := by have := HQ.out; rw [bne_eq_false_iff_eq]; omega
  go_enter Try.func35, Try.ntmps35
  go_wp2_with fail
  have hown1 : (w.alloc (.cells #[] 5)).ownsRow w.heap.size 5 1 (.slice (some ⟨w.heap.size, 0, none⟩) 0 0) 0 (bvs (firstO l 0)) := World.ownsRow_lit w #[] 0 (Nat.le_refl _) (by unfold maxLen; omega) rfl
  have hb1 : Below w.heap.size w (w.alloc (.cells #[] 5)) := (Below.refl _ _).alloc (Nat.le_refl _) _
  go_loopw [4, 5] (fun v i wr => ∃ m : Nat, m ≤ q ∧ i = .int .i64 (8 * (m : Int)) ∧ wr.ownsRow w.heap.size 5 1 v m (bvs (firstO l m)) ∧ Below w.heap.size w wr) (fun _ i _ => l.length - (intOf i).toNat)
  case atStart => exact ⟨0, Nat.zero_le _, rfl, hown1, hb1⟩
  case round =>
    obtain ⟨m, hk, rfl, hown, hbel⟩ := hrel
    clear hown1 hb1
    by_cases hlt : m < q
    · have i2 : 8 * (m : Int) < l.length := by have := HQ.out; omega
      have i3 : 8 * m + 8 ≤ l.length := by have := HQ.out; omega
      go_wp2_with fail
      go_loop [6, 7] (fun n i => ∃ t y : Nat, t ≤ 8 ∧ i = .int .i64 ((t : Int) - 1) ∧ n = .int .i64 y ∧ y < 256 ∧ Hid (valO l m t + 2 ^ t * y = valO l m 8)) (fun _ i => (intOf i + 1).toNat)
      case atStart => exact ⟨8, 0, by omega, rfl, rfl, by omega, Lib.hid (by simp)⟩
      case round =>
        obtain ⟨t, y, hj, rfl, rfl, hy, hyx⟩ := hrel
        have hsz := hbel.size
        have hy0 : (0 : Int) ≤ y := by omega
        by_cases ht : t = 0
        · subst ht
          have hyv := hyx.out
          go_wp2_with (at_builtin; refine wpList_append_own _ rfl _ _ 27 rfl w.heap.size 5 i0 (.int .u8 0) 1 1 Try.underlying27 hi hz0 hz1 hz2 rfl (by decide) _ _ _ rfl (hown.alloc _) ⟨_, 0, none⟩ 1 1 [.int .u8 (y : Int)] rfl rfl (cell_one_new _ _ _) (fun x hx => by simp at hx; subst hx; rfl) (by unfold maxLen; omega) (by omega) (by simp; omega) ?_; intro v' w3 hown3 hgrow3 hnil3)
          have hyv2 : y = valO l m 8 := by rw [valO, Nat.pow_zero] at hyv; omega
          have R := push_row hown3 (m := m + 1) rfl
          rw [hyv2, ← firstO_succ] at R
          have R2 := push_below hbel hown hgrow3
          clear hyv2 hyv
          go_roundw
          case rel => exact ⟨m + 1, by omega, by go_num, R, R2⟩
          case measure => simp [intOf]; omega
        · obtain ⟨s, rfl⟩ : ∃ s, t = s + 1 := ⟨t - 1, by omega⟩
          obtain ⟨b, o, x, rfl, hbb, hx, hc⟩ := (h.below hbel).at_ (k := 8 * m + s) (by omega)
          have hx256 := hb.get hx
          have HX := Lib.hid hx
          clear hx hown hbel
          have x0 : (0 : Int) ≤ x := by omega
          go_wp2
          have R := down_step hyx.out HX.out
          have R2 := down_le R
          have R3 := Lib.hid R
          clear R
          go_round
          case rel => exact ⟨s, 2 * y + x % 2, by omega, rfl, by go_num, R2, R3⟩
          case measure => simp [intOf]
    · have i2 : (l.length : Int) ≤ 8 * (m : Int) := by have := HQ.out; omega
      go_wp2
      go_ret2
      have he : m = q := by omega
      subst he
      refine ⟨_, rfl, ?_, hbel⟩
      rw [toO, HQ'.out]
      exact hown

end Go.Proofs.Yteicednlgajpgaa
