
/-
  What the calls of layer 2 and the document's own answer, but for lists that they make: the register behind octets, the sum. Conditions: the tables hold what the start-up lays ('Tabs'); lists of at most 2^40 elements, bytes below 256.
-/
import Derived.Test.YtkakkligndejaaaDoorEq
import Derived.Test.YtkakkligndejaaaDoorFcsG
import Derived.Laws.BitsAll
namespace Go.Proofs.YtkakkligndejaaaDoor
open Go.RowKit

/-- The tables as the start-up lays them. -/
def Tabs (w : World) : Prop := ∀ (k : Nat), k < 16 → w.cell? ⟨0, k, none⟩ = some (.int .u32 (shN 3988292384 4 k : Int)) ∧ w.cell? ⟨1, k, none⟩ = some (.int .u32 (shN 33800 4 k : Int))

theorem Tabs.below {w w' : World} (h : Tabs w) (hb : Below w.heap.size w w') : Tabs w' := by
  intro k hk
  obtain ⟨h1, h2⟩ := h k hk
  exact ⟨(hb.cell (block_lt h1)).trans h1, (hb.cell (block_lt h2)).trans h2⟩

theorem xor_u32 (a b : Nat) (ha : a < 4294967296) (hb : b < 4294967296) : bits .xor .u32 (a : Int) (b : Int) = ((a ^^^ b : Nat) : Int) := u32_xor_nat a b ha hb
theorem next_val (p r : Nat) (hp : p < 4294967296) (hr : r < 4294967296) : bits .xor .u32 ((r : Int) / 16) (shN p 4 (r % 16) : Int) = (shN p 4 r : Int) := by
  have e : ((r : Int) / 16) = ((r / 16 : Nat) : Int) := by omega
  have hs : shN p 4 (r % 16) < 4294967296 := shN_lt (n := 32) hp 4 (by omega)
  rw [e, xor_u32 _ _ (by omega) hs, Nat.xor_comm]
  exact congrArg _ (shN_low p 4 r).symm

set_option maxHeartbeats 400000 in
theorem next_any (wide : Bool) (r : Nat) (hr : r < 4294967296) (w : World) (hT : Tabs w) :
    Calls Tryd.prog 66 #[.bool wide, .int .u32 (r : Int)] w fun e w' => e = .returned (.int .u32 (shN (polyW wide) 4 r : Int)) ∧ w = w' := by
  obtain ⟨h1, h2⟩ := hT (r % 16) (by omega)
  cases wide
  · have e := Lib.hid (next_val 33800 r (by decide) hr)
    go_enter Tryd.func66, Tryd.ntmps66
    go_wp2
    go_ret
    refine ⟨?_, rfl⟩
    show Ending.returned (.int .u32 (bits .xor .u32 ((r : Int) / 16) (shN 33800 4 (r % 16) : Int))) = _
    rw [e.out]
    rfl
  · have e := Lib.hid (next_val 3988292384 r (by decide) hr)
    go_enter Tryd.func66, Tryd.ntmps66
    go_wp2
    go_ret
    refine ⟨?_, rfl⟩
    show Ending.returned (.int .u32 (bits .xor .u32 ((r : Int) / 16) (shN 3988292384 4 (r % 16) : Int))) = _
    rw [e.out]
    rfl

set_option maxHeartbeats 400000 in
theorem start_any (wide : Bool) (w : World) : Calls Tryd.prog 55 #[.bool wide] w fun e w' => e = .returned (.int .u32 (onesW wide : Int)) ∧ w = w' := by
  cases wide
  all_goals
    go_enter Tryd.func55, Tryd.ntmps55
    go_wp2
    go_ret
    exact ⟨rfl, rfl⟩
set_option maxHeartbeats 400000 in
theorem size_any (wide : Bool) (w : World) : Calls Tryd.prog 19 #[.bool wide] w fun e w' => e = .returned (.int .i64 (sizeW wide : Int)) ∧ w = w' := by
  cases wide
  all_goals
    go_enter Tryd.func19, Tryd.ntmps19
    go_wp2
    go_ret
    exact ⟨rfl, rfl⟩
set_option maxHeartbeats 400000 in
theorem rsize_any (wide : Bool) (w : World) : Calls Tryd.prog 34 #[.bool wide] w fun e w' => e = .returned (.int .i64 (sizeW wide : Int)) ∧ w = w' := by
  cases wide
  all_goals
    go_enter Tryd.func34, Tryd.ntmps34
    go_wp2
    go_ret
    exact ⟨rfl, rfl⟩

theorem mask_val (wide : Bool) (r : Nat) (hr : r < 4294967296) : bits .and .u32 (r : Int) (onesW wide : Int) = ((r % topW wide : Nat) : Int) := by
  rw [u32_and_nat r (onesW wide) hr (Nat.lt_of_lt_of_le (ones_lt wide) (top_le wide))]
  cases wide
  · exact congrArg _ (Nat.and_two_pow_sub_one_eq_mod r 16)
  · exact congrArg _ (Nat.and_two_pow_sub_one_eq_mod r 32)
/-- A call of next, its argument as it stands. -/
abbrev Nx (wide : Bool) (w : World) (x : Int) (r : Nat) : Prop := Calls Tryd.prog 66 #[.bool wide, .int .u32 x] w fun e w' => e = .returned (.int .u32 (r : Int)) ∧ w = w'
theorem Nx.of {wide : Bool} {w : World} {x : Int} {r s : Nat} (hT : Tabs w) (hr : r < 4294967296) (hx : x = (r : Int)) (hs : shN (polyW wide) 4 r = s) : Nx wide w x s := by
  subst hx; subst hs
  exact next_any wide r hr w hT
theorem topL (wide : Bool) {r : Nat} (h : r < topW wide) : r < 4294967296 := Nat.lt_of_lt_of_le h (top_le wide)

set_option maxHeartbeats 400000 in
theorem more_any (wide : Bool) (r : Nat) (hr : r < 4294967296) (l : List Nat) (n : Nat) (A : Option Addr) (c : Nat) (w : World) (h : Rd w w.heap.size A l) (hb : By l) (hl : l.length = n) (hn : n ≤ 1099511627776) (hT : Tabs w) :
    Calls Tryd.prog 56 #[.bool wide, .int .u32 (r : Int), .slice A n c] w fun e w' => e = .returned (.int .u32 (reg (polyW wide) (r % topW wide) l : Int)) ∧ w = w' := by
  have HL := Lib.hid hl
  have HR := Lib.hid (show r % topW wide < topW wide from Nat.mod_lt _ (by have := top_ge wide; omega))
  have HM := Lib.hid (mask_val wide r hr)
  obtain ⟨m, hm⟩ : ∃ m, Hid (m = r % topW wide) := ⟨_, Lib.hid rfl⟩
  rw [← hm.out] at HM HR ⊢
  clear hl
  go_enter Tryd.func56, Tryd.ntmps56
  go_wp2_with (go_at_call 55; refine (start_any wide _).mono ?_; rintro e w' ⟨rfl, rfl⟩)
  rw [HM.out]
  go_loop [1, 15] (fun v i => ∃ k y : Nat, k ≤ n ∧ i = .int .i64 k ∧ v = .int .u32 y ∧ Hid (y < topW wide) ∧ Hid (y = reg (polyW wide) m (l.take k))) (fun _ i => n - (intOf i).toNat)
  case atStart => exact ⟨0, m, Nat.zero_le _, rfl, rfl, HR, Lib.hid rfl⟩
  case round =>
    obtain ⟨k, y, hk, rfl, rfl, hy, hyx⟩ := hrel
    by_cases hlt : k < n
    · obtain ⟨b, o, x, rfl, hbb, hx, hc⟩ := h.at_ (k := k) (by rw [HL.out]; exact hlt)
      have hx256 := hb.get hx
      have R := Lib.hid (reg_take (p := polyW wide) (r := m) hx)
      rw [← hyx.out] at R
      clear hx
      have hxt : x < topW wide := by have := top_ge wide; omega
      have hz := xorT_lt hy.out hxt
      have n1 : Nx wide w (bits .xor .u32 (y : Int) (x : Int)) (shN (polyW wide) 4 (y ^^^ x)) := Nx.of hT (topL wide hz) (xor_u32 y x (topL wide hy.out) (topL wide hxt)) rfl
      have n2 : Nx wide w ((shN (polyW wide) 4 (y ^^^ x) : Nat) : Int) (shN (polyW wide) 8 (y ^^^ x)) := Nx.of hT (topL wide (shT_lt wide 4 hz)) rfl (shN_add _ 4 4 _).symm
      have hz8 := Lib.hid (shT_lt wide 8 hz)
      obtain ⟨z4, hz4⟩ : ∃ z, Hid (z = shN (polyW wide) 4 (y ^^^ x)) := ⟨_, Lib.hid rfl⟩
      obtain ⟨z8, hz8'⟩ : ∃ z, Hid (z = shN (polyW wide) 8 (y ^^^ x)) := ⟨_, Lib.hid rfl⟩
      rw [← hz4.out] at n1 n2
      rw [← hz8'.out] at n2 hz8 R
      clear hz hxt
      have i1 : (0 : Int) ≤ k := by omega
      have i2 : (k : Int) < n := by omega
      go_wp2_with (go_at_call 66; first
        | (with_reducible refine n1.mono ?_; rintro e w' ⟨rfl, rfl⟩)
        | (with_reducible refine n2.mono ?_; rintro e w' ⟨rfl, rfl⟩))
      go_round
      case rel => exact ⟨k + 1, z8, by omega, by go_num, rfl, hz8, Lib.hid R.out.symm⟩
      case measure => simp [intOf]; omega
    · go_wp2
      go_ret
      have he : k = n := by omega
      subst he
      have := hyx.out
      rw [List.take_of_length_le (by rw [HL.out]; omega)] at this
      exact ⟨by rw [← this]; rfl, rfl⟩

end Go.Proofs.YtkakkligndejaaaDoor
