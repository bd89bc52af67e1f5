
/-
  The walk of the statement ZeroJoin: it answers true for every two lists of bytes, and writes nothing that was there. No condition.
-/
import Derived.Test.YtolnlccbpenfbaaZerS
import Derived.Test.YtolnlccbpenfbaaAppn
namespace Go.Proofs.Ytolnlccbpenfbaa
open Go.RowKit

/-- A list that lay reads the same later. -/
theorem Rd.on2 {w w' : World} {A : Option Addr} {l : List Nat} (h : Rd w w.heap.size A l) (hb : Below w.heap.size w w') : Rd w' w'.heap.size A l := (h.below hb).more hb.size

set_option maxHeartbeats 1000000 in
theorem zjoin_long (A A2 : Option Addr) (n c n2 c2 : Nat) (w : World) (h : 300 < n) :
    Calls Try.prog 6 #[.slice A n c, .slice A2 n2 c2] w fun e w' => e = .returned (.bool true) ∧ Below w.heap.size w w' := by
  have h4 : (300 : Int) < (n : Int) := by omega
  go_enter Try.func6, Try.ntmps6
  go_wp2_with fail
  refine (speaks6_any _).mono ?_
  rintro e w1 ⟨rfl, hB1⟩
  go_wp2_with fail
  refine (speaks6_any _).mono ?_
  rintro e w2 ⟨rfl, hb2⟩
  go_wp2_with fail
  go_ret
  exact ⟨rfl, hB1.trans (hb2.mono hB1.size)⟩

set_option maxHeartbeats 1000000 in
theorem zjoin_long2 (A A2 : Option Addr) (n c n2 c2 : Nat) (w : World) (h1 : n ≤ 300) (h : 300 < n2) :
    Calls Try.prog 6 #[.slice A n c, .slice A2 n2 c2] w fun e w' => e = .returned (.bool true) ∧ Below w.heap.size w w' := by
  have h4 : (300 : Int) < (n2 : Int) := by omega
  have h5 : ¬ (300 : Int) < (n : Int) := by omega
  go_enter Try.func6, Try.ntmps6
  go_wp2_with fail
  refine (speaks6_any _).mono ?_
  rintro e w1 ⟨rfl, hB1⟩
  go_wp2_with fail
  refine (speaks6_any _).mono ?_
  rintro e w2 ⟨rfl, hb2⟩
  go_wp2_with fail
  go_ret
  exact ⟨rfl, hB1.trans (hb2.mono hB1.size)⟩

set_option maxHeartbeats 4000000 in
theorem zjoin_walk (l l2 : List Nat) (A A2 : Option Addr) (n c n2 c2 : Nat) (w : World) (hl : l.length = n) (hb : By l) (h : Rd w w.heap.size A l) (hl2 : l2.length = n2) (hb2 : By l2) (h2 : Rd w w.heap.size A2 l2) (h4 : n ≤ 300) (h5 : n2 ≤ 300) :
    Calls Try.prog 6 #[.slice A n c, .slice A2 n2 c2] w fun e w' => e = .returned (.bool true) ∧ Below w.heap.size w w' := by
  obtain ⟨i0, hi, hz0, hz1, hz2⟩ := info_parts byte_info
  have hb0 : By [0] := by intro y hy; simp at hy; omega
  have HFB := hb.app hb0
  have HBB := HFB.app hb2
  have HLF := Lib.hid (show (l ++ [0]).length = n + 1 by simp [hl])
  have HLL := Lib.hid (show ((l ++ [0]) ++ l2).length = n + 1 + n2 by rw [List.length_append, HLF.out, hl2])
  have HE := Lib.hid (ins_join l l2)
  have hs1 : (insB (l ++ [0])).length ≤ 2 * n + 2 := by have := ins_len (l ++ [0]); rw [HLF.out] at this; omega
  have hs2 : (insB l2).length ≤ 2 * n2 := by have := ins_len l2; omega
  have HL := Lib.hid hl
  have HL2 := Lib.hid hl2
  have HR := Lib.hid h
  have HR2 := Lib.hid h2
  clear hl hl2 h h2
  go_enter Try.func6, Try.ntmps6
  go_wp2_with fail
  refine (speaks6_any _).mono ?_
  rintro e w1 ⟨rfl, hB1⟩
  have hsz1 := hB1.size
  have hown0 : (w1.alloc (.cells #[] 5)).ownsRow w.heap.size 5 1 (.slice (some ⟨w1.heap.size, 0, none⟩) 0 0) 0 (bvs []) := World.ownsRow_lit w1 #[] 0 hsz1 (by unfold maxLen; omega) rfl
  have hB0 := hB1.alloc hsz1 (.cells #[] 5)
  go_wp2_with (first
    | (at_builtin; have _g := hown0; clear _g; refine list_app rfl _ _ _ rfl _ i0 Try.underlying22 hi hz0 hz1 hz2 w.heap.size _ _ [] rfl hown0 _ _ _ _ l rfl ((HR.out.below hB0).more hB0.size) HL.out (by omega) hB0.size ?_; intro A4 c4 w4 ho4 hg4; rw [List.nil_append, Nat.zero_add] at ho4; rw [Nat.zero_add]; have hB4 := app_below hB0 (Nat.le_refl _) hown0 hg4; have hsz4 := hB4.size; clear hg4 hown0)
    | (at_builtin; have _g := ho4; clear _g; refine wpList_append_own _ rfl _ _ 22 rfl w.heap.size 5 i0 (.int .u8 0) 1 1 Try.underlying22 hi hz0 hz1 hz2 rfl (by decide) _ n _ rfl (ho4.alloc _) ⟨w4.heap.size, 0, none⟩ 1 1 [.int .u8 (0 : Nat)] rfl rfl (cell_one_new _ _ _) (fun x hx => by simp at hx; subst hx; rfl) (by unfold maxLen; omega) (by omega) (by simp; omega) ?_; intro v5 w5 hown5 hgrow5 hnil5; have ho5 := push_row hown5 (m := n + 1) rfl; have hB5 := push_below hB4 ho4 hgrow5; have hsz5 := hB5.size; obtain ⟨A5, c5, rfl, hc5, _⟩ := own_form ho5; have hr5 := Rd.own ho5; have hownX : (w5.alloc (.cells #[] 5)).ownsRow w5.heap.size 5 1 (.slice (some ⟨w5.heap.size, 0, none⟩) 0 0) 0 (bvs []) := World.ownsRow_lit w5 #[] 0 (Nat.le_refl _) (by unfold maxLen; omega) rfl; have hb5a : Below w5.heap.size w5 (w5.alloc (.cells #[] 5)) := (Below.refl _ _).alloc (Nat.le_refl _) _; have hr5a := (hr5.below hb5a).more hb5a.size; clear hgrow5 hnil5 hown5 ho4 ho5)
    | (at_builtin; have _g := hownX; clear _g; refine list_app rfl _ _ _ rfl _ i0 Try.underlying22 hi hz0 hz1 hz2 w5.heap.size _ _ [] rfl hownX _ _ _ _ (l ++ [0]) rfl hr5a HLF.out (by omega) hb5a.size ?_; intro A6 c6 w6 ho6 hg6; rw [List.nil_append, Nat.zero_add] at ho6; rw [Nat.zero_add]; have hb56 := app_below hb5a (Nat.le_refl _) hownX hg6; have hB6 := hB5.trans (hb56.mono hB5.size); clear hg6 hownX hr5a)
    | (at_builtin; have _g := ho6; clear _g; refine list_app rfl _ _ _ rfl _ i0 Try.underlying22 hi hz0 hz1 hz2 w5.heap.size _ (n + 1) (l ++ [0]) rfl ho6 _ _ _ _ l2 rfl ((HR2.out.below hB6).more hB6.size) HL2.out (by omega) hb56.size ?_; intro A7 c7 w7 ho7 hg7; have hb57 := app_below hb56 (Nat.le_refl _) ho6 hg7; clear hg7 ho6))
  have hr7 := Rd.own ho7
  have HR5 := Lib.hid (hr5.on2 hb57)
  have hB7 := hB5.trans (hb57.mono hB5.size)
  clear ho7 hB0 hB1 hsz1 hr5 hb56 hb57 hB6 hB5 hB4 hsz4 hsz5 hb5a
  refine (insert_any ((l ++ [0]) ++ l2) (n + 1 + n2) _ _ w7 hr7 HBB HLL.out (by omega)).mono ?_
  rintro e w8 ⟨A8, c8, k8, rfl, hl8, -, hr8, hb8⟩
  have hB8 := hB7.trans (hb8.mono hB7.size)
  have HR8 := Lib.hid hr8
  have HL8 := Lib.hid hl8
  have HR58 := Lib.hid (HR5.out.on2 hb8)
  have hsz8 := hB8.size
  clear hl8 hb8 hr8 hr7 hB7
  go_wp2_with fail
  refine (insert_any (l ++ [0]) (n + 1) _ _ w8 HR58.out HFB HLF.out (by omega)).mono ?_
  rintro e w9 ⟨A9, c9, k9, rfl, hl9, ho9, -, hb9⟩
  have hk9 : k9 ≤ 2 * n + 2 := by rw [← hl9]; exact hs1
  have HL9 := Lib.hid hl9
  have hB9 := hB8.trans (hb9.mono hB8.size)
  clear hl9
  go_wp2_with fail
  refine (insert_any l2 n2 _ _ w9 (HR2.out.on2 hB9) hb2 HL2.out (by omega)).mono ?_
  rintro e w10 ⟨A10, c10, k10, rfl, hl10, -, hr10, hb10⟩
  have ho10 := own_below ho9 hb10
  have hb810 := hb9.trans (hb10.mono hb9.size)
  have hk10 : k10 ≤ 2 * n2 := by rw [← hl10]; exact hs2
  have HL10 := Lib.hid hl10
  clear hl10 hb10 ho9 hb9 hB9
  go_wp2_with (at_builtin; refine list_app rfl _ _ _ rfl _ i0 Try.underlying22 hi hz0 hz1 hz2 w8.heap.size _ k9 (insB (l ++ [0])) rfl ho10 _ _ _ _ (insB l2) rfl hr10 HL10.out (by omega) hb810.size ?_; intro A11 c11 w11 ho11 hg11; have hb811 := app_below hb810 (Nat.le_refl _) ho10 hg11; clear hg11 ho10 hb810)
  have hr11 := Rd.own ho11
  rw [← HE.out] at hr11
  have HL11 := Lib.hid (show (insB ((l ++ [0]) ++ l2)).length = k9 + k10 by rw [HE.out, List.length_append, HL9.out, HL10.out])
  have hB11 := hB8.trans (hb811.mono hsz8)
  clear ho11 hr10
  refine (equal_yes _ _ k8 (k9 + k10) _ _ _ _ w11 (HR8.out.on2 hb811) hr11 HL8.out HL11.out (by rw [← HL8.out, HL11.out]; omega) rfl).mono ?_
  rintro e w12 ⟨rfl, hb12⟩
  have hB12 := hB11.trans (hb12.mono hB11.size)
  go_wp2_with fail
  go_ret
  exact ⟨rfl, hB12⟩

end Go.Proofs.Ytolnlccbpenfbaa
