
/-
  What Value and Num answer, and the document's Value. No condition beyond: data of at most 2^38 octets, sizes from 0 to 8.
-/
import Derived.Test.YtdnnincdbenjfaaOpsM
import Derived.Test.YtdnnincdbenjfaaTlvS
import Derived.Laws.Bits64b
import Derived.Laws.ShiftsVarLaws
namespace Go.Proofs.Ytdnnincdbenjfaa
open Go.RowKit

theorem u64_shl (v : Nat) : IntKind.u64.wrap ((v : Int) * 256) = ((v * 256 % 18446744073709551616 : Nat) : Int) := by rw [IntKind.wrap_u64]; omega
theorem u64_step (v x : Nat) (hx : x < 256) : bits .or .u64 (IntKind.u64.wrap ((v : Int) * 256)) (x : Int) = (((v * 256 + x) % 18446744073709551616 : Nat) : Int) := by
  rw [u64_shl, bits_or_u64_nat _ _ (Nat.mod_lt _ (by omega)) (by omega)]
  have h1 : v * 256 % 18446744073709551616 = 2 ^ 8 * (v % 72057594037927936) := by omega
  rw [h1, ← Nat.two_pow_add_eq_or_of_lt (show x < 2 ^ 8 by omega)]
  congr 1
  omega
theorem u64_add (v x : Nat) : IntKind.u64.wrap (IntKind.u64.wrap ((v : Int) * 256) + (x : Int)) = (((v * 256 + x) % 18446744073709551616 : Nat) : Int) := by rw [IntKind.wrap_u64, IntKind.wrap_u64]; omega

set_option maxHeartbeats 2000000 in
theorem value_any (t : Int) (l : List Nat) (n c : Nat) (A : Option Addr) (w : World) (h : Rd w w.heap.size A l) (hb : By l) (hl : l.length = n) (hn : n ≤ 274877906944) (q : Nat) (hq : valB l = q) :
    Calls Try.prog 38 #[.agg #[.int .u8 t, .slice A n c]] w fun e w' => e = .returned (.int .u64 (q : Int)) ∧ Below w.heap.size w w' := by
  obtain ⟨w1, hw1⟩ : ∃ w1, w1 = w.alloc (.cells #[.int .u8 t, .slice A n c] 57) := ⟨_, rfl⟩
  have hb1 : Below w.heap.size w w1 := by rw [hw1]; exact (Below.refl _ _).alloc (Nat.le_refl _) _
  have HR := Lib.hid (h.on hb1)
  have B1 := Lib.hid hb1
  have HW := Lib.hid hw1
  have HL := Lib.hid hl
  have HQ := Lib.hid hq
  clear h hb1 hw1 hl hq
  go_enter Try.func38, Try.ntmps38
  go_wp2_with fail
  rw [← HW.out]
  go_loop [3, 9] (fun v i => ∃ k : Nat, k ≤ n ∧ i = .int .i64 k ∧ v = .int .u64 (valB (l.take k) : Nat)) (fun _ i => n - (intOf i).toNat)
  case atStart => exact ⟨0, Nat.zero_le _, rfl, rfl⟩
  case round =>
    obtain ⟨k, hk, rfl, rfl⟩ := hrel
    by_cases hlt : k < n
    · obtain ⟨b, o, x, rfl, hbb, hx, hc⟩ := HR.out.at_ (k := k) (by rw [HL.out]; exact hlt)
      have hx256 := hb.get hx
      have i1 : (0 : Int) ≤ k := by omega
      have i2 : (k : Int) < n := by omega
      have HS := Lib.hid (valB_snoc hx)
      obtain ⟨v, hv⟩ : ∃ v, Hid (valB (l.take k) = v) := ⟨_, Lib.hid rfl⟩
      rw [hv.out]
      clear hx
      go_wp2_with fail
      go_round
      case rel => exact ⟨k + 1, by omega, by go_num, by rw [HS.out, hv.out, u64_step v x hx256]⟩
      case measure => simp [intOf]; omega
    · have he : k = n := by omega
      subst he
      have E := HQ.out
      rw [List.take_of_length_le (by rw [HL.out]; exact Nat.le_refl _), E]
      go_wp2_with fail
      go_ret
      exact ⟨rfl, B1.out⟩

set_option maxHeartbeats 2000000 in
theorem rvalue_any (t : Int) (l : List Nat) (n c : Nat) (A : Option Addr) (w : World) (h : Rd w w.heap.size A l) (hb : By l) (hl : l.length = n) (hn : n ≤ 274877906944) (q : Nat) (hq : valB l = q) :
    Calls Try.prog 40 #[.agg #[.int .u8 t, .slice A n c]] w fun e w' => e = .returned (.int .u64 (q : Int)) ∧ Below w.heap.size w w' := by
  obtain ⟨w1, hw1⟩ : ∃ w1, w1 = w.alloc (.cells #[.int .u8 t, .slice A n c] 77) := ⟨_, rfl⟩
  have hb1 : Below w.heap.size w w1 := by rw [hw1]; exact (Below.refl _ _).alloc (Nat.le_refl _) _
  have hv1 : w1.heap[w.heap.size]? = some (.cells #[.int .u8 t, .slice A n c] 77 (0, 0)) := by rw [hw1]; exact heap_alloc_new _ _
  have c1 : w1.cell? ⟨w.heap.size, 1, none⟩ = some (.slice A n c) := by rw [cell_of_row w1 _ 1 _ _ _ hv1]; rfl
  have HR := Lib.hid (h.on hb1)
  have B1 := Lib.hid hb1
  have HW := Lib.hid hw1
  have HL := Lib.hid hl
  have HQ := Lib.hid hq
  clear h hb1 hw1 hl hq hv1
  go_enter Try.func40, Try.ntmps40
  go_wp2_with fail
  rw [← HW.out]
  go_loop [3, 4] (fun v i => ∃ k : Nat, k ≤ n ∧ i = .int .i64 k ∧ v = .int .u64 (valB (l.take k) : Nat)) (fun _ i => n - (intOf i).toNat)
  case atStart => exact ⟨0, Nat.zero_le _, rfl, rfl⟩
  case round =>
    obtain ⟨k, hk, rfl, rfl⟩ := hrel
    by_cases hlt : k < n
    · obtain ⟨b, o, x, rfl, hbb, hx, hc⟩ := HR.out.at_ (k := k) (by rw [HL.out]; exact hlt)
      have hx256 := hb.get hx
      have i1 : (0 : Int) ≤ k := by omega
      have i2 : (k : Int) < n := by omega
      have HS := Lib.hid (valB_snoc hx)
      obtain ⟨v, hv⟩ : ∃ v, Hid (valB (l.take k) = v) := ⟨_, Lib.hid rfl⟩
      rw [hv.out]
      clear hx
      go_wp2_with fail
      go_round
      case rel => exact ⟨k + 1, by omega, by go_num, by rw [HS.out, hv.out, u64_add v x]⟩
      case measure => simp [intOf]; omega
    · have he : k = n := by omega
      subst he
      have E := HQ.out
      rw [List.take_of_length_le (by rw [HL.out]; exact Nat.le_refl _), E]
      go_wp2_with fail
      go_ret
      exact ⟨rfl, B1.out⟩

theorem zeros_own {w : World} {A : Option Addr} {base n c : Nat} (h : w.ownsRow base 5 1 (.slice A n c) n (madeCells (Value.cells (.int .u8 0)) (n * 1)).toList) : w.ownsRow base 5 1 (.slice A n c) n (bvs (List.replicate n 0)) := by
  rw [← part_zero] at h
  have e : part [] n 0 = List.replicate n 0 := by unfold part; rw [Nat.sub_zero]; rfl
  rw [e] at h
  exact h
theorem make_own (n : Nat) (hn : n ≤ 1099511627776) (w : World) : ∃ w', (Instr.makeSlice 25 (.int .i64 (n : Int)) (.int .i64 (n : Int))).run Try.prog w = .ok (.slice (some ⟨w.heap.size, 0, none⟩) n n) w' ∧ w'.ownsRow w.heap.size 5 1 (.slice (some ⟨w.heap.size, 0, none⟩) n n) n (bvs (List.replicate n 0)) ∧ Below w.heap.size w w' := by
  obtain ⟨i0, hi, hz0, hz1, hz2⟩ := info_parts byte_info
  obtain ⟨w', h1, h2, h3⟩ := run_make_full (P := Try.prog) (w := w) w.heap.size 25 5 i0 (.int .u8 0) 1 Try.underlying25 hi hz0 hz1 .i64 .i64 n (by rw [hz2]; omega) (by unfold maxLen; omega) (Nat.le_refl _)
  exact ⟨w', h1, zeros_own h2, (Below.refl _ _).grown h3 (Nat.le_refl _) (fun k hk => by cases hk)⟩
theorem bvs_setV (l : List Nat) (k x : Nat) : (bvs l).set k (.int .u8 (x : Int)) = bvs (l.set k x) := by simp [bvs, bv, List.map_set]
theorem num_oct (v k : Nat) : ((v / 256 ^ k % 256 : Nat) : Int) = (v : Int) / 2 ^ (8 * k) % 256 := by
  rw [show (256 : Nat) ^ k = 2 ^ (8 * k) by rw [Nat.pow_mul]]
  rw [Int.natCast_emod, Int.natCast_ediv, Int.natCast_pow]
  rfl

set_option maxHeartbeats 2000000 in
theorem num_any (t v n : Nat) (hn : n ≤ 8) (w : World) :
    Calls Try.prog 21 #[.int .u8 (t : Int), .int .u64 (v : Int), .int .i64 (n : Int)] w fun e w' => ∃ A c, e = .returned (.agg #[.int .u8 (t : Int), .slice A n c]) ∧ w'.ownsRow w.heap.size 5 1 (.slice A n c) n (bvs (numB v n)) ∧ Below w.heap.size w w' := by
  have i0 : (0 : Int) ≤ n := by omega
  have i8 : (n : Int) ≤ 8 := by omega
  obtain ⟨w1, hw1⟩ : ∃ w1, w1 = w.alloc (.cells #[.int .u8 0, .slice none 0 0] 57) := ⟨_, rfl⟩
  have hb0 : Below w.heap.size w w1 := by rw [hw1]; exact (Below.refl _ _).alloc (Nat.le_refl _) _
  have hs1 : w1.heap.size = w.heap.size + 1 := by rw [hw1, World.size_alloc]
  have hv1 : w1.heap[w.heap.size]? = some (.cells #[.int .u8 0, .slice none 0 0] 57 (0, 0)) := by rw [hw1]; exact heap_alloc_new _ _
  obtain ⟨w2, hm, hown2, hb2⟩ := make_own n (by omega) w1
  obtain ⟨g, hg⟩ : ∃ g, w1.heap.size = g := ⟨_, rfl⟩
  rw [hg] at hm hown2 hb2
  rw [hw1] at hm
  have HV := Lib.hid ((hb2.block w.heap.size (by omega)).trans hv1)
  have B2 := Lib.hid (hb0.trans (hb2.mono (by omega)))
  have HG := Lib.hid (show g = w.heap.size + 1 by omega)
  have HN := Lib.hid hn
  clear hb0 hs1 hv1 hb2 hg hw1
  go_enter Try.func21, Try.ntmps21
  go_wp2_with fail
  go_loopw [15] (fun i wr => ∃ k : Nat, k ≤ n ∧ i = .int .i64 k ∧ wr.ownsRow g 5 1 (.slice (some ⟨g, 0, none⟩) n n) n (bvs (filB v n k)) ∧ Offs (fun j => j = g) w2 wr) (fun i _ => n - (intOf i).toNat)
  case atStart => exact ⟨0, Nat.zero_le _, rfl, by rw [fil_zero]; exact hown2, Offs.refl _ _⟩
  case round =>
    obtain ⟨k, hk, rfl, hown, hoff⟩ := hrel
    by_cases hlt : k < n
    · have j1 : (0 : Int) ≤ k := by omega
      have j2 : (k : Int) < n := by omega
      have hc0 := hown.cellAt (n - 1 - k) (by omega)
      have hf0 := hown.frozenAt (n - 1 - k)
      obtain ⟨y, hy⟩ : ∃ y, (filB v n k)[n - 1 - k]? = some y := ⟨_, List.getElem?_eq_getElem (by rw [fil_len v n k hk]; omega)⟩
      rw [bvs_get _ _ _ hy] at hc0
      have hst := hown.stored (n - 1 - k) (.int .u8 ((v / 256 ^ k % 256 : Nat) : Int))
      rw [bvs_setV, fil_set v n k hlt, num_oct] at hst
      have HS := Lib.hid hst.1
      have HO := Lib.hid hoff
      clear hst hy hown hoff hown2
      go_wp2_with fail
      go_roundw
      case rel => exact ⟨k + 1, by omega, by go_num, HS.out, HO.out.trans (Offs.set (X := fun j => j = g) wr g (n - 1 - k) _ rfl) (fun _ h => h) (fun _ _ h => h)⟩
      case measure => simp [intOf]; omega
    · have he : k = n := by omega
      subst he
      rw [fil_all] at hown
      have hv2 := (hoff.block w.heap.size (by have := B2.out.size; have := (Array.getElem?_eq_some_iff.1 HV.out).1; omega) (by rw [HG.out]; omega)).trans HV.out
      have HV2 := Lib.hid hv2
      have q1 : wr.cell? ⟨w.heap.size, 0, none⟩ = some (.int .u8 0) := by rw [cell_of_row wr _ 0 _ _ _ hv2]; rfl
      have q2 : wr.cell? ⟨w.heap.size, 1, none⟩ = some (.slice none 0 0) := by rw [cell_of_row wr _ 1 _ _ _ hv2]; rfl
      have q3 := frozen_of_row wr _ 0 _ _ hv2
      have q4 := frozen_of_row wr _ 1 _ _ hv2
      have B3 := Lib.hid (B2.out.trans (hoff.below (X := fun j => j = g) (B := w.heap.size) (fun j hj e => by rw [HG.out] at e; omega) B2.out.size))
      have HO := Lib.hid hown
      clear hv2 hown hoff hown2
      go_wp2_with fail
      refine bodyPost_ret (v := .agg #[.int .u8 (t : Int), .slice (some ⟨g, 0, none⟩) k k]) ?_ rfl ⟨_, _, rfl, ?_, ?_⟩
      · exact results_cell_row rfl _ _ w.heap.size 57 #[.int .u8 (t : Int), .slice (some ⟨g, 0, none⟩) k k] _ _ rfl (heap_setCell_same _ _ 1 _ _ _ (heap_setCell_same _ _ 0 _ _ _ HV2.out)) Try.underlying57 rfl (by kernel_rfl)
      · have ho := Offs.trans (Offs.set (X := fun i => i = w.heap.size) wr w.heap.size 0 (.int .u8 (t : Int)) rfl) (Offs.set (X := fun i => i = w.heap.size) _ w.heap.size 1 (.slice (some ⟨g, 0, none⟩) k k) rfl) (Z := fun i => i = w.heap.size) (fun _ h => h) (fun _ _ h => h)
        exact own_lo (own_off HO.out ho (fun i hi e => by have := (HO.out.lt i hi).1; have := HG.out; omega)) (by have := HG.out; omega)
      · exact (B3.out.setCell (p := ⟨w.heap.size, 0, none⟩) (Nat.le_refl _) _).setCell (p := ⟨w.heap.size, 1, none⟩) (Nat.le_refl _) _
end Go.Proofs.Ytdnnincdbenjfaa
