
/-
  What the law's own helpers answer: Of, To, of layer 23. No condition beyond: lists of at most 2^30 pieces.
-/
import Derived.Test.YtdeabomcmbgepaaDoorFrgO
namespace Go.Proofs.YtdeabomcmbgepaaDoor
open Go.RowKit

set_option maxHeartbeats 1000000 in
theorem frof_any (l : List Pc) (n c : Nat) (A : Option Addr) (F : Nat → Prop) (w : World) (h : Rws shF F w A l) (hF : ∀ b, w.heap.size ≤ b → F b) (hl : l.length = n) (hn : n ≤ 1073741824) :
    Calls Tryd.prog 19 #[.slice A n c] w fun e w' => ∃ v, e = .returned v ∧ Orw shF 29 F w.heap.size w' v l ∧ Below w.heap.size w w' := by
  obtain ⟨i0, hi, hz0, hz1, hz2⟩ := info_parts fr_info
  have HL := Lib.hid hl
  have HF := Lib.hid hF
  have HR := Lib.hid (h.mono (G := fun b => F b ∧ b < w.heap.size) fun b hb hf => ⟨hf, hb⟩)
  clear hl hF h
  go_enter Tryd.func19, Tryd.ntmps19
  go_wp2_with fail
  go_loopw [3, 8] (fun v i wr => ∃ k : Nat, k ≤ n ∧ i = .int .i64 k ∧ Orw shF 29 F w.heap.size wr v (l.take k) ∧ Below w.heap.size w wr) (fun _ i _ => n - (intOf i).toNat)
  case atStart => exact ⟨0, Nat.zero_le _, rfl, Orw.nil _ _ _ _ _, Below.refl _ _⟩
  case round =>
    obtain ⟨k, hk, rfl, hown, hbel⟩ := hrel
    by_cases hlt : k < n
    · obtain ⟨b, o, x, A3, c3, rfl, hb3, hx, h1, h2, h3, h4, h5, h6⟩ := (HR.out.below hbel).pc (k := k) (by rw [HL.out]; exact hlt)
      have HT := Lib.hid (show l.take (k + 1) = l.take k ++ [x] by rw [List.take_add_one, hx]; rfl)
      have HK := Lib.hid (show (l.take k).length = k by rw [List.length_take, HL.out]; omega)
      obtain ⟨wk, hwk⟩ : ∃ wk, wk = wr.alloc (.cells #[.bool x.b, .bool x.e, .int .i64 x.n, .slice A3 x.d.length c3] 24) := ⟨_, rfl⟩
      have hbe : Below wr.heap.size wr wk := by rw [hwk]; exact (Below.refl _ _).alloc (Nat.le_refl _) _
      have HS := Lib.hid (show wk.heap.size = wr.heap.size + 1 by rw [hwk, World.size_alloc])
      have HWK := Lib.hid hwk
      have H6 := Lib.hid (h6.keep (.of_below hbe))
      have OW := Lib.hid (hown.below hbe)
      have BE := Lib.hid (hbel.trans (hbe.mono hbel.size))
      have BE2 := Lib.hid (BE.out.alloc BE.out.size (.cells #[.bool x.b, .bool x.e, .int .i64 x.n, .slice A3 x.d.length c3] 29))
      clear hwk
      have i1 : (0 : Int) ≤ k := by omega
      have i2 : (k : Int) < n := by omega
      clear hx h6 hown hbel hbe
      go_wp2_with (at_builtin; rw [← HWK.out, ← HS.out]; refine list_rows shF rfl _ _ _ rfl 29 i0 (.agg #[.bool false, .bool false, .int .i64 0, .slice none 0 0]) 40 Tryd.underlying41 hi hz0 hz1 hz2 rfl (by decide) F _ w.heap.size _ k (l.take k) rfl (OW.out.below ((Below.refl _ _).alloc (Nat.le_refl _) _)) HK.out _ 1 1 _ rfl (litf _ rfl h5 H6.out).read rfl (fun b _ hb => hb.elim (fun h => ⟨h.1, fun e => absurd (OW.out.lt e).1 (Nat.not_le.2 h.2)⟩) (fun h => ⟨HF.out b (Nat.le_trans BE.out.size h), fun e => Nat.lt_irrefl _ (Nat.lt_of_lt_of_le (OW.out.lt e).2 h)⟩)) (by unfold maxLen; omega) (by omega) BE2.out.size ?_; intro v7 w7 ho7 hg7 hm7; have R2 := BE2.out.grown hg7 BE2.out.size (fun g hg => (OW.out.lt hg).1); clear hg7 hm7)
      have R1 : Orw shF 29 F w.heap.size w7 v7 (l.take (k + 1)) := by rw [HT.out]; exact ho7
      clear ho7
      go_roundw
      case rel => exact ⟨k + 1, by omega, by go_num, R1, R2⟩
      case measure => simp [intOf]; omega
    · have he : k = n := by omega
      subst he
      rw [List.take_of_length_le (by rw [HL.out]; exact Nat.le_refl _)] at hown
      go_wp2_with fail
      go_ret
      exact ⟨_, rfl, hown, hbel⟩

set_option maxHeartbeats 1000000 in
theorem frto_any (l : List Pc) (n c : Nat) (A : Option Addr) (F : Nat → Prop) (w : World) (h : Rws shF F w A l) (hF : ∀ b, w.heap.size ≤ b → F b) (hl : l.length = n) (hn : n ≤ 1073741824) :
    Calls Tryd.prog 21 #[.slice A n c] w fun e w' => ∃ v, e = .returned v ∧ Orw shF 24 F w.heap.size w' v l ∧ Below w.heap.size w w' := by
  obtain ⟨i0, hi, hz0, hz1, hz2⟩ := info_parts rfr_info
  have HL := Lib.hid hl
  have HF := Lib.hid hF
  have HR := Lib.hid (h.mono (G := fun b => F b ∧ b < w.heap.size) fun b hb hf => ⟨hf, hb⟩)
  clear hl hF h
  go_enter Tryd.func21, Tryd.ntmps21
  go_wp2_with fail
  go_loopw [3, 8] (fun v i wr => ∃ k : Nat, k ≤ n ∧ i = .int .i64 k ∧ Orw shF 24 F w.heap.size wr v (l.take k) ∧ Below w.heap.size w wr) (fun _ i _ => n - (intOf i).toNat)
  case atStart => exact ⟨0, Nat.zero_le _, rfl, Orw.nil _ _ _ _ _, Below.refl _ _⟩
  case round =>
    obtain ⟨k, hk, rfl, hown, hbel⟩ := hrel
    by_cases hlt : k < n
    · obtain ⟨b, o, x, A3, c3, rfl, hb3, hx, h1, h2, h3, h4, h5, h6⟩ := (HR.out.below hbel).pc (k := k) (by rw [HL.out]; exact hlt)
      have HT := Lib.hid (show l.take (k + 1) = l.take k ++ [x] by rw [List.take_add_one, hx]; rfl)
      have HK := Lib.hid (show (l.take k).length = k by rw [List.length_take, HL.out]; omega)
      obtain ⟨wk, hwk⟩ : ∃ wk, wk = wr.alloc (.cells #[.bool x.b, .bool x.e, .int .i64 x.n, .slice A3 x.d.length c3] 29) := ⟨_, rfl⟩
      have hbe : Below wr.heap.size wr wk := by rw [hwk]; exact (Below.refl _ _).alloc (Nat.le_refl _) _
      have HS := Lib.hid (show wk.heap.size = wr.heap.size + 1 by rw [hwk, World.size_alloc])
      have HWK := Lib.hid hwk
      have H6 := Lib.hid (h6.keep (.of_below hbe))
      have OW := Lib.hid (hown.below hbe)
      have BE := Lib.hid (hbel.trans (hbe.mono hbel.size))
      have BE2 := Lib.hid (BE.out.alloc BE.out.size (.cells #[.bool x.b, .bool x.e, .int .i64 x.n, .slice A3 x.d.length c3] 24))
      clear hwk
      have i1 : (0 : Int) ≤ k := by omega
      have i2 : (k : Int) < n := by omega
      clear hx h6 hown hbel hbe
      go_wp2_with (at_builtin; rw [← HWK.out, ← HS.out]; refine list_rows shF rfl _ _ _ rfl 24 i0 (.agg #[.bool false, .bool false, .int .i64 0, .slice none 0 0]) 40 Tryd.underlying38 hi hz0 hz1 hz2 rfl (by decide) F _ w.heap.size _ k (l.take k) rfl (OW.out.below ((Below.refl _ _).alloc (Nat.le_refl _) _)) HK.out _ 1 1 _ rfl (litf _ rfl h5 H6.out).read rfl (fun b _ hb => hb.elim (fun h => ⟨h.1, fun e => absurd (OW.out.lt e).1 (Nat.not_le.2 h.2)⟩) (fun h => ⟨HF.out b (Nat.le_trans BE.out.size h), fun e => Nat.lt_irrefl _ (Nat.lt_of_lt_of_le (OW.out.lt e).2 h)⟩)) (by unfold maxLen; omega) (by omega) BE2.out.size ?_; intro v7 w7 ho7 hg7 hm7; have R2 := BE2.out.grown hg7 BE2.out.size (fun g hg => (OW.out.lt hg).1); clear hg7 hm7)
      have R1 : Orw shF 24 F w.heap.size w7 v7 (l.take (k + 1)) := by rw [HT.out]; exact ho7
      clear ho7
      go_roundw
      case rel => exact ⟨k + 1, by omega, by go_num, R1, R2⟩
      case measure => simp [intOf]; omega
    · have he : k = n := by omega
      subst he
      rw [List.take_of_length_le (by rw [HL.out]; exact Nat.le_refl _)] at hown
      go_wp2_with fail
      go_ret
      exact ⟨_, rfl, hown, hbel⟩
end Go.Proofs.YtdeabomcmbgepaaDoor
