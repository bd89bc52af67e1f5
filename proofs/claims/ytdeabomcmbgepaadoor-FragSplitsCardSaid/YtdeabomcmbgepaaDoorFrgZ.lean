
/-
  What the document's Split of layer 23 answers. Condition: at most 2000 octets.
-/
import Derived.Test.YtdeabomcmbgepaaDoorFrgQ
import Derived.Test.YtdeabomcmbgepaaDoorFrgX
import Derived.Test.YtdeabomcmbgepaaDoorFrgLW
namespace Go.Proofs.YtdeabomcmbgepaaDoor
set_option maxRecDepth 4000
open Go.RowKit

def frrow2 (s : Bool) (f m : Nat) (l : List Nat) (i : Nat) : List Pc := (List.range i).map fun k => ⟨decide (k = 0), false, (frnum s f k : Int), frchk m l k⟩
theorem frrow2_len (s : Bool) (f m : Nat) (l : List Nat) (i : Nat) : (frrow2 s f m l i).length = i := by simp [frrow2]
theorem frrow2_succ (s : Bool) (f m : Nat) (l : List Nat) (i : Nat) : frrow2 s f m l (i + 1) = frrow2 s f m l i ++ [⟨decide (i = 0), false, (frnum s f i : Int), frchk m l i⟩] := by
  unfold frrow2
  rw [List.range_succ, List.map_append]
  rfl
theorem frrow2_last (s : Bool) (f m : Nat) (l : List Nat) (k : Nat) (hk : frcnt m l.length = k + 1) : (frrow2 s f m l (k + 1))[k]? = some ⟨decide (k = 0), false, (frnum s f k : Int), frchk m l k⟩ ∧ (frrow2 s f m l (k + 1)).set k ⟨decide (k = 0), true, (frnum s f k : Int), frchk m l k⟩ = frpcs s f m l := by
  have e : (frrow2 s f m l k).length = k := frrow2_len s f m l k
  rw [frrow2_succ]
  refine ⟨by rw [List.getElem?_append_right (by omega), e, Nat.sub_self]; rfl, ?_⟩
  rw [List.set_append_right _ _ (by omega), e, Nat.sub_self, List.set_cons_zero]
  unfold frpcs frrow2
  rw [hk, List.range_succ, List.map_append]
  congr 1
  · refine List.map_congr_left fun i hi => ?_
    have hi := List.mem_range.1 hi
    unfold frpc
    rw [hk, decide_eq_false (show ¬ i + 1 = k + 1 by omega)]
  · simp [frpc, hk]
theorem frz_more {m n i k : Nat} (hk : frcnt m n = k) (hm : 0 < m) (h : i = 0 ∨ i * m < n) : i < k := by
  subst hk
  unfold frcnt
  rcases h with rfl | h
  · exact Nat.succ_pos _
  · have : i ≤ (max n 1 - 1) / m := (Nat.le_div_iff_mul_le hm).2 (by omega)
    omega
theorem frz_end {m n i k : Nat} (hk : frcnt m n = k) (hm : 0 < m) (hi : i ≤ k) (h0 : i ≠ 0) (h : ¬ i * m < n) : i = k := by
  subst hk
  rcases Nat.lt_or_ge i (frcnt m n) with h1 | h1
  · have h2 := frcnt_lo h1
    by_cases hn : n = 0
    · subst hn
      have : i * m = 0 := by omega
      rcases Nat.mul_eq_zero.1 this with h3 | h3 <;> omega
    · omega
  · omega
theorem frz_num (s : Bool) (f i M : Nat) (hM : frmod s = M) : (frnum s f i + 1) % M = frnum s f (i + 1) := by
  subst hM
  unfold frnum
  rw [Nat.mod_add_mod, Nat.add_assoc]
theorem frz_lt (s : Bool) (f i M : Nat) (hM : frmod s = M) : frnum s f i < M := by subst hM; exact Nat.mod_lt _ (frmod_pos s)
theorem frz_half (s : Bool) : ∃ H, frmod s / 2 = H ∧ (frmod s : Int).tdiv 2 = (H : Int) ∧ 2048 ≤ H ∧ wrap64 (H : Int) = (H : Int) := by
  refine ⟨_, rfl, (Int.ofNat_tdiv _ _).symm, by cases s <;> simp [frmod], IntWalk.wrap64_in _ ?_⟩
  cases s <;> simp [frmod]
theorem frz_rest {l : List Nat} {m i : Nat} : (l.drop (i * m)).take m = frchk m l i ∧ (l.drop (i * m)).drop m = l.drop ((i + 1) * m) ∧ ((l.drop (i * m)).length ≤ m → l.drop (i * m) = frchk m l i ∧ l.drop ((i + 1) * m) = []) := by
  refine ⟨rfl, by rw [List.drop_drop, Nat.add_mul, Nat.one_mul], fun h => ⟨(List.take_of_length_le h).symm, ?_⟩⟩
  rw [List.length_drop] at h
  exact List.drop_of_length_le (by rw [Nat.add_mul, Nat.one_mul]; omega)
theorem RdF.takez {F : Nat → Prop} {w : World} {A : Option Addr} {l : List Nat} (h : RdF F w A l) (j : Nat) : RdF F w A (l.take j) := fun hl => by
  rw [List.length_take] at hl
  obtain ⟨b, off, h1, h2, h3, h4⟩ := h (by omega)
  refine ⟨b, off, h1, h2, h3, fun k x hx => h4 k x ?_⟩
  rw [List.getElem?_take] at hx
  split at hx
  · exact hx
  · cases hx
theorem RdF.addz {F : Nat → Prop} {w : World} {A : Option Addr} {l : List Nat} (h : RdF F w A l) (m : Nat) (hm : 0 < m) : RdF F w (A.map fun x => x.add m) (l.drop m) := fun hl => by
  rw [List.length_drop] at hl
  obtain ⟨b, off, rfl, h2, h3, h4⟩ := h (by omega)
  refine ⟨b, off + m, by simp [Addr.add, Nat.pos_iff_ne_zero.1 hm], h2, h3, fun k x hx => ?_⟩
  rw [Nat.add_assoc]
  exact h4 (m + k) x (by rw [← List.getElem?_drop]; exact hx)
def slen : Value → Nat
  | .slice _ n _ => n
  | _ => 0
/-- One piece more in the row. -/
theorem litz {B : Nat} (w : World) {T : TypeId} {A : Option Addr} {n c : Nat} {b e : Bool} {x : Int} {l : List Nat} (hl : l.length = n) (hc : n ≤ c) (h : RdF (fun i => i < B) w A l) :
    Rws shF (fun i => i < B ∨ w.heap.size ≤ i) (w.alloc (.cells #[.bool b, .bool e, .int .i64 x, .slice A n c] T)) (some ⟨w.heap.size, 0, none⟩) [⟨b, e, x, l⟩] := (litf w hl hc h).read

/-- What stands ahead of a round. -/
def FrZ (s : Bool) (f m k : Nat) (l : List Nat) (w : World) (v x y b : Value) (wr : World) : Prop :=
  ∃ i Ai ri ci, i ≤ k ∧ x = .int .i64 (frnum s f i : Int) ∧ y = .slice Ai ri ci ∧ b = .bool (decide (i = 0)) ∧ Hid (RdF (fun b => b < w.heap.size) w Ai (l.drop (i * m)) ∧ (l.drop (i * m)).length = ri ∧ ri ≤ ci) ∧ Orw shF 24 (fun _ => True) w.heap.size wr v (frrow2 s f m l i) ∧ Below w.heap.size w wr
theorem FrZ.mk {s : Bool} {f m k : Nat} {l : List Nat} {w : World} {v x y b : Value} {wr : World} (h : ∃ i Ai ri ci, i ≤ k ∧ x = .int .i64 (frnum s f i : Int) ∧ y = .slice Ai ri ci ∧ b = .bool (decide (i = 0)) ∧ Hid (RdF (fun b => b < w.heap.size) w Ai (l.drop (i * m)) ∧ (l.drop (i * m)).length = ri ∧ ri ≤ ci) ∧ Orw shF 24 (fun _ => True) w.heap.size wr v (frrow2 s f m l i) ∧ Below w.heap.size w wr) : FrZ s f m k l w v x y b wr := h

set_option maxHeartbeats 2000000 in
theorem frrsplit_ok (s : Bool) (f m : Nat) (hf : f < frmod s) (hm : 0 < m) (hm2 : m ≤ 9223372036854775807) (l : List Nat) (n c : Nat) (A : Option Addr) (w : World) (h : Rd w w.heap.size A l) (hl : l.length = n) (hn : n ≤ 2000) (hc : n ≤ c) (k : Nat) (hk : frcnt m n = k) :
    Calls Tryd.prog 17 #[.bool s, .int .i64 (f : Int), .int .i64 (m : Int), .slice A n c] w fun e w' => ∃ A' c', e = .returned (.tuple #[.slice A' k c', .int .i64 (frnum s f k : Int), .int .i64 0]) ∧ Orw shF 24 (fun _ => True) w.heap.size w' (.slice A' k c') (frpcs s f m l) ∧ Below w.heap.size w w' := by
  obtain ⟨i0, hi, hz0, hz1, hz2⟩ := info_parts rfr_info
  obtain ⟨H, hH0, hH1, hH2, hH3⟩ := frz_half s
  obtain ⟨M, hM0⟩ : ∃ M, frmod s = M := ⟨_, rfl⟩
  have hmod := fun W => frrmod_any s W
  rw [hM0] at hmod hf hH1
  have hM2 : M ≤ 16777216 := by rw [← hM0]; cases s <;> simp [frmod]
  have HM := Lib.hid hM0
  have hx1 : ¬ (m : Int) < 1 := by omega
  have hx2 : ¬ (f : Int) < 0 := by omega
  have hx3 : ¬ (M : Int) ≤ (f : Int) := by omega
  have m0 : ¬ M = 0 := by omega
  have HL := Lib.hid hl
  have HC := Lib.hid hc
  have HK := Lib.hid hk
  have HMP := Lib.hid hm
  have HF0 := Lib.hid (show frnum s f 0 = f by unfold frnum; rw [Nat.add_zero, hM0]; exact Nat.mod_eq_of_lt hf)
  have HR := Lib.hid (h.rdF (F := fun b => b < w.heap.size) (fun b hb => hb) (Nat.le_refl _))
  have OWN := Lib.hid (show Orw shF 24 (fun _ => True) w.heap.size (w.alloc (.cells #[] 24)) (.slice (some ⟨w.heap.size, 0, none⟩) 0 0) [] from Orw.lit w [] rfl (fun k x cs hx _ => by simp at hx) (by simp))
  have BEL := Lib.hid ((Below.refl w.heap.size w).alloc (Nat.le_refl _) (.cells #[] 24))
  clear hl hc hk hm h hH0 hM0 hf
  go_enter Tryd.func17, Tryd.ntmps17
  go_wp2_with (go_at_call 26; (with_reducible refine (hmod _).mono ?_); rintro r w3 ⟨rfl, rfl⟩)
  go_loopw [11, 12, 13, 14] (fun v x y b wr => FrZ s f m k l w v x y b wr) (fun v _ _ _ _ => k - slen v)
  case atStart => exact FrZ.mk ⟨0, A, n, c, Nat.zero_le _, by rw [HF0.out], rfl, rfl, Lib.hid ⟨by simpa using HR.out, by simpa using HL.out, HC.out⟩, OWN.out, BEL.out⟩
  case round =>
    obtain ⟨i, Ai, ri, ci, hi', rfl, rfl, rfl, hRd, hown, hbel⟩ := hrel
    obtain ⟨Av, cv, rfl, hv1, hv2⟩ := hown.shape
    rw [frrow2_len] at hown hv1 ⊢
    obtain ⟨vn, hvn⟩ : ∃ vn, frnum s f i = vn := ⟨_, rfl⟩
    obtain ⟨vm, hvm⟩ : ∃ vm, frnum s f (i + 1) = vm := ⟨_, rfl⟩
    rw [hvn]
    by_cases hgo : i = 0 ∨ 0 < ri
    · have hik : i < k := frz_more HK.out HMP.out (hgo.imp id fun h0 => by have := hRd.out.2.1; rw [List.length_drop, HL.out] at this; omega)
      have hk2 : k ≤ 2000 := by
        rw [← HK.out]
        by_cases hz : n = 0
        · subst hz; simp [frcnt]
        · exact Nat.le_trans (frcnt_le m n (by omega)) hn
      have d2 : ((vn : Int) + 1).tmod (M : Int) = (vm : Int) := (frq_rem vn M vm (by rw [← hvn, ← hvm]; exact frz_num s f i M HM.out) (by rw [← hvn]; exact Nat.lt_of_lt_of_le (frz_lt s f i M HM.out) hM2)).2
      have d3 : vn < 16777216 := by rw [← hvn]; exact Nat.lt_of_lt_of_le (frz_lt s f i M HM.out) hM2
      have d4 : ¬ (H : Int) < (i : Int) + 1 := by omega
      have HVN := Lib.hid hvn
      have HVM := Lib.hid hvm
      have OW := Lib.hid hown
      have BW := Lib.hid hbel
      have R0 := Lib.hid (frz_rest (l := l) (m := m) (i := i))
      obtain ⟨bg, hbg⟩ : ∃ bg, Hid (decide (i = 0) = bg) := ⟨_, Lib.hid rfl⟩
      rw [hbg.out]
      have HE7 := Lib.hid (show frrow2 s f m l (i + 1) = frrow2 s f m l i ++ [⟨bg, false, (vn : Int), frchk m l i⟩] by rw [frrow2_succ, hbg.out, hvn])
      have HI := Lib.hid hik
      have hci := hRd.out.2.2
      have HBG : bg = true ∨ (bg = false ∧ (0 : Int) < (ri : Int) ∧ 0 < ri) := by
        rcases hgo with h0 | h0
        · exact .inl (by rw [← hbg.out, h0]; rfl)
        · cases bg
          · exact .inr ⟨rfl, by omega, h0⟩
          · exact .inl rfl
      clear hvn hvm hown hbel hgo hik hi'
      have HNN : (∃ nn, (m : Int) < (ri : Int) ∧ m = nn ∧ Hid ((frchk m l i).length = nn ∧ (l.drop (i * m)).take nn = frchk m l i ∧ (l.drop (i * m)).drop nn = l.drop ((i + 1) * m) ∧ nn ≤ ri)) ∨ (∃ nn, ¬ (m : Int) < (ri : Int) ∧ ri = nn ∧ Hid ((frchk m l i).length = nn ∧ (l.drop (i * m)).take nn = frchk m l i ∧ (l.drop (i * m)).drop nn = l.drop ((i + 1) * m) ∧ nn ≤ ri)) := by
        have hr := hRd.out.2.1
        by_cases c1 : m < ri
        · exact .inl ⟨m, by omega, rfl, Lib.hid ⟨by unfold frchk; rw [List.length_take, hr]; omega, R0.out.1, R0.out.2.1, by omega⟩⟩
        · have h2 := R0.out.2.2 (by omega)
          exact .inr ⟨ri, by omega, rfl, Lib.hid ⟨by rw [← h2.1]; exact hr, by rw [List.take_of_length_le (by omega)]; exact h2.1, by rw [h2.2, List.drop_of_length_le (by omega)], Nat.le_refl _⟩⟩
      rcases HBG with rfl | ⟨rfl, g1, g2⟩
      all_goals
        rcases HNN with ⟨nn, c1, hq, hnn⟩ | ⟨nn, c1, hq, hnn⟩
        rotate_left
        rcases Nat.eq_or_lt_of_le hci with hcr | hcr
        rotate_left
        have hcn : ¬ ci = ri := by omega
      all_goals
        have n1 := hnn.out.2.2.2
        have q1 : (0 : Int) ≤ (nn : Int) := by omega
        have q2 : (nn : Int) ≤ (ci : Int) := by omega
        have q3 : (nn : Int) ≤ (ri : Int) := by omega
        have PD := Lib.hid ((hRd.out.1.takez nn).keep (.of_below BW.out))
        rw [hnn.out.2.1] at PD
        have NC := Lib.hid (show nn ≤ ci by omega)
        subst hq
        try subst hcr
        have hi5 : i < 2000 := Nat.lt_of_lt_of_le HI.out hk2
        go_upto_region 15 with (at_builtin; go_loud (refine list_rows shF rfl _ _ _ rfl 24 i0 (.agg #[.bool false, .bool false, .int .i64 0, .slice none 0 0]) 40 Tryd.underlying38 hi hz0 hz1 hz2 rfl (by decide) (fun _ => True) _ w.heap.size _ i (frrow2 s f m l i) rfl (OW.out.below ((Below.refl _ _).alloc (Nat.le_refl _) _)) (frrow2_len s f m l i) _ 1 1 _ rfl (litf _ hnn.out.1 NC.out PD.out).read rfl (fun b _ hb => hb.elim (fun h => ⟨trivial, fun e => absurd (OW.out.lt e).1 (Nat.not_le.2 h)⟩) (fun h => ⟨trivial, fun e => absurd (OW.out.lt e).2 (Nat.not_lt.2 h)⟩)) (by unfold maxLen; omega) (by omega) (BW.out.alloc BW.out.size _).size ?_); intro v7 w7 ho7 hg7 hm7; have B7 := Lib.hid ((BW.out.alloc BW.out.size _).grown hg7 (BW.out.alloc BW.out.size _).size (fun g hg => (OW.out.lt hg).1)); obtain ⟨A7, c7, hv7, hl7, hm7'⟩ := ho7.shape; rw [← HE7.out] at ho7; rw [← HE7.out, frrow2_len] at hv7; subst hv7; have O7 := Lib.hid ho7; clear ho7 hg7 hm7 hl7 hm7')
        clear PD
        go_wp2_with (go_at_call 26; (with_reducible refine (hmod _).mono ?_); rintro r w9 ⟨rfl, rfl⟩)
        have hH : (i : Int) + 1 < 9223372036854775807 := by omega
        go_roundw
        case rel =>
          rw [decide_eq_false (show ¬ M ≤ f by omega)]
          (repeat apply Exists.intro)
          refine And.intro ?_ rfl
          first
          | exact FrZ.mk ⟨i + 1, Option.map (fun x => x.add m) Ai, ri - m, ci - m, HI.out, (by rw [HVM.out] : Value.int .i64 (vm : Int) = Value.int .i64 (frnum s f (i + 1) : Int)), rfl, (congrArg Value.bool (decide_eq_false (Nat.succ_ne_zero i))).symm, Lib.hid ⟨by rw [← hnn.out.2.2.1]; exact hRd.out.1.addz _ HMP.out, by rw [← hnn.out.2.2.1, List.length_drop, hRd.out.2.1], Nat.sub_le_sub_right hRd.out.2.2 _⟩, O7.out, B7.out⟩
          | exact FrZ.mk ⟨i + 1, Option.map (fun x => x.add ri) Ai, 0, ci - ri, HI.out, (by rw [HVM.out] : Value.int .i64 (vm : Int) = Value.int .i64 (frnum s f (i + 1) : Int)), rfl, (congrArg Value.bool (decide_eq_false (Nat.succ_ne_zero i))).symm, Lib.hid ⟨by rw [← hnn.out.2.2.1, List.drop_of_length_le (by rw [hRd.out.2.1]; exact Nat.le_refl _)]; exact RdF.nil, by rw [← hnn.out.2.2.1, List.length_drop, hRd.out.2.1, Nat.sub_self], Nat.zero_le _⟩, O7.out, B7.out⟩
          | exact FrZ.mk ⟨i + 1, Ai, 0, 0, HI.out, (by rw [HVM.out] : Value.int .i64 (vm : Int) = Value.int .i64 (frnum s f (i + 1) : Int)), rfl, (congrArg Value.bool (decide_eq_false (Nat.succ_ne_zero i))).symm, Lib.hid ⟨by rw [← hnn.out.2.2.1, List.drop_of_length_le (by rw [hRd.out.2.1]; exact Nat.le_refl _)]; exact RdF.nil, by rw [← hnn.out.2.2.1, List.length_drop, hRd.out.2.1, Nat.sub_self], Nat.le_refl _⟩, O7.out, B7.out⟩
        case measure => have := HI.out; simp [slen]; omega
    · have hi0 : ¬ i = 0 := fun e => hgo (.inl e)
      have hr0 : ri = 0 := by omega
      have hik : i = k := frz_end HK.out HMP.out hi' hi0 (by have := hRd.out.2.1; rw [List.length_drop, HL.out] at this; omega)
      subst hr0 hik
      have e0 : decide (i = 0) = false := decide_eq_false hi0
      rw [e0]
      obtain ⟨g, c9, hv9, hck, hg1, hg2, hfz⟩ := hown.formF (frrow2_len s f m l i) (Nat.pos_of_ne_zero hi0)
      injection hv9 with ha hb hc
      subst ha; subst hc
      obtain ⟨k1, hk1⟩ : ∃ k1, i = k1 + 1 := ⟨i - 1, by omega⟩
      have LAST := frrow2_last s f m l k1 (by rw [HL.out, HK.out]; exact hk1)
      rw [← hk1] at LAST
      have SE := hown.setF_e LAST.1 true
      obtain ⟨_, _, -, -, -, x1, -⟩ := hown.pcF LAST.1
      have SE2 := Lib.hid SE
      have ST := Lib.hid LAST.2
      have HG := Lib.hid hg1
      have BW := Lib.hid hbel
      have x1' : wr.cell? ⟨g, k1 * 4 + 1, none⟩ = some (.bool false) := x1
      clear x1
      have hzf := hfz (k1 * 4 + 1)
      have f1 : (i : Int) - 1 = (k1 : Int) := by omega
      have f2 : (0 : Int) ≤ (k1 : Int) := by omega
      have f3 : (k1 : Int) < (i : Int) := by omega
      have hi9 : i ≤ 2000 := by
        rw [← HK.out]
        by_cases hz : n = 0
        · subst hz; simp [frcnt]
        · exact Nat.le_trans (frcnt_le m n (by omega)) hn
      have f4 : wrap64 (k1 : Int) = (k1 : Int) := IntWalk.wrap64_in _ (by omega)
      clear hmod hM2 m0 hH1 hH2 hH3 hx1 hx2 hx3 hn hi9
      clear SE LAST hown hgo hfz hg1 hg2 hbel hi0 hi' hk1 e0
      go_wp2_with fail
      refine bodyPost_ret (results_tmp3F rfl _ _ _ _ _ rfl rfl rfl) rfl ?_
      refine ⟨some ⟨g, 0, none⟩, _, rfl, ?_, BW.out.setCell (p := ⟨g, k1 * 4 + 1, none⟩) HG.out _⟩
      rw [← ST.out]
      exact SE2.out
end Go.Proofs.YtdeabomcmbgepaaDoor
