
/-
  What the program's Get of tags answers. No condition beyond: at most 2^30 octets.
-/
import Derived.Test.YtldadfmcganejaaTagU
namespace Go.Proofs.Ytldadfmcganejaa
set_option maxRecDepth 4000
open Go.RowKit

/-- What the program's Get answers: a row of its own, whose data lie in blocks of its own. -/
def GetH (b : List Nat) (w : World) (e : Ending) (w' : World) : Prop :=
  ∃ v, e = .returned (.tuple #[v, .int .i64 ((tgget b).2.1 : Int), .int .i64 ((tgget b).2.2 : Int)]) ∧ Orw shG 50 (fun g => w.heap.size ≤ g) w.heap.size w' v (tgget b).1 ∧ Below w.heap.size w w'
theorem getH_bad {b : List Nat} {acc : List (Nat × List Nat)} {k q : Nat} {w w' : World} (h : tgget b = tgadd acc k (tgget (b.drop k))) (hn : b.drop k ≠ []) (hs : (tgstep (b.drop k)).2 = q) (hq : q ≠ 0) (hb : Below w.heap.size w w') :
    GetH b w (.returned (.tuple #[.slice none 0 0, .int .i64 0, .int .i64 (q : Int)])) w' := by
  have e : tgget b = ([], 0, q) := by
    rw [h, tgget_bad hn (by rw [hs]; exact hq), hs]
    unfold tgadd
    rw [if_neg hq]
  exact ⟨_, by rw [e]; rfl, by rw [e]; exact Orw.nil _ _ _ _ _, hb⟩
theorem getH_stop {b : List Nat} {acc : List (Nat × List Nat)} {k n5 : Nat} {w w' : World} {v : Value} (h : tgget b = tgadd acc k (tgget (b.drop k))) (hs : (tgstep (b.drop k)).2 = 0) (ht : tgtyp (b.drop k) = 0) (h5 : n5 = k + 4) (ho : Orw shG 50 (fun g => w.heap.size ≤ g) w.heap.size w' v acc) (hb : Below w.heap.size w w') :
    GetH b w (.returned (.tuple #[v, .int .i64 (n5 : Int), .int .i64 0])) w' := by
  have e : tgget b = (acc, n5, 0) := by
    rw [h, tgget_end hs ht, h5]
    unfold tgadd
    rw [if_pos rfl, List.append_nil]
  exact ⟨_, by rw [e]; rfl, by rw [e]; exact ho, hb⟩
theorem getH_end {b : List Nat} {acc : List (Nat × List Nat)} {k : Nat} {w w' : World} {v : Value} (h : tgget b = tgadd acc k (tgget (b.drop k))) (h0 : b.drop k = []) (ho : Orw shG 50 (fun g => w.heap.size ≤ g) w.heap.size w' v acc) (hb : Below w.heap.size w w') :
    GetH b w (.returned (.tuple #[v, .int .i64 (k : Int), .int .i64 0])) w' := by
  have e : tgget b = (acc, k, 0) := by
    rw [h, h0, tgget_nil]
    unfold tgadd
    rw [if_pos rfl, List.append_nil, Nat.add_zero]
  exact ⟨_, by rw [e]; rfl, by rw [e]; exact ho, hb⟩
theorem tgstep_end {b : List Nat} {m : Nat} (hs : tgstep b = (4 + m, 0)) (ht : tgtyp b = 0) : m = 0 := by
  obtain ⟨x, y, z, u, t, -, h1, -, h2, h3⟩ := tgstep_ok (b := b) (by rw [hs])
  obtain ⟨h4, h5⟩ := h2 (by rw [← h3]; exact ht)
  rw [hs] at h1
  dsimp only at h1
  omega
theorem tgtyp_lt {b : List Nat} (hb : By b) : tgtyp b < 65536 := by
  match b with
  | [] => exact Nat.zero_lt_succ _
  | [_] => exact Nat.zero_lt_succ _
  | x :: y :: t =>
    have h1 := hb x (by simp)
    have h2 := hb y (by simp)
    show x * 256 + y < 65536
    omega

set_option maxHeartbeats 8000000 in
theorem tgget_any (b : List Nat) (n c : Nat) (A : Option Addr) (w : World) (h : Rd w w.heap.size A b) (hb : By b) (hl : b.length = n) (hn : n ≤ 1073741824) (hc : n ≤ c) :
    Calls Try.prog 12 #[.slice A n c] w (GetH b w) := by
  obtain ⟨i0, hi, hz0, hz1, hz2⟩ := info_parts tag_info
  have H := Lib.hid h
  have HB := Lib.hid hb
  have HL := Lib.hid hl
  clear h hb hl
  go_enter Try.func12, Try.ntmps12
  go_wp2_with fail
  go_loopw [5, 6] (fun v a wr => ∃ (k : Nat) (acc : List (Nat × List Nat)), a = .int .i64 k ∧ k ≤ n ∧ 4 * acc.length ≤ k ∧ Hid (tgget b = tgadd acc k (tgget (b.drop k))) ∧ Orw shG 50 (fun g => w.heap.size ≤ g) w.heap.size wr v acc ∧ Below w.heap.size w wr) (fun _ a _ => n - (intOf a).toNat)
  case atStart => exact ⟨0, [], rfl, Nat.zero_le _, Nat.zero_le _, Lib.hid (tgadd_nil _ (tgget_err b)).symm, Orw.nil _ _ _ _ _, Below.refl _ _⟩
  case round =>
    obtain ⟨k, acc, rfl, hk, hacc, hg, hown, hbel⟩ := hrel
    by_cases hlt : k < n
    · obtain ⟨bb, oo, x0, rfl, hbb, hx0, hcx⟩ := H.out.at_ (k := k) (by rw [HL.out]; exact hlt)
      clear hx0 hcx
      have hck : ¬ c = k := by omega
      have HNE := Lib.hid (show b.drop k ≠ [] from fun e => by have h1 := congrArg List.length e; rw [List.length_drop, HL.out] at h1; simp at h1; omega)
      have HD := Lib.hid (show (b.drop k).length = n - k by rw [List.length_drop, HL.out])
      have HBD := Lib.hid (HB.out.drop k)
      have HRD := Lib.hid (show Rd w w.heap.size (some ⟨bb, oo + k, none⟩) (b.drop k) by
        have := H.out.cutG (f := k) (c := c) (by rw [HL.out]; exact hc)
        rw [if_neg hck] at this
        exact this)
      have BE := Lib.hid hbel
      have OW := Lib.hid hown
      have FAR := Lib.hid (fun (g : Nat) hg => (Orw.lt (g := g) hown hg).2)
      have i1 : (0 : Int) ≤ k := by omega
      have i2 : (k : Int) < n := by omega
      have i3 : (k : Int) ≤ n := by omega
      have i4 : (n : Int) ≤ c := by omega
      obtain ⟨q, hq⟩ : ∃ q, Hid ((tgstep (b.drop k)).2 = q) := ⟨_, Lib.hid rfl⟩
      by_cases hq0 : q = 0
      · subst hq0
        have h2 := tgstep_le hq.out
        rw [HD.out] at h2
        obtain ⟨m, hm⟩ : ∃ m, Hid (tgstep (b.drop k) = (4 + m, 0)) := ⟨(tgstep (b.drop k)).1 - 4, Lib.hid (by
          have e : 4 + ((tgstep (b.drop k)).1 - 4) = (tgstep (b.drop k)).1 := by omega
          rw [e, ← hq.out])⟩
        rw [hm.out] at h2
        dsimp only at h2
        obtain ⟨tt, htt⟩ : ∃ t, Hid (tgtyp (b.drop k) = t) := ⟨_, Lib.hid rfl⟩
        obtain ⟨dat, hdat⟩ : ∃ d, Hid (((b.drop k).take (4 + m)).drop 4 = d) := ⟨_, Lib.hid rfl⟩
        obtain ⟨k5, hk5⟩ : ∃ k5, k + (4 + m) = k5 := ⟨_, rfl⟩
        obtain ⟨m4, hm4⟩ : ∃ m4, 4 + m = m4 := ⟨_, rfl⟩
        have p1 : (4 : Int) + (m : Int) = (m4 : Int) := by omega
        have p2 : IntKind.i64.wrap (m4 : Int) = (m4 : Int) := IntWalk.i64_in _ (by omega)
        have p3 : (k : Int) + (m4 : Int) = (k5 : Int) := by omega
        have p4 : IntKind.i64.wrap (k5 : Int) = (k5 : Int) := IntWalk.i64_in _ (by omega)
        clear hown hbel hbb
        by_cases ht0 : tt = 0
        · have hm0 : m = 0 := tgstep_end hm.out (by rw [htt.out]; exact ht0)
          have j1 : ((tt : Int) == 0) = true := by rw [ht0]; rfl
          have E := Lib.hid (show k5 = k + 4 by omega)
          have HT0 := Lib.hid (htt.out.trans ht0)
          clear ht0 hm0
          go_wp2_with (go_at_call 21; (with_reducible refine (tgfir_ok (b.drop k) m tt hm.out htt.out (n - k) (c - k) _ _ (HRD.out.on BE.out) HBD.out HD.out (by omega) (by omega)).mono ?_); rintro e w5 ⟨A5, c5, rfl, HN⟩; have BL := HN.2.2.2.alloc HN.2.2.2.size (.cells #[.int .u16 (tt : Int), .slice A5 m c5] 50); replace OW := Lib.hid (OW.out.below BL); replace BE := Lib.hid (BE.out.trans (BL.mono BE.out.size)); clear HN BL)
          go_ret3
          exact getH_stop hg.out hq.out HT0.out E.out OW.out BE.out
        · have j1 : ((tt : Int) == 0) = false := by rw [beq_eq_false_iff_ne]; omega
          have HG2 := Lib.hid (show tgget b = tgadd (acc ++ [(tt, dat)]) k5 (tgget (b.drop k5)) by
            rw [hg.out, tgget_ok hq.out (by rw [htt.out]; exact ht0), hm.out, htt.out, hdat.out, tgadd_add, List.drop_drop, hk5])
          have hacc2 : 4 * (acc ++ [(tt, dat)]).length ≤ k5 := by rw [List.length_append]; simp; omega
          clear ht0
          go_wp2_with (first
            | (go_at_call 21; (with_reducible refine (tgfir_ok (b.drop k) m tt hm.out htt.out (n - k) (c - k) _ _ (HRD.out.on BE.out) HBD.out HD.out (by omega) (by omega)).mono ?_); rintro e w5 ⟨A5, c5, rfl, HN⟩; rw [hdat.out] at HN; obtain ⟨w6, hw6⟩ : ∃ w6, w6 = w5.alloc (.cells #[.int .u16 (tt : Int), .slice A5 m c5] 50) := ⟨_, rfl⟩; have HW6 := Lib.hid hw6; have hb6 : Below w5.heap.size w5 w6 := by {rw [hw6]; exact (Below.refl _ _).alloc (Nat.le_refl _) _}; have HS := Lib.hid (show w6.heap.size = w5.heap.size + 1 by rw [hw6, World.size_alloc]); have hcap := own_cap HN.2.1; have HLD := Lib.hid HN.1; have HF := Lib.hid (((RdF.own HN.2.1).keep (.of_below hb6)).mono (G := fun g => w.heap.size ≤ g ∧ wr.heap.size ≤ g) (fun g _ hg => ⟨Nat.le_trans BE.out.size hg, hg⟩)); have BL := HN.2.2.2.trans (hb6.mono HN.2.2.2.size); replace OW := Lib.hid (OW.out.below BL); replace BE := Lib.hid (BE.out.trans (BL.mono BE.out.size)); clear HN BL hb6 hw6)
            | (at_builtin; rw [← HW6.out, ← HS.out]; refine list_rows shG rfl _ _ _ rfl 50 i0 (.agg #[.int .u16 0, .slice none 0 0]) 32 Try.underlying30 hi hz0 hz1 hz2 rfl (by decide) (fun g => w.heap.size ≤ g) _ w.heap.size _ _ acc rfl (OW.out.below ((Below.refl _ _).alloc (Nat.le_refl _) _)) rfl _ 1 1 _ rfl (litg _ HLD.out hcap HF.out).read rfl (fun b _ hb => hb.elim (fun h => ⟨h.1, fun e => absurd (FAR.out b e) (Nat.not_lt.2 h.2)⟩) (fun h => ⟨Nat.le_trans BE.out.size h, fun e => Nat.lt_irrefl _ (Nat.lt_of_lt_of_le (OW.out.lt e).2 h)⟩)) (by unfold maxLen; omega) (by omega) (BE.out.alloc BE.out.size _).size ?_; intro v7 w7 ho7 hg7 hm7; have R2 := (BE.out.alloc BE.out.size _).grown hg7 (BE.out.alloc BE.out.size _).size (fun g hg => (OW.out.lt hg).1); clear hg7 hm7))
          go_roundw
          case rel => exact ⟨k5, _, rfl, by omega, hacc2, HG2, ho7, R2⟩
          case measure => simp [intOf]; omega
      · have j1 : ((q : Int) != 0) = true := by rw [bne_iff_ne]; omega
        have QN := Lib.hid hq0
        clear hown hbel hbb hq0
        go_wp2_with (go_at_call 21; (with_reducible refine (tgfir_bad (b.drop k) q hq.out QN.out (n - k) (c - k) _ _ (HRD.out.on BE.out) HBD.out HD.out (by omega) (by omega)).mono ?_); rintro e w5 ⟨rfl, hb5⟩; replace BE := Lib.hid ((BE.out.trans (hb5.mono BE.out.size)).alloc (Nat.le_trans BE.out.size hb5.size) (.cells #[.int .u16 0, .slice none 0 0] 50)); clear hb5)
        go_ret3
        exact getH_bad hg.out HNE.out hq.out QN.out BE.out
    · have hr0 : b.drop k = [] := List.eq_nil_of_length_eq_zero (by rw [List.length_drop, HL.out]; omega)
      have HR0 := Lib.hid hr0
      clear hr0
      go_wp2_with fail
      go_ret3
      exact getH_end hg.out HR0.out hown hbel
end Go.Proofs.Ytldadfmcganejaa
