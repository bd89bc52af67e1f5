
/-
  The call Feed: the segments that a chunk ends are told as the mathematics says, in rows of the call's own; what was held is handed on, never written again. No condition beyond: most at most 2^40, chunks of at most 2^38 octets.
-/
import Derived.Test.YtdpkccbcfedhbaaAsyD
import Derived.WalkMore
import Derived.Deep.LoopGhost
namespace Go.Proofs.Ytdpkccbcfedhbaa
open Go.RowKit

/-- Segments as cells: each its kind and the slice of its octets. -/
def sgC (vs : List (Sg × Value)) : List Value := vs.flatMap fun x => [.int .i64 (x.1.1 : Int), x.2]
theorem sgC_app (a b : List (Sg × Value)) : sgC (a ++ b) = sgC a ++ sgC b := by simp [sgC]
theorem sgC_len (a : List (Sg × Value)) : (sgC a).length = a.length * 2 := by
  induction a with
  | nil => rfl
  | cons x t ih => show ([_, _] ++ sgC t).length = _; rw [List.length_append, ih, List.length_cons]; simp; omega
theorem sgC_get {vs : List (Sg × Value)} {k : Nat} {x : Sg × Value} (h : vs[k]? = some x) : (sgC vs)[2 * k]? = some (.int .i64 (x.1.1 : Int)) ∧ (sgC vs)[2 * k + 1]? = some x.2 := by
  induction vs generalizing k with
  | nil => cases h
  | cons y t ih =>
    cases k with
    | zero => injection h with h; subst h; exact ⟨rfl, rfl⟩
    | succ k =>
      have := ih (k := k) (by simpa using h)
      rw [show 2 * (k + 1) = 2 * k + 1 + 1 by omega]
      exact this

/-- A row of segments told: it is the call's own; the octets of each are a row in a block of F. -/
def Tl (B : Nat) (w : World) (T : TypeId) (F : Nat → Prop) (v : Value) (l : List Sg) : Prop :=
  ∃ vs : List (Sg × Value), vs.map (·.1) = l ∧ w.ownsRow B T 2 v l.length (sgC vs) ∧ ∀ x ∈ vs, w.ownsRow B 5 1 x.2 x.1.2.length (bvs x.1.2) ∧ ∀ g, x.2.ownBlock = some g → F g
section
variable {B : Nat} {w w' : World} {T : TypeId} {F F' X : Nat → Prop} {v : Value} {l : List Sg}
theorem Tl.nil (B : Nat) (w : World) (T : TypeId) (F : Nat → Prop) : Tl B w T F (.slice none 0 0) [] := ⟨[], rfl, World.ownsRow_nil _ _ _ _, fun _ h => by cases h⟩
theorem Tl.off (h : Tl B w T F v l) (ho : Offs X w w') (hv : ∀ g, v.ownBlock = some g → ¬ X g) (hF : ∀ g cur, w.heap[g]? = some (.cells cur 5 (0, 0)) → F g → ¬ X g ∧ F' g) : Tl B w' T F' v l := by
  obtain ⟨vs, e, hown, hd⟩ := h
  refine ⟨vs, e, own_off hown ho hv, fun x hx => ?_⟩
  obtain ⟨h1, h2⟩ := hd x hx
  refine ⟨own_off h1 ho (fun g hg => ?_), fun g hg => ?_⟩
  · obtain ⟨cur, hc⟩ := own_blk h1 hg
    exact (hF g cur hc (h2 g hg)).1
  · obtain ⟨cur, hc⟩ := own_blk h1 hg
    exact (hF g cur hc (h2 g hg)).2
theorem Tl.below (h : Tl B w T F v l) (ho : Below w.heap.size w w') : Tl B w' T F v l := h.off (X := fun _ => False) (.of_below ho) (fun _ _ => id) (fun _ _ _ h => ⟨id, h⟩)
theorem Tl.own (h : Tl B w T F v l) : ∃ xs, w.ownsRow B T 2 v l.length xs := by
  obtain ⟨vs, e, hown, hd⟩ := h
  exact ⟨_, hown⟩
theorem Tl.shape (h : Tl B w T F v l) : ∃ A c, v = .slice A l.length c ∧ l.length ≤ c ∧ c ≤ maxLen := by
  obtain ⟨xs, h⟩ := h.own
  exact own_shape h
theorem Tl.lt (h : Tl B w T F v l) {g : Nat} (hg : v.ownBlock = some g) : B ≤ g ∧ g < w.heap.size := by
  obtain ⟨xs, h⟩ := h.own
  exact h.lt g hg
end

theorem seg_info : (Try.prog.info? 39).map (fun i => (i.zero, i.size, i.bytes)) = some (some (.agg #[.int .i64 0, .slice none 0 0]), 2, 32) := by kernel_rfl

/-- What was fed: the deframer, the segments told, where they lie. -/
structure Fd (B : Nat) (w w' : World) (b m most : Nat) (V : Value) (s : St) (chunk : List Nat) (V' v : Value) : Prop where
  df : Df B w' b m most V' (run m most s chunk).1
  tl : Tl B w' 39 (fun g => (V.ownBlock = some g ∨ w.heap.size ≤ g) ∧ V'.ownBlock ≠ some g) v (run m most s chunk).2
  at_ : ∀ g, v.ownBlock = some g → w.heap.size ≤ g
  mv : Mv w.heap.size V V'
  off : Offs (fun k => k = b ∨ V.ownBlock = some k) w w'

theorem stp_flag (m most : Nat) (s : St) : stp m most s 126 = (St.start, s.tell) := by unfold stp; rw [if_pos rfl]
theorem stp_has {m most c : Nat} {s : St} (h : hasB m c = true) : stp m most s c = (s, []) := by
  have := has_lt h
  unfold stp
  rw [if_neg (by omega), if_pos h]
theorem stp_esc {m most c : Nat} {s : St} (h0 : c ≠ 126) (h : hasB m c = false) (he : s.esc = true) : stp m most s c = (St.keep most ⟨s.held, false, s.long⟩ (turn c), []) := by
  unfold stp
  rw [if_neg h0, h, he]
  rfl
theorem stp_mark {m most : Nat} {s : St} (h : hasB m 125 = false) (he : s.esc = false) : stp m most s 125 = (⟨s.held, true, s.long⟩, []) := by
  unfold stp
  rw [if_neg (by decide), h, he]
  rfl
theorem stp_keep {m most c : Nat} {s : St} (h0 : c ≠ 126) (h1 : c ≠ 125) (h : hasB m c = false) (he : s.esc = false) : stp m most s c = (s.keep most c, []) := by
  unfold stp
  rw [if_neg h0, h, he, if_neg h1]
  rfl

theorem tV_shape {B : Nat} {w : World} {V : Value} {s : St} (h : w.ownsRow B 5 1 V s.held.length (bvs s.held)) : ∃ A n c, tV V s = .slice A n c := by
  obtain ⟨A, c, hV, _, _⟩ := own_form h
  unfold tV
  split
  · exact ⟨_, _, _, rfl⟩
  split
  · exact ⟨_, _, _, rfl⟩
  split
  · exact ⟨_, _, _, rfl⟩
  · exact ⟨_, _, _, hV⟩

section
variable {B : Nat} {w wr w1 w2 w3 : World} {b m most : Nat} {V V' v v3 : Value} {s : St} {l : List Nat} {k x : Nat}
/-- A step that tells nothing. -/
theorem Fd.quiet (h : Fd B w wr b m most V s (l.take k) V' v) (hx : l[k]? = some x) (V2 : Value) (hd : Df B w1 b m most V2 (stp m most (run m most s (l.take k)).1 x).1) (ht : (stp m most (run m most s (l.take k)).1 x).2 = [])
    (ho : Offs (fun i => i = b ∨ V'.ownBlock = some i) wr w1) (hmv : Mv wr.heap.size V' V2) : Fd B w w1 b m most V s (l.take (k + 1)) V2 v := by
  obtain ⟨xs, hxs⟩ := h.tl.own
  refine ⟨by rw [run_take hx]; exact hd, ?_, h.at_, h.mv.trans hmv h.off.size, h.off.trans ho (fun _ h => h) ?_⟩
  · rw [run_take hx, ht, List.append_nil]
    refine h.tl.off ho ?_ ?_
    · rintro g hg (rfl | hv)
      · exact h.df.cells.own_ne hxs (by decide) hg
      · exact own_ne hxs h.df.own (by decide) hg hv
    · rintro g cur hc ⟨h1, h2⟩
      refine ⟨?_, h1, ?_⟩
      · rintro (rfl | hv)
        · have := h.df.cells
          unfold Dc at this
          rw [this] at hc
          injection hc with hc
          injection hc with _ hc
          exact absurd hc (by decide)
        · exact h2 hv
      · intro hv
        rcases hmv g hv with h3 | h3
        · exact h2 h3
        · have := (Array.getElem?_eq_some_iff.1 hc).1
          omega
  · intro i hi hy
    rcases hy with rfl | hy
    · exact .inl rfl
    · rcases h.mv i hy with h1 | h1
      · exact .inr h1
      · omega

theorem Fd.below (h : Fd B w w1 b m most V s l V' v) (ho : Below w1.heap.size w1 w2) : Fd B w w2 b m most V s l V' v :=
  ⟨h.df.below ho, h.tl.below ho, h.at_, h.mv, h.off.trans (.of_below (X := fun _ => False) ho) (fun _ h => h) (fun _ _ h => h.elim)⟩

/-- A step that tells a segment. -/
theorem Fd.told (h : Fd B w wr b m most V s (l.take k) V' v) (hx : l[k]? = some 126) (hd : Df B w1 b m most (.slice none 0 0) St.start) (ho : Offs (fun i => i = b) wr w1) (hb : Below w1.heap.size w1 w2) (ht : tB (run m most s (l.take k)).1 = true)
    (vs : List (Sg × Value)) (hvs : vs.map (·.1) = (run m most s (l.take k)).2) (hds : ∀ x ∈ vs, wr.ownsRow B 5 1 x.2 x.1.2.length (bvs x.1.2) ∧ ∀ g, x.2.ownBlock = some g → (V.ownBlock = some g ∨ w.heap.size ≤ g) ∧ V'.ownBlock ≠ some g)
    (hown : w3.ownsRow B 39 2 v3 ((run m most s (l.take k)).2.length + 1) (sgC vs ++ [.int .i64 (tK (run m most s (l.take k)).1 : Nat), tV V' (run m most s (l.take k)).1])) (hg : w2.grownBy w3 v.ownBlock) (hmv : Mv w2.heap.size v v3) :
    Fd B w w3 b m most V s (l.take (k + 1)) (.slice none 0 0) v3 := by
  obtain ⟨xs, hxs⟩ := h.tl.own
  have h1 := Offs.trans (Z := fun i => i = b) ho (.of_below (X := fun i => i = b) hb) (fun _ h => h) (fun _ _ h => h)
  have h2 := Offs.trans (Z := fun i => i = b ∨ v.ownBlock = some i) h1 (.of_grown (X := fun i => v.ownBlock = some i) hg (fun _ h => h)) (fun _ h => .inl h) (fun _ _ h => .inr h)
  have hsz : w.heap.size ≤ w2.heap.size := Nat.le_trans h.off.size (Nat.le_trans ho.size hb.size)
  obtain ⟨sg, hs1, hs2, hs3, hs4⟩ := tV_own h.df.own ht
  have hbl := h.df.cells
  unfold Dc at hbl
  have un : ∀ {d : Value} {q : Nat} {ys : List Value}, wr.ownsRow B 5 1 d q ys → w3.ownsRow B 5 1 d q ys := fun hq => own_off hq h2 (by
    rintro g hg' (rfl | hv)
    · exact h.df.cells.own_ne hq (by decide) hg'
    · exact own_ne hq hxs (by decide) hg' hv)
  refine ⟨?_, ⟨vs ++ [(sg, tV V' (run m most s (l.take k)).1)], ?_, ?_, ?_⟩, ?_, Mv.nil _ _ _ _, ?_⟩
  · rw [run_take hx, stp_flag]
    refine (hd.below hb).off (X := fun i => v.ownBlock = some i) (.of_grown hg (fun _ h => h)) ?_ (fun _ h => by cases h)
    exact h.df.cells.own_ne hxs (by decide)
  · rw [run_take hx, stp_flag, hs1, List.map_append, hvs]; rfl
  · have e : sgC [(sg, tV V' (run m most s (l.take k)).1)] = [.int .i64 (tK (run m most s (l.take k)).1 : Nat), tV V' (run m most s (l.take k)).1] := by rw [← hs2]; rfl
    rw [run_take hx, stp_flag, hs1, List.length_append, sgC_app, e]
    exact hown
  · intro x hx
    rcases List.mem_append.1 hx with hx | hx
    · obtain ⟨h3, h4⟩ := hds x hx
      exact ⟨un h3, fun g hg => ⟨(h4 g hg).1, by intro h; cases h⟩⟩
    · rw [List.mem_singleton] at hx
      subst hx
      exact ⟨un hs3, fun g hg => ⟨h.mv g (hs4 g hg), by intro h; cases h⟩⟩
  · intro g hg
    rcases hmv g hg with h3 | h3
    · exact h.at_ g h3
    · omega
  · refine h.off.trans h2 (fun _ h => h) (fun i hi hy => ?_)
    rcases hy with rfl | hy
    · exact .inl rfl
    · have := h.at_ i hy
      omega
end

set_option maxHeartbeats 4000000 in
theorem feed_any {B : Nat} {w : World} {b m most : Nat} {V : Value} {s : St} (h : Df B w b m most V s) (hB : B ≤ w.heap.size) (hm : m < 4294967296) (hmost : most ≤ 1099511627776) (l : List Nat) (n : Nat) (A : Option Addr) (c : Nat) (hl : l.length = n) (hby : By l) (hn : n ≤ 274877906944)
    (hr : ∀ w', Offs (fun k => k = b ∨ V.ownBlock = some k) w w' → Rd w' w'.heap.size A l) :
    Calls Try.prog 10 #[.pointer (some ⟨b, 0, none⟩), .slice A n c] w fun e w' => ∃ V' v, e = .returned v ∧ Fd B w w' b m most V s l V' v := by
  obtain ⟨i0, hi, hz0, hz1, hz2⟩ := info_parts seg_info
  have HL := Lib.hid hl
  have HR := Lib.hid hr
  clear hl hr
  go_enter Try.func10, Try.ntmps10
  go_wp2_with fail
  go_step3
  go_wp2_with fail
  go_step3
  go_wp2_with fail
  go_loopw [5, 12] (fun v i wr => ∃ (k : Nat) (V' : Value), k ≤ n ∧ i = .int .i64 k ∧ Fd B w wr b m most V s (l.take k) V' v) (fun _ i _ => n - (intOf i).toNat)
  case atStart =>
    exact ⟨0, V, Nat.zero_le _, rfl, ⟨h, Tl.nil _ _ _ _, (fun g hg => by cases hg), Mv.refl _ _, Offs.refl _ _⟩⟩
  case round =>
    obtain ⟨k, V', hk, rfl, hF⟩ := hrel
    by_cases hlt : k < n
    · obtain ⟨ba, oa, x, rfl, _, hx, hcx⟩ := (HR.out wr hF.off).at_ (k := k) (by rw [HL.out]; exact hlt)
      have hx256 := hby.get hx
      have HX := Lib.hid hx
      clear hx
      have i1 : (0 : Int) ≤ k := by omega
      have i2 : (k : Int) < n := by omega
      obtain ⟨A', c', hv, hlc, hcm⟩ := hF.tl.shape
      have hBr : B ≤ wr.heap.size := Nat.le_trans hB hF.off.size
      obtain ⟨vs, hvs, hown, hds⟩ := hF.tl
      have HD := Lib.hid hds
      have HV := Lib.hid hvs
      have c0 := hF.df.cells.c0
      have c3 := hF.df.cells.c3
      have f3 := hF.df.cells.fz 3
      have hb3 := hF.df.cells.lt
      have HT := Lib.hid (show (run m most s (l.take k)).2.length ≤ k by
        refine Nat.le_trans (run_flags _) (Nat.le_trans (flags_le _) ?_)
        rw [List.length_take]; omega)
      clear hds hvs
      subst hv
      by_cases h126 : x = 126
      · subst h126
        obtain ⟨A2, n2, c2, hV2⟩ := tV_shape hF.df.own
        have HV2 := Lib.hid hV2
        clear hV2
        go_wp2_with fail
        refine (end_any hF.df).mono ?_
        rintro e w1 ⟨rfl, hd1, ho1⟩
        rw [HV2.out]
        have hown1 := own_off hown ho1 (fun g hg hgb => hF.df.cells.own_ne hown (by decide) (by rw [hg, hgb]))
        cases ht : tB (run m most s (l.take k)).1
        · have R := hF.quiet HX.out (V2 := .slice none 0 0) (w1 := w1) (by rw [stp_flag]; exact hd1) (by rw [stp_flag, tB_no ht]) (ho1.more (fun _ _ h => .inl h)) (Mv.nil _ _ _ _)
          go_wp2_with fail
          go_roundw
          case rel => exact ⟨k + 1, _, by omega, by go_num, R.below (((Below.refl _ _).alloc (Nat.le_refl _) _))⟩
          case measure => simp [intOf]; omega
        · have hA1 : Below w1.heap.size w1 ((w1.alloc (.cells #[.int .i64 (tK (run m most s (l.take k)).1 : Nat), .slice A2 n2 c2] 39)).alloc (.cells #[.int .i64 (tK (run m most s (l.take k)).1 : Nat), .slice A2 n2 c2] 39)) := ((Below.refl _ _).alloc (Nat.le_refl _) _).alloc (by simp) _
          have hown2 := own_off (X := fun _ => False) hown1 (.of_below hA1) (fun _ _ => id)
          have hb1 : Hid ((run m most s (l.take k)).2.length + 1 ≤ maxLen) := Lib.hid (by have := HT.out; unfold maxLen; omega)
          have hb2 : Hid (((run m most s (l.take k)).2.length + 1) * 32 ≤ 140737488355328) := Lib.hid (by have := HT.out; omega)
          have hb3 : Hid (B ≤ ((w1.alloc (.cells #[.int .i64 (tK (run m most s (l.take k)).1 : Nat), .slice A2 n2 c2] 39)).alloc (.cells #[.int .i64 (tK (run m most s (l.take k)).1 : Nat), .slice A2 n2 c2] 39)).heap.size) := Lib.hid (by have := ho1.size; simp; omega)
          have HO2 := Lib.hid hown2
          have HT2 := Lib.hid ht
          clear hown2 ht
          go_wp2_with (at_builtin; refine list_mv rfl _ _ 29 rfl 39 i0 (.agg #[.int .i64 0, .slice none 0 0]) 2 32 Try.underlying29 hi hz0 hz1 hz2 rfl (by decide) B _ _ _ rfl HO2.out (some ⟨w1.heap.size + 1, 0, none⟩) 1 1 [.int .i64 (tK (run m most s (l.take k)).1 : Nat), .slice A2 n2 c2] rfl (fun h => by cases h) rfl (fun ad had => by injection had with had; subst had; exact cells_at _ _ _ _ (by simp)) (fun x hx => by simp at hx; rcases hx with rfl | rfl <;> rfl) hb1.out hb2.out hb3.out ?_; intro v' w3 hown3 hgrow3 hmv3)
          have R := hF.told HX.out hd1 ho1 hA1 HT2.out vs HV.out HD.out (by rw [HV2.out]; exact hown3) hgrow3 hmv3
          go_roundw
          case rel => exact ⟨k + 1, _, by omega, by go_num, R⟩
          case measure => simp [intOf]; omega
      · have h126' : ((x : Int) == 126) = false := by simp; omega
        have H126 := Lib.hid h126
        clear h126
        obtain ⟨t, ht⟩ : ∃ t, Hid (hasB m x = t) := ⟨_, Lib.hid rfl⟩
        cases t
        · obtain ⟨q, hq⟩ : ∃ q, (run m most s (l.take k)).1.esc = q := ⟨_, rfl⟩
          have HQ := Lib.hid hq
          rw [hq] at c3
          clear hq
          cases q
          · by_cases h125 : x = 125
            · subst h125
              have d1 : Df B (wr.setCell ⟨b, 3, none⟩ (.bool true)) b m most V' ⟨(run m most s (l.take k)).1.held, true, (run m most s (l.take k)).1.long⟩ :=
                ⟨hF.df.lo, hF.df.cells.set3 true, own_off hF.df.own (Offs.set (X := fun i => i = b) _ _ _ _ rfl) (fun g hg hgb => hF.df.ne (by rw [hg, hgb])), hF.df.ok⟩
              have R := hF.quiet HX.out V' (by rw [stp_mark ht.out HQ.out]; exact d1) (by rw [stp_mark ht.out HQ.out]) (Offs.set _ _ _ _ (.inl rfl)) (Mv.refl _ _)
              go_wp2_with (go_at_call 19; refine (has_any m 125 hm hx256 _).mono ?_; rintro e w' ⟨rfl, rfl⟩; rw [ht.out])
              go_roundw
              case rel => exact ⟨k + 1, _, by omega, by go_num, R⟩
              case measure => simp [intOf]; omega
            · have h125' : ((x : Int) == 125) = false := by simp; omega
              have H125 := Lib.hid h125
              clear h125
              go_wp2_with (go_at_call 19; refine (has_any m x hm hx256 _).mono ?_; rintro e w' ⟨rfl, rfl⟩; rw [ht.out])
              refine (keep_any hF.df x hx256 hmost hBr).mono ?_
              rintro e w1 ⟨rfl, V2, hd2, ho2, hm2⟩
              have R := hF.quiet HX.out V2 (by rw [stp_keep H126.out H125.out ht.out HQ.out]; exact hd2) (by rw [stp_keep H126.out H125.out ht.out HQ.out]) ho2 hm2
              go_wp2_with fail
              go_roundw
              case rel => exact ⟨k + 1, _, by omega, by go_num, R⟩
              case measure => simp [intOf]; omega
          · have d1 : Df B (wr.setCell ⟨b, 3, none⟩ (.bool false)) b m most V' ⟨(run m most s (l.take k)).1.held, false, (run m most s (l.take k)).1.long⟩ :=
              ⟨hF.df.lo, hF.df.cells.set3 false, own_off hF.df.own (Offs.set (X := fun i => i = b) _ _ _ _ rfl) (fun g hg hgb => hF.df.ne (by rw [hg, hgb])), hF.df.ok⟩
            have ho1 : Offs (fun i => i = b ∨ V'.ownBlock = some i) wr (wr.setCell ⟨b, 3, none⟩ (.bool false)) := Offs.set _ _ _ _ (.inl rfl)
            have htv := turn_val hx256
            go_wp2_with (go_at_call 19; refine (has_any m x hm hx256 _).mono ?_; rintro e w' ⟨rfl, rfl⟩; rw [ht.out])
            refine (keep_any d1 (turn x) (turn_lt hx256) hmost (Nat.le_trans hBr ho1.size)).mono ?_
            rintro e w1 ⟨rfl, V2, hd2, ho2, hm2⟩
            have R := hF.quiet HX.out V2 (by rw [stp_esc H126.out ht.out HQ.out]; exact hd2) (by rw [stp_esc H126.out ht.out HQ.out]) (ho1.trans ho2 (fun _ h => h) (fun _ _ h => h)) (fun i hi => (hm2 i hi).imp id (fun h => Nat.le_trans ho1.size h))
            go_wp2_with fail
            go_roundw
            case rel => exact ⟨k + 1, _, by omega, by go_num, R⟩
            case measure => simp [intOf]; omega
        · have R := hF.quiet HX.out V' (by rw [stp_has ht.out]; exact hF.df) (by rw [stp_has ht.out]) (Offs.refl _ _) (Mv.refl _ _)
          go_wp2_with (go_at_call 19; refine (has_any m x hm hx256 _).mono ?_; rintro e w' ⟨rfl, rfl⟩; rw [ht.out])
          go_roundw
          case rel => exact ⟨k + 1, _, by omega, by go_num, R⟩
          case measure => simp [intOf]; omega
    · go_wp2
      obtain ⟨A', c', hv, _, _⟩ := hF.tl.shape
      subst hv
      try rw [Exit.noGoto_ret]
      go_ret
      have he : k = n := by omega
      subst he
      have e := List.take_of_length_le (l := l) (i := k) (by rw [HL.out]; omega)
      refine ⟨V', _, rfl, ?_⟩
      show Fd B w wr b m most V s l V' (.slice A' (run m most s (l.take k)).2.length c')
      rw [e] at hF ⊢
      exact hF

end Go.Proofs.Ytdpkccbcfedhbaa
