
/-
  The call Feed: the segments that bits end are told as the mathematics says, in rows of the call's own; what was held is handed on, never written again. No condition beyond: most and the bits counted at most 2^40.
-/
import Derived.Test.YteicednlgajpgaaSynT
import Derived.WalkMore
import Derived.Deep.LoopGhost
namespace Go.Proofs.Yteicednlgajpgaa
open Go.RowKit

/-- Segments as cells: each its kind and the slice of its octets. -/
def sgC (vs : List (Sg × Value)) : List Value := vs.flatMap fun x => [.int .i64 (x.1.1 : Int), x.2]
theorem sgC_app (a b : List (Sg × Value)) : sgC (a ++ b) = sgC a ++ sgC b := by simp [sgC]
theorem sgC_len (a : List (Sg × Value)) : (sgC a).length = a.length * 2 := by
  induction a with
  | nil => rfl
  | cons x t ih => show ([_, _] ++ sgC t).length = _; rw [List.length_append, ih, List.length_cons]; simp; omega
theorem sgC_get {vs : List (Sg × Value)} {k : Nat} {x : Sg × Value} (h : vs[k]? = some x) : (sgC vs)[2 * k]? = some (.int .i64 (x.1.1 : Int)) ∧ (sgC vs)[2 * k + 1]? = some x.2 := by
  induction vs generalizing k with
  | nil => cases h
  | cons y t ih =>
    cases k with
    | zero => injection h with h; subst h; exact ⟨rfl, rfl⟩
    | succ k =>
      have := ih (k := k) (by simpa using h)
      rw [show 2 * (k + 1) = 2 * k + 1 + 1 by omega]
      exact this

/-- A row of segments told: it is the call's own; the octets of each are a row in a block of F. -/
def Tl (B : Nat) (w : World) (T : TypeId) (F : Nat → Prop) (v : Value) (l : List Sg) : Prop :=
  ∃ vs : List (Sg × Value), vs.map (·.1) = l ∧ w.ownsRow B T 2 v l.length (sgC vs) ∧ ∀ x ∈ vs, w.ownsRow B 5 1 x.2 x.1.2.length (bvs x.1.2) ∧ ∀ g, x.2.ownBlock = some g → F g
section
variable {B : Nat} {w w' : World} {T : TypeId} {F F' X : Nat → Prop} {v : Value} {l : List Sg}
theorem Tl.nil (B : Nat) (w : World) (T : TypeId) (F : Nat → Prop) : Tl B w T F (.slice none 0 0) [] := ⟨[], rfl, World.ownsRow_nil _ _ _ _, fun _ h => by cases h⟩
theorem Tl.off (h : Tl B w T F v l) (ho : Offs X w w') (hv : ∀ g, v.ownBlock = some g → ¬ X g) (hF : ∀ g cur, w.heap[g]? = some (.cells cur 5 (0, 0)) → F g → ¬ X g ∧ F' g) : Tl B w' T F' v l := by
  obtain ⟨vs, e, hown, hd⟩ := h
  refine ⟨vs, e, own_off hown ho hv, fun x hx => ?_⟩
  obtain ⟨h1, h2⟩ := hd x hx
  refine ⟨own_off h1 ho (fun g hg => ?_), fun g hg => ?_⟩
  · obtain ⟨cur, hc⟩ := own_blk h1 hg
    exact (hF g cur hc (h2 g hg)).1
  · obtain ⟨cur, hc⟩ := own_blk h1 hg
    exact (hF g cur hc (h2 g hg)).2
theorem Tl.below (h : Tl B w T F v l) (ho : Below w.heap.size w w') : Tl B w' T F v l := h.off (X := fun _ => False) (.of_below ho) (fun _ _ => id) (fun _ _ _ h => ⟨id, h⟩)
theorem Tl.own (h : Tl B w T F v l) : ∃ xs, w.ownsRow B T 2 v l.length xs := by
  obtain ⟨vs, e, hown, hd⟩ := h
  exact ⟨_, hown⟩
theorem Tl.shape (h : Tl B w T F v l) : ∃ A c, v = .slice A l.length c ∧ l.length ≤ c ∧ c ≤ maxLen := by
  obtain ⟨xs, h⟩ := h.own
  exact own_shape h
theorem Tl.lt (h : Tl B w T F v l) {g : Nat} (hg : v.ownBlock = some g) : B ≤ g ∧ g < w.heap.size := by
  obtain ⟨xs, h⟩ := h.own
  exact h.lt g hg
end

theorem seg_info : (Try.prog.info? 38).map (fun i => (i.zero, i.size, i.bytes)) = some (some (.agg #[.int .i64 0, .slice none 0 0]), 2, 32) := by kernel_rfl

/-- What was fed: the deframer, the segments told, where they lie. -/
structure Fd (B : Nat) (w w' : World) (b most : Nat) (V1 V2 : Value) (s : St) (chunk : List Nat) (V1' V2' v : Value) : Prop where
  df : Df B w' b most V1' V2' (run most s chunk).1
  tl : Tl B w' 38 (fun g => (V1.ownBlock = some g ∨ w.heap.size ≤ g) ∧ V1'.ownBlock ≠ some g ∧ V2'.ownBlock ≠ some g) v (run most s chunk).2
  at_ : ∀ g, v.ownBlock = some g → w.heap.size ≤ g
  mv1 : Mv w.heap.size V1 V1'
  mv2 : Mv w.heap.size V2 V2'
  off : Offs (Xs b V1 V2) w w'

theorem stp_one {most : Nat} (s : St) : stp most s 1 = (s.one, []) := by unfold stp; rw [if_pos rfl]
theorem stp_end {most : Nat} {s : St} (h : s.row = 6) : stp most s 0 = (St.start, s.tell most) := by unfold stp; rw [if_neg (by decide), if_pos h]
theorem stp_calm {most : Nat} {s : St} (h : ¬ s.row = 6) : stp most s 0 = (s.settle most, []) := by unfold stp; rw [if_neg (by decide), if_neg h]

theorem tV_shape {B most : Nat} {w : World} {V : Value} {s : St} (h : w.ownsRow B 5 1 V s.held.length (bvs s.held)) : ∃ A n c, tV most V s = .slice A n c := by
  obtain ⟨A, c, hV, _, _⟩ := own_form h
  unfold tV
  split
  · exact ⟨_, _, _, rfl⟩
  split
  · exact ⟨_, _, _, rfl⟩
  split
  · exact ⟨_, _, _, rfl⟩
  split
  · exact ⟨_, _, _, rfl⟩
  · exact ⟨_, _, _, hV⟩

section
variable {B : Nat} {w wr w1 w2 w3 : World} {b most : Nat} {V1 V2 V1' V2' v v3 : Value} {s : St} {l : List Nat} {k x : Nat}
theorem Dk.cut {B0 : Nat} {T : TypeId} {n : Nat} {xs : List Value} {u : Value} (h : Df B w b most V1 V2 s) (hu : w.ownsRow B0 T 2 u n xs) (hT : T ≠ 43) (hT8 : T ≠ 5) : ∀ g, u.ownBlock = some g → ¬ Xs b V1 V2 g := by
  rintro g hg (rfl | hv | hv)
  · exact h.cells.own_ne hu hT hg
  · exact own_ne hu h.own1 hT8 hg hv
  · exact own_ne hu h.own2 hT8 hg hv
theorem Df.blk (h : Df B w b most V1 V2 s) {cur : Array Value} (hc : w.heap[b]? = some (.cells cur 5 (0, 0))) : False := by
  have := h.cells
  unfold Dc at this
  rw [this] at hc
  injection hc with hc
  injection hc with _ hc
  exact absurd hc (by decide)
/-- A step that tells nothing. -/
theorem Fd.quiet (h : Fd B w wr b most V1 V2 s (l.take k) V1' V2' v) (hx : l[k]? = some x) (hd : Dk B wr w1 b most V1' V2' (stp most (run most s (l.take k)).1 x).1) (ht : (stp most (run most s (l.take k)).1 x).2 = []) : ∃ U1 U2, Fd B w w1 b most V1 V2 s (l.take (k + 1)) U1 U2 v := by
  obtain ⟨U1, U2, hD, ho, m1, m2⟩ := hd
  obtain ⟨xs, hxs⟩ := h.tl.own
  refine ⟨U1, U2, by rw [run_take hx]; exact hD, ?_, h.at_, h.mv1.trans m1 h.off.size, h.mv2.trans m2 h.off.size, h.off.trans ho (fun _ h => h) (fun i hi hy => hy.old h.mv1 h.mv2 hi)⟩
  rw [run_take hx, ht, List.append_nil]
  refine h.tl.off ho (Dk.cut h.df hxs (by decide) (by decide)) ?_
  rintro g cur hc ⟨h1, h2, h3⟩
  have hlt := (Array.getElem?_eq_some_iff.1 hc).1
  refine ⟨?_, h1, ?_, ?_⟩
  · rintro (rfl | hv | hv)
    · exact h.df.blk hc
    · exact h2 hv
    · exact h3 hv
  · intro hv
    rcases m1 g hv with h4 | h4
    · exact h2 h4
    · omega
  · intro hv
    rcases m2 g hv with h4 | h4
    · exact h3 h4
    · omega

theorem Fd.below (h : Fd B w w1 b most V1 V2 s l V1' V2' v) (ho : Below w1.heap.size w1 w2) : Fd B w w2 b most V1 V2 s l V1' V2' v :=
  ⟨h.df.below ho, h.tl.below ho, h.at_, h.mv1, h.mv2, h.off.trans (.of_below (X := fun _ => False) ho) (fun _ h => h) (fun _ _ h => h.elim)⟩

/-- A step that tells a segment. -/
theorem Fd.told (h : Fd B w wr b most V1 V2 s (l.take k) V1' V2' v) (hx : l[k]? = some 0) (h6 : (run most s (l.take k)).1.row = 6) (hd : Df B w1 b most (.slice none 0 0) (.slice none 0 0) St.start) (ho : Offs (fun i => i = b) wr w1) (hb : Below w1.heap.size w1 w2) (ht : tB (run most s (l.take k)).1 = true)
    (vs : List (Sg × Value)) (hvs : vs.map (·.1) = (run most s (l.take k)).2) (hds : ∀ x ∈ vs, wr.ownsRow B 5 1 x.2 x.1.2.length (bvs x.1.2) ∧ ∀ g, x.2.ownBlock = some g → (V1.ownBlock = some g ∨ w.heap.size ≤ g) ∧ V1'.ownBlock ≠ some g ∧ V2'.ownBlock ≠ some g)
    (hown : w3.ownsRow B 38 2 v3 ((run most s (l.take k)).2.length + 1) (sgC vs ++ [.int .i64 (tK most (run most s (l.take k)).1 : Nat), tV most V1' (run most s (l.take k)).1])) (hg : w2.grownBy w3 v.ownBlock) (hmv : Mv w2.heap.size v v3) :
    Fd B w w3 b most V1 V2 s (l.take (k + 1)) (.slice none 0 0) (.slice none 0 0) v3 := by
  obtain ⟨xs, hxs⟩ := h.tl.own
  have h1 := Offs.trans (Z := fun i => i = b) ho (.of_below (X := fun i => i = b) hb) (fun _ h => h) (fun _ _ h => h)
  have h2 := Offs.trans (Z := fun i => i = b ∨ v.ownBlock = some i) h1 (.of_grown (X := fun i => v.ownBlock = some i) hg (fun _ h => h)) (fun _ h => .inl h) (fun _ _ h => .inr h)
  have hsz : w.heap.size ≤ w2.heap.size := Nat.le_trans h.off.size (Nat.le_trans ho.size hb.size)
  obtain ⟨sg, hs1, hs2, hs3, hs4⟩ := tV_own (most := most) h.df.own1 ht
  have un : ∀ {d : Value} {q : Nat} {ys : List Value}, wr.ownsRow B 5 1 d q ys → w3.ownsRow B 5 1 d q ys := fun hq => own_off hq h2 (by
    rintro g hg' (rfl | hv)
    · exact h.df.cells.own_ne hq (by decide) hg'
    · exact own_ne hq hxs (by decide) hg' hv)
  refine ⟨?_, ⟨vs ++ [(sg, tV most V1' (run most s (l.take k)).1)], ?_, ?_, ?_⟩, ?_, Mv.nil _ _ _ _, Mv.nil _ _ _ _, ?_⟩
  · rw [run_take hx, stp_end h6]
    refine (hd.below hb).off (X := fun i => v.ownBlock = some i) (.of_grown hg (fun _ h => h)) ?_ (fun _ h => by cases h) (fun _ h => by cases h)
    exact h.df.cells.own_ne hxs (by decide)
  · rw [run_take hx, stp_end h6, hs1, List.map_append, hvs]; rfl
  · have e : sgC [(sg, tV most V1' (run most s (l.take k)).1)] = [.int .i64 (tK most (run most s (l.take k)).1 : Nat), tV most V1' (run most s (l.take k)).1] := by rw [← hs2]; rfl
    rw [run_take hx, stp_end h6, hs1, List.length_append, sgC_app, e]
    exact hown
  · intro x hx
    rcases List.mem_append.1 hx with hx | hx
    · obtain ⟨h3, h4⟩ := hds x hx
      exact ⟨un h3, fun g hg => ⟨(h4 g hg).1, (fun h => by cases h), (fun h => by cases h)⟩⟩
    · rw [List.mem_singleton] at hx
      subst hx
      exact ⟨un hs3, fun g hg => ⟨h.mv1 g (hs4 g hg), (fun h => by cases h), (fun h => by cases h)⟩⟩
  · intro g hg
    rcases hmv g hg with h3 | h3
    · exact h.at_ g h3
    · omega
  · refine h.off.trans h2 (fun _ h => h) (fun i hi hy => ?_)
    rcases hy with rfl | hy
    · exact .inl rfl
    · have := h.at_ i hy
      omega
/-- A segment that tells nothing ends. -/
theorem Fd.hush (h : Fd B w wr b most V1 V2 s (l.take k) V1' V2' v) (hx : l[k]? = some 0) (h6 : (run most s (l.take k)).1.row = 6) (hd : Df B w1 b most (.slice none 0 0) (.slice none 0 0) St.start) (ho : Offs (fun i => i = b) wr w1) (ht : tB (run most s (l.take k)).1 = false) :
    ∃ U1 U2, Fd B w w1 b most V1 V2 s (l.take (k + 1)) U1 U2 v :=
  h.quiet hx ⟨.slice none 0 0, .slice none 0 0, by rw [stp_end h6]; exact hd, ho.more (fun _ _ h => .inl h), Mv.nil _ _ _ _, Mv.nil _ _ _ _⟩ (by rw [stp_end h6, tB_no ht])
/-- What was fed behind other memory. -/
theorem Fd.from (h : Fd B w1 w2 b most V1 V2 s l V1' V2' v) (hb : Below w.heap.size w w1) : Fd B w w2 b most V1 V2 s l V1' V2' v :=
  ⟨h.df, by obtain ⟨vs, e, ho, hd⟩ := h.tl; exact ⟨vs, e, ho, fun x hx => ⟨(hd x hx).1, fun g hg => ⟨((hd x hx).2 g hg).1.imp id (fun h => Nat.le_trans hb.size h), ((hd x hx).2 g hg).2⟩⟩⟩,
    fun g hg => Nat.le_trans hb.size (h.at_ g hg), fun g hg => (h.mv1 g hg).imp id (fun h => Nat.le_trans hb.size h), fun g hg => (h.mv2 g hg).imp id (fun h => Nat.le_trans hb.size h),
    (Offs.of_below (X := Xs b V1 V2) hb).trans h.off (fun _ h => h) (fun _ _ h => h)⟩
end

theorem sclean_any (l : List Nat) (n : Nat) (A : Option Addr) (c : Nat) (w : World) (h : Rd w w.heap.size A l) (hb : By l) (hn : l.length = n) (hl : n ≤ 1099511627776) :
    Calls Try.prog 18 #[.slice A n c] w fun e w' => ∃ A' c', e = .returned (.slice A' n c') ∧ New w w' A' c' n (lows l) := by
  go_enter Try.func18, Try.ntmps18
  go_wp2_with fail
  refine (clean_c l n A c w h hb hn hl).mono ?_
  rintro e w1 ⟨A1, c1, rfl, hN⟩
  go_wp2_with fail
  go_ret
  exact ⟨A1, c1, rfl, hN⟩

set_option maxHeartbeats 4000000 in
theorem feed_any {B : Nat} {w : World} {b most : Nat} {V1 V2 : Value} {s : St} (h : Df B w b most V1 V2 s) (hB : B ≤ w.heap.size) (hmost : most ≤ 1099511627776) (l : List Nat) (n : Nat) (A : Option Addr) (c : Nat) (hl : l.length = n) (hby : By l) (hn : s.tot + n ≤ 274877906944)
    (hr : Rd w w.heap.size A l) :
    Calls Try.prog 10 #[.pointer (some ⟨b, 0, none⟩), .slice A n c] w fun e w' => ∃ V1' V2' v, e = .returned v ∧ Fd B w w' b most V1 V2 s l V1' V2' v := by
  obtain ⟨i0, hi, hz0, hz1, hz2⟩ := info_parts seg_info
  have HLL := Lib.hid (show (lows l).length = n by rw [lows_len, hl])
  have HRL := Lib.hid (run_lows most l s)
  have HL := Lib.hid hl
  clear hl
  go_enter Try.func10, Try.ntmps10
  go_wp2_with fail
  refine (sclean_any l n A c w hr hby HL.out (by omega)).mono ?_
  rintro e w1 ⟨A2, c2, rfl, -, hc2, -, hb2⟩
  have hd1 := h.below hb2
  have hB1 := Nat.le_trans hB hb2.size
  have hsepc : ∀ g, (Value.slice A2 n c2).ownBlock = some g → ¬ Xs b V1 V2 g := by
    rintro g hg (rfl | hv | hv)
    · have := (hc2.lt g hg).1; have := h.cells.lt; omega
    · have := (hc2.lt g hg).1; have := (h.own1.lt g hv).2; omega
    · have := (hc2.lt g hg).1; have := (h.own2.lt g hv).2; omega
  have HSP := Lib.hid hsepc
  have HC2 := Lib.hid hc2
  have HB2 := Lib.hid hb2
  clear hsepc hc2 hb2
  go_wp2_with fail
  go_loopw [5, 13] (fun v i wr => ∃ (k : Nat) (V1' V2' : Value), k ≤ n ∧ i = .int .i64 k ∧ Fd B w1 wr b most V1 V2 s ((lows l).take k) V1' V2' v) (fun _ i _ => n - (intOf i).toNat)
  case atStart =>
    exact ⟨0, V1, V2, Nat.zero_le _, rfl, ⟨hd1, Tl.nil _ _ _ _, (fun g hg => by cases hg), Mv.refl _ _, Mv.refl _ _, Offs.refl _ _⟩⟩
  case round =>
    obtain ⟨k, V1', V2', hk, rfl, hF⟩ := hrel
    by_cases hlt : k < n
    · obtain ⟨ba, oa, x, rfl, _, hx, hcx⟩ := (Rd.own (own_off HC2.out hF.off HSP.out)).at_ (k := k) (by rw [HLL.out]; exact hlt)
      have hx2 : x = 0 ∨ x = 1 := by
        have := List.mem_of_getElem? hx
        simp only [lows, List.mem_map] at this
        obtain ⟨y, _, rfl⟩ := this
        omega
      have HX := Lib.hid hx
      clear hx
      have i1 : (0 : Int) ≤ k := by omega
      have i2 : (k : Int) < n := by omega
      have hBr : B ≤ wr.heap.size := Nat.le_trans hB1 hF.off.size
      obtain ⟨A', c', hv, hlc, hcm⟩ := hF.tl.shape
      have c5 := hF.df.cells.c5
      have htot : (run most s ((lows l).take k)).1.tot ≤ 274877906944 := by
        have := run_tot (most := most) ((lows l).take k) (s := s)
        rw [List.length_take] at this
        omega
      have HT := Lib.hid (show (run most s ((lows l).take k)).2.length ≤ k by
        refine Nat.le_trans (run_told _) ?_
        rw [List.length_take]; omega)
      have hcnt : (run most s ((lows l).take k)).1.count ≤ 1099511627776 := by unfold St.tot at htot; omega
      subst hv
      rcases hx2 with rfl | rfl
      · by_cases h6 : (run most s ((lows l).take k)).1.row = 6
        · rw [h6] at c5
          have H6 := Lib.hid h6
          obtain ⟨vs, hvs, hown, hds⟩ := hF.tl
          have HD := Lib.hid hds
          have HV := Lib.hid hvs
          obtain ⟨A3, n3, c3, hV3⟩ := tV_shape (most := most) hF.df.own1
          have HV3 := Lib.hid hV3
          clear hV3 h6 hds hvs
          go_wp2_with fail
          refine (end_any hF.df hcnt).mono ?_
          rintro e w1 ⟨rfl, hd1, ho1⟩
          rw [HV3.out]
          have hown1 := own_off hown ho1 (fun g hg hgb => hF.df.cells.own_ne hown (by decide) (by rw [hg, hgb]))
          cases ht : tB (run most s ((lows l).take k)).1
          · obtain ⟨U1, U2, R⟩ := hF.hush HX.out H6.out hd1 ho1 ht
            go_wp2_with fail
            go_roundw
            case rel => exact ⟨k + 1, _, _, by omega, by go_num, R.below (((Below.refl _ _).alloc (Nat.le_refl _) _))⟩
            case measure => simp [intOf]; omega
          · have hA1 : Below w1.heap.size w1 ((w1.alloc (.cells #[.int .i64 (tK most (run most s ((lows l).take k)).1 : Nat), .slice A3 n3 c3] 38)).alloc (.cells #[.int .i64 (tK most (run most s ((lows l).take k)).1 : Nat), .slice A3 n3 c3] 38)) := ((Below.refl _ _).alloc (Nat.le_refl _) _).alloc (by simp) _
            have hown2 := own_off (X := fun _ => False) hown1 (.of_below hA1) (fun _ _ => id)
            have hb1 : Hid ((run most s ((lows l).take k)).2.length + 1 ≤ maxLen) := Lib.hid (by have := HT.out; unfold maxLen; omega)
            have hb2 : Hid (((run most s ((lows l).take k)).2.length + 1) * 32 ≤ 140737488355328) := Lib.hid (by have := HT.out; omega)
            have hb3 : Hid (B ≤ ((w1.alloc (.cells #[.int .i64 (tK most (run most s ((lows l).take k)).1 : Nat), .slice A3 n3 c3] 38)).alloc (.cells #[.int .i64 (tK most (run most s ((lows l).take k)).1 : Nat), .slice A3 n3 c3] 38)).heap.size) := Lib.hid (by have := ho1.size; simp; omega)
            have HO2 := Lib.hid hown2
            have HT2 := Lib.hid ht
            clear hown2 ht
            go_wp2_with (at_builtin; refine list_mv rfl _ _ 28 rfl 38 i0 (.agg #[.int .i64 0, .slice none 0 0]) 2 32 Try.underlying28 hi hz0 hz1 hz2 rfl (by decide) B _ _ _ rfl HO2.out (some ⟨w1.heap.size + 1, 0, none⟩) 1 1 [.int .i64 (tK most (run most s ((lows l).take k)).1 : Nat), .slice A3 n3 c3] rfl (fun h => by cases h) rfl (fun ad had => by injection had with had; subst had; exact cells_at _ _ _ _ (by simp)) (fun x hx => by simp at hx; rcases hx with rfl | rfl <;> rfl) hb1.out hb2.out hb3.out ?_; intro v' w3 hown3 hgrow3 hmv3)
            have R := hF.told HX.out H6.out hd1 ho1 hA1 HT2.out vs HV.out HD.out (by rw [HV3.out]; exact hown3) hgrow3 hmv3
            go_roundw
            case rel => exact ⟨k + 1, _, _, by omega, by go_num, R⟩
            case measure => simp [intOf]; omega
        · have h6' : (((run most s ((lows l).take k)).1.row : Int) != 6) = true := by rw [bne_iff_ne]; omega
          have H6 := Lib.hid h6
          clear h6
          go_wp2_with fail
          refine (settle_any hF.df (by omega) hmost hBr).mono ?_
          rintro e w3 ⟨rfl, hD3⟩
          obtain ⟨U1, U2, R⟩ := hF.quiet HX.out (w1 := w3) (by rw [stp_calm H6.out]; exact hD3) (by rw [stp_calm H6.out])
          go_wp2_with fail
          go_roundw
          case rel => exact ⟨k + 1, _, _, by omega, by go_num, R⟩
          case measure => simp [intOf]; omega
      · go_wp2_with fail
        refine (one_any hF.df).mono ?_
        rintro e w3 ⟨rfl, hD3⟩
        obtain ⟨U1, U2, R⟩ := hF.quiet HX.out (w1 := w3) (by rw [stp_one]; exact hD3) (by rw [stp_one])
        go_wp2_with fail
        go_roundw
        case rel => exact ⟨k + 1, _, _, by omega, by go_num, R⟩
        case measure => simp [intOf]; omega
    · go_wp2
      obtain ⟨A', c', hv, _, _⟩ := hF.tl.shape
      subst hv
      try rw [Exit.noGoto_ret]
      go_ret
      have he : k = n := by omega
      subst he
      have e := List.take_of_length_le (l := lows l) (i := k) (by rw [HLL.out]; exact Nat.le_refl _)
      refine ⟨V1', V2', _, rfl, ?_⟩
      have R := hF.from HB2.out
      have ee : run most s ((lows l).take k) = run most s l := by rw [e, HRL.out]
      refine ⟨by have := R.df; rw [ee] at this; exact this, ?_, R.at_, R.mv1, R.mv2, R.off⟩
      have := R.tl
      rw [ee] at this ⊢
      exact this

end Go.Proofs.Yteicednlgajpgaa
