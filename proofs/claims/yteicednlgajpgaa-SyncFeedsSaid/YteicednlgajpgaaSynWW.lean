
/-
  The walk of the statement SyncWraps: it answers true for every most and three lists of bytes, and writes nothing that was there. No condition.
-/
import Derived.Test.YteicednlgajpgaaSynR
namespace Go.Proofs.Yteicednlgajpgaa
open Go.RowKit

theorem own_news {w : World} {base : Nat} {e : TypeId} {sz n c : Nat} {A : Option Addr} {xs : List Value} (h : w.ownsRow base e sz (.slice A n c) n xs) : ∀ ad, A = some ad → ∀ j u, xs[j]? = some u → w.cell? (ad.add j) = some u := by
  rintro ad rfl j u hu
  rcases h.2 with ⟨h0, _⟩ | ⟨g, cap, cur, hv, _⟩
  · cases h0
  · injection hv with hA _ _
    injection hA with hA
    subst hA
    exact h.cells (g := g) rfl j u hu
theorem own_zero {w : World} {base : Nat} {e : TypeId} {sz n c : Nat} {A : Option Addr} {xs : List Value} (h : w.ownsRow base e sz (.slice A n c) n xs) : A = none → n = 0 := by
  rintro rfl
  rcases h.2 with ⟨_, h0⟩ | ⟨g, cap, cur, hv, _⟩
  · exact h0
  · injection hv with hA _ _
    cases hA
theorem sgC_one {vs : List (Sg × Value)} {w : World} {B : Nat} (h : ∀ x ∈ vs, w.ownsRow B 5 1 x.2 x.1.2.length (bvs x.1.2)) : ∀ u ∈ sgC vs, u.oneCell' = true := by
  intro u hu
  unfold sgC at hu
  rw [List.mem_flatMap] at hu
  obtain ⟨x, hx, hu⟩ := hu
  obtain ⟨A, c, hv, _, _⟩ := own_form (h x hx)
  rw [hv] at hu
  simp at hu
  rcases hu with rfl | rfl <;> rfl
/-- Segments put behind segments. -/
theorem Tl.join {B : Nat} {w w' : World} {T : TypeId} {F : Nat → Prop} {v v' : Value} {l l2 : List Sg} {vs vs2 : List (Sg × Value)} (hvs : vs.map (·.1) = l) (hvs2 : vs2.map (·.1) = l2)
    (hds : ∀ x ∈ vs, w.ownsRow B 5 1 x.2 x.1.2.length (bvs x.1.2) ∧ ∀ g, x.2.ownBlock = some g → F g) (hds2 : ∀ x ∈ vs2, w.ownsRow B 5 1 x.2 x.1.2.length (bvs x.1.2) ∧ ∀ g, x.2.ownBlock = some g → F g)
    (hv : ∀ g, v.ownBlock = some g → ∃ cur, w.heap[g]? = some (.cells cur T (0, 0))) (hT : T ≠ 5) (hg : w.grownBy w' v.ownBlock) (hown : w'.ownsRow B T 2 v' (l.length + l2.length) (sgC vs ++ sgC vs2)) : Tl B w' T F v' (l ++ l2) := by
  have un : ∀ {q : Value} {k : Nat} {ys : List Value}, w.ownsRow B 5 1 q k ys → w'.ownsRow B 5 1 q k ys := fun hq => own_off hq (.of_grown (X := fun i => v.ownBlock = some i) hg (fun _ h => h)) (by
    intro g hg' hv'
    obtain ⟨c1, h1⟩ := own_blk hq hg'
    obtain ⟨c2, h2⟩ := hv g hv'
    rw [h1] at h2
    injection h2 with h2
    injection h2 with _ h2
    exact hT h2.symm)
  refine ⟨vs ++ vs2, by rw [List.map_append, hvs, hvs2], by rw [List.length_append, sgC_app]; exact hown, fun y hy => ?_⟩
  rcases List.mem_append.1 hy with hy | hy
  · exact ⟨un (hds y hy).1, (hds y hy).2⟩
  · exact ⟨un (hds2 y hy).1, (hds2 y hy).2⟩
/-- One of the segments, with the row of its octets. -/
theorem Tl.at_ {B : Nat} {w : World} {T : TypeId} {F : Nat → Prop} {A : Option Addr} {n c k : Nat} {l : List Sg} {x : Sg} (h : Tl B w T F (.slice A n c) l) (hk : l[k]? = some x) :
    ∃ g Ak ck, A = some ⟨g, 0, none⟩ ∧ w.cell? ⟨g, k * 2, none⟩ = some (.int .i64 (x.1 : Int)) ∧ w.cell? ⟨g, k * 2 + 1, none⟩ = some (.slice Ak x.2.length ck) ∧ w.ownsRow B 5 1 (.slice Ak x.2.length ck) x.2.length (bvs x.2) ∧ ∀ q, (Value.slice Ak x.2.length ck).ownBlock = some q → F q := by
  obtain ⟨vs, e, hown, hd⟩ := h
  have hkl : k < l.length := (List.getElem?_eq_some_iff.1 hk).1
  rcases hown.2 with ⟨_, h0⟩ | ⟨g, cap, cur, hv, _, _, _⟩
  · omega
  · injection hv with hA hn hc
    subst hA; subst hc
    rw [hn] at hown
    rw [← e, List.getElem?_map] at hk
    obtain ⟨y, hy, rfl⟩ := Option.map_eq_some_iff.1 hk
    obtain ⟨s1, s2⟩ := sgC_get hy
    obtain ⟨o1, o2⟩ := hd y (List.mem_of_getElem? hy)
    obtain ⟨Ak, ck, hyk, _, _⟩ := own_form o1
    rw [hyk] at o1 o2 s2
    refine ⟨g, Ak, ck, rfl, ?_, ?_, o1, o2⟩
    · have := hown.cellAt (k * 2) (by omega)
      rw [this, Nat.mul_comm]
      exact s1
    · have := hown.cellAt (k * 2 + 1) (by omega)
      rw [this, Nat.mul_comm]
      exact s2
theorem Tl.fed_mv {B B' : Nat} {w w' : World} {T : TypeId} {F : Nat → Prop} {v : Value} {l : List Sg} {b most : Nat} {V1 V2 V1' V2' : Value} {s : St} (h : Tl B w T F v l) (hT : T ≠ 43) (hT8 : T ≠ 5) (hd : Df B' w b most V1 V2 s)
    (ho : Offs (Xs b V1 V2) w w') (hF : ∀ g, F g → V1.ownBlock ≠ some g ∧ V2.ownBlock ≠ some g) (m1 : Mv w.heap.size V1 V1') (m2 : Mv w.heap.size V2 V2') : Tl B w' T (fun g => V1'.ownBlock ≠ some g ∧ V2'.ownBlock ≠ some g) v l := by
  have h2 : Tl B w T (fun g => (V1'.ownBlock ≠ some g ∧ V2'.ownBlock ≠ some g) ∧ V1.ownBlock ≠ some g ∧ V2.ownBlock ≠ some g) v l := h.off (Offs.refl (fun _ => False) w) (fun _ _ => id) (fun g cur hc hg => ⟨id, ⟨fun hv => by
    rcases m1 g hv with h1 | h1
    · exact (hF g hg).1 h1
    · have := (Array.getElem?_eq_some_iff.1 hc).1; omega, fun hv => by
    rcases m2 g hv with h1 | h1
    · exact (hF g hg).2 h1
    · have := (Array.getElem?_eq_some_iff.1 hc).1; omega⟩, hF g hg⟩)
  exact (h2.fed hT hT8 hd ho (fun g hg => hg.2)).mono (fun g hg => hg.1)
theorem Tl.lts {B : Nat} {w : World} {T : TypeId} {F : Nat → Prop} {v : Value} {l : List Sg} (h : Tl B w T F v l) : Tl B w T (fun g => g < w.heap.size) v l :=
  h.off (Offs.refl (fun _ => False) w) (fun _ _ => id) (fun _ _ hc _ => ⟨id, (Array.getElem?_eq_some_iff.1 hc).1⟩)
theorem Tl.grown {B base : Nat} {w w' : World} {T e : TypeId} {F : Nat → Prop} {v v1 : Value} {l : List Sg} {sz n : Nat} {xs : List Value} (h : Tl B w T F v l) (h1 : w.ownsRow base e sz v1 n xs) (hg : w.grownBy w' v1.ownBlock) (hT : T ≠ e) (hT8 : 5 ≠ e) : Tl B w' T F v l := by
  obtain ⟨ys, hys⟩ := h.own
  refine h.off (X := fun i => v1.ownBlock = some i) (.of_grown hg (fun _ h => h)) (fun g hg' => own_ne hys h1 hT hg') (fun g cur hc hF => ⟨fun hv => ?_, hF⟩)
  obtain ⟨c2, h2⟩ := own_blk h1 hv
  rw [hc] at h2
  injection h2 with h2
  injection h2 with _ h2
  exact hT8 h2
theorem own7_lo {B B' : Nat} {w : World} {T : TypeId} {F : Nat → Prop} {v : Value} {l : List Sg} (h : Tl B w T F v l) (hB : B' ≤ B) : Tl B' w T F v l := by
  obtain ⟨vs, e, hown, hd⟩ := h
  exact ⟨vs, e, own_lo hown hB, fun x hx => ⟨own_lo (hd x hx).1 hB, (hd x hx).2⟩⟩
section
variable (a : Int) (A : Option Addr) (n c : Nat) (A2 : Option Addr) (n2 c2 : Nat) (A3 : Option Addr) (n3 c3 : Nat) (w : World)
set_option maxHeartbeats 2000000 in
theorem swraps_out (h : a < 1 ∨ 1048576 < a ∨ 300 < n ∨ 60 < n2 ∨ 300 < n3) :
    Calls Try.prog 5 #[.int .i64 a, .slice A n c, .slice A2 n2 c2, .slice A3 n3 c3] w fun e w' => e = .returned (.bool true) ∧ Below w.heap.size w w' := by
  by_cases h1 : a < 1
  · clear h
    go_enter Try.func5, Try.ntmps5
    go_wp2_with fail
    refine (speaks7_any _).mono ?_
    rintro e w1 ⟨rfl, hB1⟩
    go_wp2_with fail
    refine (speaks7_any _).mono ?_
    rintro e w2 ⟨rfl, hb2⟩
    go_wp2_with fail
    go_ret
    exact ⟨rfl, hB1.trans (hb2.mono hB1.size)⟩
  by_cases h2 : 1048576 < a
  · clear h
    go_enter Try.func5, Try.ntmps5
    go_wp2_with fail
    refine (speaks7_any _).mono ?_
    rintro e w1 ⟨rfl, hB1⟩
    go_wp2_with fail
    refine (speaks7_any _).mono ?_
    rintro e w2 ⟨rfl, hb2⟩
    go_wp2_with fail
    go_ret
    exact ⟨rfl, hB1.trans (hb2.mono hB1.size)⟩
  by_cases h3 : (300 : Int) < (n : Int)
  · clear h
    go_enter Try.func5, Try.ntmps5
    go_wp2_with fail
    refine (speaks7_any _).mono ?_
    rintro e w1 ⟨rfl, hB1⟩
    go_wp2_with fail
    refine (speaks7_any _).mono ?_
    rintro e w2 ⟨rfl, hb2⟩
    go_wp2_with fail
    go_ret
    exact ⟨rfl, hB1.trans (hb2.mono hB1.size)⟩
  by_cases h4 : (60 : Int) < (n2 : Int)
  · clear h
    go_enter Try.func5, Try.ntmps5
    go_wp2_with fail
    refine (speaks7_any _).mono ?_
    rintro e w1 ⟨rfl, hB1⟩
    go_wp2_with fail
    refine (speaks7_any _).mono ?_
    rintro e w2 ⟨rfl, hb2⟩
    go_wp2_with fail
    go_ret
    exact ⟨rfl, hB1.trans (hb2.mono hB1.size)⟩
  have h5 : (300 : Int) < (n3 : Int) := by omega
  clear h
  go_enter Try.func5, Try.ntmps5
  go_wp2_with fail
  refine (speaks7_any _).mono ?_
  rintro e w1 ⟨rfl, hB1⟩
  go_wp2_with fail
  refine (speaks7_any _).mono ?_
  rintro e w2 ⟨rfl, hb2⟩
  go_wp2_with fail
  go_ret
  exact ⟨rfl, hB1.trans (hb2.mono hB1.size)⟩
end

set_option maxHeartbeats 8000000 in
theorem swraps_walk (most : Nat) (hm1 : 1 ≤ most) (hm2 : most ≤ 1048576) (l l2 l3 : List Nat) (A : Option Addr) (n c : Nat) (A2 : Option Addr) (n2 c2 : Nat) (A3 : Option Addr) (n3 c3 : Nat) (w : World)
    (hl : l.length = n) (hb : By l) (h : Rd w w.heap.size A l) (hl2 : l2.length = n2) (hb2 : By l2) (h2 : Rd w w.heap.size A2 l2) (hl3 : l3.length = n3) (hb3 : By l3) (h3 : Rd w w.heap.size A3 l3) (h4 : n ≤ 300) (h5 : n2 ≤ 60) (h6 : n3 ≤ 300) :
    Calls Try.prog 5 #[.int .i64 (most : Int), .slice A n c, .slice A2 n2 c2, .slice A3 n3 c3] w fun e w' => e = .returned (.bool true) ∧ Below w.heap.size w w' := by
  obtain ⟨i0, hi, hz0, hz1, hz2⟩ := info_parts byte_info
  obtain ⟨i9, hi9, hz90, hz91, hz92⟩ := info_parts seg_info
  have HL := Lib.hid hl
  have HR := Lib.hid h
  have HL2 := Lib.hid hl2
  have HR2 := Lib.hid h2
  have HL3 := Lib.hid hl3
  have HR3 := Lib.hid h3
  clear hl h hl2 h2 hl3 h3
  have i1 : ¬ (most : Int) < 1 := by omega
  have i2 : ¬ (1048576 : Int) < (most : Int) := by omega
  have i3 : ¬ (300 : Int) < (n : Int) := by omega
  have i4 : ¬ (60 : Int) < (n2 : Int) := by omega
  have i5 : ¬ (300 : Int) < (n3 : Int) := by omega
  go_enter Try.func5, Try.ntmps5
  go_wp2_with fail
  refine (speaks7_any _).mono ?_
  rintro e w1 ⟨rfl, hB1⟩
  go_wp2_with fail
  refine (new_any most _).mono ?_
  rintro e w2 ⟨b, rfl, hbb, hbl, hD, hb2'⟩
  have hd2 := hD w.heap.size hB1.size
  have hB2 := hB1.trans (hb2'.mono hB1.size)
  clear hD hb2' hB1 hbb i1 i2 i3 i4 i5
  have hown2 : (w2.alloc (.cells #[] 5)).ownsRow w.heap.size 5 1 (.slice (some ⟨w2.heap.size, 0, none⟩) 0 0) 0 (bvs []) := World.ownsRow_lit w2 _ 0 hB2.size (by unfold maxLen; omega) rfl
  have hB3 := hB2.alloc hB2.size (.cells #[] 5)
  have hr3 := (HR.out.below hB3).more hB3.size
  have hd3 := hd2.below ((Below.refl w2.heap.size w2).alloc (Nat.le_refl _) (.cells #[] 5))
  go_wp2_with (at_builtin; refine list_mv rfl _ _ 27 rfl 5 i0 (.int .u8 0) 1 1 Try.underlying27 hi hz0 hz1 hz2 rfl (by decide) w.heap.size _ _ _ rfl hown2 A l.length c (bvs l) (by rw [HL.out]; rfl) (rd_nil hr3) (by rw [bvs_len]; omega) (rd_news hr3) (bvs_one l) (by have := HL.out; unfold maxLen; omega) (by have := HL.out; omega) hB3.size ?_; intro v4 w4 hown4 hgrow4 hmv4)
  rw [show bvs ([] : List Nat) ++ bvs l = bvs l from rfl, Nat.zero_add] at hown4
  have hd4 := hd3.off (X := fun i => i = w2.heap.size) (.of_grown hgrow4 (fun k hk => by injection hk with hk; exact hk.symm)) (by intro h; omega) (fun g hg => by cases hg) (fun g hg => by cases hg)
  have hB4 := hB3.grown hgrow4 hB3.size (fun g hg => (hown2.lt g hg).1)
  obtain ⟨A4, c4, rfl, _, _⟩ := own_form hown4
  clear hown2 hgrow4 hmv4 hd3 hd2 hB2 hr3 hB3
  refine (flag_any w4).mono ?_
  rintro e w5 ⟨A5, c5, rfl, hN5⟩
  have ho5 := own_off (X := fun _ => False) hown4 (.of_below hN5.2.2.2) (fun _ _ => id)
  have hB5 := hB4.trans (hN5.2.2.2.mono hB4.size)
  have hd5 := hd4.below hN5.2.2.2
  have hr5 := hN5.2.2.1
  have hne5 : (Value.slice A4 l.length c4).ownBlock ≠ some b := hd4.cells.own_ne hown4 (by decide)
  clear hN5 hown4 hd4 hB4
  go_wp2_with (at_builtin; refine list_mv rfl _ _ 27 rfl 5 i0 (.int .u8 0) 1 1 Try.underlying27 hi hz0 hz1 hz2 rfl (by decide) w.heap.size _ _ _ rfl ho5 A5 8 c5 (bvs flagL) rfl (rd_nil hr5) (by rw [bvs_len]; rfl) (rd_news hr5) (bvs_one _) (by have := HL.out; unfold maxLen; omega) (by have := HL.out; omega) hB5.size ?_; intro v6 w6 hown6 hgrow6 hmv6)
  have hd6 := hd5.off (X := fun i => (Value.slice A4 l.length c4).ownBlock = some i) (.of_grown hgrow6 (fun _ h => h)) hne5 (fun g hg => by cases hg) (fun g hg => by cases hg)
  have hB6 := hB5.grown hgrow6 hB5.size (fun g hg => (ho5.lt g hg).1)
  rw [← bvs_app] at hown6
  obtain ⟨A6, c6, rfl, hc6, _⟩ := own_form hown6
  have hr6 := Rd.own hown6
  have hl6 : (l ++ flagL).length = l.length + 8 := by rw [List.length_append]; rfl
  have hb6 : By (l ++ flagL) := hb.app flagL_by
  have hln : l.length ≤ 300 := by have := HL.out; omega
  have HB6 := Lib.hid hb6
  have HL6 := Lib.hid hl6
  clear hgrow6 hmv6 hown6 ho5 hd5 hB5 hb6 hl6 hr5 hne5
  refine (all_any most (l ++ flagL) (l.length + 8) A6 c6 w6 hr6 HB6.out HL6.out hc6 (by omega)).mono ?_
  rintro e w7 ⟨v7, rfl, htl7, hb67⟩
  have hd7 := hd6.below hb67
  have hB7 := hB6.trans (hb67.mono hB6.size)
  -- what was told ahead, and by the flag
  obtain ⟨s1, hs1⟩ : ∃ s, (run most St.start l).1 = s := ⟨_, rfl⟩
  obtain ⟨told1, ht1⟩ : ∃ t, (run most St.start l).2 = t := ⟨_, rfl⟩
  obtain ⟨t1, hft⟩ : ∃ t, (run most s1 flagL).2 = t := ⟨_, rfl⟩
  have hall : allP most (l ++ flagL) = told1 ++ t1 := by
    rw [← run_spec most (l ++ flagL), run_app2, hs1, ht1, hft]
  have hlen1 : told1.length ≤ 300 := by rw [← ht1]; exact Nat.le_trans (run_told _) hln
  have htot1 : s1.tot ≤ 300 := by
    rw [← hs1]
    have := run_tot (most := most) l (s := St.start)
    have h0 : St.start.tot = 0 := rfl
    omega
  have hok1 : ∀ x ∈ told1, x.ok most := by rw [← ht1]; exact run_ok _ (ok_start _)
  have hsok : s1.ok most := by rw [← hs1]; exact ok_run _ (ok_start _)
  have hokt : ∀ x ∈ t1, x.ok most := by rw [← hft]; exact run_ok _ hsok
  have hlt1 : t1.length ≤ 8 := by rw [← hft]; exact run_told _
  have hfok : ∀ x ∈ told1 ++ t1, x.ok most := by
    intro x hx
    rcases List.mem_append.1 hx with hx | hx
    · exact hok1 x hx
    · exact hokt x hx
  have hflen : (told1 ++ t1).length ≤ 308 := by rw [List.length_append]; omega
  have hwr := run_wrap (most := most) s1 hb2
  rw [hft] at hwr
  generalize hF : told1 ++ t1 = fst at hall hfok hflen
  rw [hall] at htl7
  obtain ⟨A7, c7, rfl, hc7, hcm7⟩ := htl7.shape
  have htl7 := (own7_lo htl7 hB6.size).lts
  have hsz7 := hB7.size
  have HFOK := Lib.hid hfok
  have HF := Lib.hid hF
  have HWR := Lib.hid hwr
  have HS1 := Lib.hid hs1
  have HT1 := Lib.hid ht1
  have HC7 := Lib.hid (And.intro hc7 hcm7)
  clear hd6 hb67 hr6 hfok hF hwr hs1 ht1 hall hok1 hsok hc7 hcm7 hc6 hft hokt
  go_wp2_with fail
  refine (feed_any hd7 hB7.size (by omega) l n A c HL.out hb (by show 0 + n ≤ _; omega) ((HR.out.below hB7).more hB7.size)).mono ?_
  rintro e w8 ⟨X1, X2, v8, rfl, hF8⟩
  have hB8 := hB7.trans (hF8.below_ hd7 hB7.size)
  have hd8 := hF8.df
  rw [HS1.out] at hd8
  have ht8 := hF8.tl.mono (F' := fun g => X1.ownBlock ≠ some g ∧ X2.ownBlock ≠ some g) (fun g h => h.2)
  rw [HT1.out] at ht8
  have hf8 := htl7.fed (by decide) (by decide) hd7 hF8.off (fun g _ => ⟨(fun h => by cases h), (fun h => by cases h)⟩)
  have hX1lo : ∀ g, X1.ownBlock = some g → w7.heap.size ≤ g := fun g hg => (hF8.mv1 g hg).resolve_left (fun h => by cases h)
  have hX2lo : ∀ g, X2.ownBlock = some g → w7.heap.size ≤ g := fun g hg => (hF8.mv2 g hg).resolve_left (fun h => by cases h)
  obtain ⟨A8, c8, rfl, hc8, hcm8⟩ := ht8.shape
  have HC8 := Lib.hid (And.intro hc8 hcm8)
  clear hF8 hd7 htl7 hc8 hcm8
  go_wp2_with fail
  refine (wrap_any l2 n2 A2 c2 w8 ((HR2.out.below hB8).more hB8.size) hb2 HL2.out (by omega)).mono ?_
  rintro e w9 ⟨A9, c9, k9, rfl, hk9, hN⟩
  have hb89 := hN.2.2.2
  have hB9 := hB8.trans (hb89.mono hB8.size)
  have hd9 := hd8.below hb89
  have ht9 := ht8.below hb89
  have hf9 := hf8.below hb89
  have hr9 := hN.2.2.1
  have HL9 := Lib.hid hN.1
  clear hN hd8 ht8 hf8
  go_wp2_with fail
  refine (feed_any hd9 hB9.size (by omega) (wrapB l2) k9 A9 c9 HL9.out (wrapB_by _) (by omega) hr9).mono ?_
  rintro e w10 ⟨Y1, Y2, v10, rfl, hF10⟩
  have hB10 := hB9.trans (hF10.below_ hd9 hB9.size)
  have hd10 := hF10.df
  have hu10 := hF10.tl.mono (F' := fun g => Y1.ownBlock ≠ some g ∧ Y2.ownBlock ≠ some g) (fun g h => h.2)
  have hmv1 := hF10.mv1
  have hmv2 := hF10.mv2
  have hoff10 := hF10.off
  have HWR' := Lib.hid (show run most s1 (wrapB l2) = (St.start, t1 ++ wrapT most l2) from HWR.out)
  rw [HWR'.out] at hd10 hu10
  have ht10 := ht9.fed_mv (by decide) (by decide) hd9 hoff10 (fun g h => h) hmv1 hmv2
  have hf10 := hf9.fed (by decide) (by decide) hd9 hoff10 (fun g hg => ⟨(fun hv => by have := hX1lo g hv; omega), (fun hv => by have := hX2lo g hv; omega)⟩)
  obtain ⟨tail, htail⟩ : ∃ t, wrapT most l2 = t := ⟨_, rfl⟩
  have hu10 : Tl w.heap.size w10 38 (fun g => Y1.ownBlock ≠ some g ∧ Y2.ownBlock ≠ some g) v10 (t1 ++ tail) := by rw [← htail]; exact hu10
  have hul : (t1 ++ tail).length ≤ 9 := by
    rw [List.length_append, ← htail]
    have : (wrapT most l2).length ≤ 1 := by
      unfold wrapT
      split
      · exact Nat.zero_le _
      split
      · exact Nat.le_refl _
      · exact Nat.le_refl _
    omega
  have hgot : told1 ++ (t1 ++ tail) = fst ++ tail := by rw [← List.append_assoc, HF.out]
  generalize hU : t1 ++ tail = told2 at hu10 hul hgot
  obtain ⟨A10, c10, rfl, hc10, hcm10⟩ := hu10.shape
  obtain ⟨vs, hvs, hown, hds⟩ := ht10
  obtain ⟨us, hus, hown2, hds2⟩ := hu10
  have HD10 := Lib.hid hd10
  have HF10 := Lib.hid hf10
  have HVS := Lib.hid hvs
  have HUS := Lib.hid hus
  have HOWN := Lib.hid hown
  have HOWN2 := Lib.hid hown2
  have HDS := Lib.hid hds
  have HDS2 := Lib.hid hds2
  have HUL : (sgC us).length = told2.length * 2 := by rw [sgC_len, ← hus, List.length_map]
  have HUL' := Lib.hid HUL
  have HGOT := Lib.hid hgot
  have HTAIL := Lib.hid htail
  have hsz10 := hB10.size
  clear hF10 hd9 hd10 ht9 hf9 hf10 hoff10 hmv1 hmv2 hvs hus hown hown2 hds hds2 HUL hgot htail hU hr9 hb89 hX1lo hX2lo hc10 hcm10
  go_wp2_with (at_builtin; refine list_mv rfl _ _ 28 rfl 38 i9 (.agg #[.int .i64 0, .slice none 0 0]) 2 32 Try.underlying28 hi9 hz90 hz91 hz92 rfl (by decide) w.heap.size _ _ _ rfl HOWN.out A10 told2.length c10 (sgC us) rfl (own_zero HOWN2.out) HUL'.out (own_news HOWN2.out) (sgC_one (fun x hx => (HDS2.out x hx).1)) (by unfold maxLen; omega) (by omega) hsz10 ?_; intro v11 w11 hown11 hgrow11 hmv11)
  have htl11 := Tl.join HVS.out HUS.out HDS.out HDS2.out (fun g hg => own_blk HOWN.out hg) (by decide) hgrow11 hown11
  have hd11 := HD10.out.off (X := fun i => (Value.slice A8 told1.length c8).ownBlock = some i) (.of_grown hgrow11 (fun _ h => h)) (fun h => HD10.out.cells.own_ne HOWN.out (by decide) h) (fun g hg h => own_ne HD10.out.own1 HOWN.out (by decide) hg h) (fun g hg h => own_ne HD10.out.own2 HOWN.out (by decide) hg h)
  have hf11 := HF10.out.grown HOWN.out hgrow11 (by decide) (by decide)
  have hB11 := hB10.grown hgrow11 hB10.size (fun g hg => (HOWN.out.lt g hg).1)
  rw [HGOT.out] at htl11
  obtain ⟨A11, c11, rfl, hc11, hcm11⟩ := htl11.shape
  have HTL := Lib.hid htl11
  have HD11 := Lib.hid hd11
  have hs1' := (htl11.read (n := (fst ++ tail).length)).take fst.length
  rw [List.take_left] at hs1'
  have hs2' := hf11.read (n := fst.length)
  have HSA := Lib.hid hs1'
  have HSB := Lib.hid hs2'
  have hlt : (fst ++ tail).length = fst.length + tail.length := List.length_append
  clear hgrow11 hmv11 hown11 htl11 hd11 hf11 hs1' hs2'
  rw [hlt] at hc11 HTL ⊢
  have hjj : ¬ ((fst.length : Int) + (tail.length : Int) < (fst.length : Int)) := by omega
  have hj2 : (fst.length : Int) ≤ (c11 : Int) := by omega
  have hj3 : (0 : Int) ≤ (fst.length : Int) := by omega
  have hfle : ∀ x ∈ fst, x.2.length ≤ 1099511627776 := fun x hx => by have := (HFOK.out x hx).2.1; omega
  have HFLE := Lib.hid hfle
  clear hfle
  go_wp2_with fail
  refine (Same_yes fst fst.length A11 A7 c11 c7 w11 HSA.out HSB.out rfl (by omega) HFLE.out).mono ?_
  rintro e w12 ⟨rfl, hb12⟩
  have hB12 := hB11.trans (hb12.mono hB11.size)
  have hd12 := HD11.out.below hb12
  have htl12 := HTL.out.below hb12
  by_cases hn0 : n2 = 0
  · have h0 : l2 = [] := List.eq_nil_of_length_eq_zero (by rw [HL2.out]; exact hn0)
    have ht0 : tail = [] := by rw [← HTAIL.out, h0]; rfl
    subst hn0
    subst ht0
    clear htl12 HTL HTAIL
    go_wp2_with fail
    go_ret
    exact ⟨by simp, hB12⟩
  · have hn0' : ((n2 : Int) == 0) = false := by simp; omega
    have hne : l2 ≠ [] := by intro h1; have := HL2.out; rw [h1] at this; exact hn0 this.symm
    by_cases hbig : most < n2
    · have ht0 : tail = [(4, [])] := by rw [← HTAIL.out]; unfold wrapT; rw [if_neg hne, if_pos (by rw [HL2.out]; exact hbig)]
      have hbig' : (most : Int) < (n2 : Int) := by omega
      subst ht0
      obtain ⟨g, Ak, ck, rfl, q1, q2, q3, q4⟩ := htl12.at_ (k := fst.length) (x := (4, [])) (by simp)
      have j1 : (fst.length : Int) < (fst.length : Int) + 1 := by omega
      clear htl12 HTL HTAIL hne hn0 hbig q3 q4
      simp only [List.length_singleton, List.length_nil] at *
      go_wp2_with fail
      go_ret
      exact ⟨rfl, hB12.alloc hB12.size _⟩
    · have ht0 : tail = [(0, l2)] := by rw [← HTAIL.out]; unfold wrapT; rw [if_neg hne, if_neg (by rw [HL2.out]; exact hbig)]
      have hbig' : ¬ (most : Int) < (n2 : Int) := by omega
      subst ht0
      obtain ⟨g, Ak, ck, rfl, q1, q2, q3, q4⟩ := htl12.at_ (k := fst.length) (x := (0, l2)) (by simp)
      have j1 : (fst.length : Int) < (fst.length : Int) + 1 := by omega
      have hl2n := HL2.out
      have Q3 := Lib.hid q3
      have Q4 := Lib.hid q4
      clear htl12 HTL HTAIL hne hn0 hbig q3 q4
      simp only [List.length_singleton] at *
      have hbA := (Below.refl w12.heap.size w12).alloc (Nat.le_refl _) (.cells #[.int .i64 0, .slice Ak n2 ck] 38)
      have hB13 := hB12.alloc hB12.size (.cells #[.int .i64 0, .slice Ak n2 ck] 38)
      have hd13 := hd12.below hbA
      have ho13 := own_off (X := fun _ => False) Q3.out (.of_below hbA) (fun _ _ => id)
      have hv13 : (w12.alloc (.cells #[.int .i64 0, .slice Ak n2 ck] 38)).heap[w12.heap.size]? = some (.cells #[.int .i64 0, .slice Ak n2 ck] 38 (0, 0)) := heap_alloc_new w12 _
      have hblt : b < w12.heap.size := hd12.cells.lt
      have hY1lt : ∀ q, Y1.ownBlock = some q → q < w12.heap.size := fun q hq => (hd12.own1.lt q hq).2
      have hY2lt : ∀ q, Y2.ownBlock = some q → q < w12.heap.size := fun q hq => (hd12.own2.lt q hq).2
      clear hbA
      go_wp2_with fail
      refine (feed_any hd13 hB13.size (by omega) l3 n3 A3 c3 HL3.out hb3 (by show 0 + n3 ≤ _; omega) ((HR3.out.below hB13).more hB13.size)).mono ?_
      rintro e w14 ⟨Z1, Z2, v14, rfl, hF14⟩
      have hB14 := hB13.trans (hF14.below_ hd13 hB13.size)
      have hv14 : w14.heap[w12.heap.size]? = some (.cells #[.int .i64 0, .slice Ak n2 ck] 38 (0, 0)) := (hF14.off.block w12.heap.size (by simp) (by
        rintro (h | h | h)
        · omega
        · have := hY1lt _ h; omega
        · have := hY2lt _ h; omega)).trans hv13
      have c0 : w14.cell? ⟨w12.heap.size, 0, none⟩ = some (.int .i64 0) := by rw [cell_of_row w14 _ 0 _ _ _ hv14]; rfl
      have c1 : w14.cell? ⟨w12.heap.size, 1, none⟩ = some (.slice Ak n2 ck) := by rw [cell_of_row w14 _ 1 _ _ _ hv14]; rfl
      have ho14 := own_fed ho13 hd13 hF14.off (fun q hq => Q4.out q hq)
      have hr14 := Rd.own ho14
      clear hF14 hd13 ho13 hv13 hv14 ho14 hd12
      go_wp2_with fail
      refine (equal_yes l2 l2 n2 n2 Ak A2 ck c2 w14 hr14 ((HR2.out.below hB14).more hB14.size) HL2.out HL2.out (by omega) rfl).mono ?_
      rintro e w15 ⟨rfl, hb15⟩
      have hB15 := hB14.trans (hb15.mono hB14.size)
      go_wp2_with fail
      go_ret
      exact ⟨rfl, hB15⟩

end Go.Proofs.Yteicednlgajpgaa
