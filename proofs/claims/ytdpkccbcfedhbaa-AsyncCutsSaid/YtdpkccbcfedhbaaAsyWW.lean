
/-
  The walk of the statement AsyncWraps: it answers true for every two maps, most and three lists of bytes, and writes nothing that was there. No condition.
-/
import Derived.Test.YtdpkccbcfedhbaaAsyR
namespace Go.Proofs.Ytdpkccbcfedhbaa
open Go.RowKit

theorem and_in (m p c : Nat) (h : hasB (m &&& p) c = true) : hasB m c = true := by
  have bit : ∀ q, hasB q c = (decide (c < 32) && q.testBit c) := fun q => by rw [hasB, Nat.testBit_eq_decide_div_mod_eq]
  rw [bit, Bool.and_eq_true] at h ⊢
  refine ⟨h.1, ?_⟩
  have h2 := h.2
  rw [Nat.testBit_and, Bool.and_eq_true] at h2
  exact h2.1
theorem own_news {w : World} {base : Nat} {e : TypeId} {sz n c : Nat} {A : Option Addr} {xs : List Value} (h : w.ownsRow base e sz (.slice A n c) n xs) : ∀ ad, A = some ad → ∀ j u, xs[j]? = some u → w.cell? (ad.add j) = some u := by
  rintro ad rfl j u hu
  rcases h.2 with ⟨h0, _⟩ | ⟨g, cap, cur, hv, _⟩
  · cases h0
  · injection hv with hA _ _
    injection hA with hA
    subst hA
    exact h.cells (g := g) rfl j u hu
theorem own_zero {w : World} {base : Nat} {e : TypeId} {sz n c : Nat} {A : Option Addr} {xs : List Value} (h : w.ownsRow base e sz (.slice A n c) n xs) : A = none → n = 0 := by
  rintro rfl
  rcases h.2 with ⟨_, h0⟩ | ⟨g, cap, cur, hv, _⟩
  · exact h0
  · injection hv with hA _ _
    cases hA
theorem sgC_one {vs : List (Sg × Value)} {w : World} {B : Nat} (h : ∀ x ∈ vs, w.ownsRow B 5 1 x.2 x.1.2.length (bvs x.1.2)) : ∀ u ∈ sgC vs, u.oneCell' = true := by
  intro u hu
  unfold sgC at hu
  rw [List.mem_flatMap] at hu
  obtain ⟨x, hx, hu⟩ := hu
  obtain ⟨A, c, hv, _, _⟩ := own_form (h x hx)
  rw [hv] at hu
  simp at hu
  rcases hu with rfl | rfl <;> rfl
/-- Segments put behind segments. -/
theorem Tl.join {B : Nat} {w w' : World} {T : TypeId} {F : Nat → Prop} {v v' : Value} {l l2 : List Sg} {vs vs2 : List (Sg × Value)} (hvs : vs.map (·.1) = l) (hvs2 : vs2.map (·.1) = l2)
    (hds : ∀ x ∈ vs, w.ownsRow B 5 1 x.2 x.1.2.length (bvs x.1.2) ∧ ∀ g, x.2.ownBlock = some g → F g) (hds2 : ∀ x ∈ vs2, w.ownsRow B 5 1 x.2 x.1.2.length (bvs x.1.2) ∧ ∀ g, x.2.ownBlock = some g → F g)
    (hv : ∀ g, v.ownBlock = some g → ∃ cur, w.heap[g]? = some (.cells cur T (0, 0))) (hT : T ≠ 5) (hg : w.grownBy w' v.ownBlock) (hown : w'.ownsRow B T 2 v' (l.length + l2.length) (sgC vs ++ sgC vs2)) : Tl B w' T F v' (l ++ l2) := by
  have un : ∀ {q : Value} {k : Nat} {ys : List Value}, w.ownsRow B 5 1 q k ys → w'.ownsRow B 5 1 q k ys := fun hq => own_off hq (.of_grown (X := fun i => v.ownBlock = some i) hg (fun _ h => h)) (by
    intro g hg' hv'
    obtain ⟨c1, h1⟩ := own_blk hq hg'
    obtain ⟨c2, h2⟩ := hv g hv'
    rw [h1] at h2
    injection h2 with h2
    injection h2 with _ h2
    exact hT h2.symm)
  refine ⟨vs ++ vs2, by rw [List.map_append, hvs, hvs2], by rw [List.length_append, sgC_app]; exact hown, fun y hy => ?_⟩
  rcases List.mem_append.1 hy with hy | hy
  · exact ⟨un (hds y hy).1, (hds y hy).2⟩
  · exact ⟨un (hds2 y hy).1, (hds2 y hy).2⟩
/-- One of the segments, with the row of its octets. -/
theorem Tl.at_ {B : Nat} {w : World} {T : TypeId} {F : Nat → Prop} {A : Option Addr} {n c k : Nat} {l : List Sg} {x : Sg} (h : Tl B w T F (.slice A n c) l) (hk : l[k]? = some x) :
    ∃ g Ak ck, A = some ⟨g, 0, none⟩ ∧ w.cell? ⟨g, k * 2, none⟩ = some (.int .i64 (x.1 : Int)) ∧ w.cell? ⟨g, k * 2 + 1, none⟩ = some (.slice Ak x.2.length ck) ∧ w.ownsRow B 5 1 (.slice Ak x.2.length ck) x.2.length (bvs x.2) ∧ ∀ q, (Value.slice Ak x.2.length ck).ownBlock = some q → F q := by
  obtain ⟨vs, e, hown, hd⟩ := h
  have hkl : k < l.length := (List.getElem?_eq_some_iff.1 hk).1
  rcases hown.2 with ⟨_, h0⟩ | ⟨g, cap, cur, hv, _, _, _⟩
  · omega
  · injection hv with hA hn hc
    subst hA; subst hc
    rw [hn] at hown
    rw [← e, List.getElem?_map] at hk
    obtain ⟨y, hy, rfl⟩ := Option.map_eq_some_iff.1 hk
    obtain ⟨s1, s2⟩ := sgC_get hy
    obtain ⟨o1, o2⟩ := hd y (List.mem_of_getElem? hy)
    obtain ⟨Ak, ck, hyk, _, _⟩ := own_form o1
    rw [hyk] at o1 o2 s2
    refine ⟨g, Ak, ck, rfl, ?_, ?_, o1, o2⟩
    · have := hown.cellAt (k * 2) (by omega)
      rw [this, Nat.mul_comm]
      exact s1
    · have := hown.cellAt (k * 2 + 1) (by omega)
      rw [this, Nat.mul_comm]
      exact s2
theorem Tl.fed_mv {B B' : Nat} {w w' : World} {T : TypeId} {F : Nat → Prop} {v : Value} {l : List Sg} {b m most : Nat} {V V' : Value} {s : St} (h : Tl B w T F v l) (hT : T ≠ 45) (hT8 : T ≠ 5) (hd : Df B' w b m most V s)
    (ho : Offs (fun k => k = b ∨ V.ownBlock = some k) w w') (hF : ∀ g, F g → V.ownBlock ≠ some g) (hmv : Mv w.heap.size V V') : Tl B w' T (fun g => V'.ownBlock ≠ some g) v l := by
  have h2 : Tl B w T (fun g => V'.ownBlock ≠ some g ∧ V.ownBlock ≠ some g) v l := h.off (Offs.refl (fun _ => False) w) (fun _ _ => id) (fun g cur hc hg => ⟨id, fun hv => by
    rcases hmv g hv with h1 | h1
    · exact hF g hg h1
    · have := (Array.getElem?_eq_some_iff.1 hc).1; omega, hF g hg⟩)
  exact (h2.fed hT hT8 hd ho (fun g hg => hg.2)).mono (fun g hg => hg.1)
theorem Tl.lts {B : Nat} {w : World} {T : TypeId} {F : Nat → Prop} {v : Value} {l : List Sg} (h : Tl B w T F v l) : Tl B w T (fun g => g < w.heap.size) v l :=
  h.off (Offs.refl (fun _ => False) w) (fun _ _ => id) (fun _ _ hc _ => ⟨id, (Array.getElem?_eq_some_iff.1 hc).1⟩)
theorem Tl.grown {B base : Nat} {w w' : World} {T e : TypeId} {F : Nat → Prop} {v v1 : Value} {l : List Sg} {sz n : Nat} {xs : List Value} (h : Tl B w T F v l) (h1 : w.ownsRow base e sz v1 n xs) (hg : w.grownBy w' v1.ownBlock) (hT : T ≠ e) (hT8 : 5 ≠ e) : Tl B w' T F v l := by
  obtain ⟨ys, hys⟩ := h.own
  refine h.off (X := fun i => v1.ownBlock = some i) (.of_grown hg (fun _ h => h)) (fun g hg' => own_ne hys h1 hT hg') (fun g cur hc hF => ⟨fun hv => ?_, hF⟩)
  obtain ⟨c2, h2⟩ := own_blk h1 hv
  rw [hc] at h2
  injection h2 with h2
  injection h2 with _ h2
  exact hT8 h2
theorem own7_lo {B B' : Nat} {w : World} {T : TypeId} {F : Nat → Prop} {v : Value} {l : List Sg} (h : Tl B w T F v l) (hB : B' ≤ B) : Tl B' w T F v l := by
  obtain ⟨vs, e, hown, hd⟩ := h
  exact ⟨vs, e, own_lo hown hB, fun x hx => ⟨own_lo (hd x hx).1 hB, (hd x hx).2⟩⟩
theorem held_zero {B : Nat} {w : World} {b m most : Nat} {V : Value} (h : Df B w b m most V St.start) :
    Calls Try.prog 15 #[.pointer (some ⟨b, 0, none⟩)] w fun e w' => e = .returned (.int .i64 0) ∧ w = w' :=
  (held_any h).mono fun _ _ ⟨he, hw⟩ => ⟨he, hw⟩

section
variable (m p : Nat) (a : Int) (A : Option Addr) (n c : Nat) (A2 : Option Addr) (n2 c2 : Nat) (A3 : Option Addr) (n3 c3 : Nat) (w : World)
set_option maxHeartbeats 2000000 in
theorem awraps_out (h : a < 1 ∨ 1048576 < a ∨ 200 < n ∨ 200 < n2 ∨ 200 < n3) :
    Calls Try.prog 4 #[.int .u32 (m : Int), .int .u32 (p : Int), .int .i64 a, .slice A n c, .slice A2 n2 c2, .slice A3 n3 c3] w fun e w' => e = .returned (.bool true) ∧ Below w.heap.size w w' := by
  by_cases h1 : a < 1
  · clear h
    go_enter Try.func4, Try.ntmps4
    go_wp2_with fail
    refine (speaks5_any _).mono ?_
    rintro e w1 ⟨rfl, hB1⟩
    go_wp2_with fail
    refine (speaks5_any _).mono ?_
    rintro e w2 ⟨rfl, hb2⟩
    go_wp2_with fail
    go_ret
    exact ⟨rfl, hB1.trans (hb2.mono hB1.size)⟩
  by_cases h2 : 1048576 < a
  · clear h
    go_enter Try.func4, Try.ntmps4
    go_wp2_with fail
    refine (speaks5_any _).mono ?_
    rintro e w1 ⟨rfl, hB1⟩
    go_wp2_with fail
    refine (speaks5_any _).mono ?_
    rintro e w2 ⟨rfl, hb2⟩
    go_wp2_with fail
    go_ret
    exact ⟨rfl, hB1.trans (hb2.mono hB1.size)⟩
  by_cases h3 : (200 : Int) < (n : Int)
  · clear h
    go_enter Try.func4, Try.ntmps4
    go_wp2_with fail
    refine (speaks5_any _).mono ?_
    rintro e w1 ⟨rfl, hB1⟩
    go_wp2_with fail
    refine (speaks5_any _).mono ?_
    rintro e w2 ⟨rfl, hb2⟩
    go_wp2_with fail
    go_ret
    exact ⟨rfl, hB1.trans (hb2.mono hB1.size)⟩
  by_cases h4 : (200 : Int) < (n2 : Int)
  · clear h
    go_enter Try.func4, Try.ntmps4
    go_wp2_with fail
    refine (speaks5_any _).mono ?_
    rintro e w1 ⟨rfl, hB1⟩
    go_wp2_with fail
    refine (speaks5_any _).mono ?_
    rintro e w2 ⟨rfl, hb2⟩
    go_wp2_with fail
    go_ret
    exact ⟨rfl, hB1.trans (hb2.mono hB1.size)⟩
  have h5 : (200 : Int) < (n3 : Int) := by omega
  clear h
  go_enter Try.func4, Try.ntmps4
  go_wp2_with fail
  refine (speaks5_any _).mono ?_
  rintro e w1 ⟨rfl, hB1⟩
  go_wp2_with fail
  refine (speaks5_any _).mono ?_
  rintro e w2 ⟨rfl, hb2⟩
  go_wp2_with fail
  go_ret
  exact ⟨rfl, hB1.trans (hb2.mono hB1.size)⟩
end

set_option maxHeartbeats 8000000 in
theorem awraps_walk (m p most : Nat) (hm : m < 4294967296) (hp : p < 4294967296) (hm1 : 1 ≤ most) (hm2 : most ≤ 1048576) (l l2 l3 : List Nat) (A : Option Addr) (n c : Nat) (A2 : Option Addr) (n2 c2 : Nat) (A3 : Option Addr) (n3 c3 : Nat) (w : World)
    (hl : l.length = n) (hb : By l) (h : Rd w w.heap.size A l) (hl2 : l2.length = n2) (hb2 : By l2) (h2 : Rd w w.heap.size A2 l2) (hl3 : l3.length = n3) (hb3 : By l3) (h3 : Rd w w.heap.size A3 l3) (h4 : n ≤ 200) (h5 : n2 ≤ 200) (h6 : n3 ≤ 200) :
    Calls Try.prog 4 #[.int .u32 (m : Int), .int .u32 (p : Int), .int .i64 (most : Int), .slice A n c, .slice A2 n2 c2, .slice A3 n3 c3] w fun e w' => e = .returned (.bool true) ∧ Below w.heap.size w w' := by
  obtain ⟨i0, hi, hz0, hz1, hz2⟩ := info_parts byte_info
  obtain ⟨i9, hi9, hz90, hz91, hz92⟩ := info_parts seg_info
  have HL := Lib.hid hl
  have HR := Lib.hid h
  have HL2 := Lib.hid hl2
  have HR2 := Lib.hid h2
  have HL3 := Lib.hid hl3
  have HR3 := Lib.hid h3
  have HAND := u32_and_nat m p hm hp
  have hrlt : m &&& p < 4294967296 := Nat.lt_of_le_of_lt Nat.and_le_left hm
  have hin := Lib.hid (and_in m p)
  generalize m &&& p = r at HAND hrlt hin
  clear hl h hl2 h2 hl3 h3
  have i1 : ¬ (most : Int) < 1 := by omega
  have i2 : ¬ (1048576 : Int) < (most : Int) := by omega
  have i3 : ¬ (200 : Int) < (n : Int) := by omega
  have i4 : ¬ (200 : Int) < (n2 : Int) := by omega
  have i5 : ¬ (200 : Int) < (n3 : Int) := by omega
  go_enter Try.func4, Try.ntmps4
  go_wp2_with fail
  refine (speaks5_any _).mono ?_
  rintro e w1 ⟨rfl, hB1⟩
  go_wp2_with fail
  refine (new_any r most _).mono ?_
  rintro e w2 ⟨b, rfl, hbb, hbl, hD, hb2'⟩
  have hd2 := hD w.heap.size hB1.size
  have hB2 := hB1.trans (hb2'.mono hB1.size)
  clear hD hb2' hB1 hbb i1 i2 i3 i4 i5
  have hown2 : (w2.alloc (.cells #[] 5)).ownsRow w.heap.size 5 1 (.slice (some ⟨w2.heap.size, 0, none⟩) 0 0) 0 (bvs []) := World.ownsRow_lit w2 _ 0 hB2.size (by unfold maxLen; omega) rfl
  have hB3 := hB2.alloc hB2.size (.cells #[] 5)
  have hr3 := (HR.out.below hB3).more hB3.size
  have hd3 := hd2.below ((Below.refl w2.heap.size w2).alloc (Nat.le_refl _) (.cells #[] 5))
  go_wp2_with (first
    | (at_builtin; have _g := hown2; clear _g; refine list_mv rfl _ _ 28 rfl 5 i0 (.int .u8 0) 1 1 Try.underlying28 hi hz0 hz1 hz2 rfl (by decide) w.heap.size _ _ _ rfl hown2 A l.length c (bvs l) (by rw [HL.out]; rfl) (rd_nil hr3) (by rw [bvs_len]; omega) (rd_news hr3) (bvs_one l) (by have := HL.out; unfold maxLen; omega) (by have := HL.out; omega) hB3.size ?_; intro v4 w4 hown4 hgrow4 hmv4; rw [show bvs ([] : List Nat) ++ bvs l = bvs l from rfl, Nat.zero_add] at hown4; have hd4 := hd3.off (X := fun i => i = w2.heap.size) (.of_grown hgrow4 (fun k hk => by injection hk with hk; exact hk.symm)) (by intro h; omega) (fun g hg => by cases hg); have hB4 := hB3.grown hgrow4 hB3.size (fun g hg => (hown2.lt g hg).1); obtain ⟨A4, c4, rfl, _, _⟩ := own_form hown4; have ho5 := own_off (X := fun _ => False) hown4 (.of_below ((Below.refl w4.heap.size w4).alloc (Nat.le_refl _) (.cells #[.int .u8 126] 5))) (fun _ _ => id); have hB5 := hB4.alloc hB4.size (.cells #[.int .u8 126] 5); clear hown2 hgrow4 hmv4)
    | (at_builtin; refine list_mv rfl _ _ 28 rfl 5 i0 (.int .u8 0) 1 1 Try.underlying28 hi hz0 hz1 hz2 rfl (by decide) w.heap.size _ _ _ rfl ho5 (some ⟨w4.heap.size, 0, none⟩) 1 1 (bvs [126]) rfl (fun h => by cases h) rfl (fun ad had => by injection had with had; subst had; exact cells_at _ _ _ _ rfl) (bvs_one _) (by have := HL.out; unfold maxLen; omega) (by have := HL.out; omega) hB5.size ?_; intro v6 w6 hown6 hgrow6 hmv6))
  have hd5 := hd4.below ((Below.refl w4.heap.size w4).alloc (Nat.le_refl _) (.cells #[.int .u8 126] 5))
  have hd6 := hd5.off (X := fun i => (Value.slice A4 l.length c4).ownBlock = some i) (.of_grown hgrow6 (fun _ h => h)) (fun h => hd4.cells.own_ne hown4 (by decide) h) (fun g hg => by cases hg)
  have hB6 := hB5.grown hgrow6 hB5.size (fun g hg => (ho5.lt g hg).1)
  rw [← bvs_app] at hown6
  obtain ⟨A6, c6, rfl, hc6, _⟩ := own_form hown6
  have hr6 := Rd.own hown6
  have hl6 : (l ++ [126]).length = l.length + 1 := by rw [List.length_append]; rfl
  have hb6 : By (l ++ [126]) := hb.app (by intro x hx; rw [List.mem_singleton] at hx; omega)
  have hln : l.length ≤ 200 := by have := HL.out; omega
  have HB6 := Lib.hid hb6
  have HL6 := Lib.hid hl6
  clear hgrow6 hmv6 hown6 hown4 ho5 hd5 hd4 hd3 hd2 hr3 hB2 hB3 hB4 hB5 hb6 hl6
  refine (all_any r most hrlt (l ++ [126]) (l.length + 1) A6 c6 w6 hr6 HB6.out HL6.out hc6 (by omega)).mono ?_
  rintro e w7 ⟨v7, rfl, htl7, hb67⟩
  have hd7 := hd6.below hb67
  have hB7 := hB6.trans (hb67.mono hB6.size)
  -- what was told ahead, and by the flag
  obtain ⟨s1, hs1⟩ : ∃ s, (run r most St.start l).1 = s := ⟨_, rfl⟩
  obtain ⟨told1, ht1⟩ : ∃ t, (run r most St.start l).2 = t := ⟨_, rfl⟩
  have hall : allP r most (l ++ [126]) = told1 ++ s1.tell := by
    have h1 := run_spec r most (l ++ [126])
    rw [run_app, run_one, stp_flag, hs1, ht1] at h1
    have h2 := congrArg Prod.snd h1
    exact h2.symm
  have hlen1 : told1.length ≤ 200 := by rw [← ht1]; exact Nat.le_trans (run_flags _) (Nat.le_trans (flags_le _) hln)
  have hok1 : ∀ x ∈ told1, x.ok most := by rw [← ht1]; exact run_ok _ (ok_start _) hb
  have hsok : s1.ok most := by rw [← hs1]; exact ok_run _ (ok_start _) hb
  have hfok : ∀ x ∈ told1 ++ s1.tell, x.ok most := by
    intro x hx
    rcases List.mem_append.1 hx with hx | hx
    · exact hok1 x hx
    · exact tell_ok hsok x hx
  have hflen : (told1 ++ s1.tell).length ≤ 201 := by rw [List.length_append]; have := tell_len s1; omega
  have hwr := run_wrap (m := m) (n := r) (most := most) s1 l2 hin.out
  generalize hF : told1 ++ s1.tell = fst at hall hfok hflen
  rw [hall] at htl7
  obtain ⟨A7, c7, rfl, hc7, hcm7⟩ := htl7.shape
  have htl7 := (own7_lo htl7 hB6.size).lts
  have hsz7 := hB7.size
  have HFOK := Lib.hid hfok
  have HF := Lib.hid hF
  have HWR := Lib.hid hwr
  have HS1 := Lib.hid hs1
  have HT1 := Lib.hid ht1
  have HC7 := Lib.hid (And.intro hc7 hcm7)
  clear hd6 hb67 hr6 hfok hF hwr hs1 ht1 hall hok1 hsok hc7 hcm7 hc6
  go_wp2_with fail
  refine (feed_old hd7 hB7.size hrlt (by omega) l n A c HL.out hb (by omega) (HR.out.below hB7)).mono ?_
  rintro e w8 ⟨V8, v8, rfl, hF8⟩
  have hB8 := hB7.trans (hF8.below_ hd7 hB7.size)
  have hd8 := hF8.df
  rw [HS1.out] at hd8
  have ht8 := hF8.tl.mono (F' := fun g => V8.ownBlock ≠ some g) (fun g h => h.2)
  rw [HT1.out] at ht8
  have hf8 := htl7.fed (by decide) (by decide) hd7 hF8.off (fun g _ h => by cases h)
  have hV8lo : ∀ g, V8.ownBlock = some g → w7.heap.size ≤ g := fun g hg => (hF8.mv g hg).resolve_left (fun h => by cases h)
  obtain ⟨A8, c8, rfl, hc8, hcm8⟩ := ht8.shape
  have HC8 := Lib.hid (And.intro hc8 hcm8)
  clear hF8 hd7 htl7 hc8 hcm8
  go_wp2_with fail
  refine (wrap_any m hm l2 n2 A2 c2 w8 ((HR2.out.below hB8).more hB8.size) hb2 HL2.out (by omega)).mono ?_
  rintro e w9 ⟨A9, c9, k9, rfl, hk9, hN⟩
  have hb89 := hN.2.2.2
  have hB9 := hB8.trans (hb89.mono hB8.size)
  have hd9 := hd8.below hb89
  have ht9 := ht8.below hb89
  have hf9 := hf8.below hb89
  have ho9 := hN.2.1
  have hby9 : By ([126] ++ (esc m l2 ++ [126])) := by
    refine By.app ?_ (By.app (esc_by hb2) ?_)
    · intro x hx; rw [List.mem_singleton] at hx; omega
    · intro x hx; rw [List.mem_singleton] at hx; omega
  have HBY9 := Lib.hid hby9
  have hV8 : ∀ g, (Value.slice A9 k9 c9).ownBlock = some g → V8.ownBlock ≠ some g := fun g hg hv => by have := (ho9.lt g hg).1; have := (hd8.own.lt g hv).2; omega
  have hVlt : ∀ g, V8.ownBlock = some g → g < w8.heap.size := fun g hv => (hd8.own.lt g hv).2
  clear hN hd8 ht8 hf8 hby9
  go_wp2_with fail
  refine (feed_own hd9 hB9.size hrlt (by omega) ([126] ++ (esc m l2 ++ [126])) k9 A9 c9 HBY9.out (by omega) ho9 hV8).mono ?_
  rintro e w10 ⟨V10, v10, rfl, hF10⟩
  have hB10 := hB9.trans (hF10.below_ hd9 hB9.size)
  have hd10 := hF10.df
  have hu10 := hF10.tl.mono (F' := fun g => V10.ownBlock ≠ some g) (fun g h => h.2)
  have hmv10 := hF10.mv
  have hoff10 := hF10.off
  rw [HWR.out] at hd10 hu10
  have ht10 := ht9.fed_mv (by decide) (by decide) hd9 hoff10 (fun g h => h) hmv10
  have hf10 := hf9.fed (by decide) (by decide) hd9 hoff10 (fun g hg hv => by have := hV8lo g hv; omega)
  obtain ⟨tail, htail⟩ : ∃ t, wrapT most l2 = t := ⟨_, rfl⟩
  have hu10 : Tl w.heap.size w10 39 (fun g => V10.ownBlock ≠ some g) v10 (s1.tell ++ tail) := by rw [← htail]; exact hu10
  have hul : (s1.tell ++ tail).length ≤ 2 := by
    rw [List.length_append, ← htail]
    have := tell_len s1
    have : (wrapT most l2).length ≤ 1 := by
      unfold wrapT
      split
      · exact Nat.zero_le _
      split
      · exact Nat.le_refl _
      · exact Nat.le_refl _
    omega
  have hgot : told1 ++ (s1.tell ++ tail) = fst ++ tail := by rw [← List.append_assoc, HF.out]
  generalize hU : s1.tell ++ tail = told2 at hu10 hul hgot
  obtain ⟨A10, c10, rfl, hc10, hcm10⟩ := hu10.shape
  obtain ⟨vs, hvs, hown, hds⟩ := ht10
  obtain ⟨us, hus, hown2, hds2⟩ := hu10
  have HD10 := Lib.hid hd10
  have HF10 := Lib.hid hf10
  have HVS := Lib.hid hvs
  have HUS := Lib.hid hus
  have HOWN := Lib.hid hown
  have HOWN2 := Lib.hid hown2
  have HDS := Lib.hid hds
  have HDS2 := Lib.hid hds2
  have HUL : (sgC us).length = told2.length * 2 := by rw [sgC_len, ← hus, List.length_map]
  have HUL' := Lib.hid HUL
  have HGOT := Lib.hid hgot
  have HTAIL := Lib.hid htail
  have hsz10 := hB10.size
  clear hF10 hd9 hd10 ht9 hf9 hf10 hoff10 hmv10 hvs hus hown hown2 hds hds2 HUL hgot htail hU ho9 hb89 hV8 hVlt hV8lo hc10 hcm10
  go_wp2_with (at_builtin; refine list_mv rfl _ _ 29 rfl 39 i9 (.agg #[.int .i64 0, .slice none 0 0]) 2 32 Try.underlying29 hi9 hz90 hz91 hz92 rfl (by decide) w.heap.size _ _ _ rfl HOWN.out A10 told2.length c10 (sgC us) rfl (own_zero HOWN2.out) HUL'.out (own_news HOWN2.out) (sgC_one (fun x hx => (HDS2.out x hx).1)) (by unfold maxLen; omega) (by omega) hsz10 ?_; intro v11 w11 hown11 hgrow11 hmv11)
  have htl11 := Tl.join HVS.out HUS.out HDS.out HDS2.out (fun g hg => own_blk HOWN.out hg) (by decide) hgrow11 hown11
  have hd11 := HD10.out.off (X := fun i => (Value.slice A8 told1.length c8).ownBlock = some i) (.of_grown hgrow11 (fun _ h => h)) (fun h => HD10.out.cells.own_ne HOWN.out (by decide) h) (fun g hg h => own_ne HD10.out.own HOWN.out (by decide) hg h)
  have hf11 := HF10.out.grown HOWN.out hgrow11 (by decide) (by decide)
  have hB11 := hB10.grown hgrow11 hB10.size (fun g hg => (HOWN.out.lt g hg).1)
  rw [HGOT.out] at htl11
  obtain ⟨A11, c11, rfl, hc11, hcm11⟩ := htl11.shape
  have HTL := Lib.hid htl11
  have HD11 := Lib.hid hd11
  have hs1' := (htl11.read (n := (fst ++ tail).length)).take fst.length
  rw [List.take_left] at hs1'
  have hs2' := hf11.read (n := fst.length)
  have HSA := Lib.hid hs1'
  have HSB := Lib.hid hs2'
  have hlt : (fst ++ tail).length = fst.length + tail.length := List.length_append
  clear hgrow11 hmv11 hown11 htl11 hd11 hf11 hs1' hs2'
  rw [hlt] at hc11 HTL ⊢
  have hjj : ¬ ((fst.length : Int) + (tail.length : Int) < (fst.length : Int)) := by omega
  have hj2 : (fst.length : Int) ≤ (c11 : Int) := by omega
  have hj3 : (0 : Int) ≤ (fst.length : Int) := by omega
  have hfle : ∀ x ∈ fst, x.2.length ≤ 1099511627776 := fun x hx => by have := (HFOK.out x hx).2.1; omega
  have HFLE := Lib.hid hfle
  clear hfle
  go_wp2_with fail
  refine (Same_yes fst fst.length A11 A7 c11 c7 w11 HSA.out HSB.out rfl (by omega) HFLE.out).mono ?_
  rintro e w12 ⟨rfl, hb12⟩
  have hB12 := hB11.trans (hb12.mono hB11.size)
  have hd12 := HD11.out.below hb12
  have htl12 := HTL.out.below hb12
  go_wp2_with fail
  refine (held_zero hd12).mono ?_
  rintro e w13 ⟨rfl, rfl⟩
  by_cases hn0 : n2 = 0
  · have h0 : l2 = [] := List.eq_nil_of_length_eq_zero (by rw [HL2.out]; exact hn0)
    have ht0 : tail = [] := by rw [← HTAIL.out, h0]; rfl
    subst hn0
    subst ht0
    clear htl12 HTL HTAIL
    go_wp2_with fail
    go_ret
    exact ⟨by simp, hB12⟩
  · have hn0' : ((n2 : Int) == 0) = false := by simp; omega
    have hne : l2 ≠ [] := by intro h1; have := HL2.out; rw [h1] at this; exact hn0 this.symm
    by_cases hbig : most < n2
    · have ht0 : tail = [(4, [])] := by rw [← HTAIL.out]; unfold wrapT; rw [if_neg hne, if_pos (by rw [HL2.out]; exact hbig)]
      have hbig' : (most : Int) < (n2 : Int) := by omega
      subst ht0
      obtain ⟨g, Ak, ck, rfl, q1, q2, q3, q4⟩ := htl12.at_ (k := fst.length) (x := (4, [])) (by simp)
      have j1 : (fst.length : Int) < (fst.length : Int) + 1 := by omega
      clear htl12 HTL HTAIL hne hn0 hbig q3 q4
      simp only [List.length_singleton, List.length_nil] at *
      go_wp2_with fail
      go_ret
      exact ⟨rfl, hB12.alloc hB12.size _⟩
    · have ht0 : tail = [(0, l2)] := by rw [← HTAIL.out]; unfold wrapT; rw [if_neg hne, if_neg (by rw [HL2.out]; exact hbig)]
      have hbig' : ¬ (most : Int) < (n2 : Int) := by omega
      subst ht0
      obtain ⟨g, Ak, ck, rfl, q1, q2, q3, q4⟩ := htl12.at_ (k := fst.length) (x := (0, l2)) (by simp)
      have j1 : (fst.length : Int) < (fst.length : Int) + 1 := by omega
      have hl2n := HL2.out
      have Q3 := Lib.hid q3
      have Q4 := Lib.hid q4
      clear htl12 HTL HTAIL hne hn0 hbig q3 q4
      simp only [List.length_singleton] at *
      have hbA := (Below.refl w12.heap.size w12).alloc (Nat.le_refl _) (.cells #[.int .i64 0, .slice Ak n2 ck] 39)
      have hB13 := hB12.alloc hB12.size (.cells #[.int .i64 0, .slice Ak n2 ck] 39)
      have hd13 := hd12.below hbA
      have ho13 := own_off (X := fun _ => False) Q3.out (.of_below hbA) (fun _ _ => id)
      have hv13 : (w12.alloc (.cells #[.int .i64 0, .slice Ak n2 ck] 39)).heap[w12.heap.size]? = some (.cells #[.int .i64 0, .slice Ak n2 ck] 39 (0, 0)) := heap_alloc_new w12 _
      have hblt : b < w12.heap.size := hd12.cells.lt
      have hVlt : ∀ q, V10.ownBlock = some q → q < w12.heap.size := fun q hq => (hd12.own.lt q hq).2
      clear hbA
      go_wp2_with fail
      refine (feed_old hd13 hB13.size hrlt (by omega) l3 n3 A3 c3 HL3.out hb3 (by omega) (HR3.out.below hB13)).mono ?_
      rintro e w14 ⟨V14, v14, rfl, hF14⟩
      have hB14 := hB13.trans (hF14.below_ hd13 hB13.size)
      have hv14 : w14.heap[w12.heap.size]? = some (.cells #[.int .i64 0, .slice Ak n2 ck] 39 (0, 0)) := (hF14.off.block w12.heap.size (by simp) (by
        rintro (h | h)
        · omega
        · have := hVlt _ h; omega)).trans hv13
      have c0 : w14.cell? ⟨w12.heap.size, 0, none⟩ = some (.int .i64 0) := by rw [cell_of_row w14 _ 0 _ _ _ hv14]; rfl
      have c1 : w14.cell? ⟨w12.heap.size, 1, none⟩ = some (.slice Ak n2 ck) := by rw [cell_of_row w14 _ 1 _ _ _ hv14]; rfl
      have ho14 := own_off ho13 hF14.off (by
        rintro q hq (rfl | h)
        · exact hd13.cells.own_ne ho13 (by decide) hq
        · exact Q4.out q hq h)
      have hr14 := Rd.own ho14
      clear hF14 hd13 ho13 hv13 hv14 ho14 hd12
      go_wp2_with fail
      refine (equal_yes l2 l2 n2 n2 Ak A2 ck c2 w14 hr14 ((HR2.out.below hB14).more hB14.size) HL2.out HL2.out (by omega) rfl).mono ?_
      rintro e w15 ⟨rfl, hb15⟩
      have hB15 := hB14.trans (hb15.mono hB14.size)
      go_wp2_with fail
      go_ret
      exact ⟨rfl, hB15⟩

end Go.Proofs.Ytdpkccbcfedhbaa
