
/-
  What Good and the document's own answer. Conditions: the tables hold what the start-up lays ('Tabs'); lists of at most 2^40 elements, bytes below 256.
-/
import Derived.Test.YtkakkligndejaaaDoorFcsT
import Derived.Test.YtkakkligndejaaaDoorBEq
import Derived.Test.YtkakkligndejaaaDoorAppn
import Derived.Lib.SlBytesConst
namespace Go.Proofs.YtkakkligndejaaaDoor
open Go.RowKit

/-- What b's part reads as in a later world. -/
theorem part_take {w w' : World} {A : Option Addr} {l : List Nat} (h : Rd w w.heap.size A l) (hb : Below w.heap.size w w') (k : Nat) : Rd w' w'.heap.size A (l.take k) := ((h.below hb).more hb.size).take k
theorem part_drop {w w' : World} {A : Option Addr} {l : List Nat} (h : Rd w w.heap.size A l) (hb : Below w.heap.size w w') {k c : Nat} (hk : k ≤ l.length) (hc : l.length ≤ c) : Rd w' w'.heap.size (if c = k then A else A.map (·.add k)) (l.drop k) := ((h.below hb).more hb.size).cut hk hc

theorem trailer_z (wide : Bool) (l : List Nat) (n z : Nat) (A : Option Addr) (c : Nat) (w : World) (hz : sizeW wide = z) (h : Rd w w.heap.size A l) (hb : By l) (hl : l.length = n) (hn : n ≤ 1099511627776) (hT : Tabs w) :
    Calls Tryd.prog 20 #[.bool wide, .slice A n c] w fun e w' => ∃ A' c', e = .returned (.slice A' z c') ∧ New w w' A' c' z (trail wide (sumW wide l)) := by
  subst hz
  exact trailer_any wide l n A c w h hb hl hn hT
theorem rtrailer_z (wide : Bool) (l : List Nat) (n z : Nat) (A : Option Addr) (c : Nat) (w : World) (hz : sizeW wide = z) (h : Rd w w.heap.size A l) (hb : By l) (hl : l.length = n) (hn : n ≤ 1099511627776) :
    Calls Tryd.prog 25 #[.bool wide, .slice A n c] w fun e w' => ∃ A' c', e = .returned (.slice A' z c') ∧ New w w' A' c' z (trail wide (sumW wide l)) := by
  subst hz
  exact rtrailer_any wide l n A c w h hb hl hn

set_option maxHeartbeats 1000000 in
theorem good_any (wide : Bool) (l : List Nat) (n : Nat) (A : Option Addr) (c : Nat) (w : World) (h : Rd w w.heap.size A l) (hb : By l) (hl : l.length = n) (hn : n ≤ 1099511627776) (hc : n ≤ c) (hT : Tabs w) :
    Calls Tryd.prog 31 #[.bool wide, .slice A n c] w fun e w' => e = .returned (.bool (goodW wide l)) ∧ Below w.heap.size w w' := by
  have HL := Lib.hid hl
  have HB := Lib.hid hb
  have HR := Lib.hid h
  have HZ := size_any wide
  obtain ⟨z, hzz⟩ : ∃ z, Hid (sizeW wide = z) := ⟨_, Lib.hid rfl⟩
  have hz := size_pos wide
  have HG := Lib.hid (show goodW wide l = (decide (z ≤ n) && decide (l.drop (n - z) = trail wide (sumW wide (l.take (n - z))))) by rw [goodW, hl, hzz.out])
  rw [hzz.out] at HZ hz
  clear hl hb h
  by_cases hzn : z ≤ n
  · obtain ⟨k, hk, hnk, k1⟩ : ∃ k : Nat, Hid (n - z = k) ∧ (n : Int) - (z : Int) = (k : Int) ∧ (k : Int) ≤ n := ⟨n - z, Lib.hid rfl, by omega, by omega⟩
    rw [hk.out, show decide (z ≤ n) = true from by simp [hzn], Bool.true_and] at HG
    have hd0 : (0 : Int) ≤ (k : Int) := by omega
    have HK := Lib.hid (show k ≤ l.length by rw [HL.out]; omega)
    have HC := Lib.hid (show l.length ≤ c by rw [HL.out]; exact hc)
    have HTk := Lib.hid (show (l.take k).length = k by rw [List.length_take, HL.out]; omega)
    have HDr := Lib.hid (show (l.drop k).length = z by rw [List.length_drop, HL.out]; omega)
    have HD2 := Lib.hid (show n - k = z by omega)
    have HTr := Lib.hid (show By (trail wide (sumW wide (l.take k))) from trail_by wide _ (sumW_lt (wide := wide) (HB.out.take k)))
    have k2 : (k : Int) ≤ c := by omega
    have k3 : (n : Int) ≤ c := by omega
    have hBd : Below w.heap.size w w.drew := (Below.refl _ _).drew
    rw [HG.out]
    have HNK := Lib.hid hnk
    clear hnk
    go_enter Tryd.func31, Tryd.ntmps31
    go_wp2_with (go_at_call 19; with_reducible refine (HZ _).mono ?_; rintro e w' ⟨rfl, rfl⟩)
    rw [HNK.out]
    go_region_held3 (fun _ => True) (trivial) (first
      | (go_at_call 20; (with_reducible refine (trailer_z wide (l.take k) k z A c _ hzz.out (part_take HR.out hBd k) (HB.out.take k) HTk.out (by omega) (hT.below hBd)).mono ?_); rintro e w2 ⟨A2, c2, rfl, hl2, ho2, hr2, hb2⟩; have hB2 := hBd.trans (hb2.mono hBd.size); clear hb2; dsimp only)
      | (go_at_call 51; (with_reducible refine (bequal_any (l.drop k) (trail wide (sumW wide (l.take k))) (n - k) z _ _ _ _ _ _ (part_drop HR.out hB2 HK.out HC.out) hr2 (HB.out.drop k) HTr.out (HDr.out.trans HD2.out.symm) hl2).mono ?_); rintro e w3 ⟨rfl, rfl⟩; dsimp only))
    generalize (if c = k then A else Option.map (fun x => x.add k) A) = A'
    go_wp2_with fail
    go_ret
    exact ⟨rfl, hB2⟩
  · have hd0 : ¬ (0 : Int) ≤ (n : Int) - (z : Int) := by omega
    have hge : decide ((n : Int) - (z : Int) ≥ 0) = false := decide_eq_false hd0
    have hg : goodW wide l = false := by rw [HG.out]; simp [hzn]
    rw [hg]
    go_enter Tryd.func31, Tryd.ntmps31
    go_wp2_with (go_at_call 19; with_reducible refine (HZ _).mono ?_; rintro e w' ⟨rfl, rfl⟩)
    go_quiet (fail)
    go_wp2_with fail
    go_ret
    exact ⟨rfl, below_drewN (Below.refl _ _) _⟩

/-- Do the first k octets behind a place fit? -/
theorem drop_get {l : List Nat} {k i : Nat} : (l.drop k)[i]? = l[k + i]? := List.getElem?_drop

set_option maxHeartbeats 1000000 in
theorem rgood_any (wide : Bool) (l : List Nat) (n : Nat) (A : Option Addr) (c : Nat) (w : World) (h : Rd w w.heap.size A l) (hb : By l) (hl : l.length = n) (hn : n ≤ 1099511627776) (hc : n ≤ c) :
    Calls Tryd.prog 35 #[.bool wide, .slice A n c] w fun e w' => e = .returned (.bool (goodW wide l)) ∧ Below w.heap.size w w' := by
  have HL := Lib.hid hl
  have HB := Lib.hid hb
  have HR := Lib.hid h
  have HZ := rsize_any wide
  obtain ⟨z, hzz⟩ : ∃ z, Hid (sizeW wide = z) := ⟨_, Lib.hid rfl⟩
  have hz := size_pos wide
  have HG := Lib.hid (show goodW wide l = (decide (z ≤ n) && decide (l.drop (n - z) = trail wide (sumW wide (l.take (n - z))))) by rw [goodW, hl, hzz.out])
  rw [hzz.out] at HZ hz
  clear hl hb h
  by_cases hzn : z ≤ n
  · obtain ⟨k, hk⟩ : ∃ k : Nat, n = k + z := ⟨n - z, by omega⟩
    subst hk
    rw [show k + z - z = k from by omega, show decide (z ≤ k + z) = true from by simp, Bool.true_and] at HG
    have hd0 : ¬ (k : Int) < 0 := by omega
    have HTk := Lib.hid (show (l.take k).length = k by rw [List.length_take, HL.out]; omega)
    have HDr := Lib.hid (show (l.drop k).length = z by rw [List.length_drop, HL.out]; omega)
    have HTr := Lib.hid (show By (trail wide (sumW wide (l.take k))) from trail_by wide _ (sumW_lt (wide := wide) (HB.out.take k)))
    have k2 : (k : Int) ≤ c := by omega
    have k3 : (0 : Int) ≤ k := by omega
    have HT2 := rtrailer_z wide (l.take k) k z A c w hzz.out (HR.out.take k) (HB.out.take k) HTk.out (by omega)
    rw [HG.out]
    obtain ⟨t, ht⟩ : ∃ t, Hid (t = trail wide (sumW wide (l.take k))) := ⟨_, Lib.hid rfl⟩
    rw [← ht.out] at HT2 HTr ⊢
    go_enter Tryd.func35, Tryd.ntmps35
    go_wp2_with (first
      | (go_at_call 34; with_reducible refine (HZ _).mono ?_; rintro e w' ⟨rfl, rfl⟩)
      | (go_at_call 25; refine HT2.mono ?_; rintro e w2 ⟨A2, c2, rfl, hl2, -, hr2, hb2⟩))
    have HL2 := Lib.hid hl2
    clear hl2
    go_loopw [7] (fun i wr => ∃ j : Nat, j ≤ z ∧ i = .int .i64 j ∧ Hid ((l.drop k).take j = t.take j) ∧ ∃ q, wr = w2.drewN q) (fun i _ => z - (intOf i).toNat)
    case atStart => exact ⟨0, Nat.zero_le _, rfl, Lib.hid (by simp), 0, rfl⟩
    case round =>
      obtain ⟨j, hj, rfl, heq, q, rfl⟩ := hrel
      by_cases hlt : j < z
      · obtain ⟨ba, oa, x, rfl, _, hx, hcx⟩ := (HR.out.below hb2).at_ (k := k + j) (by rw [HL.out]; omega)
        obtain ⟨bb, ob, y, rfl, _, hy, hcy⟩ := hr2.at_ (k := j) (by rw [HL2.out]; exact hlt)
        have HX := Lib.hid (drop_get.trans hx)
        have HY := Lib.hid hy
        clear hx hy
        have i1 : (0 : Int) ≤ j := by omega
        have i2 : (j : Int) < z := by omega
        go_wp2_with fail
        go_quiet (fail)
        all_goals go_wp2_with fail
        · have hxy : ((x : Int) != (y : Int)) = true := by assumption
          have hne2 : l.drop k ≠ t := ne_of_at HX.out HY.out (by rw [bne_iff_ne] at hxy; omega)
          go_ret
          exact ⟨by simp [hne2], below_drewN (below_drewN hb2 _) _⟩
        · have hxy : ((x : Int) != (y : Int)) = false := by assumption
          have he : x = y := by have := bne_eq_false_iff_eq.1 hxy; omega
          have R := Lib.hid (take_snoc_eq heq.out HX.out HY.out he)
          clear hxy he
          go_roundw
          case rel => exact ⟨j + 1, by omega, by go_num, R, _, rfl⟩
          case measure => simp [intOf]; omega
      · go_wp2_with fail
        go_ret
        have he : l.drop k = t := by
          have := heq.out
          rw [List.take_of_length_le (by rw [HDr.out]; omega), List.take_of_length_le (by rw [HL2.out]; omega)] at this
          exact this
        exact ⟨by simp [he], below_drewN hb2 _⟩
  · have hd0 : (n : Int) - (z : Int) < 0 := by omega
    have hg : goodW wide l = false := by rw [HG.out]; simp [hzn]
    rw [hg]
    go_enter Tryd.func35, Tryd.ntmps35
    go_wp2_with (go_at_call 34; with_reducible refine (HZ _).mono ?_; rintro e w' ⟨rfl, rfl⟩)
    go_ret
    exact ⟨rfl, Below.refl _ _⟩

def digits : List Nat := [49, 50, 51, 52, 53, 54, 55, 56, 57]
theorem digits_sum : sumW false digits = 36974 ∧ sumW true digits = 3421780262 := by decide +kernel

theorem Rd.mark (w : World) (l : List Nat) (C : Array Value) (hC : C = (bvs l).toArray) (m : Nat × Nat) : Rd (w.alloc (.cells C 5 m)) (w.heap.size + 1) (some ⟨w.heap.size, 0, none⟩) l := by
  intro hl
  refine ⟨w.heap.size, 0, rfl, by omega, fun k x hx => ?_⟩
  have := bvs_get l k x hx
  subst hC
  have hh : (w.alloc (.cells (bvs l).toArray 5 m)).heap[w.heap.size]? = some (.cells (bvs l).toArray 5 m) := heap_alloc_new w _
  unfold World.cell?
  dsimp only
  rw [hh]
  simpa using this
theorem sum_digits (wide : Bool) (s : Int) (w : World) (C : Array Value) (hC : C = (bvs digits).toArray) (m : Nat × Nat) (hT : Tabs w) (hs : (sumW wide digits : Int) = s) :
    Calls Tryd.prog 39 #[.bool wide, .slice (some ⟨w.heap.size, 0, none⟩) 9 9] (w.alloc (.cells C 5 m)) fun e w' => e = .returned (.int .u32 s) ∧ w.alloc (.cells C 5 m) = w' := by
  subst hs
  have hby : By digits := by intro x hx; simp [digits] at hx; omega
  have hb0 : Below w.heap.size w (w.alloc (.cells C 5 m)) := (Below.refl _ _).alloc (Nat.le_refl _) _
  exact sum_any wide digits 9 _ 9 _ ((Rd.mark w digits C hC m).more (by simp)) hby rfl (by omega) (hT.below hb0)

end Go.Proofs.YtkakkligndejaaaDoor
