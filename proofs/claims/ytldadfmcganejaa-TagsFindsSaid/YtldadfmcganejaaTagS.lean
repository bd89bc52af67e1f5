
/-
  What the document's Same of tags answers. No condition beyond: lists of at most 2^38 tags.
-/
import Derived.Test.YtldadfmcganejaaTagI
import Derived.Test.YtldadfmcganejaaBEq
namespace Go.Proofs.Ytldadfmcganejaa
set_option maxRecDepth 4000
open Go.RowKit

theorem tgs_take {a b : List (Nat × List Nat)} {k : Nat} {x y : Nat × List Nat} (h : a.take k = b.take k) (hx : a[k]? = some x) (hy : b[k]? = some y) (he : x = y) : a.take (k + 1) = b.take (k + 1) := by
  rw [List.take_add_one, List.take_add_one, h, hx, hy, he]
theorem tgs_ne {a b : List (Nat × List Nat)} {k : Nat} {x y : Nat × List Nat} (hx : a[k]? = some x) (hy : b[k]? = some y) (he : x ≠ y) : a ≠ b := fun e => he (by rw [e, hy] at hx; exact (Option.some.inj hx).symm)

set_option maxHeartbeats 2000000 in
theorem tgsame_any (a b : List (Nat × List Nat)) (n m c d : Nat) (A B : Option Addr) (F G : Nat → Prop) (w : World) (ha : Rws shG F w A a) (hb : Rws shG G w B b) (hA : ByG a) (hB : ByG b) (hn : a.length = n) (hm : b.length = m) (hn1 : n ≤ 274877906944) :
    Calls Try.prog 15 #[.slice A n c, .slice B m d] w fun e w' => e = .returned (.bool (decide (a = b))) ∧ Below w.heap.size w w' := by
  by_cases hl : n = m
  · subst hl
    have hne : ((n : Int) != (n : Int)) = false := by simp
    have HN := Lib.hid hn
    have HM := Lib.hid hm
    have HA := Lib.hid hA
    have HB := Lib.hid hB
    clear hn hm hA hB
    go_enter Try.func15, Try.ntmps15
    go_wp2_with fail
    go_loopw [5] (fun i wr => ∃ k : Nat, k ≤ n ∧ i = .int .i64 k ∧ Hid (a.take k = b.take k) ∧ Below w.heap.size w wr) (fun i _ => n - (intOf i).toNat)
    case atStart => exact ⟨0, Nat.zero_le _, rfl, Lib.hid (by simp), Below.refl _ _⟩
    case round =>
      obtain ⟨k, hk, rfl, heq, hbel⟩ := hrel
      by_cases hlt : k < n
      · obtain ⟨ba, oa, x, A3, c3, rfl, hb3, hx, h3, h4, h5, h6⟩ := (ha.below hbel).tag (k := k) (by rw [HN.out]; exact hlt)
        obtain ⟨bb, ob, y, A4, c4, rfl, hb4, hy, g3, g4, g5, g6⟩ := (hb.below hbel).tag (k := k) (by rw [HM.out]; exact hlt)
        have HX := Lib.hid hx
        have HY := Lib.hid hy
        have s1 := fun j => conv_list (h6.rd.on (below_drewN (Below.refl _ _) j)) x.2.length c3 rfl
        have s2 := fun j => conv_list (g6.rd.on (below_drewN (Below.refl _ _) j)) y.2.length c4 rfl
        have S := Lib.hid (nums_eq (HA.out.at_ hx).2 (HB.out.at_ hy).2)
        clear hx hy h6 g6
        have i1 : (0 : Int) ≤ k := by omega
        have i2 : (k : Int) < n := by omega
        by_cases ht : x.1 = y.1
        · have j1 : ((x.1 : Int) != (y.1 : Int)) = false := by rw [ht]; simp
          by_cases hq : x.2 = y.2
          · have R := Lib.hid (tgs_take heq.out HX.out HY.out (Prod.ext ht hq))
            have s3 : ((strOfNums (nums x.2)).toList == (strOfNums (nums y.2)).toList) = true := by rw [Lib.strOfNums_toList, Lib.strOfNums_toList, S.out]; exact decide_eq_true hq
            clear ht hq
            go_wp2_with fail
            go_quiet (fail)
            all_goals go_wp2_with fail
            go_roundw
            case rel => exact ⟨k + 1, by omega, by go_num, R, below_drewN hbel _⟩
            case measure => simp [intOf]; omega
          · have E := Lib.hid (show decide (a = b) = false from decide_eq_false (tgs_ne HX.out HY.out fun e => hq (by rw [e])))
            have s3 : ((strOfNums (nums x.2)).toList == (strOfNums (nums y.2)).toList) = false := by rw [Lib.strOfNums_toList, Lib.strOfNums_toList, S.out]; exact decide_eq_false hq
            clear ht hq
            go_wp2_with fail
            go_quiet (fail)
            all_goals go_wp2_with fail
            go_ret
            exact ⟨by rw [E.out]; rfl, below_drewN hbel _⟩
        · have j1 : ((x.1 : Int) != (y.1 : Int)) = true := by rw [bne_iff_ne]; omega
          have E := Lib.hid (show decide (a = b) = false from decide_eq_false (tgs_ne HX.out HY.out fun e => ht (by rw [e])))
          clear ht
          go_wp2_with fail
          go_quiet (fail)
          all_goals go_wp2_with fail
          go_ret
          exact ⟨by rw [E.out]; rfl, below_drewN hbel _⟩
      · go_wp2
        go_ret
        have he : k = n := by omega
        have hq := heq.out
        rw [he, List.take_of_length_le (by rw [HN.out]; exact Nat.le_refl _), List.take_of_length_le (by rw [HM.out]; exact Nat.le_refl _)] at hq
        exact ⟨by rw [decide_eq_true hq]; rfl, hbel⟩
  · have hne : ((n : Int) != (m : Int)) = true := by rw [bne_iff_ne]; omega
    have E := Lib.hid (show decide (a = b) = false from decide_eq_false fun e => hl (by rw [← hn, ← hm, e]))
    rw [E.out]
    clear E
    go_enter Try.func15, Try.ntmps15
    go_wp2
    go_ret
    exact ⟨rfl, Below.refl _ _⟩
end Go.Proofs.Ytldadfmcganejaa
