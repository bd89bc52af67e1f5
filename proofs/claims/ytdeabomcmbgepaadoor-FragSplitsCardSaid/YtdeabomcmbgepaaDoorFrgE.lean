
/-
  What the document's Same of pieces answers. No condition beyond: lists of at most 2^38 pieces.
-/
import Derived.Test.YtdeabomcmbgepaaDoorFrgO
import Derived.Test.YtdeabomcmbgepaaDoorBEq
import Derived.BigQuiet
namespace Go.Proofs.YtdeabomcmbgepaaDoor
open Go.RowKit

theorem frs_take {a b : List Pc} {k : Nat} {x y : Pc} (h : a.take k = b.take k) (hx : a[k]? = some x) (hy : b[k]? = some y) (he : x = y) : a.take (k + 1) = b.take (k + 1) := by
  rw [List.take_add_one, List.take_add_one, h, hx, hy, he]
theorem frs_ne {a b : List Pc} {k : Nat} {x y : Pc} (hx : a[k]? = some x) (hy : b[k]? = some y) (he : x ≠ y) : a ≠ b := fun e => he (by rw [e, hy] at hx; exact (Option.some.inj hx).symm)

set_option maxHeartbeats 2000000 in
theorem frsame_any (a b : List Pc) (n m c d : Nat) (A B : Option Addr) (F G : Nat → Prop) (w : World) (ha : Rws shF F w A a) (hb : Rws shF G w B b) (hA : ByF a) (hB : ByF b) (hn : a.length = n) (hm : b.length = m) (hn1 : n ≤ 274877906944) (q : Bool) (hq0 : decide (a = b) = q) :
    Calls Tryd.prog 14 #[.slice A n c, .slice B m d] w fun e w' => e = .returned (.bool q) ∧ Below w.heap.size w w' := by
  by_cases hl : n = m
  · subst hl
    have hne : ((n : Int) != (n : Int)) = false := by simp
    have HN := Lib.hid hn
    have HM := Lib.hid hm
    have HA := Lib.hid hA
    have HB := Lib.hid hB
    have HQ := Lib.hid hq0
    clear hn hm hA hB hq0
    go_enter Tryd.func14, Tryd.ntmps14
    go_wp2_with fail
    go_loopw [5] (fun i wr => ∃ k : Nat, k ≤ n ∧ i = .int .i64 k ∧ Hid (a.take k = b.take k) ∧ Below w.heap.size w wr) (fun i _ => n - (intOf i).toNat)
    case atStart => exact ⟨0, Nat.zero_le _, rfl, Lib.hid (by simp), Below.refl _ _⟩
    case round =>
      obtain ⟨k, hk, rfl, heq, hbel⟩ := hrel
      by_cases hlt : k < n
      · obtain ⟨ba, oa, x, A3, c3, rfl, hb3, hx, h0, h1, h2, h3, h5, h6⟩ := (ha.below hbel).pc (k := k) (by rw [HN.out]; exact hlt)
        obtain ⟨bb, ob, y, A4, c4, rfl, hb4, hy, g0, g1, g2, g3, g5, g6⟩ := (hb.below hbel).pc (k := k) (by rw [HM.out]; exact hlt)
        have HX := Lib.hid hx
        have HY := Lib.hid hy
        have s1 := fun j => conv_list (h6.rd.on (below_drewN (Below.refl _ _) j)) x.d.length c3 rfl
        have s2 := fun j => conv_list (g6.rd.on (below_drewN (Below.refl _ _) j)) y.d.length c4 rfl
        have S := Lib.hid (nums_eq (HA.out.at_ hx) (HB.out.at_ hy))
        clear hx hy h6 g6
        have i1 : (0 : Int) ≤ k := by omega
        have i2 : (k : Int) < n := by omega
        by_cases t0 : x.b = y.b
        · have j0 : (x.b == y.b) = true := by rw [t0]; cases y.b <;> rfl
          by_cases t1 : x.e = y.e
          · have j1 : (x.e == y.e) = true := by rw [t1]; cases y.e <;> rfl
            by_cases t2 : x.n = y.n
            · have j2 : (x.n != y.n) = false := by rw [t2]; simp
              by_cases t3 : x.d = y.d
              · have R := Lib.hid (frs_take heq.out HX.out HY.out (by
                  obtain ⟨xb, xe, xn, xd⟩ := x
                  obtain ⟨yb, ye, yn, yd⟩ := y
                  dsimp only at t0 t1 t2 t3
                  rw [t0, t1, t2, t3]))
                have s3 : ((strOfNums (nums x.d)).toList == (strOfNums (nums y.d)).toList) = true := by rw [Lib.strOfNums_toList, Lib.strOfNums_toList, S.out]; exact decide_eq_true t3
                clear t0 t1 t2 t3
                go_wp2_with fail
                go_quiet (fail)
                all_goals go_wp2_with fail
                go_roundw
                case rel => exact ⟨k + 1, by omega, by go_num, R, below_drewN hbel _⟩
                case measure => simp [intOf]; omega
              · have E := Lib.hid (show q = false by rw [← HQ.out]; exact decide_eq_false (frs_ne HX.out HY.out fun e => t3 (by rw [e])))
                have s3 : ((strOfNums (nums x.d)).toList == (strOfNums (nums y.d)).toList) = false := by rw [Lib.strOfNums_toList, Lib.strOfNums_toList, S.out]; exact decide_eq_false t3
                clear t0 t1 t2 t3
                go_wp2_with fail
                go_quiet (fail)
                all_goals go_wp2_with fail
                go_ret
                exact ⟨by rw [E.out]; rfl, below_drewN hbel _⟩
            · have j2 : (x.n != y.n) = true := by rw [bne_iff_ne]; exact t2
              have E := Lib.hid (show q = false by rw [← HQ.out]; exact decide_eq_false (frs_ne HX.out HY.out fun e => t2 (by rw [e])))
              clear t0 t1 t2
              go_wp2_with fail
              go_quiet (fail)
              all_goals go_wp2_with fail
              go_ret
              exact ⟨by rw [E.out]; rfl, below_drewN hbel _⟩
          · have j1 : (x.e == y.e) = false := by rw [beq_eq_false_iff_ne]; exact t1
            have E := Lib.hid (show q = false by rw [← HQ.out]; exact decide_eq_false (frs_ne HX.out HY.out fun e => t1 (by rw [e])))
            clear t0 t1
            go_wp2_with fail
            go_quiet (fail)
            all_goals go_wp2_with fail
            go_ret
            exact ⟨by rw [E.out]; rfl, below_drewN hbel _⟩
        · have j0 : (x.b == y.b) = false := by rw [beq_eq_false_iff_ne]; exact t0
          have E := Lib.hid (show q = false by rw [← HQ.out]; exact decide_eq_false (frs_ne HX.out HY.out fun e => t0 (by rw [e])))
          clear t0
          go_wp2_with fail
          go_quiet (fail)
          all_goals go_wp2_with fail
          go_ret
          exact ⟨by rw [E.out]; rfl, below_drewN hbel _⟩
      · go_wp2
        go_ret
        have he : k = n := by omega
        have hq := heq.out
        rw [he, List.take_of_length_le (by rw [HN.out]; exact Nat.le_refl _), List.take_of_length_le (by rw [HM.out]; exact Nat.le_refl _)] at hq
        exact ⟨by rw [← HQ.out, decide_eq_true hq]; rfl, hbel⟩
  · have hne : ((n : Int) != (m : Int)) = true := by rw [bne_iff_ne]; omega
    have E := Lib.hid (show q = false by rw [← hq0]; exact decide_eq_false fun e => hl (by rw [← hn, ← hm, e]))
    rw [E.out]
    clear E
    go_enter Tryd.func14, Tryd.ntmps14
    go_wp2
    go_ret
    exact ⟨rfl, Below.refl _ _⟩
end Go.Proofs.YtdeabomcmbgepaaDoor
