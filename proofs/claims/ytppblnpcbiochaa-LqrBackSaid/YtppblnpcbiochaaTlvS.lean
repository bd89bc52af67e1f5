
/-
  What the document's Same and the program's Find answer. No condition beyond: lists of at most 2^38 options, data of at most 2^36 octets.
-/
import Derived.Test.YtppblnpcbiochaaTlvG
import Derived.BigQuiet
namespace Go.Proofs.Ytppblnpcbiochaa
open Go.RowKit

theorem equal_b (a b : List Nat) (q : Bool) (hq : decide (a = b) = q) (A B : Option Addr) (c d : Nat) (w : World) (ha : Rd w w.heap.size A a) (hb : Rd w w.heap.size B b) (hn : a.length ≤ 1099511627776) :
    Calls Try.prog 15 #[.slice A a.length c, .slice B b.length d] w fun e w' => e = .returned (.bool q) ∧ ∃ n, w' = w.drewN n :=
  (equal_any a b A B c d w _ ha hb hn).mono fun _ _ ⟨he, hw⟩ => ⟨by rw [he, hq], hw⟩

set_option maxHeartbeats 2000000 in
theorem orsame_any (a b : List (Nat × List Nat)) (n m c d : Nat) (A B : Option Addr) (F G : Nat → Prop) (w : World) (ha : Rws shO F w A a) (hb : Rws shO G w B b) (hn : a.length = n) (hm : b.length = m) (hn1 : n ≤ 274877906944) (hd : datB a ≤ 1099511627776) :
    Calls Try.prog 25 #[.slice A n c, .slice B m d] w fun e w' => e = .returned (.bool (decide (a = b))) ∧ Below w.heap.size w w' := by
  by_cases hl : n = m
  · subst hl
    have hne : ((n : Int) != (n : Int)) = false := by simp
    have HN := Lib.hid hn
    have HM := Lib.hid hm
    clear hn hm
    go_enter Try.func25, Try.ntmps25
    go_wp2_with fail
    go_loopw [5] (fun i wr => ∃ k : Nat, k ≤ n ∧ i = .int .i64 k ∧ Hid (a.take k = b.take k) ∧ Below w.heap.size w wr) (fun i _ => n - (intOf i).toNat)
    case atStart => exact ⟨0, Nat.zero_le _, rfl, Lib.hid (by simp), Below.refl _ _⟩
    case round =>
      obtain ⟨k, hk, rfl, heq, hbel⟩ := hrel
      by_cases hlt : k < n
      · obtain ⟨ba, oa, x, A3, c3, rfl, hb3, hx, h3, h4, h5, h6⟩ := (ha.below hbel).opt (k := k) (by rw [HN.out]; exact hlt)
        obtain ⟨bb, ob, y, A4, c4, rfl, hb4, hy, g3, g4, g5, g6⟩ := (hb.below hbel).opt (k := k) (by rw [HM.out]; exact hlt)
        have hxl : x.2.length ≤ 1099511627776 := Nat.le_trans (dat_le hx) hd
        have HX := Lib.hid hx
        have HY := Lib.hid hy
        clear hx hy
        have H6 := Lib.hid h6.rd
        have G6 := Lib.hid g6.rd
        clear h6 g6
        have i1 : (0 : Int) ≤ k := by omega
        have i2 : (k : Int) < n := by omega
        obtain ⟨q, hq⟩ : ∃ q, Hid (decide (x.2 = y.2) = q) := ⟨_, Lib.hid rfl⟩
        by_cases ht : x.1 = y.1
        · have j1 : ((x.1 : Int) != (y.1 : Int)) = false := by rw [ht]; simp
          cases q
          · have E := Lib.hid (show decide (a = b) = false from decide_eq_false (same_ne HX.out HY.out (decide_eq_false fun e => of_decide_eq_false hq.out (by rw [e]))))
            clear ht
            go_wp2_with fail
            go_quiet (first | (go_at_call 15; exact Calls.quiet_of (equal_b x.2 y.2 _ hq.out _ _ _ _ _ H6.out G6.out hxl)))
            all_goals go_wp2_with fail
            go_ret
            exact ⟨by rw [E.out]; rfl, below_drewN hbel _⟩
          · have R := Lib.hid (same_take heq.out HX.out HY.out (decide_eq_true (Prod.ext ht (of_decide_eq_true hq.out))))
            clear ht
            go_wp2_with fail
            go_quiet (first | (go_at_call 15; exact Calls.quiet_of (equal_b x.2 y.2 _ hq.out _ _ _ _ _ H6.out G6.out hxl)))
            all_goals go_wp2_with fail
            go_roundw
            case rel => exact ⟨k + 1, by omega, by go_num, R, below_drewN hbel _⟩
            case measure => simp [intOf]; omega
        · have j1 : ((x.1 : Int) != (y.1 : Int)) = true := by rw [bne_iff_ne]; omega
          have E := Lib.hid (show decide (a = b) = false from decide_eq_false (same_ne HX.out HY.out (decide_eq_false fun e => ht (by rw [e]))))
          clear ht
          go_wp2_with fail
          go_quiet (fail)
          all_goals go_wp2_with fail
          go_ret
          exact ⟨by rw [E.out]; rfl, below_drewN hbel _⟩
      · go_wp2
        go_ret
        have he : k = n := by omega
        have hq := heq.out
        rw [he, List.take_of_length_le (by rw [HN.out]; exact Nat.le_refl _), List.take_of_length_le (by rw [HM.out]; exact Nat.le_refl _)] at hq
        exact ⟨by rw [decide_eq_true hq]; rfl, hbel⟩
  · have hne : ((n : Int) != (m : Int)) = true := by rw [bne_iff_ne]; omega
    have E := Lib.hid (show decide (a = b) = false from decide_eq_false fun e => hl (by rw [← hn, ← hm, e]))
    rw [E.out]
    clear E
    go_enter Try.func25, Try.ntmps25
    go_wp2
    go_ret
    exact ⟨rfl, Below.refl _ _⟩

theorem find_take {l : List (Nat × List Nat)} {p : Nat × List Nat → Bool} {k : Nat} {o : Nat × List Nat} (h : (l.take k).find? p = none) (hk : l[k]? = some o) (hp : p o = false) : (l.take (k + 1)).find? p = none := by
  rw [List.take_add_one, hk, Option.toList_some, List.find?_append, h]
  simp [hp]
theorem find_at {l : List (Nat × List Nat)} {p : Nat × List Nat → Bool} {k : Nat} {o : Nat × List Nat} (h : (l.take k).find? p = none) (hk : l[k]? = some o) (hp : p o = true) : l.find? p = some o := by
  have hlt := (List.getElem?_eq_some_iff.1 hk)
  obtain ⟨hlt, e⟩ := hlt
  have : l = l.take k ++ o :: l.drop (k + 1) := by rw [← e, ← List.drop_eq_getElem_cons hlt, List.take_append_drop]
  rw [this, List.find?_append, h]
  simp [hp]

/-- What Find answers. -/
def FindR (l : List (Nat × List Nat)) (t : Nat) (w : World) (e : Ending) (w' : World) : Prop :=
  Below w.heap.size w w' ∧ ((l.find? (fun o => decide (o.1 = t)) = none ∧ e = .returned (.tuple #[.agg #[.int .u8 0, .slice none 0 0], .bool false])) ∨
    ∃ (o : Nat × List Nat) (A : Option Addr) (c n : Nat), l.find? (fun o => decide (o.1 = t)) = some o ∧ o.1 = t ∧ o.2.length = n ∧ e = .returned (.tuple #[.agg #[.int .u8 (t : Int), .slice A n c], .bool true]) ∧ w'.ownsRow w.heap.size 5 1 (.slice A n c) n (bvs o.2))

end Go.Proofs.Ytppblnpcbiochaa
