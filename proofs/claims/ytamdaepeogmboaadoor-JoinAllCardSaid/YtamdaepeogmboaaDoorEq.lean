
/-
  What the document's comparison of two lists of bytes answers; lists that a call made; a literal list. No condition beyond: lists of at most 2^40 elements.
-/
import Derived.Test.YtamdaepeogmboaaDoorWords
namespace Go.Proofs.YtamdaepeogmboaaDoor
set_option maxRecDepth 4000
open Go.RowKit

theorem take_snoc_eq {a b : List Nat} {k x y : Nat} (h : a.take k = b.take k) (hx : a[k]? = some x) (hy : b[k]? = some y) (e : x = y) : a.take (k + 1) = b.take (k + 1) := by
  rw [List.take_add_one, List.take_add_one, h, hx, hy, e]
theorem ne_of_at {a b : List Nat} {k x y : Nat} (hx : a[k]? = some x) (hy : b[k]? = some y) (e : x ≠ y) : a ≠ b := by
  rintro rfl
  rw [hx] at hy
  injection hy with h
  exact e h

set_option maxHeartbeats 400000 in
theorem equal_any (a b : List Nat) (A B : Option Addr) (c d : Nat) (w : World) (Bl : Nat) (ha : Rd w Bl A a) (hb : Rd w Bl B b) (hn : a.length ≤ 1099511627776) :
    Calls Tryd.prog 18 #[.slice A a.length c, .slice B b.length d] w fun e w' => e = .returned (.bool (decide (a = b))) ∧ ∃ n, w' = w.drewN n := by
  by_cases hl : a.length = b.length
  · have hne : ((a.length : Int) != (b.length : Int)) = false := by simp [hl]
    have HL := Lib.hid hl
    clear hl
    go_enter Tryd.func18, Tryd.ntmps18
    go_wp2_with fail
    go_loopw [5] (fun i wr => ∃ k : Nat, k ≤ a.length ∧ i = .int .i64 k ∧ Hid (a.take k = b.take k) ∧ ∃ n, wr = w.drewN n) (fun i _ => a.length - (intOf i).toNat)
    case atStart => exact ⟨0, Nat.zero_le _, rfl, Lib.hid (by simp), 0, rfl⟩
    case round =>
      obtain ⟨k, hk, rfl, heq, n, rfl⟩ := hrel
      by_cases hlt : k < a.length
      · have hlb : k < b.length := by have := HL.out; omega
        obtain ⟨ba, oa, x, rfl, _, hx, hcx⟩ := ha.at_ hlt
        obtain ⟨bb, ob, y, rfl, _, hy, hcy⟩ := hb.at_ hlb
        have HX := Lib.hid hx
        have HY := Lib.hid hy
        clear hx hy
        have i1 : (0 : Int) ≤ k := by omega
        have i2 : (k : Int) < a.length := by omega
        have i3 : (k : Int) < b.length := by omega
        go_wp2_with fail
        go_quiet (fail)
        all_goals go_wp2_with fail
        · have hxy : ((x : Int) != (y : Int)) = true := by assumption
          have hne2 : a ≠ b := ne_of_at HX.out HY.out (by rw [bne_iff_ne] at hxy; omega)
          go_ret
          exact ⟨by simp [hne2], _, World.drewN_drewN _ _ _⟩
        · have hxy : ((x : Int) != (y : Int)) = false := by assumption
          have he : x = y := by have := bne_eq_false_iff_eq.1 hxy; omega
          have R := Lib.hid (take_snoc_eq heq.out HX.out HY.out he)
          clear hxy he
          go_roundw
          case rel => exact ⟨k + 1, by omega, by go_num, R, _, rfl⟩
          case measure => simp [intOf]; omega
      · go_wp2
        go_ret
        have hk' : k = a.length := by omega
        have he : a = b := by
          have := heq.out
          rw [List.take_of_length_le (by omega), List.take_of_length_le (by have := HL.out; omega)] at this
          exact this
        exact ⟨by simp [he], _, rfl⟩
  · have hne : ((a.length : Int) != (b.length : Int)) = true := by rw [bne_iff_ne]; omega
    go_enter Tryd.func18, Tryd.ntmps18
    go_wp2_with fail
    go_ret
    refine ⟨?_, 0, rfl⟩
    have : a ≠ b := fun h => hl (by rw [h])
    simp [this]

/-- The comparison, of lists whose lengths are numbers of their own. -/
theorem equal_c (a b : List Nat) (n m : Nat) (A B : Option Addr) (c d : Nat) (w : World) (ha : Rd w w.heap.size A a) (hb : Rd w w.heap.size B b) (hn : a.length = n) (hm : b.length = m) (hl : n ≤ 1099511627776) :
    Calls Tryd.prog 18 #[.slice A n c, .slice B m d] w fun e w' => e = .returned (.bool (decide (a = b))) ∧ Below w.heap.size w w' := by
  subst hn; subst hm
  exact (equal_any a b A B c d w _ ha hb hl).mono fun _ _ ⟨he, hw⟩ => ⟨he, by obtain ⟨k, rfl⟩ := hw; exact below_drewN (Below.refl _ _) k⟩
theorem equal_yes (a b : List Nat) (n m : Nat) (A B : Option Addr) (c d : Nat) (w : World) (ha : Rd w w.heap.size A a) (hb : Rd w w.heap.size B b) (hn : a.length = n) (hm : b.length = m) (hl : n ≤ 1099511627776) (hab : a = b) :
    Calls Tryd.prog 18 #[.slice A n c, .slice B m d] w fun e w' => e = .returned (.bool true) ∧ Below w.heap.size w w' :=
  (equal_c a b n m A B c d w ha hb hn hm hl).mono fun _ _ ⟨he, hw⟩ => ⟨by rw [he]; simp [hab], hw⟩

/-- A new list of bytes: what it reads as, and that it is the call's own. -/
def New (w w' : World) (A : Option Addr) (c n : Nat) (l : List Nat) : Prop :=
  l.length = n ∧ w'.ownsRow w.heap.size 5 1 (.slice A n c) n (bvs l) ∧ Rd w' w'.heap.size A l ∧ Below w.heap.size w w'
theorem New.mk {w w' : World} {v : Value} {n : Nat} {l : List Nat} (hown : w'.ownsRow w.heap.size 5 1 v n (bvs l)) (hb : Below w.heap.size w w') : ∃ A c, v = .slice A n c ∧ New w w' A c n l := by
  obtain ⟨A, c, rfl, _, _⟩ := own_form hown
  refine ⟨A, c, rfl, ?_, hown, Rd.own hown, hb⟩
  have := hown.1
  rw [bvs_len] at this; omega

/-- One byte appended to an owned row. -/
theorem push_row {w3 : World} {base n m : Nat} {e : TypeId} {v : Value} {l : List Nat} {x : Nat} (h : w3.ownsRow base e 1 v n (bvs l ++ [.int .u8 (x : Int)])) (hm : n = m) : w3.ownsRow base e 1 v m (bvs (l ++ [x])) := by
  subst hm
  rw [bvs_app]; exact h
theorem push_below {w wr w3 : World} {e : TypeId} {v : Value} {n : Nat} {xs : List Value} {o : Obj} (hb : Below w.heap.size w wr) (hown : wr.ownsRow w.heap.size e 1 v n xs) (hg : (wr.alloc o).grownBy w3 v.ownBlock) : Below w.heap.size w w3 :=
  (hb.alloc hb.size _).grown hg (by have := hb.size; simp; omega) (fun k hk => (hown.lt k hk).1)

/-- A literal in a new block. -/
theorem Rd.lit (w : World) (l : List Nat) : Rd (w.alloc (.cells (bvs l).toArray 5)) (w.heap.size + 1) (some ⟨w.heap.size, 0, none⟩) l := by
  intro hl
  refine ⟨w.heap.size, 0, rfl, by omega, fun k x hx => ?_⟩
  rw [World.cell?_alloc_at _ _ _ _ rfl]
  have := bvs_get l k x hx
  simpa using this
theorem Rd.lit_ (w : World) (l : List Nat) : Rd (w.alloc (.cells (bvs l).toArray 5)) (w.alloc (.cells (bvs l).toArray 5)).heap.size (some ⟨w.heap.size, 0, none⟩) l :=
  (Rd.lit w l).more (by simp)

end Go.Proofs.YtamdaepeogmboaaDoor
