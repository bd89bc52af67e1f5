/-
  The contracts of layer 1's functions in the form that the laws use: lengths as numbers of their own; what is answered reads as a list. No condition beyond: bytes below 256, lists of at most 2^40 elements.
-/
import Derived.Test.YtbkebmpeofbnjaaOct
namespace Go.Proofs.Ytbkebmpeofbnjaa
open Go.RowKit

/-- A new list of bytes: what it reads as, and that it is the call's own. -/
def New (w w' : World) (A : Option Addr) (c n : Nat) (l : List Nat) : Prop :=
  l.length = n ∧ w'.ownsRow w.heap.size 5 1 (.slice A n c) n (bvs l) ∧ Rd w' w'.heap.size A l ∧ Below w.heap.size w w'
theorem New.mk {w w' : World} {v : Value} {n : Nat} {l : List Nat} (hown : w'.ownsRow w.heap.size 5 1 v n (bvs l)) (hb : Below w.heap.size w w') : ∃ A c, v = .slice A n c ∧ New w w' A c n l := by
  obtain ⟨A, c, rfl, _, _⟩ := own_form hown
  refine ⟨A, c, rfl, ?_, hown, Rd.own hown, hb⟩
  have := hown.1
  rw [bvs_len] at this; omega

theorem equal_yes (a b : List Nat) (n m : Nat) (A B : Option Addr) (c d : Nat) (w : World) (ha : Rd w w.heap.size A a) (hb : Rd w w.heap.size B b) (hn : a.length = n) (hm : b.length = m) (hl : n ≤ 1099511627776) (hab : a = b) :
    Calls Try.prog 11 #[.slice A n c, .slice B m d] w fun e w' => e = .returned (.bool true) ∧ Below w.heap.size w w' := by
  subst hn; subst hm
  exact (equal_any a b A B c d w _ ha hb hl).mono fun _ _ ⟨he, hw⟩ => ⟨by rw [he]; simp [hab], by obtain ⟨k, rfl⟩ := hw; exact below_drewN (Below.refl _ _) k⟩
theorem same_yes (a b : List Nat) (n m : Nat) (A B : Option Addr) (c d : Nat) (w : World) (ha : Rd w w.heap.size A a) (hb : Rd w w.heap.size B b) (hn : a.length = n) (hm : b.length = m) (hl : n ≤ 1099511627776) (hab : a.map (· % 2) = b.map (· % 2)) :
    Calls Try.prog 14 #[.slice A n c, .slice B m d] w fun e w' => e = .returned (.bool true) ∧ Below w.heap.size w w' := by
  subst hn; subst hm
  exact (same_any a b A B c d w _ ha hb hl).mono fun _ _ ⟨he, hw⟩ => ⟨by rw [he]; simp [hab], by obtain ⟨k, rfl⟩ := hw; exact below_drewN (Below.refl _ _) k⟩
theorem run_c (l : List Nat) (n : Nat) (A : Option Addr) (c : Nat) (w : World) (h : Rd w w.heap.size A l) (hb : By l) (hn : l.length = n) (hl : n ≤ 1099511627776) :
    Calls Try.prog 15 #[.slice A n c] w fun e w' => e = .returned (.int .i64 (best l : Int)) ∧ w = w' := by
  subst hn; exact run_any l A c w _ h hb hl
theorem rrun_c (l : List Nat) (n : Nat) (A : Option Addr) (c at_ : Nat) (w : World) (h : Rd w w.heap.size A l) (hb : By l) (hn : l.length = n) (hl : n ≤ 1099511627776) (hat : at_ ≤ n) :
    Calls Try.prog 9 #[.slice A n c, .int .i64 (at_ : Int)] w fun e w' => e = .returned (.int .i64 (lead (l.drop at_) : Int)) ∧ w = w' := by
  subst hn; exact rrun_any l A c at_ w _ h hb hl hat
theorem clean_c (l : List Nat) (n : Nat) (A : Option Addr) (c : Nat) (w : World) (h : Rd w w.heap.size A l) (hb : By l) (hn : l.length = n) (hl : n ≤ 1099511627776) :
    Calls Try.prog 10 #[.slice A n c] w fun e w' => ∃ A' c', e = .returned (.slice A' n c') ∧ New w w' A' c' n (lows l) := by
  subst hn
  exact (clean_any l A c w h hb hl).mono fun _ _ ⟨v, he, ho, hbl⟩ => by obtain ⟨A', c', rfl, hN⟩ := New.mk ho hbl; exact ⟨A', c', he, hN⟩
theorem of_c (l : List Nat) (n : Nat) (A : Option Addr) (c : Nat) (w : World) (h : Rd w w.heap.size A l) (hb : By l) (hn : l.length = n) (hl : n ≤ 1099511627776) :
    Calls Try.prog 12 #[.slice A n c] w fun e w' => ∃ A' c', e = .returned (.slice A' (8 * n) c') ∧ New w w' A' c' (8 * n) (ofB l) := by
  subst hn
  exact (of_any l A c w h hb hl).mono fun _ _ ⟨v, he, ho, hbl⟩ => by obtain ⟨A', c', rfl, hN⟩ := New.mk ho hbl; exact ⟨A', c', he, hN⟩
theorem rof_c (l : List Nat) (n : Nat) (A : Option Addr) (c : Nat) (w : World) (h : Rd w w.heap.size A l) (hb : By l) (hn : l.length = n) (hl : n ≤ 1099511627776) :
    Calls Try.prog 13 #[.slice A n c] w fun e w' => ∃ A' c', e = .returned (.slice A' (8 * n) c') ∧ New w w' A' c' (8 * n) (ofB l) := by
  subst hn
  exact (rof_any l A c w h hb hl).mono fun _ _ ⟨v, he, ho, hbl⟩ => by obtain ⟨A', c', rfl, hN⟩ := New.mk ho hbl; exact ⟨A', c', he, hN⟩
theorem octets_c (l : List Nat) (n q : Nat) (A : Option Addr) (c : Nat) (w : World) (h : Rd w w.heap.size A l) (hb : By l) (hn : l.length = n) (hl : n ≤ 1099511627776) (hq : n = 8 * q) :
    Calls Try.prog 7 #[.slice A n c] w fun e w' => ∃ A' c', e = .returned (.tuple #[.slice A' q c', .bool true]) ∧ New w w' A' c' q (toO l) := by
  subst hn
  exact (octets_any l A c q w h hb hl hq).mono fun _ _ ⟨v, he, ho, hbl⟩ => by obtain ⟨A', c', rfl, hN⟩ := New.mk ho hbl; exact ⟨A', c', he, hN⟩
theorem roctets_c (l : List Nat) (n q : Nat) (A : Option Addr) (c : Nat) (w : World) (h : Rd w w.heap.size A l) (hb : By l) (hn : l.length = n) (hl : n ≤ 1099511627776) (hq : n = 8 * q) :
    Calls Try.prog 8 #[.slice A n c] w fun e w' => ∃ A' c', e = .returned (.tuple #[.slice A' q c', .bool true]) ∧ New w w' A' c' q (toO l) := by
  subst hn
  exact (roctets_any l A c q w h hb hl hq).mono fun _ _ ⟨v, he, ho, hbl⟩ => by obtain ⟨A', c', rfl, hN⟩ := New.mk ho hbl; exact ⟨A', c', he, hN⟩
theorem octets_no (l : List Nat) (n : Nat) (A : Option Addr) (c : Nat) (w : World) (hn : l.length = n) (hl : n ≤ 1099511627776) (hq : ¬ n % 8 = 0) :
    Calls Try.prog 7 #[.slice A n c] w fun e w' => e = .returned (.tuple #[.slice none 0 0, .bool false]) ∧ w = w' := by
  subst hn; exact octets_none l A c w hl hq
theorem roctets_no (l : List Nat) (n : Nat) (A : Option Addr) (c : Nat) (w : World) (hn : l.length = n) (hl : n ≤ 1099511627776) (hq : ¬ n % 8 = 0) :
    Calls Try.prog 8 #[.slice A n c] w fun e w' => e = .returned (.tuple #[.slice none 0 0, .bool false]) ∧ w = w' := by
  subst hn; exact roctets_none l A c w hl hq

/-! Lists alone. -/
theorem toO_len (l : List Nat) : (toO l).length = l.length / 8 := by simp [toO, firstO_len]
theorem toO_by (l : List Nat) : By (toO l) := by
  intro x hx
  simp only [toO, firstO, List.mem_map] at hx
  obtain ⟨n, _, rfl⟩ := hx
  exact valO_lt l n 8
theorem lows_by (l : List Nat) : By (lows l) := by
  intro x hx; simp only [lows, List.mem_map] at hx; obtain ⟨y, _, rfl⟩ := hx; omega

/-- A literal in a new block. -/
theorem Rd.lit (w : World) (l : List Nat) : Rd (w.alloc (.cells (bvs l).toArray 5)) (w.heap.size + 1) (some ⟨w.heap.size, 0, none⟩) l := by
  intro hl
  refine ⟨w.heap.size, 0, rfl, by omega, fun k x hx => ?_⟩
  rw [World.cell?_alloc_at _ _ _ _ rfl]
  have := bvs_get l k x hx
  simpa using this

theorem Rd.lit_ (w : World) (l : List Nat) : Rd (w.alloc (.cells (bvs l).toArray 5)) (w.alloc (.cells (bvs l).toArray 5)).heap.size (some ⟨w.heap.size, 0, none⟩) l :=
  (Rd.lit w l).more (by simp)

set_option maxHeartbeats 400000 in
theorem speaks_any (w : World) : Calls Try.prog 6 #[] w fun e w' => e = .returned (.bool true) ∧ Below w.heap.size w w' := by
  go_enter Try.func6, Try.ntmps6
  go_wp2_with fail
  refine (of_c [6] 1 _ _ _ (Rd.lit_ w [6]) (by intro x hx; simp at hx; omega) rfl (by omega)).mono ?_
  rintro e w1 ⟨A1, c1, rfl, hl1, -, hr1, hb1⟩
  have hB1 := ((Below.refl w.heap.size w).alloc (Nat.le_refl _) _).trans (hb1.mono (B' := w.heap.size) (by simp))
  clear hl1 hb1
  go_wp2_with fail
  refine (equal_yes (ofB [6]) [0, 1, 1, 0, 0, 0, 0, 0] 8 8 _ _ _ _ _ ((hr1.alloc (Nat.le_refl _) _).more (by simp)) (Rd.lit_ w1 [0, 1, 1, 0, 0, 0, 0, 0]) rfl rfl (by omega) rfl).mono ?_
  rintro e w2 ⟨rfl, hb2⟩
  have hB2 := (hB1.alloc hB1.size _).trans (hb2.mono (B' := w.heap.size) (by have := hB1.size; simp; omega))
  clear hb2 hB1 hr1
  go_wp2_with fail
  refine (run_c [1, 1, 0, 1] 4 _ _ _ (Rd.lit_ w2 [1, 1, 0, 1]) (by intro x hx; simp at hx; omega) rfl (by omega)).mono ?_
  rintro e w3 ⟨rfl, rfl⟩
  rw [show best [1, 1, 0, 1] = 2 from by decide]
  go_wp2
  go_ret
  exact ⟨rfl, hB2.alloc hB2.size _⟩

end Go.Proofs.Ytbkebmpeofbnjaa
