
/-
  The walk of the statement ProtoBack: it answers true for every number, every list of bytes and both bools, and writes nothing that was there. No condition.
-/
import Derived.Test.YtgggnmgenkdijaaProW
import Derived.Test.YtgggnmgenkdijaaAppn
namespace Go.Proofs.Ytgggnmgenkdijaa
open Go.RowKit

/-! Lists alone. -/
theorem getB_ok {l : List Nat} {s : Bool} {g1 g2 : Nat} (hb : By l) (h : getB l s = (g1, g2, 0)) :
    rightB g1 = true ∧ g2 ≤ l.length ∧ ((g2 = 2 ∧ putB g1 false = l.take 2) ∨ (g2 = 1 ∧ s = true ∧ putB g1 true = l.take 1)) := by
  match l, hb, h with
  | [], _, h => simp [getB] at h
  | x :: t, hb, h =>
    have hx := hb x (by simp)
    by_cases ho : x % 2 = 1
    · rw [getB_odd t s ho] at h
      split at h
      · rename_i hs
        simp only [Prod.mk.injEq] at h
        obtain ⟨rfl, rfl, _⟩ := h
        refine ⟨by rw [right_odd x hx ho]; simp [hs.2], by simp, .inr ⟨rfl, hs.1, by simp [putB, hx]⟩⟩
      · simp at h
    · match t, hb, h with
      | [], _, h => simp [getB, ho] at h
      | y :: t, hb, h =>
        have hy := hb y (by simp)
        rw [getB, if_neg ho] at h
        split at h
        · rename_i hr
          simp only [Prod.mk.injEq] at h
          obtain ⟨rfl, rfl, _⟩ := h
          refine ⟨hr, by simp, .inl ⟨rfl, ?_⟩⟩
          simp [putB]
          omega
        · simp at h
theorem putB_get (p : Nat) (s m : Bool) (l : List Nat) (hr : rightB p = true) (hsm : s = true → m = true) : getB (putB p s ++ l) m = (p, (putB p s).length, 0) := by
  have h := hr
  simp [rightB] at h
  by_cases hc : s = true ∧ p < 256
  · rw [putB, if_pos hc]
    rw [List.singleton_append, getB_odd l m h.1, if_pos ⟨hsm hc.1, h.2.2⟩]
    rfl
  · rw [putB, if_neg hc]
    show getB (p / 256 :: p % 256 :: l) m = _
    rw [getB, if_neg (by omega), show 256 * (p / 256) + p % 256 = p by omega, if_pos hr]
    rfl
theorem putB_by {p : Nat} (hp : p < 65536) (s : Bool) : By (putB p s) := by
  intro x hx
  unfold putB at hx
  split at hx <;> simp at hx <;> omega
theorem putB_len (p : Nat) (s : Bool) : (putB p s).length ≤ 2 ∧ 1 ≤ (putB p s).length := by
  unfold putB; split <;> simp

theorem equal_no (a b : List Nat) (n m : Nat) (A B : Option Addr) (c d : Nat) (w : World) (ha : Rd w w.heap.size A a) (hb : Rd w w.heap.size B b) (hn : a.length = n) (hm : b.length = m) (hl : n ≤ 1099511627776) (hab : ¬ a = b) :
    Calls Try.prog 13 #[.slice A n c, .slice B m d] w fun e w' => e = .returned (.bool false) ∧ Below w.heap.size w w' :=
  (equal_c a b n m A B c d w ha hb hn hm hl).mono fun _ _ ⟨he, hw⟩ => ⟨by rw [he]; simp [hab], hw⟩

set_option maxHeartbeats 1000000 in
theorem back_long (p : Int) (s m : Bool) (A : Option Addr) (n c : Nat) (w : World) (h : 100 < n) :
    Calls Try.prog 4 #[.int .u16 p, .slice A n c, .bool s, .bool m] w fun e w' => e = .returned (.bool true) ∧ Below w.heap.size w w' := by
  have h4 : (100 : Int) < (n : Int) := by omega
  go_enter Try.func4, Try.ntmps4
  go_wp2_with fail
  refine (speaks9_any _).mono ?_
  rintro e w1 ⟨rfl, hB1⟩
  go_wp2_with fail
  refine (speaks9_any _).mono ?_
  rintro e w2 ⟨rfl, hb2⟩
  go_wp2_with fail
  go_ret
  exact ⟨rfl, hB1.trans (hb2.mono hB1.size)⟩

set_option maxHeartbeats 2000000 in
theorem back_walk (p : Nat) (hp : p < 65536) (s m : Bool) (l : List Nat) (A : Option Addr) (n c : Nat) (w : World) (hl : l.length = n) (hb : By l) (h : Rd w w.heap.size A l) (h4 : n ≤ 100) (hc : n ≤ c) :
    Calls Try.prog 4 #[.int .u16 (p : Int), .slice A n c, .bool s, .bool m] w fun e w' => e = .returned (.bool true) ∧ Below w.heap.size w w' := by
  have HL := Lib.hid hl
  have HB := Lib.hid hb
  have HR := Lib.hid h
  clear hl hb h
  obtain ⟨g1, g2, g3, hg⟩ : ∃ g1 g2 g3, Hid (getB l m = (g1, g2, g3)) := ⟨_, _, _, Lib.hid rfl⟩
  have hg1 : g1 < 65536 := by have := getB_lt HB.out m; rw [hg.out] at this; exact this
  go_enter Try.func4, Try.ntmps4
  go_wp2_with fail
  refine (speaks9_any _).mono ?_
  rintro e w1 ⟨rfl, hB1⟩
  go_wp2_with fail
  refine (get_b l m g1 g2 g3 hg.out A n c _ ((HR.out.below hB1).more hB1.size) HB.out HL.out).mono ?_
  rintro e w2 ⟨rfl, hb2⟩
  have hB2 := hB1.trans (hb2.mono hB1.size)
  clear hb2 hB1
  by_cases h3 : g3 = 0
  · subst h3
    obtain ⟨hr1, hle, hcs⟩ := getB_ok HB.out hg.out
    rw [HL.out] at hle
    rcases hcs with ⟨rfl, hpt⟩ | ⟨rfl, rfl, hpt⟩
    · have HP := Lib.hid hpt
      have HR1 := Lib.hid hr1
      have HT := Lib.hid (show (l.take 2).length = 2 by rw [List.length_take, HL.out]; omega)
      have i1 : (2 : Int) ≤ n := by omega
      have i2 : (2 : Int) ≤ c := by omega
      have i3 : decide ((n : Int) < 2) = false := decide_eq_false (by omega)
      clear hpt hr1
      rw [show ((2 : Nat) : Int) = 2 from rfl, show ((0 : Nat) : Int) = 0 from rfl]
      go_wp2_with fail
      refine wp_region_held_drew (S := (fun _ => True)) (by kernel_rfl) (trivial) (fun _ => ?_)
      refine wpAnyH_take (i := 0) (oi := ?o0) (v := ?v0) ?hi0 (by kernel_rfl) (by kernel_rfl) (by kernel_rfl) ?hq0 (Or.inl ⟨?hw0, ?hy0⟩) (by trivial) ?rest0
      case hi0 => (simp only [List.getElem?_toArray, List.getElem?_cons_zero]; rfl)
      case hw0 => (rfl)
      case hq0 => (exact fun _ _ _ h => h)
      case hy0 => (intro w hSw; (try dsimp only at hSw); go_simp; (try with_reducible rfl))
      try simp only [Act.put, List.setIfInBounds_toArray, List.set_cons_zero, List.set_cons_succ]
      refine wpAnyH_ready (rs := [1]) (by kernel_rfl) (by simp) ?_
      refine AllReadyH.cons (o := ?o1) ?hi1 (fun K hK => ?st1) AllReadyH.nil
      case hi1 => (simp only [List.getElem?_toArray, List.getElem?_cons_succ, List.getElem?_cons_zero]; rfl)
      go_simp
      go_at_call 9; (with_reducible refine (right_v g1 true hg1 HR1.out _).mono ?_); rintro e w' ⟨rfl, rfl⟩; dsimp only
      refine hK.out _ _ (by trivial) (fun _ => ?_)
      clear hK K
      try simp only [Act.put, List.setIfInBounds_toArray, List.set_cons_zero, List.set_cons_succ]
      refine wpAnyH_take (i := 2) (oi := ?o2) (v := ?v2) ?hi2 (by kernel_rfl) (by kernel_rfl) (by kernel_rfl) ?hq2 (Or.inl ⟨?hw2, ?hy2⟩) (by trivial) ?rest2
      case hi2 => (simp only [List.getElem?_toArray, List.getElem?_cons_succ, List.getElem?_cons_zero]; rfl)
      case hw2 => (rfl)
      case hq2 => (exact fun _ _ _ h => h)
      case hy2 => (intro w hSw; (try dsimp only at hSw); go_simp; (try with_reducible rfl))
      try simp only [Act.put, List.setIfInBounds_toArray, List.set_cons_zero, List.set_cons_succ]
      refine wpAnyH_take (i := 3) (oi := ?o3) (v := ?v3) ?hi3 (by kernel_rfl) (by kernel_rfl) (by kernel_rfl) ?hq3 (Or.inl ⟨?hw3, ?hy3⟩) (by trivial) ?rest3
      case hi3 => (simp only [List.getElem?_toArray, List.getElem?_cons_succ, List.getElem?_cons_zero]; rfl)
      case hw3 => (rfl)
      case hq3 => (exact fun _ _ _ h => h)
      case hy3 => (intro w hSw; (try dsimp only at hSw); go_simp; (try with_reducible rfl))
      try simp only [Act.put, List.setIfInBounds_toArray, List.set_cons_zero, List.set_cons_succ]
      refine wpAnyH_take (i := 4) (oi := ?o4) (v := ?v4) ?hi4 (by kernel_rfl) (by kernel_rfl) (by kernel_rfl) ?hq4 (Or.inl ⟨?hw4, ?hy4⟩) (by trivial) ?rest4
      case hi4 => (simp only [List.getElem?_toArray, List.getElem?_cons_succ, List.getElem?_cons_zero]; rfl)
      case hw4 => (rfl)
      case hq4 => (exact fun _ _ _ h => h)
      case hy4 => (intro w hSw; (try dsimp only at hSw); go_simp; (try with_reducible rfl))
      try simp only [Act.put, List.setIfInBounds_toArray, List.set_cons_zero, List.set_cons_succ]
      refine wpAnyH_take (i := 5) (oi := ?o5) (v := ?v5) ?hi5 (by kernel_rfl) (by kernel_rfl) (by kernel_rfl) ?hq5 (Or.inl ⟨?hw5, ?hy5⟩) (by trivial) ?rest5
      case hi5 => (simp only [List.getElem?_toArray, List.getElem?_cons_succ, List.getElem?_cons_zero]; rfl)
      case hw5 => (rfl)
      case hq5 => (exact fun _ _ _ h => h)
      case hy5 => (intro w hSw; (try dsimp only at hSw); go_simp; (try with_reducible rfl))
      try simp only [Act.put, List.setIfInBounds_toArray, List.set_cons_zero, List.set_cons_succ]
      refine wpAnyH_take (i := 6) (oi := ?o6) (v := ?v6) ?hi6 (by kernel_rfl) (by kernel_rfl) (by kernel_rfl) ?hq6 (Or.inl ⟨?hw6, ?hy6⟩) (by trivial) ?rest6
      case hi6 => (simp only [List.getElem?_toArray, List.getElem?_cons_succ, List.getElem?_cons_zero]; rfl)
      case hw6 => (rfl)
      case hq6 => (exact fun _ _ _ h => h)
      case hy6 => (intro w hSw; (try dsimp only at hSw); go_simp; (try with_reducible rfl))
      try simp only [Act.put, List.setIfInBounds_toArray, List.set_cons_zero, List.set_cons_succ]
      refine wpAnyH_take (i := 7) (oi := ?o7) (v := ?v7) ?hi7 (by kernel_rfl) (by kernel_rfl) (by kernel_rfl) ?hq7 (Or.inl ⟨?hw7, ?hy7⟩) (by trivial) ?rest7
      case hi7 => (simp only [List.getElem?_toArray, List.getElem?_cons_succ, List.getElem?_cons_zero]; rfl)
      case hw7 => (rfl)
      case hq7 => (exact fun _ _ _ h => h)
      case hy7 => (intro w hSw; (try dsimp only at hSw); go_simp; (try with_reducible rfl))
      try simp only [Act.put, List.setIfInBounds_toArray, List.set_cons_zero, List.set_cons_succ]
      refine wpAnyH_take (i := 8) (oi := ?o8) (v := ?v8) ?hi8 (by kernel_rfl) (by kernel_rfl) (by kernel_rfl) ?hq8 (Or.inl ⟨?hw8, ?hy8⟩) (by trivial) ?rest8
      case hi8 => (simp only [List.getElem?_toArray, List.getElem?_cons_succ, List.getElem?_cons_zero]; rfl)
      case hw8 => (rfl)
      case hq8 => (exact fun _ _ _ h => h)
      case hy8 => (intro w hSw; (try dsimp only at hSw); go_simp; (try with_reducible rfl))
      try simp only [Act.put, List.setIfInBounds_toArray, List.set_cons_zero, List.set_cons_succ]
      refine wpAnyH_take (i := 9) (oi := ?o9) (v := ?v9) ?hi9 (by kernel_rfl) (by kernel_rfl) (by kernel_rfl) ?hq9 (Or.inl ⟨?hw9, ?hy9⟩) (by trivial) ?rest9
      case hi9 => (simp only [List.getElem?_toArray, List.getElem?_cons_succ, List.getElem?_cons_zero]; rfl)
      case hw9 => (rfl)
      case hq9 => (exact fun _ _ _ h => h)
      case hy9 => (intro w hSw; (try dsimp only at hSw); go_simp; (try with_reducible rfl))
      try simp only [Act.put, List.setIfInBounds_toArray, List.set_cons_zero, List.set_cons_succ]
      refine wpAnyH_take (i := 10) (oi := ?o10) (v := ?v10) ?hi10 (by kernel_rfl) (by kernel_rfl) (by kernel_rfl) ?hq10 (Or.inl ⟨?hw10, ?hy10⟩) (by trivial) ?rest10
      case hi10 => (simp only [List.getElem?_toArray, List.getElem?_cons_succ, List.getElem?_cons_zero]; rfl)
      case hw10 => (rfl)
      case hq10 => (exact fun _ _ _ h => h)
      case hy10 => (intro w hSw; (try dsimp only at hSw); go_simp; (try with_reducible rfl))
      try simp only [Act.put, List.setIfInBounds_toArray, List.set_cons_zero, List.set_cons_succ]
      refine wpAnyH_take (i := 11) (oi := ?o11) (v := ?v11) ?hi11 (by kernel_rfl) (by kernel_rfl) (by kernel_rfl) ?hq11 (Or.inl ⟨?hw11, ?hy11⟩) (by trivial) ?rest11
      case hi11 => (simp only [List.getElem?_toArray, List.getElem?_cons_succ, List.getElem?_cons_zero]; rfl)
      case hw11 => (rfl)
      case hq11 => (exact fun _ _ _ h => h)
      case hy11 => (intro w hSw; (try dsimp only at hSw); go_simp; (try with_reducible rfl))
      try simp only [Act.put, List.setIfInBounds_toArray, List.set_cons_zero, List.set_cons_succ]
      refine wpAnyH_take (i := 12) (oi := ?o12) (v := ?v12) ?hi12 (by kernel_rfl) (by kernel_rfl) (by kernel_rfl) ?hq12 (Or.inl ⟨?hw12, ?hy12⟩) (by trivial) ?rest12
      case hi12 => (simp only [List.getElem?_toArray, List.getElem?_cons_succ, List.getElem?_cons_zero]; rfl)
      case hw12 => (rfl)
      case hq12 => (exact fun _ _ _ h => h)
      case hy12 => (intro w hSw; (try dsimp only at hSw); go_simp; (try with_reducible rfl))
      try simp only [Act.put, List.setIfInBounds_toArray, List.set_cons_zero, List.set_cons_succ]
      refine wpAnyH_take (i := 13) (oi := ?o13) (v := ?v13) ?hi13 (by kernel_rfl) (by kernel_rfl) (by kernel_rfl) ?hq13 (Or.inl ⟨?hw13, ?hy13⟩) (by trivial) ?rest13
      case hi13 => (simp only [List.getElem?_toArray, List.getElem?_cons_succ, List.getElem?_cons_zero]; rfl)
      case hw13 => (rfl)
      case hq13 => (exact fun _ _ _ h => h)
      case hy13 => (intro w hSw; (try dsimp only at hSw); go_simp; (try with_reducible rfl))
      try simp only [Act.put, List.setIfInBounds_toArray, List.set_cons_zero, List.set_cons_succ]
      refine wpAnyH_take (i := 14) (oi := ?o14) (v := ?v14) ?hi14 (by kernel_rfl) (by kernel_rfl) (by kernel_rfl) ?hq14 (Or.inl ⟨?hw14, ?hy14⟩) (by trivial) ?rest14
      case hi14 => (simp only [List.getElem?_toArray, List.getElem?_cons_succ, List.getElem?_cons_zero]; rfl)
      case hw14 => (rfl)
      case hq14 => (exact fun _ _ _ h => h)
      case hy14 => (intro w hSw; (try dsimp only at hSw); go_simp; (try with_reducible rfl))
      try simp only [Act.put, List.setIfInBounds_toArray, List.set_cons_zero, List.set_cons_succ]
      refine wpAnyH_take (i := 15) (oi := ?o15) (v := ?v15) ?hi15 (by kernel_rfl) (by kernel_rfl) (by kernel_rfl) ?hq15 (Or.inl ⟨?hw15, ?hy15⟩) (by trivial) ?rest15
      case hi15 => (simp only [List.getElem?_toArray, List.getElem?_cons_succ, List.getElem?_cons_zero]; rfl)
      case hw15 => (rfl)
      case hq15 => (exact fun _ _ _ h => h)
      case hy15 => (intro w hSw; (try dsimp only at hSw); go_simp; (try with_reducible rfl))
      try simp only [Act.put, List.setIfInBounds_toArray, List.set_cons_zero, List.set_cons_succ]
      refine wpAnyH_take (i := 16) (oi := ?o16) (v := ?v16) ?hi16 (by kernel_rfl) (by kernel_rfl) (by kernel_rfl) ?hq16 (Or.inl ⟨?hw16, ?hy16⟩) (by trivial) ?rest16
      case hi16 => (simp only [List.getElem?_toArray, List.getElem?_cons_succ, List.getElem?_cons_zero]; rfl)
      case hw16 => (rfl)
      case hq16 => (exact fun _ _ _ h => h)
      case hy16 => (intro w hSw; (try dsimp only at hSw); go_simp; (try with_reducible rfl))
      try simp only [Act.put, List.setIfInBounds_toArray, List.set_cons_zero, List.set_cons_succ]
      refine wpAnyH_take (i := 17) (oi := ?o17) (v := ?v17) ?hi17 (by kernel_rfl) (by kernel_rfl) (by kernel_rfl) ?hq17 (Or.inl ⟨?hw17, ?hy17⟩) (by trivial) ?rest17
      case hi17 => (simp only [List.getElem?_toArray, List.getElem?_cons_succ, List.getElem?_cons_zero]; rfl)
      case hw17 => (rfl)
      case hq17 => (exact fun _ _ _ h => h)
      case hy17 => (intro w hSw; (try dsimp only at hSw); go_simp; (try with_reducible rfl))
      try simp only [Act.put, List.setIfInBounds_toArray, List.set_cons_zero, List.set_cons_succ]
      refine wpAnyH_take (i := 18) (oi := ?o18) (v := ?v18) ?hi18 (by kernel_rfl) (by kernel_rfl) (by kernel_rfl) ?hq18 (Or.inl ⟨?hw18, ?hy18⟩) (by trivial) ?rest18
      case hi18 => (simp only [List.getElem?_toArray, List.getElem?_cons_succ, List.getElem?_cons_zero]; rfl)
      case hw18 => (rfl)
      case hq18 => (exact fun _ _ _ h => h)
      case hy18 => (intro w hSw; (try dsimp only at hSw); go_simp; (try with_reducible rfl))
      try simp only [Act.put, List.setIfInBounds_toArray, List.set_cons_zero, List.set_cons_succ]
      refine wpAnyH_take (i := 20) (oi := ?o20) (v := ?v20) ?hi20 (by kernel_rfl) (by kernel_rfl) (by kernel_rfl) ?hq20 (Or.inl ⟨?hw20, ?hy20⟩) (by trivial) ?rest20
      case hi20 => (simp only [List.getElem?_toArray, List.getElem?_cons_succ, List.getElem?_cons_zero]; rfl)
      case hw20 => (rfl)
      case hq20 => (exact fun _ _ _ h => h)
      case hy20 => (intro w hSw; (try dsimp only at hSw); go_simp; (try with_reducible rfl))
      try simp only [Act.put, List.setIfInBounds_toArray, List.set_cons_zero, List.set_cons_succ]
      refine wpAnyH_take (i := 21) (oi := ?o21) (v := ?v21) ?hi21 (by kernel_rfl) (by kernel_rfl) (by kernel_rfl) ?hq21 (Or.inl ⟨?hw21, ?hy21⟩) (by trivial) ?rest21
      case hi21 => (simp only [List.getElem?_toArray, List.getElem?_cons_succ, List.getElem?_cons_zero]; rfl)
      case hw21 => (rfl)
      case hq21 => (exact fun _ _ _ h => h)
      case hy21 => (intro w hSw; (try dsimp only at hSw); go_simp; (try with_reducible rfl))
      try simp only [Act.put, List.setIfInBounds_toArray, List.set_cons_zero, List.set_cons_succ]
      refine wpAnyH_take (i := 22) (oi := ?o22) (v := ?v22) ?hi22 (by kernel_rfl) (by kernel_rfl) (by kernel_rfl) ?hq22 (Or.inl ⟨?hw22, ?hy22⟩) (by trivial) ?rest22
      case hi22 => (simp only [List.getElem?_toArray, List.getElem?_cons_succ, List.getElem?_cons_zero]; rfl)
      case hw22 => (rfl)
      case hq22 => (exact fun _ _ _ h => h)
      case hy22 => (intro w hSw; (try dsimp only at hSw); go_simp; (try with_reducible rfl))
      try simp only [Act.put, List.setIfInBounds_toArray, List.set_cons_zero, List.set_cons_succ]
      refine wpAnyH_ready (rs := [19]) (by kernel_rfl) (by simp) ?_
      refine AllReadyH.cons (o := ?o19) ?hi19 (fun K hK => ?st19) AllReadyH.nil
      case hi19 => (simp only [List.getElem?_toArray, List.getElem?_cons_succ, List.getElem?_cons_zero]; rfl)
      go_simp
      go_at_call 14; (with_reducible refine (put_any g1 hg1 false _).mono ?_); rintro e w5 ⟨A5, c5, n5, rfl, hl5, -, hr5, hb5⟩; have hn5 := (putB_len g1 false).1; rw [hl5] at hn5; have hB5 := hB2.drew.trans (hb5.mono hB2.drew.size); clear hb5; dsimp only
      refine hK.out _ _ (by trivial) (fun _ => ?_)
      clear hK K
      try simp only [Act.put, List.setIfInBounds_toArray, List.set_cons_zero, List.set_cons_succ]
      refine wpAnyH_ready (rs := [23]) (by kernel_rfl) (by simp) ?_
      refine AllReadyH.cons (o := ?o23) ?hi23 (fun K hK => ?st23) AllReadyH.nil
      case hi23 => (simp only [List.getElem?_toArray, List.getElem?_cons_succ, List.getElem?_cons_zero]; rfl)
      go_simp
      go_at_call 13; (with_reducible refine (equal_yes (putB g1 false) (l.take 2) n5 2 _ _ _ _ _ hr5 (((HR.out.below hB5).more hB5.size).take 2) hl5 HT.out (by omega) HP.out).mono ?_); rintro e w6 ⟨rfl, hb6⟩; have hBX := hB5.trans (hb6.mono hB5.size); clear hb6 hr5; dsimp only
      refine hK.out _ _ (by trivial) (fun _ => ?_)
      clear hK K
      try simp only [Act.put, List.setIfInBounds_toArray, List.set_cons_zero, List.set_cons_succ]
      refine wpAnyH_take (i := 24) (oi := ?o24) (v := ?v24) ?hi24 (by kernel_rfl) (by kernel_rfl) (by kernel_rfl) ?hq24 (Or.inl ⟨?hw24, ?hy24⟩) (by trivial) ?rest24
      case hi24 => (simp only [List.getElem?_toArray, List.getElem?_cons_succ, List.getElem?_cons_zero]; rfl)
      case hw24 => (rfl)
      case hq24 => (exact fun _ _ _ h => h)
      case hy24 => (intro w hSw; (try dsimp only at hSw); go_simp; (try with_reducible rfl))
      try simp only [Act.put, List.setIfInBounds_toArray, List.set_cons_zero, List.set_cons_succ]
      refine wpAnyH_take (i := 25) (oi := ?o25) (v := undef) ?hi25 (by kernel_rfl) (by kernel_rfl) (by kernel_rfl) ?hq25 (Or.inr ⟨?hw25, rfl⟩) (by trivial) ?rest25
      case hi25 => (simp only [List.getElem?_toArray, List.getElem?_cons_succ, List.getElem?_cons_zero]; rfl)
      case hq25 => (exact fun _ _ _ h => h)
      case hw25 => (rfl)
      try simp only [Act.put, List.setIfInBounds_toArray, List.set_cons_zero, List.set_cons_succ]
      refine wpAnyH_take (i := 26) (oi := ?o26) (v := undef) ?hi26 (by kernel_rfl) (by kernel_rfl) (by kernel_rfl) ?hq26 (Or.inr ⟨?hw26, rfl⟩) (by trivial) ?rest26
      case hi26 => (simp only [List.getElem?_toArray, List.getElem?_cons_succ, List.getElem?_cons_zero]; rfl)
      case hq26 => (exact fun _ _ _ h => h)
      case hw26 => (rfl)
      try simp only [Act.put, List.setIfInBounds_toArray, List.set_cons_zero, List.set_cons_succ]
      refine wpAnyH_take (i := 27) (oi := ?o27) (v := undef) ?hi27 (by kernel_rfl) (by kernel_rfl) (by kernel_rfl) ?hq27 (Or.inr ⟨?hw27, rfl⟩) (by trivial) ?rest27
      case hi27 => (simp only [List.getElem?_toArray, List.getElem?_cons_succ, List.getElem?_cons_zero]; rfl)
      case hq27 => (exact fun _ _ _ h => h)
      case hw27 => (rfl)
      try simp only [Act.put, List.setIfInBounds_toArray, List.set_cons_zero, List.set_cons_succ]
      refine wpAnyH_take (i := 29) (oi := ?o29) (v := undef) ?hi29 (by kernel_rfl) (by kernel_rfl) (by kernel_rfl) ?hq29 (Or.inr ⟨?hw29, rfl⟩) (by trivial) ?rest29
      case hi29 => (simp only [List.getElem?_toArray, List.getElem?_cons_succ, List.getElem?_cons_zero]; rfl)
      case hq29 => (exact fun _ _ _ h => h)
      case hw29 => (rfl)
      try simp only [Act.put, List.setIfInBounds_toArray, List.set_cons_zero, List.set_cons_succ]
      refine wpAnyH_take (i := 30) (oi := ?o30) (v := undef) ?hi30 (by kernel_rfl) (by kernel_rfl) (by kernel_rfl) ?hq30 (Or.inr ⟨?hw30, rfl⟩) (by trivial) ?rest30
      case hi30 => (simp only [List.getElem?_toArray, List.getElem?_cons_succ, List.getElem?_cons_zero]; rfl)
      case hq30 => (exact fun _ _ _ h => h)
      case hw30 => (rfl)
      try simp only [Act.put, List.setIfInBounds_toArray, List.set_cons_zero, List.set_cons_succ]
      refine wpAnyH_take (i := 31) (oi := ?o31) (v := undef) ?hi31 (by kernel_rfl) (by kernel_rfl) (by kernel_rfl) ?hq31 (Or.inr ⟨?hw31, rfl⟩) (by trivial) ?rest31
      case hi31 => (simp only [List.getElem?_toArray, List.getElem?_cons_succ, List.getElem?_cons_zero]; rfl)
      case hq31 => (exact fun _ _ _ h => h)
      case hw31 => (rfl)
      try simp only [Act.put, List.setIfInBounds_toArray, List.set_cons_zero, List.set_cons_succ]
      refine wpAnyH_take (i := 28) (oi := ?o28) (v := undef) ?hi28 (by kernel_rfl) (by kernel_rfl) (by kernel_rfl) ?hq28 (Or.inr ⟨?hw28, rfl⟩) (by trivial) ?rest28
      case hi28 => (simp only [List.getElem?_toArray, List.getElem?_cons_succ, List.getElem?_cons_zero]; rfl)
      case hq28 => (exact fun _ _ _ h => h)
      case hw28 => (rfl)
      try simp only [Act.put, List.setIfInBounds_toArray, List.set_cons_zero, List.set_cons_succ]
      refine wpAnyH_take (i := 32) (oi := ?o32) (v := undef) ?hi32 (by kernel_rfl) (by kernel_rfl) (by kernel_rfl) ?hq32 (Or.inr ⟨?hw32, rfl⟩) (by trivial) ?rest32
      case hi32 => (simp only [List.getElem?_toArray, List.getElem?_cons_succ, List.getElem?_cons_zero]; rfl)
      case hq32 => (exact fun _ _ _ h => h)
      case hw32 => (rfl)
      try simp only [Act.put, List.setIfInBounds_toArray, List.set_cons_zero, List.set_cons_succ]
      refine wpAnyH_take (i := 33) (oi := ?o33) (v := undef) ?hi33 (by kernel_rfl) (by kernel_rfl) (by kernel_rfl) ?hq33 (Or.inr ⟨?hw33, rfl⟩) (by trivial) ?rest33
      case hi33 => (simp only [List.getElem?_toArray, List.getElem?_cons_succ, List.getElem?_cons_zero]; rfl)
      case hq33 => (exact fun _ _ _ h => h)
      case hw33 => (rfl)
      try simp only [Act.put, List.setIfInBounds_toArray, List.set_cons_zero, List.set_cons_succ]
      refine wpAnyH_take (i := 34) (oi := ?o34) (v := ?v34) ?hi34 (by kernel_rfl) (by kernel_rfl) (by kernel_rfl) ?hq34 (Or.inl ⟨?hw34, ?hy34⟩) (by trivial) ?rest34
      case hi34 => (simp only [List.getElem?_toArray, List.getElem?_cons_succ, List.getElem?_cons_zero]; rfl)
      case hw34 => (rfl)
      case hq34 => (exact fun _ _ _ h => h)
      case hy34 => (intro w hSw; (try dsimp only at hSw); go_simp; (try with_reducible rfl))
      try simp only [Act.put, List.setIfInBounds_toArray, List.set_cons_zero, List.set_cons_succ]
      refine wpAnyH_take (i := 35) (oi := ?o35) (v := ?v35) ?hi35 (by kernel_rfl) (by kernel_rfl) (by kernel_rfl) ?hq35 (Or.inl ⟨?hw35, ?hy35⟩) (by trivial) ?rest35
      case hi35 => (simp only [List.getElem?_toArray, List.getElem?_cons_succ, List.getElem?_cons_zero]; rfl)
      case hw35 => (rfl)
      case hq35 => (exact fun _ _ _ h => h)
      case hy35 => (intro w hSw; (try dsimp only at hSw); go_simp; (try with_reducible rfl))
      try simp only [Act.put, List.setIfInBounds_toArray, List.set_cons_zero, List.set_cons_succ]
      refine wpAnyH_take (i := 36) (oi := ?o36) (v := ?v36) ?hi36 (by kernel_rfl) (by kernel_rfl) (by kernel_rfl) ?hq36 (Or.inl ⟨?hw36, ?hy36⟩) (by trivial) ?rest36
      case hi36 => (simp only [List.getElem?_toArray, List.getElem?_cons_succ, List.getElem?_cons_zero]; rfl)
      case hw36 => (rfl)
      case hq36 => (exact fun _ _ _ h => h)
      case hy36 => (intro w hSw; (try dsimp only at hSw); go_simp; (try with_reducible rfl))
      try simp only [Act.put, List.setIfInBounds_toArray, List.set_cons_zero, List.set_cons_succ]
      refine wpAnyH_done (by kernel_rfl) ?_ _
      clear i1 i2 i3 HP HR1 HT
      obtain ⟨q, hq⟩ : ∃ q, Hid (rightB p = q) := ⟨_, Lib.hid rfl⟩
      go_wp2_with fail
      refine (rright_v p q hp hq.out _).mono ?_
      rintro e w9 ⟨rfl, rfl⟩
      by_cases hqm : q = true ∧ (s = true → m = true)
      case neg =>
        have hgo : q = false ∨ (s = true ∧ m = false) := by
          cases q <;> cases s <;> cases m <;> simp_all
        rcases hgo with rfl | ⟨rfl, rfl⟩
        · go_wp2_with fail
          go_ret
          exact ⟨rfl, hBX⟩
        · cases q
          all_goals
            go_wp2_with fail
            go_ret
            exact ⟨rfl, hBX⟩
      obtain ⟨rfl, hsm⟩ := hqm
      have HG := Lib.hid (putB_get p s m l hq.out hsm)
      have HPL := Lib.hid (putB_len p s)
      have HPB := Lib.hid (putB_by hp s)
      have hsm2 : (!m && s) = false := by cases s <;> cases m <;> simp_all
      clear hsm
      cases s <;> cases m <;> first | (simp at hsm2; done) | skip
      all_goals
        clear hsm2
        go_wp2_with fail
        refine (put_any p hp _ _).mono ?_
        rintro e w10 ⟨A10, c10, n10, rfl, hl10, -, hr10, hb10⟩
        have hB10 := hBX.trans (hb10.mono hBX.size)
        have hn10 := HPL.out
        rw [hl10] at hn10
        have HL10 := Lib.hid hl10
        have hsz10 := hB10.size
        have HR10 := Lib.hid hr10
        clear hb10 hl10 hr10
        obtain ⟨i0, hi, hz0, hz1, hz2⟩ := info_parts byte_info
        have hown0 : (w10.alloc (.cells #[] 5)).ownsRow w.heap.size 5 1 (.slice (some ⟨w10.heap.size, 0, none⟩) 0 0) 0 (bvs []) := World.ownsRow_lit w10 #[] 0 hsz10 (by unfold maxLen; omega) rfl
        have hB0 := hB10.alloc hsz10 (.cells #[] 5)
        have hr0 := Lib.hid ((HR10.out.alloc (Nat.le_refl _) (.cells #[] 5)))
        go_wp2_with (first
          | (at_builtin; have _g := hown0; clear _g; refine list_app rfl _ _ _ rfl _ i0 Try.underlying23 hi hz0 hz1 hz2 w.heap.size _ _ [] rfl hown0 _ _ _ _ _ rfl hr0.out HL10.out (by omega) hB0.size ?_; intro A4 c4 w4 ho4 hg4; rw [List.nil_append, Nat.zero_add] at ho4; rw [Nat.zero_add]; have hB4 := app_below hB0 (Nat.le_refl _) hown0 hg4; clear hg4 hown0)
          | (at_builtin; refine list_app rfl _ _ _ rfl _ i0 Try.underlying23 hi hz0 hz1 hz2 w.heap.size _ n10 _ rfl ho4 _ _ _ _ l rfl ((HR.out.below hB4).more hB4.size) HL.out (by omega) hB4.size ?_; intro A5 c5 w5 ho5 hg5; have hB5 := app_below hB4 (Nat.le_refl _) ho4 hg5; clear hg5 ho4 hB4))
        refine (get_b _ _ p _ 0 HG.out A5 (n10 + n) c5 _ (Rd.own ho5) (HPB.out.app HB.out) (by rw [List.length_append, HL10.out, HL.out])).mono ?_
        rintro e w6 ⟨rfl, hb6⟩
        rw [HL10.out, show ((0 : Nat) : Int) = 0 from rfl]
        have hB6 := hB5.trans (hb6.mono hB5.size)
        clear hb6
        have pp : ((p : Int) == (p : Int)) = true := by simp
        have nn : ((n10 : Int) == (n10 : Int)) = true := by simp
        go_wp2_with fail
        go_ret
        exact ⟨rfl, hB6⟩
    · have HP := Lib.hid hpt
      have HR1 := Lib.hid hr1
      have HT := Lib.hid (show (l.take 1).length = 1 by rw [List.length_take, HL.out]; omega)
      have HN := Lib.hid (show (putB g1 false).length ≠ (l.take 1).length by rw [HT.out]; simp [putB])
      have HQ := Lib.hid (show ¬ putB g1 false = l.take 1 from fun h => HN.out (by rw [h]))
      have i1 : (1 : Int) ≤ n := by omega
      have i2 : (1 : Int) ≤ c := by omega
      have i3 : decide ((n : Int) < 1) = false := decide_eq_false (by omega)
      clear hpt hr1
      rw [show ((1 : Nat) : Int) = 1 from rfl, show ((0 : Nat) : Int) = 0 from rfl]
      go_wp2_with fail
      refine wp_region_held_drew (S := (fun _ => True)) (by kernel_rfl) (trivial) (fun _ => ?_)
      refine wpAnyH_take (i := 0) (oi := ?ob0) (v := ?vb0) ?hib0 (by kernel_rfl) (by kernel_rfl) (by kernel_rfl) ?hqb0 (Or.inl ⟨?hwb0, ?hyb0⟩) (by trivial) ?restb0
      case hib0 => (simp only [List.getElem?_toArray, List.getElem?_cons_zero]; rfl)
      case hwb0 => (rfl)
      case hqb0 => (exact fun _ _ _ h => h)
      case hyb0 => (intro w hSw; (try dsimp only at hSw); go_simp; (try with_reducible rfl))
      try simp only [Act.put, List.setIfInBounds_toArray, List.set_cons_zero, List.set_cons_succ]
      refine wpAnyH_ready (rs := [1]) (by kernel_rfl) (by simp) ?_
      refine AllReadyH.cons (o := ?ob1) ?hib1 (fun K hK => ?stb1) AllReadyH.nil
      case hib1 => (simp only [List.getElem?_toArray, List.getElem?_cons_succ, List.getElem?_cons_zero]; rfl)
      go_simp
      go_at_call 9; (with_reducible refine (right_v g1 true hg1 HR1.out _).mono ?_); rintro e w' ⟨rfl, rfl⟩; dsimp only
      refine hK.out _ _ (by trivial) (fun _ => ?_)
      clear hK K
      try simp only [Act.put, List.setIfInBounds_toArray, List.set_cons_zero, List.set_cons_succ]
      refine wpAnyH_take (i := 2) (oi := ?ob2) (v := ?vb2) ?hib2 (by kernel_rfl) (by kernel_rfl) (by kernel_rfl) ?hqb2 (Or.inl ⟨?hwb2, ?hyb2⟩) (by trivial) ?restb2
      case hib2 => (simp only [List.getElem?_toArray, List.getElem?_cons_succ, List.getElem?_cons_zero]; rfl)
      case hwb2 => (rfl)
      case hqb2 => (exact fun _ _ _ h => h)
      case hyb2 => (intro w hSw; (try dsimp only at hSw); go_simp; (try with_reducible rfl))
      try simp only [Act.put, List.setIfInBounds_toArray, List.set_cons_zero, List.set_cons_succ]
      refine wpAnyH_take (i := 3) (oi := ?ob3) (v := ?vb3) ?hib3 (by kernel_rfl) (by kernel_rfl) (by kernel_rfl) ?hqb3 (Or.inl ⟨?hwb3, ?hyb3⟩) (by trivial) ?restb3
      case hib3 => (simp only [List.getElem?_toArray, List.getElem?_cons_succ, List.getElem?_cons_zero]; rfl)
      case hwb3 => (rfl)
      case hqb3 => (exact fun _ _ _ h => h)
      case hyb3 => (intro w hSw; (try dsimp only at hSw); go_simp; (try with_reducible rfl))
      try simp only [Act.put, List.setIfInBounds_toArray, List.set_cons_zero, List.set_cons_succ]
      refine wpAnyH_take (i := 4) (oi := ?ob4) (v := ?vb4) ?hib4 (by kernel_rfl) (by kernel_rfl) (by kernel_rfl) ?hqb4 (Or.inl ⟨?hwb4, ?hyb4⟩) (by trivial) ?restb4
      case hib4 => (simp only [List.getElem?_toArray, List.getElem?_cons_succ, List.getElem?_cons_zero]; rfl)
      case hwb4 => (rfl)
      case hqb4 => (exact fun _ _ _ h => h)
      case hyb4 => (intro w hSw; (try dsimp only at hSw); go_simp; (try with_reducible rfl))
      try simp only [Act.put, List.setIfInBounds_toArray, List.set_cons_zero, List.set_cons_succ]
      refine wpAnyH_take (i := 5) (oi := ?ob5) (v := ?vb5) ?hib5 (by kernel_rfl) (by kernel_rfl) (by kernel_rfl) ?hqb5 (Or.inl ⟨?hwb5, ?hyb5⟩) (by trivial) ?restb5
      case hib5 => (simp only [List.getElem?_toArray, List.getElem?_cons_succ, List.getElem?_cons_zero]; rfl)
      case hwb5 => (rfl)
      case hqb5 => (exact fun _ _ _ h => h)
      case hyb5 => (intro w hSw; (try dsimp only at hSw); go_simp; (try with_reducible rfl))
      try simp only [Act.put, List.setIfInBounds_toArray, List.set_cons_zero, List.set_cons_succ]
      refine wpAnyH_take (i := 6) (oi := ?ob6) (v := ?vb6) ?hib6 (by kernel_rfl) (by kernel_rfl) (by kernel_rfl) ?hqb6 (Or.inl ⟨?hwb6, ?hyb6⟩) (by trivial) ?restb6
      case hib6 => (simp only [List.getElem?_toArray, List.getElem?_cons_succ, List.getElem?_cons_zero]; rfl)
      case hwb6 => (rfl)
      case hqb6 => (exact fun _ _ _ h => h)
      case hyb6 => (intro w hSw; (try dsimp only at hSw); go_simp; (try with_reducible rfl))
      try simp only [Act.put, List.setIfInBounds_toArray, List.set_cons_zero, List.set_cons_succ]
      refine wpAnyH_take (i := 7) (oi := ?ob7) (v := ?vb7) ?hib7 (by kernel_rfl) (by kernel_rfl) (by kernel_rfl) ?hqb7 (Or.inl ⟨?hwb7, ?hyb7⟩) (by trivial) ?restb7
      case hib7 => (simp only [List.getElem?_toArray, List.getElem?_cons_succ, List.getElem?_cons_zero]; rfl)
      case hwb7 => (rfl)
      case hqb7 => (exact fun _ _ _ h => h)
      case hyb7 => (intro w hSw; (try dsimp only at hSw); go_simp; (try with_reducible rfl))
      try simp only [Act.put, List.setIfInBounds_toArray, List.set_cons_zero, List.set_cons_succ]
      refine wpAnyH_take (i := 8) (oi := ?ob8) (v := ?vb8) ?hib8 (by kernel_rfl) (by kernel_rfl) (by kernel_rfl) ?hqb8 (Or.inl ⟨?hwb8, ?hyb8⟩) (by trivial) ?restb8
      case hib8 => (simp only [List.getElem?_toArray, List.getElem?_cons_succ, List.getElem?_cons_zero]; rfl)
      case hwb8 => (rfl)
      case hqb8 => (exact fun _ _ _ h => h)
      case hyb8 => (intro w hSw; (try dsimp only at hSw); go_simp; (try with_reducible rfl))
      try simp only [Act.put, List.setIfInBounds_toArray, List.set_cons_zero, List.set_cons_succ]
      refine wpAnyH_take (i := 9) (oi := ?ob9) (v := ?vb9) ?hib9 (by kernel_rfl) (by kernel_rfl) (by kernel_rfl) ?hqb9 (Or.inl ⟨?hwb9, ?hyb9⟩) (by trivial) ?restb9
      case hib9 => (simp only [List.getElem?_toArray, List.getElem?_cons_succ, List.getElem?_cons_zero]; rfl)
      case hwb9 => (rfl)
      case hqb9 => (exact fun _ _ _ h => h)
      case hyb9 => (intro w hSw; (try dsimp only at hSw); go_simp; (try with_reducible rfl))
      try simp only [Act.put, List.setIfInBounds_toArray, List.set_cons_zero, List.set_cons_succ]
      refine wpAnyH_take (i := 10) (oi := ?ob10) (v := ?vb10) ?hib10 (by kernel_rfl) (by kernel_rfl) (by kernel_rfl) ?hqb10 (Or.inl ⟨?hwb10, ?hyb10⟩) (by trivial) ?restb10
      case hib10 => (simp only [List.getElem?_toArray, List.getElem?_cons_succ, List.getElem?_cons_zero]; rfl)
      case hwb10 => (rfl)
      case hqb10 => (exact fun _ _ _ h => h)
      case hyb10 => (intro w hSw; (try dsimp only at hSw); go_simp; (try with_reducible rfl))
      try simp only [Act.put, List.setIfInBounds_toArray, List.set_cons_zero, List.set_cons_succ]
      refine wpAnyH_take (i := 11) (oi := ?ob11) (v := ?vb11) ?hib11 (by kernel_rfl) (by kernel_rfl) (by kernel_rfl) ?hqb11 (Or.inl ⟨?hwb11, ?hyb11⟩) (by trivial) ?restb11
      case hib11 => (simp only [List.getElem?_toArray, List.getElem?_cons_succ, List.getElem?_cons_zero]; rfl)
      case hwb11 => (rfl)
      case hqb11 => (exact fun _ _ _ h => h)
      case hyb11 => (intro w hSw; (try dsimp only at hSw); go_simp; (try with_reducible rfl))
      try simp only [Act.put, List.setIfInBounds_toArray, List.set_cons_zero, List.set_cons_succ]
      refine wpAnyH_take (i := 12) (oi := ?ob12) (v := ?vb12) ?hib12 (by kernel_rfl) (by kernel_rfl) (by kernel_rfl) ?hqb12 (Or.inl ⟨?hwb12, ?hyb12⟩) (by trivial) ?restb12
      case hib12 => (simp only [List.getElem?_toArray, List.getElem?_cons_succ, List.getElem?_cons_zero]; rfl)
      case hwb12 => (rfl)
      case hqb12 => (exact fun _ _ _ h => h)
      case hyb12 => (intro w hSw; (try dsimp only at hSw); go_simp; (try with_reducible rfl))
      try simp only [Act.put, List.setIfInBounds_toArray, List.set_cons_zero, List.set_cons_succ]
      refine wpAnyH_take (i := 13) (oi := ?ob13) (v := ?vb13) ?hib13 (by kernel_rfl) (by kernel_rfl) (by kernel_rfl) ?hqb13 (Or.inl ⟨?hwb13, ?hyb13⟩) (by trivial) ?restb13
      case hib13 => (simp only [List.getElem?_toArray, List.getElem?_cons_succ, List.getElem?_cons_zero]; rfl)
      case hwb13 => (rfl)
      case hqb13 => (exact fun _ _ _ h => h)
      case hyb13 => (intro w hSw; (try dsimp only at hSw); go_simp; (try with_reducible rfl))
      try simp only [Act.put, List.setIfInBounds_toArray, List.set_cons_zero, List.set_cons_succ]
      refine wpAnyH_take (i := 14) (oi := ?ob14) (v := ?vb14) ?hib14 (by kernel_rfl) (by kernel_rfl) (by kernel_rfl) ?hqb14 (Or.inl ⟨?hwb14, ?hyb14⟩) (by trivial) ?restb14
      case hib14 => (simp only [List.getElem?_toArray, List.getElem?_cons_succ, List.getElem?_cons_zero]; rfl)
      case hwb14 => (rfl)
      case hqb14 => (exact fun _ _ _ h => h)
      case hyb14 => (intro w hSw; (try dsimp only at hSw); go_simp; (try with_reducible rfl))
      try simp only [Act.put, List.setIfInBounds_toArray, List.set_cons_zero, List.set_cons_succ]
      refine wpAnyH_take (i := 15) (oi := ?ob15) (v := ?vb15) ?hib15 (by kernel_rfl) (by kernel_rfl) (by kernel_rfl) ?hqb15 (Or.inl ⟨?hwb15, ?hyb15⟩) (by trivial) ?restb15
      case hib15 => (simp only [List.getElem?_toArray, List.getElem?_cons_succ, List.getElem?_cons_zero]; rfl)
      case hwb15 => (rfl)
      case hqb15 => (exact fun _ _ _ h => h)
      case hyb15 => (intro w hSw; (try dsimp only at hSw); go_simp; (try with_reducible rfl))
      try simp only [Act.put, List.setIfInBounds_toArray, List.set_cons_zero, List.set_cons_succ]
      refine wpAnyH_take (i := 16) (oi := ?ob16) (v := ?vb16) ?hib16 (by kernel_rfl) (by kernel_rfl) (by kernel_rfl) ?hqb16 (Or.inl ⟨?hwb16, ?hyb16⟩) (by trivial) ?restb16
      case hib16 => (simp only [List.getElem?_toArray, List.getElem?_cons_succ, List.getElem?_cons_zero]; rfl)
      case hwb16 => (rfl)
      case hqb16 => (exact fun _ _ _ h => h)
      case hyb16 => (intro w hSw; (try dsimp only at hSw); go_simp; (try with_reducible rfl))
      try simp only [Act.put, List.setIfInBounds_toArray, List.set_cons_zero, List.set_cons_succ]
      refine wpAnyH_take (i := 17) (oi := ?ob17) (v := ?vb17) ?hib17 (by kernel_rfl) (by kernel_rfl) (by kernel_rfl) ?hqb17 (Or.inl ⟨?hwb17, ?hyb17⟩) (by trivial) ?restb17
      case hib17 => (simp only [List.getElem?_toArray, List.getElem?_cons_succ, List.getElem?_cons_zero]; rfl)
      case hwb17 => (rfl)
      case hqb17 => (exact fun _ _ _ h => h)
      case hyb17 => (intro w hSw; (try dsimp only at hSw); go_simp; (try with_reducible rfl))
      try simp only [Act.put, List.setIfInBounds_toArray, List.set_cons_zero, List.set_cons_succ]
      refine wpAnyH_take (i := 18) (oi := ?ob18) (v := ?vb18) ?hib18 (by kernel_rfl) (by kernel_rfl) (by kernel_rfl) ?hqb18 (Or.inl ⟨?hwb18, ?hyb18⟩) (by trivial) ?restb18
      case hib18 => (simp only [List.getElem?_toArray, List.getElem?_cons_succ, List.getElem?_cons_zero]; rfl)
      case hwb18 => (rfl)
      case hqb18 => (exact fun _ _ _ h => h)
      case hyb18 => (intro w hSw; (try dsimp only at hSw); go_simp; (try with_reducible rfl))
      try simp only [Act.put, List.setIfInBounds_toArray, List.set_cons_zero, List.set_cons_succ]
      refine wpAnyH_take (i := 20) (oi := ?ob20) (v := ?vb20) ?hib20 (by kernel_rfl) (by kernel_rfl) (by kernel_rfl) ?hqb20 (Or.inl ⟨?hwb20, ?hyb20⟩) (by trivial) ?restb20
      case hib20 => (simp only [List.getElem?_toArray, List.getElem?_cons_succ, List.getElem?_cons_zero]; rfl)
      case hwb20 => (rfl)
      case hqb20 => (exact fun _ _ _ h => h)
      case hyb20 => (intro w hSw; (try dsimp only at hSw); go_simp; (try with_reducible rfl))
      try simp only [Act.put, List.setIfInBounds_toArray, List.set_cons_zero, List.set_cons_succ]
      refine wpAnyH_take (i := 21) (oi := ?ob21) (v := ?vb21) ?hib21 (by kernel_rfl) (by kernel_rfl) (by kernel_rfl) ?hqb21 (Or.inl ⟨?hwb21, ?hyb21⟩) (by trivial) ?restb21
      case hib21 => (simp only [List.getElem?_toArray, List.getElem?_cons_succ, List.getElem?_cons_zero]; rfl)
      case hwb21 => (rfl)
      case hqb21 => (exact fun _ _ _ h => h)
      case hyb21 => (intro w hSw; (try dsimp only at hSw); go_simp; (try with_reducible rfl))
      try simp only [Act.put, List.setIfInBounds_toArray, List.set_cons_zero, List.set_cons_succ]
      refine wpAnyH_take (i := 22) (oi := ?ob22) (v := ?vb22) ?hib22 (by kernel_rfl) (by kernel_rfl) (by kernel_rfl) ?hqb22 (Or.inl ⟨?hwb22, ?hyb22⟩) (by trivial) ?restb22
      case hib22 => (simp only [List.getElem?_toArray, List.getElem?_cons_succ, List.getElem?_cons_zero]; rfl)
      case hwb22 => (rfl)
      case hqb22 => (exact fun _ _ _ h => h)
      case hyb22 => (intro w hSw; (try dsimp only at hSw); go_simp; (try with_reducible rfl))
      try simp only [Act.put, List.setIfInBounds_toArray, List.set_cons_zero, List.set_cons_succ]
      refine wpAnyH_ready (rs := [19]) (by kernel_rfl) (by simp) ?_
      refine AllReadyH.cons (o := ?ob19) ?hib19 (fun K hK => ?stb19) AllReadyH.nil
      case hib19 => (simp only [List.getElem?_toArray, List.getElem?_cons_succ, List.getElem?_cons_zero]; rfl)
      go_simp
      go_at_call 14; (with_reducible refine (put_any g1 hg1 false _).mono ?_); rintro e w5 ⟨A5, c5, n5, rfl, hl5, -, hr5, hb5⟩; have hn5 := (putB_len g1 false).1; rw [hl5] at hn5; have hB5 := hB2.drew.trans (hb5.mono hB2.drew.size); clear hb5; dsimp only
      refine hK.out _ _ (by trivial) (fun _ => ?_)
      clear hK K
      try simp only [Act.put, List.setIfInBounds_toArray, List.set_cons_zero, List.set_cons_succ]
      refine wpAnyH_ready (rs := [23]) (by kernel_rfl) (by simp) ?_
      refine AllReadyH.cons (o := ?ob23) ?hib23 (fun K hK => ?stb23) AllReadyH.nil
      case hib23 => (simp only [List.getElem?_toArray, List.getElem?_cons_succ, List.getElem?_cons_zero]; rfl)
      go_simp
      go_at_call 13; (with_reducible refine (equal_no (putB g1 false) (l.take 1) n5 1 _ _ _ _ _ hr5 (((HR.out.below hB5).more hB5.size).take 1) hl5 HT.out (by omega) HQ.out).mono ?_); rintro e w6 ⟨rfl, hb6⟩; have hB6 := hB5.trans (hb6.mono hB5.size); clear hb6 hr5; dsimp only
      refine hK.out _ _ (by trivial) (fun _ => ?_)
      clear hK K
      try simp only [Act.put, List.setIfInBounds_toArray, List.set_cons_zero, List.set_cons_succ]
      refine wpAnyH_take (i := 24) (oi := ?ob24) (v := ?vb24) ?hib24 (by kernel_rfl) (by kernel_rfl) (by kernel_rfl) ?hqb24 (Or.inl ⟨?hwb24, ?hyb24⟩) (by trivial) ?restb24
      case hib24 => (simp only [List.getElem?_toArray, List.getElem?_cons_succ, List.getElem?_cons_zero]; rfl)
      case hwb24 => (rfl)
      case hqb24 => (exact fun _ _ _ h => h)
      case hyb24 => (intro w hSw; (try dsimp only at hSw); go_simp; (try with_reducible rfl))
      try simp only [Act.put, List.setIfInBounds_toArray, List.set_cons_zero, List.set_cons_succ]
      refine wpAnyH_take (i := 25) (oi := ?ob25) (v := ?vb25) ?hib25 (by kernel_rfl) (by kernel_rfl) (by kernel_rfl) ?hqb25 (Or.inl ⟨?hwb25, ?hyb25⟩) (by trivial) ?restb25
      case hib25 => (simp only [List.getElem?_toArray, List.getElem?_cons_succ, List.getElem?_cons_zero]; rfl)
      case hwb25 => (rfl)
      case hqb25 => (exact fun _ _ _ h => h)
      case hyb25 => (intro w hSw; (try dsimp only at hSw); go_simp; (try with_reducible rfl))
      try simp only [Act.put, List.setIfInBounds_toArray, List.set_cons_zero, List.set_cons_succ]
      refine wpAnyH_take (i := 26) (oi := ?ob26) (v := ?vb26) ?hib26 (by kernel_rfl) (by kernel_rfl) (by kernel_rfl) ?hqb26 (Or.inl ⟨?hwb26, ?hyb26⟩) (by trivial) ?restb26
      case hib26 => (simp only [List.getElem?_toArray, List.getElem?_cons_succ, List.getElem?_cons_zero]; rfl)
      case hwb26 => (rfl)
      case hqb26 => (exact fun _ _ _ h => h)
      case hyb26 => (intro w hSw; (try dsimp only at hSw); go_simp; (try with_reducible rfl))
      try simp only [Act.put, List.setIfInBounds_toArray, List.set_cons_zero, List.set_cons_succ]
      refine wpAnyH_take (i := 27) (oi := ?ob27) (v := ?vb27) ?hib27 (by kernel_rfl) (by kernel_rfl) (by kernel_rfl) ?hqb27 (Or.inl ⟨?hwb27, ?hyb27⟩) (by trivial) ?restb27
      case hib27 => (simp only [List.getElem?_toArray, List.getElem?_cons_succ, List.getElem?_cons_zero]; rfl)
      case hwb27 => (rfl)
      case hqb27 => (exact fun _ _ _ h => h)
      case hyb27 => (intro w hSw; (try dsimp only at hSw); go_simp; (try with_reducible rfl))
      try simp only [Act.put, List.setIfInBounds_toArray, List.set_cons_zero, List.set_cons_succ]
      refine wpAnyH_take (i := 29) (oi := ?ob29) (v := ?vb29) ?hib29 (by kernel_rfl) (by kernel_rfl) (by kernel_rfl) ?hqb29 (Or.inl ⟨?hwb29, ?hyb29⟩) (by trivial) ?restb29
      case hib29 => (simp only [List.getElem?_toArray, List.getElem?_cons_succ, List.getElem?_cons_zero]; rfl)
      case hwb29 => (rfl)
      case hqb29 => (exact fun _ _ _ h => h)
      case hyb29 => (intro w hSw; (try dsimp only at hSw); go_simp; (try with_reducible rfl))
      try simp only [Act.put, List.setIfInBounds_toArray, List.set_cons_zero, List.set_cons_succ]
      refine wpAnyH_take (i := 30) (oi := ?ob30) (v := ?vb30) ?hib30 (by kernel_rfl) (by kernel_rfl) (by kernel_rfl) ?hqb30 (Or.inl ⟨?hwb30, ?hyb30⟩) (by trivial) ?restb30
      case hib30 => (simp only [List.getElem?_toArray, List.getElem?_cons_succ, List.getElem?_cons_zero]; rfl)
      case hwb30 => (rfl)
      case hqb30 => (exact fun _ _ _ h => h)
      case hyb30 => (intro w hSw; (try dsimp only at hSw); go_simp; (try with_reducible rfl))
      try simp only [Act.put, List.setIfInBounds_toArray, List.set_cons_zero, List.set_cons_succ]
      refine wpAnyH_take (i := 31) (oi := ?ob31) (v := ?vb31) ?hib31 (by kernel_rfl) (by kernel_rfl) (by kernel_rfl) ?hqb31 (Or.inl ⟨?hwb31, ?hyb31⟩) (by trivial) ?restb31
      case hib31 => (simp only [List.getElem?_toArray, List.getElem?_cons_succ, List.getElem?_cons_zero]; rfl)
      case hwb31 => (rfl)
      case hqb31 => (exact fun _ _ _ h => h)
      case hyb31 => (intro w hSw; (try dsimp only at hSw); go_simp; (try with_reducible rfl))
      try simp only [Act.put, List.setIfInBounds_toArray, List.set_cons_zero, List.set_cons_succ]
      refine wpAnyH_ready (rs := [28]) (by kernel_rfl) (by simp) ?_
      refine AllReadyH.cons (o := ?ob28) ?hib28 (fun K hK => ?stb28) AllReadyH.nil
      case hib28 => (simp only [List.getElem?_toArray, List.getElem?_cons_succ, List.getElem?_cons_zero]; rfl)
      go_simp
      go_at_call 14; (with_reducible refine (put_any g1 hg1 true _).mono ?_); rintro e w7 ⟨A7, c7, n7, rfl, hl7, -, hr7, hb7⟩; have hn7 := (putB_len g1 true).1; rw [hl7] at hn7; have hB7 := hB6.trans (hb7.mono hB6.size); clear hb7; dsimp only
      refine hK.out _ _ (by trivial) (fun _ => ?_)
      clear hK K
      try simp only [Act.put, List.setIfInBounds_toArray, List.set_cons_zero, List.set_cons_succ]
      refine wpAnyH_ready (rs := [32]) (by kernel_rfl) (by simp) ?_
      refine AllReadyH.cons (o := ?ob32) ?hib32 (fun K hK => ?stb32) AllReadyH.nil
      case hib32 => (simp only [List.getElem?_toArray, List.getElem?_cons_succ, List.getElem?_cons_zero]; rfl)
      go_simp
      go_at_call 13; (with_reducible refine (equal_yes (putB g1 true) (l.take 1) n7 1 _ _ _ _ _ hr7 (((HR.out.below hB7).more hB7.size).take 1) hl7 HT.out (by omega) HP.out).mono ?_); rintro e w8 ⟨rfl, hb8⟩; have hBX := hB7.trans (hb8.mono hB7.size); clear hb8 hr7; dsimp only
      refine hK.out _ _ (by trivial) (fun _ => ?_)
      clear hK K
      try simp only [Act.put, List.setIfInBounds_toArray, List.set_cons_zero, List.set_cons_succ]
      refine wpAnyH_take (i := 33) (oi := ?ob33) (v := ?vb33) ?hib33 (by kernel_rfl) (by kernel_rfl) (by kernel_rfl) ?hqb33 (Or.inl ⟨?hwb33, ?hyb33⟩) (by trivial) ?restb33
      case hib33 => (simp only [List.getElem?_toArray, List.getElem?_cons_succ, List.getElem?_cons_zero]; rfl)
      case hwb33 => (rfl)
      case hqb33 => (exact fun _ _ _ h => h)
      case hyb33 => (intro w hSw; (try dsimp only at hSw); go_simp; (try with_reducible rfl))
      try simp only [Act.put, List.setIfInBounds_toArray, List.set_cons_zero, List.set_cons_succ]
      refine wpAnyH_take (i := 34) (oi := ?ob34) (v := ?vb34) ?hib34 (by kernel_rfl) (by kernel_rfl) (by kernel_rfl) ?hqb34 (Or.inl ⟨?hwb34, ?hyb34⟩) (by trivial) ?restb34
      case hib34 => (simp only [List.getElem?_toArray, List.getElem?_cons_succ, List.getElem?_cons_zero]; rfl)
      case hwb34 => (rfl)
      case hqb34 => (exact fun _ _ _ h => h)
      case hyb34 => (intro w hSw; (try dsimp only at hSw); go_simp; (try with_reducible rfl))
      try simp only [Act.put, List.setIfInBounds_toArray, List.set_cons_zero, List.set_cons_succ]
      refine wpAnyH_take (i := 35) (oi := ?ob35) (v := ?vb35) ?hib35 (by kernel_rfl) (by kernel_rfl) (by kernel_rfl) ?hqb35 (Or.inl ⟨?hwb35, ?hyb35⟩) (by trivial) ?restb35
      case hib35 => (simp only [List.getElem?_toArray, List.getElem?_cons_succ, List.getElem?_cons_zero]; rfl)
      case hwb35 => (rfl)
      case hqb35 => (exact fun _ _ _ h => h)
      case hyb35 => (intro w hSw; (try dsimp only at hSw); go_simp; (try with_reducible rfl))
      try simp only [Act.put, List.setIfInBounds_toArray, List.set_cons_zero, List.set_cons_succ]
      refine wpAnyH_take (i := 36) (oi := ?ob36) (v := ?vb36) ?hib36 (by kernel_rfl) (by kernel_rfl) (by kernel_rfl) ?hqb36 (Or.inl ⟨?hwb36, ?hyb36⟩) (by trivial) ?restb36
      case hib36 => (simp only [List.getElem?_toArray, List.getElem?_cons_succ, List.getElem?_cons_zero]; rfl)
      case hwb36 => (rfl)
      case hqb36 => (exact fun _ _ _ h => h)
      case hyb36 => (intro w hSw; (try dsimp only at hSw); go_simp; (try with_reducible rfl))
      try simp only [Act.put, List.setIfInBounds_toArray, List.set_cons_zero, List.set_cons_succ]
      refine wpAnyH_done (by kernel_rfl) ?_ _
      clear i1 i2 i3 HP HR1 HT HN HQ
      obtain ⟨q, hq⟩ : ∃ q, Hid (rightB p = q) := ⟨_, Lib.hid rfl⟩
      go_wp2_with fail
      refine (rright_v p q hp hq.out _).mono ?_
      rintro e w9 ⟨rfl, rfl⟩
      by_cases hqm : q = true ∧ (s = true → true = true)
      case neg =>
        have hgo : q = false ∨ (s = true ∧ true = false) := by
          cases q <;> cases s <;> skip <;> simp_all
        rcases hgo with rfl | ⟨_, h⟩
        · go_wp2_with fail
          go_ret
          exact ⟨rfl, hBX⟩
        · cases h
      obtain ⟨rfl, hsm⟩ := hqm
      have HG := Lib.hid (putB_get p s true l hq.out hsm)
      have HPL := Lib.hid (putB_len p s)
      have HPB := Lib.hid (putB_by hp s)
      have hsm2 : (!true && s) = false := by cases s <;> skip <;> simp_all
      clear hsm
      cases s <;> skip <;> first | (simp at hsm2; done) | skip
      all_goals
        clear hsm2
        go_wp2_with fail
        refine (put_any p hp _ _).mono ?_
        rintro e w10 ⟨A10, c10, n10, rfl, hl10, -, hr10, hb10⟩
        have hB10 := hBX.trans (hb10.mono hBX.size)
        have hn10 := HPL.out
        rw [hl10] at hn10
        have HL10 := Lib.hid hl10
        have hsz10 := hB10.size
        have HR10 := Lib.hid hr10
        clear hb10 hl10 hr10
        obtain ⟨i0, hi, hz0, hz1, hz2⟩ := info_parts byte_info
        have hown0 : (w10.alloc (.cells #[] 5)).ownsRow w.heap.size 5 1 (.slice (some ⟨w10.heap.size, 0, none⟩) 0 0) 0 (bvs []) := World.ownsRow_lit w10 #[] 0 hsz10 (by unfold maxLen; omega) rfl
        have hB0 := hB10.alloc hsz10 (.cells #[] 5)
        have hr0 := Lib.hid ((HR10.out.alloc (Nat.le_refl _) (.cells #[] 5)))
        go_wp2_with (first
          | (at_builtin; have _g := hown0; clear _g; refine list_app rfl _ _ _ rfl _ i0 Try.underlying23 hi hz0 hz1 hz2 w.heap.size _ _ [] rfl hown0 _ _ _ _ _ rfl hr0.out HL10.out (by omega) hB0.size ?_; intro A4 c4 w4 ho4 hg4; rw [List.nil_append, Nat.zero_add] at ho4; rw [Nat.zero_add]; have hB4 := app_below hB0 (Nat.le_refl _) hown0 hg4; clear hg4 hown0)
          | (at_builtin; refine list_app rfl _ _ _ rfl _ i0 Try.underlying23 hi hz0 hz1 hz2 w.heap.size _ n10 _ rfl ho4 _ _ _ _ l rfl ((HR.out.below hB4).more hB4.size) HL.out (by omega) hB4.size ?_; intro A5 c5 w5 ho5 hg5; have hB5 := app_below hB4 (Nat.le_refl _) ho4 hg5; clear hg5 ho4 hB4))
        refine (get_b _ _ p _ 0 HG.out A5 (n10 + n) c5 _ (Rd.own ho5) (HPB.out.app HB.out) (by rw [List.length_append, HL10.out, HL.out])).mono ?_
        rintro e w6 ⟨rfl, hb6⟩
        rw [HL10.out, show ((0 : Nat) : Int) = 0 from rfl]
        have hB6 := hB5.trans (hb6.mono hB5.size)
        clear hb6
        have pp : ((p : Int) == (p : Int)) = true := by simp
        have nn : ((n10 : Int) == (n10 : Int)) = true := by simp
        go_wp2_with fail
        go_ret
        exact ⟨rfl, hB6⟩
  · have e3 : ((g3 : Int) == 0) = false := by simp; omega
    clear h3
    have hBX := hB2
    obtain ⟨q, hq⟩ : ∃ q, Hid (rightB p = q) := ⟨_, Lib.hid rfl⟩
    go_wp2_with fail
    refine (rright_v p q hp hq.out _).mono ?_
    rintro e w9 ⟨rfl, rfl⟩
    by_cases hqm : q = true ∧ (s = true → m = true)
    case neg =>
      have hgo : q = false ∨ (s = true ∧ m = false) := by
        cases q <;> cases s <;> cases m <;> simp_all
      rcases hgo with rfl | ⟨rfl, rfl⟩
      · go_wp2_with fail
        go_ret
        exact ⟨rfl, hBX⟩
      · cases q
        all_goals
          go_wp2_with fail
          go_ret
          exact ⟨rfl, hBX⟩
    obtain ⟨rfl, hsm⟩ := hqm
    have HG := Lib.hid (putB_get p s m l hq.out hsm)
    have HPL := Lib.hid (putB_len p s)
    have HPB := Lib.hid (putB_by hp s)
    have hsm2 : (!m && s) = false := by cases s <;> cases m <;> simp_all
    clear hsm
    cases s <;> cases m <;> first | (simp at hsm2; done) | skip
    all_goals
      clear hsm2
      go_wp2_with fail
      refine (put_any p hp _ _).mono ?_
      rintro e w10 ⟨A10, c10, n10, rfl, hl10, -, hr10, hb10⟩
      have hB10 := hBX.trans (hb10.mono hBX.size)
      have hn10 := HPL.out
      rw [hl10] at hn10
      have HL10 := Lib.hid hl10
      have hsz10 := hB10.size
      have HR10 := Lib.hid hr10
      clear hb10 hl10 hr10
      obtain ⟨i0, hi, hz0, hz1, hz2⟩ := info_parts byte_info
      have hown0 : (w10.alloc (.cells #[] 5)).ownsRow w.heap.size 5 1 (.slice (some ⟨w10.heap.size, 0, none⟩) 0 0) 0 (bvs []) := World.ownsRow_lit w10 #[] 0 hsz10 (by unfold maxLen; omega) rfl
      have hB0 := hB10.alloc hsz10 (.cells #[] 5)
      have hr0 := Lib.hid ((HR10.out.alloc (Nat.le_refl _) (.cells #[] 5)))
      go_wp2_with (first
        | (at_builtin; have _g := hown0; clear _g; refine list_app rfl _ _ _ rfl _ i0 Try.underlying23 hi hz0 hz1 hz2 w.heap.size _ _ [] rfl hown0 _ _ _ _ _ rfl hr0.out HL10.out (by omega) hB0.size ?_; intro A4 c4 w4 ho4 hg4; rw [List.nil_append, Nat.zero_add] at ho4; rw [Nat.zero_add]; have hB4 := app_below hB0 (Nat.le_refl _) hown0 hg4; clear hg4 hown0)
        | (at_builtin; refine list_app rfl _ _ _ rfl _ i0 Try.underlying23 hi hz0 hz1 hz2 w.heap.size _ n10 _ rfl ho4 _ _ _ _ l rfl ((HR.out.below hB4).more hB4.size) HL.out (by omega) hB4.size ?_; intro A5 c5 w5 ho5 hg5; have hB5 := app_below hB4 (Nat.le_refl _) ho4 hg5; clear hg5 ho4 hB4))
      refine (get_b _ _ p _ 0 HG.out A5 (n10 + n) c5 _ (Rd.own ho5) (HPB.out.app HB.out) (by rw [List.length_append, HL10.out, HL.out])).mono ?_
      rintro e w6 ⟨rfl, hb6⟩
      rw [HL10.out, show ((0 : Nat) : Int) = 0 from rfl]
      have hB6 := hB5.trans (hb6.mono hB5.size)
      clear hb6
      have pp : ((p : Int) == (p : Int)) = true := by simp
      have nn : ((n10 : Int) == (n10 : Int)) = true := by simp
      go_wp2_with fail
      go_ret
      exact ⟨rfl, hB6⟩

end Go.Proofs.Ytgggnmgenkdijaa
