
/-
  What the calls of layer 12 answer that go over lists: Size, Put's search for data that are too long, Same. No condition beyond: lists of at most 2^38 options.
-/
import Derived.Test.YtdnnincdbenjfaaTlvP
namespace Go.Proofs.Ytdnnincdbenjfaa
open Go.RowKit

set_option maxHeartbeats 1000000 in
theorem osz_any (l : List (Nat × List Nat)) (n c : Nat) (A : Option Addr) (F : Nat → Prop) (w : World) (h : Rws shO F w A l) (hl : l.length = n) (hn : n ≤ 274877906944) (hd : datB l ≤ 1099511627776) :
    Calls Try.prog 54 #[.slice A n c] w fun e w' => e = .returned (.int .i64 ((2 * n + datB l : Nat) : Int)) ∧ Below w.heap.size w w' := by
  have HL := Lib.hid hl
  have HD := Lib.hid (dat_take l)
  clear hl
  go_enter Try.func54, Try.ntmps54
  go_wp2_with fail
  go_loopw [3, 8] (fun s i wr => ∃ k q : Nat, k ≤ n ∧ i = .int .i64 k ∧ s = .int .i64 q ∧ Hid (2 * k + datB (l.take k) = q) ∧ Below w.heap.size w wr) (fun _ i _ => n - (intOf i).toNat)
  case atStart => exact ⟨0, 0, Nat.zero_le _, rfl, rfl, Lib.hid rfl, Below.refl _ _⟩
  case round =>
    obtain ⟨k, q, hk, rfl, rfl, hq, hbel⟩ := hrel
    have hq1 : q ≤ 2 * 274877906944 + 1099511627776 := by have := HD.out k; have := hq.out; omega
    by_cases hlt : k < n
    · obtain ⟨b, o, x, A3, c3, rfl, hb3, hx, h3, h4, h5, h6⟩ := (h.below hbel).opt (k := k) (by rw [HL.out]; exact hlt)
      have hxl : x.2.length ≤ 1099511627776 := Nat.le_trans (dat_le hx) hd
      have HQ := Lib.hid (show 2 * (k + 1) + datB (l.take (k + 1)) = q + (2 + x.2.length) by rw [dat_at hx, ← hq.out]; omega)
      have hq2 : q + (2 + x.2.length) ≤ 2 * 274877906944 + 1099511627776 := by have := HQ.out; have := HD.out (k + 1); omega
      clear hx h6
      have i1 : (0 : Int) ≤ k := by omega
      have i2 : (k : Int) < n := by omega
      go_wp2_with (go_at_call 55; (with_reducible refine (osize_any x.1 x.2.length c3 A3 _ (by omega)).mono ?_); rintro e w5 ⟨rfl, hb5⟩; have R2 := hbel.trans (((Below.refl _ _).alloc (Nat.le_refl _) _).trans (hb5.mono (by simp)) |>.mono hbel.size))
      go_roundw
      case rel => exact ⟨k + 1, q + (2 + x.2.length), by omega, by go_num, by go_num, HQ, R2⟩
      case measure => simp [intOf]; omega
    · go_wp2
      go_ret
      have he : k = n := by omega
      refine ⟨?_, hbel⟩
      have hz := hq.out
      rw [he, List.take_of_length_le (by rw [HL.out]; exact Nat.le_refl _)] at hz
      rw [hz]
      rfl

/-- A function as a value. -/
abbrev fvF (f : Nat) : Value := .func (.func f) #[] #[]

theorem long_take {l : List (Nat × List Nat)} {k : Nat} {x : Nat × List Nat} (h : l[k]? = some x) : longB (l.take (k + 1)) = (longB (l.take k) || decide (253 < x.2.length)) := by
  rw [List.take_add_one, h, Option.toList_some, long_app]; simp [longB]
theorem long_of {l : List (Nat × List Nat)} {k : Nat} {x : Nat × List Nat} (h : l[k]? = some x) (hx : decide (253 < x.2.length) = true) : longB l = true :=
  List.any_eq_true.2 ⟨x, List.mem_of_getElem? h, hx⟩

set_option maxHeartbeats 1000000 in
theorem oidx_any (l : List (Nat × List Nat)) (n c : Nat) (A : Option Addr) (F : Nat → Prop) (w : World) (h : Rws shO F w A l) (hl : l.length = n) (hn : n ≤ 274877906944) :
    Calls Try.prog 35 #[.slice A n c, fvF 53] w fun e w' => (∃ z : Int, e = .returned (.int .i64 z) ∧ Hid (decide (0 ≤ z) = longB l)) ∧ Below w.heap.size w w' := by
  have HL := Lib.hid hl
  clear hl
  go_enter Try.func35, Try.ntmps35
  go_wp2_with fail
  go_loopw [8] (fun i wr => ∃ k : Nat, k ≤ n ∧ i = .int .i64 k ∧ Hid (longB (l.take k) = false) ∧ Below w.heap.size w wr) (fun i _ => n - (intOf i).toNat)
  case atStart => exact ⟨0, Nat.zero_le _, rfl, Lib.hid rfl, Below.refl _ _⟩
  case round =>
    obtain ⟨k, hk, rfl, hf, hbel⟩ := hrel
    by_cases hlt : k < n
    · obtain ⟨b, o, x, A3, c3, rfl, hb3, hx, h3, h4, h5, h6⟩ := (h.below hbel).opt (k := k) (by rw [HL.out]; exact hlt)
      have HX := Lib.hid hx
      clear hx h6
      have i1 : (0 : Int) ≤ k := by omega
      have i2 : (k : Int) < n := by omega
      obtain ⟨t, ht⟩ : ∃ t, Hid (decide (253 < x.2.length) = t) := ⟨_, Lib.hid rfl⟩
      cases t
      · have R := Lib.hid (show longB (l.take (k + 1)) = false by rw [long_take HX.out, hf.out, ht.out]; rfl)
        go_wp2_with (go_at_call 53; (with_reducible refine (olong_any x.1 x.2.length c3 A3 _).mono ?_); rintro e w5 ⟨rfl, hb5⟩; rw [ht.out]; have R2 := hbel.trans (hb5.mono hbel.size))
        go_roundw
        case rel => exact ⟨k + 1, by omega, by go_num, R, R2⟩
        case measure => simp [intOf]; omega
      · go_wp2_with (go_at_call 53; (with_reducible refine (olong_any x.1 x.2.length c3 A3 _).mono ?_); rintro e w5 ⟨rfl, hb5⟩; rw [ht.out]; have R2 := hbel.trans (hb5.mono hbel.size))
        go_ret
        refine ⟨⟨k, rfl, Lib.hid ?_⟩, R2⟩
        rw [long_of HX.out ht.out]
        simp
    · go_wp2
      go_ret
      have he : k = n := by omega
      have hf2 := hf.out
      rw [he, List.take_of_length_le (by rw [HL.out]; exact Nat.le_refl _)] at hf2
      exact ⟨⟨-1, rfl, Lib.hid (by rw [hf2]; rfl)⟩, hbel⟩

set_option maxHeartbeats 1000000 in
theorem ocont_any (l : List (Nat × List Nat)) (n c : Nat) (A : Option Addr) (F : Nat → Prop) (w : World) (h : Rws shO F w A l) (hl : l.length = n) (hn : n ≤ 274877906944) :
    Calls Try.prog 41 #[.slice A n c, fvF 53] w fun e w' => e = .returned (.bool (longB l)) ∧ Below w.heap.size w w' := by
  go_enter Try.func41, Try.ntmps41
  go_wp2_with (go_at_call 35; (with_reducible refine (oidx_any l n c A F _ h hl hn).mono ?_); rintro e w5 ⟨⟨z, rfl, hz⟩, hb5⟩)
  go_ret
  exact ⟨by rw [← hz.out]; rfl, hb5⟩

theorem same_take {a b : List (Nat × List Nat)} {k : Nat} {x y : Nat × List Nat} (h : a.take k = b.take k) (hx : a[k]? = some x) (hy : b[k]? = some y) (e : decide (x = y) = true) : a.take (k + 1) = b.take (k + 1) := by
  rw [List.take_add_one, List.take_add_one, h, hx, hy, of_decide_eq_true e]
theorem same_ne {a b : List (Nat × List Nat)} {k : Nat} {x y : Nat × List Nat} (hx : a[k]? = some x) (hy : b[k]? = some y) (e : decide (x = y) = false) : a ≠ b := by
  rintro rfl
  rw [hx] at hy
  injection hy with h
  exact of_decide_eq_false e h

end Go.Proofs.Ytdnnincdbenjfaa
