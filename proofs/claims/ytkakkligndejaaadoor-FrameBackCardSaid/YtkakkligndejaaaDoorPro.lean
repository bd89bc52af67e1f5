
/-
  Protocols' numbers: what the calls of layer 9 and the document's own answer, Right, Short, Group, Put, Get. No condition beyond: numbers below 2^16, octets below 256, lists of at most 2^40 elements.
-/
import Derived.Test.YtkakkligndejaaaDoorPart
import Derived.Laws.BitsAll
import Derived.OwnWalk
namespace Go.Proofs.YtkakkligndejaaaDoor
open Go.RowKit

/-- May a number be? -/
def rightB (p : Nat) : Bool := decide (p % 2 = 1) && (decide (p / 256 % 2 = 0) && decide (p ≠ 255))
/-- How it is written. -/
def putB (p : Nat) (s : Bool) : List Nat := if s = true ∧ p < 256 then [p] else [p / 256, p % 256]
/-- What octets begin with: the number, in how many octets, the error. -/
def getB (l : List Nat) (s : Bool) : Nat × Nat × Nat :=
  match l with
  | [] => (0, 0, 2)
  | x :: t => if x % 2 = 1 then (if s = true ∧ x ≠ 255 then (x, 1, 0) else (0, 0, 7)) else
    match t with
    | [] => (0, 0, 2)
    | y :: _ => if rightB (256 * x + y) = true then (256 * x + y, 2, 0) else (0, 0, 7)

theorem getB_lt {l : List Nat} (h : By l) (s : Bool) : (getB l s).1 < 65536 := by
  match l, h with
  | [], _ => simp [getB]
  | [x], h =>
    have := h x (by simp)
    simp only [getB]
    repeat' split
    all_goals first | exact Nat.zero_lt_succ _ | (show x < 65536; omega)
  | x :: y :: t, h =>
    have h1 := h x (by simp)
    have h2 := h y (by simp)
    simp only [getB]
    repeat' split
    all_goals first | exact Nat.zero_lt_succ _ | (show x < 65536; omega) | (show 256 * x + y < 65536; omega)
theorem getB_odd {x : Nat} (t : List Nat) (s : Bool) (h : x % 2 = 1) : getB (x :: t) s = if s = true ∧ x ≠ 255 then (x, 1, 0) else (0, 0, 7) := by cases t <;> simp [getB, h]

/-- A literal in a new block is a new list. -/
theorem New.lit (w : World) (l : List Nat) (n : Nat) (hn : l.length = n) (hl : n ≤ 1099511627776) : New w (w.alloc (.cells (bvs l).toArray 5)) (some ⟨w.heap.size, 0, none⟩) n n l := by
  refine ⟨hn, ⟨by rw [bvs_len]; omega, .inr ⟨w.heap.size, n, _, rfl, Nat.le_refl _, heap_alloc_new w _, Nat.le_refl _, by unfold maxLen; omega, by simp [bvs_len, hn], ?_⟩⟩, Rd.lit_ w l, (Below.refl _ _).alloc (Nat.le_refl _) _⟩
  rw [show n * 1 = (bvs l).length by rw [bvs_len]; omega]
  exact List.take_length

set_option maxHeartbeats 400000 in
theorem odd_any (x : Nat) (hx : x < 256) (w : World) :
    Calls Tryd.prog 40 #[.int .u8 (x : Int)] w fun e w' => e = .returned (.bool (decide (x % 2 = 1))) ∧ w = w' := by
  go_enter Tryd.func40, Tryd.ntmps40
  go_wp2
  go_ret
  refine ⟨?_, rfl⟩
  have e : (bits .and .u8 (x : Int) 1 != 0) = decide (x % 2 = 1) := by
    have h := u8_and_nat x 1 hx (by omega)
    rw [nat_mask1] at h
    rw [show (1 : Int) = ((1 : Nat) : Int) from rfl, h, Bool.eq_iff_iff]
    simp
    omega
  show Ending.returned (.bool (bits .and .u8 (x : Int) 1 != 0)) = _
  rw [e]
theorem odd_v (x : Nat) (b : Bool) (hx : x < 256) (hb : decide (x % 2 = 1) = b) (y : Int) (hy : y = (x : Int)) (w : World) :
    Calls Tryd.prog 40 #[.int .u8 y] w fun e w' => e = .returned (.bool b) ∧ w = w' := hy ▸ hb ▸ odd_any x hx w

theorem byte_high (p : Nat) : ((p : Int) / 256) = ((p / 256 : Nat) : Int) := by simp
theorem byte_low (p : Nat) : ((p : Int) % 256) = ((p % 256 : Nat) : Int) := by simp

set_option maxHeartbeats 400000 in
theorem right_any (p : Nat) (hp : p < 65536) (w : World) :
    Calls Tryd.prog 21 #[.int .u16 (p : Int)] w fun e w' => e = .returned (.bool (rightB p)) ∧ w = w' := by
  obtain ⟨q1, h1⟩ : ∃ q, Hid (decide (p % 256 % 2 = 1) = q) := ⟨_, Lib.hid rfl⟩
  obtain ⟨q2, h2⟩ : ∃ q, Hid (decide (p / 256 % 2 = 1) = q) := ⟨_, Lib.hid rfl⟩
  obtain ⟨q3, h3⟩ : ∃ q, Hid (decide (p = 255) = q) := ⟨_, Lib.hid rfl⟩
  have e3 : ((p : Int) != 255) = !q3 := by rw [← h3.out, Bool.eq_iff_iff]; simp; omega
  have E : Hid (rightB p = (q1 && (!q2 && !q3))) := Lib.hid (by
    rw [← h1.out, ← h2.out, ← h3.out, rightB]
    have : p % 256 % 2 = p % 2 := by omega
    rw [this, Bool.eq_iff_iff]
    simp)
  rw [E.out]
  go_enter Tryd.func21, Tryd.ntmps21
  go_wp2_with (go_at_call 40; first | (with_reducible refine (odd_v (p % 256) q1 (by omega) h1.out _ (byte_low p) _).mono ?_; rintro e w' ⟨rfl, rfl⟩) | (with_reducible refine (odd_v (p / 256) q2 (by omega) h2.out _ (byte_high p) _).mono ?_; rintro e w' ⟨rfl, rfl⟩))
  all_goals
    go_ret
    refine ⟨?_, rfl⟩
    show Ending.returned (.bool _) = _
    congr 2
    simp_all

theorem right_v (p : Nat) (q : Bool) (hp : p < 65536) (hq : rightB p = q) (w : World) :
    Calls Tryd.prog 21 #[.int .u16 (p : Int)] w fun e w' => e = .returned (.bool q) ∧ w = w' := hq ▸ right_any p hp w

set_option maxHeartbeats 400000 in
theorem rright_any (p : Nat) (hp : p < 65536) (w : World) :
    Calls Tryd.prog 16 #[.int .i64 (p : Int)] w fun e w' => e = .returned (.bool (rightB p)) ∧ w = w' := by
  go_enter Tryd.func16, Tryd.ntmps16
  go_wp2
  all_goals
    go_ret
    refine ⟨?_, rfl⟩
    show Ending.returned (.bool _) = _
    congr 2
    rw [Bool.eq_iff_iff]
    simp [rightB]
    omega

theorem rright_v (p : Nat) (q : Bool) (hp : p < 65536) (hq : rightB p = q) (w : World) :
    Calls Tryd.prog 16 #[.int .i64 (p : Int)] w fun e w' => e = .returned (.bool q) ∧ w = w' := hq ▸ rright_any p hp w

set_option maxHeartbeats 400000 in
theorem short_any (p : Nat) (hp : p < 65536) (w : World) :
    Calls Tryd.prog 67 #[.int .u16 (p : Int)] w fun e w' => e = .returned (.bool (decide (p < 256))) ∧ w = w' := by
  go_enter Tryd.func67, Tryd.ntmps67
  go_wp2
  go_ret
  refine ⟨?_, rfl⟩
  have e : ((p : Int) / 256 == 0) = decide (p < 256) := by rw [Bool.eq_iff_iff]; simp; omega
  show Ending.returned (.bool ((p : Int) / 256 == 0)) = _
  rw [e]

theorem short_v (p : Nat) (q : Bool) (hp : p < 65536) (hq : decide (p < 256) = q) (w : World) :
    Calls Tryd.prog 67 #[.int .u16 (p : Int)] w fun e w' => e = .returned (.bool q) ∧ w = w' := hq ▸ short_any p hp w

theorem put_long (p : Nat) (s : Bool) (h : ¬ (s = true ∧ p < 256)) (w : World) : New w (w.alloc (.cells #[.int .u8 ((p : Int) / 256), .int .u8 ((p : Int) % 256)] 5)) (some ⟨w.heap.size, 0, none⟩) 2 2 (putB p s) := by
  rw [putB, if_neg h]
  have := New.lit w [p / 256, p % 256] 2 rfl (by omega)
  simpa [bvs, bv] using this
theorem put_one (p : Nat) (h : p < 256) (w : World) : New w (w.alloc (.cells #[.int .u8 (p : Int)] 5)) (some ⟨w.heap.size, 0, none⟩) 1 1 (putB p true) := by
  rw [putB, if_pos ⟨rfl, h⟩]
  have := New.lit w [p] 1 rfl (by omega)
  simpa [bvs, bv] using this

set_option maxHeartbeats 400000 in
theorem put_any (p : Nat) (hp : p < 65536) (s : Bool) (w : World) :
    Calls Tryd.prog 57 #[.int .u16 (p : Int), .bool s] w fun e w' => ∃ A c n, e = .returned (.slice A n c) ∧ New w w' A c n (putB p s) := by
  cases s
  · go_enter Tryd.func57, Tryd.ntmps57
    go_wp2_with fail
    go_ret
    exact ⟨_, _, _, rfl, put_long p false (by simp) w⟩
  · go_enter Tryd.func57, Tryd.ntmps57
    go_wp2_with (go_at_call 67; refine (short_any p hp _).mono ?_; rintro e w' ⟨rfl, rfl⟩)
    · go_ret
      exact ⟨_, _, _, rfl, put_one p (by assumption) w⟩
    · go_ret
      exact ⟨_, _, _, rfl, put_long p true (by simp; omega) w⟩

set_option maxHeartbeats 400000 in
theorem rput_any (p : Nat) (hp : p < 65536) (s : Bool) (w : World) :
    Calls Tryd.prog 43 #[.int .i64 (p : Int), .bool s] w fun e w' => ∃ A c n, e = .returned (.slice A n c) ∧ New w w' A c n (putB p s) := by
  cases s
  · go_enter Tryd.func43, Tryd.ntmps43
    go_wp2_with fail
    go_ret
    exact ⟨_, _, _, rfl, put_long p false (by simp) w⟩
  · by_cases h : p < 256
    · have h' : (p : Int) < 256 := by omega
      go_enter Tryd.func43, Tryd.ntmps43
      go_wp2_with fail
      go_ret
      exact ⟨_, _, _, rfl, put_one p h w⟩
    · have h' : ¬ (p : Int) < 256 := by omega
      go_enter Tryd.func43, Tryd.ntmps43
      go_wp2_with fail
      go_ret
      exact ⟨_, _, _, rfl, put_long p true (by simp; omega) w⟩

set_option maxHeartbeats 400000 in
theorem getLong_two (x y n : Nat) (hx : x < 256) (hy : y < 256) (b off c : Nat) (w : World) (h0 : w.cell? ⟨b, off, none⟩ = some (.int .u8 (x : Int))) (h1 : w.cell? ⟨b, off + 1, none⟩ = some (.int .u8 (y : Int))) (hn : 2 ≤ n) (q : Bool) (hq : rightB (256 * x + y) = q) :
    Calls Tryd.prog 70 #[.slice (some ⟨b, off, none⟩) n c] w fun e w' => e = .returned (if q = true then .tuple #[.int .u16 ((256 * x + y : Nat) : Int), .int .i64 2, .int .i64 0] else .tuple #[.int .u16 0, .int .i64 0, .int .i64 7]) ∧ ∃ k, w' = w.drewN k := by
  have i1 : (0 : Int) < n := by omega
  have i2 : (1 : Int) < n := by omega
  have i3 : ¬ (n : Int) < 2 := by omega
  have e : Hid (bits .or .u16 ((x : Int) * 256) (y : Int) = ((256 * x + y : Nat) : Int)) := Lib.hid (by
    rw [show ((x : Int) * 256) = ((x * 256 : Nat) : Int) by simp, u16_or_nat _ _ (by omega) (by omega)]
    have := Nat.two_pow_add_eq_or_of_lt (show y < 2 ^ 8 by omega) x
    rw [show x * 256 = 2 ^ 8 * x by omega, ← this])
  go_enter Tryd.func70, Tryd.ntmps70
  go_wp2_with fail
  go_quiet (fail)
  all_goals
    rw [e.out]
    go_wp2_with (go_at_call 21; refine (right_v (256 * x + y) q (by omega) hq _).mono ?_; rintro e w' ⟨rfl, rfl⟩)
    all_goals
      go_ret3
      refine ⟨?_, _, rfl⟩
      simp_all

set_option maxHeartbeats 400000 in
theorem getLong_one (n : Nat) (A : Option Addr) (c : Nat) (w : World) (hn : n < 2) :
    Calls Tryd.prog 70 #[.slice A n c] w fun e w' => e = .returned (.tuple #[.int .u16 0, .int .i64 0, .int .i64 2]) ∧ ∃ k, w' = w.drewN k := by
  have i3 : (n : Int) < 2 := by omega
  go_enter Tryd.func70, Tryd.ntmps70
  go_wp2_with fail
  go_ret3
  exact ⟨rfl, 0, rfl⟩

/-- The answer, as a value. -/
def getV (g : Nat × Nat × Nat) : Value := .tuple #[.int .u16 (g.1 : Int), .int .i64 (g.2.1 : Int), .int .i64 (g.2.2 : Int)]
def rgetV (g : Nat × Nat × Nat) : Value := .tuple #[.int .i64 (g.1 : Int), .int .i64 (g.2.1 : Int), .int .i64 (g.2.2 : Int)]

theorem Rd.head {w : World} {B : Nat} {A : Option Addr} {x : Nat} {t : List Nat} (h : Rd w B A (x :: t)) : ∃ b off, A = some ⟨b, off, none⟩ ∧ w.cell? ⟨b, off, none⟩ = some (.int .u8 (x : Int)) := by
  obtain ⟨b, off, e, _, hc⟩ := h (by simp)
  exact ⟨b, off, e, hc 0 x rfl⟩
theorem Rd.two {w : World} {B : Nat} {A : Option Addr} {x y : Nat} {t : List Nat} (h : Rd w B A (x :: y :: t)) : ∃ b off, A = some ⟨b, off, none⟩ ∧ w.cell? ⟨b, off, none⟩ = some (.int .u8 (x : Int)) ∧ w.cell? ⟨b, off + 1, none⟩ = some (.int .u8 (y : Int)) := by
  obtain ⟨b, off, e, _, hc⟩ := h (by simp)
  exact ⟨b, off, e, hc 0 x rfl, hc 1 y rfl⟩

theorem right_odd (x : Nat) (hx : x < 256) (h : x % 2 = 1) : rightB x = decide (x ≠ 255) := by
  rw [rightB, Bool.eq_iff_iff]
  simp
  omega

set_option maxHeartbeats 400000 in
theorem get_any (l : List Nat) (s : Bool) (A : Option Addr) (n c : Nat) (w : World) (h : Rd w w.heap.size A l) (hb : By l) (hn : l.length = n) :
    Calls Tryd.prog 65 #[.slice A n c, .bool s] w fun e w' => e = .returned (getV (getB l s)) ∧ ∃ k, w' = w.drewN k := by
  match l, h, hb, hn with
  | [], _, _, hn =>
    obtain rfl : 0 = n := hn
    go_enter Tryd.func65, Tryd.ntmps65
    go_wp2_with fail
    go_ret3
    exact ⟨rfl, 0, rfl⟩
  | x :: t, h, hb, hn =>
    have hx : x < 256 := hb x (by simp)
    have hpos : 0 < n := by rw [← hn]; simp
    have i1 : (0 : Int) < n := by omega
    have i0 : ((n : Int) == 0) = false := by simp; omega
    by_cases ho : x % 2 = 1
    · obtain ⟨b, off, rfl, h0⟩ := h.head
      have ho' : decide (x % 2 = 1) = true := by simp [ho]
      obtain ⟨q, hq⟩ : ∃ q, Hid (rightB x = q) := ⟨_, Lib.hid rfl⟩
      have E : Hid (getB (x :: t) s = if s = true ∧ q = true then (x, 1, 0) else (0, 0, 7)) := Lib.hid (by
        rw [← hq.out, right_odd x hx ho, getB_odd t s ho]; simp)
      rw [E.out]
      clear h hb hn ho E
      go_enter Tryd.func65, Tryd.ntmps65
      go_wp2_with (first | (go_at_call 40; with_reducible refine (odd_v x true hx ho' _ rfl _).mono ?_; rintro e w' ⟨rfl, rfl⟩) | (go_at_call 21; with_reducible refine (right_v x q (by omega) hq.out _).mono ?_; rintro e w' ⟨rfl, rfl⟩))
      all_goals
        go_ret3
        refine ⟨?_, 0, rfl⟩
        simp_all [getV]
    · have ho' : decide (x % 2 = 1) = false := by simp [ho]
      match t, h, hb, hn with
      | [], h, _, hn =>
        obtain ⟨b, off, rfl, h0⟩ := h.head
        have E : getB [x] s = (0, 0, 2) := by simp [getB, ho]
        rw [E]
        have hn2 : n < 2 := by simp at hn; omega
        clear h hn ho E
        go_enter Tryd.func65, Tryd.ntmps65
        go_wp2_with (first | (go_at_call 40; with_reducible refine (odd_v x false hx ho' _ rfl _).mono ?_; rintro e w' ⟨rfl, rfl⟩) | (go_at_call 70; with_reducible refine (getLong_one _ _ _ _ hn2).mono ?_; rintro e w' ⟨rfl, k, rfl⟩))
        go_ret3
        exact ⟨rfl, _, rfl⟩
      | y :: t, h, hb, hn =>
        obtain ⟨b, off, rfl, h0, h1⟩ := h.two
        have hy : y < 256 := hb y (by simp)
        have hn2 : 2 ≤ n := by rw [← hn]; simp
        obtain ⟨q, hq⟩ : ∃ q, Hid (rightB (256 * x + y) = q) := ⟨_, Lib.hid rfl⟩
        have E : Hid (getB (x :: y :: t) s = if q = true then (256 * x + y, 2, 0) else (0, 0, 7)) := Lib.hid (by
          rw [← hq.out, getB, if_neg ho])
        rw [E.out]
        clear h hb hn ho E
        cases q
        all_goals
          go_enter Tryd.func65, Tryd.ntmps65
          go_wp2_with (first | (go_at_call 40; with_reducible refine (odd_v x false hx ho' _ rfl _).mono ?_; rintro e w' ⟨rfl, rfl⟩) | (go_at_call 70; with_reducible refine (getLong_two x y n hx hy b off c _ h0 h1 hn2 _ hq.out).mono ?_; rintro e w' ⟨rfl, k, rfl⟩))
          go_ret3
          exact ⟨rfl, _, rfl⟩

set_option maxHeartbeats 400000 in
theorem rget_any (l : List Nat) (s : Bool) (A : Option Addr) (n c : Nat) (w : World) (h : Rd w w.heap.size A l) (hb : By l) (hn : l.length = n) :
    Calls Tryd.prog 54 #[.slice A n c, .bool s] w fun e w' => e = .returned (rgetV (getB l s)) ∧ ∃ k, w' = w.drewN k := by
  match l, h, hb, hn with
  | [], _, _, hn =>
    obtain rfl : 0 = n := hn
    go_enter Tryd.func54, Tryd.ntmps54
    go_wp2_with fail
    go_ret3
    exact ⟨rfl, 0, rfl⟩
  | x :: t, h, hb, hn =>
    have hx : x < 256 := hb x (by simp)
    have hpos : 0 < n := by rw [← hn]; simp
    have i1 : (0 : Int) < n := by omega
    have i0 : ((n : Int) == 0) = false := by simp; omega
    by_cases ho : x % 2 = 1
    · obtain ⟨b, off, rfl, h0⟩ := h.head
      have ho' : ((x : Int) % 2 == 1) = true := by simp; omega
      obtain ⟨q, hq⟩ : ∃ q, Hid (((x : Int) == 255) = q) := ⟨_, Lib.hid rfl⟩
      have E : Hid (getB (x :: t) s = if s = true ∧ q = false then (x, 1, 0) else (0, 0, 7)) := Lib.hid (by
        rw [← hq.out, getB_odd t s ho]
        have : (¬ x = 255) ↔ ((x : Int) == 255) = false := by simp; omega
        simp only [this])
      rw [E.out]
      have hq' := hq.out
      clear h hb hn ho E hq
      cases s <;> cases q
      all_goals
        go_enter Tryd.func54, Tryd.ntmps54
        go_wp2_with fail
        go_ret3
        refine ⟨?_, 0, rfl⟩
        rfl
    · have ho' : ((x : Int) % 2 == 1) = false := by simp; omega
      match t, h, hb, hn with
      | [], h, _, hn =>
        obtain ⟨b, off, rfl, h0⟩ := h.head
        have E : getB [x] s = (0, 0, 2) := by simp [getB, ho]
        rw [E]
        have hn2 : (n : Int) < 2 := by simp at hn; omega
        clear h hn ho E
        go_enter Tryd.func54, Tryd.ntmps54
        go_wp2_with fail
        go_ret3
        exact ⟨rfl, 0, rfl⟩
      | y :: t, h, hb, hn =>
        obtain ⟨b, off, rfl, h0, h1⟩ := h.two
        have hy : y < 256 := hb y (by simp)
        have hn2 : ¬ (n : Int) < 2 := by simp at hn; omega
        have i2 : (1 : Int) < n := by omega
        have R : rightB (256 * x + y) = (decide (y % 2 = 1) && !(decide (x = 0) && decide (y = 255))) := by
          rw [rightB, Bool.eq_iff_iff]
          simp
          omega
        obtain ⟨q1, h1'⟩ : ∃ q, Hid (((y : Int) % 2 == 0) = q) := ⟨_, Lib.hid rfl⟩
        obtain ⟨q2, h2'⟩ : ∃ q, Hid (((x : Int) == 0) = q) := ⟨_, Lib.hid rfl⟩
        obtain ⟨q3, h3'⟩ : ∃ q, Hid (((y : Int) == 255) = q) := ⟨_, Lib.hid rfl⟩
        have E : Hid (getB (x :: y :: t) s = if (q1 || (q2 && q3)) = true then (0, 0, 7) else (256 * x + y, 2, 0)) := Lib.hid (by
          rw [← h1'.out, ← h2'.out, ← h3'.out, getB, if_neg ho]
          show (if rightB (256 * x + y) = true then _ else _) = _
          rw [R]
          by_cases c1 : y % 2 = 1 <;> by_cases c2 : x = 0 <;> by_cases c3 : y = 255 <;> simp [c1, c2, c3] <;> omega)
        rw [E.out]
        have g1 := h1'.out
        have g2 := h2'.out
        have g3 := h3'.out
        clear h hb hn ho E R h1' h2' h3'
        cases q1 <;> cases q2 <;> cases q3
        all_goals
          go_enter Tryd.func54, Tryd.ntmps54
          go_wp2_with fail
          first
            | (go_ret3
               exact ⟨rfl, 0, rfl⟩)
            | (go_quiet (fail)
               all_goals
                 go_wp2_with fail
                 go_ret3
                 refine ⟨?_, _, rfl⟩
                 simp [rgetV])

theorem get_b (l : List Nat) (s : Bool) (g1 g2 g3 : Nat) (hg : getB l s = (g1, g2, g3)) (A : Option Addr) (n c : Nat) (w : World) (h : Rd w w.heap.size A l) (hb : By l) (hn : l.length = n) :
    Calls Tryd.prog 65 #[.slice A n c, .bool s] w fun e w' => e = .returned (.tuple #[.int .u16 (g1 : Int), .int .i64 (g2 : Int), .int .i64 (g3 : Int)]) ∧ Below w.heap.size w w' :=
  (get_any l s A n c w h hb hn).mono fun _ _ ⟨he, k, hw⟩ => ⟨by rw [he, hg]; rfl, hw ▸ below_drewN (Below.refl _ _) k⟩
theorem rget_b (l : List Nat) (s : Bool) (g1 g2 g3 : Nat) (hg : getB l s = (g1, g2, g3)) (A : Option Addr) (n c : Nat) (w : World) (h : Rd w w.heap.size A l) (hb : By l) (hn : l.length = n) :
    Calls Tryd.prog 54 #[.slice A n c, .bool s] w fun e w' => e = .returned (.tuple #[.int .i64 (g1 : Int), .int .i64 (g2 : Int), .int .i64 (g3 : Int)]) ∧ Below w.heap.size w w' :=
  (rget_any l s A n c w h hb hn).mono fun _ _ ⟨he, k, hw⟩ => ⟨by rw [he, hg]; rfl, hw ▸ below_drewN (Below.refl _ _) k⟩

end Go.Proofs.YtkakkligndejaaaDoor
