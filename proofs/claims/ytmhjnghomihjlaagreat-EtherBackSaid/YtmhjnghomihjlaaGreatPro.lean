
/-
  Protocols' numbers: what the calls of layer 9 and the document's own answer, Right, Short, Group, Put, Get. No condition beyond: numbers below 2^16, octets below 256, lists of at most 2^40 elements.
-/
import Derived.Test.YtmhjnghomihjlaaGreatGWord
import Derived.Laws.BitsAll
import Derived.OwnWalk
namespace Go.Proofs.YtmhjnghomihjlaaGreat
set_option maxRecDepth 4000
open Go.RowKit

/-- May a number be? -/
def rightB (p : Nat) : Bool := decide (p % 2 = 1) && (decide (p / 256 % 2 = 0) && decide (p ≠ 255))
/-- How it is written. -/
def pnputB (p : Nat) (s : Bool) : List Nat := if s = true ∧ p < 256 then [p] else [p / 256, p % 256]
/-- What octets begin with: the number, in how many octets, the error. -/
def pngetB (l : List Nat) (s : Bool) : Nat × Nat × Nat :=
  match l with
  | [] => (0, 0, 2)
  | x :: t => if x % 2 = 1 then (if s = true ∧ x ≠ 255 then (x, 1, 0) else (0, 0, 7)) else
    match t with
    | [] => (0, 0, 2)
    | y :: _ => if rightB (256 * x + y) = true then (256 * x + y, 2, 0) else (0, 0, 7)

theorem getB_lt {l : List Nat} (h : By l) (s : Bool) : (pngetB l s).1 < 65536 := by
  match l, h with
  | [], _ => simp [pngetB]
  | [x], h =>
    have := h x (by simp)
    simp only [pngetB]
    repeat' split
    all_goals first | exact Nat.zero_lt_succ _ | (show x < 65536; omega)
  | x :: y :: t, h =>
    have h1 := h x (by simp)
    have h2 := h y (by simp)
    simp only [pngetB]
    repeat' split
    all_goals first | exact Nat.zero_lt_succ _ | (show x < 65536; omega) | (show 256 * x + y < 65536; omega)
theorem getB_odd {x : Nat} (t : List Nat) (s : Bool) (h : x % 2 = 1) : pngetB (x :: t) s = if s = true ∧ x ≠ 255 then (x, 1, 0) else (0, 0, 7) := by cases t <;> simp [pngetB, h]

/-- A literal in a new block is a new list. -/
theorem New.lit (w : World) (l : List Nat) (n : Nat) (hn : l.length = n) (hl : n ≤ 1099511627776) : New w (w.alloc (.cells (bvs l).toArray 5)) (some ⟨w.heap.size, 0, none⟩) n n l := by
  refine ⟨hn, ⟨by rw [bvs_len]; omega, .inr ⟨w.heap.size, n, _, rfl, Nat.le_refl _, heap_alloc_new w _, Nat.le_refl _, by unfold maxLen; omega, by simp [bvs_len, hn], ?_⟩⟩, Rd.lit_ w l, (Below.refl _ _).alloc (Nat.le_refl _) _⟩
  rw [show n * 1 = (bvs l).length by rw [bvs_len]; omega]
  exact List.take_length

set_option maxHeartbeats 400000 in
theorem odd_any (x : Nat) (hx : x < 256) (w : World) :
    Calls Tryz.prog 86 #[.int .u8 (x : Int)] w fun e w' => e = .returned (.bool (decide (x % 2 = 1))) ∧ w = w' := by
  go_enter Tryz.func86, Tryz.ntmps86
  go_wp2
  go_ret
  refine ⟨?_, rfl⟩
  have e : (bits .and .u8 (x : Int) 1 != 0) = decide (x % 2 = 1) := by
    have h := u8_and_nat x 1 hx (by omega)
    rw [nat_mask1] at h
    rw [show (1 : Int) = ((1 : Nat) : Int) from rfl, h, Bool.eq_iff_iff]
    simp
    omega
  show Ending.returned (.bool (bits .and .u8 (x : Int) 1 != 0)) = _
  rw [e]
theorem odd_v (x : Nat) (b : Bool) (hx : x < 256) (hb : decide (x % 2 = 1) = b) (y : Int) (hy : y = (x : Int)) (w : World) :
    Calls Tryz.prog 86 #[.int .u8 y] w fun e w' => e = .returned (.bool b) ∧ w = w' := hy ▸ hb ▸ odd_any x hx w

theorem byte_high (p : Nat) : ((p : Int) / 256) = ((p / 256 : Nat) : Int) := by simp
theorem byte_low (p : Nat) : ((p : Int) % 256) = ((p % 256 : Nat) : Int) := by simp

set_option maxHeartbeats 400000 in
theorem right_any (p : Nat) (hp : p < 65536) (w : World) :
    Calls Tryz.prog 80 #[.int .u16 (p : Int)] w fun e w' => e = .returned (.bool (rightB p)) ∧ w = w' := by
  obtain ⟨q1, h1⟩ : ∃ q, Hid (decide (p % 256 % 2 = 1) = q) := ⟨_, Lib.hid rfl⟩
  obtain ⟨q2, h2⟩ : ∃ q, Hid (decide (p / 256 % 2 = 1) = q) := ⟨_, Lib.hid rfl⟩
  obtain ⟨q3, h3⟩ : ∃ q, Hid (decide (p = 255) = q) := ⟨_, Lib.hid rfl⟩
  have e3 : ((p : Int) != 255) = !q3 := by rw [← h3.out, Bool.eq_iff_iff]; simp; omega
  have E : Hid (rightB p = (q1 && (!q2 && !q3))) := Lib.hid (by
    rw [← h1.out, ← h2.out, ← h3.out, rightB]
    have : p % 256 % 2 = p % 2 := by omega
    rw [this, Bool.eq_iff_iff]
    simp)
  rw [E.out]
  go_enter Tryz.func80, Tryz.ntmps80
  go_wp2_with (go_at_call 86; first | (with_reducible refine (odd_v (p % 256) q1 (by omega) h1.out _ (byte_low p) _).mono ?_; rintro e w' ⟨rfl, rfl⟩) | (with_reducible refine (odd_v (p / 256) q2 (by omega) h2.out _ (byte_high p) _).mono ?_; rintro e w' ⟨rfl, rfl⟩))
  all_goals
    go_ret
    refine ⟨?_, rfl⟩
    show Ending.returned (.bool _) = _
    congr 2
    simp_all

theorem right_v (p : Nat) (q : Bool) (hp : p < 65536) (hq : rightB p = q) (w : World) :
    Calls Tryz.prog 80 #[.int .u16 (p : Int)] w fun e w' => e = .returned (.bool q) ∧ w = w' := hq ▸ right_any p hp w

set_option maxHeartbeats 400000 in
theorem rright_any (p : Nat) (hp : p < 65536) (w : World) :
    Calls Tryz.prog 47 #[.int .i64 (p : Int)] w fun e w' => e = .returned (.bool (rightB p)) ∧ w = w' := by
  go_enter Tryz.func47, Tryz.ntmps47
  go_wp2
  all_goals
    go_ret
    refine ⟨?_, rfl⟩
    show Ending.returned (.bool _) = _
    congr 2
    rw [Bool.eq_iff_iff]
    simp [rightB]
    omega

theorem rright_v (p : Nat) (q : Bool) (hp : p < 65536) (hq : rightB p = q) (w : World) :
    Calls Tryz.prog 47 #[.int .i64 (p : Int)] w fun e w' => e = .returned (.bool q) ∧ w = w' := hq ▸ rright_any p hp w

theorem put_long (p : Nat) (s : Bool) (h : ¬ (s = true ∧ p < 256)) (w : World) : New w (w.alloc (.cells #[.int .u8 ((p : Int) / 256), .int .u8 ((p : Int) % 256)] 5)) (some ⟨w.heap.size, 0, none⟩) 2 2 (pnputB p s) := by
  rw [pnputB, if_neg h]
  have := New.lit w [p / 256, p % 256] 2 rfl (by omega)
  simpa [bvs, bv] using this
theorem put_one (p : Nat) (h : p < 256) (w : World) : New w (w.alloc (.cells #[.int .u8 (p : Int)] 5)) (some ⟨w.heap.size, 0, none⟩) 1 1 (pnputB p true) := by
  rw [pnputB, if_pos ⟨rfl, h⟩]
  have := New.lit w [p] 1 rfl (by omega)
  simpa [bvs, bv] using this

/-- The answer, as a value. -/
def getV (g : Nat × Nat × Nat) : Value := .tuple #[.int .u16 (g.1 : Int), .int .i64 (g.2.1 : Int), .int .i64 (g.2.2 : Int)]
def rgetV (g : Nat × Nat × Nat) : Value := .tuple #[.int .i64 (g.1 : Int), .int .i64 (g.2.1 : Int), .int .i64 (g.2.2 : Int)]

theorem Rd.head {w : World} {B : Nat} {A : Option Addr} {x : Nat} {t : List Nat} (h : Rd w B A (x :: t)) : ∃ b off, A = some ⟨b, off, none⟩ ∧ w.cell? ⟨b, off, none⟩ = some (.int .u8 (x : Int)) := by
  obtain ⟨b, off, e, _, hc⟩ := h (by simp)
  exact ⟨b, off, e, hc 0 x rfl⟩
theorem Rd.two {w : World} {B : Nat} {A : Option Addr} {x y : Nat} {t : List Nat} (h : Rd w B A (x :: y :: t)) : ∃ b off, A = some ⟨b, off, none⟩ ∧ w.cell? ⟨b, off, none⟩ = some (.int .u8 (x : Int)) ∧ w.cell? ⟨b, off + 1, none⟩ = some (.int .u8 (y : Int)) := by
  obtain ⟨b, off, e, _, hc⟩ := h (by simp)
  exact ⟨b, off, e, hc 0 x rfl, hc 1 y rfl⟩

theorem right_odd (x : Nat) (hx : x < 256) (h : x % 2 = 1) : rightB x = decide (x ≠ 255) := by
  rw [rightB, Bool.eq_iff_iff]
  simp
  omega

end Go.Proofs.YtmhjnghomihjlaaGreat
