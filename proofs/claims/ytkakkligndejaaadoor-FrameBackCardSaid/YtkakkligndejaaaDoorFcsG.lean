
/-
  The sums of frames as lists of numbers: what is written of a sum, when octets end with the sum of those ahead, and what the register is then. No condition beyond those in the lemmas.
-/
import Derived.Test.YtkakkligndejaaaDoorFcsM
namespace Go.Proofs.YtkakkligndejaaaDoor

def polyW (wide : Bool) : Nat := if wide then 3988292384 else 33800
def onesW (wide : Bool) : Nat := if wide then 4294967295 else 65535
def sizeW (wide : Bool) : Nat := if wide then 4 else 2
def resW (wide : Bool) : Nat := if wide then 3736805603 else 61624
/-- One more than the greatest register. -/
def topW (wide : Bool) : Nat := if wide then 4294967296 else 65536
def regW (wide : Bool) (l : List Nat) : Nat := reg (polyW wide) (onesW wide) l
def sumW (wide : Bool) (l : List Nat) : Nat := regW wide l ^^^ onesW wide
def trail (wide : Bool) (s : Nat) : List Nat := if wide then [s % 256, s / 256 % 256, s / 65536 % 256, s / 16777216] else [s % 256, s / 256]
def goodW (wide : Bool) (l : List Nat) : Bool :=
  decide (sizeW wide ≤ l.length) && decide (l.drop (l.length - sizeW wide) = trail wide (sumW wide (l.take (l.length - sizeW wide))))

theorem trail_len (wide : Bool) (s : Nat) : (trail wide s).length = sizeW wide := by cases wide <;> rfl
theorem size_pos (wide : Bool) : 2 ≤ sizeW wide ∧ sizeW wide ≤ 4 := by cases wide <;> decide
theorem trail_by (wide : Bool) (s : Nat) (h : s < topW wide) : ∀ x ∈ trail wide s, x < 256 := by
  cases wide
  · have h' : s < 65536 := h
    intro x hx
    have hx' : x ∈ [s % 256, s / 256] := hx
    simp only [List.mem_cons, List.not_mem_nil, or_false] at hx'
    omega
  · have h' : s < 4294967296 := h
    intro x hx
    have hx' : x ∈ [s % 256, s / 256 % 256, s / 65536 % 256, s / 16777216] := hx
    simp only [List.mem_cons, List.not_mem_nil, or_false] at hx'
    omega
theorem poly_lt (wide : Bool) : polyW wide < topW wide := by cases wide <;> decide
theorem ones_lt (wide : Bool) : onesW wide < topW wide := by cases wide <;> decide
theorem top_pow (wide : Bool) : topW wide = 2 ^ (8 * sizeW wide) := by cases wide <;> decide
theorem top_le (wide : Bool) : topW wide ≤ 4294967296 := by cases wide <;> decide
theorem top_ge (wide : Bool) : 65536 ≤ topW wide := by cases wide <;> decide
theorem regT_lt {wide : Bool} {l : List Nat} (hb : ∀ x ∈ l, x < 256) {r : Nat} (hr : r < topW wide) : reg (polyW wide) r l < topW wide := by
  have hp := poly_lt wide
  rw [top_pow] at *
  exact reg_lt hp (by have := size_pos wide; omega) hb hr
theorem regW_lt {wide : Bool} {l : List Nat} (hb : ∀ x ∈ l, x < 256) : regW wide l < topW wide := regT_lt hb (ones_lt wide)
theorem xorT_lt {wide : Bool} {a b : Nat} (ha : a < topW wide) (hb : b < topW wide) : a ^^^ b < topW wide := by
  rw [top_pow] at *
  exact Nat.xor_lt_two_pow ha hb
theorem sumW_lt {wide : Bool} {l : List Nat} (hb : ∀ x ∈ l, x < 256) : sumW wide l < topW wide := xorT_lt (regW_lt hb) (ones_lt wide)
theorem shT_lt (wide : Bool) (k : Nat) {r : Nat} (hr : r < topW wide) : shN (polyW wide) k r < topW wide := by
  have hp := poly_lt wide
  rw [top_pow] at *
  exact shN_lt hp k hr
theorem shT_inj (wide : Bool) (k : Nat) {a b : Nat} (ha : a < topW wide) (hb : b < topW wide) (h : shN (polyW wide) k a = shN (polyW wide) k b) : a = b := by
  cases wide
  · exact shN_inj (p := 33800) (n := 15) (by decide) (by decide) k ha hb h
  · exact shN_inj (p := 3988292384) (n := 31) (by decide) (by decide) k ha hb h

theorem feed8 (p r v : Nat) : shN p 8 (r ^^^ v) = shN p 8 (r ^^^ v % 256) ^^^ v / 256 := by
  have e : r ^^^ v = (r ^^^ v % 256) ^^^ (2 ^ 8 * (v / 256)) := by
    rw [Nat.xor_assoc]
    exact congrArg (r ^^^ ·) (split_low 8 v)
  rw [e, shN_xor, shN_pow]
/-- The register behind what is written of a number. -/
theorem feed_trail (wide : Bool) (r v : Nat) : reg (polyW wide) r (trail wide v) = shN (polyW wide) (8 * sizeW wide) (r ^^^ v) := by
  cases wide
  · show shN 33800 8 (shN 33800 8 (r ^^^ v % 256) ^^^ v / 256) = shN 33800 16 (r ^^^ v)
    rw [← feed8, ← shN_add]
  · show shN 3988292384 8 (shN 3988292384 8 (shN 3988292384 8 (shN 3988292384 8 (r ^^^ v % 256) ^^^ v / 256 % 256) ^^^ v / 65536 % 256) ^^^ v / 16777216) = shN 3988292384 32 (r ^^^ v)
    have e1 : v / 65536 = v / 256 / 256 := by omega
    have e2 : v / 16777216 = v / 256 / 256 / 256 := by omega
    rw [e1, e2, ← feed8, ← feed8, ← feed8, ← shN_add, ← shN_add, ← shN_add]
theorem residue (wide : Bool) : shN (polyW wide) (8 * sizeW wide) (onesW wide) = resW wide := by cases wide <;> decide +kernel
theorem trail_of (wide : Bool) (t : List Nat) (hl : t.length = sizeW wide) (hb : ∀ x ∈ t, x < 256) : ∃ v, v < topW wide ∧ t = trail wide v := by
  cases wide
  · match t, hl, hb with
    | [a, b], _, hb =>
      have ha := hb a (by simp)
      have hb' := hb b (by simp)
      refine ⟨a + 256 * b, show _ < 65536 by omega, ?_⟩
      show [a, b] = [(a + 256 * b) % 256, (a + 256 * b) / 256]
      rw [show (a + 256 * b) % 256 = a from by omega, show (a + 256 * b) / 256 = b from by omega]
  · match t, hl, hb with
    | [a, b, c, d], _, hb =>
      have ha := hb a (by simp)
      have hb' := hb b (by simp)
      have hc := hb c (by simp)
      have hd := hb d (by simp)
      refine ⟨a + 256 * b + 65536 * c + 16777216 * d, show _ < 4294967296 by omega, ?_⟩
      generalize hv : a + 256 * b + 65536 * c + 16777216 * d = v
      show [a, b, c, d] = [v % 256, v / 256 % 256, v / 65536 % 256, v / 16777216]
      rw [show v % 256 = a from by omega, show v / 256 % 256 = b from by omega, show v / 65536 % 256 = c from by omega, show v / 16777216 = d from by omega]
theorem trail_inj (wide : Bool) {u v : Nat} (h : trail wide u = trail wide v) : u = v := by
  cases wide
  · have h' : [u % 256, u / 256] = [v % 256, v / 256] := h
    simp only [List.cons.injEq, and_true] at h'
    omega
  · have h' : [u % 256, u / 256 % 256, u / 65536 % 256, u / 16777216] = [v % 256, v / 256 % 256, v / 65536 % 256, v / 16777216] := h
    simp only [List.cons.injEq, and_true] at h'
    omega
/-- Octets ahead, and as many as a sum has: the register tells whether these are the sum. -/
theorem end_iff (wide : Bool) (d t : List Nat) (hd : ∀ x ∈ d, x < 256) (ht : ∀ x ∈ t, x < 256) (hl : t.length = sizeW wide) : regW wide (d ++ t) = resW wide ↔ t = trail wide (sumW wide d) := by
  obtain ⟨v, hv, rfl⟩ := trail_of wide t hl ht
  have hr := regW_lt (wide := wide) hd
  have e : regW wide (d ++ trail wide v) = shN (polyW wide) (8 * sizeW wide) (regW wide d ^^^ v) := by
    unfold regW
    rw [reg_app, feed_trail]
  rw [e, ← residue]
  constructor
  · intro h
    have h2 := shT_inj wide _ (xorT_lt hr hv) (ones_lt wide) h
    congr 1
    unfold sumW
    rw [← h2, ← Nat.xor_assoc, Nat.xor_self, Nat.zero_xor]
  · intro h
    have h2 := trail_inj wide h
    rw [h2]
    congr 1
    unfold sumW
    rw [← Nat.xor_assoc, Nat.xor_self, Nat.zero_xor]
theorem good_iff (wide : Bool) (l : List Nat) (hb : ∀ x ∈ l, x < 256) (hl : sizeW wide ≤ l.length) : goodW wide l = decide (regW wide l = resW wide) := by
  have h := end_iff wide (l.take (l.length - sizeW wide)) (l.drop (l.length - sizeW wide)) (fun x hx => hb x (List.mem_of_mem_take hx)) (fun x hx => hb x (List.mem_of_mem_drop hx)) (by rw [List.length_drop]; omega)
  rw [List.take_append_drop] at h
  rw [Bool.eq_iff_iff, decide_eq_true_iff, h, goodW, Bool.and_eq_true, decide_eq_true_iff, decide_eq_true_iff]
  exact ⟨fun h => h.2, fun h => ⟨hl, h⟩⟩
theorem good_whole (wide : Bool) (l : List Nat) : goodW wide (l ++ trail wide (sumW wide l)) = true := by
  have e : (l ++ trail wide (sumW wide l)).length - sizeW wide = l.length := by rw [List.length_append, trail_len]; omega
  rw [goodW, e, List.drop_left, List.take_left, List.length_append, trail_len]
  simp
theorem whole_res (wide : Bool) (l : List Nat) (hb : ∀ x ∈ l, x < 256) : regW wide (l ++ trail wide (sumW wide l)) = resW wide :=
  (end_iff wide l _ hb (trail_by wide _ (sumW_lt hb)) (trail_len wide _)).2 rfl
/-- The sums of two lists, of both by exclusive or, and of as many zeros. -/
theorem sums2 (wide : Bool) (a b : List Nat) (n : Nat) (ha : a.length = n) (hb : b.length = n) :
    sumW wide a ^^^ sumW wide b ^^^ sumW wide (List.zipWith (· ^^^ ·) a b) = sumW wide (List.replicate n 0) := by
  have h1 : reg (polyW wide) (onesW wide) (List.zipWith (· ^^^ ·) a b) = reg (polyW wide) (onesW wide) a ^^^ reg (polyW wide) 0 b := by
    have := reg_both (polyW wide) a b (by rw [ha, hb]) (onesW wide) 0
    rwa [Nat.xor_zero] at this
  have h2 : ∀ (k r : Nat), reg (polyW wide) r (List.replicate k 0) = shN (polyW wide) (8 * k) r := by
    intro k
    induction k with
    | zero => intro r; rfl
    | succ k ih => intro r; rw [List.replicate_succ, reg_cons, Nat.xor_zero, ih, show 8 * (k + 1) = 8 + 8 * k from by omega, shN_add]
  have h3 : reg (polyW wide) (onesW wide) b = reg (polyW wide) 0 b ^^^ shN (polyW wide) (8 * n) (onesW wide) := by
    have := reg_state (polyW wide) 0 (onesW wide) b
    rwa [Nat.zero_xor, hb] at this
  unfold sumW regW
  rw [h1, h2, h3]
  generalize reg (polyW wide) (onesW wide) a = A
  generalize reg (polyW wide) 0 b = B
  generalize shN (polyW wide) (8 * n) (onesW wide) = Z
  generalize onesW wide = O
  apply Nat.eq_of_testBit_eq
  intro i
  simp only [Nat.testBit_xor]
  cases A.testBit i <;> cases B.testBit i <;> cases Z.testBit i <;> cases O.testBit i <;> rfl

end Go.Proofs.YtkakkligndejaaaDoor
