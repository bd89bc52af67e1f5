
/-
  The mathematics of reports: twelve numbers as 48 octets, and back; what a reader has read so far; what was lost. No condition.
-/
import Derived.Test.YtmhjnghomihjlaaGreatNum
import Derived.Test.YtmhjnghomihjlaaGreatGPkt
namespace Go.Proofs.YtmhjnghomihjlaaGreat
set_option maxRecDepth 4000
open Go.RowKit

/-- Of each number four octets. -/
def octN (l : List Nat) : List Nat := (l.map fun n => numB n 4).flatten
/-- Each has 32 bits. -/
def N32 (l : List Nat) : Prop := ∀ x ∈ l, x < 4294967296
/-- The first k numbers that octets are. -/
def rdN (b : List Nat) (k : Nat) : List Nat := (List.range k).map fun i => valN ((b.drop (4 * i)).take 4)
/-- What a reader has of the number j behind k octets. -/
def acN (b : List Nat) (k j : Nat) : Nat := valN ((b.drop (4 * j)).take (min 4 (k - 4 * j)))
def acL (b : List Nat) (k : Nat) : List Nat := (List.range 12).map (acN b k)
/-- Has a packet nothing but a protocol and numbers? -/
def bareP (p : Pk) : Bool := decide (p.code = 0) && decide (p.id = 0) && decide (p.sub = 0) && decide (p.magic = 0) && decide (p.opts.length = 0) && decide (p.one.length = 0) && decide (p.two.length = 0) && decide (p.data.length = 0)
/-- What Put answers: octets, the error's number. -/
def lqputB (p : Pk) : List Nat × Nat := if p.proto = 49189 then if bareP p = true then if p.nums.length = 12 then (octN p.nums, 0) else ([], 5) else ([], 9) else ([], 8)
/-- A report. -/
def repP (l : List Nat) : Pk := ⟨49189, 0, 0, [], 0, 0, [], [], [], l⟩
/-- What Get answers: a packet, the error's number. -/
def lqgetB (b : List Nat) : Pk × Nat := if b.length < 48 then (pk0, 2) else (repP (rdN b 12), 0)
/-- How much was lost between two reports. -/
def lossB (a b : List Nat) : Nat := (b.getD 2 0 + (4294967296 - a.getD 2 0) + (4294967296 - b.getD 5 0) + a.getD 5 0) % 4294967296
def lostB (a b : List Nat) : Nat × Bool := if a.length = 12 then if b.length = 12 then (lossB a b, true) else (0, false) else (0, false)

theorem octN_len (l : List Nat) : (octN l).length = 4 * l.length := by
  induction l with
  | nil => rfl
  | cons x l ih =>
    unfold octN at ih ⊢
    rw [List.map_cons, List.flatten_cons, List.length_append, num_len, ih, List.length_cons]
    omega
theorem octN_by (l : List Nat) : By (octN l) := by
  intro x hx
  unfold octN at hx
  obtain ⟨m, hm, hxm⟩ := List.mem_flatten.1 hx
  obtain ⟨n, _, rfl⟩ := List.mem_map.1 hm
  exact num_by n 4 x hxm
theorem octN_snoc (l : List Nat) (x : Nat) : octN (l ++ [x]) = octN l ++ numB x 4 := by
  unfold octN
  rw [List.map_append, List.flatten_append]
  simp
theorem octN_cons (l : List Nat) (x : Nat) : octN (x :: l) = numB x 4 ++ octN l := by
  unfold octN
  rw [List.map_cons, List.flatten_cons]
theorem octN_take {l : List Nat} {k x : Nat} (hx : l[k]? = some x) : octN (l.take (k + 1)) = octN (l.take k) ++ numB x 4 := by
  rw [List.take_add_one, hx, Option.toList_some, octN_snoc]
theorem num4 (n : Nat) : numB n 4 = [n / 16777216 % 256, n / 65536 % 256, n / 256 % 256, n % 256] := by
  simp [numB]
theorem octN_at (m : List Nat) : ∀ (l : List Nat) (i x : Nat), l[i]? = some x → ((octN l ++ m).drop (4 * i)).take 4 = numB x 4
  | [], i, x, h => by simp at h
  | y :: l, 0, x, h => by
    injection h with h
    subst h
    rw [octN_cons, List.append_assoc, Nat.mul_zero, List.drop_zero, List.take_append_of_le_length (by rw [num_len]; exact Nat.le_refl _), List.take_of_length_le (by rw [num_len]; exact Nat.le_refl _)]
  | y :: l, i + 1, x, h => by
    have h' : l[i]? = some x := by simpa using h
    rw [octN_cons, List.append_assoc, List.drop_append, List.drop_of_length_le (by rw [num_len]; omega), List.nil_append, num_len, show 4 * (i + 1) - 4 = 4 * i by omega]
    exact octN_at m l i x h'
theorem rdN_len (b : List Nat) (k : Nat) : (rdN b k).length = k := by simp [rdN]
theorem rdN_succ (b : List Nat) (k : Nat) : rdN b (k + 1) = rdN b k ++ [valN ((b.drop (4 * k)).take 4)] := by simp [rdN, List.range_succ]
theorem val4_lt {l : List Nat} (h : By l) (k : Nat) (hk : k ≤ 4) : valN (l.take k) < 4294967296 := by
  have h1 := valN_lt (h.take k)
  have h2 : (256 : Nat) ^ (l.take k).length ≤ 256 ^ 4 := Nat.pow_le_pow_right (by omega) (by rw [List.length_take]; omega)
  have h3 : (256 : Nat) ^ 4 = 4294967296 := by decide
  omega
theorem val3_lt {l : List Nat} (h : By l) (k : Nat) (hk : k ≤ 3) : valN (l.take k) < 16777216 := by
  have h1 := valN_lt (h.take k)
  have h2 : (256 : Nat) ^ (l.take k).length ≤ 256 ^ 3 := Nat.pow_le_pow_right (by omega) (by rw [List.length_take]; omega)
  have h3 : (256 : Nat) ^ 3 = 16777216 := by decide
  omega
theorem rdN_lt {b : List Nat} (h : By b) (k : Nat) : N32 (rdN b k) := by
  intro x hx
  obtain ⟨i, _, rfl⟩ := List.mem_map.1 hx
  exact val4_lt (h.drop _) 4 (Nat.le_refl _)
theorem rdN_oct {l m : List Nat} (h : N32 l) : ∀ k, k ≤ l.length → rdN (octN l ++ m) k = l.take k
  | 0, _ => rfl
  | k + 1, hk => by
    have hx : l[k]? = some l[k] := List.getElem?_eq_getElem (by omega)
    rw [rdN_succ, rdN_oct h k (by omega), octN_at m l k _ hx, num_val, List.take_add_one, hx, Option.toList_some]
    have := h _ (List.mem_of_getElem? hx)
    rw [Nat.mod_eq_of_lt (by rw [show (256 : Nat) ^ 4 = 4294967296 by decide]; exact this)]
theorem num_back4 {l : List Nat} (h : By l) (hl : l.length = 4) : numB (valN l) 4 = l := by
  match l, hl with
  | [a, b, c, d], _ =>
    have ha := h a (by simp)
    have hb := h b (by simp)
    have hc := h c (by simp)
    have hd := h d (by simp)
    rw [num4]
    simp only [valN, List.foldl_cons, List.foldl_nil]
    refine congr (congrArg List.cons ?_) (congr (congrArg List.cons ?_) (congr (congrArg List.cons ?_) (congrArg (fun x => [x]) ?_))) <;> omega
theorem oct_rdN {b : List Nat} (h : By b) : ∀ k, 4 * k ≤ b.length → octN (rdN b k) = b.take (4 * k)
  | 0, _ => rfl
  | k + 1, hk => by
    rw [rdN_succ, octN_snoc, oct_rdN h k (by omega), num_back4 ((h.drop _).take _) (by rw [List.length_take, List.length_drop]; omega), show 4 * (k + 1) = 4 * k + 4 by omega, List.take_add]

theorem acL_len (b : List Nat) (k : Nat) : (acL b k).length = 12 := by simp [acL]
theorem acL_zero (b : List Nat) : acL b 0 = List.replicate 12 0 := by
  unfold acL acN
  simp [valN]
  rfl
theorem acL_at (b : List Nat) (k j : Nat) (hj : j < 12) : (acL b k)[j]? = some (acN b k j) := by
  unfold acL
  rw [List.getElem?_map, List.getElem?_range hj]
  rfl
theorem acL_end (b : List Nat) : acL b 48 = rdN b 12 := by
  unfold acL rdN
  refine List.map_congr_left fun j hj => ?_
  have : j < 12 := List.mem_range.1 hj
  unfold acN
  rw [show min 4 (48 - 4 * j) = 4 by omega]
theorem acN_step {b : List Nat} {k x : Nat} (hx : b[k]? = some x) : acN b (k + 1) (k / 4) = acN b k (k / 4) * 256 + x := by
  unfold acN
  have e1 : min 4 (k - 4 * (k / 4)) = k - 4 * (k / 4) := by omega
  have e2 : min 4 (k + 1 - 4 * (k / 4)) = k - 4 * (k / 4) + 1 := by omega
  rw [e1, e2]
  refine valN_snoc ?_
  rw [List.getElem?_drop, show 4 * (k / 4) + (k - 4 * (k / 4)) = k by omega]
  exact hx
theorem acN_lt {b : List Nat} (h : By b) (k : Nat) : acN b k (k / 4) < 16777216 := by
  unfold acN
  exact val3_lt (h.drop _) _ (by omega)
theorem acL_step {b : List Nat} {k x : Nat} (hx : b[k]? = some x) (hk : k < 48) : (acL b k).set (k / 4) (acN b k (k / 4) * 256 + x) = acL b (k + 1) := by
  refine List.ext_getElem? fun j => ?_
  rw [List.getElem?_set, acL_len]
  by_cases hj : k / 4 = j
  · subst hj
    rw [if_pos rfl, if_pos (by omega), acL_at _ _ _ (by omega), acN_step hx]
  · rw [if_neg hj]
    by_cases h12 : j < 12
    · rw [acL_at _ _ _ h12, acL_at _ _ _ h12]
      congr 1
      unfold acN
      rw [show min 4 (k - 4 * j) = min 4 (k + 1 - 4 * j) by omega]
    · rw [List.getElem?_eq_none (by rw [acL_len]; omega), List.getElem?_eq_none (by rw [acL_len]; omega)]

theorem lqput_ok {p : Pk} (h : (lqputB p).2 = 0) : p = repP p.nums ∧ p.nums.length = 12 ∧ (lqputB p).1 = octN p.nums := by
  unfold lqputB at h ⊢
  split at h
  · rename_i h1
    split at h
    · rename_i h2
      split at h
      · rename_i h3
        rw [if_pos h1, if_pos h2, if_pos h3]
        refine ⟨?_, h3, rfl⟩
        obtain ⟨a, b, c, d, e, f, g, i, j, k⟩ := p
        simp only [bareP, Bool.and_eq_true, decide_eq_true_eq, List.length_eq_zero_iff] at h2
        obtain ⟨⟨⟨⟨⟨⟨⟨rfl, rfl⟩, rfl⟩, rfl⟩, rfl⟩, rfl⟩, rfl⟩, rfl⟩ := h2
        have h1' : a = 49189 := h1
        subst h1'
        rfl
      · simp at h
    · simp at h
  · simp at h
theorem lqput_rep {l : List Nat} (h : l.length = 12) : lqputB (repP l) = (octN l, 0) := by
  unfold lqputB
  rw [if_pos (show (repP l).proto = 49189 from rfl), if_pos (show bareP (repP l) = true from rfl), if_pos (show (repP l).nums.length = 12 from h)]
  rfl
theorem lqget_oct {l m : List Nat} (h : l.length = 12) (hl : N32 l) : lqgetB (octN l ++ m) = (repP l, 0) := by
  unfold lqgetB
  rw [if_neg (by rw [List.length_append, octN_len]; omega), ← h, rdN_oct hl _ (Nat.le_refl _), List.take_length]
theorem lqget_put {b : List Nat} (h : By b) (hb : 48 ≤ b.length) : lqgetB b = (repP (rdN b 12), 0) ∧ lqputB (repP (rdN b 12)) = (b.take 48, 0) := by
  refine ⟨by unfold lqgetB; rw [if_neg (by omega)], ?_⟩
  rw [lqput_rep (rdN_len b 12), oct_rdN h 12 (by omega)]
theorem loss_lt (a b : List Nat) : lossB a b < 4294967296 := Nat.mod_lt _ (by omega)
end Go.Proofs.YtmhjnghomihjlaaGreat
