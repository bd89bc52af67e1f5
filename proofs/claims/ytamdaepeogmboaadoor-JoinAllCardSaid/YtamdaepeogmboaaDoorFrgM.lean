
/-
  Layer 23's answers as mathematics: how a piece is written and read, a packet in pieces, pieces joined. No condition.
-/
import Derived.Test.YtamdaepeogmboaaDoorWords
namespace Go.Proofs.YtamdaepeogmboaaDoor
set_option maxRecDepth 4000
open Go.RowKit

/-- A piece: does it begin, does it end, its number, its data. -/
structure Pc where
  b : Bool
  e : Bool
  n : Int
  d : List Nat
deriving DecidableEq, Inhabited

abbrev pc0 : Pc := ⟨false, false, 0, []⟩
def frmod (s : Bool) : Nat := if s then 4096 else 16777216
def frsz (s : Bool) : Nat := if s then 2 else 4
def frspare (s : Bool) : Nat := if s then 48 else 63
def frright (s : Bool) (x : Int) : Bool := decide (0 ≤ x) && decide (x < (frmod s : Int))
def frtop (b e : Bool) : Nat := (if b then 128 else 0) + (if e then 64 else 0)
def frhead (s b e : Bool) (n : Nat) : List Nat := if s then [frtop b e + n / 256, n % 256] else [frtop b e, n / 65536, n / 256 % 256, n % 256]
/-- What Put answers. -/
def frputA (s : Bool) (p : Pc) : List Nat := if frright s p.n then frhead s p.b p.e p.n.toNat ++ p.d else []
def frputE (s : Bool) (p : Pc) : Nat := if frright s p.n then 0 else 5
def frbad (s : Bool) (x : Nat) : Bool := if s then decide (15 < x % 64) else decide (x % 64 ≠ 0)
def frn (s : Bool) (l : List Nat) : Nat := if s then (l.headD 0 % 64) * 256 + l.getD 1 0 else (l.getD 1 0 * 256 + l.getD 2 0) * 256 + l.getD 3 0
/-- What Get answers. -/
def frget (s : Bool) (l : List Nat) : Pc × Nat :=
  if l.length < frsz s then (pc0, 2) else if frbad s (l.headD 0) then (pc0, 4)
  else (⟨decide (128 ≤ l.headD 0), decide (l.headD 0 / 64 % 2 = 1), (frn s l : Int), l.drop (frsz s)⟩, 0)
/-- A number of octets. -/
def frval (l : List Nat) : Nat := l.foldl (fun n c => n * 256 + c) 0

theorem frmod_pos (s : Bool) : 0 < frmod s := by cases s <;> simp [frmod]
theorem frright_iff {s : Bool} {x : Int} : frright s x = true ↔ 0 ≤ x ∧ x < (frmod s : Int) := by simp [frright]
theorem frright_no {s : Bool} {x : Int} (h : frright s x = false) : x < 0 ∨ (frmod s : Int) ≤ x := by
  simp [frright] at h
  omega
theorem frval_snoc {l : List Nat} {k x : Nat} (hx : l[k]? = some x) : frval (l.take (k + 1)) = frval (l.take k) * 256 + x := by
  unfold frval
  rw [List.take_add_one, hx, Option.toList_some, List.foldl_append]
  rfl
theorem frval_n (s : Bool) {l : List Nat} (hb : By l) (hl : frsz s ≤ l.length) (h : frbad s (l.headD 0) = false) : frval (l.take (frsz s)) % frmod s = frn s l := by
  cases s
  · match l, hl with
    | x :: y :: z :: u :: t, _ =>
      have hx := hb x (by simp)
      have hy := hb y (by simp)
      have hz := hb z (by simp)
      have hu := hb u (by simp)
      simp [frval, frn, frmod, frsz]
      omega
    | [_, _, _], h => simp [frsz] at h
    | [_, _], h => simp [frsz] at h
    | [_], h => simp [frsz] at h
    | [], h => simp [frsz] at h
  · match l, hl with
    | x :: y :: t, _ =>
      have hx := hb x (by simp)
      have hy := hb y (by simp)
      simp [frbad] at h
      simp [frval, frn, frmod, frsz]
      omega
    | [_], h => simp [frsz] at h
    | [], h => simp [frsz] at h
theorem frhead_len (s b e : Bool) (n : Nat) : (frhead s b e n).length = frsz s := by cases s <;> simp [frhead, frsz]
theorem frtop_le (b e : Bool) : frtop b e ≤ 192 := by cases b <;> cases e <;> simp [frtop]
theorem frhead_by (s b e : Bool) (n : Nat) (h : n < frmod s) : By (frhead s b e n) := by
  have ht := frtop_le b e
  cases s
  · intro x hx
    simp [frhead] at hx
    simp [frmod] at h
    omega
  · intro x hx
    simp [frhead] at hx
    simp [frmod] at h
    omega
theorem frput_get (s : Bool) (p : Pc) (h : frright s p.n = true) : frget s (frhead s p.b p.e p.n.toNat ++ p.d) = (p, 0) := by
  obtain ⟨b, e, n, d⟩ := p
  obtain ⟨h0, h1⟩ := frright_iff.1 h
  obtain ⟨k, rfl⟩ := Int.eq_ofNat_of_zero_le h0
  simp only [Int.toNat_natCast] at h0 h1 ⊢
  have hlen : ¬ (frhead s b e k ++ d).length < frsz s := by rw [List.length_append, frhead_len]; omega
  have hn : frbad s ((frhead s b e k ++ d).headD 0) = false ∧ frn s (frhead s b e k ++ d) = k ∧ decide (128 ≤ (frhead s b e k ++ d).headD 0) = b ∧ decide ((frhead s b e k ++ d).headD 0 / 64 % 2 = 1) = e := by
    cases s
    · simp [frmod] at h1
      cases b <;> cases e <;> simp [frhead, frbad, frtop, frn] <;> omega
    · simp [frmod] at h1
      cases b <;> cases e <;> simp [frhead, frbad, frtop, frn] <;> omega
  unfold frget
  rw [if_neg hlen, if_neg (by rw [hn.1]; simp), hn.2.1, hn.2.2.1, hn.2.2.2]
  congr 2
  rw [← frhead_len s b e k, List.drop_left]
theorem frget_err (s : Bool) (l : List Nat) (h : (frget s l).2 ≠ 0) : (frget s l).1 = pc0 := by
  unfold frget at h ⊢
  split
  · rfl
  · rename_i h1
    rw [if_neg h1] at h
    split
    · rfl
    · rename_i h2
      rw [if_neg h2] at h
      simp at h
theorem frget_ok (s : Bool) (l : List Nat) (h : (frget s l).2 = 0) : frsz s ≤ l.length ∧ frbad s (l.headD 0) = false ∧ (frget s l).1 = ⟨decide (128 ≤ l.headD 0), decide (l.headD 0 / 64 % 2 = 1), (frn s l : Int), l.drop (frsz s)⟩ := by
  unfold frget at h ⊢
  split at h
  · simp at h
  · rename_i h1
    split at h
    · simp at h
    · rename_i h2
      rw [if_neg h1, if_neg h2]
      exact ⟨by omega, by simpa using h2, rfl⟩
theorem frget_put (s : Bool) (l : List Nat) (hb : By l) (h : (frget s l).2 = 0) : frright s (frget s l).1.n = true ∧ frhead s (frget s l).1.b (frget s l).1.e (frget s l).1.n.toNat ++ (frget s l).1.d = l := by
  obtain ⟨h1, h2, h3⟩ := frget_ok s l h
  rw [h3]
  cases s
  · match l, h1 with
    | x :: y :: z :: u :: t, _ =>
      have hx := hb x (by simp)
      have hy := hb y (by simp)
      have hz := hb z (by simp)
      have hu := hb u (by simp)
      simp [frbad] at h2
      have e1 : frtop (decide (128 ≤ x)) (decide (x / 64 % 2 = 1)) = x := by
        unfold frtop
        by_cases c1 : 128 ≤ x <;> by_cases c2 : x / 64 % 2 = 1 <;> simp [c1, c2] <;> omega
      constructor
      · simp [frright, frn, frmod]
        omega
      · simp [frhead, frn, frsz, e1]
        omega
    | [_, _, _], h => simp [frsz] at h
    | [_, _], h => simp [frsz] at h
    | [_], h => simp [frsz] at h
    | [], h => simp [frsz] at h
  · match l, h1 with
    | x :: y :: t, _ =>
      have hx := hb x (by simp)
      have hy := hb y (by simp)
      simp [frbad] at h2
      have e1 : frtop (decide (128 ≤ x)) (decide (x / 64 % 2 = 1)) + x % 64 = x := by
        unfold frtop
        by_cases c1 : 128 ≤ x <;> by_cases c2 : x / 64 % 2 = 1 <;> simp [c1, c2] <;> omega
      constructor
      · simp [frright, frn, frmod]
        omega
      · simp [frhead, frn, frsz]
        have e2 : (x % 64 * 256 + y) / 256 = x % 64 := by omega
        have e3 : (x % 64 * 256 + y) % 256 = y := by omega
        omega
    | [_], h => simp [frsz] at h
    | [], h => simp [frsz] at h

/-- A number's lowest k octets, the high one first; what stands there when i rounds of k are done, from the end on. -/
def frdig (n : Nat) : Nat → List Nat
  | 0 => []
  | k + 1 => n / 256 ^ k % 256 :: frdig n k
theorem frdig_len (n k : Nat) : (frdig n k).length = k := by induction k <;> simp [frdig, *]
def frfil (n k i : Nat) : List Nat := List.replicate (k - i) 0 ++ frdig n i
theorem frfil_zero (n k : Nat) : frfil n k 0 = List.replicate k 0 := by simp [frfil, frdig]
theorem frfil_all (n k : Nat) : frfil n k k = frdig n k := by simp [frfil]
theorem frfil_len (n k i : Nat) (h : i ≤ k) : (frfil n k i).length = k := by simp [frfil, frdig_len]; omega
theorem frfil_set (n k i : Nat) (h : i < k) : (frfil n k i).set (k - 1 - i) (n / 256 ^ i % 256) = frfil n k (i + 1) := by
  unfold frfil
  have e : k - i = (k - (i + 1)) + 1 := by omega
  rw [e, List.replicate_succ', List.append_assoc, List.set_append]
  rw [if_neg (by rw [List.length_replicate]; omega), List.length_replicate, show k - 1 - i - (k - (i + 1)) = 0 by omega]
  simp [frdig]
/-- The first octet of a number that is one; the header of it. -/
theorem frdig_head (s : Bool) (n : Nat) (h : n < frmod s) : ∃ y, (frdig n (frsz s))[0]? = some y ∧ y < 16 ∧ ∀ b e, (frdig n (frsz s)).set 0 (frtop b e + y) = frhead s b e n := by
  cases s
  · simp [frmod] at h
    refine ⟨0, ?_, by omega, fun b e => ?_⟩
    · simp [frdig, frsz]
      omega
    · simp [frdig, frsz, frhead]
      omega
  · simp [frmod] at h
    refine ⟨n / 256, ?_, by omega, fun b e => ?_⟩
    · simp [frdig, frsz]
      omega
    · simp [frdig, frsz, frhead]

/-- Does the piece at place k of n stand rightly? -/
def frwhB (n k : Nat) (p : Pc) : Bool := (p.b == decide (k = 0)) && (p.e == decide (k + 1 = n))
def frwhR (n : Nat) : Nat → List Pc → Bool
  | _, [] => true
  | k, p :: t => frwhB n k p && frwhR n (k + 1) t
def frwhole (l : List Pc) : Bool := frwhR l.length 0 l
def frfoR (s : Bool) : Nat → List Pc → Bool
  | _, [] => true
  | x, p :: t => decide (p.n = (x : Int)) && frfoR s ((x + 1) % frmod s) t
def frfollow (s : Bool) (l : List Pc) : Bool := frright s (l.headD pc0).n && frfoR s (l.headD pc0).n.toNat l
def frjoin (l : List Pc) : List Nat := (l.map Pc.d).flatten
/-- What Glue answers. -/
def frglueE (s : Bool) (l : List Pc) : Nat := if l.length = 0 then 13 else if frwhole l then (if frfollow s l then 0 else 14) else 4
def frglueA (s : Bool) (l : List Pc) : List Nat := if frglueE s l = 0 then frjoin l else []

theorem frwhR_iff (n : Nat) : ∀ (l : List Pc) (k : Nat), frwhR n k l = true ↔ ∀ (i : Nat) (p : Pc), l[i]? = some p → frwhB n (k + i) p = true
  | [], k => by simp [frwhR]
  | p :: t, k => by
    rw [frwhR, Bool.and_eq_true, frwhR_iff n t (k + 1)]
    constructor
    · rintro ⟨h1, h2⟩ i q hq
      cases i with
      | zero => injection hq with hq; subst hq; exact h1
      | succ i => have := h2 i q hq; rwa [show k + 1 + i = k + (i + 1) by omega] at this
    · intro h
      exact ⟨h 0 p rfl, fun i q hq => by have := h (i + 1) q hq; rwa [show k + (i + 1) = k + 1 + i by omega] at this⟩
theorem frfoR_adj (s : Bool) : ∀ (l : List Pc) (x i : Nat) (p q : Pc), frfoR s x l = true → l[i]? = some p → l[i + 1]? = some q → q.n = (p.n + 1) % (frmod s : Int)
  | [], _, _, _, _, _, hp, _ => by simp at hp
  | a :: t, x, 0, p, q, h, hp, hq => by
    rw [frfoR, Bool.and_eq_true] at h
    injection hp with hp
    subst hp
    have h1 := of_decide_eq_true h.1
    cases t with
    | nil => simp at hq
    | cons c t =>
      injection hq with hq
      subst hq
      have h2 := h.2
      rw [frfoR, Bool.and_eq_true] at h2
      rw [of_decide_eq_true h2.1, h1, Int.natCast_emod]
      rfl
  | a :: t, x, i + 1, p, q, h, hp, hq => by
    rw [frfoR, Bool.and_eq_true] at h
    exact frfoR_adj s t _ i p q h.2 hp hq
theorem frfoR_of (s : Bool) : ∀ (l : List Pc) (x : Nat), (∀ (i : Nat) (p : Pc), l[i]? = some p → p.n = (((x + i) % frmod s : Nat) : Int)) → x < frmod s → frfoR s x l = true
  | [], _, _, _ => rfl
  | a :: t, x, h, hx => by
    rw [frfoR, Bool.and_eq_true]
    refine ⟨decide_eq_true ?_, frfoR_of s t _ (fun i p hp => ?_) (Nat.mod_lt _ (frmod_pos s))⟩
    · have := h 0 a rfl
      rwa [Nat.add_zero, Nat.mod_eq_of_lt hx] at this
    · rw [h (i + 1) p hp, Nat.mod_add_mod, show x + (i + 1) = x + 1 + i by omega]
theorem frglue_ok {s : Bool} {l : List Pc} (h : frglueE s l = 0) : l.length ≠ 0 ∧ frwhole l = true ∧ frfollow s l = true := by
  unfold frglueE at h
  split at h
  · cases h
  · split at h
    · split at h
      · rename_i h1 h2 h3; exact ⟨h1, h2, h3⟩
      · cases h
    · cases h
theorem frglue_adj {s : Bool} {l : List Pc} (h : frglueE s l = 0) {i : Nat} {p q : Pc} (hp : l[i]? = some p) (hq : l[i + 1]? = some q) : q.n = (p.n + 1) % (frmod s : Int) := by
  have h3 := (frglue_ok h).2.2
  unfold frfollow at h3
  rw [Bool.and_eq_true] at h3
  exact frfoR_adj s l _ i p q h3.2 hp hq
theorem frglue_at {s : Bool} {l : List Pc} (h : frglueE s l = 0) {i : Nat} {p : Pc} (hp : l[i]? = some p) : p.b = decide (i = 0) ∧ p.e = decide (i + 1 = l.length) := by
  have h2 := (frwhR_iff _ l 0).1 (frglue_ok h).2.1 i p hp
  unfold frwhB at h2
  rw [Nat.zero_add, Bool.and_eq_true] at h2
  exact ⟨by simpa using h2.1, by simpa using h2.2⟩

/-- How many pieces a packet of n octets has, if each has at most m. -/
def frcnt (m n : Nat) : Nat := (max n 1 - 1) / m + 1
def frchk (m : Nat) (l : List Nat) (k : Nat) : List Nat := (l.drop (k * m)).take m
def frnum (s : Bool) (f k : Nat) : Nat := (f + k) % frmod s
def frpc (s : Bool) (f m : Nat) (l : List Nat) (k : Nat) : Pc := ⟨decide (k = 0), decide (k + 1 = frcnt m l.length), (frnum s f k : Int), frchk m l k⟩
def frpcs (s : Bool) (f m : Nat) (l : List Nat) : List Pc := (List.range (frcnt m l.length)).map (frpc s f m l)
/-- The same, ahead of the marks for the first and the last. -/
def frbare (s : Bool) (f m : Nat) (l : List Nat) (k : Nat) : Pc := ⟨false, false, (frnum s f k : Int), frchk m l k⟩
theorem frpcs_len (s : Bool) (f m : Nat) (l : List Nat) : (frpcs s f m l).length = frcnt m l.length := by simp [frpcs]
theorem frcnt_le (m n : Nat) (hn : 0 < n) : frcnt m n ≤ n := by
  unfold frcnt
  have := Nat.div_le_self (max n 1 - 1) m
  omega
theorem frcnt_at {m n k : Nat} (h1 : k * m ≤ max n 1 - 1) (h2 : max n 1 - 1 < (k + 1) * m) : frcnt m n = k + 1 := by
  unfold frcnt
  have := Nat.div_eq_of_lt_le h1 h2
  omega
theorem frcnt_hi (m n : Nat) (hm : 0 < m) : n ≤ frcnt m n * m := by
  unfold frcnt
  have h := Nat.lt_div_mul_add hm (a := max n 1 - 1)
  rw [Nat.add_mul]
  omega
theorem frcnt_lo {m n k : Nat} (h : k < frcnt m n) : k * m ≤ max n 1 - 1 := by
  unfold frcnt at h
  exact Nat.le_trans (Nat.mul_le_mul_right m (by omega : k ≤ (max n 1 - 1) / m)) (Nat.div_mul_le_self _ _)
theorem frchk_flat (m : Nat) (l : List Nat) : ∀ k, ((List.range k).map (frchk m l)).flatten = l.take (k * m)
  | 0 => by simp
  | k + 1 => by
    rw [List.range_succ, List.map_append, List.flatten_append, frchk_flat m l k]
    simp only [List.map_cons, List.map_nil, List.flatten_cons, List.flatten_nil, List.append_nil]
    rw [frchk, Nat.add_mul, Nat.one_mul, List.take_add]
theorem frpcs_join (s : Bool) (f m : Nat) (l : List Nat) (hm : 0 < m) : frjoin (frpcs s f m l) = l := by
  unfold frjoin frpcs
  rw [List.map_map]
  have e : (Pc.d ∘ frpc s f m l) = frchk m l := rfl
  rw [e, frchk_flat, List.take_of_length_le (frcnt_hi m l.length hm)]
theorem frpcs_get {s : Bool} {f m : Nat} {l : List Nat} {i : Nat} {p : Pc} (h : (frpcs s f m l)[i]? = some p) : i < frcnt m l.length ∧ p = frpc s f m l i := by
  unfold frpcs at h
  rw [List.getElem?_map] at h
  obtain ⟨j, hj, rfl⟩ := Option.map_eq_some_iff.1 h
  have hi : i < frcnt m l.length := by have := (List.getElem?_eq_some_iff.1 hj).1; simpa using this
  rw [List.getElem?_range hi] at hj
  injection hj with hj
  exact ⟨hi, by rw [hj]⟩
theorem frpcs_at (s : Bool) (f m : Nat) (l : List Nat) {i : Nat} (h : i < frcnt m l.length) : (frpcs s f m l)[i]? = some (frpc s f m l i) := by
  unfold frpcs
  rw [List.getElem?_map, List.getElem?_range h]
  rfl
theorem frpcs_glue (s : Bool) (f m : Nat) (l : List Nat) (hf : f < frmod s) : frglueE s (frpcs s f m l) = 0 := by
  have hl := frpcs_len s f m l
  have hc : 0 < frcnt m l.length := Nat.succ_pos _
  have h1 : frwhole (frpcs s f m l) = true := by
    refine (frwhR_iff _ _ 0).2 fun i p hp => ?_
    obtain ⟨hi, rfl⟩ := frpcs_get hp
    rw [hl, Nat.zero_add]
    simp [frwhB, frpc]
  have h0 : (frpcs s f m l).headD pc0 = frpc s f m l 0 := by
    have := frpcs_at s f m l hc
    cases hq : frpcs s f m l with
    | nil => rw [hq] at this; simp at this
    | cons a t => rw [hq] at this; injection this
  have hn : (frpc s f m l 0).n = (f : Int) := by show ((frnum s f 0 : Nat) : Int) = f; unfold frnum; rw [Nat.add_zero, Nat.mod_eq_of_lt hf]
  have h2 : frfollow s (frpcs s f m l) = true := by
    unfold frfollow
    rw [h0, hn, Bool.and_eq_true]
    refine ⟨frright_iff.2 ⟨by omega, by omega⟩, frfoR_of s _ _ (fun i p hp => ?_) ?_⟩
    · obtain ⟨hi, rfl⟩ := frpcs_get hp
      rfl
    · simpa using hf
  unfold frglueE
  rw [if_neg (by omega), if_pos h1, if_pos h2]
theorem frglueA_pcs (s : Bool) (f m : Nat) (l : List Nat) (hf : f < frmod s) (hm : 0 < m) : frglueA s (frpcs s f m l) = l := by
  unfold frglueA
  rw [if_pos (frpcs_glue s f m l hf), frpcs_join s f m l hm]

/-- What Split answers: of at most 2000 octets. -/
def frsplE (s : Bool) (f m : Int) : Nat := if m < 1 then 1 else if frright s f then 0 else 5
def frsplA (s : Bool) (f m : Int) (l : List Nat) : List Pc := if frsplE s f m = 0 then frpcs s f.toNat m.toNat l else []
def frsplN (s : Bool) (f m : Int) (l : List Nat) : Nat := if frsplE s f m = 0 then frnum s f.toNat (frcnt m.toNat l.length) else 0

/-- A piece that lacks, or is told twice, or is out of its order. -/
theorem frloss_less (s : Bool) (f m : Nat) (l : List Nat) (k : Nat) (hk : k < frcnt m l.length) : frglueE s ((frpcs s f m l).take k ++ (frpcs s f m l).drop (k + 1)) ≠ 0 := by
  intro h
  have hl := frpcs_len s f m l
  have len : ((frpcs s f m l).take k ++ (frpcs s f m l).drop (k + 1)).length = frcnt m l.length - 1 := by rw [List.length_append, List.length_take, List.length_drop]; omega
  have h0 := (frglue_ok h).1
  by_cases h1 : k = 0
  · subst h1
    have a0 : ((frpcs s f m l).take 0 ++ (frpcs s f m l).drop (0 + 1))[0]? = some (frpc s f m l 1) := by
      rw [List.take_zero, List.nil_append, List.getElem?_drop]
      exact frpcs_at s f m l (by omega)
    have := (frglue_at h a0).1
    simp [frpc] at this
  · by_cases h2 : k + 1 = frcnt m l.length
    · have a0 : ((frpcs s f m l).take k ++ (frpcs s f m l).drop (k + 1))[k - 1]? = some (frpc s f m l (k - 1)) := by
        rw [List.getElem?_append_left (by rw [List.length_take]; omega), List.getElem?_take, if_pos (by omega)]
        exact frpcs_at s f m l (by omega)
      have := (frglue_at h a0).2
      rw [len, show (frpc s f m l (k - 1)).e = decide (k - 1 + 1 = frcnt m l.length) from rfl] at this
      simp at this
      omega
    · have a0 : ((frpcs s f m l).take k ++ (frpcs s f m l).drop (k + 1))[k - 1]? = some (frpc s f m l (k - 1)) := by
        rw [List.getElem?_append_left (by rw [List.length_take]; omega), List.getElem?_take, if_pos (by omega)]
        exact frpcs_at s f m l (by omega)
      have a1 : ((frpcs s f m l).take k ++ (frpcs s f m l).drop (k + 1))[k - 1 + 1]? = some (frpc s f m l (k + 1)) := by
        rw [List.getElem?_append_right (by rw [List.length_take]; omega), List.length_take, List.getElem?_drop, show k + 1 + (k - 1 + 1 - min k (frpcs s f m l).length) = k + 1 by omega]
        exact frpcs_at s f m l (by omega)
      have := frglue_adj h a0 a1
      simp only [frpc, frnum] at this
      cases s
      · simp [frmod] at this
        omega
      · simp [frmod] at this
        omega
theorem frloss_twice (s : Bool) (f m : Nat) (l : List Nat) (k : Nat) (hk : k < frcnt m l.length) : frglueE s ((frpcs s f m l).take (k + 1) ++ (frpcs s f m l).drop k) ≠ 0 := by
  intro h
  have hl := frpcs_len s f m l
  have a0 : ((frpcs s f m l).take (k + 1) ++ (frpcs s f m l).drop k)[k]? = some (frpc s f m l k) := by
    rw [List.getElem?_append_left (by rw [List.length_take]; omega), List.getElem?_take, if_pos (by omega)]
    exact frpcs_at s f m l hk
  have a1 : ((frpcs s f m l).take (k + 1) ++ (frpcs s f m l).drop k)[k + 1]? = some (frpc s f m l k) := by
    rw [List.getElem?_append_right (by rw [List.length_take]; omega), List.length_take, List.getElem?_drop, show k + (k + 1 - min (k + 1) (frpcs s f m l).length) = k by omega]
    exact frpcs_at s f m l hk
  have := frglue_adj h a0 a1
  simp only [frpc, frnum] at this
  cases s
  · simp [frmod] at this
    omega
  · simp [frmod] at this
    omega
theorem frloss_turn (s : Bool) (f m : Nat) (l : List Nat) (k : Nat) (hk : k < frcnt m l.length) (h0 : 0 < k) : frglueE s (((frpcs s f m l).set (k - 1) (frpc s f m l k)).set k (frpc s f m l (k - 1))) = 4 ∨ frglueE s (((frpcs s f m l).set (k - 1) (frpc s f m l k)).set k (frpc s f m l (k - 1))) = 14 := by
  have hl := frpcs_len s f m l
  have hne : frglueE s (((frpcs s f m l).set (k - 1) (frpc s f m l k)).set k (frpc s f m l (k - 1))) ≠ 0 := by
    intro h
    have a0 : (((frpcs s f m l).set (k - 1) (frpc s f m l k)).set k (frpc s f m l (k - 1)))[k - 1]? = some (frpc s f m l k) := by
      rw [List.getElem?_set_ne (by omega), List.getElem?_set_self (by omega)]
    have a1 : (((frpcs s f m l).set (k - 1) (frpc s f m l k)).set k (frpc s f m l (k - 1)))[k - 1 + 1]? = some (frpc s f m l (k - 1)) := by
      rw [show k - 1 + 1 = k by omega, List.getElem?_set_self (by rw [List.length_set]; omega)]
    have := frglue_adj h a0 a1
    simp only [frpc, frnum] at this
    cases s
    · simp [frmod] at this
      omega
    · simp [frmod] at this
      omega
  unfold frglueE at hne ⊢
  rw [if_neg (by rw [List.length_set, List.length_set]; omega)] at hne ⊢
  split
  · split
    · rename_i h1 h2
      rw [if_pos h1, if_pos h2] at hne
      exact absurd rfl hne
    · exact .inr rfl
  · exact .inl rfl
end Go.Proofs.YtamdaepeogmboaaDoor
