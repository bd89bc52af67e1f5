
/-
  Layer 14's answers as mathematics: what is known of options, numbers of octets, configs settled. No condition.
-/
import Derived.Test.YtppblnpcbiochaaTlvM
import Derived.Test.YtppblnpcbiochaaCfg
namespace Go.Proofs.Ytppblnpcbiochaa

/-- The options of a protocol whose data can't be of just any length: type, least, most; the last that is laid first. -/
abbrev Tab := List (Nat × Nat × Nat)
def tabB (p : Nat) : Tab :=
  if p = 49185 then [(9, 1, 1), (8, 0, 0), (7, 0, 0), (5, 4, 4), (4, 2, 253), (3, 2, 253), (2, 4, 4), (1, 2, 2)]
  else if p = 32801 then [(132, 4, 4), (131, 4, 4), (130, 4, 4), (129, 4, 4), (3, 4, 4), (2, 2, 253)]
  else if p = 32855 then [(2, 2, 253), (1, 8, 8)] else []
/-- What a look-up in it gives: least, most, is it there? -/
def seekB (T : Tab) (t : Nat) : Nat × Nat × Bool := (T.find? fun x => decide (x.1 = t)).elim (0, 0, false) fun x => (x.2.1, x.2.2, true)
/-- What Size answers. -/
def spanB (T : Tab) (t : Nat) : Nat × Nat := (T.find? fun x => decide (x.1 = t)).elim (0, 253) fun x => (x.2.1, x.2.2)
theorem span_yes {T : Tab} {t a b : Nat} (h : seekB T t = (a, b, true)) : spanB T t = (a, b) := by
  unfold seekB at h
  unfold spanB
  cases hf : T.find? (fun x => decide (x.1 = t)) <;> rw [hf] at h <;> simp at h ⊢
  exact ⟨h.1, h.2⟩
theorem span_no {T : Tab} {t a b : Nat} (h : seekB T t = (a, b, false)) : spanB T t = (0, 253) := by
  unfold seekB at h
  unfold spanB
  cases hf : T.find? (fun x => decide (x.1 = t)) <;> rw [hf] at h <;> simp at h ⊢
/-- What each row of it keeps. -/
theorem span_le (p t : Nat) : (spanB (tabB p) t).1 ≤ 253 ∧ (spanB (tabB p) t).2 ≤ 253 := by
  unfold spanB
  cases hf : (tabB p).find? (fun x => decide (x.1 = t)) with
  | none => simp
  | some x =>
    have hm := List.mem_of_find?_eq_some hf
    have key : ∀ y ∈ tabB p, y.2.1 ≤ 253 ∧ y.2.2 ≤ 253 := by
      unfold tabB
      split
      · decide
      · split
        · decide
        · split <;> decide
    exact key x hm
/-- May it be? -/
def okO (T : Tab) (o : Nat × List Nat) : Bool := decide ((spanB T o.1).1 ≤ o.2.length) && decide (o.2.length ≤ (spanB T o.1).2)
/-- May all be? -/
def okL (T : Tab) (l : List (Nat × List Nat)) : Bool := l.all (okO T)
theorem okL_take {T : Tab} {l : List (Nat × List Nat)} {k : Nat} {x : Nat × List Nat} (h : okL T (l.take k) = true) (hx : l[k]? = some x) (ho : okO T x = true) : okL T (l.take (k + 1)) = true := by
  unfold okL at h ⊢
  rw [List.take_add_one, hx, Option.toList_some, List.all_append, h]
  simp [ho]
theorem okL_no {T : Tab} {l : List (Nat × List Nat)} {k : Nat} {x : Nat × List Nat} (hx : l[k]? = some x) (ho : okO T x = false) : okL T l = false := by
  rw [Bool.eq_false_iff]
  intro h
  have := List.all_eq_true.1 h x (List.mem_of_getElem? hx)
  rw [ho] at this
  cases this
theorem okL_at {T : Tab} {l : List (Nat × List Nat)} {k : Nat} {x : Nat × List Nat} (h : okL T l = true) (hx : l[k]? = some x) : okO T x = true := List.all_eq_true.1 h x (List.mem_of_getElem? hx)
theorem okL_app (T : Tab) (a b : List (Nat × List Nat)) : okL T (a ++ b) = (okL T a && okL T b) := by unfold okL; exact List.all_append
theorem okO_yes {T : Tab} {o : Nat × List Nat} (h : okO T o = true) : (spanB T o.1).1 ≤ o.2.length ∧ o.2.length ≤ (spanB T o.1).2 := by
  unfold okO at h
  simpa using h

/-- A number of octets. -/
def valN (l : List Nat) : Nat := l.foldl (fun n c => n * 256 + c) 0
/-- An option's number, as 64 bits have it. -/
def valB (l : List Nat) : Nat := valN l % 18446744073709551616
theorem valN_snoc {l : List Nat} {k x : Nat} (hx : l[k]? = some x) : valN (l.take (k + 1)) = valN (l.take k) * 256 + x := by
  unfold valN
  rw [List.take_add_one, hx, Option.toList_some, List.foldl_append]
  rfl
theorem valB_lt (l : List Nat) : valB l < 18446744073709551616 := Nat.mod_lt _ (by omega)
theorem valB_snoc {l : List Nat} {k x : Nat} (hx : l[k]? = some x) : valB (l.take (k + 1)) = (valB (l.take k) * 256 + x) % 18446744073709551616 := by
  unfold valB
  rw [valN_snoc hx]
  omega
theorem fold_from (l : List Nat) : ∀ a, l.foldl (fun n c => n * 256 + c) a = a * 256 ^ l.length + valN l := by
  induction l with
  | nil => intro a; simp [valN]
  | cons x l ih =>
    intro a
    unfold valN
    rw [List.foldl_cons, List.foldl_cons, ih, ih, List.length_cons, Nat.pow_succ, Nat.zero_mul, Nat.zero_add]
    rw [Nat.add_mul, Nat.mul_assoc, Nat.mul_comm 256 (256 ^ l.length)]
    omega
theorem valN_cons (x : Nat) (l : List Nat) : valN (x :: l) = x * 256 ^ l.length + valN l := by
  have := fold_from l x
  unfold valN at this ⊢
  rw [List.foldl_cons, Nat.zero_mul, Nat.zero_add]
  exact this
theorem valN_lt {l : List Nat} (h : By l) : valN l < 256 ^ l.length := by
  induction l with
  | nil => simp [valN]
  | cons x l ih =>
    rw [valN_cons, List.length_cons, Nat.pow_succ]
    have h1 := ih (fun y hy => h y (List.mem_cons_of_mem _ hy))
    have h2 : x < 256 := h x (List.mem_cons_self ..)
    have h3 : x * 256 ^ l.length ≤ 255 * 256 ^ l.length := Nat.mul_le_mul_right _ (by omega)
    omega
theorem valB_small {l : List Nat} (h : By l) (k : Nat) (hk : l.length = k) (h8 : k ≤ 8) : valB l = valN l ∧ valB l < 256 ^ k := by
  have h1 := valN_lt h
  rw [hk] at h1
  have h2 : 256 ^ k ≤ 256 ^ 8 := Nat.pow_le_pow_right (by omega) h8
  have h3 : (256 : Nat) ^ 8 = 18446744073709551616 := by decide
  unfold valB
  rw [Nat.mod_eq_of_lt (by omega)]
  exact ⟨rfl, h1⟩
/-- The lowest k octets of a number, the high one first. -/
def numB (n : Nat) : Nat → List Nat
  | 0 => []
  | k + 1 => n / 256 ^ k % 256 :: numB n k
theorem num_len (n k : Nat) : (numB n k).length = k := by induction k <;> simp [numB, *]
theorem num_by (n k : Nat) : By (numB n k) := by
  induction k with
  | zero => intro x hx; cases hx
  | succ k ih =>
    intro x hx
    rcases List.mem_cons.1 hx with rfl | h
    · exact Nat.mod_lt _ (by omega)
    · exact ih x h
theorem num_val (n k : Nat) : valN (numB n k) = n % 256 ^ k := by
  induction k with
  | zero => simp [numB, valN, Nat.mod_one]
  | succ k ih =>
    rw [numB, valN_cons, num_len, ih, Nat.pow_succ]
    have := Nat.mod_mul (a := 256 ^ k) (b := 256) (x := n)
    rw [this, Nat.mul_comm]
    omega
theorem num_valB (n k : Nat) (hk : k ≤ 8) : valB (numB n k) = n % 256 ^ k := by
  rw [(valB_small (num_by n k) k (num_len n k) hk).1, num_val]
/-- What stands in Num's octets, i rounds done of k. -/
def filB (n k i : Nat) : List Nat := List.replicate (k - i) 0 ++ numB n i
theorem fil_zero (n k : Nat) : filB n k 0 = List.replicate k 0 := by simp [filB, numB]
theorem fil_all (n k : Nat) : filB n k k = numB n k := by simp [filB]
theorem fil_len (n k i : Nat) (h : i ≤ k) : (filB n k i).length = k := by simp [filB, num_len]; omega
theorem fil_set (n k i : Nat) (h : i < k) : (filB n k i).set (k - 1 - i) (n / 256 ^ i % 256) = filB n k (i + 1) := by
  unfold filB
  have e : k - i = (k - (i + 1)) + 1 := by omega
  rw [e, List.replicate_succ', List.append_assoc, List.set_append]
  rw [if_neg (by rw [List.length_replicate]; omega), List.length_replicate, show k - 1 - i - (k - (i + 1)) = 0 by omega]
  simp [numB]

/-- A config, as an option that may be asks for it. -/
def grantB (c : Cf) (o : Nat × List Nat) : Cf :=
  if o.1 = 1 then { c with mru := (valB o.2 : Int) }
  else if o.1 = 2 then { c with send := valB o.2 }
  else if o.1 = 7 then { c with pfc := true }
  else if o.1 = 8 then { c with acfc := true }
  else if o.1 = 9 then { c with wide := decide (valB o.2 / 4 % 2 = 1) }
  else c
def setB (c : Cf) (l : List (Nat × List Nat)) : Cf := l.foldl grantB c
theorem set_snoc {c : Cf} {l : List (Nat × List Nat)} {k : Nat} {x : Nat × List Nat} (hx : l[k]? = some x) : setB c (l.take (k + 1)) = grantB (setB c (l.take k)) x := by
  unfold setB
  rw [List.take_add_one, hx, Option.toList_some, List.foldl_append]
  rfl
theorem set_app (c : Cf) (a b : List (Nat × List Nat)) : setB c (a ++ b) = setB (setB c a) b := by unfold setB; exact List.foldl_append
theorem grant_keeps (c : Cf) (o : Nat × List Nat) : (grantB c o).sync = c.sync ∧ (grantB c o).recv = c.recv := by
  unfold grantB
  repeat' split
  all_goals exact ⟨rfl, rfl⟩
theorem set_keeps (c : Cf) (l : List (Nat × List Nat)) : (setB c l).sync = c.sync ∧ (setB c l).recv = c.recv := by
  induction l generalizing c with
  | nil => exact ⟨rfl, rfl⟩
  | cons o l ih =>
    have h := ih (grantB c o)
    have g := grant_keeps c o
    exact ⟨h.1.trans g.1, h.2.trans g.2⟩
/-- No config. -/
def cf0 : Cf := ⟨false, false, false, false, 0, 0, 0⟩
/-- What Settle answers. -/
def ansB (c : Cf) (l : List (Nat × List Nat)) : Cf × Int :=
  if okL (tabB 49185) l then (if chk (setB c l).mru = 0 then (setB c l, 0) else (cf0, chk (setB c l).mru)) else (cf0, 4)
theorem ans_ok {c : Cf} {l : List (Nat × List Nat)} {x : Cf} (h : ansB c l = (x, 0)) : okL (tabB 49185) l = true ∧ x = setB c l := by
  unfold ansB at h
  split at h
  · rename_i h1
    split at h
    · exact ⟨h1, (Prod.mk.inj h).1.symm⟩
    · rename_i h2
      exact absurd (Prod.mk.inj h).2 h2
  · simp at h
theorem ans_err {c : Cf} {l : List (Nat × List Nat)} {x : Cf} {k : Int} (h : ansB c l = (x, k)) (hk : k ≠ 0) : x = cf0 := by
  unfold ansB at h
  split at h
  · split at h
    · exact absurd (Prod.mk.inj h).2.symm hk
    · exact (Prod.mk.inj h).1.symm
  · exact (Prod.mk.inj h).1.symm
theorem ans_cases (c : Cf) (l : List (Nat × List Nat)) : (ansB c l).2 = 0 ∨ (ansB c l).2 = 4 ∨ (ansB c l).2 = 5 := by
  unfold ansB
  split
  · split
    · exact .inl rfl
    · rcases chk_cases (setB c l).mru with h | h <;> simp [h]
  · exact .inr (.inl rfl)
theorem ans_app {c x : Cf} {a b : List (Nat × List Nat)} (h : ansB c a = (x, 0)) : ansB c (a ++ b) = ansB x b := by
  obtain ⟨h1, rfl⟩ := ans_ok h
  unfold ansB
  rw [okL_app, h1, Bool.true_and, set_app]
end Go.Proofs.Ytppblnpcbiochaa
