/-
  Layer 14's answers as mathematics: what is known of options, numbers of octets, configs settled. No condition. A map of spans in memory; what known, sought and Size answer, and the document's Size. No condition beyond: a protocol below 2^16, a type below 256. What known, sought and Size answer, and the document's Size. No condition beyond: a protocol below 2^16, a type below 256. What the document's Size answers. No condition. What tells of an option whether it may not be: wrong, its closure, the library's search by it, Right; the document's Right. No condition beyond: types below 256, lists of at most 2^38 options. What Value and Num answer, and the document's Value. No condition beyond: data of at most 2^38 octets, sizes from 0 to 8. What Put and Get answer, and the document's. No condition beyond: lists of at most 2^36 options and octets, at most 2^30 octets read. What Get answers, the program's and the document's, with the blocks that options lie in. No condition beyond: at most 2^30 octets.
-/
import Derived.Test.YtmhjnghomihjlaaGTlv
import Derived.Test.YtmhjnghomihjlaaGWord
import Derived.Maps.OwnSet
import Derived.Laws.Bits64b
import Derived.Laws.ShiftsVarLaws
namespace Go.Proofs.Ytmhjnghomihjlaa
section
set_option maxRecDepth 4000

/-- The options of a protocol whose data can't be of just any length: type, least, most; the last that is laid first. -/
abbrev Tab := List (Nat × Nat × Nat)
def tabB (p : Nat) : Tab :=
  if p = 49185 then [(9, 1, 1), (8, 0, 0), (7, 0, 0), (5, 4, 4), (4, 2, 253), (3, 2, 253), (2, 4, 4), (1, 2, 2)]
  else if p = 32801 then [(132, 4, 4), (131, 4, 4), (130, 4, 4), (129, 4, 4), (3, 4, 4), (2, 2, 253)]
  else if p = 32855 then [(2, 2, 253), (1, 8, 8)] else []
/-- What a look-up in it gives: least, most, is it there? -/
def seekB (T : Tab) (t : Nat) : Nat × Nat × Bool := (T.find? fun x => decide (x.1 = t)).elim (0, 0, false) fun x => (x.2.1, x.2.2, true)
/-- What Size answers. -/
def spanB (T : Tab) (t : Nat) : Nat × Nat := (T.find? fun x => decide (x.1 = t)).elim (0, 253) fun x => (x.2.1, x.2.2)
theorem span_yes {T : Tab} {t a b : Nat} (h : seekB T t = (a, b, true)) : spanB T t = (a, b) := by
  unfold seekB at h
  unfold spanB
  cases hf : T.find? (fun x => decide (x.1 = t)) <;> rw [hf] at h <;> simp at h ⊢
  exact ⟨h.1, h.2⟩
theorem span_no {T : Tab} {t a b : Nat} (h : seekB T t = (a, b, false)) : spanB T t = (0, 253) := by
  unfold seekB at h
  unfold spanB
  cases hf : T.find? (fun x => decide (x.1 = t)) <;> rw [hf] at h <;> simp at h ⊢
/-- What each row of it keeps. -/
theorem span_le (p t : Nat) : (spanB (tabB p) t).1 ≤ 253 ∧ (spanB (tabB p) t).2 ≤ 253 := by
  unfold spanB
  cases hf : (tabB p).find? (fun x => decide (x.1 = t)) with
  | none => simp
  | some x =>
    have hm := List.mem_of_find?_eq_some hf
    have key : ∀ y ∈ tabB p, y.2.1 ≤ 253 ∧ y.2.2 ≤ 253 := by
      unfold tabB
      split
      · decide
      · split
        · decide
        · split <;> decide
    exact key x hm
/-- May it be? -/
def okO (T : Tab) (o : Nat × List Nat) : Bool := decide ((spanB T o.1).1 ≤ o.2.length) && decide (o.2.length ≤ (spanB T o.1).2)
/-- May all be? -/
def okL (T : Tab) (l : List (Nat × List Nat)) : Bool := l.all (okO T)
theorem okL_take {T : Tab} {l : List (Nat × List Nat)} {k : Nat} {x : Nat × List Nat} (h : okL T (l.take k) = true) (hx : l[k]? = some x) (ho : okO T x = true) : okL T (l.take (k + 1)) = true := by
  unfold okL at h ⊢
  rw [List.take_add_one, hx, Option.toList_some, List.all_append, h]
  simp [ho]
theorem okL_no {T : Tab} {l : List (Nat × List Nat)} {k : Nat} {x : Nat × List Nat} (hx : l[k]? = some x) (ho : okO T x = false) : okL T l = false := by
  rw [Bool.eq_false_iff]
  intro h
  have := List.all_eq_true.1 h x (List.mem_of_getElem? hx)
  rw [ho] at this
  cases this
theorem okL_at {T : Tab} {l : List (Nat × List Nat)} {k : Nat} {x : Nat × List Nat} (h : okL T l = true) (hx : l[k]? = some x) : okO T x = true := List.all_eq_true.1 h x (List.mem_of_getElem? hx)
theorem okL_app (T : Tab) (a b : List (Nat × List Nat)) : okL T (a ++ b) = (okL T a && okL T b) := by unfold okL; exact List.all_append
theorem okO_yes {T : Tab} {o : Nat × List Nat} (h : okO T o = true) : (spanB T o.1).1 ≤ o.2.length ∧ o.2.length ≤ (spanB T o.1).2 := by
  unfold okO at h
  simpa using h

/-- A number of octets. -/
def valN (l : List Nat) : Nat := l.foldl (fun n c => n * 256 + c) 0
/-- An option's number, as 64 bits have it. -/
def valB (l : List Nat) : Nat := valN l % 18446744073709551616
theorem valN_snoc {l : List Nat} {k x : Nat} (hx : l[k]? = some x) : valN (l.take (k + 1)) = valN (l.take k) * 256 + x := by
  unfold valN
  rw [List.take_add_one, hx, Option.toList_some, List.foldl_append]
  rfl
theorem valB_lt (l : List Nat) : valB l < 18446744073709551616 := Nat.mod_lt _ (by omega)
theorem valB_snoc {l : List Nat} {k x : Nat} (hx : l[k]? = some x) : valB (l.take (k + 1)) = (valB (l.take k) * 256 + x) % 18446744073709551616 := by
  unfold valB
  rw [valN_snoc hx]
  omega
theorem fold_from (l : List Nat) : ∀ a, l.foldl (fun n c => n * 256 + c) a = a * 256 ^ l.length + valN l := by
  induction l with
  | nil => intro a; simp [valN]
  | cons x l ih =>
    intro a
    unfold valN
    rw [List.foldl_cons, List.foldl_cons, ih, ih, List.length_cons, Nat.pow_succ, Nat.zero_mul, Nat.zero_add]
    rw [Nat.add_mul, Nat.mul_assoc, Nat.mul_comm 256 (256 ^ l.length)]
    omega
theorem valN_cons (x : Nat) (l : List Nat) : valN (x :: l) = x * 256 ^ l.length + valN l := by
  have := fold_from l x
  unfold valN at this ⊢
  rw [List.foldl_cons, Nat.zero_mul, Nat.zero_add]
  exact this
theorem valN_lt {l : List Nat} (h : By l) : valN l < 256 ^ l.length := by
  induction l with
  | nil => simp [valN]
  | cons x l ih =>
    rw [valN_cons, List.length_cons, Nat.pow_succ]
    have h1 := ih (fun y hy => h y (List.mem_cons_of_mem _ hy))
    have h2 : x < 256 := h x (List.mem_cons_self ..)
    have h3 : x * 256 ^ l.length ≤ 255 * 256 ^ l.length := Nat.mul_le_mul_right _ (by omega)
    omega
theorem valB_small {l : List Nat} (h : By l) (k : Nat) (hk : l.length = k) (h8 : k ≤ 8) : valB l = valN l ∧ valB l < 256 ^ k := by
  have h1 := valN_lt h
  rw [hk] at h1
  have h2 : 256 ^ k ≤ 256 ^ 8 := Nat.pow_le_pow_right (by omega) h8
  have h3 : (256 : Nat) ^ 8 = 18446744073709551616 := by decide
  unfold valB
  rw [Nat.mod_eq_of_lt (by omega)]
  exact ⟨rfl, h1⟩
/-- The lowest k octets of a number, the high one first. -/
def numB (n : Nat) : Nat → List Nat
  | 0 => []
  | k + 1 => n / 256 ^ k % 256 :: numB n k
theorem num_len (n k : Nat) : (numB n k).length = k := by induction k <;> simp [numB, *]
theorem num_by (n k : Nat) : By (numB n k) := by
  induction k with
  | zero => intro x hx; cases hx
  | succ k ih =>
    intro x hx
    rcases List.mem_cons.1 hx with rfl | h
    · exact Nat.mod_lt _ (by omega)
    · exact ih x h
theorem num_val (n k : Nat) : valN (numB n k) = n % 256 ^ k := by
  induction k with
  | zero => simp [numB, valN, Nat.mod_one]
  | succ k ih =>
    rw [numB, valN_cons, num_len, ih, Nat.pow_succ]
    have := Nat.mod_mul (a := 256 ^ k) (b := 256) (x := n)
    rw [this, Nat.mul_comm]
    omega
theorem num_valB (n k : Nat) (hk : k ≤ 8) : valB (numB n k) = n % 256 ^ k := by
  rw [(valB_small (num_by n k) k (num_len n k) hk).1, num_val]
/-- What stands in Num's octets, i rounds done of k. -/
def filB (n k i : Nat) : List Nat := List.replicate (k - i) 0 ++ numB n i
theorem fil_zero (n k : Nat) : filB n k 0 = List.replicate k 0 := by simp [filB, numB]
theorem fil_all (n k : Nat) : filB n k k = numB n k := by simp [filB]
theorem fil_len (n k i : Nat) (h : i ≤ k) : (filB n k i).length = k := by simp [filB, num_len]; omega
theorem fil_set (n k i : Nat) (h : i < k) : (filB n k i).set (k - 1 - i) (n / 256 ^ i % 256) = filB n k (i + 1) := by
  unfold filB
  have e : k - i = (k - (i + 1)) + 1 := by omega
  rw [e, List.replicate_succ', List.append_assoc, List.set_append]
  rw [if_neg (by rw [List.length_replicate]; omega), List.length_replicate, show k - 1 - i - (k - (i + 1)) = 0 by omega]
  simp [numB]

/-- A config, as an option that may be asks for it. -/
def grantB (c : Cf) (o : Nat × List Nat) : Cf :=
  if o.1 = 1 then { c with mru := (valB o.2 : Int) }
  else if o.1 = 2 then { c with send := valB o.2 }
  else if o.1 = 7 then { c with pfc := true }
  else if o.1 = 8 then { c with acfc := true }
  else if o.1 = 9 then { c with wide := decide (valB o.2 / 4 % 2 = 1) }
  else c
def setB (c : Cf) (l : List (Nat × List Nat)) : Cf := l.foldl grantB c
theorem set_snoc {c : Cf} {l : List (Nat × List Nat)} {k : Nat} {x : Nat × List Nat} (hx : l[k]? = some x) : setB c (l.take (k + 1)) = grantB (setB c (l.take k)) x := by
  unfold setB
  rw [List.take_add_one, hx, Option.toList_some, List.foldl_append]
  rfl
theorem set_app (c : Cf) (a b : List (Nat × List Nat)) : setB c (a ++ b) = setB (setB c a) b := by unfold setB; exact List.foldl_append
theorem grant_keeps (c : Cf) (o : Nat × List Nat) : (grantB c o).sync = c.sync ∧ (grantB c o).recv = c.recv := by
  unfold grantB
  repeat' split
  all_goals exact ⟨rfl, rfl⟩
theorem set_keeps (c : Cf) (l : List (Nat × List Nat)) : (setB c l).sync = c.sync ∧ (setB c l).recv = c.recv := by
  induction l generalizing c with
  | nil => exact ⟨rfl, rfl⟩
  | cons o l ih =>
    have h := ih (grantB c o)
    have g := grant_keeps c o
    exact ⟨h.1.trans g.1, h.2.trans g.2⟩
/-- No config. -/
def cf0 : Cf := ⟨false, false, false, false, 0, 0, 0⟩
/-- What Settle answers. -/
def ansB (c : Cf) (l : List (Nat × List Nat)) : Cf × Int :=
  if okL (tabB 49185) l then (if chk (setB c l).mru = 0 then (setB c l, 0) else (cf0, chk (setB c l).mru)) else (cf0, 4)
theorem ans_ok {c : Cf} {l : List (Nat × List Nat)} {x : Cf} (h : ansB c l = (x, 0)) : okL (tabB 49185) l = true ∧ x = setB c l := by
  unfold ansB at h
  split at h
  · rename_i h1
    split at h
    · exact ⟨h1, (Prod.mk.inj h).1.symm⟩
    · rename_i h2
      exact absurd (Prod.mk.inj h).2 h2
  · simp at h
theorem ans_err {c : Cf} {l : List (Nat × List Nat)} {x : Cf} {k : Int} (h : ansB c l = (x, k)) (hk : k ≠ 0) : x = cf0 := by
  unfold ansB at h
  split at h
  · split at h
    · exact absurd (Prod.mk.inj h).2.symm hk
    · exact (Prod.mk.inj h).1.symm
  · exact (Prod.mk.inj h).1.symm
theorem ans_cases (c : Cf) (l : List (Nat × List Nat)) : (ansB c l).2 = 0 ∨ (ansB c l).2 = 4 ∨ (ansB c l).2 = 5 := by
  unfold ansB
  split
  · split
    · exact .inl rfl
    · rcases chk_cases (setB c l).mru with h | h <;> simp [h]
  · exact .inr (.inl rfl)
theorem ans_app {c x : Cf} {a b : List (Nat × List Nat)} (h : ansB c a = (x, 0)) : ansB c (a ++ b) = ansB x b := by
  obtain ⟨h1, rfl⟩ := ans_ok h
  unfold ansB
  rw [okL_app, h1, Bool.true_and, set_app]
end

section
set_option maxRecDepth 4000
open Go.RowKit Go.Maps

/-- How a span reads. -/
def spanE : Value → Option (DataW Unit × List MemPlace)
  | .agg ⟨[.int .i64 a, .int .i64 b]⟩ => some (.agg [.lit (.int .i64 a), .lit (.int .i64 b)], [])
  | _ => none
abbrev spanV (a b : Int) : Value := .agg #[.int .i64 a, .int .i64 b]
abbrev spanD (a b : Int) : DataW Unit := .agg [.lit (.int .i64 a), .lit (.int .i64 b)]
theorem spanE_mk (a b : Int) : spanE (spanV a b) = some (spanD a b, []) := rfl
theorem spanE_inv {v : Value} {a b : Int} {ps : List MemPlace} (h : spanE v = some (spanD a b, ps)) : v = spanV a b := by
  unfold spanE at h
  split at h
  · simp at h
    rw [h.1.1, h.1.2]
  · cases h
/-- What the map reads as. -/
def mapD : Tab → DataW Unit
  | [] => .map []
  | x :: r => (mapD r).put (.int .u8 (x.1 : Int)) (spanD (x.2.1 : Int) (x.2.2 : Int))
theorem mapD_is (T : Tab) : IsMap (mapD T) := by
  induction T with
  | nil => exact isMap_empty
  | cons x r ih => exact ih.put _ _
theorem key_is (t : Nat) : WideAt.IsKeyLit (.int .u8 (t : Int)) := by trivial
theorem key_ne {s t : Nat} (h : s ≠ t) : (Lit.int .u8 (t : Int)) ≠ (Lit.int .u8 (s : Int)) := by
  intro e
  injection e with _ e
  omega
theorem mapD_has (T : Tab) (t : Nat) : has (mapD T) (.int .u8 (t : Int)) = (seekB T t).2.2 := by
  induction T with
  | nil => rfl
  | cons x r ih =>
    unfold mapD
    by_cases h : x.1 = t
    · rw [← h, has_put_same (mapD_is r) (key_is _)]
      simp [seekB]
    · rw [has_put_other (key_ne h), ih]
      simp [seekB, h]
theorem mapD_at (T : Tab) (t : Nat) : (mapD T).atKey (.int .u8 (t : Int)) (spanD 0 0) = spanD ((seekB T t).1 : Int) ((seekB T t).2.1 : Int) := by
  induction T with
  | nil => rfl
  | cons x r ih =>
    unfold mapD
    by_cases h : x.1 = t
    · rw [← h, atKey_put_same (mapD_is r) (key_is _)]
      simp [seekB]
    · rw [atKey_put_other (key_ne h), ih]
      simp [seekB, h]

/-- Block b is such a map. -/
def Mb (w : World) (b : Nat) (T : Tab) : Prop := w.ownsMap Try.prog 5 spanE b T.length (mapD T)
/-- A map's value, a nil one too. -/
def Mp (w : World) (m : Option Nat) (T : Tab) : Prop := (m = none ∧ T = []) ∨ ∃ b, m = some b ∧ Mb w b T
theorem Mb.below {w w' : World} {b : Nat} {T : Tab} {B : Nat} (h : Mb w b T) (hb : Below B w w') (hB : b < B) : Mb w' b T := by
  obtain ⟨es, clock, h1, r⟩ := h
  exact ⟨es, clock, (hb.block b hB).trans h1, r⟩
theorem Mb.lt {w : World} {b : Nat} {T : Tab} (h : Mb w b T) : b < w.heap.size := World.ownsMap.lt h
theorem Mp.below {w w' : World} {m : Option Nat} {T : Tab} (h : Mp w m T) (hb : Below w.heap.size w w') : Mp w' m T :=
  h.imp id fun ⟨b, e, hm⟩ => ⟨b, e, hm.below hb hm.lt⟩
theorem Mb.made (w : World) : Mb (w.alloc (.map #[] 0)) w.heap.size [] := World.ownsMap_made _ _ _ _

theorem byte_keyed : Keyed Try.prog 5 := int_keyed Try.underlying5
theorem byte_wf {t : Nat} (h : t < 256) : (Lit.int .u8 (t : Int)).wf = true := by
  simp [Lit.wf, IntKind.min, IntKind.max, IntKind.signed, IntKind.bits]
  omega
theorem span_zero (w : World) : (zeroValue 136).run Try.prog w = .ok (spanV 0 0) w := by kernel_rfl

/-- A map's literal is filled. -/
theorem wpList_fill {w : World} {ops : Array Oper} {rest : List Oper} {o : Oper} {a : Act} {Q : Exit → Act → World → Prop}
    (hg : o.guard = none) (m x v : Operand) (hop : o.op = Op.insert 133 m x v) (b : Nat) (T : Tab) (hm : a.eval m = .map (some b)) (hown : Mb w b T) (hn : T.length < 1000)
    (t p q : Nat) (ht : t < 256) (hx : a.eval x = .int .u8 (t : Int)) (hv : a.eval v = spanV (p : Int) (q : Int))
    (hK : ∀ w', Mb w' b ((t, p, q) :: T) → w.grownBy w' (some b) → wpList Try.prog ops Q rest (a.put o.dst undef) w') :
    wpList Try.prog ops Q (o :: rest) a w := by
  refine wpList_plain hg fun K' hK' => ?_
  obtain ⟨w', hrun, r1, r2⟩ := World.ownsMap.update hown byte_keyed Try.underlying133 (by unfold maxLen; omega) (keyOf_int_mk Try.underlying5 (byte_wf ht)) (spanE_mk (p : Int) (q : Int))
  unfold Oper.wp
  simp [execOp, hop, hm, hx, hv, hrun, Result.andThen]
  exact hK' _ _ (hK w' r1 r2)

/-- A type is looked for in it. -/
theorem wpList_seek {w : World} {ops : Array Oper} {rest : List Oper} {o : Oper} {a : Act} {Q : Exit → Act → World → Prop}
    (hg : o.guard = none) (m x : Operand) (hop : o.op = Op.lookup 133 m x true) (b : Option Nat) (T : Tab) (hm : a.eval m = .map b) (hown : Mp w b T)
    (t p q : Nat) (r : Bool) (ht : t < 256) (hx : a.eval x = .int .u8 (t : Int)) (hs : seekB T t = (p, q, r))
    (hK : wpList Try.prog ops Q rest (a.put o.dst (.tuple #[spanV (p : Int) (q : Int), .bool r])) w) :
    wpList Try.prog ops Q (o :: rest) a w := by
  refine wpList_plain hg fun K' hK' => ?_
  have hkey := keyOf_int_mk Try.underlying5 (byte_wf ht)
  rcases hown with ⟨rfl, rfl⟩ | ⟨b, rfl, hown⟩
  · have hrun := Maps.look_nil true byte_keyed (t := 133) Try.underlying133 (span_zero w) hkey
    simp [seekB] at hs
    obtain ⟨rfl, rfl, rfl⟩ := hs
    unfold Oper.wp
    simp [execOp, hop, hm, hx, hrun, Result.andThen]
    exact hK' _ _ hK
  · obtain ⟨v, ps, hrun, hv⟩ := World.ownsMap.look_ok hown byte_keyed (t := 133) Try.underlying133 (span_zero w) (spanE_mk 0 0) hkey
    rw [mapD_at, hs] at hv
    rw [mapD_has, hs] at hrun
    obtain rfl := spanE_inv hv
    unfold Oper.wp
    simp [execOp, hop, hm, hx, hrun, Result.andThen]
    exact hK' _ _ hK
end

section
set_option maxRecDepth 4000
open Go.RowKit Go.Maps

set_option maxHeartbeats 4000000 in
theorem known_49185 (w : World) : Calls Try.prog 76 #[.int .u16 49185] w fun e w' => ∃ m, e = .returned (.map m) ∧ Mp w' m (tabB 49185) ∧ Below w.heap.size w w' := by
  have M := Lib.hid (Mb.made w)
  have B := Lib.hid ((Below.refl w.heap.size w).alloc (Nat.le_refl _) (.map #[] 0))
  have hmm := @run_makeMap Try.prog
  go_enter Try.func76, Try.ntmps76
  go_wp2_with (first
      | (refine wpList_fill rfl _ _ _ rfl w.heap.size _ rfl M.out (by decide) 1 2 2 (by decide) rfl rfl ?_; intro w1 hm1 hg1; replace B := Lib.hid (B.out.grown hg1 B.out.size (fun k hk => by injection hk with hk; omega)); replace M := Lib.hid hm1; clear hm1 hg1)
      | (refine wpList_fill rfl _ _ _ rfl w.heap.size _ rfl M.out (by decide) 2 4 4 (by decide) rfl rfl ?_; intro w1 hm1 hg1; replace B := Lib.hid (B.out.grown hg1 B.out.size (fun k hk => by injection hk with hk; omega)); replace M := Lib.hid hm1; clear hm1 hg1)
      | (refine wpList_fill rfl _ _ _ rfl w.heap.size _ rfl M.out (by decide) 3 2 253 (by decide) rfl rfl ?_; intro w1 hm1 hg1; replace B := Lib.hid (B.out.grown hg1 B.out.size (fun k hk => by injection hk with hk; omega)); replace M := Lib.hid hm1; clear hm1 hg1)
      | (refine wpList_fill rfl _ _ _ rfl w.heap.size _ rfl M.out (by decide) 4 2 253 (by decide) rfl rfl ?_; intro w1 hm1 hg1; replace B := Lib.hid (B.out.grown hg1 B.out.size (fun k hk => by injection hk with hk; omega)); replace M := Lib.hid hm1; clear hm1 hg1)
      | (refine wpList_fill rfl _ _ _ rfl w.heap.size _ rfl M.out (by decide) 5 4 4 (by decide) rfl rfl ?_; intro w1 hm1 hg1; replace B := Lib.hid (B.out.grown hg1 B.out.size (fun k hk => by injection hk with hk; omega)); replace M := Lib.hid hm1; clear hm1 hg1)
      | (refine wpList_fill rfl _ _ _ rfl w.heap.size _ rfl M.out (by decide) 7 0 0 (by decide) rfl rfl ?_; intro w1 hm1 hg1; replace B := Lib.hid (B.out.grown hg1 B.out.size (fun k hk => by injection hk with hk; omega)); replace M := Lib.hid hm1; clear hm1 hg1)
      | (refine wpList_fill rfl _ _ _ rfl w.heap.size _ rfl M.out (by decide) 8 0 0 (by decide) rfl rfl ?_; intro w1 hm1 hg1; replace B := Lib.hid (B.out.grown hg1 B.out.size (fun k hk => by injection hk with hk; omega)); replace M := Lib.hid hm1; clear hm1 hg1)
      | (refine wpList_fill rfl _ _ _ rfl w.heap.size _ rfl M.out (by decide) 9 1 1 (by decide) rfl rfl ?_; intro w1 hm1 hg1; replace B := Lib.hid (B.out.grown hg1 B.out.size (fun k hk => by injection hk with hk; omega)); replace M := Lib.hid hm1; clear hm1 hg1))
  go_ret
  exact ⟨_, rfl, .inr ⟨_, rfl, M.out⟩, B.out⟩

set_option maxHeartbeats 4000000 in
theorem known_32801 (w : World) : Calls Try.prog 76 #[.int .u16 32801] w fun e w' => ∃ m, e = .returned (.map m) ∧ Mp w' m (tabB 32801) ∧ Below w.heap.size w w' := by
  have M := Lib.hid (Mb.made w)
  have B := Lib.hid ((Below.refl w.heap.size w).alloc (Nat.le_refl _) (.map #[] 0))
  have hmm := @run_makeMap Try.prog
  go_enter Try.func76, Try.ntmps76
  go_wp2_with (first
      | (refine wpList_fill rfl _ _ _ rfl w.heap.size _ rfl M.out (by decide) 2 2 253 (by decide) rfl rfl ?_; intro w1 hm1 hg1; replace B := Lib.hid (B.out.grown hg1 B.out.size (fun k hk => by injection hk with hk; omega)); replace M := Lib.hid hm1; clear hm1 hg1)
      | (refine wpList_fill rfl _ _ _ rfl w.heap.size _ rfl M.out (by decide) 3 4 4 (by decide) rfl rfl ?_; intro w1 hm1 hg1; replace B := Lib.hid (B.out.grown hg1 B.out.size (fun k hk => by injection hk with hk; omega)); replace M := Lib.hid hm1; clear hm1 hg1)
      | (refine wpList_fill rfl _ _ _ rfl w.heap.size _ rfl M.out (by decide) 129 4 4 (by decide) rfl rfl ?_; intro w1 hm1 hg1; replace B := Lib.hid (B.out.grown hg1 B.out.size (fun k hk => by injection hk with hk; omega)); replace M := Lib.hid hm1; clear hm1 hg1)
      | (refine wpList_fill rfl _ _ _ rfl w.heap.size _ rfl M.out (by decide) 130 4 4 (by decide) rfl rfl ?_; intro w1 hm1 hg1; replace B := Lib.hid (B.out.grown hg1 B.out.size (fun k hk => by injection hk with hk; omega)); replace M := Lib.hid hm1; clear hm1 hg1)
      | (refine wpList_fill rfl _ _ _ rfl w.heap.size _ rfl M.out (by decide) 131 4 4 (by decide) rfl rfl ?_; intro w1 hm1 hg1; replace B := Lib.hid (B.out.grown hg1 B.out.size (fun k hk => by injection hk with hk; omega)); replace M := Lib.hid hm1; clear hm1 hg1)
      | (refine wpList_fill rfl _ _ _ rfl w.heap.size _ rfl M.out (by decide) 132 4 4 (by decide) rfl rfl ?_; intro w1 hm1 hg1; replace B := Lib.hid (B.out.grown hg1 B.out.size (fun k hk => by injection hk with hk; omega)); replace M := Lib.hid hm1; clear hm1 hg1))
  go_ret
  exact ⟨_, rfl, .inr ⟨_, rfl, M.out⟩, B.out⟩

set_option maxHeartbeats 4000000 in
theorem known_32855 (w : World) : Calls Try.prog 76 #[.int .u16 32855] w fun e w' => ∃ m, e = .returned (.map m) ∧ Mp w' m (tabB 32855) ∧ Below w.heap.size w w' := by
  have M := Lib.hid (Mb.made w)
  have B := Lib.hid ((Below.refl w.heap.size w).alloc (Nat.le_refl _) (.map #[] 0))
  have hmm := @run_makeMap Try.prog
  go_enter Try.func76, Try.ntmps76
  go_wp2_with (first
      | (refine wpList_fill rfl _ _ _ rfl w.heap.size _ rfl M.out (by decide) 1 8 8 (by decide) rfl rfl ?_; intro w1 hm1 hg1; replace B := Lib.hid (B.out.grown hg1 B.out.size (fun k hk => by injection hk with hk; omega)); replace M := Lib.hid hm1; clear hm1 hg1)
      | (refine wpList_fill rfl _ _ _ rfl w.heap.size _ rfl M.out (by decide) 2 2 253 (by decide) rfl rfl ?_; intro w1 hm1 hg1; replace B := Lib.hid (B.out.grown hg1 B.out.size (fun k hk => by injection hk with hk; omega)); replace M := Lib.hid hm1; clear hm1 hg1))
  go_ret
  exact ⟨_, rfl, .inr ⟨_, rfl, M.out⟩, B.out⟩

set_option maxHeartbeats 1000000 in
theorem known_none (p : Nat) (h1 : p ≠ 49185) (h2 : p ≠ 32801) (h3 : p ≠ 32855) (w : World) : Calls Try.prog 76 #[.int .u16 (p : Int)] w fun e w' => ∃ m, e = .returned (.map m) ∧ Mp w' m (tabB p) ∧ Below w.heap.size w w' := by
  have j1 : ¬ (p : Int) = 49185 := by omega
  have j2 : ¬ (p : Int) = 32801 := by omega
  have j3 : ¬ (p : Int) = 32855 := by omega
  have E := Lib.hid (show tabB p = [] by simp [tabB, h1, h2, h3])
  clear h1 h2 h3
  go_enter Try.func76, Try.ntmps76
  go_wp2_with fail
  go_ret
  exact ⟨_, rfl, .inl ⟨rfl, E.out⟩, Below.refl _ _⟩

theorem known_any (p : Nat) (w : World) : Calls Try.prog 76 #[.int .u16 (p : Int)] w fun e w' => ∃ m, e = .returned (.map m) ∧ Mp w' m (tabB p) ∧ Below w.heap.size w w' := by
  by_cases h1 : p = 49185
  · subst h1; exact known_49185 w
  by_cases h2 : p = 32801
  · subst h2; exact known_32801 w
  by_cases h3 : p = 32855
  · subst h3; exact known_32855 w
  exact known_none p h1 h2 h3 w

set_option maxHeartbeats 2000000 in
theorem sought_any (T : Tab) (m : Option Nat) (t : Nat) (ht : t < 256) (w : World) (h : Mp w m T) (a b : Nat) (hs : spanB T t = (a, b)) :
    Calls Try.prog 78 #[.map m, .int .u8 (t : Int)] w fun e w' => e = .returned (spanV (a : Int) (b : Int)) ∧ Below w.heap.size w w' := by
  obtain ⟨p, q, r, hk⟩ : ∃ p q r, Hid (seekB T t = (p, q, r)) := ⟨_, _, _, Lib.hid rfl⟩
  have HM := Lib.hid h
  have HM1 := Lib.hid (h.below ((Below.refl w.heap.size w).alloc (Nat.le_refl _) (.cells #[.int .i64 0, .int .i64 0] 136)))
  clear h
  cases r
  · rw [span_no hk.out] at hs
    obtain ⟨rfl, rfl⟩ := Prod.mk.inj hs
    clear hs
    go_enter Try.func78, Try.ntmps78
    go_wp2_with (first
      | (refine wpList_seek rfl _ _ rfl _ T rfl HM.out t p q _ ht rfl hk.out ?_)
      | (refine wpList_seek rfl _ _ rfl _ T rfl HM1.out t p q _ ht rfl hk.out ?_))
    refine bodyPost_ret (v := spanV ((0 : Nat) : Int) ((253 : Nat) : Int)) ?_ rfl ⟨rfl, ?_⟩
    · exact results_cell_row rfl _ _ w.heap.size 136 _ _ _ rfl (heap_alloc2_old w _ _) Try.underlying136 rfl (by kernel_rfl)
    · exact below_two w _ _
  · rw [span_yes hk.out] at hs
    obtain ⟨rfl, rfl⟩ := Prod.mk.inj hs
    clear hs
    go_enter Try.func78, Try.ntmps78
    go_wp2_with (first
      | (refine wpList_seek rfl _ _ rfl _ T rfl HM.out t p q _ ht rfl hk.out ?_)
      | (refine wpList_seek rfl _ _ rfl _ T rfl HM1.out t p q _ ht rfl hk.out ?_))
    refine bodyPost_ret (v := spanV (p : Int) (q : Int)) ?_ rfl ⟨rfl, ?_⟩
    · exact results_cell_row rfl _ _ w.heap.size 136 _ _ _ rfl (heap_alloc2_old w _ _) Try.underlying136 rfl (by kernel_rfl)
    · exact below_two w _ _
end

section
set_option maxRecDepth 4000
open Go.RowKit
end

section
set_option maxRecDepth 4000
open Go.RowKit

/-- The closure's cell holds a map. -/
def Wr (w : World) (g : Nat) (T : Tab) : Prop := g < w.heap.size ∧ ∃ m, w.cell? ⟨g, 0, none⟩ = some (.map m) ∧ Mp w m T
theorem Wr.below {w w' : World} {g : Nat} {T : Tab} (h : Wr w g T) (hb : Below w.heap.size w w') : Wr w' g T := by
  obtain ⟨h1, m, h2, h3⟩ := h
  exact ⟨Nat.lt_of_lt_of_le h1 hb.size, m, (hb.cell (p := ⟨g, 0, none⟩) h1).trans h2, h3.below hb⟩
/-- The function value that wrong makes. -/
abbrev fvW (g : Nat) : Value := .func (.func 77) #[] #[.pointer (some ⟨g, 0, none⟩)]

set_option maxHeartbeats 1000000 in
theorem wrong_any (p : Nat) (w : World) : Calls Try.prog 72 #[.int .u16 (p : Int)] w fun e w' => ∃ g, e = .returned (fvW g) ∧ Wr w' g (tabB p) ∧ Below w.heap.size w w' := by
  go_enter Try.func72, Try.ntmps72
  go_wp2_with (go_at_call 76; (with_reducible refine (known_any p _).mono ?_); rintro e wn ⟨m, rfl, hm, hb⟩; have B := Lib.hid (hb.alloc hb.size (.cells #[.map m] 133)); have W := Lib.hid (show Wr (wn.alloc (.cells #[.map m] 133)) wn.heap.size (tabB p) from ⟨by rw [World.size_alloc]; omega, m, by rw [cell_of_row _ _ 0 _ _ _ (heap_alloc_new wn _)]; rfl, hm.below ((Below.refl _ _).alloc (Nat.le_refl _) _)⟩); clear hm hb)
  go_ret
  exact ⟨_, rfl, W.out, B.out⟩

set_option maxHeartbeats 2000000 in
theorem wrong1_any (T : Tab) (o : Nat × List Nat) (ht : o.1 < 256) (n c : Nat) (A : Option Addr) (g : Nat) (w : World) (h : Wr w g T) (hl : o.2.length = n) (q : Bool) (hq : okO T o = q) :
    Calls Try.prog 77 #[.agg #[.int .u8 (o.1 : Int), .slice A n c], .pointer (some ⟨g, 0, none⟩)] w fun e w' => e = .returned (.bool (!q)) ∧ Below w.heap.size w w' := by
  obtain ⟨t, l⟩ := o
  dsimp only at ht hl
  obtain ⟨a, b, hs⟩ : ∃ a b, Hid (spanB T t = (a, b)) := ⟨_, _, Lib.hid rfl⟩
  obtain ⟨w1, hw1⟩ : ∃ w1, w1 = w.alloc (.cells #[.int .u8 (t : Int), .slice A n c] 70) := ⟨_, rfl⟩
  have hb1 : Below w.heap.size w w1 := by rw [hw1]; exact (Below.refl _ _).alloc (Nat.le_refl _) _
  have hs1 : w1.heap.size = w.heap.size + 1 := by rw [hw1, World.size_alloc]
  have hv1 : w1.heap[w.heap.size]? = some (.cells #[.int .u8 (t : Int), .slice A n c] 70 (0, 0)) := by rw [hw1]; exact heap_alloc_new _ _
  have CA := Lib.hid (show ∀ w' : World, Below w1.heap.size w1 w' → w'.cell? ⟨w.heap.size, 0, none⟩ = some (.int .u8 (t : Int)) ∧ w'.cell? ⟨w.heap.size, 1, none⟩ = some (.slice A n c) from fun w' hb' => by
    have hv : w'.heap[w.heap.size]? = some (.cells #[.int .u8 (t : Int), .slice A n c] 70 (0, 0)) := (hb'.block _ (by omega)).trans hv1
    exact ⟨by rw [cell_of_row w' _ 0 _ _ _ hv]; rfl, by rw [cell_of_row w' _ 1 _ _ _ hv]; rfl⟩)
  obtain ⟨hg, m, hc, hm⟩ := h.below hb1
  obtain ⟨c0, c1⟩ := CA.out w1 (Below.refl _ _)
  have B1 := Lib.hid hb1
  have HM := Lib.hid hm
  have HW := Lib.hid hw1
  have HQ := Lib.hid hq
  have HL := Lib.hid hl
  have HG := Lib.hid hg
  rw [hw1] at hc c0 c1
  clear h hb1 hs1 hv1 hw1 hm hq hl hg
  by_cases j1 : (n : Int) < a
  · have E := Lib.hid (show q = false by
      rw [← HQ.out, okO, hs.out, HL.out]
      simp; omega)
    go_enter Try.func77, Try.ntmps77
    go_wp2_with (go_at_call 78; rw [← HW.out]; (with_reducible refine (sought_any T m t ht _ HM.out a b hs.out).mono ?_); rintro e wn ⟨rfl, hb⟩; have B2 := Lib.hid (hb.alloc hb.size (.cells #[.int .i64 (a : Int), .int .i64 (b : Int)] 136)); obtain ⟨d0, d1⟩ := CA.out _ B2.out; clear hb hc c0 c1)
    go_ret
    exact ⟨by rw [E.out]; rfl, B1.out.trans (B2.out.mono B1.out.size)⟩
  by_cases j2 : (b : Int) < n
  · have E := Lib.hid (show q = false by
      rw [← HQ.out, okO, hs.out, HL.out]
      simp; omega)
    go_enter Try.func77, Try.ntmps77
    go_wp2_with (go_at_call 78; rw [← HW.out]; (with_reducible refine (sought_any T m t ht _ HM.out a b hs.out).mono ?_); rintro e wn ⟨rfl, hb⟩; have B2 := Lib.hid (hb.alloc hb.size (.cells #[.int .i64 (a : Int), .int .i64 (b : Int)] 136)); obtain ⟨d0, d1⟩ := CA.out _ B2.out; clear hb hc c0 c1)
    go_ret
    exact ⟨by rw [E.out]; rfl, B1.out.trans (B2.out.mono B1.out.size)⟩
  have E := Lib.hid (show q = true by
    rw [← HQ.out, okO, hs.out, HL.out]
    simp; omega)
  go_enter Try.func77, Try.ntmps77
  go_wp2_with (go_at_call 78; rw [← HW.out]; (with_reducible refine (sought_any T m t ht _ HM.out a b hs.out).mono ?_); rintro e wn ⟨rfl, hb⟩; have B2 := Lib.hid (hb.alloc hb.size (.cells #[.int .i64 (a : Int), .int .i64 (b : Int)] 136)); obtain ⟨d0, d1⟩ := CA.out _ B2.out; clear hb hc c0 c1)
  go_ret
  exact ⟨by rw [E.out]; show Ending.returned (.bool (decide (n < a) || decide (b < n))) = _; rw [decide_eq_false (by omega), decide_eq_false (by omega)]; rfl, B1.out.trans (B2.out.mono B1.out.size)⟩

set_option maxHeartbeats 2000000 in
theorem wfind_any (T : Tab) (l : List (Nat × List Nat)) (n c : Nat) (A : Option Addr) (F : Nat → Prop) (g : Nat) (w : World) (h : Rws shO F w A l) (ho : ByO l) (hl : l.length = n) (hn : n ≤ 274877906944) (hw : Wr w g T) :
    Calls Try.prog 75 #[.slice A n c, fvW g] w fun e w' => ∃ z : Int, e = .returned (.int .i64 z) ∧ -1 ≤ z ∧ (0 ≤ z ↔ okL T l = false) ∧ Below w.heap.size w w' := by
  have HL := Lib.hid hl
  have HO := Lib.hid ho
  have HR := Lib.hid h
  have HW := Lib.hid hw
  clear hl ho h hw
  go_enter Try.func75, Try.ntmps75
  go_wp2_with fail
  go_loopw [8] (fun i wr => ∃ k : Nat, k ≤ n ∧ i = .int .i64 k ∧ Hid (okL T (l.take k) = true) ∧ Below w.heap.size w wr) (fun i _ => n - (intOf i).toNat)
  case atStart => exact ⟨0, Nat.zero_le _, rfl, Lib.hid (by simp [okL]), Below.refl _ _⟩
  case round =>
    obtain ⟨k, hk, rfl, hf, hbel⟩ := hrel
    by_cases hlt : k < n
    · obtain ⟨b, o, x, A3, c3, rfl, hb3, hx, h3, h4, h5, h6⟩ := (HR.out.below hbel).opt (k := k) (by rw [HL.out]; exact hlt)
      have hx1 := (HO.out x (List.mem_of_getElem? hx)).1
      have HX := Lib.hid hx
      have i1 : (0 : Int) ≤ k := by omega
      have i2 : (k : Int) < n := by omega
      obtain ⟨q, hq⟩ : ∃ q, Hid (okO T x = q) := ⟨_, Lib.hid rfl⟩
      have BE := Lib.hid hbel
      clear hx h6 hbel
      cases q
      · have E := Lib.hid (okL_no HX.out hq.out)
        go_wp2_with (go_at_call 77; (with_reducible refine (wrong1_any T x hx1 _ c3 A3 g _ (HW.out.below BE.out) rfl _ hq.out).mono ?_); rintro e wn ⟨rfl, hb⟩; replace BE := Lib.hid (BE.out.trans (hb.mono BE.out.size)); clear hb)
        go_ret
        exact ⟨_, rfl, by omega, ⟨fun _ => E.out, fun _ => by omega⟩, BE.out⟩
      · have R := Lib.hid (okL_take hf.out HX.out hq.out)
        go_wp2_with (go_at_call 77; (with_reducible refine (wrong1_any T x hx1 _ c3 A3 g _ (HW.out.below BE.out) rfl _ hq.out).mono ?_); rintro e wn ⟨rfl, hb⟩; replace BE := Lib.hid (BE.out.trans (hb.mono BE.out.size)); clear hb)
        go_roundw
        case rel => exact ⟨k + 1, by omega, by go_num, R, BE.out⟩
        case measure => simp [intOf]; omega
    · have he : k = n := by omega
      subst he
      have E := hf.out
      rw [List.take_of_length_le (by rw [HL.out]; exact Nat.le_refl _)] at E
      have HE := Lib.hid E
      clear E
      go_wp2_with fail
      go_ret
      exact ⟨_, rfl, by omega, ⟨fun h => absurd h (by omega), fun h => by rw [HE.out] at h; cases h⟩, hbel⟩

set_option maxHeartbeats 1000000 in
theorem any_wrong (T : Tab) (l : List (Nat × List Nat)) (n c : Nat) (A : Option Addr) (F : Nat → Prop) (g : Nat) (w : World) (h : Rws shO F w A l) (ho : ByO l) (hl : l.length = n) (hn : n ≤ 274877906944) (hw : Wr w g T) (q : Bool) (hq : okL T l = q) :
    Calls Try.prog 71 #[.slice A n c, fvW g] w fun e w' => e = .returned (.bool (!q)) ∧ Below w.heap.size w w' := by
  have HI := Lib.hid (wfind_any T l n c A F g w h ho hl hn hw)
  have HQ := Lib.hid hq
  clear h ho hl hw hq
  cases q
  · go_enter Try.func71, Try.ntmps71
    go_wp2_with (go_at_call 75; (with_reducible refine HI.out.mono ?_); rintro e wn ⟨z, rfl, -, hz, hb⟩; have j1 : 0 ≤ z := hz.2 HQ.out; have B := Lib.hid hb; clear hb hz)
    go_ret
    exact ⟨rfl, B.out⟩
  · go_enter Try.func71, Try.ntmps71
    go_wp2_with (go_at_call 75; (with_reducible refine HI.out.mono ?_); rintro e wn ⟨z, rfl, -, hz, hb⟩; have j1 : ¬ 0 ≤ z := (fun h => by have := hz.1 h; rw [HQ.out] at this; cases this); have B := Lib.hid hb; clear hb hz)
    go_ret
    exact ⟨by show Ending.returned (.bool (decide (0 ≤ z))) = _; rw [decide_eq_false (by omega)]; rfl, B.out⟩

/-- What Right knows of the world it stands in: its option lies at block b. -/
structure BoC (w W : World) (b : Nat) (T : TypeId) (t : Nat) (A : Option Addr) (n c : Nat) : Prop where
  bel : Below w.heap.size w W
  box : W.heap[b]? = some (.cells #[.int .u8 (t : Int), .slice A n c] T (0, 0))
section
variable {w W X W' : World} {b : Nat} {T : TypeId} {t : Nat} {A : Option Addr} {n c : Nat}
theorem BoC.cells (h : BoC w W b T t A n c) : W.cell? ⟨b, 0, none⟩ = some (.int .u8 (t : Int)) ∧ W.cell? ⟨b, 1, none⟩ = some (.slice A n c) :=
  ⟨by rw [cell_of_row W _ 0 _ _ _ h.box]; rfl, by rw [cell_of_row W _ 1 _ _ _ h.box]; rfl⟩
theorem BoC.lt (h : BoC w W b T t A n c) : b < W.heap.size := (Array.getElem?_eq_some_iff.1 h.box).1
theorem BoC.step (h : BoC w W b T t A n c) (hb : Below X.heap.size X W') (hX : Below W.heap.size W X := by first | exact Below.refl _ _ | exact (Below.refl _ _).drew) : BoC w W' b T t A n c :=
  ⟨h.bel.trans ((hX.trans (hb.mono hX.size)).mono h.bel.size), ((hX.trans (hb.mono hX.size)).block b h.lt).trans h.box⟩
theorem BoC.drew (h : BoC w W b T t A n c) : BoC w W.drew b T t A n c := h.step (X := W) (Below.refl _ _).drew
theorem BoC.made (w : World) (T : TypeId) (t : Nat) (A : Option Addr) (n c : Nat) : BoC w (w.alloc (.cells #[.int .u8 (t : Int), .slice A n c] T)) w.heap.size T t A n c :=
  ⟨(Below.refl _ _).alloc (Nat.le_refl _) _, heap_alloc_new _ _⟩
end
end

section
set_option maxRecDepth 4000
open Go.RowKit

theorem u64_shl (v : Nat) : IntKind.u64.wrap ((v : Int) * 256) = ((v * 256 % 18446744073709551616 : Nat) : Int) := by rw [IntKind.wrap_u64]; omega
theorem u64_step (v x : Nat) (hx : x < 256) : bits .or .u64 (IntKind.u64.wrap ((v : Int) * 256)) (x : Int) = (((v * 256 + x) % 18446744073709551616 : Nat) : Int) := by
  rw [u64_shl, bits_or_u64_nat _ _ (Nat.mod_lt _ (by omega)) (by omega)]
  have h1 : v * 256 % 18446744073709551616 = 2 ^ 8 * (v % 72057594037927936) := by omega
  rw [h1, ← Nat.two_pow_add_eq_or_of_lt (show x < 2 ^ 8 by omega)]
  congr 1
  omega
theorem u64_add (v x : Nat) : IntKind.u64.wrap (IntKind.u64.wrap ((v : Int) * 256) + (x : Int)) = (((v * 256 + x) % 18446744073709551616 : Nat) : Int) := by rw [IntKind.wrap_u64, IntKind.wrap_u64]; omega

theorem zeros_own {w : World} {A : Option Addr} {base n c : Nat} (h : w.ownsRow base 5 1 (.slice A n c) n (madeCells (Value.cells (.int .u8 0)) (n * 1)).toList) : w.ownsRow base 5 1 (.slice A n c) n (bvs (List.replicate n 0)) := by
  rw [← part_zero] at h
  have e : part [] n 0 = List.replicate n 0 := by unfold part; rw [Nat.sub_zero]; rfl
  rw [e] at h
  exact h
theorem make_own (n : Nat) (hn : n ≤ 1099511627776) (w : World) : ∃ w', (Instr.makeSlice 26 (.int .i64 (n : Int)) (.int .i64 (n : Int))).run Try.prog w = .ok (.slice (some ⟨w.heap.size, 0, none⟩) n n) w' ∧ w'.ownsRow w.heap.size 5 1 (.slice (some ⟨w.heap.size, 0, none⟩) n n) n (bvs (List.replicate n 0)) ∧ Below w.heap.size w w' := by
  obtain ⟨i0, hi, hz0, hz1, hz2⟩ := info_parts byte_info
  obtain ⟨w', h1, h2, h3⟩ := run_make_full (P := Try.prog) (w := w) w.heap.size 26 5 i0 (.int .u8 0) 1 Try.underlying26 hi hz0 hz1 .i64 .i64 n (by rw [hz2]; omega) (by unfold maxLen; omega) (Nat.le_refl _)
  exact ⟨w', h1, zeros_own h2, (Below.refl _ _).grown h3 (Nat.le_refl _) (fun k hk => by cases hk)⟩
theorem bvs_setV (l : List Nat) (k x : Nat) : (bvs l).set k (.int .u8 (x : Int)) = bvs (l.set k x) := by simp [bvs, bv, List.map_set]
theorem num_oct (v k : Nat) : ((v / 256 ^ k % 256 : Nat) : Int) = (v : Int) / 2 ^ (8 * k) % 256 := by
  rw [show (256 : Nat) ^ k = 2 ^ (8 * k) by rw [Nat.pow_mul]]
  rw [Int.natCast_emod, Int.natCast_ediv, Int.natCast_pow]
  rfl

set_option maxHeartbeats 2000000 in
theorem num_any (t v n : Nat) (hn : n ≤ 8) (w : World) :
    Calls Try.prog 74 #[.int .u8 (t : Int), .int .u64 (v : Int), .int .i64 (n : Int)] w fun e w' => ∃ A c, e = .returned (.agg #[.int .u8 (t : Int), .slice A n c]) ∧ w'.ownsRow w.heap.size 5 1 (.slice A n c) n (bvs (numB v n)) ∧ Below w.heap.size w w' := by
  have i0 : (0 : Int) ≤ n := by omega
  have i8 : (n : Int) ≤ 8 := by omega
  obtain ⟨w1, hw1⟩ : ∃ w1, w1 = w.alloc (.cells #[.int .u8 0, .slice none 0 0] 70) := ⟨_, rfl⟩
  have hb0 : Below w.heap.size w w1 := by rw [hw1]; exact (Below.refl _ _).alloc (Nat.le_refl _) _
  have hs1 : w1.heap.size = w.heap.size + 1 := by rw [hw1, World.size_alloc]
  have hv1 : w1.heap[w.heap.size]? = some (.cells #[.int .u8 0, .slice none 0 0] 70 (0, 0)) := by rw [hw1]; exact heap_alloc_new _ _
  obtain ⟨w2, hm, hown2, hb2⟩ := make_own n (by omega) w1
  obtain ⟨g, hg⟩ : ∃ g, w1.heap.size = g := ⟨_, rfl⟩
  rw [hg] at hm hown2 hb2
  rw [hw1] at hm
  have HV := Lib.hid ((hb2.block w.heap.size (by omega)).trans hv1)
  have B2 := Lib.hid (hb0.trans (hb2.mono (by omega)))
  have HG := Lib.hid (show g = w.heap.size + 1 by omega)
  have HN := Lib.hid hn
  clear hb0 hs1 hv1 hb2 hg hw1
  go_enter Try.func74, Try.ntmps74
  go_wp2_with fail
  go_loopw [15] (fun i wr => ∃ k : Nat, k ≤ n ∧ i = .int .i64 k ∧ wr.ownsRow g 5 1 (.slice (some ⟨g, 0, none⟩) n n) n (bvs (filB v n k)) ∧ Offs (fun j => j = g) w2 wr) (fun i _ => n - (intOf i).toNat)
  case atStart => exact ⟨0, Nat.zero_le _, rfl, by rw [fil_zero]; exact hown2, Offs.refl _ _⟩
  case round =>
    obtain ⟨k, hk, rfl, hown, hoff⟩ := hrel
    by_cases hlt : k < n
    · have j1 : (0 : Int) ≤ k := by omega
      have j2 : (k : Int) < n := by omega
      have hc0 := hown.cellAt (n - 1 - k) (by omega)
      have hf0 := hown.frozenAt (n - 1 - k)
      obtain ⟨y, hy⟩ : ∃ y, (filB v n k)[n - 1 - k]? = some y := ⟨_, List.getElem?_eq_getElem (by rw [fil_len v n k hk]; omega)⟩
      rw [bvs_get _ _ _ hy] at hc0
      have hst := hown.stored (n - 1 - k) (.int .u8 ((v / 256 ^ k % 256 : Nat) : Int))
      rw [bvs_setV, fil_set v n k hlt, num_oct] at hst
      have HS := Lib.hid hst.1
      have HO := Lib.hid hoff
      clear hst hy hown hoff hown2
      go_wp2_with fail
      go_roundw
      case rel => exact ⟨k + 1, by omega, by go_num, HS.out, HO.out.trans (Offs.set (X := fun j => j = g) wr g (n - 1 - k) _ rfl) (fun _ h => h) (fun _ _ h => h)⟩
      case measure => simp [intOf]; omega
    · have he : k = n := by omega
      subst he
      rw [fil_all] at hown
      have hv2 := (hoff.block w.heap.size (by have := B2.out.size; have := (Array.getElem?_eq_some_iff.1 HV.out).1; omega) (by rw [HG.out]; omega)).trans HV.out
      have HV2 := Lib.hid hv2
      have q1 : wr.cell? ⟨w.heap.size, 0, none⟩ = some (.int .u8 0) := by rw [cell_of_row wr _ 0 _ _ _ hv2]; rfl
      have q2 : wr.cell? ⟨w.heap.size, 1, none⟩ = some (.slice none 0 0) := by rw [cell_of_row wr _ 1 _ _ _ hv2]; rfl
      have q3 := frozen_of_row wr _ 0 _ _ hv2
      have q4 := frozen_of_row wr _ 1 _ _ hv2
      have B3 := Lib.hid (B2.out.trans (hoff.below (X := fun j => j = g) (B := w.heap.size) (fun j hj e => by rw [HG.out] at e; omega) B2.out.size))
      have HO := Lib.hid hown
      clear hv2 hown hoff hown2
      go_wp2_with fail
      refine bodyPost_ret (v := .agg #[.int .u8 (t : Int), .slice (some ⟨g, 0, none⟩) k k]) ?_ rfl ⟨_, _, rfl, ?_, ?_⟩
      · exact results_cell_row rfl _ _ w.heap.size 70 #[.int .u8 (t : Int), .slice (some ⟨g, 0, none⟩) k k] _ _ rfl (heap_setCell_same _ _ 1 _ _ _ (heap_setCell_same _ _ 0 _ _ _ HV2.out)) Try.underlying70 rfl (by kernel_rfl)
      · have ho := Offs.trans (Offs.set (X := fun i => i = w.heap.size) wr w.heap.size 0 (.int .u8 (t : Int)) rfl) (Offs.set (X := fun i => i = w.heap.size) _ w.heap.size 1 (.slice (some ⟨g, 0, none⟩) k k) rfl) (Z := fun i => i = w.heap.size) (fun _ h => h) (fun _ _ h => h)
        exact own_lo (own_off HO.out ho (fun i hi e => by have := (HO.out.lt i hi).1; have := HG.out; omega)) (by have := HG.out; omega)
      · exact (B3.out.setCell (p := ⟨w.heap.size, 0, none⟩) (Nat.le_refl _) _).setCell (p := ⟨w.heap.size, 1, none⟩) (Nat.le_refl _) _
end

section
set_option maxRecDepth 4000
open Go.RowKit

/-- What Put answers. -/
def putO (p : Nat) (l : List (Nat × List Nat)) : List Nat × Nat := if okL (tabB p) l then (putB l, 0) else ([], 4)
/-- What Get answers. -/
def getO (p : Nat) (b : List Nat) : List (Nat × List Nat) × Nat := if (getB b).2 = 0 then (if okL (tabB p) (getB b).1 then ((getB b).1, 0) else ([], 4)) else ([], (getB b).2)
theorem okL_short {p : Nat} {l : List (Nat × List Nat)} (h : okL (tabB p) l = true) : longB l = false := by
  unfold longB
  rw [Bool.eq_false_iff]
  intro hl
  obtain ⟨o, ho, hlo⟩ := List.any_eq_true.1 hl
  have h1 := (okO_yes (List.all_eq_true.1 h o ho)).2
  have h2 := (span_le p o.1).2
  simp at hlo
  omega

set_option maxHeartbeats 2000000 in
theorem pput_any (p : Nat) (l : List (Nat × List Nat)) (m : List Nat) (q : Nat) (hm : putO p l = (m, q)) (k : Nat) (hk : m.length = k) (n c : Nat) (A : Option Addr) (F : Nat → Prop) (w : World) (h : Rws shO F w A l) (ho : ByO l) (hl : l.length = n) (hn : n ≤ 68719476736) (hd : datB l ≤ 68719476736) :
    Calls Try.prog 69 #[.int .u16 (p : Int), .slice A n c] w fun e w' => ∃ A' c', e = .returned (.tuple #[.slice A' k c', .int .i64 (q : Int)]) ∧ Rd w' w'.heap.size A' m ∧ k ≤ c' ∧ Below w.heap.size w w' := by
  have B := Lib.hid (Below.refl w.heap.size w)
  have HR := Lib.hid h
  have HL := Lib.hid hl
  have HO := Lib.hid ho
  clear h hl ho
  cases hq : okL (tabB p) l
  · have HQ := Lib.hid hq
    rw [putO, hq, if_neg (by decide)] at hm
    obtain ⟨rfl, rfl⟩ := Prod.mk.inj hm
    obtain rfl : 0 = k := hk
    clear hm hq hd
    go_enter Try.func69, Try.ntmps69
    go_wp2_with (first
    | (go_at_call 72; (with_reducible refine (wrong_any p _).mono ?_); rintro e wn ⟨g, rfl, hw, hb⟩; replace B := Lib.hid (B.out.trans (hb.mono B.out.size)); have V := Lib.hid hw; clear hw hb)
    | (go_at_call 71; (with_reducible refine (any_wrong _ l n c A F g _ (HR.out.below B.out) HO.out HL.out (by omega) V.out _ HQ.out).mono ?_); rintro e wn ⟨rfl, hb⟩; replace B := Lib.hid (B.out.trans (hb.mono B.out.size)); clear hb))
    go_ret2
    exact ⟨none, 0, rfl, Rd.nil, Nat.le_refl _, B.out⟩
  · have HQ := Lib.hid hq
    have EP := Lib.hid (errP_ok (okL_short hq))
    rw [putO, hq, if_pos rfl] at hm
    obtain ⟨rfl, rfl⟩ := Prod.mk.inj hm
    have HK := Lib.hid hk
    have HD := Lib.hid hd
    clear hm hq hk hd
    go_enter Try.func69, Try.ntmps69
    go_wp2_with (first
    | (go_at_call 72; (with_reducible refine (wrong_any p _).mono ?_); rintro e wn ⟨g, rfl, hw, hb⟩; replace B := Lib.hid (B.out.trans (hb.mono B.out.size)); have V := Lib.hid hw; clear hw hb)
    | (go_at_call 71; (with_reducible refine (any_wrong _ l n c A F g _ (HR.out.below B.out) HO.out HL.out (by omega) V.out _ HQ.out).mono ?_); rintro e wn ⟨rfl, hb⟩; replace B := Lib.hid (B.out.trans (hb.mono B.out.size)); clear hb)
    | (go_at_call 73; (with_reducible refine (oput_v l _ EP.out.1 _ EP.out.2 _ HK.out n c A F _ (HR.out.below B.out) HL.out (by omega) HD.out).mono ?_); rintro e wn ⟨A5, c5, rfl, h5, h5c, hb⟩; replace B := Lib.hid (B.out.trans (hb.mono B.out.size)); have X := Lib.hid h5; clear h5 hb))
    go_ret2
    exact ⟨_, _, rfl, X.out, h5c, B.out⟩
end

section
set_option maxRecDepth 4000
open Go.RowKit

theorem RdF.cutAt {F : Nat → Prop} {w : World} {b o : Nat} {l : List Nat} (h : RdF F w (some ⟨b, o, none⟩) l) {f c : Nat} (hc : l.length ≤ c) : RdF F w (if c = f then some ⟨b, o, none⟩ else some ⟨b, o + f, none⟩) (l.drop f) := by
  intro hl
  rw [List.length_drop] at hl
  rw [if_neg (by omega)]
  obtain ⟨b', off, e, hb, hF, hcell⟩ := h (by omega)
  injection e with e
  injection e with e1 e2
  subst e1; subst e2
  exact ⟨b, o + f, rfl, hb, hF, fun k x hx => by rw [Nat.add_assoc]; exact hcell (f + k) x (by rw [← List.getElem?_drop]; exact hx)⟩
theorem RdF.take {F : Nat → Prop} {w : World} {A : Option Addr} {l : List Nat} (h : RdF F w A l) (k : Nat) : RdF F w A (l.take k) := by
  intro hl
  rw [List.length_take] at hl
  obtain ⟨b, off, e, hb, hF, hc⟩ := h (by omega)
  refine ⟨b, off, e, hb, hF, fun j x hx => hc j x ?_⟩
  rw [List.getElem?_take] at hx
  split at hx
  · exact hx
  · cases hx
end
end Go.Proofs.Ytmhjnghomihjlaa
