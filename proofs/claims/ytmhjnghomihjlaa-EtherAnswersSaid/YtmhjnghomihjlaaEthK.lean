
/-
  A map of what sessions codes may have, in memory; what the program's sessions, check, two and number answer. No condition beyond: a code below 2^8, a session below 2^16.
-/
import Derived.Test.YtmhjnghomihjlaaEthM
import Derived.Test.YtmhjnghomihjlaaGOps
namespace Go.Proofs.Ytmhjnghomihjlaa
set_option maxRecDepth 4000
open Go.RowKit Go.Maps
set_option linter.unusedVariables false

/-- A table of two answers, the last one laid first. -/
abbrev At := List (Nat × Bool × Bool)
/-- How two answers read. -/
def twoE : Value → Option (DataW Unit × List MemPlace)
  | .agg ⟨[.bool a, .bool b]⟩ => some (.agg [.lit (.bool a), .lit (.bool b)], [])
  | _ => none
abbrev twoV (a b : Bool) : Value := .agg #[.bool a, .bool b]
abbrev twoD (a b : Bool) : DataW Unit := .agg [.lit (.bool a), .lit (.bool b)]
theorem twoE_mk (a b : Bool) : twoE (twoV a b) = some (twoD a b, []) := rfl
theorem twoE_inv {v : Value} {a b : Bool} {ps : List MemPlace} (h : twoE v = some (twoD a b, ps)) : v = twoV a b := by
  unfold twoE at h
  split at h
  · simp at h
    rw [h.1.1, h.1.2]
  · cases h
/-- What the map reads as. -/
def atD : At → DataW Unit
  | [] => .map []
  | x :: r => (atD r).put (.int .u8 (x.1 : Int)) (twoD x.2.1 x.2.2)
/-- What is looked up. -/
def atB : At → Nat → Bool × Bool × Bool
  | [], _ => (false, false, false)
  | x :: r, t => if x.1 = t then (x.2.1, x.2.2, true) else atB r t
theorem atD_is (T : At) : IsMap (atD T) := by
  induction T with
  | nil => exact isMap_empty
  | cons x r ih => exact ih.put _ _
theorem atD_has (T : At) (t : Nat) : has (atD T) (.int .u8 (t : Int)) = (atB T t).2.2 := by
  induction T with
  | nil => rfl
  | cons x r ih =>
    unfold atD
    by_cases h : x.1 = t
    · rw [← h, has_put_same (atD_is r) (key_is _)]
      simp [atB]
    · rw [has_put_other (key_ne h), ih]
      simp [atB, h]
theorem atD_at (T : At) (t : Nat) : (atD T).atKey (.int .u8 (t : Int)) (twoD false false) = twoD (atB T t).1 (atB T t).2.1 := by
  induction T with
  | nil => rfl
  | cons x r ih =>
    unfold atD
    by_cases h : x.1 = t
    · rw [← h, atKey_put_same (atD_is r) (key_is _)]
      simp [atB]
    · rw [atKey_put_other (key_ne h), ih]
      simp [atB, h]
/-- Block b is such a map. -/
def Ab (w : World) (b : Nat) (T : At) : Prop := w.ownsMap Try.prog 5 twoE b T.length (atD T)
theorem Ab.below {w w' : World} {b : Nat} {T : At} {B : Nat} (h : Ab w b T) (hb : Below B w w') (hB : b < B) : Ab w' b T := by
  obtain ⟨es, clock, h1, r⟩ := h
  exact ⟨es, clock, (hb.block b hB).trans h1, r⟩
theorem Ab.lt {w : World} {b : Nat} {T : At} (h : Ab w b T) : b < w.heap.size := World.ownsMap.lt h
theorem Ab.made (w : World) : Ab (w.alloc (.map #[] 0)) w.heap.size [] := World.ownsMap_made _ _ _ _
theorem two_zero (w : World) : (zeroValue 72).run Try.prog w = .ok (twoV false false) w := by kernel_rfl

/-- A map's literal is filled. -/
theorem wpList_afill {w : World} {ops : Array Oper} {rest : List Oper} {o : Oper} {a : Act} {Q : Exit → Act → World → Prop}
    (hg : o.guard = none) (m x v : Operand) (hop : o.op = Op.insert 74 m x v) (b : Nat) (T : At) (hm : a.eval m = .map (some b)) (hown : Ab w b T) (hn : T.length < 1000)
    (t : Nat) (p q : Bool) (ht : t < 256) (hx : a.eval x = .int .u8 (t : Int)) (hv : a.eval v = twoV p q)
    (hK : ∀ w', Ab w' b ((t, p, q) :: T) → w.grownBy w' (some b) → wpList Try.prog ops Q rest (a.put o.dst undef) w') :
    wpList Try.prog ops Q (o :: rest) a w := by
  refine wpList_plain hg fun K' hK' => ?_
  obtain ⟨w', hrun, r1, r2⟩ := World.ownsMap.update hown byte_keyed Try.underlying74 (by unfold maxLen; omega) (keyOf_int_mk Try.underlying5 (byte_wf ht)) (twoE_mk p q)
  unfold Oper.wp
  simp [execOp, hop, hm, hx, hv, hrun, Result.andThen]
  exact hK' _ _ (hK w' r1 r2)

/-- A code is looked for in it. -/
theorem wpList_aseek {w : World} {ops : Array Oper} {rest : List Oper} {o : Oper} {a : Act} {Q : Exit → Act → World → Prop}
    (hg : o.guard = none) (m x : Operand) (hop : o.op = Op.lookup 74 m x true) (b : Nat) (T : At) (hm : a.eval m = .map (some b)) (hown : Ab w b T)
    (t : Nat) (p q r : Bool) (ht : t < 256) (hx : a.eval x = .int .u8 (t : Int)) (hs : atB T t = (p, q, r))
    (hK : wpList Try.prog ops Q rest (a.put o.dst (.tuple #[twoV p q, .bool r])) w) :
    wpList Try.prog ops Q (o :: rest) a w := by
  refine wpList_plain hg fun K' hK' => ?_
  have hkey := keyOf_int_mk Try.underlying5 (byte_wf ht)
  obtain ⟨v, ps, hrun, hv⟩ := World.ownsMap.look_ok hown byte_keyed (t := 74) Try.underlying74 (two_zero w) (twoE_mk false false) hkey
  rw [atD_at, hs] at hv
  rw [atD_has, hs] at hrun
  obtain rfl := twoE_inv hv
  unfold Oper.wp
  simp [execOp, hop, hm, hx, hrun, Result.andThen]
  exact hK' _ _ hK

/-- The codes' sessions, the last one first. -/
def ettab : At := [(167, false, true), (101, true, true), (25, true, false), (9, true, false), (7, true, false), (0, false, true)]
theorem ettab_no {c : Nat} (h : ¬ (c = 0 ∨ c = 7 ∨ c = 9 ∨ c = 25 ∨ c = 101 ∨ c = 167)) : atB ettab c = (false, false, false) := by
  simp only [not_or] at h
  obtain ⟨h1, h2, h3, h4, h5, h6⟩ := h
  simp [atB, ettab, Ne.symm h1, Ne.symm h2, Ne.symm h3, Ne.symm h4, Ne.symm h5, Ne.symm h6]

set_option maxHeartbeats 4000000 in
theorem esessions_any (w : World) : Calls Try.prog 29 #[] w fun e w' => ∃ b, e = .returned (.map (some b)) ∧ Ab w' b ettab ∧ Below w.heap.size w w' := by
  have M := Lib.hid (Ab.made w)
  have B := Lib.hid ((Below.refl w.heap.size w).alloc (Nat.le_refl _) (.map #[] 0))
  have hmm := @run_makeMap Try.prog
  go_enter Try.func29, Try.ntmps29
  go_wp2_with (first
    | (refine wpList_afill rfl _ _ _ rfl w.heap.size _ rfl M.out (by decide) 0 false true (by decide) rfl rfl ?_; intro w1 hm1 hg1; replace B := Lib.hid (B.out.grown hg1 B.out.size (fun k hk => by injection hk with hk; omega)); replace M := Lib.hid hm1; clear hm1 hg1)
    | (refine wpList_afill rfl _ _ _ rfl w.heap.size _ rfl M.out (by decide) 7 true false (by decide) rfl rfl ?_; intro w1 hm1 hg1; replace B := Lib.hid (B.out.grown hg1 B.out.size (fun k hk => by injection hk with hk; omega)); replace M := Lib.hid hm1; clear hm1 hg1)
    | (refine wpList_afill rfl _ _ _ rfl w.heap.size _ rfl M.out (by decide) 9 true false (by decide) rfl rfl ?_; intro w1 hm1 hg1; replace B := Lib.hid (B.out.grown hg1 B.out.size (fun k hk => by injection hk with hk; omega)); replace M := Lib.hid hm1; clear hm1 hg1)
    | (refine wpList_afill rfl _ _ _ rfl w.heap.size _ rfl M.out (by decide) 25 true false (by decide) rfl rfl ?_; intro w1 hm1 hg1; replace B := Lib.hid (B.out.grown hg1 B.out.size (fun k hk => by injection hk with hk; omega)); replace M := Lib.hid hm1; clear hm1 hg1)
    | (refine wpList_afill rfl _ _ _ rfl w.heap.size _ rfl M.out (by decide) 101 true true (by decide) rfl rfl ?_; intro w1 hm1 hg1; replace B := Lib.hid (B.out.grown hg1 B.out.size (fun k hk => by injection hk with hk; omega)); replace M := Lib.hid hm1; clear hm1 hg1)
    | (refine wpList_afill rfl _ _ _ rfl w.heap.size _ rfl M.out (by decide) 167 false true (by decide) rfl rfl ?_; intro w1 hm1 hg1; replace B := Lib.hid (B.out.grown hg1 B.out.size (fun k hk => by injection hk with hk; omega)); replace M := Lib.hid hm1; clear hm1 hg1))
  go_ret
  exact ⟨_, rfl, M.out, B.out⟩

set_option maxHeartbeats 4000000 in
theorem echeck_kind (c s : Nat) (hc : c < 256) (hs : atB ettab c = (false, false, false)) (w : World) :
    Calls Try.prog 21 #[.int .u8 (c : Int), .int .u16 (s : Int)] w fun e w' => e = .returned (.int .i64 8) ∧ Below w.heap.size w w' := by
  have HS := Lib.hid hs
  clear hs
  go_enter Try.func21, Try.ntmps21
  go_wp2_with (first
    | (go_at_call 29; (with_reducible refine (esessions_any _).mono ?_); rintro e wn ⟨b, rfl, hm, hb⟩; have M := Lib.hid hm; have B := Lib.hid hb; clear hm hb)
    | (refine wpList_aseek rfl _ _ rfl _ _ rfl M.out c false false false hc rfl HS.out ?_))
  go_ret
  exact ⟨rfl, B.out.alloc B.out.size _⟩

set_option maxHeartbeats 4000000 in
theorem echeck_s0 (c s : Nat) (hc : c < 256) (hs : atB ettab c = (false, true, true)) (hz : s = 0) (w : World) :
    Calls Try.prog 21 #[.int .u8 (c : Int), .int .u16 (s : Int)] w fun e w' => e = .returned (.int .i64 5) ∧ Below w.heap.size w w' := by
  have HS := Lib.hid hs
  clear hs
  subst hz
  go_enter Try.func21, Try.ntmps21
  go_wp2_with (first
    | (go_at_call 29; (with_reducible refine (esessions_any _).mono ?_); rintro e wn ⟨b, rfl, hm, hb⟩; have M := Lib.hid hm; have B := Lib.hid hb; clear hm hb)
    | (refine wpList_aseek rfl _ _ rfl _ _ rfl M.out c false true true hc rfl HS.out ?_))
  go_ret
  exact ⟨rfl, B.out.alloc B.out.size _⟩

set_option maxHeartbeats 4000000 in
theorem echeck_s1 (c s : Nat) (hc : c < 256) (hs : atB ettab c = (false, true, true)) (hz : ¬ s = 0) (w : World) :
    Calls Try.prog 21 #[.int .u8 (c : Int), .int .u16 (s : Int)] w fun e w' => e = .returned (.int .i64 0) ∧ Below w.heap.size w w' := by
  have HS := Lib.hid hs
  clear hs
  have j1 : ((s : Int) == 0) = false := by simp; omega
  have j2 : ((s : Int) != 0) = true := by simp; omega
  have j3 : ¬ (s : Int) = 0 := by omega
  clear hz
  go_enter Try.func21, Try.ntmps21
  go_wp2_with (first
    | (go_at_call 29; (with_reducible refine (esessions_any _).mono ?_); rintro e wn ⟨b, rfl, hm, hb⟩; have M := Lib.hid hm; have B := Lib.hid hb; clear hm hb)
    | (refine wpList_aseek rfl _ _ rfl _ _ rfl M.out c false true true hc rfl HS.out ?_))
  go_ret
  exact ⟨rfl, B.out.alloc B.out.size _⟩

set_option maxHeartbeats 4000000 in
theorem echeck_n0 (c s : Nat) (hc : c < 256) (hs : atB ettab c = (true, false, true)) (hz : s = 0) (w : World) :
    Calls Try.prog 21 #[.int .u8 (c : Int), .int .u16 (s : Int)] w fun e w' => e = .returned (.int .i64 0) ∧ Below w.heap.size w w' := by
  have HS := Lib.hid hs
  clear hs
  subst hz
  go_enter Try.func21, Try.ntmps21
  go_wp2_with (first
    | (go_at_call 29; (with_reducible refine (esessions_any _).mono ?_); rintro e wn ⟨b, rfl, hm, hb⟩; have M := Lib.hid hm; have B := Lib.hid hb; clear hm hb)
    | (refine wpList_aseek rfl _ _ rfl _ _ rfl M.out c true false true hc rfl HS.out ?_))
  go_ret
  exact ⟨rfl, B.out.alloc B.out.size _⟩

set_option maxHeartbeats 4000000 in
theorem echeck_n1 (c s : Nat) (hc : c < 256) (hs : atB ettab c = (true, false, true)) (hz : ¬ s = 0) (w : World) :
    Calls Try.prog 21 #[.int .u8 (c : Int), .int .u16 (s : Int)] w fun e w' => e = .returned (.int .i64 5) ∧ Below w.heap.size w w' := by
  have HS := Lib.hid hs
  clear hs
  have j1 : ((s : Int) == 0) = false := by simp; omega
  have j2 : ((s : Int) != 0) = true := by simp; omega
  have j3 : ¬ (s : Int) = 0 := by omega
  clear hz
  go_enter Try.func21, Try.ntmps21
  go_wp2_with (first
    | (go_at_call 29; (with_reducible refine (esessions_any _).mono ?_); rintro e wn ⟨b, rfl, hm, hb⟩; have M := Lib.hid hm; have B := Lib.hid hb; clear hm hb)
    | (refine wpList_aseek rfl _ _ rfl _ _ rfl M.out c true false true hc rfl HS.out ?_))
  go_ret
  exact ⟨rfl, B.out.alloc B.out.size _⟩

set_option maxHeartbeats 4000000 in
theorem echeck_b0 (c s : Nat) (hc : c < 256) (hs : atB ettab c = (true, true, true)) (hz : s = 0) (w : World) :
    Calls Try.prog 21 #[.int .u8 (c : Int), .int .u16 (s : Int)] w fun e w' => e = .returned (.int .i64 0) ∧ Below w.heap.size w w' := by
  have HS := Lib.hid hs
  clear hs
  subst hz
  go_enter Try.func21, Try.ntmps21
  go_wp2_with (first
    | (go_at_call 29; (with_reducible refine (esessions_any _).mono ?_); rintro e wn ⟨b, rfl, hm, hb⟩; have M := Lib.hid hm; have B := Lib.hid hb; clear hm hb)
    | (refine wpList_aseek rfl _ _ rfl _ _ rfl M.out c true true true hc rfl HS.out ?_))
  go_ret
  exact ⟨rfl, B.out.alloc B.out.size _⟩

set_option maxHeartbeats 4000000 in
theorem echeck_b1 (c s : Nat) (hc : c < 256) (hs : atB ettab c = (true, true, true)) (hz : ¬ s = 0) (w : World) :
    Calls Try.prog 21 #[.int .u8 (c : Int), .int .u16 (s : Int)] w fun e w' => e = .returned (.int .i64 0) ∧ Below w.heap.size w w' := by
  have HS := Lib.hid hs
  clear hs
  have j1 : ((s : Int) == 0) = false := by simp; omega
  have j2 : ((s : Int) != 0) = true := by simp; omega
  have j3 : ¬ (s : Int) = 0 := by omega
  clear hz
  go_enter Try.func21, Try.ntmps21
  go_wp2_with (first
    | (go_at_call 29; (with_reducible refine (esessions_any _).mono ?_); rintro e wn ⟨b, rfl, hm, hb⟩; have M := Lib.hid hm; have B := Lib.hid hb; clear hm hb)
    | (refine wpList_aseek rfl _ _ rfl _ _ rfl M.out c true true true hc rfl HS.out ?_))
  go_ret
  exact ⟨rfl, B.out.alloc B.out.size _⟩

theorem echeck_any (c s : Nat) (hc : c < 256) (k : Nat) (hk : ecode c s = k) (w : World) :
    Calls Try.prog 21 #[.int .u8 (c : Int), .int .u16 (s : Int)] w fun e w' => e = .returned (.int .i64 (k : Int)) ∧ Below w.heap.size w w' := by
  subst hk
  by_cases h : c = 0 ∨ c = 7 ∨ c = 9 ∨ c = 25 ∨ c = 101 ∨ c = 167
  · by_cases hs : s = 0
    · rcases h with rfl | rfl | rfl | rfl | rfl | rfl
      · rw [show ecode 0 s = 5 by simp [ecode, hs]]; exact echeck_s0 0 s hc rfl hs w
      · rw [show ecode 7 s = 0 by simp [ecode, hs]]; exact echeck_n0 7 s hc rfl hs w
      · rw [show ecode 9 s = 0 by simp [ecode, hs]]; exact echeck_n0 9 s hc rfl hs w
      · rw [show ecode 25 s = 0 by simp [ecode, hs]]; exact echeck_n0 25 s hc rfl hs w
      · rw [show ecode 101 s = 0 by simp [ecode]]; exact echeck_b0 101 s hc rfl hs w
      · rw [show ecode 167 s = 5 by simp [ecode, hs]]; exact echeck_s0 167 s hc rfl hs w
    · rcases h with rfl | rfl | rfl | rfl | rfl | rfl
      · rw [show ecode 0 s = 0 by simp [ecode, hs]]; exact echeck_s1 0 s hc rfl hs w
      · rw [show ecode 7 s = 5 by simp [ecode, hs]]; exact echeck_n1 7 s hc rfl hs w
      · rw [show ecode 9 s = 5 by simp [ecode, hs]]; exact echeck_n1 9 s hc rfl hs w
      · rw [show ecode 25 s = 5 by simp [ecode, hs]]; exact echeck_n1 25 s hc rfl hs w
      · rw [show ecode 101 s = 0 by simp [ecode]]; exact echeck_b1 101 s hc rfl hs w
      · rw [show ecode 167 s = 0 by simp [ecode, hs]]; exact echeck_s1 167 s hc rfl hs w
  · rw [show ecode c s = 8 by simp only [not_or] at h; obtain ⟨h1, h2, h3, h4, h5, h6⟩ := h; simp [ecode, h1, h2, h3, h4, h5, h6]]
    exact echeck_kind c s hc (ettab_no h) w
end Go.Proofs.Ytmhjnghomihjlaa
