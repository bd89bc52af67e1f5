/-
  Lists of options, as lists: how they are written, what octets are as options; what is written is read so, and the other way round; one behind the other. Mathematics alone. Options as elements of a row: a type, and data, in two cells. No condition. What the small calls of layer 12 answer: size, long, equal, first, Size, Put's search for data that are too long. No condition beyond: sizes below 2^47. What the calls of layer 12 answer that go over lists: Size, Put's search for data that are too long, Same. No condition beyond: lists of at most 2^38 options. What Put answers, the program's and the document's. No condition beyond: lists of at most 2^38 options, with at most 2^36 octets. What Get answers, the program's and the document's. No condition beyond: at most 2^30 octets. What the document's Same and the program's Find answer. No condition beyond: lists of at most 2^38 options, data of at most 2^36 octets. What the law's own helpers answer: Of, To, of layer 12. No condition beyond: lists of at most 2^30 options. What Few and speaks of layer 12 answer. No condition beyond: lists of at most 2^47 options, each with at most 2^47 octets. An argument that is a slice of options, opened: what its elements read as, and that it is of the form's own reach. No condition. The calls of layer 12 as the laws' walks want them: results by name. No condition beyond: at most 2^30 octets and options.
-/
import Derived.Test.YtmhjnghomihjlaaGWord
import Derived.WalkMore
import Derived.Deep.RegionHeld3
import Derived.BigQuiet
import Derived.ProofKit
import Derived.OpenShut
import Derived.Deep.Matrix
import Derived.Deep.Fields
import Derived.SizedLaws
namespace Go.Proofs.Ytmhjnghomihjlaa
section
set_option maxRecDepth 4000

/-- An option as it is written. -/
def encB (o : Nat × List Nat) : List Nat := o.1 :: (2 + o.2.length) :: o.2
/-- Options as they are written. -/
def putB (l : List (Nat × List Nat)) : List Nat := l.flatMap encB
/-- Has one more than 253 octets? -/
def longB (l : List (Nat × List Nat)) : Bool := l.any fun o => decide (253 < o.2.length)
/-- How many octets all options have. -/
def datB (l : List (Nat × List Nat)) : Nat := (l.map fun o => o.2.length).sum
/-- Types and data of bytes. -/
def ByO (l : List (Nat × List Nat)) : Prop := ∀ o ∈ l, o.1 < 256 ∧ By o.2
/-- How many octets the first option has, and an error's number. -/
def stepB : List Nat → Nat × Nat
  | [] => (0, 2)
  | [_] => (0, 2)
  | _ :: y :: t => if y < 2 then (0, 4) else if t.length + 2 < y then (0, 2) else (y, 0)
/-- Options ahead of what the rest is. -/
def addB (acc : List (Nat × List Nat)) (r : List (Nat × List Nat) × Nat) : List (Nat × List Nat) × Nat := if r.2 = 0 then (acc ++ r.1, 0) else ([], r.2)
/-- What octets are, in at most so many steps. -/
def getF : Nat → List Nat → List (Nat × List Nat) × Nat
  | 0, _ => ([], 0)
  | n + 1, b => if b = [] then ([], 0) else if (stepB b).2 = 0 then addB [(b.headD 0, (b.take (stepB b).1).drop 2)] (getF n (b.drop (stepB b).1)) else ([], (stepB b).2)
/-- What octets are: options, and an error's number. -/
def getB (b : List Nat) : List (Nat × List Nat) × Nat := getF b.length b

theorem step_ok {b : List Nat} (h : (stepB b).2 = 0) : 2 ≤ (stepB b).1 ∧ (stepB b).1 ≤ b.length ∧ b[1]? = some (stepB b).1 := by
  match b with
  | [] => simp [stepB] at h
  | [_] => simp [stepB] at h
  | _ :: y :: t =>
    simp only [stepB] at h ⊢
    split at h
    · simp at h
    · rename_i h1
      split at h
      · simp at h
      · rename_i h2
        simp only [h1, h2, if_false]
        exact ⟨by omega, by simp only [List.length_cons]; omega, rfl⟩
theorem getF_more : ∀ (n : Nat) (b : List Nat), b.length ≤ n → getF n b = getF b.length b
  | 0, b, h => by rw [show b.length = 0 by omega]
  | n + 1, b, h => by
    match b with
    | [] => rfl
    | x :: t =>
      show getF (n + 1) (x :: t) = getF (t.length + 1) (x :: t)
      by_cases hs : (stepB (x :: t)).2 = 0
      · have h2 := step_ok hs
        simp only [getF, hs, if_true, reduceCtorEq, if_false]
        have e : ((x :: t).drop (stepB (x :: t)).1).length ≤ t.length := by rw [List.length_drop, List.length_cons]; omega
        have e2 : t.length ≤ n := by simpa using h
        rw [getF_more n _ (Nat.le_trans e e2), ← getF_more t.length _ e]
      · simp only [getF, hs, reduceCtorEq, if_false]
termination_by n => n
decreasing_by
  all_goals simp_all
  all_goals omega
theorem get_nil : getB [] = ([], 0) := rfl
theorem get_bad {b : List Nat} (hb : b ≠ []) (h : (stepB b).2 ≠ 0) : getB b = ([], (stepB b).2) := by
  match b, hb with
  | x :: t, _ =>
    show getF (t.length + 1) (x :: t) = _
    simp only [getF, h, reduceCtorEq, if_false]
theorem get_ok {b : List Nat} (h : (stepB b).2 = 0) : getB b = addB [(b.headD 0, (b.take (stepB b).1).drop 2)] (getB (b.drop (stepB b).1)) := by
  have h2 := step_ok h
  match b with
  | [] => simp [stepB] at h
  | x :: t =>
    show getF (t.length + 1) (x :: t) = _
    simp only [getF, h, if_true, reduceCtorEq, if_false]
    rw [getF_more t.length _ (by rw [List.length_drop, List.length_cons]; omega)]
    rfl
theorem add_add (a c : List (Nat × List Nat)) (r : List (Nat × List Nat) × Nat) : addB a (addB c r) = addB (a ++ c) r := by
  unfold addB
  split <;> simp_all
theorem add_nil (r : List (Nat × List Nat) × Nat) (h : r.2 ≠ 0 → r.1 = []) : addB [] r = r := by
  unfold addB
  split
  · rename_i h0; rw [← h0]; rfl
  · rename_i h0; rw [← h h0]
/-- Octets, by their first option. -/
theorem get_ind (C : List Nat → Prop) (h0 : C []) (h1 : ∀ b, b ≠ [] → (stepB b).2 ≠ 0 → C b) (h2 : ∀ b, (stepB b).2 = 0 → C (b.drop (stepB b).1) → C b) : ∀ b, C b := by
  have key : ∀ n (b : List Nat), b.length ≤ n → C b := by
    intro n
    induction n with
    | zero => intro b hb; obtain rfl : b = [] := List.eq_nil_of_length_eq_zero (by omega); exact h0
    | succ n ih =>
      intro b hb
      by_cases hn : b = []
      · rw [hn]; exact h0
      · by_cases hs : (stepB b).2 = 0
        · have := step_ok hs
          exact h2 b hs (ih _ (by rw [List.length_drop]; omega))
        · exact h1 b hn hs
  exact fun b => key _ b (Nat.le_refl _)
theorem get_err (b : List Nat) : (getB b).2 ≠ 0 → (getB b).1 = [] := by
  refine get_ind (fun b => (getB b).2 ≠ 0 → (getB b).1 = []) (fun h => rfl) (fun b hb hs _ => by rw [get_bad hb hs]) (fun b hs ih h => ?_) b
  rw [get_ok hs] at h ⊢
  unfold addB at h ⊢
  split at h
  · simp at h
  · rename_i h3; rw [if_neg h3]
theorem get_code (b : List Nat) : (getB b).2 = 0 ∨ (getB b).2 = 2 ∨ (getB b).2 = 4 := by
  refine get_ind (fun b => (getB b).2 = 0 ∨ (getB b).2 = 2 ∨ (getB b).2 = 4) (.inl rfl) (fun b hb hs => ?_) (fun b hs ih => ?_) b
  · rw [get_bad hb hs]
    match b, hb with
    | [_], _ => exact .inr (.inl rfl)
    | _ :: y :: t, _ =>
      simp only [stepB] at hs ⊢
      split at hs
      · rename_i h1; rw [if_pos h1]; exact .inr (.inr rfl)
      · rename_i h1
        rw [if_neg h1]
        split at hs
        · rename_i h2; rw [if_pos h2]; exact .inr (.inl rfl)
        · simp at hs
  · rw [get_ok hs]
    unfold addB
    split
    · exact .inl rfl
    · exact ih
/-- Octets behind octets that are options. -/
theorem get_app (b d : List Nat) (h : (getB b).2 = 0) : getB (b ++ d) = addB (getB b).1 (getB d) := by
  revert h
  refine get_ind (fun b => (getB b).2 = 0 → getB (b ++ d) = addB (getB b).1 (getB d)) (fun _ => ?_) (fun b hb hs h => ?_) (fun b hs ih h => ?_) b
  · rw [get_nil]
    show getB d = _
    rw [add_nil _ (get_err d)]
  · rw [get_bad hb hs] at h
    exact absurd h hs
  · have hk := step_ok hs
    have hsb : stepB (b ++ d) = stepB b := by
      match b with
      | [] => simp [stepB] at hs
      | [_] => simp [stepB] at hs
      | x :: y :: t =>
        simp only [stepB, List.cons_append, List.length_append] at hs ⊢
        split
        · rfl
        · rename_i h1
          rw [if_neg h1] at hs
          split at hs
          · simp at hs
          · rename_i h2; rw [if_neg h2, if_neg (by omega)]
    have hr : (getB (b.drop (stepB b).1)).2 = 0 := by
      rw [get_ok hs] at h
      unfold addB at h
      split at h
      · assumption
      · exact h
    rw [get_ok (b := b ++ d) (by rw [hsb]; exact hs), hsb, List.drop_append_of_le_length hk.2.1, List.take_append_of_le_length hk.2.1, ih hr, add_add]
    have hh : (b ++ d).headD 0 = b.headD 0 := by
      match b with
      | [] => simp [stepB] at hs
      | _ :: _ => rfl
    rw [hh, get_ok hs]
    congr 1
    unfold addB
    rw [if_pos hr]
theorem put_nil : putB [] = [] := rfl
theorem put_cons (o : Nat × List Nat) (l : List (Nat × List Nat)) : putB (o :: l) = encB o ++ putB l := rfl
theorem put_app (l m : List (Nat × List Nat)) : putB (l ++ m) = putB l ++ putB m := by simp [putB]
theorem long_app (l m : List (Nat × List Nat)) : longB (l ++ m) = (longB l || longB m) := by simp [longB]
theorem put_len (l : List (Nat × List Nat)) : (putB l).length = 2 * l.length + datB l := by
  induction l with
  | nil => rfl
  | cons o l ih =>
    rw [put_cons, List.length_append, ih]
    simp only [encB, List.length_cons, datB, List.map_cons, List.sum_cons]
    omega
theorem enc_step (o : Nat × List Nat) (r : List Nat) : stepB (encB o ++ r) = (2 + o.2.length, 0) := by
  simp only [encB, List.cons_append, stepB]
  rw [if_neg (by omega), if_neg (by rw [List.length_append]; omega)]
/-- What is written is read so. -/
theorem get_put (l : List (Nat × List Nat)) : getB (putB l) = (l, 0) := by
  induction l with
  | nil => rfl
  | cons o l ih =>
    have hs := enc_step o (putB l)
    rw [put_cons, get_ok (by rw [hs]), hs]
    have hl : (encB o).length = 2 + o.2.length := by simp only [encB, List.length_cons]; omega
    show addB [((encB o ++ putB l).headD 0, ((encB o ++ putB l).take (2 + o.2.length)).drop 2)] (getB ((encB o ++ putB l).drop (2 + o.2.length))) = (o :: l, 0)
    rw [← hl, List.drop_left, List.take_left, ih]
    rfl
/-- What is read is written so. -/
theorem put_get (b : List Nat) (hb : By b) (h : (getB b).2 = 0) : putB (getB b).1 = b ∧ longB (getB b).1 = false ∧ ByO (getB b).1 := by
  revert hb h
  refine get_ind (fun b => By b → (getB b).2 = 0 → putB (getB b).1 = b ∧ longB (getB b).1 = false ∧ ByO (getB b).1) (fun _ _ => ⟨rfl, rfl, fun _ h => by cases h⟩) (fun b hb hs _ h => ?_) (fun b hs ih hb h => ?_) b
  · rw [get_bad hb hs] at h
    exact absurd h hs
  · have hk := step_ok hs
    have hr : (getB (b.drop (stepB b).1)).2 = 0 := by
      rw [get_ok hs] at h
      unfold addB at h
      split at h
      · assumption
      · exact h
    obtain ⟨i1, i2, i3⟩ := ih (hb.drop _) hr
    rw [get_ok hs]
    unfold addB
    rw [if_pos hr]
    generalize he : (stepB b).1 = e at *
    have hlen : ((b.take e).drop 2).length = e - 2 := by rw [List.length_drop, List.length_take]; omega
    have he2 : e < 256 := hb.get hk.2.2
    refine ⟨?_, ?_, ?_⟩
    · show putB ((b.headD 0, (b.take e).drop 2) :: (getB (b.drop e)).1) = b
      rw [put_cons, i1]
      match b, hk with
      | x :: y :: t, hk =>
        have hy : y = e := by have := hk.2.2; simpa using this
        subst hy
        have h2 : y = (y - 2) + 2 := by omega
        simp only [encB, hlen, List.headD_cons]
        rw [show 2 + (y - 2) = y by omega]
        conv => lhs; rw [h2]
        rw [List.take_succ_cons, List.take_succ_cons, List.drop_succ_cons, List.drop_succ_cons, List.drop_succ_cons, List.drop_succ_cons, List.drop_zero]
        rw [← h2]
        simp
    · show longB ((b.headD 0, (b.take e).drop 2) :: (getB (b.drop e)).1) = false
      have : ¬ 253 < ((b.take e).drop 2).length := by omega
      simp only [longB, List.any_cons, Bool.or_eq_false_iff, decide_eq_false_iff_not]
      exact ⟨this, i2⟩
    · show ByO ((b.headD 0, (b.take e).drop 2) :: (getB (b.drop e)).1)
      intro o ho
      rcases List.mem_cons.1 ho with rfl | ho
      · refine ⟨?_, (hb.take e).drop 2⟩
        match b, hk with
        | x :: _, _ => exact hb x (List.mem_cons_self ..)
      · exact i3 o ho
theorem ByO.app {l m : List (Nat × List Nat)} (h : ByO l) (k : ByO m) : ByO (l ++ m) := fun o ho => (List.mem_append.1 ho).elim (h o) (k o)
theorem put_by {l : List (Nat × List Nat)} (h : ByO l) (hl : longB l = false) : By (putB l) := by
  induction l with
  | nil => exact By.nil
  | cons o l ih =>
    have hl' : ¬ 253 < o.2.length ∧ longB l = false := by simpa only [longB, List.any_cons, Bool.or_eq_false_iff, decide_eq_false_iff_not] using hl
    rw [put_cons]
    refine By.app ?_ (ih (fun x hx => h x (List.mem_cons_of_mem _ hx)) hl'.2)
    intro x hx
    have ho := h o (List.mem_cons_self ..)
    rcases List.mem_cons.1 hx with rfl | hx
    · exact ho.1
    · rcases List.mem_cons.1 hx with rfl | hx
      · omega
      · exact ho.2 x hx
/-- Options that octets are have fewer octets. -/
theorem get_len (b : List Nat) (hb : By b) : 2 * (getB b).1.length + datB (getB b).1 ≤ b.length := by
  by_cases h : (getB b).2 = 0
  · rw [← put_len, (put_get b hb h).1]; exact Nat.le_refl _
  · rw [get_err b h]; exact Nat.zero_le _
theorem dat_app (l m : List (Nat × List Nat)) : datB (l ++ m) = datB l + datB m := by simp [datB]
theorem dat_at {l : List (Nat × List Nat)} {k : Nat} {o : Nat × List Nat} (h : l[k]? = some o) : datB (l.take (k + 1)) = datB (l.take k) + o.2.length := by
  rw [List.take_add_one, h, Option.toList_some, dat_app]; simp [datB]
theorem dat_take (l : List (Nat × List Nat)) (k : Nat) : datB (l.take k) ≤ datB l := by
  have e : datB l = datB (l.take k) + datB (l.drop k) := by rw [← dat_app, List.take_append_drop]
  omega
theorem dat_le {l : List (Nat × List Nat)} {k : Nat} {o : Nat × List Nat} (h : l[k]? = some o) : o.2.length ≤ datB l := by
  have := dat_at h; have := dat_take l (k + 1); omega
theorem put_at {l : List (Nat × List Nat)} {k : Nat} {o : Nat × List Nat} (h : l[k]? = some o) : putB (l.take (k + 1)) = putB (l.take k) ++ encB o := by
  rw [List.take_add_one, h, Option.toList_some, put_app]; simp [putB]
theorem ByO.at_ {l : List (Nat × List Nat)} (h : ByO l) {k : Nat} {o : Nat × List Nat} (hk : l[k]? = some o) : o.1 < 256 ∧ By o.2 := h o (List.mem_of_getElem? hk)
theorem long_at {l : List (Nat × List Nat)} (h : longB l = false) {k : Nat} {o : Nat × List Nat} (hk : l[k]? = some o) : o.2.length ≤ 253 := by
  have := List.any_eq_false.1 h o (List.mem_of_getElem? hk)
  simpa using this
end

section
set_option maxRecDepth 4000
open Go.RowKit

/-- Options as elements. -/
def shO : Sh (Nat × List Nat) where
  sz := 2
  S F w x cs := ∃ A c, cs = [.int .u8 (x.1 : Int), .slice A x.2.length c] ∧ x.2.length ≤ c ∧ RdF F w A x.2
  len := by rintro _ _ _ _ ⟨A, c, rfl, _⟩; rfl
  one := by rintro _ _ _ _ ⟨A, c, rfl, _⟩ u hu; simp at hu; rcases hu with rfl | rfl <;> rfl
  keep := by rintro _ _ _ _ _ ⟨A, c, h1, h2, h3⟩ hk; exact ⟨A, c, h1, h2, h3.keep hk⟩
  mono := by rintro _ _ _ _ _ ⟨A, c, h1, h2, h3⟩ hF; exact ⟨A, c, h1, h2, h3.mono hF⟩

/-- An option of a slice of options. -/
theorem Rws.opt {F : Nat → Prop} {w : World} {A : Option Addr} {l : List (Nat × List Nat)} (h : Rws shO F w A l) {k : Nat} (hk : k < l.length) :
    ∃ b off o Ak ck, A = some ⟨b, off, none⟩ ∧ b < w.heap.size ∧ l[k]? = some o ∧ w.cell? ⟨b, off + k * 2, none⟩ = some (.int .u8 (o.1 : Int)) ∧ w.cell? ⟨b, off + k * 2 + 1, none⟩ = some (.slice Ak o.2.length ck) ∧ o.2.length ≤ ck ∧ RdF F w Ak o.2 := by
  obtain ⟨b, off, o, cs, h1, h2, h3, ⟨Ak, ck, rfl, h4, h5⟩, h6⟩ := h.at_ hk
  exact ⟨b, off, o, Ak, ck, h1, h2, h3, h6 0 _ rfl, h6 1 _ rfl, h4, h5⟩
/-- One option in a new block. -/
theorem lito {F : Nat → Prop} (w : World) {T : TypeId} {A : Option Addr} {n c : Nat} {t : Nat} {l : List Nat} (hl : l.length = n) (hc : n ≤ c) (h : RdF F w A l) :
    Orw shO T F w.heap.size (w.alloc (.cells #[.int .u8 (t : Int), .slice A n c] T)) (.slice (some ⟨w.heap.size, 0, none⟩) 1 1) [(t, l)] := by
  subst hl
  refine Orw.lit w [[.int .u8 (t : Int), .slice A l.length c]] rfl (fun k x cs hx hk => ?_) (by simp)
  rcases k with _ | k
  · injection hx with hx
    injection hk with hk
    subst hx; subst hk
    exact ⟨A, c, rfl, hc, h⟩
  · simp at hx
theorem Rws.nilO {F : Nat → Prop} {w : World} {A : Option Addr} : Rws shO F w A [] := fun h => absurd h (by simp)
end

section
set_option maxRecDepth 4000
open Go.RowKit

/-- An option as a value. -/
abbrev oV (t : Nat) (A : Option Addr) (n c : Nat) : Value := .agg #[.int .u8 (t : Int), .slice A n c]

set_option maxHeartbeats 400000 in
theorem osize_any (t n c : Nat) (A : Option Addr) (w : World) (hn : n ≤ 140737488351232) :
    Calls Try.prog 81 #[oV t A n c] w fun e w' => e = .returned (.int .i64 ((2 + n : Nat) : Int)) ∧ Below w.heap.size w w' := by
  go_enter Try.func81, Try.ntmps81
  go_wp2
  go_ret
  exact ⟨rfl, (Below.refl _ _).alloc (Nat.le_refl _) _⟩

set_option maxHeartbeats 400000 in
theorem olong_any (t n c : Nat) (A : Option Addr) (w : World) :
    Calls Try.prog 79 #[oV t A n c] w fun e w' => e = .returned (.bool (decide (253 < n))) ∧ Below w.heap.size w w' := by
  have h2 : decide ((253 : Int) < (n : Int)) = decide (253 < n) := by rw [Bool.eq_iff_iff]; simp; omega
  have H2 := Lib.hid h2
  clear h2
  go_enter Try.func79, Try.ntmps79
  go_wp2
  go_ret
  exact ⟨by show Ending.returned (.bool (decide ((253 : Int) < (n : Int)))) = _; rw [H2.out], (Below.refl _ _).alloc (Nat.le_refl _) _⟩

set_option maxHeartbeats 400000 in
theorem oequal_any (t u n m c d : Nat) (A B : Option Addr) (a b : List Nat) (w : World) (ha : Rd w w.heap.size A a) (hb : Rd w w.heap.size B b) (hA : By a) (hB : By b) (hn : a.length = n) (hm : b.length = m) :
    Calls Try.prog 42 #[oV t A n c, oV u B m d] w fun e w' => e = .returned (.bool (decide ((t, a) = (u, b)))) ∧ Below w.heap.size w w' := by
  have hbe : Below w.heap.size w ((w.alloc (.cells #[.int .u8 (t : Int), .slice A n c] 70)).alloc (.cells #[.int .u8 (u : Int), .slice B m d] 70)) := ((Below.refl w.heap.size w).alloc (Nat.le_refl _) _).alloc (by simp) _
  have HB := Lib.hid hbe
  have ha2 := Lib.hid (ha.on hbe)
  have hb2 := Lib.hid (hb.on hbe)
  clear hbe
  by_cases h : t = u
  · have h1 : ((t : Int) == (u : Int)) = true := by simp [h]
    have E := Lib.hid (show decide ((t, a) = (u, b)) = decide (a = b) by rw [Bool.eq_iff_iff]; simp [h])
    rw [E.out]
    have H := Lib.hid h
    clear h E
    go_enter Try.func42, Try.ntmps42
    go_wp2_with (go_at_call 28; (with_reducible refine (bequal_any a b n m A B c d _ _ ha2.out hb2.out hA hB hn hm).mono ?_); rintro e w' ⟨rfl, rfl⟩)
    go_ret
    exact ⟨rfl, HB.out⟩
  · have h1 : ((t : Int) == (u : Int)) = false := by simp; omega
    have E := Lib.hid (show decide ((t, a) = (u, b)) = false by simp [h])
    rw [E.out]
    have H := Lib.hid h
    clear h E
    go_enter Try.func42, Try.ntmps42
    go_wp2
    go_ret
    exact ⟨rfl, HB.out⟩
end

section
set_option maxRecDepth 4000
open Go.RowKit

set_option maxHeartbeats 1000000 in
theorem osz_any (l : List (Nat × List Nat)) (n c : Nat) (A : Option Addr) (F : Nat → Prop) (w : World) (h : Rws shO F w A l) (hl : l.length = n) (hn : n ≤ 274877906944) (hd : datB l ≤ 1099511627776) :
    Calls Try.prog 80 #[.slice A n c] w fun e w' => e = .returned (.int .i64 ((2 * n + datB l : Nat) : Int)) ∧ Below w.heap.size w w' := by
  have HL := Lib.hid hl
  have HD := Lib.hid (dat_take l)
  clear hl
  go_enter Try.func80, Try.ntmps80
  go_wp2_with fail
  go_loopw [3, 8] (fun s i wr => ∃ k q : Nat, k ≤ n ∧ i = .int .i64 k ∧ s = .int .i64 q ∧ Hid (2 * k + datB (l.take k) = q) ∧ Below w.heap.size w wr) (fun _ i _ => n - (intOf i).toNat)
  case atStart => exact ⟨0, 0, Nat.zero_le _, rfl, rfl, Lib.hid rfl, Below.refl _ _⟩
  case round =>
    obtain ⟨k, q, hk, rfl, rfl, hq, hbel⟩ := hrel
    have hq1 : q ≤ 2 * 274877906944 + 1099511627776 := by have := HD.out k; have := hq.out; omega
    by_cases hlt : k < n
    · obtain ⟨b, o, x, A3, c3, rfl, hb3, hx, h3, h4, h5, h6⟩ := (h.below hbel).opt (k := k) (by rw [HL.out]; exact hlt)
      have hxl : x.2.length ≤ 1099511627776 := Nat.le_trans (dat_le hx) hd
      have HQ := Lib.hid (show 2 * (k + 1) + datB (l.take (k + 1)) = q + (2 + x.2.length) by rw [dat_at hx, ← hq.out]; omega)
      have hq2 : q + (2 + x.2.length) ≤ 2 * 274877906944 + 1099511627776 := by have := HQ.out; have := HD.out (k + 1); omega
      clear hx h6
      have i1 : (0 : Int) ≤ k := by omega
      have i2 : (k : Int) < n := by omega
      go_wp2_with (go_at_call 81; (with_reducible refine (osize_any x.1 x.2.length c3 A3 _ (by omega)).mono ?_); rintro e w5 ⟨rfl, hb5⟩; have R2 := hbel.trans (((Below.refl _ _).alloc (Nat.le_refl _) _).trans (hb5.mono (by simp)) |>.mono hbel.size))
      go_roundw
      case rel => exact ⟨k + 1, q + (2 + x.2.length), by omega, by go_num, by go_num, HQ, R2⟩
      case measure => simp [intOf]; omega
    · go_wp2
      go_ret
      have he : k = n := by omega
      refine ⟨?_, hbel⟩
      have hz := hq.out
      rw [he, List.take_of_length_le (by rw [HL.out]; exact Nat.le_refl _)] at hz
      rw [hz]
      rfl

/-- A function as a value. -/
abbrev fvF (f : Nat) : Value := .func (.func f) #[] #[]

theorem long_take {l : List (Nat × List Nat)} {k : Nat} {x : Nat × List Nat} (h : l[k]? = some x) : longB (l.take (k + 1)) = (longB (l.take k) || decide (253 < x.2.length)) := by
  rw [List.take_add_one, h, Option.toList_some, long_app]; simp [longB]
theorem long_of {l : List (Nat × List Nat)} {k : Nat} {x : Nat × List Nat} (h : l[k]? = some x) (hx : decide (253 < x.2.length) = true) : longB l = true :=
  List.any_eq_true.2 ⟨x, List.mem_of_getElem? h, hx⟩

set_option maxHeartbeats 1000000 in
theorem oidx_any (l : List (Nat × List Nat)) (n c : Nat) (A : Option Addr) (F : Nat → Prop) (w : World) (h : Rws shO F w A l) (hl : l.length = n) (hn : n ≤ 274877906944) :
    Calls Try.prog 75 #[.slice A n c, fvF 79] w fun e w' => (∃ z : Int, e = .returned (.int .i64 z) ∧ Hid (decide (0 ≤ z) = longB l)) ∧ Below w.heap.size w w' := by
  have HL := Lib.hid hl
  clear hl
  go_enter Try.func75, Try.ntmps75
  go_wp2_with fail
  go_loopw [8] (fun i wr => ∃ k : Nat, k ≤ n ∧ i = .int .i64 k ∧ Hid (longB (l.take k) = false) ∧ Below w.heap.size w wr) (fun i _ => n - (intOf i).toNat)
  case atStart => exact ⟨0, Nat.zero_le _, rfl, Lib.hid rfl, Below.refl _ _⟩
  case round =>
    obtain ⟨k, hk, rfl, hf, hbel⟩ := hrel
    by_cases hlt : k < n
    · obtain ⟨b, o, x, A3, c3, rfl, hb3, hx, h3, h4, h5, h6⟩ := (h.below hbel).opt (k := k) (by rw [HL.out]; exact hlt)
      have HX := Lib.hid hx
      clear hx h6
      have i1 : (0 : Int) ≤ k := by omega
      have i2 : (k : Int) < n := by omega
      obtain ⟨t, ht⟩ : ∃ t, Hid (decide (253 < x.2.length) = t) := ⟨_, Lib.hid rfl⟩
      cases t
      · have R := Lib.hid (show longB (l.take (k + 1)) = false by rw [long_take HX.out, hf.out, ht.out]; rfl)
        go_wp2_with (go_at_call 79; (with_reducible refine (olong_any x.1 x.2.length c3 A3 _).mono ?_); rintro e w5 ⟨rfl, hb5⟩; rw [ht.out]; have R2 := hbel.trans (hb5.mono hbel.size))
        go_roundw
        case rel => exact ⟨k + 1, by omega, by go_num, R, R2⟩
        case measure => simp [intOf]; omega
      · go_wp2_with (go_at_call 79; (with_reducible refine (olong_any x.1 x.2.length c3 A3 _).mono ?_); rintro e w5 ⟨rfl, hb5⟩; rw [ht.out]; have R2 := hbel.trans (hb5.mono hbel.size))
        go_ret
        refine ⟨⟨k, rfl, Lib.hid ?_⟩, R2⟩
        rw [long_of HX.out ht.out]
        simp
    · go_wp2
      go_ret
      have he : k = n := by omega
      have hf2 := hf.out
      rw [he, List.take_of_length_le (by rw [HL.out]; exact Nat.le_refl _)] at hf2
      exact ⟨⟨-1, rfl, Lib.hid (by rw [hf2]; rfl)⟩, hbel⟩

set_option maxHeartbeats 1000000 in
theorem ocont_any (l : List (Nat × List Nat)) (n c : Nat) (A : Option Addr) (F : Nat → Prop) (w : World) (h : Rws shO F w A l) (hl : l.length = n) (hn : n ≤ 274877906944) :
    Calls Try.prog 71 #[.slice A n c, fvF 79] w fun e w' => e = .returned (.bool (longB l)) ∧ Below w.heap.size w w' := by
  go_enter Try.func71, Try.ntmps71
  go_wp2_with (go_at_call 75; (with_reducible refine (oidx_any l n c A F _ h hl hn).mono ?_); rintro e w5 ⟨⟨z, rfl, hz⟩, hb5⟩)
  go_ret
  exact ⟨by rw [← hz.out]; rfl, hb5⟩

theorem same_take {a b : List (Nat × List Nat)} {k : Nat} {x y : Nat × List Nat} (h : a.take k = b.take k) (hx : a[k]? = some x) (hy : b[k]? = some y) (e : decide (x = y) = true) : a.take (k + 1) = b.take (k + 1) := by
  rw [List.take_add_one, List.take_add_one, h, hx, hy, of_decide_eq_true e]
theorem same_ne {a b : List (Nat × List Nat)} {k : Nat} {x y : Nat × List Nat} (hx : a[k]? = some x) (hy : b[k]? = some y) (e : decide (x = y) = false) : a ≠ b := by
  rintro rfl
  rw [hx] at hy
  injection hy with h
  exact of_decide_eq_false e h

set_option maxHeartbeats 1000000 in
theorem oeqf_any (a b : List (Nat × List Nat)) (n m c d : Nat) (A B : Option Addr) (F G : Nat → Prop) (w : World) (ha : Rws shO F w A a) (hb : Rws shO G w B b) (hA : ByO a) (hB : ByO b) (hn : a.length = n) (hm : b.length = m) (hn1 : n ≤ 274877906944) :
    Calls Try.prog 41 #[.slice A n c, .slice B m d, fvF 42] w fun e w' => e = .returned (.bool (decide (a = b))) ∧ Below w.heap.size w w' := by
  by_cases hl : n = m
  · subst hl
    have hne : ((n : Int) != (n : Int)) = false := by simp
    have HN := Lib.hid hn
    have HM := Lib.hid hm
    clear hn hm
    go_enter Try.func41, Try.ntmps41
    go_wp2_with fail
    go_loopw [17] (fun i wr => ∃ k : Nat, k ≤ n ∧ i = .int .i64 k ∧ Hid (a.take k = b.take k) ∧ Below w.heap.size w wr) (fun i _ => n - (intOf i).toNat)
    case atStart => exact ⟨0, Nat.zero_le _, rfl, Lib.hid (by simp), Below.refl _ _⟩
    case round =>
      obtain ⟨k, hk, rfl, heq, hbel⟩ := hrel
      by_cases hlt : k < n
      · obtain ⟨ba, oa, x, A3, c3, rfl, hb3, hx, h3, h4, h5, h6⟩ := (ha.below hbel).opt (k := k) (by rw [HN.out]; exact hlt)
        obtain ⟨bb, ob, y, A4, c4, rfl, hb4, hy, g3, g4, g5, g6⟩ := (hb.below hbel).opt (k := k) (by rw [HM.out]; exact hlt)
        have hxb := (hA.at_ hx).2
        have hyb := (hB.at_ hy).2
        have HX := Lib.hid hx
        have HY := Lib.hid hy
        clear hx hy
        have H6 := Lib.hid h6.rd
        have G6 := Lib.hid g6.rd
        clear h6 g6
        have i1 : (0 : Int) ≤ k := by omega
        have i2 : (k : Int) < n := by omega
        have sb : Below wr.heap.size wr ((wr.alloc (.cells #[.int .u8 (x.1 : Int), .slice A3 x.2.length c3] 70)).alloc (.cells #[.int .u8 (y.1 : Int), .slice A4 y.2.length c4] 70)) := ((Below.refl wr.heap.size wr).alloc (Nat.le_refl _) _).alloc (by simp) _
        have SB := Lib.hid sb
        clear sb
        obtain ⟨t, ht⟩ : ∃ t, Hid (decide (x = y) = t) := ⟨_, Lib.hid rfl⟩
        cases t
        · go_wp2_with (go_at_call 42; (with_reducible refine (oequal_any x.1 y.1 x.2.length y.2.length c3 c4 A3 A4 x.2 y.2 _ (H6.out.on SB.out) (G6.out.on SB.out) hxb hyb rfl rfl).mono ?_); rintro e w5 ⟨rfl, hb5⟩; rw [show decide ((x.1, x.2) = (y.1, y.2)) = false from ht.out]; have R2 := hbel.trans ((SB.out.trans (hb5.mono SB.out.size)).mono hbel.size))
          go_ret
          exact ⟨by rw [decide_eq_false (same_ne HX.out HY.out ht.out)]; rfl, R2⟩
        · have R := Lib.hid (same_take heq.out HX.out HY.out ht.out)
          go_wp2_with (go_at_call 42; (with_reducible refine (oequal_any x.1 y.1 x.2.length y.2.length c3 c4 A3 A4 x.2 y.2 _ (H6.out.on SB.out) (G6.out.on SB.out) hxb hyb rfl rfl).mono ?_); rintro e w5 ⟨rfl, hb5⟩; rw [show decide ((x.1, x.2) = (y.1, y.2)) = true from ht.out]; have R2 := hbel.trans ((SB.out.trans (hb5.mono SB.out.size)).mono hbel.size))
          go_roundw
          case rel => exact ⟨k + 1, by omega, by go_num, R, R2⟩
          case measure => simp [intOf]; omega
      · go_wp2
        go_ret
        have he : k = n := by omega
        have hq := heq.out
        rw [he, List.take_of_length_le (by rw [HN.out]; exact Nat.le_refl _), List.take_of_length_le (by rw [HM.out]; exact Nat.le_refl _)] at hq
        exact ⟨by rw [decide_eq_true hq]; rfl, hbel⟩
  · have hne : ((n : Int) != (m : Int)) = true := by rw [bne_iff_ne]; omega
    have E := Lib.hid (show decide (a = b) = false from decide_eq_false fun e => hl (by rw [← hn, ← hm, e]))
    rw [E.out]
    clear E
    go_enter Try.func41, Try.ntmps41
    go_wp2
    go_ret
    exact ⟨rfl, Below.refl _ _⟩

set_option maxHeartbeats 1000000 in
theorem osame_any (a b : List (Nat × List Nat)) (n m c d : Nat) (A B : Option Addr) (F G : Nat → Prop) (w : World) (ha : Rws shO F w A a) (hb : Rws shO G w B b) (hA : ByO a) (hB : ByO b) (hn : a.length = n) (hm : b.length = m) (hn1 : n ≤ 274877906944) :
    Calls Try.prog 37 #[.slice A n c, .slice B m d] w fun e w' => e = .returned (.bool (decide (a = b))) ∧ Below w.heap.size w w' := by
  go_enter Try.func37, Try.ntmps37
  go_wp2_with (go_at_call 41; (with_reducible refine (oeqf_any a b n m c d A B F G _ ha hb hA hB hn hm hn1).mono ?_); rintro e w5 ⟨rfl, hb5⟩)
  go_ret
  exact ⟨rfl, hb5⟩
end

section
set_option maxRecDepth 4000
open Go.RowKit

/-- The octets that Put answers. -/
def putA (l : List (Nat × List Nat)) : List Nat := if longB l = true then [] else putB l
/-- The error's number that Put answers. -/
def errP (l : List (Nat × List Nat)) : Nat := if longB l = true then 3 else 0

/-- What a round of Put knows: its own row, and the option's own block. -/
structure PC (w W : World) (q : Nat) (T : TypeId) (t n : Nat) (A : Option Addr) (c : Nat) (v : Value) (m : Nat) (xs : List Nat) : Prop where
  bel : Below w.heap.size w W
  own : W.ownsRow w.heap.size 5 1 v m (bvs xs)
  blk : W.heap[q]? = some (.cells #[.int .u8 (t : Int), .slice A n c] T (0, 0))
section
variable {w W X W' : World} {q : Nat} {T : TypeId} {t n : Nat} {A : Option Addr} {c : Nat} {v v' : Value} {m m' : Nat} {xs xs' : List Nat}
theorem PC.cells (h : PC w W q T t n A c v m xs) : W.cell? ⟨q, 0, none⟩ = some (.int .u8 (t : Int)) ∧ W.cell? ⟨q, 1, none⟩ = some (.slice A n c) := by
  constructor
  · rw [cell_of_row W q 0 _ _ _ h.blk]; rfl
  · rw [cell_of_row W q 1 _ _ _ h.blk]; rfl
theorem PC.step (h : PC w W q T t n A c v m xs) (hb : Below X.heap.size X W') (hX : Below W.heap.size W X := by first | exact Below.refl _ _ | exact (Below.refl _ _).drew) : PC w W' q T t n A c v m xs := by
  have hb' : Below W.heap.size W W' := hX.trans (hb.mono hX.size)
  exact ⟨h.bel.trans (hb'.mono h.bel.size), own_below h.own hb', (hb'.block _ (Array.getElem?_eq_some_iff.1 h.blk).1).trans h.blk⟩
theorem PC.al (h : PC w W q T t n A c v m xs) (o : Obj) : PC w (W.alloc o) q T t n A c v m xs := h.step (X := W) ((Below.refl _ _).alloc (Nat.le_refl _) o)
theorem PC.app (h : PC w W q T t n A c v m xs) (hT : T ≠ 5) (ho : W'.ownsRow w.heap.size 5 1 v' m' (bvs xs')) (hg : W.grownBy W' v.ownBlock) : PC w W' q T t n A c v' m' xs' := by
  refine ⟨h.bel.grown hg h.bel.size (fun k hk => (h.own.lt k hk).1), ho, (hg.block q (Array.getElem?_eq_some_iff.1 h.blk).1 fun e => ?_).trans h.blk⟩
  obtain ⟨cur, hc⟩ := own_blk h.own (g := q) e.symm
  rw [h.blk] at hc
  injection hc with hc
  injection hc with _ hc
  exact hT hc
end
theorem bv_two {x y : Nat} : bvs [x, y] = [.int .u8 (x : Int), .int .u8 (y : Int)] := rfl

set_option maxHeartbeats 2000000 in
theorem oput_any (l : List (Nat × List Nat)) (n c : Nat) (A : Option Addr) (F : Nat → Prop) (w : World) (h : Rws shO F w A l) (hl : l.length = n) (hn : n ≤ 274877906944) (hd : datB l ≤ 68719476736) :
    Calls Try.prog 73 #[.slice A n c] w fun e w' => ∃ A' c' k, e = .returned (.tuple #[.slice A' k c', .int .i64 ((errP l : Nat) : Int)]) ∧ New w w' A' c' k (putA l) := by
  obtain ⟨i0, hi, hz0, hz1, hz2⟩ := info_parts byte_info
  have HL := Lib.hid hl
  have HD := Lib.hid (dat_take l)
  obtain ⟨z, hz⟩ : ∃ z, Hid (2 * n + datB l = z) := ⟨_, Lib.hid rfl⟩
  have hz9 : z ≤ 1099511627776 := by have := hz.out; omega
  cases hlg : longB l
  · have EP := Lib.hid (show errP l = 0 by unfold errP; rw [hlg]; rfl)
    have EA := Lib.hid (show putA l = putB l by unfold putA; rw [hlg]; rfl)
    have HLG := Lib.hid hlg
    rw [EP.out, EA.out]
    clear hl hlg EP EA
    go_enter Try.func73, Try.ntmps73
    go_wp2_with (first
      | (go_at_call 71; (with_reducible refine (ocont_any l n c A F _ h HL.out hn).mono ?_); rintro e w2 ⟨rfl, hb2⟩; rw [HLG.out]; have HB2 := Lib.hid hb2; clear hb2)
      | (go_at_call 80; (with_reducible refine (osz_any l n c A F _ (h.below HB2.out) HL.out hn (by omega)).mono ?_); rintro e w3 ⟨rfl, hb3⟩; rw [hz.out]; have HB3 := Lib.hid (HB2.out.trans (hb3.mono HB2.out.size)); clear hb3; obtain ⟨w4, hmk, hown4, hg4⟩ := run_make_own (P := Try.prog) w3 w.heap.size 26 5 i0 (.int .u8 0) 1 Try.underlying26 hi hz0 hz1 .i64 .i64 z (by rw [hz2]; omega) (by unfold maxLen; omega) HB3.out.size))
    have hbel4 := HB3.out.grown hg4 HB3.out.size (fun k hk => by cases hk)
    clear hg4 hmk
    go_loopw [4, 14] (fun v i wr => ∃ k m : Nat, k ≤ n ∧ i = .int .i64 k ∧ wr.ownsRow w.heap.size 5 1 v m (bvs (putB (l.take k))) ∧ Below w.heap.size w wr) (fun _ i _ => n - (intOf i).toNat)
    case atStart => exact ⟨0, 0, Nat.zero_le _, rfl, hown4, hbel4⟩
    case round =>
      clear hown4 hbel4
      obtain ⟨k, m, hk, rfl, hown, hbel⟩ := hrel
      have hm1 := hown.1
      rw [bvs_len, put_len] at hm1
      have hm2 : m ≤ 618475290624 := by have := HD.out k; have := List.length_take (i := k) (l := l); omega
      by_cases hlt : k < n
      · obtain ⟨b, o, x, A3, c3, rfl, hb3, hx, h3, h4, h5, h6⟩ := h.opt (k := k) (by rw [HL.out]; exact hlt)
        replace h3 := (hbel.cell (p := ⟨b, o + k * 2, none⟩) hb3).trans h3
        replace h4 := (hbel.cell (p := ⟨b, o + k * 2 + 1, none⟩) hb3).trans h4
        have hx253 := long_at HLG.out hx
        have H6 := Lib.hid h6.rd
        obtain ⟨y, hy⟩ : ∃ y, Hid (2 + x.2.length = y) := ⟨_, Lib.hid rfl⟩
        have hy2 : y ≤ 255 := by have := hy.out; omega
        have HE := Lib.hid (show putB (l.take (k + 1)) = putB (l.take k) ++ [x.1, y] ++ x.2 by rw [put_at hx, ← hy.out]; simp [encB])
        have C := Lib.hid (show PC w (wr.alloc (.cells #[.int .u8 (x.1 : Int), .slice A3 x.2.length c3] 70)) wr.heap.size 70 x.1 x.2.length A3 c3 _ m (putB (l.take k)) from ⟨hbel.alloc hbel.size _, own_below hown ((Below.refl _ _).alloc (Nat.le_refl _) _), heap_alloc_new _ _⟩)
        have HLT := Lib.hid (show ∀ wk : World, Rd (wk.alloc (.cells #[.int .u8 (x.1 : Int), .int .u8 (y : Int)] 5)) (wk.alloc (.cells #[.int .u8 (x.1 : Int), .int .u8 (y : Int)] 5)).heap.size (some ⟨wk.heap.size, 0, none⟩) [x.1, y] from fun wk => Rd.lit_ wk [x.1, y])
        have i1 : (0 : Int) ≤ k := by omega
        have i2 : (k : Int) < n := by omega
        have i4 : IntKind.u8.wrap (y : Int) = (y : Int) := by apply IntWalk.u8_in; omega
        clear h6 hx hown hm1
        go_wp2_with fail
        go_region_held3 (fun W => W.cell? ⟨wr.heap.size, 0, none⟩ = some (.int .u8 (x.1 : Int)) ∧ W.cell? ⟨wr.heap.size, 1, none⟩ = some (.slice A3 x.2.length c3)) (first | exact C.out.cells | exact (C.out.al _).cells) (first
          | (go_at_call 81; (with_reducible refine (osize_any x.1 x.2.length c3 A3 _ (by omega)).mono ?_); rintro e w5 ⟨rfl, hb5⟩; rw [hy.out]; replace C := Lib.hid (C.out.step hb5); clear hb5; dsimp only)
          | ((refine step_app _ (by rfl) _ _ _ (by rfl) _ i0 Try.underlying26 hi hz0 hz1 hz2 w.heap.size _ m (putB (l.take k)) (by rfl) (C.out.al _).own _ _ 2 _ [x.1, y] (by rfl) (HLT.out _) rfl (by omega) (C.out.al _).bel.size ?_); intro A6 c6 w6 ho6 hg6; replace C := Lib.hid ((C.out.al _).app (by decide) ho6 hg6); clear ho6 hg6; dsimp only))
        obtain ⟨f0, f1⟩ := C.out.cells
        go_wp2_with (at_builtin; refine list_app rfl _ _ _ rfl _ i0 Try.underlying26 hi hz0 hz1 hz2 _ _ (m + 2) _ rfl C.out.own w.heap.size _ x.2.length _ x.2 rfl (H6.out.below C.out.bel) rfl (by omega) C.out.bel.size ?_; intro A7 c7 w7 ho7 hg7; have R2 := C.out.bel.grown hg7 C.out.bel.size (fun g hg => (C.out.own.lt g hg).1))
        rw [← HE.out] at ho7
        go_roundw
        case rel => exact ⟨k + 1, _, by omega, by go_num, ho7, R2⟩
        case measure => simp [intOf]; omega
      · have he : k = n := by omega
        subst he
        rw [List.take_of_length_le (by rw [HL.out]; exact Nat.le_refl _)] at hown
        go_wp2_with fail
        go_ret2
        obtain ⟨A', c', rfl, hN⟩ := New.mk hown hbel
        exact ⟨A', c', m, rfl, hN⟩
  · have EP := Lib.hid (show errP l = 3 by unfold errP; rw [hlg]; rfl)
    have EA := Lib.hid (show putA l = [] by unfold putA; rw [hlg]; rfl)
    have HLG := Lib.hid hlg
    rw [EP.out, EA.out]
    clear hl hlg EP EA
    go_enter Try.func73, Try.ntmps73
    go_wp2_with (go_at_call 71; (with_reducible refine (ocont_any l n c A F _ h HL.out hn).mono ?_); rintro e w2 ⟨rfl, hb2⟩; rw [HLG.out])
    go_ret2
    exact ⟨none, 0, 0, rfl, rfl, World.ownsRow_nil _ _ _ _, Rd.nil, hb2⟩

/-- What a round of the document's Put knows: its own row, the cells of the option at hand. -/
structure RC (w W : World) (a0 a1 : Addr) (t n : Nat) (A : Option Addr) (c : Nat) (v : Value) (m : Nat) (xs : List Nat) : Prop where
  bel : Below w.heap.size w W
  own : W.ownsRow w.heap.size 5 1 v m (bvs xs)
  lt0 : a0.block < w.heap.size
  lt1 : a1.block < w.heap.size
  f0 : w.cell? a0 = some (.int .u8 (t : Int))
  f1 : w.cell? a1 = some (.slice A n c)
section
variable {w W X W' : World} {a0 a1 : Addr} {t n : Nat} {A : Option Addr} {c : Nat} {v v' : Value} {m m' : Nat} {xs xs' : List Nat}
theorem RC.cells (h : RC w W a0 a1 t n A c v m xs) : W.cell? a0 = some (.int .u8 (t : Int)) ∧ W.cell? a1 = some (.slice A n c) := ⟨(h.bel.cell h.lt0).trans h.f0, (h.bel.cell h.lt1).trans h.f1⟩
theorem RC.step (h : RC w W a0 a1 t n A c v m xs) (hb : Below X.heap.size X W') (hX : Below W.heap.size W X := by first | exact Below.refl _ _ | exact (Below.refl _ _).drew) : RC w W' a0 a1 t n A c v m xs := by
  have hb' : Below W.heap.size W W' := hX.trans (hb.mono hX.size)
  exact ⟨h.bel.trans (hb'.mono h.bel.size), own_below h.own hb', h.lt0, h.lt1, h.f0, h.f1⟩
theorem RC.drew (h : RC w W a0 a1 t n A c v m xs) : RC w W.drew a0 a1 t n A c v m xs := h.step (X := W) (Below.refl _ _).drew
theorem RC.al (h : RC w W a0 a1 t n A c v m xs) (o : Obj) : RC w (W.alloc o) a0 a1 t n A c v m xs := h.step (X := W) ((Below.refl _ _).alloc (Nat.le_refl _) o)
theorem RC.app (h : RC w W a0 a1 t n A c v m xs) (ho : W'.ownsRow w.heap.size 5 1 v' m' (bvs xs')) (hg : W.grownBy W' v.ownBlock) : RC w W' a0 a1 t n A c v' m' xs' :=
  ⟨h.bel.grown hg h.bel.size (fun k hk => (h.own.lt k hk).1), ho, h.lt0, h.lt1, h.f0, h.f1⟩
end
end

section
set_option maxRecDepth 4000
open Go.RowKit

theorem opt_info : (Try.prog.info? 70).map (fun i => (i.zero, i.size, i.bytes)) = some (some (.agg #[.int .u8 0, .slice none 0 0]), 2, 32) := by kernel_rfl
theorem ropt_info : (Try.prog.info? 69).map (fun i => (i.zero, i.size, i.bytes)) = some (some (.agg #[.int .u8 0, .slice none 0 0]), 2, 32) := by kernel_rfl

theorem Rd.cutAt {w : World} {B b o : Nat} {l : List Nat} (h : Rd w B (some ⟨b, o, none⟩) l) {f c : Nat} (hc : l.length ≤ c) : Rd w B (if c = f then some ⟨b, o, none⟩ else some ⟨b, o + f, none⟩) (l.drop f) := by
  intro hl
  rw [List.length_drop] at hl
  rw [if_neg (by omega)]
  obtain ⟨b', off, e, hb, hcell⟩ := h (by omega)
  injection e with e
  injection e with e1 e2
  subst e1; subst e2
  exact ⟨b, o + f, rfl, hb, fun k x hx => by rw [Nat.add_assoc]; exact hcell (f + k) x (by rw [← List.getElem?_drop]; exact hx)⟩

/-- The length of a slice. -/
def lenV : Value → Nat
  | .slice _ n _ => n
  | _ => 0

/-- What the row of options so far is: of the call's own, with data in blocks of F. -/
structure GC (T : TypeId) (F : Nat → Prop) (w W : World) (a0 : Addr) (x0 : Nat) (v : Value) (acc : List (Nat × List Nat)) : Prop where
  own : Orw shO T F w.heap.size W v acc
  bel : Below w.heap.size w W
  lt0 : a0.block < w.heap.size
  f0 : w.cell? a0 = some (.int .u8 (x0 : Int))
section
variable {T : TypeId} {F : Nat → Prop} {w W X W' : World} {a0 : Addr} {x0 : Nat} {v v' : Value} {acc acc' : List (Nat × List Nat)}
theorem GC.cell (h : GC T F w W a0 x0 v acc) : W.cell? a0 = some (.int .u8 (x0 : Int)) := (h.bel.cell h.lt0).trans h.f0
theorem GC.step (h : GC T F w W a0 x0 v acc) (hb : Below X.heap.size X W') (hX : Below W.heap.size W X := by first | exact Below.refl _ _ | exact (Below.refl _ _).drew) : GC T F w W' a0 x0 v acc := by
  have hb' : Below W.heap.size W W' := hX.trans (hb.mono hX.size)
  exact ⟨h.own.below hb', h.bel.trans (hb'.mono h.bel.size), h.lt0, h.f0⟩
theorem GC.drew (h : GC T F w W a0 x0 v acc) : GC T F w W.drew a0 x0 v acc := h.step (X := W) (Below.refl _ _).drew
theorem GC.far (h : GC T F w W a0 x0 v acc) : ∀ b, W.heap.size ≤ b → w.heap.size ≤ b ∧ v.ownBlock ≠ some b := fun _ hb => ⟨Nat.le_trans h.bel.size hb, fun e => Nat.lt_irrefl _ (Nat.lt_of_lt_of_le (h.own.lt e).2 hb)⟩
theorem GC.al (h : GC T F w W a0 x0 v acc) (o : Obj) : GC T F w (W.alloc o) a0 x0 v acc := h.step (X := W) ((Below.refl _ _).alloc (Nat.le_refl _) o)
theorem GC.push (h : GC T F w W a0 x0 v acc) (ho : Orw shO T F w.heap.size W' v' acc') (hg : W.grownBy W' v.ownBlock) : GC T F w W' a0 x0 v' acc' :=
  ⟨ho, h.bel.grown hg h.bel.size (fun _ hk => (h.own.lt hk).1), h.lt0, h.f0⟩
end

/-- What Get answers: a row of its own. -/
def GetO (T : TypeId) (F : Nat → Prop) (b : List Nat) (w : World) (e : Ending) (w' : World) : Prop :=
  ∃ v, e = .returned (.tuple #[v, .int .i64 ((getB b).2 : Int)]) ∧ Orw shO T F w.heap.size w' v (getB b).1 ∧ Below w.heap.size w w'

theorem getO_bad {T : TypeId} {F : Nat → Prop} {b r : List Nat} {acc : List (Nat × List Nat)} {w w' : World} (hg : getB b = addB acc (getB r)) (hr : r ≠ []) (hs : (stepB r).2 ≠ 0) (hb : Below w.heap.size w w') :
    GetO T F b w (.returned (.tuple #[.slice none 0 0, .int .i64 ((stepB r).2 : Int)])) w' := by
  have e : getB b = ([], (stepB r).2) := by
    rw [hg, get_bad hr hs]
    unfold addB
    rw [if_neg hs]
  exact ⟨_, by rw [e], by rw [e]; exact Orw.nil _ _ _ _ _, hb⟩
theorem getO_end {T : TypeId} {F : Nat → Prop} {b : List Nat} {acc : List (Nat × List Nat)} {v : Value} {w w' : World} (hg : getB b = addB acc (getB [])) (ho : Orw shO T F w.heap.size w' v acc) (hb : Below w.heap.size w w') :
    GetO T F b w (.returned (.tuple #[v, .int .i64 0])) w' := by
  have e : getB b = (acc, 0) := by
    rw [hg, get_nil]
    unfold addB
    rw [if_pos rfl, List.append_nil]
  exact ⟨_, by rw [e]; rfl, by rw [e]; exact ho, hb⟩

theorem step_one {r : List Nat} (h : r.length = 1) : stepB r = (0, 2) := by
  match r, h with
  | [_], _ => rfl
theorem step_two {r : List Nat} {y n : Nat} (h : r[1]? = some y) (hn : r.length = n) : stepB r = if y < 2 then (0, 4) else if n < y then (0, 2) else (y, 0) := by
  subst hn
  match r, h with
  | _ :: z :: t, h =>
    have e : z = y := by simpa using h
    subst e
    rfl
theorem cut_eq (b : List Nat) (k e k2 z : Nat) (h2 : k + 2 = k2) (hz : e - 2 = z) : ((b.drop k).take e).drop 2 = (b.drop k2).take z := by
  subst h2; subst hz
  rw [List.drop_take, List.drop_drop]
end

section
set_option maxRecDepth 4000
open Go.RowKit

theorem equal_b (a b : List Nat) (q : Bool) (hq : decide (a = b) = q) (A B : Option Addr) (c d : Nat) (w : World) (ha : Rd w w.heap.size A a) (hb : Rd w w.heap.size B b) (hn : a.length ≤ 1099511627776) :
    Calls Try.prog 8 #[.slice A a.length c, .slice B b.length d] w fun e w' => e = .returned (.bool q) ∧ ∃ n, w' = w.drewN n :=
  (equal_any a b A B c d w _ ha hb hn).mono fun _ _ ⟨he, hw⟩ => ⟨by rw [he, hq], hw⟩

set_option maxHeartbeats 2000000 in
theorem orsame_any (a b : List (Nat × List Nat)) (n m c d : Nat) (A B : Option Addr) (F G : Nat → Prop) (w : World) (ha : Rws shO F w A a) (hb : Rws shO G w B b) (hn : a.length = n) (hm : b.length = m) (hn1 : n ≤ 274877906944) (hd : datB a ≤ 1099511627776) :
    Calls Try.prog 19 #[.slice A n c, .slice B m d] w fun e w' => e = .returned (.bool (decide (a = b))) ∧ Below w.heap.size w w' := by
  by_cases hl : n = m
  · subst hl
    have hne : ((n : Int) != (n : Int)) = false := by simp
    have HN := Lib.hid hn
    have HM := Lib.hid hm
    clear hn hm
    go_enter Try.func19, Try.ntmps19
    go_wp2_with fail
    go_loopw [5] (fun i wr => ∃ k : Nat, k ≤ n ∧ i = .int .i64 k ∧ Hid (a.take k = b.take k) ∧ Below w.heap.size w wr) (fun i _ => n - (intOf i).toNat)
    case atStart => exact ⟨0, Nat.zero_le _, rfl, Lib.hid (by simp), Below.refl _ _⟩
    case round =>
      obtain ⟨k, hk, rfl, heq, hbel⟩ := hrel
      by_cases hlt : k < n
      · obtain ⟨ba, oa, x, A3, c3, rfl, hb3, hx, h3, h4, h5, h6⟩ := (ha.below hbel).opt (k := k) (by rw [HN.out]; exact hlt)
        obtain ⟨bb, ob, y, A4, c4, rfl, hb4, hy, g3, g4, g5, g6⟩ := (hb.below hbel).opt (k := k) (by rw [HM.out]; exact hlt)
        have hxl : x.2.length ≤ 1099511627776 := Nat.le_trans (dat_le hx) hd
        have HX := Lib.hid hx
        have HY := Lib.hid hy
        clear hx hy
        have H6 := Lib.hid h6.rd
        have G6 := Lib.hid g6.rd
        clear h6 g6
        have i1 : (0 : Int) ≤ k := by omega
        have i2 : (k : Int) < n := by omega
        obtain ⟨q, hq⟩ : ∃ q, Hid (decide (x.2 = y.2) = q) := ⟨_, Lib.hid rfl⟩
        by_cases ht : x.1 = y.1
        · have j1 : ((x.1 : Int) != (y.1 : Int)) = false := by rw [ht]; simp
          cases q
          · have E := Lib.hid (show decide (a = b) = false from decide_eq_false (same_ne HX.out HY.out (decide_eq_false fun e => of_decide_eq_false hq.out (by rw [e]))))
            clear ht
            go_wp2_with fail
            go_quiet (first | (go_at_call 8; exact Calls.quiet_of (equal_b x.2 y.2 _ hq.out _ _ _ _ _ H6.out G6.out hxl)))
            all_goals go_wp2_with fail
            go_ret
            exact ⟨by rw [E.out]; rfl, below_drewN hbel _⟩
          · have R := Lib.hid (same_take heq.out HX.out HY.out (decide_eq_true (Prod.ext ht (of_decide_eq_true hq.out))))
            clear ht
            go_wp2_with fail
            go_quiet (first | (go_at_call 8; exact Calls.quiet_of (equal_b x.2 y.2 _ hq.out _ _ _ _ _ H6.out G6.out hxl)))
            all_goals go_wp2_with fail
            go_roundw
            case rel => exact ⟨k + 1, by omega, by go_num, R, below_drewN hbel _⟩
            case measure => simp [intOf]; omega
        · have j1 : ((x.1 : Int) != (y.1 : Int)) = true := by rw [bne_iff_ne]; omega
          have E := Lib.hid (show decide (a = b) = false from decide_eq_false (same_ne HX.out HY.out (decide_eq_false fun e => ht (by rw [e]))))
          clear ht
          go_wp2_with fail
          go_quiet (fail)
          all_goals go_wp2_with fail
          go_ret
          exact ⟨by rw [E.out]; rfl, below_drewN hbel _⟩
      · go_wp2
        go_ret
        have he : k = n := by omega
        have hq := heq.out
        rw [he, List.take_of_length_le (by rw [HN.out]; exact Nat.le_refl _), List.take_of_length_le (by rw [HM.out]; exact Nat.le_refl _)] at hq
        exact ⟨by rw [decide_eq_true hq]; rfl, hbel⟩
  · have hne : ((n : Int) != (m : Int)) = true := by rw [bne_iff_ne]; omega
    have E := Lib.hid (show decide (a = b) = false from decide_eq_false fun e => hl (by rw [← hn, ← hm, e]))
    rw [E.out]
    clear E
    go_enter Try.func19, Try.ntmps19
    go_wp2
    go_ret
    exact ⟨rfl, Below.refl _ _⟩

theorem find_take {l : List (Nat × List Nat)} {p : Nat × List Nat → Bool} {k : Nat} {o : Nat × List Nat} (h : (l.take k).find? p = none) (hk : l[k]? = some o) (hp : p o = false) : (l.take (k + 1)).find? p = none := by
  rw [List.take_add_one, hk, Option.toList_some, List.find?_append, h]
  simp [hp]
theorem find_at {l : List (Nat × List Nat)} {p : Nat × List Nat → Bool} {k : Nat} {o : Nat × List Nat} (h : (l.take k).find? p = none) (hk : l[k]? = some o) (hp : p o = true) : l.find? p = some o := by
  have hlt := (List.getElem?_eq_some_iff.1 hk)
  obtain ⟨hlt, e⟩ := hlt
  have : l = l.take k ++ o :: l.drop (k + 1) := by rw [← e, ← List.drop_eq_getElem_cons hlt, List.take_append_drop]
  rw [this, List.find?_append, h]
  simp [hp]

/-- What Find answers. -/
def FindR (l : List (Nat × List Nat)) (t : Nat) (w : World) (e : Ending) (w' : World) : Prop :=
  Below w.heap.size w w' ∧ ((l.find? (fun o => decide (o.1 = t)) = none ∧ e = .returned (.tuple #[.agg #[.int .u8 0, .slice none 0 0], .bool false])) ∨
    ∃ (o : Nat × List Nat) (A : Option Addr) (c n : Nat), l.find? (fun o => decide (o.1 = t)) = some o ∧ o.1 = t ∧ o.2.length = n ∧ e = .returned (.tuple #[.agg #[.int .u8 (t : Int), .slice A n c], .bool true]) ∧ w'.ownsRow w.heap.size 5 1 (.slice A n c) n (bvs o.2))
end

section
set_option maxRecDepth 4000
open Go.RowKit

set_option maxHeartbeats 1000000 in
theorem oof_any (l : List (Nat × List Nat)) (n c : Nat) (A : Option Addr) (F : Nat → Prop) (w : World) (h : Rws shO F w A l) (hF : ∀ b, w.heap.size ≤ b → F b) (hl : l.length = n) (hn : n ≤ 1073741824) :
    Calls Try.prog 26 #[.slice A n c] w fun e w' => ∃ v, e = .returned v ∧ Orw shO 70 F w.heap.size w' v l ∧ Below w.heap.size w w' := by
  obtain ⟨i0, hi, hz0, hz1, hz2⟩ := info_parts opt_info
  have HL := Lib.hid hl
  have HF := Lib.hid hF
  have HR := Lib.hid (h.mono (G := fun b => F b ∧ b < w.heap.size) fun b hb hf => ⟨hf, hb⟩)
  clear hl hF h
  go_enter Try.func26, Try.ntmps26
  go_wp2_with fail
  go_loopw [3, 8] (fun v i wr => ∃ k : Nat, k ≤ n ∧ i = .int .i64 k ∧ Orw shO 70 F w.heap.size wr v (l.take k) ∧ Below w.heap.size w wr) (fun _ i _ => n - (intOf i).toNat)
  case atStart => exact ⟨0, Nat.zero_le _, rfl, Orw.nil _ _ _ _ _, Below.refl _ _⟩
  case round =>
    obtain ⟨k, hk, rfl, hown, hbel⟩ := hrel
    by_cases hlt : k < n
    · obtain ⟨b, o, x, A3, c3, rfl, hb3, hx, h3, h4, h5, h6⟩ := (HR.out.below hbel).opt (k := k) (by rw [HL.out]; exact hlt)
      have HT := Lib.hid (show l.take (k + 1) = l.take k ++ [x] by rw [List.take_add_one, hx]; rfl)
      have HK := Lib.hid (show (l.take k).length = k by rw [List.length_take, HL.out]; omega)
      obtain ⟨wk, hwk⟩ : ∃ wk, wk = wr.alloc (.cells #[.int .u8 (x.1 : Int), .slice A3 x.2.length c3] 69) := ⟨_, rfl⟩
      have hbe : Below wr.heap.size wr wk := by rw [hwk]; exact (Below.refl _ _).alloc (Nat.le_refl _) _
      have HS := Lib.hid (show wk.heap.size = wr.heap.size + 1 by rw [hwk, World.size_alloc])
      have HWK := Lib.hid hwk
      have H6 := Lib.hid (h6.keep (.of_below hbe))
      have OW := Lib.hid (hown.below hbe)
      have BE := Lib.hid (hbel.trans (hbe.mono hbel.size))
      have BE2 := Lib.hid (BE.out.alloc BE.out.size (.cells #[.int .u8 (x.1 : Int), .slice A3 x.2.length c3] 70))
      clear hwk
      have i1 : (0 : Int) ≤ k := by omega
      have i2 : (k : Int) < n := by omega
      clear hx h6 hown hbel hbe
      go_wp2_with (at_builtin; rw [← HWK.out, ← HS.out]; refine list_rows shO rfl _ _ _ rfl 70 i0 (.agg #[.int .u8 0, .slice none 0 0]) 32 Try.underlying35 hi hz0 hz1 hz2 rfl (by decide) F _ w.heap.size _ k (l.take k) rfl (OW.out.below ((Below.refl _ _).alloc (Nat.le_refl _) _)) HK.out _ 1 1 _ rfl (lito _ rfl h5 H6.out).read rfl (fun b _ hb => hb.elim (fun h => ⟨h.1, fun e => absurd (OW.out.lt e).1 (Nat.not_le.2 h.2)⟩) (fun h => ⟨HF.out b (Nat.le_trans BE.out.size h), fun e => Nat.lt_irrefl _ (Nat.lt_of_lt_of_le (OW.out.lt e).2 h)⟩)) (by unfold maxLen; omega) (by omega) BE2.out.size ?_; intro v7 w7 ho7 hg7 hm7; have R2 := BE2.out.grown hg7 BE2.out.size (fun g hg => (OW.out.lt hg).1); clear hg7 hm7)
      have R1 : Orw shO 70 F w.heap.size w7 v7 (l.take (k + 1)) := by rw [HT.out]; exact ho7
      clear ho7
      go_roundw
      case rel => exact ⟨k + 1, by omega, by go_num, R1, R2⟩
      case measure => simp [intOf]; omega
    · have he : k = n := by omega
      subst he
      rw [List.take_of_length_le (by rw [HL.out]; exact Nat.le_refl _)] at hown
      go_wp2_with fail
      go_ret
      exact ⟨_, rfl, hown, hbel⟩

set_option maxHeartbeats 1000000 in
theorem oto_any (l : List (Nat × List Nat)) (n c : Nat) (A : Option Addr) (F : Nat → Prop) (w : World) (h : Rws shO F w A l) (hF : ∀ b, w.heap.size ≤ b → F b) (hl : l.length = n) (hn : n ≤ 1073741824) :
    Calls Try.prog 20 #[.slice A n c] w fun e w' => ∃ v, e = .returned v ∧ Orw shO 69 F w.heap.size w' v l ∧ Below w.heap.size w w' := by
  obtain ⟨i0, hi, hz0, hz1, hz2⟩ := info_parts ropt_info
  have HL := Lib.hid hl
  have HF := Lib.hid hF
  have HR := Lib.hid (h.mono (G := fun b => F b ∧ b < w.heap.size) fun b hb hf => ⟨hf, hb⟩)
  clear hl hF h
  go_enter Try.func20, Try.ntmps20
  go_wp2_with fail
  go_loopw [3, 8] (fun v i wr => ∃ k : Nat, k ≤ n ∧ i = .int .i64 k ∧ Orw shO 69 F w.heap.size wr v (l.take k) ∧ Below w.heap.size w wr) (fun _ i _ => n - (intOf i).toNat)
  case atStart => exact ⟨0, Nat.zero_le _, rfl, Orw.nil _ _ _ _ _, Below.refl _ _⟩
  case round =>
    obtain ⟨k, hk, rfl, hown, hbel⟩ := hrel
    by_cases hlt : k < n
    · obtain ⟨b, o, x, A3, c3, rfl, hb3, hx, h3, h4, h5, h6⟩ := (HR.out.below hbel).opt (k := k) (by rw [HL.out]; exact hlt)
      have HT := Lib.hid (show l.take (k + 1) = l.take k ++ [x] by rw [List.take_add_one, hx]; rfl)
      have HK := Lib.hid (show (l.take k).length = k by rw [List.length_take, HL.out]; omega)
      obtain ⟨wk, hwk⟩ : ∃ wk, wk = wr.alloc (.cells #[.int .u8 (x.1 : Int), .slice A3 x.2.length c3] 70) := ⟨_, rfl⟩
      have hbe : Below wr.heap.size wr wk := by rw [hwk]; exact (Below.refl _ _).alloc (Nat.le_refl _) _
      have HS := Lib.hid (show wk.heap.size = wr.heap.size + 1 by rw [hwk, World.size_alloc])
      have HWK := Lib.hid hwk
      have H6 := Lib.hid (h6.keep (.of_below hbe))
      have OW := Lib.hid (hown.below hbe)
      have BE := Lib.hid (hbel.trans (hbe.mono hbel.size))
      have BE2 := Lib.hid (BE.out.alloc BE.out.size (.cells #[.int .u8 (x.1 : Int), .slice A3 x.2.length c3] 69))
      clear hwk
      have i1 : (0 : Int) ≤ k := by omega
      have i2 : (k : Int) < n := by omega
      clear hx h6 hown hbel hbe
      go_wp2_with (at_builtin; rw [← HWK.out, ← HS.out]; refine list_rows shO rfl _ _ _ rfl 69 i0 (.agg #[.int .u8 0, .slice none 0 0]) 32 Try.underlying24 hi hz0 hz1 hz2 rfl (by decide) F _ w.heap.size _ k (l.take k) rfl (OW.out.below ((Below.refl _ _).alloc (Nat.le_refl _) _)) HK.out _ 1 1 _ rfl (lito _ rfl h5 H6.out).read rfl (fun b _ hb => hb.elim (fun h => ⟨h.1, fun e => absurd (OW.out.lt e).1 (Nat.not_le.2 h.2)⟩) (fun h => ⟨HF.out b (Nat.le_trans BE.out.size h), fun e => Nat.lt_irrefl _ (Nat.lt_of_lt_of_le (OW.out.lt e).2 h)⟩)) (by unfold maxLen; omega) (by omega) BE2.out.size ?_; intro v7 w7 ho7 hg7 hm7; have R2 := BE2.out.grown hg7 BE2.out.size (fun g hg => (OW.out.lt hg).1); clear hg7 hm7)
      have R1 : Orw shO 69 F w.heap.size w7 v7 (l.take (k + 1)) := by rw [HT.out]; exact ho7
      clear ho7
      go_roundw
      case rel => exact ⟨k + 1, by omega, by go_num, R1, R2⟩
      case measure => simp [intOf]; omega
    · have he : k = n := by omega
      subst he
      rw [List.take_of_length_le (by rw [HL.out]; exact Nat.le_refl _)] at hown
      go_wp2_with fail
      go_ret
      exact ⟨_, rfl, hown, hbel⟩
end

section
set_option maxRecDepth 4000
open Go.RowKit

/-- Are options few? -/
def fewB (l : List (Nat × List Nat)) : Bool := decide (l.length ≤ 60) && decide (datB l ≤ 1000)

set_option maxHeartbeats 1000000 in
theorem few_any (l : List (Nat × List Nat)) (n c : Nat) (A : Option Addr) (F : Nat → Prop) (w : World) (h : Rws shO F w A l) (hl : l.length = n) (hn : n ≤ 140737488351232) (M : Nat) (hM : M ≤ 140737488351232) (hd : ∀ x ∈ l, x.2.length ≤ M) :
    Calls Try.prog 25 #[.slice A n c] w fun e w' => e = .returned (.bool (fewB l)) ∧ Below w.heap.size w w' := by
  have HL := Lib.hid hl
  have HD := Lib.hid hd
  clear hl hd
  go_enter Try.func25, Try.ntmps25
  go_wp2_with fail
  go_loopw [3, 8] (fun s i wr => ∃ (k : Nat) (z : Int), k ≤ n ∧ i = .int .i64 k ∧ s = .int .i64 z ∧ Hid (k ≤ 60 → z = (datB (l.take k) : Int) ∧ datB (l.take k) ≤ k * M) ∧ Below w.heap.size w wr) (fun _ i _ => n - (intOf i).toNat)
  case atStart => exact ⟨0, 0, Nat.zero_le _, rfl, rfl, Lib.hid (fun _ => ⟨rfl, by simp [datB]⟩), Below.refl _ _⟩
  case round =>
    obtain ⟨k, z, hk, rfl, rfl, hz, hbel⟩ := hrel
    by_cases hlt : k < n
    · obtain ⟨b, o, x, A3, c3, rfl, hb3, hx, h3, h4, h5, h6⟩ := (h.below hbel).opt (k := k) (by rw [HL.out]; exact hlt)
      have hxl := HD.out x (List.mem_of_getElem? hx)
      have HZ := Lib.hid (show k + 1 ≤ 60 → wrap64 (z + (x.2.length : Int)) = (datB (l.take (k + 1)) : Int) ∧ datB (l.take (k + 1)) ≤ (k + 1) * M from fun hk60 => by
        obtain ⟨e1, e2⟩ := hz.out (by omega)
        rw [dat_at hx, e1]
        refine ⟨?_, by rw [Nat.add_mul]; omega⟩
        have hkM : k * M ≤ 60 * M := Nat.mul_le_mul_right _ (by omega)
        have e3 : wrap64 ((datB (l.take k) : Int) + (x.2.length : Int)) = (datB (l.take k) : Int) + (x.2.length : Int) := IntWalk.wrap64_in _ (by omega)
        rw [e3]
        omega)
      have R2 := Lib.hid (hbel.alloc hbel.size (.cells #[.int .u8 (x.1 : Int), .slice A3 x.2.length c3] 69))
      have i1 : (0 : Int) ≤ k := by omega
      have i2 : (k : Int) < n := by omega
      clear hx h6 hxl
      go_wp2_with fail
      go_roundw
      case rel => exact ⟨k + 1, _, by omega, by go_num, rfl, HZ, R2.out⟩
      case measure => simp [intOf]; omega
    · have he : k = n := by omega
      subst he
      by_cases c1 : k ≤ 60
      · obtain ⟨e1, e2⟩ := hz.out c1
        rw [List.take_of_length_le (by rw [HL.out]; exact Nat.le_refl _)] at e1
        have j1 : (k : Int) ≤ 60 := by omega
        by_cases c2 : datB l ≤ 1000
        · have j2 : z ≤ 1000 := by omega
          have E := Lib.hid (show fewB l = true by unfold fewB; rw [HL.out]; simp [c1, c2])
          clear e1 e2 c1 c2
          go_wp2_with fail
          go_ret
          exact ⟨by rw [E.out]; rfl, hbel⟩
        · have j2 : ¬ z ≤ 1000 := by omega
          have E := Lib.hid (show fewB l = false by unfold fewB; simp [c2])
          clear e1 e2 c1 c2
          go_wp2_with fail
          go_ret
          exact ⟨by rw [E.out]; rfl, hbel⟩
      · have j1 : ¬ (k : Int) ≤ 60 := by omega
        have E := Lib.hid (show fewB l = false by unfold fewB; rw [HL.out]; simp [c1])
        clear c1
        go_wp2_with fail
        go_ret
        exact ⟨by rw [E.out]; rfl, hbel⟩
end

section
set_option maxRecDepth 4000
open Go.ChangeShapes Go.WideShapes Go.ChangeAt Go.RowKit Go.Deep

/-- What the walk is told of a slice of options. -/
def IsOpts (w : World) (a : Option Addr) (len cap : Nat) (l : List (Nat × List Nat)) : Prop :=
  l.length = len ∧ len ≤ cap ∧ len ≤ 140737488351232 ∧ ByO l ∧ (∀ x ∈ l, x.2.length ≤ 140737488351232) ∧ Rws shO (fun _ => True) w a l

theorem oall_mem {H : Type} {P : Program} {e : TypeId} : ∀ {l : List (DataW H)} {d : DataW H}, d ∈ l → ∀ n ∈ d.weights P e, n ∈ DataW.weightsAll P e l
  | d' :: r, d, hd, n, hn => by
    simp only [DataW.weightsAll, List.mem_append]
    rcases List.mem_cons.1 hd with rfl | h
    · exact Or.inl hn
    · exact Or.inr (oall_mem h n hn)

/-- What one element tells. -/
def IsOpt (w : World) (a : Addr) (o : Nat × List Nat) : Prop :=
  o.1 < 256 ∧ By o.2 ∧ o.2.length ≤ 140737488351232 ∧ ∃ A c, o.2.length ≤ c ∧ w.cell? (a.add 0) = some (.int .u8 (o.1 : Int)) ∧ w.cell? (a.add 1) = some (.slice A o.2.length c) ∧ Rd w w.heap.size A o.2

theorem ocells : Try.prog.cellsOf 69 = 2 := by kernel_rfl
theorem obytes : Try.prog.bytesOf 69 = 32 := by kernel_rfl
theorem ocell1 : Try.prog.cellsOf 26 = 1 := by kernel_rfl
theorem ocell0 : Try.prog.cellsOf 5 = 1 := by kernel_rfl
theorem obyte0 : Try.prog.bytesOf 5 = 1 := by kernel_rfl

set_option maxRecDepth 4000 in
theorem open_opt {H : Type} {enc : TypeId × Value → H} {w : World} {base : Nat} {held : Bool} {fuel : Nat} {a : Addr} {cs : List Value} {x : DataW H × List MemPlace}
    (hc : w.cells? base a 2 = some cs) (h : DataW.trod enc Try.prog w base (fun _ => true) held fuel 69 cs = some x) (hs : ∀ n ∈ x.1.weights Try.prog 69, n ≤ reachBytes) : ∃ o, IsOpt w a o := by
  obtain ⟨_, hl, hat⟩ := World.cells?_some hc
  obtain ⟨xs, n, _, hx, _, hlen, hg⟩ := DataW.trod_struct Try.underlying69 h
  match cs, hl with
  | [c0, c1], _ =>
    match xs, hlen with
    | [y0, y1], _ =>
      have g0 := hg 0 _ rfl
      have g1 := hg 1 _ rfl
      simp [ocell0, ocell1] at g0 g1
      obtain ⟨t, e0, e1, st⟩ := DataW.trod_int Try.underlying5 g0
      simp at e0
      subst e0
      have ht : 0 ≤ t ∧ t < 256 := by
        simp [Lit.wf, IntKind.min, IntKind.max, IntKind.signed, IntKind.bits] at st
        omega
      have f0 := hat 0 (by omega)
      have f1 := hat 1 (by omega)
      simp only [List.getElem?_cons_zero, List.getElem?_cons_succ] at f0 f1
      rcases open_ints Try.underlying26 Try.underlying5 ocell0 g1 with ⟨hcs, _⟩ | ⟨ad, len, cap, zs, hcs, _, hlc, hm, hz, hy, hcell, hwz⟩
      · simp at hcs
        subst hcs
        refine ⟨(t.toNat, []), by show t.toNat < 256; omega, By.nil, by simp, none, 0, by simp, ?_, f1, Rd.nil⟩
        rw [f0, Int.toNat_of_nonneg ht.1]
      · simp at hcs
        subst hcs
        have hz' : zs.length = cap := by simpa using hz
        obtain ⟨m, e1', e2', e3'⟩ := rowBytes (w := w) (a := some ad) (len := len) (cap := cap) (zs := zs) (.inr ⟨ad, rfl, hlc, hm, hz', hcell, hwz⟩)
        have hw : zs.length ≤ reachBytes := hs _ (by
          rw [hx]
          simp only [DataW.weights, Try.underlying69, List.map_cons, List.map_nil, DataW.weightsEach, hy, Try.underlying26, obyte0, List.mem_append, List.mem_cons]
          refine .inr (.inl (.inl ?_))
          simp only [lits, List.length_map, List.length_take, List.length_drop]
          omega)
        have hr : reachBytes = 140737488351232 := rfl
        refine ⟨(t.toNat, m), by show t.toNat < 256; omega, e2', by show m.length ≤ _; omega, some ad, cap, by show m.length ≤ _; omega, ?_, ?_, e3'⟩
        · rw [f0, Int.toNat_of_nonneg ht.1]
        · rw [f1, e1']

set_option maxRecDepth 4000 in
theorem open_optsV {H : Type} {enc : TypeId × Value → H} {w : World} {base : Nat} {held : Bool} {v : Value} {d : DataW H} {p : List MemPlace}
    (hv : ∃ a n c, v = .slice a n c) (h : DataW.Trod enc Try.prog w base (fun _ => true) held 24 v d p) (hs : ∀ n ∈ d.weights Try.prog 24, n ≤ reachBytes) :
    ∃ a len cap l, v = .slice a len cap ∧ IsOpts w a len cap l := by
  obtain ⟨a, len, cap, rfl⟩ := hv
  obtain ⟨fuel, hf⟩ := h
  have hr : reachBytes = 140737488351232 := rfl
  rcases open_slice Try.underlying24 hf with ⟨hcs, _⟩ | ⟨x, l, c, m, n, D, Pl, hcs, _, hl, hm, hmm, hx, hi⟩
  · simp [Value.cells] at hcs
    obtain ⟨rfl, rfl, rfl⟩ := hcs
    exact ⟨_, _, _, [], rfl, rfl, Nat.le_refl _, by omega, (fun _ h => by cases h), (fun _ h => by cases h), Rws.nilO⟩
  · simp [Value.cells] at hcs
    obtain ⟨rfl, rfl, rfl⟩ := hcs
    simp only [if_true] at hmm
    have hd := congrArg Prod.fst hx
    simp only at hd
    have hs' := hs
    rw [hd] at hs'
    simp only [DataW.weights, Try.underlying24, List.mem_cons, List.mem_append] at hs'
    have hlen := hs' _ (.inl rfl)
    rw [obytes] at hlen
    simp only [List.length_map, List.length_range] at hlen
    have each : ∀ i, i < len → ∃ o, IsOpt w (x.add (i * 2)) o := by
      intro i hil
      obtain ⟨cs', h1, h2⟩ := hi i (by omega)
      rw [ocells] at h1
      exact open_opt h1 h2 (fun k hk => hs' k (.inr (.inl (oall_mem (List.mem_map.2 ⟨i, List.mem_range.2 hil, rfl⟩) k hk))))
    obtain ⟨f, hf'⟩ := choose_lt each
    refine ⟨_, _, _, (List.range len).map f, rfl, by simp, hl, by omega, ?_, ?_, ?_⟩
    · intro o ho
      obtain ⟨i, hi', rfl⟩ := List.mem_map.1 ho
      have := hf' i (List.mem_range.1 hi')
      exact ⟨this.1, this.2.1⟩
    · intro o ho
      obtain ⟨i, hi', rfl⟩ := List.mem_map.1 ho
      exact (hf' i (List.mem_range.1 hi')).2.2.1
    · intro hpos
      rw [List.length_map, List.length_range] at hpos
      obtain ⟨b, off, spot⟩ := x
      obtain ⟨_, _, _, _, _, _, h0, _, _⟩ := hf' 0 hpos
      have hsp : spot = none := by simpa [Addr.add] using World.cell?_spot h0
      subst hsp
      refine ⟨b, off, rfl, by simpa [Addr.add] using block_lt h0, trivial, fun k o hk => ?_⟩
      rw [List.getElem?_map] at hk
      obtain ⟨r', hr', rfl⟩ := Option.map_eq_some_iff.1 hk
      have hkl : k < len := by have := (List.getElem?_eq_some_iff.1 hr').1; simpa using this
      rw [List.getElem?_range hkl] at hr'
      injection hr' with hr'
      subst hr'
      obtain ⟨_, _, _, A, c', g1, g2, g3, g4⟩ := hf' k hkl
      refine ⟨_, ⟨A, c', rfl, g1, g4.rdF (fun _ _ => trivial) (Nat.le_refl _)⟩, fun j u hu => ?_⟩
      have key : ∀ j, (Addr.add ⟨b, off, none⟩ (k * 2)).add j = ⟨b, off + (k * 2 + j), none⟩ := by
        intro j
        rw [Go.Deep.add_add]
        by_cases h0 : k * 2 + j = 0
        · rw [h0]; simp [Addr.add]
        · simp [Addr.add]
          omega
      match j, hu with
      | 0, hu =>
        injection hu with hu
        subst hu
        rw [← g2, key]
        rfl
      | 1, hu =>
        injection hu with hu
        subst hu
        rw [← g3, key]
        rfl
      | j + 2, hu => simp at hu
set_option maxRecDepth 4000 in
theorem open_opts {H : Type} {enc : TypeId × Value → H} {w : World} {base : Nat} {held : Bool} {r : Reach} {b0 : Nat} {v : Value} {d : DataW H} {p : List MemPlace}
    (hv : Value.okWide Try.prog w r b0 24 v) (h : DataW.Trod enc Try.prog w base (fun _ => true) held 24 v d p) (hs : ∀ n ∈ d.weights Try.prog 24, n ≤ reachBytes) :
    ∃ a len cap l, v = .slice a len cap ∧ IsOpts w a len cap l := by
  obtain ⟨a, len, cap, rfl⟩ := okWide_slice Try.underlying24 hv
  exact open_optsV ⟨a, len, cap, rfl⟩ h hs
end

section
set_option maxRecDepth 4000
open Go.RowKit

/-- append on rows behind a guard that is met. -/
theorem list_rows_w {α : Type} (H : Sh α) {P : Program} {w : World} {ops : Array Oper} {rest : List Oper} {o : Oper} {a : Act} {Q : Exit → Act → World → Prop} (hw : Region.wanted o (yielded ops a.tmps) = true) (s x : Operand) (t : TypeId)
    (ho : o.op = .call { callee := .builtin .append, args := #[s, x], argTypes := #[t, t] })
    (e : TypeId) (i : TypeInfo) (z : Value) (bytes : Nat) (ht : P.underlying t = some (.slice e)) (hi : P.info? e = some i) (hz : i.zero = some z)
    (hsize : i.size = H.sz) (hby : i.bytes = bytes) (hzs : z.cells.size = H.sz) (hsz : 0 < H.sz) (F G : Nat → Prop) (base : Nat) (v : Value) (n : Nat) (xs : List α) (hs : a.eval s = v) (hown : Orw H e F base w v xs) (hn : xs.length = n)
    (A : Option Addr) (m c : Nat) (ys : List α) (hx : a.eval x = .slice A m c) (hys : Rws H G w A ys) (hm : ys.length = m) (hG : ∀ b, b < w.heap.size → G b → F b ∧ v.ownBlock ≠ some b)
    (h63 : n + m ≤ maxLen) (hbytes : (n + m) * bytes ≤ 140737488355328) (hbase : base ≤ w.heap.size)
    (h : ∀ v' w', Orw H e F base w' v' (xs ++ ys) → w.grownBy w' v.ownBlock → Mv w.heap.size v v' → wpList P ops Q rest (a.put o.dst v') w') :
    wpList P ops Q (o :: rest) a w := by
  refine wpList_step fun K hK => ?_
  rw [if_pos hw]
  obtain ⟨v', w', hrun, h2, h3, h4⟩ := run_rows H (P := P) w t o.type e i z bytes ht hi hz hsize hby hzs hsz F G base v n xs hown hn A m c ys hys hm hG h63 hbytes hbase
  unfold Oper.wp execOp
  simp only [ho, resolve, invoke, builtin, Sem.run_bind, Sem.run_pure, Result.andThen_ok, List.map_toArray, List.map_cons, List.map_nil, hs, hx, hrun]
  exact hK _ _ (h v' w' h2 h3 h4)

theorem few_of {l : List (Nat × List Nat)} (h : fewB l = true) : l.length ≤ 60 ∧ datB l ≤ 1000 := by
  unfold fewB at h
  simpa using h
theorem few_v (l : List (Nat × List Nat)) (q : Bool) (hq : fewB l = q) (n c : Nat) (A : Option Addr) (F : Nat → Prop) (w : World) (h : Rws shO F w A l) (hl : l.length = n) (hn : n ≤ 140737488351232) (hd : ∀ x ∈ l, x.2.length ≤ 140737488351232) :
    Calls Try.prog 25 #[.slice A n c] w fun e w' => e = .returned (.bool q) ∧ Below w.heap.size w w' := hq ▸ few_any l n c A F w h hl hn 140737488351232 (Nat.le_refl _) hd
theorem oof_v (l : List (Nat × List Nat)) (n c : Nat) (A : Option Addr) (w : World) (h : Rws shO (fun _ => True) w A l) (hl : l.length = n) (hn : n ≤ 1073741824) :
    Calls Try.prog 26 #[.slice A n c] w fun e w' => ∃ A' c', e = .returned (.slice A' n c') ∧ Rws shO (fun _ => True) w' A' l ∧ Below w.heap.size w w' :=
  (oof_any l n c A _ w h (fun _ _ => trivial) hl hn).mono fun _ _ ⟨v, h1, h2, h3⟩ => by
    obtain ⟨A', c', rfl, _, _, hr⟩ := h2.slice
    rw [hl] at h1
    exact ⟨A', c', h1, hr.mono (fun _ _ _ => trivial), h3⟩
theorem oto_v (l : List (Nat × List Nat)) (n c : Nat) (A : Option Addr) (w : World) (h : Rws shO (fun _ => True) w A l) (hl : l.length = n) (hn : n ≤ 1073741824) :
    Calls Try.prog 20 #[.slice A n c] w fun e w' => ∃ A' c', e = .returned (.slice A' n c') ∧ Rws shO (fun _ => True) w' A' l ∧ Below w.heap.size w w' :=
  (oto_any l n c A _ w h (fun _ _ => trivial) hl hn).mono fun _ _ ⟨v, h1, h2, h3⟩ => by
    obtain ⟨A', c', rfl, _, _, hr⟩ := h2.slice
    rw [hl] at h1
    exact ⟨A', c', h1, hr.mono (fun _ _ _ => trivial), h3⟩
theorem oput_v (l : List (Nat × List Nat)) (q : Nat) (hq : errP l = q) (m : List Nat) (hm : putA l = m) (k : Nat) (hk : m.length = k) (n c : Nat) (A : Option Addr) (F : Nat → Prop) (w : World) (h : Rws shO F w A l) (hl : l.length = n) (hn : n ≤ 274877906944) (hd : datB l ≤ 68719476736) :
    Calls Try.prog 73 #[.slice A n c] w fun e w' => ∃ A' c', e = .returned (.tuple #[.slice A' k c', .int .i64 (q : Int)]) ∧ Rd w' w'.heap.size A' m ∧ k ≤ c' ∧ Below w.heap.size w w' :=
  (oput_any l n c A F w h hl hn hd).mono fun _ _ ⟨A', c', k', h1, h2⟩ => by
    rw [hq] at h1
    rw [hm] at h2
    obtain rfl : k = k' := by rw [← hk, h2.1]
    exact ⟨A', c', h1, h2.2.2.1, own_cap h2.2.1, h2.2.2.2⟩
theorem osame_v (a b : List (Nat × List Nat)) (q : Bool) (hq : decide (a = b) = q) (n m c d : Nat) (A B : Option Addr) (F G : Nat → Prop) (w : World) (ha : Rws shO F w A a) (hb : Rws shO G w B b) (hA : ByO a) (hB : ByO b) (hn : a.length = n) (hm : b.length = m) (hn1 : n ≤ 274877906944) :
    Calls Try.prog 37 #[.slice A n c, .slice B m d] w fun e w' => e = .returned (.bool q) ∧ Below w.heap.size w w' := hq ▸ osame_any a b n m c d A B F G w ha hb hA hB hn hm hn1
theorem orsame_v (a b : List (Nat × List Nat)) (q : Bool) (hq : decide (a = b) = q) (n m c d : Nat) (A B : Option Addr) (F G : Nat → Prop) (w : World) (ha : Rws shO F w A a) (hb : Rws shO G w B b) (hn : a.length = n) (hm : b.length = m) (hn1 : n ≤ 274877906944) (hd : datB a ≤ 1099511627776) :
    Calls Try.prog 19 #[.slice A n c, .slice B m d] w fun e w' => e = .returned (.bool q) ∧ Below w.heap.size w w' := hq ▸ orsame_any a b n m c d A B F G w ha hb hn hm hn1 hd
theorem osz_v (l : List (Nat × List Nat)) (k n c : Nat) (hk : (putB l).length = k) (A : Option Addr) (F : Nat → Prop) (w : World) (h : Rws shO F w A l) (hl : l.length = n) (hn : n ≤ 274877906944) (hd : datB l ≤ 1099511627776) :
    Calls Try.prog 80 #[.slice A n c] w fun e w' => e = .returned (.int .i64 (k : Int)) ∧ Below w.heap.size w w' := by
  have e : 2 * n + datB l = k := by rw [← hk, put_len, hl]
  exact e ▸ osz_any l n c A F w h hl hn hd
theorem errP_ok {l : List (Nat × List Nat)} (h : longB l = false) : errP l = 0 ∧ putA l = putB l := by unfold errP putA; rw [h]; exact ⟨rfl, rfl⟩
theorem errP_long {l : List (Nat × List Nat)} (h : longB l = true) : errP l = 3 ∧ putA l = [] := by unfold errP putA; rw [h]; exact ⟨rfl, rfl⟩
theorem putA_le (l : List (Nat × List Nat)) (n m : Nat) (hn : l.length ≤ n) (hm : datB l ≤ m) : (putA l).length ≤ 2 * n + m := by
  unfold putA
  split
  · simp
  · rw [put_len]; omega
end
end Go.Proofs.Ytmhjnghomihjlaa
