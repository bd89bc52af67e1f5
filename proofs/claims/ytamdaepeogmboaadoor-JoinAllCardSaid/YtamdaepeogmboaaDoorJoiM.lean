
/-
  The mathematics of layer 24: a joiner, and what becomes of pieces. No condition.
-/
import Derived.Test.YtamdaepeogmboaaDoorFrgM
namespace Go.Proofs.YtamdaepeogmboaaDoor
set_option maxRecDepth 4000

/-- An event. -/
structure Ev where
  k : Int
  d : List Nat
  f : Int
  m : Int
deriving DecidableEq, Inhabited

/-- A joiner. -/
structure Jn where
  sh : Bool
  room : Int
  most : Int
  last : List Int
  wait : List (Int × Pc)
  next : Int
  mode : Int
  data : List Nat
  told : List Ev

theorem snoc_ind {α : Type} {P : List α → Prop} (h0 : P []) (h1 : ∀ l x, P l → P (l ++ [x])) (l : List α) : P l := by
  have key : ∀ m : List α, P m.reverse := by
    intro m
    induction m with
    | nil => exact h0
    | cons x m ih => rw [List.reverse_cons]; exact h1 _ x ih
  have := key l.reverse
  rwa [List.reverse_reverse] at this

/-- The least of numbers. -/
def jleast (l : List Int) : Int := l.tail.foldl (fun a x => if x < a then x else a) (l.headD 0)
theorem jleast_one (x : Int) : jleast [x] = x := rfl
theorem jleast_snoc {l : List Int} (x : Int) (h : 0 < l.length) : jleast (l ++ [x]) = if x < jleast l then x else jleast l := by
  cases l with
  | nil => simp at h
  | cons a t => simp [jleast, List.foldl_append]
theorem jleast_take {l : List Int} {k : Nat} {x : Int} (h : l[k]? = some x) (hk : 0 < k) : jleast (l.take (k + 1)) = if x < jleast (l.take k) then x else jleast (l.take k) := by
  have hl := (List.getElem?_eq_some_iff.1 h).1
  rw [List.take_add_one, h]
  exact jleast_snoc x (by rw [List.length_take]; omega)
theorem jleast_mem : ∀ {l : List Int}, 0 < l.length → jleast l ∈ l := by
  intro l
  induction l using snoc_ind with
  | h0 => intro h; simp at h
  | h1 l x ih =>
    intro _
    rcases Nat.eq_zero_or_pos l.length with h0 | h0
    · rw [List.eq_nil_of_length_eq_zero h0]; simp [jleast]
    · rw [jleast_snoc x h0]
      split
      · simp
      · exact List.mem_append.2 (.inl (ih h0))
theorem jleast_le {l : List Int} {x : Int} (h : x ∈ l) : jleast l ≤ x := by
  induction l using snoc_ind with
  | h0 => cases h
  | h1 l y ih =>
    rcases Nat.eq_zero_or_pos l.length with h0 | h0
    · rw [List.eq_nil_of_length_eq_zero h0] at h ⊢
      rw [List.nil_append, List.mem_singleton] at h
      subst h
      exact Int.le_refl _
    · rw [jleast_snoc y h0]
      rcases List.mem_append.1 h with h | h
      · have := ih h
        split <;> omega
      · rw [List.mem_singleton] at h
        subst h
        split <;> omega

/-- The least place for which a piece waits; a far one: none. -/
def jfirst (l : List (Int × Pc)) : Int := l.foldl (fun a x => if x.1 < a then x.1 else a) 4611686018427387904
theorem jfirst_snoc (l : List (Int × Pc)) (x : Int × Pc) : jfirst (l ++ [x]) = if x.1 < jfirst l then x.1 else jfirst l := by
  unfold jfirst
  rw [List.foldl_append]
  rfl
theorem jfirst_take {l : List (Int × Pc)} {k : Nat} {x : Int × Pc} (h : l[k]? = some x) : jfirst (l.take (k + 1)) = if x.1 < jfirst (l.take k) then x.1 else jfirst (l.take k) := by
  rw [List.take_add_one, h]
  exact jfirst_snoc _ x
theorem jfirst_le {l : List (Int × Pc)} {x : Int × Pc} (h : x ∈ l) : jfirst l ≤ x.1 := by
  induction l using snoc_ind with
  | h0 => cases h
  | h1 l y ih =>
    rw [jfirst_snoc]
    rcases List.mem_append.1 h with h | h
    · have := ih h
      split <;> omega
    · rw [List.mem_singleton] at h
      subst h
      split <;> omega
theorem jfirst_far {l : List (Int × Pc)} : jfirst l ≤ 4611686018427387904 := by
  induction l using snoc_ind with
  | h0 => exact Int.le_refl _
  | h1 l y ih =>
    rw [jfirst_snoc]
    split <;> omega
theorem jfirst_mem {l : List (Int × Pc)} : jfirst l = 4611686018427387904 ∨ ∃ x ∈ l, x.1 = jfirst l := by
  induction l using snoc_ind with
  | h0 => exact .inl rfl
  | h1 l y ih =>
    rw [jfirst_snoc]
    split
    · exact .inr ⟨y, by simp, rfl⟩
    · rcases ih with h | ⟨x, hx, h⟩
      · exact .inl h
      · exact .inr ⟨x, List.mem_append.2 (.inl hx), h⟩

/-- The piece that waits for a place. -/
def jat (l : List (Int × Pc)) (x : Int) : Option Pc := (l.find? (fun y => y.1 == x)).map (·.2)
theorem jat_none {l : List (Int × Pc)} {x : Int} (h : ∀ k < l.length, ∀ y, l[k]? = some y → (y.1 == x) = false) : jat l x = none := by
  unfold jat
  rw [List.find?_eq_none.2 (fun y hy => ?_)]
  · rfl
  · obtain ⟨k, hk⟩ := List.mem_iff_getElem?.1 hy
    rw [h k (List.getElem?_eq_some_iff.1 hk).1 y hk]
    simp
theorem jat_some {l : List (Int × Pc)} {x : Int} {k : Nat} {y : Int × Pc} (h : ∀ j < k, ∀ z, l[j]? = some z → (z.1 == x) = false) (hk : l[k]? = some y) (hx : (y.1 == x) = true) : jat l x = some y.2 := by
  unfold jat
  have e : l = l.take k ++ (y :: l.drop (k + 1)) := by
    obtain ⟨h1, h2⟩ := List.getElem?_eq_some_iff.1 hk
    rw [← h2, ← List.drop_eq_getElem_cons h1, List.take_append_drop]
  rw [e, List.find?_append, List.find?_eq_none.2 (fun z hz => ?_)]
  · simp [hx]
  · obtain ⟨j, hj⟩ := List.mem_iff_getElem?.1 hz
    have hjl := (List.getElem?_eq_some_iff.1 hj).1
    rw [List.length_take] at hjl
    rw [List.getElem?_take] at hj
    split at hj
    · rw [h j (by omega) z hj]; simp
    · cases hj
theorem jat_mem {l : List (Int × Pc)} {x : Int} {p : Pc} (h : jat l x = some p) : (x, p) ∈ l := by
  unfold jat at h
  obtain ⟨y, hy, rfl⟩ := Option.map_eq_some_iff.1 h
  have h1 := List.find?_some hy
  rw [beq_iff_eq] at h1
  subst h1
  exact List.mem_of_find?_eq_some hy

/-- What waits without a place. -/
def jwo (l : List (Int × Pc)) (x : Int) : List (Int × Pc) := l.filter (fun y => y.1 != x)
theorem jwo_take {l : List (Int × Pc)} {k : Nat} {y : Int × Pc} (x : Int) (h : l[k]? = some y) : jwo (l.take (k + 1)) x = if (y.1 != x) = true then jwo (l.take k) x ++ [y] else jwo (l.take k) x := by
  unfold jwo
  rw [List.take_add_one, h, List.filter_append]
  by_cases c : (y.1 != x) = true
  · rw [if_pos c]; simp [c]
  · rw [if_neg c]; simp [c]
theorem jwo_len (l : List (Int × Pc)) (x : Int) : (jwo l x).length ≤ l.length := List.length_filter_le _ _

/-- Places lack. -/
def jlack (j : Jn) (e : Int) : Jn := { j with told := j.told ++ [⟨1, [], j.next.tmod (frmod j.sh : Int), e - j.next⟩], next := e, mode := 2, data := [] }
/-- A Bad, if one is told. -/
def jbad (j : Jn) (p : Pc) : Jn := if (p.b = true ∧ j.mode = 1) ∨ (p.b = false ∧ j.mode = 0) then { j with told := j.told ++ [⟨2, [], j.next.tmod (frmod j.sh : Int), 0⟩] } else j
/-- A packet grows. -/
def jgrow (j : Jn) (e : Bool) (d : List Nat) : Jn :=
  if j.most < (d.length : Int) then { j with told := j.told ++ [⟨3, [], 0, 0⟩], mode := 2, data := [] }
  else if e = true then { j with told := j.told ++ [⟨0, d, 0, 0⟩], mode := 0, data := [] }
  else { j with mode := 1, data := d }
/-- A piece is gone through. -/
def jthr (j : Jn) (p : Pc) : Jn :=
  if p.b = false ∧ j.mode ≠ 1 then { jbad j p with mode := 2 } else jgrow (jbad j p) p.e ((if p.b = true then [] else j.data) ++ p.d)

/-- One step of what can be gone through. -/
def jend (j : Jn) : Int := if jfirst j.wait < jleast j.last + 1 then jfirst j.wait else jleast j.last + 1
def jstp (j : Jn) : Option Jn :=
  match jat j.wait j.next with
  | some p => some { jthr { j with wait := jwo j.wait j.next } p with next := j.next + 1 }
  | none => if jend j ≤ j.next then none else some (jlack j (jend j))
end Go.Proofs.YtamdaepeogmboaaDoor
