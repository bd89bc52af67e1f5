
/-
  The mathematics of layer 24: a packet's pieces, gone through one behind the other, are a Whole. No condition.
-/
import Derived.Test.YtamdaepeogmboaaDoorJoiN
namespace Go.Proofs.YtamdaepeogmboaaDoor
set_option maxRecDepth 4000

/-- A piece is gone through, and the next place is due. -/
def jgo (j : Jn) (p : Pc) : Jn := { jthr j p with next := j.next + 1 }
theorem jbad_wait (j : Jn) (p : Pc) (w : List (Int × Pc)) : jbad { j with wait := w } p = { jbad j p with wait := w } := by
  unfold jbad
  by_cases h : (p.b = true ∧ j.mode = 1) ∨ (p.b = false ∧ j.mode = 0)
  · rw [if_pos h, if_pos (show (p.b = true ∧ ({ j with wait := w } : Jn).mode = 1) ∨ (p.b = false ∧ ({ j with wait := w } : Jn).mode = 0) from h)]
  · rw [if_neg h, if_neg (show ¬ ((p.b = true ∧ ({ j with wait := w } : Jn).mode = 1) ∨ (p.b = false ∧ ({ j with wait := w } : Jn).mode = 0)) from h)]
theorem jgrow_wait (j : Jn) (e : Bool) (d : List Nat) (w : List (Int × Pc)) : jgrow { j with wait := w } e d = { jgrow j e d with wait := w } := by
  unfold jgrow
  by_cases h : j.most < (d.length : Int)
  · rw [if_pos h, if_pos (show ({ j with wait := w } : Jn).most < (d.length : Int) from h)]
  · rw [if_neg h, if_neg (show ¬ ({ j with wait := w } : Jn).most < (d.length : Int) from h)]
    cases e <;> rfl
/-- What waits is let alone. -/
theorem jthr_wait (j : Jn) (p : Pc) (w : List (Int × Pc)) : jthr { j with wait := w } p = { jthr j p with wait := w } := by
  unfold jthr
  rw [jbad_wait]
  by_cases h : p.b = false ∧ j.mode ≠ 1
  · rw [if_pos h, if_pos (show p.b = false ∧ ({ j with wait := w } : Jn).mode ≠ 1 from h)]
  · rw [if_neg h, if_neg (show ¬ (p.b = false ∧ ({ j with wait := w } : Jn).mode ≠ 1) from h), ← jgrow_wait]

/-- Pieces of one packet: the first begins, the last ends, none else. -/
structure IsPacket (l : List Pc) (d : List Nat) : Prop where
  pos : 0 < l.length
  begin_ : ∀ i x, l[i]? = some x → x.b = decide (i = 0)
  end_ : ∀ i x, l[i]? = some x → x.e = decide (i + 1 = l.length)
  data : (l.map fun x => x.d).flatten = d
theorem jbad_first {j : Jn} {p : Pc} (hb : p.b = true) (hm : j.mode ≠ 1) : jbad j p = j := if_neg fun h => h.elim (fun h => hm h.2) (fun h => by rw [hb] at h; exact absurd h.1 (by decide))
theorem jbad_more {j : Jn} {p : Pc} (hb : p.b = false) (hm : j.mode = 1) : jbad j p = j := if_neg fun h => h.elim (fun h => by rw [hb] at h; exact absurd h.1 (by decide)) (fun h => by rw [hm] at h; exact absurd h.2 (by decide))
theorem jgo_first {j : Jn} {p : Pc} (hb : p.b = true) (hm : j.mode ≠ 1) : jgo j p = { jgrow j p.e p.d with next := j.next + 1 } := by
  unfold jgo jthr
  rw [jbad_first hb hm, if_neg (fun h => by rw [hb] at h; exact absurd h.1 (by decide)), if_pos hb, List.nil_append]
theorem jgo_more {j : Jn} {p : Pc} (hb : p.b = false) (hm : j.mode = 1) : jgo j p = { jgrow j p.e (j.data ++ p.d) with next := j.next + 1 } := by
  unfold jgo jthr
  rw [jbad_more hb hm, if_neg (fun h => h.2 hm), if_neg (by rw [hb]; decide)]
theorem flat_le_take (l : List Pc) (i : Nat) : ((l.take i).map fun x => x.d).flatten.length ≤ (l.map fun x => x.d).flatten.length := by
  have e : (l.map fun x => x.d).flatten = ((l.take i).map fun x => x.d).flatten ++ ((l.drop i).map fun x => x.d).flatten := by
    rw [← List.flatten_append, ← List.map_append, List.take_append_drop]
  rw [e, List.length_append]
  omega
/-- Behind some of a packet's pieces, but not all. -/
theorem packet_part {l : List Pc} {d : List Nat} (h : IsPacket l d) {j : Jn} (hm : j.mode ≠ 1) (hd : (d.length : Int) ≤ j.most) : ∀ i, 0 < i → i < l.length →
    (l.take i).foldl jgo j = { j with next := j.next + i, mode := 1, data := ((l.take i).map fun x => x.d).flatten } := by
  intro i
  induction i with
  | zero => intro h0; omega
  | succ i ih =>
    intro _ hi
    obtain ⟨x, hx⟩ : ∃ x, l[i]? = some x := ⟨_, List.getElem?_eq_getElem (by omega)⟩
    have hb := h.begin_ i x hx
    have he := h.end_ i x hx
    have ht := flat_le_take l (i + 1)
    rw [h.data] at ht
    rw [decide_eq_false (by omega)] at he
    have e1 : l.take (i + 1) = l.take i ++ [x] := by rw [List.take_add_one, hx]; rfl
    rw [e1, List.map_append, List.flatten_append] at ht
    rw [e1, List.foldl_append, List.map_append, List.flatten_append]
    simp only [List.foldl_cons, List.foldl_nil, List.map_cons, List.map_nil, List.flatten_cons, List.flatten_nil, List.append_nil] at ht ⊢
    rcases Nat.eq_zero_or_pos i with h0 | h0
    · subst h0
      rw [List.take_zero] at ht ⊢
      simp only [List.foldl_nil, List.map_nil, List.flatten_nil, List.nil_append] at ht ⊢
      rw [jgo_first (by rw [hb]; rfl) hm, he]
      unfold jgrow
      rw [if_neg (by omega), if_neg (by decide)]
      simp
    · rw [ih h0 (by omega)]
      rw [decide_eq_false (by omega)] at hb
      rw [jgo_more hb rfl, he]
      unfold jgrow
      rw [if_neg (show ¬ j.most < ((((l.take i).map fun x => x.d).flatten ++ x.d).length : Int) by rw [List.length_append] at ht ⊢; omega), if_neg (by decide)]
      simp
      omega
/-- A packet's pieces, one behind the other: a Whole. -/
theorem packet_whole {l : List Pc} {d : List Nat} (h : IsPacket l d) {j : Jn} (hm : j.mode ≠ 1) (hd : (d.length : Int) ≤ j.most) :
    l.foldl jgo j = { j with next := j.next + l.length, mode := 0, data := [], told := j.told ++ [⟨0, d, 0, 0⟩] } := by
  obtain ⟨n, hn⟩ : ∃ n, l.length = n + 1 := ⟨l.length - 1, by have := h.pos; omega⟩
  obtain ⟨x, hx⟩ : ∃ x, l[n]? = some x := ⟨_, List.getElem?_eq_getElem (by omega)⟩
  have hb := h.begin_ n x hx
  have he := h.end_ n x hx
  rw [decide_eq_true (by omega)] at he
  have e1 : l = l.take n ++ [x] := by
    have : l.take (n + 1) = l.take n ++ [x] := by rw [List.take_add_one, hx]; rfl
    rwa [List.take_of_length_le (by omega)] at this
  have e2 : ((l.take n).map fun x => x.d).flatten ++ x.d = d := by
    have := h.data
    rw [e1, List.map_append, List.flatten_append] at this
    simpa using this
  have hlen : ((l.length : Nat) : Int) = (n : Int) + 1 := by omega
  rw [hlen]
  conv => lhs; rw [e1]
  rw [List.foldl_append]
  simp only [List.foldl_cons, List.foldl_nil]
  rcases Nat.eq_zero_or_pos n with h0 | h0
  · subst h0
    rw [List.take_zero] at e2 ⊢
    simp only [List.foldl_nil, List.map_nil, List.flatten_nil, List.nil_append] at e2 ⊢
    rw [jgo_first (by rw [hb]; rfl) hm, he, e2]
    unfold jgrow
    rw [if_neg (by omega), if_pos rfl]
    simp
  · rw [packet_part h hm hd n h0 (by omega)]
    rw [decide_eq_false (by omega)] at hb
    rw [jgo_more hb rfl, he]
    simp only [e2]
    unfold jgrow
    rw [if_neg (by show ¬ j.most < _; omega), if_pos rfl]
    simp
    omega
end Go.Proofs.YtamdaepeogmboaaDoor
