
/-
  Frames as lists of numbers: read as they were built, spoiled, and built again. No condition beyond those in the lemmas.
-/
import Derived.Test.YtkakkligndejaaaDoorFrp
namespace Go.Proofs.YtkakkligndejaaaDoor
open Go.RowKit

theorem hgetB_err (c : Cf) (l : List Nat) : (hgetB c l).2.2 = 0 ∨ (hgetB c l).2.2 = 7 := by
  unfold hgetB haddB
  repeat' split
  all_goals simp
theorem partB_sum (x z : Cf) (p : Nat) (l : List Nat) (hr : rightB p = true) (hA : x.acfc = true → z.acfc = true) (hP : x.pfc = true → z.pfc = true) (hl : (l.length : Int) ≤ z.mru) : partB z (sumdB x p l) = (p, l, 0) := by
  have h := hget_put x z p l hr hA hP
  have e : (sumdB x p l).length - (hputB x p).length = l.length := by simp [sumdB]
  have hn : ¬ z.mru < ((l.length : Nat) : Int) := by omega
  unfold partB
  rw [show hgetB z (sumdB x p l) = (p, (hputB x p).length, 0) from h]
  simp only [e, if_true, if_neg hn]
  simp [sumdB]
/-- A frame is read as it was built. -/
theorem parse_frame (x z : Cf) (p : Nat) (l : List Nat) (hr : rightB p = true) (hW : x.wide = z.wide) (hA : x.acfc = true → z.acfc = true) (hP : x.pfc = true → z.pfc = true) (hl : (l.length : Int) ≤ z.mru) : parseB z (frameB x p l) = (p, l, 0) := by
  have hlen := frameB_len x p l
  have hp := hputB_len x p
  have hm := mostI_eq z
  have hz := size_pos z.wide
  rw [hW] at hlen
  have e : (frameB x p l).take ((frameB x p l).length - sizeW z.wide) = sumdB x p l := by
    rw [hlen, Nat.add_sub_cancel]
    have : (hputB x p).length + l.length = (sumdB x p l).length := by simp [sumdB]
    rw [this]
    exact List.take_left
  have hg : goodW z.wide (frameB x p l) = true := by rw [← hW]; exact good_whole x.wide (sumdB x p l)
  unfold parseB
  rw [if_neg (by omega), if_neg (by omega), if_pos hg, e]
  exact partB_sum x z p l hr hA hP hl

theorem parse_fits (x z : Cf) (p : Nat) (l : List Nat) (hr : rightB p = true) (hf : fitsB x z = true) (hl : (l.length : Int) ≤ x.mru) : parseB z (frameB x p l) = (p, l, 0) := by
  unfold fitsB folB at hf
  simp only [Bool.and_eq_true, beq_iff_eq, decide_eq_true_iff, Bool.or_eq_true, Bool.not_eq_true'] at hf
  obtain ⟨_, h2, h3, h4, _, h6⟩ := hf
  refine parse_frame x z p l hr h2 (fun h => ?_) (fun h => ?_) (by omega)
  · rcases h3 with h3 | h3
    · exact h3
    · rw [h] at h3; cases h3
  · rcases h4 with h4 | h4
    · exact h4
    · rw [h] at h4; cases h4

/-- An octet turned. -/
theorem reg_turn8 (p r : Nat) (l : List Nat) (k x d : Nat) (h : l[k]? = some x) : reg p r (l.set k (x ^^^ d)) = reg p r l ^^^ shN p (8 * (l.length - k)) d := by
  have hk : k < l.length := (List.getElem?_eq_some_iff.1 h).1
  have e1 : l = l.take k ++ x :: l.drop (k + 1) := by
    conv => lhs; rw [← List.take_append_drop k l]
    rw [List.drop_eq_getElem_cons hk]
    rw [List.getElem?_eq_getElem hk] at h
    injection h with h
    rw [h]
  have e2 : l.set k (x ^^^ d) = l.take k ++ (x ^^^ d) :: l.drop (k + 1) := List.set_eq_take_append_cons_drop.trans (by rw [if_pos hk])
  conv => rhs; rw [e1]
  rw [e2, reg_app, reg_app, reg_cons, reg_cons, ← Nat.xor_assoc, shN_xor, reg_state, ← shN_add]
  congr 2
  rw [List.length_append, List.length_take, List.length_cons, List.length_drop]
  omega
theorem spoil_bad (wide : Bool) (l : List Nat) (hb : By l) (hl : sizeW wide ≤ l.length) (hg : goodW wide l = true) (k x d : Nat) (h : l[k]? = some x) (hd : d < 256) (h0 : d ≠ 0) : goodW wide (l.set k (x ^^^ d)) = false := by
  have hx := hb.get h
  have hb2 : By (l.set k (x ^^^ d)) := by
    intro y hy
    rcases List.mem_or_eq_of_mem_set hy with h1 | rfl
    · exact hb y h1
    · exact Nat.xor_lt_two_pow (n := 8) hx hd
  rw [good_iff wide l hb hl, decide_eq_true_iff] at hg
  rw [good_iff wide _ hb2 (by rw [List.length_set]; exact hl), decide_eq_false_iff_not]
  intro hg2
  apply h0
  have e := reg_turn8 (polyW wide) (onesW wide) l k x d h
  unfold regW at hg hg2
  rw [hg2, hg] at e
  have e2 : shN (polyW wide) (8 * (l.length - k)) d = shN (polyW wide) (8 * (l.length - k)) 0 := by
    rw [shN_zero]
    have := congrArg (fun y => resW wide ^^^ y) e
    simp only [Nat.xor_self] at this
    rw [← Nat.xor_assoc, Nat.xor_self, Nat.zero_xor] at this
    exact this.symm
  have ht := top_ge wide
  exact shT_inj wide _ (by omega) (by omega) e2
/-- A frame with another octet is refused. -/
theorem parse_spoil (c : Cf) (p : Nat) (hp : p < 65536) (l : List Nat) (hb : By l) (hl : (l.length : Int) ≤ c.mru) (k x d : Nat) (h : (frameB c p l)[k]? = some x) (hd : d < 256) (h0 : d ≠ 0) : parseB c ((frameB c p l).set k (x ^^^ d)) = (0, [], 6) := by
  have hlen := frameB_len c p l
  have hpl := hputB_len c p
  have hm := mostI_eq c
  have hg := spoil_bad c.wide (frameB c p l) (frameB_by c hp hb) (by omega) (good_whole c.wide (sumdB c p l)) k x d h hd h0
  unfold parseB
  rw [List.length_set, if_neg (by omega), if_neg (by omega), hg]
  rfl

theorem partB_len (c : Cf) (l : List Nat) : (partB c l).2.1.length ≤ l.length := by
  unfold partB
  repeat' split
  all_goals simp
theorem parseB_len (c : Cf) (l : List Nat) : (parseB c l).2.1.length ≤ l.length := by
  unfold parseB
  split
  · simp
  split
  · simp
  split
  · refine Nat.le_trans (partB_len c _) ?_
    rw [List.length_take]; omega
  · simp
theorem hputB_min (c : Cf) (q : Nat) (h : q ≠ 49185) (m : List Nat) (hm : m ∈ allB c q) : (hputB c q).length ≤ m.length := by
  have e : hputB c q = wrB q (!c.acfc) c.pfc := by simp [hputB, h]
  rw [e]
  unfold allB numB at hm
  cases ha : c.acfc <;> cases hp : c.pfc <;> by_cases hq : q < 256 <;> simp [ha, hp, hq] at hm <;> simp [wrB, ledB, putB, hq] <;> (try rcases hm with rfl | rfl | rfl | rfl) <;> (try rcases hm with rfl | rfl) <;> (try subst hm) <;> simp [wrB, ledB, putB, hq]
/-- What is read of octets and their sum. -/
theorem parse_again (c : Cf) (l : List Nat) (hb : By l) :
    let g := parseB c (l ++ trail c.wide (sumW c.wide l))
    (g.2.2 ≠ 0 → g.1 = 0 ∧ g.2.1 = [] ∧ g.2.2 ≠ 6) ∧
    (g.2.2 = 0 → g.1 < 65536 ∧ rightB g.1 = true ∧ (g.2.1.length : Int) ≤ c.mru ∧ By g.2.1 ∧ ((frameB c g.1 g.2.1).length ≤ l.length + sizeW c.wide ∨ g.1 = 49185)) := by
  intro g
  have hg : goodW c.wide (l ++ trail c.wide (sumW c.wide l)) = true := good_whole c.wide l
  have hlen : (l ++ trail c.wide (sumW c.wide l)).length = l.length + sizeW c.wide := by rw [List.length_append, trail_len]
  have e : (l ++ trail c.wide (sumW c.wide l)).take (l.length + sizeW c.wide - sizeW c.wide) = l := by
    rw [Nat.add_sub_cancel]
    exact List.take_left
  have E : g = if mostI c < ((l.length + sizeW c.wide : Nat) : Int) then (0, [], 3) else if l.length + sizeW c.wide ≤ sizeW c.wide then (0, [], 2) else partB c l := by
    show parseB c _ = _
    unfold parseB
    rw [hlen, hg, e, if_pos rfl]
  rw [E]
  clear E g hg e hlen
  split
  · simp
  split
  · simp
  have he := hgetB_err c l
  have hlt := hgetB_lt (c := c) hb
  unfold partB
  by_cases h0 : (hgetB c l).2.2 = 0
  · rw [if_pos h0]
    split
    · simp
    · rename_i hmr
      refine ⟨fun h => absurd rfl h, fun _ => ?_⟩
      obtain ⟨h1, h2, h3⟩ := hget_all (c := c) (q := (hgetB c l).1) (n := (hgetB c l).2.1) hb (by rw [← h0])
      refine ⟨hlt, h1, ?_, hb.drop _, ?_⟩
      · show ((l.drop _).length : Int) ≤ _
        rw [List.length_drop]; omega
      · by_cases hq : (hgetB c l).1 = 49185
        · exact .inr hq
        · left
          have := hputB_min c _ hq _ h3
          rw [List.length_take] at this
          show (frameB c (hgetB c l).1 (l.drop (hgetB c l).2.1)).length ≤ _
          rw [frameB_len, List.length_drop]
          omega
  · rw [if_neg h0]
    refine ⟨fun _ => ⟨rfl, rfl, ?_⟩, fun h => absurd h h0⟩
    show (hgetB c l).2.2 ≠ 6
    omega

theorem partB_lt (c : Cf) {l : List Nat} (hb : By l) : (partB c l).1 < 65536 := by
  have hlt := hgetB_lt (c := c) hb
  unfold partB
  split
  · split
    · exact (by omega : (0 : Nat) < 65536)
    · exact hlt
  · exact (by omega : (0 : Nat) < 65536)
theorem parseB_lt (c : Cf) {l : List Nat} (hb : By l) : (parseB c l).1 < 65536 := by
  unfold parseB
  split
  · exact (by omega : (0 : Nat) < 65536)
  split
  · exact (by omega : (0 : Nat) < 65536)
  split
  · exact partB_lt c (hb.take _)
  · exact (by omega : (0 : Nat) < 65536)
/-- Parse, its answer by name. -/
theorem parse_v (c : Cf) (hc : c.may) (l : List Nat) (g1 : Nat) (g2 : List Nat) (g3 : Nat) (hg : parseB c l = (g1, g2, g3)) (A : Option Addr) (n cp : Nat) (w : World) (h : Rd w w.heap.size A l) (hb : By l) (hn : l.length = n) (hcp : n ≤ cp) (hm : n ≤ 1000000) (hT : Tabs w) :
    Calls Tryd.prog 14 #[c.val, .slice A n cp] w fun e w' => ∃ A' c' n', e = .returned (.tuple #[.int .u16 (g1 : Int), .slice A' n' c', .int .i64 (g3 : Int)]) ∧ g2.length = n' ∧ Rd w' w'.heap.size A' g2 ∧ Below w.heap.size w w' :=
  (parse_any c hc l A n cp w h hb hn hcp hm hT).mono fun _ _ ⟨A', c', n', he, h1, _, h3, h4⟩ => by rw [hg] at he h1 h3; exact ⟨A', c', n', he, h1, h3, h4⟩
theorem rparse_v (c : Cf) (hc : c.may) (l : List Nat) (g1 : Nat) (g2 : List Nat) (g3 : Nat) (hg : parseB c l = (g1, g2, g3)) (A : Option Addr) (n cp : Nat) (w : World) (h : Rd w w.heap.size A l) (hb : By l) (hn : l.length = n) (hcp : n ≤ cp) (hm : n ≤ 1000000) :
    Calls Tryd.prog 15 #[c.val, .slice A n cp] w fun e w' => ∃ A' c' n', e = .returned (.tuple #[.int .i64 (g1 : Int), .slice A' n' c', .int .i64 (g3 : Int)]) ∧ g2.length = n' ∧ Rd w' w'.heap.size A' g2 ∧ Below w.heap.size w w' :=
  (rparse_any c hc l A n cp w h hb hn hcp hm).mono fun _ _ ⟨A', c', n', he, h1, _, h3, h4⟩ => by rw [hg] at he h1 h3; exact ⟨A', c', n', he, h1, h3, h4⟩

end Go.Proofs.YtkakkligndejaaaDoor
