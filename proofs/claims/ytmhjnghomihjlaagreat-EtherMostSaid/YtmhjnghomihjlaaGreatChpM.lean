
/-
  Layer 18's answers as mathematics: how a packet is written, what octets are as a packet; what is read of what is written, what is written of what is read; which packet answers which. No condition beyond: octets below 256.
-/
import Derived.Test.YtmhjnghomihjlaaGreatPapM
namespace Go.Proofs.YtmhjnghomihjlaaGreat
set_option maxRecDepth 4000

/-- Has a code a value? -/
def isvB (c : Nat) : Bool := decide (c = 1 ∨ c = 2)
theorem isvB_yes {c : Nat} (h : isvB c = true) : c = 1 ∨ c = 2 := of_decide_eq_true h
theorem isvB_no {c : Nat} (h : isvB c = false) : ¬ (c = 1 ∨ c = 2) := of_decide_eq_false h
/-- A packet without what its code has. -/
def restH (p : Pk) : Pk := if isvB p.code = true then { p with one := [], two := [] } else { p with data := [] }
/-- Its control packet's data, and the error's number. -/
def wrH (p : Pk) : List Nat × Nat :=
  if isvB p.code = true then (if p.one = [] then ([], 4) else if p.one.length ≤ 255 then (lenT p.one ++ p.two, 0) else ([], 3)) else (p.data, 0)
/-- What Put answers. -/
def chputB (p : Pk) : List Nat × Nat :=
  if p.proto = 49699 then (if nothL (restH p) = true then (if (wrH p).2 = 0 then (kputA p.code p.id (wrH p).1, kerrP (wrH p).1) else ([], (wrH p).2)) else ([], 9)) else ([], 8)
/-- The value that octets begin with, what stands behind it, the error's number. -/
def cutH (d : List Nat) : List Nat × List Nat × Nat := if d[0]? = some 0 then ([], [], 4) else cutT d
/-- What a control packet's data is. -/
def chrdB (c i : Nat) (d : List Nat) : Pk × Nat :=
  if isvB c = true then
    (if (cutH d).2.2 = 0 then (⟨49699, c, i, [], 0, 0, (cutH d).1, (cutH d).2.1, [], []⟩, 0) else (pk0, (cutH d).2.2))
  else (⟨49699, c, i, [], 0, 0, [], [], d, []⟩, 0)
/-- What Get answers. -/
def chgetB (b : List Nat) : Pk × Nat := if (kgetB b).2.2.2 = 0 then chrdB (kgetB b).1 (kgetB b).2.1 (kgetB b).2.2.1 else (pk0, (kgetB b).2.2.2)
/-- Does a packet answer another one? -/
def chansB (p o : Pk) : Bool := decide (p.proto = 49699 ∧ o.proto = 49699 ∧ p.id = o.id ∧ ((p.code = 2 ∧ o.code = 1) ∨ ((p.code = 3 ∨ p.code = 4) ∧ o.code = 2)))

theorem chget_of {b d : List Nat} {x y : Nat} (h : kgetB b = (x, y, d, 0)) : chgetB b = chrdB x y d := by unfold chgetB; rw [h]; rfl
theorem chget_no {b d : List Nat} {x y e : Nat} (h : kgetB b = (x, y, d, e)) (he : e ≠ 0) : chgetB b = (pk0, e) := by unfold chgetB; rw [h]; exact if_neg he

theorem cutH_zero {d : List Nat} (h : d[0]? = some 0) : cutH d = ([], [], 4) := if_pos h
theorem cutH_some {d : List Nat} (h : ¬ d[0]? = some 0) : cutH d = cutT d := if_neg h
theorem cutH_lenT {l : List Nat} (h : l ≠ []) (t : List Nat) : cutH (lenT l ++ t) = (l, t, 0) := by
  rw [cutH_some, cutT_lenT]
  show ¬ some l.length = some 0
  intro e
  injection e with e
  exact h (List.eq_nil_of_length_eq_zero e)
theorem cutH_get (d : List Nat) : (∃ l r, cutH d = (l, r, 0) ∧ cutT d = (l, r, 0) ∧ d = lenT l ++ r ∧ l ≠ []) ∨ (cutH d = ([], [], 2) ∧ cutT d = ([], [], 2) ∧ ¬ d[0]? = some 0) ∨ (cutH d = ([], [], 4) ∧ d[0]? = some 0) := by
  by_cases h : d[0]? = some 0
  · exact .inr (.inr ⟨cutH_zero h, h⟩)
  · rw [cutH_some h]
    rcases cutT_get d with ⟨l, r, e1, e2⟩ | e1
    · refine .inl ⟨l, r, e1, e1, e2, fun e => h ?_⟩
      rw [e2, e]
      rfl
    · exact .inr (.inl ⟨e1, e1, h⟩)

theorem chrd_err {c i : Nat} {d : List Nat} {p : Pk} {k : Nat} (h : chrdB c i d = (p, k)) (hk : k ≠ 0) : p = pk0 := by
  unfold chrdB at h
  split at h
  · split at h
    · exact absurd (Prod.mk.inj h).2.symm hk
    · exact (Prod.mk.inj h).1.symm
  · exact absurd (Prod.mk.inj h).2.symm hk
theorem chget_err {b : List Nat} {p : Pk} {k : Nat} (h : chgetB b = (p, k)) (hk : k ≠ 0) : p = pk0 := by
  unfold chgetB at h
  split at h
  · exact chrd_err h hk
  · exact (Prod.mk.inj h).1.symm
theorem chput_kind {p : Pk} (h1 : ¬ p.proto = 49699) : chputB p = ([], 8) := by
  unfold chputB
  rw [if_neg h1]
theorem chput_err {p : Pk} {m : List Nat} {k : Nat} (h : chputB p = (m, k)) (hk : k ≠ 0) : m = [] := by
  unfold chputB at h
  split at h
  · split at h
    · split at h
      · obtain ⟨h1, h2⟩ := Prod.mk.inj h
        unfold kerrP at h2
        unfold kputA at h1
        split at h2
        · exact absurd h2.symm hk
        · rename_i h3
          rw [if_neg h3] at h1
          exact h1.symm
      · exact (Prod.mk.inj h).1.symm
    · exact (Prod.mk.inj h).1.symm
  · exact (Prod.mk.inj h).1.symm
theorem wrH_len (p : Pk) : (wrH p).1.length ≤ p.one.length + p.two.length + p.data.length + 2 := by
  unfold wrH
  split
  · split
    · show 0 ≤ _; omega
    · split
      · show (lenT p.one ++ p.two).length ≤ _
        rw [List.length_append, lenT_len]; omega
      · show 0 ≤ _; omega
  · show p.data.length ≤ _
    omega
theorem chput_len {p : Pk} {m : List Nat} {k : Nat} (h : chputB p = (m, k)) (hf : fewP p = true) : m.length ≤ 2000 := by
  obtain ⟨⟨f1, f2⟩, f3, f4, f5, f6⟩ := fewP_of hf
  have key := wrH_len p
  unfold chputB at h
  split at h
  · split at h
    · split at h
      · obtain ⟨h1, -⟩ := Prod.mk.inj h
        unfold kputA at h1
        split at h1
        · rw [← h1, kput_len]; omega
        · rw [← h1]; simp
      · rw [← (Prod.mk.inj h).1]; simp
    · rw [← (Prod.mk.inj h).1]; simp
  · rw [← (Prod.mk.inj h).1]; simp
/-- What is said of a packet that can be written. -/
theorem chput_ok {p : Pk} {m : List Nat} (h : chputB p = (m, 0)) : p.proto = 49699 ∧ nothL (restH p) = true ∧ (wrH p).2 = 0 ∧ (wrH p).1.length ≤ 65531 ∧ m = kputB p.code p.id (wrH p).1 := by
  unfold chputB at h
  split at h
  · rename_i h1
    split at h
    · rename_i h2
      split at h
      · rename_i h3
        obtain ⟨h4, h5⟩ := Prod.mk.inj h
        unfold kerrP at h5
        split at h5
        · rename_i h6
          rw [kputA_ok _ _ h6] at h4
          exact ⟨h1, h2, h3, h6, h4.symm⟩
        · exact absurd h5 (by decide)
      · rename_i h3
        exact absurd (Prod.mk.inj h).2 h3
    · exact absurd (Prod.mk.inj h).2 (by decide)
  · exact absurd (Prod.mk.inj h).2 (by decide)
/-- A packet is read as it was written, whatever stands behind it. -/
theorem chget_put {p : Pk} {m : List Nat} (h : chputB p = (m, 0)) (t : List Nat) : chgetB (m ++ t) = (p, 0) := by
  obtain ⟨h1, h2, h3, h4, rfl⟩ := chput_ok h
  rw [chget_of (kget_put _ _ _ t)]
  obtain ⟨pr, co, i, os, su, ma, on, tw, da, nu⟩ := p
  simp only at h1
  subst h1
  unfold chrdB
  cases hk : isvB co
  · simp only [restH, hk, wrH, Bool.false_eq_true, if_false] at h2 h3 ⊢
    obtain ⟨a1, a2, a3, a4, a5, a6, -⟩ := (nothL_iff _).1 h2
    simp only at a1 a2 a3 a4 a5 a6
    subst a1; subst a2; subst a3; subst a4; subst a5; subst a6
    rfl
  · simp only [restH, hk, wrH, if_true] at h2 h3 ⊢
    obtain ⟨a1, a2, a3, a4, -, -, a7⟩ := (nothL_iff _).1 h2
    simp only at a1 a2 a3 a4 a7
    subst a1; subst a2; subst a3; subst a4; subst a7
    split at h3
    · exact absurd h3 (by decide)
    · rename_i hn
      split at h3
      · rename_i hq
        rw [if_neg hn, if_pos hq]
        dsimp only
        rw [cutH_lenT hn tw]
        rfl
      · exact absurd h3 (by decide)
/-- What octets are as a packet's data, and how it is written. -/
theorem chrd_ok {c i : Nat} {d : List Nat} (hc : c < 256) (hi : i < 256) (hb : By d) {y : Pk} {k : Nat} (h : chrdB c i d = (y, k)) :
    y.ok ∧ y.opts = [] ∧ y.nums = [] ∧ y.one.length ≤ d.length ∧ y.two.length ≤ d.length ∧ y.data.length ≤ d.length ∧ (k = 0 → y.proto = 49699 ∧ y.code = c ∧ y.id = i ∧ nothL (restH y) = true ∧ wrH y = (d, 0)) := by
  have ok0 : pk0.ok := ⟨by decide, by decide, by decide, (fun _ h => by cases h), by decide, by decide, By.nil, By.nil, By.nil, (fun _ h => by cases h)⟩
  have z0 : ∀ k' : Nat, k' ≠ 0 → pk0.ok ∧ pk0.opts = [] ∧ pk0.nums = [] ∧ pk0.one.length ≤ d.length ∧ pk0.two.length ≤ d.length ∧ pk0.data.length ≤ d.length ∧ (k' = 0 → pk0.proto = 49699 ∧ pk0.code = c ∧ pk0.id = i ∧ nothL (restH pk0) = true ∧ wrH pk0 = (d, 0)) := fun k' hk' =>
    ⟨ok0, rfl, rfl, Nat.zero_le _, Nat.zero_le _, Nat.zero_le _, fun e => absurd e hk'⟩
  have part : ∀ {l r : List Nat}, By (lenT l ++ r) → By l ∧ By r ∧ l.length ≤ 255 := fun {l r} hh =>
    ⟨fun x hx => hh x (List.mem_append_left _ (List.mem_cons_of_mem _ hx)), fun x hx => hh x (List.mem_append_right _ hx), by have := hh l.length (List.mem_append_left _ (List.mem_cons_self ..)); omega⟩
  unfold chrdB at h
  cases hk : isvB c
  · rw [hk, if_neg (by decide)] at h
    obtain ⟨rfl, rfl⟩ := Prod.mk.inj h
    refine ⟨⟨show (49699 : Nat) < 65536 by decide, hc, hi, (fun _ h => by cases h), show (0 : Nat) < 65536 by decide, show (0 : Nat) < 4294967296 by decide, By.nil, By.nil, hb, (fun _ h => by cases h)⟩, rfl, rfl, Nat.zero_le _, Nat.zero_le _, Nat.le_refl _, fun _ => ⟨rfl, rfl, rfl, ?_, ?_⟩⟩
    · simp only [restH, hk, Bool.false_eq_true, if_false]; rfl
    · simp only [wrH, hk, Bool.false_eq_true, if_false]
  · rw [if_pos hk] at h
    rcases cutH_get d with ⟨l, r, e1, -, e2, e3⟩ | ⟨e1, -, -⟩ | ⟨e1, -⟩
    · rw [e1] at h
      dsimp only at h
      rw [if_pos rfl] at h
      subst e2
      obtain ⟨b1, b2, b3⟩ := part hb
      obtain ⟨rfl, rfl⟩ := Prod.mk.inj h
      refine ⟨⟨show (49699 : Nat) < 65536 by decide, hc, hi, (fun _ h => by cases h), show (0 : Nat) < 65536 by decide, show (0 : Nat) < 4294967296 by decide, b1, b2, By.nil, (fun _ h => by cases h)⟩, rfl, rfl, ?_, ?_, Nat.zero_le _, fun _ => ⟨rfl, rfl, rfl, ?_, ?_⟩⟩
      · show l.length ≤ _
        rw [List.length_append, lenT_len]; omega
      · show r.length ≤ _
        rw [List.length_append]; omega
      · simp only [restH, hk, if_true]; rfl
      · simp only [wrH, hk, if_true, if_neg e3, b3]
    · rw [e1] at h
      dsimp only at h
      rw [if_neg (by decide)] at h
      obtain ⟨rfl, rfl⟩ := Prod.mk.inj h
      exact z0 _ (by decide)
    · rw [e1] at h
      dsimp only at h
      rw [if_neg (by decide)] at h
      obtain ⟨rfl, rfl⟩ := Prod.mk.inj h
      exact z0 _ (by decide)
/-- What is read is of Go's, and small. -/
theorem chget_ok {b : List Nat} (hb : By b) {y : Pk} {k : Nat} (h : chgetB b = (y, k)) (hl : b.length ≤ 1073741824) : y.ok ∧ y.sm := by
  obtain ⟨x, c, d, e, hg⟩ : ∃ x c d e, kgetB b = (x, c, d, e) := ⟨_, _, _, _, rfl⟩
  by_cases he : e = 0
  · subst he
    rw [chget_of hg] at h
    obtain ⟨g1, g2, -, -, -⟩ := kput_get hb hg
    obtain ⟨g3, g4⟩ := kget_bytes hb hg
    obtain ⟨a1, a2, a3, a4, a5, a6, -⟩ := chrd_ok g1 g2 g3 h
    exact ⟨a1, by rw [a2]; simp, by rw [a2]; decide, by omega, by omega, by omega, by rw [a3]; simp⟩
  · rw [chget_no hg he] at h
    obtain ⟨rfl, rfl⟩ := Prod.mk.inj h
    exact ⟨⟨by decide, by decide, by decide, (fun _ h => by cases h), by decide, by decide, By.nil, By.nil, By.nil, (fun _ h => by cases h)⟩, by decide, by decide, by decide, by decide, by decide, by decide⟩
/-- What is read is written so. -/
theorem chput_get {b : List Nat} (hb : By b) {y : Pk} (h : chgetB b = (y, 0)) : ∃ m, chputB y = (m, 0) ∧ m.length ≤ b.length ∧ m = b.take m.length := by
  obtain ⟨x, c, d, e, hg⟩ : ∃ x c d e, kgetB b = (x, c, d, e) := ⟨_, _, _, _, rfl⟩
  by_cases he : e = 0
  · subst he
    rw [chget_of hg] at h
    obtain ⟨g1, g2, g5, g6, g7⟩ := kput_get hb hg
    obtain ⟨g3, g4⟩ := kget_bytes hb hg
    obtain ⟨-, -, -, -, -, -, a8⟩ := chrd_ok g1 g2 g3 h
    obtain ⟨e1, e2, e3, e4, e5⟩ := a8 rfl
    have hlen : (kputB x c d).length = b.length - kpadB b := by rw [g7, List.length_take]; omega
    refine ⟨kputB x c d, ?_, by omega, by rw [hlen]; exact g7⟩
    unfold chputB
    rw [if_pos e1, if_pos e4, e5]
    simp only [if_true]
    rw [e2, e3, kputA_ok _ _ g5, kerrP_ok g5]
  · rw [chget_no hg he] at h
    exact absurd (Prod.mk.inj h).2 he
theorem chput_by {p : Pk} {m : List Nat} (hok : p.ok) (h : chputB p = (m, 0)) : By m := by
  obtain ⟨-, -, h3, h4, rfl⟩ := chput_ok h
  refine kput_by hok.code hok.id ?_ h4
  unfold wrH at h3 ⊢
  split at h3
  · rename_i hk
    rw [if_pos hk]
    split at h3
    · exact absurd h3 (by decide)
    · rename_i hn
      split at h3
      · rename_i hq
        rw [if_neg hn, if_pos hq]
        exact (lenT_by hok.one hq).app hok.two
      · exact absurd h3 (by decide)
  · rename_i hk
    rw [if_neg hk]
    exact hok.data
theorem nothH_iff (p : Pk) : nothL (restH p) = true ↔ (isvB p.code = true → p.data.length = 0) ∧ (¬ isvB p.code = true → p.one.length = 0 ∧ p.two.length = 0) ∧ p.sub = 0 ∧ p.magic = 0 ∧ p.opts.length = 0 ∧ p.nums.length = 0 := by
  unfold restH nothL
  cases hk : isvB p.code
  · rw [if_neg (by decide)]
    simp
    constructor <;> (intro h'; simp_all)
  · rw [if_pos rfl]
    simp
    constructor <;> (intro h'; simp_all)
/-- No packet answers itself, or what answers it; one that answers another one has its identifier. -/
theorem chans_self (p : Pk) : chansB p p = false := by
  unfold chansB
  rw [decide_eq_false_iff_not]
  omega
theorem chans_turn {p o : Pk} (h : chansB p o = true) : chansB o p = false ∧ p.id = o.id := by
  unfold chansB at h ⊢
  rw [decide_eq_true_eq] at h
  rw [decide_eq_false_iff_not]
  omega
end Go.Proofs.YtmhjnghomihjlaaGreat
