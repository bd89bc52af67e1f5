
/-
  Layer 17's answers as mathematics: how a packet is written, what octets are as a packet; what is read of what is written, what is written of what is read. No condition beyond: octets below 256.
-/
import Derived.Test.YtmhjnghomihjlaaGreatLcpN
namespace Go.Proofs.YtmhjnghomihjlaaGreat
set_option maxRecDepth 4000

/-- How many texts a code has. -/
def txtB (c : Nat) : Nat := if c = 1 then 2 else if c = 2 ∨ c = 3 then 1 else 0
theorem txtB_cases (c : Nat) : (c = 1 ∧ txtB c = 2) ∨ ((c = 2 ∨ c = 3) ∧ txtB c = 1) ∨ (¬ (1 ≤ c ∧ c ≤ 3) ∧ txtB c = 0) := by
  unfold txtB
  split
  · exact .inl ⟨by assumption, rfl⟩
  · split
    · exact .inr (.inl ⟨by assumption, rfl⟩)
    · exact .inr (.inr ⟨by omega, rfl⟩)
/-- A text, its length ahead. -/
def lenT (l : List Nat) : List Nat := l.length :: l
/-- A packet without what its code has. -/
def restA (p : Pk) : Pk := if txtB p.code = 2 then { p with one := [], two := [] } else if txtB p.code = 1 then { p with one := [] } else { p with data := [] }
/-- Its control packet's data, and the error's number. -/
def wrA (p : Pk) : List Nat × Nat :=
  if txtB p.code = 2 then (if p.one.length ≤ 255 ∧ p.two.length ≤ 255 then (lenT p.one ++ lenT p.two, 0) else ([], 3))
  else if txtB p.code = 1 then (if p.one.length ≤ 255 then (lenT p.one, 0) else ([], 3)) else (p.data, 0)
/-- What Put answers. -/
def aputB (p : Pk) : List Nat × Nat :=
  if p.proto = 49187 then (if nothL (restA p) = true then (if (wrA p).2 = 0 then (kputA p.code p.id (wrA p).1, kerrP (wrA p).1) else ([], (wrA p).2)) else ([], 9)) else ([], 8)
/-- The text that octets begin with, what stands behind it, the error's number. -/
def cutT (d : List Nat) : List Nat × List Nat × Nat :=
  match d with
  | [] => ([], [], 2)
  | n :: t => if t.length < n then ([], [], 2) else (t.take n, t.drop n, 0)
/-- What a control packet's data is. -/
def ardB (c i : Nat) (d : List Nat) : Pk × Nat :=
  if txtB c = 2 then
    (if (cutT d).2.2 = 0 then
      (if (cutT (cutT d).2.1).2.2 = 0 then
        (if (cutT (cutT d).2.1).2.1 = [] then (⟨49187, c, i, [], 0, 0, (cutT d).1, (cutT (cutT d).2.1).1, [], []⟩, 0) else (pk0, 4))
       else (pk0, 2))
     else (pk0, 2))
  else if txtB c = 1 then
    (if (cutT d).2.2 = 0 then (if (cutT d).2.1 = [] then (⟨49187, c, i, [], 0, 0, (cutT d).1, [], [], []⟩, 0) else (pk0, 4)) else (pk0, 2))
  else (⟨49187, c, i, [], 0, 0, [], [], d, []⟩, 0)
/-- What Get answers. -/
def agetB (b : List Nat) : Pk × Nat := if (kgetB b).2.2.2 = 0 then ardB (kgetB b).1 (kgetB b).2.1 (kgetB b).2.2.1 else (pk0, (kgetB b).2.2.2)

theorem aget_of {b d : List Nat} {x y : Nat} (h : kgetB b = (x, y, d, 0)) : agetB b = ardB x y d := by unfold agetB; rw [h]; rfl
theorem aget_no {b d : List Nat} {x y e : Nat} (h : kgetB b = (x, y, d, e)) (he : e ≠ 0) : agetB b = (pk0, e) := by unfold agetB; rw [h]; exact if_neg he

/-- The cut in three ways. -/
theorem cutT_nil : cutT [] = ([], [], 2) := rfl
theorem cutT_short {n : Nat} {t : List Nat} (h : t.length < n) : cutT (n :: t) = ([], [], 2) := if_pos h
theorem cutT_ok {n : Nat} {t : List Nat} (h : n ≤ t.length) : cutT (n :: t) = (t.take n, t.drop n, 0) := if_neg (by omega)
/-- Octets whose first one is known. -/
theorem cutT_at {d : List Nat} {x n : Nat} (hx : d[0]? = some x) (hn : d.length = n) : cutT d = if n < x + 1 then ([], [], 2) else ((d.take (x + 1)).drop 1, d.drop (x + 1), 0) := by
  match d, hx with
  | y :: t, hx =>
    have e : y = x := by simpa using hx
    subst e
    have e2 : n = t.length + 1 := by rw [← hn]; rfl
    by_cases h : t.length < y
    · rw [cutT_short h, if_pos (by omega)]
    · rw [cutT_ok (by omega), if_neg (by omega)]
      rfl
theorem cutT_lenT (l t : List Nat) : cutT (lenT l ++ t) = (l, t, 0) := by
  show cutT (l.length :: (l ++ t)) = _
  rw [cutT_ok (by rw [List.length_append]; omega), List.take_left', List.drop_left']
  · rfl
  · rfl
/-- A cut that comes off. -/
theorem cutT_said {d l r : List Nat} (h : cutT d = (l, r, 0)) : d = lenT l ++ r := by
  match d with
  | [] => exact absurd (Prod.mk.inj (Prod.mk.inj h).2).2 (by decide)
  | n :: t =>
    rcases Nat.lt_or_ge t.length n with h1 | h1
    · rw [cutT_short h1] at h
      exact absurd (Prod.mk.inj (Prod.mk.inj h).2).2 (by decide)
    · rw [cutT_ok h1] at h
      obtain ⟨h2, h3⟩ := Prod.mk.inj h
      obtain ⟨h3, -⟩ := Prod.mk.inj h3
      have hl : l.length = n := by rw [← h2, List.length_take]; omega
      show _ = l.length :: (l ++ r)
      rw [hl, ← h2, ← h3, List.take_append_drop]
theorem cutT_err (d : List Nat) : (cutT d).2.2 = 0 ∨ cutT d = ([], [], 2) := by
  match d with
  | [] => exact .inr rfl
  | n :: t =>
    rcases Nat.lt_or_ge t.length n with h1 | h1
    · exact .inr (cutT_short h1)
    · exact .inl (by rw [cutT_ok h1])
theorem cutT_get (d : List Nat) : (∃ l r, cutT d = (l, r, 0) ∧ d = lenT l ++ r) ∨ cutT d = ([], [], 2) := by
  rcases cutT_err d with h | h
  · refine .inl ⟨(cutT d).1, (cutT d).2.1, ?_⟩
    have e : cutT d = ((cutT d).1, (cutT d).2.1, 0) := by rw [← h]
    exact ⟨e, cutT_said e⟩
  · exact .inr h
theorem lenT_by {l : List Nat} (hb : By l) (hl : l.length ≤ 255) : By (lenT l) := by
  intro x hx
  rcases List.mem_cons.1 hx with h | h
  · omega
  · exact hb x h
theorem lenT_len (l : List Nat) : (lenT l).length = l.length + 1 := rfl

theorem ard_err {c i : Nat} {d : List Nat} {p : Pk} {k : Nat} (h : ardB c i d = (p, k)) (hk : k ≠ 0) : p = pk0 := by
  unfold ardB at h
  split at h
  · split at h
    · split at h
      · split at h
        · exact absurd (Prod.mk.inj h).2.symm hk
        · exact (Prod.mk.inj h).1.symm
      · exact (Prod.mk.inj h).1.symm
    · exact (Prod.mk.inj h).1.symm
  · split at h
    · split at h
      · split at h
        · exact absurd (Prod.mk.inj h).2.symm hk
        · exact (Prod.mk.inj h).1.symm
      · exact (Prod.mk.inj h).1.symm
    · exact absurd (Prod.mk.inj h).2.symm hk
theorem aget_err {b : List Nat} {p : Pk} {k : Nat} (h : agetB b = (p, k)) (hk : k ≠ 0) : p = pk0 := by
  unfold agetB at h
  split at h
  · exact ard_err h hk
  · exact (Prod.mk.inj h).1.symm
theorem aput_kind {p : Pk} (h1 : ¬ p.proto = 49187) : aputB p = ([], 8) := by
  unfold aputB
  rw [if_neg h1]
theorem aput_err {p : Pk} {m : List Nat} {k : Nat} (h : aputB p = (m, k)) (hk : k ≠ 0) : m = [] := by
  unfold aputB at h
  split at h
  · split at h
    · split at h
      · obtain ⟨h1, h2⟩ := Prod.mk.inj h
        unfold kerrP at h2
        unfold kputA at h1
        split at h2
        · exact absurd h2.symm hk
        · rename_i h3
          rw [if_neg h3] at h1
          exact h1.symm
      · exact (Prod.mk.inj h).1.symm
    · exact (Prod.mk.inj h).1.symm
  · exact (Prod.mk.inj h).1.symm
theorem wrA_len (p : Pk) : (wrA p).1.length ≤ p.one.length + p.two.length + p.data.length + 2 := by
  unfold wrA
  split
  · split
    · show (lenT p.one ++ lenT p.two).length ≤ _
      rw [List.length_append, lenT_len, lenT_len]; omega
    · show 0 ≤ _; omega
  · split
    · split
      · show (lenT p.one).length ≤ _
        rw [lenT_len]; omega
      · show 0 ≤ _; omega
    · show p.data.length ≤ _
      omega
theorem aput_len {p : Pk} {m : List Nat} {k : Nat} (h : aputB p = (m, k)) (hf : fewP p = true) : m.length ≤ 2000 := by
  obtain ⟨⟨f1, f2⟩, f3, f4, f5, f6⟩ := fewP_of hf
  have key := wrA_len p
  unfold aputB at h
  split at h
  · split at h
    · split at h
      · obtain ⟨h1, -⟩ := Prod.mk.inj h
        unfold kputA at h1
        split at h1
        · rw [← h1, kput_len]; omega
        · rw [← h1]; simp
      · rw [← (Prod.mk.inj h).1]; simp
    · rw [← (Prod.mk.inj h).1]; simp
  · rw [← (Prod.mk.inj h).1]; simp
/-- What is said of a packet that can be written. -/
theorem aput_ok {p : Pk} {m : List Nat} (h : aputB p = (m, 0)) : p.proto = 49187 ∧ nothL (restA p) = true ∧ (wrA p).2 = 0 ∧ (wrA p).1.length ≤ 65531 ∧ m = kputB p.code p.id (wrA p).1 := by
  unfold aputB at h
  split at h
  · rename_i h1
    split at h
    · rename_i h2
      split at h
      · rename_i h3
        obtain ⟨h4, h5⟩ := Prod.mk.inj h
        unfold kerrP at h5
        split at h5
        · rename_i h6
          rw [kputA_ok _ _ h6] at h4
          exact ⟨h1, h2, h3, h6, h4.symm⟩
        · exact absurd h5 (by decide)
      · rename_i h3
        exact absurd (Prod.mk.inj h).2 h3
    · exact absurd (Prod.mk.inj h).2 (by decide)
  · exact absurd (Prod.mk.inj h).2 (by decide)
/-- A packet is read as it was written, whatever stands behind it. -/
theorem aget_put {p : Pk} {m : List Nat} (h : aputB p = (m, 0)) (t : List Nat) : agetB (m ++ t) = (p, 0) := by
  obtain ⟨h1, h2, h3, h4, rfl⟩ := aput_ok h
  rw [aget_of (kget_put _ _ _ t)]
  obtain ⟨pr, co, i, os, su, ma, on, tw, da, nu⟩ := p
  simp only at h1
  subst h1
  unfold ardB
  rcases txtB_cases co with ⟨-, hk⟩ | ⟨-, hk⟩ | ⟨-, hk⟩
  · simp only [restA, hk, wrA, if_true] at h2 h3 ⊢
    obtain ⟨a1, a2, a3, a4, -, -, a7⟩ := (nothL_iff _).1 h2
    simp only at a1 a2 a3 a4 a7
    subst a1; subst a2; subst a3; subst a4; subst a7
    split at h3
    · rename_i hq
      rw [if_pos hq]
      dsimp only
      have e2 := cutT_lenT tw []
      rw [List.append_nil] at e2
      rw [cutT_lenT on (lenT tw)]
      dsimp only
      rw [e2]
      rfl
    · exact absurd h3 (by decide)
  · simp only [restA, hk, wrA, if_true, show ¬ (1 : Nat) = 2 by decide, if_false] at h2 h3 ⊢
    obtain ⟨a1, a2, a3, a4, -, a6, a7⟩ := (nothL_iff _).1 h2
    simp only at a1 a2 a3 a4 a6 a7
    subst a1; subst a2; subst a3; subst a4; subst a6; subst a7
    split at h3
    · rename_i hq
      rw [if_pos hq]
      dsimp only
      have e2 := cutT_lenT on []
      rw [List.append_nil] at e2
      rw [e2]
      rfl
    · exact absurd h3 (by decide)
  · simp only [restA, hk, wrA, show ¬ (0 : Nat) = 2 by decide, show ¬ (0 : Nat) = 1 by decide, if_false] at h2 h3 ⊢
    obtain ⟨a1, a2, a3, a4, a5, a6, -⟩ := (nothL_iff _).1 h2
    simp only at a1 a2 a3 a4 a5 a6
    subst a1; subst a2; subst a3; subst a4; subst a5; subst a6
    rfl
/-- What octets are as a packet's data, and how it is written. -/
theorem ard_ok {c i : Nat} {d : List Nat} (hc : c < 256) (hi : i < 256) (hb : By d) {y : Pk} {k : Nat} (h : ardB c i d = (y, k)) :
    y.ok ∧ y.opts = [] ∧ y.nums = [] ∧ y.one.length ≤ d.length ∧ y.two.length ≤ d.length ∧ y.data.length ≤ d.length ∧ (k = 0 → y.proto = 49187 ∧ y.code = c ∧ y.id = i ∧ nothL (restA y) = true ∧ wrA y = (d, 0)) := by
  have ok0 : pk0.ok := ⟨by decide, by decide, by decide, (fun _ h => by cases h), by decide, by decide, By.nil, By.nil, By.nil, (fun _ h => by cases h)⟩
  have z0 : ∀ k' : Nat, k' ≠ 0 → pk0.ok ∧ pk0.opts = [] ∧ pk0.nums = [] ∧ pk0.one.length ≤ d.length ∧ pk0.two.length ≤ d.length ∧ pk0.data.length ≤ d.length ∧ (k' = 0 → pk0.proto = 49187 ∧ pk0.code = c ∧ pk0.id = i ∧ nothL (restA pk0) = true ∧ wrA pk0 = (d, 0)) := fun k' hk' =>
    ⟨ok0, rfl, rfl, Nat.zero_le _, Nat.zero_le _, Nat.zero_le _, fun e => absurd e hk'⟩
  have part : ∀ {l r : List Nat}, By (lenT l ++ r) → By l ∧ By r ∧ l.length ≤ 255 := fun {l r} hh =>
    ⟨fun x hx => hh x (List.mem_append_left _ (List.mem_cons_of_mem _ hx)), fun x hx => hh x (List.mem_append_right _ hx), by have := hh l.length (List.mem_append_left _ (List.mem_cons_self ..)); omega⟩
  unfold ardB at h
  rcases txtB_cases c with ⟨-, hk⟩ | ⟨-, hk⟩ | ⟨-, hk⟩
  · rw [if_pos hk] at h
    rcases cutT_get d with ⟨l, r, e1, e2⟩ | e1
    · rw [e1] at h
      dsimp only at h
      rw [if_pos rfl] at h
      subst e2
      obtain ⟨b1, b2, b3⟩ := part hb
      rcases cutT_get r with ⟨l2, r2, e3, e4⟩ | e3
      · rw [e3] at h
        dsimp only at h
        rw [if_pos rfl] at h
        subst e4
        obtain ⟨b4, b5, b6⟩ := part b2
        by_cases hr : r2 = []
        · rw [if_pos hr] at h
          obtain ⟨rfl, rfl⟩ := Prod.mk.inj h
          subst hr
          refine ⟨⟨show (49187 : Nat) < 65536 by decide, hc, hi, (fun _ h => by cases h), show (0 : Nat) < 65536 by decide, show (0 : Nat) < 4294967296 by decide, b1, b4, By.nil, (fun _ h => by cases h)⟩, rfl, rfl, ?_, ?_, Nat.zero_le _, fun _ => ⟨rfl, rfl, rfl, ?_, ?_⟩⟩
          · show l.length ≤ _
            rw [List.length_append, lenT_len]; omega
          · show l2.length ≤ _
            rw [List.length_append, List.length_append, lenT_len]; rw [lenT_len]; omega
          · simp only [restA, hk, if_true]; rfl
          · simp only [wrA, hk, if_true, b3, b6, and_self, List.append_nil]
        · rw [if_neg hr] at h
          obtain ⟨rfl, rfl⟩ := Prod.mk.inj h
          exact z0 _ (by decide)
      · rw [e3] at h
        dsimp only at h
        rw [if_neg (by decide)] at h
        obtain ⟨rfl, rfl⟩ := Prod.mk.inj h
        exact z0 _ (by decide)
    · rw [e1] at h
      dsimp only at h
      rw [if_neg (by decide)] at h
      obtain ⟨rfl, rfl⟩ := Prod.mk.inj h
      exact z0 _ (by decide)
  · rw [if_neg (by omega), if_pos hk] at h
    rcases cutT_get d with ⟨l, r, e1, e2⟩ | e1
    · rw [e1] at h
      dsimp only at h
      rw [if_pos rfl] at h
      subst e2
      obtain ⟨b1, b2, b3⟩ := part hb
      by_cases hr : r = []
      · rw [if_pos hr] at h
        obtain ⟨rfl, rfl⟩ := Prod.mk.inj h
        subst hr
        refine ⟨⟨show (49187 : Nat) < 65536 by decide, hc, hi, (fun _ h => by cases h), show (0 : Nat) < 65536 by decide, show (0 : Nat) < 4294967296 by decide, b1, By.nil, By.nil, (fun _ h => by cases h)⟩, rfl, rfl, ?_, Nat.zero_le _, Nat.zero_le _, fun _ => ⟨rfl, rfl, rfl, ?_, ?_⟩⟩
        · show l.length ≤ _
          rw [List.length_append, lenT_len]; omega
        · simp only [restA, hk, if_true, show ¬ (1 : Nat) = 2 by decide, if_false]; rfl
        · simp only [wrA, hk, if_true, show ¬ (1 : Nat) = 2 by decide, if_false, b3, List.append_nil]
      · rw [if_neg hr] at h
        obtain ⟨rfl, rfl⟩ := Prod.mk.inj h
        exact z0 _ (by decide)
    · rw [e1] at h
      dsimp only at h
      rw [if_neg (by decide)] at h
      obtain ⟨rfl, rfl⟩ := Prod.mk.inj h
      exact z0 _ (by decide)
  · rw [if_neg (by omega), if_neg (by omega)] at h
    obtain ⟨rfl, rfl⟩ := Prod.mk.inj h
    refine ⟨⟨show (49187 : Nat) < 65536 by decide, hc, hi, (fun _ h => by cases h), show (0 : Nat) < 65536 by decide, show (0 : Nat) < 4294967296 by decide, By.nil, By.nil, hb, (fun _ h => by cases h)⟩, rfl, rfl, Nat.zero_le _, Nat.zero_le _, Nat.le_refl _, fun _ => ⟨rfl, rfl, rfl, ?_, ?_⟩⟩
    · simp only [restA, hk, show ¬ (0 : Nat) = 2 by decide, show ¬ (0 : Nat) = 1 by decide, if_false]; rfl
    · simp only [wrA, hk, show ¬ (0 : Nat) = 2 by decide, show ¬ (0 : Nat) = 1 by decide, if_false]
/-- What is read is of Go's, and small. -/
theorem aget_ok {b : List Nat} (hb : By b) {y : Pk} {k : Nat} (h : agetB b = (y, k)) (hl : b.length ≤ 1073741824) : y.ok ∧ y.sm := by
  obtain ⟨x, c, d, e, hg⟩ : ∃ x c d e, kgetB b = (x, c, d, e) := ⟨_, _, _, _, rfl⟩
  by_cases he : e = 0
  · subst he
    rw [aget_of hg] at h
    obtain ⟨g1, g2, -, -, -⟩ := kput_get hb hg
    obtain ⟨g3, g4⟩ := kget_bytes hb hg
    obtain ⟨a1, a2, a3, a4, a5, a6, -⟩ := ard_ok g1 g2 g3 h
    exact ⟨a1, by rw [a2]; simp, by rw [a2]; decide, by omega, by omega, by omega, by rw [a3]; simp⟩
  · rw [aget_no hg he] at h
    obtain ⟨rfl, rfl⟩ := Prod.mk.inj h
    exact ⟨⟨by decide, by decide, by decide, (fun _ h => by cases h), by decide, by decide, By.nil, By.nil, By.nil, (fun _ h => by cases h)⟩, by decide, by decide, by decide, by decide, by decide, by decide⟩
/-- What is read is written so. -/
theorem aput_get {b : List Nat} (hb : By b) {y : Pk} (h : agetB b = (y, 0)) : ∃ m, aputB y = (m, 0) ∧ m.length ≤ b.length ∧ m = b.take m.length := by
  obtain ⟨x, c, d, e, hg⟩ : ∃ x c d e, kgetB b = (x, c, d, e) := ⟨_, _, _, _, rfl⟩
  by_cases he : e = 0
  · subst he
    rw [aget_of hg] at h
    obtain ⟨g1, g2, g5, g6, g7⟩ := kput_get hb hg
    obtain ⟨g3, g4⟩ := kget_bytes hb hg
    obtain ⟨-, -, -, -, -, -, a8⟩ := ard_ok g1 g2 g3 h
    obtain ⟨e1, e2, e3, e4, e5⟩ := a8 rfl
    have hlen : (kputB x c d).length = b.length - kpadB b := by rw [g7, List.length_take]; omega
    refine ⟨kputB x c d, ?_, by omega, by rw [hlen]; exact g7⟩
    unfold aputB
    rw [if_pos e1, if_pos e4, e5]
    simp only [if_true]
    rw [e2, e3, kputA_ok _ _ g5, kerrP_ok g5]
  · rw [aget_no hg he] at h
    exact absurd (Prod.mk.inj h).2 he
theorem aput_by {p : Pk} {m : List Nat} (hok : p.ok) (h : aputB p = (m, 0)) : By m := by
  obtain ⟨-, -, h3, h4, rfl⟩ := aput_ok h
  refine kput_by hok.code hok.id ?_ h4
  unfold wrA at h3 ⊢
  rcases txtB_cases p.code with ⟨-, hk⟩ | ⟨-, hk⟩ | ⟨-, hk⟩
  · rw [if_pos hk] at h3 ⊢
    split at h3
    · rename_i hq
      rw [if_pos hq]
      exact (lenT_by hok.one hq.1).app (lenT_by hok.two hq.2)
    · exact absurd h3 (by decide)
  · rw [if_neg (by omega), if_pos hk] at h3 ⊢
    split at h3
    · rename_i hq
      rw [if_pos hq]
      exact lenT_by hok.one hq
    · exact absurd h3 (by decide)
  · rw [if_neg (by omega), if_neg (by omega)]
    exact hok.data
theorem nothA_iff (p : Pk) : nothL (restA p) = true ↔ ((1 ≤ p.code ∧ p.code ≤ 3) → p.data.length = 0) ∧ (¬ p.code = 1 → p.two.length = 0) ∧ (¬ (1 ≤ p.code ∧ p.code ≤ 3) → p.one.length = 0) ∧ p.sub = 0 ∧ p.magic = 0 ∧ p.opts.length = 0 ∧ p.nums.length = 0 := by
  unfold restA nothL
  rcases txtB_cases p.code with ⟨h1, hk⟩ | ⟨h1, hk⟩ | ⟨h1, hk⟩
  · rw [if_pos hk]
    simp [h1]
    constructor <;> (intro h'; simp_all)
  · rw [if_neg (by omega), if_pos hk]
    have h2 : 1 ≤ p.code ∧ p.code ≤ 3 := by omega
    have h3 : ¬ p.code = 1 := by omega
    simp [h3, h2]
    constructor <;> (intro h'; simp_all)
  · rw [if_neg (by omega), if_neg (by omega)]
    have h3 : ¬ p.code = 1 := by omega
    simp only [h1, h3]
    simp
    constructor <;> (intro h'; simp_all)
end Go.Proofs.YtmhjnghomihjlaaGreat
