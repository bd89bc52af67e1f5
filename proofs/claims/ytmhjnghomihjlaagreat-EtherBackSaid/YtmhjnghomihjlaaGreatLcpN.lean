
/-
  Layer 15's answers as mathematics: what is read of what is written, what is written of what is read; what a further field does. No condition beyond: octets below 256.
-/
import Derived.Test.YtmhjnghomihjlaaGreatLcpM
import Derived.Test.YtmhjnghomihjlaaGreatGPkt
namespace Go.Proofs.YtmhjnghomihjlaaGreat
set_option maxRecDepth 4000

theorem lput_err {p : Pk} {m : List Nat} {k : Nat} (h : lputB p = (m, k)) (hk : k ≠ 0) : m = [] := by
  unfold lputB at h
  split at h
  · split at h
    · split at h
      · obtain ⟨h1, h2⟩ := Prod.mk.inj h
        unfold kerrP at h2
        unfold kputA at h1
        split at h2
        · exact absurd h2.symm hk
        · rename_i h3
          rw [if_neg h3] at h1
          exact h1.symm
      · exact (Prod.mk.inj h).1.symm
    · exact (Prod.mk.inj h).1.symm
  · exact (Prod.mk.inj h).1.symm
theorem lput_len {p : Pk} {m : List Nat} {k : Nat} (h : lputB p = (m, k)) (hf : fewP p = true) : m.length ≤ 2000 := by
  obtain ⟨⟨f1, f2⟩, f3, f4, f5, f6⟩ := fewP_of hf
  have key : (wrL p).1.length ≤ 1200 := by
    unfold wrL
    split
    · unfold putO
      split
      · show (putB p.opts).length ≤ _
        rw [put_len]; omega
      · simp
    · split
      · show (numB p.sub 2 ++ p.data).length ≤ _
        rw [List.length_append, num_len]; omega
      · split
        · show (numB p.magic 4 ++ p.data).length ≤ _
          rw [List.length_append, num_len]; omega
        · show p.data.length ≤ _
          omega
  unfold lputB at h
  split at h
  · split at h
    · split at h
      · obtain ⟨h1, -⟩ := Prod.mk.inj h
        unfold kputA at h1
        split at h1
        · rw [← h1, kput_len]; omega
        · rw [← h1]; simp
      · rw [← (Prod.mk.inj h).1]; simp
    · rw [← (Prod.mk.inj h).1]; simp
  · rw [← (Prod.mk.inj h).1]; simp
theorem nothL_iff (p : Pk) : nothL p = true ↔ p.sub = 0 ∧ p.magic = 0 ∧ p.opts = [] ∧ p.nums = [] ∧ p.one = [] ∧ p.two = [] ∧ p.data = [] := by
  unfold nothL
  simp [and_assoc]
/-- What is said of a packet that can be written. -/
theorem lput_ok {p : Pk} {m : List Nat} (h : lputB p = (m, 0)) : p.proto = 49185 ∧ nothL (restL p) = true ∧ (wrL p).2 = 0 ∧ (wrL p).1.length ≤ 65531 ∧ m = kputB p.code p.id (wrL p).1 := by
  unfold lputB at h
  split at h
  · rename_i h1
    split at h
    · rename_i h2
      split at h
      · rename_i h3
        obtain ⟨h4, h5⟩ := Prod.mk.inj h
        unfold kerrP at h5
        split at h5
        · rename_i h6
          rw [kputA_ok _ _ h6] at h4
          exact ⟨h1, h2, h3, h6, h4.symm⟩
        · exact absurd h5 (by decide)
      · rename_i h3
        exact absurd (Prod.mk.inj h).2 h3
    · exact absurd (Prod.mk.inj h).2 (by decide)
  · exact absurd (Prod.mk.inj h).2 (by decide)
/-- A packet is read as it was written, whatever stands behind it. -/
theorem lget_put {p : Pk} {m : List Nat} (hok : p.ok) (h : lputB p = (m, 0)) (t : List Nat) : lgetB (m ++ t) = (p, 0) := by
  obtain ⟨h1, h2, h3, h4, rfl⟩ := lput_ok h
  rw [lget_of (kget_put _ _ _ t)]
  obtain ⟨pr, co, i, os, su, ma, on, tw, da, nu⟩ := p
  simp only at h1
  subst h1
  unfold lrdB
  rcases hasL_cases co with hk | hk | hk | hk
  · simp only [restL, hk, wrL] at h2 h3 ⊢
    simp only [show ¬ (0 : Nat) = 1 by decide, show ¬ (0 : Nat) = 2 by decide, show ¬ (0 : Nat) = 3 by decide, if_false] at h2 ⊢
    obtain ⟨a1, a2, a3, a4, a5, a6, -⟩ := (nothL_iff _).1 h2
    simp only at a1 a2 a3 a4 a5 a6
    subst a1; subst a2; subst a3; subst a4; subst a5; subst a6
    rfl
  · simp only [restL, hk, wrL, if_true] at h2 h3 ⊢
    obtain ⟨a1, a2, -, a4, a5, a6, a7⟩ := (nothL_iff _).1 h2
    simp only at a1 a2 a4 a5 a6 a7
    subst a1; subst a2; subst a4; subst a5; subst a6; subst a7
    have hq : okL (tabB 49185) os = true := by
      unfold putO at h3
      split at h3
      · assumption
      · exact absurd h3 (by decide)
    have e1 : (putO 49185 os).1 = putB os := by unfold putO; rw [if_pos hq]
    have e2 : getO 49185 (putB os) = (os, 0) := by unfold getO; rw [get_put]; simp [hq]
    rw [e1, e2]
    rfl
  · simp only [restL, hk, wrL] at h2 h3 ⊢
    simp only [show ¬ (2 : Nat) = 1 by decide, if_false, if_true] at h2 ⊢
    obtain ⟨-, a2, a3, a4, a5, a6, -⟩ := (nothL_iff _).1 h2
    simp only at a2 a3 a4 a5 a6
    subst a2; subst a3; subst a4; subst a5; subst a6
    have hs := hok.sub
    simp only at hs
    rw [if_neg (by rw [List.length_append, num_len]; omega), take_num, drop_num, num_val, Nat.mod_eq_of_lt (by omega)]
  · simp only [restL, hk, wrL] at h2 h3 ⊢
    simp only [show ¬ (3 : Nat) = 1 by decide, show ¬ (3 : Nat) = 2 by decide, if_false, if_true] at h2 ⊢
    obtain ⟨a1, -, a3, a4, a5, a6, -⟩ := (nothL_iff _).1 h2
    simp only at a1 a3 a4 a5 a6
    subst a1; subst a3; subst a4; subst a5; subst a6
    have hs := hok.magic
    simp only at hs
    rw [if_neg (by rw [List.length_append, num_len]; omega), take_num, drop_num, num_val, Nat.mod_eq_of_lt (by omega)]

/-- What octets are as a packet's data, and how it is written. -/
theorem lrd_ok {c i : Nat} {d : List Nat} (hc : c < 256) (hi : i < 256) (hb : By d) {y : Pk} {k : Nat} (h : lrdB c i d = (y, k)) :
    y.ok ∧ y.opts.length ≤ d.length ∧ datB y.opts ≤ d.length ∧ y.one = [] ∧ y.two = [] ∧ y.nums = [] ∧ y.data.length ≤ d.length ∧ (k = 0 → y.proto = 49185 ∧ y.code = c ∧ y.id = i ∧ nothL (restL y) = true ∧ wrL y = (d, 0)) := by
  have ok0 : pk0.ok := ⟨by decide, by decide, by decide, (fun _ h => by cases h), by decide, by decide, By.nil, By.nil, By.nil, (fun _ h => by cases h)⟩
  have z0 : ∀ k' : Nat, k' ≠ 0 → pk0.ok ∧ pk0.opts.length ≤ d.length ∧ datB pk0.opts ≤ d.length ∧ pk0.one = [] ∧ pk0.two = [] ∧ pk0.nums = [] ∧ pk0.data.length ≤ d.length ∧ (k' = 0 → pk0.proto = 49185 ∧ pk0.code = c ∧ pk0.id = i ∧ nothL (restL pk0) = true ∧ wrL pk0 = (d, 0)) := fun k' hk' =>
    ⟨ok0, Nat.zero_le _, Nat.zero_le _, rfl, rfl, rfl, Nat.zero_le _, fun e => absurd e hk'⟩
  unfold lrdB at h
  rcases hasL_cases c with hk | hk | hk | hk
  · rw [hk] at h
    obtain ⟨rfl, rfl⟩ := Prod.mk.inj h
    refine ⟨⟨show (49185 : Nat) < 65536 by decide, hc, hi, (fun _ h => by cases h), show (0 : Nat) < 65536 by decide, show (0 : Nat) < 4294967296 by decide, By.nil, By.nil, hb, (fun _ h => by cases h)⟩, Nat.zero_le _, Nat.zero_le _, rfl, rfl, rfl, Nat.le_refl _, fun _ => ⟨rfl, rfl, rfl, ?_, ?_⟩⟩
    · simp only [restL, hk]; rfl
    · simp only [wrL, hk]; rfl
  · rw [if_pos hk] at h
    by_cases h0 : (getO 49185 d).2 = 0
    · rw [if_pos h0] at h
      obtain ⟨rfl, rfl⟩ := Prod.mk.inj h
      obtain ⟨l, hl⟩ : ∃ l, getO 49185 d = (l, 0) := ⟨(getO 49185 d).1, by rw [← h0]⟩
      rw [hl]
      have hg : (getB d).2 = 0 ∧ okL (tabB 49185) (getB d).1 = true ∧ l = (getB d).1 := by
        unfold getO at hl
        split at hl
        · rename_i g1
          split at hl
          · rename_i g2
            exact ⟨g1, g2, (Prod.mk.inj hl).1.symm⟩
          · exact absurd (Prod.mk.inj hl).2 (by decide)
        · rename_i g1
          exact absurd (Prod.mk.inj hl).2 g1
      obtain ⟨g1, g2, rfl⟩ := hg
      obtain ⟨p1, p2, p3⟩ := put_get d hb g1
      have hlen := get_len d hb
      refine ⟨⟨show (49185 : Nat) < 65536 by decide, hc, hi, p3, show (0 : Nat) < 65536 by decide, show (0 : Nat) < 4294967296 by decide, By.nil, By.nil, By.nil, (fun _ h => by cases h)⟩, by show (getB d).1.length ≤ _; omega, by show datB (getB d).1 ≤ _; omega, rfl, rfl, rfl, Nat.zero_le _, fun _ => ⟨rfl, rfl, rfl, ?_, ?_⟩⟩
      · simp only [restL, hk]; rfl
      · simp only [wrL, hk, if_true, putO, g2, p1]
    · rw [if_neg h0] at h
      obtain ⟨rfl, rfl⟩ := Prod.mk.inj h
      exact z0 _ h0
  · rw [if_neg (by omega), if_pos hk] at h
    by_cases hz : d.length < 2
    · rw [if_pos hz] at h
      obtain ⟨rfl, rfl⟩ := Prod.mk.inj h
      exact z0 _ (by decide)
    · rw [if_neg hz] at h
      obtain ⟨rfl, rfl⟩ := Prod.mk.inj h
      have ht : (d.take 2).length = 2 := by rw [List.length_take]; omega
      have hv := valN_lt (hb.take 2)
      rw [ht] at hv
      refine ⟨⟨show (49185 : Nat) < 65536 by decide, hc, hi, (fun _ h => by cases h), hv, show (0 : Nat) < 4294967296 by decide, By.nil, By.nil, hb.drop 2, (fun _ h => by cases h)⟩, Nat.zero_le _, Nat.zero_le _, rfl, rfl, rfl, by show (d.drop 2).length ≤ _; rw [List.length_drop]; omega, fun _ => ⟨rfl, rfl, rfl, ?_, ?_⟩⟩
      · simp only [restL, hk]; rfl
      · rw [wrL]
        dsimp only
        rw [if_neg (by omega), if_pos hk, num_of_val (hb.take 2) 2 ht, List.take_append_drop]
  · rw [if_neg (by omega), if_neg (by omega), if_pos hk] at h
    by_cases hz : d.length < 4
    · rw [if_pos hz] at h
      obtain ⟨rfl, rfl⟩ := Prod.mk.inj h
      exact z0 _ (by decide)
    · rw [if_neg hz] at h
      obtain ⟨rfl, rfl⟩ := Prod.mk.inj h
      have ht : (d.take 4).length = 4 := by rw [List.length_take]; omega
      have hv := valN_lt (hb.take 4)
      rw [ht] at hv
      refine ⟨⟨show (49185 : Nat) < 65536 by decide, hc, hi, (fun _ h => by cases h), show (0 : Nat) < 65536 by decide, hv, By.nil, By.nil, hb.drop 4, (fun _ h => by cases h)⟩, Nat.zero_le _, Nat.zero_le _, rfl, rfl, rfl, by show (d.drop 4).length ≤ _; rw [List.length_drop]; omega, fun _ => ⟨rfl, rfl, rfl, ?_, ?_⟩⟩
      · simp only [restL, hk]; rfl
      · rw [wrL]
        dsimp only
        rw [if_neg (by omega), if_neg (by omega), if_pos hk, num_of_val (hb.take 4) 4 ht, List.take_append_drop]
/-- What is read is of Go's, and small. -/
theorem lget_ok {b : List Nat} (hb : By b) {y : Pk} {k : Nat} (h : lgetB b = (y, k)) (hl : b.length ≤ 1073741824) : y.ok ∧ y.sm := by
  obtain ⟨x, c, d, e, hg⟩ : ∃ x c d e, kgetB b = (x, c, d, e) := ⟨_, _, _, _, rfl⟩
  by_cases he : e = 0
  · subst he
    rw [lget_of hg] at h
    obtain ⟨g1, g2, -, -, -⟩ := kput_get hb hg
    obtain ⟨g3, g4⟩ := kget_bytes hb hg
    obtain ⟨a1, a2, a3, a4, a5, a6, a7, -⟩ := lrd_ok g1 g2 g3 h
    exact ⟨a1, by omega, by omega, by rw [a4]; simp, by rw [a5]; simp, by omega, by rw [a6]; simp⟩
  · rw [lget_no hg he] at h
    obtain ⟨rfl, rfl⟩ := Prod.mk.inj h
    exact ⟨⟨by decide, by decide, by decide, (fun _ h => by cases h), by decide, by decide, By.nil, By.nil, By.nil, (fun _ h => by cases h)⟩, by decide, by decide, by decide, by decide, by decide, by decide⟩
/-- What is read is written so. -/
theorem lput_get {b : List Nat} (hb : By b) {y : Pk} (h : lgetB b = (y, 0)) : ∃ m, lputB y = (m, 0) ∧ m.length ≤ b.length ∧ m = b.take m.length := by
  obtain ⟨x, c, d, e, hg⟩ : ∃ x c d e, kgetB b = (x, c, d, e) := ⟨_, _, _, _, rfl⟩
  by_cases he : e = 0
  · subst he
    rw [lget_of hg] at h
    obtain ⟨g1, g2, g5, g6, g7⟩ := kput_get hb hg
    obtain ⟨g3, g4⟩ := kget_bytes hb hg
    obtain ⟨-, -, -, -, -, -, -, a8⟩ := lrd_ok g1 g2 g3 h
    obtain ⟨e1, e2, e3, e4, e5⟩ := a8 rfl
    have hlen : (kputB x c d).length = b.length - kpadB b := by rw [g7, List.length_take]; omega
    refine ⟨kputB x c d, ?_, by omega, by rw [hlen]; exact g7⟩
    unfold lputB
    rw [if_pos e1, if_pos e4, e5]
    simp only [if_true]
    rw [e2, e3, kputA_ok _ _ g5, kerrP_ok g5]
  · rw [lget_no hg he] at h
    exact absurd (Prod.mk.inj h).2 he
theorem lput_by {p : Pk} {m : List Nat} (hok : p.ok) (h : lputB p = (m, 0)) : By m := by
  obtain ⟨-, -, h3, h4, rfl⟩ := lput_ok h
  refine kput_by hok.code hok.id ?_ h4
  unfold wrL at h3 ⊢
  rcases hasL_cases p.code with hk | hk | hk | hk
  · rw [hk]; exact hok.data
  · rw [if_pos hk] at h3 ⊢
    unfold putO at h3 ⊢
    split at h3
    · rename_i hq
      rw [if_pos hq]
      exact put_by hok.opts (okL_short hq)
    · exact absurd h3 (by decide)
  · rw [if_neg (by omega), if_pos hk]
    exact (num_by _ _).app hok.data
  · rw [if_neg (by omega), if_neg (by omega), if_pos hk]
    exact (num_by _ _).app hok.data
/-- A field that is not nothing. -/
theorem lput_field {p : Pk} (h1 : p.proto = 49185) (h2 : nothL (restL p) = false) : lputB p = ([], 9) := by
  unfold lputB
  rw [if_pos h1, h2]
  rfl
theorem lput_kind {p : Pk} (h1 : ¬ p.proto = 49185) : lputB p = ([], 8) := by
  unfold lputB
  rw [if_neg h1]
end Go.Proofs.YtmhjnghomihjlaaGreat
