
/-
  Layer 16's answers as mathematics: how a packet is written, what octets are as a packet, which address options tell; what is read of what is written, what is written of what is read. No condition beyond: octets below 256.
-/
import Derived.Test.YtmhjnghomihjlaaGreatLcpN
namespace Go.Proofs.YtmhjnghomihjlaaGreat
set_option maxRecDepth 4000

/-- A packet without what its code has. -/
def restN (p : Pk) : Pk := if 1 ≤ p.code ∧ p.code ≤ 4 then { p with opts := [] } else { p with data := [] }
/-- Its control packet's data, and the error's number. -/
def wrN (p : Pk) : List Nat × Nat := if 1 ≤ p.code ∧ p.code ≤ 4 then putO p.proto p.opts else (p.data, 0)
/-- What Put answers. -/
def nputB (p : Pk) : List Nat × Nat :=
  if p.proto = 32801 ∨ p.proto = 32855 then (if nothL (restN p) = true then (if (wrN p).2 = 0 then (kputA p.code p.id (wrN p).1, kerrP (wrN p).1) else ([], (wrN p).2)) else ([], 9)) else ([], 8)
/-- What a control packet's data is. -/
def nrdB (t c i : Nat) (d : List Nat) : Pk × Nat :=
  if 1 ≤ c ∧ c ≤ 4 then (if (getO t d).2 = 0 then (⟨t, c, i, (getO t d).1, 0, 0, [], [], [], []⟩, 0) else (pk0, (getO t d).2))
  else (⟨t, c, i, [], 0, 0, [], [], d, []⟩, 0)
/-- What Get answers. -/
def ngetB (t : Nat) (b : List Nat) : Pk × Nat :=
  if t = 32801 ∨ t = 32855 then (if (kgetB b).2.2.2 = 0 then nrdB t (kgetB b).1 (kgetB b).2.1 (kgetB b).2.2.1 else (pk0, (kgetB b).2.2.2)) else (pk0, 8)
/-- Is it an address' option, that may be? -/
def isA (t : Nat) (o : Nat × List Nat) : Bool := (decide (t = 32801) && decide (o.1 = 3) || decide (t = 32855) && decide (o.1 = 1)) && okO (tabB t) o
/-- What Address answers. -/
def addrB (t : Nat) (l : List (Nat × List Nat)) : Nat × Bool := (l.find? (isA t)).elim (0, false) fun o => (valB o.2, true)

theorem nget_of {t : Nat} {b d : List Nat} {x y : Nat} (ht : t = 32801 ∨ t = 32855) (h : kgetB b = (x, y, d, 0)) : ngetB t b = nrdB t x y d := by unfold ngetB; rw [if_pos ht, h]; rfl
theorem nget_no {t : Nat} {b d : List Nat} {x y e : Nat} (ht : t = 32801 ∨ t = 32855) (h : kgetB b = (x, y, d, e)) (he : e ≠ 0) : ngetB t b = (pk0, e) := by unfold ngetB; rw [if_pos ht, h]; exact if_neg he
theorem nget_kind {t : Nat} {b : List Nat} (ht : ¬ (t = 32801 ∨ t = 32855)) : ngetB t b = (pk0, 8) := by unfold ngetB; rw [if_neg ht]
theorem nrd_err {t c i : Nat} {d : List Nat} {p : Pk} {k : Nat} (h : nrdB t c i d = (p, k)) (hk : k ≠ 0) : p = pk0 := by
  unfold nrdB at h
  split at h
  · split at h
    · exact absurd (Prod.mk.inj h).2.symm hk
    · exact (Prod.mk.inj h).1.symm
  · exact absurd (Prod.mk.inj h).2.symm hk
theorem nget_err {t : Nat} {b : List Nat} {p : Pk} {k : Nat} (h : ngetB t b = (p, k)) (hk : k ≠ 0) : p = pk0 := by
  unfold ngetB at h
  split at h
  · split at h
    · exact nrd_err h hk
    · exact (Prod.mk.inj h).1.symm
  · exact (Prod.mk.inj h).1.symm
theorem nput_kind {p : Pk} (h1 : ¬ (p.proto = 32801 ∨ p.proto = 32855)) : nputB p = ([], 8) := by
  unfold nputB
  rw [if_neg h1]
theorem nput_err {p : Pk} {m : List Nat} {k : Nat} (h : nputB p = (m, k)) (hk : k ≠ 0) : m = [] := by
  unfold nputB at h
  split at h
  · split at h
    · split at h
      · obtain ⟨h1, h2⟩ := Prod.mk.inj h
        unfold kerrP at h2
        unfold kputA at h1
        split at h2
        · exact absurd h2.symm hk
        · rename_i h3
          rw [if_neg h3] at h1
          exact h1.symm
      · exact (Prod.mk.inj h).1.symm
    · exact (Prod.mk.inj h).1.symm
  · exact (Prod.mk.inj h).1.symm
theorem nput_len {p : Pk} {m : List Nat} {k : Nat} (h : nputB p = (m, k)) (hf : fewP p = true) : m.length ≤ 2000 := by
  obtain ⟨⟨f1, f2⟩, f3, f4, f5, f6⟩ := fewP_of hf
  have key : (wrN p).1.length ≤ 1200 := by
    unfold wrN
    split
    · unfold putO
      split
      · show (putB p.opts).length ≤ _
        rw [put_len]; omega
      · simp
    · show p.data.length ≤ _
      omega
  unfold nputB at h
  split at h
  · split at h
    · split at h
      · obtain ⟨h1, -⟩ := Prod.mk.inj h
        unfold kputA at h1
        split at h1
        · rw [← h1, kput_len]; omega
        · rw [← h1]; simp
      · rw [← (Prod.mk.inj h).1]; simp
    · rw [← (Prod.mk.inj h).1]; simp
  · rw [← (Prod.mk.inj h).1]; simp
/-- What is said of a packet that can be written. -/
theorem nput_ok {p : Pk} {m : List Nat} (h : nputB p = (m, 0)) : (p.proto = 32801 ∨ p.proto = 32855) ∧ nothL (restN p) = true ∧ (wrN p).2 = 0 ∧ (wrN p).1.length ≤ 65531 ∧ m = kputB p.code p.id (wrN p).1 := by
  unfold nputB at h
  split at h
  · rename_i h1
    split at h
    · rename_i h2
      split at h
      · rename_i h3
        obtain ⟨h4, h5⟩ := Prod.mk.inj h
        unfold kerrP at h5
        split at h5
        · rename_i h6
          rw [kputA_ok _ _ h6] at h4
          exact ⟨h1, h2, h3, h6, h4.symm⟩
        · exact absurd h5 (by decide)
      · rename_i h3
        exact absurd (Prod.mk.inj h).2 h3
    · exact absurd (Prod.mk.inj h).2 (by decide)
  · exact absurd (Prod.mk.inj h).2 (by decide)
/-- A packet is read as it was written, whatever stands behind it. -/
theorem nget_put {p : Pk} {m : List Nat} (h : nputB p = (m, 0)) (t : List Nat) : ngetB p.proto (m ++ t) = (p, 0) := by
  obtain ⟨h1, h2, h3, h4, rfl⟩ := nput_ok h
  rw [nget_of h1 (kget_put _ _ _ t)]
  obtain ⟨pr, co, i, os, su, ma, on, tw, da, nu⟩ := p
  unfold nrdB
  by_cases hk : 1 ≤ co ∧ co ≤ 4
  · simp only [restN, hk, wrN, and_self, if_true] at h2 h3 ⊢
    obtain ⟨a1, a2, -, a4, a5, a6, a7⟩ := (nothL_iff _).1 h2
    simp only at a1 a2 a4 a5 a6 a7
    subst a1; subst a2; subst a4; subst a5; subst a6; subst a7
    have hq : okL (tabB pr) os = true := by
      unfold putO at h3
      split at h3
      · assumption
      · exact absurd h3 (by decide)
    have e1 : (putO pr os).1 = putB os := by unfold putO; rw [if_pos hq]
    have e2 : getO pr (putB os) = (os, 0) := by unfold getO; rw [get_put]; simp [hq]
    rw [e1, e2]
    rfl
  · simp only [restN, hk, wrN, if_false] at h2 h3 ⊢
    obtain ⟨a1, a2, a3, a4, a5, a6, -⟩ := (nothL_iff _).1 h2
    simp only at a1 a2 a3 a4 a5 a6
    subst a1; subst a2; subst a3; subst a4; subst a5; subst a6
    rfl
/-- What octets are as a packet's data, and how it is written. -/
theorem nrd_ok {t c i : Nat} {d : List Nat} (ht : t < 65536) (hc : c < 256) (hi : i < 256) (hb : By d) {y : Pk} {k : Nat} (h : nrdB t c i d = (y, k)) :
    y.ok ∧ y.opts.length ≤ d.length ∧ datB y.opts ≤ d.length ∧ y.one = [] ∧ y.two = [] ∧ y.nums = [] ∧ y.data.length ≤ d.length ∧ (k = 0 → y.proto = t ∧ y.code = c ∧ y.id = i ∧ nothL (restN y) = true ∧ wrN y = (d, 0)) := by
  have ok0 : pk0.ok := ⟨by decide, by decide, by decide, (fun _ h => by cases h), by decide, by decide, By.nil, By.nil, By.nil, (fun _ h => by cases h)⟩
  have z0 : ∀ k' : Nat, k' ≠ 0 → pk0.ok ∧ pk0.opts.length ≤ d.length ∧ datB pk0.opts ≤ d.length ∧ pk0.one = [] ∧ pk0.two = [] ∧ pk0.nums = [] ∧ pk0.data.length ≤ d.length ∧ (k' = 0 → pk0.proto = t ∧ pk0.code = c ∧ pk0.id = i ∧ nothL (restN pk0) = true ∧ wrN pk0 = (d, 0)) := fun k' hk' =>
    ⟨ok0, Nat.zero_le _, Nat.zero_le _, rfl, rfl, rfl, Nat.zero_le _, fun e => absurd e hk'⟩
  unfold nrdB at h
  by_cases hk : 1 ≤ c ∧ c ≤ 4
  · rw [if_pos hk] at h
    by_cases h0 : (getO t d).2 = 0
    · rw [if_pos h0] at h
      obtain ⟨rfl, rfl⟩ := Prod.mk.inj h
      obtain ⟨l, hl⟩ : ∃ l, getO t d = (l, 0) := ⟨(getO t d).1, by rw [← h0]⟩
      rw [hl]
      have hg : (getB d).2 = 0 ∧ okL (tabB t) (getB d).1 = true ∧ l = (getB d).1 := by
        unfold getO at hl
        split at hl
        · rename_i g1
          split at hl
          · rename_i g2
            exact ⟨g1, g2, (Prod.mk.inj hl).1.symm⟩
          · exact absurd (Prod.mk.inj hl).2 (by decide)
        · rename_i g1
          exact absurd (Prod.mk.inj hl).2 g1
      obtain ⟨g1, g2, rfl⟩ := hg
      obtain ⟨p1, p2, p3⟩ := put_get d hb g1
      have hlen := get_len d hb
      refine ⟨⟨ht, hc, hi, p3, show (0 : Nat) < 65536 by decide, show (0 : Nat) < 4294967296 by decide, By.nil, By.nil, By.nil, (fun _ h => by cases h)⟩, by show (getB d).1.length ≤ _; omega, by show datB (getB d).1 ≤ _; omega, rfl, rfl, rfl, Nat.zero_le _, fun _ => ⟨rfl, rfl, rfl, ?_, ?_⟩⟩
      · simp only [restN, hk, and_self, if_true]; rfl
      · simp only [wrN, hk, and_self, if_true, putO, g2, p1]
    · rw [if_neg h0] at h
      obtain ⟨rfl, rfl⟩ := Prod.mk.inj h
      exact z0 _ h0
  · rw [if_neg hk] at h
    obtain ⟨rfl, rfl⟩ := Prod.mk.inj h
    refine ⟨⟨ht, hc, hi, (fun _ h => by cases h), show (0 : Nat) < 65536 by decide, show (0 : Nat) < 4294967296 by decide, By.nil, By.nil, hb, (fun _ h => by cases h)⟩, Nat.zero_le _, Nat.zero_le _, rfl, rfl, rfl, Nat.le_refl _, fun _ => ⟨rfl, rfl, rfl, ?_, ?_⟩⟩
    · simp only [restN, hk, if_false]; rfl
    · simp only [wrN, hk, if_false]
/-- What is read is of Go's, and small. -/
theorem nget_ok {t : Nat} (ht : t < 65536) {b : List Nat} (hb : By b) {y : Pk} {k : Nat} (h : ngetB t b = (y, k)) (hl : b.length ≤ 1073741824) : y.ok ∧ y.sm := by
  have ok0 : pk0.ok ∧ pk0.sm := ⟨⟨by decide, by decide, by decide, (fun _ h => by cases h), by decide, by decide, By.nil, By.nil, By.nil, (fun _ h => by cases h)⟩, by decide, by decide, by decide, by decide, by decide, by decide⟩
  by_cases h1 : t = 32801 ∨ t = 32855
  case neg =>
    rw [nget_kind h1] at h
    obtain ⟨rfl, rfl⟩ := Prod.mk.inj h
    exact ok0
  obtain ⟨x, c, d, e, hg⟩ : ∃ x c d e, kgetB b = (x, c, d, e) := ⟨_, _, _, _, rfl⟩
  by_cases he : e = 0
  · subst he
    rw [nget_of h1 hg] at h
    obtain ⟨g1, g2, -, -, -⟩ := kput_get hb hg
    obtain ⟨g3, g4⟩ := kget_bytes hb hg
    obtain ⟨a1, a2, a3, a4, a5, a6, a7, -⟩ := nrd_ok ht g1 g2 g3 h
    exact ⟨a1, by omega, by omega, by rw [a4]; simp, by rw [a5]; simp, by omega, by rw [a6]; simp⟩
  · rw [nget_no h1 hg he] at h
    obtain ⟨rfl, rfl⟩ := Prod.mk.inj h
    exact ok0
/-- What is read is written so. -/
theorem nput_get {t : Nat} (ht : t < 65536) {b : List Nat} (hb : By b) {y : Pk} (h : ngetB t b = (y, 0)) : y.proto = t ∧ ∃ m, nputB y = (m, 0) ∧ m.length ≤ b.length ∧ m = b.take m.length := by
  by_cases h1 : t = 32801 ∨ t = 32855
  case neg =>
    rw [nget_kind h1] at h
    exact absurd (Prod.mk.inj h).2 (by decide)
  obtain ⟨x, c, d, e, hg⟩ : ∃ x c d e, kgetB b = (x, c, d, e) := ⟨_, _, _, _, rfl⟩
  by_cases he : e = 0
  · subst he
    rw [nget_of h1 hg] at h
    obtain ⟨g1, g2, g5, g6, g7⟩ := kput_get hb hg
    obtain ⟨g3, g4⟩ := kget_bytes hb hg
    obtain ⟨-, -, -, -, -, -, -, a8⟩ := nrd_ok ht g1 g2 g3 h
    obtain ⟨e1, e2, e3, e4, e5⟩ := a8 rfl
    have hlen : (kputB x c d).length = b.length - kpadB b := by rw [g7, List.length_take]; omega
    refine ⟨e1, kputB x c d, ?_, by omega, by rw [hlen]; exact g7⟩
    unfold nputB
    rw [e1, if_pos h1, if_pos e4, e5]
    simp only [if_true]
    rw [e2, e3, kputA_ok _ _ g5, kerrP_ok g5]
  · rw [nget_no h1 hg he] at h
    exact absurd (Prod.mk.inj h).2 he
theorem nput_by {p : Pk} {m : List Nat} (hok : p.ok) (h : nputB p = (m, 0)) : By m := by
  obtain ⟨-, -, h3, h4, rfl⟩ := nput_ok h
  refine kput_by hok.code hok.id ?_ h4
  unfold wrN at h3 ⊢
  by_cases hk : 1 ≤ p.code ∧ p.code ≤ 4
  · rw [if_pos hk] at h3 ⊢
    unfold putO at h3 ⊢
    split at h3
    · rename_i hq
      rw [if_pos hq]
      exact put_by hok.opts (okL_short hq)
    · exact absurd h3 (by decide)
  · rw [if_neg hk]; exact hok.data
theorem nothN_iff (p : Pk) : nothL (restN p) = true ↔ ((1 ≤ p.code ∧ p.code ≤ 4) → p.data.length = 0) ∧ (¬ (1 ≤ p.code ∧ p.code ≤ 4) → p.opts.length = 0) ∧ p.sub = 0 ∧ p.magic = 0 ∧ p.one.length = 0 ∧ p.two.length = 0 ∧ p.nums.length = 0 := by
  unfold restN nothL
  by_cases hk : 1 ≤ p.code ∧ p.code ≤ 4
  · rw [if_pos hk]
    simp [hk]
    constructor <;> (intro h'; simp_all)
  · rw [if_neg hk]
    simp [hk]
    constructor <;> (intro h'; simp_all)
end Go.Proofs.YtmhjnghomihjlaaGreat
