/-
  The document's Number and Read: a number as octets, octets as a number. No condition beyond: at most 4 octets read. Layer 15's answers as mathematics: what a code has, how a packet is written, what octets are as a packet. No condition. Layer 15's answers as mathematics: what is read of what is written, what is written of what is read; what a further field does. No condition beyond: octets below 256. Layer 16's answers as mathematics: how a packet is written, what octets are as a packet, which address options tell; what is read of what is written, what is written of what is read. No condition beyond: octets below 256. Layer 17's answers as mathematics: how a packet is written, what octets are as a packet; what is read of what is written, what is written of what is read. No condition beyond: octets below 256. Layer 18's answers as mathematics: how a packet is written, what octets are as a packet; what is read of what is written, what is written of what is read; which packet answers which. No condition beyond: octets below 256. The mathematics of reports: twelve numbers as 48 octets, and back; what a reader has read so far; what was lost. No condition. Protocols' numbers: what the calls of layer 9 and the document's own answer, Right, Short, Group, Put, Get. No condition beyond: numbers below 2^16, octets below 256, lists of at most 2^40 elements. The mathematics of packets of any protocol: what Put, Get and Check answer, by the layers ahead; what is written is read again, and what is read is written. No condition.
-/
import Derived.Test.YtmhjnghomihjlaaGOps
import Derived.Test.YtmhjnghomihjlaaGWord
import Derived.Test.YtmhjnghomihjlaaGPkt
import Derived.Test.YtmhjnghomihjlaaGCtl
import Derived.Laws.BitsAll
import Derived.OwnWalk
namespace Go.Proofs.Ytmhjnghomihjlaa
section
set_option maxRecDepth 4000
open Go.RowKit

theorem valN_at {l : List Nat} {k x : Nat} (hx : l[k]? = some x) : valN (l.take (k + 1)) = 256 * valN (l.take k) + x := by rw [valN_snoc hx]; omega
theorem valN_le4 {l : List Nat} (hb : By l) (k : Nat) (hk : k ≤ 4) : valN (l.take k) < 4294967296 := by
  have h := valN_lt (hb.take k)
  have h1 : (l.take k).length ≤ 4 := by rw [List.length_take]; omega
  have h2 : (256 : Nat) ^ (l.take k).length ≤ 256 ^ 4 := Nat.pow_le_pow_right (by omega) h1
  have h3 : (256 : Nat) ^ 4 = 4294967296 := by decide
  omega
end

section
set_option maxRecDepth 4000

/-- What a code has: Data (0), Opts (1), Sub and Data (2), Magic and Data (3). -/
def hasL (c : Nat) : Nat := if c = 1 ∨ c = 2 ∨ c = 3 ∨ c = 4 then 1 else if c = 8 then 2 else if c = 9 ∨ c = 10 ∨ c = 11 then 3 else 0
theorem hasL_cases (c : Nat) : hasL c = 0 ∨ hasL c = 1 ∨ hasL c = 2 ∨ hasL c = 3 := by unfold hasL; split <;> (try split) <;> (try split) <;> simp
/-- A packet without what its code has. -/
def restL (p : Pk) : Pk :=
  if hasL p.code = 1 then { p with opts := [] } else if hasL p.code = 2 then { p with sub := 0, data := [] } else if hasL p.code = 3 then { p with magic := 0, data := [] } else { p with data := [] }
/-- Is all that some codes lack nothing? -/
def nothL (p : Pk) : Bool :=
  decide (p.sub = 0) && decide (p.magic = 0) && decide (p.opts.length = 0) && decide (p.nums.length = 0) && decide (p.one.length = 0) && decide (p.two.length = 0) && decide (p.data.length = 0)
/-- Its control packet's data, and the error's number. -/
def wrL (p : Pk) : List Nat × Nat :=
  if hasL p.code = 1 then putO 49185 p.opts else if hasL p.code = 2 then (numB p.sub 2 ++ p.data, 0) else if hasL p.code = 3 then (numB p.magic 4 ++ p.data, 0) else (p.data, 0)
/-- What Put answers. -/
def lputB (p : Pk) : List Nat × Nat :=
  if p.proto = 49185 then (if nothL (restL p) = true then (if (wrL p).2 = 0 then (kputA p.code p.id (wrL p).1, kerrP (wrL p).1) else ([], (wrL p).2)) else ([], 9)) else ([], 8)
/-- How many octets Sub has, or Magic. -/
def sizL (c : Nat) : Nat := if hasL c = 2 then 2 else if hasL c = 3 then 4 else 0
/-- What a control packet's data is. -/
def lrdB (c i : Nat) (d : List Nat) : Pk × Nat :=
  if hasL c = 1 then (if (getO 49185 d).2 = 0 then (⟨49185, c, i, (getO 49185 d).1, 0, 0, [], [], [], []⟩, 0) else (pk0, (getO 49185 d).2))
  else if hasL c = 2 then (if d.length < 2 then (pk0, 2) else (⟨49185, c, i, [], valN (d.take 2), 0, [], [], d.drop 2, []⟩, 0))
  else if hasL c = 3 then (if d.length < 4 then (pk0, 2) else (⟨49185, c, i, [], 0, valN (d.take 4), [], [], d.drop 4, []⟩, 0))
  else (⟨49185, c, i, [], 0, 0, [], [], d, []⟩, 0)
/-- What Get answers. -/
def lgetB (b : List Nat) : Pk × Nat := if (kgetB b).2.2.2 = 0 then lrdB (kgetB b).1 (kgetB b).2.1 (kgetB b).2.2.1 else (pk0, (kgetB b).2.2.2)

theorem lget_of {b d : List Nat} {x y : Nat} (h : kgetB b = (x, y, d, 0)) : lgetB b = lrdB x y d := by unfold lgetB; rw [h]; rfl
theorem lget_no {b d : List Nat} {x y e : Nat} (h : kgetB b = (x, y, d, e)) (he : e ≠ 0) : lgetB b = (pk0, e) := by unfold lgetB; rw [h]; exact if_neg he
theorem lrd_err {c i : Nat} {d : List Nat} {p : Pk} {k : Nat} (h : lrdB c i d = (p, k)) (hk : k ≠ 0) : p = pk0 := by
  unfold lrdB at h
  split at h
  · split at h
    · exact absurd (Prod.mk.inj h).2.symm hk
    · exact (Prod.mk.inj h).1.symm
  · split at h
    · split at h
      · exact (Prod.mk.inj h).1.symm
      · exact absurd (Prod.mk.inj h).2.symm hk
    · split at h
      · split at h
        · exact (Prod.mk.inj h).1.symm
        · exact absurd (Prod.mk.inj h).2.symm hk
      · exact absurd (Prod.mk.inj h).2.symm hk
theorem lget_err {b : List Nat} {p : Pk} {k : Nat} (h : lgetB b = (p, k)) (hk : k ≠ 0) : p = pk0 := by
  unfold lgetB at h
  split at h
  · exact lrd_err h hk
  · exact (Prod.mk.inj h).1.symm

/-- A number of as many octets as it has is these octets. -/
theorem num_valN {l : List Nat} (hb : By l) (v : Nat) : numB (v * 256 ^ l.length + valN l) l.length = l := by
  induction l generalizing v with
  | nil => rfl
  | cons x l ih =>
    rw [List.length_cons, numB, valN_cons]
    have hx : x < 256 := hb x (List.mem_cons_self ..)
    have hl := valN_lt (fun y hy => hb y (List.mem_cons_of_mem _ hy) : By l)
    have hpos : 0 < 256 ^ l.length := Nat.pow_pos (by omega)
    have e : v * 256 ^ (l.length + 1) + (x * 256 ^ l.length + valN l) = (v * 256 + x) * 256 ^ l.length + valN l := by
      rw [Nat.pow_succ, Nat.add_mul, Nat.mul_assoc, Nat.mul_comm 256 (256 ^ l.length)]; omega
    rw [e, ih (fun y hy => hb y (List.mem_cons_of_mem _ hy)) (v * 256 + x)]
    congr 1
    rw [Nat.add_comm, Nat.add_mul_div_right _ _ hpos, Nat.div_eq_of_lt hl]
    omega
theorem num_of_val {l : List Nat} (hb : By l) (k : Nat) (hk : l.length = k) : numB (valN l) k = l := by
  have := num_valN hb 0
  rw [Nat.zero_mul, Nat.zero_add, hk] at this
  exact this
theorem take_num (n k : Nat) (d : List Nat) : (numB n k ++ d).take k = numB n k := by
  have e := num_len n k
  conv => lhs; rw [show k = (numB n k).length from e.symm]
  rw [e, List.take_append_of_le_length (by rw [e]; exact Nat.le_refl _), List.take_of_length_le (by rw [e]; exact Nat.le_refl _)]
theorem drop_num (n k : Nat) (d : List Nat) : (numB n k ++ d).drop k = d := by
  rw [List.drop_append_of_le_length (by rw [num_len]; exact Nat.le_refl _), List.drop_of_length_le (by rw [num_len]; exact Nat.le_refl _), List.nil_append]
end

section
set_option maxRecDepth 4000

theorem lput_err {p : Pk} {m : List Nat} {k : Nat} (h : lputB p = (m, k)) (hk : k ≠ 0) : m = [] := by
  unfold lputB at h
  split at h
  · split at h
    · split at h
      · obtain ⟨h1, h2⟩ := Prod.mk.inj h
        unfold kerrP at h2
        unfold kputA at h1
        split at h2
        · exact absurd h2.symm hk
        · rename_i h3
          rw [if_neg h3] at h1
          exact h1.symm
      · exact (Prod.mk.inj h).1.symm
    · exact (Prod.mk.inj h).1.symm
  · exact (Prod.mk.inj h).1.symm
theorem lput_len {p : Pk} {m : List Nat} {k : Nat} (h : lputB p = (m, k)) (hf : fewP p = true) : m.length ≤ 2000 := by
  obtain ⟨⟨f1, f2⟩, f3, f4, f5, f6⟩ := fewP_of hf
  have key : (wrL p).1.length ≤ 1200 := by
    unfold wrL
    split
    · unfold putO
      split
      · show (putB p.opts).length ≤ _
        rw [put_len]; omega
      · simp
    · split
      · show (numB p.sub 2 ++ p.data).length ≤ _
        rw [List.length_append, num_len]; omega
      · split
        · show (numB p.magic 4 ++ p.data).length ≤ _
          rw [List.length_append, num_len]; omega
        · show p.data.length ≤ _
          omega
  unfold lputB at h
  split at h
  · split at h
    · split at h
      · obtain ⟨h1, -⟩ := Prod.mk.inj h
        unfold kputA at h1
        split at h1
        · rw [← h1, kput_len]; omega
        · rw [← h1]; simp
      · rw [← (Prod.mk.inj h).1]; simp
    · rw [← (Prod.mk.inj h).1]; simp
  · rw [← (Prod.mk.inj h).1]; simp
theorem nothL_iff (p : Pk) : nothL p = true ↔ p.sub = 0 ∧ p.magic = 0 ∧ p.opts = [] ∧ p.nums = [] ∧ p.one = [] ∧ p.two = [] ∧ p.data = [] := by
  unfold nothL
  simp [and_assoc]
/-- What is said of a packet that can be written. -/
theorem lput_ok {p : Pk} {m : List Nat} (h : lputB p = (m, 0)) : p.proto = 49185 ∧ nothL (restL p) = true ∧ (wrL p).2 = 0 ∧ (wrL p).1.length ≤ 65531 ∧ m = kputB p.code p.id (wrL p).1 := by
  unfold lputB at h
  split at h
  · rename_i h1
    split at h
    · rename_i h2
      split at h
      · rename_i h3
        obtain ⟨h4, h5⟩ := Prod.mk.inj h
        unfold kerrP at h5
        split at h5
        · rename_i h6
          rw [kputA_ok _ _ h6] at h4
          exact ⟨h1, h2, h3, h6, h4.symm⟩
        · exact absurd h5 (by decide)
      · rename_i h3
        exact absurd (Prod.mk.inj h).2 h3
    · exact absurd (Prod.mk.inj h).2 (by decide)
  · exact absurd (Prod.mk.inj h).2 (by decide)
/-- A packet is read as it was written, whatever stands behind it. -/
theorem lget_put {p : Pk} {m : List Nat} (hok : p.ok) (h : lputB p = (m, 0)) (t : List Nat) : lgetB (m ++ t) = (p, 0) := by
  obtain ⟨h1, h2, h3, h4, rfl⟩ := lput_ok h
  rw [lget_of (kget_put _ _ _ t)]
  obtain ⟨pr, co, i, os, su, ma, on, tw, da, nu⟩ := p
  simp only at h1
  subst h1
  unfold lrdB
  rcases hasL_cases co with hk | hk | hk | hk
  · simp only [restL, hk, wrL] at h2 h3 ⊢
    simp only [show ¬ (0 : Nat) = 1 by decide, show ¬ (0 : Nat) = 2 by decide, show ¬ (0 : Nat) = 3 by decide, if_false] at h2 ⊢
    obtain ⟨a1, a2, a3, a4, a5, a6, -⟩ := (nothL_iff _).1 h2
    simp only at a1 a2 a3 a4 a5 a6
    subst a1; subst a2; subst a3; subst a4; subst a5; subst a6
    rfl
  · simp only [restL, hk, wrL, if_true] at h2 h3 ⊢
    obtain ⟨a1, a2, -, a4, a5, a6, a7⟩ := (nothL_iff _).1 h2
    simp only at a1 a2 a4 a5 a6 a7
    subst a1; subst a2; subst a4; subst a5; subst a6; subst a7
    have hq : okL (tabB 49185) os = true := by
      unfold putO at h3
      split at h3
      · assumption
      · exact absurd h3 (by decide)
    have e1 : (putO 49185 os).1 = putB os := by unfold putO; rw [if_pos hq]
    have e2 : getO 49185 (putB os) = (os, 0) := by unfold getO; rw [get_put]; simp [hq]
    rw [e1, e2]
    rfl
  · simp only [restL, hk, wrL] at h2 h3 ⊢
    simp only [show ¬ (2 : Nat) = 1 by decide, if_false, if_true] at h2 ⊢
    obtain ⟨-, a2, a3, a4, a5, a6, -⟩ := (nothL_iff _).1 h2
    simp only at a2 a3 a4 a5 a6
    subst a2; subst a3; subst a4; subst a5; subst a6
    have hs := hok.sub
    simp only at hs
    rw [if_neg (by rw [List.length_append, num_len]; omega), take_num, drop_num, num_val, Nat.mod_eq_of_lt (by omega)]
  · simp only [restL, hk, wrL] at h2 h3 ⊢
    simp only [show ¬ (3 : Nat) = 1 by decide, show ¬ (3 : Nat) = 2 by decide, if_false, if_true] at h2 ⊢
    obtain ⟨a1, -, a3, a4, a5, a6, -⟩ := (nothL_iff _).1 h2
    simp only at a1 a3 a4 a5 a6
    subst a1; subst a3; subst a4; subst a5; subst a6
    have hs := hok.magic
    simp only at hs
    rw [if_neg (by rw [List.length_append, num_len]; omega), take_num, drop_num, num_val, Nat.mod_eq_of_lt (by omega)]

/-- What octets are as a packet's data, and how it is written. -/
theorem lrd_ok {c i : Nat} {d : List Nat} (hc : c < 256) (hi : i < 256) (hb : By d) {y : Pk} {k : Nat} (h : lrdB c i d = (y, k)) :
    y.ok ∧ y.opts.length ≤ d.length ∧ datB y.opts ≤ d.length ∧ y.one = [] ∧ y.two = [] ∧ y.nums = [] ∧ y.data.length ≤ d.length ∧ (k = 0 → y.proto = 49185 ∧ y.code = c ∧ y.id = i ∧ nothL (restL y) = true ∧ wrL y = (d, 0)) := by
  have ok0 : pk0.ok := ⟨by decide, by decide, by decide, (fun _ h => by cases h), by decide, by decide, By.nil, By.nil, By.nil, (fun _ h => by cases h)⟩
  have z0 : ∀ k' : Nat, k' ≠ 0 → pk0.ok ∧ pk0.opts.length ≤ d.length ∧ datB pk0.opts ≤ d.length ∧ pk0.one = [] ∧ pk0.two = [] ∧ pk0.nums = [] ∧ pk0.data.length ≤ d.length ∧ (k' = 0 → pk0.proto = 49185 ∧ pk0.code = c ∧ pk0.id = i ∧ nothL (restL pk0) = true ∧ wrL pk0 = (d, 0)) := fun k' hk' =>
    ⟨ok0, Nat.zero_le _, Nat.zero_le _, rfl, rfl, rfl, Nat.zero_le _, fun e => absurd e hk'⟩
  unfold lrdB at h
  rcases hasL_cases c with hk | hk | hk | hk
  · rw [hk] at h
    obtain ⟨rfl, rfl⟩ := Prod.mk.inj h
    refine ⟨⟨show (49185 : Nat) < 65536 by decide, hc, hi, (fun _ h => by cases h), show (0 : Nat) < 65536 by decide, show (0 : Nat) < 4294967296 by decide, By.nil, By.nil, hb, (fun _ h => by cases h)⟩, Nat.zero_le _, Nat.zero_le _, rfl, rfl, rfl, Nat.le_refl _, fun _ => ⟨rfl, rfl, rfl, ?_, ?_⟩⟩
    · simp only [restL, hk]; rfl
    · simp only [wrL, hk]; rfl
  · rw [if_pos hk] at h
    by_cases h0 : (getO 49185 d).2 = 0
    · rw [if_pos h0] at h
      obtain ⟨rfl, rfl⟩ := Prod.mk.inj h
      obtain ⟨l, hl⟩ : ∃ l, getO 49185 d = (l, 0) := ⟨(getO 49185 d).1, by rw [← h0]⟩
      rw [hl]
      have hg : (getB d).2 = 0 ∧ okL (tabB 49185) (getB d).1 = true ∧ l = (getB d).1 := by
        unfold getO at hl
        split at hl
        · rename_i g1
          split at hl
          · rename_i g2
            exact ⟨g1, g2, (Prod.mk.inj hl).1.symm⟩
          · exact absurd (Prod.mk.inj hl).2 (by decide)
        · rename_i g1
          exact absurd (Prod.mk.inj hl).2 g1
      obtain ⟨g1, g2, rfl⟩ := hg
      obtain ⟨p1, p2, p3⟩ := put_get d hb g1
      have hlen := get_len d hb
      refine ⟨⟨show (49185 : Nat) < 65536 by decide, hc, hi, p3, show (0 : Nat) < 65536 by decide, show (0 : Nat) < 4294967296 by decide, By.nil, By.nil, By.nil, (fun _ h => by cases h)⟩, by show (getB d).1.length ≤ _; omega, by show datB (getB d).1 ≤ _; omega, rfl, rfl, rfl, Nat.zero_le _, fun _ => ⟨rfl, rfl, rfl, ?_, ?_⟩⟩
      · simp only [restL, hk]; rfl
      · simp only [wrL, hk, if_true, putO, g2, p1]
    · rw [if_neg h0] at h
      obtain ⟨rfl, rfl⟩ := Prod.mk.inj h
      exact z0 _ h0
  · rw [if_neg (by omega), if_pos hk] at h
    by_cases hz : d.length < 2
    · rw [if_pos hz] at h
      obtain ⟨rfl, rfl⟩ := Prod.mk.inj h
      exact z0 _ (by decide)
    · rw [if_neg hz] at h
      obtain ⟨rfl, rfl⟩ := Prod.mk.inj h
      have ht : (d.take 2).length = 2 := by rw [List.length_take]; omega
      have hv := valN_lt (hb.take 2)
      rw [ht] at hv
      refine ⟨⟨show (49185 : Nat) < 65536 by decide, hc, hi, (fun _ h => by cases h), hv, show (0 : Nat) < 4294967296 by decide, By.nil, By.nil, hb.drop 2, (fun _ h => by cases h)⟩, Nat.zero_le _, Nat.zero_le _, rfl, rfl, rfl, by show (d.drop 2).length ≤ _; rw [List.length_drop]; omega, fun _ => ⟨rfl, rfl, rfl, ?_, ?_⟩⟩
      · simp only [restL, hk]; rfl
      · rw [wrL]
        dsimp only
        rw [if_neg (by omega), if_pos hk, num_of_val (hb.take 2) 2 ht, List.take_append_drop]
  · rw [if_neg (by omega), if_neg (by omega), if_pos hk] at h
    by_cases hz : d.length < 4
    · rw [if_pos hz] at h
      obtain ⟨rfl, rfl⟩ := Prod.mk.inj h
      exact z0 _ (by decide)
    · rw [if_neg hz] at h
      obtain ⟨rfl, rfl⟩ := Prod.mk.inj h
      have ht : (d.take 4).length = 4 := by rw [List.length_take]; omega
      have hv := valN_lt (hb.take 4)
      rw [ht] at hv
      refine ⟨⟨show (49185 : Nat) < 65536 by decide, hc, hi, (fun _ h => by cases h), show (0 : Nat) < 65536 by decide, hv, By.nil, By.nil, hb.drop 4, (fun _ h => by cases h)⟩, Nat.zero_le _, Nat.zero_le _, rfl, rfl, rfl, by show (d.drop 4).length ≤ _; rw [List.length_drop]; omega, fun _ => ⟨rfl, rfl, rfl, ?_, ?_⟩⟩
      · simp only [restL, hk]; rfl
      · rw [wrL]
        dsimp only
        rw [if_neg (by omega), if_neg (by omega), if_pos hk, num_of_val (hb.take 4) 4 ht, List.take_append_drop]
/-- What is read is of Go's, and small. -/
theorem lget_ok {b : List Nat} (hb : By b) {y : Pk} {k : Nat} (h : lgetB b = (y, k)) (hl : b.length ≤ 1073741824) : y.ok ∧ y.sm := by
  obtain ⟨x, c, d, e, hg⟩ : ∃ x c d e, kgetB b = (x, c, d, e) := ⟨_, _, _, _, rfl⟩
  by_cases he : e = 0
  · subst he
    rw [lget_of hg] at h
    obtain ⟨g1, g2, -, -, -⟩ := kput_get hb hg
    obtain ⟨g3, g4⟩ := kget_bytes hb hg
    obtain ⟨a1, a2, a3, a4, a5, a6, a7, -⟩ := lrd_ok g1 g2 g3 h
    exact ⟨a1, by omega, by omega, by rw [a4]; simp, by rw [a5]; simp, by omega, by rw [a6]; simp⟩
  · rw [lget_no hg he] at h
    obtain ⟨rfl, rfl⟩ := Prod.mk.inj h
    exact ⟨⟨by decide, by decide, by decide, (fun _ h => by cases h), by decide, by decide, By.nil, By.nil, By.nil, (fun _ h => by cases h)⟩, by decide, by decide, by decide, by decide, by decide, by decide⟩
/-- What is read is written so. -/
theorem lput_get {b : List Nat} (hb : By b) {y : Pk} (h : lgetB b = (y, 0)) : ∃ m, lputB y = (m, 0) ∧ m.length ≤ b.length ∧ m = b.take m.length := by
  obtain ⟨x, c, d, e, hg⟩ : ∃ x c d e, kgetB b = (x, c, d, e) := ⟨_, _, _, _, rfl⟩
  by_cases he : e = 0
  · subst he
    rw [lget_of hg] at h
    obtain ⟨g1, g2, g5, g6, g7⟩ := kput_get hb hg
    obtain ⟨g3, g4⟩ := kget_bytes hb hg
    obtain ⟨-, -, -, -, -, -, -, a8⟩ := lrd_ok g1 g2 g3 h
    obtain ⟨e1, e2, e3, e4, e5⟩ := a8 rfl
    have hlen : (kputB x c d).length = b.length - kpadB b := by rw [g7, List.length_take]; omega
    refine ⟨kputB x c d, ?_, by omega, by rw [hlen]; exact g7⟩
    unfold lputB
    rw [if_pos e1, if_pos e4, e5]
    simp only [if_true]
    rw [e2, e3, kputA_ok _ _ g5, kerrP_ok g5]
  · rw [lget_no hg he] at h
    exact absurd (Prod.mk.inj h).2 he
theorem lput_by {p : Pk} {m : List Nat} (hok : p.ok) (h : lputB p = (m, 0)) : By m := by
  obtain ⟨-, -, h3, h4, rfl⟩ := lput_ok h
  refine kput_by hok.code hok.id ?_ h4
  unfold wrL at h3 ⊢
  rcases hasL_cases p.code with hk | hk | hk | hk
  · rw [hk]; exact hok.data
  · rw [if_pos hk] at h3 ⊢
    unfold putO at h3 ⊢
    split at h3
    · rename_i hq
      rw [if_pos hq]
      exact put_by hok.opts (okL_short hq)
    · exact absurd h3 (by decide)
  · rw [if_neg (by omega), if_pos hk]
    exact (num_by _ _).app hok.data
  · rw [if_neg (by omega), if_neg (by omega), if_pos hk]
    exact (num_by _ _).app hok.data
/-- A field that is not nothing. -/
theorem lput_field {p : Pk} (h1 : p.proto = 49185) (h2 : nothL (restL p) = false) : lputB p = ([], 9) := by
  unfold lputB
  rw [if_pos h1, h2]
  rfl
theorem lput_kind {p : Pk} (h1 : ¬ p.proto = 49185) : lputB p = ([], 8) := by
  unfold lputB
  rw [if_neg h1]
end

section
set_option maxRecDepth 4000

/-- A packet without what its code has. -/
def restN (p : Pk) : Pk := if 1 ≤ p.code ∧ p.code ≤ 4 then { p with opts := [] } else { p with data := [] }
/-- Its control packet's data, and the error's number. -/
def wrN (p : Pk) : List Nat × Nat := if 1 ≤ p.code ∧ p.code ≤ 4 then putO p.proto p.opts else (p.data, 0)
/-- What Put answers. -/
def nputB (p : Pk) : List Nat × Nat :=
  if p.proto = 32801 ∨ p.proto = 32855 then (if nothL (restN p) = true then (if (wrN p).2 = 0 then (kputA p.code p.id (wrN p).1, kerrP (wrN p).1) else ([], (wrN p).2)) else ([], 9)) else ([], 8)
/-- What a control packet's data is. -/
def nrdB (t c i : Nat) (d : List Nat) : Pk × Nat :=
  if 1 ≤ c ∧ c ≤ 4 then (if (getO t d).2 = 0 then (⟨t, c, i, (getO t d).1, 0, 0, [], [], [], []⟩, 0) else (pk0, (getO t d).2))
  else (⟨t, c, i, [], 0, 0, [], [], d, []⟩, 0)
/-- What Get answers. -/
def ngetB (t : Nat) (b : List Nat) : Pk × Nat :=
  if t = 32801 ∨ t = 32855 then (if (kgetB b).2.2.2 = 0 then nrdB t (kgetB b).1 (kgetB b).2.1 (kgetB b).2.2.1 else (pk0, (kgetB b).2.2.2)) else (pk0, 8)
/-- Is it an address' option, that may be? -/
def isA (t : Nat) (o : Nat × List Nat) : Bool := (decide (t = 32801) && decide (o.1 = 3) || decide (t = 32855) && decide (o.1 = 1)) && okO (tabB t) o
/-- What Address answers. -/
def addrB (t : Nat) (l : List (Nat × List Nat)) : Nat × Bool := (l.find? (isA t)).elim (0, false) fun o => (valB o.2, true)

theorem nget_of {t : Nat} {b d : List Nat} {x y : Nat} (ht : t = 32801 ∨ t = 32855) (h : kgetB b = (x, y, d, 0)) : ngetB t b = nrdB t x y d := by unfold ngetB; rw [if_pos ht, h]; rfl
theorem nget_no {t : Nat} {b d : List Nat} {x y e : Nat} (ht : t = 32801 ∨ t = 32855) (h : kgetB b = (x, y, d, e)) (he : e ≠ 0) : ngetB t b = (pk0, e) := by unfold ngetB; rw [if_pos ht, h]; exact if_neg he
theorem nget_kind {t : Nat} {b : List Nat} (ht : ¬ (t = 32801 ∨ t = 32855)) : ngetB t b = (pk0, 8) := by unfold ngetB; rw [if_neg ht]
theorem nrd_err {t c i : Nat} {d : List Nat} {p : Pk} {k : Nat} (h : nrdB t c i d = (p, k)) (hk : k ≠ 0) : p = pk0 := by
  unfold nrdB at h
  split at h
  · split at h
    · exact absurd (Prod.mk.inj h).2.symm hk
    · exact (Prod.mk.inj h).1.symm
  · exact absurd (Prod.mk.inj h).2.symm hk
theorem nget_err {t : Nat} {b : List Nat} {p : Pk} {k : Nat} (h : ngetB t b = (p, k)) (hk : k ≠ 0) : p = pk0 := by
  unfold ngetB at h
  split at h
  · split at h
    · exact nrd_err h hk
    · exact (Prod.mk.inj h).1.symm
  · exact (Prod.mk.inj h).1.symm
theorem nput_kind {p : Pk} (h1 : ¬ (p.proto = 32801 ∨ p.proto = 32855)) : nputB p = ([], 8) := by
  unfold nputB
  rw [if_neg h1]
theorem nput_err {p : Pk} {m : List Nat} {k : Nat} (h : nputB p = (m, k)) (hk : k ≠ 0) : m = [] := by
  unfold nputB at h
  split at h
  · split at h
    · split at h
      · obtain ⟨h1, h2⟩ := Prod.mk.inj h
        unfold kerrP at h2
        unfold kputA at h1
        split at h2
        · exact absurd h2.symm hk
        · rename_i h3
          rw [if_neg h3] at h1
          exact h1.symm
      · exact (Prod.mk.inj h).1.symm
    · exact (Prod.mk.inj h).1.symm
  · exact (Prod.mk.inj h).1.symm
theorem nput_len {p : Pk} {m : List Nat} {k : Nat} (h : nputB p = (m, k)) (hf : fewP p = true) : m.length ≤ 2000 := by
  obtain ⟨⟨f1, f2⟩, f3, f4, f5, f6⟩ := fewP_of hf
  have key : (wrN p).1.length ≤ 1200 := by
    unfold wrN
    split
    · unfold putO
      split
      · show (putB p.opts).length ≤ _
        rw [put_len]; omega
      · simp
    · show p.data.length ≤ _
      omega
  unfold nputB at h
  split at h
  · split at h
    · split at h
      · obtain ⟨h1, -⟩ := Prod.mk.inj h
        unfold kputA at h1
        split at h1
        · rw [← h1, kput_len]; omega
        · rw [← h1]; simp
      · rw [← (Prod.mk.inj h).1]; simp
    · rw [← (Prod.mk.inj h).1]; simp
  · rw [← (Prod.mk.inj h).1]; simp
/-- What is said of a packet that can be written. -/
theorem nput_ok {p : Pk} {m : List Nat} (h : nputB p = (m, 0)) : (p.proto = 32801 ∨ p.proto = 32855) ∧ nothL (restN p) = true ∧ (wrN p).2 = 0 ∧ (wrN p).1.length ≤ 65531 ∧ m = kputB p.code p.id (wrN p).1 := by
  unfold nputB at h
  split at h
  · rename_i h1
    split at h
    · rename_i h2
      split at h
      · rename_i h3
        obtain ⟨h4, h5⟩ := Prod.mk.inj h
        unfold kerrP at h5
        split at h5
        · rename_i h6
          rw [kputA_ok _ _ h6] at h4
          exact ⟨h1, h2, h3, h6, h4.symm⟩
        · exact absurd h5 (by decide)
      · rename_i h3
        exact absurd (Prod.mk.inj h).2 h3
    · exact absurd (Prod.mk.inj h).2 (by decide)
  · exact absurd (Prod.mk.inj h).2 (by decide)
/-- A packet is read as it was written, whatever stands behind it. -/
theorem nget_put {p : Pk} {m : List Nat} (h : nputB p = (m, 0)) (t : List Nat) : ngetB p.proto (m ++ t) = (p, 0) := by
  obtain ⟨h1, h2, h3, h4, rfl⟩ := nput_ok h
  rw [nget_of h1 (kget_put _ _ _ t)]
  obtain ⟨pr, co, i, os, su, ma, on, tw, da, nu⟩ := p
  unfold nrdB
  by_cases hk : 1 ≤ co ∧ co ≤ 4
  · simp only [restN, hk, wrN, and_self, if_true] at h2 h3 ⊢
    obtain ⟨a1, a2, -, a4, a5, a6, a7⟩ := (nothL_iff _).1 h2
    simp only at a1 a2 a4 a5 a6 a7
    subst a1; subst a2; subst a4; subst a5; subst a6; subst a7
    have hq : okL (tabB pr) os = true := by
      unfold putO at h3
      split at h3
      · assumption
      · exact absurd h3 (by decide)
    have e1 : (putO pr os).1 = putB os := by unfold putO; rw [if_pos hq]
    have e2 : getO pr (putB os) = (os, 0) := by unfold getO; rw [get_put]; simp [hq]
    rw [e1, e2]
    rfl
  · simp only [restN, hk, wrN, if_false] at h2 h3 ⊢
    obtain ⟨a1, a2, a3, a4, a5, a6, -⟩ := (nothL_iff _).1 h2
    simp only at a1 a2 a3 a4 a5 a6
    subst a1; subst a2; subst a3; subst a4; subst a5; subst a6
    rfl
/-- What octets are as a packet's data, and how it is written. -/
theorem nrd_ok {t c i : Nat} {d : List Nat} (ht : t < 65536) (hc : c < 256) (hi : i < 256) (hb : By d) {y : Pk} {k : Nat} (h : nrdB t c i d = (y, k)) :
    y.ok ∧ y.opts.length ≤ d.length ∧ datB y.opts ≤ d.length ∧ y.one = [] ∧ y.two = [] ∧ y.nums = [] ∧ y.data.length ≤ d.length ∧ (k = 0 → y.proto = t ∧ y.code = c ∧ y.id = i ∧ nothL (restN y) = true ∧ wrN y = (d, 0)) := by
  have ok0 : pk0.ok := ⟨by decide, by decide, by decide, (fun _ h => by cases h), by decide, by decide, By.nil, By.nil, By.nil, (fun _ h => by cases h)⟩
  have z0 : ∀ k' : Nat, k' ≠ 0 → pk0.ok ∧ pk0.opts.length ≤ d.length ∧ datB pk0.opts ≤ d.length ∧ pk0.one = [] ∧ pk0.two = [] ∧ pk0.nums = [] ∧ pk0.data.length ≤ d.length ∧ (k' = 0 → pk0.proto = t ∧ pk0.code = c ∧ pk0.id = i ∧ nothL (restN pk0) = true ∧ wrN pk0 = (d, 0)) := fun k' hk' =>
    ⟨ok0, Nat.zero_le _, Nat.zero_le _, rfl, rfl, rfl, Nat.zero_le _, fun e => absurd e hk'⟩
  unfold nrdB at h
  by_cases hk : 1 ≤ c ∧ c ≤ 4
  · rw [if_pos hk] at h
    by_cases h0 : (getO t d).2 = 0
    · rw [if_pos h0] at h
      obtain ⟨rfl, rfl⟩ := Prod.mk.inj h
      obtain ⟨l, hl⟩ : ∃ l, getO t d = (l, 0) := ⟨(getO t d).1, by rw [← h0]⟩
      rw [hl]
      have hg : (getB d).2 = 0 ∧ okL (tabB t) (getB d).1 = true ∧ l = (getB d).1 := by
        unfold getO at hl
        split at hl
        · rename_i g1
          split at hl
          · rename_i g2
            exact ⟨g1, g2, (Prod.mk.inj hl).1.symm⟩
          · exact absurd (Prod.mk.inj hl).2 (by decide)
        · rename_i g1
          exact absurd (Prod.mk.inj hl).2 g1
      obtain ⟨g1, g2, rfl⟩ := hg
      obtain ⟨p1, p2, p3⟩ := put_get d hb g1
      have hlen := get_len d hb
      refine ⟨⟨ht, hc, hi, p3, show (0 : Nat) < 65536 by decide, show (0 : Nat) < 4294967296 by decide, By.nil, By.nil, By.nil, (fun _ h => by cases h)⟩, by show (getB d).1.length ≤ _; omega, by show datB (getB d).1 ≤ _; omega, rfl, rfl, rfl, Nat.zero_le _, fun _ => ⟨rfl, rfl, rfl, ?_, ?_⟩⟩
      · simp only [restN, hk, and_self, if_true]; rfl
      · simp only [wrN, hk, and_self, if_true, putO, g2, p1]
    · rw [if_neg h0] at h
      obtain ⟨rfl, rfl⟩ := Prod.mk.inj h
      exact z0 _ h0
  · rw [if_neg hk] at h
    obtain ⟨rfl, rfl⟩ := Prod.mk.inj h
    refine ⟨⟨ht, hc, hi, (fun _ h => by cases h), show (0 : Nat) < 65536 by decide, show (0 : Nat) < 4294967296 by decide, By.nil, By.nil, hb, (fun _ h => by cases h)⟩, Nat.zero_le _, Nat.zero_le _, rfl, rfl, rfl, Nat.le_refl _, fun _ => ⟨rfl, rfl, rfl, ?_, ?_⟩⟩
    · simp only [restN, hk, if_false]; rfl
    · simp only [wrN, hk, if_false]
/-- What is read is of Go's, and small. -/
theorem nget_ok {t : Nat} (ht : t < 65536) {b : List Nat} (hb : By b) {y : Pk} {k : Nat} (h : ngetB t b = (y, k)) (hl : b.length ≤ 1073741824) : y.ok ∧ y.sm := by
  have ok0 : pk0.ok ∧ pk0.sm := ⟨⟨by decide, by decide, by decide, (fun _ h => by cases h), by decide, by decide, By.nil, By.nil, By.nil, (fun _ h => by cases h)⟩, by decide, by decide, by decide, by decide, by decide, by decide⟩
  by_cases h1 : t = 32801 ∨ t = 32855
  case neg =>
    rw [nget_kind h1] at h
    obtain ⟨rfl, rfl⟩ := Prod.mk.inj h
    exact ok0
  obtain ⟨x, c, d, e, hg⟩ : ∃ x c d e, kgetB b = (x, c, d, e) := ⟨_, _, _, _, rfl⟩
  by_cases he : e = 0
  · subst he
    rw [nget_of h1 hg] at h
    obtain ⟨g1, g2, -, -, -⟩ := kput_get hb hg
    obtain ⟨g3, g4⟩ := kget_bytes hb hg
    obtain ⟨a1, a2, a3, a4, a5, a6, a7, -⟩ := nrd_ok ht g1 g2 g3 h
    exact ⟨a1, by omega, by omega, by rw [a4]; simp, by rw [a5]; simp, by omega, by rw [a6]; simp⟩
  · rw [nget_no h1 hg he] at h
    obtain ⟨rfl, rfl⟩ := Prod.mk.inj h
    exact ok0
/-- What is read is written so. -/
theorem nput_get {t : Nat} (ht : t < 65536) {b : List Nat} (hb : By b) {y : Pk} (h : ngetB t b = (y, 0)) : y.proto = t ∧ ∃ m, nputB y = (m, 0) ∧ m.length ≤ b.length ∧ m = b.take m.length := by
  by_cases h1 : t = 32801 ∨ t = 32855
  case neg =>
    rw [nget_kind h1] at h
    exact absurd (Prod.mk.inj h).2 (by decide)
  obtain ⟨x, c, d, e, hg⟩ : ∃ x c d e, kgetB b = (x, c, d, e) := ⟨_, _, _, _, rfl⟩
  by_cases he : e = 0
  · subst he
    rw [nget_of h1 hg] at h
    obtain ⟨g1, g2, g5, g6, g7⟩ := kput_get hb hg
    obtain ⟨g3, g4⟩ := kget_bytes hb hg
    obtain ⟨-, -, -, -, -, -, -, a8⟩ := nrd_ok ht g1 g2 g3 h
    obtain ⟨e1, e2, e3, e4, e5⟩ := a8 rfl
    have hlen : (kputB x c d).length = b.length - kpadB b := by rw [g7, List.length_take]; omega
    refine ⟨e1, kputB x c d, ?_, by omega, by rw [hlen]; exact g7⟩
    unfold nputB
    rw [e1, if_pos h1, if_pos e4, e5]
    simp only [if_true]
    rw [e2, e3, kputA_ok _ _ g5, kerrP_ok g5]
  · rw [nget_no h1 hg he] at h
    exact absurd (Prod.mk.inj h).2 he
theorem nput_by {p : Pk} {m : List Nat} (hok : p.ok) (h : nputB p = (m, 0)) : By m := by
  obtain ⟨-, -, h3, h4, rfl⟩ := nput_ok h
  refine kput_by hok.code hok.id ?_ h4
  unfold wrN at h3 ⊢
  by_cases hk : 1 ≤ p.code ∧ p.code ≤ 4
  · rw [if_pos hk] at h3 ⊢
    unfold putO at h3 ⊢
    split at h3
    · rename_i hq
      rw [if_pos hq]
      exact put_by hok.opts (okL_short hq)
    · exact absurd h3 (by decide)
  · rw [if_neg hk]; exact hok.data
theorem nothN_iff (p : Pk) : nothL (restN p) = true ↔ ((1 ≤ p.code ∧ p.code ≤ 4) → p.data.length = 0) ∧ (¬ (1 ≤ p.code ∧ p.code ≤ 4) → p.opts.length = 0) ∧ p.sub = 0 ∧ p.magic = 0 ∧ p.one.length = 0 ∧ p.two.length = 0 ∧ p.nums.length = 0 := by
  unfold restN nothL
  by_cases hk : 1 ≤ p.code ∧ p.code ≤ 4
  · rw [if_pos hk]
    simp [hk]
    constructor <;> (intro h'; simp_all)
  · rw [if_neg hk]
    simp [hk]
    constructor <;> (intro h'; simp_all)
end

section
set_option maxRecDepth 4000

/-- How many texts a code has. -/
def txtB (c : Nat) : Nat := if c = 1 then 2 else if c = 2 ∨ c = 3 then 1 else 0
theorem txtB_cases (c : Nat) : (c = 1 ∧ txtB c = 2) ∨ ((c = 2 ∨ c = 3) ∧ txtB c = 1) ∨ (¬ (1 ≤ c ∧ c ≤ 3) ∧ txtB c = 0) := by
  unfold txtB
  split
  · exact .inl ⟨by assumption, rfl⟩
  · split
    · exact .inr (.inl ⟨by assumption, rfl⟩)
    · exact .inr (.inr ⟨by omega, rfl⟩)
/-- A text, its length ahead. -/
def lenT (l : List Nat) : List Nat := l.length :: l
/-- A packet without what its code has. -/
def restA (p : Pk) : Pk := if txtB p.code = 2 then { p with one := [], two := [] } else if txtB p.code = 1 then { p with one := [] } else { p with data := [] }
/-- Its control packet's data, and the error's number. -/
def wrA (p : Pk) : List Nat × Nat :=
  if txtB p.code = 2 then (if p.one.length ≤ 255 ∧ p.two.length ≤ 255 then (lenT p.one ++ lenT p.two, 0) else ([], 3))
  else if txtB p.code = 1 then (if p.one.length ≤ 255 then (lenT p.one, 0) else ([], 3)) else (p.data, 0)
/-- What Put answers. -/
def aputB (p : Pk) : List Nat × Nat :=
  if p.proto = 49187 then (if nothL (restA p) = true then (if (wrA p).2 = 0 then (kputA p.code p.id (wrA p).1, kerrP (wrA p).1) else ([], (wrA p).2)) else ([], 9)) else ([], 8)
/-- The text that octets begin with, what stands behind it, the error's number. -/
def cutT (d : List Nat) : List Nat × List Nat × Nat :=
  match d with
  | [] => ([], [], 2)
  | n :: t => if t.length < n then ([], [], 2) else (t.take n, t.drop n, 0)
/-- What a control packet's data is. -/
def ardB (c i : Nat) (d : List Nat) : Pk × Nat :=
  if txtB c = 2 then
    (if (cutT d).2.2 = 0 then
      (if (cutT (cutT d).2.1).2.2 = 0 then
        (if (cutT (cutT d).2.1).2.1 = [] then (⟨49187, c, i, [], 0, 0, (cutT d).1, (cutT (cutT d).2.1).1, [], []⟩, 0) else (pk0, 4))
       else (pk0, 2))
     else (pk0, 2))
  else if txtB c = 1 then
    (if (cutT d).2.2 = 0 then (if (cutT d).2.1 = [] then (⟨49187, c, i, [], 0, 0, (cutT d).1, [], [], []⟩, 0) else (pk0, 4)) else (pk0, 2))
  else (⟨49187, c, i, [], 0, 0, [], [], d, []⟩, 0)
/-- What Get answers. -/
def agetB (b : List Nat) : Pk × Nat := if (kgetB b).2.2.2 = 0 then ardB (kgetB b).1 (kgetB b).2.1 (kgetB b).2.2.1 else (pk0, (kgetB b).2.2.2)

theorem aget_of {b d : List Nat} {x y : Nat} (h : kgetB b = (x, y, d, 0)) : agetB b = ardB x y d := by unfold agetB; rw [h]; rfl
theorem aget_no {b d : List Nat} {x y e : Nat} (h : kgetB b = (x, y, d, e)) (he : e ≠ 0) : agetB b = (pk0, e) := by unfold agetB; rw [h]; exact if_neg he

/-- The cut in three ways. -/
theorem cutT_nil : cutT [] = ([], [], 2) := rfl
theorem cutT_short {n : Nat} {t : List Nat} (h : t.length < n) : cutT (n :: t) = ([], [], 2) := if_pos h
theorem cutT_ok {n : Nat} {t : List Nat} (h : n ≤ t.length) : cutT (n :: t) = (t.take n, t.drop n, 0) := if_neg (by omega)
/-- Octets whose first one is known. -/
theorem cutT_at {d : List Nat} {x n : Nat} (hx : d[0]? = some x) (hn : d.length = n) : cutT d = if n < x + 1 then ([], [], 2) else ((d.take (x + 1)).drop 1, d.drop (x + 1), 0) := by
  match d, hx with
  | y :: t, hx =>
    have e : y = x := by simpa using hx
    subst e
    have e2 : n = t.length + 1 := by rw [← hn]; rfl
    by_cases h : t.length < y
    · rw [cutT_short h, if_pos (by omega)]
    · rw [cutT_ok (by omega), if_neg (by omega)]
      rfl
theorem cutT_lenT (l t : List Nat) : cutT (lenT l ++ t) = (l, t, 0) := by
  show cutT (l.length :: (l ++ t)) = _
  rw [cutT_ok (by rw [List.length_append]; omega), List.take_left', List.drop_left']
  · rfl
  · rfl
/-- A cut that comes off. -/
theorem cutT_said {d l r : List Nat} (h : cutT d = (l, r, 0)) : d = lenT l ++ r := by
  match d with
  | [] => exact absurd (Prod.mk.inj (Prod.mk.inj h).2).2 (by decide)
  | n :: t =>
    rcases Nat.lt_or_ge t.length n with h1 | h1
    · rw [cutT_short h1] at h
      exact absurd (Prod.mk.inj (Prod.mk.inj h).2).2 (by decide)
    · rw [cutT_ok h1] at h
      obtain ⟨h2, h3⟩ := Prod.mk.inj h
      obtain ⟨h3, -⟩ := Prod.mk.inj h3
      have hl : l.length = n := by rw [← h2, List.length_take]; omega
      show _ = l.length :: (l ++ r)
      rw [hl, ← h2, ← h3, List.take_append_drop]
theorem cutT_err (d : List Nat) : (cutT d).2.2 = 0 ∨ cutT d = ([], [], 2) := by
  match d with
  | [] => exact .inr rfl
  | n :: t =>
    rcases Nat.lt_or_ge t.length n with h1 | h1
    · exact .inr (cutT_short h1)
    · exact .inl (by rw [cutT_ok h1])
theorem cutT_get (d : List Nat) : (∃ l r, cutT d = (l, r, 0) ∧ d = lenT l ++ r) ∨ cutT d = ([], [], 2) := by
  rcases cutT_err d with h | h
  · refine .inl ⟨(cutT d).1, (cutT d).2.1, ?_⟩
    have e : cutT d = ((cutT d).1, (cutT d).2.1, 0) := by rw [← h]
    exact ⟨e, cutT_said e⟩
  · exact .inr h
theorem lenT_by {l : List Nat} (hb : By l) (hl : l.length ≤ 255) : By (lenT l) := by
  intro x hx
  rcases List.mem_cons.1 hx with h | h
  · omega
  · exact hb x h
theorem lenT_len (l : List Nat) : (lenT l).length = l.length + 1 := rfl

theorem ard_err {c i : Nat} {d : List Nat} {p : Pk} {k : Nat} (h : ardB c i d = (p, k)) (hk : k ≠ 0) : p = pk0 := by
  unfold ardB at h
  split at h
  · split at h
    · split at h
      · split at h
        · exact absurd (Prod.mk.inj h).2.symm hk
        · exact (Prod.mk.inj h).1.symm
      · exact (Prod.mk.inj h).1.symm
    · exact (Prod.mk.inj h).1.symm
  · split at h
    · split at h
      · split at h
        · exact absurd (Prod.mk.inj h).2.symm hk
        · exact (Prod.mk.inj h).1.symm
      · exact (Prod.mk.inj h).1.symm
    · exact absurd (Prod.mk.inj h).2.symm hk
theorem aget_err {b : List Nat} {p : Pk} {k : Nat} (h : agetB b = (p, k)) (hk : k ≠ 0) : p = pk0 := by
  unfold agetB at h
  split at h
  · exact ard_err h hk
  · exact (Prod.mk.inj h).1.symm
theorem aput_kind {p : Pk} (h1 : ¬ p.proto = 49187) : aputB p = ([], 8) := by
  unfold aputB
  rw [if_neg h1]
theorem aput_err {p : Pk} {m : List Nat} {k : Nat} (h : aputB p = (m, k)) (hk : k ≠ 0) : m = [] := by
  unfold aputB at h
  split at h
  · split at h
    · split at h
      · obtain ⟨h1, h2⟩ := Prod.mk.inj h
        unfold kerrP at h2
        unfold kputA at h1
        split at h2
        · exact absurd h2.symm hk
        · rename_i h3
          rw [if_neg h3] at h1
          exact h1.symm
      · exact (Prod.mk.inj h).1.symm
    · exact (Prod.mk.inj h).1.symm
  · exact (Prod.mk.inj h).1.symm
theorem wrA_len (p : Pk) : (wrA p).1.length ≤ p.one.length + p.two.length + p.data.length + 2 := by
  unfold wrA
  split
  · split
    · show (lenT p.one ++ lenT p.two).length ≤ _
      rw [List.length_append, lenT_len, lenT_len]; omega
    · show 0 ≤ _; omega
  · split
    · split
      · show (lenT p.one).length ≤ _
        rw [lenT_len]; omega
      · show 0 ≤ _; omega
    · show p.data.length ≤ _
      omega
theorem aput_len {p : Pk} {m : List Nat} {k : Nat} (h : aputB p = (m, k)) (hf : fewP p = true) : m.length ≤ 2000 := by
  obtain ⟨⟨f1, f2⟩, f3, f4, f5, f6⟩ := fewP_of hf
  have key := wrA_len p
  unfold aputB at h
  split at h
  · split at h
    · split at h
      · obtain ⟨h1, -⟩ := Prod.mk.inj h
        unfold kputA at h1
        split at h1
        · rw [← h1, kput_len]; omega
        · rw [← h1]; simp
      · rw [← (Prod.mk.inj h).1]; simp
    · rw [← (Prod.mk.inj h).1]; simp
  · rw [← (Prod.mk.inj h).1]; simp
/-- What is said of a packet that can be written. -/
theorem aput_ok {p : Pk} {m : List Nat} (h : aputB p = (m, 0)) : p.proto = 49187 ∧ nothL (restA p) = true ∧ (wrA p).2 = 0 ∧ (wrA p).1.length ≤ 65531 ∧ m = kputB p.code p.id (wrA p).1 := by
  unfold aputB at h
  split at h
  · rename_i h1
    split at h
    · rename_i h2
      split at h
      · rename_i h3
        obtain ⟨h4, h5⟩ := Prod.mk.inj h
        unfold kerrP at h5
        split at h5
        · rename_i h6
          rw [kputA_ok _ _ h6] at h4
          exact ⟨h1, h2, h3, h6, h4.symm⟩
        · exact absurd h5 (by decide)
      · rename_i h3
        exact absurd (Prod.mk.inj h).2 h3
    · exact absurd (Prod.mk.inj h).2 (by decide)
  · exact absurd (Prod.mk.inj h).2 (by decide)
/-- A packet is read as it was written, whatever stands behind it. -/
theorem aget_put {p : Pk} {m : List Nat} (h : aputB p = (m, 0)) (t : List Nat) : agetB (m ++ t) = (p, 0) := by
  obtain ⟨h1, h2, h3, h4, rfl⟩ := aput_ok h
  rw [aget_of (kget_put _ _ _ t)]
  obtain ⟨pr, co, i, os, su, ma, on, tw, da, nu⟩ := p
  simp only at h1
  subst h1
  unfold ardB
  rcases txtB_cases co with ⟨-, hk⟩ | ⟨-, hk⟩ | ⟨-, hk⟩
  · simp only [restA, hk, wrA, if_true] at h2 h3 ⊢
    obtain ⟨a1, a2, a3, a4, -, -, a7⟩ := (nothL_iff _).1 h2
    simp only at a1 a2 a3 a4 a7
    subst a1; subst a2; subst a3; subst a4; subst a7
    split at h3
    · rename_i hq
      rw [if_pos hq]
      dsimp only
      have e2 := cutT_lenT tw []
      rw [List.append_nil] at e2
      rw [cutT_lenT on (lenT tw)]
      dsimp only
      rw [e2]
      rfl
    · exact absurd h3 (by decide)
  · simp only [restA, hk, wrA, if_true, show ¬ (1 : Nat) = 2 by decide, if_false] at h2 h3 ⊢
    obtain ⟨a1, a2, a3, a4, -, a6, a7⟩ := (nothL_iff _).1 h2
    simp only at a1 a2 a3 a4 a6 a7
    subst a1; subst a2; subst a3; subst a4; subst a6; subst a7
    split at h3
    · rename_i hq
      rw [if_pos hq]
      dsimp only
      have e2 := cutT_lenT on []
      rw [List.append_nil] at e2
      rw [e2]
      rfl
    · exact absurd h3 (by decide)
  · simp only [restA, hk, wrA, show ¬ (0 : Nat) = 2 by decide, show ¬ (0 : Nat) = 1 by decide, if_false] at h2 h3 ⊢
    obtain ⟨a1, a2, a3, a4, a5, a6, -⟩ := (nothL_iff _).1 h2
    simp only at a1 a2 a3 a4 a5 a6
    subst a1; subst a2; subst a3; subst a4; subst a5; subst a6
    rfl
/-- What octets are as a packet's data, and how it is written. -/
theorem ard_ok {c i : Nat} {d : List Nat} (hc : c < 256) (hi : i < 256) (hb : By d) {y : Pk} {k : Nat} (h : ardB c i d = (y, k)) :
    y.ok ∧ y.opts = [] ∧ y.nums = [] ∧ y.one.length ≤ d.length ∧ y.two.length ≤ d.length ∧ y.data.length ≤ d.length ∧ (k = 0 → y.proto = 49187 ∧ y.code = c ∧ y.id = i ∧ nothL (restA y) = true ∧ wrA y = (d, 0)) := by
  have ok0 : pk0.ok := ⟨by decide, by decide, by decide, (fun _ h => by cases h), by decide, by decide, By.nil, By.nil, By.nil, (fun _ h => by cases h)⟩
  have z0 : ∀ k' : Nat, k' ≠ 0 → pk0.ok ∧ pk0.opts = [] ∧ pk0.nums = [] ∧ pk0.one.length ≤ d.length ∧ pk0.two.length ≤ d.length ∧ pk0.data.length ≤ d.length ∧ (k' = 0 → pk0.proto = 49187 ∧ pk0.code = c ∧ pk0.id = i ∧ nothL (restA pk0) = true ∧ wrA pk0 = (d, 0)) := fun k' hk' =>
    ⟨ok0, rfl, rfl, Nat.zero_le _, Nat.zero_le _, Nat.zero_le _, fun e => absurd e hk'⟩
  have part : ∀ {l r : List Nat}, By (lenT l ++ r) → By l ∧ By r ∧ l.length ≤ 255 := fun {l r} hh =>
    ⟨fun x hx => hh x (List.mem_append_left _ (List.mem_cons_of_mem _ hx)), fun x hx => hh x (List.mem_append_right _ hx), by have := hh l.length (List.mem_append_left _ (List.mem_cons_self ..)); omega⟩
  unfold ardB at h
  rcases txtB_cases c with ⟨-, hk⟩ | ⟨-, hk⟩ | ⟨-, hk⟩
  · rw [if_pos hk] at h
    rcases cutT_get d with ⟨l, r, e1, e2⟩ | e1
    · rw [e1] at h
      dsimp only at h
      rw [if_pos rfl] at h
      subst e2
      obtain ⟨b1, b2, b3⟩ := part hb
      rcases cutT_get r with ⟨l2, r2, e3, e4⟩ | e3
      · rw [e3] at h
        dsimp only at h
        rw [if_pos rfl] at h
        subst e4
        obtain ⟨b4, b5, b6⟩ := part b2
        by_cases hr : r2 = []
        · rw [if_pos hr] at h
          obtain ⟨rfl, rfl⟩ := Prod.mk.inj h
          subst hr
          refine ⟨⟨show (49187 : Nat) < 65536 by decide, hc, hi, (fun _ h => by cases h), show (0 : Nat) < 65536 by decide, show (0 : Nat) < 4294967296 by decide, b1, b4, By.nil, (fun _ h => by cases h)⟩, rfl, rfl, ?_, ?_, Nat.zero_le _, fun _ => ⟨rfl, rfl, rfl, ?_, ?_⟩⟩
          · show l.length ≤ _
            rw [List.length_append, lenT_len]; omega
          · show l2.length ≤ _
            rw [List.length_append, List.length_append, lenT_len]; rw [lenT_len]; omega
          · simp only [restA, hk, if_true]; rfl
          · simp only [wrA, hk, if_true, b3, b6, and_self, List.append_nil]
        · rw [if_neg hr] at h
          obtain ⟨rfl, rfl⟩ := Prod.mk.inj h
          exact z0 _ (by decide)
      · rw [e3] at h
        dsimp only at h
        rw [if_neg (by decide)] at h
        obtain ⟨rfl, rfl⟩ := Prod.mk.inj h
        exact z0 _ (by decide)
    · rw [e1] at h
      dsimp only at h
      rw [if_neg (by decide)] at h
      obtain ⟨rfl, rfl⟩ := Prod.mk.inj h
      exact z0 _ (by decide)
  · rw [if_neg (by omega), if_pos hk] at h
    rcases cutT_get d with ⟨l, r, e1, e2⟩ | e1
    · rw [e1] at h
      dsimp only at h
      rw [if_pos rfl] at h
      subst e2
      obtain ⟨b1, b2, b3⟩ := part hb
      by_cases hr : r = []
      · rw [if_pos hr] at h
        obtain ⟨rfl, rfl⟩ := Prod.mk.inj h
        subst hr
        refine ⟨⟨show (49187 : Nat) < 65536 by decide, hc, hi, (fun _ h => by cases h), show (0 : Nat) < 65536 by decide, show (0 : Nat) < 4294967296 by decide, b1, By.nil, By.nil, (fun _ h => by cases h)⟩, rfl, rfl, ?_, Nat.zero_le _, Nat.zero_le _, fun _ => ⟨rfl, rfl, rfl, ?_, ?_⟩⟩
        · show l.length ≤ _
          rw [List.length_append, lenT_len]; omega
        · simp only [restA, hk, if_true, show ¬ (1 : Nat) = 2 by decide, if_false]; rfl
        · simp only [wrA, hk, if_true, show ¬ (1 : Nat) = 2 by decide, if_false, b3, List.append_nil]
      · rw [if_neg hr] at h
        obtain ⟨rfl, rfl⟩ := Prod.mk.inj h
        exact z0 _ (by decide)
    · rw [e1] at h
      dsimp only at h
      rw [if_neg (by decide)] at h
      obtain ⟨rfl, rfl⟩ := Prod.mk.inj h
      exact z0 _ (by decide)
  · rw [if_neg (by omega), if_neg (by omega)] at h
    obtain ⟨rfl, rfl⟩ := Prod.mk.inj h
    refine ⟨⟨show (49187 : Nat) < 65536 by decide, hc, hi, (fun _ h => by cases h), show (0 : Nat) < 65536 by decide, show (0 : Nat) < 4294967296 by decide, By.nil, By.nil, hb, (fun _ h => by cases h)⟩, rfl, rfl, Nat.zero_le _, Nat.zero_le _, Nat.le_refl _, fun _ => ⟨rfl, rfl, rfl, ?_, ?_⟩⟩
    · simp only [restA, hk, show ¬ (0 : Nat) = 2 by decide, show ¬ (0 : Nat) = 1 by decide, if_false]; rfl
    · simp only [wrA, hk, show ¬ (0 : Nat) = 2 by decide, show ¬ (0 : Nat) = 1 by decide, if_false]
/-- What is read is of Go's, and small. -/
theorem aget_ok {b : List Nat} (hb : By b) {y : Pk} {k : Nat} (h : agetB b = (y, k)) (hl : b.length ≤ 1073741824) : y.ok ∧ y.sm := by
  obtain ⟨x, c, d, e, hg⟩ : ∃ x c d e, kgetB b = (x, c, d, e) := ⟨_, _, _, _, rfl⟩
  by_cases he : e = 0
  · subst he
    rw [aget_of hg] at h
    obtain ⟨g1, g2, -, -, -⟩ := kput_get hb hg
    obtain ⟨g3, g4⟩ := kget_bytes hb hg
    obtain ⟨a1, a2, a3, a4, a5, a6, -⟩ := ard_ok g1 g2 g3 h
    exact ⟨a1, by rw [a2]; simp, by rw [a2]; decide, by omega, by omega, by omega, by rw [a3]; simp⟩
  · rw [aget_no hg he] at h
    obtain ⟨rfl, rfl⟩ := Prod.mk.inj h
    exact ⟨⟨by decide, by decide, by decide, (fun _ h => by cases h), by decide, by decide, By.nil, By.nil, By.nil, (fun _ h => by cases h)⟩, by decide, by decide, by decide, by decide, by decide, by decide⟩
/-- What is read is written so. -/
theorem aput_get {b : List Nat} (hb : By b) {y : Pk} (h : agetB b = (y, 0)) : ∃ m, aputB y = (m, 0) ∧ m.length ≤ b.length ∧ m = b.take m.length := by
  obtain ⟨x, c, d, e, hg⟩ : ∃ x c d e, kgetB b = (x, c, d, e) := ⟨_, _, _, _, rfl⟩
  by_cases he : e = 0
  · subst he
    rw [aget_of hg] at h
    obtain ⟨g1, g2, g5, g6, g7⟩ := kput_get hb hg
    obtain ⟨g3, g4⟩ := kget_bytes hb hg
    obtain ⟨-, -, -, -, -, -, a8⟩ := ard_ok g1 g2 g3 h
    obtain ⟨e1, e2, e3, e4, e5⟩ := a8 rfl
    have hlen : (kputB x c d).length = b.length - kpadB b := by rw [g7, List.length_take]; omega
    refine ⟨kputB x c d, ?_, by omega, by rw [hlen]; exact g7⟩
    unfold aputB
    rw [if_pos e1, if_pos e4, e5]
    simp only [if_true]
    rw [e2, e3, kputA_ok _ _ g5, kerrP_ok g5]
  · rw [aget_no hg he] at h
    exact absurd (Prod.mk.inj h).2 he
theorem aput_by {p : Pk} {m : List Nat} (hok : p.ok) (h : aputB p = (m, 0)) : By m := by
  obtain ⟨-, -, h3, h4, rfl⟩ := aput_ok h
  refine kput_by hok.code hok.id ?_ h4
  unfold wrA at h3 ⊢
  rcases txtB_cases p.code with ⟨-, hk⟩ | ⟨-, hk⟩ | ⟨-, hk⟩
  · rw [if_pos hk] at h3 ⊢
    split at h3
    · rename_i hq
      rw [if_pos hq]
      exact (lenT_by hok.one hq.1).app (lenT_by hok.two hq.2)
    · exact absurd h3 (by decide)
  · rw [if_neg (by omega), if_pos hk] at h3 ⊢
    split at h3
    · rename_i hq
      rw [if_pos hq]
      exact lenT_by hok.one hq
    · exact absurd h3 (by decide)
  · rw [if_neg (by omega), if_neg (by omega)]
    exact hok.data
theorem nothA_iff (p : Pk) : nothL (restA p) = true ↔ ((1 ≤ p.code ∧ p.code ≤ 3) → p.data.length = 0) ∧ (¬ p.code = 1 → p.two.length = 0) ∧ (¬ (1 ≤ p.code ∧ p.code ≤ 3) → p.one.length = 0) ∧ p.sub = 0 ∧ p.magic = 0 ∧ p.opts.length = 0 ∧ p.nums.length = 0 := by
  unfold restA nothL
  rcases txtB_cases p.code with ⟨h1, hk⟩ | ⟨h1, hk⟩ | ⟨h1, hk⟩
  · rw [if_pos hk]
    simp [h1]
    constructor <;> (intro h'; simp_all)
  · rw [if_neg (by omega), if_pos hk]
    have h2 : 1 ≤ p.code ∧ p.code ≤ 3 := by omega
    have h3 : ¬ p.code = 1 := by omega
    simp [h3, h2]
    constructor <;> (intro h'; simp_all)
  · rw [if_neg (by omega), if_neg (by omega)]
    have h3 : ¬ p.code = 1 := by omega
    simp only [h1, h3]
    simp
    constructor <;> (intro h'; simp_all)
end

section
set_option maxRecDepth 4000

/-- Has a code a value? -/
def isvB (c : Nat) : Bool := decide (c = 1 ∨ c = 2)
theorem isvB_yes {c : Nat} (h : isvB c = true) : c = 1 ∨ c = 2 := of_decide_eq_true h
theorem isvB_no {c : Nat} (h : isvB c = false) : ¬ (c = 1 ∨ c = 2) := of_decide_eq_false h
/-- A packet without what its code has. -/
def restH (p : Pk) : Pk := if isvB p.code = true then { p with one := [], two := [] } else { p with data := [] }
/-- Its control packet's data, and the error's number. -/
def wrH (p : Pk) : List Nat × Nat :=
  if isvB p.code = true then (if p.one = [] then ([], 4) else if p.one.length ≤ 255 then (lenT p.one ++ p.two, 0) else ([], 3)) else (p.data, 0)
/-- What Put answers. -/
def chputB (p : Pk) : List Nat × Nat :=
  if p.proto = 49699 then (if nothL (restH p) = true then (if (wrH p).2 = 0 then (kputA p.code p.id (wrH p).1, kerrP (wrH p).1) else ([], (wrH p).2)) else ([], 9)) else ([], 8)
/-- The value that octets begin with, what stands behind it, the error's number. -/
def cutH (d : List Nat) : List Nat × List Nat × Nat := if d[0]? = some 0 then ([], [], 4) else cutT d
/-- What a control packet's data is. -/
def chrdB (c i : Nat) (d : List Nat) : Pk × Nat :=
  if isvB c = true then
    (if (cutH d).2.2 = 0 then (⟨49699, c, i, [], 0, 0, (cutH d).1, (cutH d).2.1, [], []⟩, 0) else (pk0, (cutH d).2.2))
  else (⟨49699, c, i, [], 0, 0, [], [], d, []⟩, 0)
/-- What Get answers. -/
def chgetB (b : List Nat) : Pk × Nat := if (kgetB b).2.2.2 = 0 then chrdB (kgetB b).1 (kgetB b).2.1 (kgetB b).2.2.1 else (pk0, (kgetB b).2.2.2)
/-- Does a packet answer another one? -/
def chansB (p o : Pk) : Bool := decide (p.proto = 49699 ∧ o.proto = 49699 ∧ p.id = o.id ∧ ((p.code = 2 ∧ o.code = 1) ∨ ((p.code = 3 ∨ p.code = 4) ∧ o.code = 2)))

theorem chget_of {b d : List Nat} {x y : Nat} (h : kgetB b = (x, y, d, 0)) : chgetB b = chrdB x y d := by unfold chgetB; rw [h]; rfl
theorem chget_no {b d : List Nat} {x y e : Nat} (h : kgetB b = (x, y, d, e)) (he : e ≠ 0) : chgetB b = (pk0, e) := by unfold chgetB; rw [h]; exact if_neg he

theorem cutH_zero {d : List Nat} (h : d[0]? = some 0) : cutH d = ([], [], 4) := if_pos h
theorem cutH_some {d : List Nat} (h : ¬ d[0]? = some 0) : cutH d = cutT d := if_neg h
theorem cutH_lenT {l : List Nat} (h : l ≠ []) (t : List Nat) : cutH (lenT l ++ t) = (l, t, 0) := by
  rw [cutH_some, cutT_lenT]
  show ¬ some l.length = some 0
  intro e
  injection e with e
  exact h (List.eq_nil_of_length_eq_zero e)
theorem cutH_get (d : List Nat) : (∃ l r, cutH d = (l, r, 0) ∧ cutT d = (l, r, 0) ∧ d = lenT l ++ r ∧ l ≠ []) ∨ (cutH d = ([], [], 2) ∧ cutT d = ([], [], 2) ∧ ¬ d[0]? = some 0) ∨ (cutH d = ([], [], 4) ∧ d[0]? = some 0) := by
  by_cases h : d[0]? = some 0
  · exact .inr (.inr ⟨cutH_zero h, h⟩)
  · rw [cutH_some h]
    rcases cutT_get d with ⟨l, r, e1, e2⟩ | e1
    · refine .inl ⟨l, r, e1, e1, e2, fun e => h ?_⟩
      rw [e2, e]
      rfl
    · exact .inr (.inl ⟨e1, e1, h⟩)

theorem chrd_err {c i : Nat} {d : List Nat} {p : Pk} {k : Nat} (h : chrdB c i d = (p, k)) (hk : k ≠ 0) : p = pk0 := by
  unfold chrdB at h
  split at h
  · split at h
    · exact absurd (Prod.mk.inj h).2.symm hk
    · exact (Prod.mk.inj h).1.symm
  · exact absurd (Prod.mk.inj h).2.symm hk
theorem chget_err {b : List Nat} {p : Pk} {k : Nat} (h : chgetB b = (p, k)) (hk : k ≠ 0) : p = pk0 := by
  unfold chgetB at h
  split at h
  · exact chrd_err h hk
  · exact (Prod.mk.inj h).1.symm
theorem chput_kind {p : Pk} (h1 : ¬ p.proto = 49699) : chputB p = ([], 8) := by
  unfold chputB
  rw [if_neg h1]
theorem chput_err {p : Pk} {m : List Nat} {k : Nat} (h : chputB p = (m, k)) (hk : k ≠ 0) : m = [] := by
  unfold chputB at h
  split at h
  · split at h
    · split at h
      · obtain ⟨h1, h2⟩ := Prod.mk.inj h
        unfold kerrP at h2
        unfold kputA at h1
        split at h2
        · exact absurd h2.symm hk
        · rename_i h3
          rw [if_neg h3] at h1
          exact h1.symm
      · exact (Prod.mk.inj h).1.symm
    · exact (Prod.mk.inj h).1.symm
  · exact (Prod.mk.inj h).1.symm
theorem wrH_len (p : Pk) : (wrH p).1.length ≤ p.one.length + p.two.length + p.data.length + 2 := by
  unfold wrH
  split
  · split
    · show 0 ≤ _; omega
    · split
      · show (lenT p.one ++ p.two).length ≤ _
        rw [List.length_append, lenT_len]; omega
      · show 0 ≤ _; omega
  · show p.data.length ≤ _
    omega
theorem chput_len {p : Pk} {m : List Nat} {k : Nat} (h : chputB p = (m, k)) (hf : fewP p = true) : m.length ≤ 2000 := by
  obtain ⟨⟨f1, f2⟩, f3, f4, f5, f6⟩ := fewP_of hf
  have key := wrH_len p
  unfold chputB at h
  split at h
  · split at h
    · split at h
      · obtain ⟨h1, -⟩ := Prod.mk.inj h
        unfold kputA at h1
        split at h1
        · rw [← h1, kput_len]; omega
        · rw [← h1]; simp
      · rw [← (Prod.mk.inj h).1]; simp
    · rw [← (Prod.mk.inj h).1]; simp
  · rw [← (Prod.mk.inj h).1]; simp
/-- What is said of a packet that can be written. -/
theorem chput_ok {p : Pk} {m : List Nat} (h : chputB p = (m, 0)) : p.proto = 49699 ∧ nothL (restH p) = true ∧ (wrH p).2 = 0 ∧ (wrH p).1.length ≤ 65531 ∧ m = kputB p.code p.id (wrH p).1 := by
  unfold chputB at h
  split at h
  · rename_i h1
    split at h
    · rename_i h2
      split at h
      · rename_i h3
        obtain ⟨h4, h5⟩ := Prod.mk.inj h
        unfold kerrP at h5
        split at h5
        · rename_i h6
          rw [kputA_ok _ _ h6] at h4
          exact ⟨h1, h2, h3, h6, h4.symm⟩
        · exact absurd h5 (by decide)
      · rename_i h3
        exact absurd (Prod.mk.inj h).2 h3
    · exact absurd (Prod.mk.inj h).2 (by decide)
  · exact absurd (Prod.mk.inj h).2 (by decide)
/-- A packet is read as it was written, whatever stands behind it. -/
theorem chget_put {p : Pk} {m : List Nat} (h : chputB p = (m, 0)) (t : List Nat) : chgetB (m ++ t) = (p, 0) := by
  obtain ⟨h1, h2, h3, h4, rfl⟩ := chput_ok h
  rw [chget_of (kget_put _ _ _ t)]
  obtain ⟨pr, co, i, os, su, ma, on, tw, da, nu⟩ := p
  simp only at h1
  subst h1
  unfold chrdB
  cases hk : isvB co
  · simp only [restH, hk, wrH, Bool.false_eq_true, if_false] at h2 h3 ⊢
    obtain ⟨a1, a2, a3, a4, a5, a6, -⟩ := (nothL_iff _).1 h2
    simp only at a1 a2 a3 a4 a5 a6
    subst a1; subst a2; subst a3; subst a4; subst a5; subst a6
    rfl
  · simp only [restH, hk, wrH, if_true] at h2 h3 ⊢
    obtain ⟨a1, a2, a3, a4, -, -, a7⟩ := (nothL_iff _).1 h2
    simp only at a1 a2 a3 a4 a7
    subst a1; subst a2; subst a3; subst a4; subst a7
    split at h3
    · exact absurd h3 (by decide)
    · rename_i hn
      split at h3
      · rename_i hq
        rw [if_neg hn, if_pos hq]
        dsimp only
        rw [cutH_lenT hn tw]
        rfl
      · exact absurd h3 (by decide)
/-- What octets are as a packet's data, and how it is written. -/
theorem chrd_ok {c i : Nat} {d : List Nat} (hc : c < 256) (hi : i < 256) (hb : By d) {y : Pk} {k : Nat} (h : chrdB c i d = (y, k)) :
    y.ok ∧ y.opts = [] ∧ y.nums = [] ∧ y.one.length ≤ d.length ∧ y.two.length ≤ d.length ∧ y.data.length ≤ d.length ∧ (k = 0 → y.proto = 49699 ∧ y.code = c ∧ y.id = i ∧ nothL (restH y) = true ∧ wrH y = (d, 0)) := by
  have ok0 : pk0.ok := ⟨by decide, by decide, by decide, (fun _ h => by cases h), by decide, by decide, By.nil, By.nil, By.nil, (fun _ h => by cases h)⟩
  have z0 : ∀ k' : Nat, k' ≠ 0 → pk0.ok ∧ pk0.opts = [] ∧ pk0.nums = [] ∧ pk0.one.length ≤ d.length ∧ pk0.two.length ≤ d.length ∧ pk0.data.length ≤ d.length ∧ (k' = 0 → pk0.proto = 49699 ∧ pk0.code = c ∧ pk0.id = i ∧ nothL (restH pk0) = true ∧ wrH pk0 = (d, 0)) := fun k' hk' =>
    ⟨ok0, rfl, rfl, Nat.zero_le _, Nat.zero_le _, Nat.zero_le _, fun e => absurd e hk'⟩
  have part : ∀ {l r : List Nat}, By (lenT l ++ r) → By l ∧ By r ∧ l.length ≤ 255 := fun {l r} hh =>
    ⟨fun x hx => hh x (List.mem_append_left _ (List.mem_cons_of_mem _ hx)), fun x hx => hh x (List.mem_append_right _ hx), by have := hh l.length (List.mem_append_left _ (List.mem_cons_self ..)); omega⟩
  unfold chrdB at h
  cases hk : isvB c
  · rw [hk, if_neg (by decide)] at h
    obtain ⟨rfl, rfl⟩ := Prod.mk.inj h
    refine ⟨⟨show (49699 : Nat) < 65536 by decide, hc, hi, (fun _ h => by cases h), show (0 : Nat) < 65536 by decide, show (0 : Nat) < 4294967296 by decide, By.nil, By.nil, hb, (fun _ h => by cases h)⟩, rfl, rfl, Nat.zero_le _, Nat.zero_le _, Nat.le_refl _, fun _ => ⟨rfl, rfl, rfl, ?_, ?_⟩⟩
    · simp only [restH, hk, Bool.false_eq_true, if_false]; rfl
    · simp only [wrH, hk, Bool.false_eq_true, if_false]
  · rw [if_pos hk] at h
    rcases cutH_get d with ⟨l, r, e1, -, e2, e3⟩ | ⟨e1, -, -⟩ | ⟨e1, -⟩
    · rw [e1] at h
      dsimp only at h
      rw [if_pos rfl] at h
      subst e2
      obtain ⟨b1, b2, b3⟩ := part hb
      obtain ⟨rfl, rfl⟩ := Prod.mk.inj h
      refine ⟨⟨show (49699 : Nat) < 65536 by decide, hc, hi, (fun _ h => by cases h), show (0 : Nat) < 65536 by decide, show (0 : Nat) < 4294967296 by decide, b1, b2, By.nil, (fun _ h => by cases h)⟩, rfl, rfl, ?_, ?_, Nat.zero_le _, fun _ => ⟨rfl, rfl, rfl, ?_, ?_⟩⟩
      · show l.length ≤ _
        rw [List.length_append, lenT_len]; omega
      · show r.length ≤ _
        rw [List.length_append]; omega
      · simp only [restH, hk, if_true]; rfl
      · simp only [wrH, hk, if_true, if_neg e3, b3]
    · rw [e1] at h
      dsimp only at h
      rw [if_neg (by decide)] at h
      obtain ⟨rfl, rfl⟩ := Prod.mk.inj h
      exact z0 _ (by decide)
    · rw [e1] at h
      dsimp only at h
      rw [if_neg (by decide)] at h
      obtain ⟨rfl, rfl⟩ := Prod.mk.inj h
      exact z0 _ (by decide)
/-- What is read is of Go's, and small. -/
theorem chget_ok {b : List Nat} (hb : By b) {y : Pk} {k : Nat} (h : chgetB b = (y, k)) (hl : b.length ≤ 1073741824) : y.ok ∧ y.sm := by
  obtain ⟨x, c, d, e, hg⟩ : ∃ x c d e, kgetB b = (x, c, d, e) := ⟨_, _, _, _, rfl⟩
  by_cases he : e = 0
  · subst he
    rw [chget_of hg] at h
    obtain ⟨g1, g2, -, -, -⟩ := kput_get hb hg
    obtain ⟨g3, g4⟩ := kget_bytes hb hg
    obtain ⟨a1, a2, a3, a4, a5, a6, -⟩ := chrd_ok g1 g2 g3 h
    exact ⟨a1, by rw [a2]; simp, by rw [a2]; decide, by omega, by omega, by omega, by rw [a3]; simp⟩
  · rw [chget_no hg he] at h
    obtain ⟨rfl, rfl⟩ := Prod.mk.inj h
    exact ⟨⟨by decide, by decide, by decide, (fun _ h => by cases h), by decide, by decide, By.nil, By.nil, By.nil, (fun _ h => by cases h)⟩, by decide, by decide, by decide, by decide, by decide, by decide⟩
/-- What is read is written so. -/
theorem chput_get {b : List Nat} (hb : By b) {y : Pk} (h : chgetB b = (y, 0)) : ∃ m, chputB y = (m, 0) ∧ m.length ≤ b.length ∧ m = b.take m.length := by
  obtain ⟨x, c, d, e, hg⟩ : ∃ x c d e, kgetB b = (x, c, d, e) := ⟨_, _, _, _, rfl⟩
  by_cases he : e = 0
  · subst he
    rw [chget_of hg] at h
    obtain ⟨g1, g2, g5, g6, g7⟩ := kput_get hb hg
    obtain ⟨g3, g4⟩ := kget_bytes hb hg
    obtain ⟨-, -, -, -, -, -, a8⟩ := chrd_ok g1 g2 g3 h
    obtain ⟨e1, e2, e3, e4, e5⟩ := a8 rfl
    have hlen : (kputB x c d).length = b.length - kpadB b := by rw [g7, List.length_take]; omega
    refine ⟨kputB x c d, ?_, by omega, by rw [hlen]; exact g7⟩
    unfold chputB
    rw [if_pos e1, if_pos e4, e5]
    simp only [if_true]
    rw [e2, e3, kputA_ok _ _ g5, kerrP_ok g5]
  · rw [chget_no hg he] at h
    exact absurd (Prod.mk.inj h).2 he
theorem chput_by {p : Pk} {m : List Nat} (hok : p.ok) (h : chputB p = (m, 0)) : By m := by
  obtain ⟨-, -, h3, h4, rfl⟩ := chput_ok h
  refine kput_by hok.code hok.id ?_ h4
  unfold wrH at h3 ⊢
  split at h3
  · rename_i hk
    rw [if_pos hk]
    split at h3
    · exact absurd h3 (by decide)
    · rename_i hn
      split at h3
      · rename_i hq
        rw [if_neg hn, if_pos hq]
        exact (lenT_by hok.one hq).app hok.two
      · exact absurd h3 (by decide)
  · rename_i hk
    rw [if_neg hk]
    exact hok.data
theorem nothH_iff (p : Pk) : nothL (restH p) = true ↔ (isvB p.code = true → p.data.length = 0) ∧ (¬ isvB p.code = true → p.one.length = 0 ∧ p.two.length = 0) ∧ p.sub = 0 ∧ p.magic = 0 ∧ p.opts.length = 0 ∧ p.nums.length = 0 := by
  unfold restH nothL
  cases hk : isvB p.code
  · rw [if_neg (by decide)]
    simp
    constructor <;> (intro h'; simp_all)
  · rw [if_pos rfl]
    simp
    constructor <;> (intro h'; simp_all)
/-- No packet answers itself, or what answers it; one that answers another one has its identifier. -/
theorem chans_self (p : Pk) : chansB p p = false := by
  unfold chansB
  rw [decide_eq_false_iff_not]
  omega
theorem chans_turn {p o : Pk} (h : chansB p o = true) : chansB o p = false ∧ p.id = o.id := by
  unfold chansB at h ⊢
  rw [decide_eq_true_eq] at h
  rw [decide_eq_false_iff_not]
  omega
end

section
set_option maxRecDepth 4000
open Go.RowKit

/-- Of each number four octets. -/
def octN (l : List Nat) : List Nat := (l.map fun n => numB n 4).flatten
/-- Each has 32 bits. -/
def N32 (l : List Nat) : Prop := ∀ x ∈ l, x < 4294967296
/-- The first k numbers that octets are. -/
def rdN (b : List Nat) (k : Nat) : List Nat := (List.range k).map fun i => valN ((b.drop (4 * i)).take 4)
/-- What a reader has of the number j behind k octets. -/
def acN (b : List Nat) (k j : Nat) : Nat := valN ((b.drop (4 * j)).take (min 4 (k - 4 * j)))
def acL (b : List Nat) (k : Nat) : List Nat := (List.range 12).map (acN b k)
/-- Has a packet nothing but a protocol and numbers? -/
def bareP (p : Pk) : Bool := decide (p.code = 0) && decide (p.id = 0) && decide (p.sub = 0) && decide (p.magic = 0) && decide (p.opts.length = 0) && decide (p.one.length = 0) && decide (p.two.length = 0) && decide (p.data.length = 0)
/-- What Put answers: octets, the error's number. -/
def lqputB (p : Pk) : List Nat × Nat := if p.proto = 49189 then if bareP p = true then if p.nums.length = 12 then (octN p.nums, 0) else ([], 5) else ([], 9) else ([], 8)
/-- A report. -/
def repP (l : List Nat) : Pk := ⟨49189, 0, 0, [], 0, 0, [], [], [], l⟩
/-- What Get answers: a packet, the error's number. -/
def lqgetB (b : List Nat) : Pk × Nat := if b.length < 48 then (pk0, 2) else (repP (rdN b 12), 0)
/-- How much was lost between two reports. -/
def lossB (a b : List Nat) : Nat := (b.getD 2 0 + (4294967296 - a.getD 2 0) + (4294967296 - b.getD 5 0) + a.getD 5 0) % 4294967296
def lostB (a b : List Nat) : Nat × Bool := if a.length = 12 then if b.length = 12 then (lossB a b, true) else (0, false) else (0, false)

theorem octN_len (l : List Nat) : (octN l).length = 4 * l.length := by
  induction l with
  | nil => rfl
  | cons x l ih =>
    unfold octN at ih ⊢
    rw [List.map_cons, List.flatten_cons, List.length_append, num_len, ih, List.length_cons]
    omega
theorem octN_by (l : List Nat) : By (octN l) := by
  intro x hx
  unfold octN at hx
  obtain ⟨m, hm, hxm⟩ := List.mem_flatten.1 hx
  obtain ⟨n, _, rfl⟩ := List.mem_map.1 hm
  exact num_by n 4 x hxm
theorem octN_snoc (l : List Nat) (x : Nat) : octN (l ++ [x]) = octN l ++ numB x 4 := by
  unfold octN
  rw [List.map_append, List.flatten_append]
  simp
theorem octN_cons (l : List Nat) (x : Nat) : octN (x :: l) = numB x 4 ++ octN l := by
  unfold octN
  rw [List.map_cons, List.flatten_cons]
theorem octN_take {l : List Nat} {k x : Nat} (hx : l[k]? = some x) : octN (l.take (k + 1)) = octN (l.take k) ++ numB x 4 := by
  rw [List.take_add_one, hx, Option.toList_some, octN_snoc]
theorem num4 (n : Nat) : numB n 4 = [n / 16777216 % 256, n / 65536 % 256, n / 256 % 256, n % 256] := by
  simp [numB]
theorem octN_at (m : List Nat) : ∀ (l : List Nat) (i x : Nat), l[i]? = some x → ((octN l ++ m).drop (4 * i)).take 4 = numB x 4
  | [], i, x, h => by simp at h
  | y :: l, 0, x, h => by
    injection h with h
    subst h
    rw [octN_cons, List.append_assoc, Nat.mul_zero, List.drop_zero, List.take_append_of_le_length (by rw [num_len]; exact Nat.le_refl _), List.take_of_length_le (by rw [num_len]; exact Nat.le_refl _)]
  | y :: l, i + 1, x, h => by
    have h' : l[i]? = some x := by simpa using h
    rw [octN_cons, List.append_assoc, List.drop_append, List.drop_of_length_le (by rw [num_len]; omega), List.nil_append, num_len, show 4 * (i + 1) - 4 = 4 * i by omega]
    exact octN_at m l i x h'
theorem rdN_len (b : List Nat) (k : Nat) : (rdN b k).length = k := by simp [rdN]
theorem rdN_succ (b : List Nat) (k : Nat) : rdN b (k + 1) = rdN b k ++ [valN ((b.drop (4 * k)).take 4)] := by simp [rdN, List.range_succ]
theorem val4_lt {l : List Nat} (h : By l) (k : Nat) (hk : k ≤ 4) : valN (l.take k) < 4294967296 := by
  have h1 := valN_lt (h.take k)
  have h2 : (256 : Nat) ^ (l.take k).length ≤ 256 ^ 4 := Nat.pow_le_pow_right (by omega) (by rw [List.length_take]; omega)
  have h3 : (256 : Nat) ^ 4 = 4294967296 := by decide
  omega
theorem val3_lt {l : List Nat} (h : By l) (k : Nat) (hk : k ≤ 3) : valN (l.take k) < 16777216 := by
  have h1 := valN_lt (h.take k)
  have h2 : (256 : Nat) ^ (l.take k).length ≤ 256 ^ 3 := Nat.pow_le_pow_right (by omega) (by rw [List.length_take]; omega)
  have h3 : (256 : Nat) ^ 3 = 16777216 := by decide
  omega
theorem rdN_lt {b : List Nat} (h : By b) (k : Nat) : N32 (rdN b k) := by
  intro x hx
  obtain ⟨i, _, rfl⟩ := List.mem_map.1 hx
  exact val4_lt (h.drop _) 4 (Nat.le_refl _)
theorem rdN_oct {l m : List Nat} (h : N32 l) : ∀ k, k ≤ l.length → rdN (octN l ++ m) k = l.take k
  | 0, _ => rfl
  | k + 1, hk => by
    have hx : l[k]? = some l[k] := List.getElem?_eq_getElem (by omega)
    rw [rdN_succ, rdN_oct h k (by omega), octN_at m l k _ hx, num_val, List.take_add_one, hx, Option.toList_some]
    have := h _ (List.mem_of_getElem? hx)
    rw [Nat.mod_eq_of_lt (by rw [show (256 : Nat) ^ 4 = 4294967296 by decide]; exact this)]
theorem num_back4 {l : List Nat} (h : By l) (hl : l.length = 4) : numB (valN l) 4 = l := by
  match l, hl with
  | [a, b, c, d], _ =>
    have ha := h a (by simp)
    have hb := h b (by simp)
    have hc := h c (by simp)
    have hd := h d (by simp)
    rw [num4]
    simp only [valN, List.foldl_cons, List.foldl_nil]
    refine congr (congrArg List.cons ?_) (congr (congrArg List.cons ?_) (congr (congrArg List.cons ?_) (congrArg (fun x => [x]) ?_))) <;> omega
theorem oct_rdN {b : List Nat} (h : By b) : ∀ k, 4 * k ≤ b.length → octN (rdN b k) = b.take (4 * k)
  | 0, _ => rfl
  | k + 1, hk => by
    rw [rdN_succ, octN_snoc, oct_rdN h k (by omega), num_back4 ((h.drop _).take _) (by rw [List.length_take, List.length_drop]; omega), show 4 * (k + 1) = 4 * k + 4 by omega, List.take_add]

theorem acL_len (b : List Nat) (k : Nat) : (acL b k).length = 12 := by simp [acL]
theorem acL_zero (b : List Nat) : acL b 0 = List.replicate 12 0 := by
  unfold acL acN
  simp [valN]
  rfl
theorem acL_at (b : List Nat) (k j : Nat) (hj : j < 12) : (acL b k)[j]? = some (acN b k j) := by
  unfold acL
  rw [List.getElem?_map, List.getElem?_range hj]
  rfl
theorem acL_end (b : List Nat) : acL b 48 = rdN b 12 := by
  unfold acL rdN
  refine List.map_congr_left fun j hj => ?_
  have : j < 12 := List.mem_range.1 hj
  unfold acN
  rw [show min 4 (48 - 4 * j) = 4 by omega]
theorem acN_step {b : List Nat} {k x : Nat} (hx : b[k]? = some x) : acN b (k + 1) (k / 4) = acN b k (k / 4) * 256 + x := by
  unfold acN
  have e1 : min 4 (k - 4 * (k / 4)) = k - 4 * (k / 4) := by omega
  have e2 : min 4 (k + 1 - 4 * (k / 4)) = k - 4 * (k / 4) + 1 := by omega
  rw [e1, e2]
  refine valN_snoc ?_
  rw [List.getElem?_drop, show 4 * (k / 4) + (k - 4 * (k / 4)) = k by omega]
  exact hx
theorem acN_lt {b : List Nat} (h : By b) (k : Nat) : acN b k (k / 4) < 16777216 := by
  unfold acN
  exact val3_lt (h.drop _) _ (by omega)
theorem acL_step {b : List Nat} {k x : Nat} (hx : b[k]? = some x) (hk : k < 48) : (acL b k).set (k / 4) (acN b k (k / 4) * 256 + x) = acL b (k + 1) := by
  refine List.ext_getElem? fun j => ?_
  rw [List.getElem?_set, acL_len]
  by_cases hj : k / 4 = j
  · subst hj
    rw [if_pos rfl, if_pos (by omega), acL_at _ _ _ (by omega), acN_step hx]
  · rw [if_neg hj]
    by_cases h12 : j < 12
    · rw [acL_at _ _ _ h12, acL_at _ _ _ h12]
      congr 1
      unfold acN
      rw [show min 4 (k - 4 * j) = min 4 (k + 1 - 4 * j) by omega]
    · rw [List.getElem?_eq_none (by rw [acL_len]; omega), List.getElem?_eq_none (by rw [acL_len]; omega)]

theorem lqput_ok {p : Pk} (h : (lqputB p).2 = 0) : p = repP p.nums ∧ p.nums.length = 12 ∧ (lqputB p).1 = octN p.nums := by
  unfold lqputB at h ⊢
  split at h
  · rename_i h1
    split at h
    · rename_i h2
      split at h
      · rename_i h3
        rw [if_pos h1, if_pos h2, if_pos h3]
        refine ⟨?_, h3, rfl⟩
        obtain ⟨a, b, c, d, e, f, g, i, j, k⟩ := p
        simp only [bareP, Bool.and_eq_true, decide_eq_true_eq, List.length_eq_zero_iff] at h2
        obtain ⟨⟨⟨⟨⟨⟨⟨rfl, rfl⟩, rfl⟩, rfl⟩, rfl⟩, rfl⟩, rfl⟩, rfl⟩ := h2
        have h1' : a = 49189 := h1
        subst h1'
        rfl
      · simp at h
    · simp at h
  · simp at h
theorem lqput_rep {l : List Nat} (h : l.length = 12) : lqputB (repP l) = (octN l, 0) := by
  unfold lqputB
  rw [if_pos (show (repP l).proto = 49189 from rfl), if_pos (show bareP (repP l) = true from rfl), if_pos (show (repP l).nums.length = 12 from h)]
  rfl
theorem lqget_oct {l m : List Nat} (h : l.length = 12) (hl : N32 l) : lqgetB (octN l ++ m) = (repP l, 0) := by
  unfold lqgetB
  rw [if_neg (by rw [List.length_append, octN_len]; omega), ← h, rdN_oct hl _ (Nat.le_refl _), List.take_length]
theorem lqget_put {b : List Nat} (h : By b) (hb : 48 ≤ b.length) : lqgetB b = (repP (rdN b 12), 0) ∧ lqputB (repP (rdN b 12)) = (b.take 48, 0) := by
  refine ⟨by unfold lqgetB; rw [if_neg (by omega)], ?_⟩
  rw [lqput_rep (rdN_len b 12), oct_rdN h 12 (by omega)]
theorem loss_lt (a b : List Nat) : lossB a b < 4294967296 := Nat.mod_lt _ (by omega)
end

section
set_option maxRecDepth 4000
open Go.RowKit

/-- May a number be? -/
def rightB (p : Nat) : Bool := decide (p % 2 = 1) && (decide (p / 256 % 2 = 0) && decide (p ≠ 255))
/-- How it is written. -/
def pnputB (p : Nat) (s : Bool) : List Nat := if s = true ∧ p < 256 then [p] else [p / 256, p % 256]
/-- What octets begin with: the number, in how many octets, the error. -/
def pngetB (l : List Nat) (s : Bool) : Nat × Nat × Nat :=
  match l with
  | [] => (0, 0, 2)
  | x :: t => if x % 2 = 1 then (if s = true ∧ x ≠ 255 then (x, 1, 0) else (0, 0, 7)) else
    match t with
    | [] => (0, 0, 2)
    | y :: _ => if rightB (256 * x + y) = true then (256 * x + y, 2, 0) else (0, 0, 7)

theorem getB_lt {l : List Nat} (h : By l) (s : Bool) : (pngetB l s).1 < 65536 := by
  match l, h with
  | [], _ => simp [pngetB]
  | [x], h =>
    have := h x (by simp)
    simp only [pngetB]
    repeat' split
    all_goals first | exact Nat.zero_lt_succ _ | (show x < 65536; omega)
  | x :: y :: t, h =>
    have h1 := h x (by simp)
    have h2 := h y (by simp)
    simp only [pngetB]
    repeat' split
    all_goals first | exact Nat.zero_lt_succ _ | (show x < 65536; omega) | (show 256 * x + y < 65536; omega)
theorem getB_odd {x : Nat} (t : List Nat) (s : Bool) (h : x % 2 = 1) : pngetB (x :: t) s = if s = true ∧ x ≠ 255 then (x, 1, 0) else (0, 0, 7) := by cases t <;> simp [pngetB, h]

/-- A literal in a new block is a new list. -/
theorem New.lit (w : World) (l : List Nat) (n : Nat) (hn : l.length = n) (hl : n ≤ 1099511627776) : New w (w.alloc (.cells (bvs l).toArray 5)) (some ⟨w.heap.size, 0, none⟩) n n l := by
  refine ⟨hn, ⟨by rw [bvs_len]; omega, .inr ⟨w.heap.size, n, _, rfl, Nat.le_refl _, heap_alloc_new w _, Nat.le_refl _, by unfold maxLen; omega, by simp [bvs_len, hn], ?_⟩⟩, Rd.lit_ w l, (Below.refl _ _).alloc (Nat.le_refl _) _⟩
  rw [show n * 1 = (bvs l).length by rw [bvs_len]; omega]
  exact List.take_length

set_option maxHeartbeats 400000 in
theorem odd_any (x : Nat) (hx : x < 256) (w : World) :
    Calls Try.prog 45 #[.int .u8 (x : Int)] w fun e w' => e = .returned (.bool (decide (x % 2 = 1))) ∧ w = w' := by
  go_enter Try.func45, Try.ntmps45
  go_wp2
  go_ret
  refine ⟨?_, rfl⟩
  have e : (bits .and .u8 (x : Int) 1 != 0) = decide (x % 2 = 1) := by
    have h := u8_and_nat x 1 hx (by omega)
    rw [nat_mask1] at h
    rw [show (1 : Int) = ((1 : Nat) : Int) from rfl, h, Bool.eq_iff_iff]
    simp
    omega
  show Ending.returned (.bool (bits .and .u8 (x : Int) 1 != 0)) = _
  rw [e]
theorem odd_v (x : Nat) (b : Bool) (hx : x < 256) (hb : decide (x % 2 = 1) = b) (y : Int) (hy : y = (x : Int)) (w : World) :
    Calls Try.prog 45 #[.int .u8 y] w fun e w' => e = .returned (.bool b) ∧ w = w' := hy ▸ hb ▸ odd_any x hx w

theorem byte_high (p : Nat) : ((p : Int) / 256) = ((p / 256 : Nat) : Int) := by simp
theorem byte_low (p : Nat) : ((p : Int) % 256) = ((p % 256 : Nat) : Int) := by simp

set_option maxHeartbeats 400000 in
theorem right_any (p : Nat) (hp : p < 65536) (w : World) :
    Calls Try.prog 43 #[.int .u16 (p : Int)] w fun e w' => e = .returned (.bool (rightB p)) ∧ w = w' := by
  obtain ⟨q1, h1⟩ : ∃ q, Hid (decide (p % 256 % 2 = 1) = q) := ⟨_, Lib.hid rfl⟩
  obtain ⟨q2, h2⟩ : ∃ q, Hid (decide (p / 256 % 2 = 1) = q) := ⟨_, Lib.hid rfl⟩
  obtain ⟨q3, h3⟩ : ∃ q, Hid (decide (p = 255) = q) := ⟨_, Lib.hid rfl⟩
  have e3 : ((p : Int) != 255) = !q3 := by rw [← h3.out, Bool.eq_iff_iff]; simp; omega
  have E : Hid (rightB p = (q1 && (!q2 && !q3))) := Lib.hid (by
    rw [← h1.out, ← h2.out, ← h3.out, rightB]
    have : p % 256 % 2 = p % 2 := by omega
    rw [this, Bool.eq_iff_iff]
    simp)
  rw [E.out]
  go_enter Try.func43, Try.ntmps43
  go_wp2_with (go_at_call 45; first | (with_reducible refine (odd_v (p % 256) q1 (by omega) h1.out _ (byte_low p) _).mono ?_; rintro e w' ⟨rfl, rfl⟩) | (with_reducible refine (odd_v (p / 256) q2 (by omega) h2.out _ (byte_high p) _).mono ?_; rintro e w' ⟨rfl, rfl⟩))
  all_goals
    go_ret
    refine ⟨?_, rfl⟩
    show Ending.returned (.bool _) = _
    congr 2
    simp_all

theorem right_v (p : Nat) (q : Bool) (hp : p < 65536) (hq : rightB p = q) (w : World) :
    Calls Try.prog 43 #[.int .u16 (p : Int)] w fun e w' => e = .returned (.bool q) ∧ w = w' := hq ▸ right_any p hp w

theorem put_long (p : Nat) (s : Bool) (h : ¬ (s = true ∧ p < 256)) (w : World) : New w (w.alloc (.cells #[.int .u8 ((p : Int) / 256), .int .u8 ((p : Int) % 256)] 5)) (some ⟨w.heap.size, 0, none⟩) 2 2 (pnputB p s) := by
  rw [pnputB, if_neg h]
  have := New.lit w [p / 256, p % 256] 2 rfl (by omega)
  simpa [bvs, bv] using this
theorem put_one (p : Nat) (h : p < 256) (w : World) : New w (w.alloc (.cells #[.int .u8 (p : Int)] 5)) (some ⟨w.heap.size, 0, none⟩) 1 1 (pnputB p true) := by
  rw [pnputB, if_pos ⟨rfl, h⟩]
  have := New.lit w [p] 1 rfl (by omega)
  simpa [bvs, bv] using this

/-- The answer, as a value. -/
def getV (g : Nat × Nat × Nat) : Value := .tuple #[.int .u16 (g.1 : Int), .int .i64 (g.2.1 : Int), .int .i64 (g.2.2 : Int)]
def rgetV (g : Nat × Nat × Nat) : Value := .tuple #[.int .i64 (g.1 : Int), .int .i64 (g.2.1 : Int), .int .i64 (g.2.2 : Int)]

theorem Rd.head {w : World} {B : Nat} {A : Option Addr} {x : Nat} {t : List Nat} (h : Rd w B A (x :: t)) : ∃ b off, A = some ⟨b, off, none⟩ ∧ w.cell? ⟨b, off, none⟩ = some (.int .u8 (x : Int)) := by
  obtain ⟨b, off, e, _, hc⟩ := h (by simp)
  exact ⟨b, off, e, hc 0 x rfl⟩
theorem Rd.two {w : World} {B : Nat} {A : Option Addr} {x y : Nat} {t : List Nat} (h : Rd w B A (x :: y :: t)) : ∃ b off, A = some ⟨b, off, none⟩ ∧ w.cell? ⟨b, off, none⟩ = some (.int .u8 (x : Int)) ∧ w.cell? ⟨b, off + 1, none⟩ = some (.int .u8 (y : Int)) := by
  obtain ⟨b, off, e, _, hc⟩ := h (by simp)
  exact ⟨b, off, e, hc 0 x rfl, hc 1 y rfl⟩

theorem right_odd (x : Nat) (hx : x < 256) (h : x % 2 = 1) : rightB x = decide (x ≠ 255) := by
  rw [rightB, Bool.eq_iff_iff]
  simp
  omega
end

section
set_option maxRecDepth 4000
open Go.RowKit

/-- Has a packet nothing but a protocol and data? -/
def bareD (p : Pk) : Bool := decide (p.code = 0) && decide (p.id = 0) && decide (p.sub = 0) && decide (p.magic = 0) && decide (p.opts.length = 0) && decide (p.one.length = 0) && decide (p.two.length = 0) && decide (p.nums.length = 0)
/-- A packet of a protocol that has no layer. -/
def datP (t : Nat) (b : List Nat) : Pk := ⟨t, 0, 0, [], 0, 0, [], [], b, []⟩
/-- What Put answers: octets, the error's number. -/
def bputB (p : Pk) : List Nat × Nat :=
  if rightB p.proto = true then
    if p.proto = 49185 then lputB p
    else if p.proto = 32801 ∨ p.proto = 32855 then nputB p
    else if p.proto = 49187 then aputB p
    else if p.proto = 49699 then chputB p
    else if p.proto = 49189 then lqputB p
    else if bareD p = true then (p.data, 0) else ([], 9)
  else ([], 7)
/-- What Get answers: a packet, the error's number. -/
def bgetB (t : Nat) (b : List Nat) : Pk × Nat :=
  if rightB t = true then
    if t = 49185 then lgetB b
    else if t = 32801 ∨ t = 32855 then ngetB t b
    else if t = 49187 then agetB b
    else if t = 49699 then chgetB b
    else if t = 49189 then lqgetB b
    else (datP t b, 0)
  else (pk0, 7)
/-- What Check answers, by how many octets may be. -/
def bchkB (m : Int) (p : Pk) : Nat := if (bputB p).2 = 0 ∧ m < ((bputB p).1.length : Int) then 3 else (bputB p).2

theorem bput_lcp {p : Pk} (h : p.proto = 49185) : bputB p = lputB p := by unfold bputB; rw [h, if_pos (by decide), if_pos rfl]
theorem bput_ncp {p : Pk} (h : p.proto = 32801 ∨ p.proto = 32855) : bputB p = nputB p := by
  unfold bputB
  rcases h with h | h <;> rw [h, if_pos (by decide), if_neg (by decide), if_pos (by decide)]
theorem bput_pap {p : Pk} (h : p.proto = 49187) : bputB p = aputB p := by unfold bputB; rw [h, if_pos (by decide), if_neg (by decide), if_neg (by decide), if_pos rfl]
theorem bput_chap {p : Pk} (h : p.proto = 49699) : bputB p = chputB p := by unfold bputB; rw [h, if_pos (by decide), if_neg (by decide), if_neg (by decide), if_neg (by decide), if_pos rfl]
theorem bput_lqr {p : Pk} (h : p.proto = 49189) : bputB p = lqputB p := by unfold bputB; rw [h, if_pos (by decide), if_neg (by decide), if_neg (by decide), if_neg (by decide), if_neg (by decide), if_pos rfl]
/-- Has the protocol a layer of its own? -/
def layB (t : Nat) : Prop := t = 49185 ∨ (t = 32801 ∨ t = 32855) ∨ t = 49187 ∨ t = 49699 ∨ t = 49189
theorem bput_none {p : Pk} (h : rightB p.proto = false) : bputB p = ([], 7) := by unfold bputB; rw [h]; rfl
theorem bput_else {p : Pk} (hr : rightB p.proto = true) (h : ¬ layB p.proto) : bputB p = if bareD p = true then (p.data, 0) else ([], 9) := by
  unfold layB at h
  unfold bputB
  rw [if_pos hr, if_neg (fun e => h (.inl e)), if_neg (fun e => h (.inr (.inl e))), if_neg (fun e => h (.inr (.inr (.inl e)))), if_neg (fun e => h (.inr (.inr (.inr (.inl e))))), if_neg (fun e => h (.inr (.inr (.inr (.inr e)))))]
theorem bget_lcp (b : List Nat) : bgetB 49185 b = lgetB b := by unfold bgetB; rw [if_pos (by decide), if_pos rfl]
theorem bget_ncp {t : Nat} (h : t = 32801 ∨ t = 32855) (b : List Nat) : bgetB t b = ngetB t b := by
  unfold bgetB
  rcases h with rfl | rfl <;> rw [if_pos (by decide), if_neg (by decide), if_pos (by decide)]
theorem bget_pap (b : List Nat) : bgetB 49187 b = agetB b := by unfold bgetB; rw [if_pos (by decide), if_neg (by decide), if_neg (by decide), if_pos rfl]
theorem bget_chap (b : List Nat) : bgetB 49699 b = chgetB b := by unfold bgetB; rw [if_pos (by decide), if_neg (by decide), if_neg (by decide), if_neg (by decide), if_pos rfl]
theorem bget_lqr (b : List Nat) : bgetB 49189 b = lqgetB b := by unfold bgetB; rw [if_pos (by decide), if_neg (by decide), if_neg (by decide), if_neg (by decide), if_neg (by decide), if_pos rfl]
theorem bget_none {t : Nat} (h : rightB t = false) (b : List Nat) : bgetB t b = (pk0, 7) := by unfold bgetB; rw [h]; rfl
theorem bget_else {t : Nat} (hr : rightB t = true) (h : ¬ layB t) (b : List Nat) : bgetB t b = (datP t b, 0) := by
  unfold layB at h
  unfold bgetB
  rw [if_pos hr, if_neg (fun e => h (.inl e)), if_neg (fun e => h (.inr (.inl e))), if_neg (fun e => h (.inr (.inr (.inl e)))), if_neg (fun e => h (.inr (.inr (.inr (.inl e))))), if_neg (fun e => h (.inr (.inr (.inr (.inr e)))))]
/-- The ways that a protocol's number may go. -/
theorem bways (t : Nat) : rightB t = false ∨ (rightB t = true ∧ (t = 49185 ∨ (t = 32801 ∨ t = 32855) ∨ t = 49187 ∨ t = 49699 ∨ t = 49189 ∨ ¬ layB t)) := by
  cases h : rightB t
  · exact .inl rfl
  · refine .inr ⟨rfl, ?_⟩
    unfold layB
    omega

theorem bare_dat {p : Pk} (h : bareD p = true) : p = datP p.proto p.data := by
  obtain ⟨a, b, c, d, e, f, g, i, j, k⟩ := p
  simp only [bareD, Bool.and_eq_true, decide_eq_true_eq, List.length_eq_zero_iff] at h
  obtain ⟨⟨⟨⟨⟨⟨⟨rfl, rfl⟩, rfl⟩, rfl⟩, rfl⟩, rfl⟩, rfl⟩, rfl⟩ := h
  rfl
theorem bput_dat {t : Nat} (hr : rightB t = true) (h : ¬ layB t) (b : List Nat) : bputB (datP t b) = (b, 0) := by
  rw [bput_else (p := datP t b) hr h, if_pos (show bareD (datP t b) = true from rfl)]
  rfl
theorem bqput_len {p : Pk} {m : List Nat} {k : Nat} (h : lqputB p = (m, k)) : m.length ≤ 48 := by
  unfold lqputB at h
  by_cases h1 : p.proto = 49189
  · rw [if_pos h1] at h
    by_cases h2 : bareP p = true
    · rw [if_pos h2] at h
      by_cases h3 : p.nums.length = 12
      · rw [if_pos h3] at h
        injection h with e _
        subst e
        rw [octN_len, h3]
        omega
      · rw [if_neg h3] at h
        injection h with e _
        subst e
        exact Nat.zero_le _
    · rw [if_neg h2] at h
      injection h with e _
      subst e
      exact Nat.zero_le _
  · rw [if_neg h1] at h
    injection h with e _
    subst e
    exact Nat.zero_le _
theorem bqput_err {p : Pk} {m : List Nat} {k : Nat} (h : lqputB p = (m, k)) (hk : k ≠ 0) : m = [] := by
  unfold lqputB at h
  by_cases h1 : p.proto = 49189
  · rw [if_pos h1] at h
    by_cases h2 : bareP p = true
    · rw [if_pos h2] at h
      by_cases h3 : p.nums.length = 12
      · rw [if_pos h3] at h
        injection h with _ e
        exact absurd e.symm hk
      · rw [if_neg h3] at h
        injection h with e _
        exact e.symm
    · rw [if_neg h2] at h
      injection h with e _
      exact e.symm
  · rw [if_neg h1] at h
    injection h with e _
    exact e.symm
theorem bqget_err {b : List Nat} {y : Pk} {k : Nat} (h : lqgetB b = (y, k)) (hk : k ≠ 0) : y = pk0 := by
  unfold lqgetB at h
  by_cases h1 : b.length < 48
  · rw [if_pos h1] at h
    injection h with e _
    exact e.symm
  · rw [if_neg h1] at h
    injection h with _ e
    exact absurd e.symm hk
theorem bput_len {p : Pk} {m : List Nat} {k : Nat} (h : bputB p = (m, k)) (hf : fewP p = true) : m.length ≤ 2000 := by
  rcases bways p.proto with hr | ⟨hr, h1 | h1 | h1 | h1 | h1 | h1⟩
  · rw [bput_none hr] at h
    injection h with e _
    subst e
    exact Nat.zero_le _
  · rw [bput_lcp h1] at h; exact lput_len h hf
  · rw [bput_ncp h1] at h; exact nput_len h hf
  · rw [bput_pap h1] at h; exact aput_len h hf
  · rw [bput_chap h1] at h; exact chput_len h hf
  · rw [bput_lqr h1] at h
    exact Nat.le_trans (bqput_len h) (by omega)
  · rw [bput_else hr h1] at h
    split at h
    · injection h with e _
      subst e
      have := (fewP_of hf).2.2.2.1
      omega
    · injection h with e _
      subst e
      exact Nat.zero_le _
/-- What is written has octets. -/
theorem bput_by {p : Pk} {m : List Nat} (hok : p.ok) (h : bputB p = (m, 0)) : By m := by
  rcases bways p.proto with hr | ⟨hr, h1 | h1 | h1 | h1 | h1 | h1⟩
  · rw [bput_none hr] at h
    injection h with _ e
    exact absurd e (by decide)
  · rw [bput_lcp h1] at h; exact lput_by hok h
  · rw [bput_ncp h1] at h; exact nput_by hok h
  · rw [bput_pap h1] at h; exact aput_by hok h
  · rw [bput_chap h1] at h; exact chput_by hok h
  · rw [bput_lqr h1] at h
    have h2 := lqput_ok (p := p) (by rw [h])
    rw [h] at h2
    rw [show m = octN p.nums from h2.2.2]
    exact octN_by _
  · rw [bput_else hr h1] at h
    split at h
    · injection h with e _
      subst e
      exact hok.data
    · injection h with _ e
      exact absurd e (by decide)
/-- What is written is read as it was. -/
theorem bget_put {p : Pk} {m : List Nat} (hok : p.ok) (h : bputB p = (m, 0)) : bgetB p.proto m = (p, 0) := by
  rcases bways p.proto with hr | ⟨hr, h1 | h1 | h1 | h1 | h1 | h1⟩
  · rw [bput_none hr] at h
    injection h with _ e
    exact absurd e (by decide)
  · rw [bput_lcp h1] at h
    have := lget_put hok h []
    rw [List.append_nil] at this
    rw [h1, bget_lcp, this]
  · rw [bput_ncp h1] at h
    have := nget_put h []
    rw [List.append_nil] at this
    rw [bget_ncp h1, this]
  · rw [bput_pap h1] at h
    have := aget_put h []
    rw [List.append_nil] at this
    rw [h1, bget_pap, this]
  · rw [bput_chap h1] at h
    have := chget_put h []
    rw [List.append_nil] at this
    rw [h1, bget_chap, this]
  · rw [bput_lqr h1] at h
    have h2 := lqput_ok (p := p) (by rw [h])
    rw [h] at h2
    have h3 := lqget_oct (l := p.nums) (m := []) h2.2.1 hok.nums
    rw [List.append_nil] at h3
    rw [h1, bget_lqr, show m = octN p.nums from h2.2.2, h3]
    exact congrArg (·, 0) h2.1.symm
  · rw [bput_else hr h1] at h
    split at h
    · rename_i h2
      injection h with e _
      subst e
      rw [bget_else hr h1]
      exact congrArg (·, 0) (bare_dat h2).symm
    · injection h with _ e
      exact absurd e (by decide)
/-- What is read is one of Go's packets, of its protocol. -/
theorem bget_ok {t : Nat} (ht : t < 65536) {b : List Nat} (hb : By b) {y : Pk} {k : Nat} (h : bgetB t b = (y, k)) (hl : b.length ≤ 1073741824) : y.ok ∧ y.sm := by
  have ok0 : pk0.ok := ⟨by decide, by decide, by decide, fun x hx => (by cases hx), by decide, by decide, By.nil, By.nil, By.nil, fun x hx => (by cases hx)⟩
  rcases bways t with hr | ⟨hr, rfl | h1 | rfl | rfl | rfl | h1⟩
  · rw [bget_none hr] at h
    injection h with e _
    subst e
    exact ⟨ok0, sm0⟩
  · rw [bget_lcp] at h; exact lget_ok hb h hl
  · rw [bget_ncp h1] at h; exact nget_ok ht hb h hl
  · rw [bget_pap] at h; exact aget_ok hb h hl
  · rw [bget_chap] at h; exact chget_ok hb h hl
  · rw [bget_lqr] at h
    unfold lqgetB at h
    split at h
    · injection h with e _
      subst e
      exact ⟨ok0, sm0⟩
    · injection h with e _
      subst e
      exact ⟨⟨by show 49189 < 65536; omega, by show 0 < 256; omega, by show 0 < 256; omega, fun x hx => (by cases hx), by show 0 < 65536; omega, by show 0 < 4294967296; omega, By.nil, By.nil, By.nil, rdN_lt hb 12⟩, ⟨Nat.zero_le _, Nat.zero_le _, Nat.zero_le _, Nat.zero_le _, Nat.zero_le _, by show (rdN b 12).length ≤ _; rw [rdN_len]; omega⟩⟩
  · rw [bget_else hr h1] at h
    injection h with e _
    subst e
    exact ⟨⟨ht, by show 0 < 256; omega, by show 0 < 256; omega, fun x hx => (by cases hx), by show 0 < 65536; omega, by show 0 < 4294967296; omega, By.nil, By.nil, hb, fun x hx => (by cases hx)⟩, ⟨Nat.zero_le _, Nat.zero_le _, Nat.zero_le _, Nat.zero_le _, hl, Nat.zero_le _⟩⟩
/-- What is read is written as the octets that it was read of. -/
theorem bput_get {t : Nat} (ht : t < 65536) {b : List Nat} (hb : By b) {y : Pk} (h : bgetB t b = (y, 0)) : y.proto = t ∧ ∃ m, bputB y = (m, 0) ∧ m.length ≤ b.length ∧ m = b.take m.length := by
  rcases bways t with hr | ⟨hr, rfl | h1 | rfl | rfl | rfl | h1⟩
  · rw [bget_none hr] at h
    injection h with _ e
    exact absurd e (by decide)
  · rw [bget_lcp] at h
    obtain ⟨m, h2, h3⟩ := lput_get hb h
    have h4 := (lput_ok h2).1
    exact ⟨h4, m, by rw [bput_lcp h4]; exact h2, h3⟩
  · rw [bget_ncp h1] at h
    obtain ⟨h4, m, h2, h3⟩ := nput_get ht hb h
    exact ⟨h4, m, by rw [bput_ncp (by rw [h4]; exact h1)]; exact h2, h3⟩
  · rw [bget_pap] at h
    obtain ⟨m, h2, h3⟩ := aput_get hb h
    have h4 := (aput_ok h2).1
    exact ⟨h4, m, by rw [bput_pap h4]; exact h2, h3⟩
  · rw [bget_chap] at h
    obtain ⟨m, h2, h3⟩ := chput_get hb h
    have h4 := (chput_ok h2).1
    exact ⟨h4, m, by rw [bput_chap h4]; exact h2, h3⟩
  · rw [bget_lqr] at h
    rcases Nat.lt_or_ge b.length 48 with h48 | h48
    · unfold lqgetB at h
      rw [if_pos h48] at h
      injection h with _ e
      exact absurd e (by decide)
    · obtain ⟨g1, g2⟩ := lqget_put hb h48
      rw [g1] at h
      injection h with e _
      subst e
      refine ⟨rfl, b.take 48, by rw [bput_lqr rfl]; exact g2, by rw [List.length_take]; omega, ?_⟩
      rw [List.length_take, Nat.min_eq_left h48]
  · rw [bget_else hr h1] at h
    injection h with e _
    subst e
    exact ⟨rfl, b, bput_dat hr h1 b, Nat.le_refl _, (List.take_length).symm⟩
/-- An error has no octets. -/
theorem bput_err {p : Pk} {m : List Nat} {k : Nat} (h : bputB p = (m, k)) (hk : k ≠ 0) : m = [] := by
  rcases bways p.proto with hr | ⟨hr, h1 | h1 | h1 | h1 | h1 | h1⟩
  · rw [bput_none hr] at h
    injection h with e _
    exact e.symm
  · rw [bput_lcp h1] at h; exact lput_err h hk
  · rw [bput_ncp h1] at h; exact nput_err h hk
  · rw [bput_pap h1] at h; exact aput_err h hk
  · rw [bput_chap h1] at h; exact chput_err h hk
  · rw [bput_lqr h1] at h; exact bqput_err h hk
  · rw [bput_else hr h1] at h
    by_cases h2 : bareD p = true
    · rw [if_pos h2] at h
      injection h with _ e
      exact absurd e.symm hk
    · rw [if_neg h2] at h
      injection h with e _
      exact e.symm
/-- An error has no packet. -/
theorem bget_err {t : Nat} {b : List Nat} {y : Pk} {k : Nat} (h : bgetB t b = (y, k)) (hk : k ≠ 0) : y = pk0 := by
  rcases bways t with hr | ⟨hr, rfl | h1 | rfl | rfl | rfl | h1⟩
  · rw [bget_none hr] at h
    injection h with e _
    exact e.symm
  · rw [bget_lcp] at h; exact lget_err h hk
  · rw [bget_ncp h1] at h; exact nget_err h hk
  · rw [bget_pap] at h; exact aget_err h hk
  · rw [bget_chap] at h; exact chget_err h hk
  · rw [bget_lqr] at h; exact bqget_err h hk
  · rw [bget_else hr h1] at h
    injection h with _ e
    exact absurd e.symm hk
end
end Go.Proofs.Ytmhjnghomihjlaa
