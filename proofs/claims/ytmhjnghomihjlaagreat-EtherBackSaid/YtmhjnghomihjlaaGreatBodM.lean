
/-
  The mathematics of packets of any protocol: what Put, Get and Check answer, by the layers ahead; what is written is read again, and what is read is written. No condition.
-/
import Derived.Test.YtmhjnghomihjlaaGreatPro
import Derived.Test.YtmhjnghomihjlaaGreatLcpN
import Derived.Test.YtmhjnghomihjlaaGreatNcpM
import Derived.Test.YtmhjnghomihjlaaGreatPapM
import Derived.Test.YtmhjnghomihjlaaGreatChpM
import Derived.Test.YtmhjnghomihjlaaGreatLqrM
namespace Go.Proofs.YtmhjnghomihjlaaGreat
set_option maxRecDepth 4000
open Go.RowKit

/-- Has a packet nothing but a protocol and data? -/
def bareD (p : Pk) : Bool := decide (p.code = 0) && decide (p.id = 0) && decide (p.sub = 0) && decide (p.magic = 0) && decide (p.opts.length = 0) && decide (p.one.length = 0) && decide (p.two.length = 0) && decide (p.nums.length = 0)
/-- A packet of a protocol that has no layer. -/
def datP (t : Nat) (b : List Nat) : Pk := ⟨t, 0, 0, [], 0, 0, [], [], b, []⟩
/-- What Put answers: octets, the error's number. -/
def bputB (p : Pk) : List Nat × Nat :=
  if rightB p.proto = true then
    if p.proto = 49185 then lputB p
    else if p.proto = 32801 ∨ p.proto = 32855 then nputB p
    else if p.proto = 49187 then aputB p
    else if p.proto = 49699 then chputB p
    else if p.proto = 49189 then lqputB p
    else if bareD p = true then (p.data, 0) else ([], 9)
  else ([], 7)
/-- What Get answers: a packet, the error's number. -/
def bgetB (t : Nat) (b : List Nat) : Pk × Nat :=
  if rightB t = true then
    if t = 49185 then lgetB b
    else if t = 32801 ∨ t = 32855 then ngetB t b
    else if t = 49187 then agetB b
    else if t = 49699 then chgetB b
    else if t = 49189 then lqgetB b
    else (datP t b, 0)
  else (pk0, 7)
/-- What Check answers, by how many octets may be. -/
def bchkB (m : Int) (p : Pk) : Nat := if (bputB p).2 = 0 ∧ m < ((bputB p).1.length : Int) then 3 else (bputB p).2

theorem bput_lcp {p : Pk} (h : p.proto = 49185) : bputB p = lputB p := by unfold bputB; rw [h, if_pos (by decide), if_pos rfl]
theorem bput_ncp {p : Pk} (h : p.proto = 32801 ∨ p.proto = 32855) : bputB p = nputB p := by
  unfold bputB
  rcases h with h | h <;> rw [h, if_pos (by decide), if_neg (by decide), if_pos (by decide)]
theorem bput_pap {p : Pk} (h : p.proto = 49187) : bputB p = aputB p := by unfold bputB; rw [h, if_pos (by decide), if_neg (by decide), if_neg (by decide), if_pos rfl]
theorem bput_chap {p : Pk} (h : p.proto = 49699) : bputB p = chputB p := by unfold bputB; rw [h, if_pos (by decide), if_neg (by decide), if_neg (by decide), if_neg (by decide), if_pos rfl]
theorem bput_lqr {p : Pk} (h : p.proto = 49189) : bputB p = lqputB p := by unfold bputB; rw [h, if_pos (by decide), if_neg (by decide), if_neg (by decide), if_neg (by decide), if_neg (by decide), if_pos rfl]
/-- Has the protocol a layer of its own? -/
def layB (t : Nat) : Prop := t = 49185 ∨ (t = 32801 ∨ t = 32855) ∨ t = 49187 ∨ t = 49699 ∨ t = 49189
theorem bput_none {p : Pk} (h : rightB p.proto = false) : bputB p = ([], 7) := by unfold bputB; rw [h]; rfl
theorem bput_else {p : Pk} (hr : rightB p.proto = true) (h : ¬ layB p.proto) : bputB p = if bareD p = true then (p.data, 0) else ([], 9) := by
  unfold layB at h
  unfold bputB
  rw [if_pos hr, if_neg (fun e => h (.inl e)), if_neg (fun e => h (.inr (.inl e))), if_neg (fun e => h (.inr (.inr (.inl e)))), if_neg (fun e => h (.inr (.inr (.inr (.inl e))))), if_neg (fun e => h (.inr (.inr (.inr (.inr e)))))]
theorem bget_lcp (b : List Nat) : bgetB 49185 b = lgetB b := by unfold bgetB; rw [if_pos (by decide), if_pos rfl]
theorem bget_ncp {t : Nat} (h : t = 32801 ∨ t = 32855) (b : List Nat) : bgetB t b = ngetB t b := by
  unfold bgetB
  rcases h with rfl | rfl <;> rw [if_pos (by decide), if_neg (by decide), if_pos (by decide)]
theorem bget_pap (b : List Nat) : bgetB 49187 b = agetB b := by unfold bgetB; rw [if_pos (by decide), if_neg (by decide), if_neg (by decide), if_pos rfl]
theorem bget_chap (b : List Nat) : bgetB 49699 b = chgetB b := by unfold bgetB; rw [if_pos (by decide), if_neg (by decide), if_neg (by decide), if_neg (by decide), if_pos rfl]
theorem bget_lqr (b : List Nat) : bgetB 49189 b = lqgetB b := by unfold bgetB; rw [if_pos (by decide), if_neg (by decide), if_neg (by decide), if_neg (by decide), if_neg (by decide), if_pos rfl]
theorem bget_none {t : Nat} (h : rightB t = false) (b : List Nat) : bgetB t b = (pk0, 7) := by unfold bgetB; rw [h]; rfl
theorem bget_else {t : Nat} (hr : rightB t = true) (h : ¬ layB t) (b : List Nat) : bgetB t b = (datP t b, 0) := by
  unfold layB at h
  unfold bgetB
  rw [if_pos hr, if_neg (fun e => h (.inl e)), if_neg (fun e => h (.inr (.inl e))), if_neg (fun e => h (.inr (.inr (.inl e)))), if_neg (fun e => h (.inr (.inr (.inr (.inl e))))), if_neg (fun e => h (.inr (.inr (.inr (.inr e)))))]
/-- The ways that a protocol's number may go. -/
theorem bways (t : Nat) : rightB t = false ∨ (rightB t = true ∧ (t = 49185 ∨ (t = 32801 ∨ t = 32855) ∨ t = 49187 ∨ t = 49699 ∨ t = 49189 ∨ ¬ layB t)) := by
  cases h : rightB t
  · exact .inl rfl
  · refine .inr ⟨rfl, ?_⟩
    unfold layB
    omega

theorem bare_dat {p : Pk} (h : bareD p = true) : p = datP p.proto p.data := by
  obtain ⟨a, b, c, d, e, f, g, i, j, k⟩ := p
  simp only [bareD, Bool.and_eq_true, decide_eq_true_eq, List.length_eq_zero_iff] at h
  obtain ⟨⟨⟨⟨⟨⟨⟨rfl, rfl⟩, rfl⟩, rfl⟩, rfl⟩, rfl⟩, rfl⟩, rfl⟩ := h
  rfl
theorem bput_dat {t : Nat} (hr : rightB t = true) (h : ¬ layB t) (b : List Nat) : bputB (datP t b) = (b, 0) := by
  rw [bput_else (p := datP t b) hr h, if_pos (show bareD (datP t b) = true from rfl)]
  rfl
theorem bqput_len {p : Pk} {m : List Nat} {k : Nat} (h : lqputB p = (m, k)) : m.length ≤ 48 := by
  unfold lqputB at h
  by_cases h1 : p.proto = 49189
  · rw [if_pos h1] at h
    by_cases h2 : bareP p = true
    · rw [if_pos h2] at h
      by_cases h3 : p.nums.length = 12
      · rw [if_pos h3] at h
        injection h with e _
        subst e
        rw [octN_len, h3]
        omega
      · rw [if_neg h3] at h
        injection h with e _
        subst e
        exact Nat.zero_le _
    · rw [if_neg h2] at h
      injection h with e _
      subst e
      exact Nat.zero_le _
  · rw [if_neg h1] at h
    injection h with e _
    subst e
    exact Nat.zero_le _
theorem bqput_err {p : Pk} {m : List Nat} {k : Nat} (h : lqputB p = (m, k)) (hk : k ≠ 0) : m = [] := by
  unfold lqputB at h
  by_cases h1 : p.proto = 49189
  · rw [if_pos h1] at h
    by_cases h2 : bareP p = true
    · rw [if_pos h2] at h
      by_cases h3 : p.nums.length = 12
      · rw [if_pos h3] at h
        injection h with _ e
        exact absurd e.symm hk
      · rw [if_neg h3] at h
        injection h with e _
        exact e.symm
    · rw [if_neg h2] at h
      injection h with e _
      exact e.symm
  · rw [if_neg h1] at h
    injection h with e _
    exact e.symm
theorem bqget_err {b : List Nat} {y : Pk} {k : Nat} (h : lqgetB b = (y, k)) (hk : k ≠ 0) : y = pk0 := by
  unfold lqgetB at h
  by_cases h1 : b.length < 48
  · rw [if_pos h1] at h
    injection h with e _
    exact e.symm
  · rw [if_neg h1] at h
    injection h with _ e
    exact absurd e.symm hk
theorem bput_len {p : Pk} {m : List Nat} {k : Nat} (h : bputB p = (m, k)) (hf : fewP p = true) : m.length ≤ 2000 := by
  rcases bways p.proto with hr | ⟨hr, h1 | h1 | h1 | h1 | h1 | h1⟩
  · rw [bput_none hr] at h
    injection h with e _
    subst e
    exact Nat.zero_le _
  · rw [bput_lcp h1] at h; exact lput_len h hf
  · rw [bput_ncp h1] at h; exact nput_len h hf
  · rw [bput_pap h1] at h; exact aput_len h hf
  · rw [bput_chap h1] at h; exact chput_len h hf
  · rw [bput_lqr h1] at h
    exact Nat.le_trans (bqput_len h) (by omega)
  · rw [bput_else hr h1] at h
    split at h
    · injection h with e _
      subst e
      have := (fewP_of hf).2.2.2.1
      omega
    · injection h with e _
      subst e
      exact Nat.zero_le _
/-- What is written has octets. -/
theorem bput_by {p : Pk} {m : List Nat} (hok : p.ok) (h : bputB p = (m, 0)) : By m := by
  rcases bways p.proto with hr | ⟨hr, h1 | h1 | h1 | h1 | h1 | h1⟩
  · rw [bput_none hr] at h
    injection h with _ e
    exact absurd e (by decide)
  · rw [bput_lcp h1] at h; exact lput_by hok h
  · rw [bput_ncp h1] at h; exact nput_by hok h
  · rw [bput_pap h1] at h; exact aput_by hok h
  · rw [bput_chap h1] at h; exact chput_by hok h
  · rw [bput_lqr h1] at h
    have h2 := lqput_ok (p := p) (by rw [h])
    rw [h] at h2
    rw [show m = octN p.nums from h2.2.2]
    exact octN_by _
  · rw [bput_else hr h1] at h
    split at h
    · injection h with e _
      subst e
      exact hok.data
    · injection h with _ e
      exact absurd e (by decide)
/-- What is written is read as it was. -/
theorem bget_put {p : Pk} {m : List Nat} (hok : p.ok) (h : bputB p = (m, 0)) : bgetB p.proto m = (p, 0) := by
  rcases bways p.proto with hr | ⟨hr, h1 | h1 | h1 | h1 | h1 | h1⟩
  · rw [bput_none hr] at h
    injection h with _ e
    exact absurd e (by decide)
  · rw [bput_lcp h1] at h
    have := lget_put hok h []
    rw [List.append_nil] at this
    rw [h1, bget_lcp, this]
  · rw [bput_ncp h1] at h
    have := nget_put h []
    rw [List.append_nil] at this
    rw [bget_ncp h1, this]
  · rw [bput_pap h1] at h
    have := aget_put h []
    rw [List.append_nil] at this
    rw [h1, bget_pap, this]
  · rw [bput_chap h1] at h
    have := chget_put h []
    rw [List.append_nil] at this
    rw [h1, bget_chap, this]
  · rw [bput_lqr h1] at h
    have h2 := lqput_ok (p := p) (by rw [h])
    rw [h] at h2
    have h3 := lqget_oct (l := p.nums) (m := []) h2.2.1 hok.nums
    rw [List.append_nil] at h3
    rw [h1, bget_lqr, show m = octN p.nums from h2.2.2, h3]
    exact congrArg (·, 0) h2.1.symm
  · rw [bput_else hr h1] at h
    split at h
    · rename_i h2
      injection h with e _
      subst e
      rw [bget_else hr h1]
      exact congrArg (·, 0) (bare_dat h2).symm
    · injection h with _ e
      exact absurd e (by decide)
/-- What is read is one of Go's packets, of its protocol. -/
theorem bget_ok {t : Nat} (ht : t < 65536) {b : List Nat} (hb : By b) {y : Pk} {k : Nat} (h : bgetB t b = (y, k)) (hl : b.length ≤ 1073741824) : y.ok ∧ y.sm := by
  have ok0 : pk0.ok := ⟨by decide, by decide, by decide, fun x hx => (by cases hx), by decide, by decide, By.nil, By.nil, By.nil, fun x hx => (by cases hx)⟩
  rcases bways t with hr | ⟨hr, rfl | h1 | rfl | rfl | rfl | h1⟩
  · rw [bget_none hr] at h
    injection h with e _
    subst e
    exact ⟨ok0, sm0⟩
  · rw [bget_lcp] at h; exact lget_ok hb h hl
  · rw [bget_ncp h1] at h; exact nget_ok ht hb h hl
  · rw [bget_pap] at h; exact aget_ok hb h hl
  · rw [bget_chap] at h; exact chget_ok hb h hl
  · rw [bget_lqr] at h
    unfold lqgetB at h
    split at h
    · injection h with e _
      subst e
      exact ⟨ok0, sm0⟩
    · injection h with e _
      subst e
      exact ⟨⟨by show 49189 < 65536; omega, by show 0 < 256; omega, by show 0 < 256; omega, fun x hx => (by cases hx), by show 0 < 65536; omega, by show 0 < 4294967296; omega, By.nil, By.nil, By.nil, rdN_lt hb 12⟩, ⟨Nat.zero_le _, Nat.zero_le _, Nat.zero_le _, Nat.zero_le _, Nat.zero_le _, by show (rdN b 12).length ≤ _; rw [rdN_len]; omega⟩⟩
  · rw [bget_else hr h1] at h
    injection h with e _
    subst e
    exact ⟨⟨ht, by show 0 < 256; omega, by show 0 < 256; omega, fun x hx => (by cases hx), by show 0 < 65536; omega, by show 0 < 4294967296; omega, By.nil, By.nil, hb, fun x hx => (by cases hx)⟩, ⟨Nat.zero_le _, Nat.zero_le _, Nat.zero_le _, Nat.zero_le _, hl, Nat.zero_le _⟩⟩
/-- What is read is written as the octets that it was read of. -/
theorem bput_get {t : Nat} (ht : t < 65536) {b : List Nat} (hb : By b) {y : Pk} (h : bgetB t b = (y, 0)) : y.proto = t ∧ ∃ m, bputB y = (m, 0) ∧ m.length ≤ b.length ∧ m = b.take m.length := by
  rcases bways t with hr | ⟨hr, rfl | h1 | rfl | rfl | rfl | h1⟩
  · rw [bget_none hr] at h
    injection h with _ e
    exact absurd e (by decide)
  · rw [bget_lcp] at h
    obtain ⟨m, h2, h3⟩ := lput_get hb h
    have h4 := (lput_ok h2).1
    exact ⟨h4, m, by rw [bput_lcp h4]; exact h2, h3⟩
  · rw [bget_ncp h1] at h
    obtain ⟨h4, m, h2, h3⟩ := nput_get ht hb h
    exact ⟨h4, m, by rw [bput_ncp (by rw [h4]; exact h1)]; exact h2, h3⟩
  · rw [bget_pap] at h
    obtain ⟨m, h2, h3⟩ := aput_get hb h
    have h4 := (aput_ok h2).1
    exact ⟨h4, m, by rw [bput_pap h4]; exact h2, h3⟩
  · rw [bget_chap] at h
    obtain ⟨m, h2, h3⟩ := chput_get hb h
    have h4 := (chput_ok h2).1
    exact ⟨h4, m, by rw [bput_chap h4]; exact h2, h3⟩
  · rw [bget_lqr] at h
    rcases Nat.lt_or_ge b.length 48 with h48 | h48
    · unfold lqgetB at h
      rw [if_pos h48] at h
      injection h with _ e
      exact absurd e (by decide)
    · obtain ⟨g1, g2⟩ := lqget_put hb h48
      rw [g1] at h
      injection h with e _
      subst e
      refine ⟨rfl, b.take 48, by rw [bput_lqr rfl]; exact g2, by rw [List.length_take]; omega, ?_⟩
      rw [List.length_take, Nat.min_eq_left h48]
  · rw [bget_else hr h1] at h
    injection h with e _
    subst e
    exact ⟨rfl, b, bput_dat hr h1 b, Nat.le_refl _, (List.take_length).symm⟩
/-- An error has no octets. -/
theorem bput_err {p : Pk} {m : List Nat} {k : Nat} (h : bputB p = (m, k)) (hk : k ≠ 0) : m = [] := by
  rcases bways p.proto with hr | ⟨hr, h1 | h1 | h1 | h1 | h1 | h1⟩
  · rw [bput_none hr] at h
    injection h with e _
    exact e.symm
  · rw [bput_lcp h1] at h; exact lput_err h hk
  · rw [bput_ncp h1] at h; exact nput_err h hk
  · rw [bput_pap h1] at h; exact aput_err h hk
  · rw [bput_chap h1] at h; exact chput_err h hk
  · rw [bput_lqr h1] at h; exact bqput_err h hk
  · rw [bput_else hr h1] at h
    by_cases h2 : bareD p = true
    · rw [if_pos h2] at h
      injection h with _ e
      exact absurd e.symm hk
    · rw [if_neg h2] at h
      injection h with e _
      exact e.symm
/-- An error has no packet. -/
theorem bget_err {t : Nat} {b : List Nat} {y : Pk} {k : Nat} (h : bgetB t b = (y, k)) (hk : k ≠ 0) : y = pk0 := by
  rcases bways t with hr | ⟨hr, rfl | h1 | rfl | rfl | rfl | h1⟩
  · rw [bget_none hr] at h
    injection h with e _
    exact e.symm
  · rw [bget_lcp] at h; exact lget_err h hk
  · rw [bget_ncp h1] at h; exact nget_err h hk
  · rw [bget_pap] at h; exact aget_err h hk
  · rw [bget_chap] at h; exact chget_err h hk
  · rw [bget_lqr] at h; exact bqget_err h hk
  · rw [bget_else hr h1] at h
    injection h with _ e
    exact absurd e.symm hk
end Go.Proofs.YtmhjnghomihjlaaGreat
