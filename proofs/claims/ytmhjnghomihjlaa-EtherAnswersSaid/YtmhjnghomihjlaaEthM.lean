
/-
  The mathematics of frames on an Ethernet: what Put, Get and Answers answer, by the layers ahead; what is written is read again, whatever stands behind it; what is read can be written; a frame cut off. No condition.
-/
import Derived.Test.YtmhjnghomihjlaaGMat
import Derived.Test.YtmhjnghomihjlaaGTag
namespace Go.Proofs.Ytmhjnghomihjlaa
set_option maxRecDepth 4000
open Go.RowKit

/-- A frame. -/
structure Fr where
  code : Nat
  sess : Nat
  tags : List (Nat × List Nat)
  pkt : Pk
deriving DecidableEq
/-- No frame. -/
def fr0 : Fr := ⟨0, 0, [], pk0⟩
/-- It is one of Go's. -/
structure Fr.ok (f : Fr) : Prop where
  code : f.code < 256
  sess : f.sess < 65536
  tags : ByG f.tags
  pkt : f.pkt.ok
/-- The error's number of a code and a session. -/
def ecode (c s : Nat) : Nat :=
  if c = 0 ∨ c = 167 then (if s = 0 then 5 else 0)
  else if c = 7 ∨ c = 9 ∨ c = 25 then (if s = 0 then 0 else 5)
  else if c = 101 then 0 else 8
/-- A frame's payload, and the error's number. -/
def epay (f : Fr) : List Nat × Nat :=
  if f.code = 0 then
    if f.tags = [] then
      if (bputB f.pkt).2 = 0 then (f.pkt.proto / 256 :: f.pkt.proto % 256 :: (bputB f.pkt).1, 0) else ([], (bputB f.pkt).2)
    else ([], 9)
  else if f.pkt = pk0 then
    if tgerr f.tags = 0 then (tgput f.tags, 0) else ([], tgerr f.tags)
  else ([], 9)
/-- A frame's octets, of its payload. -/
def elay (f : Fr) (m : List Nat) : List Nat := 17 :: f.code :: f.sess / 256 :: f.sess % 256 :: m.length / 256 :: m.length % 256 :: m
/-- What Put answers. -/
def eputB (f : Fr) : List Nat × Nat :=
  if ecode f.code f.sess = 0 then
    if (epay f).2 = 0 then
      if (epay f).1.length ≤ 1494 then (elay f (epay f).1, 0) else ([], 3)
    else ([], (epay f).2)
  else ([], ecode f.code f.sess)
/-- An error of Get. -/
def ebad (k : Nat) : Fr × Nat × Nat := (fr0, 0, k)
/-- What a payload is. -/
def eread (c s n : Nat) (m : List Nat) : Fr × Nat × Nat :=
  if c = 0 then
    match m with
    | x :: y :: t => if (bgetB (x * 256 + y) t).2 = 0 then (⟨c, s, [], (bgetB (x * 256 + y) t).1⟩, 6 + n, 0) else ebad (bgetB (x * 256 + y) t).2
    | _ => ebad 2
  else if (tgget m).2.2 = 0 then (⟨c, s, (tgget m).1, pk0⟩, 6 + n, 0) else ebad (tgget m).2.2
/-- What Get answers: a frame, how many octets it has, the error's number. -/
def egetB : List Nat → Fr × Nat × Nat
  | v :: c :: s1 :: s2 :: n1 :: n2 :: t =>
    if v = 17 then
      if ecode c (s1 * 256 + s2) = 0 then
        if n1 * 256 + n2 ≤ 1494 then
          if n1 * 256 + n2 ≤ t.length then eread c (s1 * 256 + s2) (n1 * 256 + n2) (t.take (n1 * 256 + n2)) else ebad 2
        else ebad 3
      else ebad (ecode c (s1 * 256 + s2))
    else ebad 4
  | _ => ebad 2
/-- The first unique tag. -/
def euniq (l : List (Nat × List Nat)) : Option (List Nat) := (l.find? fun o => o.1 == 259).map fun o => o.2
/-- What Answers answers. -/
def eansB (f o : Fr) : Bool :=
  (decide (f.code = 7) && decide (o.code = 9) || decide (f.code = 101) && decide (o.code = 25)) &&
    (match euniq o.tags with
     | none => true
     | some x => decide (euniq f.tags = some x))

theorem ecode_le (c s : Nat) : ecode c s = 0 ∨ ecode c s = 5 ∨ ecode c s = 8 := by
  unfold ecode
  split
  · split
    · exact .inr (.inl rfl)
    · exact .inl rfl
  · split
    · split
      · exact .inl rfl
      · exact .inr (.inl rfl)
    · split
      · exact .inl rfl
      · exact .inr (.inr rfl)
theorem elay_len (f : Fr) (m : List Nat) : (elay f m).length = m.length + 6 := rfl
theorem eput_ok {f : Fr} {m : List Nat} (h : eputB f = (m, 0)) : ecode f.code f.sess = 0 ∧ (epay f).2 = 0 ∧ (epay f).1.length ≤ 1494 ∧ m = elay f (epay f).1 := by
  unfold eputB at h
  by_cases h1 : ecode f.code f.sess = 0
  · rw [if_pos h1] at h
    by_cases h2 : (epay f).2 = 0
    · rw [if_pos h2] at h
      by_cases h3 : (epay f).1.length ≤ 1494
      · rw [if_pos h3] at h
        injection h with e _
        exact ⟨h1, h2, h3, e.symm⟩
      · rw [if_neg h3] at h
        injection h with _ e
        exact absurd e (by decide)
    · rw [if_neg h2] at h
      injection h with _ e
      exact absurd e h2
  · rw [if_neg h1] at h
    injection h with _ e
    exact absurd e h1
theorem eput_err {f : Fr} {m : List Nat} {k : Nat} (h : eputB f = (m, k)) (hk : k ≠ 0) : m = [] := by
  unfold eputB at h
  split at h
  · split at h
    · split at h
      · injection h with _ e
        exact absurd e.symm hk
      · injection h with e _
        exact e.symm
    · injection h with e _
      exact e.symm
  · injection h with e _
    exact e.symm
theorem epay_by {f : Fr} (hf : f.ok) (h : (epay f).2 = 0) : By (epay f).1 := by
  unfold epay at h ⊢
  by_cases h1 : f.code = 0
  · rw [if_pos h1] at h ⊢
    by_cases h2 : f.tags = []
    · rw [if_pos h2] at h ⊢
      by_cases h3 : (bputB f.pkt).2 = 0
      · rw [if_pos h3]
        have hp := hf.pkt.proto
        have hm := bput_by hf.pkt (m := (bputB f.pkt).1) (Prod.ext rfl h3)
        intro x hx
        rcases List.mem_cons.1 hx with rfl | hx
        · show f.pkt.proto / 256 < 256; omega
        · rcases List.mem_cons.1 hx with rfl | hx
          · show f.pkt.proto % 256 < 256; omega
          · exact hm x hx
      · rw [if_neg h3] at h
        exact absurd h h3
    · rw [if_neg h2] at h
      exact absurd h (by decide)
  · rw [if_neg h1] at h ⊢
    by_cases h2 : f.pkt = pk0
    · rw [if_pos h2] at h ⊢
      by_cases h3 : tgerr f.tags = 0
      · rw [if_pos h3]
        exact tgput_by hf.tags h3
      · rw [if_neg h3] at h
        exact absurd h h3
    · rw [if_neg h2] at h
      exact absurd h (by decide)
theorem elay_by {f : Fr} {m : List Nat} (hf : f.ok) (hm : By m) (hl : m.length ≤ 1494) : By (elay f m) := by
  have hc := hf.code
  have hs := hf.sess
  intro x hx
  unfold elay at hx
  rcases List.mem_cons.1 hx with rfl | hx
  · omega
  rcases List.mem_cons.1 hx with rfl | hx
  · exact hc
  rcases List.mem_cons.1 hx with rfl | hx
  · omega
  rcases List.mem_cons.1 hx with rfl | hx
  · omega
  rcases List.mem_cons.1 hx with rfl | hx
  · omega
  rcases List.mem_cons.1 hx with rfl | hx
  · omega
  exact hm x hx
theorem eput_by {f : Fr} {m : List Nat} (hf : f.ok) (h : eputB f = (m, 0)) : By m := by
  obtain ⟨h1, h2, h3, rfl⟩ := eput_ok h
  exact elay_by hf (epay_by hf h2) h3
/-- A payload is read as it was written. -/
theorem eread_pay {f : Fr} (hf : f.ok) (h : (epay f).2 = 0) (n : Nat) : eread f.code f.sess n (epay f).1 = (f, 6 + n, 0) := by
  obtain ⟨c, s, l, p⟩ := f
  dsimp only at *
  unfold epay at h ⊢
  unfold eread
  dsimp only at h ⊢
  by_cases h1 : c = 0
  · rw [if_pos h1] at h ⊢
    rw [if_pos h1]
    by_cases h2 : l = []
    · rw [if_pos h2] at h ⊢
      by_cases h3 : (bputB p).2 = 0
      · rw [if_pos h3]
        dsimp only
        have hg := bget_put hf.pkt (m := (bputB p).1) (Prod.ext rfl h3)
        dsimp only at hg
        rw [show p.proto / 256 * 256 + p.proto % 256 = p.proto by omega, hg, if_pos rfl, h2]
      · rw [if_neg h3] at h
        exact absurd h h3
    · rw [if_neg h2] at h
      exact absurd h (by decide)
  · rw [if_neg h1] at h ⊢
    rw [if_neg h1]
    by_cases h2 : p = pk0
    · rw [if_pos h2] at h ⊢
      by_cases h3 : tgerr l = 0
      · rw [if_pos h3]
        dsimp only
        rw [tgget_own l h3, if_pos rfl, h2]
      · rw [if_neg h3] at h
        exact absurd h h3
    · rw [if_neg h2] at h
      exact absurd h (by decide)
/-- A frame is read as it was written, whatever stands behind it. -/
theorem eget_put {f : Fr} (hf : f.ok) {m : List Nat} (h : eputB f = (m, 0)) (r : List Nat) : egetB (m ++ r) = (f, m.length, 0) := by
  obtain ⟨h1, h2, h3, rfl⟩ := eput_ok h
  have hs := hf.sess
  generalize hq : (epay f).1 = q at *
  have e : elay f q ++ r = 17 :: f.code :: f.sess / 256 :: f.sess % 256 :: q.length / 256 :: q.length % 256 :: (q ++ r) := rfl
  rw [e]
  simp only [egetB]
  rw [if_pos trivial, show f.sess / 256 * 256 + f.sess % 256 = f.sess by omega, if_pos h1, show q.length / 256 * 256 + q.length % 256 = q.length by omega, if_pos h3, if_pos (by rw [List.length_append]; omega), List.take_left, ← hq, eread_pay hf h2, hq, elay_len, Nat.add_comm]
theorem eget_own {f : Fr} (hf : f.ok) {m : List Nat} (h : eputB f = (m, 0)) : egetB m = (f, m.length, 0) := by
  have := eget_put hf h []
  rw [List.append_nil] at this
  exact this
/-- A frame cut off is refused. -/
theorem eget_cut {f : Fr} {m : List Nat} (h : eputB f = (m, 0)) {k : Nat} (hk : k < m.length) : egetB (m.take k) = ebad 2 := by
  obtain ⟨h1, h2, h3, rfl⟩ := eput_ok h
  generalize (epay f).1 = q at *
  rw [elay_len] at hk
  match k, hk with
  | 0, _ => rfl
  | 1, _ => rfl
  | 2, _ => rfl
  | 3, _ => rfl
  | 4, _ => rfl
  | 5, _ => rfl
  | k + 6, hk =>
    have e : (elay f q).take (k + 6) = 17 :: f.code :: f.sess / 256 :: f.sess % 256 :: q.length / 256 :: q.length % 256 :: q.take k := rfl
    rw [e]
    simp only [egetB]
    rw [if_pos trivial, show f.sess / 256 * 256 + f.sess % 256 = f.sess by omega, if_pos h1, show q.length / 256 * 256 + q.length % 256 = q.length by omega, if_pos h3, if_neg (by rw [List.length_take]; omega)]
theorem ebad_ne {k : Nat} {f : Fr} {n : Nat} (h : ebad k = (f, n, 0)) : k = 0 := by
  unfold ebad at h
  injection h with _ h
  injection h with _ h
/-- What octets that are read begin with. -/
theorem eget_ok {b : List Nat} {f : Fr} {n : Nat} (h : egetB b = (f, n, 0)) : ∃ s1 s2 n1 n2 t, b = 17 :: f.code :: s1 :: s2 :: n1 :: n2 :: t ∧ f.sess = s1 * 256 + s2 ∧ ecode f.code f.sess = 0 ∧ n = 6 + (n1 * 256 + n2) ∧ n1 * 256 + n2 ≤ 1494 ∧ n1 * 256 + n2 ≤ t.length ∧ eread f.code f.sess (n1 * 256 + n2) (t.take (n1 * 256 + n2)) = (f, n, 0) := by
  match b, h with
  | [], h => exact absurd (ebad_ne h) (by decide)
  | [_], h => exact absurd (ebad_ne h) (by decide)
  | [_, _], h => exact absurd (ebad_ne h) (by decide)
  | [_, _, _], h => exact absurd (ebad_ne h) (by decide)
  | [_, _, _, _], h => exact absurd (ebad_ne h) (by decide)
  | [_, _, _, _, _], h => exact absurd (ebad_ne h) (by decide)
  | v :: c :: s1 :: s2 :: n1 :: n2 :: t, h =>
    simp only [egetB] at h
    by_cases g1 : v = 17
    · rw [if_pos g1] at h
      by_cases g2 : ecode c (s1 * 256 + s2) = 0
      · rw [if_pos g2] at h
        by_cases g3 : n1 * 256 + n2 ≤ 1494
        · rw [if_pos g3] at h
          by_cases g4 : n1 * 256 + n2 ≤ t.length
          · rw [if_pos g4] at h
            have key : f.code = c ∧ f.sess = s1 * 256 + s2 ∧ n = 6 + (n1 * 256 + n2) := by
              have h' := h
              unfold eread at h'
              split at h'
              · split at h'
                · split at h'
                  · injection h' with e1 e2
                    injection e2 with e2 _
                    subst e1
                    exact ⟨rfl, rfl, e2.symm⟩
                  · rename_i g5
                    exact absurd (ebad_ne h') g5
                · exact absurd (ebad_ne h') (by decide)
              · split at h'
                · injection h' with e1 e2
                  injection e2 with e2 _
                  subst e1
                  exact ⟨rfl, rfl, e2.symm⟩
                · rename_i g5
                  exact absurd (ebad_ne h') g5
            obtain ⟨e1, e2, e3⟩ := key
            subst g1
            exact ⟨s1, s2, n1, n2, t, by rw [e1], e2, by rw [e1, e2]; exact g2, e3, g3, g4, by rw [e1, e2]; exact h⟩
          · rw [if_neg g4] at h
            exact absurd (ebad_ne h) (by decide)
        · rw [if_neg g3] at h
          exact absurd (ebad_ne h) (by decide)
      · rw [if_neg g2] at h
        exact absurd (ebad_ne h) g2
    · rw [if_neg g1] at h
      exact absurd (ebad_ne h) (by decide)
/-- An error has no frame. -/
theorem eget_err {b : List Nat} {f : Fr} {n k : Nat} (h : egetB b = (f, n, k)) (hk : k ≠ 0) : f = fr0 ∧ n = 0 := by
  have bad : ∀ {j : Nat}, ebad j = (f, n, k) → f = fr0 ∧ n = 0 := fun e => by
    unfold ebad at e
    injection e with e1 e2
    injection e2 with e2 _
    exact ⟨e1.symm, e2.symm⟩
  match b, h with
  | [], h => exact bad h
  | [_], h => exact bad h
  | [_, _], h => exact bad h
  | [_, _, _], h => exact bad h
  | [_, _, _, _], h => exact bad h
  | [_, _, _, _, _], h => exact bad h
  | v :: c :: s1 :: s2 :: n1 :: n2 :: t, h =>
    simp only [egetB] at h
    split at h
    · split at h
      · split at h
        · split at h
          · unfold eread at h
            split at h
            · split at h
              · split at h
                · injection h with _ e
                  injection e with _ e
                  exact absurd e.symm hk
                · exact bad h
              · exact bad h
            · split at h
              · injection h with _ e
                injection e with _ e
                exact absurd e.symm hk
              · exact bad h
          · exact bad h
        · exact bad h
      · exact bad h
    · exact bad h
/-- What is read is one of Go's frames, and can be written. -/
theorem eput_get {b : List Nat} (hb : By b) (hl : b.length ≤ 1073741824) {f : Fr} {n : Nat} (h : egetB b = (f, n, 0)) : f.ok ∧ n ≤ b.length ∧ ∃ m, eputB f = (m, 0) ∧ m.length ≤ n := by
  obtain ⟨s1, s2, n1, n2, t, rfl, hs, hc, hn, h15, hle, hr⟩ := eget_ok h
  have q1 : f.code < 256 := hb _ (by simp)
  have q2 : s1 < 256 := hb _ (by simp)
  have q3 : s2 < 256 := hb _ (by simp)
  have q4 : f.sess < 65536 := by omega
  have ht : By t := fun x hx => hb x (by simp [hx])
  have hlt : t.length ≤ 1073741824 := by simp only [List.length_cons] at hl; omega
  generalize hz : n1 * 256 + n2 = z at *
  have hp : By (t.take z) := ht.take z
  have hpl : (t.take z).length = z := by rw [List.length_take]; omega
  generalize ht' : t.take z = m at *
  have key : f.ok ∧ (epay f).2 = 0 ∧ (epay f).1.length ≤ z := by
    unfold eread at hr
    by_cases g1 : f.code = 0
    · rw [if_pos g1] at hr
      match m, hr with
      | [], hr => exact absurd (ebad_ne hr) (by decide)
      | [_], hr => exact absurd (ebad_ne hr) (by decide)
      | x :: y :: u, hr =>
        dsimp only at hr
        have hx : x < 256 := hp x (by simp)
        have hy : y < 256 := hp y (by simp)
        have hu : By u := fun a ha => hp a (by simp [ha])
        have hul : u.length + 2 = z := by rw [← hpl]; simp
        obtain ⟨yy, k, hg⟩ : ∃ yy k, bgetB (x * 256 + y) u = (yy, k) := ⟨_, _, rfl⟩
        rw [hg] at hr
        dsimp only at hr
        by_cases g2 : k = 0
        · subst g2
          rw [if_pos rfl] at hr
          have ef : f = ⟨f.code, f.sess, [], yy⟩ := by
            injection hr with e _
            exact e.symm
          obtain ⟨o1, -⟩ := bget_ok (by omega) hu hg (by omega)
          obtain ⟨o2, mm, o3, o4, -⟩ := bput_get (by omega) hu hg
          have e1 : f.tags = [] := by rw [ef]
          have e2 : f.pkt = yy := by rw [ef]
          refine ⟨⟨q1, q4, by rw [e1]; exact fun _ h => (List.not_mem_nil h).elim, by rw [e2]; exact o1⟩, ?_, ?_⟩
          · unfold epay
            rw [if_pos g1, if_pos e1, e2, o3]
            rfl
          · unfold epay
            rw [if_pos g1, if_pos e1, e2, o3, if_pos rfl]
            simp only [List.length_cons]
            omega
        · rw [if_neg g2] at hr
          exact absurd (ebad_ne hr) g2
    · rw [if_neg g1] at hr
      obtain ⟨ll, cc, k, hg⟩ : ∃ l c k, tgget m = (l, c, k) := ⟨_, _, _, rfl⟩
      rw [hg] at hr
      dsimp only at hr
      by_cases g2 : k = 0
      · subst g2
        rw [if_pos rfl] at hr
        have ef : f = ⟨f.code, f.sess, ll, pk0⟩ := by
          injection hr with e _
          exact e.symm
        obtain ⟨g3, g4, g5, g6, g7⟩ := tgput_get m hp (by rw [hg])
        rw [hg] at g3 g4 g5 g6 g7
        dsimp only at g3 g4 g5 g6 g7
        have e1 : f.tags = ll := by rw [ef]
        have e2 : f.pkt = pk0 := by rw [ef]
        refine ⟨⟨q1, q4, by rw [e1]; exact g5, by rw [e2]; exact ⟨by decide, by decide, by decide, fun x hx => (by cases hx), by decide, by decide, By.nil, By.nil, By.nil, fun x hx => (by cases hx)⟩⟩, ?_, ?_⟩
        · unfold epay
          rw [if_neg g1, if_pos e2, e1, g4]
          rfl
        · unfold epay
          rw [if_neg g1, if_pos e2, e1, g4, if_pos rfl]
          dsimp only
          rcases g7 with ⟨g8, -⟩ | ⟨g8, -⟩ <;> omega
      · rw [if_neg g2] at hr
        exact absurd (ebad_ne hr) g2
  obtain ⟨k1, k2, k3⟩ := key
  refine ⟨k1, by simp only [List.length_cons]; omega, elay f (epay f).1, ?_, ?_⟩
  · unfold eputB
    rw [if_pos hc, if_pos k2, if_pos (by omega)]
  · rw [elay_len]
    omega
theorem epay_len {f : Fr} (hf : fewP f.pkt = true) (hn : f.tags.length ≤ 60) (hd : tgdat f.tags ≤ 1000) : (epay f).1.length ≤ 2002 := by
  unfold epay
  split
  · split
    · split
      · have := bput_len (p := f.pkt) (m := (bputB f.pkt).1) (k := (bputB f.pkt).2) rfl hf
        simp only [List.length_cons]
        omega
      · exact Nat.zero_le _
    · exact Nat.zero_le _
  · split
    · split
      · show (tgput f.tags).length ≤ 2002
        rw [tgput_len]
        omega
      · exact Nat.zero_le _
    · exact Nat.zero_le _
theorem eput_len {f : Fr} {m : List Nat} {k : Nat} (h : eputB f = (m, k)) : m.length ≤ 1500 := by
  by_cases hk : k = 0
  · subst hk
    obtain ⟨h1, h2, h3, rfl⟩ := eput_ok h
    rw [elay_len]
    omega
  · rw [eput_err h hk]
    exact Nat.zero_le _
/-- No frame answers itself, or what answers it. -/
theorem eans_self (f : Fr) : eansB f f = false := by
  unfold eansB
  rw [Bool.and_eq_false_iff]
  refine .inl ?_
  rw [Bool.or_eq_false_iff, Bool.and_eq_false_iff, Bool.and_eq_false_iff]
  simp only [decide_eq_false_iff_not]
  omega
theorem eans_both (f o : Fr) : (eansB f o && eansB o f) = false := by
  unfold eansB
  rw [Bool.and_eq_false_iff, Bool.and_eq_false_iff, Bool.and_eq_false_iff]
  by_cases h : f.code = 7 ∨ f.code = 101
  · refine .inr (.inl ?_)
    rw [Bool.or_eq_false_iff, Bool.and_eq_false_iff, Bool.and_eq_false_iff]
    simp only [decide_eq_false_iff_not]
    omega
  · refine .inl (.inl ?_)
    rw [Bool.or_eq_false_iff, Bool.and_eq_false_iff, Bool.and_eq_false_iff]
    simp only [decide_eq_false_iff_not]
    omega
/-- With a unique tag ahead. -/
theorem euniq_cons (a : List Nat) (l : List (Nat × List Nat)) : euniq ((259, a) :: l) = some a := rfl
theorem eans_tags (c d s r : Nat) (a b : List Nat) (l m : List (Nat × List Nat)) (p q : Pk) : eansB ⟨c, s, (259, a) :: l, p⟩ ⟨d, r, (259, b) :: m, q⟩ = ((decide (c = 7) && decide (d = 9) || decide (c = 101) && decide (d = 25)) && decide (a = b)) := by
  unfold eansB
  rw [euniq_cons, euniq_cons]
  congr 1
  simp
end Go.Proofs.Ytmhjnghomihjlaa
