
/-
  The mathematics of layer 24: each packet once, in order: what a joiner tells whose pieces all come. No condition.
-/
import Derived.Test.YtamdaepeogmboaaDoorJoiY
import Derived.Test.YtamdaepeogmboaaDoorJoiH
namespace Go.Proofs.YtamdaepeogmboaaDoor
set_option maxRecDepth 4000

theorem jstp_wait {j k : Jn} (h : jstp j = some k) : k.wait.length ≤ j.wait.length := by
  cases hp : jat j.wait j.next with
  | some p =>
    rw [jstp_thr hp] at h
    injection h with h
    obtain ⟨t, m, d, e, -⟩ := jthr_form { j with wait := jwo j.wait j.next } p
    rw [e] at h
    subst h
    exact jwo_len _ _
  | none =>
    by_cases he : jend j ≤ j.next
    · rw [jstp_none hp he] at h; cases h
    · rw [jstp_lack hp he] at h
      injection h with h
      subst h
      exact Nat.le_refl _
theorem jit_wait (n : Nat) (j : Jn) : (jit n j).wait.length ≤ j.wait.length := by
  induction n generalizing j with
  | zero => exact Nat.le_refl _
  | succ n ih =>
    cases hj : jstp j with
    | none => rw [jit_stop hj]; exact Nat.le_refl _
    | some k =>
      have e : jit (n + 1) j = jit n k := by simp [jit, hj]
      rw [e]
      exact Nat.le_trans (ih k) (jstp_wait hj)
theorem jrun_wait (j : Jn) : (jrun j).wait.length ≤ j.wait.length := by
  unfold jrun
  split
  · exact jit_wait _ _
  · exact Nat.le_refl _

section
variable {X : List Pc} {n : Nat} {lane : Nat → Nat} {came : Nat → Prop} {s0 : Jn} {T : List Ev} {m : Nat} {j : Jn}
/-- The place of the piece that is next by its lane is its number. -/
theorem Jal.place (h : Jal X n lane came s0 T m j) {i : Nat} {x : Pc} (hx : X[i]? = some x) (hnum : x.n = (i : Int)) (hmod : X.length ≤ frmod j.sh) (hno : ¬ came i) : jlast j (lane i) x = (i : Int) := by
  have hi := (List.getElem?_eq_some_iff.1 hx).1
  obtain ⟨v, hv⟩ : ∃ v, j.last[lane i]? = some v := ⟨_, List.getElem?_eq_getElem (by rw [h.ln]; exact h.lt i hi)⟩
  have hvi : -1 ≤ v ∧ v < (i : Int) := by
    rcases h.la _ v hv with ⟨h1, _⟩ | ⟨i', h1, h2, h3, _⟩
    · omega
    · have : i' < i := by
        rcases Nat.lt_trichotomy i' i with h4 | h4 | h4
        · exact h4
        · subst h4; exact absurd h2 hno
        · exact absurd (h.cl i i' h3.symm h4 h2) hno
      omega
  unfold jlast jplc
  rw [show j.last.getD (lane i) (-1) = v by rw [List.getD_eq_getElem?_getD, hv]; rfl, hnum, Int.emod_eq_of_lt (by omega) (by omega)]
  omega
/-- A piece comes. -/
theorem Jal.came_ (h : Jal X n lane came s0 T m j) {i : Nat} {x : Pc} (hx : X[i]? = some x) (hnum : x.n = (i : Int)) (hmod : X.length ≤ frmod j.sh) (hno : ¬ came i) (hcl : ∀ i', lane i' = lane i → i' < i → came i') :
    Jal X n lane (fun k => came k ∨ k = i) s0 (T ++ j.told) m (jcame j (lane i) x) ∧ (jcame j (lane i) x).wait.length = j.wait.length + 1 := by
  have hp := h.place hx hnum hmod hno
  have hi := (List.getElem?_eq_some_iff.1 hx).1
  have him : m ≤ i := by
    rcases Nat.lt_or_ge i m with h1 | h1
    · exact absurd (h.al i h1) hno
    · exact h1
  have hat : jat j.wait (i : Int) = none := by
    cases hj : jat j.wait (i : Int) with
    | none => rfl
    | some y =>
      obtain ⟨i', _, h3, _, h5⟩ := h.w1 _ (jat_mem hj)
      have h6 : (i : Int) = (i' : Int) := h5
      have e : i' = i := by omega
      subst e
      exact absurd h3 hno
  have hwe : (jcame j (lane i) x).wait = j.wait ++ [((i : Int), x)] := by
    show (if jat j.wait (jlast j (lane i) x) = none ∧ j.next ≤ jlast j (lane i) x then j.wait ++ [(jlast j (lane i) x, x)] else j.wait) = _
    rw [hp, if_pos ⟨hat, by rw [h.nx]; omega⟩]
  refine ⟨⟨h.nx, ?_, fun k v hv => ?_, fun a b hab hlt hb => ?_, fun a ha => ?_, h.lt, fun y hy => ?_, fun a y ha hca hy => ?_, fun a ha => .inl (h.al a ha), ?_⟩, by rw [hwe, List.length_append]; rfl⟩
  · show (j.last.set _ _).length = n
    rw [List.length_set]; exact h.ln
  · have hv' : (j.last.set (lane i) (jlast j (lane i) x))[k]? = some v := hv
    rw [hp] at hv'
    by_cases hk : lane i = k
    · subst hk
      rw [List.getElem?_set_self (by rw [h.ln]; exact h.lt i hi)] at hv'
      injection hv' with hv'
      refine .inr ⟨i, hv'.symm, .inr rfl, rfl, fun a ha hal => ?_⟩
      rcases ha with ha | ha
      · rcases Nat.lt_or_ge i a with h1 | h1
        · exact absurd (h.cl i a hal.symm h1 ha) hno
        · exact h1
      · omega
    · rw [List.getElem?_set_ne hk] at hv'
      rcases h.la k v hv' with ⟨h1, h2⟩ | ⟨a, h1, h2, h3, h4⟩
      · exact .inl ⟨h1, fun a ha => ha.elim (h2 a) (fun e => by subst e; exact hk)⟩
      · exact .inr ⟨a, h1, .inl h2, h3, fun b hb hlb => hb.elim (fun hb => h4 b hb hlb) (fun e => by subst e; exact absurd hlb hk)⟩
  · rcases hb with hb | hb
    · exact .inl (h.cl a b hab hlt hb)
    · subst hb
      exact .inl (hcl a hab hlt)
  · rcases ha with ha | ha
    · exact h.cn a ha
    · subst ha; exact hi
  · rw [hwe] at hy
    rcases List.mem_append.1 hy with hy | hy
    · obtain ⟨a, h1, h2, h3, h4⟩ := h.w1 y hy
      exact ⟨a, h1, .inl h2, h3, h4⟩
    · rw [List.mem_singleton] at hy
      subst hy
      exact ⟨i, him, .inr rfl, hx, rfl⟩
  · rw [hwe]
    rcases hca with hca | hca
    · exact List.mem_append.2 (.inl (h.w2 a y ha hca hy))
    · subst hca
      rw [hx] at hy
      injection hy with hy
      subst hy
      simp
  · rw [← h.st]
    simp [jem, jcame]
/-- .. and all is gone through that can be. -/
theorem Jal.feed (h : Jal X n lane came s0 T m j) (hn : 0 < n) {i : Nat} {x : Pc} (hx : X[i]? = some x) (hnum : x.n = (i : Int)) (hmod : X.length ≤ frmod j.sh) (hno : ¬ came i) (hcl : ∀ i', lane i' = lane i → i' < i → came i') (hroom : (j.wait.length : Int) + 1 ≤ j.room) :
    ∃ m', Jal X n lane (fun k => came k ∨ k = i) s0 (T ++ j.told) m' (jfeed j (lane i) x) ∧ ¬ (came m' ∨ m' = i) ∧ (jfeed j (lane i) x).wait.length ≤ j.wait.length + 1 ∧ Jsame (jfeed j (lane i) x) { j with last := (jfeed j (lane i) x).last } ∧ jstp (jfeed j (lane i) x) = none := by
  obtain ⟨h1, h2⟩ := h.came_ hx hnum hmod hno hcl
  obtain ⟨m', h3, h4, h5⟩ := h1.run hn
  have h6 := jrun_wait (jcame j (lane i) x)
  rw [h2] at h6
  have hs := jrun_same (jcame j (lane i) x)
  have e : jfeed j (lane i) x = jrun (jcame j (lane i) x) := by
    unfold jfeed
    exact jover_of (n := 0) (jush_none (by show ¬ j.room < ((jrun (jcame j (lane i) x)).wait.length : Int); omega))
  rw [e]
  exact ⟨m', h4, h5, h6, ⟨hs.sh, hs.room, hs.most, rfl⟩, h3⟩
/-- When all came: nothing waits, all are gone through. -/
theorem Jal.all (h : Jal X n lane came s0 T m j) (hm : ¬ came m) (ha : ∀ i, i < X.length → came i) : j.wait = [] ∧ T ++ j.told = (X.foldl jgo s0).told := by
  have hmn := h.mn
  have e : m = X.length := by
    rcases Nat.eq_or_lt_of_le hmn with h1 | h1
    · exact h1
    · exact absurd (ha m h1) hm
  constructor
  · cases hw : j.wait with
    | nil => rfl
    | cons y t =>
      obtain ⟨i, h1, h2, _, _⟩ := h.w1 y (by rw [hw]; exact List.mem_cons_self ..)
      have := h.cn i h2
      omega
  · have := h.st
    rw [e, List.take_of_length_le (Nat.le_refl _)] at this
    rw [← this]
    rfl
end
/-- Nothing came yet. -/
theorem Jal.start {X : List Pc} {n : Nat} {lane : Nat → Nat} (s : Bool) (room most : Int) (hl : ∀ i, i < X.length → lane i < n) : Jal X n lane (fun _ => False) (jnew s n room most) [] 0 (jnew s n room most) :=
  ⟨rfl, List.length_replicate, fun k v hv => .inl ⟨(List.mem_replicate.1 (List.mem_of_getElem? hv)).2, fun _ h => h.elim⟩, fun _ _ _ _ h => h, fun _ h => h.elim, hl, (fun _ h => by cases h), fun _ _ _ h => h.elim, fun i h => by omega, rfl⟩
/-- Packets' pieces, one behind the other. -/
theorem packets_whole : ∀ (ls : List (List Pc)) (ds : List (List Nat)), ls.length = ds.length → (∀ (i : Nat) l d, ls[i]? = some l → ds[i]? = some d → IsPacket l d) → ∀ (j : Jn), j.mode ≠ 1 → (∀ d ∈ ds, (d.length : Int) ≤ j.most) →
    (ls.flatten.foldl jgo j).told = j.told ++ ds.map (fun d => ⟨0, d, 0, 0⟩)
  | [], [], _, _, j, _, _ => by simp
  | [], _ :: _, h, _, _, _, _ => by simp at h
  | _ :: _, [], h, _, _, _, _ => by simp at h
  | l :: ls, d :: ds, h, hp, j, hm, hd => by
    rw [List.flatten_cons, List.foldl_append, packet_whole (hp 0 l d rfl rfl) hm (hd d (List.mem_cons_self ..))]
    have key := packets_whole ls ds (by simpa using h) (fun i l d hl hd => hp (i + 1) l d (by simpa using hl) (by simpa using hd)) { j with next := j.next + l.length, mode := 0, data := [], told := j.told ++ [⟨0, d, 0, 0⟩] } (by show (0 : Int) ≠ 1; decide) (fun d hd' => hd d (List.mem_cons_of_mem _ hd'))
    rw [key]
    simp
end Go.Proofs.YtamdaepeogmboaaDoor
