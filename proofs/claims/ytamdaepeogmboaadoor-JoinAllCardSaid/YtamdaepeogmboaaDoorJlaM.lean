
/-
  The mathematics of JoinAll: packets parted one behind the other, their pieces dealt to lanes, and taken from the lanes in any order. No condition.
-/
import Derived.Test.YtamdaepeogmboaaDoorJsoM
namespace Go.Proofs.YtamdaepeogmboaaDoor
set_option maxRecDepth 4000

/-- What of each lane is yet to come. -/
structure Rem (L n : Nat) (lane : Nat → Nat) (rem : List (List Nat)) : Prop where
  len : rem.length = n
  mem : ∀ (i : Nat) l, rem[i]? = some l → ∀ g ∈ l, g < L ∧ lane g = i
  srt : ∀ (i : Nat) l, rem[i]? = some l → l.Pairwise (· < ·)
  up : ∀ (i : Nat) l, rem[i]? = some l → ∀ g ∈ l, ∀ g', g < g' → g' < L → lane g' = i → g' ∈ l
/-- It came. -/
def jga (L : Nat) (lane : Nat → Nat) (rem : List (List Nat)) (g : Nat) : Prop := g < L ∧ ∀ l, rem[lane g]? = some l → g ∉ l
/-- The lanes, dealt up to k pieces. -/
def jdl (n : Nat) (lane : Nat → Nat) (k : Nat) : List (List Nat) := (List.range n).map fun i => (List.range k).filter fun g => decide (lane g = i)
def jlf (rem : List (List Nat)) : Nat := (rem.map List.length).sum
section
variable {L n : Nat} {lane : Nat → Nat} {rem : List (List Nat)}
theorem jdl_at {k i : Nat} (hi : i < n) : (jdl n lane k)[i]? = some ((List.range k).filter fun g => decide (lane g = i)) := by
  unfold jdl
  rw [List.getElem?_map, List.getElem?_range hi]
  rfl
theorem jdl_len (k : Nat) : (jdl n lane k).length = n := by simp [jdl]
theorem jdl_succ {k i : Nat} (hi : lane k = i) (_ : i < n) {l : List Nat} (hl : (jdl n lane k)[i]? = some l) : jdl n lane (k + 1) = (jdl n lane k).set i (l ++ [k]) := by
  apply List.ext_getElem?
  intro j
  rw [List.getElem?_set]
  by_cases hj : j < n
  · rw [jdl_at hj, List.range_succ, List.filter_append]
    by_cases e : i = j
    · subst e
      rw [if_pos rfl, if_pos (by rw [jdl_len]; exact hj)]
      rw [jdl_at hj] at hl
      injection hl with hl
      rw [hl]
      simp [hi]
    · rw [if_neg e, jdl_at hj]
      simp [hi, e]
  · rw [List.getElem?_eq_none (by rw [jdl_len]; omega)]
    by_cases e : i = j
    · subst e
      rw [if_pos rfl, if_neg (by rw [jdl_len]; omega)]
    · rw [if_neg e, List.getElem?_eq_none (by rw [jdl_len]; omega)]
theorem Rem.start : Rem L n lane (jdl n lane L) where
  len := jdl_len L
  mem := by
    intro i l hl g hg
    have hi : i < n := by have := (List.getElem?_eq_some_iff.1 hl).1; rwa [jdl_len] at this
    rw [jdl_at hi] at hl
    injection hl with hl
    subst hl
    have := List.mem_filter.1 hg
    exact ⟨List.mem_range.1 this.1, by simpa using this.2⟩
  srt := by
    intro i l hl
    have hi : i < n := by have := (List.getElem?_eq_some_iff.1 hl).1; rwa [jdl_len] at this
    rw [jdl_at hi] at hl
    injection hl with hl
    subst hl
    exact List.Pairwise.filter _ List.pairwise_lt_range
  up := by
    intro i l hl g _ g' _ h1 h2
    have hi : i < n := by have := (List.getElem?_eq_some_iff.1 hl).1; rwa [jdl_len] at this
    rw [jdl_at hi] at hl
    injection hl with hl
    subst hl
    exact List.mem_filter.2 ⟨List.mem_range.2 h1, by simpa using h2⟩
theorem Rem.none_ (hl : ∀ g, g < L → lane g < n) (g : Nat) : ¬ jga L lane (jdl n lane L) g := by
  rintro ⟨h1, h2⟩
  exact h2 _ (jdl_at (hl g h1)) (List.mem_filter.2 ⟨List.mem_range.2 h1, by simp⟩)
theorem Rem.pop (h : Rem L n lane rem) {i g : Nat} {r : List Nat} (hi : rem[i]? = some (g :: r)) :
    Rem L n lane (rem.set i r) ∧ (∀ g', jga L lane (rem.set i r) g' ↔ jga L lane rem g' ∨ g' = g) ∧ ¬ jga L lane rem g ∧ (∀ g', lane g' = lane g → g' < g → jga L lane rem g') ∧ g < L ∧ lane g = i ∧ i < n := by
  have hil := (List.getElem?_eq_some_iff.1 hi).1
  have hm := h.mem i _ hi g (List.mem_cons_self ..)
  have hp := List.pairwise_cons.1 (h.srt i _ hi)
  have hat : ∀ (j : Nat) (l : List Nat), (rem.set i r)[j]? = some l → (i = j ∧ l = r) ∨ (i ≠ j ∧ rem[j]? = some l) := by
    intro j l hj
    rw [List.getElem?_set] at hj
    by_cases e : i = j
    · rw [if_pos e, if_pos hil] at hj
      injection hj with hj
      exact .inl ⟨e, hj.symm⟩
    · rw [if_neg e] at hj
      exact .inr ⟨e, hj⟩
  have hself : (rem.set i r)[i]? = some r := by rw [List.getElem?_set, if_pos rfl, if_pos hil]
  have hoth : ∀ j, i ≠ j → (rem.set i r)[j]? = rem[j]? := fun j e => by rw [List.getElem?_set, if_neg e]
  refine ⟨⟨by rw [List.length_set]; exact h.len, ?_, ?_, ?_⟩, ?_, ?_, ?_, hm.1, hm.2, by rw [← h.len]; exact hil⟩
  · intro j l hj x hx
    rcases hat j l hj with ⟨rfl, rfl⟩ | ⟨_, h2⟩
    · exact h.mem i _ hi x (List.mem_cons_of_mem _ hx)
    · exact h.mem j l h2 x hx
  · intro j l hj
    rcases hat j l hj with ⟨rfl, rfl⟩ | ⟨_, h2⟩
    · exact hp.2
    · exact h.srt j l h2
  · intro j l hj x hx x' h1 h2 h3
    rcases hat j l hj with ⟨rfl, rfl⟩ | ⟨_, h4⟩
    · rcases List.mem_cons.1 (h.up i _ hi x (List.mem_cons_of_mem _ hx) x' h1 h2 h3) with e | e
      · have := hp.1 x hx
        omega
      · exact e
    · exact h.up j l h4 x hx x' h1 h2 h3
  · intro g'
    constructor
    · rintro ⟨h1, h2⟩
      by_cases e : g' = g
      · exact .inr e
      · refine .inl ⟨h1, fun l hl hg => ?_⟩
        by_cases e2 : i = lane g'
        · rw [← e2] at hl h2
          rw [hi] at hl
          injection hl with hl
          subst hl
          rcases List.mem_cons.1 hg with e3 | e3
          · exact e e3
          · exact h2 r hself e3
        · exact h2 l (by rw [hoth _ e2]; exact hl) hg
    · rintro (⟨h1, h2⟩ | e)
      · refine ⟨h1, fun l hl hg => ?_⟩
        rcases hat _ _ hl with ⟨e2, rfl⟩ | ⟨_, h4⟩
        · exact h2 (g :: l) (by rw [← e2]; exact hi) (List.mem_cons_of_mem _ hg)
        · exact h2 l h4 hg
      · subst e
        refine ⟨hm.1, fun l hl hg => ?_⟩
        rcases hat _ _ hl with ⟨_, rfl⟩ | ⟨e2, _⟩
        · exact Nat.lt_irrefl _ (hp.1 g' hg)
        · exact e2 hm.2.symm
  · rintro ⟨_, h2⟩
    exact h2 (g :: r) (by rw [hm.2]; exact hi) (List.mem_cons_self ..)
  · intro g' h1 h2
    refine ⟨Nat.lt_trans h2 hm.1, fun l hl hg => ?_⟩
    rw [h1, hm.2, hi] at hl
    injection hl with hl
    subst hl
    rcases List.mem_cons.1 hg with e | e
    · omega
    · have := hp.1 g' e
      omega
theorem jlf_set : ∀ {rem : List (List Nat)} {i g : Nat} {r : List Nat}, rem[i]? = some (g :: r) → jlf (rem.set i r) + 1 = jlf rem
  | [], _, _, _, h => by simp at h
  | x :: t, 0, g, r, h => by
    injection h with h
    subst h
    simp [jlf]
    omega
  | x :: t, i + 1, g, r, h => by
    have := jlf_set (rem := t) (i := i) (g := g) (r := r) (by simpa using h)
    simp only [jlf, List.set_cons_succ, List.map_cons, List.sum_cons] at *
    omega
theorem jlf_zero : ∀ {rem : List (List Nat)}, jlf rem = 0 → ∀ (i : Nat) l, rem[i]? = some l → l = []
  | [], _, _, _, hl => by simp at hl
  | x :: t, h, 0, l, hl => by
    injection hl with hl
    subst hl
    simp only [jlf, List.map_cons, List.sum_cons] at h
    exact List.eq_nil_of_length_eq_zero (by omega)
  | x :: t, h, i + 1, l, hl => by
    simp only [jlf, List.map_cons, List.sum_cons] at h
    exact jlf_zero (rem := t) (by simp only [jlf]; omega) i l (by simpa using hl)
theorem jlf_pos : ∀ {rem : List (List Nat)}, 0 < jlf rem → ∃ (i g : Nat) (r : List Nat), rem[i]? = some (g :: r)
  | [], h => by simp [jlf] at h
  | x :: t, h => by
    cases x with
    | cons g r => exact ⟨0, g, r, rfl⟩
    | nil =>
      obtain ⟨i, g, r, e⟩ := jlf_pos (rem := t) (by simpa [jlf] using h)
      exact ⟨i + 1, g, r, by simpa using e⟩
theorem jlf_take {i : Nat} {l : List Nat} (h : rem[i]? = some l) : jlf (rem.take (i + 1)) = jlf (rem.take i) + l.length := by
  unfold jlf
  rw [List.take_add_one, h, List.map_append, List.sum_append]
  simp
theorem jlf_le : ∀ {rem : List (List Nat)} {i : Nat}, jlf (rem.take i) ≤ jlf rem
  | [], i => by simp [jlf]
  | x :: t, 0 => by simp [jlf]
  | x :: t, i + 1 => by
    have := jlf_le (rem := t) (i := i)
    simp only [jlf, List.take_succ_cons, List.map_cons, List.sum_cons] at *
    omega
/-- How many are dealt. -/
theorem jlf_deal (hl : ∀ g, lane g < n) : ∀ k, jlf (jdl n lane k) = k
  | 0 => by
    have key : ∀ m : Nat, ((List.range m).map fun _ : Nat => (0 : Nat)).sum = 0 := fun m => by
      induction m with
      | zero => rfl
      | succ m ih => rw [List.range_succ, List.map_append, List.sum_append, ih]; rfl
    unfold jlf jdl
    rw [List.map_map]
    exact key n
  | k + 1 => by
    have ih := jlf_deal hl k
    have h1 := jdl_at (lane := lane) (k := k) (hl k)
    rw [jdl_succ rfl (hl k) h1]
    have key : ∀ (t : List (List Nat)) (i : Nat) (l : List Nat), t[i]? = some l → jlf (t.set i (l ++ [k])) = jlf t + 1 := by
      intro t
      induction t with
      | nil => intro i l h; simp at h
      | cons x t iht =>
        intro i l h
        cases i with
        | zero =>
          injection h with h
          subst h
          simp [jlf]
          omega
        | succ i =>
          have := iht i l (by simpa using h)
          simp only [jlf, List.set_cons_succ, List.map_cons, List.sum_cons] at *
          omega
    rw [key _ _ _ h1, ih]
end
/-- What the law's loop knows: rem is yet to come, G told. -/
structure Jla (s : Bool) (ds : List (List Nat)) (n : Nat) (lane : Nat → Nat) (rem : List (List Nat)) (c : Nat) (G : List Ev) (j : Jn) : Prop where
  rm : Rem (jsF ds ds.length) n lane rem
  ex : ∃ came m T, Jal (jsX s ds ds.length) n lane came (jnew s n 4096 100) T m j ∧ (∀ g, came g ↔ jga (jsF ds ds.length) lane rem g) ∧ ¬ came m ∧ G = T ++ j.told
  sh : j.sh = s
  room : j.room = 4096
  wt : j.wait.length ≤ c
section
variable {s : Bool} {ds : List (List Nat)} {n c : Nat} {lane : Nat → Nat} {rem : List (List Nat)} {G : List Ev} {j : Jn}
theorem Jla.start (hl : ∀ g, lane g < n) : Jla s ds n lane (jdl n lane (jsF ds ds.length)) 0 [] (jnew s n 4096 100) :=
  ⟨Rem.start, ⟨_, 0, [], Jal.start s 4096 100 fun i _ => hl i, fun g => ⟨fun h => h.elim, fun h => Rem.none_ (fun i _ => hl i) g h⟩, id, rfl⟩, rfl, rfl, Nat.zero_le _⟩
theorem Jla.ln (h : Jla s ds n lane rem c G j) : j.last.length = n := by
  obtain ⟨_, _, _, h1, _⟩ := h.ex
  exact h1.ln
theorem Jla.next (h : Jla s ds n lane rem c G j) : j.next ≤ (jsF ds ds.length : Int) := by
  obtain ⟨_, m, _, h1, _⟩ := h.ex
  have := h1.mn
  rw [jsX_len] at this
  rw [h1.nx]
  omega
theorem Jla.feed (h : Jla s ds n lane rem c G j) (hn : 0 < n) {i g : Nat} {r : List Nat} {x : Pc} (hi : rem[i]? = some (g :: r)) (hx : (jsX s ds ds.length)[g]? = some x) (hF : jsF ds ds.length ≤ 4096) (hc : c < 4096) :
    Jla s ds n lane (rem.set i r) (c + 1) (G ++ (jfeed j i x).told) (jfeed j i x) := by
  obtain ⟨came, m, T, h1, h2, h3, h4⟩ := h.ex
  have hw := h.wt
  have hmod := js_mod s
  obtain ⟨p1, p2, p3, p4, p5, p6, p7⟩ := h.rm.pop hi
  have hnum := jsX_num (by omega) hx
  obtain ⟨m', f1, f2, f3, f4, f5⟩ := h1.feed hn hx hnum (by rw [jsX_len, h.sh]; omega) (fun e => p3 ((h2 g).1 e)) (fun i' e1 e2 => (h2 i').2 (p4 i' e1 e2)) (by rw [h.room]; omega)
  rw [p6] at f1 f3 f4
  exact ⟨p1, ⟨_, m', _, f1, fun g' => (or_congr (h2 g') Iff.rfl).trans (p2 g').symm, f2, by rw [h4]⟩, f4.sh.trans h.sh, f4.room.trans h.room, by omega⟩
theorem Jla.done (h : Jla s ds n lane rem c G j) (h0 : jlf rem = 0) (hd : ∀ d ∈ ds, d.length ≤ 60) : j.wait = [] ∧ G = ds.map fun d => ⟨0, d, 0, 0⟩ := by
  obtain ⟨came, m, T, h1, h2, h3, h4⟩ := h.ex
  obtain ⟨a1, a2⟩ := h1.all h3 (fun i hi => (h2 i).2 ⟨by rwa [jsX_len] at hi, fun l hl hg => by rw [jlf_zero h0 _ _ hl] at hg; cases hg⟩)
  refine ⟨a1, ?_⟩
  rw [h4, a2]
  have := packets_whole ((List.range ds.length).map (jsL s ds)) ds (by simp) (fun i l d hl hd' => by
    have hi := (List.getElem?_eq_some_iff.1 hd').1
    rw [List.getElem?_map, List.getElem?_range hi] at hl
    injection hl with hl
    subst hl
    have e : ds.getD i [] = d := by simp [List.getD, hd']
    have h5 := frpcs_packet s (jsF ds i) (1 + i % 5) (ds.getD i []) (by omega)
    show IsPacket (frpcs s (jsF ds i) (1 + i % 5) (ds.getD i [])) d
    rw [e] at h5 ⊢
    exact h5) (jnew s n 4096 100) (by show (0 : Int) ≠ 1; decide) (fun d hd' => by have := hd d hd'; show _ ≤ (100 : Int); omega)
  show (((List.range ds.length).map (jsL s ds)).flatten.foldl jgo (jnew s n 4096 100)).told = _
  rw [this]
  rfl
end
theorem jflush_empty {j : Jn} (h : j.wait = []) : jflush j = { j with told := [] } := by
  unfold jflush
  exact jover_of (n := 0) (jush_none (by show ¬ (0 : Int) < (j.wait.length : Int); rw [h]; decide))
end Go.Proofs.YtamdaepeogmboaaDoor
