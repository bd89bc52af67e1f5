
/-
  Rows of elements of whatever shape, each with what it leads to: read ones, and own ones that are appended to. No condition beyond: sizes below 2^47.
-/
import Derived.Test.YtamdaepeogmboaaDoorOffs
import Derived.Deep.Slices
namespace Go.Proofs.YtamdaepeogmboaaDoor
set_option maxRecDepth 4000
open Go.RowKit

/-- The blocks that F tells stand as they were. -/
structure Keeps (F : Nat → Prop) (w w' : World) : Prop where
  size : w.heap.size ≤ w'.heap.size
  block : ∀ b, b < w.heap.size → F b → w'.heap[b]? = w.heap[b]?
section
variable {F G : Nat → Prop} {w w' w2 : World}
theorem Keeps.refl (F : Nat → Prop) (w : World) : Keeps F w w := ⟨Nat.le_refl _, fun _ _ _ => rfl⟩
theorem Keeps.trans (h : Keeps F w w') (k : Keeps F w' w2) : Keeps F w w2 := ⟨Nat.le_trans h.size k.size, fun b hb hF => (k.block b (Nat.lt_of_lt_of_le hb h.size) hF).trans (h.block b hb hF)⟩
theorem Keeps.of_below (h : Below w.heap.size w w') : Keeps F w w' := ⟨h.size, fun b hb _ => h.block b hb⟩
theorem Keeps.of_grown {row : Option Nat} (h : w.grownBy w' row) (hF : ∀ b, F b → row ≠ some b) : Keeps F w w' := ⟨h.size, fun b hb hf => h.block b hb (fun e => hF b hf e.symm)⟩
theorem Keeps.of_offs {X : Nat → Prop} (h : Offs X w w') (hF : ∀ b, F b → ¬ X b) : Keeps F w w' := ⟨h.size, fun b hb hf => h.block b hb (hF b hf)⟩
theorem Keeps.less (h : Keeps F w w') (hF : ∀ b, b < w.heap.size → G b → F b) : Keeps G w w' := ⟨h.size, fun b hb hg => h.block b hb (hF b hb hg)⟩
theorem Keeps.cell (h : Keeps F w w') {b : Nat} (hb : b < w.heap.size) (hF : F b) (off : Nat) : w'.cell? ⟨b, off, none⟩ = w.cell? ⟨b, off, none⟩ := by
  have := h.block b hb hF
  unfold World.cell?
  rw [this]
end

/-- A list of bytes at A, in a block that F tells. -/
def RdF (F : Nat → Prop) (w : World) (A : Option Addr) (l : List Nat) : Prop :=
  0 < l.length → ∃ b off, A = some ⟨b, off, none⟩ ∧ b < w.heap.size ∧ F b ∧ ∀ (k x : Nat), l[k]? = some x → w.cell? ⟨b, off + k, none⟩ = some (.int .u8 (x : Int))
section
variable {F G : Nat → Prop} {w w' : World} {A : Option Addr} {l : List Nat}
theorem RdF.rd (h : RdF F w A l) : Rd w w.heap.size A l := fun hl => by
  obtain ⟨b, off, h1, h2, _, h4⟩ := h hl
  exact ⟨b, off, h1, h2, h4⟩
theorem Rd.rdF {B : Nat} (h : Rd w B A l) (hF : ∀ b, b < B → F b) (hB : B ≤ w.heap.size) : RdF F w A l := fun hl => by
  obtain ⟨b, off, h1, h2, h4⟩ := h hl
  exact ⟨b, off, h1, Nat.lt_of_lt_of_le h2 hB, hF b h2, h4⟩
theorem RdF.nil : RdF F w A [] := fun h => absurd h (by simp)
theorem RdF.keep (h : RdF F w A l) (hk : Keeps F w w') : RdF F w' A l := fun hl => by
  obtain ⟨b, off, h1, h2, h3, h4⟩ := h hl
  exact ⟨b, off, h1, Nat.lt_of_lt_of_le h2 hk.size, h3, fun k x hx => (hk.cell h2 h3 _).trans (h4 k x hx)⟩
theorem RdF.mono (h : RdF F w A l) (hF : ∀ b, b < w.heap.size → F b → G b) : RdF G w A l := fun hl => by
  obtain ⟨b, off, h1, h2, h3, h4⟩ := h hl
  exact ⟨b, off, h1, h2, hF b h2 h3, h4⟩
/-- A row of the call's own is new. -/
theorem RdF.own {base : Nat} {e : TypeId} {c n : Nat} (h : w.ownsRow base e 1 (.slice A n c) n (bvs l)) : RdF (fun b => base ≤ b) w A l := by
  intro hl
  obtain ⟨b, off, h1, h2, h3⟩ := Rd.own h hl
  refine ⟨b, off, h1, h2, ?_, h3⟩
  subst h1
  rcases h.2 with ⟨hv, _⟩ | ⟨g, cap, cur, hv, hg, _⟩
  · cases hv
  · injection hv with hv
    injection hv with hv
    injection hv with hv
    omega
end

/-- The shape of an element: how many cells, and what they say. -/
structure Sh (α : Type) where
  sz : Nat
  S : (Nat → Prop) → World → α → List Value → Prop
  len : ∀ {F w x cs}, S F w x cs → cs.length = sz
  one : ∀ {F w x cs}, S F w x cs → ∀ u ∈ cs, u.oneCell' = true
  keep : ∀ {F w w' x cs}, S F w x cs → Keeps F w w' → S F w' x cs
  mono : ∀ {F G : Nat → Prop} {w x cs}, S F w x cs → (∀ b, b < w.heap.size → F b → G b) → S G w x cs

/-- Lists of bytes as elements. -/
def shB : Sh (List Nat) where
  sz := 1
  S F w x cs := ∃ A c, cs = [.slice A x.length c] ∧ x.length ≤ c ∧ RdF F w A x
  len := by rintro _ _ _ _ ⟨A, c, rfl, _⟩; rfl
  one := by rintro _ _ _ _ ⟨A, c, rfl, _⟩ u hu; simp at hu; subst hu; rfl
  keep := by rintro _ _ _ _ _ ⟨A, c, h1, h2, h3⟩ hk; exact ⟨A, c, h1, h2, h3.keep hk⟩
  mono := by rintro _ _ _ _ _ ⟨A, c, h1, h2, h3⟩ hF; exact ⟨A, c, h1, h2, h3.mono hF⟩

theorem flat_at {α : Type} {sz : Nat} : ∀ {css : List (List α)} {j : Nat} {u : α}, (∀ cs ∈ css, cs.length = sz) → css.flatten[j]? = some u → ∃ k cs i, css[k]? = some cs ∧ cs[i]? = some u ∧ j = k * sz + i
  | [], j, u, _, h => by simp at h
  | c :: t, j, u, hl, h => by
    have hc := hl c (List.mem_cons_self ..)
    rw [List.flatten_cons] at h
    rcases Nat.lt_or_ge j c.length with hj | hj
    · rw [List.getElem?_append_left hj] at h
      exact ⟨0, c, j, rfl, h, by omega⟩
    · rw [List.getElem?_append_right hj] at h
      obtain ⟨k, cs, i, h1, h2, h3⟩ := flat_at (fun cs hcs => hl cs (List.mem_cons_of_mem _ hcs)) h
      exact ⟨k + 1, cs, i, h1, h2, by rw [Nat.add_mul]; omega⟩
theorem flat_put {α : Type} {sz : Nat} : ∀ {css : List (List α)} {k i : Nat} {cs : List α} {u : α}, (∀ cs ∈ css, cs.length = sz) → css[k]? = some cs → cs[i]? = some u → css.flatten[k * sz + i]? = some u
  | [], k, i, cs, u, _, h, _ => by simp at h
  | c :: t, k, i, cs, u, hl, h, hi => by
    have hc := hl c (List.mem_cons_self ..)
    rw [List.flatten_cons]
    cases k with
    | zero =>
      injection h with h
      subst h
      rw [List.getElem?_append_left (by have := (List.getElem?_eq_some_iff.1 hi).1; omega)]
      simpa using hi
    | succ k =>
      rw [List.getElem?_append_right (by rw [Nat.add_mul]; omega)]
      rw [show (k + 1) * sz + i - c.length = k * sz + i by rw [Nat.add_mul]; omega]
      exact flat_put (fun cs hcs => hl cs (List.mem_cons_of_mem _ hcs)) (by simpa using h) hi
theorem flat_len {α : Type} {sz : Nat} : ∀ {css : List (List α)}, (∀ cs ∈ css, cs.length = sz) → css.flatten.length = css.length * sz
  | [], _ => by simp
  | c :: t, hl => by
    have hc := hl c (List.mem_cons_self ..)
    rw [List.flatten_cons, List.length_append, flat_len (fun cs hcs => hl cs (List.mem_cons_of_mem _ hcs)), List.length_cons, Nat.add_mul]
    omega

/-- The slice at A leads to elements that are xs, in blocks that F tells. -/
def Rws {α : Type} (H : Sh α) (F : Nat → Prop) (w : World) (A : Option Addr) (xs : List α) : Prop :=
  0 < xs.length → ∃ b off, A = some ⟨b, off, none⟩ ∧ b < w.heap.size ∧ F b ∧ ∀ (k : Nat) (x : α), xs[k]? = some x → ∃ cs, H.S F w x cs ∧ ∀ (j : Nat) (u : Value), cs[j]? = some u → w.cell? ⟨b, off + (k * H.sz + j), none⟩ = some u
/-- The row v is the call's own, from block B on; its elements are xs, in blocks that F tells, none of them the row's own. -/
def Orw {α : Type} (H : Sh α) (T : TypeId) (F : Nat → Prop) (B : Nat) (w : World) (v : Value) (xs : List α) : Prop :=
  ∃ css : List (List Value), css.length = xs.length ∧ w.ownsRow B T H.sz v xs.length css.flatten ∧ ∀ (k : Nat) (x : α) (cs : List Value), xs[k]? = some x → css[k]? = some cs → H.S (fun b => F b ∧ v.ownBlock ≠ some b) w x cs

section
variable {α : Type} {H : Sh α} {T : TypeId} {F G : Nat → Prop} {B : Nat} {w w' : World} {A : Option Addr} {v : Value} {xs ys : List α}
theorem Rws.nil : Rws H F w A [] := fun h => absurd h (by simp)
theorem Rws.keep (h : Rws H F w A xs) (hk : Keeps F w w') : Rws H F w' A xs := fun hl => by
  obtain ⟨b, off, h1, h2, h3, h4⟩ := h hl
  refine ⟨b, off, h1, Nat.lt_of_lt_of_le h2 hk.size, h3, fun k x hx => ?_⟩
  obtain ⟨cs, g1, g2⟩ := h4 k x hx
  exact ⟨cs, H.keep g1 hk, fun j u hu => (hk.cell h2 h3 _).trans (g2 j u hu)⟩
theorem Rws.mono (h : Rws H F w A xs) (hF : ∀ b, b < w.heap.size → F b → G b) : Rws H G w A xs := fun hl => by
  obtain ⟨b, off, h1, h2, h3, h4⟩ := h hl
  refine ⟨b, off, h1, h2, hF b h2 h3, fun k x hx => ?_⟩
  obtain ⟨cs, g1, g2⟩ := h4 k x hx
  exact ⟨cs, H.mono g1 hF, g2⟩
theorem Rws.below (h : Rws H F w A xs) (hb : Below w.heap.size w w') : Rws H F w' A xs := h.keep (.of_below hb)
theorem Rws.at_ (h : Rws H F w A xs) {k : Nat} (hk : k < xs.length) : ∃ b off x cs, A = some ⟨b, off, none⟩ ∧ b < w.heap.size ∧ xs[k]? = some x ∧ H.S F w x cs ∧ ∀ (j : Nat) (u : Value), cs[j]? = some u → w.cell? ⟨b, off + (k * H.sz + j), none⟩ = some u := by
  obtain ⟨b, off, h1, h2, _, h4⟩ := h (by omega)
  obtain ⟨cs, g1, g2⟩ := h4 k _ (List.getElem?_eq_getElem hk)
  exact ⟨b, off, _, cs, h1, h2, List.getElem?_eq_getElem hk, g1, g2⟩
theorem Rws.cells (h : Rws H F w A xs) : ∃ css : List (List Value), css.length = xs.length ∧ (∀ (k : Nat) (x : α) (cs : List Value), xs[k]? = some x → css[k]? = some cs → H.S F w x cs) ∧ ∀ ad, A = some ad → ∀ j u, css.flatten[j]? = some u → w.cell? (ad.add j) = some u := by
  rcases Nat.eq_zero_or_pos xs.length with h0 | h0
  · exact ⟨[], by rw [h0]; rfl, fun k x cs hx => by rw [List.eq_nil_of_length_eq_zero h0] at hx; simp at hx, fun ad _ j u hu => by simp at hu⟩
  · obtain ⟨b, off, rfl, h2, h3, h4⟩ := h h0
    have each : ∀ k, k < xs.length → ∃ cs, ∀ x, xs[k]? = some x → H.S F w x cs ∧ ∀ (j : Nat) (u : Value), cs[j]? = some u → w.cell? ⟨b, off + (k * H.sz + j), none⟩ = some u := by
      intro k hk
      obtain ⟨cs, g⟩ := h4 k _ (List.getElem?_eq_getElem hk)
      exact ⟨cs, fun x hx => by rw [List.getElem?_eq_getElem hk] at hx; injection hx with hx; subst hx; exact g⟩
    obtain ⟨f, hf⟩ := Go.Deep.choose_lt each
    have hget : ∀ k cs, ((List.range xs.length).map f)[k]? = some cs → k < xs.length ∧ f k = cs := by
      intro k cs hk
      rw [List.getElem?_map] at hk
      obtain ⟨i, hi, rfl⟩ := Option.map_eq_some_iff.1 hk
      have hk' : k < xs.length := by have := (List.getElem?_eq_some_iff.1 hi).1; simpa using this
      rw [List.getElem?_range hk'] at hi
      injection hi with hi
      exact ⟨hk', by rw [hi]⟩
    refine ⟨(List.range xs.length).map f, by simp, fun k x cs hx hk => ?_, fun ad had j u hu => ?_⟩
    · obtain ⟨_, rfl⟩ := hget k cs hk
      exact (hf k (List.getElem?_eq_some_iff.1 hx).1 x hx).1
    · injection had with had
      subst had
      obtain ⟨k, cs, i, h5, h6, rfl⟩ := flat_at (sz := H.sz) (fun cs hcs => by
        obtain ⟨k, hk⟩ := List.mem_iff_getElem?.1 hcs
        obtain ⟨hk', rfl⟩ := hget k cs hk
        exact H.len (hf k hk' _ (List.getElem?_eq_getElem hk')).1) hu
      obtain ⟨hk', rfl⟩ := hget k cs h5
      have := (hf k hk' _ (List.getElem?_eq_getElem hk')).2 i u h6
      generalize k * H.sz + i = m at this
      by_cases hj : m = 0
      · rw [hj] at this ⊢; simpa [Addr.add] using this
      · simpa [Addr.add, hj] using this

theorem Orw.nil (H : Sh α) (T : TypeId) (F : Nat → Prop) (B : Nat) (w : World) : Orw H T F B w (.slice none 0 0) [] := ⟨[], rfl, World.ownsRow_nil _ _ _ _, fun k x cs hx => by simp at hx⟩
theorem Orw.own (h : Orw H T F B w v xs) : ∃ cs, w.ownsRow B T H.sz v xs.length cs := by
  obtain ⟨css, _, h, _⟩ := h
  exact ⟨_, h⟩
theorem Orw.shape (h : Orw H T F B w v xs) : ∃ A c, v = .slice A xs.length c ∧ xs.length ≤ c ∧ c ≤ maxLen := by
  obtain ⟨cs, h⟩ := h.own
  exact own_shape h
theorem Orw.lt (h : Orw H T F B w v xs) {g : Nat} (hg : v.ownBlock = some g) : B ≤ g ∧ g < w.heap.size := by
  obtain ⟨cs, h⟩ := h.own
  exact h.lt g hg
theorem Orw.lo {B' : Nat} (h : Orw H T F B w v xs) (hB : B' ≤ B) : Orw H T F B' w v xs := by
  obtain ⟨css, h1, h2, h3⟩ := h
  exact ⟨css, h1, own_lo h2 hB, h3⟩
theorem Orw.mono (h : Orw H T F B w v xs) (hF : ∀ b, b < w.heap.size → F b → G b) : Orw H T G B w v xs := by
  obtain ⟨css, h1, h2, h3⟩ := h
  exact ⟨css, h1, h2, fun k x cs hx hc => H.mono (h3 k x cs hx hc) fun b hb hf => ⟨hF b hb hf.1, hf.2⟩⟩
theorem Orw.keep (h : Orw H T F B w v xs) (hk : Keeps (fun b => F b ∨ v.ownBlock = some b) w w') : Orw H T F B w' v xs := by
  obtain ⟨css, h1, h2, h3⟩ := h
  refine ⟨css, h1, ?_, fun k x cs hx hc => H.keep (h3 k x cs hx hc) (hk.less fun b _ hf => .inl hf.1)⟩
  refine ⟨h2.1, ?_⟩
  rcases h2.2 with h0 | ⟨g, cap, cur, rfl, hg, hh, hr⟩
  · exact .inl h0
  · have hlt : g < w.heap.size := (Array.getElem?_eq_some_iff.1 hh).1
    exact .inr ⟨g, cap, cur, rfl, hg, (hk.block g hlt (.inr rfl)).trans hh, hr⟩
theorem Orw.below (h : Orw H T F B w v xs) (hb : Below w.heap.size w w') : Orw H T F B w' v xs := h.keep (.of_below hb)
theorem Orw.all_len {css : List (List Value)} (h1 : css.length = xs.length) (h3 : ∀ (k : Nat) (x : α) (cs : List Value), xs[k]? = some x → css[k]? = some cs → H.S F w x cs) : ∀ cs ∈ css, cs.length = H.sz := by
  intro cs hcs
  obtain ⟨k, hk⟩ := List.mem_iff_getElem?.1 hcs
  have hk' : k < xs.length := by have := (List.getElem?_eq_some_iff.1 hk).1; omega
  exact H.len (h3 k _ cs (List.getElem?_eq_getElem hk') hk)
theorem Orw.read {n c : Nat} (h : Orw H T F B w (.slice A n c) xs) : Rws H (fun b => F b ∨ B ≤ b) w A xs := by
  intro hl
  obtain ⟨css, h1, h2, h3⟩ := h
  have hall := Orw.all_len h1 h3
  rcases h2.2 with ⟨_, h0⟩ | ⟨g, cap, cur, hv, hg, hh, hc, hm, hcs, htake⟩
  · omega
  · injection hv with hA hn hc'
    subst hA
    refine ⟨g, 0, rfl, (Array.getElem?_eq_some_iff.1 hh).1, .inr hg, fun k x hx => ?_⟩
    have hk : k < css.length := by have := (List.getElem?_eq_some_iff.1 hx).1; omega
    refine ⟨css[k], H.mono (h3 k x _ hx (List.getElem?_eq_getElem hk)) fun b _ hf => .inl hf.1, fun j u hu => ?_⟩
    have h7 := flat_put hall (List.getElem?_eq_getElem hk) hu
    have hlt : k * H.sz + j < css.flatten.length := (List.getElem?_eq_some_iff.1 h7).1
    rw [Nat.zero_add, cell_of_row w g _ _ _ _ hh]
    rw [← htake, List.getElem?_take] at h7
    split at h7
    · simpa using h7
    · cases h7
/-- A row as the walk wants it. -/
theorem Orw.slice (h : Orw H T F B w v xs) : ∃ A c, v = .slice A xs.length c ∧ xs.length ≤ c ∧ c ≤ maxLen ∧ Rws H (fun b => F b ∨ B ≤ b) w A xs := by
  obtain ⟨A, c, rfl, h1, h2⟩ := h.shape
  exact ⟨A, c, rfl, h1, h2, h.read⟩

/-- A literal in a new block. -/
theorem Orw.lit (w : World) (css : List (List Value)) (h1 : css.length = xs.length) (h3 : ∀ (k : Nat) (x : α) (cs : List Value), xs[k]? = some x → css[k]? = some cs → H.S F w x cs) (hm : xs.length ≤ 1099511627776) :
    Orw H T F w.heap.size (w.alloc (.cells css.flatten.toArray T)) (.slice (some ⟨w.heap.size, 0, none⟩) xs.length xs.length) xs := by
  have hall := Orw.all_len h1 h3
  have hlen := flat_len hall
  rw [h1] at hlen
  refine ⟨css, h1, ⟨hlen, .inr ⟨w.heap.size, xs.length, _, rfl, Nat.le_refl _, heap_alloc_new w _, Nat.le_refl _, by unfold maxLen; omega, by simp [hlen], ?_⟩⟩, fun k x cs hx hc => ?_⟩
  · rw [← hlen]; exact List.take_length
  · refine H.mono (F := fun b => F b ∧ b < w.heap.size) ?_ fun b hb hf => ⟨hf.1, fun e => ?_⟩
    · exact H.keep (H.mono (h3 k x cs hx hc) fun b hb hf => ⟨hf, hb⟩) (.of_below ((Below.refl _ _).alloc (Nat.le_refl _) _))
    · have e' : some w.heap.size = some b := e
      injection e' with e'
      have := hf.2
      omega
end

/-- A list of a slice of lists. -/
theorem Rws.list {F : Nat → Prop} {w : World} {A : Option Addr} {xs : List (List Nat)} (h : Rws shB F w A xs) {k : Nat} (hk : k < xs.length) : ∃ b off x Ak ck, A = some ⟨b, off, none⟩ ∧ xs[k]? = some x ∧ w.cell? ⟨b, off + k, none⟩ = some (.slice Ak x.length ck) ∧ x.length ≤ ck ∧ Rd w w.heap.size Ak x := by
  obtain ⟨b, off, x, cs, h1, _, h3, ⟨Ak, ck, rfl, h4, h5⟩, h6⟩ := h.at_ hk
  have h7 := h6 0 _ rfl
  rw [show k * shB.sz + 0 = k by show k * 1 + 0 = k; omega] at h7
  exact ⟨b, off, x, Ak, ck, h1, h3, h7, h4, h5.rd⟩

/-- append(v, ys...): the law for a run. -/
theorem run_rows {α : Type} (H : Sh α) {P : Program} (w : World) (t ty e : TypeId) (i : TypeInfo) (z : Value) (bytes : Nat) (ht : P.underlying t = some (.slice e)) (hi : P.info? e = some i) (hz : i.zero = some z)
    (hsize : i.size = H.sz) (hby : i.bytes = bytes) (hzs : z.cells.size = H.sz) (hsz : 0 < H.sz) (F G : Nat → Prop) (base : Nat) (v : Value) (n : Nat) (xs : List α) (hown : Orw H e F base w v xs) (hn : xs.length = n)
    (A : Option Addr) (m c : Nat) (ys : List α) (hys : Rws H G w A ys) (hm : ys.length = m) (hG : ∀ b, b < w.heap.size → G b → F b ∧ v.ownBlock ≠ some b)
    (h63 : n + m ≤ maxLen) (hbytes : (n + m) * bytes ≤ 140737488355328) (hbase : base ≤ w.heap.size) :
    ∃ v' w', (Builtin.append_ #[t, t] ty #[v, .slice A m c]).run P w = .ok v' w' ∧ Orw H e F base w' v' (xs ++ ys) ∧ w.grownBy w' v.ownBlock ∧ Mv w.heap.size v v' := by
  obtain ⟨css, h1, h2, h3⟩ := hown
  obtain ⟨dss, k1, k2, k3⟩ := hys.cells
  have hall := Orw.all_len h1 h3
  have hall2 := Orw.all_len k1 k2
  have hone : ∀ u ∈ dss.flatten, u.oneCell' = true := by
    intro u hu
    obtain ⟨cs, hcs, hu⟩ := List.mem_flatten.1 hu
    obtain ⟨k, hk⟩ := List.mem_iff_getElem?.1 hcs
    have hk' : k < ys.length := by have := (List.getElem?_eq_some_iff.1 hk).1; omega
    exact H.one (k2 k _ cs (List.getElem?_eq_getElem hk') hk) u hu
  subst hn; subst hm
  obtain ⟨v', w', hrun, g1, g2, g3⟩ := run_mv (P := P) w t ty e i z H.sz bytes ht hi hz hsize hby hzs hsz base v xs.length css.flatten h2 A ys.length c dss.flatten
    (fun hA => by
      rcases Nat.eq_zero_or_pos ys.length with h0 | h0
      · exact h0
      · obtain ⟨_, _, h, _⟩ := hys h0
        rw [h] at hA; cases hA)
    (by rw [flat_len hall2, k1]) k3 hone h63 hbytes hbase
  refine ⟨v', w', hrun, ⟨css ++ dss, by rw [List.length_append, List.length_append, h1, k1], by rw [List.flatten_append, List.length_append]; exact g1, fun k x cs hx hc => ?_⟩, g2, g3⟩
  have key : H.S (fun b => F b ∧ v.ownBlock ≠ some b) w x cs := by
    rcases Nat.lt_or_ge k xs.length with hk | hk
    · rw [List.getElem?_append_left hk] at hx
      rw [List.getElem?_append_left (by omega)] at hc
      exact h3 k x cs hx hc
    · rw [List.getElem?_append_right hk] at hx
      rw [List.getElem?_append_right (by omega), h1] at hc
      exact H.mono (k2 _ x cs hx hc) hG
  refine H.mono (F := fun b => (F b ∧ v.ownBlock ≠ some b) ∧ b < w.heap.size) (H.keep (H.mono key fun b hb hf => ⟨hf, hb⟩) (.of_grown g2 fun b hb => hb.1.2)) fun b _ hb => ⟨hb.1.1, fun e => ?_⟩
  rcases g3 b e with h | h
  · exact hb.1.2 h
  · exact absurd hb.2 (Nat.not_lt.2 h)

/-- .. for the walk. -/
theorem list_rows {α : Type} (H : Sh α) {P : Program} {w : World} {ops : Array Oper} {rest : List Oper} {o : Oper} {a : Act} {Q : Exit → Act → World → Prop} (hgd : o.guard = none) (s x : Operand) (t : TypeId)
    (ho : o.op = .call { callee := .builtin .append, args := #[s, x], argTypes := #[t, t] })
    (e : TypeId) (i : TypeInfo) (z : Value) (bytes : Nat) (ht : P.underlying t = some (.slice e)) (hi : P.info? e = some i) (hz : i.zero = some z)
    (hsize : i.size = H.sz) (hby : i.bytes = bytes) (hzs : z.cells.size = H.sz) (hsz : 0 < H.sz) (F G : Nat → Prop) (base : Nat) (v : Value) (n : Nat) (xs : List α) (hs : a.eval s = v) (hown : Orw H e F base w v xs) (hn : xs.length = n)
    (A : Option Addr) (m c : Nat) (ys : List α) (hx : a.eval x = .slice A m c) (hys : Rws H G w A ys) (hm : ys.length = m) (hG : ∀ b, b < w.heap.size → G b → F b ∧ v.ownBlock ≠ some b)
    (h63 : n + m ≤ maxLen) (hbytes : (n + m) * bytes ≤ 140737488355328) (hbase : base ≤ w.heap.size)
    (h : ∀ v' w', Orw H e F base w' v' (xs ++ ys) → w.grownBy w' v.ownBlock → Mv w.heap.size v v' → wpList P ops Q rest (a.put o.dst v') w') :
    wpList P ops Q (o :: rest) a w := by
  refine wpList_plain hgd fun K hK => ?_
  obtain ⟨v', w', hrun, h2, h3, h4⟩ := run_rows H (P := P) w t o.type e i z bytes ht hi hz hsize hby hzs hsz F G base v n xs hown hn A m c ys hys hm hG h63 hbytes hbase
  unfold Oper.wp execOp
  simp only [ho, resolve, invoke, builtin, Sem.run_bind, Sem.run_pure, Result.andThen_ok, List.map_toArray, List.map_cons, List.map_nil, hs, hx, hrun]
  exact hK _ _ (h v' w' h2 h3 h4)

/-- .. for a step of a region whose order is open. -/
theorem step_rows {α : Type} (H : Sh α) {P : Program} (w : World) {ops : Array Oper} {o : Oper} {a : Act} {K : Act → World → Prop} {Q : Exit → Act → World → Prop} {E : Prop} (hw : Region.wanted o (yielded ops a.tmps) = true) (s x : Operand) (t : TypeId)
    (ho : o.op = .call { callee := .builtin .append, args := #[s, x], argTypes := #[t, t] })
    (e : TypeId) (i : TypeInfo) (z : Value) (bytes : Nat) (ht : P.underlying t = some (.slice e)) (hi : P.info? e = some i) (hz : i.zero = some z)
    (hsize : i.size = H.sz) (hby : i.bytes = bytes) (hzs : z.cells.size = H.sz) (hsz : 0 < H.sz) (F G : Nat → Prop) (base : Nat) (v : Value) (n : Nat) (xs : List α) (hs : a.eval s = v) (hown : Orw H e F base w v xs) (hn : xs.length = n)
    (A : Option Addr) (m c : Nat) (ys : List α) (hx : a.eval x = .slice A m c) (hys : Rws H G w A ys) (hm : ys.length = m) (hG : ∀ b, b < w.heap.size → G b → F b ∧ v.ownBlock ≠ some b)
    (h63 : n + m ≤ maxLen) (hbytes : (n + m) * bytes ≤ 140737488355328) (hbase : base ≤ w.heap.size)
    (h : ∀ v' w', Orw H e F base w' v' (xs ++ ys) → w.grownBy w' v.ownBlock → Mv w.heap.size v v' → K (a.put o.dst v') w') :
    if Region.wanted o (yielded ops a.tmps) = true then Oper.wp P o a w K Q else E := by
  rw [if_pos hw]
  obtain ⟨v', w', hrun, h2, h3, h4⟩ := run_rows H (P := P) w t o.type e i z bytes ht hi hz hsize hby hzs hsz F G base v n xs hown hn A m c ys hys hm hG h63 hbytes hbase
  unfold Oper.wp execOp
  simp only [ho, resolve, invoke, builtin, Sem.run_bind, Sem.run_pure, Result.andThen_ok, List.map_toArray, List.map_cons, List.map_nil, hs, hx, hrun]
  exact h v' w' h2 h3 h4

end Go.Proofs.YtamdaepeogmboaaDoor
