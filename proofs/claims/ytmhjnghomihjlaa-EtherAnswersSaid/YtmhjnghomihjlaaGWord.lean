/-
  Words for lists of bytes in memory: what a slice of bytes reads as, kept over draws, new blocks, stores elsewhere. No condition. What the document's comparison of two lists of bytes answers; lists that a call made; a literal list. No condition beyond: lists of at most 2^40 elements. A list of bytes that is filled from the front, the rest zeros; a literal list in a new block, as cells. No condition. append(x, y...) on lists of bytes, where x is a row of the call's own: the law for the walk, and for a step of a region whose order is open. No condition beyond: together at most 2^40 elements. What bytes.Equal answers on two lists of bytes. No condition beyond: bytes below 256. What may have turned, block by block; append on a row of the call's own, of whatever element type, from whatever slice: the row that comes of it lies in the same block, or in a new one. No condition beyond: sizes below 2^47. Rows of elements of whatever shape, each with what it leads to: read ones, and own ones that are appended to. No condition beyond: sizes below 2^47. slices.Grow on nil, slices.Concat of lists of bytes. No condition beyond: together at most 2^40 octets. bytes.Clone: a copy of the call's own; of nil: nil. No condition beyond: at most 2^38 elements. What the calls of layer 3 and the document's own answer: maps of octets as the bits of a number. No condition beyond: maps below 2^32, bytes below 256, lists of at most 2^40 elements. A config as a value; what the calls of layer 8 and the document's own answer: Check, Most, Fits, Default. No condition beyond: maps below 2^32, an MRU that an int may have (that may be, for Most).
-/
import Derived.Test.YtmhjnghomihjlaaRows
import Derived.WalkKit
import Derived.WalkSpells
import Derived.WalkLawsBesides
import Derived.WalkSmall
import Derived.Below
import Derived.Laws.OwnMore
import Derived.Deep.AppendLies
import Derived.Deep.Draws
import Derived.Deep.QuietTactic
import Derived.BigQuiet
import Derived.Lib.Hide
import Derived.Maps.AppendAt
import Derived.Deep.RegionHeld3
import Derived.Lib.Bytes
import Derived.Laws.BytesArg
import Derived.Deep.Slices
import Derived.Lib.AppendZeros
import Derived.Lib.SliceRun
import Derived.Laws.BitsAll
namespace Go.Proofs.Ytmhjnghomihjlaa
section
set_option maxRecDepth 4000
open Go.RowKit

/-- A byte as a value. -/
def bv (n : Nat) : Value := .int .u8 (n : Int)
/-- Bytes as cells. -/
def bvs (l : List Nat) : List Value := l.map bv
/-- Each is a byte. -/
def By (l : List Nat) : Prop := ∀ x ∈ l, x < 256

/-- The slice's address A, of as many elements as l has, leads to cells below block B that hold l. -/
def Rd (w : World) (B : Nat) (A : Option Addr) (l : List Nat) : Prop :=
  0 < l.length → ∃ b off, A = some ⟨b, off, none⟩ ∧ b < B ∧ ∀ (k x : Nat), l[k]? = some x → w.cell? ⟨b, off + k, none⟩ = some (.int .u8 (x : Int))

theorem bvs_len (l : List Nat) : (bvs l).length = l.length := by simp [bvs]
theorem bvs_app (l m : List Nat) : bvs (l ++ m) = bvs l ++ bvs m := by simp [bvs]
theorem bvs_get (l : List Nat) (k x : Nat) (h : l[k]? = some x) : (bvs l)[k]? = some (.int .u8 (x : Int)) := by
  simp [bvs, h, bv]
theorem bvs_one (l : List Nat) : ∀ u ∈ bvs l, u.oneCell' = true := by
  intro u hu
  simp only [bvs, List.mem_map] at hu
  obtain ⟨x, _, rfl⟩ := hu
  rfl
theorem By.nil : By [] := by intro x hx; cases hx
theorem By.app {l m : List Nat} (h : By l) (k : By m) : By (l ++ m) := by
  intro x hx; rcases List.mem_append.1 hx with h1 | h1
  · exact h x h1
  · exact k x h1
theorem By.take {l : List Nat} (h : By l) (k : Nat) : By (l.take k) := fun x hx => h x (List.mem_of_mem_take hx)
theorem By.drop {l : List Nat} (h : By l) (k : Nat) : By (l.drop k) := fun x hx => h x (List.mem_of_mem_drop hx)
theorem By.get {l : List Nat} (h : By l) {k x : Nat} (hk : l[k]? = some x) : x < 256 := h x (List.mem_of_getElem? hk)

section
variable {w w' : World} {B B' : Nat} {A : Option Addr} {l : List Nat}
theorem Rd.nil : Rd w B A [] := fun h => absurd h (by simp)
theorem Rd.keep (h : Rd w B A l) (hk : ∀ b off, b < B → w'.cell? ⟨b, off, none⟩ = w.cell? ⟨b, off, none⟩) : Rd w' B A l := by
  intro hl
  obtain ⟨b, off, rfl, hb, hc⟩ := h hl
  exact ⟨b, off, rfl, hb, fun k x hx => (hk _ _ hb).trans (hc k x hx)⟩
theorem Rd.more (h : Rd w B A l) (hB : B ≤ B') : Rd w B' A l := by
  intro hl
  obtain ⟨b, off, rfl, hb, hc⟩ := h hl
  exact ⟨b, off, rfl, by omega, hc⟩
theorem Rd.below (h : Rd w B A l) (hb : Below B w w') : Rd w' B A l := h.keep fun b off hp => hb.cell (p := ⟨b, off, none⟩) hp
theorem Rd.drew (h : Rd w B A l) : Rd w.drew B A l := h
theorem Rd.drewN (h : Rd w B A l) (k : Nat) : Rd (w.drewN k) B A l := h
theorem Rd.alloc (h : Rd w B A l) (hB : B ≤ w.heap.size) (o : Obj) : Rd (w.alloc o) B A l := h.keep fun b off hp => World.cell?_alloc_lt w o ⟨b, off, none⟩ (by show b < _; omega)
theorem Rd.take (h : Rd w B A l) (k : Nat) : Rd w B A (l.take k) := by
  intro hl
  rw [List.length_take] at hl
  obtain ⟨b, off, rfl, hb, hc⟩ := h (by omega)
  refine ⟨b, off, rfl, hb, fun j x hx => hc j x ?_⟩
  rw [List.getElem?_take] at hx
  split at hx
  · exact hx
  · cases hx
theorem Rd.at_ (h : Rd w B A l) {k : Nat} (hk : k < l.length) : ∃ b off x, A = some ⟨b, off, none⟩ ∧ b < B ∧ l[k]? = some x ∧ w.cell? ⟨b, off + k, none⟩ = some (.int .u8 (x : Int)) := by
  obtain ⟨b, off, e, hb, hc⟩ := h (by omega)
  exact ⟨b, off, l[k], e, hb, List.getElem?_eq_getElem hk, hc k _ (List.getElem?_eq_getElem hk)⟩
/-- What a call's own row reads as. -/
theorem Rd.own {base : Nat} {e : TypeId} {c n : Nat} (h : w.ownsRow base e 1 (.slice A n c) n (bvs l)) : Rd w w.heap.size A l := by
  intro hl
  have hn : n = l.length := by have := h.1; rw [bvs_len] at this; omega
  subst hn
  rcases h.2 with ⟨_, hn⟩ | ⟨g, cap, cur, hv, hb, hg, _⟩
  · omega
  · injection hv with hA _ _
    subst hA
    have hlt : g < w.heap.size := by
      rcases Nat.lt_or_ge g w.heap.size with hlt | hge
      · exact hlt
      · rw [Array.getElem?_eq_none hge] at hg; cases hg
    refine ⟨g, 0, rfl, hlt, fun k x hx => ?_⟩
    have := h.cells (g := g) rfl k _ (bvs_get l k x hx)
    by_cases hk : k = 0
    · subst hk; simpa [Addr.add] using this
    · simpa [Addr.add, hk] using this
end

/-- The form of an owned row's value. -/
theorem own_form {w : World} {base : Nat} {e : TypeId} {v : Value} {n : Nat} {xs : List Value} (h : w.ownsRow base e 1 v n xs) : ∃ A c, v = .slice A n c ∧ n ≤ c ∧ c ≤ maxLen := by
  rcases h.2 with ⟨rfl, rfl⟩ | ⟨g, cap, cur, rfl, _, _, hc, hm, _⟩
  · exact ⟨none, 0, rfl, Nat.le_refl _, by unfold maxLen; omega⟩
  · exact ⟨_, cap, rfl, hc, hm⟩

theorem byte_info : (Try.prog.info? 5).map (fun i => (i.zero, i.size, i.bytes)) = some (some (.int .u8 0), 1, 1) := by kernel_rfl

theorem block_lt {w : World} {a : Addr} {v : Value} (h : w.cell? a = some v) : a.block < w.heap.size := by
  rcases Nat.lt_or_ge a.block w.heap.size with hlt | hge
  · exact hlt
  · unfold World.cell? at h
    rw [Array.getElem?_eq_none hge] at h
    simp at h

/-- A slice of bytes that came in, as a list of bytes. -/
theorem rowBytes {w : World} {a : Option Addr} {len cap : Nat} {zs : List Int}
    (h : (a = none ∧ len = 0 ∧ cap = 0 ∧ zs = []) ∨ ∃ x, a = some x ∧ len ≤ cap ∧ cap ≤ maxLen ∧ zs.length = cap ∧ (∀ i, i < zs.length → w.cell? (x.add i) = some (.int .u8 (zs.getD i 0))) ∧ ∀ n ∈ zs, (Lit.int .u8 n).wf = true) :
    ∃ l : List Nat, l.length = len ∧ By l ∧ Rd w w.heap.size a l := by
  rcases h with ⟨rfl, rfl, rfl, rfl⟩ | ⟨x, rfl, hl, _, hz, hc, hw⟩
  · exact ⟨[], rfl, By.nil, Rd.nil⟩
  · have hwb : ∀ n ∈ zs, 0 ≤ n ∧ n < 256 := by
      intro n hn
      have := hw n hn
      simp [Lit.wf, IntKind.min, IntKind.max, IntKind.signed, IntKind.bits] at this
      omega
    refine ⟨(zs.take len).map Int.toNat, by simp; omega, ?_, ?_⟩
    · intro y hy
      simp only [List.mem_map] at hy
      obtain ⟨n, hn, rfl⟩ := hy
      have := hwb n (List.mem_of_mem_take hn)
      omega
    · intro hlen
      have hlen' : 0 < len := by simp at hlen; omega
      have h0 := hc 0 (by omega)
      obtain ⟨b, off, spot⟩ := x
      have hs : spot = none := by simpa [Addr.add] using World.cell?_spot h0
      subst hs
      refine ⟨b, off, rfl, by simpa [Addr.add] using block_lt h0, fun k x hx => ?_⟩
      rw [List.getElem?_map] at hx
      obtain ⟨n, hn, rfl⟩ := Option.map_eq_some_iff.1 hx
      rw [List.getElem?_take] at hn
      split at hn
      · have hk : k < zs.length := (List.getElem?_eq_some_iff.1 hn).1
        have hck := hc k hk
        rw [List.getD_eq_getElem?_getD, hn, Option.getD_some] at hck
        have hnn := hwb n (List.mem_of_getElem? hn)
        rw [show ((n.toNat : Nat) : Int) = n from by omega, ← hck]
        by_cases h0 : k = 0
        · subst h0; simp [Addr.add]
        · simp [Addr.add, h0]
      · cases hn
end

section
set_option maxRecDepth 4000
open Go.RowKit

theorem take_snoc_eq {a b : List Nat} {k x y : Nat} (h : a.take k = b.take k) (hx : a[k]? = some x) (hy : b[k]? = some y) (e : x = y) : a.take (k + 1) = b.take (k + 1) := by
  rw [List.take_add_one, List.take_add_one, h, hx, hy, e]
theorem ne_of_at {a b : List Nat} {k x y : Nat} (hx : a[k]? = some x) (hy : b[k]? = some y) (e : x ≠ y) : a ≠ b := by
  rintro rfl
  rw [hx] at hy
  injection hy with h
  exact e h

set_option maxHeartbeats 400000 in
theorem equal_any (a b : List Nat) (A B : Option Addr) (c d : Nat) (w : World) (Bl : Nat) (ha : Rd w Bl A a) (hb : Rd w Bl B b) (hn : a.length ≤ 1099511627776) :
    Calls Try.prog 8 #[.slice A a.length c, .slice B b.length d] w fun e w' => e = .returned (.bool (decide (a = b))) ∧ ∃ n, w' = w.drewN n := by
  by_cases hl : a.length = b.length
  · have hne : ((a.length : Int) != (b.length : Int)) = false := by simp [hl]
    have HL := Lib.hid hl
    clear hl
    go_enter Try.func8, Try.ntmps8
    go_wp2_with fail
    go_loopw [5] (fun i wr => ∃ k : Nat, k ≤ a.length ∧ i = .int .i64 k ∧ Hid (a.take k = b.take k) ∧ ∃ n, wr = w.drewN n) (fun i _ => a.length - (intOf i).toNat)
    case atStart => exact ⟨0, Nat.zero_le _, rfl, Lib.hid (by simp), 0, rfl⟩
    case round =>
      obtain ⟨k, hk, rfl, heq, n, rfl⟩ := hrel
      by_cases hlt : k < a.length
      · have hlb : k < b.length := by have := HL.out; omega
        obtain ⟨ba, oa, x, rfl, _, hx, hcx⟩ := ha.at_ hlt
        obtain ⟨bb, ob, y, rfl, _, hy, hcy⟩ := hb.at_ hlb
        have HX := Lib.hid hx
        have HY := Lib.hid hy
        clear hx hy
        have i1 : (0 : Int) ≤ k := by omega
        have i2 : (k : Int) < a.length := by omega
        have i3 : (k : Int) < b.length := by omega
        go_wp2_with fail
        go_quiet (fail)
        all_goals go_wp2_with fail
        · have hxy : ((x : Int) != (y : Int)) = true := by assumption
          have hne2 : a ≠ b := ne_of_at HX.out HY.out (by rw [bne_iff_ne] at hxy; omega)
          go_ret
          exact ⟨by simp [hne2], _, World.drewN_drewN _ _ _⟩
        · have hxy : ((x : Int) != (y : Int)) = false := by assumption
          have he : x = y := by have := bne_eq_false_iff_eq.1 hxy; omega
          have R := Lib.hid (take_snoc_eq heq.out HX.out HY.out he)
          clear hxy he
          go_roundw
          case rel => exact ⟨k + 1, by omega, by go_num, R, _, rfl⟩
          case measure => simp [intOf]; omega
      · go_wp2
        go_ret
        have hk' : k = a.length := by omega
        have he : a = b := by
          have := heq.out
          rw [List.take_of_length_le (by omega), List.take_of_length_le (by have := HL.out; omega)] at this
          exact this
        exact ⟨by simp [he], _, rfl⟩
  · have hne : ((a.length : Int) != (b.length : Int)) = true := by rw [bne_iff_ne]; omega
    go_enter Try.func8, Try.ntmps8
    go_wp2_with fail
    go_ret
    refine ⟨?_, 0, rfl⟩
    have : a ≠ b := fun h => hl (by rw [h])
    simp [this]

/-- The comparison, of lists whose lengths are numbers of their own. -/
theorem equal_c (a b : List Nat) (n m : Nat) (A B : Option Addr) (c d : Nat) (w : World) (ha : Rd w w.heap.size A a) (hb : Rd w w.heap.size B b) (hn : a.length = n) (hm : b.length = m) (hl : n ≤ 1099511627776) :
    Calls Try.prog 8 #[.slice A n c, .slice B m d] w fun e w' => e = .returned (.bool (decide (a = b))) ∧ Below w.heap.size w w' := by
  subst hn; subst hm
  exact (equal_any a b A B c d w _ ha hb hl).mono fun _ _ ⟨he, hw⟩ => ⟨he, by obtain ⟨k, rfl⟩ := hw; exact below_drewN (Below.refl _ _) k⟩
theorem equal_yes (a b : List Nat) (n m : Nat) (A B : Option Addr) (c d : Nat) (w : World) (ha : Rd w w.heap.size A a) (hb : Rd w w.heap.size B b) (hn : a.length = n) (hm : b.length = m) (hl : n ≤ 1099511627776) (hab : a = b) :
    Calls Try.prog 8 #[.slice A n c, .slice B m d] w fun e w' => e = .returned (.bool true) ∧ Below w.heap.size w w' :=
  (equal_c a b n m A B c d w ha hb hn hm hl).mono fun _ _ ⟨he, hw⟩ => ⟨by rw [he]; simp [hab], hw⟩

/-- A new list of bytes: what it reads as, and that it is the call's own. -/
def New (w w' : World) (A : Option Addr) (c n : Nat) (l : List Nat) : Prop :=
  l.length = n ∧ w'.ownsRow w.heap.size 5 1 (.slice A n c) n (bvs l) ∧ Rd w' w'.heap.size A l ∧ Below w.heap.size w w'
theorem New.mk {w w' : World} {v : Value} {n : Nat} {l : List Nat} (hown : w'.ownsRow w.heap.size 5 1 v n (bvs l)) (hb : Below w.heap.size w w') : ∃ A c, v = .slice A n c ∧ New w w' A c n l := by
  obtain ⟨A, c, rfl, _, _⟩ := own_form hown
  refine ⟨A, c, rfl, ?_, hown, Rd.own hown, hb⟩
  have := hown.1
  rw [bvs_len] at this; omega

/-- One byte appended to an owned row. -/
theorem push_row {w3 : World} {base n m : Nat} {e : TypeId} {v : Value} {l : List Nat} {x : Nat} (h : w3.ownsRow base e 1 v n (bvs l ++ [.int .u8 (x : Int)])) (hm : n = m) : w3.ownsRow base e 1 v m (bvs (l ++ [x])) := by
  subst hm
  rw [bvs_app]; exact h
theorem push_below {w wr w3 : World} {e : TypeId} {v : Value} {n : Nat} {xs : List Value} {o : Obj} (hb : Below w.heap.size w wr) (hown : wr.ownsRow w.heap.size e 1 v n xs) (hg : (wr.alloc o).grownBy w3 v.ownBlock) : Below w.heap.size w w3 :=
  (hb.alloc hb.size _).grown hg (by have := hb.size; simp; omega) (fun k hk => (hown.lt k hk).1)

/-- A literal in a new block. -/
theorem Rd.lit (w : World) (l : List Nat) : Rd (w.alloc (.cells (bvs l).toArray 5)) (w.heap.size + 1) (some ⟨w.heap.size, 0, none⟩) l := by
  intro hl
  refine ⟨w.heap.size, 0, rfl, by omega, fun k x hx => ?_⟩
  rw [World.cell?_alloc_at _ _ _ _ rfl]
  have := bvs_get l k x hx
  simpa using this
theorem Rd.lit_ (w : World) (l : List Nat) : Rd (w.alloc (.cells (bvs l).toArray 5)) (w.alloc (.cells (bvs l).toArray 5)).heap.size (some ⟨w.heap.size, 0, none⟩) l :=
  (Rd.lit w l).more (by simp)
end

section
set_option maxRecDepth 4000
open Go.RowKit

/-- What is done after k rounds: the first k, and zeros. -/
def part (l : List Nat) (n k : Nat) : List Nat := l ++ List.replicate (n - k) 0

theorem part_len {l : List Nat} {n k : Nat} (h : l.length = k) (hk : k ≤ n) : (part l n k).length = n := by
  simp [part]; omega
theorem part_set {l : List Nat} {n k : Nat} (h : l.length = k) (hk : k < n) (x : Nat) : (bvs (part l n k)).set k (.int .u8 (x : Int)) = bvs (part (l ++ [x]) n (k + 1)) := by
  subst h
  have hr : n - l.length = (n - (l.length + 1)) + 1 := by omega
  unfold part bvs
  rw [hr, List.replicate_succ, List.map_append, List.set_append_right _ _ (by simp)]
  simp [bv]
theorem part_full {l : List Nat} {n : Nat} : part l n n = l := by simp [part]
theorem part_zero (n : Nat) : bvs (part [] n 0) = (madeCells (Value.cells (.int .u8 0)) (n * 1)).toList := by
  have : Value.cells (.int .u8 0) = #[.int .u8 0] := rfl
  rw [this, toList_madeCells_one]
  simp [part, bvs, bv]

/-- The cells of a literal in a new block. -/
theorem cells_new (w : World) (xs : List Value) (t : TypeId) : ∀ j u, xs[j]? = some u → (w.alloc (.cells xs.toArray t)).cell? ((⟨w.heap.size, 0, none⟩ : Addr).add j) = some u := by
  intro j u hj
  have h : (w.alloc (.cells xs.toArray t)).cell? ⟨w.heap.size, j, none⟩ = some u := by
    rw [World.cell?_alloc_at _ _ _ _ rfl]
    simpa using hj
  by_cases h0 : j = 0
  · subst h0; simpa [Addr.add] using h
  · simpa [Addr.add, h0] using h
theorem cells_at (w : World) (xs : List Value) (t : TypeId) (b : Nat) (hb : w.heap.size = b) : ∀ j u, xs[j]? = some u → (w.alloc (.cells xs.toArray t)).cell? ((⟨b, 0, none⟩ : Addr).add j) = some u := by
  subst hb
  exact cells_new w xs t
end

section
set_option maxRecDepth 4000
open Go.RowKit

theorem own_below {w w' : World} {base : Nat} {e : TypeId} {v : Value} {n : Nat} {xs : List Value} (h : w.ownsRow base e 1 v n xs) (hb : Below w.heap.size w w') : w'.ownsRow base e 1 v n xs := by
  refine ⟨h.1, ?_⟩
  rcases h.2 with h0 | ⟨g, cap, cur, hv, hg, hh, hr⟩
  · exact .inl h0
  · have hlt : g < w.heap.size := by
      rcases Nat.lt_or_ge g w.heap.size with hlt | hge
      · exact hlt
      · rw [Array.getElem?_eq_none hge] at hh; cases hh
    exact .inr ⟨g, cap, cur, hv, hg, (hb.block g hlt).trans hh, hr⟩

theorem run_app {P : Program} (w : World) (t ty e : TypeId) (i : TypeInfo) (ht : P.underlying t = some (.slice e)) (hi : P.info? e = some i) (hz : i.zero = some (.int .u8 0)) (hs : i.size = 1) (hby : i.bytes = 1)
    (base : Nat) (v : Value) (n : Nat) (xs : List Nat) (hown : w.ownsRow base e 1 v n (bvs xs)) (B : Nat) (A : Option Addr) (m c : Nat) (l : List Nat) (hr : Rd w B A l) (hl : l.length = m)
    (hlen : n + m ≤ 1099511627776) (hbase : base ≤ w.heap.size) :
    ∃ A' c' w', (Builtin.append_ #[t, t] ty #[v, .slice A m c]).run P w = .ok (.slice A' (n + m) c') w' ∧ w'.ownsRow base e 1 (.slice A' (n + m) c') (n + m) (bvs (xs ++ l)) ∧ w.grownBy w' v.ownBlock := by
  rcases A with _ | ad
  · have hm : m = 0 := by
      rcases Nat.eq_zero_or_pos m with h0 | h0
      · exact h0
      · obtain ⟨_, _, h, _⟩ := hr (by omega)
        cases h
    subst hm
    have hnil : l = [] := List.eq_nil_of_length_eq_zero hl
    subst hnil
    obtain ⟨A', c', rfl, _, _⟩ := own_form hown
    refine ⟨A', c', w, ?_, by simpa using hown, World.grownBy.refl w _⟩
    rcases hown.2 with ⟨hv, h0⟩ | ⟨g, cap, cur, hv, _, _, hnc, _⟩
    · injection hv with h1 h2 h3
      subst h1; subst h2; subst h3
      simp [Builtin.append_, run_underlying ht, sizeOf, typeInfo, hi, Builtin.lenOf, Builtin.firstCells]
    · injection hv with h1 h2 h3
      subst h1; subst h3
      simp [Builtin.append_, run_underlying ht, sizeOf, typeInfo, hi, Builtin.lenOf, Builtin.firstCells, hnc, storeCells]
  · obtain ⟨v', w', h1, h2, h3, _⟩ := run_append_own (P := P) w base t ty e i (.int .u8 0) 1 1 ht hi hz hs hby rfl (by omega) v n (bvs xs) hown ad m c (bvs l) (by rw [bvs_len]; omega)
      (by
        intro j u hu
        rw [bvs, List.getElem?_map] at hu
        obtain ⟨x, hx, rfl⟩ := Option.map_eq_some_iff.1 hu
        have hpos : 0 < l.length := by have := (List.getElem?_eq_some_iff.1 hx).1; omega
        obtain ⟨b, off, he, _, hc⟩ := hr hpos
        injection he with he
        subst he
        have := hc j x hx
        by_cases hj : j = 0
        · subst hj; simpa [Addr.add, bv] using this
        · simpa [Addr.add, hj, bv] using this)
      (bvs_one l) (by unfold maxLen; omega) (by omega) hbase
    obtain ⟨A', c', rfl, _, _⟩ := own_form h2
    exact ⟨A', c', w', h1, by rw [bvs_app]; exact h2, h3⟩

theorem step_app {P : Program} (w : World) {ops : Array Oper} {o : Oper} {a : Act} {K : Act → World → Prop} {Q : Exit → Act → World → Prop} {E : Prop} (hw : Region.wanted o (yielded ops a.tmps) = true) (s x : Operand) (t : TypeId)
    (ho : o.op = .call { callee := .builtin .append, args := #[s, x], argTypes := #[t, t] })
    (e : TypeId) (i : TypeInfo) (ht : P.underlying t = some (.slice e)) (hi : P.info? e = some i) (hz : i.zero = some (.int .u8 0)) (hs1 : i.size = 1) (hby : i.bytes = 1)
    (base : Nat) (v : Value) (n : Nat) (xs : List Nat) (hs : a.eval s = v) (hown : w.ownsRow base e 1 v n (bvs xs)) (B : Nat) (A : Option Addr) (m c : Nat) (l : List Nat) (hx : a.eval x = .slice A m c) (hr : Rd w B A l) (hl : l.length = m)
    (hlen : n + m ≤ 1099511627776) (hbase : base ≤ w.heap.size)
    (h : ∀ A' c' w', w'.ownsRow base e 1 (.slice A' (n + m) c') (n + m) (bvs (xs ++ l)) → w.grownBy w' v.ownBlock → K (a.put o.dst (.slice A' (n + m) c')) w') :
    if Region.wanted o (yielded ops a.tmps) = true then Oper.wp P o a w K Q else E := by
  rw [if_pos hw]
  obtain ⟨A', c', w', hrun, h2, h3⟩ := run_app (P := P) w t o.type e i ht hi hz hs1 hby base v n xs hown B A m c l hr hl hlen hbase
  unfold Oper.wp execOp
  simp only [ho, resolve, invoke, builtin, Sem.run_bind, Sem.run_pure, Result.andThen_ok, List.map_toArray, List.map_cons, List.map_nil, hs, hx, hrun]
  exact h A' c' w' h2 h3

theorem Rd.cut {w : World} {B : Nat} {A : Option Addr} {l : List Nat} {k c : Nat} (h : Rd w B A l) (hk : k ≤ l.length) (hc : l.length ≤ c) : Rd w B (if c = k then A else A.map (·.add k)) (l.drop k) := by
  intro hl
  rw [List.length_drop] at hl
  rw [if_neg (by omega)]
  obtain ⟨b, off, rfl, hb, hcell⟩ := h (by omega)
  refine ⟨b, off + k, ?_, hb, fun j x hx => ?_⟩
  · by_cases h0 : k = 0
    · subst h0; simp [Addr.add]
    · simp [Addr.add, h0]
  · rw [Nat.add_assoc]
    exact hcell (k + j) x (by rw [← List.getElem?_drop]; exact hx)

theorem list_app {P : Program} {w : World} {ops : Array Oper} {rest : List Oper} {o : Oper} {a : Act} {Q : Exit → Act → World → Prop} (hgd : o.guard = none) (s x : Operand) (t : TypeId)
    (ho : o.op = .call { callee := .builtin .append, args := #[s, x], argTypes := #[t, t] })
    (e : TypeId) (i : TypeInfo) (ht : P.underlying t = some (.slice e)) (hi : P.info? e = some i) (hz : i.zero = some (.int .u8 0)) (hs1 : i.size = 1) (hby : i.bytes = 1)
    (base : Nat) (v : Value) (n : Nat) (xs : List Nat) (hs : a.eval s = v) (hown : w.ownsRow base e 1 v n (bvs xs)) (B : Nat) (A : Option Addr) (m c : Nat) (l : List Nat) (hx : a.eval x = .slice A m c) (hr : Rd w B A l) (hl : l.length = m)
    (hlen : n + m ≤ 1099511627776) (hbase : base ≤ w.heap.size)
    (h : ∀ A' c' w', w'.ownsRow base e 1 (.slice A' (n + m) c') (n + m) (bvs (xs ++ l)) → w.grownBy w' v.ownBlock → wpList P ops Q rest (a.put o.dst (.slice A' (n + m) c')) w') :
    wpList P ops Q (o :: rest) a w := by
  refine wpList_plain hgd fun K hK => ?_
  obtain ⟨A', c', w', hrun, h2, h3⟩ := run_app (P := P) w t o.type e i ht hi hz hs1 hby base v n xs hown B A m c l hr hl hlen hbase
  unfold Oper.wp execOp
  simp only [ho, resolve, invoke, builtin, Sem.run_bind, Sem.run_pure, Result.andThen_ok, List.map_toArray, List.map_cons, List.map_nil, hs, hx, hrun]
  exact hK _ _ (h A' c' w' h2 h3)
/-- The same behind a guard that is met. -/
theorem list_app_w {P : Program} {w : World} {ops : Array Oper} {rest : List Oper} {o : Oper} {a : Act} {Q : Exit → Act → World → Prop} (hw : Region.wanted o (yielded ops a.tmps) = true) (s x : Operand) (t : TypeId)
    (ho : o.op = .call { callee := .builtin .append, args := #[s, x], argTypes := #[t, t] })
    (e : TypeId) (i : TypeInfo) (ht : P.underlying t = some (.slice e)) (hi : P.info? e = some i) (hz : i.zero = some (.int .u8 0)) (hs1 : i.size = 1) (hby : i.bytes = 1)
    (base : Nat) (v : Value) (n : Nat) (xs : List Nat) (hs : a.eval s = v) (hown : w.ownsRow base e 1 v n (bvs xs)) (B : Nat) (A : Option Addr) (m c : Nat) (l : List Nat) (hx : a.eval x = .slice A m c) (hr : Rd w B A l) (hl : l.length = m)
    (hlen : n + m ≤ 1099511627776) (hbase : base ≤ w.heap.size)
    (h : ∀ A' c' w', w'.ownsRow base e 1 (.slice A' (n + m) c') (n + m) (bvs (xs ++ l)) → w.grownBy w' v.ownBlock → wpList P ops Q rest (a.put o.dst (.slice A' (n + m) c')) w') :
    wpList P ops Q (o :: rest) a w := by
  refine wpList_step fun K hK => ?_
  rw [if_pos hw]
  obtain ⟨A', c', w', hrun, h2, h3⟩ := run_app (P := P) w t o.type e i ht hi hz hs1 hby base v n xs hown B A m c l hr hl hlen hbase
  unfold Oper.wp execOp
  simp only [ho, resolve, invoke, builtin, Sem.run_bind, Sem.run_pure, Result.andThen_ok, List.map_toArray, List.map_cons, List.map_nil, hs, hx, hrun]
  exact hK _ _ (h A' c' w' h2 h3)
theorem own_cap {w : World} {base n c : Nat} {e : TypeId} {A : Option Addr} {xs : List Value} (h : w.ownsRow base e 1 (.slice A n c) n xs) : n ≤ c := by
  obtain ⟨A', c', he, h1, _⟩ := own_form h
  injection he with _ _ h3
  omega
theorem app_below {W w w' : World} {base n : Nat} {e : TypeId} {v : Value} {xs : List Value} (hb : Below W.heap.size W w) (hbase : W.heap.size ≤ base) (hown : w.ownsRow base e 1 v n xs) (hg : w.grownBy w' v.ownBlock) : Below W.heap.size W w' :=
  hb.grown hg hb.size (fun k hk => Nat.le_trans hbase (hown.lt k hk).1)
end

section
set_option maxRecDepth 4000
open Go.RowKit

/-- A list of bytes as the numbers of a string. -/
def nums (l : List Nat) : List Int := l.map fun (x : Nat) => (x : Int)
theorem nums_eq {a b : List Nat} (ha : By a) (hb : By b) : (Lib.bytesOf (nums a) == Lib.bytesOf (nums b)) = decide (a = b) := by
  rw [Bool.eq_iff_iff, beq_iff_eq, decide_eq_true_iff]
  constructor
  · intro h
    have key : ∀ l : List Nat, By l → (Lib.bytesOf (nums l)).map UInt8.toNat = l := by
      intro l hl
      induction l with
      | nil => rfl
      | cons x t ih =>
        have hx : x < 256 := hl x (List.mem_cons_self ..)
        have := ih (fun y hy => hl y (List.mem_cons_of_mem _ hy))
        simp only [nums, Lib.bytesOf, List.map_cons, List.map_map] at this ⊢
        rw [this]
        congr 1
        simp
        omega
    rw [← key a ha, ← key b hb, h]
  · rintro rfl
    rfl
theorem conv_list {w : World} {B : Nat} {A : Option Addr} {l : List Nat} (h : Rd w B A l) (n c : Nat) (hl : l.length = n) : (convert 26 9 (.slice A n c)).run Try.prog w = .ok (.string (strOfNums (nums l))) w := by
  rcases Nat.eq_zero_or_pos n with hn | hn
  · subst hn
    obtain rfl : l = [] := List.eq_nil_of_length_eq_zero hl
    rw [run_convert_bytes_string w 26 9 5 A 0 c Try.underlying26 Try.underlying5 Try.underlying9]
    cases A <;> simp [Conv.bytesToString, loadCells]
    all_goals rfl
  · obtain ⟨b, off, rfl, _, hc⟩ := h (by omega)
    refine run_convert_bytes_arg w 26 5 Try.underlying26 Try.underlying5 b off n c (nums l) (by simp [nums, hl]) (fun i hi => ?_) 9 Try.underlying9
    rw [hc i _ (List.getElem?_eq_getElem (by omega))]
    simp [nums, List.getD, List.getElem?_eq_getElem (show i < l.length by omega)]

set_option maxHeartbeats 400000 in
theorem bequal_any (a b : List Nat) (n m : Nat) (A B : Option Addr) (c d : Nat) (w : World) (K : Nat) (ha : Rd w K A a) (hb : Rd w K B b) (hA : By a) (hB : By b) (hn : a.length = n) (hm : b.length = m) :
    Calls Try.prog 28 #[.slice A n c, .slice B m d] w fun e w' => e = .returned (.bool (decide (a = b))) ∧ w = w' := by
  have h1 := conv_list ha n c hn
  have h2 := conv_list hb m d hm
  rw [← nums_eq hA hB, ← Lib.strOfNums_toList, ← Lib.strOfNums_toList]
  go_enter Try.func28, Try.ntmps28
  go_wp2
  go_ret
  exact ⟨rfl, rfl⟩
end

section
set_option maxRecDepth 4000
open Go.RowKit

/-- The blocks of X alone, and new ones, may have turned. -/
structure Offs (X : Nat → Prop) (w w' : World) : Prop where
  os : w'.os = w.os
  tape : w'.tape = w.tape
  output : w'.output = w.output
  size : w.heap.size ≤ w'.heap.size
  block : ∀ k, k < w.heap.size → ¬ X k → w'.heap[k]? = w.heap[k]?

section
variable {X Y Z : Nat → Prop} {a b c w w' : World} {B : Nat}
theorem Offs.refl (X : Nat → Prop) (w : World) : Offs X w w := ⟨rfl, rfl, rfl, Nat.le_refl _, fun _ _ _ => rfl⟩
theorem Offs.trans (h : Offs X a b) (k : Offs Y b c) (hX : ∀ i, X i → Z i) (hY : ∀ i, i < a.heap.size → Y i → Z i) : Offs Z a c :=
  ⟨k.os.trans h.os, k.tape.trans h.tape, k.output.trans h.output, Nat.le_trans h.size k.size, fun i hi hz => (k.block i (Nat.lt_of_lt_of_le hi h.size) (fun hy => hz (hY i hi hy))).trans (h.block i hi (fun hx => hz (hX i hx)))⟩
theorem Offs.of_below (h : Below w.heap.size w w') : Offs X w w' := ⟨h.os, h.tape, h.output, h.size, fun k hk _ => h.block k hk⟩
theorem Offs.of_grown {row : Option Nat} (h : w.grownBy w' row) (hX : ∀ k, row = some k → X k) : Offs X w w' := ⟨h.os, h.tape, h.output, h.size, fun k hk hx => h.block k hk (fun e => hx (hX k e.symm))⟩
theorem Offs.below (h : Offs X w w') (hX : ∀ k, k < B → ¬ X k) (hB : B ≤ w.heap.size) : Below B w w' := ⟨h.os, h.tape, h.output, h.size, fun k hk => h.block k (by omega) (hX k hk)⟩
theorem Offs.set (w : World) (k j : Nat) (u : Value) (hk : X k) : Offs X w (w.setCell ⟨k, j, none⟩ u) := ⟨rfl, rfl, rfl, by simp [World.setCell], fun i _ hx => Below.heap_setCell _ _ _ _ (by intro e; exact hx (by rw [show i = k from e]; exact hk))⟩
theorem Offs.more (h : Offs X w w') (hX : ∀ k, k < w.heap.size → X k → Y k) : Offs Y w w' := ⟨h.os, h.tape, h.output, h.size, fun k hk hy => h.block k hk (fun hx => hy (hX k hk hx))⟩
end

section
variable {w w' : World} {base : Nat} {e e' : TypeId} {sz sz' : Nat} {v v' : Value} {n n' : Nat} {xs xs' : List Value} {X : Nat → Prop}
theorem own_blk (h : w.ownsRow base e sz v n xs) {g : Nat} (hg : v.ownBlock = some g) : ∃ cur, w.heap[g]? = some (.cells cur e (0, 0)) := by
  rcases h.2 with ⟨rfl, _⟩ | ⟨g', cap, cur, rfl, _, hgg, _⟩
  · cases hg
  · injection hg with hg
    subst hg
    exact ⟨cur, hgg⟩
theorem own_ne (h : w.ownsRow base e sz v n xs) {base' : Nat} (h' : w.ownsRow base' e' sz' v' n' xs') (hne : e ≠ e') {g : Nat} (hg : v.ownBlock = some g) : v'.ownBlock ≠ some g := by
  intro hg'
  obtain ⟨c, hc⟩ := own_blk h hg
  obtain ⟨c', hc'⟩ := own_blk h' hg'
  rw [hc] at hc'
  injection hc' with h1
  injection h1 with _ h2
  exact hne h2
theorem own_off (h : w.ownsRow base e sz v n xs) (ho : Offs X w w') (hv : ∀ g, v.ownBlock = some g → ¬ X g) : w'.ownsRow base e sz v n xs := by
  refine ⟨h.1, ?_⟩
  rcases h.2 with h0 | ⟨g, cap, cur, rfl, hg, hh, hr⟩
  · exact .inl h0
  · have hlt : g < w.heap.size := by
      rcases Nat.lt_or_ge g w.heap.size with hlt | hge
      · exact hlt
      · rw [Array.getElem?_eq_none hge] at hh; cases hh
    exact .inr ⟨g, cap, cur, rfl, hg, (ho.block g hlt (hv g rfl)).trans hh, hr⟩
theorem own_lo {base' : Nat} (h : w.ownsRow base e sz v n xs) (hb : base' ≤ base) : w.ownsRow base' e sz v n xs := by
  refine ⟨h.1, ?_⟩
  rcases h.2 with h0 | ⟨g, cap, cur, hv, hg, hh, hr⟩
  · exact .inl h0
  · exact .inr ⟨g, cap, cur, hv, by omega, hh, hr⟩
theorem own_at {base' : Nat} (h : w.ownsRow base e sz v n xs) (hb : ∀ g, v.ownBlock = some g → base' ≤ g) : w.ownsRow base' e sz v n xs := by
  refine ⟨h.1, ?_⟩
  rcases h.2 with h0 | ⟨g, cap, cur, rfl, hg, hh, hr⟩
  · exact .inl h0
  · exact .inr ⟨g, cap, cur, rfl, hb g rfl, hh, hr⟩
end

theorem own_some {w : World} {base : Nat} {e : TypeId} {sz n : Nat} {v : Value} {xs : List Value} (h : w.ownsRow base e sz v n xs) (hn : 0 < n) : ∃ g cap, v = .slice (some ⟨g, 0, none⟩) n cap := by
  rcases h.2 with ⟨_, rfl⟩ | ⟨g, cap, cur, hv, _⟩
  · omega
  · exact ⟨g, cap, hv⟩
theorem own_shape {w : World} {base : Nat} {e : TypeId} {sz : Nat} {v : Value} {n : Nat} {xs : List Value} (h : w.ownsRow base e sz v n xs) : ∃ A c, v = .slice A n c ∧ n ≤ c ∧ c ≤ maxLen := by
  rcases h.2 with ⟨rfl, rfl⟩ | ⟨g, cap, cur, rfl, _, _, hc, hm, _⟩
  · exact ⟨none, 0, rfl, Nat.le_refl _, by unfold maxLen; omega⟩
  · exact ⟨_, cap, rfl, hc, hm⟩

/-- The block of the second slice is that of the first one, or new. -/
def Mv (n : Nat) (V V' : Value) : Prop := ∀ k, V'.ownBlock = some k → V.ownBlock = some k ∨ n ≤ k
theorem Mv.refl (n : Nat) (V : Value) : Mv n V V := fun _ h => .inl h
theorem Mv.nil (n : Nat) (V : Value) (c k : Nat) : Mv n V (.slice none c k) := fun _ h => by cases h
theorem Mv.new (n : Nat) (V : Value) (g l k : Nat) (h : n ≤ g) : Mv n V (.slice (some ⟨g, 0, none⟩) l k) := fun _ h' => by injection h' with h'; exact .inr (by rw [← h']; exact h)
theorem Mv.trans {n m : Nat} {U V W : Value} (h : Mv n U V) (k : Mv m V W) (hm : n ≤ m) : Mv n U W := fun i hi => by
  rcases k i hi with h1 | h1
  · exact h i h1
  · exact .inr (by omega)

theorem run_mv {P : Program} (w : World) (t ty e : TypeId) (i : TypeInfo) (z : Value) (size bytes : Nat) (ht : P.underlying t = some (.slice e)) (hi : P.info? e = some i) (hz : i.zero = some z)
    (hsize : i.size = size) (hby : i.bytes = bytes) (hzs : z.cells.size = size) (hsz : 0 < size) (base : Nat) (v : Value) (n : Nat) (xs : List Value) (hown : w.ownsRow base e size v n xs)
    (A : Option Addr) (m c : Nat) (news : List Value) (hA : A = none → m = 0) (hl : news.length = m * size) (hnews : ∀ ad, A = some ad → ∀ j u, news[j]? = some u → w.cell? (ad.add j) = some u) (h1 : ∀ u ∈ news, u.oneCell' = true)
    (h63 : n + m ≤ maxLen) (hbytes : (n + m) * bytes ≤ 140737488355328) (hbase : base ≤ w.heap.size) :
    ∃ v' w', (Builtin.append_ #[t, t] ty #[v, .slice A m c]).run P w = .ok v' w' ∧ w'.ownsRow base e size v' (n + m) (xs ++ news) ∧ w.grownBy w' v.ownBlock ∧ Mv w.heap.size v v' := by
  rcases A with _ | ad
  · have hm := hA rfl
    subst hm
    have hnil : news = [] := List.eq_nil_of_length_eq_zero (by omega)
    subst hnil
    refine ⟨v, w, ?_, by simpa using hown, World.grownBy.refl w _, Mv.refl _ _⟩
    rcases hown.2 with ⟨rfl, rfl⟩ | ⟨g, cap, cur, rfl, _, _, hnc, _⟩
    · simp [Builtin.append_, run_underlying ht, sizeOf, typeInfo, hi, Builtin.lenOf, Builtin.firstCells]
    · simp [Builtin.append_, run_underlying ht, sizeOf, typeInfo, hi, Builtin.lenOf, Builtin.firstCells, hnc, storeCells]
  · obtain ⟨v', w', hr, h2, h3, h4⟩ := run_append_own (P := P) w base t ty e i z size bytes ht hi hz hsize hby hzs hsz v n xs hown ad m c news hl (hnews ad rfl) h1 h63 hbytes hbase
    refine ⟨v', w', hr, h2, h3, ?_⟩
    rcases hown.2 with ⟨rfl, rfl⟩ | ⟨g, cap, cur, rfl, hbg, hg, hnc, hcm, hcs, htake⟩
    · by_cases hm : m = 0
      · rw [h4.2 ⟨rfl, hm⟩]; exact Mv.nil _ _ _ _
      · subst hsize; subst hby
        have hx := run_append_nil (P := P) w t ty e i z ht hi hz ad m c news hl (hnews ad rfl) (by omega) (by simp only [maxLen] at h63; omega) (by have hb := hbytes; simp only [Nat.zero_add] at hb; omega)
        rw [hx] at hr
        injection hr with hr _
        rw [← hr]; exact Mv.new _ _ _ _ _ (Nat.le_refl _)
    · by_cases hroom : n + m ≤ cap
      · obtain ⟨w2, hx, _⟩ := run_append_fits (P := P) w base t ty e i size ht hi hsize g n cap xs hown ad m c news hl (hnews ad rfl) h1 hroom
        rw [hx] at hr
        injection hr with hr _
        rw [← hr]; exact fun _ h => .inl h
      · subst hsize; subst hby
        have hx := run_append_grow (P := P) w t ty e i z ht hi hz ⟨g, 0, none⟩ n cap xs hown.1 (hown.cells (g := g) rfl) ad m c news hl (hnews ad rfl) (by omega) (by simp only [maxLen] at h63; omega) (growslice_fits (by omega) hbytes)
        rw [hx] at hr
        injection hr with hr _
        rw [← hr]; exact Mv.new _ _ _ _ _ (Nat.le_refl _)

theorem list_mv {P : Program} {w : World} {ops : Array Oper} {rest : List Oper} {o : Oper} {a : Act} {Q : Exit → Act → World → Prop} (hgd : o.guard = none) (s x : Operand) (t : TypeId)
    (ho : o.op = .call { callee := .builtin .append, args := #[s, x], argTypes := #[t, t] })
    (e : TypeId) (i : TypeInfo) (z : Value) (size bytes : Nat) (ht : P.underlying t = some (.slice e)) (hi : P.info? e = some i) (hz : i.zero = some z)
    (hsize : i.size = size) (hby : i.bytes = bytes) (hzs : z.cells.size = size) (hsz : 0 < size) (base : Nat) (v : Value) (n : Nat) (xs : List Value) (hs : a.eval s = v) (hown : w.ownsRow base e size v n xs)
    (A : Option Addr) (m c : Nat) (news : List Value) (hx : a.eval x = .slice A m c) (hA : A = none → m = 0) (hl : news.length = m * size) (hnews : ∀ ad, A = some ad → ∀ j u, news[j]? = some u → w.cell? (ad.add j) = some u) (h1 : ∀ u ∈ news, u.oneCell' = true)
    (h63 : n + m ≤ maxLen) (hbytes : (n + m) * bytes ≤ 140737488355328) (hbase : base ≤ w.heap.size)
    (h : ∀ v' w', w'.ownsRow base e size v' (n + m) (xs ++ news) → w.grownBy w' v.ownBlock → Mv w.heap.size v v' → wpList P ops Q rest (a.put o.dst v') w') :
    wpList P ops Q (o :: rest) a w := by
  refine wpList_plain hgd fun K hK => ?_
  obtain ⟨v', w', hrun, h2, h3, h4⟩ := run_mv (P := P) w t o.type e i z size bytes ht hi hz hsize hby hzs hsz base v n xs hown A m c news hA hl hnews h1 h63 hbytes hbase
  unfold Oper.wp execOp
  simp only [ho, resolve, invoke, builtin, Sem.run_bind, Sem.run_pure, Result.andThen_ok, List.map_toArray, List.map_cons, List.map_nil, hs, hx, hrun]
  exact hK _ _ (h v' w' h2 h3 h4)

/-- The same as a step of a region whose order is open. -/
theorem step_mv {P : Program} (w : World) {ops : Array Oper} {o : Oper} {a : Act} {K : Act → World → Prop} {Q : Exit → Act → World → Prop} {E : Prop} (hw : Region.wanted o (yielded ops a.tmps) = true) (s x : Operand) (t : TypeId)
    (ho : o.op = .call { callee := .builtin .append, args := #[s, x], argTypes := #[t, t] })
    (e : TypeId) (i : TypeInfo) (z : Value) (size bytes : Nat) (ht : P.underlying t = some (.slice e)) (hi : P.info? e = some i) (hz : i.zero = some z)
    (hsize : i.size = size) (hby : i.bytes = bytes) (hzs : z.cells.size = size) (hsz : 0 < size) (base : Nat) (v : Value) (n : Nat) (xs : List Value) (hs : a.eval s = v) (hown : w.ownsRow base e size v n xs)
    (A : Option Addr) (m c : Nat) (news : List Value) (hx : a.eval x = .slice A m c) (hA : A = none → m = 0) (hl : news.length = m * size) (hnews : ∀ ad, A = some ad → ∀ j u, news[j]? = some u → w.cell? (ad.add j) = some u) (h1 : ∀ u ∈ news, u.oneCell' = true)
    (h63 : n + m ≤ maxLen) (hbytes : (n + m) * bytes ≤ 140737488355328) (hbase : base ≤ w.heap.size)
    (h : ∀ v' w', w'.ownsRow base e size v' (n + m) (xs ++ news) → w.grownBy w' v.ownBlock → Mv w.heap.size v v' → K (a.put o.dst v') w') :
    if Region.wanted o (yielded ops a.tmps) = true then Oper.wp P o a w K Q else E := by
  rw [if_pos hw]
  obtain ⟨v', w', hrun, h2, h3, h4⟩ := run_mv (P := P) w t o.type e i z size bytes ht hi hz hsize hby hzs hsz base v n xs hown A m c news hA hl hnews h1 h63 hbytes hbase
  unfold Oper.wp execOp
  simp only [ho, resolve, invoke, builtin, Sem.run_bind, Sem.run_pure, Result.andThen_ok, List.map_toArray, List.map_cons, List.map_nil, hs, hx, hrun]
  exact h v' w' h2 h3 h4
end

section
set_option maxRecDepth 4000
open Go.RowKit

/-- The blocks that F tells stand as they were. -/
structure Keeps (F : Nat → Prop) (w w' : World) : Prop where
  size : w.heap.size ≤ w'.heap.size
  block : ∀ b, b < w.heap.size → F b → w'.heap[b]? = w.heap[b]?
section
variable {F G : Nat → Prop} {w w' w2 : World}
theorem Keeps.refl (F : Nat → Prop) (w : World) : Keeps F w w := ⟨Nat.le_refl _, fun _ _ _ => rfl⟩
theorem Keeps.trans (h : Keeps F w w') (k : Keeps F w' w2) : Keeps F w w2 := ⟨Nat.le_trans h.size k.size, fun b hb hF => (k.block b (Nat.lt_of_lt_of_le hb h.size) hF).trans (h.block b hb hF)⟩
theorem Keeps.of_below (h : Below w.heap.size w w') : Keeps F w w' := ⟨h.size, fun b hb _ => h.block b hb⟩
theorem Keeps.of_grown {row : Option Nat} (h : w.grownBy w' row) (hF : ∀ b, F b → row ≠ some b) : Keeps F w w' := ⟨h.size, fun b hb hf => h.block b hb (fun e => hF b hf e.symm)⟩
theorem Keeps.of_offs {X : Nat → Prop} (h : Offs X w w') (hF : ∀ b, F b → ¬ X b) : Keeps F w w' := ⟨h.size, fun b hb hf => h.block b hb (hF b hf)⟩
theorem Keeps.less (h : Keeps F w w') (hF : ∀ b, b < w.heap.size → G b → F b) : Keeps G w w' := ⟨h.size, fun b hb hg => h.block b hb (hF b hb hg)⟩
theorem Keeps.cell (h : Keeps F w w') {b : Nat} (hb : b < w.heap.size) (hF : F b) (off : Nat) : w'.cell? ⟨b, off, none⟩ = w.cell? ⟨b, off, none⟩ := by
  have := h.block b hb hF
  unfold World.cell?
  rw [this]
end

/-- A list of bytes at A, in a block that F tells. -/
def RdF (F : Nat → Prop) (w : World) (A : Option Addr) (l : List Nat) : Prop :=
  0 < l.length → ∃ b off, A = some ⟨b, off, none⟩ ∧ b < w.heap.size ∧ F b ∧ ∀ (k x : Nat), l[k]? = some x → w.cell? ⟨b, off + k, none⟩ = some (.int .u8 (x : Int))
section
variable {F G : Nat → Prop} {w w' : World} {A : Option Addr} {l : List Nat}
theorem RdF.rd (h : RdF F w A l) : Rd w w.heap.size A l := fun hl => by
  obtain ⟨b, off, h1, h2, _, h4⟩ := h hl
  exact ⟨b, off, h1, h2, h4⟩
theorem Rd.rdF {B : Nat} (h : Rd w B A l) (hF : ∀ b, b < B → F b) (hB : B ≤ w.heap.size) : RdF F w A l := fun hl => by
  obtain ⟨b, off, h1, h2, h4⟩ := h hl
  exact ⟨b, off, h1, Nat.lt_of_lt_of_le h2 hB, hF b h2, h4⟩
theorem RdF.nil : RdF F w A [] := fun h => absurd h (by simp)
theorem RdF.keep (h : RdF F w A l) (hk : Keeps F w w') : RdF F w' A l := fun hl => by
  obtain ⟨b, off, h1, h2, h3, h4⟩ := h hl
  exact ⟨b, off, h1, Nat.lt_of_lt_of_le h2 hk.size, h3, fun k x hx => (hk.cell h2 h3 _).trans (h4 k x hx)⟩
theorem RdF.mono (h : RdF F w A l) (hF : ∀ b, b < w.heap.size → F b → G b) : RdF G w A l := fun hl => by
  obtain ⟨b, off, h1, h2, h3, h4⟩ := h hl
  exact ⟨b, off, h1, h2, hF b h2 h3, h4⟩
/-- A row of the call's own is new. -/
theorem RdF.own {base : Nat} {e : TypeId} {c n : Nat} (h : w.ownsRow base e 1 (.slice A n c) n (bvs l)) : RdF (fun b => base ≤ b) w A l := by
  intro hl
  obtain ⟨b, off, h1, h2, h3⟩ := Rd.own h hl
  refine ⟨b, off, h1, h2, ?_, h3⟩
  subst h1
  rcases h.2 with ⟨hv, _⟩ | ⟨g, cap, cur, hv, hg, _⟩
  · cases hv
  · injection hv with hv
    injection hv with hv
    injection hv with hv
    omega
end

/-- The shape of an element: how many cells, and what they say. -/
structure Sh (α : Type) where
  sz : Nat
  S : (Nat → Prop) → World → α → List Value → Prop
  len : ∀ {F w x cs}, S F w x cs → cs.length = sz
  one : ∀ {F w x cs}, S F w x cs → ∀ u ∈ cs, u.oneCell' = true
  keep : ∀ {F w w' x cs}, S F w x cs → Keeps F w w' → S F w' x cs
  mono : ∀ {F G : Nat → Prop} {w x cs}, S F w x cs → (∀ b, b < w.heap.size → F b → G b) → S G w x cs

/-- Lists of bytes as elements. -/
def shB : Sh (List Nat) where
  sz := 1
  S F w x cs := ∃ A c, cs = [.slice A x.length c] ∧ x.length ≤ c ∧ RdF F w A x
  len := by rintro _ _ _ _ ⟨A, c, rfl, _⟩; rfl
  one := by rintro _ _ _ _ ⟨A, c, rfl, _⟩ u hu; simp at hu; subst hu; rfl
  keep := by rintro _ _ _ _ _ ⟨A, c, h1, h2, h3⟩ hk; exact ⟨A, c, h1, h2, h3.keep hk⟩
  mono := by rintro _ _ _ _ _ ⟨A, c, h1, h2, h3⟩ hF; exact ⟨A, c, h1, h2, h3.mono hF⟩

theorem flat_at {α : Type} {sz : Nat} : ∀ {css : List (List α)} {j : Nat} {u : α}, (∀ cs ∈ css, cs.length = sz) → css.flatten[j]? = some u → ∃ k cs i, css[k]? = some cs ∧ cs[i]? = some u ∧ j = k * sz + i
  | [], j, u, _, h => by simp at h
  | c :: t, j, u, hl, h => by
    have hc := hl c (List.mem_cons_self ..)
    rw [List.flatten_cons] at h
    rcases Nat.lt_or_ge j c.length with hj | hj
    · rw [List.getElem?_append_left hj] at h
      exact ⟨0, c, j, rfl, h, by omega⟩
    · rw [List.getElem?_append_right hj] at h
      obtain ⟨k, cs, i, h1, h2, h3⟩ := flat_at (fun cs hcs => hl cs (List.mem_cons_of_mem _ hcs)) h
      exact ⟨k + 1, cs, i, h1, h2, by rw [Nat.add_mul]; omega⟩
theorem flat_put {α : Type} {sz : Nat} : ∀ {css : List (List α)} {k i : Nat} {cs : List α} {u : α}, (∀ cs ∈ css, cs.length = sz) → css[k]? = some cs → cs[i]? = some u → css.flatten[k * sz + i]? = some u
  | [], k, i, cs, u, _, h, _ => by simp at h
  | c :: t, k, i, cs, u, hl, h, hi => by
    have hc := hl c (List.mem_cons_self ..)
    rw [List.flatten_cons]
    cases k with
    | zero =>
      injection h with h
      subst h
      rw [List.getElem?_append_left (by have := (List.getElem?_eq_some_iff.1 hi).1; omega)]
      simpa using hi
    | succ k =>
      rw [List.getElem?_append_right (by rw [Nat.add_mul]; omega)]
      rw [show (k + 1) * sz + i - c.length = k * sz + i by rw [Nat.add_mul]; omega]
      exact flat_put (fun cs hcs => hl cs (List.mem_cons_of_mem _ hcs)) (by simpa using h) hi
theorem flat_len {α : Type} {sz : Nat} : ∀ {css : List (List α)}, (∀ cs ∈ css, cs.length = sz) → css.flatten.length = css.length * sz
  | [], _ => by simp
  | c :: t, hl => by
    have hc := hl c (List.mem_cons_self ..)
    rw [List.flatten_cons, List.length_append, flat_len (fun cs hcs => hl cs (List.mem_cons_of_mem _ hcs)), List.length_cons, Nat.add_mul]
    omega

/-- The slice at A leads to elements that are xs, in blocks that F tells. -/
def Rws {α : Type} (H : Sh α) (F : Nat → Prop) (w : World) (A : Option Addr) (xs : List α) : Prop :=
  0 < xs.length → ∃ b off, A = some ⟨b, off, none⟩ ∧ b < w.heap.size ∧ F b ∧ ∀ (k : Nat) (x : α), xs[k]? = some x → ∃ cs, H.S F w x cs ∧ ∀ (j : Nat) (u : Value), cs[j]? = some u → w.cell? ⟨b, off + (k * H.sz + j), none⟩ = some u
/-- The row v is the call's own, from block B on; its elements are xs, in blocks that F tells, none of them the row's own. -/
def Orw {α : Type} (H : Sh α) (T : TypeId) (F : Nat → Prop) (B : Nat) (w : World) (v : Value) (xs : List α) : Prop :=
  ∃ css : List (List Value), css.length = xs.length ∧ w.ownsRow B T H.sz v xs.length css.flatten ∧ ∀ (k : Nat) (x : α) (cs : List Value), xs[k]? = some x → css[k]? = some cs → H.S (fun b => F b ∧ v.ownBlock ≠ some b) w x cs

section
variable {α : Type} {H : Sh α} {T : TypeId} {F G : Nat → Prop} {B : Nat} {w w' : World} {A : Option Addr} {v : Value} {xs ys : List α}
theorem Rws.nil : Rws H F w A [] := fun h => absurd h (by simp)
theorem Rws.keep (h : Rws H F w A xs) (hk : Keeps F w w') : Rws H F w' A xs := fun hl => by
  obtain ⟨b, off, h1, h2, h3, h4⟩ := h hl
  refine ⟨b, off, h1, Nat.lt_of_lt_of_le h2 hk.size, h3, fun k x hx => ?_⟩
  obtain ⟨cs, g1, g2⟩ := h4 k x hx
  exact ⟨cs, H.keep g1 hk, fun j u hu => (hk.cell h2 h3 _).trans (g2 j u hu)⟩
theorem Rws.mono (h : Rws H F w A xs) (hF : ∀ b, b < w.heap.size → F b → G b) : Rws H G w A xs := fun hl => by
  obtain ⟨b, off, h1, h2, h3, h4⟩ := h hl
  refine ⟨b, off, h1, h2, hF b h2 h3, fun k x hx => ?_⟩
  obtain ⟨cs, g1, g2⟩ := h4 k x hx
  exact ⟨cs, H.mono g1 hF, g2⟩
theorem Rws.below (h : Rws H F w A xs) (hb : Below w.heap.size w w') : Rws H F w' A xs := h.keep (.of_below hb)
theorem Rws.at_ (h : Rws H F w A xs) {k : Nat} (hk : k < xs.length) : ∃ b off x cs, A = some ⟨b, off, none⟩ ∧ b < w.heap.size ∧ xs[k]? = some x ∧ H.S F w x cs ∧ ∀ (j : Nat) (u : Value), cs[j]? = some u → w.cell? ⟨b, off + (k * H.sz + j), none⟩ = some u := by
  obtain ⟨b, off, h1, h2, _, h4⟩ := h (by omega)
  obtain ⟨cs, g1, g2⟩ := h4 k _ (List.getElem?_eq_getElem hk)
  exact ⟨b, off, _, cs, h1, h2, List.getElem?_eq_getElem hk, g1, g2⟩
theorem Rws.cells (h : Rws H F w A xs) : ∃ css : List (List Value), css.length = xs.length ∧ (∀ (k : Nat) (x : α) (cs : List Value), xs[k]? = some x → css[k]? = some cs → H.S F w x cs) ∧ ∀ ad, A = some ad → ∀ j u, css.flatten[j]? = some u → w.cell? (ad.add j) = some u := by
  rcases Nat.eq_zero_or_pos xs.length with h0 | h0
  · exact ⟨[], by rw [h0]; rfl, fun k x cs hx => by rw [List.eq_nil_of_length_eq_zero h0] at hx; simp at hx, fun ad _ j u hu => by simp at hu⟩
  · obtain ⟨b, off, rfl, h2, h3, h4⟩ := h h0
    have each : ∀ k, k < xs.length → ∃ cs, ∀ x, xs[k]? = some x → H.S F w x cs ∧ ∀ (j : Nat) (u : Value), cs[j]? = some u → w.cell? ⟨b, off + (k * H.sz + j), none⟩ = some u := by
      intro k hk
      obtain ⟨cs, g⟩ := h4 k _ (List.getElem?_eq_getElem hk)
      exact ⟨cs, fun x hx => by rw [List.getElem?_eq_getElem hk] at hx; injection hx with hx; subst hx; exact g⟩
    obtain ⟨f, hf⟩ := Go.Deep.choose_lt each
    have hget : ∀ k cs, ((List.range xs.length).map f)[k]? = some cs → k < xs.length ∧ f k = cs := by
      intro k cs hk
      rw [List.getElem?_map] at hk
      obtain ⟨i, hi, rfl⟩ := Option.map_eq_some_iff.1 hk
      have hk' : k < xs.length := by have := (List.getElem?_eq_some_iff.1 hi).1; simpa using this
      rw [List.getElem?_range hk'] at hi
      injection hi with hi
      exact ⟨hk', by rw [hi]⟩
    refine ⟨(List.range xs.length).map f, by simp, fun k x cs hx hk => ?_, fun ad had j u hu => ?_⟩
    · obtain ⟨_, rfl⟩ := hget k cs hk
      exact (hf k (List.getElem?_eq_some_iff.1 hx).1 x hx).1
    · injection had with had
      subst had
      obtain ⟨k, cs, i, h5, h6, rfl⟩ := flat_at (sz := H.sz) (fun cs hcs => by
        obtain ⟨k, hk⟩ := List.mem_iff_getElem?.1 hcs
        obtain ⟨hk', rfl⟩ := hget k cs hk
        exact H.len (hf k hk' _ (List.getElem?_eq_getElem hk')).1) hu
      obtain ⟨hk', rfl⟩ := hget k cs h5
      have := (hf k hk' _ (List.getElem?_eq_getElem hk')).2 i u h6
      generalize k * H.sz + i = m at this
      by_cases hj : m = 0
      · rw [hj] at this ⊢; simpa [Addr.add] using this
      · simpa [Addr.add, hj] using this

theorem Orw.nil (H : Sh α) (T : TypeId) (F : Nat → Prop) (B : Nat) (w : World) : Orw H T F B w (.slice none 0 0) [] := ⟨[], rfl, World.ownsRow_nil _ _ _ _, fun k x cs hx => by simp at hx⟩
theorem Orw.own (h : Orw H T F B w v xs) : ∃ cs, w.ownsRow B T H.sz v xs.length cs := by
  obtain ⟨css, _, h, _⟩ := h
  exact ⟨_, h⟩
theorem Orw.shape (h : Orw H T F B w v xs) : ∃ A c, v = .slice A xs.length c ∧ xs.length ≤ c ∧ c ≤ maxLen := by
  obtain ⟨cs, h⟩ := h.own
  exact own_shape h
theorem Orw.lt (h : Orw H T F B w v xs) {g : Nat} (hg : v.ownBlock = some g) : B ≤ g ∧ g < w.heap.size := by
  obtain ⟨cs, h⟩ := h.own
  exact h.lt g hg
theorem Orw.lo {B' : Nat} (h : Orw H T F B w v xs) (hB : B' ≤ B) : Orw H T F B' w v xs := by
  obtain ⟨css, h1, h2, h3⟩ := h
  exact ⟨css, h1, own_lo h2 hB, h3⟩
theorem Orw.mono (h : Orw H T F B w v xs) (hF : ∀ b, b < w.heap.size → F b → G b) : Orw H T G B w v xs := by
  obtain ⟨css, h1, h2, h3⟩ := h
  exact ⟨css, h1, h2, fun k x cs hx hc => H.mono (h3 k x cs hx hc) fun b hb hf => ⟨hF b hb hf.1, hf.2⟩⟩
theorem Orw.keep (h : Orw H T F B w v xs) (hk : Keeps (fun b => F b ∨ v.ownBlock = some b) w w') : Orw H T F B w' v xs := by
  obtain ⟨css, h1, h2, h3⟩ := h
  refine ⟨css, h1, ?_, fun k x cs hx hc => H.keep (h3 k x cs hx hc) (hk.less fun b _ hf => .inl hf.1)⟩
  refine ⟨h2.1, ?_⟩
  rcases h2.2 with h0 | ⟨g, cap, cur, rfl, hg, hh, hr⟩
  · exact .inl h0
  · have hlt : g < w.heap.size := (Array.getElem?_eq_some_iff.1 hh).1
    exact .inr ⟨g, cap, cur, rfl, hg, (hk.block g hlt (.inr rfl)).trans hh, hr⟩
theorem Orw.below (h : Orw H T F B w v xs) (hb : Below w.heap.size w w') : Orw H T F B w' v xs := h.keep (.of_below hb)
theorem Orw.all_len {css : List (List Value)} (h1 : css.length = xs.length) (h3 : ∀ (k : Nat) (x : α) (cs : List Value), xs[k]? = some x → css[k]? = some cs → H.S F w x cs) : ∀ cs ∈ css, cs.length = H.sz := by
  intro cs hcs
  obtain ⟨k, hk⟩ := List.mem_iff_getElem?.1 hcs
  have hk' : k < xs.length := by have := (List.getElem?_eq_some_iff.1 hk).1; omega
  exact H.len (h3 k _ cs (List.getElem?_eq_getElem hk') hk)
theorem Orw.read {n c : Nat} (h : Orw H T F B w (.slice A n c) xs) : Rws H (fun b => F b ∨ B ≤ b) w A xs := by
  intro hl
  obtain ⟨css, h1, h2, h3⟩ := h
  have hall := Orw.all_len h1 h3
  rcases h2.2 with ⟨_, h0⟩ | ⟨g, cap, cur, hv, hg, hh, hc, hm, hcs, htake⟩
  · omega
  · injection hv with hA hn hc'
    subst hA
    refine ⟨g, 0, rfl, (Array.getElem?_eq_some_iff.1 hh).1, .inr hg, fun k x hx => ?_⟩
    have hk : k < css.length := by have := (List.getElem?_eq_some_iff.1 hx).1; omega
    refine ⟨css[k], H.mono (h3 k x _ hx (List.getElem?_eq_getElem hk)) fun b _ hf => .inl hf.1, fun j u hu => ?_⟩
    have h7 := flat_put hall (List.getElem?_eq_getElem hk) hu
    have hlt : k * H.sz + j < css.flatten.length := (List.getElem?_eq_some_iff.1 h7).1
    rw [Nat.zero_add, cell_of_row w g _ _ _ _ hh]
    rw [← htake, List.getElem?_take] at h7
    split at h7
    · simpa using h7
    · cases h7
/-- A row as the walk wants it. -/
theorem Orw.slice (h : Orw H T F B w v xs) : ∃ A c, v = .slice A xs.length c ∧ xs.length ≤ c ∧ c ≤ maxLen ∧ Rws H (fun b => F b ∨ B ≤ b) w A xs := by
  obtain ⟨A, c, rfl, h1, h2⟩ := h.shape
  exact ⟨A, c, rfl, h1, h2, h.read⟩

/-- A literal in a new block. -/
theorem Orw.lit (w : World) (css : List (List Value)) (h1 : css.length = xs.length) (h3 : ∀ (k : Nat) (x : α) (cs : List Value), xs[k]? = some x → css[k]? = some cs → H.S F w x cs) (hm : xs.length ≤ 1099511627776) :
    Orw H T F w.heap.size (w.alloc (.cells css.flatten.toArray T)) (.slice (some ⟨w.heap.size, 0, none⟩) xs.length xs.length) xs := by
  have hall := Orw.all_len h1 h3
  have hlen := flat_len hall
  rw [h1] at hlen
  refine ⟨css, h1, ⟨hlen, .inr ⟨w.heap.size, xs.length, _, rfl, Nat.le_refl _, heap_alloc_new w _, Nat.le_refl _, by unfold maxLen; omega, by simp [hlen], ?_⟩⟩, fun k x cs hx hc => ?_⟩
  · rw [← hlen]; exact List.take_length
  · refine H.mono (F := fun b => F b ∧ b < w.heap.size) ?_ fun b hb hf => ⟨hf.1, fun e => ?_⟩
    · exact H.keep (H.mono (h3 k x cs hx hc) fun b hb hf => ⟨hf, hb⟩) (.of_below ((Below.refl _ _).alloc (Nat.le_refl _) _))
    · have e' : some w.heap.size = some b := e
      injection e' with e'
      have := hf.2
      omega
end

/-- A list of a slice of lists. -/
theorem Rws.list {F : Nat → Prop} {w : World} {A : Option Addr} {xs : List (List Nat)} (h : Rws shB F w A xs) {k : Nat} (hk : k < xs.length) : ∃ b off x Ak ck, A = some ⟨b, off, none⟩ ∧ xs[k]? = some x ∧ w.cell? ⟨b, off + k, none⟩ = some (.slice Ak x.length ck) ∧ x.length ≤ ck ∧ Rd w w.heap.size Ak x := by
  obtain ⟨b, off, x, cs, h1, _, h3, ⟨Ak, ck, rfl, h4, h5⟩, h6⟩ := h.at_ hk
  have h7 := h6 0 _ rfl
  rw [show k * shB.sz + 0 = k by show k * 1 + 0 = k; omega] at h7
  exact ⟨b, off, x, Ak, ck, h1, h3, h7, h4, h5.rd⟩

/-- append(v, ys...): the law for a run. -/
theorem run_rows {α : Type} (H : Sh α) {P : Program} (w : World) (t ty e : TypeId) (i : TypeInfo) (z : Value) (bytes : Nat) (ht : P.underlying t = some (.slice e)) (hi : P.info? e = some i) (hz : i.zero = some z)
    (hsize : i.size = H.sz) (hby : i.bytes = bytes) (hzs : z.cells.size = H.sz) (hsz : 0 < H.sz) (F G : Nat → Prop) (base : Nat) (v : Value) (n : Nat) (xs : List α) (hown : Orw H e F base w v xs) (hn : xs.length = n)
    (A : Option Addr) (m c : Nat) (ys : List α) (hys : Rws H G w A ys) (hm : ys.length = m) (hG : ∀ b, b < w.heap.size → G b → F b ∧ v.ownBlock ≠ some b)
    (h63 : n + m ≤ maxLen) (hbytes : (n + m) * bytes ≤ 140737488355328) (hbase : base ≤ w.heap.size) :
    ∃ v' w', (Builtin.append_ #[t, t] ty #[v, .slice A m c]).run P w = .ok v' w' ∧ Orw H e F base w' v' (xs ++ ys) ∧ w.grownBy w' v.ownBlock ∧ Mv w.heap.size v v' := by
  obtain ⟨css, h1, h2, h3⟩ := hown
  obtain ⟨dss, k1, k2, k3⟩ := hys.cells
  have hall := Orw.all_len h1 h3
  have hall2 := Orw.all_len k1 k2
  have hone : ∀ u ∈ dss.flatten, u.oneCell' = true := by
    intro u hu
    obtain ⟨cs, hcs, hu⟩ := List.mem_flatten.1 hu
    obtain ⟨k, hk⟩ := List.mem_iff_getElem?.1 hcs
    have hk' : k < ys.length := by have := (List.getElem?_eq_some_iff.1 hk).1; omega
    exact H.one (k2 k _ cs (List.getElem?_eq_getElem hk') hk) u hu
  subst hn; subst hm
  obtain ⟨v', w', hrun, g1, g2, g3⟩ := run_mv (P := P) w t ty e i z H.sz bytes ht hi hz hsize hby hzs hsz base v xs.length css.flatten h2 A ys.length c dss.flatten
    (fun hA => by
      rcases Nat.eq_zero_or_pos ys.length with h0 | h0
      · exact h0
      · obtain ⟨_, _, h, _⟩ := hys h0
        rw [h] at hA; cases hA)
    (by rw [flat_len hall2, k1]) k3 hone h63 hbytes hbase
  refine ⟨v', w', hrun, ⟨css ++ dss, by rw [List.length_append, List.length_append, h1, k1], by rw [List.flatten_append, List.length_append]; exact g1, fun k x cs hx hc => ?_⟩, g2, g3⟩
  have key : H.S (fun b => F b ∧ v.ownBlock ≠ some b) w x cs := by
    rcases Nat.lt_or_ge k xs.length with hk | hk
    · rw [List.getElem?_append_left hk] at hx
      rw [List.getElem?_append_left (by omega)] at hc
      exact h3 k x cs hx hc
    · rw [List.getElem?_append_right hk] at hx
      rw [List.getElem?_append_right (by omega), h1] at hc
      exact H.mono (k2 _ x cs hx hc) hG
  refine H.mono (F := fun b => (F b ∧ v.ownBlock ≠ some b) ∧ b < w.heap.size) (H.keep (H.mono key fun b hb hf => ⟨hf, hb⟩) (.of_grown g2 fun b hb => hb.1.2)) fun b _ hb => ⟨hb.1.1, fun e => ?_⟩
  rcases g3 b e with h | h
  · exact hb.1.2 h
  · exact absurd hb.2 (Nat.not_lt.2 h)

/-- .. for the walk. -/
theorem list_rows {α : Type} (H : Sh α) {P : Program} {w : World} {ops : Array Oper} {rest : List Oper} {o : Oper} {a : Act} {Q : Exit → Act → World → Prop} (hgd : o.guard = none) (s x : Operand) (t : TypeId)
    (ho : o.op = .call { callee := .builtin .append, args := #[s, x], argTypes := #[t, t] })
    (e : TypeId) (i : TypeInfo) (z : Value) (bytes : Nat) (ht : P.underlying t = some (.slice e)) (hi : P.info? e = some i) (hz : i.zero = some z)
    (hsize : i.size = H.sz) (hby : i.bytes = bytes) (hzs : z.cells.size = H.sz) (hsz : 0 < H.sz) (F G : Nat → Prop) (base : Nat) (v : Value) (n : Nat) (xs : List α) (hs : a.eval s = v) (hown : Orw H e F base w v xs) (hn : xs.length = n)
    (A : Option Addr) (m c : Nat) (ys : List α) (hx : a.eval x = .slice A m c) (hys : Rws H G w A ys) (hm : ys.length = m) (hG : ∀ b, b < w.heap.size → G b → F b ∧ v.ownBlock ≠ some b)
    (h63 : n + m ≤ maxLen) (hbytes : (n + m) * bytes ≤ 140737488355328) (hbase : base ≤ w.heap.size)
    (h : ∀ v' w', Orw H e F base w' v' (xs ++ ys) → w.grownBy w' v.ownBlock → Mv w.heap.size v v' → wpList P ops Q rest (a.put o.dst v') w') :
    wpList P ops Q (o :: rest) a w := by
  refine wpList_plain hgd fun K hK => ?_
  obtain ⟨v', w', hrun, h2, h3, h4⟩ := run_rows H (P := P) w t o.type e i z bytes ht hi hz hsize hby hzs hsz F G base v n xs hown hn A m c ys hys hm hG h63 hbytes hbase
  unfold Oper.wp execOp
  simp only [ho, resolve, invoke, builtin, Sem.run_bind, Sem.run_pure, Result.andThen_ok, List.map_toArray, List.map_cons, List.map_nil, hs, hx, hrun]
  exact hK _ _ (h v' w' h2 h3 h4)

/-- .. for a step of a region whose order is open. -/
theorem step_rows {α : Type} (H : Sh α) {P : Program} (w : World) {ops : Array Oper} {o : Oper} {a : Act} {K : Act → World → Prop} {Q : Exit → Act → World → Prop} {E : Prop} (hw : Region.wanted o (yielded ops a.tmps) = true) (s x : Operand) (t : TypeId)
    (ho : o.op = .call { callee := .builtin .append, args := #[s, x], argTypes := #[t, t] })
    (e : TypeId) (i : TypeInfo) (z : Value) (bytes : Nat) (ht : P.underlying t = some (.slice e)) (hi : P.info? e = some i) (hz : i.zero = some z)
    (hsize : i.size = H.sz) (hby : i.bytes = bytes) (hzs : z.cells.size = H.sz) (hsz : 0 < H.sz) (F G : Nat → Prop) (base : Nat) (v : Value) (n : Nat) (xs : List α) (hs : a.eval s = v) (hown : Orw H e F base w v xs) (hn : xs.length = n)
    (A : Option Addr) (m c : Nat) (ys : List α) (hx : a.eval x = .slice A m c) (hys : Rws H G w A ys) (hm : ys.length = m) (hG : ∀ b, b < w.heap.size → G b → F b ∧ v.ownBlock ≠ some b)
    (h63 : n + m ≤ maxLen) (hbytes : (n + m) * bytes ≤ 140737488355328) (hbase : base ≤ w.heap.size)
    (h : ∀ v' w', Orw H e F base w' v' (xs ++ ys) → w.grownBy w' v.ownBlock → Mv w.heap.size v v' → K (a.put o.dst v') w') :
    if Region.wanted o (yielded ops a.tmps) = true then Oper.wp P o a w K Q else E := by
  rw [if_pos hw]
  obtain ⟨v', w', hrun, h2, h3, h4⟩ := run_rows H (P := P) w t o.type e i z bytes ht hi hz hsize hby hzs hsz F G base v n xs hown hn A m c ys hys hm hG h63 hbytes hbase
  unfold Oper.wp execOp
  simp only [ho, resolve, invoke, builtin, Sem.run_bind, Sem.run_pure, Result.andThen_ok, List.map_toArray, List.map_cons, List.map_nil, hs, hx, hrun]
  exact h v' w' h2 h3 h4
end

section
set_option maxRecDepth 4000
open Go.RowKit

/-- A fact that lay is found later. -/
theorem Rd.on {w w' : World} {A : Option Addr} {l : List Nat} (h : Rd w w.heap.size A l) (hb : Below w.heap.size w w') : Rd w' w'.heap.size A l := (h.below hb).more hb.size

/-- The slice of slices at A leads to lists of bytes that read as ls. -/
def Rr (w : World) (A : Option Addr) (ls : List (List Nat)) : Prop :=
  0 < ls.length → ∃ b off, A = some ⟨b, off, none⟩ ∧ ∀ (k : Nat) (x : List Nat), ls[k]? = some x → ∃ Ak ck, w.cell? ⟨b, off + k, none⟩ = some (.slice Ak x.length ck) ∧ Rd w w.heap.size Ak x
theorem Rr.at_ {w : World} {A : Option Addr} {ls : List (List Nat)} (h : Rr w A ls) {k : Nat} (hk : k < ls.length) : ∃ b off x Ak ck, A = some ⟨b, off, none⟩ ∧ ls[k]? = some x ∧ w.cell? ⟨b, off + k, none⟩ = some (.slice Ak x.length ck) ∧ Rd w w.heap.size Ak x := by
  obtain ⟨b, off, e, hc⟩ := h (by omega)
  obtain ⟨Ak, ck, h2, h3⟩ := hc k _ (List.getElem?_eq_getElem hk)
  exact ⟨b, off, ls[k], Ak, ck, e, List.getElem?_eq_getElem hk, h2, h3⟩
theorem Rr.on {w w' : World} {A : Option Addr} {ls : List (List Nat)} (h : Rr w A ls) (hb : Below w.heap.size w w') : Rr w' A ls := by
  intro hl
  obtain ⟨b, off, rfl, hc⟩ := h hl
  refine ⟨b, off, rfl, fun k x hx => ?_⟩
  obtain ⟨Ak, ck, h2, h3⟩ := hc k x hx
  exact ⟨Ak, ck, (hb.cell (block_lt h2)).trans h2, (h3.below hb).more hb.size⟩
theorem flat_take {ls : List (List Nat)} {k : Nat} {x : List Nat} (h : ls[k]? = some x) : (ls.take (k + 1)).flatten = (ls.take k).flatten ++ x := by
  rw [List.take_add_one, h, Option.toList_some, List.flatten_append]
  simp
theorem flat_le (ls : List (List Nat)) (k : Nat) : (ls.take k).flatten.length ≤ ls.flatten.length := by
  have e : ls.flatten = (ls.take k).flatten ++ (ls.drop k).flatten := by rw [← List.flatten_append, List.take_append_drop]
  rw [e, List.length_append]
  omega

theorem rd_nil {w : World} {B : Nat} {A : Option Addr} {l : List Nat} (h : Rd w B A l) : A = none → l.length = 0 := by
  intro h0
  rcases Nat.eq_zero_or_pos l.length with h1 | h1
  · exact h1
  · obtain ⟨_, _, h2, _⟩ := h h1
    rw [h2] at h0; cases h0
theorem rd_news {w : World} {B : Nat} {A : Option Addr} {l : List Nat} (h : Rd w B A l) : ∀ ad, A = some ad → ∀ j u, (bvs l)[j]? = some u → w.cell? (ad.add j) = some u := by
  intro ad had j u hu
  rw [bvs, List.getElem?_map] at hu
  obtain ⟨x, hx, rfl⟩ := Option.map_eq_some_iff.1 hu
  obtain ⟨b, off, he, _, hc⟩ := h (by have := (List.getElem?_eq_some_iff.1 hx).1; omega)
  rw [he] at had
  injection had with had
  subst had
  have := hc j x hx
  by_cases hj : j = 0
  · subst hj; simpa [Addr.add, bv] using this
  · simpa [Addr.add, hj, bv] using this

set_option maxHeartbeats 1000000 in
theorem grow_any (n : Nat) (w : World) (hn : n ≤ 1099511627776) :
    Calls Try.prog 33 #[.slice none 0 0, .int .i64 (n : Int)] w fun e w' => ∃ v, e = .returned v ∧ w'.ownsRow w.heap.size 5 1 v 0 [] ∧ Below w.heap.size w w' := by
  obtain ⟨i0, hi, hz0, hz1, hz2⟩ := info_parts byte_info
  by_cases h : n = 0
  · subst h
    go_enter Try.func33, Try.ntmps33
    go_wp2
    go_ret
    exact ⟨_, rfl, World.ownsRow_nil _ _ _ _, Below.refl _ _⟩
  · have h0 : 0 < n := by omega
    have h1 : ¬ (n : Int) < 0 := by omega
    have h2 : (0 : Int) < (n : Int) := by omega
    obtain ⟨cc, hcc, hcm⟩ : ∃ cc, grownCap w n 0 5 = cc ∧ cc ≤ maxLen := ⟨_, rfl, grownCap_le_maxLen _ _ _ _ (by unfold maxLen; omega)⟩
    have hcn : n ≤ cc := by rw [← hcc]; exact grownCap_ge _ _ _ _
    have hr : ∀ ty, (Builtin.append_ #[26, 3] ty #[.slice none 0 0, .int .i64 n]).run Try.prog w = .ok (.slice (some ⟨w.heap.size, 0, none⟩) n cc) (w.drew.alloc (.cells (Builtin.zeroCells #[.int .u8 0] n ++ Builtin.zeroCells #[.int .u8 0] (cc - n)) 5)) := by
      intro ty
      have := Lib.run_append_nil_zeros (P := Try.prog) w 26 3 ty 5 i0 (.int .u8 0) .i64 .i64 Try.underlying26 Try.underlying3 hi hz0 n h0 (by omega) (by omega) (by rw [hz2]; omega)
      rw [hcc] at this
      exact this
    have HR := Lib.hid hr
    clear hr
    go_enter Try.func33, Try.ntmps33
    go_wp2_with (at_builtin; refine Lib.wpList_append_run _ rfl _ _ _ _ rfl _ _ rfl rfl _ _ (HR.out _) ?_)
    go_ret
    refine ⟨_, rfl, ⟨rfl, .inr ⟨w.heap.size, cc, _, rfl, Nat.le_refl _, heap_alloc_new _ _, Nat.zero_le _, hcm, ?_, rfl⟩⟩, ((Below.refl _ _).drew).alloc (Nat.le_refl _) _⟩
    rw [Array.size_append, size_zeroCells, size_zeroCells]
    simp
    omega

set_option maxHeartbeats 1000000 in
theorem concat_any (ls : List (List Nat)) (n : Nat) (A : Option Addr) (c : Nat) (w : World) (h : Rr w A ls) (hl : ls.length = n) (hn : n ≤ 274877906944) (hs : ls.flatten.length ≤ 1099511627776) :
    Calls Try.prog 23 #[.slice A n c] w fun e w' => ∃ A' c' k, e = .returned (.slice A' k c') ∧ k = ls.flatten.length ∧ New w w' A' c' k ls.flatten := by
  obtain ⟨i0, hi, hz0, hz1, hz2⟩ := info_parts byte_info
  have HL := Lib.hid hl
  have HF := Lib.hid (flat_le ls)
  clear hl
  go_enter Try.func23, Try.ntmps23
  go_wp2_with fail
  go_loopw [3, 11] (fun s i wr => w = wr ∧ ∃ k q : Nat, k ≤ n ∧ i = .int .i64 k ∧ s = .int .i64 q ∧ Hid ((ls.take k).flatten.length = q)) (fun _ i _ => n - (intOf i).toNat)
  case atStart => exact ⟨rfl, 0, 0, Nat.zero_le _, rfl, rfl, Lib.hid rfl⟩
  case round =>
    obtain ⟨rfl, k, q, hk, rfl, rfl, hq⟩ := hrel
    have hq1 : q ≤ 1099511627776 := by have := HF.out k; have := hq.out; omega
    by_cases hlt : k < n
    · obtain ⟨b, o, x, A3, c3, rfl, hx, h3, h5⟩ := h.at_ (k := k) (by rw [HL.out]; exact hlt)
      have hq2 : q + x.length ≤ 1099511627776 := by have h1 := HF.out (k + 1); rw [flat_take hx, List.length_append] at h1; have := hq.out; omega
      have HQ := Lib.hid (show (ls.take (k + 1)).flatten.length = q + x.length by rw [flat_take hx, List.length_append, hq.out])
      clear hx h5
      have i1 : (0 : Int) ≤ k := by omega
      have i2 : (k : Int) < n := by omega
      have i3 : ¬ ((q : Int) + (x.length : Int) < 0) := by omega
      go_wp2_with fail
      go_roundw
      case rel => exact ⟨trivial, k + 1, q + x.length, by omega, by go_num, by go_num, HQ⟩
      case measure => simp [intOf]; omega
    · go_wp2_with fail
      refine (grow_any q _ hq1).mono ?_
      rintro e w1 ⟨v0, rfl, hown1, hB1⟩
      go_wp2_with fail
      have HQ := Lib.hid (show (ls.take n).flatten = ls.flatten by rw [List.take_of_length_le (by rw [HL.out]; exact Nat.le_refl _)])
      clear hq hq1 hlt hk
      go_loopw [6, 27] (fun v i wx => ∃ k m : Nat, k ≤ n ∧ i = .int .i64 k ∧ wx.ownsRow w.heap.size 5 1 v m (bvs (ls.take k).flatten) ∧ Below w.heap.size w wx) (fun _ i _ => n - (intOf i).toNat)
      case atStart => exact ⟨0, 0, Nat.zero_le _, rfl, hown1, hB1⟩
      case round =>
        clear hown1 hB1
        obtain ⟨k, m, hk, rfl, hown, hbel⟩ := hrel
        by_cases hlt : k < n
        · obtain ⟨b, o, x, A3, c3, rfl, hx, h3, h5⟩ := (h.on hbel).at_ (k := k) (by rw [HL.out]; exact hlt)
          have hm1 := hown.1
          rw [bvs_len] at hm1
          have hq2 : m + x.length ≤ 1099511627776 := by have h1 := HF.out (k + 1); rw [flat_take hx, List.length_append] at h1; omega
          have HE := Lib.hid (show bvs (ls.take (k + 1)).flatten = bvs (ls.take k).flatten ++ bvs x by rw [flat_take hx, bvs_app])
          have H5 := Lib.hid h5
          have hsz := hbel.size
          clear hx h5 hm1
          have i1 : (0 : Int) ≤ k := by omega
          have i2 : (k : Int) < n := by omega
          go_wp2_with (at_builtin; refine list_mv rfl _ _ 26 rfl 5 i0 (.int .u8 0) 1 1 Try.underlying26 hi hz0 hz1 hz2 rfl (by decide) w.heap.size _ _ _ rfl hown A3 x.length c3 (bvs x) rfl (rd_nil H5.out) (by rw [bvs_len]; omega) (rd_news H5.out) (bvs_one x) (by unfold maxLen; omega) (by omega) hsz ?_; intro v' w3 hown3 hgrow3 hmv3)
          have R := hown3
          rw [← HE.out] at R
          have R2 := hbel.grown hgrow3 hsz (fun g hg => (hown.lt g hg).1)
          go_roundw
          case rel => exact ⟨k + 1, m + x.length, by omega, by go_num, R, R2⟩
          case measure => simp [intOf]; omega
        · have he : k = n := by omega
          subst he
          rw [HQ.out] at hown
          go_wp2_with fail
          go_ret
          obtain ⟨A', c', rfl, hN⟩ := New.mk hown hbel
          exact ⟨A', c', m, rfl, by rw [hN.1], hN⟩

theorem rr_tri (w : World) (A A2 A3 : Option Addr) (l l2 l3 : List Nat) (n n2 n3 c c2 c3 : Nat) (T : TypeId) (h : Rd w w.heap.size A l) (h2 : Rd w w.heap.size A2 l2) (h3 : Rd w w.heap.size A3 l3) (e : l.length = n) (e2 : l2.length = n2) (e3 : l3.length = n3) :
    Rr (w.alloc (.cells #[.slice A n c, .slice A2 n2 c2, .slice A3 n3 c3] T)) (some ⟨w.heap.size, 0, none⟩) [l, l2, l3] := by
  subst e; subst e2; subst e3
  intro _
  have hb := (Below.refl w.heap.size w).alloc (Nat.le_refl _) (.cells #[.slice A l.length c, .slice A2 l2.length c2, .slice A3 l3.length c3] T)
  have cell : ∀ k u, (#[.slice A l.length c, .slice A2 l2.length c2, .slice A3 l3.length c3] : Array Value)[k]? = some u → (w.alloc (.cells #[.slice A l.length c, .slice A2 l2.length c2, .slice A3 l3.length c3] T)).cell? ⟨w.heap.size, 0 + k, none⟩ = some u := by
    intro k u hu
    rw [Nat.zero_add, World.cell?_alloc_at _ _ _ _ rfl]
    exact hu
  refine ⟨w.heap.size, 0, rfl, fun k x hx => ?_⟩
  match k, hx with
  | 0, hx => injection hx with hx; subst hx; exact ⟨A, c, cell 0 _ rfl, (h.below hb).more hb.size⟩
  | 1, hx => injection hx with hx; subst hx; exact ⟨A2, c2, cell 1 _ rfl, (h2.below hb).more hb.size⟩
  | 2, hx => injection hx with hx; subst hx; exact ⟨A3, c3, cell 2 _ rfl, (h3.below hb).more hb.size⟩
  | k + 3, hx => simp at hx
end

section
set_option maxRecDepth 4000
open Go.RowKit

set_option maxHeartbeats 400000 in
theorem clone_any (l : List Nat) (n : Nat) (A : Option Addr) (c : Nat) (w : World) (h : Rd w w.heap.size A l) (hl : l.length = n) (hn : n ≤ 274877906944) :
    Calls Try.prog 36 #[.slice A n c] w fun e w' => ∃ A' c', e = .returned (.slice A' n c') ∧ New w w' A' c' n l := by
  obtain ⟨i0, hi, hz0, hz1, hz2⟩ := info_parts byte_info
  have q22 : ∀ (w : World) (a : Option Addr) (n c n' c' : Nat), (binOp .eql 26 (.slice a n c) (.slice none n' c')).run Try.prog w = .ok (.bool a.isNone) w := fun w a n c n' c' => Lib.run_eql_slice_nil w _ _ a n c n' c' Try.underlying26
  rcases A with _ | a
  · have hnil : n = 0 := by
      rcases Nat.eq_zero_or_pos n with h0 | h0
      · exact h0
      · obtain ⟨_, _, h, _⟩ := h (by omega)
        cases h
    subst hnil
    obtain rfl : l = [] := List.eq_nil_of_length_eq_zero hl
    go_enter Try.func36, Try.ntmps36
    go_wp2
    go_ret
    exact ⟨none, 0, rfl, rfl, ⟨rfl, .inl ⟨rfl, rfl⟩⟩, Rd.nil, Below.refl _ _⟩
  · have HR := Lib.hid h
    have HL := Lib.hid hl
    clear h hl
    go_enter Try.func36, Try.ntmps36
    have hown1 : (w.alloc (.cells #[] 5)).ownsRow w.heap.size 5 1 (.slice (some ⟨w.heap.size, 0, none⟩) 0 0) 0 (bvs []) := World.ownsRow_lit w #[] 0 (Nat.le_refl _) (by unfold maxLen; omega) rfl
    go_wp2_with (at_builtin; refine list_app rfl _ _ 26 rfl 5 i0 Try.underlying26 hi hz0 hz1 hz2 w.heap.size _ 0 [] rfl hown1 w.heap.size (some a) n c l rfl (HR.out.alloc (Nat.le_refl _) _) HL.out (by omega) (by simp) ?_; intro A' c' w3 hown3 hgrow3)
    go_ret
    have hb1 : Below w.heap.size w (w.alloc (.cells #[] 5)) := (Below.refl _ _).alloc (Nat.le_refl _) _
    have hb3 : Below w.heap.size w w3 := hb1.grown hgrow3 (by simp) (fun k hk => (hown1.lt k hk).1)
    rw [Nat.zero_add] at hown3
    obtain ⟨A2, c2, e, hN⟩ := New.mk hown3 hb3
    injection e with e1 e2 e3
    subst e1; subst e3
    exact ⟨_, _, rfl, hN⟩
end

section
set_option maxRecDepth 4000
open Go.RowKit

/-- Is an octet in a map? -/
def hasB (m c : Nat) : Bool := decide (c < 32) && decide (m / 2 ^ c % 2 = 1)
def mustB (m c : Nat) : Bool := decide (c = 125) || decide (c = 126) || hasB m c

theorem u32_div_lt {m : Nat} (c : Nat) (hm : m < 4294967296) : m / 2 ^ c < 4294967296 := Nat.lt_of_le_of_lt (Nat.div_le_self _ _) hm
theorem shr_cast (m c : Nat) : ((m : Int) / 2 ^ c) = ((m / 2 ^ c : Nat) : Int) := by simp
theorem odd_cast (y : Nat) : (((y % 2 : Nat) : Int) == 1) = decide (y % 2 = 1) := by
  rw [Bool.eq_iff_iff]
  simp
  omega
theorem low_u32 (m : Nat) (hm : m < 4294967296) : bits .and .u32 (m : Int) 1 = ((m % 2 : Nat) : Int) := by
  have := u32_and_nat m 1 hm (by omega)
  rw [nat_mask1] at this
  exact this

def withinB (a b : Nat) : Bool := decide (a &&& (4294967295 - b) = 0)
end

section
set_option maxRecDepth 4000
open Go.RowKit

/-- A config. -/
structure Cf where
  sync : Bool
  wide : Bool
  acfc : Bool
  pfc : Bool
  send : Nat
  recv : Nat
  mru : Int
/-- Its value. -/
abbrev Cf.val (c : Cf) : Value := .agg #[.bool c.sync, .bool c.wide, .bool c.acfc, .bool c.pfc, .int .u32 (c.send : Int), .int .u32 (c.recv : Int), .int .i64 c.mru]
/-- It is one of Go's. -/
structure Cf.ok (c : Cf) : Prop where
  s : c.send < 4294967296
  r : c.recv < 4294967296
  lo : -9223372036854775808 ≤ c.mru
  hi : c.mru ≤ 9223372036854775807
def Cf.may (c : Cf) : Prop := 64 ≤ c.mru ∧ c.mru ≤ 65535
def chk (m : Int) : Int := if m < 64 then 5 else if 65535 < m then 5 else 0
theorem chk_may {c : Cf} (h : c.may) : chk c.mru = 0 := by
  have h1 := h.1
  have h2 := h.2
  simp [chk]; omega
theorem chk_not {c : Cf} (h : ¬ c.may) : chk c.mru = 5 := by
  simp only [chk]
  split
  · rfl
  · split
    · rfl
    · exact absurd ⟨by omega, by omega⟩ h
theorem chk_cases (m : Int) : chk m = 0 ∨ chk m = 5 := by simp only [chk]; split <;> (try split) <;> simp

/-- What follows answers. -/
def folB (p q : Bool) : Bool := q || !p
/-- Does one end read what another one sends? -/
def fitsB (a b : Cf) : Bool := (a.sync == b.sync) && ((a.wide == b.wide) && (folB a.acfc b.acfc && (folB a.pfc b.pfc && ((a.sync || withinB b.recv a.send) && decide (a.mru ≤ b.mru)))))

def sizeI (wide : Bool) : Int := if wide then 4 else 2
/-- What Most answers. -/
def mostI (c : Cf) : Int := c.mru + 4 + sizeI c.wide

theorem below_two (w : World) (o1 o2 : Obj) : Below w.heap.size w ((w.alloc o1).alloc o2) := ((Below.refl _ _).alloc (Nat.le_refl _) _).alloc (by simp) _

/-- Are the octets below k of a map in the other? -/
def insC (a b k : Nat) : Bool := (List.range k).all fun c => !hasB a c || hasB b c
theorem insC_zero (a b : Nat) : insC a b 0 = true := rfl
theorem insC_succ (a b k : Nat) : insC a b (k + 1) = (insC a b k && (!hasB a k || hasB b k)) := by
  simp [insC, List.range_succ, List.all_append]
theorem hasC_bit (m c : Nat) : hasB m c = (decide (c < 32) && m.testBit c) := by
  rw [hasB, Nat.testBit_eq_decide_div_mod_eq]
theorem withinC_bit (a b : Nat) (ha : a < 4294967296) (hb : b < 4294967296) : withinB a b = true ↔ ∀ i, a.testBit i = true → b.testBit i = true := by
  have h32 : (4294967295 : Nat) - b = 2 ^ 32 - (b + 1) := by omega
  rw [withinB, decide_eq_true_iff, h32]
  constructor
  · intro h i hi
    have := congrArg (fun x => x.testBit i) h
    simp only [Nat.testBit_and, Nat.zero_testBit, hi, Bool.true_and] at this
    rw [Nat.testBit_two_pow_sub_succ (by omega)] at this
    have h1 : i < 32 := by
      rcases Nat.lt_or_ge i 32 with h1 | h1
      · exact h1
      · rw [Nat.testBit_lt_two_pow (Nat.lt_of_lt_of_le ha (Nat.pow_le_pow_right (n := 2) (by omega) h1))] at hi
        cases hi
    simpa [h1] using this
  · intro h
    apply Nat.eq_of_testBit_eq
    intro i
    rw [Nat.testBit_and, Nat.zero_testBit, Nat.testBit_two_pow_sub_succ (by omega)]
    cases hi : a.testBit i
    · rfl
    · simp [h i hi]
theorem insC_all (a b : Nat) (ha : a < 4294967296) (hb : b < 4294967296) : withinB a b = insC a b 32 := by
  rw [Bool.eq_iff_iff, withinC_bit a b ha hb, insC, List.all_eq_true]
  constructor
  · intro h c hc
    rw [hasC_bit, hasC_bit]
    cases hc : a.testBit c
    · simp
    · simp [h c hc]
  · intro h c hc
    have h32 : c < 32 := by
      rcases Nat.lt_or_ge c 32 with h1 | h1
      · exact h1
      · rw [Nat.testBit_lt_two_pow (Nat.lt_of_lt_of_le ha (Nat.pow_le_pow_right (n := 2) (by omega) h1))] at hc
        cases hc
    have := h c (List.mem_range.2 h32)
    rw [hasC_bit, hasC_bit, hc] at this
    simpa [h32] using this
theorem insC_mono {a b k n : Nat} (h : insC a b k = false) (hk : k ≤ n) : insC a b n = false := by
  rw [← Bool.not_eq_true, insC, List.all_eq_true] at h ⊢
  intro g
  exact h fun c hc => g c (List.mem_range.2 (by have := List.mem_range.1 hc; omega))
end
end Go.Proofs.Ytmhjnghomihjlaa
