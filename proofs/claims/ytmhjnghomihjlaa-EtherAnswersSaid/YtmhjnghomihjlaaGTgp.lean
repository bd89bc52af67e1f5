/-
  What the small calls of layer 21's program answer: check, number, first. No condition beyond: at most 2^30 octets. What the program's Put of tags answers. No condition beyond: lists of at most 2^37 tags, data of at most 2^36 octets. What the program's Get of tags answers. No condition beyond: at most 2^30 octets. What the program's Find answers, with its closure and the library's search by it. No condition beyond: lists of at most 2^38 tags, data of at most 2^38 octets. A map of texts in memory; what the program's names and Name answer. No condition beyond: a type below 2^16. The calls of layer 21 as the laws' walks want them: results by name; speaks. No condition beyond: at most 2^30 octets and tags.
-/
import Derived.Test.YtmhjnghomihjlaaGTag
import Derived.WalkMore
import Derived.Deep.CutRange
import Derived.Deep.RegionHeld3
import Derived.Maps.OwnSet
namespace Go.Proofs.Ytmhjnghomihjlaa
section
set_option maxRecDepth 4000
open Go.RowKit

/-- A world by a name, with what is known of it. -/
theorem at_worldG {F : Act → World → Prop} {x : Act} {W : World} (R : World → Prop) (C : R W) (h : ∀ W', R W' → F x W') : F x W := h W C
/-- A tag as a value. -/
abbrev tgV (t : Nat) (A : Option Addr) (n c : Nat) : Value := .agg #[.int .u16 (t : Int), .slice A n c]
/-- What is wrong with one tag: an error's number. -/
def tgone (t n : Nat) : Nat := if t = 0 then 8 else if 65535 < n then 3 else 0

set_option maxHeartbeats 400000 in
theorem tgchk_any (t n c : Nat) (A : Option Addr) (w : World) (k : Nat) (hk : tgone t n = k) :
    Calls Try.prog 39 #[tgV t A n c] w fun e w' => e = .returned (.int .i64 (k : Int)) ∧ Below w.heap.size w w' := by
  have B := Lib.hid ((Below.refl w.heap.size w).alloc (Nat.le_refl _) (.cells #[.int .u16 (t : Int), .slice A n c] 43))
  by_cases h0 : t = 0
  · have j1 : ((t : Int) == 0) = true := by rw [h0]; rfl
    obtain rfl : 8 = k := by rw [← hk, tgone, if_pos h0]
    clear hk h0
    go_enter Try.func39, Try.ntmps39
    go_wp2_with fail
    go_ret
    exact ⟨rfl, B.out⟩
  · have j1 : ((t : Int) == 0) = false := by rw [beq_eq_false_iff_ne]; omega
    by_cases h1 : 65535 < n
    · have j2 : (65535 : Int) < (n : Int) := by omega
      obtain rfl : 3 = k := by rw [← hk, tgone, if_neg h0, if_pos h1]
      clear hk h0 h1
      go_enter Try.func39, Try.ntmps39
      go_wp2_with fail
      go_ret
      exact ⟨rfl, B.out⟩
    · have j2 : ¬ (65535 : Int) < (n : Int) := by omega
      obtain rfl : 0 = k := by rw [← hk, tgone, if_neg h0, if_neg h1]
      clear hk h0 h1
      go_enter Try.func39, Try.ntmps39
      go_wp2_with fail
      go_ret
      exact ⟨rfl, B.out⟩

theorem tg_or16 (x y : Nat) (hx : x < 256) (hy : y < 256) : bits .or .i64 ((x : Int) * 256) (y : Int) = ((x * 256 + y : Nat) : Int) := by
  have h2 := Nat.two_pow_add_eq_or_of_lt (show y < 2 ^ 8 by omega) x
  have e : ((x : Int) * 256) = ((2 ^ 8 * x : Nat) : Int) := by simp; omega
  rw [e]
  show IntKind.i64.wrap ((BitVec.ofInt 64 ((2 ^ 8 * x : Nat) : Int) ||| BitVec.ofInt 64 (y : Int)).toNat : Int) = _
  rw [BitVec.toNat_or, ofInt_u64 _ (by omega), ofInt_u64 _ (by omega), ← h2, show 2 ^ 8 * x + y = x * 256 + y by omega]
  exact IntWalk.i64_in _ (by omega)

/-- What first answers. -/
def FirG (b : List Nat) (w : World) (e : Ending) (w' : World) : Prop :=
  ((tgstep b).2 ≠ 0 ∧ e = .returned (.tuple #[.agg #[.int .u16 0, .slice none 0 0], .int .i64 ((tgstep b).2 : Int)]) ∧ Below w.heap.size w w') ∨
    ∃ A c n, tgstep b = (4 + n, 0) ∧ e = .returned (.tuple #[tgV (tgtyp b) A n c, .int .i64 0]) ∧ New w w' A c n ((b.take (4 + n)).drop 4)
theorem fir_bad {b : List Nat} {w w' : World} {q : Nat} (h : tgstep b = (0, q)) (hq : q ≠ 0) (hb : Below w.heap.size w w') : FirG b w (.returned (.tuple #[.agg #[.int .u16 0, .slice none 0 0], .int .i64 (q : Int)])) w' :=
  .inl ⟨by rw [h]; exact hq, by rw [h], hb⟩

/-- The block of the answer, as it is made, in every later world. -/
theorem fir_cells {w w1 w' : World} (hw1 : w1 = w.alloc (.cells #[.int .u16 0, .slice none 0 0] 43)) (hb' : Below w1.heap.size w1 w') :
    w.heap.size < w'.heap.size ∧ w'.cell? ⟨w.heap.size, 0, none⟩ = some (.int .u16 0) ∧ w'.cell? ⟨w.heap.size, 1, none⟩ = some (.slice none 0 0) ∧ w'.frozen? ⟨w.heap.size, 0, none⟩ = false ∧ w'.frozen? ⟨w.heap.size, 1, none⟩ = false := by
  have hs1 : w1.heap.size = w.heap.size + 1 := by rw [hw1, World.size_alloc]
  have hv1 : w1.heap[w.heap.size]? = some (.cells #[.int .u16 0, .slice none 0 0] 43 (0, 0)) := by rw [hw1]; exact heap_alloc_new _ _
  have hv : w'.heap[w.heap.size]? = some (.cells #[.int .u16 0, .slice none 0 0] 43 (0, 0)) := (hb'.block _ (by omega)).trans hv1
  refine ⟨by have := hb'.size; omega, ?_, ?_, frozen_of_row w' _ 0 _ _ hv, frozen_of_row w' _ 1 _ _ hv⟩
  · rw [cell_of_row w' _ 0 _ _ _ hv]; rfl
  · rw [cell_of_row w' _ 1 _ _ _ hv]; rfl
theorem fir_fin {w w1 w' : World} (hb0 : Below w.heap.size w w1) (u v : Value) (hb' : Below w1.heap.size w1 w') : Below w.heap.size w ((w'.setCell ⟨w.heap.size, 0, none⟩ u).setCell ⟨w.heap.size, 1, none⟩ v) :=
  ((hb0.trans (hb'.mono hb0.size)).setCell (p := ⟨w.heap.size, 0, none⟩) (Nat.le_refl _) _).setCell (p := ⟨w.heap.size, 1, none⟩) (Nat.le_refl _) _
theorem fir_own {w w1 w' : World} {A : Option Addr} {n c : Nat} {l : List Nat} (u v : Value) (hs : w1.heap.size = w.heap.size + 1) (ho : w'.ownsRow w1.heap.size 5 1 (.slice A n c) n (bvs l)) : ((w'.setCell ⟨w.heap.size, 0, none⟩ u).setCell ⟨w.heap.size, 1, none⟩ v).ownsRow w.heap.size 5 1 (.slice A n c) n (bvs l) := by
  have hof := Offs.trans (Offs.set (X := fun i => i = w.heap.size) w' w.heap.size 0 u rfl) (Offs.set (X := fun i => i = w.heap.size) _ w.heap.size 1 v rfl) (Z := fun i => i = w.heap.size) (fun _ h => h) (fun _ _ h => h)
  exact own_lo (own_off ho hof (fun g hg e => by have := (ho.lt g hg).1; omega)) (by omega)
end

section
set_option maxRecDepth 4000
open Go.RowKit

/-- A tag's block, just made, in every later world. -/
theorem tag_blk {w w' : World} {T : TypeId} {t n c : Nat} {A : Option Addr} (hb : Below (w.alloc (.cells #[.int .u16 (t : Int), .slice A n c] T)).heap.size (w.alloc (.cells #[.int .u16 (t : Int), .slice A n c] T)) w') :
    w'.cell? ⟨w.heap.size, 0, none⟩ = some (.int .u16 (t : Int)) ∧ w'.cell? ⟨w.heap.size, 1, none⟩ = some (.slice A n c) := by
  have hv : w'.heap[w.heap.size]? = some (.cells #[.int .u16 (t : Int), .slice A n c] T (0, 0)) := (hb.block _ (by simp)).trans (heap_alloc_new _ _)
  exact ⟨by rw [cell_of_row w' _ 0 _ _ _ hv]; rfl, by rw [cell_of_row w' _ 1 _ _ _ hv]; rfl⟩
theorem tgone_next {l : List (Nat × List Nat)} {k : Nat} {o : Nat × List Nat} (h : tgerr (l.take k) = 0) (hk : l[k]? = some o) : tgerr (l.take (k + 1)) = tgone o.1 o.2.length := tgerr_next h hk

theorem tgerr_mem {l : List (Nat × List Nat)} (h : tgerr l = 0) {x : Nat × List Nat} (hx : x ∈ l) : x.1 ≠ 0 ∧ x.2.length ≤ 65535 := by
  induction l with
  | nil => cases hx
  | cons o l ih =>
    obtain ⟨h0, h1, h2⟩ := tgerr_cons.1 h
    rcases List.mem_cons.1 hx with rfl | hx
    · exact ⟨h0, h1⟩
    · exact ih h2 hx

/-- What a round of the program's Put knows: its own row, and the tag's own block. -/
structure PG (w W : World) (q : Nat) (T : TypeId) (t n : Nat) (A : Option Addr) (c : Nat) (v : Value) (m : Nat) (xs : List Nat) : Prop where
  bel : Below w.heap.size w W
  own : W.ownsRow w.heap.size 5 1 v m (bvs xs)
  blk : W.heap[q]? = some (.cells #[.int .u16 (t : Int), .slice A n c] T (0, 0))
section
variable {w W X W' : World} {q : Nat} {T : TypeId} {t n : Nat} {A : Option Addr} {c : Nat} {v v' : Value} {m m' : Nat} {xs xs' : List Nat}
theorem PG.cells (h : PG w W q T t n A c v m xs) : W.cell? ⟨q, 0, none⟩ = some (.int .u16 (t : Int)) ∧ W.cell? ⟨q, 1, none⟩ = some (.slice A n c) := by
  constructor
  · rw [cell_of_row W q 0 _ _ _ h.blk]; rfl
  · rw [cell_of_row W q 1 _ _ _ h.blk]; rfl
theorem PG.step (h : PG w W q T t n A c v m xs) (hb : Below X.heap.size X W') (hX : Below W.heap.size W X := by first | exact Below.refl _ _ | exact (Below.refl _ _).drew) : PG w W' q T t n A c v m xs := by
  have hb' : Below W.heap.size W W' := hX.trans (hb.mono hX.size)
  exact ⟨h.bel.trans (hb'.mono h.bel.size), own_below h.own hb', (hb'.block _ (Array.getElem?_eq_some_iff.1 h.blk).1).trans h.blk⟩
theorem PG.drew (h : PG w W q T t n A c v m xs) : PG w W.drew q T t n A c v m xs := h.step (X := W) (Below.refl _ _).drew
theorem PG.al (h : PG w W q T t n A c v m xs) (o : Obj) : PG w (W.alloc o) q T t n A c v m xs := h.step (X := W) ((Below.refl _ _).alloc (Nat.le_refl _) o)
theorem PG.app (h : PG w W q T t n A c v m xs) (hT : T ≠ 5) (ho : W'.ownsRow w.heap.size 5 1 v' m' (bvs xs')) (hg : W.grownBy W' v.ownBlock) : PG w W' q T t n A c v' m' xs' := by
  refine ⟨h.bel.grown hg h.bel.size (fun k hk => (h.own.lt k hk).1), ho, (hg.block q (Array.getElem?_eq_some_iff.1 h.blk).1 fun e => ?_).trans h.blk⟩
  obtain ⟨cur, hc⟩ := own_blk h.own (g := q) e.symm
  rw [h.blk] at hc
  injection hc with hc
  injection hc with _ hc
  exact hT hc
end

set_option maxHeartbeats 8000000 in
theorem tgput_any (l : List (Nat × List Nat)) (n c : Nat) (A : Option Addr) (F : Nat → Prop) (w : World) (h : Rws shG F w A l) (hl : l.length = n) (hn : n ≤ 137438953472) (hd : tgdat l ≤ 68719476736) (hty : ∀ o ∈ l, o.1 < 65536) :
    Calls Try.prog 31 #[.slice A n c] w fun e w' => ∃ A' c' k, e = .returned (.tuple #[.slice A' k c', .int .i64 ((tgerr l : Nat) : Int)]) ∧ New w w' A' c' k (tgputA l) := by
  obtain ⟨i0, hi, hz0, hz1, hz2⟩ := info_parts byte_info
  have HL := Lib.hid hl
  have HD := Lib.hid (tgdat_take l)
  have HY := Lib.hid hty
  clear hl hty
  go_enter Try.func31, Try.ntmps31
  go_wp2_with fail
  go_loopw [4, 14] (fun s i wr => ∃ k q : Nat, k ≤ n ∧ i = .int .i64 k ∧ s = .int .i64 q ∧ Hid (tgerr (l.take k) = 0) ∧ Hid (4 * k + tgdat (l.take k) = q) ∧ Below w.heap.size w wr) (fun _ i _ => n - (intOf i).toNat)
  case atStart => exact ⟨0, 0, Nat.zero_le _, rfl, rfl, Lib.hid rfl, Lib.hid rfl, Below.refl _ _⟩
  case round =>
    obtain ⟨k, q, hk, rfl, rfl, hlg, hq, hbel⟩ := hrel
    have hq1 : q ≤ 618475290624 := by have := HD.out k; have := hq.out; omega
    by_cases hlt : k < n
    · obtain ⟨b, o, x, A3, c3, rfl, hb3, hx, h3, h4, h5, h6⟩ := (h.below hbel).tag (k := k) (by rw [HL.out]; exact hlt)
      have HX := Lib.hid hx
      have hxl : x.2.length ≤ 68719476736 := by
        have e := tgdat_at hx
        have := tgdat_take l (k + 1)
        omega
      have HQ := Lib.hid (show 4 * (k + 1) + tgdat (l.take (k + 1)) = q + (4 + x.2.length) by rw [tgdat_at hx, ← hq.out]; omega)
      have hq2 : q + (4 + x.2.length) ≤ 618475290624 + 68719476740 := by omega
      obtain ⟨e, he⟩ : ∃ e, Hid (tgone x.1 x.2.length = e) := ⟨_, Lib.hid rfl⟩
      have HE := Lib.hid ((tgone_next hlg.out HX.out).trans he.out)
      have i1 : (0 : Int) ≤ k := by omega
      have i2 : (k : Int) < n := by omega
      clear hx h6
      by_cases he0 : e = 0
      · subst he0
        go_wp2_with (go_at_call 39; (with_reducible refine (tgchk_any x.1 x.2.length c3 A3 _ _ he.out).mono ?_); rintro e w5 ⟨rfl, hb5⟩; obtain ⟨f0, f1⟩ := tag_blk hb5; have R2 := hbel.trans (((Below.refl _ _).alloc (Nat.le_refl _) _).trans (hb5.mono (by simp)) |>.mono hbel.size))
        go_roundw
        case rel => exact ⟨k + 1, q + (4 + x.2.length), by omega, by go_num, by go_num, HE, HQ, R2⟩
        case measure => simp [intOf]; omega
      · have HQ2 := tgerr_at (l := l) (k + 1) (by rw [HE.out]; exact he0)
        have EP := Lib.hid (show tgerr l = e by rw [HQ2, HE.out])
        have EA := Lib.hid (show tgputA l = [] by unfold tgputA; rw [EP.out, if_neg he0])
        have j0 : ((e : Int) != 0) = true := by rw [bne_iff_ne]; omega
        clear HQ2 HE HQ hq2
        go_wp2_with (go_at_call 39; (with_reducible refine (tgchk_any x.1 x.2.length c3 A3 _ _ he.out).mono ?_); rintro e w5 ⟨rfl, hb5⟩; obtain ⟨f0, f1⟩ := tag_blk hb5; have R2 := hbel.trans (((Below.refl _ _).alloc (Nat.le_refl _) _).trans (hb5.mono (by simp)) |>.mono hbel.size))
        go_ret2
        rw [EP.out, EA.out]
        exact ⟨none, 0, 0, rfl, rfl, World.ownsRow_nil _ _ _ _, Rd.nil, R2⟩
    · have he : k = n := by omega
      subst he
      have hlg2 := hlg.out
      rw [List.take_of_length_le (by rw [HL.out]; exact Nat.le_refl _)] at hlg2
      have EP := Lib.hid hlg2
      have EA := Lib.hid (show tgputA l = tgput l by unfold tgputA; rw [hlg2]; rfl)
      have HLG := Lib.hid (show ∀ j x, l[j]? = some x → x.1 ≠ 0 ∧ x.2.length ≤ 65535 from fun j x hx => tgerr_mem hlg2 (List.mem_of_getElem? hx))
      have HB3 := Lib.hid hbel
      clear hlg2 hlg hq hbel
      obtain ⟨w4, hmk, hown4, hg4⟩ := run_make_own (P := Try.prog) wr w.heap.size 26 5 i0 (.int .u8 0) 1 Try.underlying26 hi hz0 hz1 .i64 .i64 q (by rw [hz2]; omega) (by unfold maxLen; omega) HB3.out.size
      have hbel4 := HB3.out.grown hg4 HB3.out.size (fun k hk => by cases hk)
      go_wp2_with fail
      clear hg4 hmk
      go_loopw [8, 34] (fun v i wr => ∃ j m : Nat, j ≤ k ∧ i = .int .i64 j ∧ wr.ownsRow w.heap.size 5 1 v m (bvs (tgput (l.take j))) ∧ Below w.heap.size w wr) (fun _ i _ => k - (intOf i).toNat)
      case atStart => exact ⟨0, 0, Nat.zero_le _, rfl, hown4, hbel4⟩
      case round =>
        clear hown4 hbel4
        obtain ⟨j, m, hj, rfl, hown, hbel⟩ := hrel
        have hm1 := hown.1
        rw [bvs_len, tgput_len] at hm1
        have hm2 : m ≤ 618475290624 := by have := HD.out j; have := List.length_take (i := j) (l := l); omega
        by_cases hlt2 : j < k
        · obtain ⟨b, o, x, A3, c3, rfl, hb3, hx, h3, h4, h5, h6⟩ := h.tag (k := j) (by rw [HL.out]; exact hlt2)
          replace h3 := (hbel.cell (p := ⟨b, o + j * 2, none⟩) hb3).trans h3
          replace h4 := (hbel.cell (p := ⟨b, o + j * 2 + 1, none⟩) hb3).trans h4
          obtain ⟨hx0, hxl⟩ := HLG.out _ _ hx
          have hx16 := HY.out x (List.mem_of_getElem? hx)
          have H6 := Lib.hid h6.rd
          obtain ⟨z1, hz1'⟩ : ∃ z, Hid (x.1 / 256 = z) := ⟨_, Lib.hid rfl⟩
          obtain ⟨z2, hz2'⟩ : ∃ z, Hid (x.1 % 256 = z) := ⟨_, Lib.hid rfl⟩
          obtain ⟨z3, hz3'⟩ : ∃ z, Hid (x.2.length / 256 = z) := ⟨_, Lib.hid rfl⟩
          obtain ⟨z4, hz4'⟩ : ∃ z, Hid (x.2.length % 256 = z) := ⟨_, Lib.hid rfl⟩
          have y1 : z1 < 256 := by have := hz1'.out; omega
          have y2 : z2 < 256 := by have := hz2'.out; omega
          have y3 : z3 < 256 := by have := hz3'.out; omega
          have y4 : z4 < 256 := by have := hz4'.out; omega
          have HE := Lib.hid (show tgput (l.take (j + 1)) = tgput (l.take j) ++ [z1, z2, z3, z4] ++ x.2 by rw [tgput_at hx, ← hz1'.out, ← hz2'.out, ← hz3'.out, ← hz4'.out]; simp [tgenc])
          have C := Lib.hid (show PG w (wr.alloc (.cells #[.int .u16 (x.1 : Int), .slice A3 x.2.length c3] 43)) wr.heap.size 43 x.1 x.2.length A3 c3 _ m (tgput (l.take j)) from ⟨hbel.alloc hbel.size _, own_below hown ((Below.refl _ _).alloc (Nat.le_refl _) _), heap_alloc_new _ _⟩)
          have HLT := Lib.hid (show Rd ((wr.alloc (.cells #[.int .u16 (x.1 : Int), .slice A3 x.2.length c3] 43)).alloc (.cells #[.int .u8 (z1 : Int), .int .u8 (z2 : Int), .int .u8 (z3 : Int), .int .u8 (z4 : Int)] 5)) ((wr.alloc (.cells #[.int .u16 (x.1 : Int), .slice A3 x.2.length c3] 43)).alloc (.cells #[.int .u8 (z1 : Int), .int .u8 (z2 : Int), .int .u8 (z3 : Int), .int .u8 (z4 : Int)] 5)).heap.size (some ⟨wr.heap.size + 1, 0, none⟩) [z1, z2, z3, z4] by
            have h7 := Rd.lit_ (wr.alloc (.cells #[.int .u16 (x.1 : Int), .slice A3 x.2.length c3] 43)) [z1, z2, z3, z4]
            rw [show (wr.alloc (.cells #[.int .u16 (x.1 : Int), .slice A3 x.2.length c3] 43)).heap.size = wr.heap.size + 1 from World.size_alloc ..] at h7
            exact h7)
          have i1 : (0 : Int) ≤ j := by omega
          have i2 : (j : Int) < k := by omega
          have e1 : (x.1 : Int) / 256 = (z1 : Int) := by have := hz1'.out; omega
          have e2 : IntKind.u8.wrap (x.1 : Int) = (z2 : Int) := by rw [IntKind.wrap_u8]; have := hz2'.out; omega
          have e3 : (x.2.length : Int) / 256 = (z3 : Int) := by have := hz3'.out; omega
          have e4 : IntKind.u8.wrap (x.2.length : Int) = (z4 : Int) := by rw [IntKind.wrap_u8]; have := hz4'.out; omega
          have a1 : IntKind.u8.wrap (z1 : Int) = (z1 : Int) := by apply IntWalk.u8_in; omega
          have a3 : IntKind.u8.wrap (z3 : Int) = (z3 : Int) := by apply IntWalk.u8_in; omega
          clear h6 hx hown hm1 hx0 hx16 hbel
          go_wp2_with (first
            | (at_builtin; refine list_app rfl _ _ _ rfl _ i0 Try.underlying26 hi hz0 hz1 hz2 _ _ m (tgput (l.take j)) rfl (C.out.al _).own _ _ 4 _ [z1, z2, z3, z4] rfl HLT.out rfl (by omega) (C.out.al _).bel.size ?_; intro A6 c6 w6 ho6 hg6; replace C := Lib.hid ((C.out.al _).app (by decide) ho6 hg6); clear ho6 hg6; obtain ⟨f0, f1⟩ := C.out.cells)
            | (at_builtin; refine list_app rfl _ _ _ rfl _ i0 Try.underlying26 hi hz0 hz1 hz2 _ _ (m + 4) _ rfl C.out.own w.heap.size _ x.2.length _ x.2 rfl (H6.out.below C.out.bel) rfl (by omega) C.out.bel.size ?_; intro A7 c7 w7 ho7 hg7; have R2 := C.out.bel.grown hg7 C.out.bel.size (fun g hg => (C.out.own.lt g hg).1)))
          rw [← HE.out] at ho7
          go_roundw
          case rel => exact ⟨j + 1, _, by omega, by go_num, ho7, R2⟩
          case measure => simp [intOf]; omega
        · have he : j = k := by omega
          subst he
          rw [List.take_of_length_le (by rw [HL.out]; exact Nat.le_refl _)] at hown
          go_wp2_with fail
          go_ret2
          rw [EP.out, EA.out]
          obtain ⟨A', c', rfl, hN⟩ := New.mk hown hbel
          exact ⟨A', c', m, rfl, hN⟩
end

section
set_option maxRecDepth 4000
open Go.RowKit

/-- What the program's Get answers: a row of its own, whose data lie in blocks of its own. -/
def GetH (b : List Nat) (w : World) (e : Ending) (w' : World) : Prop :=
  ∃ v, e = .returned (.tuple #[v, .int .i64 ((tgget b).2.1 : Int), .int .i64 ((tgget b).2.2 : Int)]) ∧ Orw shG 43 (fun g => w.heap.size ≤ g) w.heap.size w' v (tgget b).1 ∧ Below w.heap.size w w'
theorem getH_bad {b : List Nat} {acc : List (Nat × List Nat)} {k q : Nat} {w w' : World} (h : tgget b = tgadd acc k (tgget (b.drop k))) (hn : b.drop k ≠ []) (hs : (tgstep (b.drop k)).2 = q) (hq : q ≠ 0) (hb : Below w.heap.size w w') :
    GetH b w (.returned (.tuple #[.slice none 0 0, .int .i64 0, .int .i64 (q : Int)])) w' := by
  have e : tgget b = ([], 0, q) := by
    rw [h, tgget_bad hn (by rw [hs]; exact hq), hs]
    unfold tgadd
    rw [if_neg hq]
  exact ⟨_, by rw [e]; rfl, by rw [e]; exact Orw.nil _ _ _ _ _, hb⟩
theorem getH_stop {b : List Nat} {acc : List (Nat × List Nat)} {k n5 : Nat} {w w' : World} {v : Value} (h : tgget b = tgadd acc k (tgget (b.drop k))) (hs : (tgstep (b.drop k)).2 = 0) (ht : tgtyp (b.drop k) = 0) (h5 : n5 = k + 4) (ho : Orw shG 43 (fun g => w.heap.size ≤ g) w.heap.size w' v acc) (hb : Below w.heap.size w w') :
    GetH b w (.returned (.tuple #[v, .int .i64 (n5 : Int), .int .i64 0])) w' := by
  have e : tgget b = (acc, n5, 0) := by
    rw [h, tgget_end hs ht, h5]
    unfold tgadd
    rw [if_pos rfl, List.append_nil]
  exact ⟨_, by rw [e]; rfl, by rw [e]; exact ho, hb⟩
theorem getH_end {b : List Nat} {acc : List (Nat × List Nat)} {k : Nat} {w w' : World} {v : Value} (h : tgget b = tgadd acc k (tgget (b.drop k))) (h0 : b.drop k = []) (ho : Orw shG 43 (fun g => w.heap.size ≤ g) w.heap.size w' v acc) (hb : Below w.heap.size w w') :
    GetH b w (.returned (.tuple #[v, .int .i64 (k : Int), .int .i64 0])) w' := by
  have e : tgget b = (acc, k, 0) := by
    rw [h, h0, tgget_nil]
    unfold tgadd
    rw [if_pos rfl, List.append_nil, Nat.add_zero]
  exact ⟨_, by rw [e]; rfl, by rw [e]; exact ho, hb⟩
theorem tgstep_end {b : List Nat} {m : Nat} (hs : tgstep b = (4 + m, 0)) (ht : tgtyp b = 0) : m = 0 := by
  obtain ⟨x, y, z, u, t, -, h1, -, h2, h3⟩ := tgstep_ok (b := b) (by rw [hs])
  obtain ⟨h4, h5⟩ := h2 (by rw [← h3]; exact ht)
  rw [hs] at h1
  dsimp only at h1
  omega
theorem tgtyp_lt {b : List Nat} (hb : By b) : tgtyp b < 65536 := by
  match b with
  | [] => exact Nat.zero_lt_succ _
  | [_] => exact Nat.zero_lt_succ _
  | x :: y :: t =>
    have h1 := hb x (by simp)
    have h2 := hb y (by simp)
    show x * 256 + y < 65536
    omega
end

section
set_option maxRecDepth 4000
open Go.RowKit

/-- Has a tag the type? -/
def tgask (t : Nat) (o : Nat × List Nat) : Bool := o.1 == t
theorem tgfind_at {l : List (Nat × List Nat)} {f : Nat × List Nat → Bool} {k : Nat} {x : Nat × List Nat} (h : (l.take k).find? f = none) (hx : l[k]? = some x) (hf : f x = true) : l.find? f = some x := by
  have hk := (List.getElem?_eq_some_iff.1 hx).1
  have e : l = l.take k ++ x :: l.drop (k + 1) := by
    have e1 : l.drop k = x :: l.drop (k + 1) := by
      rw [List.drop_eq_getElem_cons hk, (List.getElem?_eq_some_iff.1 hx).2]
    rw [← e1, List.take_append_drop]
  rw [e, List.find?_append, h, Option.none_or, List.find?_cons_of_pos hf]
theorem tgfind_more {l : List (Nat × List Nat)} {f : Nat × List Nat → Bool} {k : Nat} {x : Nat × List Nat} (h : (l.take k).find? f = none) (hx : l[k]? = some x) (hf : f x = false) : (l.take (k + 1)).find? f = none := by
  rw [List.take_add_one, hx, Option.toList_some, List.find?_append, h, Option.none_or]
  simp [hf]

/-- The closure's cell: the type that is sought. -/
def Tk (w : World) (g t : Nat) : Prop := g < w.heap.size ∧ w.cell? ⟨g, 0, none⟩ = some (.int .u16 (t : Int))
theorem Tk.below {w w' : World} {g t : Nat} (a : Tk w g t) (hb : Below w.heap.size w w') : Tk w' g t :=
  ⟨Nat.lt_of_lt_of_le a.1 hb.size, (hb.cell (p := ⟨g, 0, none⟩) a.1).trans a.2⟩
/-- The function value that Find makes. -/
abbrev fvT (g : Nat) : Value := .func (.func 35) #[] #[.pointer (some ⟨g, 0, none⟩)]

set_option maxHeartbeats 1000000 in
theorem tgfind1_any (t : Nat) (o : Nat × List Nat) (n c : Nat) (A : Option Addr) (g : Nat) (w : World) (ha : Tk w g t) (q : Bool) (hq : tgask t o = q) :
    Calls Try.prog 35 #[.agg #[.int .u16 (o.1 : Int), .slice A n c], .pointer (some ⟨g, 0, none⟩)] w fun e w' => e = .returned (.bool q) ∧ Below w.heap.size w w' := by
  have hb := (Below.refl w.heap.size w).alloc (Nat.le_refl _) (.cells #[.int .u16 (o.1 : Int), .slice A n c] 43)
  obtain ⟨k1, k2⟩ := ha.below hb
  have k3 := ha.1
  have B := Lib.hid hb
  clear hb
  by_cases h1 : o.1 = t
  · have j1 : ((o.1 : Int) == (t : Int)) = true := by rw [beq_iff_eq]; omega
    obtain rfl : true = q := by rw [← hq, tgask, h1]; simp
    clear ha hq h1
    go_enter Try.func35, Try.ntmps35
    go_wp2_with fail
    go_ret
    exact ⟨rfl, B.out⟩
  · have j1 : ((o.1 : Int) == (t : Int)) = false := by rw [beq_eq_false_iff_ne]; omega
    obtain rfl : false = q := by rw [← hq, tgask]; exact (beq_eq_false_iff_ne.2 h1).symm
    clear ha hq h1
    go_enter Try.func35, Try.ntmps35
    go_wp2_with fail
    go_ret
    exact ⟨rfl, B.out⟩

set_option maxHeartbeats 2000000 in
theorem tgidx_any (t : Nat) (l : List (Nat × List Nat)) (n c : Nat) (A : Option Addr) (F : Nat → Prop) (g : Nat) (w : World) (hr : Rws shG F w A l) (hl : l.length = n) (hn : n ≤ 274877906944) (ha : Tk w g t) :
    Calls Try.prog 34 #[.slice A n c, fvT g] w fun e w' => ∃ z : Int, e = .returned (.int .i64 z) ∧ Below w.heap.size w w' ∧ Hid (z = -1 ∧ l.find? (tgask t) = none ∨ ∃ i x, z = (i : Nat) ∧ i < n ∧ l[i]? = some x ∧ l.find? (tgask t) = some x) := by
  have HL := Lib.hid hl
  have HR := Lib.hid hr
  have HW := Lib.hid ha
  clear hl hr ha
  go_enter Try.func34, Try.ntmps34
  go_wp2_with fail
  go_loopw [8] (fun i wr => ∃ k : Nat, k ≤ n ∧ i = .int .i64 k ∧ Hid ((l.take k).find? (tgask t) = none) ∧ Below w.heap.size w wr) (fun i _ => n - (intOf i).toNat)
  case atStart => exact ⟨0, Nat.zero_le _, rfl, Lib.hid (by simp), Below.refl _ _⟩
  case round =>
    obtain ⟨k, hk, rfl, hf, hbel⟩ := hrel
    by_cases hlt : k < n
    · obtain ⟨b, o, x, A3, c3, rfl, hb3, hx, h3, h4, h5, h6⟩ := (HR.out.below hbel).tag (k := k) (by rw [HL.out]; exact hlt)
      have HX := Lib.hid hx
      have i1 : (0 : Int) ≤ k := by omega
      have i2 : (k : Int) < n := by omega
      obtain ⟨q, hq⟩ : ∃ q, Hid (tgask t x = q) := ⟨_, Lib.hid rfl⟩
      have BE := Lib.hid hbel
      clear hx h6 hbel
      cases q
      · have R := Lib.hid (tgfind_more hf.out HX.out hq.out)
        go_wp2_with (go_at_call 35; (with_reducible refine (tgfind1_any t x _ c3 A3 g _ (HW.out.below BE.out) _ hq.out).mono ?_); rintro e wn ⟨rfl, hb⟩; replace BE := Lib.hid (BE.out.trans (hb.mono BE.out.size)); clear hb)
        go_roundw
        case rel => exact ⟨k + 1, by omega, by go_num, R, BE.out⟩
        case measure => simp [intOf]; omega
      · have E := Lib.hid (tgfind_at hf.out HX.out hq.out)
        go_wp2_with (go_at_call 35; (with_reducible refine (tgfind1_any t x _ c3 A3 g _ (HW.out.below BE.out) _ hq.out).mono ?_); rintro e wn ⟨rfl, hb⟩; replace BE := Lib.hid (BE.out.trans (hb.mono BE.out.size)); clear hb)
        go_ret
        exact ⟨_, rfl, BE.out, Lib.hid (.inr ⟨k, x, rfl, hlt, HX.out, E.out⟩)⟩
    · have he : k = n := by omega
      subst he
      have E := hf.out
      rw [List.take_of_length_le (by rw [HL.out]; exact Nat.le_refl _)] at E
      have HE := Lib.hid E
      clear E
      go_wp2_with fail
      go_ret
      exact ⟨_, rfl, hbel, Lib.hid (.inl ⟨rfl, HE.out⟩)⟩

theorem tk_made (w : World) (t : Nat) : Tk (w.alloc (.cells #[.int .u16 (t : Int)] 22)) w.heap.size t := by
  refine ⟨by rw [World.size_alloc]; omega, ?_⟩
  rw [cell_of_row _ _ 0 _ _ _ (heap_alloc_new _ _)]; rfl
/-- What Find answers. -/
def FndG (l : List (Nat × List Nat)) (t : Nat) (w : World) (e : Ending) (w' : World) : Prop :=
  (l.find? (tgask t) = none ∧ e = .returned (.tuple #[.slice none 0 0, .bool false]) ∧ Below w.heap.size w w') ∨
    ∃ o A c, l.find? (tgask t) = some o ∧ e = .returned (.tuple #[.slice A o.2.length c, .bool true]) ∧ New w w' A c o.2.length o.2

set_option maxHeartbeats 8000000 in
theorem tgfind_any (t : Nat) (l : List (Nat × List Nat)) (n c : Nat) (A : Option Addr) (F : Nat → Prop) (w : World) (hr : Rws shG F w A l) (hl : l.length = n) (hn : n ≤ 274877906944) (hd : ∀ x ∈ l, x.2.length ≤ 274877906944) :
    Calls Try.prog 27 #[.slice A n c, .int .u16 (t : Int)] w (FndG l t w) := by
  have K := Lib.hid (tk_made w t)
  have B := Lib.hid ((Below.refl w.heap.size w).alloc (Nat.le_refl _) (.cells #[.int .u16 (t : Int)] 22))
  have HR := Lib.hid hr
  have HL := Lib.hid hl
  have HD := Lib.hid hd
  clear hr hl hd
  go_enter Try.func27, Try.ntmps27
  go_upto_region 1 with fail
  refine at_worldG (fun W => Hid (Below w.heap.size w W) ∧ Hid (Tk W w.heap.size t)) ⟨B, K⟩ ?_
  clear B K
  rintro wm ⟨B, K⟩
  go_upto_region 2 with (first
    | (go_at_call 34; (with_reducible refine (tgidx_any t l n c A F _ _ (HR.out.below B.out) HL.out hn K.out).mono ?_); rintro e wn ⟨z, rfl, hb, hz⟩; replace B := Lib.hid (B.out.trans (hb.mono B.out.size)); clear hb))
  rcases hz.out with ⟨rfl, hz2⟩ | ⟨i, x, rfl, hi, hx, hz2⟩
  · have E := Lib.hid hz2
    clear hz2 hz
    go_wp2_with fail
    go_ret2
    exact .inl ⟨E.out, rfl, B.out⟩
  · have E := Lib.hid hz2
    obtain ⟨b, o, x', A3, c3, rfl, hb3, hx', h3, h4, h5, h6⟩ := (HR.out.below B.out).tag (k := i) (by rw [HL.out]; exact hi)
    obtain rfl : x = x' := Option.some.inj (hx.symm.trans hx')
    have HS := HD.out x (List.mem_of_getElem? hx)
    have H6 := Lib.hid h6.rd
    have i0 : ¬ (i : Int) < 0 := by omega
    have i1 : (0 : Int) ≤ i := by omega
    have i2 : (i : Int) < n := by omega
    clear hz2 hz hx hx' h6
    go_wp2_with (first
      | (go_at_call 36; (with_reducible refine (clone_any x.2 x.2.length A3 c3 _ H6.out rfl HS).mono ?_); rintro e wk ⟨A5, c5, rfl, hN⟩))
    go_ret2
    exact .inr ⟨x, A5, c5, E.out, rfl, own_lo hN.2.1 B.out.size |> fun ho => ⟨hN.1, ho, hN.2.2.1, B.out.trans (hN.2.2.2.mono B.out.size)⟩⟩
end

section
set_option maxRecDepth 4000
open Go.RowKit Go.Maps

/-- A table of texts, the last one laid first. -/
abbrev Nt := List (Nat × ByteArray)
/-- How a text reads. -/
def strE : Value → Option (DataW Unit × List MemPlace)
  | .string s => some (.lit (.string s.data.toList), [])
  | _ => none
theorem strE_mk (s : ByteArray) : strE (.string s) = some (.lit (.string s.data.toList), []) := rfl
theorem strE_inv {v : Value} {s : ByteArray} {ps : List MemPlace} (h : strE v = some (.lit (.string s.data.toList), ps)) : v = .string s := by
  unfold strE at h
  split at h
  · rename_i r
    simp at h
    have e : r.data = s.data := h.1
    cases r; cases s
    dsimp only at e
    rw [e]
  · cases h
/-- What the map reads as. -/
def nmD : Nt → DataW Unit
  | [] => .map []
  | x :: r => (nmD r).put (.int .u16 (x.1 : Int)) (.lit (.string x.2.data.toList))
/-- The text of a type. -/
def nseek : Nt → Nat → ByteArray
  | [], _ => ⟨#[]⟩
  | x :: r, t => if x.1 = t then x.2 else nseek r t
theorem nmD_is (T : Nt) : IsMap (nmD T) := by
  induction T with
  | nil => exact isMap_empty
  | cons x r ih => exact ih.put _ _
theorem nkey_is (t : Nat) : WideAt.IsKeyLit (.int .u16 (t : Int)) := by trivial
theorem nkey_ne {s t : Nat} (h : s ≠ t) : (Lit.int .u16 (t : Int)) ≠ (Lit.int .u16 (s : Int)) := by
  intro e
  injection e with _ e
  omega
theorem nmD_at (T : Nt) (t : Nat) : (nmD T).atKey (.int .u16 (t : Int)) (.lit (.string [])) = .lit (.string (nseek T t).data.toList) := by
  induction T with
  | nil => rfl
  | cons x r ih =>
    unfold nmD
    by_cases h : x.1 = t
    · rw [← h, atKey_put_same (nmD_is r) (nkey_is _)]
      simp [nseek]
    · rw [atKey_put_other (nkey_ne h), ih]
      simp [nseek, h]
/-- Block b is such a map. -/
def Nb (w : World) (b : Nat) (T : Nt) : Prop := w.ownsMap Try.prog 22 strE b T.length (nmD T)
theorem Nb.made (w : World) : Nb (w.alloc (.map #[] 0)) w.heap.size [] := World.ownsMap_made _ _ _ _
theorem u16_keyed : Keyed Try.prog 22 := int_keyed Try.underlying22
theorem u16_wfG {t : Nat} (h : t < 65536) : (Lit.int .u16 (t : Int)).wf = true := by
  simp [Lit.wf, IntKind.min, IntKind.max, IntKind.signed, IntKind.bits]
  omega
theorem str_zero (w : World) : (zeroValue 9).run Try.prog w = .ok (.string ⟨#[]⟩) w := by kernel_rfl

/-- The names, the last one first. -/
def tgtab : Nt := [(515, ⟨#[101, 114, 114, 111, 114]⟩), (514, ⟨#[110, 111, 45, 115, 121, 115, 116, 101, 109]⟩), (513, ⟨#[110, 111, 45, 115, 101, 114, 118, 105, 99, 101]⟩), (272, ⟨#[114, 101, 108, 97, 121]⟩), (261, ⟨#[118, 101, 110, 100, 111, 114]⟩), (260, ⟨#[99, 111, 111, 107, 105, 101]⟩), (259, ⟨#[117, 110, 105, 113, 117, 101]⟩), (258, ⟨#[110, 97, 109, 101]⟩), (257, ⟨#[115, 101, 114, 118, 105, 99, 101]⟩)]
theorem tgtab_seek (t : Nat) : nseek tgtab t = tgname t := by
  by_cases h : t ∈ [257, 258, 259, 260, 261, 272, 513, 514, 515]
  · simp only [List.mem_cons, List.not_mem_nil, or_false] at h
    rcases h with rfl | rfl | rfl | rfl | rfl | rfl | rfl | rfl | rfl <;> rfl
  · simp only [List.mem_cons, List.not_mem_nil, or_false, not_or] at h
    obtain ⟨h1, h2, h3, h4, h5, h6, h7, h8, h9⟩ := h
    simp [nseek, tgtab, tgname, h1, h2, h3, h4, h5, h6, h7, h8, h9, Ne.symm h1, Ne.symm h2, Ne.symm h3, Ne.symm h4, Ne.symm h5, Ne.symm h6, Ne.symm h7, Ne.symm h8, Ne.symm h9]
end

section
set_option maxRecDepth 4000
open Go.RowKit

theorem tgfew_of {l : List (Nat × List Nat)} (h : tgfew l = true) : l.length ≤ 60 ∧ tgdat l ≤ 1000 := by
  unfold tgfew at h
  simpa using h
theorem tgdat_le {l : List (Nat × List Nat)} {x : Nat × List Nat} (hx : x ∈ l) : x.2.length ≤ tgdat l := by
  obtain ⟨k, hk⟩ := List.mem_iff_getElem?.1 hx
  have h1 := tgdat_at hk
  have h2 := tgdat_take l (k + 1)
  omega
theorem tgfew_v (l : List (Nat × List Nat)) (q : Bool) (hq : tgfew l = q) (n c : Nat) (A : Option Addr) (F : Nat → Prop) (w : World) (h : Rws shG F w A l) (hl : l.length = n) (hn : n ≤ 140737488351232) (hd : ∀ x ∈ l, x.2.length ≤ 140737488351232) :
    Calls Try.prog 14 #[.slice A n c] w fun e w' => e = .returned (.bool q) ∧ Below w.heap.size w w' := hq ▸ tgfew_any l n c A F w h hl hn 140737488351232 (Nat.le_refl _) hd
theorem tgof_v (l : List (Nat × List Nat)) (n c : Nat) (A : Option Addr) (w : World) (h : Rws shG (fun _ => True) w A l) (hl : l.length = n) (hn : n ≤ 1073741824) :
    Calls Try.prog 16 #[.slice A n c] w fun e w' => ∃ A' c', e = .returned (.slice A' n c') ∧ Rws shG (fun _ => True) w' A' l ∧ Below w.heap.size w w' :=
  (tgof_any l n c A _ w h (fun _ _ => trivial) hl hn).mono fun _ _ ⟨v, h1, h2, h3⟩ => by
    obtain ⟨A', c', rfl, _, _, hr⟩ := h2.slice
    rw [hl] at h1
    exact ⟨A', c', h1, hr.mono (fun _ _ _ => trivial), h3⟩
theorem tgto_v (l : List (Nat × List Nat)) (n c : Nat) (A : Option Addr) (w : World) (h : Rws shG (fun _ => True) w A l) (hl : l.length = n) (hn : n ≤ 1073741824) :
    Calls Try.prog 12 #[.slice A n c] w fun e w' => ∃ A' c', e = .returned (.slice A' n c') ∧ Rws shG (fun _ => True) w' A' l ∧ Below w.heap.size w w' :=
  (tgto_any l n c A _ w h (fun _ _ => trivial) hl hn).mono fun _ _ ⟨v, h1, h2, h3⟩ => by
    obtain ⟨A', c', rfl, _, _, hr⟩ := h2.slice
    rw [hl] at h1
    exact ⟨A', c', h1, hr.mono (fun _ _ _ => trivial), h3⟩
theorem tgput_v (l : List (Nat × List Nat)) (q : Nat) (hq : tgerr l = q) (m : List Nat) (hm : tgputA l = m) (k : Nat) (hk : m.length = k) (n c : Nat) (A : Option Addr) (F : Nat → Prop) (w : World) (h : Rws shG F w A l) (hl : l.length = n) (hn : n ≤ 137438953472) (hd : tgdat l ≤ 68719476736) (hG : ByG l) :
    Calls Try.prog 31 #[.slice A n c] w fun e w' => ∃ A' c', e = .returned (.tuple #[.slice A' k c', .int .i64 (q : Int)]) ∧ Rd w' w'.heap.size A' m ∧ k ≤ c' ∧ Below w.heap.size w w' :=
  (tgput_any l n c A F w h hl hn hd (fun o ho => (hG o ho).1)).mono fun _ _ ⟨A', c', k', h1, h2⟩ => by
    rw [hq] at h1
    rw [hm] at h2
    obtain rfl : k = k' := by rw [← hk, h2.1]
    exact ⟨A', c', h1, h2.2.2.1, own_cap h2.2.1, h2.2.2.2⟩
theorem tgsame_v (a b : List (Nat × List Nat)) (q : Bool) (hq : decide (a = b) = q) (n m c d : Nat) (A B : Option Addr) (F G : Nat → Prop) (w : World) (ha : Rws shG F w A a) (hb : Rws shG G w B b) (hA : ByG a) (hB : ByG b) (hn : a.length = n) (hm : b.length = m) (hn1 : n ≤ 274877906944) :
    Calls Try.prog 11 #[.slice A n c, .slice B m d] w fun e w' => e = .returned (.bool q) ∧ Below w.heap.size w w' := hq ▸ tgsame_any a b n m c d A B F G w ha hb hA hB hn hm hn1
theorem tgget_byG (b : List Nat) (hb : By b) {l : List (Nat × List Nat)} {q k : Nat} (hg : tgget b = (l, q, k)) : ByG l := by
  by_cases h : k = 0
  · have := (tgput_get b hb (by rw [hg]; exact h)).2.2.1
    rw [hg] at this
    exact this
  · have := (tgget_err b (by rw [hg]; exact h)).1
    rw [hg] at this
    dsimp only at this
    rw [this]
    exact fun _ h => (List.not_mem_nil h).elim
theorem tgputA_ok {l : List (Nat × List Nat)} (h : tgerr l = 0) : tgputA l = tgput l := by unfold tgputA; rw [if_pos h]
theorem tgputA_bad {l : List (Nat × List Nat)} {q : Nat} (h : tgerr l = q) (hq : q ≠ 0) : tgputA l = [] := by unfold tgputA; rw [if_neg (by rw [h]; exact hq)]
theorem tgputA_le (l : List (Nat × List Nat)) (n m : Nat) (hn : l.length ≤ n) (hm : tgdat l ≤ m) : (tgputA l).length ≤ 4 * n + m := by
  unfold tgputA
  split
  · rw [tgput_len]; omega
  · simp
theorem Rws.takeG {F : Nat → Prop} {w : World} {A : Option Addr} {l : List (Nat × List Nat)} (h : Rws shG F w A l) (j : Nat) : Rws shG F w A (l.take j) := fun hl => by
  rw [List.length_take] at hl
  obtain ⟨b, off, h1, h2, h3, h4⟩ := h (by omega)
  refine ⟨b, off, h1, h2, h3, fun k x hx => h4 k x ?_⟩
  rw [List.getElem?_take] at hx
  split at hx
  · exact hx
  · cases hx
end
end Go.Proofs.Ytmhjnghomihjlaa
