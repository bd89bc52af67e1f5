
/-
  What Put answers, the program's and the document's. No condition beyond: lists of at most 2^38 options, with at most 2^36 octets.
-/
import Derived.Test.YtdnnincdbenjfaaTlvQ
import Derived.Test.YtdnnincdbenjfaaAppn
import Derived.Deep.RegionHeld3
namespace Go.Proofs.Ytdnnincdbenjfaa
open Go.RowKit

/-- The octets that Put answers. -/
def putA (l : List (Nat × List Nat)) : List Nat := if longB l = true then [] else putB l
/-- The error's number that Put answers. -/
def errP (l : List (Nat × List Nat)) : Nat := if longB l = true then 3 else 0

/-- What a round of Put knows: its own row, and the option's own block. -/
structure PC (w W : World) (q : Nat) (T : TypeId) (t n : Nat) (A : Option Addr) (c : Nat) (v : Value) (m : Nat) (xs : List Nat) : Prop where
  bel : Below w.heap.size w W
  own : W.ownsRow w.heap.size 5 1 v m (bvs xs)
  blk : W.heap[q]? = some (.cells #[.int .u8 (t : Int), .slice A n c] T (0, 0))
section
variable {w W X W' : World} {q : Nat} {T : TypeId} {t n : Nat} {A : Option Addr} {c : Nat} {v v' : Value} {m m' : Nat} {xs xs' : List Nat}
theorem PC.cells (h : PC w W q T t n A c v m xs) : W.cell? ⟨q, 0, none⟩ = some (.int .u8 (t : Int)) ∧ W.cell? ⟨q, 1, none⟩ = some (.slice A n c) := by
  constructor
  · rw [cell_of_row W q 0 _ _ _ h.blk]; rfl
  · rw [cell_of_row W q 1 _ _ _ h.blk]; rfl
theorem PC.step (h : PC w W q T t n A c v m xs) (hb : Below X.heap.size X W') (hX : Below W.heap.size W X := by first | exact Below.refl _ _ | exact (Below.refl _ _).drew) : PC w W' q T t n A c v m xs := by
  have hb' : Below W.heap.size W W' := hX.trans (hb.mono hX.size)
  exact ⟨h.bel.trans (hb'.mono h.bel.size), own_below h.own hb', (hb'.block _ (Array.getElem?_eq_some_iff.1 h.blk).1).trans h.blk⟩
theorem PC.al (h : PC w W q T t n A c v m xs) (o : Obj) : PC w (W.alloc o) q T t n A c v m xs := h.step (X := W) ((Below.refl _ _).alloc (Nat.le_refl _) o)
theorem PC.app (h : PC w W q T t n A c v m xs) (hT : T ≠ 5) (ho : W'.ownsRow w.heap.size 5 1 v' m' (bvs xs')) (hg : W.grownBy W' v.ownBlock) : PC w W' q T t n A c v' m' xs' := by
  refine ⟨h.bel.grown hg h.bel.size (fun k hk => (h.own.lt k hk).1), ho, (hg.block q (Array.getElem?_eq_some_iff.1 h.blk).1 fun e => ?_).trans h.blk⟩
  obtain ⟨cur, hc⟩ := own_blk h.own (g := q) e.symm
  rw [h.blk] at hc
  injection hc with hc
  injection hc with _ hc
  exact hT hc
end
theorem bv_two {x y : Nat} : bvs [x, y] = [.int .u8 (x : Int), .int .u8 (y : Int)] := rfl

set_option maxHeartbeats 2000000 in
theorem oput_any (l : List (Nat × List Nat)) (n c : Nat) (A : Option Addr) (F : Nat → Prop) (w : World) (h : Rws shO F w A l) (hl : l.length = n) (hn : n ≤ 274877906944) (hd : datB l ≤ 68719476736) :
    Calls Try.prog 43 #[.slice A n c] w fun e w' => ∃ A' c' k, e = .returned (.tuple #[.slice A' k c', .int .i64 ((errP l : Nat) : Int)]) ∧ New w w' A' c' k (putA l) := by
  obtain ⟨i0, hi, hz0, hz1, hz2⟩ := info_parts byte_info
  have HL := Lib.hid hl
  have HD := Lib.hid (dat_take l)
  obtain ⟨z, hz⟩ : ∃ z, Hid (2 * n + datB l = z) := ⟨_, Lib.hid rfl⟩
  have hz9 : z ≤ 1099511627776 := by have := hz.out; omega
  cases hlg : longB l
  · have EP := Lib.hid (show errP l = 0 by unfold errP; rw [hlg]; rfl)
    have EA := Lib.hid (show putA l = putB l by unfold putA; rw [hlg]; rfl)
    have HLG := Lib.hid hlg
    rw [EP.out, EA.out]
    clear hl hlg EP EA
    go_enter Try.func43, Try.ntmps43
    go_wp2_with (first
      | (go_at_call 41; (with_reducible refine (ocont_any l n c A F _ h HL.out hn).mono ?_); rintro e w2 ⟨rfl, hb2⟩; rw [HLG.out]; have HB2 := Lib.hid hb2; clear hb2)
      | (go_at_call 54; (with_reducible refine (osz_any l n c A F _ (h.below HB2.out) HL.out hn (by omega)).mono ?_); rintro e w3 ⟨rfl, hb3⟩; rw [hz.out]; have HB3 := Lib.hid (HB2.out.trans (hb3.mono HB2.out.size)); clear hb3; obtain ⟨w4, hmk, hown4, hg4⟩ := run_make_own (P := Try.prog) w3 w.heap.size 25 5 i0 (.int .u8 0) 1 Try.underlying25 hi hz0 hz1 .i64 .i64 z (by rw [hz2]; omega) (by unfold maxLen; omega) HB3.out.size))
    have hbel4 := HB3.out.grown hg4 HB3.out.size (fun k hk => by cases hk)
    clear hg4 hmk
    go_loopw [4, 14] (fun v i wr => ∃ k m : Nat, k ≤ n ∧ i = .int .i64 k ∧ wr.ownsRow w.heap.size 5 1 v m (bvs (putB (l.take k))) ∧ Below w.heap.size w wr) (fun _ i _ => n - (intOf i).toNat)
    case atStart => exact ⟨0, 0, Nat.zero_le _, rfl, hown4, hbel4⟩
    case round =>
      clear hown4 hbel4
      obtain ⟨k, m, hk, rfl, hown, hbel⟩ := hrel
      have hm1 := hown.1
      rw [bvs_len, put_len] at hm1
      have hm2 : m ≤ 618475290624 := by have := HD.out k; have := List.length_take (i := k) (l := l); omega
      by_cases hlt : k < n
      · obtain ⟨b, o, x, A3, c3, rfl, hb3, hx, h3, h4, h5, h6⟩ := h.opt (k := k) (by rw [HL.out]; exact hlt)
        replace h3 := (hbel.cell (p := ⟨b, o + k * 2, none⟩) hb3).trans h3
        replace h4 := (hbel.cell (p := ⟨b, o + k * 2 + 1, none⟩) hb3).trans h4
        have hx253 := long_at HLG.out hx
        have H6 := Lib.hid h6.rd
        obtain ⟨y, hy⟩ : ∃ y, Hid (2 + x.2.length = y) := ⟨_, Lib.hid rfl⟩
        have hy2 : y ≤ 255 := by have := hy.out; omega
        have HE := Lib.hid (show putB (l.take (k + 1)) = putB (l.take k) ++ [x.1, y] ++ x.2 by rw [put_at hx, ← hy.out]; simp [encB])
        have C := Lib.hid (show PC w (wr.alloc (.cells #[.int .u8 (x.1 : Int), .slice A3 x.2.length c3] 57)) wr.heap.size 57 x.1 x.2.length A3 c3 _ m (putB (l.take k)) from ⟨hbel.alloc hbel.size _, own_below hown ((Below.refl _ _).alloc (Nat.le_refl _) _), heap_alloc_new _ _⟩)
        have HLT := Lib.hid (show ∀ wk : World, Rd (wk.alloc (.cells #[.int .u8 (x.1 : Int), .int .u8 (y : Int)] 5)) (wk.alloc (.cells #[.int .u8 (x.1 : Int), .int .u8 (y : Int)] 5)).heap.size (some ⟨wk.heap.size, 0, none⟩) [x.1, y] from fun wk => Rd.lit_ wk [x.1, y])
        have i1 : (0 : Int) ≤ k := by omega
        have i2 : (k : Int) < n := by omega
        have i4 : IntKind.u8.wrap (y : Int) = (y : Int) := by apply IntWalk.u8_in; omega
        clear h6 hx hown hm1
        go_wp2_with fail
        go_region_held3 (fun W => W.cell? ⟨wr.heap.size, 0, none⟩ = some (.int .u8 (x.1 : Int)) ∧ W.cell? ⟨wr.heap.size, 1, none⟩ = some (.slice A3 x.2.length c3)) (first | exact C.out.cells | exact (C.out.al _).cells) (first
          | (go_at_call 55; (with_reducible refine (osize_any x.1 x.2.length c3 A3 _ (by omega)).mono ?_); rintro e w5 ⟨rfl, hb5⟩; rw [hy.out]; replace C := Lib.hid (C.out.step hb5); clear hb5; dsimp only)
          | ((refine step_app _ (by rfl) _ _ _ (by rfl) _ i0 Try.underlying25 hi hz0 hz1 hz2 w.heap.size _ m (putB (l.take k)) (by rfl) (C.out.al _).own _ _ 2 _ [x.1, y] (by rfl) (HLT.out _) rfl (by omega) (C.out.al _).bel.size ?_); intro A6 c6 w6 ho6 hg6; replace C := Lib.hid ((C.out.al _).app (by decide) ho6 hg6); clear ho6 hg6; dsimp only))
        obtain ⟨f0, f1⟩ := C.out.cells
        go_wp2_with (at_builtin; refine list_app rfl _ _ _ rfl _ i0 Try.underlying25 hi hz0 hz1 hz2 _ _ (m + 2) _ rfl C.out.own w.heap.size _ x.2.length _ x.2 rfl (H6.out.below C.out.bel) rfl (by omega) C.out.bel.size ?_; intro A7 c7 w7 ho7 hg7; have R2 := C.out.bel.grown hg7 C.out.bel.size (fun g hg => (C.out.own.lt g hg).1))
        rw [← HE.out] at ho7
        go_roundw
        case rel => exact ⟨k + 1, _, by omega, by go_num, ho7, R2⟩
        case measure => simp [intOf]; omega
      · have he : k = n := by omega
        subst he
        rw [List.take_of_length_le (by rw [HL.out]; exact Nat.le_refl _)] at hown
        go_wp2_with fail
        go_ret2
        obtain ⟨A', c', rfl, hN⟩ := New.mk hown hbel
        exact ⟨A', c', m, rfl, hN⟩
  · have EP := Lib.hid (show errP l = 3 by unfold errP; rw [hlg]; rfl)
    have EA := Lib.hid (show putA l = [] by unfold putA; rw [hlg]; rfl)
    have HLG := Lib.hid hlg
    rw [EP.out, EA.out]
    clear hl hlg EP EA
    go_enter Try.func43, Try.ntmps43
    go_wp2_with (go_at_call 41; (with_reducible refine (ocont_any l n c A F _ h HL.out hn).mono ?_); rintro e w2 ⟨rfl, hb2⟩; rw [HLG.out])
    go_ret2
    exact ⟨none, 0, 0, rfl, rfl, World.ownsRow_nil _ _ _ _, Rd.nil, hb2⟩

/-- What a round of the document's Put knows: its own row, the cells of the option at hand. -/
structure RC (w W : World) (a0 a1 : Addr) (t n : Nat) (A : Option Addr) (c : Nat) (v : Value) (m : Nat) (xs : List Nat) : Prop where
  bel : Below w.heap.size w W
  own : W.ownsRow w.heap.size 5 1 v m (bvs xs)
  lt0 : a0.block < w.heap.size
  lt1 : a1.block < w.heap.size
  f0 : w.cell? a0 = some (.int .u8 (t : Int))
  f1 : w.cell? a1 = some (.slice A n c)
section
variable {w W X W' : World} {a0 a1 : Addr} {t n : Nat} {A : Option Addr} {c : Nat} {v v' : Value} {m m' : Nat} {xs xs' : List Nat}
theorem RC.cells (h : RC w W a0 a1 t n A c v m xs) : W.cell? a0 = some (.int .u8 (t : Int)) ∧ W.cell? a1 = some (.slice A n c) := ⟨(h.bel.cell h.lt0).trans h.f0, (h.bel.cell h.lt1).trans h.f1⟩
theorem RC.step (h : RC w W a0 a1 t n A c v m xs) (hb : Below X.heap.size X W') (hX : Below W.heap.size W X := by first | exact Below.refl _ _ | exact (Below.refl _ _).drew) : RC w W' a0 a1 t n A c v m xs := by
  have hb' : Below W.heap.size W W' := hX.trans (hb.mono hX.size)
  exact ⟨h.bel.trans (hb'.mono h.bel.size), own_below h.own hb', h.lt0, h.lt1, h.f0, h.f1⟩
theorem RC.drew (h : RC w W a0 a1 t n A c v m xs) : RC w W.drew a0 a1 t n A c v m xs := h.step (X := W) (Below.refl _ _).drew
theorem RC.al (h : RC w W a0 a1 t n A c v m xs) (o : Obj) : RC w (W.alloc o) a0 a1 t n A c v m xs := h.step (X := W) ((Below.refl _ _).alloc (Nat.le_refl _) o)
theorem RC.app (h : RC w W a0 a1 t n A c v m xs) (ho : W'.ownsRow w.heap.size 5 1 v' m' (bvs xs')) (hg : W.grownBy W' v.ownBlock) : RC w W' a0 a1 t n A c v' m' xs' :=
  ⟨h.bel.grown hg h.bel.size (fun k hk => (h.own.lt k hk).1), ho, h.lt0, h.lt1, h.f0, h.f1⟩
end

set_option maxHeartbeats 2000000 in
theorem orput_any (l : List (Nat × List Nat)) (n c : Nat) (A : Option Addr) (F : Nat → Prop) (w : World) (h : Rws shO F w A l) (hl : l.length = n) (hn : n ≤ 274877906944) (hd : datB l ≤ 68719476736) :
    Calls Try.prog 44 #[.slice A n c] w fun e w' => ∃ A' c' k, e = .returned (.tuple #[.slice A' k c', .int .i64 ((errP l : Nat) : Int)]) ∧ New w w' A' c' k (putA l) := by
  obtain ⟨i0, hi, hz0, hz1, hz2⟩ := info_parts byte_info
  have HL := Lib.hid hl
  have HD := Lib.hid (dat_take l)
  clear hl
  go_enter Try.func44, Try.ntmps44
  go_wp2_with fail
  go_loopw [4, 5] (fun v i wr => ∃ k m : Nat, k ≤ n ∧ i = .int .i64 k ∧ Hid (longB (l.take k) = false) ∧ wr.ownsRow w.heap.size 5 1 v m (bvs (putB (l.take k))) ∧ Below w.heap.size w wr) (fun _ i _ => n - (intOf i).toNat)
  case atStart => exact ⟨0, 0, Nat.zero_le _, rfl, Lib.hid rfl, World.ownsRow_lit w #[] 0 (Nat.le_refl _) (by unfold maxLen; omega) rfl, (Below.refl _ _).alloc (Nat.le_refl _) _⟩
  case round =>
    obtain ⟨k, m, hk, rfl, hlg, hown, hbel⟩ := hrel
    have hm1 := hown.1
    rw [bvs_len, put_len] at hm1
    have hm2 : m ≤ 618475290624 := by have := HD.out k; have := List.length_take (i := k) (l := l); omega
    by_cases hlt : k < n
    · obtain ⟨b, o, x, A3, c3, rfl, hb3, hx, h3, h4, h5, h6⟩ := h.opt (k := k) (by rw [HL.out]; exact hlt)
      have C := Lib.hid (show RC w wr ⟨b, o + k * 2, none⟩ ⟨b, o + k * 2 + 1, none⟩ x.1 x.2.length A3 c3 _ m (putB (l.take k)) from ⟨hbel, hown, hb3, hb3, h3, h4⟩)
      have H6 := Lib.hid h6.rd
      have HX := Lib.hid hx
      have i1 : (0 : Int) ≤ k := by omega
      have i2 : (k : Int) < n := by omega
      clear h3 h4 hx h6 hm1
      obtain ⟨f0, f1⟩ := C.out.cells
      by_cases hxl : x.2.length ≤ 253
      · obtain ⟨y, hy⟩ : ∃ y, Hid (2 + x.2.length = y) := ⟨_, Lib.hid rfl⟩
        have hy2 : y ≤ 255 := by have := hy.out; omega
        have R := Lib.hid (show longB (l.take (k + 1)) = false by rw [long_take HX.out, hlg.out]; simp; exact hxl)
        have HE := Lib.hid (show putB (l.take (k + 1)) = putB (l.take k) ++ [x.1, y] ++ x.2 by rw [put_at HX.out, ← hy.out]; simp [encB])
        have HLT := Lib.hid (show ∀ wk : World, Rd (wk.alloc (.cells #[.int .u8 (x.1 : Int), .int .u8 (y : Int)] 5)) (wk.alloc (.cells #[.int .u8 (x.1 : Int), .int .u8 (y : Int)] 5)).heap.size (some ⟨wk.heap.size, 0, none⟩) [x.1, y] from fun wk => Rd.lit_ wk [x.1, y])
        have i3 : ¬ (253 : Int) < (x.2.length : Int) := by omega
        have i5 : (2 : Int) + (x.2.length : Int) = (y : Int) := by have := hy.out; omega
        have i6 : IntKind.i64.wrap (y : Int) = (y : Int) := IntWalk.i64_in _ (by omega)
        have i4 : IntKind.u8.wrap (y : Int) = (y : Int) := by apply IntWalk.u8_in; omega
        clear hown hbel
        go_wp2_with fail
        go_region_held3 (fun W => W.cell? ⟨b, o + k * 2, none⟩ = some (.int .u8 (x.1 : Int)) ∧ W.cell? ⟨b, o + k * 2 + 1, none⟩ = some (.slice A3 x.2.length c3)) (first | exact C.out.cells | exact (C.out.drew.al _).cells) (first
          | ((refine step_app _ (by rfl) _ _ _ (by rfl) _ i0 Try.underlying25 hi hz0 hz1 hz2 w.heap.size _ m (putB (l.take k)) (by rfl) (C.out.drew.al _).own _ _ 2 _ [x.1, y] (by rfl) (HLT.out _) rfl (by omega) (C.out.drew.al _).bel.size ?_); intro A6 c6 w6 ho6 hg6; replace C := Lib.hid ((C.out.drew.al _).app ho6 hg6); clear ho6 hg6; dsimp only))
        clear f0 f1
        obtain ⟨f0, f1⟩ := C.out.cells
        go_wp2_with (at_builtin; refine list_app rfl _ _ _ rfl _ i0 Try.underlying25 hi hz0 hz1 hz2 _ _ (m + 2) _ rfl C.out.own w.heap.size _ x.2.length _ x.2 rfl (H6.out.below C.out.bel) rfl (by omega) C.out.bel.size ?_; intro A7 c7 w7 ho7 hg7; have R2 := C.out.bel.grown hg7 C.out.bel.size (fun g hg => (C.out.own.lt g hg).1))
        rw [← HE.out] at ho7
        go_roundw
        case rel => exact ⟨k + 1, _, by omega, by go_num, R, ho7, R2⟩
        case measure => simp [intOf]; omega
      · have i3 : (253 : Int) < (x.2.length : Int) := by omega
        have hlong := long_of HX.out (decide_eq_true (show 253 < x.2.length by omega))
        have EP := Lib.hid (show errP l = 3 by unfold errP; rw [hlong]; rfl)
        have EA := Lib.hid (show putA l = [] by unfold putA; rw [hlong]; rfl)
        clear hown hlong
        go_wp2_with fail
        go_ret2
        rw [EP.out, EA.out]
        exact ⟨none, 0, 0, rfl, rfl, World.ownsRow_nil _ _ _ _, Rd.nil, hbel⟩
    · have he : k = n := by omega
      subst he
      have hlg2 := hlg.out
      rw [List.take_of_length_le (by rw [HL.out]; exact Nat.le_refl _)] at hown hlg2
      have EP := Lib.hid (show errP l = 0 by unfold errP; rw [hlg2]; rfl)
      have EA := Lib.hid (show putA l = putB l by unfold putA; rw [hlg2]; rfl)
      clear hlg2
      go_wp2_with fail
      go_ret2
      rw [EP.out, EA.out]
      obtain ⟨A', c', rfl, hN⟩ := New.mk hown hbel
      exact ⟨A', c', m, rfl, hN⟩
end Go.Proofs.Ytdnnincdbenjfaa
