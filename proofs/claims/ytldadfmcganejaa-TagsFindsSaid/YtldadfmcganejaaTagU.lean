
/-
  What the program's Put of tags answers. No condition beyond: lists of at most 2^37 tags, data of at most 2^36 octets.
-/
import Derived.Test.YtldadfmcganejaaTagP
import Derived.Test.YtldadfmcganejaaTagR
import Derived.Deep.RegionHeld3
namespace Go.Proofs.Ytldadfmcganejaa
set_option maxRecDepth 4000
open Go.RowKit

/-- A tag's block, just made, in every later world. -/
theorem tag_blk {w w' : World} {T : TypeId} {t n c : Nat} {A : Option Addr} (hb : Below (w.alloc (.cells #[.int .u16 (t : Int), .slice A n c] T)).heap.size (w.alloc (.cells #[.int .u16 (t : Int), .slice A n c] T)) w') :
    w'.cell? ⟨w.heap.size, 0, none⟩ = some (.int .u16 (t : Int)) ∧ w'.cell? ⟨w.heap.size, 1, none⟩ = some (.slice A n c) := by
  have hv : w'.heap[w.heap.size]? = some (.cells #[.int .u16 (t : Int), .slice A n c] T (0, 0)) := (hb.block _ (by simp)).trans (heap_alloc_new _ _)
  exact ⟨by rw [cell_of_row w' _ 0 _ _ _ hv]; rfl, by rw [cell_of_row w' _ 1 _ _ _ hv]; rfl⟩
theorem tgone_next {l : List (Nat × List Nat)} {k : Nat} {o : Nat × List Nat} (h : tgerr (l.take k) = 0) (hk : l[k]? = some o) : tgerr (l.take (k + 1)) = tgone o.1 o.2.length := tgerr_next h hk

theorem tgerr_mem {l : List (Nat × List Nat)} (h : tgerr l = 0) {x : Nat × List Nat} (hx : x ∈ l) : x.1 ≠ 0 ∧ x.2.length ≤ 65535 := by
  induction l with
  | nil => cases hx
  | cons o l ih =>
    obtain ⟨h0, h1, h2⟩ := tgerr_cons.1 h
    rcases List.mem_cons.1 hx with rfl | hx
    · exact ⟨h0, h1⟩
    · exact ih h2 hx

/-- What a round of the program's Put knows: its own row, and the tag's own block. -/
structure PG (w W : World) (q : Nat) (T : TypeId) (t n : Nat) (A : Option Addr) (c : Nat) (v : Value) (m : Nat) (xs : List Nat) : Prop where
  bel : Below w.heap.size w W
  own : W.ownsRow w.heap.size 5 1 v m (bvs xs)
  blk : W.heap[q]? = some (.cells #[.int .u16 (t : Int), .slice A n c] T (0, 0))
section
variable {w W X W' : World} {q : Nat} {T : TypeId} {t n : Nat} {A : Option Addr} {c : Nat} {v v' : Value} {m m' : Nat} {xs xs' : List Nat}
theorem PG.cells (h : PG w W q T t n A c v m xs) : W.cell? ⟨q, 0, none⟩ = some (.int .u16 (t : Int)) ∧ W.cell? ⟨q, 1, none⟩ = some (.slice A n c) := by
  constructor
  · rw [cell_of_row W q 0 _ _ _ h.blk]; rfl
  · rw [cell_of_row W q 1 _ _ _ h.blk]; rfl
theorem PG.step (h : PG w W q T t n A c v m xs) (hb : Below X.heap.size X W') (hX : Below W.heap.size W X := by first | exact Below.refl _ _ | exact (Below.refl _ _).drew) : PG w W' q T t n A c v m xs := by
  have hb' : Below W.heap.size W W' := hX.trans (hb.mono hX.size)
  exact ⟨h.bel.trans (hb'.mono h.bel.size), own_below h.own hb', (hb'.block _ (Array.getElem?_eq_some_iff.1 h.blk).1).trans h.blk⟩
theorem PG.drew (h : PG w W q T t n A c v m xs) : PG w W.drew q T t n A c v m xs := h.step (X := W) (Below.refl _ _).drew
theorem PG.al (h : PG w W q T t n A c v m xs) (o : Obj) : PG w (W.alloc o) q T t n A c v m xs := h.step (X := W) ((Below.refl _ _).alloc (Nat.le_refl _) o)
theorem PG.app (h : PG w W q T t n A c v m xs) (hT : T ≠ 5) (ho : W'.ownsRow w.heap.size 5 1 v' m' (bvs xs')) (hg : W.grownBy W' v.ownBlock) : PG w W' q T t n A c v' m' xs' := by
  refine ⟨h.bel.grown hg h.bel.size (fun k hk => (h.own.lt k hk).1), ho, (hg.block q (Array.getElem?_eq_some_iff.1 h.blk).1 fun e => ?_).trans h.blk⟩
  obtain ⟨cur, hc⟩ := own_blk h.own (g := q) e.symm
  rw [h.blk] at hc
  injection hc with hc
  injection hc with _ hc
  exact hT hc
end

set_option maxHeartbeats 8000000 in
theorem tgput_any (l : List (Nat × List Nat)) (n c : Nat) (A : Option Addr) (F : Nat → Prop) (w : World) (h : Rws shG F w A l) (hl : l.length = n) (hn : n ≤ 137438953472) (hd : tgdat l ≤ 68719476736) (hty : ∀ o ∈ l, o.1 < 65536) :
    Calls Try.prog 9 #[.slice A n c] w fun e w' => ∃ A' c' k, e = .returned (.tuple #[.slice A' k c', .int .i64 ((tgerr l : Nat) : Int)]) ∧ New w w' A' c' k (tgputA l) := by
  obtain ⟨i0, hi, hz0, hz1, hz2⟩ := info_parts byte_info
  have HL := Lib.hid hl
  have HD := Lib.hid (tgdat_take l)
  have HY := Lib.hid hty
  clear hl hty
  go_enter Try.func9, Try.ntmps9
  go_wp2_with fail
  go_loopw [4, 14] (fun s i wr => ∃ k q : Nat, k ≤ n ∧ i = .int .i64 k ∧ s = .int .i64 q ∧ Hid (tgerr (l.take k) = 0) ∧ Hid (4 * k + tgdat (l.take k) = q) ∧ Below w.heap.size w wr) (fun _ i _ => n - (intOf i).toNat)
  case atStart => exact ⟨0, 0, Nat.zero_le _, rfl, rfl, Lib.hid rfl, Lib.hid rfl, Below.refl _ _⟩
  case round =>
    obtain ⟨k, q, hk, rfl, rfl, hlg, hq, hbel⟩ := hrel
    have hq1 : q ≤ 618475290624 := by have := HD.out k; have := hq.out; omega
    by_cases hlt : k < n
    · obtain ⟨b, o, x, A3, c3, rfl, hb3, hx, h3, h4, h5, h6⟩ := (h.below hbel).tag (k := k) (by rw [HL.out]; exact hlt)
      have HX := Lib.hid hx
      have hxl : x.2.length ≤ 68719476736 := by
        have e := tgdat_at hx
        have := tgdat_take l (k + 1)
        omega
      have HQ := Lib.hid (show 4 * (k + 1) + tgdat (l.take (k + 1)) = q + (4 + x.2.length) by rw [tgdat_at hx, ← hq.out]; omega)
      have hq2 : q + (4 + x.2.length) ≤ 618475290624 + 68719476740 := by omega
      obtain ⟨e, he⟩ : ∃ e, Hid (tgone x.1 x.2.length = e) := ⟨_, Lib.hid rfl⟩
      have HE := Lib.hid ((tgone_next hlg.out HX.out).trans he.out)
      have i1 : (0 : Int) ≤ k := by omega
      have i2 : (k : Int) < n := by omega
      clear hx h6
      by_cases he0 : e = 0
      · subst he0
        go_wp2_with (go_at_call 20; (with_reducible refine (tgchk_any x.1 x.2.length c3 A3 _ _ he.out).mono ?_); rintro e w5 ⟨rfl, hb5⟩; obtain ⟨f0, f1⟩ := tag_blk hb5; have R2 := hbel.trans (((Below.refl _ _).alloc (Nat.le_refl _) _).trans (hb5.mono (by simp)) |>.mono hbel.size))
        go_roundw
        case rel => exact ⟨k + 1, q + (4 + x.2.length), by omega, by go_num, by go_num, HE, HQ, R2⟩
        case measure => simp [intOf]; omega
      · have HQ2 := tgerr_at (l := l) (k + 1) (by rw [HE.out]; exact he0)
        have EP := Lib.hid (show tgerr l = e by rw [HQ2, HE.out])
        have EA := Lib.hid (show tgputA l = [] by unfold tgputA; rw [EP.out, if_neg he0])
        have j0 : ((e : Int) != 0) = true := by rw [bne_iff_ne]; omega
        clear HQ2 HE HQ hq2
        go_wp2_with (go_at_call 20; (with_reducible refine (tgchk_any x.1 x.2.length c3 A3 _ _ he.out).mono ?_); rintro e w5 ⟨rfl, hb5⟩; obtain ⟨f0, f1⟩ := tag_blk hb5; have R2 := hbel.trans (((Below.refl _ _).alloc (Nat.le_refl _) _).trans (hb5.mono (by simp)) |>.mono hbel.size))
        go_ret2
        rw [EP.out, EA.out]
        exact ⟨none, 0, 0, rfl, rfl, World.ownsRow_nil _ _ _ _, Rd.nil, R2⟩
    · have he : k = n := by omega
      subst he
      have hlg2 := hlg.out
      rw [List.take_of_length_le (by rw [HL.out]; exact Nat.le_refl _)] at hlg2
      have EP := Lib.hid hlg2
      have EA := Lib.hid (show tgputA l = tgput l by unfold tgputA; rw [hlg2]; rfl)
      have HLG := Lib.hid (show ∀ j x, l[j]? = some x → x.1 ≠ 0 ∧ x.2.length ≤ 65535 from fun j x hx => tgerr_mem hlg2 (List.mem_of_getElem? hx))
      have HB3 := Lib.hid hbel
      clear hlg2 hlg hq hbel
      obtain ⟨w4, hmk, hown4, hg4⟩ := run_make_own (P := Try.prog) wr w.heap.size 23 5 i0 (.int .u8 0) 1 Try.underlying23 hi hz0 hz1 .i64 .i64 q (by rw [hz2]; omega) (by unfold maxLen; omega) HB3.out.size
      have hbel4 := HB3.out.grown hg4 HB3.out.size (fun k hk => by cases hk)
      go_wp2_with fail
      clear hg4 hmk
      go_loopw [8, 34] (fun v i wr => ∃ j m : Nat, j ≤ k ∧ i = .int .i64 j ∧ wr.ownsRow w.heap.size 5 1 v m (bvs (tgput (l.take j))) ∧ Below w.heap.size w wr) (fun _ i _ => k - (intOf i).toNat)
      case atStart => exact ⟨0, 0, Nat.zero_le _, rfl, hown4, hbel4⟩
      case round =>
        clear hown4 hbel4
        obtain ⟨j, m, hj, rfl, hown, hbel⟩ := hrel
        have hm1 := hown.1
        rw [bvs_len, tgput_len] at hm1
        have hm2 : m ≤ 618475290624 := by have := HD.out j; have := List.length_take (i := j) (l := l); omega
        by_cases hlt2 : j < k
        · obtain ⟨b, o, x, A3, c3, rfl, hb3, hx, h3, h4, h5, h6⟩ := h.tag (k := j) (by rw [HL.out]; exact hlt2)
          replace h3 := (hbel.cell (p := ⟨b, o + j * 2, none⟩) hb3).trans h3
          replace h4 := (hbel.cell (p := ⟨b, o + j * 2 + 1, none⟩) hb3).trans h4
          obtain ⟨hx0, hxl⟩ := HLG.out _ _ hx
          have hx16 := HY.out x (List.mem_of_getElem? hx)
          have H6 := Lib.hid h6.rd
          obtain ⟨z1, hz1'⟩ : ∃ z, Hid (x.1 / 256 = z) := ⟨_, Lib.hid rfl⟩
          obtain ⟨z2, hz2'⟩ : ∃ z, Hid (x.1 % 256 = z) := ⟨_, Lib.hid rfl⟩
          obtain ⟨z3, hz3'⟩ : ∃ z, Hid (x.2.length / 256 = z) := ⟨_, Lib.hid rfl⟩
          obtain ⟨z4, hz4'⟩ : ∃ z, Hid (x.2.length % 256 = z) := ⟨_, Lib.hid rfl⟩
          have y1 : z1 < 256 := by have := hz1'.out; omega
          have y2 : z2 < 256 := by have := hz2'.out; omega
          have y3 : z3 < 256 := by have := hz3'.out; omega
          have y4 : z4 < 256 := by have := hz4'.out; omega
          have HE := Lib.hid (show tgput (l.take (j + 1)) = tgput (l.take j) ++ [z1, z2, z3, z4] ++ x.2 by rw [tgput_at hx, ← hz1'.out, ← hz2'.out, ← hz3'.out, ← hz4'.out]; simp [tgenc])
          have C := Lib.hid (show PG w (wr.alloc (.cells #[.int .u16 (x.1 : Int), .slice A3 x.2.length c3] 50)) wr.heap.size 50 x.1 x.2.length A3 c3 _ m (tgput (l.take j)) from ⟨hbel.alloc hbel.size _, own_below hown ((Below.refl _ _).alloc (Nat.le_refl _) _), heap_alloc_new _ _⟩)
          have HLT := Lib.hid (show Rd ((wr.alloc (.cells #[.int .u16 (x.1 : Int), .slice A3 x.2.length c3] 50)).alloc (.cells #[.int .u8 (z1 : Int), .int .u8 (z2 : Int), .int .u8 (z3 : Int), .int .u8 (z4 : Int)] 5)) ((wr.alloc (.cells #[.int .u16 (x.1 : Int), .slice A3 x.2.length c3] 50)).alloc (.cells #[.int .u8 (z1 : Int), .int .u8 (z2 : Int), .int .u8 (z3 : Int), .int .u8 (z4 : Int)] 5)).heap.size (some ⟨wr.heap.size + 1, 0, none⟩) [z1, z2, z3, z4] by
            have h7 := Rd.lit_ (wr.alloc (.cells #[.int .u16 (x.1 : Int), .slice A3 x.2.length c3] 50)) [z1, z2, z3, z4]
            rw [show (wr.alloc (.cells #[.int .u16 (x.1 : Int), .slice A3 x.2.length c3] 50)).heap.size = wr.heap.size + 1 from World.size_alloc ..] at h7
            exact h7)
          have i1 : (0 : Int) ≤ j := by omega
          have i2 : (j : Int) < k := by omega
          have e1 : (x.1 : Int) / 256 = (z1 : Int) := by have := hz1'.out; omega
          have e2 : IntKind.u8.wrap (x.1 : Int) = (z2 : Int) := by rw [IntKind.wrap_u8]; have := hz2'.out; omega
          have e3 : (x.2.length : Int) / 256 = (z3 : Int) := by have := hz3'.out; omega
          have e4 : IntKind.u8.wrap (x.2.length : Int) = (z4 : Int) := by rw [IntKind.wrap_u8]; have := hz4'.out; omega
          have a1 : IntKind.u8.wrap (z1 : Int) = (z1 : Int) := by apply IntWalk.u8_in; omega
          have a3 : IntKind.u8.wrap (z3 : Int) = (z3 : Int) := by apply IntWalk.u8_in; omega
          clear h6 hx hown hm1 hx0 hx16 hbel
          go_wp2_with (first
            | (at_builtin; refine list_app rfl _ _ _ rfl _ i0 Try.underlying23 hi hz0 hz1 hz2 _ _ m (tgput (l.take j)) rfl (C.out.al _).own _ _ 4 _ [z1, z2, z3, z4] rfl HLT.out rfl (by omega) (C.out.al _).bel.size ?_; intro A6 c6 w6 ho6 hg6; replace C := Lib.hid ((C.out.al _).app (by decide) ho6 hg6); clear ho6 hg6; obtain ⟨f0, f1⟩ := C.out.cells)
            | (at_builtin; refine list_app rfl _ _ _ rfl _ i0 Try.underlying23 hi hz0 hz1 hz2 _ _ (m + 4) _ rfl C.out.own w.heap.size _ x.2.length _ x.2 rfl (H6.out.below C.out.bel) rfl (by omega) C.out.bel.size ?_; intro A7 c7 w7 ho7 hg7; have R2 := C.out.bel.grown hg7 C.out.bel.size (fun g hg => (C.out.own.lt g hg).1)))
          rw [← HE.out] at ho7
          go_roundw
          case rel => exact ⟨j + 1, _, by omega, by go_num, ho7, R2⟩
          case measure => simp [intOf]; omega
        · have he : j = k := by omega
          subst he
          rw [List.take_of_length_le (by rw [HL.out]; exact Nat.le_refl _)] at hown
          go_wp2_with fail
          go_ret2
          rw [EP.out, EA.out]
          obtain ⟨A', c', rfl, hN⟩ := New.mk hown hbel
          exact ⟨A', c', m, rfl, hN⟩
end Go.Proofs.Ytldadfmcganejaa
