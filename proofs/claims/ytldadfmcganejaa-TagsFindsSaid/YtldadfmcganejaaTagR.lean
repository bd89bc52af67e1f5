
/-
  What the document's Put of tags answers. No condition beyond: lists of at most 2^37 tags, data of at most 2^36 octets.
-/
import Derived.Test.YtldadfmcganejaaTagI
import Derived.Test.YtldadfmcganejaaAppn
namespace Go.Proofs.Ytldadfmcganejaa
set_option maxRecDepth 4000
open Go.RowKit

/-- What is written, if it can be. -/
def tgputA (l : List (Nat × List Nat)) : List Nat := if tgerr l = 0 then tgput l else []
theorem tgerr_next {l : List (Nat × List Nat)} {k : Nat} {o : Nat × List Nat} (h : tgerr (l.take k) = 0) (hk : l[k]? = some o) : tgerr (l.take (k + 1)) = if o.1 = 0 then 8 else if 65535 < o.2.length then 3 else 0 := by
  induction l generalizing k with
  | nil => simp at hk
  | cons p l ih =>
    match k with
    | 0 =>
      injection hk with hk
      subst hk
      rfl
    | k + 1 =>
      rw [List.take_succ_cons] at h ⊢
      obtain ⟨h0, h1, h2⟩ := tgerr_cons.1 h
      simp only [tgerr]
      rw [if_neg h0, if_neg (by omega)]
      exact ih h2 hk
/-- What a round of the document's Put knows: its own row, the cells of the tag at hand. -/
structure RG (w W : World) (a0 a1 : Addr) (t n : Nat) (A : Option Addr) (c : Nat) (v : Value) (m : Nat) (xs : List Nat) : Prop where
  bel : Below w.heap.size w W
  own : W.ownsRow w.heap.size 5 1 v m (bvs xs)
  lt0 : a0.block < w.heap.size
  lt1 : a1.block < w.heap.size
  f0 : w.cell? a0 = some (.int .u16 (t : Int))
  f1 : w.cell? a1 = some (.slice A n c)
section
variable {w W X W' : World} {a0 a1 : Addr} {t n : Nat} {A : Option Addr} {c : Nat} {v v' : Value} {m m' : Nat} {xs xs' : List Nat}
theorem RG.cells (h : RG w W a0 a1 t n A c v m xs) : W.cell? a0 = some (.int .u16 (t : Int)) ∧ W.cell? a1 = some (.slice A n c) := ⟨(h.bel.cell h.lt0).trans h.f0, (h.bel.cell h.lt1).trans h.f1⟩
theorem RG.step (h : RG w W a0 a1 t n A c v m xs) (hb : Below X.heap.size X W') (hX : Below W.heap.size W X := by first | exact Below.refl _ _ | exact (Below.refl _ _).drew) : RG w W' a0 a1 t n A c v m xs := by
  have hb' : Below W.heap.size W W' := hX.trans (hb.mono hX.size)
  exact ⟨h.bel.trans (hb'.mono h.bel.size), own_below h.own hb', h.lt0, h.lt1, h.f0, h.f1⟩
theorem RG.drew (h : RG w W a0 a1 t n A c v m xs) : RG w W.drew a0 a1 t n A c v m xs := h.step (X := W) (Below.refl _ _).drew
theorem RG.al (h : RG w W a0 a1 t n A c v m xs) (o : Obj) : RG w (W.alloc o) a0 a1 t n A c v m xs := h.step (X := W) ((Below.refl _ _).alloc (Nat.le_refl _) o)
theorem RG.app (h : RG w W a0 a1 t n A c v m xs) (ho : W'.ownsRow w.heap.size 5 1 v' m' (bvs xs')) (hg : W.grownBy W' v.ownBlock) : RG w W' a0 a1 t n A c v' m' xs' :=
  ⟨h.bel.grown hg h.bel.size (fun k hk => (h.own.lt k hk).1), ho, h.lt0, h.lt1, h.f0, h.f1⟩
end

set_option maxHeartbeats 2000000 in
theorem tgrput_any (l : List (Nat × List Nat)) (n c : Nat) (A : Option Addr) (F : Nat → Prop) (w : World) (h : Rws shG F w A l) (hl : l.length = n) (hn : n ≤ 137438953472) (hd : tgdat l ≤ 68719476736) (hty : ∀ o ∈ l, o.1 < 65536) :
    Calls Try.prog 11 #[.slice A n c] w fun e w' => ∃ A' c' k, e = .returned (.tuple #[.slice A' k c', .int .i64 ((tgerr l : Nat) : Int)]) ∧ New w w' A' c' k (tgputA l) := by
  obtain ⟨i0, hi, hz0, hz1, hz2⟩ := info_parts byte_info
  have HL := Lib.hid hl
  have HD := Lib.hid (tgdat_take l)
  have HY := Lib.hid hty
  clear hl hty
  go_enter Try.func11, Try.ntmps11
  go_wp2_with fail
  go_loopw [4, 5] (fun v i wr => ∃ k m : Nat, k ≤ n ∧ i = .int .i64 k ∧ Hid (tgerr (l.take k) = 0) ∧ wr.ownsRow w.heap.size 5 1 v m (bvs (tgput (l.take k))) ∧ Below w.heap.size w wr) (fun _ i _ => n - (intOf i).toNat)
  case atStart => exact ⟨0, 0, Nat.zero_le _, rfl, Lib.hid rfl, World.ownsRow_lit w #[] 0 (Nat.le_refl _) (by unfold maxLen; omega) rfl, (Below.refl _ _).alloc (Nat.le_refl _) _⟩
  case round =>
    obtain ⟨k, m, hk, rfl, hlg, hown, hbel⟩ := hrel
    have hm1 := hown.1
    rw [bvs_len, tgput_len] at hm1
    have hm2 : m ≤ 618475290624 := by have := HD.out k; have := List.length_take (i := k) (l := l); omega
    by_cases hlt : k < n
    · obtain ⟨b, o, x, A3, c3, rfl, hb3, hx, h3, h4, h5, h6⟩ := h.tag (k := k) (by rw [HL.out]; exact hlt)
      have C := Lib.hid (show RG w wr ⟨b, o + k * 2, none⟩ ⟨b, o + k * 2 + 1, none⟩ x.1 x.2.length A3 c3 _ m (tgput (l.take k)) from ⟨hbel, hown, hb3, hb3, h3, h4⟩)
      have H6 := Lib.hid h6.rd
      have HX := Lib.hid hx
      have hx16 := HY.out x (List.mem_of_getElem? hx)
      have i1 : (0 : Int) ≤ k := by omega
      have i2 : (k : Int) < n := by omega
      clear h3 h4 hx h6 hm1
      obtain ⟨f0, f1⟩ := C.out.cells
      by_cases hx0 : x.1 = 0
      · have j0 : ((x.1 : Int) == 0) = true := by rw [hx0]; rfl
        have HE := tgerr_next hlg.out HX.out
        rw [if_pos hx0] at HE
        have HQ := tgerr_at (l := l) (k + 1) (by rw [HE]; decide)
        have EP := Lib.hid (show tgerr l = 8 by rw [HQ, HE])
        have EA := Lib.hid (show tgputA l = [] by unfold tgputA; rw [EP.out]; rfl)
        clear hown HE HQ hx0
        go_wp2_with fail
        go_ret2
        rw [EP.out, EA.out]
        exact ⟨none, 0, 0, rfl, rfl, World.ownsRow_nil _ _ _ _, Rd.nil, hbel⟩
      have j0 : ((x.1 : Int) == 0) = false := by rw [beq_eq_false_iff_ne]; omega
      by_cases hxl : x.2.length ≤ 65535
      · obtain ⟨z1, hz1'⟩ : ∃ z, Hid (x.1 / 256 = z) := ⟨_, Lib.hid rfl⟩
        obtain ⟨z2, hz2'⟩ : ∃ z, Hid (x.1 % 256 = z) := ⟨_, Lib.hid rfl⟩
        obtain ⟨z3, hz3'⟩ : ∃ z, Hid (x.2.length / 256 = z) := ⟨_, Lib.hid rfl⟩
        obtain ⟨z4, hz4'⟩ : ∃ z, Hid (x.2.length % 256 = z) := ⟨_, Lib.hid rfl⟩
        have y1 : z1 < 256 := by have := hz1'.out; omega
        have y2 : z2 < 256 := by have := hz2'.out; omega
        have y3 : z3 < 256 := by have := hz3'.out; omega
        have y4 : z4 < 256 := by have := hz4'.out; omega
        have R := Lib.hid (show tgerr (l.take (k + 1)) = 0 by rw [tgerr_next hlg.out HX.out, if_neg hx0, if_neg (by omega)])
        have HE := Lib.hid (show tgput (l.take (k + 1)) = tgput (l.take k) ++ [z1, z2, z3, z4] ++ x.2 by rw [tgput_at HX.out, ← hz1'.out, ← hz2'.out, ← hz3'.out, ← hz4'.out]; simp [tgenc])
        have HLT := Lib.hid (show ∀ wk : World, Rd (wk.alloc (.cells #[.int .u8 (z1 : Int), .int .u8 (z2 : Int), .int .u8 (z3 : Int), .int .u8 (z4 : Int)] 5)) (wk.alloc (.cells #[.int .u8 (z1 : Int), .int .u8 (z2 : Int), .int .u8 (z3 : Int), .int .u8 (z4 : Int)] 5)).heap.size (some ⟨wk.heap.size, 0, none⟩) [z1, z2, z3, z4] from fun wk => Rd.lit_ wk [z1, z2, z3, z4])
        have i3 : ¬ (65535 : Int) < (x.2.length : Int) := by omega
        have e1 : (x.1 : Int) / 256 = (z1 : Int) := by have := hz1'.out; omega
        have e2 : (x.1 : Int).tmod 256 = (z2 : Int) := by rw [Int.tmod_eq_emod_of_nonneg (by omega)]; have := hz2'.out; omega
        have e3 : (x.2.length : Int) / 256 = (z3 : Int) := by have := hz3'.out; omega
        have e4 : (x.2.length : Int).tmod 256 = (z4 : Int) := by rw [Int.tmod_eq_emod_of_nonneg (by omega)]; have := hz4'.out; omega
        have a1 : IntKind.u8.wrap (z1 : Int) = (z1 : Int) := by apply IntWalk.u8_in; omega
        have a2 : IntKind.u8.wrap (z2 : Int) = (z2 : Int) := by apply IntWalk.u8_in; omega
        have a3 : IntKind.u8.wrap (z3 : Int) = (z3 : Int) := by apply IntWalk.u8_in; omega
        have a4 : IntKind.u8.wrap (z4 : Int) = (z4 : Int) := by apply IntWalk.u8_in; omega
        have g2 : IntKind.u16.wrap (z1 : Int) = (z1 : Int) := by apply IntWalk.u16_in; omega
        have g1 : IntKind.i64.wrap (z3 : Int) = (z3 : Int) := IntWalk.i64_in _ (by omega)
        clear hown hbel hx0 hx16
        go_wp2_with fail
        go_region_held3 (fun W => W.cell? ⟨b, o + k * 2, none⟩ = some (.int .u16 (x.1 : Int)) ∧ W.cell? ⟨b, o + k * 2 + 1, none⟩ = some (.slice A3 x.2.length c3)) (first | exact C.out.cells | exact (C.out.drew.al _).cells) (first
          | ((refine step_app _ (by rfl) _ _ _ (by rfl) _ i0 Try.underlying23 hi hz0 hz1 hz2 w.heap.size _ m (tgput (l.take k)) (by rfl) (C.out.drew.al _).own _ _ 4 _ [z1, z2, z3, z4] (by rfl) (HLT.out _) rfl (by omega) (C.out.drew.al _).bel.size ?_); intro A6 c6 w6 ho6 hg6; replace C := Lib.hid ((C.out.drew.al _).app ho6 hg6); clear ho6 hg6; dsimp only))
        clear f0 f1
        obtain ⟨f0, f1⟩ := C.out.cells
        go_wp2_with (at_builtin; refine list_app rfl _ _ _ rfl _ i0 Try.underlying23 hi hz0 hz1 hz2 _ _ (m + 4) _ rfl C.out.own w.heap.size _ x.2.length _ x.2 rfl (H6.out.below C.out.bel) rfl (by omega) C.out.bel.size ?_; intro A7 c7 w7 ho7 hg7; have R2 := C.out.bel.grown hg7 C.out.bel.size (fun g hg => (C.out.own.lt g hg).1))
        rw [← HE.out] at ho7
        go_roundw
        case rel => exact ⟨k + 1, _, by omega, by go_num, R, ho7, R2⟩
        case measure => simp [intOf]; omega
      · have i3 : (65535 : Int) < (x.2.length : Int) := by omega
        have HE := tgerr_next hlg.out HX.out
        rw [if_neg hx0, if_pos (by omega)] at HE
        have HQ := tgerr_at (l := l) (k + 1) (by rw [HE]; decide)
        have EP := Lib.hid (show tgerr l = 3 by rw [HQ, HE])
        have EA := Lib.hid (show tgputA l = [] by unfold tgputA; rw [EP.out]; rfl)
        clear hown HE HQ hx0 hxl
        go_wp2_with fail
        go_ret2
        rw [EP.out, EA.out]
        exact ⟨none, 0, 0, rfl, rfl, World.ownsRow_nil _ _ _ _, Rd.nil, hbel⟩
    · have he : k = n := by omega
      subst he
      have hlg2 := hlg.out
      rw [List.take_of_length_le (by rw [HL.out]; exact Nat.le_refl _)] at hown hlg2
      have EP := Lib.hid hlg2
      have EA := Lib.hid (show tgputA l = tgput l by unfold tgputA; rw [hlg2]; rfl)
      clear hlg2
      go_wp2_with fail
      go_ret2
      rw [EP.out, EA.out]
      obtain ⟨A', c', rfl, hN⟩ := New.mk hown hbel
      exact ⟨A', c', m, rfl, hN⟩
end Go.Proofs.Ytldadfmcganejaa
