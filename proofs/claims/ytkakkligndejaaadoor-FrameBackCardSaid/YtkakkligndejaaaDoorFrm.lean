
/-
  Frames: what the calls of layer 11 and the document's own answer, but Wire: Build, Parse. Conditions: the tables hold what the start-up lays ('Tabs'); numbers below 2^16, octets below 256, at most a million of them.
-/
import Derived.Test.YtkakkligndejaaaDoorHedO
import Derived.Test.YtkakkligndejaaaDoorFcsU
import Derived.Test.YtkakkligndejaaaDoorWrp
import Derived.Test.YtkakkligndejaaaDoorCln
import Derived.BigQuiet
namespace Go.Proofs.YtkakkligndejaaaDoor
open Go.RowKit

/-- What a frame's sum is of. -/
def sumdB (c : Cf) (p : Nat) (l : List Nat) : List Nat := hputB c p ++ l
/-- A frame. -/
def frameB (c : Cf) (p : Nat) (l : List Nat) : List Nat := sumdB c p l ++ trail c.wide (sumW c.wide (sumdB c p l))
theorem hputB_len (c : Cf) (p : Nat) : 1 ≤ (hputB c p).length ∧ (hputB c p).length ≤ 4 := wrB_len p _ _
theorem hputB_by (c : Cf) {p : Nat} (hp : p < 65536) : By (hputB c p) := wrB_by hp _ _
theorem sumdB_by (c : Cf) {p : Nat} (hp : p < 65536) {l : List Nat} (hb : By l) : By (sumdB c p l) := (hputB_by c hp).app hb
theorem sumdB_len (c : Cf) (p : Nat) (l : List Nat) : (sumdB c p l).length ≤ l.length + 4 := by have := hputB_len c p; simp [sumdB]; omega
theorem frameB_by (c : Cf) {p : Nat} (hp : p < 65536) {l : List Nat} (hb : By l) : By (frameB c p l) := (sumdB_by c hp hb).app (trail_by c.wide _ (sumW_lt (wide := c.wide) (sumdB_by c hp hb)))
theorem frameB_len (c : Cf) (p : Nat) (l : List Nat) : (frameB c p l).length = (hputB c p).length + l.length + sizeW c.wide := by simp [frameB, sumdB, trail_len]; omega

theorem rr_duo (w : World) (A A2 : Option Addr) (l l2 : List Nat) (n n2 c c2 : Nat) (T : TypeId) (h : Rd w w.heap.size A l) (h2 : Rd w w.heap.size A2 l2) (e : l.length = n) (e2 : l2.length = n2) :
    Rr (w.alloc (.cells #[.slice A n c, .slice A2 n2 c2] T)) (some ⟨w.heap.size, 0, none⟩) [l, l2] := by
  subst e; subst e2
  intro _
  have hb := (Below.refl w.heap.size w).alloc (Nat.le_refl _) (.cells #[.slice A l.length c, .slice A2 l2.length c2] T)
  have cell : ∀ k u, (#[.slice A l.length c, .slice A2 l2.length c2] : Array Value)[k]? = some u → (w.alloc (.cells #[.slice A l.length c, .slice A2 l2.length c2] T)).cell? ⟨w.heap.size, 0 + k, none⟩ = some u := by
    intro k u hu
    rw [Nat.zero_add, World.cell?_alloc_at _ _ _ _ rfl]
    exact hu
  refine ⟨w.heap.size, 0, rfl, fun k x hx => ?_⟩
  match k, hx with
  | 0, hx => injection hx with hx; subst hx; exact ⟨A, c, cell 0 _ rfl, (h.below hb).more hb.size⟩
  | 1, hx => injection hx with hx; subst hx; exact ⟨A2, c2, cell 1 _ rfl, (h2.below hb).more hb.size⟩
  | k + 2, hx => simp at hx

set_option maxHeartbeats 1000000 in
theorem build_ok (c : Cf) (p : Nat) (hp : p < 65536) (l : List Nat) (A : Option Addr) (n cp : Nat) (w : World) (h : Rd w w.heap.size A l) (hb : By l) (hn : l.length = n) (hm : n ≤ 1000000) (hr : rightB p = true) (hl : (n : Int) ≤ c.mru) (hT : Tabs w) :
    Calls Tryd.prog 9 #[c.val, .int .u16 (p : Int), .slice A n cp] w fun e w' => ∃ A' c' k, e = .returned (.tuple #[.slice A' k c', .int .i64 0]) ∧ New w w' A' c' k (frameB c p l) := by
  obtain ⟨i0, hi, hz0, hz1, hz2⟩ := info_parts byte_info
  have HL := Lib.hid hn
  have HB := Lib.hid hb
  have HBs := Lib.hid (sumdB_by c hp hb)
  have HSl := Lib.hid (sumdB_len c p l)
  have hsz := size_pos c.wide
  have hl' : ¬ c.mru < (n : Int) := by omega
  have C : One w (w.alloc (c.obj 29)) w.heap.size 29 c := ⟨Bx.new _ _ _, (Below.refl _ _).alloc (Nat.le_refl _) _⟩
  have HA := Lib.hid (h.on C.bel)
  have HT := Lib.hid (hT.below C.bel)
  have HC := Lib.hid C
  clear h hb hn hT C hl
  go_enter Tryd.func9, Tryd.ntmps9
  go_wp2_with (go_at_call 21; (with_reducible refine (right_v p true hp hr _).mono ?_); rintro e w' ⟨rfl, rfl⟩)
  refine (hput_any c p hp _).mono ?_
  rintro e w2 ⟨A2, n2, rfl, hl2, hr2, hb2⟩
  have C2 := Lib.hid (HC.out.step hb2)
  have HA2 := Lib.hid (HA.out.on hb2)
  have HT2 := Lib.hid (HT.out.below hb2)
  have HR := Lib.hid (rr_duo w2 A2 A (hputB c p) l n2 n n2 cp 26 hr2.rd HA2.out hl2 HL.out)
  have hb3 := (Below.refl w2.heap.size w2).alloc (Nat.le_refl _) (.cells #[.slice A2 n2 n2, .slice A n cp] 26)
  have C3 := Lib.hid (C2.out.step hb3)
  have HT3 := Lib.hid (HT2.out.below hb3)
  have HF := Lib.hid (show ([hputB c p, l] : List (List Nat)).flatten = sumdB c p l by simp [sumdB])
  clear hb2 hr2 HA HT HC HA2 HT2 C2 hb3
  go_wp2_with fail
  refine (concat_any [hputB c p, l] 2 _ _ _ HR.out rfl (by omega) (by rw [HF.out]; have := HSl.out; rw [HL.out] at this; omega)).mono ?_
  rintro e w4 ⟨A4, c4, k4, rfl, hk4, hN4⟩
  rw [HF.out] at hN4 hk4
  have hk : k4 ≤ 1000004 := by have := HSl.out; rw [HL.out] at this; omega
  have HN4 := Lib.hid hN4
  have HT4 := Lib.hid (HT3.out.below hN4.2.2.2)
  have C4 := Lib.hid (C3.out.step hN4.2.2.2)
  have HS3 := Lib.hid (show w.heap.size ≤ (w2.alloc (.cells #[.slice A2 n2 n2, .slice A n cp] 26)).heap.size from C3.out.bel.size)
  clear hN4 HT3 C3 HR HF hk4
  obtain ⟨x0, x1, x2, x3, x4, x5, x6⟩ := C4.out.x.all
  go_wp2_with fail
  clear x0 x1 x2 x3 x4 x5 x6
  refine (trailer_any c.wide (sumdB c p l) k4 A4 c4 w4 HN4.out.2.2.1 HBs.out HN4.out.1 (by omega) HT4.out).mono ?_
  rintro e w5 ⟨A5, c5, rfl, hN5⟩
  have HN5 := Lib.hid hN5
  have HO5 := Lib.hid (own_below HN4.out.2.1 hN5.2.2.2)
  have C5 := Lib.hid (C4.out.step hN5.2.2.2)
  have HB5 := Lib.hid (HN4.out.2.2.2.trans (hN5.2.2.2.mono HN4.out.2.2.2.size))
  obtain ⟨z, hz⟩ : ∃ z, Hid (sizeW c.wide = z) := ⟨_, Lib.hid rfl⟩
  rw [hz.out] at HN5 hsz ⊢
  clear hN5 C4 HT4
  go_wp2_with (at_builtin; refine list_app rfl _ _ _ rfl _ i0 Tryd.underlying26 hi hz0 hz1 hz2 _ _ _ _ rfl HO5.out _ _ z _ _ rfl HN5.out.2.2.1 HN5.out.1 (by omega) HB5.out.size ?_; intro A6 c6 w6 ho6 hg6)
  have hB6 := app_below (W := w) C5.out.bel HS3.out HO5.out hg6
  go_ret2
  exact ⟨_, _, _, rfl, by have := ho6.1; rw [bvs_len] at this; simpa [frameB] using this, own_lo ho6 HS3.out, Rd.own ho6, hB6⟩

/-- The error of Build. -/
def bErr (p : Nat) : Nat := if rightB p = true then 3 else 7
set_option maxHeartbeats 1000000 in
theorem build_no (c : Cf) (p : Nat) (hp : p < 65536) (A : Option Addr) (n cp : Nat) (w : World) (hl : rightB p = true → c.mru < (n : Int)) :
    Calls Tryd.prog 9 #[c.val, .int .u16 (p : Int), .slice A n cp] w fun e w' => e = .returned (.tuple #[.slice none 0 0, .int .i64 (bErr p : Int)]) ∧ Below w.heap.size w w' := by
  have hB : Below w.heap.size w (w.alloc (c.obj 29)) := (Below.refl _ _).alloc (Nat.le_refl _) _
  cases hr : rightB p
  · have E := Lib.hid (show bErr p = 7 by simp [bErr, hr])
    rw [E.out]
    go_enter Tryd.func9, Tryd.ntmps9
    go_wp2_with (go_at_call 21; (with_reducible refine (right_v p false hp hr _).mono ?_); rintro e w' ⟨rfl, rfl⟩)
    go_ret2
    exact ⟨rfl, hB⟩
  · have E := Lib.hid (show bErr p = 3 by simp [bErr, hr])
    have hl' := hl hr
    rw [E.out]
    go_enter Tryd.func9, Tryd.ntmps9
    go_wp2_with (go_at_call 21; (with_reducible refine (right_v p true hp hr _).mono ?_); rintro e w' ⟨rfl, rfl⟩)
    go_ret2
    exact ⟨rfl, hB⟩

set_option maxHeartbeats 1000000 in
theorem rbuild_ok (c : Cf) (p : Nat) (hp : p < 65536) (l : List Nat) (A : Option Addr) (n cp : Nat) (w : World) (h : Rd w w.heap.size A l) (hb : By l) (hn : l.length = n) (hm : n ≤ 1000000) (hr : rightB p = true) (hl : (n : Int) ≤ c.mru) :
    Calls Tryd.prog 10 #[c.val, .int .i64 (p : Int), .slice A n cp] w fun e w' => ∃ A' c' k, e = .returned (.tuple #[.slice A' k c', .int .i64 0]) ∧ New w w' A' c' k (frameB c p l) := by
  obtain ⟨i0, hi, hz0, hz1, hz2⟩ := info_parts byte_info
  have HL := Lib.hid hn
  have HBs := Lib.hid (sumdB_by c hp hb)
  have HSl := Lib.hid (sumdB_len c p l)
  have hsz := size_pos c.wide
  have hpl := hputB_len c p
  have hl' : ¬ c.mru < (n : Int) := by omega
  obtain ⟨wc, hwc⟩ : ∃ wc, wc = w.alloc (c.obj 24) := ⟨_, rfl⟩
  have HX := Lib.hid (show Bx wc w.heap.size 24 c by rw [hwc]; exact Bx.new _ _ _)
  have HB := Lib.hid (show Below w.heap.size w wc by rw [hwc]; exact (Below.refl _ _).alloc (Nat.le_refl _) _)
  have HO := Lib.hid (show (wc.alloc (.cells #[] 5)).ownsRow wc.heap.size 5 1 (.slice (some ⟨wc.heap.size, 0, none⟩) 0 0) 0 (bvs []) from World.ownsRow_lit _ #[] 0 (Nat.le_refl _) (by unfold maxLen; omega) rfl)
  have HC := Lib.hid ((Below.refl wc.heap.size wc).alloc (Nat.le_refl _) (.cells #[] 5))
  have HA := Lib.hid (h.on HB.out)
  have HW := Lib.hid hwc
  clear h hn hb hl hwc
  go_enter Tryd.func10, Tryd.ntmps10
  go_wp2_with fail
  rw [← HW.out]
  clear HW
  obtain ⟨x0, x1, x2, x3, x4, x5, x6⟩ := HX.out.all
  have n0 := HX.out.lt
  refine (rright_v p true hp hr _).mono ?_
  rintro e w' ⟨rfl, rfl⟩
  go_wp2_with fail
  clear x0 x1 x2 x3 x4 x5 x6 n0
  refine (rhput_any c p hp _).mono ?_
  rintro e w3 ⟨A3, c3, n3, rfl, hN3⟩
  have hn3 : n3 ≤ 4 := by have := hN3.1; omega
  have HN3 := Lib.hid hN3
  have HO3 := Lib.hid (own_below HO.out hN3.2.2.2)
  have HB3 := Lib.hid (HC.out.trans (hN3.2.2.2.mono HC.out.size))
  clear hN3 HO HC
  go_wp2_with (first
    | (at_builtin; refine list_app rfl _ _ _ rfl _ i0 Tryd.underlying26 hi hz0 hz1 hz2 _ _ 0 [] rfl HO3.out _ _ n3 _ _ rfl HN3.out.2.2.1 HN3.out.1 (by omega) HB3.out.size ?_; intro A4 c4 w4 ho4 hg4; have HB4 := Lib.hid (app_below HB3.out (Nat.le_refl _) HO3.out hg4); have HA4 := Lib.hid (HA.out.on HB4.out); rw [Nat.zero_add, List.nil_append] at ho4; clear hg4)
    | (at_builtin; refine list_app rfl _ _ _ rfl _ i0 Tryd.underlying26 hi hz0 hz1 hz2 _ _ _ _ rfl ho4 _ _ n _ _ rfl HA4.out HL.out (by omega) HB4.out.size ?_; intro A5 c5 w5 ho5 hg5; have HB5 := Lib.hid (app_below HB4.out (Nat.le_refl _) ho4 hg5); clear hg5; obtain ⟨x0, x1, x2, x3, x4, x5, x6⟩ := (HX.out.below HB5.out).all))
  have e5 : hputB c p ++ l = sumdB c p l := rfl
  rw [e5] at ho5
  have hk5 : (sumdB c p l).length = n3 + n := by have := ho5.1; rw [bvs_len] at this; omega
  have HO5 := Lib.hid ho5
  have HR5 := Lib.hid (Rd.own ho5)
  have HK5 := Lib.hid hk5
  clear ho5 hk5 ho4 e5 x0 x1 x2 x3 x4 x5 x6
  refine (rtrailer_any c.wide (sumdB c p l) (n3 + n) A5 c5 w5 HR5.out HBs.out HK5.out (by omega)).mono ?_
  rintro e w6 ⟨A6, c6, rfl, hN6⟩
  have HN6 := Lib.hid hN6
  have HO6 := Lib.hid (own_below HO5.out hN6.2.2.2)
  have HB6 := Lib.hid (HB5.out.trans (hN6.2.2.2.mono HB5.out.size))
  obtain ⟨z, hz⟩ : ∃ z, Hid (sizeW c.wide = z) := ⟨_, Lib.hid rfl⟩
  rw [hz.out] at HN6 hsz ⊢
  clear hN6
  go_wp2_with (at_builtin; refine list_app rfl _ _ _ rfl _ i0 Tryd.underlying26 hi hz0 hz1 hz2 _ _ _ _ rfl HO6.out _ _ z _ _ rfl HN6.out.2.2.1 HN6.out.1 (by omega) HB6.out.size ?_; intro A7 c7 w7 ho7 hg7)
  have hB7 := app_below HB6.out (Nat.le_refl _) HO6.out hg7
  go_ret2
  exact ⟨_, _, _, rfl, New.base (w1 := wc) ho7 HB.out.size (HB.out.trans (hB7.mono HB.out.size))⟩

set_option maxHeartbeats 1000000 in
theorem rbuild_no (c : Cf) (p : Nat) (hp : p < 65536) (A : Option Addr) (n cp : Nat) (w : World) (hl : rightB p = true → c.mru < (n : Int)) :
    Calls Tryd.prog 10 #[c.val, .int .i64 (p : Int), .slice A n cp] w fun e w' => e = .returned (.tuple #[.slice none 0 0, .int .i64 (bErr p : Int)]) ∧ Below w.heap.size w w' := by
  have hB : Below w.heap.size w (w.alloc (c.obj 24)) := (Below.refl _ _).alloc (Nat.le_refl _) _
  cases hr : rightB p
  · have E := Lib.hid (show bErr p = 7 by simp [bErr, hr])
    rw [E.out]
    go_enter Tryd.func10, Tryd.ntmps10
    go_wp2_with (go_at_call 16; (with_reducible refine (rright_v p false hp hr _).mono ?_); rintro e w' ⟨rfl, rfl⟩)
    go_ret2
    exact ⟨rfl, hB⟩
  · have E := Lib.hid (show bErr p = 3 by simp [bErr, hr])
    have hl' := hl hr
    rw [E.out]
    go_enter Tryd.func10, Tryd.ntmps10
    go_wp2_with (go_at_call 16; (with_reducible refine (rright_v p true hp hr _).mono ?_); rintro e w' ⟨rfl, rfl⟩)
    go_ret2
    exact ⟨rfl, hB⟩

end Go.Proofs.YtkakkligndejaaaDoor
