
/-
  Frames as they are sent: what Wire and the document's own answer; the document's example. Conditions: the tables hold what the start-up lays ('Tabs'); numbers below 2^16, octets below 256, at most a million of them.
-/
import Derived.Test.YtkakkligndejaaaDoorFrm
import Derived.Test.YtkakkligndejaaaDoorROf
namespace Go.Proofs.YtkakkligndejaaaDoor
open Go.RowKit

/-- Octets as they are sent by a config. -/
def wireB (c : Cf) (l : List Nat) : List Nat := if c.sync = true then swB l else [126] ++ (esc c.send l ++ [126])

set_option maxHeartbeats 1000000 in
theorem wire_ok (c : Cf) (hs : c.send < 4294967296) (p : Nat) (hp : p < 65536) (l : List Nat) (A : Option Addr) (n cp : Nat) (w : World) (h : Rd w w.heap.size A l) (hb : By l) (hn : l.length = n) (hm : n ≤ 1000000) (hr : rightB p = true) (hl : (n : Int) ≤ c.mru) (hT : Tabs w) :
    Calls Tryd.prog 11 #[c.val, .int .u16 (p : Int), .slice A n cp] w fun e w' => ∃ A' c' k, e = .returned (.tuple #[.slice A' k c', .int .i64 0]) ∧ New w w' A' c' k (wireB c (frameB c p l)) := by
  have HL := Lib.hid hn
  have HBy := Lib.hid hb
  have HF := Lib.hid (frameB_by c hp hb)
  have hlen := frameB_len c p l
  have hpl := hputB_len c p
  have hz := size_pos c.wide
  have C : One w (w.alloc (c.obj 29)) w.heap.size 29 c := ⟨Bx.new _ _ _, (Below.refl _ _).alloc (Nat.le_refl _) _⟩
  have HA := Lib.hid (h.on C.bel)
  have HT := Lib.hid (hT.below C.bel)
  have HC := Lib.hid C
  have HZ := Lib.hid hz
  clear h hb hn hT C hz
  cases hsy : c.sync
  · have E := Lib.hid (show wireB c (frameB c p l) = [126] ++ (esc c.send (frameB c p l) ++ [126]) by simp [wireB, hsy])
    rw [E.out]
    have HSY := Lib.hid hsy
    clear hsy
    go_enter Tryd.func11, Tryd.ntmps11
    go_wp2_with fail
    refine (build_ok c p hp l A n cp _ HA.out HBy.out HL.out hm hr hl HT.out).mono ?_
    rintro e w2 ⟨A2, c2, k2, rfl, hN2⟩
    have HN2 := Lib.hid hN2
    have HK := Lib.hid (show k2 ≤ 1000008 by have := hN2.1; have := HL.out; have := HZ.out; omega)
    have C2 := Lib.hid (HC.out.step hN2.2.2.2)
    clear hN2 hlen hpl
    obtain ⟨x0, x1, x2, x3, x4, x5, x6⟩ := C2.out.x.all
    rw [HSY.out] at x0
    go_wp2_with fail
    refine (awrap_any c.send hs (frameB c p l) k2 A2 c2 w2 HN2.out.2.2.1 HF.out HN2.out.1 (by have := HK.out; omega)).mono ?_
    rintro e w3 ⟨A3, c3, k3, rfl, -, hN3⟩
    clear x0 x1 x2 x3 x4 x5 x6
    go_wp2_with fail
    go_ret2
    exact ⟨_, _, _, rfl, hN3.1, own_lo hN3.2.1 C2.out.bel.size, hN3.2.2.1, C2.out.bel.trans (hN3.2.2.2.mono C2.out.bel.size)⟩
  · have E := Lib.hid (show wireB c (frameB c p l) = swB (frameB c p l) by simp [wireB, hsy])
    rw [E.out]
    have HSY := Lib.hid hsy
    clear hsy
    go_enter Tryd.func11, Tryd.ntmps11
    go_wp2_with fail
    refine (build_ok c p hp l A n cp _ HA.out HBy.out HL.out hm hr hl HT.out).mono ?_
    rintro e w2 ⟨A2, c2, k2, rfl, hN2⟩
    have HN2 := Lib.hid hN2
    have HK := Lib.hid (show k2 ≤ 1000008 by have := hN2.1; have := HL.out; have := HZ.out; omega)
    have C2 := Lib.hid (HC.out.step hN2.2.2.2)
    clear hN2 hlen hpl
    obtain ⟨x0, x1, x2, x3, x4, x5, x6⟩ := C2.out.x.all
    rw [HSY.out] at x0
    go_wp2_with fail
    refine (swrap_any (frameB c p l) k2 A2 c2 w2 HN2.out.2.2.1 HF.out HN2.out.1 (by have := HK.out; omega)).mono ?_
    rintro e w3 ⟨A3, c3, k3, rfl, -, hN3⟩
    clear x0 x1 x2 x3 x4 x5 x6
    go_wp2_with fail
    go_ret2
    exact ⟨_, _, _, rfl, hN3.1, own_lo hN3.2.1 C2.out.bel.size, hN3.2.2.1, C2.out.bel.trans (hN3.2.2.2.mono C2.out.bel.size)⟩

theorem bErr_pos (p : Nat) : bErr p = 3 ∨ bErr p = 7 := by unfold bErr; split <;> simp

set_option maxHeartbeats 1000000 in
theorem wire_no (c : Cf) (p : Nat) (hp : p < 65536) (A : Option Addr) (n cp : Nat) (w : World) (hl : rightB p = true → c.mru < (n : Int)) :
    Calls Tryd.prog 11 #[c.val, .int .u16 (p : Int), .slice A n cp] w fun e w' => e = .returned (.tuple #[.slice none 0 0, .int .i64 (bErr p : Int)]) ∧ Below w.heap.size w w' := by
  have hB : Below w.heap.size w (w.alloc (c.obj 29)) := (Below.refl _ _).alloc (Nat.le_refl _) _
  obtain ⟨z, hz⟩ : ∃ z, Hid (bErr p = z) := ⟨_, Lib.hid rfl⟩
  have hz' : ((z : Int) != 0) = true := by have := bErr_pos p; rw [hz.out] at this; rw [bne_iff_ne]; omega
  rw [hz.out]
  go_enter Tryd.func11, Tryd.ntmps11
  go_wp2_with fail
  refine (build_no c p hp A n cp _ hl).mono ?_
  rintro e w2 ⟨rfl, hb2⟩
  rw [hz.out]
  go_wp2_with fail
  go_ret2
  exact ⟨rfl, hB.trans (hb2.mono hB.size)⟩

set_option maxHeartbeats 1000000 in
theorem rwire_any (c : Cf) (hs : c.send < 4294967296) (l : List Nat) (A : Option Addr) (n cp : Nat) (w : World) (h : Rd w w.heap.size A l) (hb : By l) (hn : l.length = n) (hm : n ≤ 1000008) :
    Calls Tryd.prog 13 #[c.val, .slice A n cp] w fun e w' => ∃ A' c' k, e = .returned (.slice A' k c') ∧ New w w' A' c' k (wireB c l) := by
  obtain ⟨i0, hi, hz0, hz1, hz2⟩ := info_parts byte_info
  have HL := Lib.hid hn
  have HBy := Lib.hid hb
  obtain ⟨wc, hwc⟩ : ∃ wc, wc = w.alloc (c.obj 24) := ⟨_, rfl⟩
  have HX := Lib.hid (show Bx wc w.heap.size 24 c by rw [hwc]; exact Bx.new _ _ _)
  have HB := Lib.hid (show Below w.heap.size w wc by rw [hwc]; exact (Below.refl _ _).alloc (Nat.le_refl _) _)
  have HA := Lib.hid (h.on HB.out)
  have HW := Lib.hid hwc
  have HS := Lib.hid (show wc.heap.size = w.heap.size + 1 by rw [hwc]; simp)
  clear h hn hb hwc
  obtain ⟨sy, wi, ac, pf, se, re, mr⟩ := c
  cases sy
  · have E := Lib.hid (show wireB ⟨false, wi, ac, pf, se, re, mr⟩ l = [126] ++ esc se l ++ [126] by simp [wireB])
    rw [E.out]
    have HO := Lib.hid (show (wc.alloc (.cells #[.int .u8 126] 5)).ownsRow wc.heap.size 5 1 (.slice (some ⟨wc.heap.size, 0, none⟩) 1 1) 1 (bvs [126]) from World.ownsRow_lit _ #[.int .u8 126] 1 (Nat.le_refl _) (by unfold maxLen; omega) rfl)
    have HC := Lib.hid ((Below.refl wc.heap.size wc).alloc (Nat.le_refl _) (.cells #[.int .u8 126] 5))
    have hel := esc_le se l
    go_enter Tryd.func13, Tryd.ntmps13
    go_wp2_with fail
    rw [show w.heap.size + 1 = wc.heap.size from HS.out.symm, ← HW.out]
    clear HW
    refine (rstuff_any se hs l n A cp _ (HA.out.on HC.out) HBy.out HL.out (by omega)).mono ?_
    rintro e w3 ⟨A3, c3, k3, rfl, hN3⟩
    have hk3 : k3 ≤ 2 * n := by have := hN3.1; rw [HL.out] at hel; omega
    have HN3 := Lib.hid hN3
    have HO3 := Lib.hid (own_below HO.out hN3.2.2.2)
    have HB3 := Lib.hid (HC.out.trans (hN3.2.2.2.mono HC.out.size))
    clear hN3 HO HC
    go_wp2_with (first
      | (at_builtin; refine list_app rfl _ _ _ rfl _ i0 Tryd.underlying26 hi hz0 hz1 hz2 _ _ 1 [126] rfl HO3.out _ _ k3 _ _ rfl HN3.out.2.2.1 HN3.out.1 (by omega) HB3.out.size ?_; intro A4 c4 w4 ho4 hg4; have HB4 := Lib.hid (app_below HB3.out (Nat.le_refl _) HO3.out hg4); clear hg4)
      | (at_builtin; refine list_app rfl _ _ _ rfl _ i0 Tryd.underlying26 hi hz0 hz1 hz2 _ _ _ _ rfl (own_below ho4 ((Below.refl _ _).alloc (Nat.le_refl _) _)) _ _ 1 _ [126] rfl (Rd.lit_ w4 [126]) rfl (by omega) (by have := HB4.out.size; simp; omega) ?_; intro A5 c5 w5 ho5 hg5; have HB5 := Lib.hid (app_below (HB4.out.alloc HB4.out.size _) (Nat.le_refl _) (own_below ho4 ((Below.refl _ _).alloc (Nat.le_refl _) _)) hg5); clear hg5))
    go_ret
    exact ⟨_, _, _, rfl, New.base (w1 := wc) ho5 HB.out.size (HB.out.trans (HB5.out.mono HB.out.size))⟩
  · have E := Lib.hid (show wireB ⟨true, wi, ac, pf, se, re, mr⟩ l = flagW ++ insB (ofB l) ++ flagW by simp [wireB, swB])
    rw [E.out]
    have hil := insP_len_le (ofB l)
    rw [ofB_len] at hil
    have HIL := Lib.hid (show (insB (ofB l)).length ≤ 16 * n by rw [← HL.out]; unfold insB; omega)
    obtain ⟨wf, hwf⟩ : ∃ wf, wf = wc.alloc (.cells #[.int .u8 0, .int .u8 1, .int .u8 1, .int .u8 1, .int .u8 1, .int .u8 1, .int .u8 1, .int .u8 0] 5) := ⟨_, rfl⟩
    have HBf := Lib.hid (show Below wc.heap.size wc wf by rw [hwf]; exact (Below.refl _ _).alloc (Nat.le_refl _) _)
    have HSF := Lib.hid (show wf.heap.size = wc.heap.size + 1 by rw [hwf]; simp)
    have HFl := Lib.hid (show Rd wf wf.heap.size (some ⟨wc.heap.size, 0, none⟩) flagW by rw [hwf]; exact Rd.lit_ wc flagW)
    have HWF := Lib.hid hwf
    have HO := Lib.hid (show (wf.alloc (.cells #[] 5)).ownsRow wf.heap.size 5 1 (.slice (some ⟨wf.heap.size, 0, none⟩) 0 0) 0 (bvs []) from World.ownsRow_lit _ #[] 0 (Nat.le_refl _) (by unfold maxLen; omega) rfl)
    have HC := Lib.hid ((Below.refl wf.heap.size wf).alloc (Nat.le_refl _) (.cells #[] 5))
    have HAf := Lib.hid (HA.out.on HBf.out)
    clear hwf hil
    go_enter Tryd.func13, Tryd.ntmps13
    go_wp2_with (at_builtin; rw [show w.heap.size + 1 + 1 = wf.heap.size by rw [HSF.out, HS.out], show w.heap.size + 1 = wc.heap.size from HS.out.symm, ← HW.out, ← HWF.out]; refine list_app rfl _ _ _ rfl _ i0 Tryd.underlying26 hi hz0 hz1 hz2 _ _ 0 [] rfl HO.out _ _ 8 _ flagW rfl (HFl.out.on HC.out) rfl (by omega) HC.out.size ?_; intro A4 c4 w4 ho4 hg4; rw [Nat.zero_add, List.nil_append] at ho4; have HB4 := Lib.hid (app_below HC.out (Nat.le_refl _) HO.out hg4); clear hg4)
    have HA4 := Lib.hid (HAf.out.on HB4.out)
    have HF4 := Lib.hid (HFl.out.on HB4.out)
    have HO4 := Lib.hid ho4
    clear ho4
    refine (rof_c l n A cp w4 HA4.out HBy.out HL.out (by omega)).mono ?_
    rintro e w5 ⟨A5, c5, rfl, hN5⟩
    have HN5 := Lib.hid hN5
    have HO5 := Lib.hid (own_below HO4.out hN5.2.2.2)
    have HB5 := Lib.hid (HB4.out.trans (hN5.2.2.2.mono HB4.out.size))
    have HF5 := Lib.hid (HF4.out.on hN5.2.2.2)
    clear hN5 HO4 HF4
    go_wp2_with fail
    refine (rinsert_any (ofB l) (8 * n) A5 c5 w5 HN5.out.2.2.1 (ofB_by l) HN5.out.1 (by omega)).mono ?_
    rintro e w6 ⟨A6, c6, k6, rfl, hN6⟩
    have HN6 := Lib.hid hN6
    have HK6 := Lib.hid (show k6 ≤ 16 * n by rw [← hN6.1]; exact HIL.out)
    have HO6 := Lib.hid (own_below HO5.out hN6.2.2.2)
    have HB6 := Lib.hid (HB5.out.trans (hN6.2.2.2.mono HB5.out.size))
    have HF6 := Lib.hid (HF5.out.on hN6.2.2.2)
    clear hN6 HO5 HF5
    go_wp2_with (first
      | (at_builtin; refine list_app rfl _ _ _ rfl _ i0 Tryd.underlying26 hi hz0 hz1 hz2 _ _ 8 flagW rfl HO6.out _ _ k6 _ _ rfl HN6.out.2.2.1 HN6.out.1 (by have := HK6.out; omega) HB6.out.size ?_; intro A7 c7 w7 ho7 hg7; have HB7 := Lib.hid (app_below HB6.out (Nat.le_refl _) HO6.out hg7); have HF7 := Lib.hid (HFl.out.on HB7.out); clear hg7)
      | (at_builtin; refine list_app rfl _ _ _ rfl _ i0 Tryd.underlying26 hi hz0 hz1 hz2 _ _ _ _ rfl ho7 _ _ 8 _ flagW rfl HF7.out rfl (by have := HK6.out; omega) HB7.out.size ?_; intro A8 c8 w8 ho8 hg8; have HB8 := Lib.hid (app_below HB7.out (Nat.le_refl _) ho7 hg8); clear hg8))
    go_ret
    exact ⟨_, _, _, rfl, New.base (w1 := wf) ho8 (Nat.le_trans HB.out.size HBf.out.size) (HB.out.trans ((HBf.out.trans (HB8.out.mono HBf.out.size)).mono HB.out.size))⟩

set_option maxHeartbeats 1000000 in
theorem speaks11_any (w : World) (hT : Tabs w) : Calls Tryd.prog 7 #[] w fun e w' => e = .returned (.bool true) ∧ Below w.heap.size w w' := by
  go_enter Tryd.func7, Tryd.ntmps7
  go_wp2_with fail
  refine (build_ok ⟨false, false, true, true, 0, 0, 64⟩ 33 (by omega) [] _ 0 0 _ Rd.nil By.nil rfl (by omega) (by decide) (by decide) hT).mono ?_
  rintro e w1 ⟨A1, c1, k1, rfl, hN⟩
  obtain ⟨x, y, hxy⟩ : ∃ x y, frameB ⟨false, false, true, true, 0, 0, 64⟩ 33 [] = [33, x, y] := ⟨_, _, rfl⟩
  rw [hxy] at hN
  obtain rfl : k1 = 3 := hN.1.symm
  obtain ⟨b, o, rfl, -, hc⟩ := hN.2.2.1 (by simp)
  have h0 : w1.cell? ⟨b, o, none⟩ = some (.int .u8 33) := hc 0 33 rfl
  have hb := hN.2.2.2
  clear hN hc hxy
  go_wp2_with fail
  go_ret
  exact ⟨rfl, hb⟩

end Go.Proofs.YtkakkligndejaaaDoor
