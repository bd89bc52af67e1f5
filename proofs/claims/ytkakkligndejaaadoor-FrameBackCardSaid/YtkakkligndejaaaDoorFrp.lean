
/-
  Frames: what Parse and the document's own answer. Conditions: the tables hold what the start-up lays ('Tabs'); octets below 256, at most a million of them; a config that may be.
-/
import Derived.Test.YtkakkligndejaaaDoorFrm
namespace Go.Proofs.YtkakkligndejaaaDoor
open Go.RowKit

/-- What octets are behind their sum: the protocol, the information, the error. -/
def partB (c : Cf) (l : List Nat) : Nat × List Nat × Nat := if (hgetB c l).2.2 = 0 then (if c.mru < ((l.length - (hgetB c l).2.1 : Nat) : Int) then (0, [], 3) else ((hgetB c l).1, l.drop (hgetB c l).2.1, 0)) else (0, [], (hgetB c l).2.2)
/-- What octets are as a frame. -/
def parseB (c : Cf) (l : List Nat) : Nat × List Nat × Nat :=
  if mostI c < (l.length : Int) then (0, [], 3) else if l.length ≤ sizeW c.wide then (0, [], 2) else if goodW c.wide l = true then partB c (l.take (l.length - sizeW c.wide)) else (0, [], 6)

/-- A call that answers so: a number, a list, an error. -/
def Gives (g : Nat × List Nat × Nat) (k : IntKind) (w : World) (e : Ending) (w' : World) : Prop :=
  ∃ A c n, e = .returned (.tuple #[.int k (g.1 : Int), .slice A n c, .int .i64 (g.2.2 : Int)]) ∧ g.2.1.length = n ∧ n ≤ c ∧ Rd w' w'.heap.size A g.2.1 ∧ Below w.heap.size w w'

set_option maxHeartbeats 1000000 in
theorem part_any (c : Cf) (l : List Nat) (A : Option Addr) (n cp : Nat) (w : World) (h : Rd w w.heap.size A l) (hb : By l) (hn : l.length = n) (hc : n ≤ cp) (hm : n ≤ 1000000) :
    Calls Tryd.prog 32 #[c.val, .slice A n cp] w (Gives (partB c l) .u16 w) := by
  obtain ⟨g1, g2, g3, hg⟩ : ∃ g1 g2 g3, Hid (hgetB c l = (g1, g2, g3)) := ⟨_, _, _, Lib.hid rfl⟩
  have hgl : g3 = 0 → g2 ≤ l.length := fun h0 => by subst h0; exact (hget_all hb hg.out).2.1
  have E := Lib.hid (show partB c l = if g3 = 0 then (if c.mru < ((n - g2 : Nat) : Int) then (0, [], 3) else (g1, l.drop g2, 0)) else (0, [], g3) by simp only [partB, hg.out, hn])
  have HL := Lib.hid hn
  have HB := Lib.hid hb
  have C : One w (w.alloc (c.obj 29)) w.heap.size 29 c := ⟨Bx.new _ _ _, (Below.refl _ _).alloc (Nat.le_refl _) _⟩
  have HA := Lib.hid (h.on C.bel)
  have HC := Lib.hid C
  clear h hb C
  by_cases h3 : g3 = 0
  · have hg2 := hgl h3
    rw [hn] at hg2
    clear hgl
    subst h3
    clear hn
    by_cases hl : c.mru < ((n - g2 : Nat) : Int)
    · rw [if_pos rfl, if_pos hl] at E
      rw [E.out]
      go_enter Tryd.func32, Tryd.ntmps32
      go_wp2_with fail
      refine (hget_b c l g1 g2 0 hg.out A n cp _ HA.out HB.out HL.out hc (by omega)).mono ?_
      rintro e w2 ⟨rfl, hb2⟩
      have C2 := Lib.hid (HC.out.step hb2)
      have HA2 := Lib.hid (HA.out.on hb2)
      clear hb2 HA HC
      have hgc : (g2 : Int) ≤ (cp : Int) := by omega
      have hgn : (g2 : Int) ≤ (n : Int) := by omega
      have hg0 : (0 : Int) ≤ (g2 : Int) := by omega
      have hnc : (n : Int) ≤ (cp : Int) := by omega
      obtain ⟨x0, x1, x2, x3, x4, x5, x6⟩ := C2.out.x.all
      go_wp2_with fail
      all_goals
        go_ret3
        exact ⟨_, _, _, rfl, rfl, Nat.le_refl _, Rd.nil, C2.out.bel⟩
    · rw [if_pos rfl, if_neg hl] at E
      rw [E.out]
      go_enter Tryd.func32, Tryd.ntmps32
      go_wp2_with fail
      refine (hget_b c l g1 g2 0 hg.out A n cp _ HA.out HB.out HL.out hc (by omega)).mono ?_
      rintro e w2 ⟨rfl, hb2⟩
      have C2 := Lib.hid (HC.out.step hb2)
      have HA2 := Lib.hid (HA.out.on hb2)
      clear hb2 HA HC
      have hgc : (g2 : Int) ≤ (cp : Int) := by omega
      have hgn : (g2 : Int) ≤ (n : Int) := by omega
      have hg0 : (0 : Int) ≤ (g2 : Int) := by omega
      have hnc : (n : Int) ≤ (cp : Int) := by omega
      obtain ⟨x0, x1, x2, x3, x4, x5, x6⟩ := C2.out.x.all
      have HD := Lib.hid (HA2.out.cut (k := g2) (c := cp) (by rw [HL.out]; exact hg2) (by rw [HL.out]; exact hc))
      by_cases hcc : cp = g2
      · rw [if_pos hcc] at HD
        go_wp2_with fail
        refine (clone_any (l.drop g2) (n - g2) _ _ _ HD.out (by rw [List.length_drop, HL.out]) (by omega)).mono ?_
        rintro e w3 ⟨A3, c3, rfl, hN⟩
        go_wp2_with fail
        go_ret3
        exact ⟨_, _, _, rfl, hN.1, own_cap hN.2.1, hN.2.2.1, C2.out.bel.trans (hN.2.2.2.mono C2.out.bel.size)⟩
      · rw [if_neg hcc] at HD
        go_wp2_with fail
        refine (clone_any (l.drop g2) (n - g2) _ _ _ HD.out (by rw [List.length_drop, HL.out]) (by omega)).mono ?_
        rintro e w3 ⟨A3, c3, rfl, hN⟩
        go_wp2_with fail
        go_ret3
        exact ⟨_, _, _, rfl, hN.1, own_cap hN.2.1, hN.2.2.1, C2.out.bel.trans (hN.2.2.2.mono C2.out.bel.size)⟩
  · have h3' : ((g3 : Int) != 0) = true := by rw [bne_iff_ne]; omega
    rw [if_neg h3] at E
    rw [E.out]
    go_enter Tryd.func32, Tryd.ntmps32
    go_wp2_with fail
    refine (hget_b c l g1 g2 g3 hg.out A n cp _ HA.out HB.out HL.out hc (by omega)).mono ?_
    rintro e w2 ⟨rfl, hb2⟩
    have C2 := Lib.hid (HC.out.step hb2)
    clear hb2
    go_wp2_with fail
    go_ret3
    exact ⟨_, _, _, rfl, rfl, Nat.le_refl _, Rd.nil, C2.out.bel⟩

theorem mostI_eq (c : Cf) : mostI c = c.mru + 4 + (sizeW c.wide : Int) := by cases h : c.wide <;> simp [mostI, sizeI, sizeW, h]

set_option maxHeartbeats 1000000 in
theorem parse_any (c : Cf) (hc : c.may) (l : List Nat) (A : Option Addr) (n cp : Nat) (w : World) (h : Rd w w.heap.size A l) (hb : By l) (hn : l.length = n) (hcp : n ≤ cp) (hm : n ≤ 1000000) (hT : Tabs w) :
    Calls Tryd.prog 14 #[c.val, .slice A n cp] w (Gives (parseB c l) .u16 w) := by
  have HL := Lib.hid hn
  have HB := Lib.hid hb
  have C : One w (w.alloc (c.obj 29)) w.heap.size 29 c := ⟨Bx.new _ _ _, (Below.refl _ _).alloc (Nat.le_refl _) _⟩
  have HA := Lib.hid (h.on C.bel)
  have HT := Lib.hid (hT.below C.bel)
  have HC := Lib.hid C
  have hz := size_pos c.wide
  have HM := Lib.hid (mostI_eq c)
  have hmru := hc
  unfold Cf.may at hmru
  have HZ := size_any c.wide
  obtain ⟨z, hzz⟩ : ∃ z, Hid (sizeW c.wide = z) := ⟨_, Lib.hid rfl⟩
  obtain ⟨m, hmm⟩ : ∃ m, Hid (mostI c = m) := ⟨_, Lib.hid rfl⟩
  have E := Lib.hid (show parseB c l = if m < (n : Int) then (0, [], 3) else if n ≤ z then (0, [], 2) else if goodW c.wide l = true then partB c (l.take (n - z)) else (0, [], 6) by simp only [parseB, hn, hzz.out, hmm.out])
  rw [hzz.out] at HM hz HZ
  rw [hmm.out] at HM
  have hM := HM.out
  clear h hb C hT HM hn
  by_cases h1 : m < (n : Int)
  · rw [if_pos h1] at E
    rw [E.out]
    clear E
    go_enter Tryd.func14, Tryd.ntmps14
    go_wp2_with (go_at_call 19; with_reducible refine (HZ _).mono ?_; rintro e w' ⟨rfl, rfl⟩)
    refine (most_any c hc _).mono ?_
    rintro e w2 ⟨rfl, hb2⟩
    rw [hmm.out]
    have C2 := Lib.hid (HC.out.step hb2)
    clear hb2 hM
    go_wp2_with fail
    go_ret3
    exact ⟨_, _, _, rfl, rfl, Nat.le_refl _, Rd.nil, C2.out.bel⟩
  rw [if_neg h1] at E
  by_cases h2 : n ≤ z
  · rw [if_pos h2] at E
    rw [E.out]
    have h2' : (n : Int) ≤ (z : Int) := by omega
    clear E
    go_enter Tryd.func14, Tryd.ntmps14
    go_wp2_with (go_at_call 19; with_reducible refine (HZ _).mono ?_; rintro e w' ⟨rfl, rfl⟩)
    refine (most_any c hc _).mono ?_
    rintro e w2 ⟨rfl, hb2⟩
    rw [hmm.out]
    have C2 := Lib.hid (HC.out.step hb2)
    clear hb2 hM
    go_wp2_with fail
    go_ret3
    exact ⟨_, _, _, rfl, rfl, Nat.le_refl _, Rd.nil, C2.out.bel⟩
  rw [if_neg h2] at E
  have h2' : ¬ (n : Int) ≤ (z : Int) := by omega
  cases h3 : goodW c.wide l
  · rw [h3, if_neg (by decide)] at E
    rw [E.out]
    clear E
    go_enter Tryd.func14, Tryd.ntmps14
    go_wp2_with (go_at_call 19; with_reducible refine (HZ _).mono ?_; rintro e w' ⟨rfl, rfl⟩)
    refine (most_any c hc _).mono ?_
    rintro e w2 ⟨rfl, hb2⟩
    rw [hmm.out]
    have C2 := Lib.hid (HC.out.step hb2)
    have HA2 := Lib.hid (HA.out.on hb2)
    have HT2 := Lib.hid (HT.out.below hb2)
    obtain ⟨x0, x1, x2, x3, x4, x5, x6⟩ := C2.out.x.all
    clear hb2 hM
    go_wp2_with fail
    clear x0 x1 x2 x3 x4 x5 x6
    refine (good_any c.wide l n A cp _ HA2.out HB.out HL.out (by omega) hcp HT2.out).mono ?_
    rintro e w3 ⟨rfl, hb3⟩
    rw [h3]
    have C3 := Lib.hid (C2.out.step hb3)
    clear hb3
    go_wp2_with fail
    go_ret3
    exact ⟨_, _, _, rfl, rfl, Nat.le_refl _, Rd.nil, C3.out.bel⟩
  · rw [h3, if_pos rfl] at E
    rw [E.out]
    clear E
    obtain ⟨k, hk, hS, i1, i2⟩ : ∃ k : Nat, Hid (n - z = k) ∧ (n : Int) - (z : Int) = (k : Int) ∧ (0 : Int) ≤ (k : Int) ∧ (k : Int) ≤ (cp : Int) := ⟨n - z, Lib.hid rfl, by omega, by omega, by omega⟩
    rw [hk.out]
    have hkn : Hid (k ≤ n) := Lib.hid (by have := hk.out; omega)
    have HTk := Lib.hid (show (l.take k).length = k by rw [List.length_take, HL.out]; have := hkn.out; omega)
    have HS := Lib.hid hS
    clear hS
    go_enter Tryd.func14, Tryd.ntmps14
    go_wp2_with (go_at_call 19; with_reducible refine (HZ _).mono ?_; rintro e w' ⟨rfl, rfl⟩)
    refine (most_any c hc _).mono ?_
    rintro e w2 ⟨rfl, hb2⟩
    rw [hmm.out]
    have C2 := Lib.hid (HC.out.step hb2)
    have HA2 := Lib.hid (HA.out.on hb2)
    have HT2 := Lib.hid (HT.out.below hb2)
    obtain ⟨x0, x1, x2, x3, x4, x5, x6⟩ := C2.out.x.all
    clear hb2 hM
    go_wp2_with fail
    clear x0 x1 x2 x3 x4 x5 x6
    refine (good_any c.wide l n A cp _ HA2.out HB.out HL.out (by omega) hcp HT2.out).mono ?_
    rintro e w3 ⟨rfl, hb3⟩
    rw [h3]
    have C3 := Lib.hid (C2.out.step hb3)
    have HA3 := Lib.hid (HA2.out.on hb3)
    clear hb3
    go_wp2_with fail
    have hS := HS.out
    have hWr : IntKind.i64.wrap ((n : Int) - (z : Int)) = (k : Int) := by rw [hS]; exact IntWalk.i64_in _ (by omega)
    have hWk : IntKind.i64.wrap (k : Int) = (k : Int) := IntWalk.i64_in _ (by omega)
    have i3 : k ≤ cp := by omega
    obtain ⟨x0, x1, x2, x3, x4, x5, x6⟩ := C3.out.x.all
    go_region_held3 (fun W => Bc W w.heap.size c) (first | exact C3.out.x.all | exact C3.out.drew.x.all) (first
      | (go_at_call 32; (with_reducible refine (part_any c (l.take k) A k cp _ ((HA3.out.drewN 1).take _) (HB.out.take _) HTk.out (Nat.le_trans hkn.out hcp) (Nat.le_trans hkn.out hm)).mono ?_); rintro e w4 ⟨A4, c4, n4, rfl, hl4, hc4, hr4, hb4⟩; replace C3 := Lib.hid (C3.out.drew.step hb4); clear hb4; dsimp only))
    clear x0 x1 x2 x3 x4 x5 x6
    go_wp2_with fail
    go_ret3
    exact ⟨_, _, _, rfl, hl4, hc4, hr4, C3.out.bel⟩

set_option maxHeartbeats 1000000 in
theorem rparse_any (c : Cf) (hc : c.may) (l : List Nat) (A : Option Addr) (n cp : Nat) (w : World) (h : Rd w w.heap.size A l) (hb : By l) (hn : l.length = n) (hcp : n ≤ cp) (hm : n ≤ 1000000) :
    Calls Tryd.prog 15 #[c.val, .slice A n cp] w (Gives (parseB c l) .i64 w) := by
  have HL := Lib.hid hn
  have HB := Lib.hid hb
  have C : One w (w.alloc (c.obj 24)) w.heap.size 24 c := ⟨Bx.new _ _ _, (Below.refl _ _).alloc (Nat.le_refl _) _⟩
  have HA := Lib.hid (h.on C.bel)
  have HC := Lib.hid C
  have hz := size_pos c.wide
  have HM := Lib.hid (mostI_eq c)
  have hmru := hc
  unfold Cf.may at hmru
  have HZ := rsize_any c.wide
  obtain ⟨z, hzz⟩ : ∃ z, Hid (sizeW c.wide = z) := ⟨_, Lib.hid rfl⟩
  obtain ⟨m, hmm⟩ : ∃ m, Hid (mostI c = m) := ⟨_, Lib.hid rfl⟩
  have E := Lib.hid (show parseB c l = if m < (n : Int) then (0, [], 3) else if n ≤ z then (0, [], 2) else if goodW c.wide l = true then partB c (l.take (n - z)) else (0, [], 6) by simp only [parseB, hn, hzz.out, hmm.out])
  rw [hzz.out] at HM hz HZ
  rw [hmm.out] at HM
  have hM := HM.out
  clear h hb C HM hn
  by_cases h1 : m < (n : Int)
  · rw [if_pos h1] at E
    rw [E.out]
    clear E
    go_enter Tryd.func15, Tryd.ntmps15
    go_wp2_with fail
    refine (rmost_any c hc _).mono ?_
    rintro e w2 ⟨rfl, hb2⟩
    rw [hmm.out]
    have C2 := Lib.hid (HC.out.step hb2)
    clear hb2 hM
    go_wp2_with fail
    go_ret3
    exact ⟨_, _, _, rfl, rfl, Nat.le_refl _, Rd.nil, C2.out.bel⟩
  rw [if_neg h1] at E
  by_cases h2 : n ≤ z
  · rw [if_pos h2] at E
    rw [E.out]
    have h2' : (n : Int) - (z : Int) ≤ 0 := by omega
    clear E
    go_enter Tryd.func15, Tryd.ntmps15
    go_wp2_with fail
    refine (rmost_any c hc _).mono ?_
    rintro e w2 ⟨rfl, hb2⟩
    rw [hmm.out]
    have C2 := Lib.hid (HC.out.step hb2)
    clear hb2 hM
    obtain ⟨x0, x1, x2, x3, x4, x5, x6⟩ := C2.out.x.all
    go_wp2_with (go_at_call 34; with_reducible refine (HZ _).mono ?_; rintro e w' ⟨rfl, rfl⟩)
    go_ret3
    exact ⟨_, _, _, rfl, rfl, Nat.le_refl _, Rd.nil, C2.out.bel⟩
  rw [if_neg h2] at E
  obtain ⟨k, hk, hS, i1, i2, i3⟩ : ∃ k : Nat, Hid (n - z = k) ∧ (n : Int) - (z : Int) = (k : Int) ∧ (0 : Int) ≤ (k : Int) ∧ (k : Int) ≤ (cp : Int) ∧ ¬ (k : Int) ≤ 0 := ⟨n - z, Lib.hid rfl, by omega, by omega, by omega, by omega⟩
  rw [hk.out] at E
  have hkn : Hid (k ≤ n) := Lib.hid (by have := hk.out; omega)
  have HTk := Lib.hid (show (l.take k).length = k by rw [List.length_take, HL.out]; have := hkn.out; omega)
  have HS := Lib.hid hS
  clear hS
  cases h3 : goodW c.wide l
  · rw [h3, if_neg (by decide)] at E
    rw [E.out]
    clear E
    go_enter Tryd.func15, Tryd.ntmps15
    go_wp2_with fail
    refine (rmost_any c hc _).mono ?_
    rintro e w2 ⟨rfl, hb2⟩
    rw [hmm.out]
    have C2 := Lib.hid (HC.out.step hb2)
    have HA2 := Lib.hid (HA.out.on hb2)
    have hS := HS.out
    clear hb2 hM
    obtain ⟨x0, x1, x2, x3, x4, x5, x6⟩ := C2.out.x.all
    go_wp2_with (go_at_call 34; with_reducible refine (HZ _).mono ?_; rintro e w' ⟨rfl, rfl⟩)
    refine (rgood_any c.wide l n A cp _ HA2.out HB.out HL.out (by omega) hcp).mono ?_
    rintro e w3 ⟨rfl, hb3⟩
    rw [h3]
    have C3 := Lib.hid (C2.out.step hb3)
    clear hb3 x0 x1 x2 x3 x4 x5 x6
    go_wp2_with fail
    go_ret3
    exact ⟨_, _, _, rfl, rfl, Nat.le_refl _, Rd.nil, C3.out.bel⟩
  · rw [h3, if_pos rfl] at E
    obtain ⟨g1, g2, g3, hg⟩ : ∃ g1 g2 g3, Hid (hgetB c (l.take k) = (g1, g2, g3)) := ⟨_, _, _, Lib.hid rfl⟩
    have hgl : g3 = 0 → g2 ≤ k := fun h0 => by subst h0; have := (hget_all (HB.out.take k) hg.out).2.1; rw [HTk.out] at this; exact this
    have E2 := Lib.hid (show partB c (l.take k) = if g3 = 0 then (if c.mru < ((k - g2 : Nat) : Int) then (0, [], 3) else (g1, (l.take k).drop g2, 0)) else (0, [], g3) by simp only [partB, hg.out, HTk.out])
    rw [E2.out] at E
    have e2 := E2
    clear E2 e2
    by_cases hg3 : g3 = 0
    case neg =>
      have hg3' : ((g3 : Int) != 0) = true := by rw [bne_iff_ne]; omega
      rw [if_neg hg3] at E
      rw [E.out]
      clear E
      go_enter Tryd.func15, Tryd.ntmps15
      go_wp2_with fail
      refine (rmost_any c hc _).mono ?_
      rintro e w2 ⟨rfl, hb2⟩
      rw [hmm.out]
      have C2 := Lib.hid (HC.out.step hb2)
      have HA2 := Lib.hid (HA.out.on hb2)
      have hS := HS.out
      clear hb2 hM
      obtain ⟨x0, x1, x2, x3, x4, x5, x6⟩ := C2.out.x.all
      go_wp2_with (go_at_call 34; with_reducible refine (HZ _).mono ?_; rintro e w' ⟨rfl, rfl⟩)
      refine (rgood_any c.wide l n A cp _ HA2.out HB.out HL.out (by omega) hcp).mono ?_
      rintro e w3 ⟨rfl, hb3⟩
      rw [h3]
      have C3 := Lib.hid (C2.out.step hb3)
      have HA3 := Lib.hid (HA2.out.on hb3)
      clear hb3 x0 x1 x2 x3 x4 x5 x6
      go_wp2_with fail
      obtain ⟨x0, x1, x2, x3, x4, x5, x6⟩ := C3.out.x.all
      go_region_held3 (fun W => Bc W w.heap.size c) (first | exact C3.out.x.all | exact C3.out.drew.x.all) (first
        | (go_at_call 36; (with_reducible refine (rhget_b c (l.take k) g1 g2 g3 hg.out A k cp _ ((HA3.out.drewN 1).take _) (HB.out.take _) HTk.out (Nat.le_trans hkn.out hcp) (by omega)).mono ?_); rintro e w4 ⟨rfl, hb4⟩; replace C3 := Lib.hid (C3.out.drew.step hb4); clear hb4; dsimp only))
      clear x0 x1 x2 x3 x4 x5 x6
      go_wp2_with fail
      go_ret3
      exact ⟨_, _, _, rfl, rfl, Nat.le_refl _, Rd.nil, C3.out.bel⟩
    case pos =>
      have hg2 := hgl hg3
      subst hg3
      rw [if_pos rfl] at E
      have hgk : (g2 : Int) ≤ (k : Int) := by omega
      have hg0 : (0 : Int) ≤ (g2 : Int) := by omega
      have hgc : (g2 : Int) ≤ (cp : Int) := by omega
      have hmk : ((k : Int) - (g2 : Int)) = ((k - g2 : Nat) : Int) := by omega
      by_cases hl : c.mru < ((k - g2 : Nat) : Int)
      · rw [if_pos hl] at E
        rw [E.out]
        have hl' : c.mru < (k : Int) - (g2 : Int) := by omega
        have HMK := Lib.hid hmk
        clear E hmk hgl
        go_enter Tryd.func15, Tryd.ntmps15
        go_wp2_with fail
        refine (rmost_any c hc _).mono ?_
        rintro e w2 ⟨rfl, hb2⟩
        rw [hmm.out]
        have C2 := Lib.hid (HC.out.step hb2)
        have HA2 := Lib.hid (HA.out.on hb2)
        have hS := HS.out
        clear hb2 hM
        obtain ⟨x0, x1, x2, x3, x4, x5, x6⟩ := C2.out.x.all
        go_wp2_with (go_at_call 34; with_reducible refine (HZ _).mono ?_; rintro e w' ⟨rfl, rfl⟩)
        refine (rgood_any c.wide l n A cp _ HA2.out HB.out HL.out (by omega) hcp).mono ?_
        rintro e w3 ⟨rfl, hb3⟩
        rw [h3]
        have C3 := Lib.hid (C2.out.step hb3)
        have HA3 := Lib.hid (HA2.out.on hb3)
        clear hb3 x0 x1 x2 x3 x4 x5 x6
        go_wp2_with fail
        obtain ⟨x0, x1, x2, x3, x4, x5, x6⟩ := C3.out.x.all
        go_region_held3 (fun W => Bc W w.heap.size c) (first | exact C3.out.x.all | exact C3.out.drew.x.all) (first
          | (go_at_call 36; (with_reducible refine (rhget_b c (l.take k) g1 g2 0 hg.out A k cp _ ((HA3.out.drewN 1).take _) (HB.out.take _) HTk.out (Nat.le_trans hkn.out hcp) (by omega)).mono ?_); rintro e w4 ⟨rfl, hb4⟩; replace C3 := Lib.hid (C3.out.drew.step hb4); clear hb4; dsimp only))
        clear x0 x1 x2 x3 x4 x5 x6
        obtain ⟨x0, x1, x2, x3, x4, x5, x6⟩ := C3.out.x.all
        go_wp2_with fail
        go_ret3
        exact ⟨_, _, _, rfl, rfl, Nat.le_refl _, Rd.nil, C3.out.bel⟩
      · rw [if_neg hl] at E
        rw [E.out]
        have hl' : ¬ c.mru < (k : Int) - (g2 : Int) := by omega
        have HMK := Lib.hid hmk
        have HDl := Lib.hid (show ((l.take k).drop g2).length = k - g2 by rw [List.length_drop, HTk.out])
        clear E hmk hgl
        go_enter Tryd.func15, Tryd.ntmps15
        go_wp2_with fail
        refine (rmost_any c hc _).mono ?_
        rintro e w2 ⟨rfl, hb2⟩
        rw [hmm.out]
        have C2 := Lib.hid (HC.out.step hb2)
        have HA2 := Lib.hid (HA.out.on hb2)
        have hS := HS.out
        clear hb2 hM
        obtain ⟨x0, x1, x2, x3, x4, x5, x6⟩ := C2.out.x.all
        go_wp2_with (go_at_call 34; with_reducible refine (HZ _).mono ?_; rintro e w' ⟨rfl, rfl⟩)
        refine (rgood_any c.wide l n A cp _ HA2.out HB.out HL.out (by omega) hcp).mono ?_
        rintro e w3 ⟨rfl, hb3⟩
        rw [h3]
        have C3 := Lib.hid (C2.out.step hb3)
        have HA3 := Lib.hid (HA2.out.on hb3)
        clear hb3 x0 x1 x2 x3 x4 x5 x6
        go_wp2_with fail
        obtain ⟨x0, x1, x2, x3, x4, x5, x6⟩ := C3.out.x.all
        go_region_held3 (fun W => Bc W w.heap.size c) (first | exact C3.out.x.all | exact C3.out.drew.x.all) (first
          | (go_at_call 36; (with_reducible refine (rhget_b c (l.take k) g1 g2 0 hg.out A k cp _ ((HA3.out.drewN 1).take _) (HB.out.take _) HTk.out (Nat.le_trans hkn.out hcp) (by omega)).mono ?_); rintro e w4 ⟨rfl, hb4⟩; replace C3 := Lib.hid (C3.out.drew.step hb4); have HA4 := Lib.hid (HA3.out.on ((Below.refl _ _).drew.trans hb4)); clear hb4; dsimp only))
        clear x0 x1 x2 x3 x4 x5 x6
        obtain ⟨x0, x1, x2, x3, x4, x5, x6⟩ := C3.out.x.all
        have HD := Lib.hid ((HA4.out.take k).cut (k := g2) (c := cp) (by rw [HTk.out]; exact hg2) (by rw [HTk.out]; exact Nat.le_trans hkn.out hcp))
        go_wp2_with fail
        go_quiet (fail)
        all_goals
          go_wp2_with fail
          go_ret3
          first
            | (rw [if_pos (by omega)] at HD; exact ⟨_, _, _, rfl, HDl.out, by omega, HD.out.drewN _, below_drewN C3.out.bel _⟩)
            | (rw [if_neg (by omega)] at HD; exact ⟨_, _, _, rfl, HDl.out, by omega, HD.out.drewN _, below_drewN C3.out.bel _⟩)

end Go.Proofs.YtkakkligndejaaaDoor
