
/-
  The walk of the statement FragTells: it answers true for every piece and all octets. Condition: the shapes stand as the start-up lays them ('TabF').
-/
import Derived.Test.YtdeabomcmbgepaaDoorFrgV
import Derived.Test.YtdeabomcmbgepaaDoorFrgH
namespace Go.Proofs.YtdeabomcmbgepaaDoor
open Go.RowKit

/-- What a law knows: the piece's block, the piece's data and the octets, where they lie; the shapes. -/
structure FrW (w W : World) (g : Nat) (b e : Bool) (x : Int) (A : Option Addr) (n c : Nat) (l : List Nat) (B : Option Addr) (m : List Nat) : Prop where
  bel : Below w.heap.size w W
  box : FrX W g 24 b e x A n c
  ra : Rd W W.heap.size A l
  rb : Rd W W.heap.size B m
  tab : TabF W
section
variable {w W W' : World} {g : Nat} {b e : Bool} {x : Int} {A : Option Addr} {n c : Nat} {l : List Nat} {B : Option Addr} {m : List Nat}
theorem FrW.step (h : FrW w W g b e x A n c l B m) (hb : Below W.heap.size W W') : FrW w W' g b e x A n c l B m := ⟨h.bel.trans (hb.mono h.bel.size), h.box.on hb, h.ra.on hb, h.rb.on hb, h.tab.below hb⟩
theorem FrW.al (h : FrW w W g b e x A n c l B m) (o : Obj) : FrW w (W.alloc o) g b e x A n c l B m := h.step ((Below.refl _ _).alloc (Nat.le_refl _) o)
theorem FrW.start (h : Rd w w.heap.size A l) (h' : Rd w w.heap.size B m) (hT : TabF w) (b e : Bool) (x : Int) (n c : Nat) : FrW w (w.alloc (.cells #[.bool b, .bool e, .int .i64 x, .slice A n c] 24)) w.heap.size b e x A n c l B m :=
  ⟨(Below.refl _ _).alloc (Nat.le_refl _) _, FrX.new _ _ _ _ _ _ _ _, h.on ((Below.refl _ _).alloc (Nat.le_refl _) _), h'.on ((Below.refl _ _).alloc (Nat.le_refl _) _), hT.below ((Below.refl _ _).alloc (Nat.le_refl _) _)⟩
end
theorem frhead_le (s b e : Bool) (n : Nat) : (frhead s b e n).length ≤ 4 := by rw [frhead_len]; cases s <;> simp [frsz]
theorem frputA_le (s : Bool) (p : Pc) : (frputA s p).length ≤ 4 + p.d.length := by
  unfold frputA
  split
  · rw [List.length_append]
    have := frhead_le s p.b p.e p.n.toNat
    omega
  · simp
theorem frget_le (s : Bool) (l : List Nat) : (frget s l).1.d.length ≤ l.length := by
  unfold frget
  split
  · simp
  · split
    · simp
    · show (l.drop _).length ≤ _
      rw [List.length_drop]
      omega
theorem frget_by (s : Bool) {l : List Nat} (h : By l) : By (frget s l).1.d := by
  unfold frget
  split
  · exact By.nil
  · split
    · exact By.nil
    · exact h.drop _

set_option maxHeartbeats 2000000 in
theorem frtells_long (s b e : Bool) (x : Int) (A : Option Addr) (n c : Nat) (l : List Nat) (B : Option Addr) (m d : Nat) (k : List Nat) (w : World) (h : Rd w w.heap.size A l) (h' : Rd w w.heap.size B k) (hlong : 1000 < n ∨ 1000 < m) (hT : TabF w) :
    Calls Tryd.prog 3 #[.bool s, fV b e x A n c, .slice B m d] w fun r w' => r = .returned (.bool true) ∧ Below w.heap.size w w' := by
  have C := Lib.hid (FrW.start h h' hT b e x n c)
  by_cases c1 : 1000 < n
  · have j1 : (1000 : Int) < n := by omega
    clear h h' hT hlong c1
    go_enter Tryd.func3, Tryd.ntmps3
    go_wp2_with (go_at_call 8; (with_reducible refine (frspeaks _ C.out.tab).mono ?_); rintro r w2 ⟨rfl, hb⟩; replace C := Lib.hid (C.out.step hb); clear hb; have y3 := C.out.box.c3)
    go_ret
    exact ⟨rfl, C.out.bel⟩
  · have j1 : ¬ (1000 : Int) < n := by omega
    have j2 : (1000 : Int) < m := by omega
    clear h h' hT hlong c1
    go_enter Tryd.func3, Tryd.ntmps3
    go_wp2_with (go_at_call 8; (with_reducible refine (frspeaks _ C.out.tab).mono ?_); rintro r w2 ⟨rfl, hb⟩; replace C := Lib.hid (C.out.step hb); clear hb; have y3 := C.out.box.c3)
    go_ret
    exact ⟨rfl, C.out.bel⟩

set_option maxHeartbeats 4000000 in
theorem frtells_walk (s b e : Bool) (x : Int) (A : Option Addr) (n c : Nat) (l : List Nat) (B : Option Addr) (m d : Nat) (k : List Nat) (w : World) (hp : IsPc w b e x A n c l) (hk : k.length = m) (hmd : m ≤ d) (hkb : By k) (h' : Rd w w.heap.size B k) (hT : TabF w) :
    Calls Tryd.prog 3 #[.bool s, fV b e x A n c, .slice B m d] w fun r w' => r = .returned (.bool true) ∧ Below w.heap.size w w' := by
  by_cases hlong : 1000 < n ∨ 1000 < m
  · exact frtells_long s b e x A n c l B m d k w hp.rd h' hlong hT
  have j1 : ¬ (1000 : Int) < n := by omega
  have j2 : ¬ (1000 : Int) < m := by omega
  have C := Lib.hid (FrW.start hp.rd h' hT b e x n c)
  obtain ⟨z, hz⟩ : ∃ z, Hid ((frputA s ⟨b, e, x, l⟩).length = z) := ⟨_, Lib.hid rfl⟩
  obtain ⟨q, hq⟩ : ∃ q, Hid (frputE s ⟨b, e, x, l⟩ = q) := ⟨_, Lib.hid rfl⟩
  obtain ⟨p, v, hg⟩ : ∃ p v, Hid (frget s k = (p, v)) := ⟨_, _, Lib.hid rfl⟩
  obtain ⟨u, hu⟩ : ∃ u, Hid (p.d.length = u) := ⟨_, Lib.hid rfl⟩
  have HL := Lib.hid hp.nl
  have HK := Lib.hid hk
  have HN := Lib.hid (show n ≤ 1000 by omega)
  have HM := Lib.hid (show m ≤ 1000 by omega)
  have HZ := Lib.hid (show z ≤ 1099511627776 by have h1 := frputA_le s ⟨b, e, x, l⟩; rw [hz.out] at h1; have h2 := hp.nl; have h3 : (Pc.mk b e x l).d.length = l.length := rfl; omega)
  have HKB := Lib.hid hkb
  have HMD := Lib.hid hmd
  have HPB := Lib.hid (show ByF [p] from fun y hy => by
    rw [List.mem_singleton] at hy
    subst hy
    have := frget_by s hkb
    rw [hg.out] at this
    exact this)
  clear hp hk hmd hkb h' hT hlong
  go_enter Tryd.func3, Tryd.ntmps3
  go_upto_region 3 with (go_at_call 8; (with_reducible refine (frspeaks _ C.out.tab).mono ?_); rintro r w2 ⟨rfl, hb⟩; replace C := Lib.hid (C.out.step hb); clear hb; have y3 := C.out.box.c3)
  have y0 := C.out.box.c0
  have y1 := C.out.box.c1
  have y2 := C.out.box.c2
  go_upto_region 6 with (first
    | (go_at_call 9; (with_reducible refine (frput_any s b e x A l n c _ C.out.ra HL.out (Nat.le_trans HN.out (by decide)) C.out.tab z q hz.out hq.out).mono ?_); rintro r w3 ⟨A1, c1, rfl, HN1⟩; replace C := Lib.hid (C.out.step HN1.2.2.2); have R1 := Lib.hid HN1.2.2.1; clear HN1 y0 y1 y2 y3; have y0 := C.out.box.c0; have y1 := C.out.box.c1; have y2 := C.out.box.c2; have y3 := C.out.box.c3)
    | (go_at_call 10; (with_reducible refine (frrput_any s b e x A l n c _ C.out.ra HL.out (Nat.le_trans HN.out (by decide)) z q hz.out hq.out).mono ?_); rintro r w4 ⟨A2, c2, rfl, HN2⟩; replace C := Lib.hid (C.out.step HN2.2.2.2); replace R1 := Lib.hid (R1.out.on HN2.2.2.2); have R2 := Lib.hid HN2.2.2.1; clear HN2 y0 y1 y2 y3)
    | (go_at_call 11; (with_reducible refine (frget_any s k p v hg.out u hu.out m d B _ C.out.rb HKB.out HK.out (Nat.le_trans HM.out (by decide)) HMD.out C.out.tab).mono ?_); rintro r w5 ⟨A3, c3, rfl, HN3⟩; replace C := Lib.hid (C.out.step HN3.2.2.2); replace R1 := Lib.hid (R1.out.on HN3.2.2.2); replace R2 := Lib.hid (R2.out.on HN3.2.2.2); have R3 := Lib.hid HN3.2.2.1; have K3 := Lib.hid (own_cap HN3.2.1); clear HN3))
  with_reducible refine at_worldF (fun W => Hid (FrW w W w.heap.size b e x A n c l B k) ∧ Hid (Rd W W.heap.size A1 (frputA s ⟨b, e, x, l⟩)) ∧ Hid (Rd W W.heap.size A2 (frputA s ⟨b, e, x, l⟩)) ∧ Hid (Rd W W.heap.size A3 p.d) ∧ Hid (FrX W w5.heap.size 29 p.b p.e p.n A3 u c3)) ⟨Lib.hid (C.out.al _), Lib.hid (R1.out.on ((Below.refl _ _).alloc (Nat.le_refl _) _)), Lib.hid (R2.out.on ((Below.refl _ _).alloc (Nat.le_refl _) _)), Lib.hid (R3.out.on ((Below.refl _ _).alloc (Nat.le_refl _) _)), Lib.hid (FrX.new _ _ _ _ _ _ _ _)⟩ ?_
  clear C R1 R2 R3
  generalize w5.heap.size = g11
  rintro w6 ⟨C, R1, R2, R3, X11⟩
  go_upto_region 7 with (go_at_call 12; (with_reducible refine (frrget_any s k p v hg.out u hu.out m d B _ C.out.rb HKB.out HK.out (Nat.le_trans HM.out (by decide)) HMD.out).mono ?_); rintro r w7 ⟨A4, c4, rfl, K4, R4', hb7⟩; replace C := Lib.hid (C.out.step hb7); replace R1 := Lib.hid (R1.out.on hb7); replace R2 := Lib.hid (R2.out.on hb7); replace R3 := Lib.hid (R3.out.on hb7); replace X11 := Lib.hid (X11.out.on hb7); have R4 := Lib.hid R4'; replace K4 := Lib.hid K4; clear hb7 R4')
  with_reducible refine at_worldF (fun W => Hid (Below w.heap.size w W) ∧ Hid (Rd W W.heap.size A1 (frputA s ⟨b, e, x, l⟩)) ∧ Hid (Rd W W.heap.size A2 (frputA s ⟨b, e, x, l⟩)) ∧ Hid (Rd W W.heap.size A3 p.d) ∧ Hid (Rd W W.heap.size A4 p.d) ∧ Hid (FrX W g11 29 p.b p.e p.n A3 u c3) ∧ Hid (FrX W w7.heap.size 24 p.b p.e p.n A4 u c4)) ⟨Lib.hid (C.out.al _).bel, Lib.hid (R1.out.on ((Below.refl _ _).alloc (Nat.le_refl _) _)), Lib.hid (R2.out.on ((Below.refl _ _).alloc (Nat.le_refl _) _)), Lib.hid (R3.out.on ((Below.refl _ _).alloc (Nat.le_refl _) _)), Lib.hid (R4.out.on ((Below.refl _ _).alloc (Nat.le_refl _) _)), Lib.hid (X11.out.on ((Below.refl _ _).alloc (Nat.le_refl _) _)), Lib.hid (FrX.new _ _ _ _ _ _ _ _)⟩ ?_
  clear C R1 R2 R3 R4 X11
  generalize w7.heap.size = g13
  rintro w8 ⟨BW, R1, R2, R3, R4, X11, X13⟩
  go_wp2_with (first
    | (go_at_call 13; (with_reducible refine (equal_yes (frputA s ⟨b, e, x, l⟩) (frputA s ⟨b, e, x, l⟩) z z _ _ _ _ _ R1.out R2.out hz.out hz.out HZ.out rfl).mono ?_); rintro r w9 ⟨rfl, hb9⟩; replace BW := Lib.hid (BW.out.trans (hb9.mono BW.out.size)); have L := Lib.hid (fr_lits w9 24 24 (b := p.b) (e := p.e) (x := p.n) (b' := p.b) (e' := p.e) (x' := p.n) (R3.out.on hb9) (R4.out.on hb9) hu.out hu.out K3.out K4.out); replace X11 := X11.out.on hb9; replace X13 := X13.out.on hb9; have y0 := X11.c0; have y1 := X11.c1; have y2 := X11.c2; have y3 := X11.c3; have x0 := X13.c0; have x1 := X13.c1; have x2 := X13.c2; have x3 := X13.c3; have l1 := X11.lt; have l3 := X13.lt; clear hb9 X11 X13)
    | (go_at_call 14; (with_reducible refine (frsame_any [p] [p] 1 1 1 1 _ _ _ _ _ L.out.1 L.out.2.1 HPB.out HPB.out rfl rfl (by omega) true (decide_eq_true rfl)).mono ?_); rintro r w10 ⟨rfl, hb10⟩))
  go_ret
  exact ⟨rfl, BW.out.trans ((L.out.2.2.mono BW.out.size).trans (hb10.mono (Nat.le_trans BW.out.size L.out.2.2.size)))⟩
end Go.Proofs.YtdeabomcmbgepaaDoor
