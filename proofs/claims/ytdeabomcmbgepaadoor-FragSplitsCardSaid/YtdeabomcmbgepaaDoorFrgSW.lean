
/-
  The walk of the statement FragSplits: it answers true for every first, most, all octets and all pieces. Condition: the shapes stand as the start-up lays them ('TabF').
-/
import Derived.Test.YtdeabomcmbgepaaDoorFrgI
import Derived.Test.YtdeabomcmbgepaaDoorFrgY
import Derived.Test.YtdeabomcmbgepaaDoorFrgL
namespace Go.Proofs.YtdeabomcmbgepaaDoor
set_option maxRecDepth 4000
open Go.RowKit

/-- What the law knows all along: the octets and the pieces, the shapes. -/
structure FrS2 (w W : World) (A : Option Addr) (l : List Nat) (B : Option Addr) (p : List Pc) : Prop where
  bel : Below w.heap.size w W
  rd : Rd W W.heap.size A l
  rp : Rws shF (fun _ => True) W B p
  tab : TabF W
theorem FrS2.step {w W W' : World} {A : Option Addr} {l : List Nat} {B : Option Addr} {p : List Pc} (h : FrS2 w W A l B p) (hb : Below W.heap.size W W') : FrS2 w W' A l B p := ⟨h.bel.trans (hb.mono h.bel.size), h.rd.on hb, h.rp.below hb, h.tab.below hb⟩
theorem frsplA_by {s : Bool} {f m : Int} {l : List Nat} (hb : By l) : ByF (frsplA s f m l) := by
  intro x hx
  unfold frsplA at hx
  split at hx
  · obtain ⟨k, hk⟩ := List.mem_iff_getElem?.1 hx
    obtain ⟨_, rfl⟩ := frpcs_get hk
    exact (hb.drop _).take _
  · cases hx
theorem frsplA_few {s : Bool} {f m : Int} {l : List Nat} {n z : Nat} (hl : l.length = n) (hn : n ≤ 1000) (hz : (frsplA s f m l).length = z) : z ≤ 1000 := by
  subst hz
  unfold frsplA
  split
  · rw [frpcs_len, hl]
    obtain ⟨k, h1, _, h3⟩ := frw_cnt m.toNat n hn
    rw [h1]
    exact h3
  · exact Nat.zero_le _
theorem frglueA_few (s : Bool) (p : List Pc) (h : frdat p ≤ 1000) : (frglueA s p).length ≤ 1000 := by
  unfold frglueA
  split
  · rw [frjoin_len]; exact h
  · exact Nat.zero_le _

set_option maxHeartbeats 2000000 in
theorem frsplits_long (s : Bool) (f m : Int) (l : List Nat) (n c : Nat) (A : Option Addr) (p : List Pc) (k d : Nat) (B : Option Addr) (w : World) (hp : IsPcs w B k d p) (h : Rd w w.heap.size A l) (hT : TabF w) (hlong : 1000 < n ∨ frfew p = false) :
    Calls Tryd.prog 5 #[.bool s, .int .i64 f, .int .i64 m, .slice A n c, .slice B k d] w fun r w' => r = .returned (.bool true) ∧ Below w.heap.size w w' := by
  have C := Lib.hid (show FrS2 w w A l B p from ⟨Below.refl _ _, h, hp.rd, hT⟩)
  have HP := Lib.hid hp
  by_cases c1 : 1000 < n
  · have j1 : (1000 : Int) < n := by omega
    clear h hT hlong c1 hp
    go_enter Tryd.func5, Tryd.ntmps5
    go_wp2_with (go_at_call 8; (with_reducible refine (frspeaks _ C.out.tab).mono ?_); rintro r w2 ⟨rfl, hb⟩; replace C := Lib.hid (C.out.step hb); clear hb)
    go_ret
    exact ⟨rfl, C.out.bel⟩
  · have j1 : ¬ (1000 : Int) < n := by omega
    have HF := Lib.hid (hlong.resolve_left c1)
    clear h hT hlong c1 hp
    go_enter Tryd.func5, Tryd.ntmps5
    go_wp2_with (first
      | (go_at_call 8; (with_reducible refine (frspeaks _ C.out.tab).mono ?_); rintro r w2 ⟨rfl, hb⟩; replace C := Lib.hid (C.out.step hb); clear hb)
      | (go_at_call 15; (with_reducible refine (frfew_any p k d B _ _ C.out.rp HP.out.nl HP.out.most 140737488351232 (Nat.le_refl _) HP.out.each).mono ?_); rintro r w3 ⟨rfl, hb⟩; rw [HF.out]; replace C := Lib.hid (C.out.step hb); clear hb))
    go_ret
    exact ⟨rfl, C.out.bel⟩

set_option maxHeartbeats 4000000 in
theorem frsplits_walk (s : Bool) (f m : Int) (hm2 : m ≤ 9223372036854775807) (l : List Nat) (n c : Nat) (A : Option Addr) (p : List Pc) (k d : Nat) (B : Option Addr) (w : World) (hp : IsPcs w B k d p) (h : Rd w w.heap.size A l) (hb : By l) (hl : l.length = n) (hc : n ≤ c) (hT : TabF w) :
    Calls Tryd.prog 5 #[.bool s, .int .i64 f, .int .i64 m, .slice A n c, .slice B k d] w fun r w' => r = .returned (.bool true) ∧ Below w.heap.size w w' := by
  by_cases hlong : 1000 < n ∨ frfew p = false
  · exact frsplits_long s f m l n c A p k d B w hp h hT hlong
  have hlong' : ¬ 1000 < n ∧ frfew p = true := ⟨fun e => hlong (.inl e), by cases e : frfew p; exact absurd (.inr e) hlong; rfl⟩
  have j1 : ¬ (1000 : Int) < n := by omega
  have hfew := hlong'.2
  unfold frfew at hfew
  rw [Bool.and_eq_true, decide_eq_true_eq, decide_eq_true_eq, hp.nl] at hfew
  have HF := Lib.hid hlong'.2
  have HK := Lib.hid hfew.1
  have HD := Lib.hid hfew.2
  have HN := Lib.hid (show n ≤ 1000 by omega)
  have C := Lib.hid (show FrS2 w w A l B p from ⟨Below.refl _ _, h, hp.rd, hT⟩)
  have HP := Lib.hid hp
  have HL := Lib.hid hl
  have HB := Lib.hid hb
  have HC := Lib.hid hc
  have HM := Lib.hid hm2
  obtain ⟨q, hq⟩ : ∃ q, Hid (frsplE s f m = q) := ⟨_, Lib.hid rfl⟩
  obtain ⟨z, hz⟩ : ∃ z, Hid ((frsplA s f m l).length = z) := ⟨_, Lib.hid rfl⟩
  obtain ⟨N, hN⟩ : ∃ N, Hid (frsplN s f m l = N) := ⟨_, Lib.hid rfl⟩
  obtain ⟨x, hx⟩ : ∃ x, Hid (frsplA s f m l = x) := ⟨_, Lib.hid rfl⟩
  obtain ⟨q2, hq2⟩ : ∃ q, Hid (frglueE s p = q) := ⟨_, Lib.hid rfl⟩
  obtain ⟨z2, hz2⟩ : ∃ z, Hid ((frglueA s p).length = z) := ⟨_, Lib.hid rfl⟩
  have HZ := Lib.hid (frsplA_few hl HN.out hz.out)
  have HZ2 := Lib.hid (show z2 ≤ 1000 by rw [← hz2.out]; exact frglueA_few s p HD.out)
  have HX := Lib.hid (show ByF x by rw [← hx.out]; exact frsplA_by hb)
  have HXL := Lib.hid (show x.length = z by rw [← hx.out]; exact hz.out)
  have e1 : ((q : Int) == (q : Int)) = true := beq_self_eq_true _
  have e2 : ((N : Int) == (N : Int)) = true := beq_self_eq_true _
  have e3 : ((q2 : Int) == (q2 : Int)) = true := beq_self_eq_true _
  clear hlong hlong' hfew hp h hb hl hc hT hm2
  go_enter Tryd.func5, Tryd.ntmps5
  go_wp2_with (first
    | (go_at_call 8; (with_reducible refine (frspeaks _ C.out.tab).mono ?_); rintro r w2 ⟨rfl, hb⟩; replace C := Lib.hid (C.out.step hb); clear hb)
    | (go_at_call 15; (with_reducible refine (frfew_any p k d B _ _ C.out.rp HP.out.nl HP.out.most 140737488351232 (Nat.le_refl _) HP.out.each).mono ?_); rintro r w3 ⟨rfl, hb⟩; rw [HF.out]; replace C := Lib.hid (C.out.step hb); clear hb)
    | (go_at_call 16; (with_reducible refine (frsplit_any s f m HM.out l n c A _ C.out.rd HB.out HL.out (Nat.le_trans HN.out (by decide)) HC.out C.out.tab q z N hq.out hz.out hN.out).mono ?_); rintro r w5 ⟨A5, c5, rfl, ho5, hb⟩; rw [hx.out] at ho5; have R5 := Lib.hid (ho5.read.mono (G := fun _ => True) fun _ _ _ => trivial); replace C := Lib.hid (C.out.step hb); clear hb ho5)
    | (go_at_call 17; (with_reducible refine (frrsplit_any s f m HM.out l n c A _ C.out.rd HL.out (Nat.le_trans HN.out (by decide)) HC.out q z N hq.out hz.out hN.out).mono ?_); rintro r w6 ⟨A6, c6, rfl, ho6, hb⟩; rw [hx.out] at ho6; have R6 := Lib.hid (ho6.read.mono (G := fun _ => True) fun _ _ _ => trivial); replace R5 := Lib.hid (R5.out.below hb); replace C := Lib.hid (C.out.step hb); clear hb ho6)
    | (go_at_call 19; (with_reducible refine (frof_any p k d B _ _ C.out.rp (fun _ _ => trivial) HP.out.nl (Nat.le_trans HK.out (by decide))).mono ?_); rintro r w7 ⟨v7, rfl, ho7, hb⟩; obtain ⟨A7, c7, hv7, -, -, hr7⟩ := ho7.slice; rw [HP.out.nl] at hv7; subst hv7; have R7 := Lib.hid hr7; replace R5 := Lib.hid (R5.out.below hb); replace R6 := Lib.hid (R6.out.below hb); replace C := Lib.hid (C.out.step hb); clear hb ho7 hr7)
    | (go_at_call 18; (with_reducible refine (frglue_any s p k c7 A7 _ _ R7.out HP.out.nl (Nat.le_trans HK.out (by decide)) (Nat.le_trans HD.out (by decide)) q2 z2 hq2.out hz2.out C.out.tab).mono ?_); rintro r w8 ⟨A8, c8, rfl, HN8⟩; have hb := HN8.2.2.2; have R8 := Lib.hid HN8.2.2.1; replace R5 := Lib.hid (R5.out.below hb); replace R6 := Lib.hid (R6.out.below hb); replace C := Lib.hid (C.out.step hb); clear hb HN8 R7)
    | (go_at_call 20; (with_reducible refine (frrglue_any s p k d B _ _ C.out.rp HP.out.nl (Nat.le_trans HK.out (by decide)) (Nat.le_trans HD.out (by decide)) q2 z2 hq2.out hz2.out).mono ?_); rintro r w9 ⟨A9, c9, rfl, HN9⟩; have hb := HN9.2.2.2; have R9 := Lib.hid HN9.2.2.1; replace R8 := Lib.hid (R8.out.on hb); replace R5 := Lib.hid (R5.out.below hb); replace R6 := Lib.hid (R6.out.below hb); replace C := Lib.hid (C.out.step hb); clear hb HN9)
    | (go_at_call 21; (with_reducible refine (frto_any x z c5 A5 _ _ R5.out (fun _ _ => trivial) HXL.out (Nat.le_trans HZ.out (by decide))).mono ?_); rintro r w10 ⟨v10, rfl, ho10, hb⟩; obtain ⟨A10, c10, hv10, -, -, hr10⟩ := ho10.slice; rw [HXL.out] at hv10; subst hv10; have R10 := Lib.hid hr10; replace R6 := Lib.hid (R6.out.below hb); replace R8 := Lib.hid (R8.out.on hb); replace R9 := Lib.hid (R9.out.on hb); replace C := Lib.hid (C.out.step hb); clear hb ho10 hr10)
    | (go_at_call 14; (with_reducible refine (frsame_any x x z z _ _ _ _ _ _ _ R10.out R6.out HX.out HX.out HXL.out HXL.out (Nat.le_trans HZ.out (by decide)) true (decide_eq_true rfl)).mono ?_); rintro r w11 ⟨rfl, hb⟩; replace R8 := Lib.hid (R8.out.on hb); replace R9 := Lib.hid (R9.out.on hb); replace C := Lib.hid (C.out.step hb); clear hb)
    | (go_at_call 13; (with_reducible refine (equal_yes (frglueA s p) (frglueA s p) z2 z2 _ _ _ _ _ R8.out R9.out hz2.out hz2.out (Nat.le_trans HZ2.out (by decide)) rfl).mono ?_); rintro r w12 ⟨rfl, hb⟩; replace C := Lib.hid (C.out.step hb); clear hb))
  go_ret
  exact ⟨rfl, C.out.bel⟩
end Go.Proofs.YtdeabomcmbgepaaDoor
