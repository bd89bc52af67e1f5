
/-
  OptsSettle's walk. No condition.
-/
import Derived.Test.YtmilbkhkefbjkaaOpsW
namespace Go.Proofs.Ytmilbkhkefbjkaa
open Go.RowKit

/-- A law's config in memory, in a world behind w. -/
structure CxL (w W : World) (c : Cf) : Prop where
  bel : Below w.heap.size w W
  cf : Bx W w.heap.size 55 c
theorem CxL.made (w : World) (c : Cf) : CxL w (w.alloc (c.obj 55)) c := ⟨(Below.refl _ _).alloc (Nat.le_refl _) _, heap_alloc_new _ _⟩
theorem CxL.step {w W X W' : World} {c : Cf} (h : CxL w W c) (hb : Below X.heap.size X W') (hX : Below W.heap.size W X := by first | exact Below.refl _ _ | exact (Below.refl _ _).drew) : CxL w W' c :=
  ⟨h.bel.trans ((hX.trans (hb.mono hX.size)).mono h.bel.size), h.cf.below (hX.trans (hb.mono hX.size))⟩
theorem CxL.drew {w W : World} {c : Cf} (h : CxL w W c) : CxL w W.drew c := h.step (X := W) (Below.refl _ _).drew
theorem CxL.al {w W : World} {c : Cf} (h : CxL w W c) (o : Obj) : CxL w (W.alloc o) c := h.step (X := W) ((Below.refl _ _).alloc (Nat.le_refl _) o)
theorem CxL.lt {w W : World} {c : Cf} (h : CxL w W c) : w.heap.size < W.heap.size := h.cf.lt
theorem CxL.put {w W : World} {c : Cf} (h : CxL w W c) {b : Nat} (hb : w.heap.size < b) (d : Cf) : CxL w (put7 W b d) c := by
  refine ⟨put7_below h.bel (Nat.le_of_lt hb) d, ?_⟩
  have hne : w.heap.size ≠ b := by omega
  exact ((((((h.cf.other _ hne).other _ hne).other _ hne).other _ hne).other _ hne).other _ hne).other _ hne
/-- The variable that a config is answered into, not yet filled. -/
structure QxL (w W : World) (b : Nat) : Prop where
  gt : w.heap.size < b
  bx : Bx W b 56 cf0
theorem QxL.new {w W X W' : World} {c : Cf} (h : CxL w W c) (hb : Below X.heap.size X W') (hX : Below (W.alloc (obj0 56)).heap.size (W.alloc (obj0 56)) X := by first | exact Below.refl _ _ | exact (Below.refl _ _).drew) : QxL w W' W.heap.size :=
  ⟨h.lt, (show Bx _ _ 56 cf0 from heap_alloc_new W (obj0 56)).below (hX.trans (hb.mono hX.size))⟩
theorem QxL.step {w W W' : World} {b : Nat} (h : QxL w W b) (hb : Below W.heap.size W W') : QxL w W' b := ⟨h.gt, h.bx.below hb⟩
theorem bx_new (w : World) (t : TypeId) (c : Cf) : Bx (w.alloc (c.obj t)) w.heap.size t c := heap_alloc_new w _
theorem dat_each {l : List (Nat × List Nat)} {m : Nat} (h : datB l ≤ m) (hm : m ≤ 274877906944) : ∀ o ∈ l, o.2.length ≤ 274877906944 := fun o ho => by
  obtain ⟨i, hi⟩ := List.mem_iff_getElem?.1 ho
  exact Nat.le_trans (Nat.le_trans (dat_le hi) h) hm

set_option maxHeartbeats 2000000 in
theorem settle_early (c : Cf) (a : List (Nat × List Nat)) (A0 : Option Addr) (n0 c0 : Nat) (w : World) (hL0 : a.length = n0) (hn0 : n0 ≤ 140737488351232) (hD0 : ∀ x ∈ a, x.2.length ≤ 140737488351232) (hR0 : Rws shO (fun _ => True) w A0 a) (h : fewB a = false) :
    Calls Try.prog 4 #[c.val, .slice A0 n0 c0] w fun e w' => e = .returned (.bool true) ∧ Below w.heap.size w w' := by
  have HR0 := Lib.hid hR0
  have HL0 := Lib.hid hL0
  have HD0 := Lib.hid hD0
  have HF := Lib.hid h
  have C := Lib.hid (CxL.made w c)
  clear hR0 hL0 hD0 h
  go_enter Try.func4, Try.ntmps4
  go_wp2_with (first
    | (go_at_call 8; (with_reducible refine (speaks14 _).mono ?_); rintro e wn ⟨rfl, hb⟩; replace C := Lib.hid (C.out.step hb); clear hb)
    | (go_at_call 9; (with_reducible refine (few_v a _ HF.out n0 c0 A0 _ _ (HR0.out.below C.out.bel) HL0.out (by omega) HD0.out).mono ?_); rintro e wn ⟨rfl, hb⟩; replace C := Lib.hid (C.out.step hb); clear hb))
  go_ret
  exact ⟨rfl, C.out.bel⟩

set_option maxHeartbeats 20000000 in
theorem settle_walk (c : Cf) (a : List (Nat × List Nat)) (A0 : Option Addr) (n0 c0 : Nat) (w : World) (hL0 : a.length = n0) (hn0 : n0 ≤ 140737488351232) (hO0 : ByO a) (hD0 : ∀ x ∈ a, x.2.length ≤ 140737488351232) (hR0 : Rws shO (fun _ => True) w A0 a) (hf : fewB a = true) :
    Calls Try.prog 4 #[c.val, .slice A0 n0 c0] w fun e w' => e = .returned (.bool true) ∧ Below w.heap.size w w' := by
  have HR0 := Lib.hid hR0
  have HL0 := Lib.hid hL0
  have HD0 := Lib.hid hD0
  have HO0 := Lib.hid hO0
  clear hR0 hL0 hD0 hO0
  obtain ⟨q1, q2⟩ := few_of hf
  rw [HL0.out] at q1
  have HF := Lib.hid hf
  have HE := Lib.hid (dat_each q2 (by decide))
  have C := Lib.hid (CxL.made w c)
  obtain ⟨x, q, ha⟩ : ∃ x q, Hid (ansB c a = (x, q)) := ⟨_, _, Lib.hid rfl⟩
  clear hf q2
  go_enter Try.func4, Try.ntmps4
  go_wp2_with (first
    | (go_at_call 8; (with_reducible refine (speaks14 _).mono ?_); rintro e wn ⟨rfl, hb⟩; replace C := Lib.hid (C.out.step hb); clear hb)
    | (go_at_call 9; (with_reducible refine (few_v a _ HF.out n0 c0 A0 _ _ (HR0.out.below C.out.bel) HL0.out (by omega) HD0.out).mono ?_); rintro e wn ⟨rfl, hb⟩; replace C := Lib.hid (C.out.step hb); clear hb))
  go_region_held3 (fun W => Bc W w.heap.size c) (first | (with_reducible exact C.out.cf.all) | (with_reducible exact C.out.drew.cf.all) | (with_reducible exact (C.out.al _).cf.all) | (with_reducible exact (C.out.al _).drew.cf.all) | (with_reducible exact (C.out.put Q.out.gt x).cf.all)) (first
    | (go_at_call 12; (with_reducible refine (oof_v a n0 c0 A0 _ (HR0.out.below (C.out.drew).bel) HL0.out (by omega)).mono ?_); rintro e wn ⟨A3, c3, rfl, h3, hb⟩; replace C := Lib.hid ((C.out.drew).step hb); have L := Lib.hid h3; clear h3 hb; dsimp only)
    | (go_at_call 12; (with_reducible refine (oof_v a n0 c0 A0 _ (HR0.out.below ((C.out.al (obj0 56)).drew).bel) HL0.out (by omega)).mono ?_); rintro e wn ⟨A3, c3, rfl, h3, hb⟩; have Q := Lib.hid (QxL.new C.out hb); replace C := Lib.hid ((C.out.al (obj0 56)).step hb); have L := Lib.hid h3; clear h3 hb; dsimp only)
    | (go_at_call 24; have _g := L; clear _g; (with_reducible refine (settle_any c a n0 c3 A3 _ _ (L.out) HO0.out HL0.out (by omega) x q ha.out HE.out).mono ?_); rintro e ws ⟨rfl, hb⟩; (try (replace Q := Lib.hid (Q.out.step hb); obtain ⟨r0, r1, r2, r3, r4, r5, r6⟩ := Q.out.bx.all; obtain ⟨s0, s1, s2, s3, s4, s5, s6⟩ := Q.out.bx.free)); replace C := Lib.hid ((C.out).step hb); clear L hb; dsimp only)
    | (go_at_call 24; have _g := L; clear _g; (with_reducible refine (settle_any c a n0 c3 A3 _ _ (L.out.below ((Below.refl _ _).alloc (Nat.le_refl _) (obj0 56))) HO0.out HL0.out (by omega) x q ha.out HE.out).mono ?_); rintro e ws ⟨rfl, hb⟩; have Q := Lib.hid (QxL.new C.out hb); obtain ⟨r0, r1, r2, r3, r4, r5, r6⟩ := Q.out.bx.all; obtain ⟨s0, s1, s2, s3, s4, s5, s6⟩ := Q.out.bx.free; replace C := Lib.hid ((C.out.al (obj0 56)).step hb); clear L hb; dsimp only))
  all_goals (first
    | (with_reducible refine at_world (fun W => Hid (CxL w W c) ∧ Hid (Bx W ws.heap.size 56 x)) ⟨Lib.hid (C.out.al _), Lib.hid (bx_new ws _ _)⟩ ?_)
    | (with_reducible refine at_world (fun W => Hid (CxL w W c) ∧ Hid (Bx W _ 56 x)) ⟨Lib.hid (C.out.put Q.out.gt x), Lib.hid (put7_bx Q.out.bx x)⟩ ?_; clear r0 r1 r2 r3 r4 r5 r6 s0 s1 s2 s3 s4 s5 s6 Q))
  all_goals (clear C; rintro W ⟨C, X⟩; obtain ⟨x0, x1, x2, x3, x4, x5, x6⟩ := C.out.cf.all)
  all_goals go_wp2_with (go_at_call 25; (with_reducible refine (rsettle_any c a n0 c0 A0 _ _ (HR0.out.below C.out.bel) HO0.out HL0.out (by omega) x q ha.out HE.out).mono ?_); rintro e wz ⟨rfl, hb⟩; replace C := Lib.hid (C.out.step hb); replace X := Lib.hid (X.out.below hb); clear hb x0 x1 x2 x3 x4 x5 x6; obtain ⟨z0, z1, z2, z3, z4, z5, z6⟩ := (X.out.below ((Below.refl wz.heap.size wz).alloc (Nat.le_refl _) (x.obj 55))).all)
  all_goals go_ret
  all_goals exact ⟨rfl, (C.out.al _).bel⟩
end Go.Proofs.Ytmilbkhkefbjkaa
