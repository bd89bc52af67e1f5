
/-
  A deframer of bits in memory: its cells, the octets and bits that it holds; what turns where it is fed. New, octets, spoiled, drop, keep. No condition beyond: most and the bits counted at most 2^40.
-/
import Derived.Test.YteicednlgajpgaaSynM
import Derived.Test.YteicednlgajpgaaZerC
import Derived.Deep.LoopGhost
import Derived.WalkMore
namespace Go.Proofs.Yteicednlgajpgaa
open Go.RowKit

/-- A deframer's cells. -/
def Dc (w : World) (b most : Nat) (V1 V2 : Value) (n : Nat) (a : Bool) (r : Nat) (k : Bool) : Prop :=
  w.heap[b]? = some (.cells #[.int .i64 (most : Int), V1, V2, .int .i64 (n : Int), .bool a, .int .i64 (r : Int), .bool k] 43 (0, 0))
section
variable {w w' : World} {b most n r : Nat} {V1 V2 : Value} {a k : Bool}
theorem Dc.c0 (h : Dc w b most V1 V2 n a r k) : w.cell? ⟨b, 0, none⟩ = some (.int .i64 (most : Int)) := by rw [cell_of_row w b 0 _ _ _ h]; rfl
theorem Dc.c1 (h : Dc w b most V1 V2 n a r k) : w.cell? ⟨b, 1, none⟩ = some V1 := by rw [cell_of_row w b 1 _ _ _ h]; rfl
theorem Dc.c2 (h : Dc w b most V1 V2 n a r k) : w.cell? ⟨b, 2, none⟩ = some V2 := by rw [cell_of_row w b 2 _ _ _ h]; rfl
theorem Dc.c3 (h : Dc w b most V1 V2 n a r k) : w.cell? ⟨b, 3, none⟩ = some (.int .i64 (n : Int)) := by rw [cell_of_row w b 3 _ _ _ h]; rfl
theorem Dc.c4 (h : Dc w b most V1 V2 n a r k) : w.cell? ⟨b, 4, none⟩ = some (.bool a) := by rw [cell_of_row w b 4 _ _ _ h]; rfl
theorem Dc.c5 (h : Dc w b most V1 V2 n a r k) : w.cell? ⟨b, 5, none⟩ = some (.int .i64 (r : Int)) := by rw [cell_of_row w b 5 _ _ _ h]; rfl
theorem Dc.c6 (h : Dc w b most V1 V2 n a r k) : w.cell? ⟨b, 6, none⟩ = some (.bool k) := by rw [cell_of_row w b 6 _ _ _ h]; rfl
theorem Dc.fz (h : Dc w b most V1 V2 n a r k) (j : Nat) : w.frozen? ⟨b, j, none⟩ = false := frozen_of_row w b j _ _ h
theorem Dc.set0 (h : Dc w b most V1 V2 n a r k) : Dc (w.setCell ⟨b, 0, none⟩ (.int .i64 (most : Int))) b most V1 V2 n a r k := heap_setCell_same w b 0 _ _ _ h
theorem Dc.set1 (h : Dc w b most V1 V2 n a r k) (u : Value) : Dc (w.setCell ⟨b, 1, none⟩ u) b most u V2 n a r k := heap_setCell_same w b 1 _ _ u h
theorem Dc.set2 (h : Dc w b most V1 V2 n a r k) (u : Value) : Dc (w.setCell ⟨b, 2, none⟩ u) b most V1 u n a r k := heap_setCell_same w b 2 _ _ u h
theorem Dc.set3 (h : Dc w b most V1 V2 n a r k) (u : Nat) : Dc (w.setCell ⟨b, 3, none⟩ (.int .i64 (u : Int))) b most V1 V2 u a r k := heap_setCell_same w b 3 _ _ _ h
theorem Dc.set4 (h : Dc w b most V1 V2 n a r k) (u : Bool) : Dc (w.setCell ⟨b, 4, none⟩ (.bool u)) b most V1 V2 n u r k := heap_setCell_same w b 4 _ _ _ h
theorem Dc.set5 (h : Dc w b most V1 V2 n a r k) (u : Nat) : Dc (w.setCell ⟨b, 5, none⟩ (.int .i64 (u : Int))) b most V1 V2 n a u k := heap_setCell_same w b 5 _ _ _ h
theorem Dc.set6 (h : Dc w b most V1 V2 n a r k) (u : Bool) : Dc (w.setCell ⟨b, 6, none⟩ (.bool u)) b most V1 V2 n a r u := heap_setCell_same w b 6 _ _ _ h
theorem Dc.lt (h : Dc w b most V1 V2 n a r k) : b < w.heap.size := (Array.getElem?_eq_some_iff.1 h).1
theorem Dc.off {X : Nat → Prop} (h : Dc w b most V1 V2 n a r k) (ho : Offs X w w') (hb : ¬ X b) : Dc w' b most V1 V2 n a r k := (ho.block b h.lt hb).trans h
theorem Dc.below (h : Dc w b most V1 V2 n a r k) (ho : Below w.heap.size w w') : Dc w' b most V1 V2 n a r k := h.off (X := fun _ => False) (.of_below ho) id
theorem Dc.drewN (h : Dc w b most V1 V2 n a r k) (j : Nat) : Dc (w.drewN j) b most V1 V2 n a r k := h.below (below_drewN (Below.refl _ _) j)
theorem Dc.own_ne {base : Nat} {t : TypeId} {sz m : Nat} {v : Value} {xs : List Value} (h : Dc w b most V1 V2 n a r k) (ho : w.ownsRow base t sz v m xs) (ht : t ≠ 43) : v.ownBlock ≠ some b := by
  intro hg
  obtain ⟨c, hc⟩ := own_blk ho hg
  rw [show w.heap[b]? = _ from h] at hc
  injection hc with h1
  injection h1 with _ h2
  exact ht h2.symm
end

/-- A deframer at block b, whose octets are the slice V1, whose bits begun V2. -/
structure Df (B : Nat) (w : World) (b most : Nat) (V1 V2 : Value) (s : St) : Prop where
  lo : B ≤ b
  cells : Dc w b most V1 V2 s.count s.ahead s.row s.broken
  own1 : w.ownsRow B 5 1 V1 s.held.length (bvs s.held)
  own2 : w.ownsRow B 5 1 V2 s.begun.length (bvs s.begun)
  sep : Sep V1 V2
  ok : s.ok most
/-- The deframer's blocks. -/
def Xs (b : Nat) (V1 V2 : Value) : Nat → Prop := fun k => k = b ∨ V1.ownBlock = some k ∨ V2.ownBlock = some k
/-- The deframer at b turned, to what s says. -/
def Dk (B : Nat) (w w' : World) (b most : Nat) (V1 V2 : Value) (s : St) : Prop :=
  ∃ V1' V2', Df B w' b most V1' V2' s ∧ Offs (Xs b V1 V2) w w' ∧ Mv w.heap.size V1 V1' ∧ Mv w.heap.size V2 V2'
section
variable {B : Nat} {w w' w2 : World} {b most : Nat} {V1 V2 V1' V2' : Value} {s s2 : St}
theorem Df.ne1 (h : Df B w b most V1 V2 s) : V1.ownBlock ≠ some b := h.cells.own_ne h.own1 (by decide)
theorem Df.ne2 (h : Df B w b most V1 V2 s) : V2.ownBlock ≠ some b := h.cells.own_ne h.own2 (by decide)
theorem Df.off {X : Nat → Prop} (h : Df B w b most V1 V2 s) (ho : Offs X w w') (hb : ¬ X b) (h1 : ∀ g, V1.ownBlock = some g → ¬ X g) (h2 : ∀ g, V2.ownBlock = some g → ¬ X g) : Df B w' b most V1 V2 s := ⟨h.lo, h.cells.off ho hb, own_off h.own1 ho h1, own_off h.own2 ho h2, h.sep, h.ok⟩
theorem Df.below (h : Df B w b most V1 V2 s) (ho : Below w.heap.size w w') : Df B w' b most V1 V2 s := h.off (X := fun _ => False) (.of_below ho) id (fun _ _ => id) (fun _ _ => id)
theorem Dk.refl (h : Df B w b most V1 V2 s) : Dk B w w b most V1 V2 s := ⟨V1, V2, h, Offs.refl _ _, Mv.refl _ _, Mv.refl _ _⟩
theorem Xs.old {n k : Nat} (hx : Xs b V1' V2' n) (m1 : Mv k V1 V1') (m2 : Mv k V2 V2') (hn : n < k) : Xs b V1 V2 n := by
  rcases hx with h | h | h
  · exact .inl h
  · rcases m1 n h with h1 | h1
    · exact .inr (.inl h1)
    · omega
  · rcases m2 n h with h1 | h1
    · exact .inr (.inr h1)
    · omega
theorem Dk.step (ho : Offs (Xs b V1 V2) w w') (m1 : Mv w.heap.size V1 V1') (m2 : Mv w.heap.size V2 V2') (h : Dk B w' w2 b most V1' V2' s) : Dk B w w2 b most V1 V2 s := by
  obtain ⟨U1, U2, hD, ho2, n1, n2⟩ := h
  exact ⟨U1, U2, hD, ho.trans ho2 (fun _ h => h) (fun i hi hx => hx.old m1 m2 hi), m1.trans n1 ho.size, m2.trans n2 ho.size⟩
theorem Sep.nil1 (V : Value) (c k : Nat) : Sep (.slice none c k) V := fun _ h => by cases h
theorem Sep.nil2 (V : Value) (c k : Nat) : Sep V (.slice none c k) := fun _ _ h => by cases h
end

theorem new_any (most : Nat) (w : World) :
    Calls Try.prog 9 #[.int .i64 (most : Int)] w fun e w' => ∃ b, e = .returned (.pointer (some ⟨b, 0, none⟩)) ∧ w.heap.size ≤ b ∧ b < w'.heap.size ∧ (∀ B, B ≤ w.heap.size → Df B w' b most (.slice none 0 0) (.slice none 0 0) St.start) ∧ Below w.heap.size w w' := by
  go_enter Try.func9, Try.ntmps9
  go_wp2
  go_ret
  refine ⟨w.heap.size, rfl, Nat.le_refl _, by simp, fun B hB => ⟨hB, ?_, World.ownsRow_nil _ _ _ _, World.ownsRow_nil _ _ _ _, Sep.nil1 _ _ _, ok_start _⟩, (Below.refl _ _).alloc (Nat.le_refl _) _⟩
  exact heap_alloc_new w _

theorem oct_any (n : Nat) (hn : n ≤ 2199023255552) (w : World) :
    Calls Try.prog 25 #[.int .i64 (n : Int)] w fun e w' => e = .returned (.int .i64 (oct n : Nat)) ∧ w = w' := by
  have E := Lib.hid (show ((n : Int) + 8 - 1) / 8 = ((oct n : Nat) : Int) by unfold oct; omega)
  go_enter Try.func25, Try.ntmps25
  go_wp2
  go_ret
  refine ⟨?_, rfl⟩
  rw [← E.out]; rfl

set_option maxHeartbeats 400000 in
theorem spoiled_any {w : World} {b most n r : Nat} {V1 V2 : Value} {a k : Bool} (h : Dc w b most V1 V2 n a r k) (hn : n ≤ 2199023255552) :
    Calls Try.prog 24 #[.pointer (some ⟨b, 0, none⟩)] w fun e w' => e = .returned (.bool (k || decide (most < oct n))) ∧ ∃ j, w' = w.drewN j := by
  have c0 := h.c0
  have c3 := h.c3
  have c6 := h.c6
  cases k
  · have E := Lib.hid (Bool.false_or (decide (most < oct n)))
    go_enter Try.func24, Try.ntmps24
    go_wp2_with fail
    go_quiet (first | (go_at_call 25; exact Calls.quiet_of ((oct_any n hn _).mono fun _ _ ⟨he, hw⟩ => ⟨he, 0, hw.symm⟩)))
    all_goals go_wp2_with fail
    go_ret
    exact ⟨by rw [E.out]; rfl, _, rfl⟩
  · go_enter Try.func24, Try.ntmps24
    go_wp2_with fail
    go_quiet (fail)
    all_goals go_wp2_with fail
    go_ret
    exact ⟨rfl, _, rfl⟩
theorem spoiled_is {w : World} {b most n r : Nat} {V1 V2 : Value} {a k t : Bool} (h : Dc w b most V1 V2 n a r k) (hn : n ≤ 2199023255552) (ht : Hid ((k || decide (most < oct n)) = t)) :
    Calls Try.prog 24 #[.pointer (some ⟨b, 0, none⟩)] w fun e w' => e = .returned (.bool t) ∧ ∃ j, w' = w.drewN j :=
  (spoiled_any h hn).mono fun _ _ ⟨he, hw⟩ => ⟨by rw [he, ht.out], hw⟩

theorem drop_any {w : World} {b most n r : Nat} {V1 V2 : Value} {a k : Bool} (h : Dc w b most V1 V2 n a r k) :
    Calls Try.prog 30 #[.pointer (some ⟨b, 0, none⟩)] w fun e w' => e = .returned (.tuple #[]) ∧ Dc w' b most (.slice none 0 0) (.slice none 0 0) n a r k ∧ Offs (fun i => i = b) w w' := by
  have c1 := h.c1
  have c2 := h.c2
  have f1 := h.fz 1
  have f2 := h.fz 2
  have hb := h.lt
  have H := Lib.hid h
  clear h
  go_enter Try.func30, Try.ntmps30
  go_wp2_with fail
  refine bodyPost_end (results_none rfl _ _ _) rfl ⟨rfl, (H.out.set1 _).set2 _, ?_⟩
  exact (Offs.set (X := fun i => i = b) _ _ _ _ rfl).trans (Offs.set (X := fun i => i = b) _ _ _ _ rfl) (fun _ h => h) (fun _ _ h => h)

end Go.Proofs.Yteicednlgajpgaa
