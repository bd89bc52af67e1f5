
/-
  The calls of layer 23 as the laws' walks want them; what speaks answers. Condition: the shapes stand as the start-up lays them ('TabF').
-/
import Derived.Test.YtdeabomcmbgepaaDoorFrgF
import Derived.Test.YtdeabomcmbgepaaDoorFrgE
namespace Go.Proofs.YtdeabomcmbgepaaDoor
open Go.RowKit

/-- Two literals, each of one piece. -/
theorem fr_lits (w : World) (T U : TypeId) {b e b' e' : Bool} {x x' : Int} {A B : Option Addr} {n c m d : Nat} {l l' : List Nat} (h : Rd w w.heap.size A l) (h' : Rd w w.heap.size B l') (hl : l.length = n) (hl' : l'.length = m) (hc : n ≤ c) (hd : m ≤ d) :
    Rws shF (fun _ => True) ((w.alloc (.cells #[.bool b, .bool e, .int .i64 x, .slice A n c] T)).alloc (.cells #[.bool b', .bool e', .int .i64 x', .slice B m d] U)) (some ⟨w.heap.size, 0, none⟩) [⟨b, e, x, l⟩] ∧
    Rws shF (fun _ => True) ((w.alloc (.cells #[.bool b, .bool e, .int .i64 x, .slice A n c] T)).alloc (.cells #[.bool b', .bool e', .int .i64 x', .slice B m d] U)) (some ⟨w.heap.size + 1, 0, none⟩) [⟨b', e', x', l'⟩] ∧
    Below w.heap.size w ((w.alloc (.cells #[.bool b, .bool e, .int .i64 x, .slice A n c] T)).alloc (.cells #[.bool b', .bool e', .int .i64 x', .slice B m d] U)) := by
  have h1 := (litf (F := fun _ => True) w (T := T) (b := b) (e := e) (x := x) hl hc (h.rdF (fun _ _ => trivial) (Nat.le_refl _))).read
  have hb1 := (Below.refl w.heap.size w).alloc (Nat.le_refl _) (.cells #[.bool b, .bool e, .int .i64 x, .slice A n c] T)
  have h2 := (litf (F := fun _ => True) (w.alloc (.cells #[.bool b, .bool e, .int .i64 x, .slice A n c] T)) (T := U) (b := b') (e := e') (x := x') hl' hd ((h'.on hb1).rdF (fun _ _ => trivial) (Nat.le_refl _))).read
  rw [World.size_alloc] at h2
  exact ⟨(h1.below ((Below.refl _ _).alloc (Nat.le_refl _) _)).mono fun _ _ _ => trivial, h2.mono fun _ _ _ => trivial, hb1.alloc hb1.size _⟩

set_option maxHeartbeats 1000000 in
theorem frspeaks (w : World) (hT : TabF w) : Calls Tryd.prog 8 #[] w fun e w' => e = .returned (.bool true) ∧ Below w.heap.size w w' := by
  have HL : ∀ W : World, Hid (Rd (W.alloc (.cells #[.int .u8 193, .int .u8 2] 5)) (W.alloc (.cells #[.int .u8 193, .int .u8 2] 5)).heap.size (some ⟨W.heap.size, 0, none⟩) [193, 2]) := fun W => Lib.hid (Rd.lit_ W [193, 2])
  have HT := Lib.hid hT
  go_enter Tryd.func8, Tryd.ntmps8
  go_wp2_with (go_at_call 9; (with_reducible refine (frput_any true true true 258 none [] 0 0 _ Rd.nil rfl (by omega) hT 2 0 rfl rfl).mono ?_); rintro e w3 ⟨A3, c3, rfl, HN⟩; have R3 := Lib.hid (show Rd w3 w3.heap.size A3 [193, 2] from HN.2.2.1); have B3 := Lib.hid HN.2.2.2; have B4 := Lib.hid ((Below.refl w3.heap.size w3).alloc (Nat.le_refl _) (.cells #[.int .u8 193, .int .u8 2] 5)); have T3 := Lib.hid (hT.below HN.2.2.2); clear HN)
  go_wp2_with (first
    | (go_at_call 13; (with_reducible refine (equal_yes [193, 2] [193, 2] 2 2 _ _ _ _ _ (R3.out.on B4.out) (HL w3).out rfl rfl (by omega) rfl).mono ?_); rintro e w5 ⟨rfl, hb5⟩; have T5 := Lib.hid ((T3.out.below B4.out).below hb5); have B5 := Lib.hid ((B3.out.trans (B4.out.mono B3.out.size)).trans (hb5.mono (Nat.le_trans B3.out.size B4.out.size))); clear hb5)
    | (go_at_call 22; (with_reducible refine (frmod_any true _ T5.out).mono ?_); rintro e w6 ⟨rfl, hb6⟩; rw [show ((frmod true : Nat) : Int) = 4096 from rfl]; have T6 := Lib.hid (T5.out.below hb6); have B6 := Lib.hid (B5.out.trans (hb6.mono B5.out.size)); clear hb6)
    | (go_at_call 22; (with_reducible refine (frmod_any false _ T6.out).mono ?_); rintro e w7 ⟨rfl, hb7⟩; rw [show ((frmod false : Nat) : Int) = 16777216 from rfl]; have B7 := Lib.hid (B6.out.trans (hb7.mono B6.out.size)); clear hb7))
  go_ret
  exact ⟨rfl, B7.out⟩
end Go.Proofs.YtdeabomcmbgepaaDoor
