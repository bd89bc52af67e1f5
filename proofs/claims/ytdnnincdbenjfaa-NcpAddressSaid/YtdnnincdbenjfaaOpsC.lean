
/-
  What tells of an option whether it may not be: wrong, its closure, the library's search by it, Right; the document's Right. No condition beyond: types below 256, lists of at most 2^38 options.
-/
import Derived.Test.YtdnnincdbenjfaaOpsA
import Derived.Test.YtdnnincdbenjfaaOpsB
import Derived.Test.YtdnnincdbenjfaaTlvV
namespace Go.Proofs.Ytdnnincdbenjfaa
open Go.RowKit

/-- The closure's cell holds a map. -/
def Wr (w : World) (g : Nat) (T : Tab) : Prop := g < w.heap.size ∧ ∃ m, w.cell? ⟨g, 0, none⟩ = some (.map m) ∧ Mp w m T
theorem Wr.below {w w' : World} {g : Nat} {T : Tab} (h : Wr w g T) (hb : Below w.heap.size w w') : Wr w' g T := by
  obtain ⟨h1, m, h2, h3⟩ := h
  exact ⟨Nat.lt_of_lt_of_le h1 hb.size, m, (hb.cell (p := ⟨g, 0, none⟩) h1).trans h2, h3.below hb⟩
/-- The function value that wrong makes. -/
abbrev fvW (g : Nat) : Value := .func (.func 51) #[] #[.pointer (some ⟨g, 0, none⟩)]

set_option maxHeartbeats 1000000 in
theorem wrong_any (p : Nat) (w : World) : Calls Try.prog 42 #[.int .u16 (p : Int)] w fun e w' => ∃ g, e = .returned (fvW g) ∧ Wr w' g (tabB p) ∧ Below w.heap.size w w' := by
  go_enter Try.func42, Try.ntmps42
  go_wp2_with (go_at_call 50; (with_reducible refine (known_any p _).mono ?_); rintro e wn ⟨m, rfl, hm, hb⟩; have B := Lib.hid (hb.alloc hb.size (.cells #[.map m] 96)); have W := Lib.hid (show Wr (wn.alloc (.cells #[.map m] 96)) wn.heap.size (tabB p) from ⟨by rw [World.size_alloc]; omega, m, by rw [cell_of_row _ _ 0 _ _ _ (heap_alloc_new wn _)]; rfl, hm.below ((Below.refl _ _).alloc (Nat.le_refl _) _)⟩); clear hm hb)
  go_ret
  exact ⟨_, rfl, W.out, B.out⟩

set_option maxHeartbeats 2000000 in
theorem wrong1_any (T : Tab) (o : Nat × List Nat) (ht : o.1 < 256) (n c : Nat) (A : Option Addr) (g : Nat) (w : World) (h : Wr w g T) (hl : o.2.length = n) (q : Bool) (hq : okO T o = q) :
    Calls Try.prog 51 #[.agg #[.int .u8 (o.1 : Int), .slice A n c], .pointer (some ⟨g, 0, none⟩)] w fun e w' => e = .returned (.bool (!q)) ∧ Below w.heap.size w w' := by
  obtain ⟨t, l⟩ := o
  dsimp only at ht hl
  obtain ⟨a, b, hs⟩ : ∃ a b, Hid (spanB T t = (a, b)) := ⟨_, _, Lib.hid rfl⟩
  obtain ⟨w1, hw1⟩ : ∃ w1, w1 = w.alloc (.cells #[.int .u8 (t : Int), .slice A n c] 57) := ⟨_, rfl⟩
  have hb1 : Below w.heap.size w w1 := by rw [hw1]; exact (Below.refl _ _).alloc (Nat.le_refl _) _
  have hs1 : w1.heap.size = w.heap.size + 1 := by rw [hw1, World.size_alloc]
  have hv1 : w1.heap[w.heap.size]? = some (.cells #[.int .u8 (t : Int), .slice A n c] 57 (0, 0)) := by rw [hw1]; exact heap_alloc_new _ _
  have CA := Lib.hid (show ∀ w' : World, Below w1.heap.size w1 w' → w'.cell? ⟨w.heap.size, 0, none⟩ = some (.int .u8 (t : Int)) ∧ w'.cell? ⟨w.heap.size, 1, none⟩ = some (.slice A n c) from fun w' hb' => by
    have hv : w'.heap[w.heap.size]? = some (.cells #[.int .u8 (t : Int), .slice A n c] 57 (0, 0)) := (hb'.block _ (by omega)).trans hv1
    exact ⟨by rw [cell_of_row w' _ 0 _ _ _ hv]; rfl, by rw [cell_of_row w' _ 1 _ _ _ hv]; rfl⟩)
  obtain ⟨hg, m, hc, hm⟩ := h.below hb1
  obtain ⟨c0, c1⟩ := CA.out w1 (Below.refl _ _)
  have B1 := Lib.hid hb1
  have HM := Lib.hid hm
  have HW := Lib.hid hw1
  have HQ := Lib.hid hq
  have HL := Lib.hid hl
  have HG := Lib.hid hg
  rw [hw1] at hc c0 c1
  clear h hb1 hs1 hv1 hw1 hm hq hl hg
  by_cases j1 : (n : Int) < a
  · have E := Lib.hid (show q = false by
      rw [← HQ.out, okO, hs.out, HL.out]
      simp; omega)
    go_enter Try.func51, Try.ntmps51
    go_wp2_with (go_at_call 52; rw [← HW.out]; (with_reducible refine (sought_any T m t ht _ HM.out a b hs.out).mono ?_); rintro e wn ⟨rfl, hb⟩; have B2 := Lib.hid (hb.alloc hb.size (.cells #[.int .i64 (a : Int), .int .i64 (b : Int)] 99)); obtain ⟨d0, d1⟩ := CA.out _ B2.out; clear hb hc c0 c1)
    go_ret
    exact ⟨by rw [E.out]; rfl, B1.out.trans (B2.out.mono B1.out.size)⟩
  by_cases j2 : (b : Int) < n
  · have E := Lib.hid (show q = false by
      rw [← HQ.out, okO, hs.out, HL.out]
      simp; omega)
    go_enter Try.func51, Try.ntmps51
    go_wp2_with (go_at_call 52; rw [← HW.out]; (with_reducible refine (sought_any T m t ht _ HM.out a b hs.out).mono ?_); rintro e wn ⟨rfl, hb⟩; have B2 := Lib.hid (hb.alloc hb.size (.cells #[.int .i64 (a : Int), .int .i64 (b : Int)] 99)); obtain ⟨d0, d1⟩ := CA.out _ B2.out; clear hb hc c0 c1)
    go_ret
    exact ⟨by rw [E.out]; rfl, B1.out.trans (B2.out.mono B1.out.size)⟩
  have E := Lib.hid (show q = true by
    rw [← HQ.out, okO, hs.out, HL.out]
    simp; omega)
  go_enter Try.func51, Try.ntmps51
  go_wp2_with (go_at_call 52; rw [← HW.out]; (with_reducible refine (sought_any T m t ht _ HM.out a b hs.out).mono ?_); rintro e wn ⟨rfl, hb⟩; have B2 := Lib.hid (hb.alloc hb.size (.cells #[.int .i64 (a : Int), .int .i64 (b : Int)] 99)); obtain ⟨d0, d1⟩ := CA.out _ B2.out; clear hb hc c0 c1)
  go_ret
  exact ⟨by rw [E.out]; show Ending.returned (.bool (decide (n < a) || decide (b < n))) = _; rw [decide_eq_false (by omega), decide_eq_false (by omega)]; rfl, B1.out.trans (B2.out.mono B1.out.size)⟩

set_option maxHeartbeats 2000000 in
theorem wfind_any (T : Tab) (l : List (Nat × List Nat)) (n c : Nat) (A : Option Addr) (F : Nat → Prop) (g : Nat) (w : World) (h : Rws shO F w A l) (ho : ByO l) (hl : l.length = n) (hn : n ≤ 274877906944) (hw : Wr w g T) :
    Calls Try.prog 35 #[.slice A n c, fvW g] w fun e w' => ∃ z : Int, e = .returned (.int .i64 z) ∧ -1 ≤ z ∧ (0 ≤ z ↔ okL T l = false) ∧ Below w.heap.size w w' := by
  have HL := Lib.hid hl
  have HO := Lib.hid ho
  have HR := Lib.hid h
  have HW := Lib.hid hw
  clear hl ho h hw
  go_enter Try.func35, Try.ntmps35
  go_wp2_with fail
  go_loopw [8] (fun i wr => ∃ k : Nat, k ≤ n ∧ i = .int .i64 k ∧ Hid (okL T (l.take k) = true) ∧ Below w.heap.size w wr) (fun i _ => n - (intOf i).toNat)
  case atStart => exact ⟨0, Nat.zero_le _, rfl, Lib.hid (by simp [okL]), Below.refl _ _⟩
  case round =>
    obtain ⟨k, hk, rfl, hf, hbel⟩ := hrel
    by_cases hlt : k < n
    · obtain ⟨b, o, x, A3, c3, rfl, hb3, hx, h3, h4, h5, h6⟩ := (HR.out.below hbel).opt (k := k) (by rw [HL.out]; exact hlt)
      have hx1 := (HO.out x (List.mem_of_getElem? hx)).1
      have HX := Lib.hid hx
      have i1 : (0 : Int) ≤ k := by omega
      have i2 : (k : Int) < n := by omega
      obtain ⟨q, hq⟩ : ∃ q, Hid (okO T x = q) := ⟨_, Lib.hid rfl⟩
      have BE := Lib.hid hbel
      clear hx h6 hbel
      cases q
      · have E := Lib.hid (okL_no HX.out hq.out)
        go_wp2_with (go_at_call 51; (with_reducible refine (wrong1_any T x hx1 _ c3 A3 g _ (HW.out.below BE.out) rfl _ hq.out).mono ?_); rintro e wn ⟨rfl, hb⟩; replace BE := Lib.hid (BE.out.trans (hb.mono BE.out.size)); clear hb)
        go_ret
        exact ⟨_, rfl, by omega, ⟨fun _ => E.out, fun _ => by omega⟩, BE.out⟩
      · have R := Lib.hid (okL_take hf.out HX.out hq.out)
        go_wp2_with (go_at_call 51; (with_reducible refine (wrong1_any T x hx1 _ c3 A3 g _ (HW.out.below BE.out) rfl _ hq.out).mono ?_); rintro e wn ⟨rfl, hb⟩; replace BE := Lib.hid (BE.out.trans (hb.mono BE.out.size)); clear hb)
        go_roundw
        case rel => exact ⟨k + 1, by omega, by go_num, R, BE.out⟩
        case measure => simp [intOf]; omega
    · have he : k = n := by omega
      subst he
      have E := hf.out
      rw [List.take_of_length_le (by rw [HL.out]; exact Nat.le_refl _)] at E
      have HE := Lib.hid E
      clear E
      go_wp2_with fail
      go_ret
      exact ⟨_, rfl, by omega, ⟨fun h => absurd h (by omega), fun h => by rw [HE.out] at h; cases h⟩, hbel⟩

set_option maxHeartbeats 1000000 in
theorem any_wrong (T : Tab) (l : List (Nat × List Nat)) (n c : Nat) (A : Option Addr) (F : Nat → Prop) (g : Nat) (w : World) (h : Rws shO F w A l) (ho : ByO l) (hl : l.length = n) (hn : n ≤ 274877906944) (hw : Wr w g T) (q : Bool) (hq : okL T l = q) :
    Calls Try.prog 41 #[.slice A n c, fvW g] w fun e w' => e = .returned (.bool (!q)) ∧ Below w.heap.size w w' := by
  have HI := Lib.hid (wfind_any T l n c A F g w h ho hl hn hw)
  have HQ := Lib.hid hq
  clear h ho hl hw hq
  cases q
  · go_enter Try.func41, Try.ntmps41
    go_wp2_with (go_at_call 35; (with_reducible refine HI.out.mono ?_); rintro e wn ⟨z, rfl, -, hz, hb⟩; have j1 : 0 ≤ z := hz.2 HQ.out; have B := Lib.hid hb; clear hb hz)
    go_ret
    exact ⟨rfl, B.out⟩
  · go_enter Try.func41, Try.ntmps41
    go_wp2_with (go_at_call 35; (with_reducible refine HI.out.mono ?_); rintro e wn ⟨z, rfl, -, hz, hb⟩; have j1 : ¬ 0 ≤ z := (fun h => by have := hz.1 h; rw [HQ.out] at this; cases this); have B := Lib.hid hb; clear hb hz)
    go_ret
    exact ⟨by show Ending.returned (.bool (decide (0 ≤ z))) = _; rw [decide_eq_false (by omega)]; rfl, B.out⟩

/-- What Right knows of the world it stands in: its option lies at block b. -/
structure BoC (w W : World) (b : Nat) (T : TypeId) (t : Nat) (A : Option Addr) (n c : Nat) : Prop where
  bel : Below w.heap.size w W
  box : W.heap[b]? = some (.cells #[.int .u8 (t : Int), .slice A n c] T (0, 0))
section
variable {w W X W' : World} {b : Nat} {T : TypeId} {t : Nat} {A : Option Addr} {n c : Nat}
theorem BoC.cells (h : BoC w W b T t A n c) : W.cell? ⟨b, 0, none⟩ = some (.int .u8 (t : Int)) ∧ W.cell? ⟨b, 1, none⟩ = some (.slice A n c) :=
  ⟨by rw [cell_of_row W _ 0 _ _ _ h.box]; rfl, by rw [cell_of_row W _ 1 _ _ _ h.box]; rfl⟩
theorem BoC.lt (h : BoC w W b T t A n c) : b < W.heap.size := (Array.getElem?_eq_some_iff.1 h.box).1
theorem BoC.step (h : BoC w W b T t A n c) (hb : Below X.heap.size X W') (hX : Below W.heap.size W X := by first | exact Below.refl _ _ | exact (Below.refl _ _).drew) : BoC w W' b T t A n c :=
  ⟨h.bel.trans ((hX.trans (hb.mono hX.size)).mono h.bel.size), ((hX.trans (hb.mono hX.size)).block b h.lt).trans h.box⟩
theorem BoC.drew (h : BoC w W b T t A n c) : BoC w W.drew b T t A n c := h.step (X := W) (Below.refl _ _).drew
theorem BoC.made (w : World) (T : TypeId) (t : Nat) (A : Option Addr) (n c : Nat) : BoC w (w.alloc (.cells #[.int .u8 (t : Int), .slice A n c] T)) w.heap.size T t A n c :=
  ⟨(Below.refl _ _).alloc (Nat.le_refl _) _, heap_alloc_new _ _⟩
end

set_option maxHeartbeats 2000000 in
theorem oright_any (p : Nat) (o : Nat × List Nat) (ht : o.1 < 256) (n c : Nat) (A : Option Addr) (w : World) (hl : o.2.length = n) (q : Bool) (hq : okO (tabB p) o = q) :
    Calls Try.prog 37 #[.int .u16 (p : Int), .agg #[.int .u8 (o.1 : Int), .slice A n c]] w fun e w' => e = .returned (.bool q) ∧ Below w.heap.size w w' := by
  have HQ := Lib.hid hq
  have HL := Lib.hid hl
  have C := Lib.hid (BoC.made w 57 o.1 A n c)
  clear hq hl
  go_enter Try.func37, Try.ntmps37
  go_wp2_with fail
  go_region_held3 (fun W => W.cell? ⟨w.heap.size, 0, none⟩ = some (.int .u8 (o.1 : Int)) ∧ W.cell? ⟨w.heap.size, 1, none⟩ = some (.slice A n c)) (first | exact C.out.cells | exact C.out.drew.cells) (first
    | (go_at_call 42; (with_reducible refine (wrong_any p _).mono ?_); rintro e wn ⟨g, rfl, hw, hb⟩; replace C := Lib.hid (C.out.step hb); have V := Lib.hid hw; clear hw hb; dsimp only)
    | (go_at_call 51; have _g := V; clear _g; (with_reducible refine (wrong1_any _ o ht n c A g _ V.out HL.out _ HQ.out).mono ?_); rintro e wn ⟨rfl, hb⟩; replace C := Lib.hid (C.out.step hb); clear hb; dsimp only))
  all_goals go_wp2_with fail
  go_ret
  exact ⟨by cases q <;> rfl, C.out.bel⟩

set_option maxHeartbeats 2000000 in
theorem orright_any (p : Nat) (l : List (Nat × List Nat)) (n c : Nat) (A : Option Addr) (F : Nat → Prop) (w : World) (h : Rws shO F w A l) (hl : l.length = n) (hn : n ≤ 274877906944) (q : Bool) (hq : okL (tabB p) l = q) :
    Calls Try.prog 39 #[.int .i64 (p : Int), .slice A n c] w fun e w' => e = .returned (.bool q) ∧ Below w.heap.size w w' := by
  have HL := Lib.hid hl
  have HR := Lib.hid h
  have HQ := Lib.hid hq
  clear hl h hq
  go_enter Try.func39, Try.ntmps39
  go_wp2_with fail
  go_loopw [5] (fun i wr => ∃ k : Nat, k ≤ n ∧ i = .int .i64 k ∧ Hid (okL (tabB p) (l.take k) = true) ∧ Below w.heap.size w wr) (fun i _ => n - (intOf i).toNat)
  case atStart => exact ⟨0, Nat.zero_le _, rfl, Lib.hid (by simp [okL]), Below.refl _ _⟩
  case round =>
    obtain ⟨k, hk, rfl, hf, hbel⟩ := hrel
    by_cases hlt : k < n
    · obtain ⟨b, o, x, A3, c3, rfl, hb3, hx, h3, h4, h5, h6⟩ := (HR.out.below hbel).opt (k := k) (by rw [HL.out]; exact hlt)
      have HX := Lib.hid hx
      have i1 : (0 : Int) ≤ k := by omega
      have i2 : (k : Int) < n := by omega
      obtain ⟨u, v, hs⟩ : ∃ u v, Hid (spanB (tabB p) x.1 = (u, v)) := ⟨_, _, Lib.hid rfl⟩
      clear hx h6
      by_cases j1 : (x.2.length : Int) < u
      · have E := Lib.hid (show q = false by rw [← HQ.out]; exact okL_no HX.out (by rw [okO, hs.out]; simp; omega))
        go_wp2_with (go_at_call 49; (with_reducible refine (rsize_any p x.1 u v hs.out _).mono ?_); rintro e wn ⟨rfl, rfl⟩)
        go_ret
        exact ⟨by rw [E.out]; rfl, hbel⟩
      by_cases j2 : (v : Int) < x.2.length
      · have E := Lib.hid (show q = false by rw [← HQ.out]; exact okL_no HX.out (by rw [okO, hs.out]; simp; omega))
        go_wp2_with (go_at_call 49; (with_reducible refine (rsize_any p x.1 u v hs.out _).mono ?_); rintro e wn ⟨rfl, rfl⟩)
        go_ret
        exact ⟨by rw [E.out]; rfl, hbel⟩
      have R := Lib.hid (okL_take hf.out HX.out (by rw [okO, hs.out]; simp; omega))
      go_wp2_with (go_at_call 49; (with_reducible refine (rsize_any p x.1 u v hs.out _).mono ?_); rintro e wn ⟨rfl, rfl⟩)
      go_roundw
      case rel => exact ⟨k + 1, by omega, by go_num, R, hbel⟩
      case measure => simp [intOf]; omega
    · have he : k = n := by omega
      subst he
      have E := hf.out
      rw [List.take_of_length_le (by rw [HL.out]; exact Nat.le_refl _), HQ.out] at E
      subst E
      go_wp2_with fail
      go_ret
      exact ⟨rfl, hbel⟩
end Go.Proofs.Ytdnnincdbenjfaa
