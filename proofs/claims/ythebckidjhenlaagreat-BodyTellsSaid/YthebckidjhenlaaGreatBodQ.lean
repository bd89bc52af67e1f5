
/-
  What the program's Check of layer 20 answers. No condition beyond: packets that Go may have, at most 2^30 elements in each slice.
-/
import Derived.Test.YthebckidjhenlaaGreatBodP
import Derived.Test.YthebckidjhenlaaGreatCfg
namespace Go.Proofs.YthebckidjhenlaaGreat
set_option maxRecDepth 4000
open Go.RowKit
set_option linter.unusedVariables false

/-- A config lies in block b. -/
def Cb (w : World) (b : Nat) (t : TypeId) (c : Cf) : Prop := w.heap[b]? = some (.cells #[.bool c.sync, .bool c.wide, .bool c.acfc, .bool c.pfc, .int .u32 (c.send : Int), .int .u32 (c.recv : Int), .int .i64 c.mru] t (0, 0))
theorem Cb.lt {w : World} {b : Nat} {t : TypeId} {c : Cf} (h : Cb w b t c) : b < w.heap.size := (Array.getElem?_eq_some_iff.1 h).1
theorem Cb.below {w w' : World} {b : Nat} {t : TypeId} {c : Cf} (h : Cb w b t c) (hb : Below w.heap.size w w') : Cb w' b t c := (hb.block b h.lt).trans h
abbrev cbC (w : World) (b : Nat) (c : Cf) : Prop := w.cell? ⟨b, 0, none⟩ = some (.bool c.sync) ∧ w.cell? ⟨b, 1, none⟩ = some (.bool c.wide) ∧ w.cell? ⟨b, 2, none⟩ = some (.bool c.acfc) ∧ w.cell? ⟨b, 3, none⟩ = some (.bool c.pfc) ∧ w.cell? ⟨b, 4, none⟩ = some (.int .u32 (c.send : Int)) ∧ w.cell? ⟨b, 5, none⟩ = some (.int .u32 (c.recv : Int)) ∧ w.cell? ⟨b, 6, none⟩ = some (.int .i64 c.mru)
theorem Cb.all {w : World} {b : Nat} {t : TypeId} {c : Cf} (h : Cb w b t c) : cbC w b c := by
  refine ⟨?_, ?_, ?_, ?_, ?_, ?_, ?_⟩ <;> (rw [cell_of_row w b _ _ _ _ h]; rfl)
/-- A config and a packet in blocks of a call's own. -/
structure CkB (w W : World) (c : Cf) (p : Pk) (q : Pl) : Prop where
  bel : Below w.heap.size w W
  c1 : Cb W w.heap.size 52 c
  x : Px W (w.heap.size + 1) 38 p q
section
variable {w W X W' : World} {c : Cf} {p : Pk} {q : Pl}
theorem CkB.made (w : World) (c : Cf) (p : Pk) (q : Pl) : CkB w ((w.alloc (.cells #[.bool c.sync, .bool c.wide, .bool c.acfc, .bool c.pfc, .int .u32 (c.send : Int), .int .u32 (c.recv : Int), .int .i64 c.mru] 52)).alloc (p.obj q 38)) c p q := by
  have e1 : (w.alloc (.cells #[.bool c.sync, .bool c.wide, .bool c.acfc, .bool c.pfc, .int .u32 (c.send : Int), .int .u32 (c.recv : Int), .int .i64 c.mru] 52)).heap.size = w.heap.size + 1 := World.size_alloc _ _
  refine ⟨belowP_two w _ _, heap_alloc2_old w _ _, ?_⟩
  have := px_new (w.alloc (.cells #[.bool c.sync, .bool c.wide, .bool c.acfc, .bool c.pfc, .int .u32 (c.send : Int), .int .u32 (c.recv : Int), .int .i64 c.mru] 52)) 38 p q
  rw [e1] at this
  exact this
theorem CkB.step (h : CkB w W c p q) (hb : Below X.heap.size X W') (hX : Below W.heap.size W X := by first | exact Below.refl _ _ | exact (Below.refl _ _).drew) : CkB w W' c p q :=
  have hh := hX.trans (hb.mono hX.size)
  ⟨h.bel.trans (hh.mono h.bel.size), h.c1.below hh, h.x.below hh⟩
end

set_option maxHeartbeats 8000000 in
theorem bchk_any (c : Cf) (p : Pk) (q : Pl) (w : World) (hp : Pw w p q) (hok : p.ok) (hs : p.sm) (k : Nat) (hk : bchkB c.mru p = k) :
    Calls Tryz.prog 16 #[c.val, p.val q] w fun e w' => e = .returned (.int .i64 (k : Int)) ∧ Below w.heap.size w w' := by
  have C := Lib.hid (CkB.made w c p q)
  have H := Lib.hid hp
  have HOK := Lib.hid hok
  have HS := Lib.hid hs
  obtain ⟨m, e, hm⟩ : ∃ m e, Hid (bputB p = (m, e)) := ⟨_, _, Lib.hid rfl⟩
  obtain ⟨n, hn⟩ : ∃ n, Hid (m.length = n) := ⟨_, Lib.hid rfl⟩
  have E := hk
  unfold bchkB at E
  rw [hm.out, hn.out] at E
  dsimp only at E
  clear hk hp hok hs
  by_cases h0 : e = 0
  · subst h0
    by_cases h1 : c.mru < (n : Int)
    · rw [if_pos ⟨rfl, h1⟩] at E
      subst E
      go_enter Tryz.func16, Tryz.ntmps16
      go_upto_region 1 with fail
      with_reducible refine at_worldP (fun W => Hid (CkB w W c p q)) C ?_
      clear C
      rintro W C
      obtain ⟨x0, x1, x2, x3, x4, x5, x6, x7, x8, x9⟩ := C.out.x.all
      go_wp2_with (go_at_call 6; (with_reducible refine (bput_any p q _ (H.out.on C.out.bel) HOK.out HS.out m 0 hm.out n hn.out).mono ?_); rintro e' wn ⟨A5, c5, rfl, -, -, hb⟩; replace C := Lib.hid (C.out.step hb); clear hb; obtain ⟨-, -, -, -, -, -, y6⟩ := C.out.c1.all)
      go_ret
      exact ⟨rfl, C.out.bel⟩
    · rw [if_neg (fun h => h1 h.2)] at E
      subst E
      go_enter Tryz.func16, Tryz.ntmps16
      go_upto_region 1 with fail
      with_reducible refine at_worldP (fun W => Hid (CkB w W c p q)) C ?_
      clear C
      rintro W C
      obtain ⟨x0, x1, x2, x3, x4, x5, x6, x7, x8, x9⟩ := C.out.x.all
      go_wp2_with (go_at_call 6; (with_reducible refine (bput_any p q _ (H.out.on C.out.bel) HOK.out HS.out m 0 hm.out n hn.out).mono ?_); rintro e' wn ⟨A5, c5, rfl, -, -, hb⟩; replace C := Lib.hid (C.out.step hb); clear hb; obtain ⟨-, -, -, -, -, -, y6⟩ := C.out.c1.all)
      go_ret
      exact ⟨rfl, C.out.bel⟩
  · rw [if_neg (fun h => h0 h.1)] at E
    have f0 : ((e : Int) == 0) = false := by simp; omega
    subst E
    go_enter Tryz.func16, Tryz.ntmps16
    go_upto_region 1 with fail
    with_reducible refine at_worldP (fun W => Hid (CkB w W c p q)) C ?_
    clear C
    rintro W C
    obtain ⟨x0, x1, x2, x3, x4, x5, x6, x7, x8, x9⟩ := C.out.x.all
    go_wp2_with (go_at_call 6; (with_reducible refine (bput_any p q _ (H.out.on C.out.bel) HOK.out HS.out m e hm.out n hn.out).mono ?_); rintro e' wn ⟨A5, c5, rfl, -, -, hb⟩; replace C := Lib.hid (C.out.step hb); clear hb; obtain ⟨-, -, -, -, -, -, y6⟩ := C.out.c1.all)
    go_ret
    exact ⟨rfl, C.out.bel⟩
end Go.Proofs.YthebckidjhenlaaGreat
