
/-
  LqrTells' walk. No condition.
-/
import Derived.Test.YtppblnpcbiochaaLqrL
import Derived.Test.YtppblnpcbiochaaLqrR
import Derived.Test.YtppblnpcbiochaaLqrS
import Derived.Test.YtppblnpcbiochaaPktH
import Derived.Deep.CutRange
import Derived.Deep.RegionHeld3
namespace Go.Proofs.Ytppblnpcbiochaa
open Go.RowKit
set_option linter.unusedVariables false

set_option maxHeartbeats 4000000 in
theorem ltell_few1 (p : Pk) (q : Pl) (o : Pk) (r : Pl) (A1 : Option Addr) (n1 c1 : Nat) (w : World) (h : IsPk w p q) (h' : IsPk w o r) (hf : fewP p = false) :
    Calls Try.prog 3 #[p.val q, o.val r, .slice A1 n1 c1] w fun e w' => e = .returned (.bool true) ∧ Below w.heap.size w w' := by
  have C := Lib.hid (TwB.made 28 w p o q r h.pw h'.pw)
  have hno := h.no
  have HD := Lib.hid h.od
  have hnr := h'.no
  have HD2 := Lib.hid h'.od
  have HF := Lib.hid hf
  clear hf
  clear h h'
  go_enter Try.func3, Try.ntmps3
  go_wp2_with (first
    | (go_at_call 6; (with_reducible refine (speaks19 _).mono ?_); rintro e wn ⟨rfl, hb⟩; replace C := Lib.hid (C.out.step hb); clear hb; (try clear x0 x1 x2 x3 x4 x5 x6 x7 x8 x9 y0 y1 y2 y3 y4 y5 y6 y7 y8 y9); obtain ⟨x0, x1, x2, x3, x4, x5, x6, x7, x8, x9, y0, y1, y2, y3, y4, y5, y6, y7, y8, y9⟩ := C.out.flat)
    | (go_at_call 7; (with_reducible refine (few15_any p q _ C.out.p1 hno HD.out _ HF.out).mono ?_); rintro e wn ⟨rfl, hb⟩; replace C := Lib.hid (C.out.step hb); clear hb; (try clear x0 x1 x2 x3 x4 x5 x6 x7 x8 x9 y0 y1 y2 y3 y4 y5 y6 y7 y8 y9); obtain ⟨x0, x1, x2, x3, x4, x5, x6, x7, x8, x9, y0, y1, y2, y3, y4, y5, y6, y7, y8, y9⟩ := C.out.flat))
  go_ret
  exact ⟨rfl, C.out.bel⟩

set_option maxHeartbeats 4000000 in
theorem ltell_few2 (p : Pk) (q : Pl) (o : Pk) (r : Pl) (A1 : Option Addr) (n1 c1 : Nat) (w : World) (h : IsPk w p q) (h' : IsPk w o r) (hf : fewP p = true) (hf2 : fewP o = false) :
    Calls Try.prog 3 #[p.val q, o.val r, .slice A1 n1 c1] w fun e w' => e = .returned (.bool true) ∧ Below w.heap.size w w' := by
  have C := Lib.hid (TwB.made 28 w p o q r h.pw h'.pw)
  have hno := h.no
  have HD := Lib.hid h.od
  have hnr := h'.no
  have HD2 := Lib.hid h'.od
  have HF := Lib.hid hf
  have HF2 := Lib.hid hf2
  clear hf hf2
  clear h h'
  go_enter Try.func3, Try.ntmps3
  go_wp2_with (first
    | (go_at_call 6; (with_reducible refine (speaks19 _).mono ?_); rintro e wn ⟨rfl, hb⟩; replace C := Lib.hid (C.out.step hb); clear hb; (try clear x0 x1 x2 x3 x4 x5 x6 x7 x8 x9 y0 y1 y2 y3 y4 y5 y6 y7 y8 y9); obtain ⟨x0, x1, x2, x3, x4, x5, x6, x7, x8, x9, y0, y1, y2, y3, y4, y5, y6, y7, y8, y9⟩ := C.out.flat)
    | (go_at_call 7; (with_reducible refine (few15_any p q _ C.out.p1 hno HD.out _ HF.out).mono ?_); rintro e wn ⟨rfl, hb⟩; replace C := Lib.hid (C.out.step hb); clear hb; (try clear x0 x1 x2 x3 x4 x5 x6 x7 x8 x9 y0 y1 y2 y3 y4 y5 y6 y7 y8 y9); obtain ⟨x0, x1, x2, x3, x4, x5, x6, x7, x8, x9, y0, y1, y2, y3, y4, y5, y6, y7, y8, y9⟩ := C.out.flat)
    | (go_at_call 7; (with_reducible refine (few15_any o r _ C.out.p2 hnr HD2.out _ HF2.out).mono ?_); rintro e wn ⟨rfl, hb⟩; replace C := Lib.hid (C.out.step hb); clear hb; (try clear x0 x1 x2 x3 x4 x5 x6 x7 x8 x9 y0 y1 y2 y3 y4 y5 y6 y7 y8 y9); obtain ⟨x0, x1, x2, x3, x4, x5, x6, x7, x8, x9, y0, y1, y2, y3, y4, y5, y6, y7, y8, y9⟩ := C.out.flat))
  go_ret
  exact ⟨rfl, C.out.bel⟩

set_option maxHeartbeats 4000000 in
theorem ltell_long (p : Pk) (q : Pl) (o : Pk) (r : Pl) (A1 : Option Addr) (n1 c1 : Nat) (w : World) (h : IsPk w p q) (h' : IsPk w o r) (hf : fewP p = true) (hf2 : fewP o = true) (hn : ¬ n1 ≤ 600) :
    Calls Try.prog 3 #[p.val q, o.val r, .slice A1 n1 c1] w fun e w' => e = .returned (.bool true) ∧ Below w.heap.size w w' := by
  have C := Lib.hid (TwB.made 28 w p o q r h.pw h'.pw)
  have hno := h.no
  have HD := Lib.hid h.od
  have hnr := h'.no
  have HD2 := Lib.hid h'.od
  have HF := Lib.hid hf
  have HF2 := Lib.hid hf2
  have j1 : (600 : Int) < (n1 : Int) := by omega
  clear hf hf2 hn
  clear h h'
  go_enter Try.func3, Try.ntmps3
  go_wp2_with (first
    | (go_at_call 6; (with_reducible refine (speaks19 _).mono ?_); rintro e wn ⟨rfl, hb⟩; replace C := Lib.hid (C.out.step hb); clear hb; (try clear x0 x1 x2 x3 x4 x5 x6 x7 x8 x9 y0 y1 y2 y3 y4 y5 y6 y7 y8 y9); obtain ⟨x0, x1, x2, x3, x4, x5, x6, x7, x8, x9, y0, y1, y2, y3, y4, y5, y6, y7, y8, y9⟩ := C.out.flat)
    | (go_at_call 7; (with_reducible refine (few15_any p q _ C.out.p1 hno HD.out _ HF.out).mono ?_); rintro e wn ⟨rfl, hb⟩; replace C := Lib.hid (C.out.step hb); clear hb; (try clear x0 x1 x2 x3 x4 x5 x6 x7 x8 x9 y0 y1 y2 y3 y4 y5 y6 y7 y8 y9); obtain ⟨x0, x1, x2, x3, x4, x5, x6, x7, x8, x9, y0, y1, y2, y3, y4, y5, y6, y7, y8, y9⟩ := C.out.flat)
    | (go_at_call 7; (with_reducible refine (few15_any o r _ C.out.p2 hnr HD2.out _ HF2.out).mono ?_); rintro e wn ⟨rfl, hb⟩; replace C := Lib.hid (C.out.step hb); clear hb; (try clear x0 x1 x2 x3 x4 x5 x6 x7 x8 x9 y0 y1 y2 y3 y4 y5 y6 y7 y8 y9); obtain ⟨x0, x1, x2, x3, x4, x5, x6, x7, x8, x9, y0, y1, y2, y3, y4, y5, y6, y7, y8, y9⟩ := C.out.flat))
  go_ret
  exact ⟨rfl, C.out.bel⟩

theorem lost_lt (a b : List Nat) : (lostB a b).1 < 4294967296 := by
  unfold lostB
  repeat' split
  · exact loss_lt a b
  · show 0 < _; omega
  · show 0 < _; omega
theorem sm_rep {l : List Nat} (h : l.length ≤ 40) : (repP l).sm := ⟨Nat.zero_le _, Nat.zero_le _, Nat.zero_le _, Nat.zero_le _, Nat.zero_le _, Nat.le_trans h (by omega)⟩
theorem lqget_sm {b : List Nat} {y : Pk} {k : Nat} (h : lqgetB b = (y, k)) : y.sm := by
  unfold lqgetB at h
  split at h
  · injection h with e1 _
    subst e1
    exact sm0
  · injection h with e1 _
    subst e1
    exact sm_rep (by rw [rdN_len]; omega)
theorem lqput_len {p : Pk} {m : List Nat} {k : Nat} (h : lqputB p = (m, k)) : m.length ≤ 48 := by
  unfold lqputB at h
  split at h
  · split at h
    · split at h
      · rename_i h3
        injection h with e1 _
        subst e1
        rw [octN_len, h3]
        omega
      · injection h with e1 _
        subst e1
        exact Nat.zero_le _
    · injection h with e1 _
      subst e1
      exact Nat.zero_le _
  · injection h with e1 _
    subst e1
    exact Nat.zero_le _

set_option maxRecDepth 8000 in
set_option maxHeartbeats 40000000 in
theorem ltell_walk (p : Pk) (q : Pl) (o : Pk) (r : Pl) (A1 : Option Addr) (n1 c1 : Nat) (w : World) (h : IsPk w p q) (h' : IsPk w o r) (b : List Nat) (hR : Rd w w.heap.size A1 b) (hB : By b) (hL : b.length = n1) (hc1 : n1 ≤ c1) (hf : fewP p = true) (hf2 : fewP o = true) (h1 : n1 ≤ 600) :
    Calls Try.prog 3 #[p.val q, o.val r, .slice A1 n1 c1] w fun e w' => e = .returned (.bool true) ∧ Below w.heap.size w w' := by
  have C := Lib.hid (TwB.made 28 w p o q r h.pw h'.pw)
  have hno := h.no
  have HD := Lib.hid h.od
  have hnr := h'.no
  have HD2 := Lib.hid h'.od
  have N1 := Lib.hid (show N32 p.nums from h.ok.nums)
  have N2 := Lib.hid (show N32 o.nums from h'.ok.nums)
  have HF := Lib.hid hf
  have HF2 := Lib.hid hf2
  have HR := Lib.hid hR
  have HB := Lib.hid hB
  have HL := Lib.hid hL
  have hno2 : q.no ≤ 1073741824 := by rw [← h.pw.lo]; exact (fewP_sm hf).o
  have hnr2 : r.no ≤ 1073741824 := by rw [← h'.pw.lo]; exact (fewP_sm hf2).o
  have j1 : ¬ (600 : Int) < (n1 : Int) := by omega
  obtain ⟨m, k, hm⟩ : ∃ m k, Hid (lqputB p = (m, k)) := ⟨_, _, Lib.hid rfl⟩
  obtain ⟨n, hn⟩ : ∃ n, Hid (m.length = n) := ⟨_, Lib.hid rfl⟩
  have n9 : n ≤ 48 := by rw [← hn.out]; exact lqput_len hm.out
  obtain ⟨y, k2, hy⟩ : ∃ y k2, Hid (lqgetB b = (y, k2)) := ⟨_, _, Lib.hid rfl⟩
  have HY := Lib.hid (lqget_sm hy.out)
  obtain ⟨l, ok, hl⟩ : ∃ l ok, Hid (lostB p.nums o.nums = (l, ok)) := ⟨_, _, Lib.hid rfl⟩
  have L9 := Lib.hid (show IntKind.i64.wrap (l : Int) = (l : Int) from IntWalk.i64_in _ (by have := lost_lt p.nums o.nums; rw [hl.out] at this; dsimp only at this; omega))
  clear h h' hR hB hL hf hf2
  go_enter Try.func3, Try.ntmps3
  go_upto_region 7 with (first
    | (go_at_call 6; (with_reducible refine (speaks19 _).mono ?_); rintro e wn ⟨rfl, hb⟩; replace C := Lib.hid (C.out.step hb); clear hb; (try clear x0 x1 x2 x3 x4 x5 x6 x7 x8 x9 y0 y1 y2 y3 y4 y5 y6 y7 y8 y9); obtain ⟨x0, x1, x2, x3, x4, x5, x6, x7, x8, x9, y0, y1, y2, y3, y4, y5, y6, y7, y8, y9⟩ := C.out.flat)
    | (go_at_call 7; (with_reducible refine (few15_any p q _ C.out.p1 hno HD.out _ HF.out).mono ?_); rintro e wn ⟨rfl, hb⟩; replace C := Lib.hid (C.out.step hb); clear hb; (try clear x0 x1 x2 x3 x4 x5 x6 x7 x8 x9 y0 y1 y2 y3 y4 y5 y6 y7 y8 y9); obtain ⟨x0, x1, x2, x3, x4, x5, x6, x7, x8, x9, y0, y1, y2, y3, y4, y5, y6, y7, y8, y9⟩ := C.out.flat)
    | (go_at_call 7; (with_reducible refine (few15_any o r _ C.out.p2 hnr HD2.out _ HF2.out).mono ?_); rintro e wn ⟨rfl, hb⟩; replace C := Lib.hid (C.out.step hb); clear hb; (try clear x0 x1 x2 x3 x4 x5 x6 x7 x8 x9 y0 y1 y2 y3 y4 y5 y6 y7 y8 y9); obtain ⟨x0, x1, x2, x3, x4, x5, x6, x7, x8, x9, y0, y1, y2, y3, y4, y5, y6, y7, y8, y9⟩ := C.out.flat)
    | (go_at_call 9; (with_reducible refine (of15_any p q _ C.out.p1 hno2).mono ?_); rintro e wn ⟨r1, rfl, hp, hb⟩; have P := Lib.hid hp; replace C := Lib.hid (C.out.step hb); clear hp hb; (try clear x0 x1 x2 x3 x4 x5 x6 x7 x8 x9 y0 y1 y2 y3 y4 y5 y6 y7 y8 y9); obtain ⟨x0, x1, x2, x3, x4, x5, x6, x7, x8, x9, y0, y1, y2, y3, y4, y5, y6, y7, y8, y9⟩ := C.out.flat)
    | (go_at_call 8; (with_reducible refine (lput_any p r1 _ P.out N1.out m k hm.out n hn.out).mono ?_); rintro e wn ⟨A5, c5, rfl, h5, h5c, hb⟩; replace C := Lib.hid (C.out.step hb); have X5 := Lib.hid h5; clear h5 h5c hb P; (try clear x0 x1 x2 x3 x4 x5 x6 x7 x8 x9 y0 y1 y2 y3 y4 y5 y6 y7 y8 y9); obtain ⟨x0, x1, x2, x3, x4, x5, x6, x7, x8, x9, y0, y1, y2, y3, y4, y5, y6, y7, y8, y9⟩ := C.out.flat)
    | (go_at_call 10; (with_reducible refine (rlput_any p q _ C.out.p1 N1.out m k hm.out n hn.out).mono ?_); rintro e wn ⟨A6, c6, rfl, h6, h6c, hb⟩; replace C := Lib.hid (C.out.step hb); replace X5 := Lib.hid (X5.out.ons hb); have X6 := Lib.hid h6; clear h6 h6c hb; clear x0 x1 x2 x3 x4 x5 x6 x7 x8 x9 y0 y1 y2 y3 y4 y5 y6 y7 y8 y9)
    | (go_at_call 11; (with_reducible refine (lget_any b n1 c1 A1 _ (HR.out.ons C.out.bel) HB.out HL.out hc1 y k2 hy.out).mono ?_); rintro e w9 ⟨q1, rfl, hp1, hb⟩; have ba := (Below.refl w9.heap.size w9).alloc (Nat.le_refl _) (y.obj q1 36); have P1 := Lib.hid (hp1.pw.on ba); have XX1 := Lib.hid (px_new w9 36 y q1); replace X5 := Lib.hid ((X5.out.ons hb).ons ba); replace X6 := Lib.hid ((X6.out.ons hb).ons ba); replace C := Lib.hid ((C.out.step hb).step ba); clear hp1 hb ba)
    | (go_at_call 12; (with_reducible refine (rlget_any b n1 c1 A1 _ (HR.out.ons C.out.bel) HB.out HL.out hc1 (by omega) y k2 hy.out).mono ?_); rintro e w11 ⟨q2, rfl, hp2, hb⟩; have ba := (Below.refl w11.heap.size w11).alloc (Nat.le_refl _) (y.obj q2 28); have Z := Lib.hid (show TeL w (w11.alloc (y.obj q2 28)) w9.heap.size w11.heap.size y q1 q2 A5 A6 m from ⟨((C.out.step hb).step ba).bel, (XX1.out.below hb).below ba, px_new w11 28 y q2, (P1.out.on hb).on ba, hp2.pw.on ba, (X5.out.ons hb).ons ba, (X6.out.ons hb).ons ba⟩); replace C := Lib.hid ((C.out.step hb).step ba); clear hp2 hb ba P1 XX1 X5 X6))
  obtain ⟨g1, hg1⟩ : ∃ g, Hid (w9.heap.size = g) := ⟨_, Lib.hid rfl⟩
  obtain ⟨g2, hg2⟩ : ∃ g, Hid (w11.heap.size = g) := ⟨_, Lib.hid rfl⟩
  rw [hg1.out, hg2.out] at Z ⊢
  with_reducible refine at_worldP (fun W => Hid (TwB 28 w W p o q r) ∧ Hid (TeL w W g1 g2 y q1 q2 A5 A6 m)) ⟨C, Z⟩ ?_
  clear C Z hg1 hg2
  rintro W ⟨C, Z⟩
  obtain ⟨x0, x1, x2, x3, x4, x5, x6, x7, x8, x9, y0, y1, y2, y3, y4, y5, y6, y7, y8, y9⟩ := C.out.flat
  go_region_held3 (fun W => W.cell? ⟨w.heap.size, 0, none⟩ = some (.int .u16 (p.proto : Int)) ∧ W.cell? ⟨w.heap.size, 1, none⟩ = some (.int .u8 (p.code : Int)) ∧ W.cell? ⟨w.heap.size, 2, none⟩ = some (.int .u8 (p.id : Int)) ∧ W.cell? ⟨w.heap.size, 3, none⟩ = some (.slice q.ao q.no q.co) ∧ W.cell? ⟨w.heap.size, 4, none⟩ = some (.int .u16 (p.sub : Int)) ∧ W.cell? ⟨w.heap.size, 5, none⟩ = some (.int .u32 (p.magic : Int)) ∧ W.cell? ⟨w.heap.size, 6, none⟩ = some (.slice q.a1 q.n1 q.c1) ∧ W.cell? ⟨w.heap.size, 7, none⟩ = some (.slice q.a2 q.n2 q.c2) ∧ W.cell? ⟨w.heap.size, 8, none⟩ = some (.slice q.ad q.nd q.cd) ∧ W.cell? ⟨w.heap.size, 9, none⟩ = some (.slice q.an q.nn q.cn) ∧ W.cell? ⟨w.heap.size + 1, 0, none⟩ = some (.int .u16 (o.proto : Int)) ∧ W.cell? ⟨w.heap.size + 1, 1, none⟩ = some (.int .u8 (o.code : Int)) ∧ W.cell? ⟨w.heap.size + 1, 2, none⟩ = some (.int .u8 (o.id : Int)) ∧ W.cell? ⟨w.heap.size + 1, 3, none⟩ = some (.slice r.ao r.no r.co) ∧ W.cell? ⟨w.heap.size + 1, 4, none⟩ = some (.int .u16 (o.sub : Int)) ∧ W.cell? ⟨w.heap.size + 1, 5, none⟩ = some (.int .u32 (o.magic : Int)) ∧ W.cell? ⟨w.heap.size + 1, 6, none⟩ = some (.slice r.a1 r.n1 r.c1) ∧ W.cell? ⟨w.heap.size + 1, 7, none⟩ = some (.slice r.a2 r.n2 r.c2) ∧ W.cell? ⟨w.heap.size + 1, 8, none⟩ = some (.slice r.ad r.nd r.cd) ∧ W.cell? ⟨w.heap.size + 1, 9, none⟩ = some (.slice r.an r.nn r.cn)) (first | (with_reducible exact C.out.flat) | (with_reducible exact C.out.drew.flat)) (first
    | (go_at_call 9; (first | (with_reducible refine (of15_any p q _ C.out.p1 hno2).mono ?_) | (with_reducible refine (of15_any p q _ C.out.drew.p1 hno2).mono ?_)); rintro e wn ⟨r1, rfl, hp, hb⟩; have P := Lib.hid hp; (try replace R := Lib.hid (R.out.on hb)); replace C := Lib.hid (C.out.step hb); replace Z := Lib.hid (Z.out.step hb); clear hp hb; dsimp only)
    | (go_at_call 9; (first | (with_reducible refine (of15_any o r _ C.out.p2 hnr2).mono ?_) | (with_reducible refine (of15_any o r _ C.out.drew.p2 hnr2).mono ?_)); rintro e wn ⟨r2, rfl, hp, hb⟩; have R := Lib.hid hp; (try replace P := Lib.hid (P.out.on hb)); replace C := Lib.hid (C.out.step hb); replace Z := Lib.hid (Z.out.step hb); clear hp hb; dsimp only)
    | (go_at_call 13; (with_reducible refine (lost_any p o r1 r2 _ P.out R.out N1.out N2.out l ok hl.out).mono ?_); rintro e wn ⟨rfl, hb⟩; replace C := Lib.hid (C.out.step hb); replace Z := Lib.hid (Z.out.step hb); clear hb P R; dsimp only))
  all_goals (clear x0 x1 x2 x3 x4 x5 x6 x7 x8 x9 y0 y1 y2 y3 y4 y5 y6 y7 y8 y9; obtain ⟨x0, x1, x2, x3, x4, x5, x6, x7, x8, x9, y0, y1, y2, y3, y4, y5, y6, y7, y8, y9⟩ := C.out.flat)
  all_goals (go_upto_region 9 with (first
    | (go_at_call 14; (with_reducible refine (rlost_any p o q r _ C.out.p1 C.out.p2 N1.out N2.out l ok hl.out).mono ?_); rintro e wn ⟨rfl, hb⟩; replace Z := Lib.hid (Z.out.step hb); clear hb C)))
  all_goals (clear x0 x1 x2 x3 x4 x5 x6 x7 x8 x9 y0 y1 y2 y3 y4 y5 y6 y7 y8 y9; obtain ⟨x0, x1, x2, x3, x4, x5, x6, x7, x8, x9, y0, y1, y2, y3, y4, y5, y6, y7, y8, y9⟩ := Z.out.flat)
  all_goals (have l9 := L9.out)
  all_goals (go_region_held3 (fun W => W.cell? ⟨g1, 0, none⟩ = some (.int .u16 (y.proto : Int)) ∧ W.cell? ⟨g1, 1, none⟩ = some (.int .u8 (y.code : Int)) ∧ W.cell? ⟨g1, 2, none⟩ = some (.int .u8 (y.id : Int)) ∧ W.cell? ⟨g1, 3, none⟩ = some (.slice q1.ao q1.no q1.co) ∧ W.cell? ⟨g1, 4, none⟩ = some (.int .u16 (y.sub : Int)) ∧ W.cell? ⟨g1, 5, none⟩ = some (.int .u32 (y.magic : Int)) ∧ W.cell? ⟨g1, 6, none⟩ = some (.slice q1.a1 q1.n1 q1.c1) ∧ W.cell? ⟨g1, 7, none⟩ = some (.slice q1.a2 q1.n2 q1.c2) ∧ W.cell? ⟨g1, 8, none⟩ = some (.slice q1.ad q1.nd q1.cd) ∧ W.cell? ⟨g1, 9, none⟩ = some (.slice q1.an q1.nn q1.cn) ∧ W.cell? ⟨g2, 0, none⟩ = some (.int .u16 (y.proto : Int)) ∧ W.cell? ⟨g2, 1, none⟩ = some (.int .u8 (y.code : Int)) ∧ W.cell? ⟨g2, 2, none⟩ = some (.int .u8 (y.id : Int)) ∧ W.cell? ⟨g2, 3, none⟩ = some (.slice q2.ao q2.no q2.co) ∧ W.cell? ⟨g2, 4, none⟩ = some (.int .u16 (y.sub : Int)) ∧ W.cell? ⟨g2, 5, none⟩ = some (.int .u32 (y.magic : Int)) ∧ W.cell? ⟨g2, 6, none⟩ = some (.slice q2.a1 q2.n1 q2.c1) ∧ W.cell? ⟨g2, 7, none⟩ = some (.slice q2.a2 q2.n2 q2.c2) ∧ W.cell? ⟨g2, 8, none⟩ = some (.slice q2.ad q2.nd q2.cd) ∧ W.cell? ⟨g2, 9, none⟩ = some (.slice q2.an q2.nn q2.cn)) (first | (with_reducible exact Z.out.flat) | (with_reducible exact Z.out.drew.flat)) (first
    | (go_at_call 15; (first | (with_reducible refine (equal_yes m m n n _ _ _ _ _ Z.out.ra Z.out.rb hn.out hn.out (by omega) rfl).mono ?_) | (with_reducible refine (equal_yes m m n n _ _ _ _ _ Z.out.drew.ra Z.out.drew.rb hn.out hn.out (by omega) rfl).mono ?_)); rintro e wn ⟨rfl, hb⟩; replace Z := Lib.hid (Z.out.step hb); clear hb; dsimp only)
    | (go_at_call 17; (first | (with_reducible refine (to15_any y q1 _ Z.out.p1 (by rw [← Z.out.p1.lo]; exact HY.out.o)).mono ?_) | (with_reducible refine (to15_any y q1 _ Z.out.drew.p1 (by rw [← Z.out.p1.lo]; exact HY.out.o)).mono ?_)); rintro e wn ⟨q3, rfl, hp3, hb⟩; replace Z := Lib.hid (Z.out.step hb); have P3 := Lib.hid hp3; clear hp3 hb; dsimp only)
    | (go_at_call 16; (with_reducible refine (psame_yes y q3 q2 _ P3.out Z.out.p2 HY.out).mono ?_); rintro e wn ⟨rfl, hb⟩; replace Z := Lib.hid (Z.out.step hb); clear hb P3; dsimp only)))
  all_goals go_wp2_with fail
  all_goals
    go_ret
    exact ⟨rfl, Z.out.bel⟩
end Go.Proofs.Ytppblnpcbiochaa
