
/-
  ChapTells' walk. No condition.
-/
import Derived.Test.YtcmapiaacimbeaaChpA
import Derived.Test.YtcmapiaacimbeaaChpR
import Derived.Test.YtcmapiaacimbeaaChpG
import Derived.Test.YtcmapiaacimbeaaChpS
import Derived.Test.YtcmapiaacimbeaaPktH
import Derived.Deep.CutRange
import Derived.Deep.RegionHeld3
namespace Go.Proofs.Ytcmapiaacimbeaa
open Go.RowKit
set_option linter.unusedVariables false

/-- What the last region of ChapTells knows of the world it stands in: what LcpTells' does, and two packets of the law's own. -/
structure ChL (w W : World) (g1 g2 : Nat) (y : Pk) (q1 q2 : Pl) (A B : Option Addr) (m : List Nat) (p o : Pk) (q r : Pl) : Prop where
  te : TeL w W g1 g2 y q1 q2 A B m
  an : AnC 28 w W p o q r
section
variable {w W X W' : World} {g1 g2 : Nat} {y p o : Pk} {q1 q2 q r : Pl} {A B : Option Addr} {m : List Nat}
theorem ChL.step (h : ChL w W g1 g2 y q1 q2 A B m p o q r) (hb : Below X.heap.size X W') (hX : Below W.heap.size W X := by first | exact Below.refl _ _ | exact (Below.refl _ _).drew) : ChL w W' g1 g2 y q1 q2 A B m p o q r := ⟨h.te.step hb hX, h.an.step hb hX⟩
theorem ChL.drew (h : ChL w W g1 g2 y q1 q2 A B m p o q r) : ChL w W.drew g1 g2 y q1 q2 A B m p o q r := h.step (X := W) (Below.refl _ _).drew
theorem ChL.flat (h : ChL w W g1 g2 y q1 q2 A B m p o q r) : W.cell? ⟨g1, 0, none⟩ = some (.int .u16 (y.proto : Int)) ∧ W.cell? ⟨g1, 1, none⟩ = some (.int .u8 (y.code : Int)) ∧ W.cell? ⟨g1, 2, none⟩ = some (.int .u8 (y.id : Int)) ∧ W.cell? ⟨g1, 3, none⟩ = some (.slice q1.ao q1.no q1.co) ∧ W.cell? ⟨g1, 4, none⟩ = some (.int .u16 (y.sub : Int)) ∧ W.cell? ⟨g1, 5, none⟩ = some (.int .u32 (y.magic : Int)) ∧ W.cell? ⟨g1, 6, none⟩ = some (.slice q1.a1 q1.n1 q1.c1) ∧ W.cell? ⟨g1, 7, none⟩ = some (.slice q1.a2 q1.n2 q1.c2) ∧ W.cell? ⟨g1, 8, none⟩ = some (.slice q1.ad q1.nd q1.cd) ∧ W.cell? ⟨g1, 9, none⟩ = some (.slice q1.an q1.nn q1.cn) ∧ W.cell? ⟨g2, 0, none⟩ = some (.int .u16 (y.proto : Int)) ∧ W.cell? ⟨g2, 1, none⟩ = some (.int .u8 (y.code : Int)) ∧ W.cell? ⟨g2, 2, none⟩ = some (.int .u8 (y.id : Int)) ∧ W.cell? ⟨g2, 3, none⟩ = some (.slice q2.ao q2.no q2.co) ∧ W.cell? ⟨g2, 4, none⟩ = some (.int .u16 (y.sub : Int)) ∧ W.cell? ⟨g2, 5, none⟩ = some (.int .u32 (y.magic : Int)) ∧ W.cell? ⟨g2, 6, none⟩ = some (.slice q2.a1 q2.n1 q2.c1) ∧ W.cell? ⟨g2, 7, none⟩ = some (.slice q2.a2 q2.n2 q2.c2) ∧ W.cell? ⟨g2, 8, none⟩ = some (.slice q2.ad q2.nd q2.cd) ∧ W.cell? ⟨g2, 9, none⟩ = some (.slice q2.an q2.nn q2.cn) ∧ W.cell? ⟨w.heap.size, 0, none⟩ = some (.int .u16 (p.proto : Int)) ∧ W.cell? ⟨w.heap.size, 1, none⟩ = some (.int .u8 (p.code : Int)) ∧ W.cell? ⟨w.heap.size, 2, none⟩ = some (.int .u8 (p.id : Int)) ∧ W.cell? ⟨w.heap.size, 3, none⟩ = some (.slice q.ao q.no q.co) ∧ W.cell? ⟨w.heap.size, 4, none⟩ = some (.int .u16 (p.sub : Int)) ∧ W.cell? ⟨w.heap.size, 5, none⟩ = some (.int .u32 (p.magic : Int)) ∧ W.cell? ⟨w.heap.size, 6, none⟩ = some (.slice q.a1 q.n1 q.c1) ∧ W.cell? ⟨w.heap.size, 7, none⟩ = some (.slice q.a2 q.n2 q.c2) ∧ W.cell? ⟨w.heap.size, 8, none⟩ = some (.slice q.ad q.nd q.cd) ∧ W.cell? ⟨w.heap.size, 9, none⟩ = some (.slice q.an q.nn q.cn) ∧ W.cell? ⟨(w.heap.size + 1), 0, none⟩ = some (.int .u16 (o.proto : Int)) ∧ W.cell? ⟨(w.heap.size + 1), 1, none⟩ = some (.int .u8 (o.code : Int)) ∧ W.cell? ⟨(w.heap.size + 1), 2, none⟩ = some (.int .u8 (o.id : Int)) ∧ W.cell? ⟨(w.heap.size + 1), 3, none⟩ = some (.slice r.ao r.no r.co) ∧ W.cell? ⟨(w.heap.size + 1), 4, none⟩ = some (.int .u16 (o.sub : Int)) ∧ W.cell? ⟨(w.heap.size + 1), 5, none⟩ = some (.int .u32 (o.magic : Int)) ∧ W.cell? ⟨(w.heap.size + 1), 6, none⟩ = some (.slice r.a1 r.n1 r.c1) ∧ W.cell? ⟨(w.heap.size + 1), 7, none⟩ = some (.slice r.a2 r.n2 r.c2) ∧ W.cell? ⟨(w.heap.size + 1), 8, none⟩ = some (.slice r.ad r.nd r.cd) ∧ W.cell? ⟨(w.heap.size + 1), 9, none⟩ = some (.slice r.an r.nn r.cn) := by
  obtain ⟨x0, x1, x2, x3, x4, x5, x6, x7, x8, x9⟩ := h.te.x1.all
  obtain ⟨y0, y1, y2, y3, y4, y5, y6, y7, y8, y9⟩ := h.te.x2.all
  obtain ⟨z0, z1, z2, z3, z4, z5, z6, z7, z8, z9⟩ := h.an.c1.all
  exact ⟨x0, x1, x2, x3, x4, x5, x6, x7, x8, x9, y0, y1, y2, y3, y4, y5, y6, y7, y8, y9, z0, z1, z2, z3, z4, z5, z6, z7, z8, z9, h.an.c2.all⟩
end

set_option maxHeartbeats 4000000 in
theorem chtell_few1 (p : Pk) (q : Pl) (o : Pk) (r : Pl) (A1 : Option Addr) (n1 c1 : Nat) (w : World) (h : IsPk w p q) (h' : IsPk w o r) (hf : fewP p = false) :
    Calls Try.prog 3 #[p.val q, o.val r, .slice A1 n1 c1] w fun e w' => e = .returned (.bool true) ∧ Below w.heap.size w w' := by
  have C := Lib.hid (AnC.made 28 w p o q r)
  have H := Lib.hid h.pw
  have hno := h.no
  have HD := Lib.hid h.od
  have H2 := Lib.hid h'.pw
  have hnr := h'.no
  have HD2 := Lib.hid h'.od
  have HF := Lib.hid hf
  clear hf
  clear h h'
  go_enter Try.func3, Try.ntmps3
  go_wp2_with (first
    | (go_at_call 6; (with_reducible refine (speaks18 _).mono ?_); rintro e wn ⟨rfl, hb⟩; replace C := Lib.hid (C.out.step hb); clear hb; (try clear x0 x1 x2 x3 x4 x5 x6 x7 x8 x9 y0 y1 y2 y3 y4 y5 y6 y7 y8 y9); obtain ⟨x0, x1, x2, x3, x4, x5, x6, x7, x8, x9⟩ := C.out.c1.all; obtain ⟨y0, y1, y2, y3, y4, y5, y6, y7, y8, y9⟩ := C.out.c2.all)
    | (go_at_call 7; (with_reducible refine (few15_any p q _ (H.out.on C.out.bel) hno HD.out _ HF.out).mono ?_); rintro e wn ⟨rfl, hb⟩; replace C := Lib.hid (C.out.step hb); clear hb; (try clear x0 x1 x2 x3 x4 x5 x6 x7 x8 x9 y0 y1 y2 y3 y4 y5 y6 y7 y8 y9); obtain ⟨x0, x1, x2, x3, x4, x5, x6, x7, x8, x9⟩ := C.out.c1.all; obtain ⟨y0, y1, y2, y3, y4, y5, y6, y7, y8, y9⟩ := C.out.c2.all))
  go_ret
  exact ⟨rfl, C.out.bel⟩

set_option maxHeartbeats 4000000 in
theorem chtell_few2 (p : Pk) (q : Pl) (o : Pk) (r : Pl) (A1 : Option Addr) (n1 c1 : Nat) (w : World) (h : IsPk w p q) (h' : IsPk w o r) (hf : fewP p = true) (hf2 : fewP o = false) :
    Calls Try.prog 3 #[p.val q, o.val r, .slice A1 n1 c1] w fun e w' => e = .returned (.bool true) ∧ Below w.heap.size w w' := by
  have C := Lib.hid (AnC.made 28 w p o q r)
  have H := Lib.hid h.pw
  have hno := h.no
  have HD := Lib.hid h.od
  have H2 := Lib.hid h'.pw
  have hnr := h'.no
  have HD2 := Lib.hid h'.od
  have HF := Lib.hid hf
  have HF2 := Lib.hid hf2
  clear hf hf2
  clear h h'
  go_enter Try.func3, Try.ntmps3
  go_wp2_with (first
    | (go_at_call 6; (with_reducible refine (speaks18 _).mono ?_); rintro e wn ⟨rfl, hb⟩; replace C := Lib.hid (C.out.step hb); clear hb; (try clear x0 x1 x2 x3 x4 x5 x6 x7 x8 x9 y0 y1 y2 y3 y4 y5 y6 y7 y8 y9); obtain ⟨x0, x1, x2, x3, x4, x5, x6, x7, x8, x9⟩ := C.out.c1.all; obtain ⟨y0, y1, y2, y3, y4, y5, y6, y7, y8, y9⟩ := C.out.c2.all)
    | (go_at_call 7; (with_reducible refine (few15_any p q _ (H.out.on C.out.bel) hno HD.out _ HF.out).mono ?_); rintro e wn ⟨rfl, hb⟩; replace C := Lib.hid (C.out.step hb); clear hb; (try clear x0 x1 x2 x3 x4 x5 x6 x7 x8 x9 y0 y1 y2 y3 y4 y5 y6 y7 y8 y9); obtain ⟨x0, x1, x2, x3, x4, x5, x6, x7, x8, x9⟩ := C.out.c1.all; obtain ⟨y0, y1, y2, y3, y4, y5, y6, y7, y8, y9⟩ := C.out.c2.all)
    | (go_at_call 7; (with_reducible refine (few15_any o r _ (H2.out.on C.out.bel) hnr HD2.out _ HF2.out).mono ?_); rintro e wn ⟨rfl, hb⟩; replace C := Lib.hid (C.out.step hb); clear hb; (try clear x0 x1 x2 x3 x4 x5 x6 x7 x8 x9 y0 y1 y2 y3 y4 y5 y6 y7 y8 y9); obtain ⟨x0, x1, x2, x3, x4, x5, x6, x7, x8, x9⟩ := C.out.c1.all; obtain ⟨y0, y1, y2, y3, y4, y5, y6, y7, y8, y9⟩ := C.out.c2.all))
  go_ret
  exact ⟨rfl, C.out.bel⟩

set_option maxHeartbeats 4000000 in
theorem chtell_long (p : Pk) (q : Pl) (o : Pk) (r : Pl) (A1 : Option Addr) (n1 c1 : Nat) (w : World) (h : IsPk w p q) (h' : IsPk w o r) (hf : fewP p = true) (hf2 : fewP o = true) (h1 : ¬ n1 ≤ 600) :
    Calls Try.prog 3 #[p.val q, o.val r, .slice A1 n1 c1] w fun e w' => e = .returned (.bool true) ∧ Below w.heap.size w w' := by
  have C := Lib.hid (AnC.made 28 w p o q r)
  have H := Lib.hid h.pw
  have hno := h.no
  have HD := Lib.hid h.od
  have H2 := Lib.hid h'.pw
  have hnr := h'.no
  have HD2 := Lib.hid h'.od
  have HF := Lib.hid hf
  have HF2 := Lib.hid hf2
  have j1 : (600 : Int) < (n1 : Int) := by omega
  clear hf hf2 h1
  clear h h'
  go_enter Try.func3, Try.ntmps3
  go_wp2_with (first
    | (go_at_call 6; (with_reducible refine (speaks18 _).mono ?_); rintro e wn ⟨rfl, hb⟩; replace C := Lib.hid (C.out.step hb); clear hb; (try clear x0 x1 x2 x3 x4 x5 x6 x7 x8 x9 y0 y1 y2 y3 y4 y5 y6 y7 y8 y9); obtain ⟨x0, x1, x2, x3, x4, x5, x6, x7, x8, x9⟩ := C.out.c1.all; obtain ⟨y0, y1, y2, y3, y4, y5, y6, y7, y8, y9⟩ := C.out.c2.all)
    | (go_at_call 7; (with_reducible refine (few15_any p q _ (H.out.on C.out.bel) hno HD.out _ HF.out).mono ?_); rintro e wn ⟨rfl, hb⟩; replace C := Lib.hid (C.out.step hb); clear hb; (try clear x0 x1 x2 x3 x4 x5 x6 x7 x8 x9 y0 y1 y2 y3 y4 y5 y6 y7 y8 y9); obtain ⟨x0, x1, x2, x3, x4, x5, x6, x7, x8, x9⟩ := C.out.c1.all; obtain ⟨y0, y1, y2, y3, y4, y5, y6, y7, y8, y9⟩ := C.out.c2.all)
    | (go_at_call 7; (with_reducible refine (few15_any o r _ (H2.out.on C.out.bel) hnr HD2.out _ HF2.out).mono ?_); rintro e wn ⟨rfl, hb⟩; replace C := Lib.hid (C.out.step hb); clear hb; (try clear x0 x1 x2 x3 x4 x5 x6 x7 x8 x9 y0 y1 y2 y3 y4 y5 y6 y7 y8 y9); obtain ⟨x0, x1, x2, x3, x4, x5, x6, x7, x8, x9⟩ := C.out.c1.all; obtain ⟨y0, y1, y2, y3, y4, y5, y6, y7, y8, y9⟩ := C.out.c2.all))
  go_ret
  exact ⟨rfl, C.out.bel⟩

set_option maxRecDepth 4000 in
set_option maxHeartbeats 40000000 in
theorem chtell_walk (p : Pk) (q : Pl) (o : Pk) (r : Pl) (b : List Nat) (A1 : Option Addr) (n1 c1 : Nat) (w : World) (h : IsPk w p q) (h' : IsPk w o r) (hR : Rd w w.heap.size A1 b) (hB : By b) (hL : b.length = n1) (hc1 : n1 ≤ c1) (hf : fewP p = true) (hf2 : fewP o = true) (h1 : n1 ≤ 600) :
    Calls Try.prog 3 #[p.val q, o.val r, .slice A1 n1 c1] w fun e w' => e = .returned (.bool true) ∧ Below w.heap.size w w' := by
  have C := Lib.hid (AnC.made 28 w p o q r)
  have H := Lib.hid h.pw
  have hno := h.no
  have HD := Lib.hid h.od
  have H2 := Lib.hid h'.pw
  have hnr := h'.no
  have HD2 := Lib.hid h'.od
  have HF := Lib.hid hf
  have HF2 := Lib.hid hf2
  have HS := Lib.hid (fewP_sm hf)
  have HR := Lib.hid hR
  have HB := Lib.hid hB
  have HL := Lib.hid hL
  have hno2 : q.no ≤ 1073741824 := by rw [← h.pw.lo]; exact (fewP_sm hf).o
  have hnr2 : r.no ≤ 1073741824 := by rw [← h'.pw.lo]; exact (fewP_sm hf2).o
  have j1 : ¬ (600 : Int) < (n1 : Int) := by omega
  obtain ⟨m, k, hm⟩ : ∃ m k, Hid (chputB p = (m, k)) := ⟨_, _, Lib.hid rfl⟩
  obtain ⟨n, hn⟩ : ∃ n, Hid (m.length = n) := ⟨_, Lib.hid rfl⟩
  have n9 : n ≤ 2000 := by rw [← hn.out]; exact chput_len hm.out hf
  obtain ⟨y, k2, hy⟩ : ∃ y k2, Hid (chgetB b = (y, k2)) := ⟨_, _, Lib.hid rfl⟩
  have HY := Lib.hid (chget_ok hB hy.out (by omega)).2
  obtain ⟨ans, hans⟩ : ∃ a, Hid (chansB p o = a) := ⟨_, Lib.hid rfl⟩
  clear h h' hR hB hL hf hf2
  go_enter Try.func3, Try.ntmps3
  go_wp2_with (first
    | (go_at_call 6; (with_reducible refine (speaks18 _).mono ?_); rintro e wn ⟨rfl, hb⟩; replace C := Lib.hid (C.out.step hb); clear hb; (try clear x0 x1 x2 x3 x4 x5 x6 x7 x8 x9 y0 y1 y2 y3 y4 y5 y6 y7 y8 y9); obtain ⟨x0, x1, x2, x3, x4, x5, x6, x7, x8, x9⟩ := C.out.c1.all; obtain ⟨y0, y1, y2, y3, y4, y5, y6, y7, y8, y9⟩ := C.out.c2.all)
    | (go_at_call 7; (with_reducible refine (few15_any p q _ (H.out.on C.out.bel) hno HD.out _ HF.out).mono ?_); rintro e wn ⟨rfl, hb⟩; replace C := Lib.hid (C.out.step hb); clear hb; (try clear x0 x1 x2 x3 x4 x5 x6 x7 x8 x9 y0 y1 y2 y3 y4 y5 y6 y7 y8 y9); obtain ⟨x0, x1, x2, x3, x4, x5, x6, x7, x8, x9⟩ := C.out.c1.all; obtain ⟨y0, y1, y2, y3, y4, y5, y6, y7, y8, y9⟩ := C.out.c2.all)
    | (go_at_call 7; (with_reducible refine (few15_any o r _ (H2.out.on C.out.bel) hnr HD2.out _ HF2.out).mono ?_); rintro e wn ⟨rfl, hb⟩; replace C := Lib.hid (C.out.step hb); clear hb; (try clear x0 x1 x2 x3 x4 x5 x6 x7 x8 x9 y0 y1 y2 y3 y4 y5 y6 y7 y8 y9); obtain ⟨x0, x1, x2, x3, x4, x5, x6, x7, x8, x9⟩ := C.out.c1.all; obtain ⟨y0, y1, y2, y3, y4, y5, y6, y7, y8, y9⟩ := C.out.c2.all)
    | (go_at_call 9; (with_reducible refine (of15_any p q _ (H.out.on C.out.bel) hno2).mono ?_); rintro e wn ⟨r3, rfl, hp, hb⟩; have P := Lib.hid hp; replace C := Lib.hid (C.out.step hb); clear hp hb; clear x0 x1 x2 x3 x4 x5 x6 x7 x8 x9 y0 y1 y2 y3 y4 y5 y6 y7 y8 y9; obtain ⟨x0, x1, x2, x3, x4, x5, x6, x7, x8, x9⟩ := C.out.c1.all; obtain ⟨y0, y1, y2, y3, y4, y5, y6, y7, y8, y9⟩ := C.out.c2.all)
    | (go_at_call 8; (with_reducible refine (chput_any p r3 _ P.out HS.out m k hm.out n hn.out).mono ?_); rintro e wn ⟨A5, c5, rfl, h5, h5c, hb⟩; replace C := Lib.hid (C.out.step hb); have X5 := Lib.hid h5; clear h5 h5c hb P; clear x0 x1 x2 x3 x4 x5 x6 x7 x8 x9 y0 y1 y2 y3 y4 y5 y6 y7 y8 y9; obtain ⟨x0, x1, x2, x3, x4, x5, x6, x7, x8, x9⟩ := C.out.c1.all; obtain ⟨y0, y1, y2, y3, y4, y5, y6, y7, y8, y9⟩ := C.out.c2.all)
    | (go_at_call 10; (with_reducible refine (chrp_any p q _ (H.out.on C.out.bel) HS.out m k hm.out n hn.out).mono ?_); rintro e wn ⟨A6, c6, rfl, h6, h6c, hb⟩; replace C := Lib.hid (C.out.step hb); replace X5 := Lib.hid (X5.out.ons hb); have X6 := Lib.hid h6; clear h6 h6c hb; clear x0 x1 x2 x3 x4 x5 x6 x7 x8 x9 y0 y1 y2 y3 y4 y5 y6 y7 y8 y9)
    | (go_at_call 11; (with_reducible refine (chget_any b n1 c1 A1 _ (HR.out.ons C.out.bel) HB.out HL.out (by omega) hc1 y k2 hy.out).mono ?_); rintro e w9 ⟨q1, rfl, hp1, hb⟩; have ba := (Below.refl w9.heap.size w9).alloc (Nat.le_refl _) (y.obj q1 36); have P1 := Lib.hid (hp1.pw.on ba); have XX1 := Lib.hid (px_new w9 36 y q1); replace X5 := Lib.hid ((X5.out.ons hb).ons ba); replace X6 := Lib.hid ((X6.out.ons hb).ons ba); replace C := Lib.hid ((C.out.step hb).step ba); clear hp1 hb ba)
    | (go_at_call 12; (with_reducible refine (chrg_any b n1 c1 A1 _ (HR.out.ons C.out.bel) HB.out HL.out (by omega) hc1 y k2 hy.out).mono ?_); rintro e w11 ⟨q2, rfl, hp2, hb⟩; have ba := (Below.refl w11.heap.size w11).alloc (Nat.le_refl _) (y.obj q2 28); have Z := Lib.hid (show ChL w (w11.alloc (y.obj q2 28)) w9.heap.size w11.heap.size y q1 q2 A5 A6 m p o q r from ⟨⟨((C.out.step hb).step ba).bel, (XX1.out.below hb).below ba, px_new w11 28 y q2, (P1.out.on hb).on ba, hp2.on ba, (X5.out.ons hb).ons ba, (X6.out.ons hb).ons ba⟩, (C.out.step hb).step ba⟩); clear hp2 hb ba P1 XX1 X5 X6 C))
  obtain ⟨f0, f1, f2, f3, f4, f5, f6, f7, f8, f9, f10, f11, f12, f13, f14, f15, f16, f17, f18, f19, f20, f21, f22, f23, f24, f25, f26, f27, f28, f29, f30, f31, f32, f33, f34, f35, f36, f37, f38, f39⟩ := Z.out.flat
  go_region_held3 (fun W => W.cell? ⟨w9.heap.size, 0, none⟩ = some (.int .u16 (y.proto : Int)) ∧ W.cell? ⟨w9.heap.size, 1, none⟩ = some (.int .u8 (y.code : Int)) ∧ W.cell? ⟨w9.heap.size, 2, none⟩ = some (.int .u8 (y.id : Int)) ∧ W.cell? ⟨w9.heap.size, 3, none⟩ = some (.slice q1.ao q1.no q1.co) ∧ W.cell? ⟨w9.heap.size, 4, none⟩ = some (.int .u16 (y.sub : Int)) ∧ W.cell? ⟨w9.heap.size, 5, none⟩ = some (.int .u32 (y.magic : Int)) ∧ W.cell? ⟨w9.heap.size, 6, none⟩ = some (.slice q1.a1 q1.n1 q1.c1) ∧ W.cell? ⟨w9.heap.size, 7, none⟩ = some (.slice q1.a2 q1.n2 q1.c2) ∧ W.cell? ⟨w9.heap.size, 8, none⟩ = some (.slice q1.ad q1.nd q1.cd) ∧ W.cell? ⟨w9.heap.size, 9, none⟩ = some (.slice q1.an q1.nn q1.cn) ∧ W.cell? ⟨w11.heap.size, 0, none⟩ = some (.int .u16 (y.proto : Int)) ∧ W.cell? ⟨w11.heap.size, 1, none⟩ = some (.int .u8 (y.code : Int)) ∧ W.cell? ⟨w11.heap.size, 2, none⟩ = some (.int .u8 (y.id : Int)) ∧ W.cell? ⟨w11.heap.size, 3, none⟩ = some (.slice q2.ao q2.no q2.co) ∧ W.cell? ⟨w11.heap.size, 4, none⟩ = some (.int .u16 (y.sub : Int)) ∧ W.cell? ⟨w11.heap.size, 5, none⟩ = some (.int .u32 (y.magic : Int)) ∧ W.cell? ⟨w11.heap.size, 6, none⟩ = some (.slice q2.a1 q2.n1 q2.c1) ∧ W.cell? ⟨w11.heap.size, 7, none⟩ = some (.slice q2.a2 q2.n2 q2.c2) ∧ W.cell? ⟨w11.heap.size, 8, none⟩ = some (.slice q2.ad q2.nd q2.cd) ∧ W.cell? ⟨w11.heap.size, 9, none⟩ = some (.slice q2.an q2.nn q2.cn) ∧ W.cell? ⟨w.heap.size, 0, none⟩ = some (.int .u16 (p.proto : Int)) ∧ W.cell? ⟨w.heap.size, 1, none⟩ = some (.int .u8 (p.code : Int)) ∧ W.cell? ⟨w.heap.size, 2, none⟩ = some (.int .u8 (p.id : Int)) ∧ W.cell? ⟨w.heap.size, 3, none⟩ = some (.slice q.ao q.no q.co) ∧ W.cell? ⟨w.heap.size, 4, none⟩ = some (.int .u16 (p.sub : Int)) ∧ W.cell? ⟨w.heap.size, 5, none⟩ = some (.int .u32 (p.magic : Int)) ∧ W.cell? ⟨w.heap.size, 6, none⟩ = some (.slice q.a1 q.n1 q.c1) ∧ W.cell? ⟨w.heap.size, 7, none⟩ = some (.slice q.a2 q.n2 q.c2) ∧ W.cell? ⟨w.heap.size, 8, none⟩ = some (.slice q.ad q.nd q.cd) ∧ W.cell? ⟨w.heap.size, 9, none⟩ = some (.slice q.an q.nn q.cn) ∧ W.cell? ⟨(w.heap.size + 1), 0, none⟩ = some (.int .u16 (o.proto : Int)) ∧ W.cell? ⟨(w.heap.size + 1), 1, none⟩ = some (.int .u8 (o.code : Int)) ∧ W.cell? ⟨(w.heap.size + 1), 2, none⟩ = some (.int .u8 (o.id : Int)) ∧ W.cell? ⟨(w.heap.size + 1), 3, none⟩ = some (.slice r.ao r.no r.co) ∧ W.cell? ⟨(w.heap.size + 1), 4, none⟩ = some (.int .u16 (o.sub : Int)) ∧ W.cell? ⟨(w.heap.size + 1), 5, none⟩ = some (.int .u32 (o.magic : Int)) ∧ W.cell? ⟨(w.heap.size + 1), 6, none⟩ = some (.slice r.a1 r.n1 r.c1) ∧ W.cell? ⟨(w.heap.size + 1), 7, none⟩ = some (.slice r.a2 r.n2 r.c2) ∧ W.cell? ⟨(w.heap.size + 1), 8, none⟩ = some (.slice r.ad r.nd r.cd) ∧ W.cell? ⟨(w.heap.size + 1), 9, none⟩ = some (.slice r.an r.nn r.cn)) (first | (with_reducible exact Z.out.flat) | (with_reducible exact Z.out.drew.flat)) (first
    | (go_at_call 13; (first | (with_reducible refine (equal_yes m m n n _ _ _ _ _ Z.out.te.ra Z.out.te.rb hn.out hn.out (by omega) rfl).mono ?_) | (with_reducible refine (equal_yes m m n n _ _ _ _ _ Z.out.drew.te.ra Z.out.drew.te.rb hn.out hn.out (by omega) rfl).mono ?_)); rintro e wn ⟨rfl, hb⟩; replace Z := Lib.hid (Z.out.step hb); clear hb; dsimp only)
    | (go_at_call 15; (first | (with_reducible refine (to15_any y q1 _ Z.out.te.p1 (by rw [← Z.out.te.p1.lo]; exact HY.out.o)).mono ?_) | (with_reducible refine (to15_any y q1 _ Z.out.drew.te.p1 (by rw [← Z.out.te.p1.lo]; exact HY.out.o)).mono ?_)); rintro e wn ⟨q3, rfl, hp3, hb⟩; replace Z := Lib.hid (Z.out.step hb); have P3 := Lib.hid hp3; clear hp3 hb; dsimp only)
    | (go_at_call 14; (with_reducible refine (psame_yes y q3 q2 _ P3.out Z.out.te.p2 HY.out).mono ?_); rintro e wn ⟨rfl, hb⟩; replace Z := Lib.hid (Z.out.step hb); clear hb P3; dsimp only)
    | (go_at_call 9; (with_reducible refine (of15_any p q _ (H.out.on Z.out.an.bel) hno2).mono ?_); rintro e wn ⟨q4, rfl, hp3, hb⟩; replace Z := Lib.hid (Z.out.step hb); clear hp3 hb; dsimp only)
    | (go_at_call 9; (with_reducible refine (of15_any o r _ (H2.out.on Z.out.an.bel) hnr2).mono ?_); rintro e wn ⟨q5, rfl, hp3, hb⟩; replace Z := Lib.hid (Z.out.step hb); clear hp3 hb; dsimp only)
    | (go_at_call 16; (with_reducible refine (chans_any p o q4 q5 _ ans hans.out).mono ?_); rintro e wn ⟨rfl, hb⟩; replace Z := Lib.hid (Z.out.step hb); clear hb; dsimp only)
    | (go_at_call 17; (with_reducible refine (chrans_any p o q r _ ans hans.out).mono ?_); rintro e wn ⟨rfl, hb⟩; replace Z := Lib.hid (Z.out.step hb); clear hb; dsimp only))
  all_goals go_wp2_with fail
  all_goals
    go_ret
    exact ⟨rfl, Z.out.te.bel⟩
end Go.Proofs.Ytcmapiaacimbeaa
