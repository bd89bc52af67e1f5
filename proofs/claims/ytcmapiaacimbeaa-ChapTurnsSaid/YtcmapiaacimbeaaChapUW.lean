
/-
  ChapTurns' walk. No condition.
-/
import Derived.Test.YtcmapiaacimbeaaChpA
import Derived.Test.YtcmapiaacimbeaaChpP
import Derived.Test.YtcmapiaacimbeaaPktH
import Derived.Deep.CutRange
import Derived.Deep.RegionHeld3
namespace Go.Proofs.Ytcmapiaacimbeaa
open Go.RowKit
set_option linter.unusedVariables false

set_option maxHeartbeats 4000000 in
theorem chturn_few1 (p : Pk) (q : Pl) (o : Pk) (r : Pl) (w : World) (h : IsPk w p q) (h' : IsPk w o r) (hf : fewP p = false) :
    Calls Try.prog 5 #[p.val q, o.val r] w fun e w' => e = .returned (.bool true) ∧ Below w.heap.size w w' := by
  have C := Lib.hid (AnC.made 28 w p o q r)
  have H := Lib.hid h.pw
  have hno := h.no
  have HD := Lib.hid h.od
  have H2 := Lib.hid h'.pw
  have hnr := h'.no
  have HD2 := Lib.hid h'.od
  have HF := Lib.hid hf
  clear hf
  clear h h'
  go_enter Try.func5, Try.ntmps5
  go_wp2_with (first
    | (go_at_call 6; (with_reducible refine (speaks18 _).mono ?_); rintro e wn ⟨rfl, hb⟩; replace C := Lib.hid (C.out.step hb); clear hb; (try clear x0 x1 x2 x3 x4 x5 x6 x7 x8 x9 y0 y1 y2 y3 y4 y5 y6 y7 y8 y9); obtain ⟨x0, x1, x2, x3, x4, x5, x6, x7, x8, x9⟩ := C.out.c1.all; obtain ⟨y0, y1, y2, y3, y4, y5, y6, y7, y8, y9⟩ := C.out.c2.all)
    | (go_at_call 7; (with_reducible refine (few15_any p q _ (H.out.on C.out.bel) hno HD.out _ HF.out).mono ?_); rintro e wn ⟨rfl, hb⟩; replace C := Lib.hid (C.out.step hb); clear hb; (try clear x0 x1 x2 x3 x4 x5 x6 x7 x8 x9 y0 y1 y2 y3 y4 y5 y6 y7 y8 y9); obtain ⟨x0, x1, x2, x3, x4, x5, x6, x7, x8, x9⟩ := C.out.c1.all; obtain ⟨y0, y1, y2, y3, y4, y5, y6, y7, y8, y9⟩ := C.out.c2.all))
  go_ret
  exact ⟨rfl, C.out.bel⟩

set_option maxHeartbeats 4000000 in
theorem chturn_few2 (p : Pk) (q : Pl) (o : Pk) (r : Pl) (w : World) (h : IsPk w p q) (h' : IsPk w o r) (hf : fewP p = true) (hf2 : fewP o = false) :
    Calls Try.prog 5 #[p.val q, o.val r] w fun e w' => e = .returned (.bool true) ∧ Below w.heap.size w w' := by
  have C := Lib.hid (AnC.made 28 w p o q r)
  have H := Lib.hid h.pw
  have hno := h.no
  have HD := Lib.hid h.od
  have H2 := Lib.hid h'.pw
  have hnr := h'.no
  have HD2 := Lib.hid h'.od
  have HF := Lib.hid hf
  have HF2 := Lib.hid hf2
  clear hf hf2
  clear h h'
  go_enter Try.func5, Try.ntmps5
  go_wp2_with (first
    | (go_at_call 6; (with_reducible refine (speaks18 _).mono ?_); rintro e wn ⟨rfl, hb⟩; replace C := Lib.hid (C.out.step hb); clear hb; (try clear x0 x1 x2 x3 x4 x5 x6 x7 x8 x9 y0 y1 y2 y3 y4 y5 y6 y7 y8 y9); obtain ⟨x0, x1, x2, x3, x4, x5, x6, x7, x8, x9⟩ := C.out.c1.all; obtain ⟨y0, y1, y2, y3, y4, y5, y6, y7, y8, y9⟩ := C.out.c2.all)
    | (go_at_call 7; (with_reducible refine (few15_any p q _ (H.out.on C.out.bel) hno HD.out _ HF.out).mono ?_); rintro e wn ⟨rfl, hb⟩; replace C := Lib.hid (C.out.step hb); clear hb; (try clear x0 x1 x2 x3 x4 x5 x6 x7 x8 x9 y0 y1 y2 y3 y4 y5 y6 y7 y8 y9); obtain ⟨x0, x1, x2, x3, x4, x5, x6, x7, x8, x9⟩ := C.out.c1.all; obtain ⟨y0, y1, y2, y3, y4, y5, y6, y7, y8, y9⟩ := C.out.c2.all)
    | (go_at_call 7; (with_reducible refine (few15_any o r _ (H2.out.on C.out.bel) hnr HD2.out _ HF2.out).mono ?_); rintro e wn ⟨rfl, hb⟩; replace C := Lib.hid (C.out.step hb); clear hb; (try clear x0 x1 x2 x3 x4 x5 x6 x7 x8 x9 y0 y1 y2 y3 y4 y5 y6 y7 y8 y9); obtain ⟨x0, x1, x2, x3, x4, x5, x6, x7, x8, x9⟩ := C.out.c1.all; obtain ⟨y0, y1, y2, y3, y4, y5, y6, y7, y8, y9⟩ := C.out.c2.all))
  go_ret
  exact ⟨rfl, C.out.bel⟩

theorem AnC.flat {w W : World} {p o : Pk} {q r : Pl} (h : AnC 28 w W p o q r) : W.cell? ⟨w.heap.size, 0, none⟩ = some (.int .u16 (p.proto : Int)) ∧ W.cell? ⟨w.heap.size, 1, none⟩ = some (.int .u8 (p.code : Int)) ∧ W.cell? ⟨w.heap.size, 2, none⟩ = some (.int .u8 (p.id : Int)) ∧ W.cell? ⟨w.heap.size, 3, none⟩ = some (.slice q.ao q.no q.co) ∧ W.cell? ⟨w.heap.size, 4, none⟩ = some (.int .u16 (p.sub : Int)) ∧ W.cell? ⟨w.heap.size, 5, none⟩ = some (.int .u32 (p.magic : Int)) ∧ W.cell? ⟨w.heap.size, 6, none⟩ = some (.slice q.a1 q.n1 q.c1) ∧ W.cell? ⟨w.heap.size, 7, none⟩ = some (.slice q.a2 q.n2 q.c2) ∧ W.cell? ⟨w.heap.size, 8, none⟩ = some (.slice q.ad q.nd q.cd) ∧ W.cell? ⟨w.heap.size, 9, none⟩ = some (.slice q.an q.nn q.cn) ∧ W.cell? ⟨(w.heap.size + 1), 0, none⟩ = some (.int .u16 (o.proto : Int)) ∧ W.cell? ⟨(w.heap.size + 1), 1, none⟩ = some (.int .u8 (o.code : Int)) ∧ W.cell? ⟨(w.heap.size + 1), 2, none⟩ = some (.int .u8 (o.id : Int)) ∧ W.cell? ⟨(w.heap.size + 1), 3, none⟩ = some (.slice r.ao r.no r.co) ∧ W.cell? ⟨(w.heap.size + 1), 4, none⟩ = some (.int .u16 (o.sub : Int)) ∧ W.cell? ⟨(w.heap.size + 1), 5, none⟩ = some (.int .u32 (o.magic : Int)) ∧ W.cell? ⟨(w.heap.size + 1), 6, none⟩ = some (.slice r.a1 r.n1 r.c1) ∧ W.cell? ⟨(w.heap.size + 1), 7, none⟩ = some (.slice r.a2 r.n2 r.c2) ∧ W.cell? ⟨(w.heap.size + 1), 8, none⟩ = some (.slice r.ad r.nd r.cd) ∧ W.cell? ⟨(w.heap.size + 1), 9, none⟩ = some (.slice r.an r.nn r.cn) := by
  obtain ⟨x0, x1, x2, x3, x4, x5, x6, x7, x8, x9⟩ := h.c1.all
  exact ⟨x0, x1, x2, x3, x4, x5, x6, x7, x8, x9, h.c2.all⟩
theorem Px.putO {W : World} {b d : Nat} {t : TypeId} {p x : Pk} {q y : Pl} (h : Px W b t p q) (hne : b ≠ d) : Px (put10 W d x y) b t p q := ((((((((((h.other _ hne).other _ hne).other _ hne).other _ hne).other _ hne).other _ hne).other _ hne).other _ hne).other _ hne).other _ hne)
theorem AnC.put {T : TypeId} {w W : World} {p o : Pk} {q r : Pl} {d : Nat} (h : AnC T w W p o q r) (hd : w.heap.size + 1 < d) (x : Pk) (y : Pl) : AnC T w (put10 W d x y) p o q r :=
  ⟨put10_below h.bel (by omega) x y, h.c1.putO (by omega), h.c2.putO (by omega)⟩
theorem AnC.set {T : TypeId} {w W : World} {p o : Pk} {q r : Pl} {d : Nat} (h : AnC T w W p o q r) (hd : w.heap.size + 1 < d) (k : Nat) (u : Value) : AnC T w (W.setCell ⟨d, k, none⟩ u) p o q r :=
  ⟨h.bel.setCell (p := ⟨d, k, none⟩) (by show w.heap.size ≤ d; omega) u, h.c1.other _ (by omega), h.c2.other _ (by omega)⟩
theorem AnC.al {T : TypeId} {w W : World} {p o : Pk} {q r : Pl} (h : AnC T w W p o q r) (u : Obj) : AnC T w (W.alloc u) p o q r := h.step (X := W) ((Below.refl W.heap.size W).alloc (Nat.le_refl _) u)
/-- A variable of the law's own holds a packet. -/
structure VaB (w W : World) (b : Nat) (p : Pk) (r : Pl) : Prop where
  gt : w.heap.size + 1 < b
  bx : Px W b 36 p r
section
variable {w W X W' : World} {b d : Nat} {p x : Pk} {r y : Pl}
theorem VaB.step (h : VaB w W b p r) (hb : Below X.heap.size X W') (hX : Below W.heap.size W X := by first | exact Below.refl _ _ | exact (Below.refl _ _).drew) : VaB w W' b p r := ⟨h.gt, h.bx.below (hX.trans (hb.mono hX.size))⟩
theorem VaB.al (h : VaB w W b p r) (u : Obj) : VaB w (W.alloc u) b p r := h.step (X := W) ((Below.refl W.heap.size W).alloc (Nat.le_refl _) u)
theorem VaB.new {T : TypeId} {p o : Pk} {q r : Pl} (h : AnC T w W p o q r) : VaB w (W.alloc (obj0P 36)) W.heap.size pk0 pl0 := ⟨h.c2.lt, px0 (heap_alloc_new W _)⟩
theorem VaB.put (h : VaB w W b p r) (x : Pk) (y : Pl) : VaB w (put10 W b x y) b x y := ⟨h.gt, put10_px h.bx x y⟩
theorem VaB.putO (h : VaB w W b p r) (hne : b ≠ d) (x : Pk) (y : Pl) : VaB w (put10 W d x y) b p r := ⟨h.gt, h.bx.putO hne⟩
theorem VaB.other (h : VaB w W b p r) (hne : b ≠ d) (k : Nat) (u : Value) : VaB w (W.setCell ⟨d, k, none⟩ u) b p r := ⟨h.gt, h.bx.other _ hne⟩
theorem VaB.code (h : VaB w W b p r) (v : Nat) : VaB w (W.setCell ⟨b, 1, none⟩ (.int .u8 (v : Int))) b { p with code := v } r := ⟨h.gt, h.bx.setCode v⟩
theorem VaB.proto (h : VaB w W b p r) (v : Nat) : VaB w (W.setCell ⟨b, 0, none⟩ (.int .u16 (v : Int))) b { p with proto := v } r := ⟨h.gt, h.bx.setProto v⟩
end

/-- What ChapTurns knows behind its two variables. -/
structure TuC (w W : World) (b5 b6 : Nat) (p o x y : Pk) (q r r3 r4 : Pl) : Prop where
  an : AnC 28 w W p o q r
  v5 : VaB w W b5 x r3
  v6 : VaB w W b6 y r4
  ne : b5 ≠ b6
theorem TuC.step {w W X W' : World} {b5 b6 : Nat} {p o x y : Pk} {q r r3 r4 : Pl} (h : TuC w W b5 b6 p o x y q r r3 r4) (hb : Below X.heap.size X W') (hX : Below W.heap.size W X := by first | exact Below.refl _ _ | exact (Below.refl _ _).drew) : TuC w W' b5 b6 p o x y q r r3 r4 :=
  ⟨h.an.step hb hX, h.v5.step hb hX, h.v6.step hb hX, h.ne⟩

/-- A response answers a challenge of its identifier. -/
theorem chans_lit (p : Pk) (q : Pl) (w : World) : Calls Try.prog 16 #[.agg #[.int .u16 49699, .int .u8 2, .int .u8 (p.id : Int), .slice q.ao q.no q.co, .int .u16 (p.sub : Int), .int .u32 (p.magic : Int), .slice q.a1 q.n1 q.c1, .slice q.a2 q.n2 q.c2, .slice q.ad q.nd q.cd, .slice q.an q.nn q.cn], .agg #[.int .u16 49699, .int .u8 1, .int .u8 (p.id : Int), .slice q.ao q.no q.co, .int .u16 (p.sub : Int), .int .u32 (p.magic : Int), .slice q.a1 q.n1 q.c1, .slice q.a2 q.n2 q.c2, .slice q.ad q.nd q.cd, .slice q.an q.nn q.cn]] w fun e w' => e = .returned (.bool true) ∧ Below w.heap.size w w' :=
  chans_any { p with code := 2, proto := 49699 } { p with code := 1, proto := 49699 } q q w true (decide_eq_true ⟨rfl, rfl, rfl, .inl ⟨rfl, rfl⟩⟩)

set_option maxRecDepth 4000 in
set_option maxHeartbeats 40000000 in
theorem chturn_no (p : Pk) (q : Pl) (o : Pk) (r : Pl) (w : World) (h : IsPk w p q) (h' : IsPk w o r) (hf : fewP p = true) (hf2 : fewP o = true) (ha : chansB p o = false) :
    Calls Try.prog 5 #[p.val q, o.val r] w fun e w' => e = .returned (.bool true) ∧ Below w.heap.size w w' := by
  have C := Lib.hid (AnC.made 28 w p o q r)
  have H := Lib.hid h.pw
  have hno := h.no
  have HD := Lib.hid h.od
  have H2 := Lib.hid h'.pw
  have hnr := h'.no
  have HD2 := Lib.hid h'.od
  have HF := Lib.hid hf
  have HF2 := Lib.hid hf2
  have hno2 : q.no ≤ 1073741824 := by rw [← h.pw.lo]; exact (fewP_sm hf).o
  have hnr2 : r.no ≤ 1073741824 := by rw [← h'.pw.lo]; exact (fewP_sm hf2).o
  have HA := Lib.hid ha
  clear hf hf2 h h' ha
  go_enter Try.func5, Try.ntmps5
  go_upto_region 3 with (first
    | (go_at_call 6; (with_reducible refine (speaks18 _).mono ?_); rintro e wn ⟨rfl, hb⟩; replace C := Lib.hid (C.out.step hb); clear hb; (try clear x0 x1 x2 x3 x4 x5 x6 x7 x8 x9 y0 y1 y2 y3 y4 y5 y6 y7 y8 y9); obtain ⟨x0, x1, x2, x3, x4, x5, x6, x7, x8, x9⟩ := C.out.c1.all; obtain ⟨y0, y1, y2, y3, y4, y5, y6, y7, y8, y9⟩ := C.out.c2.all)
    | (go_at_call 7; (with_reducible refine (few15_any p q _ (H.out.on C.out.bel) hno HD.out _ HF.out).mono ?_); rintro e wn ⟨rfl, hb⟩; replace C := Lib.hid (C.out.step hb); clear hb; (try clear x0 x1 x2 x3 x4 x5 x6 x7 x8 x9 y0 y1 y2 y3 y4 y5 y6 y7 y8 y9); obtain ⟨x0, x1, x2, x3, x4, x5, x6, x7, x8, x9⟩ := C.out.c1.all; obtain ⟨y0, y1, y2, y3, y4, y5, y6, y7, y8, y9⟩ := C.out.c2.all)
    | (go_at_call 7; (with_reducible refine (few15_any o r _ (H2.out.on C.out.bel) hnr HD2.out _ HF2.out).mono ?_); rintro e wn ⟨rfl, hb⟩; replace C := Lib.hid (C.out.step hb); clear hb; (try clear x0 x1 x2 x3 x4 x5 x6 x7 x8 x9 y0 y1 y2 y3 y4 y5 y6 y7 y8 y9); obtain ⟨x0, x1, x2, x3, x4, x5, x6, x7, x8, x9⟩ := C.out.c1.all; obtain ⟨y0, y1, y2, y3, y4, y5, y6, y7, y8, y9⟩ := C.out.c2.all))
  clear x0 x1 x2 x3 x4 x5 x6 x7 x8 x9 y0 y1 y2 y3 y4 y5 y6 y7 y8 y9
  go_cut [5, 6] from 20 to 24 (fun s5 s6 wx => ∃ b5 b6 r3 r4, s5 = .pointer (some ⟨b5, 0, none⟩) ∧ s6 = .pointer (some ⟨b6, 0, none⟩) ∧ Hid (AnC 28 w wx p o q r) ∧ Hid (VaB w wx b5 p r3) ∧ Hid (VaB w wx b6 o r4) ∧ Hid (b5 ≠ b6))
  case first =>
    refine wp_region_held_drew (S := fun W => W.cell? ⟨w.heap.size, 0, none⟩ = some (.int .u16 (p.proto : Int)) ∧ W.cell? ⟨w.heap.size, 1, none⟩ = some (.int .u8 (p.code : Int)) ∧ W.cell? ⟨w.heap.size, 2, none⟩ = some (.int .u8 (p.id : Int)) ∧ W.cell? ⟨w.heap.size, 3, none⟩ = some (.slice q.ao q.no q.co) ∧ W.cell? ⟨w.heap.size, 4, none⟩ = some (.int .u16 (p.sub : Int)) ∧ W.cell? ⟨w.heap.size, 5, none⟩ = some (.int .u32 (p.magic : Int)) ∧ W.cell? ⟨w.heap.size, 6, none⟩ = some (.slice q.a1 q.n1 q.c1) ∧ W.cell? ⟨w.heap.size, 7, none⟩ = some (.slice q.a2 q.n2 q.c2) ∧ W.cell? ⟨w.heap.size, 8, none⟩ = some (.slice q.ad q.nd q.cd) ∧ W.cell? ⟨w.heap.size, 9, none⟩ = some (.slice q.an q.nn q.cn) ∧ W.cell? ⟨(w.heap.size + 1), 0, none⟩ = some (.int .u16 (o.proto : Int)) ∧ W.cell? ⟨(w.heap.size + 1), 1, none⟩ = some (.int .u8 (o.code : Int)) ∧ W.cell? ⟨(w.heap.size + 1), 2, none⟩ = some (.int .u8 (o.id : Int)) ∧ W.cell? ⟨(w.heap.size + 1), 3, none⟩ = some (.slice r.ao r.no r.co) ∧ W.cell? ⟨(w.heap.size + 1), 4, none⟩ = some (.int .u16 (o.sub : Int)) ∧ W.cell? ⟨(w.heap.size + 1), 5, none⟩ = some (.int .u32 (o.magic : Int)) ∧ W.cell? ⟨(w.heap.size + 1), 6, none⟩ = some (.slice r.a1 r.n1 r.c1) ∧ W.cell? ⟨(w.heap.size + 1), 7, none⟩ = some (.slice r.a2 r.n2 r.c2) ∧ W.cell? ⟨(w.heap.size + 1), 8, none⟩ = some (.slice r.ad r.nd r.cd) ∧ W.cell? ⟨(w.heap.size + 1), 9, none⟩ = some (.slice r.an r.nn r.cn)) (by kernel_rfl) (by exact C.out.drew.flat) (fun _ => ?_)
    refine at_worldP (fun W => Hid (AnC 28 w W p o q r)) (Lib.hid C.out.drew) ?_
    clear C
    rintro W C
    refine wpAnyH_take (i := 0) (oi := ?ol0) (v := ?vl0) ?hil0 (by kernel_rfl) (by kernel_rfl) (by kernel_rfl) ?hql0 (Or.inl ⟨?hwl0, ?hyl0⟩) (by exact C.out.flat) ?restl0
    case hil0 => (simp only [List.getElem?_toArray, List.getElem?_cons_zero]; rfl)
    case hwl0 => (rfl)
    case hql0 => (exact fun _ _ _ h => h)
    case hyl0 => (intro w hSw; (try dsimp only at hSw); go_simp; (try with_reducible rfl))
    try simp only [Act.put, List.setIfInBounds_toArray, List.set_cons_zero, List.set_cons_succ]
    refine wpAnyH_take (i := 2) (oi := ?ol2) (v := ?vl2) ?hil2 (by kernel_rfl) (by kernel_rfl) (by kernel_rfl) ?hql2 (Or.inl ⟨?hwl2, ?hyl2⟩) (by exact C.out.flat) ?restl2
    case hil2 => (simp only [List.getElem?_toArray, List.getElem?_cons_succ, List.getElem?_cons_zero]; rfl)
    case hwl2 => (rfl)
    case hql2 => (exact fun _ _ _ h => h)
    case hyl2 => (intro w hSw; (try dsimp only at hSw); go_simp; (try with_reducible rfl))
    try simp only [Act.put, List.setIfInBounds_toArray, List.set_cons_zero, List.set_cons_succ]
    refine wpAnyH_ready (rs := [1, 4, 5]) (by kernel_rfl) (by simp) ?_
    refine (AllReadyH.cons (o := ?oz3) ?hiz3 (fun K hK => ?stz3) (AllReadyH.cons (o := ?oz2) ?hiz2 (fun K hK => ?stz2) (AllReadyH.cons (o := ?oz1) ?hiz1 (fun K hK => ?stz1) AllReadyH.nil)))
    case hiz3 => (simp only [List.getElem?_toArray, List.getElem?_cons_succ, List.getElem?_cons_zero]; rfl)
    case hiz2 => (simp only [List.getElem?_toArray, List.getElem?_cons_succ, List.getElem?_cons_zero]; rfl)
    case hiz1 => (simp only [List.getElem?_toArray, List.getElem?_cons_succ, List.getElem?_cons_zero]; rfl)
    case stz3 =>
      go_simp
      go_at_call 9
      with_reducible refine (of15_any p q _ (H.out.on C.out.bel) hno2).mono ?_
      rintro e wy ⟨r3, rfl, -, hb⟩
      (try go_wp2_with fail)
      refine hK.out _ _ (by exact (C.out.step hb).flat) (fun _ => ?_)
      clear hK K
      try simp only [Act.put, List.setIfInBounds_toArray, List.set_cons_zero, List.set_cons_succ]
      refine at_worldP (fun W => Hid (AnC 28 w W p o q r)) (Lib.hid (C.out.step hb)) ?_
      clear C hb
      rintro W C
      refine wpAnyH_ready (rs := [3, 4, 5]) (by kernel_rfl) (by simp) ?_
      refine (AllReadyH.cons (o := ?oz6) ?hiz6 (fun K hK => ?stz6) (AllReadyH.cons (o := ?oz5) ?hiz5 (fun K hK => ?stz5) (AllReadyH.cons (o := ?oz4) ?hiz4 (fun K hK => ?stz4) AllReadyH.nil)))
      case hiz6 => (simp only [List.getElem?_toArray, List.getElem?_cons_succ, List.getElem?_cons_zero]; rfl)
      case hiz5 => (simp only [List.getElem?_toArray, List.getElem?_cons_succ, List.getElem?_cons_zero]; rfl)
      case hiz4 => (simp only [List.getElem?_toArray, List.getElem?_cons_succ, List.getElem?_cons_zero]; rfl)
      case stz6 =>
        go_simp
        go_at_call 9
        with_reducible refine (of15_any o r _ (H2.out.on C.out.bel) hnr2).mono ?_
        rintro e wy ⟨r4, rfl, -, hb⟩
        (try go_wp2_with fail)
        refine hK.out _ _ (by exact (C.out.step hb).flat) (fun _ => ?_)
        clear hK K
        try simp only [Act.put, List.setIfInBounds_toArray, List.set_cons_zero, List.set_cons_succ]
        refine at_worldP (fun W => Hid (AnC 28 w W p o q r)) (Lib.hid (C.out.step hb)) ?_
        clear C hb
        rintro W C
        refine wpAnyH_ready (rs := [4, 5]) (by kernel_rfl) (by simp) ?_
        refine (AllReadyH.cons (o := ?oz8) ?hiz8 (fun K hK => ?stz8) (AllReadyH.cons (o := ?oz7) ?hiz7 (fun K hK => ?stz7) AllReadyH.nil))
        case hiz8 => (simp only [List.getElem?_toArray, List.getElem?_cons_succ, List.getElem?_cons_zero]; rfl)
        case hiz7 => (simp only [List.getElem?_toArray, List.getElem?_cons_succ, List.getElem?_cons_zero]; rfl)
        case stz8 =>
          go_simp
          refine hK.out _ _ (by exact (C.out.al _).flat) (fun _ => ?_)
          clear hK K
          try simp only [Act.put, List.setIfInBounds_toArray, List.set_cons_zero, List.set_cons_succ]
          obtain ⟨b5, hbb⟩ : ∃ b, b = W.heap.size := ⟨_, rfl⟩
          rw [← hbb]
          refine at_worldP (fun W => Hid (AnC 28 w W p o q r) ∧ Hid (VaB w W b5 pk0 pl0)) ⟨Lib.hid (C.out.al (obj0P 36)), Lib.hid (show VaB w _ b5 pk0 pl0 from hbb ▸ VaB.new C.out)⟩ ?_
          clear C hbb
          rintro W ⟨C, V5⟩
          refine wpAnyH_ready (rs := [5]) (by kernel_rfl) (by simp) ?_
          refine (AllReadyH.cons (o := ?oz9) ?hiz9 (fun K hK => ?stz9) AllReadyH.nil)
          case hiz9 => (simp only [List.getElem?_toArray, List.getElem?_cons_succ, List.getElem?_cons_zero]; rfl)
          case stz9 =>
            go_simp
            refine hK.out _ _ (by exact (C.out.al _).flat) (fun _ => ?_)
            clear hK K
            try simp only [Act.put, List.setIfInBounds_toArray, List.set_cons_zero, List.set_cons_succ]
            obtain ⟨b6, hbb⟩ : ∃ b, b = W.heap.size := ⟨_, rfl⟩
            rw [← hbb]
            have NE := Lib.hid (show b5 ≠ b6 from fun e => absurd V5.out.bx.lt (by rw [e, hbb]; exact Nat.lt_irrefl _))
            refine at_worldP (fun W => Hid (AnC 28 w W p o q r) ∧ Hid (VaB w W b5 pk0 pl0) ∧ Hid (VaB w W b6 pk0 pl0)) ⟨Lib.hid (C.out.al (obj0P 36)), Lib.hid (V5.out.al (obj0P 36)), Lib.hid (show VaB w _ b6 pk0 pl0 from hbb ▸ VaB.new C.out)⟩ ?_
            clear C V5 hbb
            rintro W ⟨C, V5, V6⟩
            refine wpAnyH_ready (rs := [6]) (by kernel_rfl) (by simp) ?_
            refine AllReadyH.cons (o := ?oz10) ?hiz10 (fun K hK => ?stz10) AllReadyH.nil
            case hiz10 => (simp only [List.getElem?_toArray, List.getElem?_cons_succ, List.getElem?_cons_zero]; rfl)
            obtain ⟨e0, e1, e2, e3, e4, e5, e6, e7, e8, e9⟩ := V5.out.bx.free
            obtain ⟨d0, d1, d2, d3, d4, d5, d6, d7, d8, d9⟩ := V5.out.bx.all
            go_simp
            refine hK.out _ _ (by exact (C.out.put V5.out.gt p r3).flat) (fun _ => ?_)
            clear hK K e0 e1 e2 e3 e4 e5 e6 e7 e8 e9 d0 d1 d2 d3 d4 d5 d6 d7 d8 d9
            try simp only [Act.put, List.setIfInBounds_toArray, List.set_cons_zero, List.set_cons_succ]
            refine at_worldP (fun W => Hid (AnC 28 w W p o q r) ∧ Hid (VaB w W b5 p r3) ∧ Hid (VaB w W b6 pk0 pl0)) ⟨Lib.hid (C.out.put V5.out.gt p r3), Lib.hid (V5.out.put p r3), Lib.hid (V6.out.putO NE.out.symm p r3)⟩ ?_
            clear C V5 V6
            rintro W ⟨C, V5, V6⟩
            refine wpAnyH_ready (rs := [7]) (by kernel_rfl) (by simp) ?_
            refine AllReadyH.cons (o := ?oz11) ?hiz11 (fun K hK => ?stz11) AllReadyH.nil
            case hiz11 => (simp only [List.getElem?_toArray, List.getElem?_cons_succ, List.getElem?_cons_zero]; rfl)
            obtain ⟨e0, e1, e2, e3, e4, e5, e6, e7, e8, e9⟩ := V6.out.bx.free
            obtain ⟨d0, d1, d2, d3, d4, d5, d6, d7, d8, d9⟩ := V6.out.bx.all
            go_simp
            refine hK.out _ _ (by exact (C.out.put V6.out.gt o r4).flat) (fun _ => ?_)
            clear hK K e0 e1 e2 e3 e4 e5 e6 e7 e8 e9 d0 d1 d2 d3 d4 d5 d6 d7 d8 d9
            try simp only [Act.put, List.setIfInBounds_toArray, List.set_cons_zero, List.set_cons_succ]
            refine at_worldP (fun W => Hid (AnC 28 w W p o q r) ∧ Hid (VaB w W b5 p r3) ∧ Hid (VaB w W b6 o r4)) ⟨Lib.hid (C.out.put V6.out.gt o r4), Lib.hid (V5.out.putO NE.out o r4), Lib.hid (V6.out.put o r4)⟩ ?_
            clear C V5 V6
            rintro W ⟨C, V5, V6⟩
            refine wpAnyH_done (by kernel_rfl) ?_ _
            (try go_wp2_with fail); go_meet
            exact ⟨b5, b6, r3, r4, rfl, rfl, C, V5, V6, NE⟩
        case stz7 =>
          go_simp
          refine hK.out _ _ (by exact (C.out.al _).flat) (fun _ => ?_)
          clear hK K
          try simp only [Act.put, List.setIfInBounds_toArray, List.set_cons_zero, List.set_cons_succ]
          obtain ⟨b6, hbb⟩ : ∃ b, b = W.heap.size := ⟨_, rfl⟩
          rw [← hbb]
          refine at_worldP (fun W => Hid (AnC 28 w W p o q r) ∧ Hid (VaB w W b6 pk0 pl0)) ⟨Lib.hid (C.out.al (obj0P 36)), Lib.hid (show VaB w _ b6 pk0 pl0 from hbb ▸ VaB.new C.out)⟩ ?_
          clear C hbb
          rintro W ⟨C, V6⟩
          refine wpAnyH_ready (rs := [4]) (by kernel_rfl) (by simp) ?_
          refine (AllReadyH.cons (o := ?oz12) ?hiz12 (fun K hK => ?stz12) AllReadyH.nil)
          case hiz12 => (simp only [List.getElem?_toArray, List.getElem?_cons_succ, List.getElem?_cons_zero]; rfl)
          case stz12 =>
            go_simp
            refine hK.out _ _ (by exact (C.out.al _).flat) (fun _ => ?_)
            clear hK K
            try simp only [Act.put, List.setIfInBounds_toArray, List.set_cons_zero, List.set_cons_succ]
            obtain ⟨b5, hbb⟩ : ∃ b, b = W.heap.size := ⟨_, rfl⟩
            rw [← hbb]
            have NE := Lib.hid (show b5 ≠ b6 from fun e => absurd V6.out.bx.lt (by rw [← e, hbb]; exact Nat.lt_irrefl _))
            refine at_worldP (fun W => Hid (AnC 28 w W p o q r) ∧ Hid (VaB w W b5 pk0 pl0) ∧ Hid (VaB w W b6 pk0 pl0)) ⟨Lib.hid (C.out.al (obj0P 36)), Lib.hid (show VaB w _ b5 pk0 pl0 from hbb ▸ VaB.new C.out), Lib.hid (V6.out.al (obj0P 36))⟩ ?_
            clear C V6 hbb
            rintro W ⟨C, V5, V6⟩
            refine wpAnyH_ready (rs := [6]) (by kernel_rfl) (by simp) ?_
            refine AllReadyH.cons (o := ?oz13) ?hiz13 (fun K hK => ?stz13) AllReadyH.nil
            case hiz13 => (simp only [List.getElem?_toArray, List.getElem?_cons_succ, List.getElem?_cons_zero]; rfl)
            obtain ⟨e0, e1, e2, e3, e4, e5, e6, e7, e8, e9⟩ := V5.out.bx.free
            obtain ⟨d0, d1, d2, d3, d4, d5, d6, d7, d8, d9⟩ := V5.out.bx.all
            go_simp
            refine hK.out _ _ (by exact (C.out.put V5.out.gt p r3).flat) (fun _ => ?_)
            clear hK K e0 e1 e2 e3 e4 e5 e6 e7 e8 e9 d0 d1 d2 d3 d4 d5 d6 d7 d8 d9
            try simp only [Act.put, List.setIfInBounds_toArray, List.set_cons_zero, List.set_cons_succ]
            refine at_worldP (fun W => Hid (AnC 28 w W p o q r) ∧ Hid (VaB w W b5 p r3) ∧ Hid (VaB w W b6 pk0 pl0)) ⟨Lib.hid (C.out.put V5.out.gt p r3), Lib.hid (V5.out.put p r3), Lib.hid (V6.out.putO NE.out.symm p r3)⟩ ?_
            clear C V5 V6
            rintro W ⟨C, V5, V6⟩
            refine wpAnyH_ready (rs := [7]) (by kernel_rfl) (by simp) ?_
            refine AllReadyH.cons (o := ?oz14) ?hiz14 (fun K hK => ?stz14) AllReadyH.nil
            case hiz14 => (simp only [List.getElem?_toArray, List.getElem?_cons_succ, List.getElem?_cons_zero]; rfl)
            obtain ⟨e0, e1, e2, e3, e4, e5, e6, e7, e8, e9⟩ := V6.out.bx.free
            obtain ⟨d0, d1, d2, d3, d4, d5, d6, d7, d8, d9⟩ := V6.out.bx.all
            go_simp
            refine hK.out _ _ (by exact (C.out.put V6.out.gt o r4).flat) (fun _ => ?_)
            clear hK K e0 e1 e2 e3 e4 e5 e6 e7 e8 e9 d0 d1 d2 d3 d4 d5 d6 d7 d8 d9
            try simp only [Act.put, List.setIfInBounds_toArray, List.set_cons_zero, List.set_cons_succ]
            refine at_worldP (fun W => Hid (AnC 28 w W p o q r) ∧ Hid (VaB w W b5 p r3) ∧ Hid (VaB w W b6 o r4)) ⟨Lib.hid (C.out.put V6.out.gt o r4), Lib.hid (V5.out.putO NE.out o r4), Lib.hid (V6.out.put o r4)⟩ ?_
            clear C V5 V6
            rintro W ⟨C, V5, V6⟩
            refine wpAnyH_done (by kernel_rfl) ?_ _
            (try go_wp2_with fail); go_meet
            exact ⟨b5, b6, r3, r4, rfl, rfl, C, V5, V6, NE⟩
      case stz5 =>
        go_simp
        refine hK.out _ _ (by exact (C.out.al _).flat) (fun _ => ?_)
        clear hK K
        try simp only [Act.put, List.setIfInBounds_toArray, List.set_cons_zero, List.set_cons_succ]
        obtain ⟨b5, hbb⟩ : ∃ b, b = W.heap.size := ⟨_, rfl⟩
        rw [← hbb]
        refine at_worldP (fun W => Hid (AnC 28 w W p o q r) ∧ Hid (VaB w W b5 pk0 pl0)) ⟨Lib.hid (C.out.al (obj0P 36)), Lib.hid (show VaB w _ b5 pk0 pl0 from hbb ▸ VaB.new C.out)⟩ ?_
        clear C hbb
        rintro W ⟨C, V5⟩
        refine wpAnyH_ready (rs := [3, 5]) (by kernel_rfl) (by simp) ?_
        refine (AllReadyH.cons (o := ?oz16) ?hiz16 (fun K hK => ?stz16) (AllReadyH.cons (o := ?oz15) ?hiz15 (fun K hK => ?stz15) AllReadyH.nil))
        case hiz16 => (simp only [List.getElem?_toArray, List.getElem?_cons_succ, List.getElem?_cons_zero]; rfl)
        case hiz15 => (simp only [List.getElem?_toArray, List.getElem?_cons_succ, List.getElem?_cons_zero]; rfl)
        case stz16 =>
          go_simp
          go_at_call 9
          with_reducible refine (of15_any o r _ (H2.out.on C.out.bel) hnr2).mono ?_
          rintro e wy ⟨r4, rfl, -, hb⟩
          (try go_wp2_with fail)
          refine hK.out _ _ (by exact (C.out.step hb).flat) (fun _ => ?_)
          clear hK K
          try simp only [Act.put, List.setIfInBounds_toArray, List.set_cons_zero, List.set_cons_succ]
          refine at_worldP (fun W => Hid (AnC 28 w W p o q r) ∧ Hid (VaB w W b5 pk0 pl0)) ⟨Lib.hid (C.out.step hb), Lib.hid (V5.out.step hb)⟩ ?_
          clear C V5 hb
          rintro W ⟨C, V5⟩
          refine wpAnyH_ready (rs := [5]) (by kernel_rfl) (by simp) ?_
          refine (AllReadyH.cons (o := ?oz17) ?hiz17 (fun K hK => ?stz17) AllReadyH.nil)
          case hiz17 => (simp only [List.getElem?_toArray, List.getElem?_cons_succ, List.getElem?_cons_zero]; rfl)
          case stz17 =>
            go_simp
            refine hK.out _ _ (by exact (C.out.al _).flat) (fun _ => ?_)
            clear hK K
            try simp only [Act.put, List.setIfInBounds_toArray, List.set_cons_zero, List.set_cons_succ]
            obtain ⟨b6, hbb⟩ : ∃ b, b = W.heap.size := ⟨_, rfl⟩
            rw [← hbb]
            have NE := Lib.hid (show b5 ≠ b6 from fun e => absurd V5.out.bx.lt (by rw [e, hbb]; exact Nat.lt_irrefl _))
            refine at_worldP (fun W => Hid (AnC 28 w W p o q r) ∧ Hid (VaB w W b5 pk0 pl0) ∧ Hid (VaB w W b6 pk0 pl0)) ⟨Lib.hid (C.out.al (obj0P 36)), Lib.hid (V5.out.al (obj0P 36)), Lib.hid (show VaB w _ b6 pk0 pl0 from hbb ▸ VaB.new C.out)⟩ ?_
            clear C V5 hbb
            rintro W ⟨C, V5, V6⟩
            refine wpAnyH_ready (rs := [6]) (by kernel_rfl) (by simp) ?_
            refine AllReadyH.cons (o := ?oz18) ?hiz18 (fun K hK => ?stz18) AllReadyH.nil
            case hiz18 => (simp only [List.getElem?_toArray, List.getElem?_cons_succ, List.getElem?_cons_zero]; rfl)
            obtain ⟨e0, e1, e2, e3, e4, e5, e6, e7, e8, e9⟩ := V5.out.bx.free
            obtain ⟨d0, d1, d2, d3, d4, d5, d6, d7, d8, d9⟩ := V5.out.bx.all
            go_simp
            refine hK.out _ _ (by exact (C.out.put V5.out.gt p r3).flat) (fun _ => ?_)
            clear hK K e0 e1 e2 e3 e4 e5 e6 e7 e8 e9 d0 d1 d2 d3 d4 d5 d6 d7 d8 d9
            try simp only [Act.put, List.setIfInBounds_toArray, List.set_cons_zero, List.set_cons_succ]
            refine at_worldP (fun W => Hid (AnC 28 w W p o q r) ∧ Hid (VaB w W b5 p r3) ∧ Hid (VaB w W b6 pk0 pl0)) ⟨Lib.hid (C.out.put V5.out.gt p r3), Lib.hid (V5.out.put p r3), Lib.hid (V6.out.putO NE.out.symm p r3)⟩ ?_
            clear C V5 V6
            rintro W ⟨C, V5, V6⟩
            refine wpAnyH_ready (rs := [7]) (by kernel_rfl) (by simp) ?_
            refine AllReadyH.cons (o := ?oz19) ?hiz19 (fun K hK => ?stz19) AllReadyH.nil
            case hiz19 => (simp only [List.getElem?_toArray, List.getElem?_cons_succ, List.getElem?_cons_zero]; rfl)
            obtain ⟨e0, e1, e2, e3, e4, e5, e6, e7, e8, e9⟩ := V6.out.bx.free
            obtain ⟨d0, d1, d2, d3, d4, d5, d6, d7, d8, d9⟩ := V6.out.bx.all
            go_simp
            refine hK.out _ _ (by exact (C.out.put V6.out.gt o r4).flat) (fun _ => ?_)
            clear hK K e0 e1 e2 e3 e4 e5 e6 e7 e8 e9 d0 d1 d2 d3 d4 d5 d6 d7 d8 d9
            try simp only [Act.put, List.setIfInBounds_toArray, List.set_cons_zero, List.set_cons_succ]
            refine at_worldP (fun W => Hid (AnC 28 w W p o q r) ∧ Hid (VaB w W b5 p r3) ∧ Hid (VaB w W b6 o r4)) ⟨Lib.hid (C.out.put V6.out.gt o r4), Lib.hid (V5.out.putO NE.out o r4), Lib.hid (V6.out.put o r4)⟩ ?_
            clear C V5 V6
            rintro W ⟨C, V5, V6⟩
            refine wpAnyH_done (by kernel_rfl) ?_ _
            (try go_wp2_with fail); go_meet
            exact ⟨b5, b6, r3, r4, rfl, rfl, C, V5, V6, NE⟩
        case stz15 =>
          go_simp
          refine hK.out _ _ (by exact (C.out.al _).flat) (fun _ => ?_)
          clear hK K
          try simp only [Act.put, List.setIfInBounds_toArray, List.set_cons_zero, List.set_cons_succ]
          obtain ⟨b6, hbb⟩ : ∃ b, b = W.heap.size := ⟨_, rfl⟩
          rw [← hbb]
          have NE := Lib.hid (show b5 ≠ b6 from fun e => absurd V5.out.bx.lt (by rw [e, hbb]; exact Nat.lt_irrefl _))
          refine at_worldP (fun W => Hid (AnC 28 w W p o q r) ∧ Hid (VaB w W b5 pk0 pl0) ∧ Hid (VaB w W b6 pk0 pl0)) ⟨Lib.hid (C.out.al (obj0P 36)), Lib.hid (V5.out.al (obj0P 36)), Lib.hid (show VaB w _ b6 pk0 pl0 from hbb ▸ VaB.new C.out)⟩ ?_
          clear C V5 hbb
          rintro W ⟨C, V5, V6⟩
          refine wpAnyH_ready (rs := [3]) (by kernel_rfl) (by simp) ?_
          refine (AllReadyH.cons (o := ?oz20) ?hiz20 (fun K hK => ?stz20) AllReadyH.nil)
          case hiz20 => (simp only [List.getElem?_toArray, List.getElem?_cons_succ, List.getElem?_cons_zero]; rfl)
          case stz20 =>
            go_simp
            go_at_call 9
            with_reducible refine (of15_any o r _ (H2.out.on C.out.bel) hnr2).mono ?_
            rintro e wy ⟨r4, rfl, -, hb⟩
            (try go_wp2_with fail)
            refine hK.out _ _ (by exact (C.out.step hb).flat) (fun _ => ?_)
            clear hK K
            try simp only [Act.put, List.setIfInBounds_toArray, List.set_cons_zero, List.set_cons_succ]
            refine at_worldP (fun W => Hid (AnC 28 w W p o q r) ∧ Hid (VaB w W b5 pk0 pl0) ∧ Hid (VaB w W b6 pk0 pl0)) ⟨Lib.hid (C.out.step hb), Lib.hid (V5.out.step hb), Lib.hid (V6.out.step hb)⟩ ?_
            clear C V5 V6 hb
            rintro W ⟨C, V5, V6⟩
            refine wpAnyH_ready (rs := [6]) (by kernel_rfl) (by simp) ?_
            refine AllReadyH.cons (o := ?oz21) ?hiz21 (fun K hK => ?stz21) AllReadyH.nil
            case hiz21 => (simp only [List.getElem?_toArray, List.getElem?_cons_succ, List.getElem?_cons_zero]; rfl)
            obtain ⟨e0, e1, e2, e3, e4, e5, e6, e7, e8, e9⟩ := V5.out.bx.free
            obtain ⟨d0, d1, d2, d3, d4, d5, d6, d7, d8, d9⟩ := V5.out.bx.all
            go_simp
            refine hK.out _ _ (by exact (C.out.put V5.out.gt p r3).flat) (fun _ => ?_)
            clear hK K e0 e1 e2 e3 e4 e5 e6 e7 e8 e9 d0 d1 d2 d3 d4 d5 d6 d7 d8 d9
            try simp only [Act.put, List.setIfInBounds_toArray, List.set_cons_zero, List.set_cons_succ]
            refine at_worldP (fun W => Hid (AnC 28 w W p o q r) ∧ Hid (VaB w W b5 p r3) ∧ Hid (VaB w W b6 pk0 pl0)) ⟨Lib.hid (C.out.put V5.out.gt p r3), Lib.hid (V5.out.put p r3), Lib.hid (V6.out.putO NE.out.symm p r3)⟩ ?_
            clear C V5 V6
            rintro W ⟨C, V5, V6⟩
            refine wpAnyH_ready (rs := [7]) (by kernel_rfl) (by simp) ?_
            refine AllReadyH.cons (o := ?oz22) ?hiz22 (fun K hK => ?stz22) AllReadyH.nil
            case hiz22 => (simp only [List.getElem?_toArray, List.getElem?_cons_succ, List.getElem?_cons_zero]; rfl)
            obtain ⟨e0, e1, e2, e3, e4, e5, e6, e7, e8, e9⟩ := V6.out.bx.free
            obtain ⟨d0, d1, d2, d3, d4, d5, d6, d7, d8, d9⟩ := V6.out.bx.all
            go_simp
            refine hK.out _ _ (by exact (C.out.put V6.out.gt o r4).flat) (fun _ => ?_)
            clear hK K e0 e1 e2 e3 e4 e5 e6 e7 e8 e9 d0 d1 d2 d3 d4 d5 d6 d7 d8 d9
            try simp only [Act.put, List.setIfInBounds_toArray, List.set_cons_zero, List.set_cons_succ]
            refine at_worldP (fun W => Hid (AnC 28 w W p o q r) ∧ Hid (VaB w W b5 p r3) ∧ Hid (VaB w W b6 o r4)) ⟨Lib.hid (C.out.put V6.out.gt o r4), Lib.hid (V5.out.putO NE.out o r4), Lib.hid (V6.out.put o r4)⟩ ?_
            clear C V5 V6
            rintro W ⟨C, V5, V6⟩
            refine wpAnyH_done (by kernel_rfl) ?_ _
            (try go_wp2_with fail); go_meet
            exact ⟨b5, b6, r3, r4, rfl, rfl, C, V5, V6, NE⟩
      case stz4 =>
        go_simp
        refine hK.out _ _ (by exact (C.out.al _).flat) (fun _ => ?_)
        clear hK K
        try simp only [Act.put, List.setIfInBounds_toArray, List.set_cons_zero, List.set_cons_succ]
        obtain ⟨b6, hbb⟩ : ∃ b, b = W.heap.size := ⟨_, rfl⟩
        rw [← hbb]
        refine at_worldP (fun W => Hid (AnC 28 w W p o q r) ∧ Hid (VaB w W b6 pk0 pl0)) ⟨Lib.hid (C.out.al (obj0P 36)), Lib.hid (show VaB w _ b6 pk0 pl0 from hbb ▸ VaB.new C.out)⟩ ?_
        clear C hbb
        rintro W ⟨C, V6⟩
        refine wpAnyH_ready (rs := [3, 4]) (by kernel_rfl) (by simp) ?_
        refine (AllReadyH.cons (o := ?oz24) ?hiz24 (fun K hK => ?stz24) (AllReadyH.cons (o := ?oz23) ?hiz23 (fun K hK => ?stz23) AllReadyH.nil))
        case hiz24 => (simp only [List.getElem?_toArray, List.getElem?_cons_succ, List.getElem?_cons_zero]; rfl)
        case hiz23 => (simp only [List.getElem?_toArray, List.getElem?_cons_succ, List.getElem?_cons_zero]; rfl)
        case stz24 =>
          go_simp
          go_at_call 9
          with_reducible refine (of15_any o r _ (H2.out.on C.out.bel) hnr2).mono ?_
          rintro e wy ⟨r4, rfl, -, hb⟩
          (try go_wp2_with fail)
          refine hK.out _ _ (by exact (C.out.step hb).flat) (fun _ => ?_)
          clear hK K
          try simp only [Act.put, List.setIfInBounds_toArray, List.set_cons_zero, List.set_cons_succ]
          refine at_worldP (fun W => Hid (AnC 28 w W p o q r) ∧ Hid (VaB w W b6 pk0 pl0)) ⟨Lib.hid (C.out.step hb), Lib.hid (V6.out.step hb)⟩ ?_
          clear C V6 hb
          rintro W ⟨C, V6⟩
          refine wpAnyH_ready (rs := [4]) (by kernel_rfl) (by simp) ?_
          refine (AllReadyH.cons (o := ?oz25) ?hiz25 (fun K hK => ?stz25) AllReadyH.nil)
          case hiz25 => (simp only [List.getElem?_toArray, List.getElem?_cons_succ, List.getElem?_cons_zero]; rfl)
          case stz25 =>
            go_simp
            refine hK.out _ _ (by exact (C.out.al _).flat) (fun _ => ?_)
            clear hK K
            try simp only [Act.put, List.setIfInBounds_toArray, List.set_cons_zero, List.set_cons_succ]
            obtain ⟨b5, hbb⟩ : ∃ b, b = W.heap.size := ⟨_, rfl⟩
            rw [← hbb]
            have NE := Lib.hid (show b5 ≠ b6 from fun e => absurd V6.out.bx.lt (by rw [← e, hbb]; exact Nat.lt_irrefl _))
            refine at_worldP (fun W => Hid (AnC 28 w W p o q r) ∧ Hid (VaB w W b5 pk0 pl0) ∧ Hid (VaB w W b6 pk0 pl0)) ⟨Lib.hid (C.out.al (obj0P 36)), Lib.hid (show VaB w _ b5 pk0 pl0 from hbb ▸ VaB.new C.out), Lib.hid (V6.out.al (obj0P 36))⟩ ?_
            clear C V6 hbb
            rintro W ⟨C, V5, V6⟩
            refine wpAnyH_ready (rs := [6]) (by kernel_rfl) (by simp) ?_
            refine AllReadyH.cons (o := ?oz26) ?hiz26 (fun K hK => ?stz26) AllReadyH.nil
            case hiz26 => (simp only [List.getElem?_toArray, List.getElem?_cons_succ, List.getElem?_cons_zero]; rfl)
            obtain ⟨e0, e1, e2, e3, e4, e5, e6, e7, e8, e9⟩ := V5.out.bx.free
            obtain ⟨d0, d1, d2, d3, d4, d5, d6, d7, d8, d9⟩ := V5.out.bx.all
            go_simp
            refine hK.out _ _ (by exact (C.out.put V5.out.gt p r3).flat) (fun _ => ?_)
            clear hK K e0 e1 e2 e3 e4 e5 e6 e7 e8 e9 d0 d1 d2 d3 d4 d5 d6 d7 d8 d9
            try simp only [Act.put, List.setIfInBounds_toArray, List.set_cons_zero, List.set_cons_succ]
            refine at_worldP (fun W => Hid (AnC 28 w W p o q r) ∧ Hid (VaB w W b5 p r3) ∧ Hid (VaB w W b6 pk0 pl0)) ⟨Lib.hid (C.out.put V5.out.gt p r3), Lib.hid (V5.out.put p r3), Lib.hid (V6.out.putO NE.out.symm p r3)⟩ ?_
            clear C V5 V6
            rintro W ⟨C, V5, V6⟩
            refine wpAnyH_ready (rs := [7]) (by kernel_rfl) (by simp) ?_
            refine AllReadyH.cons (o := ?oz27) ?hiz27 (fun K hK => ?stz27) AllReadyH.nil
            case hiz27 => (simp only [List.getElem?_toArray, List.getElem?_cons_succ, List.getElem?_cons_zero]; rfl)
            obtain ⟨e0, e1, e2, e3, e4, e5, e6, e7, e8, e9⟩ := V6.out.bx.free
            obtain ⟨d0, d1, d2, d3, d4, d5, d6, d7, d8, d9⟩ := V6.out.bx.all
            go_simp
            refine hK.out _ _ (by exact (C.out.put V6.out.gt o r4).flat) (fun _ => ?_)
            clear hK K e0 e1 e2 e3 e4 e5 e6 e7 e8 e9 d0 d1 d2 d3 d4 d5 d6 d7 d8 d9
            try simp only [Act.put, List.setIfInBounds_toArray, List.set_cons_zero, List.set_cons_succ]
            refine at_worldP (fun W => Hid (AnC 28 w W p o q r) ∧ Hid (VaB w W b5 p r3) ∧ Hid (VaB w W b6 o r4)) ⟨Lib.hid (C.out.put V6.out.gt o r4), Lib.hid (V5.out.putO NE.out o r4), Lib.hid (V6.out.put o r4)⟩ ?_
            clear C V5 V6
            rintro W ⟨C, V5, V6⟩
            refine wpAnyH_done (by kernel_rfl) ?_ _
            (try go_wp2_with fail); go_meet
            exact ⟨b5, b6, r3, r4, rfl, rfl, C, V5, V6, NE⟩
        case stz23 =>
          go_simp
          refine hK.out _ _ (by exact (C.out.al _).flat) (fun _ => ?_)
          clear hK K
          try simp only [Act.put, List.setIfInBounds_toArray, List.set_cons_zero, List.set_cons_succ]
          obtain ⟨b5, hbb⟩ : ∃ b, b = W.heap.size := ⟨_, rfl⟩
          rw [← hbb]
          have NE := Lib.hid (show b5 ≠ b6 from fun e => absurd V6.out.bx.lt (by rw [← e, hbb]; exact Nat.lt_irrefl _))
          refine at_worldP (fun W => Hid (AnC 28 w W p o q r) ∧ Hid (VaB w W b5 pk0 pl0) ∧ Hid (VaB w W b6 pk0 pl0)) ⟨Lib.hid (C.out.al (obj0P 36)), Lib.hid (show VaB w _ b5 pk0 pl0 from hbb ▸ VaB.new C.out), Lib.hid (V6.out.al (obj0P 36))⟩ ?_
          clear C V6 hbb
          rintro W ⟨C, V5, V6⟩
          refine wpAnyH_ready (rs := [3]) (by kernel_rfl) (by simp) ?_
          refine (AllReadyH.cons (o := ?oz28) ?hiz28 (fun K hK => ?stz28) AllReadyH.nil)
          case hiz28 => (simp only [List.getElem?_toArray, List.getElem?_cons_succ, List.getElem?_cons_zero]; rfl)
          case stz28 =>
            go_simp
            go_at_call 9
            with_reducible refine (of15_any o r _ (H2.out.on C.out.bel) hnr2).mono ?_
            rintro e wy ⟨r4, rfl, -, hb⟩
            (try go_wp2_with fail)
            refine hK.out _ _ (by exact (C.out.step hb).flat) (fun _ => ?_)
            clear hK K
            try simp only [Act.put, List.setIfInBounds_toArray, List.set_cons_zero, List.set_cons_succ]
            refine at_worldP (fun W => Hid (AnC 28 w W p o q r) ∧ Hid (VaB w W b5 pk0 pl0) ∧ Hid (VaB w W b6 pk0 pl0)) ⟨Lib.hid (C.out.step hb), Lib.hid (V5.out.step hb), Lib.hid (V6.out.step hb)⟩ ?_
            clear C V5 V6 hb
            rintro W ⟨C, V5, V6⟩
            refine wpAnyH_ready (rs := [6]) (by kernel_rfl) (by simp) ?_
            refine AllReadyH.cons (o := ?oz29) ?hiz29 (fun K hK => ?stz29) AllReadyH.nil
            case hiz29 => (simp only [List.getElem?_toArray, List.getElem?_cons_succ, List.getElem?_cons_zero]; rfl)
            obtain ⟨e0, e1, e2, e3, e4, e5, e6, e7, e8, e9⟩ := V5.out.bx.free
            obtain ⟨d0, d1, d2, d3, d4, d5, d6, d7, d8, d9⟩ := V5.out.bx.all
            go_simp
            refine hK.out _ _ (by exact (C.out.put V5.out.gt p r3).flat) (fun _ => ?_)
            clear hK K e0 e1 e2 e3 e4 e5 e6 e7 e8 e9 d0 d1 d2 d3 d4 d5 d6 d7 d8 d9
            try simp only [Act.put, List.setIfInBounds_toArray, List.set_cons_zero, List.set_cons_succ]
            refine at_worldP (fun W => Hid (AnC 28 w W p o q r) ∧ Hid (VaB w W b5 p r3) ∧ Hid (VaB w W b6 pk0 pl0)) ⟨Lib.hid (C.out.put V5.out.gt p r3), Lib.hid (V5.out.put p r3), Lib.hid (V6.out.putO NE.out.symm p r3)⟩ ?_
            clear C V5 V6
            rintro W ⟨C, V5, V6⟩
            refine wpAnyH_ready (rs := [7]) (by kernel_rfl) (by simp) ?_
            refine AllReadyH.cons (o := ?oz30) ?hiz30 (fun K hK => ?stz30) AllReadyH.nil
            case hiz30 => (simp only [List.getElem?_toArray, List.getElem?_cons_succ, List.getElem?_cons_zero]; rfl)
            obtain ⟨e0, e1, e2, e3, e4, e5, e6, e7, e8, e9⟩ := V6.out.bx.free
            obtain ⟨d0, d1, d2, d3, d4, d5, d6, d7, d8, d9⟩ := V6.out.bx.all
            go_simp
            refine hK.out _ _ (by exact (C.out.put V6.out.gt o r4).flat) (fun _ => ?_)
            clear hK K e0 e1 e2 e3 e4 e5 e6 e7 e8 e9 d0 d1 d2 d3 d4 d5 d6 d7 d8 d9
            try simp only [Act.put, List.setIfInBounds_toArray, List.set_cons_zero, List.set_cons_succ]
            refine at_worldP (fun W => Hid (AnC 28 w W p o q r) ∧ Hid (VaB w W b5 p r3) ∧ Hid (VaB w W b6 o r4)) ⟨Lib.hid (C.out.put V6.out.gt o r4), Lib.hid (V5.out.putO NE.out o r4), Lib.hid (V6.out.put o r4)⟩ ?_
            clear C V5 V6
            rintro W ⟨C, V5, V6⟩
            refine wpAnyH_done (by kernel_rfl) ?_ _
            (try go_wp2_with fail); go_meet
            exact ⟨b5, b6, r3, r4, rfl, rfl, C, V5, V6, NE⟩
    case stz2 =>
      go_simp
      refine hK.out _ _ (by exact (C.out.al _).flat) (fun _ => ?_)
      clear hK K
      try simp only [Act.put, List.setIfInBounds_toArray, List.set_cons_zero, List.set_cons_succ]
      obtain ⟨b5, hbb⟩ : ∃ b, b = W.heap.size := ⟨_, rfl⟩
      rw [← hbb]
      refine at_worldP (fun W => Hid (AnC 28 w W p o q r) ∧ Hid (VaB w W b5 pk0 pl0)) ⟨Lib.hid (C.out.al (obj0P 36)), Lib.hid (show VaB w _ b5 pk0 pl0 from hbb ▸ VaB.new C.out)⟩ ?_
      clear C hbb
      rintro W ⟨C, V5⟩
      refine wpAnyH_ready (rs := [1, 5]) (by kernel_rfl) (by simp) ?_
      refine (AllReadyH.cons (o := ?oz32) ?hiz32 (fun K hK => ?stz32) (AllReadyH.cons (o := ?oz31) ?hiz31 (fun K hK => ?stz31) AllReadyH.nil))
      case hiz32 => (simp only [List.getElem?_toArray, List.getElem?_cons_succ, List.getElem?_cons_zero]; rfl)
      case hiz31 => (simp only [List.getElem?_toArray, List.getElem?_cons_succ, List.getElem?_cons_zero]; rfl)
      case stz32 =>
        go_simp
        go_at_call 9
        with_reducible refine (of15_any p q _ (H.out.on C.out.bel) hno2).mono ?_
        rintro e wy ⟨r3, rfl, -, hb⟩
        (try go_wp2_with fail)
        refine hK.out _ _ (by exact (C.out.step hb).flat) (fun _ => ?_)
        clear hK K
        try simp only [Act.put, List.setIfInBounds_toArray, List.set_cons_zero, List.set_cons_succ]
        refine at_worldP (fun W => Hid (AnC 28 w W p o q r) ∧ Hid (VaB w W b5 pk0 pl0)) ⟨Lib.hid (C.out.step hb), Lib.hid (V5.out.step hb)⟩ ?_
        clear C V5 hb
        rintro W ⟨C, V5⟩
        refine wpAnyH_ready (rs := [3, 5]) (by kernel_rfl) (by simp) ?_
        refine (AllReadyH.cons (o := ?oz34) ?hiz34 (fun K hK => ?stz34) (AllReadyH.cons (o := ?oz33) ?hiz33 (fun K hK => ?stz33) AllReadyH.nil))
        case hiz34 => (simp only [List.getElem?_toArray, List.getElem?_cons_succ, List.getElem?_cons_zero]; rfl)
        case hiz33 => (simp only [List.getElem?_toArray, List.getElem?_cons_succ, List.getElem?_cons_zero]; rfl)
        case stz34 =>
          go_simp
          go_at_call 9
          with_reducible refine (of15_any o r _ (H2.out.on C.out.bel) hnr2).mono ?_
          rintro e wy ⟨r4, rfl, -, hb⟩
          (try go_wp2_with fail)
          refine hK.out _ _ (by exact (C.out.step hb).flat) (fun _ => ?_)
          clear hK K
          try simp only [Act.put, List.setIfInBounds_toArray, List.set_cons_zero, List.set_cons_succ]
          refine at_worldP (fun W => Hid (AnC 28 w W p o q r) ∧ Hid (VaB w W b5 pk0 pl0)) ⟨Lib.hid (C.out.step hb), Lib.hid (V5.out.step hb)⟩ ?_
          clear C V5 hb
          rintro W ⟨C, V5⟩
          refine wpAnyH_ready (rs := [5]) (by kernel_rfl) (by simp) ?_
          refine (AllReadyH.cons (o := ?oz35) ?hiz35 (fun K hK => ?stz35) AllReadyH.nil)
          case hiz35 => (simp only [List.getElem?_toArray, List.getElem?_cons_succ, List.getElem?_cons_zero]; rfl)
          case stz35 =>
            go_simp
            refine hK.out _ _ (by exact (C.out.al _).flat) (fun _ => ?_)
            clear hK K
            try simp only [Act.put, List.setIfInBounds_toArray, List.set_cons_zero, List.set_cons_succ]
            obtain ⟨b6, hbb⟩ : ∃ b, b = W.heap.size := ⟨_, rfl⟩
            rw [← hbb]
            have NE := Lib.hid (show b5 ≠ b6 from fun e => absurd V5.out.bx.lt (by rw [e, hbb]; exact Nat.lt_irrefl _))
            refine at_worldP (fun W => Hid (AnC 28 w W p o q r) ∧ Hid (VaB w W b5 pk0 pl0) ∧ Hid (VaB w W b6 pk0 pl0)) ⟨Lib.hid (C.out.al (obj0P 36)), Lib.hid (V5.out.al (obj0P 36)), Lib.hid (show VaB w _ b6 pk0 pl0 from hbb ▸ VaB.new C.out)⟩ ?_
            clear C V5 hbb
            rintro W ⟨C, V5, V6⟩
            refine wpAnyH_ready (rs := [6]) (by kernel_rfl) (by simp) ?_
            refine AllReadyH.cons (o := ?oz36) ?hiz36 (fun K hK => ?stz36) AllReadyH.nil
            case hiz36 => (simp only [List.getElem?_toArray, List.getElem?_cons_succ, List.getElem?_cons_zero]; rfl)
            obtain ⟨e0, e1, e2, e3, e4, e5, e6, e7, e8, e9⟩ := V5.out.bx.free
            obtain ⟨d0, d1, d2, d3, d4, d5, d6, d7, d8, d9⟩ := V5.out.bx.all
            go_simp
            refine hK.out _ _ (by exact (C.out.put V5.out.gt p r3).flat) (fun _ => ?_)
            clear hK K e0 e1 e2 e3 e4 e5 e6 e7 e8 e9 d0 d1 d2 d3 d4 d5 d6 d7 d8 d9
            try simp only [Act.put, List.setIfInBounds_toArray, List.set_cons_zero, List.set_cons_succ]
            refine at_worldP (fun W => Hid (AnC 28 w W p o q r) ∧ Hid (VaB w W b5 p r3) ∧ Hid (VaB w W b6 pk0 pl0)) ⟨Lib.hid (C.out.put V5.out.gt p r3), Lib.hid (V5.out.put p r3), Lib.hid (V6.out.putO NE.out.symm p r3)⟩ ?_
            clear C V5 V6
            rintro W ⟨C, V5, V6⟩
            refine wpAnyH_ready (rs := [7]) (by kernel_rfl) (by simp) ?_
            refine AllReadyH.cons (o := ?oz37) ?hiz37 (fun K hK => ?stz37) AllReadyH.nil
            case hiz37 => (simp only [List.getElem?_toArray, List.getElem?_cons_succ, List.getElem?_cons_zero]; rfl)
            obtain ⟨e0, e1, e2, e3, e4, e5, e6, e7, e8, e9⟩ := V6.out.bx.free
            obtain ⟨d0, d1, d2, d3, d4, d5, d6, d7, d8, d9⟩ := V6.out.bx.all
            go_simp
            refine hK.out _ _ (by exact (C.out.put V6.out.gt o r4).flat) (fun _ => ?_)
            clear hK K e0 e1 e2 e3 e4 e5 e6 e7 e8 e9 d0 d1 d2 d3 d4 d5 d6 d7 d8 d9
            try simp only [Act.put, List.setIfInBounds_toArray, List.set_cons_zero, List.set_cons_succ]
            refine at_worldP (fun W => Hid (AnC 28 w W p o q r) ∧ Hid (VaB w W b5 p r3) ∧ Hid (VaB w W b6 o r4)) ⟨Lib.hid (C.out.put V6.out.gt o r4), Lib.hid (V5.out.putO NE.out o r4), Lib.hid (V6.out.put o r4)⟩ ?_
            clear C V5 V6
            rintro W ⟨C, V5, V6⟩
            refine wpAnyH_done (by kernel_rfl) ?_ _
            (try go_wp2_with fail); go_meet
            exact ⟨b5, b6, r3, r4, rfl, rfl, C, V5, V6, NE⟩
        case stz33 =>
          go_simp
          refine hK.out _ _ (by exact (C.out.al _).flat) (fun _ => ?_)
          clear hK K
          try simp only [Act.put, List.setIfInBounds_toArray, List.set_cons_zero, List.set_cons_succ]
          obtain ⟨b6, hbb⟩ : ∃ b, b = W.heap.size := ⟨_, rfl⟩
          rw [← hbb]
          have NE := Lib.hid (show b5 ≠ b6 from fun e => absurd V5.out.bx.lt (by rw [e, hbb]; exact Nat.lt_irrefl _))
          refine at_worldP (fun W => Hid (AnC 28 w W p o q r) ∧ Hid (VaB w W b5 pk0 pl0) ∧ Hid (VaB w W b6 pk0 pl0)) ⟨Lib.hid (C.out.al (obj0P 36)), Lib.hid (V5.out.al (obj0P 36)), Lib.hid (show VaB w _ b6 pk0 pl0 from hbb ▸ VaB.new C.out)⟩ ?_
          clear C V5 hbb
          rintro W ⟨C, V5, V6⟩
          refine wpAnyH_ready (rs := [3]) (by kernel_rfl) (by simp) ?_
          refine (AllReadyH.cons (o := ?oz38) ?hiz38 (fun K hK => ?stz38) AllReadyH.nil)
          case hiz38 => (simp only [List.getElem?_toArray, List.getElem?_cons_succ, List.getElem?_cons_zero]; rfl)
          case stz38 =>
            go_simp
            go_at_call 9
            with_reducible refine (of15_any o r _ (H2.out.on C.out.bel) hnr2).mono ?_
            rintro e wy ⟨r4, rfl, -, hb⟩
            (try go_wp2_with fail)
            refine hK.out _ _ (by exact (C.out.step hb).flat) (fun _ => ?_)
            clear hK K
            try simp only [Act.put, List.setIfInBounds_toArray, List.set_cons_zero, List.set_cons_succ]
            refine at_worldP (fun W => Hid (AnC 28 w W p o q r) ∧ Hid (VaB w W b5 pk0 pl0) ∧ Hid (VaB w W b6 pk0 pl0)) ⟨Lib.hid (C.out.step hb), Lib.hid (V5.out.step hb), Lib.hid (V6.out.step hb)⟩ ?_
            clear C V5 V6 hb
            rintro W ⟨C, V5, V6⟩
            refine wpAnyH_ready (rs := [6]) (by kernel_rfl) (by simp) ?_
            refine AllReadyH.cons (o := ?oz39) ?hiz39 (fun K hK => ?stz39) AllReadyH.nil
            case hiz39 => (simp only [List.getElem?_toArray, List.getElem?_cons_succ, List.getElem?_cons_zero]; rfl)
            obtain ⟨e0, e1, e2, e3, e4, e5, e6, e7, e8, e9⟩ := V5.out.bx.free
            obtain ⟨d0, d1, d2, d3, d4, d5, d6, d7, d8, d9⟩ := V5.out.bx.all
            go_simp
            refine hK.out _ _ (by exact (C.out.put V5.out.gt p r3).flat) (fun _ => ?_)
            clear hK K e0 e1 e2 e3 e4 e5 e6 e7 e8 e9 d0 d1 d2 d3 d4 d5 d6 d7 d8 d9
            try simp only [Act.put, List.setIfInBounds_toArray, List.set_cons_zero, List.set_cons_succ]
            refine at_worldP (fun W => Hid (AnC 28 w W p o q r) ∧ Hid (VaB w W b5 p r3) ∧ Hid (VaB w W b6 pk0 pl0)) ⟨Lib.hid (C.out.put V5.out.gt p r3), Lib.hid (V5.out.put p r3), Lib.hid (V6.out.putO NE.out.symm p r3)⟩ ?_
            clear C V5 V6
            rintro W ⟨C, V5, V6⟩
            refine wpAnyH_ready (rs := [7]) (by kernel_rfl) (by simp) ?_
            refine AllReadyH.cons (o := ?oz40) ?hiz40 (fun K hK => ?stz40) AllReadyH.nil
            case hiz40 => (simp only [List.getElem?_toArray, List.getElem?_cons_succ, List.getElem?_cons_zero]; rfl)
            obtain ⟨e0, e1, e2, e3, e4, e5, e6, e7, e8, e9⟩ := V6.out.bx.free
            obtain ⟨d0, d1, d2, d3, d4, d5, d6, d7, d8, d9⟩ := V6.out.bx.all
            go_simp
            refine hK.out _ _ (by exact (C.out.put V6.out.gt o r4).flat) (fun _ => ?_)
            clear hK K e0 e1 e2 e3 e4 e5 e6 e7 e8 e9 d0 d1 d2 d3 d4 d5 d6 d7 d8 d9
            try simp only [Act.put, List.setIfInBounds_toArray, List.set_cons_zero, List.set_cons_succ]
            refine at_worldP (fun W => Hid (AnC 28 w W p o q r) ∧ Hid (VaB w W b5 p r3) ∧ Hid (VaB w W b6 o r4)) ⟨Lib.hid (C.out.put V6.out.gt o r4), Lib.hid (V5.out.putO NE.out o r4), Lib.hid (V6.out.put o r4)⟩ ?_
            clear C V5 V6
            rintro W ⟨C, V5, V6⟩
            refine wpAnyH_done (by kernel_rfl) ?_ _
            (try go_wp2_with fail); go_meet
            exact ⟨b5, b6, r3, r4, rfl, rfl, C, V5, V6, NE⟩
      case stz31 =>
        go_simp
        refine hK.out _ _ (by exact (C.out.al _).flat) (fun _ => ?_)
        clear hK K
        try simp only [Act.put, List.setIfInBounds_toArray, List.set_cons_zero, List.set_cons_succ]
        obtain ⟨b6, hbb⟩ : ∃ b, b = W.heap.size := ⟨_, rfl⟩
        rw [← hbb]
        have NE := Lib.hid (show b5 ≠ b6 from fun e => absurd V5.out.bx.lt (by rw [e, hbb]; exact Nat.lt_irrefl _))
        refine at_worldP (fun W => Hid (AnC 28 w W p o q r) ∧ Hid (VaB w W b5 pk0 pl0) ∧ Hid (VaB w W b6 pk0 pl0)) ⟨Lib.hid (C.out.al (obj0P 36)), Lib.hid (V5.out.al (obj0P 36)), Lib.hid (show VaB w _ b6 pk0 pl0 from hbb ▸ VaB.new C.out)⟩ ?_
        clear C V5 hbb
        rintro W ⟨C, V5, V6⟩
        refine wpAnyH_ready (rs := [1]) (by kernel_rfl) (by simp) ?_
        refine (AllReadyH.cons (o := ?oz41) ?hiz41 (fun K hK => ?stz41) AllReadyH.nil)
        case hiz41 => (simp only [List.getElem?_toArray, List.getElem?_cons_succ, List.getElem?_cons_zero]; rfl)
        case stz41 =>
          go_simp
          go_at_call 9
          with_reducible refine (of15_any p q _ (H.out.on C.out.bel) hno2).mono ?_
          rintro e wy ⟨r3, rfl, -, hb⟩
          (try go_wp2_with fail)
          refine hK.out _ _ (by exact (C.out.step hb).flat) (fun _ => ?_)
          clear hK K
          try simp only [Act.put, List.setIfInBounds_toArray, List.set_cons_zero, List.set_cons_succ]
          refine at_worldP (fun W => Hid (AnC 28 w W p o q r) ∧ Hid (VaB w W b5 pk0 pl0) ∧ Hid (VaB w W b6 pk0 pl0)) ⟨Lib.hid (C.out.step hb), Lib.hid (V5.out.step hb), Lib.hid (V6.out.step hb)⟩ ?_
          clear C V5 V6 hb
          rintro W ⟨C, V5, V6⟩
          refine wpAnyH_ready (rs := [3]) (by kernel_rfl) (by simp) ?_
          refine (AllReadyH.cons (o := ?oz42) ?hiz42 (fun K hK => ?stz42) AllReadyH.nil)
          case hiz42 => (simp only [List.getElem?_toArray, List.getElem?_cons_succ, List.getElem?_cons_zero]; rfl)
          case stz42 =>
            go_simp
            go_at_call 9
            with_reducible refine (of15_any o r _ (H2.out.on C.out.bel) hnr2).mono ?_
            rintro e wy ⟨r4, rfl, -, hb⟩
            (try go_wp2_with fail)
            refine hK.out _ _ (by exact (C.out.step hb).flat) (fun _ => ?_)
            clear hK K
            try simp only [Act.put, List.setIfInBounds_toArray, List.set_cons_zero, List.set_cons_succ]
            refine at_worldP (fun W => Hid (AnC 28 w W p o q r) ∧ Hid (VaB w W b5 pk0 pl0) ∧ Hid (VaB w W b6 pk0 pl0)) ⟨Lib.hid (C.out.step hb), Lib.hid (V5.out.step hb), Lib.hid (V6.out.step hb)⟩ ?_
            clear C V5 V6 hb
            rintro W ⟨C, V5, V6⟩
            refine wpAnyH_ready (rs := [6]) (by kernel_rfl) (by simp) ?_
            refine AllReadyH.cons (o := ?oz43) ?hiz43 (fun K hK => ?stz43) AllReadyH.nil
            case hiz43 => (simp only [List.getElem?_toArray, List.getElem?_cons_succ, List.getElem?_cons_zero]; rfl)
            obtain ⟨e0, e1, e2, e3, e4, e5, e6, e7, e8, e9⟩ := V5.out.bx.free
            obtain ⟨d0, d1, d2, d3, d4, d5, d6, d7, d8, d9⟩ := V5.out.bx.all
            go_simp
            refine hK.out _ _ (by exact (C.out.put V5.out.gt p r3).flat) (fun _ => ?_)
            clear hK K e0 e1 e2 e3 e4 e5 e6 e7 e8 e9 d0 d1 d2 d3 d4 d5 d6 d7 d8 d9
            try simp only [Act.put, List.setIfInBounds_toArray, List.set_cons_zero, List.set_cons_succ]
            refine at_worldP (fun W => Hid (AnC 28 w W p o q r) ∧ Hid (VaB w W b5 p r3) ∧ Hid (VaB w W b6 pk0 pl0)) ⟨Lib.hid (C.out.put V5.out.gt p r3), Lib.hid (V5.out.put p r3), Lib.hid (V6.out.putO NE.out.symm p r3)⟩ ?_
            clear C V5 V6
            rintro W ⟨C, V5, V6⟩
            refine wpAnyH_ready (rs := [7]) (by kernel_rfl) (by simp) ?_
            refine AllReadyH.cons (o := ?oz44) ?hiz44 (fun K hK => ?stz44) AllReadyH.nil
            case hiz44 => (simp only [List.getElem?_toArray, List.getElem?_cons_succ, List.getElem?_cons_zero]; rfl)
            obtain ⟨e0, e1, e2, e3, e4, e5, e6, e7, e8, e9⟩ := V6.out.bx.free
            obtain ⟨d0, d1, d2, d3, d4, d5, d6, d7, d8, d9⟩ := V6.out.bx.all
            go_simp
            refine hK.out _ _ (by exact (C.out.put V6.out.gt o r4).flat) (fun _ => ?_)
            clear hK K e0 e1 e2 e3 e4 e5 e6 e7 e8 e9 d0 d1 d2 d3 d4 d5 d6 d7 d8 d9
            try simp only [Act.put, List.setIfInBounds_toArray, List.set_cons_zero, List.set_cons_succ]
            refine at_worldP (fun W => Hid (AnC 28 w W p o q r) ∧ Hid (VaB w W b5 p r3) ∧ Hid (VaB w W b6 o r4)) ⟨Lib.hid (C.out.put V6.out.gt o r4), Lib.hid (V5.out.putO NE.out o r4), Lib.hid (V6.out.put o r4)⟩ ?_
            clear C V5 V6
            rintro W ⟨C, V5, V6⟩
            refine wpAnyH_done (by kernel_rfl) ?_ _
            (try go_wp2_with fail); go_meet
            exact ⟨b5, b6, r3, r4, rfl, rfl, C, V5, V6, NE⟩
    case stz1 =>
      go_simp
      refine hK.out _ _ (by exact (C.out.al _).flat) (fun _ => ?_)
      clear hK K
      try simp only [Act.put, List.setIfInBounds_toArray, List.set_cons_zero, List.set_cons_succ]
      obtain ⟨b6, hbb⟩ : ∃ b, b = W.heap.size := ⟨_, rfl⟩
      rw [← hbb]
      refine at_worldP (fun W => Hid (AnC 28 w W p o q r) ∧ Hid (VaB w W b6 pk0 pl0)) ⟨Lib.hid (C.out.al (obj0P 36)), Lib.hid (show VaB w _ b6 pk0 pl0 from hbb ▸ VaB.new C.out)⟩ ?_
      clear C hbb
      rintro W ⟨C, V6⟩
      refine wpAnyH_ready (rs := [1, 4]) (by kernel_rfl) (by simp) ?_
      refine (AllReadyH.cons (o := ?oz46) ?hiz46 (fun K hK => ?stz46) (AllReadyH.cons (o := ?oz45) ?hiz45 (fun K hK => ?stz45) AllReadyH.nil))
      case hiz46 => (simp only [List.getElem?_toArray, List.getElem?_cons_succ, List.getElem?_cons_zero]; rfl)
      case hiz45 => (simp only [List.getElem?_toArray, List.getElem?_cons_succ, List.getElem?_cons_zero]; rfl)
      case stz46 =>
        go_simp
        go_at_call 9
        with_reducible refine (of15_any p q _ (H.out.on C.out.bel) hno2).mono ?_
        rintro e wy ⟨r3, rfl, -, hb⟩
        (try go_wp2_with fail)
        refine hK.out _ _ (by exact (C.out.step hb).flat) (fun _ => ?_)
        clear hK K
        try simp only [Act.put, List.setIfInBounds_toArray, List.set_cons_zero, List.set_cons_succ]
        refine at_worldP (fun W => Hid (AnC 28 w W p o q r) ∧ Hid (VaB w W b6 pk0 pl0)) ⟨Lib.hid (C.out.step hb), Lib.hid (V6.out.step hb)⟩ ?_
        clear C V6 hb
        rintro W ⟨C, V6⟩
        refine wpAnyH_ready (rs := [3, 4]) (by kernel_rfl) (by simp) ?_
        refine (AllReadyH.cons (o := ?oz48) ?hiz48 (fun K hK => ?stz48) (AllReadyH.cons (o := ?oz47) ?hiz47 (fun K hK => ?stz47) AllReadyH.nil))
        case hiz48 => (simp only [List.getElem?_toArray, List.getElem?_cons_succ, List.getElem?_cons_zero]; rfl)
        case hiz47 => (simp only [List.getElem?_toArray, List.getElem?_cons_succ, List.getElem?_cons_zero]; rfl)
        case stz48 =>
          go_simp
          go_at_call 9
          with_reducible refine (of15_any o r _ (H2.out.on C.out.bel) hnr2).mono ?_
          rintro e wy ⟨r4, rfl, -, hb⟩
          (try go_wp2_with fail)
          refine hK.out _ _ (by exact (C.out.step hb).flat) (fun _ => ?_)
          clear hK K
          try simp only [Act.put, List.setIfInBounds_toArray, List.set_cons_zero, List.set_cons_succ]
          refine at_worldP (fun W => Hid (AnC 28 w W p o q r) ∧ Hid (VaB w W b6 pk0 pl0)) ⟨Lib.hid (C.out.step hb), Lib.hid (V6.out.step hb)⟩ ?_
          clear C V6 hb
          rintro W ⟨C, V6⟩
          refine wpAnyH_ready (rs := [4]) (by kernel_rfl) (by simp) ?_
          refine (AllReadyH.cons (o := ?oz49) ?hiz49 (fun K hK => ?stz49) AllReadyH.nil)
          case hiz49 => (simp only [List.getElem?_toArray, List.getElem?_cons_succ, List.getElem?_cons_zero]; rfl)
          case stz49 =>
            go_simp
            refine hK.out _ _ (by exact (C.out.al _).flat) (fun _ => ?_)
            clear hK K
            try simp only [Act.put, List.setIfInBounds_toArray, List.set_cons_zero, List.set_cons_succ]
            obtain ⟨b5, hbb⟩ : ∃ b, b = W.heap.size := ⟨_, rfl⟩
            rw [← hbb]
            have NE := Lib.hid (show b5 ≠ b6 from fun e => absurd V6.out.bx.lt (by rw [← e, hbb]; exact Nat.lt_irrefl _))
            refine at_worldP (fun W => Hid (AnC 28 w W p o q r) ∧ Hid (VaB w W b5 pk0 pl0) ∧ Hid (VaB w W b6 pk0 pl0)) ⟨Lib.hid (C.out.al (obj0P 36)), Lib.hid (show VaB w _ b5 pk0 pl0 from hbb ▸ VaB.new C.out), Lib.hid (V6.out.al (obj0P 36))⟩ ?_
            clear C V6 hbb
            rintro W ⟨C, V5, V6⟩
            refine wpAnyH_ready (rs := [6]) (by kernel_rfl) (by simp) ?_
            refine AllReadyH.cons (o := ?oz50) ?hiz50 (fun K hK => ?stz50) AllReadyH.nil
            case hiz50 => (simp only [List.getElem?_toArray, List.getElem?_cons_succ, List.getElem?_cons_zero]; rfl)
            obtain ⟨e0, e1, e2, e3, e4, e5, e6, e7, e8, e9⟩ := V5.out.bx.free
            obtain ⟨d0, d1, d2, d3, d4, d5, d6, d7, d8, d9⟩ := V5.out.bx.all
            go_simp
            refine hK.out _ _ (by exact (C.out.put V5.out.gt p r3).flat) (fun _ => ?_)
            clear hK K e0 e1 e2 e3 e4 e5 e6 e7 e8 e9 d0 d1 d2 d3 d4 d5 d6 d7 d8 d9
            try simp only [Act.put, List.setIfInBounds_toArray, List.set_cons_zero, List.set_cons_succ]
            refine at_worldP (fun W => Hid (AnC 28 w W p o q r) ∧ Hid (VaB w W b5 p r3) ∧ Hid (VaB w W b6 pk0 pl0)) ⟨Lib.hid (C.out.put V5.out.gt p r3), Lib.hid (V5.out.put p r3), Lib.hid (V6.out.putO NE.out.symm p r3)⟩ ?_
            clear C V5 V6
            rintro W ⟨C, V5, V6⟩
            refine wpAnyH_ready (rs := [7]) (by kernel_rfl) (by simp) ?_
            refine AllReadyH.cons (o := ?oz51) ?hiz51 (fun K hK => ?stz51) AllReadyH.nil
            case hiz51 => (simp only [List.getElem?_toArray, List.getElem?_cons_succ, List.getElem?_cons_zero]; rfl)
            obtain ⟨e0, e1, e2, e3, e4, e5, e6, e7, e8, e9⟩ := V6.out.bx.free
            obtain ⟨d0, d1, d2, d3, d4, d5, d6, d7, d8, d9⟩ := V6.out.bx.all
            go_simp
            refine hK.out _ _ (by exact (C.out.put V6.out.gt o r4).flat) (fun _ => ?_)
            clear hK K e0 e1 e2 e3 e4 e5 e6 e7 e8 e9 d0 d1 d2 d3 d4 d5 d6 d7 d8 d9
            try simp only [Act.put, List.setIfInBounds_toArray, List.set_cons_zero, List.set_cons_succ]
            refine at_worldP (fun W => Hid (AnC 28 w W p o q r) ∧ Hid (VaB w W b5 p r3) ∧ Hid (VaB w W b6 o r4)) ⟨Lib.hid (C.out.put V6.out.gt o r4), Lib.hid (V5.out.putO NE.out o r4), Lib.hid (V6.out.put o r4)⟩ ?_
            clear C V5 V6
            rintro W ⟨C, V5, V6⟩
            refine wpAnyH_done (by kernel_rfl) ?_ _
            (try go_wp2_with fail); go_meet
            exact ⟨b5, b6, r3, r4, rfl, rfl, C, V5, V6, NE⟩
        case stz47 =>
          go_simp
          refine hK.out _ _ (by exact (C.out.al _).flat) (fun _ => ?_)
          clear hK K
          try simp only [Act.put, List.setIfInBounds_toArray, List.set_cons_zero, List.set_cons_succ]
          obtain ⟨b5, hbb⟩ : ∃ b, b = W.heap.size := ⟨_, rfl⟩
          rw [← hbb]
          have NE := Lib.hid (show b5 ≠ b6 from fun e => absurd V6.out.bx.lt (by rw [← e, hbb]; exact Nat.lt_irrefl _))
          refine at_worldP (fun W => Hid (AnC 28 w W p o q r) ∧ Hid (VaB w W b5 pk0 pl0) ∧ Hid (VaB w W b6 pk0 pl0)) ⟨Lib.hid (C.out.al (obj0P 36)), Lib.hid (show VaB w _ b5 pk0 pl0 from hbb ▸ VaB.new C.out), Lib.hid (V6.out.al (obj0P 36))⟩ ?_
          clear C V6 hbb
          rintro W ⟨C, V5, V6⟩
          refine wpAnyH_ready (rs := [3]) (by kernel_rfl) (by simp) ?_
          refine (AllReadyH.cons (o := ?oz52) ?hiz52 (fun K hK => ?stz52) AllReadyH.nil)
          case hiz52 => (simp only [List.getElem?_toArray, List.getElem?_cons_succ, List.getElem?_cons_zero]; rfl)
          case stz52 =>
            go_simp
            go_at_call 9
            with_reducible refine (of15_any o r _ (H2.out.on C.out.bel) hnr2).mono ?_
            rintro e wy ⟨r4, rfl, -, hb⟩
            (try go_wp2_with fail)
            refine hK.out _ _ (by exact (C.out.step hb).flat) (fun _ => ?_)
            clear hK K
            try simp only [Act.put, List.setIfInBounds_toArray, List.set_cons_zero, List.set_cons_succ]
            refine at_worldP (fun W => Hid (AnC 28 w W p o q r) ∧ Hid (VaB w W b5 pk0 pl0) ∧ Hid (VaB w W b6 pk0 pl0)) ⟨Lib.hid (C.out.step hb), Lib.hid (V5.out.step hb), Lib.hid (V6.out.step hb)⟩ ?_
            clear C V5 V6 hb
            rintro W ⟨C, V5, V6⟩
            refine wpAnyH_ready (rs := [6]) (by kernel_rfl) (by simp) ?_
            refine AllReadyH.cons (o := ?oz53) ?hiz53 (fun K hK => ?stz53) AllReadyH.nil
            case hiz53 => (simp only [List.getElem?_toArray, List.getElem?_cons_succ, List.getElem?_cons_zero]; rfl)
            obtain ⟨e0, e1, e2, e3, e4, e5, e6, e7, e8, e9⟩ := V5.out.bx.free
            obtain ⟨d0, d1, d2, d3, d4, d5, d6, d7, d8, d9⟩ := V5.out.bx.all
            go_simp
            refine hK.out _ _ (by exact (C.out.put V5.out.gt p r3).flat) (fun _ => ?_)
            clear hK K e0 e1 e2 e3 e4 e5 e6 e7 e8 e9 d0 d1 d2 d3 d4 d5 d6 d7 d8 d9
            try simp only [Act.put, List.setIfInBounds_toArray, List.set_cons_zero, List.set_cons_succ]
            refine at_worldP (fun W => Hid (AnC 28 w W p o q r) ∧ Hid (VaB w W b5 p r3) ∧ Hid (VaB w W b6 pk0 pl0)) ⟨Lib.hid (C.out.put V5.out.gt p r3), Lib.hid (V5.out.put p r3), Lib.hid (V6.out.putO NE.out.symm p r3)⟩ ?_
            clear C V5 V6
            rintro W ⟨C, V5, V6⟩
            refine wpAnyH_ready (rs := [7]) (by kernel_rfl) (by simp) ?_
            refine AllReadyH.cons (o := ?oz54) ?hiz54 (fun K hK => ?stz54) AllReadyH.nil
            case hiz54 => (simp only [List.getElem?_toArray, List.getElem?_cons_succ, List.getElem?_cons_zero]; rfl)
            obtain ⟨e0, e1, e2, e3, e4, e5, e6, e7, e8, e9⟩ := V6.out.bx.free
            obtain ⟨d0, d1, d2, d3, d4, d5, d6, d7, d8, d9⟩ := V6.out.bx.all
            go_simp
            refine hK.out _ _ (by exact (C.out.put V6.out.gt o r4).flat) (fun _ => ?_)
            clear hK K e0 e1 e2 e3 e4 e5 e6 e7 e8 e9 d0 d1 d2 d3 d4 d5 d6 d7 d8 d9
            try simp only [Act.put, List.setIfInBounds_toArray, List.set_cons_zero, List.set_cons_succ]
            refine at_worldP (fun W => Hid (AnC 28 w W p o q r) ∧ Hid (VaB w W b5 p r3) ∧ Hid (VaB w W b6 o r4)) ⟨Lib.hid (C.out.put V6.out.gt o r4), Lib.hid (V5.out.putO NE.out o r4), Lib.hid (V6.out.put o r4)⟩ ?_
            clear C V5 V6
            rintro W ⟨C, V5, V6⟩
            refine wpAnyH_done (by kernel_rfl) ?_ _
            (try go_wp2_with fail); go_meet
            exact ⟨b5, b6, r3, r4, rfl, rfl, C, V5, V6, NE⟩
      case stz45 =>
        go_simp
        refine hK.out _ _ (by exact (C.out.al _).flat) (fun _ => ?_)
        clear hK K
        try simp only [Act.put, List.setIfInBounds_toArray, List.set_cons_zero, List.set_cons_succ]
        obtain ⟨b5, hbb⟩ : ∃ b, b = W.heap.size := ⟨_, rfl⟩
        rw [← hbb]
        have NE := Lib.hid (show b5 ≠ b6 from fun e => absurd V6.out.bx.lt (by rw [← e, hbb]; exact Nat.lt_irrefl _))
        refine at_worldP (fun W => Hid (AnC 28 w W p o q r) ∧ Hid (VaB w W b5 pk0 pl0) ∧ Hid (VaB w W b6 pk0 pl0)) ⟨Lib.hid (C.out.al (obj0P 36)), Lib.hid (show VaB w _ b5 pk0 pl0 from hbb ▸ VaB.new C.out), Lib.hid (V6.out.al (obj0P 36))⟩ ?_
        clear C V6 hbb
        rintro W ⟨C, V5, V6⟩
        refine wpAnyH_ready (rs := [1]) (by kernel_rfl) (by simp) ?_
        refine (AllReadyH.cons (o := ?oz55) ?hiz55 (fun K hK => ?stz55) AllReadyH.nil)
        case hiz55 => (simp only [List.getElem?_toArray, List.getElem?_cons_succ, List.getElem?_cons_zero]; rfl)
        case stz55 =>
          go_simp
          go_at_call 9
          with_reducible refine (of15_any p q _ (H.out.on C.out.bel) hno2).mono ?_
          rintro e wy ⟨r3, rfl, -, hb⟩
          (try go_wp2_with fail)
          refine hK.out _ _ (by exact (C.out.step hb).flat) (fun _ => ?_)
          clear hK K
          try simp only [Act.put, List.setIfInBounds_toArray, List.set_cons_zero, List.set_cons_succ]
          refine at_worldP (fun W => Hid (AnC 28 w W p o q r) ∧ Hid (VaB w W b5 pk0 pl0) ∧ Hid (VaB w W b6 pk0 pl0)) ⟨Lib.hid (C.out.step hb), Lib.hid (V5.out.step hb), Lib.hid (V6.out.step hb)⟩ ?_
          clear C V5 V6 hb
          rintro W ⟨C, V5, V6⟩
          refine wpAnyH_ready (rs := [3]) (by kernel_rfl) (by simp) ?_
          refine (AllReadyH.cons (o := ?oz56) ?hiz56 (fun K hK => ?stz56) AllReadyH.nil)
          case hiz56 => (simp only [List.getElem?_toArray, List.getElem?_cons_succ, List.getElem?_cons_zero]; rfl)
          case stz56 =>
            go_simp
            go_at_call 9
            with_reducible refine (of15_any o r _ (H2.out.on C.out.bel) hnr2).mono ?_
            rintro e wy ⟨r4, rfl, -, hb⟩
            (try go_wp2_with fail)
            refine hK.out _ _ (by exact (C.out.step hb).flat) (fun _ => ?_)
            clear hK K
            try simp only [Act.put, List.setIfInBounds_toArray, List.set_cons_zero, List.set_cons_succ]
            refine at_worldP (fun W => Hid (AnC 28 w W p o q r) ∧ Hid (VaB w W b5 pk0 pl0) ∧ Hid (VaB w W b6 pk0 pl0)) ⟨Lib.hid (C.out.step hb), Lib.hid (V5.out.step hb), Lib.hid (V6.out.step hb)⟩ ?_
            clear C V5 V6 hb
            rintro W ⟨C, V5, V6⟩
            refine wpAnyH_ready (rs := [6]) (by kernel_rfl) (by simp) ?_
            refine AllReadyH.cons (o := ?oz57) ?hiz57 (fun K hK => ?stz57) AllReadyH.nil
            case hiz57 => (simp only [List.getElem?_toArray, List.getElem?_cons_succ, List.getElem?_cons_zero]; rfl)
            obtain ⟨e0, e1, e2, e3, e4, e5, e6, e7, e8, e9⟩ := V5.out.bx.free
            obtain ⟨d0, d1, d2, d3, d4, d5, d6, d7, d8, d9⟩ := V5.out.bx.all
            go_simp
            refine hK.out _ _ (by exact (C.out.put V5.out.gt p r3).flat) (fun _ => ?_)
            clear hK K e0 e1 e2 e3 e4 e5 e6 e7 e8 e9 d0 d1 d2 d3 d4 d5 d6 d7 d8 d9
            try simp only [Act.put, List.setIfInBounds_toArray, List.set_cons_zero, List.set_cons_succ]
            refine at_worldP (fun W => Hid (AnC 28 w W p o q r) ∧ Hid (VaB w W b5 p r3) ∧ Hid (VaB w W b6 pk0 pl0)) ⟨Lib.hid (C.out.put V5.out.gt p r3), Lib.hid (V5.out.put p r3), Lib.hid (V6.out.putO NE.out.symm p r3)⟩ ?_
            clear C V5 V6
            rintro W ⟨C, V5, V6⟩
            refine wpAnyH_ready (rs := [7]) (by kernel_rfl) (by simp) ?_
            refine AllReadyH.cons (o := ?oz58) ?hiz58 (fun K hK => ?stz58) AllReadyH.nil
            case hiz58 => (simp only [List.getElem?_toArray, List.getElem?_cons_succ, List.getElem?_cons_zero]; rfl)
            obtain ⟨e0, e1, e2, e3, e4, e5, e6, e7, e8, e9⟩ := V6.out.bx.free
            obtain ⟨d0, d1, d2, d3, d4, d5, d6, d7, d8, d9⟩ := V6.out.bx.all
            go_simp
            refine hK.out _ _ (by exact (C.out.put V6.out.gt o r4).flat) (fun _ => ?_)
            clear hK K e0 e1 e2 e3 e4 e5 e6 e7 e8 e9 d0 d1 d2 d3 d4 d5 d6 d7 d8 d9
            try simp only [Act.put, List.setIfInBounds_toArray, List.set_cons_zero, List.set_cons_succ]
            refine at_worldP (fun W => Hid (AnC 28 w W p o q r) ∧ Hid (VaB w W b5 p r3) ∧ Hid (VaB w W b6 o r4)) ⟨Lib.hid (C.out.put V6.out.gt o r4), Lib.hid (V5.out.putO NE.out o r4), Lib.hid (V6.out.put o r4)⟩ ?_
            clear C V5 V6
            rintro W ⟨C, V5, V6⟩
            refine wpAnyH_done (by kernel_rfl) ?_ _
            (try go_wp2_with fail); go_meet
            exact ⟨b5, b6, r3, r4, rfl, rfl, C, V5, V6, NE⟩
  case rest =>
    obtain ⟨b5, b6, r3, r4, rfl, rfl, C, V5, V6, NE⟩ := hcut
    have Z := Lib.hid (show TuC w wc b5 b6 p o p o q r r3 r4 from ⟨C.out, V5.out, V6.out, NE.out⟩)
    have n5 : ¬ b5 = b6 := NE.out
    have n6 : ¬ b6 = b5 := NE.out.symm
    clear C V5 V6 NE
    obtain ⟨x0, x1, x2, x3, x4, x5, x6, x7, x8, x9⟩ := Z.out.v5.bx.all; obtain ⟨y0, y1, y2, y3, y4, y5, y6, y7, y8, y9⟩ := Z.out.v6.bx.all; obtain ⟨-, -, i1, -⟩ := Z.out.an.c1.all; obtain ⟨-, -, i2, -⟩ := Z.out.an.c2.all
    go_upto_region 6 with (first
      | (go_at_call 16; (with_reducible refine (chans_any p p r3 r3 _ _ (chans_self p)).mono ?_); rintro e wn ⟨rfl, hb⟩; replace Z := Lib.hid (Z.out.step hb); clear hb; clear x0 y0 x1 y1 x2 y2 x3 y3 x4 y4 x5 y5 x6 y6 x7 y7 x8 y8 x9 y9 i1 i2; obtain ⟨x0, x1, x2, x3, x4, x5, x6, x7, x8, x9⟩ := Z.out.v5.bx.all; obtain ⟨y0, y1, y2, y3, y4, y5, y6, y7, y8, y9⟩ := Z.out.v6.bx.all; obtain ⟨-, -, i1, -⟩ := Z.out.an.c1.all; obtain ⟨-, -, i2, -⟩ := Z.out.an.c2.all)
      | (go_at_call 16; (with_reducible refine (chans_any p o r3 r4 _ _ HA.out).mono ?_); rintro e wn ⟨rfl, hb⟩; replace Z := Lib.hid (Z.out.step hb); clear hb; clear x0 y0 x1 y1 x2 y2 x3 y3 x4 y4 x5 y5 x6 y6 x7 y7 x8 y8 x9 y9 i1 i2; obtain ⟨x0, x1, x2, x3, x4, x5, x6, x7, x8, x9⟩ := Z.out.v5.bx.all; obtain ⟨y0, y1, y2, y3, y4, y5, y6, y7, y8, y9⟩ := Z.out.v6.bx.all; obtain ⟨-, -, i1, -⟩ := Z.out.an.c1.all; obtain ⟨-, -, i2, -⟩ := Z.out.an.c2.all))
    obtain ⟨e0, e1, e2, e3, e4, e5, e6, e7, e8, e9⟩ := Z.out.v5.bx.free; obtain ⟨f0, f1, f2, f3, f4, f5, f6, f7, f8, f9⟩ := Z.out.v6.bx.free
    go_upto_region 7 with fail
    refine at_worldP (fun W => Hid (TuC w W b5 b6 p o p p q r r3 r3)) (Lib.hid ⟨Z.out.an.put Z.out.v6.gt p r3, Z.out.v5.putO Z.out.ne p r3, Z.out.v6.put p r3, Z.out.ne⟩) ?_
    clear x0 y0 x1 y1 x2 y2 x3 y3 x4 y4 x5 y5 x6 y6 x7 y7 x8 y8 x9 y9 i1 i2 e0 f0 e1 f1 e2 f2 e3 f3 e4 f4 e5 f5 e6 f6 e7 f7 e8 f8 e9 f9
    clear Z
    rintro W Z
    obtain ⟨x0, x1, x2, x3, x4, x5, x6, x7, x8, x9⟩ := Z.out.v5.bx.all; obtain ⟨y0, y1, y2, y3, y4, y5, y6, y7, y8, y9⟩ := Z.out.v6.bx.all; obtain ⟨-, -, i1, -⟩ := Z.out.an.c1.all; obtain ⟨-, -, i2, -⟩ := Z.out.an.c2.all
    obtain ⟨e0, e1, e2, e3, e4, e5, e6, e7, e8, e9⟩ := Z.out.v5.bx.free; obtain ⟨f0, f1, f2, f3, f4, f5, f6, f7, f8, f9⟩ := Z.out.v6.bx.free
    go_upto_region 8 with fail
    refine at_worldP (fun W => Hid (TuC w W b5 b6 p o { p with code := 2 } { p with code := 1 } q r r3 r3)) (Lib.hid ⟨(Z.out.an.set Z.out.v6.gt _ _).set Z.out.v5.gt _ _, (Z.out.v5.other Z.out.ne _ _).code 2, (Z.out.v6.code 1).other Z.out.ne.symm _ _, Z.out.ne⟩) ?_
    clear x0 y0 x1 y1 x2 y2 x3 y3 x4 y4 x5 y5 x6 y6 x7 y7 x8 y8 x9 y9 i1 i2 e0 f0 e1 f1 e2 f2 e3 f3 e4 f4 e5 f5 e6 f6 e7 f7 e8 f8 e9 f9
    clear Z
    rintro W Z
    obtain ⟨x0, x1, x2, x3, x4, x5, x6, x7, x8, x9⟩ := Z.out.v5.bx.all; obtain ⟨y0, y1, y2, y3, y4, y5, y6, y7, y8, y9⟩ := Z.out.v6.bx.all; obtain ⟨-, -, i1, -⟩ := Z.out.an.c1.all; obtain ⟨-, -, i2, -⟩ := Z.out.an.c2.all
    obtain ⟨e0, e1, e2, e3, e4, e5, e6, e7, e8, e9⟩ := Z.out.v5.bx.free; obtain ⟨f0, f1, f2, f3, f4, f5, f6, f7, f8, f9⟩ := Z.out.v6.bx.free
    go_upto_region 9 with fail
    refine at_worldP (fun W => Hid (TuC w W b5 b6 p o { p with code := 2, proto := 49699 } { p with code := 1, proto := 49699 } q r r3 r3)) (Lib.hid ⟨(Z.out.an.set Z.out.v5.gt _ _).set Z.out.v6.gt _ _, (Z.out.v5.proto 49699).other Z.out.ne _ _, (Z.out.v6.other Z.out.ne.symm _ _).proto 49699, Z.out.ne⟩) ?_
    clear x0 y0 x1 y1 x2 y2 x3 y3 x4 y4 x5 y5 x6 y6 x7 y7 x8 y8 x9 y9 i1 i2 e0 f0 e1 f1 e2 f2 e3 f3 e4 f4 e5 f5 e6 f6 e7 f7 e8 f8 e9 f9
    clear Z
    rintro W Z
    obtain ⟨x0, x1, x2, x3, x4, x5, x6, x7, x8, x9⟩ := Z.out.v5.bx.all; obtain ⟨y0, y1, y2, y3, y4, y5, y6, y7, y8, y9⟩ := Z.out.v6.bx.all; obtain ⟨-, -, i1, -⟩ := Z.out.an.c1.all; obtain ⟨-, -, i2, -⟩ := Z.out.an.c2.all
    go_wp2_with (first
      | (go_at_call 16; (with_reducible refine (chans_lit p r3 _).mono ?_); rintro e wn ⟨rfl, hb⟩; replace Z := Lib.hid (Z.out.step hb); clear hb; clear x0 y0 x1 y1 x2 y2 x3 y3 x4 y4 x5 y5 x6 y6 x7 y7 x8 y8 x9 y9 i1 i2))
    go_ret
    exact ⟨rfl, Z.out.an.bel⟩

set_option maxRecDepth 4000 in
set_option maxHeartbeats 40000000 in
theorem chturn_yes (p : Pk) (q : Pl) (o : Pk) (r : Pl) (w : World) (h : IsPk w p q) (h' : IsPk w o r) (hf : fewP p = true) (hf2 : fewP o = true) (ha : chansB p o = true) :
    Calls Try.prog 5 #[p.val q, o.val r] w fun e w' => e = .returned (.bool true) ∧ Below w.heap.size w w' := by
  have C := Lib.hid (AnC.made 28 w p o q r)
  have H := Lib.hid h.pw
  have hno := h.no
  have HD := Lib.hid h.od
  have H2 := Lib.hid h'.pw
  have hnr := h'.no
  have HD2 := Lib.hid h'.od
  have HF := Lib.hid hf
  have HF2 := Lib.hid hf2
  have hno2 : q.no ≤ 1073741824 := by rw [← h.pw.lo]; exact (fewP_sm hf).o
  have hnr2 : r.no ≤ 1073741824 := by rw [← h'.pw.lo]; exact (fewP_sm hf2).o
  have HA := Lib.hid ha
  have HT := Lib.hid (chans_turn ha).1
  have jid : ((p.id : Int) != (o.id : Int)) = false := by rw [(chans_turn ha).2]; simp
  clear hf hf2 h h' ha
  go_enter Try.func5, Try.ntmps5
  go_upto_region 3 with (first
    | (go_at_call 6; (with_reducible refine (speaks18 _).mono ?_); rintro e wn ⟨rfl, hb⟩; replace C := Lib.hid (C.out.step hb); clear hb; (try clear x0 x1 x2 x3 x4 x5 x6 x7 x8 x9 y0 y1 y2 y3 y4 y5 y6 y7 y8 y9); obtain ⟨x0, x1, x2, x3, x4, x5, x6, x7, x8, x9⟩ := C.out.c1.all; obtain ⟨y0, y1, y2, y3, y4, y5, y6, y7, y8, y9⟩ := C.out.c2.all)
    | (go_at_call 7; (with_reducible refine (few15_any p q _ (H.out.on C.out.bel) hno HD.out _ HF.out).mono ?_); rintro e wn ⟨rfl, hb⟩; replace C := Lib.hid (C.out.step hb); clear hb; (try clear x0 x1 x2 x3 x4 x5 x6 x7 x8 x9 y0 y1 y2 y3 y4 y5 y6 y7 y8 y9); obtain ⟨x0, x1, x2, x3, x4, x5, x6, x7, x8, x9⟩ := C.out.c1.all; obtain ⟨y0, y1, y2, y3, y4, y5, y6, y7, y8, y9⟩ := C.out.c2.all)
    | (go_at_call 7; (with_reducible refine (few15_any o r _ (H2.out.on C.out.bel) hnr HD2.out _ HF2.out).mono ?_); rintro e wn ⟨rfl, hb⟩; replace C := Lib.hid (C.out.step hb); clear hb; (try clear x0 x1 x2 x3 x4 x5 x6 x7 x8 x9 y0 y1 y2 y3 y4 y5 y6 y7 y8 y9); obtain ⟨x0, x1, x2, x3, x4, x5, x6, x7, x8, x9⟩ := C.out.c1.all; obtain ⟨y0, y1, y2, y3, y4, y5, y6, y7, y8, y9⟩ := C.out.c2.all))
  clear x0 x1 x2 x3 x4 x5 x6 x7 x8 x9 y0 y1 y2 y3 y4 y5 y6 y7 y8 y9
  go_cut [5, 6] from 20 to 24 (fun s5 s6 wx => ∃ b5 b6 r3 r4, s5 = .pointer (some ⟨b5, 0, none⟩) ∧ s6 = .pointer (some ⟨b6, 0, none⟩) ∧ Hid (AnC 28 w wx p o q r) ∧ Hid (VaB w wx b5 p r3) ∧ Hid (VaB w wx b6 o r4) ∧ Hid (b5 ≠ b6))
  case first =>
    refine wp_region_held_drew (S := fun W => W.cell? ⟨w.heap.size, 0, none⟩ = some (.int .u16 (p.proto : Int)) ∧ W.cell? ⟨w.heap.size, 1, none⟩ = some (.int .u8 (p.code : Int)) ∧ W.cell? ⟨w.heap.size, 2, none⟩ = some (.int .u8 (p.id : Int)) ∧ W.cell? ⟨w.heap.size, 3, none⟩ = some (.slice q.ao q.no q.co) ∧ W.cell? ⟨w.heap.size, 4, none⟩ = some (.int .u16 (p.sub : Int)) ∧ W.cell? ⟨w.heap.size, 5, none⟩ = some (.int .u32 (p.magic : Int)) ∧ W.cell? ⟨w.heap.size, 6, none⟩ = some (.slice q.a1 q.n1 q.c1) ∧ W.cell? ⟨w.heap.size, 7, none⟩ = some (.slice q.a2 q.n2 q.c2) ∧ W.cell? ⟨w.heap.size, 8, none⟩ = some (.slice q.ad q.nd q.cd) ∧ W.cell? ⟨w.heap.size, 9, none⟩ = some (.slice q.an q.nn q.cn) ∧ W.cell? ⟨(w.heap.size + 1), 0, none⟩ = some (.int .u16 (o.proto : Int)) ∧ W.cell? ⟨(w.heap.size + 1), 1, none⟩ = some (.int .u8 (o.code : Int)) ∧ W.cell? ⟨(w.heap.size + 1), 2, none⟩ = some (.int .u8 (o.id : Int)) ∧ W.cell? ⟨(w.heap.size + 1), 3, none⟩ = some (.slice r.ao r.no r.co) ∧ W.cell? ⟨(w.heap.size + 1), 4, none⟩ = some (.int .u16 (o.sub : Int)) ∧ W.cell? ⟨(w.heap.size + 1), 5, none⟩ = some (.int .u32 (o.magic : Int)) ∧ W.cell? ⟨(w.heap.size + 1), 6, none⟩ = some (.slice r.a1 r.n1 r.c1) ∧ W.cell? ⟨(w.heap.size + 1), 7, none⟩ = some (.slice r.a2 r.n2 r.c2) ∧ W.cell? ⟨(w.heap.size + 1), 8, none⟩ = some (.slice r.ad r.nd r.cd) ∧ W.cell? ⟨(w.heap.size + 1), 9, none⟩ = some (.slice r.an r.nn r.cn)) (by kernel_rfl) (by exact C.out.drew.flat) (fun _ => ?_)
    refine at_worldP (fun W => Hid (AnC 28 w W p o q r)) (Lib.hid C.out.drew) ?_
    clear C
    rintro W C
    refine wpAnyH_take (i := 0) (oi := ?ol0) (v := ?vl0) ?hil0 (by kernel_rfl) (by kernel_rfl) (by kernel_rfl) ?hql0 (Or.inl ⟨?hwl0, ?hyl0⟩) (by exact C.out.flat) ?restl0
    case hil0 => (simp only [List.getElem?_toArray, List.getElem?_cons_zero]; rfl)
    case hwl0 => (rfl)
    case hql0 => (exact fun _ _ _ h => h)
    case hyl0 => (intro w hSw; (try dsimp only at hSw); go_simp; (try with_reducible rfl))
    try simp only [Act.put, List.setIfInBounds_toArray, List.set_cons_zero, List.set_cons_succ]
    refine wpAnyH_take (i := 2) (oi := ?ol2) (v := ?vl2) ?hil2 (by kernel_rfl) (by kernel_rfl) (by kernel_rfl) ?hql2 (Or.inl ⟨?hwl2, ?hyl2⟩) (by exact C.out.flat) ?restl2
    case hil2 => (simp only [List.getElem?_toArray, List.getElem?_cons_succ, List.getElem?_cons_zero]; rfl)
    case hwl2 => (rfl)
    case hql2 => (exact fun _ _ _ h => h)
    case hyl2 => (intro w hSw; (try dsimp only at hSw); go_simp; (try with_reducible rfl))
    try simp only [Act.put, List.setIfInBounds_toArray, List.set_cons_zero, List.set_cons_succ]
    refine wpAnyH_ready (rs := [1, 4, 5]) (by kernel_rfl) (by simp) ?_
    refine (AllReadyH.cons (o := ?oz3) ?hiz3 (fun K hK => ?stz3) (AllReadyH.cons (o := ?oz2) ?hiz2 (fun K hK => ?stz2) (AllReadyH.cons (o := ?oz1) ?hiz1 (fun K hK => ?stz1) AllReadyH.nil)))
    case hiz3 => (simp only [List.getElem?_toArray, List.getElem?_cons_succ, List.getElem?_cons_zero]; rfl)
    case hiz2 => (simp only [List.getElem?_toArray, List.getElem?_cons_succ, List.getElem?_cons_zero]; rfl)
    case hiz1 => (simp only [List.getElem?_toArray, List.getElem?_cons_succ, List.getElem?_cons_zero]; rfl)
    case stz3 =>
      go_simp
      go_at_call 9
      with_reducible refine (of15_any p q _ (H.out.on C.out.bel) hno2).mono ?_
      rintro e wy ⟨r3, rfl, -, hb⟩
      (try go_wp2_with fail)
      refine hK.out _ _ (by exact (C.out.step hb).flat) (fun _ => ?_)
      clear hK K
      try simp only [Act.put, List.setIfInBounds_toArray, List.set_cons_zero, List.set_cons_succ]
      refine at_worldP (fun W => Hid (AnC 28 w W p o q r)) (Lib.hid (C.out.step hb)) ?_
      clear C hb
      rintro W C
      refine wpAnyH_ready (rs := [3, 4, 5]) (by kernel_rfl) (by simp) ?_
      refine (AllReadyH.cons (o := ?oz6) ?hiz6 (fun K hK => ?stz6) (AllReadyH.cons (o := ?oz5) ?hiz5 (fun K hK => ?stz5) (AllReadyH.cons (o := ?oz4) ?hiz4 (fun K hK => ?stz4) AllReadyH.nil)))
      case hiz6 => (simp only [List.getElem?_toArray, List.getElem?_cons_succ, List.getElem?_cons_zero]; rfl)
      case hiz5 => (simp only [List.getElem?_toArray, List.getElem?_cons_succ, List.getElem?_cons_zero]; rfl)
      case hiz4 => (simp only [List.getElem?_toArray, List.getElem?_cons_succ, List.getElem?_cons_zero]; rfl)
      case stz6 =>
        go_simp
        go_at_call 9
        with_reducible refine (of15_any o r _ (H2.out.on C.out.bel) hnr2).mono ?_
        rintro e wy ⟨r4, rfl, -, hb⟩
        (try go_wp2_with fail)
        refine hK.out _ _ (by exact (C.out.step hb).flat) (fun _ => ?_)
        clear hK K
        try simp only [Act.put, List.setIfInBounds_toArray, List.set_cons_zero, List.set_cons_succ]
        refine at_worldP (fun W => Hid (AnC 28 w W p o q r)) (Lib.hid (C.out.step hb)) ?_
        clear C hb
        rintro W C
        refine wpAnyH_ready (rs := [4, 5]) (by kernel_rfl) (by simp) ?_
        refine (AllReadyH.cons (o := ?oz8) ?hiz8 (fun K hK => ?stz8) (AllReadyH.cons (o := ?oz7) ?hiz7 (fun K hK => ?stz7) AllReadyH.nil))
        case hiz8 => (simp only [List.getElem?_toArray, List.getElem?_cons_succ, List.getElem?_cons_zero]; rfl)
        case hiz7 => (simp only [List.getElem?_toArray, List.getElem?_cons_succ, List.getElem?_cons_zero]; rfl)
        case stz8 =>
          go_simp
          refine hK.out _ _ (by exact (C.out.al _).flat) (fun _ => ?_)
          clear hK K
          try simp only [Act.put, List.setIfInBounds_toArray, List.set_cons_zero, List.set_cons_succ]
          obtain ⟨b5, hbb⟩ : ∃ b, b = W.heap.size := ⟨_, rfl⟩
          rw [← hbb]
          refine at_worldP (fun W => Hid (AnC 28 w W p o q r) ∧ Hid (VaB w W b5 pk0 pl0)) ⟨Lib.hid (C.out.al (obj0P 36)), Lib.hid (show VaB w _ b5 pk0 pl0 from hbb ▸ VaB.new C.out)⟩ ?_
          clear C hbb
          rintro W ⟨C, V5⟩
          refine wpAnyH_ready (rs := [5]) (by kernel_rfl) (by simp) ?_
          refine (AllReadyH.cons (o := ?oz9) ?hiz9 (fun K hK => ?stz9) AllReadyH.nil)
          case hiz9 => (simp only [List.getElem?_toArray, List.getElem?_cons_succ, List.getElem?_cons_zero]; rfl)
          case stz9 =>
            go_simp
            refine hK.out _ _ (by exact (C.out.al _).flat) (fun _ => ?_)
            clear hK K
            try simp only [Act.put, List.setIfInBounds_toArray, List.set_cons_zero, List.set_cons_succ]
            obtain ⟨b6, hbb⟩ : ∃ b, b = W.heap.size := ⟨_, rfl⟩
            rw [← hbb]
            have NE := Lib.hid (show b5 ≠ b6 from fun e => absurd V5.out.bx.lt (by rw [e, hbb]; exact Nat.lt_irrefl _))
            refine at_worldP (fun W => Hid (AnC 28 w W p o q r) ∧ Hid (VaB w W b5 pk0 pl0) ∧ Hid (VaB w W b6 pk0 pl0)) ⟨Lib.hid (C.out.al (obj0P 36)), Lib.hid (V5.out.al (obj0P 36)), Lib.hid (show VaB w _ b6 pk0 pl0 from hbb ▸ VaB.new C.out)⟩ ?_
            clear C V5 hbb
            rintro W ⟨C, V5, V6⟩
            refine wpAnyH_ready (rs := [6]) (by kernel_rfl) (by simp) ?_
            refine AllReadyH.cons (o := ?oz10) ?hiz10 (fun K hK => ?stz10) AllReadyH.nil
            case hiz10 => (simp only [List.getElem?_toArray, List.getElem?_cons_succ, List.getElem?_cons_zero]; rfl)
            obtain ⟨e0, e1, e2, e3, e4, e5, e6, e7, e8, e9⟩ := V5.out.bx.free
            obtain ⟨d0, d1, d2, d3, d4, d5, d6, d7, d8, d9⟩ := V5.out.bx.all
            go_simp
            refine hK.out _ _ (by exact (C.out.put V5.out.gt p r3).flat) (fun _ => ?_)
            clear hK K e0 e1 e2 e3 e4 e5 e6 e7 e8 e9 d0 d1 d2 d3 d4 d5 d6 d7 d8 d9
            try simp only [Act.put, List.setIfInBounds_toArray, List.set_cons_zero, List.set_cons_succ]
            refine at_worldP (fun W => Hid (AnC 28 w W p o q r) ∧ Hid (VaB w W b5 p r3) ∧ Hid (VaB w W b6 pk0 pl0)) ⟨Lib.hid (C.out.put V5.out.gt p r3), Lib.hid (V5.out.put p r3), Lib.hid (V6.out.putO NE.out.symm p r3)⟩ ?_
            clear C V5 V6
            rintro W ⟨C, V5, V6⟩
            refine wpAnyH_ready (rs := [7]) (by kernel_rfl) (by simp) ?_
            refine AllReadyH.cons (o := ?oz11) ?hiz11 (fun K hK => ?stz11) AllReadyH.nil
            case hiz11 => (simp only [List.getElem?_toArray, List.getElem?_cons_succ, List.getElem?_cons_zero]; rfl)
            obtain ⟨e0, e1, e2, e3, e4, e5, e6, e7, e8, e9⟩ := V6.out.bx.free
            obtain ⟨d0, d1, d2, d3, d4, d5, d6, d7, d8, d9⟩ := V6.out.bx.all
            go_simp
            refine hK.out _ _ (by exact (C.out.put V6.out.gt o r4).flat) (fun _ => ?_)
            clear hK K e0 e1 e2 e3 e4 e5 e6 e7 e8 e9 d0 d1 d2 d3 d4 d5 d6 d7 d8 d9
            try simp only [Act.put, List.setIfInBounds_toArray, List.set_cons_zero, List.set_cons_succ]
            refine at_worldP (fun W => Hid (AnC 28 w W p o q r) ∧ Hid (VaB w W b5 p r3) ∧ Hid (VaB w W b6 o r4)) ⟨Lib.hid (C.out.put V6.out.gt o r4), Lib.hid (V5.out.putO NE.out o r4), Lib.hid (V6.out.put o r4)⟩ ?_
            clear C V5 V6
            rintro W ⟨C, V5, V6⟩
            refine wpAnyH_done (by kernel_rfl) ?_ _
            (try go_wp2_with fail); go_meet
            exact ⟨b5, b6, r3, r4, rfl, rfl, C, V5, V6, NE⟩
        case stz7 =>
          go_simp
          refine hK.out _ _ (by exact (C.out.al _).flat) (fun _ => ?_)
          clear hK K
          try simp only [Act.put, List.setIfInBounds_toArray, List.set_cons_zero, List.set_cons_succ]
          obtain ⟨b6, hbb⟩ : ∃ b, b = W.heap.size := ⟨_, rfl⟩
          rw [← hbb]
          refine at_worldP (fun W => Hid (AnC 28 w W p o q r) ∧ Hid (VaB w W b6 pk0 pl0)) ⟨Lib.hid (C.out.al (obj0P 36)), Lib.hid (show VaB w _ b6 pk0 pl0 from hbb ▸ VaB.new C.out)⟩ ?_
          clear C hbb
          rintro W ⟨C, V6⟩
          refine wpAnyH_ready (rs := [4]) (by kernel_rfl) (by simp) ?_
          refine (AllReadyH.cons (o := ?oz12) ?hiz12 (fun K hK => ?stz12) AllReadyH.nil)
          case hiz12 => (simp only [List.getElem?_toArray, List.getElem?_cons_succ, List.getElem?_cons_zero]; rfl)
          case stz12 =>
            go_simp
            refine hK.out _ _ (by exact (C.out.al _).flat) (fun _ => ?_)
            clear hK K
            try simp only [Act.put, List.setIfInBounds_toArray, List.set_cons_zero, List.set_cons_succ]
            obtain ⟨b5, hbb⟩ : ∃ b, b = W.heap.size := ⟨_, rfl⟩
            rw [← hbb]
            have NE := Lib.hid (show b5 ≠ b6 from fun e => absurd V6.out.bx.lt (by rw [← e, hbb]; exact Nat.lt_irrefl _))
            refine at_worldP (fun W => Hid (AnC 28 w W p o q r) ∧ Hid (VaB w W b5 pk0 pl0) ∧ Hid (VaB w W b6 pk0 pl0)) ⟨Lib.hid (C.out.al (obj0P 36)), Lib.hid (show VaB w _ b5 pk0 pl0 from hbb ▸ VaB.new C.out), Lib.hid (V6.out.al (obj0P 36))⟩ ?_
            clear C V6 hbb
            rintro W ⟨C, V5, V6⟩
            refine wpAnyH_ready (rs := [6]) (by kernel_rfl) (by simp) ?_
            refine AllReadyH.cons (o := ?oz13) ?hiz13 (fun K hK => ?stz13) AllReadyH.nil
            case hiz13 => (simp only [List.getElem?_toArray, List.getElem?_cons_succ, List.getElem?_cons_zero]; rfl)
            obtain ⟨e0, e1, e2, e3, e4, e5, e6, e7, e8, e9⟩ := V5.out.bx.free
            obtain ⟨d0, d1, d2, d3, d4, d5, d6, d7, d8, d9⟩ := V5.out.bx.all
            go_simp
            refine hK.out _ _ (by exact (C.out.put V5.out.gt p r3).flat) (fun _ => ?_)
            clear hK K e0 e1 e2 e3 e4 e5 e6 e7 e8 e9 d0 d1 d2 d3 d4 d5 d6 d7 d8 d9
            try simp only [Act.put, List.setIfInBounds_toArray, List.set_cons_zero, List.set_cons_succ]
            refine at_worldP (fun W => Hid (AnC 28 w W p o q r) ∧ Hid (VaB w W b5 p r3) ∧ Hid (VaB w W b6 pk0 pl0)) ⟨Lib.hid (C.out.put V5.out.gt p r3), Lib.hid (V5.out.put p r3), Lib.hid (V6.out.putO NE.out.symm p r3)⟩ ?_
            clear C V5 V6
            rintro W ⟨C, V5, V6⟩
            refine wpAnyH_ready (rs := [7]) (by kernel_rfl) (by simp) ?_
            refine AllReadyH.cons (o := ?oz14) ?hiz14 (fun K hK => ?stz14) AllReadyH.nil
            case hiz14 => (simp only [List.getElem?_toArray, List.getElem?_cons_succ, List.getElem?_cons_zero]; rfl)
            obtain ⟨e0, e1, e2, e3, e4, e5, e6, e7, e8, e9⟩ := V6.out.bx.free
            obtain ⟨d0, d1, d2, d3, d4, d5, d6, d7, d8, d9⟩ := V6.out.bx.all
            go_simp
            refine hK.out _ _ (by exact (C.out.put V6.out.gt o r4).flat) (fun _ => ?_)
            clear hK K e0 e1 e2 e3 e4 e5 e6 e7 e8 e9 d0 d1 d2 d3 d4 d5 d6 d7 d8 d9
            try simp only [Act.put, List.setIfInBounds_toArray, List.set_cons_zero, List.set_cons_succ]
            refine at_worldP (fun W => Hid (AnC 28 w W p o q r) ∧ Hid (VaB w W b5 p r3) ∧ Hid (VaB w W b6 o r4)) ⟨Lib.hid (C.out.put V6.out.gt o r4), Lib.hid (V5.out.putO NE.out o r4), Lib.hid (V6.out.put o r4)⟩ ?_
            clear C V5 V6
            rintro W ⟨C, V5, V6⟩
            refine wpAnyH_done (by kernel_rfl) ?_ _
            (try go_wp2_with fail); go_meet
            exact ⟨b5, b6, r3, r4, rfl, rfl, C, V5, V6, NE⟩
      case stz5 =>
        go_simp
        refine hK.out _ _ (by exact (C.out.al _).flat) (fun _ => ?_)
        clear hK K
        try simp only [Act.put, List.setIfInBounds_toArray, List.set_cons_zero, List.set_cons_succ]
        obtain ⟨b5, hbb⟩ : ∃ b, b = W.heap.size := ⟨_, rfl⟩
        rw [← hbb]
        refine at_worldP (fun W => Hid (AnC 28 w W p o q r) ∧ Hid (VaB w W b5 pk0 pl0)) ⟨Lib.hid (C.out.al (obj0P 36)), Lib.hid (show VaB w _ b5 pk0 pl0 from hbb ▸ VaB.new C.out)⟩ ?_
        clear C hbb
        rintro W ⟨C, V5⟩
        refine wpAnyH_ready (rs := [3, 5]) (by kernel_rfl) (by simp) ?_
        refine (AllReadyH.cons (o := ?oz16) ?hiz16 (fun K hK => ?stz16) (AllReadyH.cons (o := ?oz15) ?hiz15 (fun K hK => ?stz15) AllReadyH.nil))
        case hiz16 => (simp only [List.getElem?_toArray, List.getElem?_cons_succ, List.getElem?_cons_zero]; rfl)
        case hiz15 => (simp only [List.getElem?_toArray, List.getElem?_cons_succ, List.getElem?_cons_zero]; rfl)
        case stz16 =>
          go_simp
          go_at_call 9
          with_reducible refine (of15_any o r _ (H2.out.on C.out.bel) hnr2).mono ?_
          rintro e wy ⟨r4, rfl, -, hb⟩
          (try go_wp2_with fail)
          refine hK.out _ _ (by exact (C.out.step hb).flat) (fun _ => ?_)
          clear hK K
          try simp only [Act.put, List.setIfInBounds_toArray, List.set_cons_zero, List.set_cons_succ]
          refine at_worldP (fun W => Hid (AnC 28 w W p o q r) ∧ Hid (VaB w W b5 pk0 pl0)) ⟨Lib.hid (C.out.step hb), Lib.hid (V5.out.step hb)⟩ ?_
          clear C V5 hb
          rintro W ⟨C, V5⟩
          refine wpAnyH_ready (rs := [5]) (by kernel_rfl) (by simp) ?_
          refine (AllReadyH.cons (o := ?oz17) ?hiz17 (fun K hK => ?stz17) AllReadyH.nil)
          case hiz17 => (simp only [List.getElem?_toArray, List.getElem?_cons_succ, List.getElem?_cons_zero]; rfl)
          case stz17 =>
            go_simp
            refine hK.out _ _ (by exact (C.out.al _).flat) (fun _ => ?_)
            clear hK K
            try simp only [Act.put, List.setIfInBounds_toArray, List.set_cons_zero, List.set_cons_succ]
            obtain ⟨b6, hbb⟩ : ∃ b, b = W.heap.size := ⟨_, rfl⟩
            rw [← hbb]
            have NE := Lib.hid (show b5 ≠ b6 from fun e => absurd V5.out.bx.lt (by rw [e, hbb]; exact Nat.lt_irrefl _))
            refine at_worldP (fun W => Hid (AnC 28 w W p o q r) ∧ Hid (VaB w W b5 pk0 pl0) ∧ Hid (VaB w W b6 pk0 pl0)) ⟨Lib.hid (C.out.al (obj0P 36)), Lib.hid (V5.out.al (obj0P 36)), Lib.hid (show VaB w _ b6 pk0 pl0 from hbb ▸ VaB.new C.out)⟩ ?_
            clear C V5 hbb
            rintro W ⟨C, V5, V6⟩
            refine wpAnyH_ready (rs := [6]) (by kernel_rfl) (by simp) ?_
            refine AllReadyH.cons (o := ?oz18) ?hiz18 (fun K hK => ?stz18) AllReadyH.nil
            case hiz18 => (simp only [List.getElem?_toArray, List.getElem?_cons_succ, List.getElem?_cons_zero]; rfl)
            obtain ⟨e0, e1, e2, e3, e4, e5, e6, e7, e8, e9⟩ := V5.out.bx.free
            obtain ⟨d0, d1, d2, d3, d4, d5, d6, d7, d8, d9⟩ := V5.out.bx.all
            go_simp
            refine hK.out _ _ (by exact (C.out.put V5.out.gt p r3).flat) (fun _ => ?_)
            clear hK K e0 e1 e2 e3 e4 e5 e6 e7 e8 e9 d0 d1 d2 d3 d4 d5 d6 d7 d8 d9
            try simp only [Act.put, List.setIfInBounds_toArray, List.set_cons_zero, List.set_cons_succ]
            refine at_worldP (fun W => Hid (AnC 28 w W p o q r) ∧ Hid (VaB w W b5 p r3) ∧ Hid (VaB w W b6 pk0 pl0)) ⟨Lib.hid (C.out.put V5.out.gt p r3), Lib.hid (V5.out.put p r3), Lib.hid (V6.out.putO NE.out.symm p r3)⟩ ?_
            clear C V5 V6
            rintro W ⟨C, V5, V6⟩
            refine wpAnyH_ready (rs := [7]) (by kernel_rfl) (by simp) ?_
            refine AllReadyH.cons (o := ?oz19) ?hiz19 (fun K hK => ?stz19) AllReadyH.nil
            case hiz19 => (simp only [List.getElem?_toArray, List.getElem?_cons_succ, List.getElem?_cons_zero]; rfl)
            obtain ⟨e0, e1, e2, e3, e4, e5, e6, e7, e8, e9⟩ := V6.out.bx.free
            obtain ⟨d0, d1, d2, d3, d4, d5, d6, d7, d8, d9⟩ := V6.out.bx.all
            go_simp
            refine hK.out _ _ (by exact (C.out.put V6.out.gt o r4).flat) (fun _ => ?_)
            clear hK K e0 e1 e2 e3 e4 e5 e6 e7 e8 e9 d0 d1 d2 d3 d4 d5 d6 d7 d8 d9
            try simp only [Act.put, List.setIfInBounds_toArray, List.set_cons_zero, List.set_cons_succ]
            refine at_worldP (fun W => Hid (AnC 28 w W p o q r) ∧ Hid (VaB w W b5 p r3) ∧ Hid (VaB w W b6 o r4)) ⟨Lib.hid (C.out.put V6.out.gt o r4), Lib.hid (V5.out.putO NE.out o r4), Lib.hid (V6.out.put o r4)⟩ ?_
            clear C V5 V6
            rintro W ⟨C, V5, V6⟩
            refine wpAnyH_done (by kernel_rfl) ?_ _
            (try go_wp2_with fail); go_meet
            exact ⟨b5, b6, r3, r4, rfl, rfl, C, V5, V6, NE⟩
        case stz15 =>
          go_simp
          refine hK.out _ _ (by exact (C.out.al _).flat) (fun _ => ?_)
          clear hK K
          try simp only [Act.put, List.setIfInBounds_toArray, List.set_cons_zero, List.set_cons_succ]
          obtain ⟨b6, hbb⟩ : ∃ b, b = W.heap.size := ⟨_, rfl⟩
          rw [← hbb]
          have NE := Lib.hid (show b5 ≠ b6 from fun e => absurd V5.out.bx.lt (by rw [e, hbb]; exact Nat.lt_irrefl _))
          refine at_worldP (fun W => Hid (AnC 28 w W p o q r) ∧ Hid (VaB w W b5 pk0 pl0) ∧ Hid (VaB w W b6 pk0 pl0)) ⟨Lib.hid (C.out.al (obj0P 36)), Lib.hid (V5.out.al (obj0P 36)), Lib.hid (show VaB w _ b6 pk0 pl0 from hbb ▸ VaB.new C.out)⟩ ?_
          clear C V5 hbb
          rintro W ⟨C, V5, V6⟩
          refine wpAnyH_ready (rs := [3]) (by kernel_rfl) (by simp) ?_
          refine (AllReadyH.cons (o := ?oz20) ?hiz20 (fun K hK => ?stz20) AllReadyH.nil)
          case hiz20 => (simp only [List.getElem?_toArray, List.getElem?_cons_succ, List.getElem?_cons_zero]; rfl)
          case stz20 =>
            go_simp
            go_at_call 9
            with_reducible refine (of15_any o r _ (H2.out.on C.out.bel) hnr2).mono ?_
            rintro e wy ⟨r4, rfl, -, hb⟩
            (try go_wp2_with fail)
            refine hK.out _ _ (by exact (C.out.step hb).flat) (fun _ => ?_)
            clear hK K
            try simp only [Act.put, List.setIfInBounds_toArray, List.set_cons_zero, List.set_cons_succ]
            refine at_worldP (fun W => Hid (AnC 28 w W p o q r) ∧ Hid (VaB w W b5 pk0 pl0) ∧ Hid (VaB w W b6 pk0 pl0)) ⟨Lib.hid (C.out.step hb), Lib.hid (V5.out.step hb), Lib.hid (V6.out.step hb)⟩ ?_
            clear C V5 V6 hb
            rintro W ⟨C, V5, V6⟩
            refine wpAnyH_ready (rs := [6]) (by kernel_rfl) (by simp) ?_
            refine AllReadyH.cons (o := ?oz21) ?hiz21 (fun K hK => ?stz21) AllReadyH.nil
            case hiz21 => (simp only [List.getElem?_toArray, List.getElem?_cons_succ, List.getElem?_cons_zero]; rfl)
            obtain ⟨e0, e1, e2, e3, e4, e5, e6, e7, e8, e9⟩ := V5.out.bx.free
            obtain ⟨d0, d1, d2, d3, d4, d5, d6, d7, d8, d9⟩ := V5.out.bx.all
            go_simp
            refine hK.out _ _ (by exact (C.out.put V5.out.gt p r3).flat) (fun _ => ?_)
            clear hK K e0 e1 e2 e3 e4 e5 e6 e7 e8 e9 d0 d1 d2 d3 d4 d5 d6 d7 d8 d9
            try simp only [Act.put, List.setIfInBounds_toArray, List.set_cons_zero, List.set_cons_succ]
            refine at_worldP (fun W => Hid (AnC 28 w W p o q r) ∧ Hid (VaB w W b5 p r3) ∧ Hid (VaB w W b6 pk0 pl0)) ⟨Lib.hid (C.out.put V5.out.gt p r3), Lib.hid (V5.out.put p r3), Lib.hid (V6.out.putO NE.out.symm p r3)⟩ ?_
            clear C V5 V6
            rintro W ⟨C, V5, V6⟩
            refine wpAnyH_ready (rs := [7]) (by kernel_rfl) (by simp) ?_
            refine AllReadyH.cons (o := ?oz22) ?hiz22 (fun K hK => ?stz22) AllReadyH.nil
            case hiz22 => (simp only [List.getElem?_toArray, List.getElem?_cons_succ, List.getElem?_cons_zero]; rfl)
            obtain ⟨e0, e1, e2, e3, e4, e5, e6, e7, e8, e9⟩ := V6.out.bx.free
            obtain ⟨d0, d1, d2, d3, d4, d5, d6, d7, d8, d9⟩ := V6.out.bx.all
            go_simp
            refine hK.out _ _ (by exact (C.out.put V6.out.gt o r4).flat) (fun _ => ?_)
            clear hK K e0 e1 e2 e3 e4 e5 e6 e7 e8 e9 d0 d1 d2 d3 d4 d5 d6 d7 d8 d9
            try simp only [Act.put, List.setIfInBounds_toArray, List.set_cons_zero, List.set_cons_succ]
            refine at_worldP (fun W => Hid (AnC 28 w W p o q r) ∧ Hid (VaB w W b5 p r3) ∧ Hid (VaB w W b6 o r4)) ⟨Lib.hid (C.out.put V6.out.gt o r4), Lib.hid (V5.out.putO NE.out o r4), Lib.hid (V6.out.put o r4)⟩ ?_
            clear C V5 V6
            rintro W ⟨C, V5, V6⟩
            refine wpAnyH_done (by kernel_rfl) ?_ _
            (try go_wp2_with fail); go_meet
            exact ⟨b5, b6, r3, r4, rfl, rfl, C, V5, V6, NE⟩
      case stz4 =>
        go_simp
        refine hK.out _ _ (by exact (C.out.al _).flat) (fun _ => ?_)
        clear hK K
        try simp only [Act.put, List.setIfInBounds_toArray, List.set_cons_zero, List.set_cons_succ]
        obtain ⟨b6, hbb⟩ : ∃ b, b = W.heap.size := ⟨_, rfl⟩
        rw [← hbb]
        refine at_worldP (fun W => Hid (AnC 28 w W p o q r) ∧ Hid (VaB w W b6 pk0 pl0)) ⟨Lib.hid (C.out.al (obj0P 36)), Lib.hid (show VaB w _ b6 pk0 pl0 from hbb ▸ VaB.new C.out)⟩ ?_
        clear C hbb
        rintro W ⟨C, V6⟩
        refine wpAnyH_ready (rs := [3, 4]) (by kernel_rfl) (by simp) ?_
        refine (AllReadyH.cons (o := ?oz24) ?hiz24 (fun K hK => ?stz24) (AllReadyH.cons (o := ?oz23) ?hiz23 (fun K hK => ?stz23) AllReadyH.nil))
        case hiz24 => (simp only [List.getElem?_toArray, List.getElem?_cons_succ, List.getElem?_cons_zero]; rfl)
        case hiz23 => (simp only [List.getElem?_toArray, List.getElem?_cons_succ, List.getElem?_cons_zero]; rfl)
        case stz24 =>
          go_simp
          go_at_call 9
          with_reducible refine (of15_any o r _ (H2.out.on C.out.bel) hnr2).mono ?_
          rintro e wy ⟨r4, rfl, -, hb⟩
          (try go_wp2_with fail)
          refine hK.out _ _ (by exact (C.out.step hb).flat) (fun _ => ?_)
          clear hK K
          try simp only [Act.put, List.setIfInBounds_toArray, List.set_cons_zero, List.set_cons_succ]
          refine at_worldP (fun W => Hid (AnC 28 w W p o q r) ∧ Hid (VaB w W b6 pk0 pl0)) ⟨Lib.hid (C.out.step hb), Lib.hid (V6.out.step hb)⟩ ?_
          clear C V6 hb
          rintro W ⟨C, V6⟩
          refine wpAnyH_ready (rs := [4]) (by kernel_rfl) (by simp) ?_
          refine (AllReadyH.cons (o := ?oz25) ?hiz25 (fun K hK => ?stz25) AllReadyH.nil)
          case hiz25 => (simp only [List.getElem?_toArray, List.getElem?_cons_succ, List.getElem?_cons_zero]; rfl)
          case stz25 =>
            go_simp
            refine hK.out _ _ (by exact (C.out.al _).flat) (fun _ => ?_)
            clear hK K
            try simp only [Act.put, List.setIfInBounds_toArray, List.set_cons_zero, List.set_cons_succ]
            obtain ⟨b5, hbb⟩ : ∃ b, b = W.heap.size := ⟨_, rfl⟩
            rw [← hbb]
            have NE := Lib.hid (show b5 ≠ b6 from fun e => absurd V6.out.bx.lt (by rw [← e, hbb]; exact Nat.lt_irrefl _))
            refine at_worldP (fun W => Hid (AnC 28 w W p o q r) ∧ Hid (VaB w W b5 pk0 pl0) ∧ Hid (VaB w W b6 pk0 pl0)) ⟨Lib.hid (C.out.al (obj0P 36)), Lib.hid (show VaB w _ b5 pk0 pl0 from hbb ▸ VaB.new C.out), Lib.hid (V6.out.al (obj0P 36))⟩ ?_
            clear C V6 hbb
            rintro W ⟨C, V5, V6⟩
            refine wpAnyH_ready (rs := [6]) (by kernel_rfl) (by simp) ?_
            refine AllReadyH.cons (o := ?oz26) ?hiz26 (fun K hK => ?stz26) AllReadyH.nil
            case hiz26 => (simp only [List.getElem?_toArray, List.getElem?_cons_succ, List.getElem?_cons_zero]; rfl)
            obtain ⟨e0, e1, e2, e3, e4, e5, e6, e7, e8, e9⟩ := V5.out.bx.free
            obtain ⟨d0, d1, d2, d3, d4, d5, d6, d7, d8, d9⟩ := V5.out.bx.all
            go_simp
            refine hK.out _ _ (by exact (C.out.put V5.out.gt p r3).flat) (fun _ => ?_)
            clear hK K e0 e1 e2 e3 e4 e5 e6 e7 e8 e9 d0 d1 d2 d3 d4 d5 d6 d7 d8 d9
            try simp only [Act.put, List.setIfInBounds_toArray, List.set_cons_zero, List.set_cons_succ]
            refine at_worldP (fun W => Hid (AnC 28 w W p o q r) ∧ Hid (VaB w W b5 p r3) ∧ Hid (VaB w W b6 pk0 pl0)) ⟨Lib.hid (C.out.put V5.out.gt p r3), Lib.hid (V5.out.put p r3), Lib.hid (V6.out.putO NE.out.symm p r3)⟩ ?_
            clear C V5 V6
            rintro W ⟨C, V5, V6⟩
            refine wpAnyH_ready (rs := [7]) (by kernel_rfl) (by simp) ?_
            refine AllReadyH.cons (o := ?oz27) ?hiz27 (fun K hK => ?stz27) AllReadyH.nil
            case hiz27 => (simp only [List.getElem?_toArray, List.getElem?_cons_succ, List.getElem?_cons_zero]; rfl)
            obtain ⟨e0, e1, e2, e3, e4, e5, e6, e7, e8, e9⟩ := V6.out.bx.free
            obtain ⟨d0, d1, d2, d3, d4, d5, d6, d7, d8, d9⟩ := V6.out.bx.all
            go_simp
            refine hK.out _ _ (by exact (C.out.put V6.out.gt o r4).flat) (fun _ => ?_)
            clear hK K e0 e1 e2 e3 e4 e5 e6 e7 e8 e9 d0 d1 d2 d3 d4 d5 d6 d7 d8 d9
            try simp only [Act.put, List.setIfInBounds_toArray, List.set_cons_zero, List.set_cons_succ]
            refine at_worldP (fun W => Hid (AnC 28 w W p o q r) ∧ Hid (VaB w W b5 p r3) ∧ Hid (VaB w W b6 o r4)) ⟨Lib.hid (C.out.put V6.out.gt o r4), Lib.hid (V5.out.putO NE.out o r4), Lib.hid (V6.out.put o r4)⟩ ?_
            clear C V5 V6
            rintro W ⟨C, V5, V6⟩
            refine wpAnyH_done (by kernel_rfl) ?_ _
            (try go_wp2_with fail); go_meet
            exact ⟨b5, b6, r3, r4, rfl, rfl, C, V5, V6, NE⟩
        case stz23 =>
          go_simp
          refine hK.out _ _ (by exact (C.out.al _).flat) (fun _ => ?_)
          clear hK K
          try simp only [Act.put, List.setIfInBounds_toArray, List.set_cons_zero, List.set_cons_succ]
          obtain ⟨b5, hbb⟩ : ∃ b, b = W.heap.size := ⟨_, rfl⟩
          rw [← hbb]
          have NE := Lib.hid (show b5 ≠ b6 from fun e => absurd V6.out.bx.lt (by rw [← e, hbb]; exact Nat.lt_irrefl _))
          refine at_worldP (fun W => Hid (AnC 28 w W p o q r) ∧ Hid (VaB w W b5 pk0 pl0) ∧ Hid (VaB w W b6 pk0 pl0)) ⟨Lib.hid (C.out.al (obj0P 36)), Lib.hid (show VaB w _ b5 pk0 pl0 from hbb ▸ VaB.new C.out), Lib.hid (V6.out.al (obj0P 36))⟩ ?_
          clear C V6 hbb
          rintro W ⟨C, V5, V6⟩
          refine wpAnyH_ready (rs := [3]) (by kernel_rfl) (by simp) ?_
          refine (AllReadyH.cons (o := ?oz28) ?hiz28 (fun K hK => ?stz28) AllReadyH.nil)
          case hiz28 => (simp only [List.getElem?_toArray, List.getElem?_cons_succ, List.getElem?_cons_zero]; rfl)
          case stz28 =>
            go_simp
            go_at_call 9
            with_reducible refine (of15_any o r _ (H2.out.on C.out.bel) hnr2).mono ?_
            rintro e wy ⟨r4, rfl, -, hb⟩
            (try go_wp2_with fail)
            refine hK.out _ _ (by exact (C.out.step hb).flat) (fun _ => ?_)
            clear hK K
            try simp only [Act.put, List.setIfInBounds_toArray, List.set_cons_zero, List.set_cons_succ]
            refine at_worldP (fun W => Hid (AnC 28 w W p o q r) ∧ Hid (VaB w W b5 pk0 pl0) ∧ Hid (VaB w W b6 pk0 pl0)) ⟨Lib.hid (C.out.step hb), Lib.hid (V5.out.step hb), Lib.hid (V6.out.step hb)⟩ ?_
            clear C V5 V6 hb
            rintro W ⟨C, V5, V6⟩
            refine wpAnyH_ready (rs := [6]) (by kernel_rfl) (by simp) ?_
            refine AllReadyH.cons (o := ?oz29) ?hiz29 (fun K hK => ?stz29) AllReadyH.nil
            case hiz29 => (simp only [List.getElem?_toArray, List.getElem?_cons_succ, List.getElem?_cons_zero]; rfl)
            obtain ⟨e0, e1, e2, e3, e4, e5, e6, e7, e8, e9⟩ := V5.out.bx.free
            obtain ⟨d0, d1, d2, d3, d4, d5, d6, d7, d8, d9⟩ := V5.out.bx.all
            go_simp
            refine hK.out _ _ (by exact (C.out.put V5.out.gt p r3).flat) (fun _ => ?_)
            clear hK K e0 e1 e2 e3 e4 e5 e6 e7 e8 e9 d0 d1 d2 d3 d4 d5 d6 d7 d8 d9
            try simp only [Act.put, List.setIfInBounds_toArray, List.set_cons_zero, List.set_cons_succ]
            refine at_worldP (fun W => Hid (AnC 28 w W p o q r) ∧ Hid (VaB w W b5 p r3) ∧ Hid (VaB w W b6 pk0 pl0)) ⟨Lib.hid (C.out.put V5.out.gt p r3), Lib.hid (V5.out.put p r3), Lib.hid (V6.out.putO NE.out.symm p r3)⟩ ?_
            clear C V5 V6
            rintro W ⟨C, V5, V6⟩
            refine wpAnyH_ready (rs := [7]) (by kernel_rfl) (by simp) ?_
            refine AllReadyH.cons (o := ?oz30) ?hiz30 (fun K hK => ?stz30) AllReadyH.nil
            case hiz30 => (simp only [List.getElem?_toArray, List.getElem?_cons_succ, List.getElem?_cons_zero]; rfl)
            obtain ⟨e0, e1, e2, e3, e4, e5, e6, e7, e8, e9⟩ := V6.out.bx.free
            obtain ⟨d0, d1, d2, d3, d4, d5, d6, d7, d8, d9⟩ := V6.out.bx.all
            go_simp
            refine hK.out _ _ (by exact (C.out.put V6.out.gt o r4).flat) (fun _ => ?_)
            clear hK K e0 e1 e2 e3 e4 e5 e6 e7 e8 e9 d0 d1 d2 d3 d4 d5 d6 d7 d8 d9
            try simp only [Act.put, List.setIfInBounds_toArray, List.set_cons_zero, List.set_cons_succ]
            refine at_worldP (fun W => Hid (AnC 28 w W p o q r) ∧ Hid (VaB w W b5 p r3) ∧ Hid (VaB w W b6 o r4)) ⟨Lib.hid (C.out.put V6.out.gt o r4), Lib.hid (V5.out.putO NE.out o r4), Lib.hid (V6.out.put o r4)⟩ ?_
            clear C V5 V6
            rintro W ⟨C, V5, V6⟩
            refine wpAnyH_done (by kernel_rfl) ?_ _
            (try go_wp2_with fail); go_meet
            exact ⟨b5, b6, r3, r4, rfl, rfl, C, V5, V6, NE⟩
    case stz2 =>
      go_simp
      refine hK.out _ _ (by exact (C.out.al _).flat) (fun _ => ?_)
      clear hK K
      try simp only [Act.put, List.setIfInBounds_toArray, List.set_cons_zero, List.set_cons_succ]
      obtain ⟨b5, hbb⟩ : ∃ b, b = W.heap.size := ⟨_, rfl⟩
      rw [← hbb]
      refine at_worldP (fun W => Hid (AnC 28 w W p o q r) ∧ Hid (VaB w W b5 pk0 pl0)) ⟨Lib.hid (C.out.al (obj0P 36)), Lib.hid (show VaB w _ b5 pk0 pl0 from hbb ▸ VaB.new C.out)⟩ ?_
      clear C hbb
      rintro W ⟨C, V5⟩
      refine wpAnyH_ready (rs := [1, 5]) (by kernel_rfl) (by simp) ?_
      refine (AllReadyH.cons (o := ?oz32) ?hiz32 (fun K hK => ?stz32) (AllReadyH.cons (o := ?oz31) ?hiz31 (fun K hK => ?stz31) AllReadyH.nil))
      case hiz32 => (simp only [List.getElem?_toArray, List.getElem?_cons_succ, List.getElem?_cons_zero]; rfl)
      case hiz31 => (simp only [List.getElem?_toArray, List.getElem?_cons_succ, List.getElem?_cons_zero]; rfl)
      case stz32 =>
        go_simp
        go_at_call 9
        with_reducible refine (of15_any p q _ (H.out.on C.out.bel) hno2).mono ?_
        rintro e wy ⟨r3, rfl, -, hb⟩
        (try go_wp2_with fail)
        refine hK.out _ _ (by exact (C.out.step hb).flat) (fun _ => ?_)
        clear hK K
        try simp only [Act.put, List.setIfInBounds_toArray, List.set_cons_zero, List.set_cons_succ]
        refine at_worldP (fun W => Hid (AnC 28 w W p o q r) ∧ Hid (VaB w W b5 pk0 pl0)) ⟨Lib.hid (C.out.step hb), Lib.hid (V5.out.step hb)⟩ ?_
        clear C V5 hb
        rintro W ⟨C, V5⟩
        refine wpAnyH_ready (rs := [3, 5]) (by kernel_rfl) (by simp) ?_
        refine (AllReadyH.cons (o := ?oz34) ?hiz34 (fun K hK => ?stz34) (AllReadyH.cons (o := ?oz33) ?hiz33 (fun K hK => ?stz33) AllReadyH.nil))
        case hiz34 => (simp only [List.getElem?_toArray, List.getElem?_cons_succ, List.getElem?_cons_zero]; rfl)
        case hiz33 => (simp only [List.getElem?_toArray, List.getElem?_cons_succ, List.getElem?_cons_zero]; rfl)
        case stz34 =>
          go_simp
          go_at_call 9
          with_reducible refine (of15_any o r _ (H2.out.on C.out.bel) hnr2).mono ?_
          rintro e wy ⟨r4, rfl, -, hb⟩
          (try go_wp2_with fail)
          refine hK.out _ _ (by exact (C.out.step hb).flat) (fun _ => ?_)
          clear hK K
          try simp only [Act.put, List.setIfInBounds_toArray, List.set_cons_zero, List.set_cons_succ]
          refine at_worldP (fun W => Hid (AnC 28 w W p o q r) ∧ Hid (VaB w W b5 pk0 pl0)) ⟨Lib.hid (C.out.step hb), Lib.hid (V5.out.step hb)⟩ ?_
          clear C V5 hb
          rintro W ⟨C, V5⟩
          refine wpAnyH_ready (rs := [5]) (by kernel_rfl) (by simp) ?_
          refine (AllReadyH.cons (o := ?oz35) ?hiz35 (fun K hK => ?stz35) AllReadyH.nil)
          case hiz35 => (simp only [List.getElem?_toArray, List.getElem?_cons_succ, List.getElem?_cons_zero]; rfl)
          case stz35 =>
            go_simp
            refine hK.out _ _ (by exact (C.out.al _).flat) (fun _ => ?_)
            clear hK K
            try simp only [Act.put, List.setIfInBounds_toArray, List.set_cons_zero, List.set_cons_succ]
            obtain ⟨b6, hbb⟩ : ∃ b, b = W.heap.size := ⟨_, rfl⟩
            rw [← hbb]
            have NE := Lib.hid (show b5 ≠ b6 from fun e => absurd V5.out.bx.lt (by rw [e, hbb]; exact Nat.lt_irrefl _))
            refine at_worldP (fun W => Hid (AnC 28 w W p o q r) ∧ Hid (VaB w W b5 pk0 pl0) ∧ Hid (VaB w W b6 pk0 pl0)) ⟨Lib.hid (C.out.al (obj0P 36)), Lib.hid (V5.out.al (obj0P 36)), Lib.hid (show VaB w _ b6 pk0 pl0 from hbb ▸ VaB.new C.out)⟩ ?_
            clear C V5 hbb
            rintro W ⟨C, V5, V6⟩
            refine wpAnyH_ready (rs := [6]) (by kernel_rfl) (by simp) ?_
            refine AllReadyH.cons (o := ?oz36) ?hiz36 (fun K hK => ?stz36) AllReadyH.nil
            case hiz36 => (simp only [List.getElem?_toArray, List.getElem?_cons_succ, List.getElem?_cons_zero]; rfl)
            obtain ⟨e0, e1, e2, e3, e4, e5, e6, e7, e8, e9⟩ := V5.out.bx.free
            obtain ⟨d0, d1, d2, d3, d4, d5, d6, d7, d8, d9⟩ := V5.out.bx.all
            go_simp
            refine hK.out _ _ (by exact (C.out.put V5.out.gt p r3).flat) (fun _ => ?_)
            clear hK K e0 e1 e2 e3 e4 e5 e6 e7 e8 e9 d0 d1 d2 d3 d4 d5 d6 d7 d8 d9
            try simp only [Act.put, List.setIfInBounds_toArray, List.set_cons_zero, List.set_cons_succ]
            refine at_worldP (fun W => Hid (AnC 28 w W p o q r) ∧ Hid (VaB w W b5 p r3) ∧ Hid (VaB w W b6 pk0 pl0)) ⟨Lib.hid (C.out.put V5.out.gt p r3), Lib.hid (V5.out.put p r3), Lib.hid (V6.out.putO NE.out.symm p r3)⟩ ?_
            clear C V5 V6
            rintro W ⟨C, V5, V6⟩
            refine wpAnyH_ready (rs := [7]) (by kernel_rfl) (by simp) ?_
            refine AllReadyH.cons (o := ?oz37) ?hiz37 (fun K hK => ?stz37) AllReadyH.nil
            case hiz37 => (simp only [List.getElem?_toArray, List.getElem?_cons_succ, List.getElem?_cons_zero]; rfl)
            obtain ⟨e0, e1, e2, e3, e4, e5, e6, e7, e8, e9⟩ := V6.out.bx.free
            obtain ⟨d0, d1, d2, d3, d4, d5, d6, d7, d8, d9⟩ := V6.out.bx.all
            go_simp
            refine hK.out _ _ (by exact (C.out.put V6.out.gt o r4).flat) (fun _ => ?_)
            clear hK K e0 e1 e2 e3 e4 e5 e6 e7 e8 e9 d0 d1 d2 d3 d4 d5 d6 d7 d8 d9
            try simp only [Act.put, List.setIfInBounds_toArray, List.set_cons_zero, List.set_cons_succ]
            refine at_worldP (fun W => Hid (AnC 28 w W p o q r) ∧ Hid (VaB w W b5 p r3) ∧ Hid (VaB w W b6 o r4)) ⟨Lib.hid (C.out.put V6.out.gt o r4), Lib.hid (V5.out.putO NE.out o r4), Lib.hid (V6.out.put o r4)⟩ ?_
            clear C V5 V6
            rintro W ⟨C, V5, V6⟩
            refine wpAnyH_done (by kernel_rfl) ?_ _
            (try go_wp2_with fail); go_meet
            exact ⟨b5, b6, r3, r4, rfl, rfl, C, V5, V6, NE⟩
        case stz33 =>
          go_simp
          refine hK.out _ _ (by exact (C.out.al _).flat) (fun _ => ?_)
          clear hK K
          try simp only [Act.put, List.setIfInBounds_toArray, List.set_cons_zero, List.set_cons_succ]
          obtain ⟨b6, hbb⟩ : ∃ b, b = W.heap.size := ⟨_, rfl⟩
          rw [← hbb]
          have NE := Lib.hid (show b5 ≠ b6 from fun e => absurd V5.out.bx.lt (by rw [e, hbb]; exact Nat.lt_irrefl _))
          refine at_worldP (fun W => Hid (AnC 28 w W p o q r) ∧ Hid (VaB w W b5 pk0 pl0) ∧ Hid (VaB w W b6 pk0 pl0)) ⟨Lib.hid (C.out.al (obj0P 36)), Lib.hid (V5.out.al (obj0P 36)), Lib.hid (show VaB w _ b6 pk0 pl0 from hbb ▸ VaB.new C.out)⟩ ?_
          clear C V5 hbb
          rintro W ⟨C, V5, V6⟩
          refine wpAnyH_ready (rs := [3]) (by kernel_rfl) (by simp) ?_
          refine (AllReadyH.cons (o := ?oz38) ?hiz38 (fun K hK => ?stz38) AllReadyH.nil)
          case hiz38 => (simp only [List.getElem?_toArray, List.getElem?_cons_succ, List.getElem?_cons_zero]; rfl)
          case stz38 =>
            go_simp
            go_at_call 9
            with_reducible refine (of15_any o r _ (H2.out.on C.out.bel) hnr2).mono ?_
            rintro e wy ⟨r4, rfl, -, hb⟩
            (try go_wp2_with fail)
            refine hK.out _ _ (by exact (C.out.step hb).flat) (fun _ => ?_)
            clear hK K
            try simp only [Act.put, List.setIfInBounds_toArray, List.set_cons_zero, List.set_cons_succ]
            refine at_worldP (fun W => Hid (AnC 28 w W p o q r) ∧ Hid (VaB w W b5 pk0 pl0) ∧ Hid (VaB w W b6 pk0 pl0)) ⟨Lib.hid (C.out.step hb), Lib.hid (V5.out.step hb), Lib.hid (V6.out.step hb)⟩ ?_
            clear C V5 V6 hb
            rintro W ⟨C, V5, V6⟩
            refine wpAnyH_ready (rs := [6]) (by kernel_rfl) (by simp) ?_
            refine AllReadyH.cons (o := ?oz39) ?hiz39 (fun K hK => ?stz39) AllReadyH.nil
            case hiz39 => (simp only [List.getElem?_toArray, List.getElem?_cons_succ, List.getElem?_cons_zero]; rfl)
            obtain ⟨e0, e1, e2, e3, e4, e5, e6, e7, e8, e9⟩ := V5.out.bx.free
            obtain ⟨d0, d1, d2, d3, d4, d5, d6, d7, d8, d9⟩ := V5.out.bx.all
            go_simp
            refine hK.out _ _ (by exact (C.out.put V5.out.gt p r3).flat) (fun _ => ?_)
            clear hK K e0 e1 e2 e3 e4 e5 e6 e7 e8 e9 d0 d1 d2 d3 d4 d5 d6 d7 d8 d9
            try simp only [Act.put, List.setIfInBounds_toArray, List.set_cons_zero, List.set_cons_succ]
            refine at_worldP (fun W => Hid (AnC 28 w W p o q r) ∧ Hid (VaB w W b5 p r3) ∧ Hid (VaB w W b6 pk0 pl0)) ⟨Lib.hid (C.out.put V5.out.gt p r3), Lib.hid (V5.out.put p r3), Lib.hid (V6.out.putO NE.out.symm p r3)⟩ ?_
            clear C V5 V6
            rintro W ⟨C, V5, V6⟩
            refine wpAnyH_ready (rs := [7]) (by kernel_rfl) (by simp) ?_
            refine AllReadyH.cons (o := ?oz40) ?hiz40 (fun K hK => ?stz40) AllReadyH.nil
            case hiz40 => (simp only [List.getElem?_toArray, List.getElem?_cons_succ, List.getElem?_cons_zero]; rfl)
            obtain ⟨e0, e1, e2, e3, e4, e5, e6, e7, e8, e9⟩ := V6.out.bx.free
            obtain ⟨d0, d1, d2, d3, d4, d5, d6, d7, d8, d9⟩ := V6.out.bx.all
            go_simp
            refine hK.out _ _ (by exact (C.out.put V6.out.gt o r4).flat) (fun _ => ?_)
            clear hK K e0 e1 e2 e3 e4 e5 e6 e7 e8 e9 d0 d1 d2 d3 d4 d5 d6 d7 d8 d9
            try simp only [Act.put, List.setIfInBounds_toArray, List.set_cons_zero, List.set_cons_succ]
            refine at_worldP (fun W => Hid (AnC 28 w W p o q r) ∧ Hid (VaB w W b5 p r3) ∧ Hid (VaB w W b6 o r4)) ⟨Lib.hid (C.out.put V6.out.gt o r4), Lib.hid (V5.out.putO NE.out o r4), Lib.hid (V6.out.put o r4)⟩ ?_
            clear C V5 V6
            rintro W ⟨C, V5, V6⟩
            refine wpAnyH_done (by kernel_rfl) ?_ _
            (try go_wp2_with fail); go_meet
            exact ⟨b5, b6, r3, r4, rfl, rfl, C, V5, V6, NE⟩
      case stz31 =>
        go_simp
        refine hK.out _ _ (by exact (C.out.al _).flat) (fun _ => ?_)
        clear hK K
        try simp only [Act.put, List.setIfInBounds_toArray, List.set_cons_zero, List.set_cons_succ]
        obtain ⟨b6, hbb⟩ : ∃ b, b = W.heap.size := ⟨_, rfl⟩
        rw [← hbb]
        have NE := Lib.hid (show b5 ≠ b6 from fun e => absurd V5.out.bx.lt (by rw [e, hbb]; exact Nat.lt_irrefl _))
        refine at_worldP (fun W => Hid (AnC 28 w W p o q r) ∧ Hid (VaB w W b5 pk0 pl0) ∧ Hid (VaB w W b6 pk0 pl0)) ⟨Lib.hid (C.out.al (obj0P 36)), Lib.hid (V5.out.al (obj0P 36)), Lib.hid (show VaB w _ b6 pk0 pl0 from hbb ▸ VaB.new C.out)⟩ ?_
        clear C V5 hbb
        rintro W ⟨C, V5, V6⟩
        refine wpAnyH_ready (rs := [1]) (by kernel_rfl) (by simp) ?_
        refine (AllReadyH.cons (o := ?oz41) ?hiz41 (fun K hK => ?stz41) AllReadyH.nil)
        case hiz41 => (simp only [List.getElem?_toArray, List.getElem?_cons_succ, List.getElem?_cons_zero]; rfl)
        case stz41 =>
          go_simp
          go_at_call 9
          with_reducible refine (of15_any p q _ (H.out.on C.out.bel) hno2).mono ?_
          rintro e wy ⟨r3, rfl, -, hb⟩
          (try go_wp2_with fail)
          refine hK.out _ _ (by exact (C.out.step hb).flat) (fun _ => ?_)
          clear hK K
          try simp only [Act.put, List.setIfInBounds_toArray, List.set_cons_zero, List.set_cons_succ]
          refine at_worldP (fun W => Hid (AnC 28 w W p o q r) ∧ Hid (VaB w W b5 pk0 pl0) ∧ Hid (VaB w W b6 pk0 pl0)) ⟨Lib.hid (C.out.step hb), Lib.hid (V5.out.step hb), Lib.hid (V6.out.step hb)⟩ ?_
          clear C V5 V6 hb
          rintro W ⟨C, V5, V6⟩
          refine wpAnyH_ready (rs := [3]) (by kernel_rfl) (by simp) ?_
          refine (AllReadyH.cons (o := ?oz42) ?hiz42 (fun K hK => ?stz42) AllReadyH.nil)
          case hiz42 => (simp only [List.getElem?_toArray, List.getElem?_cons_succ, List.getElem?_cons_zero]; rfl)
          case stz42 =>
            go_simp
            go_at_call 9
            with_reducible refine (of15_any o r _ (H2.out.on C.out.bel) hnr2).mono ?_
            rintro e wy ⟨r4, rfl, -, hb⟩
            (try go_wp2_with fail)
            refine hK.out _ _ (by exact (C.out.step hb).flat) (fun _ => ?_)
            clear hK K
            try simp only [Act.put, List.setIfInBounds_toArray, List.set_cons_zero, List.set_cons_succ]
            refine at_worldP (fun W => Hid (AnC 28 w W p o q r) ∧ Hid (VaB w W b5 pk0 pl0) ∧ Hid (VaB w W b6 pk0 pl0)) ⟨Lib.hid (C.out.step hb), Lib.hid (V5.out.step hb), Lib.hid (V6.out.step hb)⟩ ?_
            clear C V5 V6 hb
            rintro W ⟨C, V5, V6⟩
            refine wpAnyH_ready (rs := [6]) (by kernel_rfl) (by simp) ?_
            refine AllReadyH.cons (o := ?oz43) ?hiz43 (fun K hK => ?stz43) AllReadyH.nil
            case hiz43 => (simp only [List.getElem?_toArray, List.getElem?_cons_succ, List.getElem?_cons_zero]; rfl)
            obtain ⟨e0, e1, e2, e3, e4, e5, e6, e7, e8, e9⟩ := V5.out.bx.free
            obtain ⟨d0, d1, d2, d3, d4, d5, d6, d7, d8, d9⟩ := V5.out.bx.all
            go_simp
            refine hK.out _ _ (by exact (C.out.put V5.out.gt p r3).flat) (fun _ => ?_)
            clear hK K e0 e1 e2 e3 e4 e5 e6 e7 e8 e9 d0 d1 d2 d3 d4 d5 d6 d7 d8 d9
            try simp only [Act.put, List.setIfInBounds_toArray, List.set_cons_zero, List.set_cons_succ]
            refine at_worldP (fun W => Hid (AnC 28 w W p o q r) ∧ Hid (VaB w W b5 p r3) ∧ Hid (VaB w W b6 pk0 pl0)) ⟨Lib.hid (C.out.put V5.out.gt p r3), Lib.hid (V5.out.put p r3), Lib.hid (V6.out.putO NE.out.symm p r3)⟩ ?_
            clear C V5 V6
            rintro W ⟨C, V5, V6⟩
            refine wpAnyH_ready (rs := [7]) (by kernel_rfl) (by simp) ?_
            refine AllReadyH.cons (o := ?oz44) ?hiz44 (fun K hK => ?stz44) AllReadyH.nil
            case hiz44 => (simp only [List.getElem?_toArray, List.getElem?_cons_succ, List.getElem?_cons_zero]; rfl)
            obtain ⟨e0, e1, e2, e3, e4, e5, e6, e7, e8, e9⟩ := V6.out.bx.free
            obtain ⟨d0, d1, d2, d3, d4, d5, d6, d7, d8, d9⟩ := V6.out.bx.all
            go_simp
            refine hK.out _ _ (by exact (C.out.put V6.out.gt o r4).flat) (fun _ => ?_)
            clear hK K e0 e1 e2 e3 e4 e5 e6 e7 e8 e9 d0 d1 d2 d3 d4 d5 d6 d7 d8 d9
            try simp only [Act.put, List.setIfInBounds_toArray, List.set_cons_zero, List.set_cons_succ]
            refine at_worldP (fun W => Hid (AnC 28 w W p o q r) ∧ Hid (VaB w W b5 p r3) ∧ Hid (VaB w W b6 o r4)) ⟨Lib.hid (C.out.put V6.out.gt o r4), Lib.hid (V5.out.putO NE.out o r4), Lib.hid (V6.out.put o r4)⟩ ?_
            clear C V5 V6
            rintro W ⟨C, V5, V6⟩
            refine wpAnyH_done (by kernel_rfl) ?_ _
            (try go_wp2_with fail); go_meet
            exact ⟨b5, b6, r3, r4, rfl, rfl, C, V5, V6, NE⟩
    case stz1 =>
      go_simp
      refine hK.out _ _ (by exact (C.out.al _).flat) (fun _ => ?_)
      clear hK K
      try simp only [Act.put, List.setIfInBounds_toArray, List.set_cons_zero, List.set_cons_succ]
      obtain ⟨b6, hbb⟩ : ∃ b, b = W.heap.size := ⟨_, rfl⟩
      rw [← hbb]
      refine at_worldP (fun W => Hid (AnC 28 w W p o q r) ∧ Hid (VaB w W b6 pk0 pl0)) ⟨Lib.hid (C.out.al (obj0P 36)), Lib.hid (show VaB w _ b6 pk0 pl0 from hbb ▸ VaB.new C.out)⟩ ?_
      clear C hbb
      rintro W ⟨C, V6⟩
      refine wpAnyH_ready (rs := [1, 4]) (by kernel_rfl) (by simp) ?_
      refine (AllReadyH.cons (o := ?oz46) ?hiz46 (fun K hK => ?stz46) (AllReadyH.cons (o := ?oz45) ?hiz45 (fun K hK => ?stz45) AllReadyH.nil))
      case hiz46 => (simp only [List.getElem?_toArray, List.getElem?_cons_succ, List.getElem?_cons_zero]; rfl)
      case hiz45 => (simp only [List.getElem?_toArray, List.getElem?_cons_succ, List.getElem?_cons_zero]; rfl)
      case stz46 =>
        go_simp
        go_at_call 9
        with_reducible refine (of15_any p q _ (H.out.on C.out.bel) hno2).mono ?_
        rintro e wy ⟨r3, rfl, -, hb⟩
        (try go_wp2_with fail)
        refine hK.out _ _ (by exact (C.out.step hb).flat) (fun _ => ?_)
        clear hK K
        try simp only [Act.put, List.setIfInBounds_toArray, List.set_cons_zero, List.set_cons_succ]
        refine at_worldP (fun W => Hid (AnC 28 w W p o q r) ∧ Hid (VaB w W b6 pk0 pl0)) ⟨Lib.hid (C.out.step hb), Lib.hid (V6.out.step hb)⟩ ?_
        clear C V6 hb
        rintro W ⟨C, V6⟩
        refine wpAnyH_ready (rs := [3, 4]) (by kernel_rfl) (by simp) ?_
        refine (AllReadyH.cons (o := ?oz48) ?hiz48 (fun K hK => ?stz48) (AllReadyH.cons (o := ?oz47) ?hiz47 (fun K hK => ?stz47) AllReadyH.nil))
        case hiz48 => (simp only [List.getElem?_toArray, List.getElem?_cons_succ, List.getElem?_cons_zero]; rfl)
        case hiz47 => (simp only [List.getElem?_toArray, List.getElem?_cons_succ, List.getElem?_cons_zero]; rfl)
        case stz48 =>
          go_simp
          go_at_call 9
          with_reducible refine (of15_any o r _ (H2.out.on C.out.bel) hnr2).mono ?_
          rintro e wy ⟨r4, rfl, -, hb⟩
          (try go_wp2_with fail)
          refine hK.out _ _ (by exact (C.out.step hb).flat) (fun _ => ?_)
          clear hK K
          try simp only [Act.put, List.setIfInBounds_toArray, List.set_cons_zero, List.set_cons_succ]
          refine at_worldP (fun W => Hid (AnC 28 w W p o q r) ∧ Hid (VaB w W b6 pk0 pl0)) ⟨Lib.hid (C.out.step hb), Lib.hid (V6.out.step hb)⟩ ?_
          clear C V6 hb
          rintro W ⟨C, V6⟩
          refine wpAnyH_ready (rs := [4]) (by kernel_rfl) (by simp) ?_
          refine (AllReadyH.cons (o := ?oz49) ?hiz49 (fun K hK => ?stz49) AllReadyH.nil)
          case hiz49 => (simp only [List.getElem?_toArray, List.getElem?_cons_succ, List.getElem?_cons_zero]; rfl)
          case stz49 =>
            go_simp
            refine hK.out _ _ (by exact (C.out.al _).flat) (fun _ => ?_)
            clear hK K
            try simp only [Act.put, List.setIfInBounds_toArray, List.set_cons_zero, List.set_cons_succ]
            obtain ⟨b5, hbb⟩ : ∃ b, b = W.heap.size := ⟨_, rfl⟩
            rw [← hbb]
            have NE := Lib.hid (show b5 ≠ b6 from fun e => absurd V6.out.bx.lt (by rw [← e, hbb]; exact Nat.lt_irrefl _))
            refine at_worldP (fun W => Hid (AnC 28 w W p o q r) ∧ Hid (VaB w W b5 pk0 pl0) ∧ Hid (VaB w W b6 pk0 pl0)) ⟨Lib.hid (C.out.al (obj0P 36)), Lib.hid (show VaB w _ b5 pk0 pl0 from hbb ▸ VaB.new C.out), Lib.hid (V6.out.al (obj0P 36))⟩ ?_
            clear C V6 hbb
            rintro W ⟨C, V5, V6⟩
            refine wpAnyH_ready (rs := [6]) (by kernel_rfl) (by simp) ?_
            refine AllReadyH.cons (o := ?oz50) ?hiz50 (fun K hK => ?stz50) AllReadyH.nil
            case hiz50 => (simp only [List.getElem?_toArray, List.getElem?_cons_succ, List.getElem?_cons_zero]; rfl)
            obtain ⟨e0, e1, e2, e3, e4, e5, e6, e7, e8, e9⟩ := V5.out.bx.free
            obtain ⟨d0, d1, d2, d3, d4, d5, d6, d7, d8, d9⟩ := V5.out.bx.all
            go_simp
            refine hK.out _ _ (by exact (C.out.put V5.out.gt p r3).flat) (fun _ => ?_)
            clear hK K e0 e1 e2 e3 e4 e5 e6 e7 e8 e9 d0 d1 d2 d3 d4 d5 d6 d7 d8 d9
            try simp only [Act.put, List.setIfInBounds_toArray, List.set_cons_zero, List.set_cons_succ]
            refine at_worldP (fun W => Hid (AnC 28 w W p o q r) ∧ Hid (VaB w W b5 p r3) ∧ Hid (VaB w W b6 pk0 pl0)) ⟨Lib.hid (C.out.put V5.out.gt p r3), Lib.hid (V5.out.put p r3), Lib.hid (V6.out.putO NE.out.symm p r3)⟩ ?_
            clear C V5 V6
            rintro W ⟨C, V5, V6⟩
            refine wpAnyH_ready (rs := [7]) (by kernel_rfl) (by simp) ?_
            refine AllReadyH.cons (o := ?oz51) ?hiz51 (fun K hK => ?stz51) AllReadyH.nil
            case hiz51 => (simp only [List.getElem?_toArray, List.getElem?_cons_succ, List.getElem?_cons_zero]; rfl)
            obtain ⟨e0, e1, e2, e3, e4, e5, e6, e7, e8, e9⟩ := V6.out.bx.free
            obtain ⟨d0, d1, d2, d3, d4, d5, d6, d7, d8, d9⟩ := V6.out.bx.all
            go_simp
            refine hK.out _ _ (by exact (C.out.put V6.out.gt o r4).flat) (fun _ => ?_)
            clear hK K e0 e1 e2 e3 e4 e5 e6 e7 e8 e9 d0 d1 d2 d3 d4 d5 d6 d7 d8 d9
            try simp only [Act.put, List.setIfInBounds_toArray, List.set_cons_zero, List.set_cons_succ]
            refine at_worldP (fun W => Hid (AnC 28 w W p o q r) ∧ Hid (VaB w W b5 p r3) ∧ Hid (VaB w W b6 o r4)) ⟨Lib.hid (C.out.put V6.out.gt o r4), Lib.hid (V5.out.putO NE.out o r4), Lib.hid (V6.out.put o r4)⟩ ?_
            clear C V5 V6
            rintro W ⟨C, V5, V6⟩
            refine wpAnyH_done (by kernel_rfl) ?_ _
            (try go_wp2_with fail); go_meet
            exact ⟨b5, b6, r3, r4, rfl, rfl, C, V5, V6, NE⟩
        case stz47 =>
          go_simp
          refine hK.out _ _ (by exact (C.out.al _).flat) (fun _ => ?_)
          clear hK K
          try simp only [Act.put, List.setIfInBounds_toArray, List.set_cons_zero, List.set_cons_succ]
          obtain ⟨b5, hbb⟩ : ∃ b, b = W.heap.size := ⟨_, rfl⟩
          rw [← hbb]
          have NE := Lib.hid (show b5 ≠ b6 from fun e => absurd V6.out.bx.lt (by rw [← e, hbb]; exact Nat.lt_irrefl _))
          refine at_worldP (fun W => Hid (AnC 28 w W p o q r) ∧ Hid (VaB w W b5 pk0 pl0) ∧ Hid (VaB w W b6 pk0 pl0)) ⟨Lib.hid (C.out.al (obj0P 36)), Lib.hid (show VaB w _ b5 pk0 pl0 from hbb ▸ VaB.new C.out), Lib.hid (V6.out.al (obj0P 36))⟩ ?_
          clear C V6 hbb
          rintro W ⟨C, V5, V6⟩
          refine wpAnyH_ready (rs := [3]) (by kernel_rfl) (by simp) ?_
          refine (AllReadyH.cons (o := ?oz52) ?hiz52 (fun K hK => ?stz52) AllReadyH.nil)
          case hiz52 => (simp only [List.getElem?_toArray, List.getElem?_cons_succ, List.getElem?_cons_zero]; rfl)
          case stz52 =>
            go_simp
            go_at_call 9
            with_reducible refine (of15_any o r _ (H2.out.on C.out.bel) hnr2).mono ?_
            rintro e wy ⟨r4, rfl, -, hb⟩
            (try go_wp2_with fail)
            refine hK.out _ _ (by exact (C.out.step hb).flat) (fun _ => ?_)
            clear hK K
            try simp only [Act.put, List.setIfInBounds_toArray, List.set_cons_zero, List.set_cons_succ]
            refine at_worldP (fun W => Hid (AnC 28 w W p o q r) ∧ Hid (VaB w W b5 pk0 pl0) ∧ Hid (VaB w W b6 pk0 pl0)) ⟨Lib.hid (C.out.step hb), Lib.hid (V5.out.step hb), Lib.hid (V6.out.step hb)⟩ ?_
            clear C V5 V6 hb
            rintro W ⟨C, V5, V6⟩
            refine wpAnyH_ready (rs := [6]) (by kernel_rfl) (by simp) ?_
            refine AllReadyH.cons (o := ?oz53) ?hiz53 (fun K hK => ?stz53) AllReadyH.nil
            case hiz53 => (simp only [List.getElem?_toArray, List.getElem?_cons_succ, List.getElem?_cons_zero]; rfl)
            obtain ⟨e0, e1, e2, e3, e4, e5, e6, e7, e8, e9⟩ := V5.out.bx.free
            obtain ⟨d0, d1, d2, d3, d4, d5, d6, d7, d8, d9⟩ := V5.out.bx.all
            go_simp
            refine hK.out _ _ (by exact (C.out.put V5.out.gt p r3).flat) (fun _ => ?_)
            clear hK K e0 e1 e2 e3 e4 e5 e6 e7 e8 e9 d0 d1 d2 d3 d4 d5 d6 d7 d8 d9
            try simp only [Act.put, List.setIfInBounds_toArray, List.set_cons_zero, List.set_cons_succ]
            refine at_worldP (fun W => Hid (AnC 28 w W p o q r) ∧ Hid (VaB w W b5 p r3) ∧ Hid (VaB w W b6 pk0 pl0)) ⟨Lib.hid (C.out.put V5.out.gt p r3), Lib.hid (V5.out.put p r3), Lib.hid (V6.out.putO NE.out.symm p r3)⟩ ?_
            clear C V5 V6
            rintro W ⟨C, V5, V6⟩
            refine wpAnyH_ready (rs := [7]) (by kernel_rfl) (by simp) ?_
            refine AllReadyH.cons (o := ?oz54) ?hiz54 (fun K hK => ?stz54) AllReadyH.nil
            case hiz54 => (simp only [List.getElem?_toArray, List.getElem?_cons_succ, List.getElem?_cons_zero]; rfl)
            obtain ⟨e0, e1, e2, e3, e4, e5, e6, e7, e8, e9⟩ := V6.out.bx.free
            obtain ⟨d0, d1, d2, d3, d4, d5, d6, d7, d8, d9⟩ := V6.out.bx.all
            go_simp
            refine hK.out _ _ (by exact (C.out.put V6.out.gt o r4).flat) (fun _ => ?_)
            clear hK K e0 e1 e2 e3 e4 e5 e6 e7 e8 e9 d0 d1 d2 d3 d4 d5 d6 d7 d8 d9
            try simp only [Act.put, List.setIfInBounds_toArray, List.set_cons_zero, List.set_cons_succ]
            refine at_worldP (fun W => Hid (AnC 28 w W p o q r) ∧ Hid (VaB w W b5 p r3) ∧ Hid (VaB w W b6 o r4)) ⟨Lib.hid (C.out.put V6.out.gt o r4), Lib.hid (V5.out.putO NE.out o r4), Lib.hid (V6.out.put o r4)⟩ ?_
            clear C V5 V6
            rintro W ⟨C, V5, V6⟩
            refine wpAnyH_done (by kernel_rfl) ?_ _
            (try go_wp2_with fail); go_meet
            exact ⟨b5, b6, r3, r4, rfl, rfl, C, V5, V6, NE⟩
      case stz45 =>
        go_simp
        refine hK.out _ _ (by exact (C.out.al _).flat) (fun _ => ?_)
        clear hK K
        try simp only [Act.put, List.setIfInBounds_toArray, List.set_cons_zero, List.set_cons_succ]
        obtain ⟨b5, hbb⟩ : ∃ b, b = W.heap.size := ⟨_, rfl⟩
        rw [← hbb]
        have NE := Lib.hid (show b5 ≠ b6 from fun e => absurd V6.out.bx.lt (by rw [← e, hbb]; exact Nat.lt_irrefl _))
        refine at_worldP (fun W => Hid (AnC 28 w W p o q r) ∧ Hid (VaB w W b5 pk0 pl0) ∧ Hid (VaB w W b6 pk0 pl0)) ⟨Lib.hid (C.out.al (obj0P 36)), Lib.hid (show VaB w _ b5 pk0 pl0 from hbb ▸ VaB.new C.out), Lib.hid (V6.out.al (obj0P 36))⟩ ?_
        clear C V6 hbb
        rintro W ⟨C, V5, V6⟩
        refine wpAnyH_ready (rs := [1]) (by kernel_rfl) (by simp) ?_
        refine (AllReadyH.cons (o := ?oz55) ?hiz55 (fun K hK => ?stz55) AllReadyH.nil)
        case hiz55 => (simp only [List.getElem?_toArray, List.getElem?_cons_succ, List.getElem?_cons_zero]; rfl)
        case stz55 =>
          go_simp
          go_at_call 9
          with_reducible refine (of15_any p q _ (H.out.on C.out.bel) hno2).mono ?_
          rintro e wy ⟨r3, rfl, -, hb⟩
          (try go_wp2_with fail)
          refine hK.out _ _ (by exact (C.out.step hb).flat) (fun _ => ?_)
          clear hK K
          try simp only [Act.put, List.setIfInBounds_toArray, List.set_cons_zero, List.set_cons_succ]
          refine at_worldP (fun W => Hid (AnC 28 w W p o q r) ∧ Hid (VaB w W b5 pk0 pl0) ∧ Hid (VaB w W b6 pk0 pl0)) ⟨Lib.hid (C.out.step hb), Lib.hid (V5.out.step hb), Lib.hid (V6.out.step hb)⟩ ?_
          clear C V5 V6 hb
          rintro W ⟨C, V5, V6⟩
          refine wpAnyH_ready (rs := [3]) (by kernel_rfl) (by simp) ?_
          refine (AllReadyH.cons (o := ?oz56) ?hiz56 (fun K hK => ?stz56) AllReadyH.nil)
          case hiz56 => (simp only [List.getElem?_toArray, List.getElem?_cons_succ, List.getElem?_cons_zero]; rfl)
          case stz56 =>
            go_simp
            go_at_call 9
            with_reducible refine (of15_any o r _ (H2.out.on C.out.bel) hnr2).mono ?_
            rintro e wy ⟨r4, rfl, -, hb⟩
            (try go_wp2_with fail)
            refine hK.out _ _ (by exact (C.out.step hb).flat) (fun _ => ?_)
            clear hK K
            try simp only [Act.put, List.setIfInBounds_toArray, List.set_cons_zero, List.set_cons_succ]
            refine at_worldP (fun W => Hid (AnC 28 w W p o q r) ∧ Hid (VaB w W b5 pk0 pl0) ∧ Hid (VaB w W b6 pk0 pl0)) ⟨Lib.hid (C.out.step hb), Lib.hid (V5.out.step hb), Lib.hid (V6.out.step hb)⟩ ?_
            clear C V5 V6 hb
            rintro W ⟨C, V5, V6⟩
            refine wpAnyH_ready (rs := [6]) (by kernel_rfl) (by simp) ?_
            refine AllReadyH.cons (o := ?oz57) ?hiz57 (fun K hK => ?stz57) AllReadyH.nil
            case hiz57 => (simp only [List.getElem?_toArray, List.getElem?_cons_succ, List.getElem?_cons_zero]; rfl)
            obtain ⟨e0, e1, e2, e3, e4, e5, e6, e7, e8, e9⟩ := V5.out.bx.free
            obtain ⟨d0, d1, d2, d3, d4, d5, d6, d7, d8, d9⟩ := V5.out.bx.all
            go_simp
            refine hK.out _ _ (by exact (C.out.put V5.out.gt p r3).flat) (fun _ => ?_)
            clear hK K e0 e1 e2 e3 e4 e5 e6 e7 e8 e9 d0 d1 d2 d3 d4 d5 d6 d7 d8 d9
            try simp only [Act.put, List.setIfInBounds_toArray, List.set_cons_zero, List.set_cons_succ]
            refine at_worldP (fun W => Hid (AnC 28 w W p o q r) ∧ Hid (VaB w W b5 p r3) ∧ Hid (VaB w W b6 pk0 pl0)) ⟨Lib.hid (C.out.put V5.out.gt p r3), Lib.hid (V5.out.put p r3), Lib.hid (V6.out.putO NE.out.symm p r3)⟩ ?_
            clear C V5 V6
            rintro W ⟨C, V5, V6⟩
            refine wpAnyH_ready (rs := [7]) (by kernel_rfl) (by simp) ?_
            refine AllReadyH.cons (o := ?oz58) ?hiz58 (fun K hK => ?stz58) AllReadyH.nil
            case hiz58 => (simp only [List.getElem?_toArray, List.getElem?_cons_succ, List.getElem?_cons_zero]; rfl)
            obtain ⟨e0, e1, e2, e3, e4, e5, e6, e7, e8, e9⟩ := V6.out.bx.free
            obtain ⟨d0, d1, d2, d3, d4, d5, d6, d7, d8, d9⟩ := V6.out.bx.all
            go_simp
            refine hK.out _ _ (by exact (C.out.put V6.out.gt o r4).flat) (fun _ => ?_)
            clear hK K e0 e1 e2 e3 e4 e5 e6 e7 e8 e9 d0 d1 d2 d3 d4 d5 d6 d7 d8 d9
            try simp only [Act.put, List.setIfInBounds_toArray, List.set_cons_zero, List.set_cons_succ]
            refine at_worldP (fun W => Hid (AnC 28 w W p o q r) ∧ Hid (VaB w W b5 p r3) ∧ Hid (VaB w W b6 o r4)) ⟨Lib.hid (C.out.put V6.out.gt o r4), Lib.hid (V5.out.putO NE.out o r4), Lib.hid (V6.out.put o r4)⟩ ?_
            clear C V5 V6
            rintro W ⟨C, V5, V6⟩
            refine wpAnyH_done (by kernel_rfl) ?_ _
            (try go_wp2_with fail); go_meet
            exact ⟨b5, b6, r3, r4, rfl, rfl, C, V5, V6, NE⟩
  case rest =>
    obtain ⟨b5, b6, r3, r4, rfl, rfl, C, V5, V6, NE⟩ := hcut
    have Z := Lib.hid (show TuC w wc b5 b6 p o p o q r r3 r4 from ⟨C.out, V5.out, V6.out, NE.out⟩)
    have n5 : ¬ b5 = b6 := NE.out
    have n6 : ¬ b6 = b5 := NE.out.symm
    clear C V5 V6 NE
    obtain ⟨x0, x1, x2, x3, x4, x5, x6, x7, x8, x9⟩ := Z.out.v5.bx.all; obtain ⟨y0, y1, y2, y3, y4, y5, y6, y7, y8, y9⟩ := Z.out.v6.bx.all; obtain ⟨-, -, i1, -⟩ := Z.out.an.c1.all; obtain ⟨-, -, i2, -⟩ := Z.out.an.c2.all
    go_upto_region 6 with (first
      | (go_at_call 16; (with_reducible refine (chans_any p p r3 r3 _ _ (chans_self p)).mono ?_); rintro e wn ⟨rfl, hb⟩; replace Z := Lib.hid (Z.out.step hb); clear hb; clear x0 y0 x1 y1 x2 y2 x3 y3 x4 y4 x5 y5 x6 y6 x7 y7 x8 y8 x9 y9 i1 i2; obtain ⟨x0, x1, x2, x3, x4, x5, x6, x7, x8, x9⟩ := Z.out.v5.bx.all; obtain ⟨y0, y1, y2, y3, y4, y5, y6, y7, y8, y9⟩ := Z.out.v6.bx.all; obtain ⟨-, -, i1, -⟩ := Z.out.an.c1.all; obtain ⟨-, -, i2, -⟩ := Z.out.an.c2.all)
      | (go_at_call 16; (with_reducible refine (chans_any p o r3 r4 _ _ HA.out).mono ?_); rintro e wn ⟨rfl, hb⟩; replace Z := Lib.hid (Z.out.step hb); clear hb; clear x0 y0 x1 y1 x2 y2 x3 y3 x4 y4 x5 y5 x6 y6 x7 y7 x8 y8 x9 y9 i1 i2; obtain ⟨x0, x1, x2, x3, x4, x5, x6, x7, x8, x9⟩ := Z.out.v5.bx.all; obtain ⟨y0, y1, y2, y3, y4, y5, y6, y7, y8, y9⟩ := Z.out.v6.bx.all; obtain ⟨-, -, i1, -⟩ := Z.out.an.c1.all; obtain ⟨-, -, i2, -⟩ := Z.out.an.c2.all)
      | (go_at_call 16; (with_reducible refine (chans_any o p r4 r3 _ _ HT.out).mono ?_); rintro e wn ⟨rfl, hb⟩; replace Z := Lib.hid (Z.out.step hb); clear hb; clear x0 y0 x1 y1 x2 y2 x3 y3 x4 y4 x5 y5 x6 y6 x7 y7 x8 y8 x9 y9 i1 i2; obtain ⟨x0, x1, x2, x3, x4, x5, x6, x7, x8, x9⟩ := Z.out.v5.bx.all; obtain ⟨y0, y1, y2, y3, y4, y5, y6, y7, y8, y9⟩ := Z.out.v6.bx.all; obtain ⟨-, -, i1, -⟩ := Z.out.an.c1.all; obtain ⟨-, -, i2, -⟩ := Z.out.an.c2.all))
    obtain ⟨e0, e1, e2, e3, e4, e5, e6, e7, e8, e9⟩ := Z.out.v5.bx.free; obtain ⟨f0, f1, f2, f3, f4, f5, f6, f7, f8, f9⟩ := Z.out.v6.bx.free
    go_upto_region 7 with fail
    refine at_worldP (fun W => Hid (TuC w W b5 b6 p o p p q r r3 r3)) (Lib.hid ⟨Z.out.an.put Z.out.v6.gt p r3, Z.out.v5.putO Z.out.ne p r3, Z.out.v6.put p r3, Z.out.ne⟩) ?_
    clear x0 y0 x1 y1 x2 y2 x3 y3 x4 y4 x5 y5 x6 y6 x7 y7 x8 y8 x9 y9 i1 i2 e0 f0 e1 f1 e2 f2 e3 f3 e4 f4 e5 f5 e6 f6 e7 f7 e8 f8 e9 f9
    clear Z
    rintro W Z
    obtain ⟨x0, x1, x2, x3, x4, x5, x6, x7, x8, x9⟩ := Z.out.v5.bx.all; obtain ⟨y0, y1, y2, y3, y4, y5, y6, y7, y8, y9⟩ := Z.out.v6.bx.all; obtain ⟨-, -, i1, -⟩ := Z.out.an.c1.all; obtain ⟨-, -, i2, -⟩ := Z.out.an.c2.all
    obtain ⟨e0, e1, e2, e3, e4, e5, e6, e7, e8, e9⟩ := Z.out.v5.bx.free; obtain ⟨f0, f1, f2, f3, f4, f5, f6, f7, f8, f9⟩ := Z.out.v6.bx.free
    go_upto_region 8 with fail
    refine at_worldP (fun W => Hid (TuC w W b5 b6 p o { p with code := 2 } { p with code := 1 } q r r3 r3)) (Lib.hid ⟨(Z.out.an.set Z.out.v6.gt _ _).set Z.out.v5.gt _ _, (Z.out.v5.other Z.out.ne _ _).code 2, (Z.out.v6.code 1).other Z.out.ne.symm _ _, Z.out.ne⟩) ?_
    clear x0 y0 x1 y1 x2 y2 x3 y3 x4 y4 x5 y5 x6 y6 x7 y7 x8 y8 x9 y9 i1 i2 e0 f0 e1 f1 e2 f2 e3 f3 e4 f4 e5 f5 e6 f6 e7 f7 e8 f8 e9 f9
    clear Z
    rintro W Z
    obtain ⟨x0, x1, x2, x3, x4, x5, x6, x7, x8, x9⟩ := Z.out.v5.bx.all; obtain ⟨y0, y1, y2, y3, y4, y5, y6, y7, y8, y9⟩ := Z.out.v6.bx.all; obtain ⟨-, -, i1, -⟩ := Z.out.an.c1.all; obtain ⟨-, -, i2, -⟩ := Z.out.an.c2.all
    obtain ⟨e0, e1, e2, e3, e4, e5, e6, e7, e8, e9⟩ := Z.out.v5.bx.free; obtain ⟨f0, f1, f2, f3, f4, f5, f6, f7, f8, f9⟩ := Z.out.v6.bx.free
    go_upto_region 9 with fail
    refine at_worldP (fun W => Hid (TuC w W b5 b6 p o { p with code := 2, proto := 49699 } { p with code := 1, proto := 49699 } q r r3 r3)) (Lib.hid ⟨(Z.out.an.set Z.out.v5.gt _ _).set Z.out.v6.gt _ _, (Z.out.v5.proto 49699).other Z.out.ne _ _, (Z.out.v6.other Z.out.ne.symm _ _).proto 49699, Z.out.ne⟩) ?_
    clear x0 y0 x1 y1 x2 y2 x3 y3 x4 y4 x5 y5 x6 y6 x7 y7 x8 y8 x9 y9 i1 i2 e0 f0 e1 f1 e2 f2 e3 f3 e4 f4 e5 f5 e6 f6 e7 f7 e8 f8 e9 f9
    clear Z
    rintro W Z
    obtain ⟨x0, x1, x2, x3, x4, x5, x6, x7, x8, x9⟩ := Z.out.v5.bx.all; obtain ⟨y0, y1, y2, y3, y4, y5, y6, y7, y8, y9⟩ := Z.out.v6.bx.all; obtain ⟨-, -, i1, -⟩ := Z.out.an.c1.all; obtain ⟨-, -, i2, -⟩ := Z.out.an.c2.all
    go_wp2_with (first
      | (go_at_call 16; (with_reducible refine (chans_lit p r3 _).mono ?_); rintro e wn ⟨rfl, hb⟩; replace Z := Lib.hid (Z.out.step hb); clear hb; clear x0 y0 x1 y1 x2 y2 x3 y3 x4 y4 x5 y5 x6 y6 x7 y7 x8 y8 x9 y9 i1 i2))
    go_ret
    exact ⟨rfl, Z.out.an.bel⟩

theorem chturn_any (p : Pk) (q : Pl) (o : Pk) (r : Pl) (w : World) (h : IsPk w p q) (h' : IsPk w o r) : 
    Calls Try.prog 5 #[p.val q, o.val r] w fun e w' => e = .returned (.bool true) ∧ Below w.heap.size w w' := by
  cases hf : fewP p
  · exact chturn_few1 p q o r w h h' hf
  cases hf2 : fewP o
  · exact chturn_few2 p q o r w h h' hf hf2
  cases ha : chansB p o
  · exact chturn_no p q o r w h h' hf hf2 ha
  · exact chturn_yes p q o r w h h' hf hf2 ha
end Go.Proofs.Ytcmapiaacimbeaa
