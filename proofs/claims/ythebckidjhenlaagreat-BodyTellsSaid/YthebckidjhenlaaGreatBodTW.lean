
/-
  BodyTells' walk. No condition.
-/
import Derived.Test.YthebckidjhenlaaGreatBodC
import Derived.Test.YthebckidjhenlaaGreatBodE
import Derived.Test.YthebckidjhenlaaGreatBodQ
import Derived.Test.YthebckidjhenlaaGreatBodS
import Derived.Test.YthebckidjhenlaaGreatGPkt
import Derived.Deep.CutRange
import Derived.Deep.RegionHeld3
namespace Go.Proofs.YthebckidjhenlaaGreat
set_option maxRecDepth 4000
open Go.RowKit
set_option linter.unusedVariables false

/-- What BodyTells knows of the world that it stands in: its config, its two packets. -/
structure TbC (w W : World) (c : Cf) (p o : Pk) (q r : Pl) : Prop where
  bel : Below w.heap.size w W
  kc : Cb W w.heap.size 24 c
  x1 : Px W (w.heap.size + 1) 30 p q
  x2 : Px W (w.heap.size + 2) 30 o r
  p1 : Pw W p q
  p2 : Pw W o r
section
variable {w W X W' : World} {c : Cf} {p o : Pk} {q r : Pl}
theorem TbC.step (h : TbC w W c p o q r) (hb : Below X.heap.size X W') (hX : Below W.heap.size W X := by first | exact Below.refl _ _ | exact (Below.refl _ _).drew) : TbC w W' c p o q r :=
  have hh := hX.trans (hb.mono hX.size)
  ⟨h.bel.trans (hh.mono h.bel.size), h.kc.below hh, h.x1.below hh, h.x2.below hh, h.p1.on hh, h.p2.on hh⟩
theorem TbC.drew (h : TbC w W c p o q r) : TbC w W.drew c p o q r := h.step (X := W) (Below.refl _ _).drew
theorem TbC.flat (h : TbC w W c p o q r) : W.cell? ⟨w.heap.size + 1, 0, none⟩ = some (.int .u16 (p.proto : Int)) ∧ W.cell? ⟨w.heap.size + 1, 1, none⟩ = some (.int .u8 (p.code : Int)) ∧ W.cell? ⟨w.heap.size + 1, 2, none⟩ = some (.int .u8 (p.id : Int)) ∧ W.cell? ⟨w.heap.size + 1, 3, none⟩ = some (.slice q.ao q.no q.co) ∧ W.cell? ⟨w.heap.size + 1, 4, none⟩ = some (.int .u16 (p.sub : Int)) ∧ W.cell? ⟨w.heap.size + 1, 5, none⟩ = some (.int .u32 (p.magic : Int)) ∧ W.cell? ⟨w.heap.size + 1, 6, none⟩ = some (.slice q.a1 q.n1 q.c1) ∧ W.cell? ⟨w.heap.size + 1, 7, none⟩ = some (.slice q.a2 q.n2 q.c2) ∧ W.cell? ⟨w.heap.size + 1, 8, none⟩ = some (.slice q.ad q.nd q.cd) ∧ W.cell? ⟨w.heap.size + 1, 9, none⟩ = some (.slice q.an q.nn q.cn) ∧ W.cell? ⟨w.heap.size + 2, 0, none⟩ = some (.int .u16 (o.proto : Int)) ∧ W.cell? ⟨w.heap.size + 2, 1, none⟩ = some (.int .u8 (o.code : Int)) ∧ W.cell? ⟨w.heap.size + 2, 2, none⟩ = some (.int .u8 (o.id : Int)) ∧ W.cell? ⟨w.heap.size + 2, 3, none⟩ = some (.slice r.ao r.no r.co) ∧ W.cell? ⟨w.heap.size + 2, 4, none⟩ = some (.int .u16 (o.sub : Int)) ∧ W.cell? ⟨w.heap.size + 2, 5, none⟩ = some (.int .u32 (o.magic : Int)) ∧ W.cell? ⟨w.heap.size + 2, 6, none⟩ = some (.slice r.a1 r.n1 r.c1) ∧ W.cell? ⟨w.heap.size + 2, 7, none⟩ = some (.slice r.a2 r.n2 r.c2) ∧ W.cell? ⟨w.heap.size + 2, 8, none⟩ = some (.slice r.ad r.nd r.cd) ∧ W.cell? ⟨w.heap.size + 2, 9, none⟩ = some (.slice r.an r.nn r.cn) := by
  obtain ⟨x0, x1, x2, x3, x4, x5, x6, x7, x8, x9⟩ := h.x1.all
  exact ⟨x0, x1, x2, x3, x4, x5, x6, x7, x8, x9, h.x2.all⟩
theorem TbC.cp (h : TbC w W c p o q r) : W.cell? ⟨w.heap.size, 0, none⟩ = some (.bool c.sync) ∧ W.cell? ⟨w.heap.size, 1, none⟩ = some (.bool c.wide) ∧ W.cell? ⟨w.heap.size, 2, none⟩ = some (.bool c.acfc) ∧ W.cell? ⟨w.heap.size, 3, none⟩ = some (.bool c.pfc) ∧ W.cell? ⟨w.heap.size, 4, none⟩ = some (.int .u32 (c.send : Int)) ∧ W.cell? ⟨w.heap.size, 5, none⟩ = some (.int .u32 (c.recv : Int)) ∧ W.cell? ⟨w.heap.size, 6, none⟩ = some (.int .i64 c.mru) ∧ W.cell? ⟨w.heap.size + 1, 0, none⟩ = some (.int .u16 (p.proto : Int)) ∧ W.cell? ⟨w.heap.size + 1, 1, none⟩ = some (.int .u8 (p.code : Int)) ∧ W.cell? ⟨w.heap.size + 1, 2, none⟩ = some (.int .u8 (p.id : Int)) ∧ W.cell? ⟨w.heap.size + 1, 3, none⟩ = some (.slice q.ao q.no q.co) ∧ W.cell? ⟨w.heap.size + 1, 4, none⟩ = some (.int .u16 (p.sub : Int)) ∧ W.cell? ⟨w.heap.size + 1, 5, none⟩ = some (.int .u32 (p.magic : Int)) ∧ W.cell? ⟨w.heap.size + 1, 6, none⟩ = some (.slice q.a1 q.n1 q.c1) ∧ W.cell? ⟨w.heap.size + 1, 7, none⟩ = some (.slice q.a2 q.n2 q.c2) ∧ W.cell? ⟨w.heap.size + 1, 8, none⟩ = some (.slice q.ad q.nd q.cd) ∧ W.cell? ⟨w.heap.size + 1, 9, none⟩ = some (.slice q.an q.nn q.cn) := by
  obtain ⟨u0, u1, u2, u3, u4, u5, u6⟩ := h.kc.all
  exact ⟨u0, u1, u2, u3, u4, u5, u6, h.x1.all⟩
end
theorem TbC.made (w : World) (c : Cf) (p : Pk) (q : Pl) (o : Pk) (r : Pl) (hp : Pw w p q) (ho : Pw w o r) : TbC w (((w.alloc (.cells #[.bool c.sync, .bool c.wide, .bool c.acfc, .bool c.pfc, .int .u32 (c.send : Int), .int .u32 (c.recv : Int), .int .i64 c.mru] 24)).alloc (p.obj q 30)).alloc (o.obj r 30)) c p o q r := by
  have e1 : (w.alloc (.cells #[.bool c.sync, .bool c.wide, .bool c.acfc, .bool c.pfc, .int .u32 (c.send : Int), .int .u32 (c.recv : Int), .int .i64 c.mru] 24)).heap.size = w.heap.size + 1 := World.size_alloc _ _
  have e2 : ((w.alloc (.cells #[.bool c.sync, .bool c.wide, .bool c.acfc, .bool c.pfc, .int .u32 (c.send : Int), .int .u32 (c.recv : Int), .int .i64 c.mru] 24)).alloc (p.obj q 30)).heap.size = w.heap.size + 2 := by rw [World.size_alloc, e1]
  have h1 : Cb (w.alloc (.cells #[.bool c.sync, .bool c.wide, .bool c.acfc, .bool c.pfc, .int .u32 (c.send : Int), .int .u32 (c.recv : Int), .int .i64 c.mru] 24)) w.heap.size 24 c := heap_alloc_new w _
  have h2 : Px ((w.alloc (.cells #[.bool c.sync, .bool c.wide, .bool c.acfc, .bool c.pfc, .int .u32 (c.send : Int), .int .u32 (c.recv : Int), .int .i64 c.mru] 24)).alloc (p.obj q 30)) (w.heap.size + 1) 30 p q := by
    have := px_new (w.alloc (.cells #[.bool c.sync, .bool c.wide, .bool c.acfc, .bool c.pfc, .int .u32 (c.send : Int), .int .u32 (c.recv : Int), .int .i64 c.mru] 24)) 30 p q
    rw [e1] at this
    exact this
  have h3 : Px (((w.alloc (.cells #[.bool c.sync, .bool c.wide, .bool c.acfc, .bool c.pfc, .int .u32 (c.send : Int), .int .u32 (c.recv : Int), .int .i64 c.mru] 24)).alloc (p.obj q 30)).alloc (o.obj r 30)) (w.heap.size + 2) 30 o r := by
    have := px_new ((w.alloc (.cells #[.bool c.sync, .bool c.wide, .bool c.acfc, .bool c.pfc, .int .u32 (c.send : Int), .int .u32 (c.recv : Int), .int .i64 c.mru] 24)).alloc (p.obj q 30)) 30 o r
    rw [e2] at this
    exact this
  have g2 := (Below.refl (w.alloc (.cells #[.bool c.sync, .bool c.wide, .bool c.acfc, .bool c.pfc, .int .u32 (c.send : Int), .int .u32 (c.recv : Int), .int .i64 c.mru] 24)).heap.size (w.alloc (.cells #[.bool c.sync, .bool c.wide, .bool c.acfc, .bool c.pfc, .int .u32 (c.send : Int), .int .u32 (c.recv : Int), .int .i64 c.mru] 24))).alloc (Nat.le_refl _) (p.obj q 30)
  have g3 := (Below.refl ((w.alloc (.cells #[.bool c.sync, .bool c.wide, .bool c.acfc, .bool c.pfc, .int .u32 (c.send : Int), .int .u32 (c.recv : Int), .int .i64 c.mru] 24)).alloc (p.obj q 30)).heap.size ((w.alloc (.cells #[.bool c.sync, .bool c.wide, .bool c.acfc, .bool c.pfc, .int .u32 (c.send : Int), .int .u32 (c.recv : Int), .int .i64 c.mru] 24)).alloc (p.obj q 30))).alloc (Nat.le_refl _) (o.obj r 30)
  have hb : Below w.heap.size w (((w.alloc (.cells #[.bool c.sync, .bool c.wide, .bool c.acfc, .bool c.pfc, .int .u32 (c.send : Int), .int .u32 (c.recv : Int), .int .i64 c.mru] 24)).alloc (p.obj q 30)).alloc (o.obj r 30)) := (belowP_two w _ _).alloc (by rw [e2]; omega) _
  exact ⟨hb, (h1.below g2).below g3, h2.below g3, h3, hp.on hb, ho.on hb⟩

set_option maxHeartbeats 4000000 in
theorem btl_few1 (c : Cf) (p : Pk) (q : Pl) (o : Pk) (r : Pl) (t : Nat) (A1 : Option Addr) (n1 c1 : Nat) (w : World) (h : IsPk w p q) (h' : IsPk w o r) (hf : fewP p = false) :
    Calls Tryz.prog 3 #[c.val, p.val q, o.val r, .int .u16 (t : Int), .slice A1 n1 c1] w fun e w' => e = .returned (.bool true) ∧ Below w.heap.size w w' := by
  have C := Lib.hid (TbC.made w c p q o r h.pw h'.pw)
  have hno := h.no
  have HD := Lib.hid h.od
  have hnr := h'.no
  have HD2 := Lib.hid h'.od
  have HF := Lib.hid hf
  clear hf
  clear h h'
  go_enter Tryz.func3, Tryz.ntmps3
  go_wp2_with (first
    | (go_at_call 4; (with_reducible refine (speaks20 _).mono ?_); rintro e wn ⟨rfl, hb⟩; replace C := Lib.hid (C.out.step hb); clear hb; (try clear x0 x1 x2 x3 x4 x5 x6 x7 x8 x9 y0 y1 y2 y3 y4 y5 y6 y7 y8 y9); obtain ⟨x0, x1, x2, x3, x4, x5, x6, x7, x8, x9, y0, y1, y2, y3, y4, y5, y6, y7, y8, y9⟩ := C.out.flat)
    | (go_at_call 5; (with_reducible refine (few15_any p q _ C.out.p1 hno HD.out _ HF.out).mono ?_); rintro e wn ⟨rfl, hb⟩; replace C := Lib.hid (C.out.step hb); clear hb; (try clear x0 x1 x2 x3 x4 x5 x6 x7 x8 x9 y0 y1 y2 y3 y4 y5 y6 y7 y8 y9); obtain ⟨x0, x1, x2, x3, x4, x5, x6, x7, x8, x9, y0, y1, y2, y3, y4, y5, y6, y7, y8, y9⟩ := C.out.flat))
  go_ret
  exact ⟨rfl, C.out.bel⟩

set_option maxHeartbeats 4000000 in
theorem btl_few2 (c : Cf) (p : Pk) (q : Pl) (o : Pk) (r : Pl) (t : Nat) (A1 : Option Addr) (n1 c1 : Nat) (w : World) (h : IsPk w p q) (h' : IsPk w o r) (hf : fewP p = true) (hf2 : fewP o = false) :
    Calls Tryz.prog 3 #[c.val, p.val q, o.val r, .int .u16 (t : Int), .slice A1 n1 c1] w fun e w' => e = .returned (.bool true) ∧ Below w.heap.size w w' := by
  have C := Lib.hid (TbC.made w c p q o r h.pw h'.pw)
  have hno := h.no
  have HD := Lib.hid h.od
  have hnr := h'.no
  have HD2 := Lib.hid h'.od
  have HF := Lib.hid hf
  have HF2 := Lib.hid hf2
  clear hf hf2
  clear h h'
  go_enter Tryz.func3, Tryz.ntmps3
  go_wp2_with (first
    | (go_at_call 4; (with_reducible refine (speaks20 _).mono ?_); rintro e wn ⟨rfl, hb⟩; replace C := Lib.hid (C.out.step hb); clear hb; (try clear x0 x1 x2 x3 x4 x5 x6 x7 x8 x9 y0 y1 y2 y3 y4 y5 y6 y7 y8 y9); obtain ⟨x0, x1, x2, x3, x4, x5, x6, x7, x8, x9, y0, y1, y2, y3, y4, y5, y6, y7, y8, y9⟩ := C.out.flat)
    | (go_at_call 5; (with_reducible refine (few15_any p q _ C.out.p1 hno HD.out _ HF.out).mono ?_); rintro e wn ⟨rfl, hb⟩; replace C := Lib.hid (C.out.step hb); clear hb; (try clear x0 x1 x2 x3 x4 x5 x6 x7 x8 x9 y0 y1 y2 y3 y4 y5 y6 y7 y8 y9); obtain ⟨x0, x1, x2, x3, x4, x5, x6, x7, x8, x9, y0, y1, y2, y3, y4, y5, y6, y7, y8, y9⟩ := C.out.flat)
    | (go_at_call 5; (with_reducible refine (few15_any o r _ C.out.p2 hnr HD2.out _ HF2.out).mono ?_); rintro e wn ⟨rfl, hb⟩; replace C := Lib.hid (C.out.step hb); clear hb; (try clear x0 x1 x2 x3 x4 x5 x6 x7 x8 x9 y0 y1 y2 y3 y4 y5 y6 y7 y8 y9); obtain ⟨x0, x1, x2, x3, x4, x5, x6, x7, x8, x9, y0, y1, y2, y3, y4, y5, y6, y7, y8, y9⟩ := C.out.flat))
  go_ret
  exact ⟨rfl, C.out.bel⟩

set_option maxHeartbeats 4000000 in
theorem btl_long (c : Cf) (p : Pk) (q : Pl) (o : Pk) (r : Pl) (t : Nat) (A1 : Option Addr) (n1 c1 : Nat) (w : World) (h : IsPk w p q) (h' : IsPk w o r) (hf : fewP p = true) (hf2 : fewP o = true) (hn : ¬ n1 ≤ 600) :
    Calls Tryz.prog 3 #[c.val, p.val q, o.val r, .int .u16 (t : Int), .slice A1 n1 c1] w fun e w' => e = .returned (.bool true) ∧ Below w.heap.size w w' := by
  have C := Lib.hid (TbC.made w c p q o r h.pw h'.pw)
  have hno := h.no
  have HD := Lib.hid h.od
  have hnr := h'.no
  have HD2 := Lib.hid h'.od
  have HF := Lib.hid hf
  have HF2 := Lib.hid hf2
  have j1 : (600 : Int) < (n1 : Int) := by omega
  clear hf hf2 hn
  clear h h'
  go_enter Tryz.func3, Tryz.ntmps3
  go_wp2_with (first
    | (go_at_call 4; (with_reducible refine (speaks20 _).mono ?_); rintro e wn ⟨rfl, hb⟩; replace C := Lib.hid (C.out.step hb); clear hb; (try clear x0 x1 x2 x3 x4 x5 x6 x7 x8 x9 y0 y1 y2 y3 y4 y5 y6 y7 y8 y9); obtain ⟨x0, x1, x2, x3, x4, x5, x6, x7, x8, x9, y0, y1, y2, y3, y4, y5, y6, y7, y8, y9⟩ := C.out.flat)
    | (go_at_call 5; (with_reducible refine (few15_any p q _ C.out.p1 hno HD.out _ HF.out).mono ?_); rintro e wn ⟨rfl, hb⟩; replace C := Lib.hid (C.out.step hb); clear hb; (try clear x0 x1 x2 x3 x4 x5 x6 x7 x8 x9 y0 y1 y2 y3 y4 y5 y6 y7 y8 y9); obtain ⟨x0, x1, x2, x3, x4, x5, x6, x7, x8, x9, y0, y1, y2, y3, y4, y5, y6, y7, y8, y9⟩ := C.out.flat)
    | (go_at_call 5; (with_reducible refine (few15_any o r _ C.out.p2 hnr HD2.out _ HF2.out).mono ?_); rintro e wn ⟨rfl, hb⟩; replace C := Lib.hid (C.out.step hb); clear hb; (try clear x0 x1 x2 x3 x4 x5 x6 x7 x8 x9 y0 y1 y2 y3 y4 y5 y6 y7 y8 y9); obtain ⟨x0, x1, x2, x3, x4, x5, x6, x7, x8, x9, y0, y1, y2, y3, y4, y5, y6, y7, y8, y9⟩ := C.out.flat))
  go_ret
  exact ⟨rfl, C.out.bel⟩

theorem flatB {Q : Prop} {a0 : Prop} {a1 : Prop} {a2 : Prop} {a3 : Prop} {a4 : Prop} {a5 : Prop} {a6 : Prop} {a7 : Prop} {a8 : Prop} {a9 : Prop} {a10 : Prop} {a11 : Prop} {a12 : Prop} {a13 : Prop} {a14 : Prop} {a15 : Prop} {a16 : Prop} {a17 : Prop} {a18 : Prop} {a19 : Prop} (h : a0 ∧ a1 ∧ a2 ∧ a3 ∧ a4 ∧ a5 ∧ a6 ∧ a7 ∧ a8 ∧ a9 ∧ a10 ∧ a11 ∧ a12 ∧ a13 ∧ a14 ∧ a15 ∧ a16 ∧ a17 ∧ a18 ∧ a19) (k : Q) : a0 ∧ a1 ∧ a2 ∧ a3 ∧ a4 ∧ a5 ∧ a6 ∧ a7 ∧ a8 ∧ a9 ∧ a10 ∧ a11 ∧ a12 ∧ a13 ∧ a14 ∧ a15 ∧ a16 ∧ a17 ∧ a18 ∧ a19 ∧ Q := by
  obtain ⟨h0, h1, h2, h3, h4, h5, h6, h7, h8, h9, h10, h11, h12, h13, h14, h15, h16, h17, h18, h19⟩ := h
  exact ⟨h0, h1, h2, h3, h4, h5, h6, h7, h8, h9, h10, h11, h12, h13, h14, h15, h16, h17, h18, h19, k⟩
theorem rcheck_v (c : Cf) (k : Int) (hk : chk c.mru = k) (w : World) : Calls Tryz.prog 15 #[c.val] w fun e w' => e = .returned (.int .i64 k) ∧ Below w.heap.size w w' := hk ▸ rcheck_any c w
theorem rcheck_z (c : Cf) (hk : chk c.mru = 0) (w : World) : Calls Tryz.prog 15 #[c.val] w fun e w' => e = .returned (.int .i64 0) ∧ Below w.heap.size w w' := hk ▸ rcheck_any c w

set_option maxRecDepth 8000 in
set_option maxHeartbeats 80000000 in
theorem btl_may (c : Cf) (p : Pk) (q : Pl) (o : Pk) (r : Pl) (t : Nat) (A1 : Option Addr) (n1 c1 : Nat) (w : World) (h : IsPk w p q) (h' : IsPk w o r) (ht : t < 65536) (b : List Nat) (hR : Rd w w.heap.size A1 b) (hB : By b) (hL : b.length = n1) (hc1 : n1 ≤ c1) (hf : fewP p = true) (hf2 : fewP o = true) (h1 : n1 ≤ 600) (hch : chk c.mru = 0) :
    Calls Tryz.prog 3 #[c.val, p.val q, o.val r, .int .u16 (t : Int), .slice A1 n1 c1] w fun e w' => e = .returned (.bool true) ∧ Below w.heap.size w w' := by
  have C := Lib.hid (TbC.made w c p q o r h.pw h'.pw)
  have hno := h.no
  have HD := Lib.hid h.od
  have hnr := h'.no
  have HD2 := Lib.hid h'.od
  have HOK := Lib.hid h.ok
  have HOK2 := Lib.hid h'.ok
  have HS := Lib.hid (fewP_sm hf)
  have HF := Lib.hid hf
  have HF2 := Lib.hid hf2
  have HR := Lib.hid hR
  have HB := Lib.hid hB
  have HL := Lib.hid hL
  have HC1 := Lib.hid hc1
  have H65 := Lib.hid ht
  have wt : wrap64 (t : Int) = (t : Int) := by unfold wrap64; omega
  have hno2 : q.no ≤ 1073741824 := by rw [← h.pw.lo]; exact (fewP_sm hf).o
  have hnr2 : r.no ≤ 1073741824 := by rw [← h'.pw.lo]; exact (fewP_sm hf2).o
  have j1 : ¬ (600 : Int) < (n1 : Int) := by omega
  have HN1 := Lib.hid (show n1 ≤ 1073741824 by omega)
  obtain ⟨m, k, hm⟩ : ∃ m k, Hid (bputB p = (m, k)) := ⟨_, _, Lib.hid rfl⟩
  obtain ⟨n, hn⟩ : ∃ n, Hid (m.length = n) := ⟨_, Lib.hid rfl⟩
  have n9 : n ≤ 2000 := by rw [← hn.out]; exact bput_len hm.out hf
  obtain ⟨y, k2, hy⟩ : ∃ y k2, Hid (bgetB t b = (y, k2)) := ⟨_, _, Lib.hid rfl⟩
  have HY := Lib.hid (bget_ok ht hB hy.out (by omega)).2
  obtain ⟨z, hz⟩ : ∃ z, Hid (decide (p = o) = z) := ⟨_, Lib.hid rfl⟩
  obtain ⟨k3, hk3⟩ : ∃ k, Hid (bchkB c.mru p = k) := ⟨_, Lib.hid rfl⟩
  have HCH := Lib.hid hch
  clear h h' hR hB hL hf hf2 ht hc1 hch
  go_enter Tryz.func3, Tryz.ntmps3
  go_upto_region 7 with (first
    | (go_at_call 4; (with_reducible refine (speaks20 _).mono ?_); rintro e wn ⟨rfl, hb⟩; replace C := Lib.hid (C.out.step hb); clear hb; (try clear x0 x1 x2 x3 x4 x5 x6 x7 x8 x9 y0 y1 y2 y3 y4 y5 y6 y7 y8 y9); obtain ⟨x0, x1, x2, x3, x4, x5, x6, x7, x8, x9, y0, y1, y2, y3, y4, y5, y6, y7, y8, y9⟩ := C.out.flat)
    | (go_at_call 5; (with_reducible refine (few15_any p q _ C.out.p1 hno HD.out _ HF.out).mono ?_); rintro e wn ⟨rfl, hb⟩; replace C := Lib.hid (C.out.step hb); clear hb; (try clear x0 x1 x2 x3 x4 x5 x6 x7 x8 x9 y0 y1 y2 y3 y4 y5 y6 y7 y8 y9); obtain ⟨x0, x1, x2, x3, x4, x5, x6, x7, x8, x9, y0, y1, y2, y3, y4, y5, y6, y7, y8, y9⟩ := C.out.flat)
    | (go_at_call 5; (with_reducible refine (few15_any o r _ C.out.p2 hnr HD2.out _ HF2.out).mono ?_); rintro e wn ⟨rfl, hb⟩; replace C := Lib.hid (C.out.step hb); clear hb; (try clear x0 x1 x2 x3 x4 x5 x6 x7 x8 x9 y0 y1 y2 y3 y4 y5 y6 y7 y8 y9); obtain ⟨x0, x1, x2, x3, x4, x5, x6, x7, x8, x9, y0, y1, y2, y3, y4, y5, y6, y7, y8, y9⟩ := C.out.flat)
    | (go_at_call 7; (with_reducible refine (of15_any p q _ C.out.p1 hno2).mono ?_); rintro e wn ⟨r1, rfl, hp, hb⟩; have P := Lib.hid hp; replace C := Lib.hid (C.out.step hb); clear hp hb; (try clear x0 x1 x2 x3 x4 x5 x6 x7 x8 x9 y0 y1 y2 y3 y4 y5 y6 y7 y8 y9); obtain ⟨x0, x1, x2, x3, x4, x5, x6, x7, x8, x9, y0, y1, y2, y3, y4, y5, y6, y7, y8, y9⟩ := C.out.flat)
    | (go_at_call 6; (with_reducible refine (bput_any p r1 _ P.out HOK.out HS.out m k hm.out n hn.out).mono ?_); rintro e wn ⟨A5, c5, rfl, h5, h5c, hb⟩; replace C := Lib.hid (C.out.step hb); have X5 := Lib.hid h5; clear h5 h5c hb P; (try clear x0 x1 x2 x3 x4 x5 x6 x7 x8 x9 y0 y1 y2 y3 y4 y5 y6 y7 y8 y9); obtain ⟨x0, x1, x2, x3, x4, x5, x6, x7, x8, x9, y0, y1, y2, y3, y4, y5, y6, y7, y8, y9⟩ := C.out.flat)
    | (go_at_call 8; (with_reducible refine (rbput_any p q _ C.out.p1 HOK.out HS.out m k hm.out n hn.out).mono ?_); rintro e wn ⟨A6, c6, rfl, h6, h6c, hb⟩; replace C := Lib.hid (C.out.step hb); replace X5 := Lib.hid (X5.out.ons hb); have X6 := Lib.hid h6; clear h6 h6c hb; clear x0 x1 x2 x3 x4 x5 x6 x7 x8 x9 y0 y1 y2 y3 y4 y5 y6 y7 y8 y9)
    | (go_at_call 9; (with_reducible refine (bget_any t b n1 c1 A1 _ (HR.out.ons C.out.bel) HB.out HL.out HN1.out HC1.out H65.out y k2 hy.out).mono ?_); rintro e w9 ⟨q1, rfl, hp1, hb⟩; have ba := (Below.refl w9.heap.size w9).alloc (Nat.le_refl _) (y.obj q1 38); have P1 := Lib.hid (hp1.pw.on ba); have XX1 := Lib.hid (px_new w9 38 y q1); replace X5 := Lib.hid ((X5.out.ons hb).ons ba); replace X6 := Lib.hid ((X6.out.ons hb).ons ba); replace C := Lib.hid ((C.out.step hb).step ba); clear hp1 hb ba)
    | (go_at_call 10; (with_reducible refine (rbget_any t b n1 c1 A1 _ (fun _ => True) (fun _ _ => trivial) (HR.out.ons C.out.bel).rdT HB.out HL.out HN1.out HC1.out H65.out y k2 hy.out).mono ?_); rintro e w11 ⟨q2, rfl, hp2, hb⟩; have ba := (Below.refl w11.heap.size w11).alloc (Nat.le_refl _) (y.obj q2 30); have Z := Lib.hid (show TeL w (w11.alloc (y.obj q2 30)) w9.heap.size w11.heap.size y q1 q2 A5 A6 m from ⟨((C.out.step hb).step ba).bel, (XX1.out.below hb).below ba, px_new w11 30 y q2, (P1.out.on hb).on ba, hp2.pw.on ba, (X5.out.ons hb).ons ba, (X6.out.ons hb).ons ba⟩); replace C := Lib.hid ((C.out.step hb).step ba); clear hp2 hb ba P1 XX1 X5 X6))
  obtain ⟨g1, hg1⟩ : ∃ g, Hid (w9.heap.size = g) := ⟨_, Lib.hid rfl⟩
  obtain ⟨g2, hg2⟩ : ∃ g, Hid (w11.heap.size = g) := ⟨_, Lib.hid rfl⟩
  rw [hg1.out, hg2.out] at Z ⊢
  with_reducible refine at_worldP (fun W => Hid (TbC w W c p o q r) ∧ Hid (TeL w W g1 g2 y q1 q2 A5 A6 m)) ⟨C, Z⟩ ?_
  clear C Z hg1 hg2 HR HB HL HC1 H65
  rintro W ⟨C, Z⟩
  obtain ⟨x0, x1, x2, x3, x4, x5, x6, x7, x8, x9, y0, y1, y2, y3, y4, y5, y6, y7, y8, y9⟩ := C.out.flat
  obtain ⟨a0, a1, a2, a3, a4, a5, a6, a7, a8, a9, b0, b1, b2, b3, b4, b5, b6, b7, b8, b9⟩ := Z.out.flat
  go_region_held3 (fun W => W.cell? ⟨w.heap.size + 1, 0, none⟩ = some (.int .u16 (p.proto : Int)) ∧ W.cell? ⟨w.heap.size + 1, 1, none⟩ = some (.int .u8 (p.code : Int)) ∧ W.cell? ⟨w.heap.size + 1, 2, none⟩ = some (.int .u8 (p.id : Int)) ∧ W.cell? ⟨w.heap.size + 1, 3, none⟩ = some (.slice q.ao q.no q.co) ∧ W.cell? ⟨w.heap.size + 1, 4, none⟩ = some (.int .u16 (p.sub : Int)) ∧ W.cell? ⟨w.heap.size + 1, 5, none⟩ = some (.int .u32 (p.magic : Int)) ∧ W.cell? ⟨w.heap.size + 1, 6, none⟩ = some (.slice q.a1 q.n1 q.c1) ∧ W.cell? ⟨w.heap.size + 1, 7, none⟩ = some (.slice q.a2 q.n2 q.c2) ∧ W.cell? ⟨w.heap.size + 1, 8, none⟩ = some (.slice q.ad q.nd q.cd) ∧ W.cell? ⟨w.heap.size + 1, 9, none⟩ = some (.slice q.an q.nn q.cn) ∧ W.cell? ⟨w.heap.size + 2, 0, none⟩ = some (.int .u16 (o.proto : Int)) ∧ W.cell? ⟨w.heap.size + 2, 1, none⟩ = some (.int .u8 (o.code : Int)) ∧ W.cell? ⟨w.heap.size + 2, 2, none⟩ = some (.int .u8 (o.id : Int)) ∧ W.cell? ⟨w.heap.size + 2, 3, none⟩ = some (.slice r.ao r.no r.co) ∧ W.cell? ⟨w.heap.size + 2, 4, none⟩ = some (.int .u16 (o.sub : Int)) ∧ W.cell? ⟨w.heap.size + 2, 5, none⟩ = some (.int .u32 (o.magic : Int)) ∧ W.cell? ⟨w.heap.size + 2, 6, none⟩ = some (.slice r.a1 r.n1 r.c1) ∧ W.cell? ⟨w.heap.size + 2, 7, none⟩ = some (.slice r.a2 r.n2 r.c2) ∧ W.cell? ⟨w.heap.size + 2, 8, none⟩ = some (.slice r.ad r.nd r.cd) ∧ W.cell? ⟨w.heap.size + 2, 9, none⟩ = some (.slice r.an r.nn r.cn) ∧ W.cell? ⟨g1, 0, none⟩ = some (.int .u16 (y.proto : Int)) ∧ W.cell? ⟨g1, 1, none⟩ = some (.int .u8 (y.code : Int)) ∧ W.cell? ⟨g1, 2, none⟩ = some (.int .u8 (y.id : Int)) ∧ W.cell? ⟨g1, 3, none⟩ = some (.slice q1.ao q1.no q1.co) ∧ W.cell? ⟨g1, 4, none⟩ = some (.int .u16 (y.sub : Int)) ∧ W.cell? ⟨g1, 5, none⟩ = some (.int .u32 (y.magic : Int)) ∧ W.cell? ⟨g1, 6, none⟩ = some (.slice q1.a1 q1.n1 q1.c1) ∧ W.cell? ⟨g1, 7, none⟩ = some (.slice q1.a2 q1.n2 q1.c2) ∧ W.cell? ⟨g1, 8, none⟩ = some (.slice q1.ad q1.nd q1.cd) ∧ W.cell? ⟨g1, 9, none⟩ = some (.slice q1.an q1.nn q1.cn) ∧ W.cell? ⟨g2, 0, none⟩ = some (.int .u16 (y.proto : Int)) ∧ W.cell? ⟨g2, 1, none⟩ = some (.int .u8 (y.code : Int)) ∧ W.cell? ⟨g2, 2, none⟩ = some (.int .u8 (y.id : Int)) ∧ W.cell? ⟨g2, 3, none⟩ = some (.slice q2.ao q2.no q2.co) ∧ W.cell? ⟨g2, 4, none⟩ = some (.int .u16 (y.sub : Int)) ∧ W.cell? ⟨g2, 5, none⟩ = some (.int .u32 (y.magic : Int)) ∧ W.cell? ⟨g2, 6, none⟩ = some (.slice q2.a1 q2.n1 q2.c1) ∧ W.cell? ⟨g2, 7, none⟩ = some (.slice q2.a2 q2.n2 q2.c2) ∧ W.cell? ⟨g2, 8, none⟩ = some (.slice q2.ad q2.nd q2.cd) ∧ W.cell? ⟨g2, 9, none⟩ = some (.slice q2.an q2.nn q2.cn)) (first | (with_reducible exact flatB C.out.flat Z.out.flat) | (with_reducible exact flatB C.out.drew.flat Z.out.drew.flat)) (first
    | (go_at_call 11; (first | (with_reducible refine (equal_yes m m n n _ _ _ _ _ Z.out.ra Z.out.rb hn.out hn.out (by omega) rfl).mono ?_) | (with_reducible refine (equal_yes m m n n _ _ _ _ _ Z.out.drew.ra Z.out.drew.rb hn.out hn.out (by omega) rfl).mono ?_)); rintro e wn ⟨rfl, hb⟩; (try replace P3 := Lib.hid (P3.out.on hb)); (try replace P4 := Lib.hid (P4.out.on hb)); (try replace P5 := Lib.hid (P5.out.on hb)); replace Z := Lib.hid (Z.out.step hb); replace C := Lib.hid (C.out.step hb); clear hb; dsimp only)
    | (go_at_call 13; (first | (with_reducible refine (to15_any y q1 _ Z.out.p1 (by rw [← Z.out.p1.lo]; exact HY.out.o)).mono ?_) | (with_reducible refine (to15_any y q1 _ Z.out.drew.p1 (by rw [← Z.out.p1.lo]; exact HY.out.o)).mono ?_)); rintro e wn ⟨q3, rfl, hp3, hb⟩; (try replace P4 := Lib.hid (P4.out.on hb)); (try replace P5 := Lib.hid (P5.out.on hb)); replace Z := Lib.hid (Z.out.step hb); replace C := Lib.hid (C.out.step hb); have P3 := Lib.hid hp3; clear hp3 hb; dsimp only)
    | (go_at_call 7; (first | (with_reducible refine (of15_any p q _ C.out.p1 hno2).mono ?_) | (with_reducible refine (of15_any p q _ C.out.drew.p1 hno2).mono ?_)); rintro e wn ⟨r4, rfl, hp3, hb⟩; (try replace P3 := Lib.hid (P3.out.on hb)); (try replace P5 := Lib.hid (P5.out.on hb)); replace Z := Lib.hid (Z.out.step hb); replace C := Lib.hid (C.out.step hb); have P4 := Lib.hid hp3; clear hp3 hb; dsimp only)
    | (go_at_call 7; (first | (with_reducible refine (of15_any o r _ C.out.p2 hnr2).mono ?_) | (with_reducible refine (of15_any o r _ C.out.drew.p2 hnr2).mono ?_)); rintro e wn ⟨r5, rfl, hp3, hb⟩; (try replace P3 := Lib.hid (P3.out.on hb)); (try replace P4 := Lib.hid (P4.out.on hb)); replace Z := Lib.hid (Z.out.step hb); replace C := Lib.hid (C.out.step hb); have P5 := Lib.hid hp3; clear hp3 hb; dsimp only)
    | (go_at_call 12; (with_reducible refine (psame_yes y q3 q2 _ P3.out Z.out.p2 HY.out).mono ?_); rintro e wn ⟨rfl, hb⟩; (try replace P4 := Lib.hid (P4.out.on hb)); (try replace P5 := Lib.hid (P5.out.on hb)); replace Z := Lib.hid (Z.out.step hb); replace C := Lib.hid (C.out.step hb); clear hb; dsimp only)
    | (go_at_call 14; (with_reducible refine (bsame_any p o r4 r5 _ P4.out P5.out HOK.out HOK2.out HS.out z hz.out).mono ?_); rintro e wn ⟨rfl, hb⟩; (try replace P3 := Lib.hid (P3.out.on hb)); replace Z := Lib.hid (Z.out.step hb); replace C := Lib.hid (C.out.step hb); clear hb; dsimp only)
    | (go_at_call 12; (first | (with_reducible refine (psame_any p o q r _ C.out.p1 C.out.p2 HS.out z hz.out).mono ?_) | (with_reducible refine (psame_any p o q r _ C.out.drew.p1 C.out.drew.p2 HS.out z hz.out).mono ?_)); rintro e wn ⟨rfl, hb⟩; (try replace P3 := Lib.hid (P3.out.on hb)); (try replace P4 := Lib.hid (P4.out.on hb)); (try replace P5 := Lib.hid (P5.out.on hb)); replace Z := Lib.hid (Z.out.step hb); replace C := Lib.hid (C.out.step hb); clear hb; dsimp only))
  all_goals (clear x0 x1 x2 x3 x4 x5 x6 x7 x8 x9 y0 y1 y2 y3 y4 y5 y6 y7 y8 y9 a0 a1 a2 a3 a4 a5 a6 a7 a8 a9 b0 b1 b2 b3 b4 b5 b6 b7 b8 b9 Z; try clear P3 P4 P5)
  all_goals (go_upto_region 9 with fail)
  all_goals (obtain ⟨u0, u1, u2, u3, u4, u5, u6, x0, x1, x2, x3, x4, x5, x6, x7, x8, x9⟩ := C.out.cp)
  all_goals (go_region_held3 (fun W => W.cell? ⟨w.heap.size, 0, none⟩ = some (.bool c.sync) ∧ W.cell? ⟨w.heap.size, 1, none⟩ = some (.bool c.wide) ∧ W.cell? ⟨w.heap.size, 2, none⟩ = some (.bool c.acfc) ∧ W.cell? ⟨w.heap.size, 3, none⟩ = some (.bool c.pfc) ∧ W.cell? ⟨w.heap.size, 4, none⟩ = some (.int .u32 (c.send : Int)) ∧ W.cell? ⟨w.heap.size, 5, none⟩ = some (.int .u32 (c.recv : Int)) ∧ W.cell? ⟨w.heap.size, 6, none⟩ = some (.int .i64 c.mru) ∧ W.cell? ⟨w.heap.size + 1, 0, none⟩ = some (.int .u16 (p.proto : Int)) ∧ W.cell? ⟨w.heap.size + 1, 1, none⟩ = some (.int .u8 (p.code : Int)) ∧ W.cell? ⟨w.heap.size + 1, 2, none⟩ = some (.int .u8 (p.id : Int)) ∧ W.cell? ⟨w.heap.size + 1, 3, none⟩ = some (.slice q.ao q.no q.co) ∧ W.cell? ⟨w.heap.size + 1, 4, none⟩ = some (.int .u16 (p.sub : Int)) ∧ W.cell? ⟨w.heap.size + 1, 5, none⟩ = some (.int .u32 (p.magic : Int)) ∧ W.cell? ⟨w.heap.size + 1, 6, none⟩ = some (.slice q.a1 q.n1 q.c1) ∧ W.cell? ⟨w.heap.size + 1, 7, none⟩ = some (.slice q.a2 q.n2 q.c2) ∧ W.cell? ⟨w.heap.size + 1, 8, none⟩ = some (.slice q.ad q.nd q.cd) ∧ W.cell? ⟨w.heap.size + 1, 9, none⟩ = some (.slice q.an q.nn q.cn)) (first | (with_reducible exact C.out.cp) | (with_reducible exact C.out.drew.cp)) (first
    | (go_at_call 15; (with_reducible refine (rcheck_z c HCH.out _).mono ?_); rintro e wn ⟨rfl, hb⟩; (try replace P4 := Lib.hid (P4.out.on hb)); replace C := Lib.hid (C.out.step hb); clear hb; dsimp only)
    | (go_at_call 7; (first | (with_reducible refine (of15_any p q _ C.out.p1 hno2).mono ?_) | (with_reducible refine (of15_any p q _ C.out.drew.p1 hno2).mono ?_)); rintro e wn ⟨r4, rfl, hp3, hb⟩; replace C := Lib.hid (C.out.step hb); have P4 := Lib.hid hp3; clear hp3 hb; dsimp only)
    | (go_at_call 16; (with_reducible refine (bchk_any c p r4 _ P4.out HOK.out HS.out k3 hk3.out).mono ?_); rintro e wn ⟨rfl, hb⟩; replace C := Lib.hid (C.out.step hb); clear hb; dsimp only)
    | (go_at_call 17; (first | (with_reducible refine (rbchk_any c.mru p q _ C.out.p1 HOK.out HS.out k3 hk3.out).mono ?_) | (with_reducible refine (rbchk_any c.mru p q _ C.out.drew.p1 HOK.out HS.out k3 hk3.out).mono ?_)); rintro e wn ⟨rfl, hb⟩; (try replace P4 := Lib.hid (P4.out.on hb)); replace C := Lib.hid (C.out.step hb); clear hb; dsimp only)))
  all_goals go_wp2_with fail
  all_goals
    go_ret
    exact ⟨rfl, C.out.bel⟩

set_option maxRecDepth 8000 in
set_option maxHeartbeats 80000000 in
theorem btl_not (c : Cf) (p : Pk) (q : Pl) (o : Pk) (r : Pl) (t : Nat) (A1 : Option Addr) (n1 c1 : Nat) (w : World) (h : IsPk w p q) (h' : IsPk w o r) (ht : t < 65536) (b : List Nat) (hR : Rd w w.heap.size A1 b) (hB : By b) (hL : b.length = n1) (hc1 : n1 ≤ c1) (hf : fewP p = true) (hf2 : fewP o = true) (h1 : n1 ≤ 600) (hch : ¬ chk c.mru = 0) :
    Calls Tryz.prog 3 #[c.val, p.val q, o.val r, .int .u16 (t : Int), .slice A1 n1 c1] w fun e w' => e = .returned (.bool true) ∧ Below w.heap.size w w' := by
  have C := Lib.hid (TbC.made w c p q o r h.pw h'.pw)
  have hno := h.no
  have HD := Lib.hid h.od
  have hnr := h'.no
  have HD2 := Lib.hid h'.od
  have HOK := Lib.hid h.ok
  have HOK2 := Lib.hid h'.ok
  have HS := Lib.hid (fewP_sm hf)
  have HF := Lib.hid hf
  have HF2 := Lib.hid hf2
  have HR := Lib.hid hR
  have HB := Lib.hid hB
  have HL := Lib.hid hL
  have HC1 := Lib.hid hc1
  have H65 := Lib.hid ht
  have wt : wrap64 (t : Int) = (t : Int) := by unfold wrap64; omega
  have hno2 : q.no ≤ 1073741824 := by rw [← h.pw.lo]; exact (fewP_sm hf).o
  have hnr2 : r.no ≤ 1073741824 := by rw [← h'.pw.lo]; exact (fewP_sm hf2).o
  have j1 : ¬ (600 : Int) < (n1 : Int) := by omega
  have HN1 := Lib.hid (show n1 ≤ 1073741824 by omega)
  obtain ⟨m, k, hm⟩ : ∃ m k, Hid (bputB p = (m, k)) := ⟨_, _, Lib.hid rfl⟩
  obtain ⟨n, hn⟩ : ∃ n, Hid (m.length = n) := ⟨_, Lib.hid rfl⟩
  have n9 : n ≤ 2000 := by rw [← hn.out]; exact bput_len hm.out hf
  obtain ⟨y, k2, hy⟩ : ∃ y k2, Hid (bgetB t b = (y, k2)) := ⟨_, _, Lib.hid rfl⟩
  have HY := Lib.hid (bget_ok ht hB hy.out (by omega)).2
  obtain ⟨z, hz⟩ : ∃ z, Hid (decide (p = o) = z) := ⟨_, Lib.hid rfl⟩
  obtain ⟨k3, hk3⟩ : ∃ k, Hid (bchkB c.mru p = k) := ⟨_, Lib.hid rfl⟩
  obtain ⟨kc, hkc⟩ : ∃ x, Hid (chk c.mru = x) := ⟨_, Lib.hid rfl⟩
  have gk : (kc != 0) = true := by rw [bne_iff_ne, ← hkc.out]; exact hch
  clear h h' hR hB hL hf hf2 ht hc1 hch
  go_enter Tryz.func3, Tryz.ntmps3
  go_upto_region 7 with (first
    | (go_at_call 4; (with_reducible refine (speaks20 _).mono ?_); rintro e wn ⟨rfl, hb⟩; replace C := Lib.hid (C.out.step hb); clear hb; (try clear x0 x1 x2 x3 x4 x5 x6 x7 x8 x9 y0 y1 y2 y3 y4 y5 y6 y7 y8 y9); obtain ⟨x0, x1, x2, x3, x4, x5, x6, x7, x8, x9, y0, y1, y2, y3, y4, y5, y6, y7, y8, y9⟩ := C.out.flat)
    | (go_at_call 5; (with_reducible refine (few15_any p q _ C.out.p1 hno HD.out _ HF.out).mono ?_); rintro e wn ⟨rfl, hb⟩; replace C := Lib.hid (C.out.step hb); clear hb; (try clear x0 x1 x2 x3 x4 x5 x6 x7 x8 x9 y0 y1 y2 y3 y4 y5 y6 y7 y8 y9); obtain ⟨x0, x1, x2, x3, x4, x5, x6, x7, x8, x9, y0, y1, y2, y3, y4, y5, y6, y7, y8, y9⟩ := C.out.flat)
    | (go_at_call 5; (with_reducible refine (few15_any o r _ C.out.p2 hnr HD2.out _ HF2.out).mono ?_); rintro e wn ⟨rfl, hb⟩; replace C := Lib.hid (C.out.step hb); clear hb; (try clear x0 x1 x2 x3 x4 x5 x6 x7 x8 x9 y0 y1 y2 y3 y4 y5 y6 y7 y8 y9); obtain ⟨x0, x1, x2, x3, x4, x5, x6, x7, x8, x9, y0, y1, y2, y3, y4, y5, y6, y7, y8, y9⟩ := C.out.flat)
    | (go_at_call 7; (with_reducible refine (of15_any p q _ C.out.p1 hno2).mono ?_); rintro e wn ⟨r1, rfl, hp, hb⟩; have P := Lib.hid hp; replace C := Lib.hid (C.out.step hb); clear hp hb; (try clear x0 x1 x2 x3 x4 x5 x6 x7 x8 x9 y0 y1 y2 y3 y4 y5 y6 y7 y8 y9); obtain ⟨x0, x1, x2, x3, x4, x5, x6, x7, x8, x9, y0, y1, y2, y3, y4, y5, y6, y7, y8, y9⟩ := C.out.flat)
    | (go_at_call 6; (with_reducible refine (bput_any p r1 _ P.out HOK.out HS.out m k hm.out n hn.out).mono ?_); rintro e wn ⟨A5, c5, rfl, h5, h5c, hb⟩; replace C := Lib.hid (C.out.step hb); have X5 := Lib.hid h5; clear h5 h5c hb P; (try clear x0 x1 x2 x3 x4 x5 x6 x7 x8 x9 y0 y1 y2 y3 y4 y5 y6 y7 y8 y9); obtain ⟨x0, x1, x2, x3, x4, x5, x6, x7, x8, x9, y0, y1, y2, y3, y4, y5, y6, y7, y8, y9⟩ := C.out.flat)
    | (go_at_call 8; (with_reducible refine (rbput_any p q _ C.out.p1 HOK.out HS.out m k hm.out n hn.out).mono ?_); rintro e wn ⟨A6, c6, rfl, h6, h6c, hb⟩; replace C := Lib.hid (C.out.step hb); replace X5 := Lib.hid (X5.out.ons hb); have X6 := Lib.hid h6; clear h6 h6c hb; clear x0 x1 x2 x3 x4 x5 x6 x7 x8 x9 y0 y1 y2 y3 y4 y5 y6 y7 y8 y9)
    | (go_at_call 9; (with_reducible refine (bget_any t b n1 c1 A1 _ (HR.out.ons C.out.bel) HB.out HL.out HN1.out HC1.out H65.out y k2 hy.out).mono ?_); rintro e w9 ⟨q1, rfl, hp1, hb⟩; have ba := (Below.refl w9.heap.size w9).alloc (Nat.le_refl _) (y.obj q1 38); have P1 := Lib.hid (hp1.pw.on ba); have XX1 := Lib.hid (px_new w9 38 y q1); replace X5 := Lib.hid ((X5.out.ons hb).ons ba); replace X6 := Lib.hid ((X6.out.ons hb).ons ba); replace C := Lib.hid ((C.out.step hb).step ba); clear hp1 hb ba)
    | (go_at_call 10; (with_reducible refine (rbget_any t b n1 c1 A1 _ (fun _ => True) (fun _ _ => trivial) (HR.out.ons C.out.bel).rdT HB.out HL.out HN1.out HC1.out H65.out y k2 hy.out).mono ?_); rintro e w11 ⟨q2, rfl, hp2, hb⟩; have ba := (Below.refl w11.heap.size w11).alloc (Nat.le_refl _) (y.obj q2 30); have Z := Lib.hid (show TeL w (w11.alloc (y.obj q2 30)) w9.heap.size w11.heap.size y q1 q2 A5 A6 m from ⟨((C.out.step hb).step ba).bel, (XX1.out.below hb).below ba, px_new w11 30 y q2, (P1.out.on hb).on ba, hp2.pw.on ba, (X5.out.ons hb).ons ba, (X6.out.ons hb).ons ba⟩); replace C := Lib.hid ((C.out.step hb).step ba); clear hp2 hb ba P1 XX1 X5 X6))
  obtain ⟨g1, hg1⟩ : ∃ g, Hid (w9.heap.size = g) := ⟨_, Lib.hid rfl⟩
  obtain ⟨g2, hg2⟩ : ∃ g, Hid (w11.heap.size = g) := ⟨_, Lib.hid rfl⟩
  rw [hg1.out, hg2.out] at Z ⊢
  with_reducible refine at_worldP (fun W => Hid (TbC w W c p o q r) ∧ Hid (TeL w W g1 g2 y q1 q2 A5 A6 m)) ⟨C, Z⟩ ?_
  clear C Z hg1 hg2 HR HB HL HC1 H65
  rintro W ⟨C, Z⟩
  obtain ⟨x0, x1, x2, x3, x4, x5, x6, x7, x8, x9, y0, y1, y2, y3, y4, y5, y6, y7, y8, y9⟩ := C.out.flat
  obtain ⟨a0, a1, a2, a3, a4, a5, a6, a7, a8, a9, b0, b1, b2, b3, b4, b5, b6, b7, b8, b9⟩ := Z.out.flat
  go_region_held3 (fun W => W.cell? ⟨w.heap.size + 1, 0, none⟩ = some (.int .u16 (p.proto : Int)) ∧ W.cell? ⟨w.heap.size + 1, 1, none⟩ = some (.int .u8 (p.code : Int)) ∧ W.cell? ⟨w.heap.size + 1, 2, none⟩ = some (.int .u8 (p.id : Int)) ∧ W.cell? ⟨w.heap.size + 1, 3, none⟩ = some (.slice q.ao q.no q.co) ∧ W.cell? ⟨w.heap.size + 1, 4, none⟩ = some (.int .u16 (p.sub : Int)) ∧ W.cell? ⟨w.heap.size + 1, 5, none⟩ = some (.int .u32 (p.magic : Int)) ∧ W.cell? ⟨w.heap.size + 1, 6, none⟩ = some (.slice q.a1 q.n1 q.c1) ∧ W.cell? ⟨w.heap.size + 1, 7, none⟩ = some (.slice q.a2 q.n2 q.c2) ∧ W.cell? ⟨w.heap.size + 1, 8, none⟩ = some (.slice q.ad q.nd q.cd) ∧ W.cell? ⟨w.heap.size + 1, 9, none⟩ = some (.slice q.an q.nn q.cn) ∧ W.cell? ⟨w.heap.size + 2, 0, none⟩ = some (.int .u16 (o.proto : Int)) ∧ W.cell? ⟨w.heap.size + 2, 1, none⟩ = some (.int .u8 (o.code : Int)) ∧ W.cell? ⟨w.heap.size + 2, 2, none⟩ = some (.int .u8 (o.id : Int)) ∧ W.cell? ⟨w.heap.size + 2, 3, none⟩ = some (.slice r.ao r.no r.co) ∧ W.cell? ⟨w.heap.size + 2, 4, none⟩ = some (.int .u16 (o.sub : Int)) ∧ W.cell? ⟨w.heap.size + 2, 5, none⟩ = some (.int .u32 (o.magic : Int)) ∧ W.cell? ⟨w.heap.size + 2, 6, none⟩ = some (.slice r.a1 r.n1 r.c1) ∧ W.cell? ⟨w.heap.size + 2, 7, none⟩ = some (.slice r.a2 r.n2 r.c2) ∧ W.cell? ⟨w.heap.size + 2, 8, none⟩ = some (.slice r.ad r.nd r.cd) ∧ W.cell? ⟨w.heap.size + 2, 9, none⟩ = some (.slice r.an r.nn r.cn) ∧ W.cell? ⟨g1, 0, none⟩ = some (.int .u16 (y.proto : Int)) ∧ W.cell? ⟨g1, 1, none⟩ = some (.int .u8 (y.code : Int)) ∧ W.cell? ⟨g1, 2, none⟩ = some (.int .u8 (y.id : Int)) ∧ W.cell? ⟨g1, 3, none⟩ = some (.slice q1.ao q1.no q1.co) ∧ W.cell? ⟨g1, 4, none⟩ = some (.int .u16 (y.sub : Int)) ∧ W.cell? ⟨g1, 5, none⟩ = some (.int .u32 (y.magic : Int)) ∧ W.cell? ⟨g1, 6, none⟩ = some (.slice q1.a1 q1.n1 q1.c1) ∧ W.cell? ⟨g1, 7, none⟩ = some (.slice q1.a2 q1.n2 q1.c2) ∧ W.cell? ⟨g1, 8, none⟩ = some (.slice q1.ad q1.nd q1.cd) ∧ W.cell? ⟨g1, 9, none⟩ = some (.slice q1.an q1.nn q1.cn) ∧ W.cell? ⟨g2, 0, none⟩ = some (.int .u16 (y.proto : Int)) ∧ W.cell? ⟨g2, 1, none⟩ = some (.int .u8 (y.code : Int)) ∧ W.cell? ⟨g2, 2, none⟩ = some (.int .u8 (y.id : Int)) ∧ W.cell? ⟨g2, 3, none⟩ = some (.slice q2.ao q2.no q2.co) ∧ W.cell? ⟨g2, 4, none⟩ = some (.int .u16 (y.sub : Int)) ∧ W.cell? ⟨g2, 5, none⟩ = some (.int .u32 (y.magic : Int)) ∧ W.cell? ⟨g2, 6, none⟩ = some (.slice q2.a1 q2.n1 q2.c1) ∧ W.cell? ⟨g2, 7, none⟩ = some (.slice q2.a2 q2.n2 q2.c2) ∧ W.cell? ⟨g2, 8, none⟩ = some (.slice q2.ad q2.nd q2.cd) ∧ W.cell? ⟨g2, 9, none⟩ = some (.slice q2.an q2.nn q2.cn)) (first | (with_reducible exact flatB C.out.flat Z.out.flat) | (with_reducible exact flatB C.out.drew.flat Z.out.drew.flat)) (first
    | (go_at_call 11; (first | (with_reducible refine (equal_yes m m n n _ _ _ _ _ Z.out.ra Z.out.rb hn.out hn.out (by omega) rfl).mono ?_) | (with_reducible refine (equal_yes m m n n _ _ _ _ _ Z.out.drew.ra Z.out.drew.rb hn.out hn.out (by omega) rfl).mono ?_)); rintro e wn ⟨rfl, hb⟩; (try replace P3 := Lib.hid (P3.out.on hb)); (try replace P4 := Lib.hid (P4.out.on hb)); (try replace P5 := Lib.hid (P5.out.on hb)); replace Z := Lib.hid (Z.out.step hb); replace C := Lib.hid (C.out.step hb); clear hb; dsimp only)
    | (go_at_call 13; (first | (with_reducible refine (to15_any y q1 _ Z.out.p1 (by rw [← Z.out.p1.lo]; exact HY.out.o)).mono ?_) | (with_reducible refine (to15_any y q1 _ Z.out.drew.p1 (by rw [← Z.out.p1.lo]; exact HY.out.o)).mono ?_)); rintro e wn ⟨q3, rfl, hp3, hb⟩; (try replace P4 := Lib.hid (P4.out.on hb)); (try replace P5 := Lib.hid (P5.out.on hb)); replace Z := Lib.hid (Z.out.step hb); replace C := Lib.hid (C.out.step hb); have P3 := Lib.hid hp3; clear hp3 hb; dsimp only)
    | (go_at_call 7; (first | (with_reducible refine (of15_any p q _ C.out.p1 hno2).mono ?_) | (with_reducible refine (of15_any p q _ C.out.drew.p1 hno2).mono ?_)); rintro e wn ⟨r4, rfl, hp3, hb⟩; (try replace P3 := Lib.hid (P3.out.on hb)); (try replace P5 := Lib.hid (P5.out.on hb)); replace Z := Lib.hid (Z.out.step hb); replace C := Lib.hid (C.out.step hb); have P4 := Lib.hid hp3; clear hp3 hb; dsimp only)
    | (go_at_call 7; (first | (with_reducible refine (of15_any o r _ C.out.p2 hnr2).mono ?_) | (with_reducible refine (of15_any o r _ C.out.drew.p2 hnr2).mono ?_)); rintro e wn ⟨r5, rfl, hp3, hb⟩; (try replace P3 := Lib.hid (P3.out.on hb)); (try replace P4 := Lib.hid (P4.out.on hb)); replace Z := Lib.hid (Z.out.step hb); replace C := Lib.hid (C.out.step hb); have P5 := Lib.hid hp3; clear hp3 hb; dsimp only)
    | (go_at_call 12; (with_reducible refine (psame_yes y q3 q2 _ P3.out Z.out.p2 HY.out).mono ?_); rintro e wn ⟨rfl, hb⟩; (try replace P4 := Lib.hid (P4.out.on hb)); (try replace P5 := Lib.hid (P5.out.on hb)); replace Z := Lib.hid (Z.out.step hb); replace C := Lib.hid (C.out.step hb); clear hb; dsimp only)
    | (go_at_call 14; (with_reducible refine (bsame_any p o r4 r5 _ P4.out P5.out HOK.out HOK2.out HS.out z hz.out).mono ?_); rintro e wn ⟨rfl, hb⟩; (try replace P3 := Lib.hid (P3.out.on hb)); replace Z := Lib.hid (Z.out.step hb); replace C := Lib.hid (C.out.step hb); clear hb; dsimp only)
    | (go_at_call 12; (first | (with_reducible refine (psame_any p o q r _ C.out.p1 C.out.p2 HS.out z hz.out).mono ?_) | (with_reducible refine (psame_any p o q r _ C.out.drew.p1 C.out.drew.p2 HS.out z hz.out).mono ?_)); rintro e wn ⟨rfl, hb⟩; (try replace P3 := Lib.hid (P3.out.on hb)); (try replace P4 := Lib.hid (P4.out.on hb)); (try replace P5 := Lib.hid (P5.out.on hb)); replace Z := Lib.hid (Z.out.step hb); replace C := Lib.hid (C.out.step hb); clear hb; dsimp only))
  all_goals (clear x0 x1 x2 x3 x4 x5 x6 x7 x8 x9 y0 y1 y2 y3 y4 y5 y6 y7 y8 y9 a0 a1 a2 a3 a4 a5 a6 a7 a8 a9 b0 b1 b2 b3 b4 b5 b6 b7 b8 b9 Z; try clear P3 P4 P5)
  all_goals (go_upto_region 9 with fail)
  all_goals (obtain ⟨u0, u1, u2, u3, u4, u5, u6, x0, x1, x2, x3, x4, x5, x6, x7, x8, x9⟩ := C.out.cp)
  all_goals
    refine wp_region_held_drew (S := (fun W => W.cell? ⟨w.heap.size, 0, none⟩ = some (.bool c.sync) ∧ W.cell? ⟨w.heap.size, 1, none⟩ = some (.bool c.wide) ∧ W.cell? ⟨w.heap.size, 2, none⟩ = some (.bool c.acfc) ∧ W.cell? ⟨w.heap.size, 3, none⟩ = some (.bool c.pfc) ∧ W.cell? ⟨w.heap.size, 4, none⟩ = some (.int .u32 (c.send : Int)) ∧ W.cell? ⟨w.heap.size, 5, none⟩ = some (.int .u32 (c.recv : Int)) ∧ W.cell? ⟨w.heap.size, 6, none⟩ = some (.int .i64 c.mru) ∧ W.cell? ⟨w.heap.size + 1, 0, none⟩ = some (.int .u16 (p.proto : Int)) ∧ W.cell? ⟨w.heap.size + 1, 1, none⟩ = some (.int .u8 (p.code : Int)) ∧ W.cell? ⟨w.heap.size + 1, 2, none⟩ = some (.int .u8 (p.id : Int)) ∧ W.cell? ⟨w.heap.size + 1, 3, none⟩ = some (.slice q.ao q.no q.co) ∧ W.cell? ⟨w.heap.size + 1, 4, none⟩ = some (.int .u16 (p.sub : Int)) ∧ W.cell? ⟨w.heap.size + 1, 5, none⟩ = some (.int .u32 (p.magic : Int)) ∧ W.cell? ⟨w.heap.size + 1, 6, none⟩ = some (.slice q.a1 q.n1 q.c1) ∧ W.cell? ⟨w.heap.size + 1, 7, none⟩ = some (.slice q.a2 q.n2 q.c2) ∧ W.cell? ⟨w.heap.size + 1, 8, none⟩ = some (.slice q.ad q.nd q.cd) ∧ W.cell? ⟨w.heap.size + 1, 9, none⟩ = some (.slice q.an q.nn q.cn))) (by kernel_rfl) (by (first | exact C.out.cp | exact C.out.drew.cp)) (fun _ => ?_)
    refine wpAnyH_take (i := 0) (oi := ?o0) (v := ?v0) ?hi0 (by kernel_rfl) (by kernel_rfl) (by kernel_rfl) ?hq0 (Or.inl ⟨?hw0, ?hy0⟩) (by (first | exact C.out.cp | exact C.out.drew.cp)) ?rest0
    case hi0 => (simp only [List.getElem?_toArray, List.getElem?_cons_zero]; rfl)
    case hw0 => (rfl)
    case hq0 => (exact fun _ _ _ h => h)
    case hy0 => (intro w hSw; (try dsimp only at hSw); go_simp; (try with_reducible rfl))
    try simp only [Act.put, List.setIfInBounds_toArray, List.set_cons_zero, List.set_cons_succ]
    refine wpAnyH_ready (rs := [1]) (by kernel_rfl) (by simp) ?_
    refine AllReadyH.cons (o := ?o1) ?hi1 (fun K hK => ?st1) AllReadyH.nil
    case hi1 => (simp only [List.getElem?_toArray, List.getElem?_cons_succ, List.getElem?_cons_zero]; rfl)
    go_simp
    go_at_call 15; (first | (with_reducible refine (rcheck_v c kc hkc.out _).mono ?_)); rintro e wn ⟨rfl, hb⟩; replace C := Lib.hid (C.out.step hb); clear hb; dsimp only
    refine hK.out _ _ (by (first | exact C.out.cp | exact C.out.drew.cp)) (fun _ => ?_)
    clear hK K
    try simp only [Act.put, List.setIfInBounds_toArray, List.set_cons_zero, List.set_cons_succ]
    refine wpAnyH_take (i := 2) (oi := ?o2) (v := ?v2) ?hi2 (by kernel_rfl) (by kernel_rfl) (by kernel_rfl) ?hq2 (Or.inl ⟨?hw2, ?hy2⟩) (by (first | exact C.out.cp | exact C.out.drew.cp)) ?rest2
    case hi2 => (simp only [List.getElem?_toArray, List.getElem?_cons_succ, List.getElem?_cons_zero]; rfl)
    case hw2 => (rfl)
    case hq2 => (exact fun _ _ _ h => h)
    case hy2 => (intro w hSw; (try dsimp only at hSw); go_simp; (try with_reducible rfl))
    try simp only [Act.put, List.setIfInBounds_toArray, List.set_cons_zero, List.set_cons_succ]
    refine wpAnyH_take (i := 3) (oi := ?o3) (v := ?v3) ?hi3 (by kernel_rfl) (by kernel_rfl) (by kernel_rfl) ?hq3 (Or.inl ⟨?hw3, ?hy3⟩) (by (first | exact C.out.cp | exact C.out.drew.cp)) ?rest3
    case hi3 => (simp only [List.getElem?_toArray, List.getElem?_cons_succ, List.getElem?_cons_zero]; rfl)
    case hw3 => (rfl)
    case hq3 => (exact fun _ _ _ h => h)
    case hy3 => (intro w hSw; (try dsimp only at hSw); go_simp; (try with_reducible rfl))
    try simp only [Act.put, List.setIfInBounds_toArray, List.set_cons_zero, List.set_cons_succ]
    refine wpAnyH_take (i := 4) (oi := ?o4) (v := undef) ?hi4 (by kernel_rfl) (by kernel_rfl) (by kernel_rfl) ?hq4 (Or.inr ⟨?hw4, rfl⟩) (by (first | exact C.out.cp | exact C.out.drew.cp)) ?rest4
    case hi4 => (simp only [List.getElem?_toArray, List.getElem?_cons_succ, List.getElem?_cons_zero]; rfl)
    case hq4 => (exact fun _ _ _ h => h)
    case hw4 => (rfl)
    try simp only [Act.put, List.setIfInBounds_toArray, List.set_cons_zero, List.set_cons_succ]
    refine wpAnyH_take (i := 5) (oi := ?o5) (v := undef) ?hi5 (by kernel_rfl) (by kernel_rfl) (by kernel_rfl) ?hq5 (Or.inr ⟨?hw5, rfl⟩) (by (first | exact C.out.cp | exact C.out.drew.cp)) ?rest5
    case hi5 => (simp only [List.getElem?_toArray, List.getElem?_cons_succ, List.getElem?_cons_zero]; rfl)
    case hq5 => (exact fun _ _ _ h => h)
    case hw5 => (rfl)
    try simp only [Act.put, List.setIfInBounds_toArray, List.set_cons_zero, List.set_cons_succ]
    refine wpAnyH_take (i := 6) (oi := ?o6) (v := undef) ?hi6 (by kernel_rfl) (by kernel_rfl) (by kernel_rfl) ?hq6 (Or.inr ⟨?hw6, rfl⟩) (by (first | exact C.out.cp | exact C.out.drew.cp)) ?rest6
    case hi6 => (simp only [List.getElem?_toArray, List.getElem?_cons_succ, List.getElem?_cons_zero]; rfl)
    case hq6 => (exact fun _ _ _ h => h)
    case hw6 => (rfl)
    try simp only [Act.put, List.setIfInBounds_toArray, List.set_cons_zero, List.set_cons_succ]
    refine wpAnyH_take (i := 7) (oi := ?o7) (v := undef) ?hi7 (by kernel_rfl) (by kernel_rfl) (by kernel_rfl) ?hq7 (Or.inr ⟨?hw7, rfl⟩) (by (first | exact C.out.cp | exact C.out.drew.cp)) ?rest7
    case hi7 => (simp only [List.getElem?_toArray, List.getElem?_cons_succ, List.getElem?_cons_zero]; rfl)
    case hq7 => (exact fun _ _ _ h => h)
    case hw7 => (rfl)
    try simp only [Act.put, List.setIfInBounds_toArray, List.set_cons_zero, List.set_cons_succ]
    refine wpAnyH_take (i := 8) (oi := ?o8) (v := undef) ?hi8 (by kernel_rfl) (by kernel_rfl) (by kernel_rfl) ?hq8 (Or.inr ⟨?hw8, rfl⟩) (by (first | exact C.out.cp | exact C.out.drew.cp)) ?rest8
    case hi8 => (simp only [List.getElem?_toArray, List.getElem?_cons_succ, List.getElem?_cons_zero]; rfl)
    case hq8 => (exact fun _ _ _ h => h)
    case hw8 => (rfl)
    try simp only [Act.put, List.setIfInBounds_toArray, List.set_cons_zero, List.set_cons_succ]
    refine wpAnyH_take (i := 9) (oi := ?o9) (v := undef) ?hi9 (by kernel_rfl) (by kernel_rfl) (by kernel_rfl) ?hq9 (Or.inr ⟨?hw9, rfl⟩) (by (first | exact C.out.cp | exact C.out.drew.cp)) ?rest9
    case hi9 => (simp only [List.getElem?_toArray, List.getElem?_cons_succ, List.getElem?_cons_zero]; rfl)
    case hq9 => (exact fun _ _ _ h => h)
    case hw9 => (rfl)
    try simp only [Act.put, List.setIfInBounds_toArray, List.set_cons_zero, List.set_cons_succ]
    refine wpAnyH_take (i := 10) (oi := ?o10) (v := undef) ?hi10 (by kernel_rfl) (by kernel_rfl) (by kernel_rfl) ?hq10 (Or.inr ⟨?hw10, rfl⟩) (by (first | exact C.out.cp | exact C.out.drew.cp)) ?rest10
    case hi10 => (simp only [List.getElem?_toArray, List.getElem?_cons_succ, List.getElem?_cons_zero]; rfl)
    case hq10 => (exact fun _ _ _ h => h)
    case hw10 => (rfl)
    try simp only [Act.put, List.setIfInBounds_toArray, List.set_cons_zero, List.set_cons_succ]
    refine wpAnyH_take (i := 11) (oi := ?o11) (v := undef) ?hi11 (by kernel_rfl) (by kernel_rfl) (by kernel_rfl) ?hq11 (Or.inr ⟨?hw11, rfl⟩) (by (first | exact C.out.cp | exact C.out.drew.cp)) ?rest11
    case hi11 => (simp only [List.getElem?_toArray, List.getElem?_cons_succ, List.getElem?_cons_zero]; rfl)
    case hq11 => (exact fun _ _ _ h => h)
    case hw11 => (rfl)
    try simp only [Act.put, List.setIfInBounds_toArray, List.set_cons_zero, List.set_cons_succ]
    refine wpAnyH_take (i := 12) (oi := ?o12) (v := undef) ?hi12 (by kernel_rfl) (by kernel_rfl) (by kernel_rfl) ?hq12 (Or.inr ⟨?hw12, rfl⟩) (by (first | exact C.out.cp | exact C.out.drew.cp)) ?rest12
    case hi12 => (simp only [List.getElem?_toArray, List.getElem?_cons_succ, List.getElem?_cons_zero]; rfl)
    case hq12 => (exact fun _ _ _ h => h)
    case hw12 => (rfl)
    try simp only [Act.put, List.setIfInBounds_toArray, List.set_cons_zero, List.set_cons_succ]
    refine wpAnyH_take (i := 13) (oi := ?o13) (v := ?v13) ?hi13 (by kernel_rfl) (by kernel_rfl) (by kernel_rfl) ?hq13 (Or.inl ⟨?hw13, ?hy13⟩) (by (first | exact C.out.cp | exact C.out.drew.cp)) ?rest13
    case hi13 => (simp only [List.getElem?_toArray, List.getElem?_cons_succ, List.getElem?_cons_zero]; rfl)
    case hw13 => (rfl)
    case hq13 => (exact fun _ _ _ h => h)
    case hy13 => (intro w hSw; (try dsimp only at hSw); go_simp; (try with_reducible rfl))
    try simp only [Act.put, List.setIfInBounds_toArray, List.set_cons_zero, List.set_cons_succ]
    refine wpAnyH_take (i := 14) (oi := ?o14) (v := ?v14) ?hi14 (by kernel_rfl) (by kernel_rfl) (by kernel_rfl) ?hq14 (Or.inl ⟨?hw14, ?hy14⟩) (by (first | exact C.out.cp | exact C.out.drew.cp)) ?rest14
    case hi14 => (simp only [List.getElem?_toArray, List.getElem?_cons_succ, List.getElem?_cons_zero]; rfl)
    case hw14 => (rfl)
    case hq14 => (exact fun _ _ _ h => h)
    case hy14 => (intro w hSw; (try dsimp only at hSw); go_simp; (try with_reducible rfl))
    try simp only [Act.put, List.setIfInBounds_toArray, List.set_cons_zero, List.set_cons_succ]
    refine wpAnyH_done (by kernel_rfl) ?_ _
  all_goals go_wp2_with fail
  all_goals
    go_ret
    exact ⟨rfl, C.out.bel⟩

theorem btl_any (c : Cf) (p : Pk) (q : Pl) (o : Pk) (r : Pl) (t : Nat) (A1 : Option Addr) (n1 c1 : Nat) (w : World) (h : IsPk w p q) (h' : IsPk w o r) (ht : t < 65536) (b : List Nat) (hR : Rd w w.heap.size A1 b) (hB : By b) (hL : b.length = n1) (hc1 : n1 ≤ c1) :
    Calls Tryz.prog 3 #[c.val, p.val q, o.val r, .int .u16 (t : Int), .slice A1 n1 c1] w fun e w' => e = .returned (.bool true) ∧ Below w.heap.size w w' := by
  cases hf : fewP p
  · exact btl_few1 c p q o r t A1 n1 c1 w h h' hf
  cases hf2 : fewP o
  · exact btl_few2 c p q o r t A1 n1 c1 w h h' hf hf2
  by_cases hn : n1 ≤ 600
  case neg => exact btl_long c p q o r t A1 n1 c1 w h h' hf hf2 hn
  by_cases hch : chk c.mru = 0
  · exact btl_may c p q o r t A1 n1 c1 w h h' ht b hR hB hL hc1 hf hf2 hn hch
  · exact btl_not c p q o r t A1 n1 c1 w h h' ht b hR hB hL hc1 hf hf2 hn hch
end Go.Proofs.YthebckidjhenlaaGreat
