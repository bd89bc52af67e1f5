
/-
  LcpFields' walk. No condition.
-/
import Derived.Test.YtbmmlkebhiijpaaLcpTW
namespace Go.Proofs.Ytbmmlkebhiijpaa
open Go.RowKit
set_option linter.unusedVariables false

/-- A packet's slices lie in blocks that were there. -/
theorem Pw.pwF {w : World} {p : Pk} {q : Pl} (h : Pw w p q) : PwF (fun i => i < w.heap.size) w p q :=
  ⟨h.lo, h.ro.mono (fun _ hb _ => hb), h.l1, h.r1.rdFlt, h.l2, h.r2.rdFlt, h.ld, h.rd.rdFlt, h.ln, h.rn.mono (fun _ hb _ => hb), h.k1, h.k2, h.kd⟩
/-- What LcpFields knows of the world it stands in: the packet, and its copy, in blocks of their own. -/
structure FiC (w W : World) (g : Nat) (p : Pk) (q : Pl) : Prop where
  bel : Below w.heap.size w W
  cf : Px W w.heap.size 28 p q
  cp : Px W g 28 p q
  lt : w.heap.size < g
  pf : PwF (fun i => i < w.heap.size) W p q
/-- .. its copy, one field turned. -/
structure FiV (w V : World) (g : Nat) (x : Pk) (r : Pl) : Prop where
  bel : Below w.heap.size w V
  cp : Px V g 28 x r
  pw : Pw V x r
section
variable {w W W' : World} {g : Nat} {p : Pk} {q : Pl}
theorem FiC.step (h : FiC w W g p q) (hb : Below W.heap.size W W') : FiC w W' g p q :=
  ⟨h.bel.trans (hb.mono h.bel.size), h.cf.below hb, h.cp.below hb, h.lt, h.pf.keep (.of_below hb)⟩
theorem FiC.al (h : FiC w W g p q) (o : Obj) : FiC w (W.alloc o) g p q := h.step ((Below.refl _ _).alloc (Nat.le_refl _) o)
theorem FiC.setPf (h : FiC w W g p q) (j : Nat) (u : Value) : PwF (fun i => i < w.heap.size) (W.setCell ⟨g, j, none⟩ u) p q := h.pf.keep ((keeps_set W g j u).less (fun i _ hi => by have := h.lt; omega))
theorem FiC.setBel (h : FiC w W g p q) (j : Nat) (u : Value) : Below w.heap.size w (W.setCell ⟨g, j, none⟩ u) := h.bel.setCell (p := ⟨g, j, none⟩) (Nat.le_of_lt h.lt) _
theorem setC_size (W : World) (g j : Nat) (u : Value) : (W.setCell ⟨g, j, none⟩ u).heap.size = W.heap.size := by simp [World.setCell]
/-- What lay, behind a store into the copy and a new block. -/
theorem FiC.both (h : FiC w W g p q) (j : Nat) (u : Value) (o : Obj) : Below w.heap.size w ((W.setCell ⟨g, j, none⟩ u).alloc o) ∧ Pw ((W.setCell ⟨g, j, none⟩ u).alloc o) p q :=
  have hb := (Below.refl (W.setCell ⟨g, j, none⟩ u).heap.size (W.setCell ⟨g, j, none⟩ u)).alloc (Nat.le_refl _) o
  ⟨(h.setBel j u).trans (hb.mono (h.setBel j u).size), ((h.setPf j u).keep (.of_below hb)).pw⟩
theorem lit8 (W : World) (g j : Nat) (u : Value) : Rd ((W.setCell ⟨g, j, none⟩ u).alloc (.cells #[.int .u8 0] 5)) ((W.setCell ⟨g, j, none⟩ u).alloc (.cells #[.int .u8 0] 5)).heap.size (some ⟨W.heap.size, 0, none⟩) [0] := by
  have h := Rd.lit_ (W.setCell ⟨g, j, none⟩ u) [0]
  rw [setC_size] at h
  exact h
theorem Px.al {V : World} {b : Nat} {T : TypeId} {x : Pk} {r : Pl} (h : Px V b T x r) (o : Obj) : Px (V.alloc o) b T x r := h.below ((Below.refl _ _).alloc (Nat.le_refl _) o)
theorem FiC.one (h : FiC w W g p q) : FiV w ((W.setCell ⟨g, 6, none⟩ (.slice (some ⟨W.heap.size, 0, none⟩) 1 1)).alloc (.cells #[.int .u8 0] 5)) g { p with one := [0] } { q with a1 := some ⟨W.heap.size, 0, none⟩, n1 := 1, c1 := 1 } :=
  have h2 := h.both 6 (.slice (some ⟨W.heap.size, 0, none⟩) 1 1) (.cells #[.int .u8 0] 5)
  ⟨h2.1, (h.cp.setOne _ 1 1 [0]).al _, ⟨h2.2.lo, h2.2.ro, rfl, lit8 W g 6 _, h2.2.l2, h2.2.r2, h2.2.ld, h2.2.rd, h2.2.ln, h2.2.rn, Nat.le_refl _, h2.2.k2, h2.2.kd⟩⟩
theorem FiC.two (h : FiC w W g p q) : FiV w ((W.setCell ⟨g, 7, none⟩ (.slice (some ⟨W.heap.size, 0, none⟩) 1 1)).alloc (.cells #[.int .u8 0] 5)) g { p with two := [0] } { q with a2 := some ⟨W.heap.size, 0, none⟩, n2 := 1, c2 := 1 } :=
  have h2 := h.both 7 (.slice (some ⟨W.heap.size, 0, none⟩) 1 1) (.cells #[.int .u8 0] 5)
  ⟨h2.1, (h.cp.setTwo _ 1 1 [0]).al _, ⟨h2.2.lo, h2.2.ro, h2.2.l1, h2.2.r1, rfl, lit8 W g 7 _, h2.2.ld, h2.2.rd, h2.2.ln, h2.2.rn, h2.2.k1, Nat.le_refl _, h2.2.kd⟩⟩
theorem FiC.data (h : FiC w W g p q) : FiV w ((W.setCell ⟨g, 8, none⟩ (.slice (some ⟨W.heap.size, 0, none⟩) 1 1)).alloc (.cells #[.int .u8 0] 5)) g { p with data := [0] } { q with ad := some ⟨W.heap.size, 0, none⟩, nd := 1, cd := 1 } :=
  have h2 := h.both 8 (.slice (some ⟨W.heap.size, 0, none⟩) 1 1) (.cells #[.int .u8 0] 5)
  ⟨h2.1, (h.cp.setData _ 1 1 [0]).al _, ⟨h2.2.lo, h2.2.ro, h2.2.l1, h2.2.r1, h2.2.l2, h2.2.r2, rfl, lit8 W g 8 _, h2.2.ln, h2.2.rn, h2.2.k1, h2.2.k2, Nat.le_refl _⟩⟩
theorem FiC.nums (h : FiC w W g p q) : FiV w ((W.setCell ⟨g, 9, none⟩ (.slice (some ⟨W.heap.size, 0, none⟩) 1 1)).alloc (.cells #[.int .u32 0] 24)) g { p with nums := [0] } { q with an := some ⟨W.heap.size, 0, none⟩, nn := 1, cn := 1 } :=
  have h2 := h.both 9 (.slice (some ⟨W.heap.size, 0, none⟩) 1 1) (.cells #[.int .u32 0] 24)
  have h3 : Orw shN 24 (fun _ => False) (W.setCell ⟨g, 9, none⟩ (.slice (some ⟨W.heap.size, 0, none⟩) 1 1)).heap.size ((W.setCell ⟨g, 9, none⟩ (.slice (some ⟨W.heap.size, 0, none⟩) 1 1)).alloc (.cells #[.int .u32 0] 24)) (.slice (some ⟨(W.setCell ⟨g, 9, none⟩ (.slice (some ⟨W.heap.size, 0, none⟩) 1 1)).heap.size, 0, none⟩) 1 1) [0] :=
    Orw.lit _ [[.int .u32 0]] rfl (fun k x cs hx hk => by
      rcases k with _ | k
      · injection hx with hx
        injection hk with hk
        subst hx; subst hk
        rfl
      · simp at hx) (by simp)
  have h4 : Rws shN (fun _ => True) ((W.setCell ⟨g, 9, none⟩ (.slice (some ⟨W.heap.size, 0, none⟩) 1 1)).alloc (.cells #[.int .u32 0] 24)) (some ⟨W.heap.size, 0, none⟩) [0] := by
    have h5 := h3.read.mono (G := fun _ => True) (fun _ _ _ => trivial)
    rw [setC_size] at h5
    exact h5
  ⟨h2.1, (h.cp.setNums _ 1 1 [0]).al _, ⟨h2.2.lo, h2.2.ro, h2.2.l1, h2.2.r1, h2.2.l2, h2.2.r2, h2.2.ld, h2.2.rd, rfl, h4, h2.2.k1, h2.2.k2, h2.2.kd⟩⟩
theorem FiC.opts (h : FiC w W g p q) : FiV w ((W.setCell ⟨g, 3, none⟩ (.slice (some ⟨W.heap.size, 0, none⟩) 1 1)).alloc (.cells #[.int .u8 0, .slice none 0 0] 50)) g { p with opts := [(0, [])] } { q with ao := some ⟨W.heap.size, 0, none⟩, no := 1, co := 1 } :=
  have h2 := h.both 3 (.slice (some ⟨W.heap.size, 0, none⟩) 1 1) (.cells #[.int .u8 0, .slice none 0 0] 50)
  have h3 : Orw shO 50 (fun _ => False) (W.setCell ⟨g, 3, none⟩ (.slice (some ⟨W.heap.size, 0, none⟩) 1 1)).heap.size ((W.setCell ⟨g, 3, none⟩ (.slice (some ⟨W.heap.size, 0, none⟩) 1 1)).alloc (.cells #[.int .u8 0, .slice none 0 0] 50)) (.slice (some ⟨(W.setCell ⟨g, 3, none⟩ (.slice (some ⟨W.heap.size, 0, none⟩) 1 1)).heap.size, 0, none⟩) 1 1) [(0, [])] := lito _ rfl (Nat.le_refl _) RdF.nil
  have h4 : Rws shO (fun _ => True) ((W.setCell ⟨g, 3, none⟩ (.slice (some ⟨W.heap.size, 0, none⟩) 1 1)).alloc (.cells #[.int .u8 0, .slice none 0 0] 50)) (some ⟨W.heap.size, 0, none⟩) [(0, [])] := by
    have h5 := h3.read.mono (G := fun _ => True) (fun _ _ _ => trivial)
    rw [setC_size] at h5
    exact h5
  ⟨h2.1, (h.cp.setOpts _ 1 1 [(0, [])]).al _, ⟨rfl, h4, h2.2.l1, h2.2.r1, h2.2.l2, h2.2.r2, h2.2.ld, h2.2.rd, h2.2.ln, h2.2.rn, h2.2.k1, h2.2.k2, h2.2.kd⟩⟩
theorem FiC.sub (h : FiC w W g p q) : FiV w (W.setCell ⟨g, 4, none⟩ (.int .u16 1)) g { p with sub := 1 } q :=
  have h2 := (h.setPf 4 (.int .u16 1)).pw
  ⟨h.setBel 4 _, h.cp.setSub 1, ⟨h2.lo, h2.ro, h2.l1, h2.r1, h2.l2, h2.r2, h2.ld, h2.rd, h2.ln, h2.rn, h2.k1, h2.k2, h2.kd⟩⟩
theorem FiC.magic (h : FiC w W g p q) : FiV w (W.setCell ⟨g, 5, none⟩ (.int .u32 1)) g { p with magic := 1 } q :=
  have h2 := (h.setPf 5 (.int .u32 1)).pw
  ⟨h.setBel 5 _, h.cp.setMagic 1, ⟨h2.lo, h2.ro, h2.l1, h2.r1, h2.l2, h2.r2, h2.ld, h2.rd, h2.ln, h2.rn, h2.k1, h2.k2, h2.kd⟩⟩
theorem FiC.proto (h : FiC w W g p q) (v : Nat) : FiV w (W.setCell ⟨g, 0, none⟩ (.int .u16 (v : Int))) g { p with proto := v } q :=
  have h2 := (h.setPf 0 (.int .u16 (v : Int))).pw
  ⟨h.setBel 0 _, h.cp.setProto v, ⟨h2.lo, h2.ro, h2.l1, h2.r1, h2.l2, h2.r2, h2.ld, h2.rd, h2.ln, h2.rn, h2.k1, h2.k2, h2.kd⟩⟩
end
theorem by0 : By [0] := fun x hx => by simp at hx; omega
/-- A field more. -/
theorem noth_more {p : Pk} (h : ¬ ((hasL p.code ≠ 1 → p.opts.length = 0) ∧ (hasL p.code = 1 → p.data.length = 0) ∧ (hasL p.code ≠ 2 → p.sub = 0) ∧ (hasL p.code ≠ 3 → p.magic = 0) ∧ p.one.length = 0 ∧ p.two.length = 0 ∧ p.nums.length = 0)) : nothL (restL p) = false :=
  Bool.eq_false_iff.2 fun e => h ((noth_rest p).1 e)

set_option maxHeartbeats 4000000 in
theorem lfi_few (p : Pk) (q : Pl) (t : Nat) (w : World) (h : IsPk w p q) (hf : fewP p = false) :
    Calls Try.prog 5 #[p.val q, .int .u8 (t : Int)] w fun e w' => e = .returned (.bool true) ∧ Below w.heap.size w w' := by
  have C := Lib.hid (BxC.made 28 w p q)
  have H := Lib.hid h.pw
  have hno := h.no
  have HD := Lib.hid h.od
  have HF := Lib.hid hf
  clear h hf
  go_enter Try.func5, Try.ntmps5
  go_wp2_with (first
    | (go_at_call 6; (with_reducible refine (speaks15 _).mono ?_); rintro e wn ⟨rfl, hb⟩; replace C := Lib.hid (C.out.step hb); clear hb; (try clear x0 x1 x2 x3 x4 x5 x6 x7 x8 x9); obtain ⟨x0, x1, x2, x3, x4, x5, x6, x7, x8, x9⟩ := C.out.cf.all)
    | (go_at_call 7; (with_reducible refine (few15_any p q _ (H.out.on C.out.bel) hno HD.out _ HF.out).mono ?_); rintro e wn ⟨rfl, hb⟩; replace C := Lib.hid (C.out.step hb); clear hb; (try clear x0 x1 x2 x3 x4 x5 x6 x7 x8 x9); obtain ⟨x0, x1, x2, x3, x4, x5, x6, x7, x8, x9⟩ := C.out.cf.all))
  go_ret
  exact ⟨rfl, C.out.bel⟩

set_option maxRecDepth 4000 in
set_option maxHeartbeats 8000000 in
theorem lfi_err (p : Pk) (q : Pl) (t : Nat) (w : World) (h : IsPk w p q) (hf : fewP p = true) (m : List Nat) (k : Nat) (hm : lputB p = (m, k)) (hk : ¬ k = 0) :
    Calls Try.prog 5 #[p.val q, .int .u8 (t : Int)] w fun e w' => e = .returned (.bool true) ∧ Below w.heap.size w w' := by
  have C := Lib.hid (BxC.made 28 w p q)
  have H := Lib.hid h.pw
  have hno := h.no
  have HD := Lib.hid h.od
  have HK := Lib.hid h.ok
  have HF := Lib.hid hf
  have HS := Lib.hid (fewP_sm hf)
  have HM := Lib.hid hm
  have jk : ((k : Int) != 0) = true := by rw [bne_iff_ne]; omega
  clear h hf hm hk
  go_enter Try.func5, Try.ntmps5
  go_wp2_with (first
    | (go_at_call 6; (with_reducible refine (speaks15 _).mono ?_); rintro e wn ⟨rfl, hb⟩; replace C := Lib.hid (C.out.step hb); clear hb; (try clear x0 x1 x2 x3 x4 x5 x6 x7 x8 x9); obtain ⟨x0, x1, x2, x3, x4, x5, x6, x7, x8, x9⟩ := C.out.cf.all)
    | (go_at_call 7; (with_reducible refine (few15_any p q _ (H.out.on C.out.bel) hno HD.out _ HF.out).mono ?_); rintro e wn ⟨rfl, hb⟩; replace C := Lib.hid (C.out.step hb); clear hb; (try clear x0 x1 x2 x3 x4 x5 x6 x7 x8 x9); obtain ⟨x0, x1, x2, x3, x4, x5, x6, x7, x8, x9⟩ := C.out.cf.all)
    | (go_at_call 10; (with_reducible refine (rput_any p q _ (H.out.on C.out.bel) HK.out HS.out m k HM.out m.length rfl).mono ?_); rintro e wn ⟨A6, c6, rfl, h6, h6c, hb⟩; replace C := Lib.hid (C.out.step hb); clear h6 h6c hb; clear x0 x1 x2 x3 x4 x5 x6 x7 x8 x9; obtain ⟨x0, x1, x2, x3, x4, x5, x6, x7, x8, x9⟩ := C.out.cf.all))
  go_ret
  exact ⟨rfl, C.out.bel⟩

set_option maxRecDepth 4000 in
set_option maxHeartbeats 16000000 in
theorem lfi_one (p : Pk) (q : Pl) (t : Nat) (w : World) (h : IsPk w p q) (hf : fewP p = true) (m : List Nat) (hm : lputB p = (m, 0)) (ht : t % 7 = 0)  :
    Calls Try.prog 5 #[p.val q, .int .u8 (t : Int)] w fun e w' => e = .returned (.bool true) ∧ Below w.heap.size w w' := by
  have C := Lib.hid (BxC.made 28 w p q)
  have H := Lib.hid h.pw
  have HPF := Lib.hid h.pw.pwF
  have hno := h.no
  have HD := Lib.hid h.od
  have HK := Lib.hid h.ok
  have HF := Lib.hid hf
  have HS := Lib.hid (fewP_sm hf)
  have HM := Lib.hid hm
  have hno2 : q.no ≤ 1073741824 := by rw [← h.pw.lo]; exact (fewP_sm hf).o
  obtain ⟨pp, -, -, -, -⟩ := lput_ok hm
  have e0 : (t : Int) % 7 = 0 := by omega
  have XX := Lib.hid (show ∀ x : Pk, x = { p with one := [0] } → x.ok ∧ x.sm ∧ lputB x = ([], 9) from fun x hx => by
    subst hx
    have k := HK.out
    have s := HS.out
    exact ⟨⟨k.proto, k.code, k.id, k.opts, k.sub, k.magic, by0, k.two, k.data, k.nums⟩, ⟨s.o, s.d, show (1 : Nat) ≤ 1073741824 by omega, s.n2, s.nd, s.nn⟩, lput_field pp (noth_more (fun hh => by obtain ⟨a1, a2, a3, a4, a5, a6, a7⟩ := hh; exact absurd (show (1 : Nat) = 0 from a5) (by decide)))⟩)
  clear h hf hm ht pp
  go_enter Try.func5, Try.ntmps5
  go_upto_region 7 with (first
    | (go_at_call 6; (with_reducible refine (speaks15 _).mono ?_); rintro e wn ⟨rfl, hb⟩; replace C := Lib.hid (C.out.step hb); clear hb; (try clear x0 x1 x2 x3 x4 x5 x6 x7 x8 x9); obtain ⟨x0, x1, x2, x3, x4, x5, x6, x7, x8, x9⟩ := C.out.cf.all)
    | (go_at_call 7; (with_reducible refine (few15_any p q _ (H.out.on C.out.bel) hno HD.out _ HF.out).mono ?_); rintro e wn ⟨rfl, hb⟩; replace C := Lib.hid (C.out.step hb); clear hb; (try clear x0 x1 x2 x3 x4 x5 x6 x7 x8 x9); obtain ⟨x0, x1, x2, x3, x4, x5, x6, x7, x8, x9⟩ := C.out.cf.all)
    | (go_at_call 10; (with_reducible refine (rput_any p q _ (H.out.on C.out.bel) HK.out HS.out m _ HM.out m.length rfl).mono ?_); rintro e wn ⟨A6, c6, rfl, h6, h6c, hb⟩; replace C := Lib.hid (C.out.step hb); clear h6 h6c hb; clear x0 x1 x2 x3 x4 x5 x6 x7 x8 x9; obtain ⟨x0, x1, x2, x3, x4, x5, x6, x7, x8, x9⟩ := C.out.cf.all))
  have ba := (Below.refl wn.heap.size wn).alloc (Nat.le_refl _) (p.obj q 28)
  refine at_worldP (fun W => Hid (FiC w W wn.heap.size p q)) (Lib.hid ⟨(C.out.step ba).bel, (C.out.step ba).cf, px_new wn 28 p q, C.out.cf.lt, HPF.out.keep (.of_below (C.out.step ba).bel)⟩) ?_
  obtain ⟨g, hgg⟩ : ∃ g, Hid (wn.heap.size = g) := ⟨_, Lib.hid rfl⟩
  rw [hgg.out]
  clear ba C hgg x0 x1 x2 x3 x4 x5 x6 x7 x8 x9
  rintro W F
  have nq1 := Nat.ne_of_lt F.out.lt
  have nq3 := Nat.ne_of_gt F.out.lt
  have b0 := F.out.cf.lt
  have b1 := F.out.cp.lt
  obtain ⟨x0, x1, x2, x3, x4, x5, x6, x7, x8, x9⟩ := F.out.cf.all
  obtain ⟨y0, y1, y2, y3, y4, y5, y6, y7, y8, y9⟩ := F.out.cp.all
  obtain ⟨z0, z1, z2, z3, z4, z5, z6, z7, z8, z9⟩ := F.out.cp.free
  go_upto_region 30 with fail
  all_goals
    refine at_worldP (fun V => ∃ x r, Hid (x = { p with one := [0] }) ∧ Hid (FiV w V g x r)) ⟨_, _, Lib.hid rfl, Lib.hid F.out.one⟩ ?_
    clear F nq1 nq3 b0 b1 x0 x1 x2 x3 x4 x5 x6 x7 x8 x9 y0 y1 y2 y3 y4 y5 y6 y7 y8 y9 z0 z1 z2 z3 z4 z5 z6 z7 z8 z9
    rintro V ⟨x, r, hx, Z⟩
    obtain ⟨ox, sx, px⟩ := XX.out x hx.out
    have HP := Lib.hid px
    have OX := Lib.hid ox
    have SX := Lib.hid sx
    have hno3 : r.no ≤ 1073741824 := by rw [← Z.out.pw.lo]; exact sx.o
    obtain ⟨y0, y1, y2, y3, y4, y5, y6, y7, y8, y9⟩ := Z.out.cp.all
    have B := Lib.hid Z.out.bel
    clear ox sx px XX hx
    go_wp2_with (first
      | (go_at_call 9; (with_reducible refine (of15_any x r _ Z.out.pw hno3).mono ?_); rintro e wk ⟨r2, rfl, hp, hb⟩; have P := Lib.hid hp; replace B := Lib.hid (B.out.trans (hb.mono B.out.size)); clear hp hb Z y0 y1 y2 y3 y4 y5 y6 y7 y8 y9)
      | (go_at_call 8; (with_reducible refine (lput_any x r2 _ P.out OX.out SX.out [] 9 HP.out 0 rfl).mono ?_); rintro e wk ⟨A8, c8, rfl, h8, h8c, hb⟩; replace B := Lib.hid (B.out.trans (hb.mono B.out.size)); clear h8 h8c hb P))
    go_ret
    exact ⟨rfl, B.out⟩

set_option maxRecDepth 4000 in
set_option maxHeartbeats 16000000 in
theorem lfi_two (p : Pk) (q : Pl) (t : Nat) (w : World) (h : IsPk w p q) (hf : fewP p = true) (m : List Nat) (hm : lputB p = (m, 0)) (ht : t % 7 = 1)  :
    Calls Try.prog 5 #[p.val q, .int .u8 (t : Int)] w fun e w' => e = .returned (.bool true) ∧ Below w.heap.size w w' := by
  have C := Lib.hid (BxC.made 28 w p q)
  have H := Lib.hid h.pw
  have HPF := Lib.hid h.pw.pwF
  have hno := h.no
  have HD := Lib.hid h.od
  have HK := Lib.hid h.ok
  have HF := Lib.hid hf
  have HS := Lib.hid (fewP_sm hf)
  have HM := Lib.hid hm
  have hno2 : q.no ≤ 1073741824 := by rw [← h.pw.lo]; exact (fewP_sm hf).o
  obtain ⟨pp, -, -, -, -⟩ := lput_ok hm
  have e0 : (t : Int) % 7 = 1 := by omega
  have XX := Lib.hid (show ∀ x : Pk, x = { p with two := [0] } → x.ok ∧ x.sm ∧ lputB x = ([], 9) from fun x hx => by
    subst hx
    have k := HK.out
    have s := HS.out
    exact ⟨⟨k.proto, k.code, k.id, k.opts, k.sub, k.magic, k.one, by0, k.data, k.nums⟩, ⟨s.o, s.d, s.n1, show (1 : Nat) ≤ 1073741824 by omega, s.nd, s.nn⟩, lput_field pp (noth_more (fun hh => by obtain ⟨a1, a2, a3, a4, a5, a6, a7⟩ := hh; exact absurd (show (1 : Nat) = 0 from a6) (by decide)))⟩)
  clear h hf hm ht pp
  go_enter Try.func5, Try.ntmps5
  go_upto_region 7 with (first
    | (go_at_call 6; (with_reducible refine (speaks15 _).mono ?_); rintro e wn ⟨rfl, hb⟩; replace C := Lib.hid (C.out.step hb); clear hb; (try clear x0 x1 x2 x3 x4 x5 x6 x7 x8 x9); obtain ⟨x0, x1, x2, x3, x4, x5, x6, x7, x8, x9⟩ := C.out.cf.all)
    | (go_at_call 7; (with_reducible refine (few15_any p q _ (H.out.on C.out.bel) hno HD.out _ HF.out).mono ?_); rintro e wn ⟨rfl, hb⟩; replace C := Lib.hid (C.out.step hb); clear hb; (try clear x0 x1 x2 x3 x4 x5 x6 x7 x8 x9); obtain ⟨x0, x1, x2, x3, x4, x5, x6, x7, x8, x9⟩ := C.out.cf.all)
    | (go_at_call 10; (with_reducible refine (rput_any p q _ (H.out.on C.out.bel) HK.out HS.out m _ HM.out m.length rfl).mono ?_); rintro e wn ⟨A6, c6, rfl, h6, h6c, hb⟩; replace C := Lib.hid (C.out.step hb); clear h6 h6c hb; clear x0 x1 x2 x3 x4 x5 x6 x7 x8 x9; obtain ⟨x0, x1, x2, x3, x4, x5, x6, x7, x8, x9⟩ := C.out.cf.all))
  have ba := (Below.refl wn.heap.size wn).alloc (Nat.le_refl _) (p.obj q 28)
  refine at_worldP (fun W => Hid (FiC w W wn.heap.size p q)) (Lib.hid ⟨(C.out.step ba).bel, (C.out.step ba).cf, px_new wn 28 p q, C.out.cf.lt, HPF.out.keep (.of_below (C.out.step ba).bel)⟩) ?_
  obtain ⟨g, hgg⟩ : ∃ g, Hid (wn.heap.size = g) := ⟨_, Lib.hid rfl⟩
  rw [hgg.out]
  clear ba C hgg x0 x1 x2 x3 x4 x5 x6 x7 x8 x9
  rintro W F
  have nq1 := Nat.ne_of_lt F.out.lt
  have nq3 := Nat.ne_of_gt F.out.lt
  have b0 := F.out.cf.lt
  have b1 := F.out.cp.lt
  obtain ⟨x0, x1, x2, x3, x4, x5, x6, x7, x8, x9⟩ := F.out.cf.all
  obtain ⟨y0, y1, y2, y3, y4, y5, y6, y7, y8, y9⟩ := F.out.cp.all
  obtain ⟨z0, z1, z2, z3, z4, z5, z6, z7, z8, z9⟩ := F.out.cp.free
  go_upto_region 30 with fail
  all_goals
    refine at_worldP (fun V => ∃ x r, Hid (x = { p with two := [0] }) ∧ Hid (FiV w V g x r)) ⟨_, _, Lib.hid rfl, Lib.hid F.out.two⟩ ?_
    clear F nq1 nq3 b0 b1 x0 x1 x2 x3 x4 x5 x6 x7 x8 x9 y0 y1 y2 y3 y4 y5 y6 y7 y8 y9 z0 z1 z2 z3 z4 z5 z6 z7 z8 z9
    rintro V ⟨x, r, hx, Z⟩
    obtain ⟨ox, sx, px⟩ := XX.out x hx.out
    have HP := Lib.hid px
    have OX := Lib.hid ox
    have SX := Lib.hid sx
    have hno3 : r.no ≤ 1073741824 := by rw [← Z.out.pw.lo]; exact sx.o
    obtain ⟨y0, y1, y2, y3, y4, y5, y6, y7, y8, y9⟩ := Z.out.cp.all
    have B := Lib.hid Z.out.bel
    clear ox sx px XX hx
    go_wp2_with (first
      | (go_at_call 9; (with_reducible refine (of15_any x r _ Z.out.pw hno3).mono ?_); rintro e wk ⟨r2, rfl, hp, hb⟩; have P := Lib.hid hp; replace B := Lib.hid (B.out.trans (hb.mono B.out.size)); clear hp hb Z y0 y1 y2 y3 y4 y5 y6 y7 y8 y9)
      | (go_at_call 8; (with_reducible refine (lput_any x r2 _ P.out OX.out SX.out [] 9 HP.out 0 rfl).mono ?_); rintro e wk ⟨A8, c8, rfl, h8, h8c, hb⟩; replace B := Lib.hid (B.out.trans (hb.mono B.out.size)); clear h8 h8c hb P))
    go_ret
    exact ⟨rfl, B.out⟩

set_option maxRecDepth 4000 in
set_option maxHeartbeats 16000000 in
theorem lfi_nums (p : Pk) (q : Pl) (t : Nat) (w : World) (h : IsPk w p q) (hf : fewP p = true) (m : List Nat) (hm : lputB p = (m, 0)) (ht : t % 7 = 2)  :
    Calls Try.prog 5 #[p.val q, .int .u8 (t : Int)] w fun e w' => e = .returned (.bool true) ∧ Below w.heap.size w w' := by
  have C := Lib.hid (BxC.made 28 w p q)
  have H := Lib.hid h.pw
  have HPF := Lib.hid h.pw.pwF
  have hno := h.no
  have HD := Lib.hid h.od
  have HK := Lib.hid h.ok
  have HF := Lib.hid hf
  have HS := Lib.hid (fewP_sm hf)
  have HM := Lib.hid hm
  have hno2 : q.no ≤ 1073741824 := by rw [← h.pw.lo]; exact (fewP_sm hf).o
  obtain ⟨pp, -, -, -, -⟩ := lput_ok hm
  have e0 : (t : Int) % 7 = 2 := by omega
  have XX := Lib.hid (show ∀ x : Pk, x = { p with nums := [0] } → x.ok ∧ x.sm ∧ lputB x = ([], 9) from fun x hx => by
    subst hx
    have k := HK.out
    have s := HS.out
    exact ⟨⟨k.proto, k.code, k.id, k.opts, k.sub, k.magic, k.one, k.two, k.data, (fun x hx => by have hx : x ∈ [0] := hx; simp at hx; omega)⟩, ⟨s.o, s.d, s.n1, s.n2, s.nd, show (1 : Nat) ≤ 1073741824 by omega⟩, lput_field pp (noth_more (fun hh => by obtain ⟨a1, a2, a3, a4, a5, a6, a7⟩ := hh; exact absurd (show (1 : Nat) = 0 from a7) (by decide)))⟩)
  clear h hf hm ht pp
  go_enter Try.func5, Try.ntmps5
  go_upto_region 7 with (first
    | (go_at_call 6; (with_reducible refine (speaks15 _).mono ?_); rintro e wn ⟨rfl, hb⟩; replace C := Lib.hid (C.out.step hb); clear hb; (try clear x0 x1 x2 x3 x4 x5 x6 x7 x8 x9); obtain ⟨x0, x1, x2, x3, x4, x5, x6, x7, x8, x9⟩ := C.out.cf.all)
    | (go_at_call 7; (with_reducible refine (few15_any p q _ (H.out.on C.out.bel) hno HD.out _ HF.out).mono ?_); rintro e wn ⟨rfl, hb⟩; replace C := Lib.hid (C.out.step hb); clear hb; (try clear x0 x1 x2 x3 x4 x5 x6 x7 x8 x9); obtain ⟨x0, x1, x2, x3, x4, x5, x6, x7, x8, x9⟩ := C.out.cf.all)
    | (go_at_call 10; (with_reducible refine (rput_any p q _ (H.out.on C.out.bel) HK.out HS.out m _ HM.out m.length rfl).mono ?_); rintro e wn ⟨A6, c6, rfl, h6, h6c, hb⟩; replace C := Lib.hid (C.out.step hb); clear h6 h6c hb; clear x0 x1 x2 x3 x4 x5 x6 x7 x8 x9; obtain ⟨x0, x1, x2, x3, x4, x5, x6, x7, x8, x9⟩ := C.out.cf.all))
  have ba := (Below.refl wn.heap.size wn).alloc (Nat.le_refl _) (p.obj q 28)
  refine at_worldP (fun W => Hid (FiC w W wn.heap.size p q)) (Lib.hid ⟨(C.out.step ba).bel, (C.out.step ba).cf, px_new wn 28 p q, C.out.cf.lt, HPF.out.keep (.of_below (C.out.step ba).bel)⟩) ?_
  obtain ⟨g, hgg⟩ : ∃ g, Hid (wn.heap.size = g) := ⟨_, Lib.hid rfl⟩
  rw [hgg.out]
  clear ba C hgg x0 x1 x2 x3 x4 x5 x6 x7 x8 x9
  rintro W F
  have nq1 := Nat.ne_of_lt F.out.lt
  have nq3 := Nat.ne_of_gt F.out.lt
  have b0 := F.out.cf.lt
  have b1 := F.out.cp.lt
  obtain ⟨x0, x1, x2, x3, x4, x5, x6, x7, x8, x9⟩ := F.out.cf.all
  obtain ⟨y0, y1, y2, y3, y4, y5, y6, y7, y8, y9⟩ := F.out.cp.all
  obtain ⟨z0, z1, z2, z3, z4, z5, z6, z7, z8, z9⟩ := F.out.cp.free
  go_upto_region 30 with fail
  all_goals
    refine at_worldP (fun V => ∃ x r, Hid (x = { p with nums := [0] }) ∧ Hid (FiV w V g x r)) ⟨_, _, Lib.hid rfl, Lib.hid F.out.nums⟩ ?_
    clear F nq1 nq3 b0 b1 x0 x1 x2 x3 x4 x5 x6 x7 x8 x9 y0 y1 y2 y3 y4 y5 y6 y7 y8 y9 z0 z1 z2 z3 z4 z5 z6 z7 z8 z9
    rintro V ⟨x, r, hx, Z⟩
    obtain ⟨ox, sx, px⟩ := XX.out x hx.out
    have HP := Lib.hid px
    have OX := Lib.hid ox
    have SX := Lib.hid sx
    have hno3 : r.no ≤ 1073741824 := by rw [← Z.out.pw.lo]; exact sx.o
    obtain ⟨y0, y1, y2, y3, y4, y5, y6, y7, y8, y9⟩ := Z.out.cp.all
    have B := Lib.hid Z.out.bel
    clear ox sx px XX hx
    go_wp2_with (first
      | (go_at_call 9; (with_reducible refine (of15_any x r _ Z.out.pw hno3).mono ?_); rintro e wk ⟨r2, rfl, hp, hb⟩; have P := Lib.hid hp; replace B := Lib.hid (B.out.trans (hb.mono B.out.size)); clear hp hb Z y0 y1 y2 y3 y4 y5 y6 y7 y8 y9)
      | (go_at_call 8; (with_reducible refine (lput_any x r2 _ P.out OX.out SX.out [] 9 HP.out 0 rfl).mono ?_); rintro e wk ⟨A8, c8, rfl, h8, h8c, hb⟩; replace B := Lib.hid (B.out.trans (hb.mono B.out.size)); clear h8 h8c hb P))
    go_ret
    exact ⟨rfl, B.out⟩

set_option maxRecDepth 4000 in
set_option maxHeartbeats 16000000 in
theorem lfi_data (p : Pk) (q : Pl) (t : Nat) (w : World) (h : IsPk w p q) (hf : fewP p = true) (m : List Nat) (hm : lputB p = (m, 0)) (ht : t % 7 = 3) (hc : 1 ≤ p.code ∧ p.code ≤ 4) :
    Calls Try.prog 5 #[p.val q, .int .u8 (t : Int)] w fun e w' => e = .returned (.bool true) ∧ Below w.heap.size w w' := by
  have C := Lib.hid (BxC.made 28 w p q)
  have H := Lib.hid h.pw
  have HPF := Lib.hid h.pw.pwF
  have hno := h.no
  have HD := Lib.hid h.od
  have HK := Lib.hid h.ok
  have HF := Lib.hid hf
  have HS := Lib.hid (fewP_sm hf)
  have HM := Lib.hid hm
  have hno2 : q.no ≤ 1073741824 := by rw [← h.pw.lo]; exact (fewP_sm hf).o
  obtain ⟨pp, -, -, -, -⟩ := lput_ok hm
  have e0 : (t : Int) % 7 = 3 := by omega
  have c1' : (1 : Int) ≤ (p.code : Int) := by omega
  have c4' : (p.code : Int) ≤ 4 := by omega
  have hk : hasL p.code = 1 := by unfold hasL; rw [if_pos (by omega)]
  have XX := Lib.hid (show ∀ x : Pk, x = { p with data := [0] } → x.ok ∧ x.sm ∧ lputB x = ([], 9) from fun x hx => by
    subst hx
    have k := HK.out
    have s := HS.out
    exact ⟨⟨k.proto, k.code, k.id, k.opts, k.sub, k.magic, k.one, k.two, by0, k.nums⟩, ⟨s.o, s.d, s.n1, s.n2, show (1 : Nat) ≤ 1073741824 by omega, s.nn⟩, lput_field pp (noth_more (fun hh => by obtain ⟨a1, a2, a3, a4, a5, a6, a7⟩ := hh; exact absurd (show (1 : Nat) = 0 from a2 hk) (by decide)))⟩)
  clear h hf hm ht pp hc
  go_enter Try.func5, Try.ntmps5
  go_upto_region 7 with (first
    | (go_at_call 6; (with_reducible refine (speaks15 _).mono ?_); rintro e wn ⟨rfl, hb⟩; replace C := Lib.hid (C.out.step hb); clear hb; (try clear x0 x1 x2 x3 x4 x5 x6 x7 x8 x9); obtain ⟨x0, x1, x2, x3, x4, x5, x6, x7, x8, x9⟩ := C.out.cf.all)
    | (go_at_call 7; (with_reducible refine (few15_any p q _ (H.out.on C.out.bel) hno HD.out _ HF.out).mono ?_); rintro e wn ⟨rfl, hb⟩; replace C := Lib.hid (C.out.step hb); clear hb; (try clear x0 x1 x2 x3 x4 x5 x6 x7 x8 x9); obtain ⟨x0, x1, x2, x3, x4, x5, x6, x7, x8, x9⟩ := C.out.cf.all)
    | (go_at_call 10; (with_reducible refine (rput_any p q _ (H.out.on C.out.bel) HK.out HS.out m _ HM.out m.length rfl).mono ?_); rintro e wn ⟨A6, c6, rfl, h6, h6c, hb⟩; replace C := Lib.hid (C.out.step hb); clear h6 h6c hb; clear x0 x1 x2 x3 x4 x5 x6 x7 x8 x9; obtain ⟨x0, x1, x2, x3, x4, x5, x6, x7, x8, x9⟩ := C.out.cf.all))
  have ba := (Below.refl wn.heap.size wn).alloc (Nat.le_refl _) (p.obj q 28)
  refine at_worldP (fun W => Hid (FiC w W wn.heap.size p q)) (Lib.hid ⟨(C.out.step ba).bel, (C.out.step ba).cf, px_new wn 28 p q, C.out.cf.lt, HPF.out.keep (.of_below (C.out.step ba).bel)⟩) ?_
  obtain ⟨g, hgg⟩ : ∃ g, Hid (wn.heap.size = g) := ⟨_, Lib.hid rfl⟩
  rw [hgg.out]
  clear ba C hgg x0 x1 x2 x3 x4 x5 x6 x7 x8 x9
  rintro W F
  have nq1 := Nat.ne_of_lt F.out.lt
  have nq3 := Nat.ne_of_gt F.out.lt
  have b0 := F.out.cf.lt
  have b1 := F.out.cp.lt
  obtain ⟨x0, x1, x2, x3, x4, x5, x6, x7, x8, x9⟩ := F.out.cf.all
  obtain ⟨y0, y1, y2, y3, y4, y5, y6, y7, y8, y9⟩ := F.out.cp.all
  obtain ⟨z0, z1, z2, z3, z4, z5, z6, z7, z8, z9⟩ := F.out.cp.free
  go_upto_region 30 with fail
  all_goals
    refine at_worldP (fun V => ∃ x r, Hid (x = { p with data := [0] }) ∧ Hid (FiV w V g x r)) ⟨_, _, Lib.hid rfl, Lib.hid F.out.data⟩ ?_
    clear F nq1 nq3 b0 b1 x0 x1 x2 x3 x4 x5 x6 x7 x8 x9 y0 y1 y2 y3 y4 y5 y6 y7 y8 y9 z0 z1 z2 z3 z4 z5 z6 z7 z8 z9
    rintro V ⟨x, r, hx, Z⟩
    obtain ⟨ox, sx, px⟩ := XX.out x hx.out
    have HP := Lib.hid px
    have OX := Lib.hid ox
    have SX := Lib.hid sx
    have hno3 : r.no ≤ 1073741824 := by rw [← Z.out.pw.lo]; exact sx.o
    obtain ⟨y0, y1, y2, y3, y4, y5, y6, y7, y8, y9⟩ := Z.out.cp.all
    have B := Lib.hid Z.out.bel
    clear ox sx px XX hx
    go_wp2_with (first
      | (go_at_call 9; (with_reducible refine (of15_any x r _ Z.out.pw hno3).mono ?_); rintro e wk ⟨r2, rfl, hp, hb⟩; have P := Lib.hid hp; replace B := Lib.hid (B.out.trans (hb.mono B.out.size)); clear hp hb Z y0 y1 y2 y3 y4 y5 y6 y7 y8 y9)
      | (go_at_call 8; (with_reducible refine (lput_any x r2 _ P.out OX.out SX.out [] 9 HP.out 0 rfl).mono ?_); rintro e wk ⟨A8, c8, rfl, h8, h8c, hb⟩; replace B := Lib.hid (B.out.trans (hb.mono B.out.size)); clear h8 h8c hb P))
    go_ret
    exact ⟨rfl, B.out⟩

set_option maxRecDepth 4000 in
set_option maxHeartbeats 16000000 in
theorem lfi_opts0 (p : Pk) (q : Pl) (t : Nat) (w : World) (h : IsPk w p q) (hf : fewP p = true) (m : List Nat) (hm : lputB p = (m, 0)) (ht : t % 7 = 3) (hc : p.code = 0) :
    Calls Try.prog 5 #[p.val q, .int .u8 (t : Int)] w fun e w' => e = .returned (.bool true) ∧ Below w.heap.size w w' := by
  have C := Lib.hid (BxC.made 28 w p q)
  have H := Lib.hid h.pw
  have HPF := Lib.hid h.pw.pwF
  have hno := h.no
  have HD := Lib.hid h.od
  have HK := Lib.hid h.ok
  have HF := Lib.hid hf
  have HS := Lib.hid (fewP_sm hf)
  have HM := Lib.hid hm
  have hno2 : q.no ≤ 1073741824 := by rw [← h.pw.lo]; exact (fewP_sm hf).o
  obtain ⟨pp, -, -, -, -⟩ := lput_ok hm
  have e0 : (t : Int) % 7 = 3 := by omega
  have c1' : ¬ (1 : Int) ≤ (p.code : Int) := by omega
  have hk : hasL p.code ≠ 1 := by unfold hasL; rw [if_neg (by omega)]; split <;> (try split) <;> decide
  have XX := Lib.hid (show ∀ x : Pk, x = { p with opts := [(0, [])] } → x.ok ∧ x.sm ∧ lputB x = ([], 9) from fun x hx => by
    subst hx
    have k := HK.out
    have s := HS.out
    exact ⟨⟨k.proto, k.code, k.id, (fun o ho => by have ho : o ∈ [((0 : Nat), ([] : List Nat))] := ho; simp at ho; subst ho; exact ⟨by decide, By.nil⟩), k.sub, k.magic, k.one, k.two, k.data, k.nums⟩, ⟨show (1 : Nat) ≤ 1073741824 by omega, show (0 : Nat) ≤ 1073741824 by omega, s.n1, s.n2, s.nd, s.nn⟩, lput_field pp (noth_more (fun hh => by obtain ⟨a1, a2, a3, a4, a5, a6, a7⟩ := hh; exact absurd (show (1 : Nat) = 0 from a1 hk) (by decide)))⟩)
  clear h hf hm ht pp hc
  go_enter Try.func5, Try.ntmps5
  go_upto_region 7 with (first
    | (go_at_call 6; (with_reducible refine (speaks15 _).mono ?_); rintro e wn ⟨rfl, hb⟩; replace C := Lib.hid (C.out.step hb); clear hb; (try clear x0 x1 x2 x3 x4 x5 x6 x7 x8 x9); obtain ⟨x0, x1, x2, x3, x4, x5, x6, x7, x8, x9⟩ := C.out.cf.all)
    | (go_at_call 7; (with_reducible refine (few15_any p q _ (H.out.on C.out.bel) hno HD.out _ HF.out).mono ?_); rintro e wn ⟨rfl, hb⟩; replace C := Lib.hid (C.out.step hb); clear hb; (try clear x0 x1 x2 x3 x4 x5 x6 x7 x8 x9); obtain ⟨x0, x1, x2, x3, x4, x5, x6, x7, x8, x9⟩ := C.out.cf.all)
    | (go_at_call 10; (with_reducible refine (rput_any p q _ (H.out.on C.out.bel) HK.out HS.out m _ HM.out m.length rfl).mono ?_); rintro e wn ⟨A6, c6, rfl, h6, h6c, hb⟩; replace C := Lib.hid (C.out.step hb); clear h6 h6c hb; clear x0 x1 x2 x3 x4 x5 x6 x7 x8 x9; obtain ⟨x0, x1, x2, x3, x4, x5, x6, x7, x8, x9⟩ := C.out.cf.all))
  have ba := (Below.refl wn.heap.size wn).alloc (Nat.le_refl _) (p.obj q 28)
  refine at_worldP (fun W => Hid (FiC w W wn.heap.size p q)) (Lib.hid ⟨(C.out.step ba).bel, (C.out.step ba).cf, px_new wn 28 p q, C.out.cf.lt, HPF.out.keep (.of_below (C.out.step ba).bel)⟩) ?_
  obtain ⟨g, hgg⟩ : ∃ g, Hid (wn.heap.size = g) := ⟨_, Lib.hid rfl⟩
  rw [hgg.out]
  clear ba C hgg x0 x1 x2 x3 x4 x5 x6 x7 x8 x9
  rintro W F
  have nq1 := Nat.ne_of_lt F.out.lt
  have nq3 := Nat.ne_of_gt F.out.lt
  have b0 := F.out.cf.lt
  have b1 := F.out.cp.lt
  obtain ⟨x0, x1, x2, x3, x4, x5, x6, x7, x8, x9⟩ := F.out.cf.all
  obtain ⟨y0, y1, y2, y3, y4, y5, y6, y7, y8, y9⟩ := F.out.cp.all
  obtain ⟨z0, z1, z2, z3, z4, z5, z6, z7, z8, z9⟩ := F.out.cp.free
  go_upto_region 30 with fail
  all_goals
    refine at_worldP (fun V => ∃ x r, Hid (x = { p with opts := [(0, [])] }) ∧ Hid (FiV w V g x r)) ⟨_, _, Lib.hid rfl, Lib.hid F.out.opts⟩ ?_
    clear F nq1 nq3 b0 b1 x0 x1 x2 x3 x4 x5 x6 x7 x8 x9 y0 y1 y2 y3 y4 y5 y6 y7 y8 y9 z0 z1 z2 z3 z4 z5 z6 z7 z8 z9
    rintro V ⟨x, r, hx, Z⟩
    obtain ⟨ox, sx, px⟩ := XX.out x hx.out
    have HP := Lib.hid px
    have OX := Lib.hid ox
    have SX := Lib.hid sx
    have hno3 : r.no ≤ 1073741824 := by rw [← Z.out.pw.lo]; exact sx.o
    obtain ⟨y0, y1, y2, y3, y4, y5, y6, y7, y8, y9⟩ := Z.out.cp.all
    have B := Lib.hid Z.out.bel
    clear ox sx px XX hx
    go_wp2_with (first
      | (go_at_call 9; (with_reducible refine (of15_any x r _ Z.out.pw hno3).mono ?_); rintro e wk ⟨r2, rfl, hp, hb⟩; have P := Lib.hid hp; replace B := Lib.hid (B.out.trans (hb.mono B.out.size)); clear hp hb Z y0 y1 y2 y3 y4 y5 y6 y7 y8 y9)
      | (go_at_call 8; (with_reducible refine (lput_any x r2 _ P.out OX.out SX.out [] 9 HP.out 0 rfl).mono ?_); rintro e wk ⟨A8, c8, rfl, h8, h8c, hb⟩; replace B := Lib.hid (B.out.trans (hb.mono B.out.size)); clear h8 h8c hb P))
    go_ret
    exact ⟨rfl, B.out⟩

set_option maxRecDepth 4000 in
set_option maxHeartbeats 16000000 in
theorem lfi_opts5 (p : Pk) (q : Pl) (t : Nat) (w : World) (h : IsPk w p q) (hf : fewP p = true) (m : List Nat) (hm : lputB p = (m, 0)) (ht : t % 7 = 3) (hc : 5 ≤ p.code) :
    Calls Try.prog 5 #[p.val q, .int .u8 (t : Int)] w fun e w' => e = .returned (.bool true) ∧ Below w.heap.size w w' := by
  have C := Lib.hid (BxC.made 28 w p q)
  have H := Lib.hid h.pw
  have HPF := Lib.hid h.pw.pwF
  have hno := h.no
  have HD := Lib.hid h.od
  have HK := Lib.hid h.ok
  have HF := Lib.hid hf
  have HS := Lib.hid (fewP_sm hf)
  have HM := Lib.hid hm
  have hno2 : q.no ≤ 1073741824 := by rw [← h.pw.lo]; exact (fewP_sm hf).o
  obtain ⟨pp, -, -, -, -⟩ := lput_ok hm
  have e0 : (t : Int) % 7 = 3 := by omega
  have c1' : (1 : Int) ≤ (p.code : Int) := by omega
  have c4' : ¬ (p.code : Int) ≤ 4 := by omega
  have hk : hasL p.code ≠ 1 := by unfold hasL; rw [if_neg (by omega)]; split <;> (try split) <;> decide
  have XX := Lib.hid (show ∀ x : Pk, x = { p with opts := [(0, [])] } → x.ok ∧ x.sm ∧ lputB x = ([], 9) from fun x hx => by
    subst hx
    have k := HK.out
    have s := HS.out
    exact ⟨⟨k.proto, k.code, k.id, (fun o ho => by have ho : o ∈ [((0 : Nat), ([] : List Nat))] := ho; simp at ho; subst ho; exact ⟨by decide, By.nil⟩), k.sub, k.magic, k.one, k.two, k.data, k.nums⟩, ⟨show (1 : Nat) ≤ 1073741824 by omega, show (0 : Nat) ≤ 1073741824 by omega, s.n1, s.n2, s.nd, s.nn⟩, lput_field pp (noth_more (fun hh => by obtain ⟨a1, a2, a3, a4, a5, a6, a7⟩ := hh; exact absurd (show (1 : Nat) = 0 from a1 hk) (by decide)))⟩)
  clear h hf hm ht pp hc
  go_enter Try.func5, Try.ntmps5
  go_upto_region 7 with (first
    | (go_at_call 6; (with_reducible refine (speaks15 _).mono ?_); rintro e wn ⟨rfl, hb⟩; replace C := Lib.hid (C.out.step hb); clear hb; (try clear x0 x1 x2 x3 x4 x5 x6 x7 x8 x9); obtain ⟨x0, x1, x2, x3, x4, x5, x6, x7, x8, x9⟩ := C.out.cf.all)
    | (go_at_call 7; (with_reducible refine (few15_any p q _ (H.out.on C.out.bel) hno HD.out _ HF.out).mono ?_); rintro e wn ⟨rfl, hb⟩; replace C := Lib.hid (C.out.step hb); clear hb; (try clear x0 x1 x2 x3 x4 x5 x6 x7 x8 x9); obtain ⟨x0, x1, x2, x3, x4, x5, x6, x7, x8, x9⟩ := C.out.cf.all)
    | (go_at_call 10; (with_reducible refine (rput_any p q _ (H.out.on C.out.bel) HK.out HS.out m _ HM.out m.length rfl).mono ?_); rintro e wn ⟨A6, c6, rfl, h6, h6c, hb⟩; replace C := Lib.hid (C.out.step hb); clear h6 h6c hb; clear x0 x1 x2 x3 x4 x5 x6 x7 x8 x9; obtain ⟨x0, x1, x2, x3, x4, x5, x6, x7, x8, x9⟩ := C.out.cf.all))
  have ba := (Below.refl wn.heap.size wn).alloc (Nat.le_refl _) (p.obj q 28)
  refine at_worldP (fun W => Hid (FiC w W wn.heap.size p q)) (Lib.hid ⟨(C.out.step ba).bel, (C.out.step ba).cf, px_new wn 28 p q, C.out.cf.lt, HPF.out.keep (.of_below (C.out.step ba).bel)⟩) ?_
  obtain ⟨g, hgg⟩ : ∃ g, Hid (wn.heap.size = g) := ⟨_, Lib.hid rfl⟩
  rw [hgg.out]
  clear ba C hgg x0 x1 x2 x3 x4 x5 x6 x7 x8 x9
  rintro W F
  have nq1 := Nat.ne_of_lt F.out.lt
  have nq3 := Nat.ne_of_gt F.out.lt
  have b0 := F.out.cf.lt
  have b1 := F.out.cp.lt
  obtain ⟨x0, x1, x2, x3, x4, x5, x6, x7, x8, x9⟩ := F.out.cf.all
  obtain ⟨y0, y1, y2, y3, y4, y5, y6, y7, y8, y9⟩ := F.out.cp.all
  obtain ⟨z0, z1, z2, z3, z4, z5, z6, z7, z8, z9⟩ := F.out.cp.free
  go_upto_region 30 with fail
  all_goals
    refine at_worldP (fun V => ∃ x r, Hid (x = { p with opts := [(0, [])] }) ∧ Hid (FiV w V g x r)) ⟨_, _, Lib.hid rfl, Lib.hid F.out.opts⟩ ?_
    clear F nq1 nq3 b0 b1 x0 x1 x2 x3 x4 x5 x6 x7 x8 x9 y0 y1 y2 y3 y4 y5 y6 y7 y8 y9 z0 z1 z2 z3 z4 z5 z6 z7 z8 z9
    rintro V ⟨x, r, hx, Z⟩
    obtain ⟨ox, sx, px⟩ := XX.out x hx.out
    have HP := Lib.hid px
    have OX := Lib.hid ox
    have SX := Lib.hid sx
    have hno3 : r.no ≤ 1073741824 := by rw [← Z.out.pw.lo]; exact sx.o
    obtain ⟨y0, y1, y2, y3, y4, y5, y6, y7, y8, y9⟩ := Z.out.cp.all
    have B := Lib.hid Z.out.bel
    clear ox sx px XX hx
    go_wp2_with (first
      | (go_at_call 9; (with_reducible refine (of15_any x r _ Z.out.pw hno3).mono ?_); rintro e wk ⟨r2, rfl, hp, hb⟩; have P := Lib.hid hp; replace B := Lib.hid (B.out.trans (hb.mono B.out.size)); clear hp hb Z y0 y1 y2 y3 y4 y5 y6 y7 y8 y9)
      | (go_at_call 8; (with_reducible refine (lput_any x r2 _ P.out OX.out SX.out [] 9 HP.out 0 rfl).mono ?_); rintro e wk ⟨A8, c8, rfl, h8, h8c, hb⟩; replace B := Lib.hid (B.out.trans (hb.mono B.out.size)); clear h8 h8c hb P))
    go_ret
    exact ⟨rfl, B.out⟩

set_option maxRecDepth 4000 in
set_option maxHeartbeats 16000000 in
theorem lfi_sub8 (p : Pk) (q : Pl) (t : Nat) (w : World) (h : IsPk w p q) (hf : fewP p = true) (m : List Nat) (hm : lputB p = (m, 0)) (ht : t % 7 = 4) (hc : p.code = 8) :
    Calls Try.prog 5 #[p.val q, .int .u8 (t : Int)] w fun e w' => e = .returned (.bool true) ∧ Below w.heap.size w w' := by
  have C := Lib.hid (BxC.made 28 w p q)
  have H := Lib.hid h.pw
  have HPF := Lib.hid h.pw.pwF
  have hno := h.no
  have HD := Lib.hid h.od
  have HK := Lib.hid h.ok
  have HF := Lib.hid hf
  have HS := Lib.hid (fewP_sm hf)
  have HM := Lib.hid hm
  have hno2 : q.no ≤ 1073741824 := by rw [← h.pw.lo]; exact (fewP_sm hf).o
  obtain ⟨pp, -, -, -, -⟩ := lput_ok hm
  have e0 : (t : Int) % 7 = 4 := by omega
  have c1' : (1 : Int) ≤ (p.code : Int) := by omega
  have c4' : ¬ (p.code : Int) ≤ 4 := by omega
  have c8' : ((p.code : Int) == 8) = true := by simp; omega
  clear h hf hm ht pp hc
  go_enter Try.func5, Try.ntmps5
  go_upto_region 7 with (first
    | (go_at_call 6; (with_reducible refine (speaks15 _).mono ?_); rintro e wn ⟨rfl, hb⟩; replace C := Lib.hid (C.out.step hb); clear hb; (try clear x0 x1 x2 x3 x4 x5 x6 x7 x8 x9); obtain ⟨x0, x1, x2, x3, x4, x5, x6, x7, x8, x9⟩ := C.out.cf.all)
    | (go_at_call 7; (with_reducible refine (few15_any p q _ (H.out.on C.out.bel) hno HD.out _ HF.out).mono ?_); rintro e wn ⟨rfl, hb⟩; replace C := Lib.hid (C.out.step hb); clear hb; (try clear x0 x1 x2 x3 x4 x5 x6 x7 x8 x9); obtain ⟨x0, x1, x2, x3, x4, x5, x6, x7, x8, x9⟩ := C.out.cf.all)
    | (go_at_call 10; (with_reducible refine (rput_any p q _ (H.out.on C.out.bel) HK.out HS.out m _ HM.out m.length rfl).mono ?_); rintro e wn ⟨A6, c6, rfl, h6, h6c, hb⟩; replace C := Lib.hid (C.out.step hb); clear h6 h6c hb; clear x0 x1 x2 x3 x4 x5 x6 x7 x8 x9; obtain ⟨x0, x1, x2, x3, x4, x5, x6, x7, x8, x9⟩ := C.out.cf.all))
  have ba := (Below.refl wn.heap.size wn).alloc (Nat.le_refl _) (p.obj q 28)
  refine at_worldP (fun W => Hid (FiC w W wn.heap.size p q)) (Lib.hid ⟨(C.out.step ba).bel, (C.out.step ba).cf, px_new wn 28 p q, C.out.cf.lt, HPF.out.keep (.of_below (C.out.step ba).bel)⟩) ?_
  obtain ⟨g, hgg⟩ : ∃ g, Hid (wn.heap.size = g) := ⟨_, Lib.hid rfl⟩
  rw [hgg.out]
  clear ba C hgg x0 x1 x2 x3 x4 x5 x6 x7 x8 x9
  rintro W F
  have nq1 := Nat.ne_of_lt F.out.lt
  have nq3 := Nat.ne_of_gt F.out.lt
  have b0 := F.out.cf.lt
  have b1 := F.out.cp.lt
  obtain ⟨x0, x1, x2, x3, x4, x5, x6, x7, x8, x9⟩ := F.out.cf.all
  obtain ⟨y0, y1, y2, y3, y4, y5, y6, y7, y8, y9⟩ := F.out.cp.all
  obtain ⟨z0, z1, z2, z3, z4, z5, z6, z7, z8, z9⟩ := F.out.cp.free
  go_wp2_with fail
  all_goals
    go_ret
    exact ⟨rfl, F.out.bel⟩

set_option maxRecDepth 4000 in
set_option maxHeartbeats 16000000 in
theorem lfi_magic9 (p : Pk) (q : Pl) (t : Nat) (w : World) (h : IsPk w p q) (hf : fewP p = true) (m : List Nat) (hm : lputB p = (m, 0)) (ht : t % 7 = 5) (hc : 9 ≤ p.code ∧ p.code ≤ 11) :
    Calls Try.prog 5 #[p.val q, .int .u8 (t : Int)] w fun e w' => e = .returned (.bool true) ∧ Below w.heap.size w w' := by
  have C := Lib.hid (BxC.made 28 w p q)
  have H := Lib.hid h.pw
  have HPF := Lib.hid h.pw.pwF
  have hno := h.no
  have HD := Lib.hid h.od
  have HK := Lib.hid h.ok
  have HF := Lib.hid hf
  have HS := Lib.hid (fewP_sm hf)
  have HM := Lib.hid hm
  have hno2 : q.no ≤ 1073741824 := by rw [← h.pw.lo]; exact (fewP_sm hf).o
  obtain ⟨pp, -, -, -, -⟩ := lput_ok hm
  have e0 : (t : Int) % 7 = 5 := by omega
  have c1' : (1 : Int) ≤ (p.code : Int) := by omega
  have c4' : ¬ (p.code : Int) ≤ 4 := by omega
  have c9' : (9 : Int) ≤ (p.code : Int) := by omega
  have c11' : (p.code : Int) ≤ 11 := by omega
  clear h hf hm ht pp hc
  go_enter Try.func5, Try.ntmps5
  go_upto_region 7 with (first
    | (go_at_call 6; (with_reducible refine (speaks15 _).mono ?_); rintro e wn ⟨rfl, hb⟩; replace C := Lib.hid (C.out.step hb); clear hb; (try clear x0 x1 x2 x3 x4 x5 x6 x7 x8 x9); obtain ⟨x0, x1, x2, x3, x4, x5, x6, x7, x8, x9⟩ := C.out.cf.all)
    | (go_at_call 7; (with_reducible refine (few15_any p q _ (H.out.on C.out.bel) hno HD.out _ HF.out).mono ?_); rintro e wn ⟨rfl, hb⟩; replace C := Lib.hid (C.out.step hb); clear hb; (try clear x0 x1 x2 x3 x4 x5 x6 x7 x8 x9); obtain ⟨x0, x1, x2, x3, x4, x5, x6, x7, x8, x9⟩ := C.out.cf.all)
    | (go_at_call 10; (with_reducible refine (rput_any p q _ (H.out.on C.out.bel) HK.out HS.out m _ HM.out m.length rfl).mono ?_); rintro e wn ⟨A6, c6, rfl, h6, h6c, hb⟩; replace C := Lib.hid (C.out.step hb); clear h6 h6c hb; clear x0 x1 x2 x3 x4 x5 x6 x7 x8 x9; obtain ⟨x0, x1, x2, x3, x4, x5, x6, x7, x8, x9⟩ := C.out.cf.all))
  have ba := (Below.refl wn.heap.size wn).alloc (Nat.le_refl _) (p.obj q 28)
  refine at_worldP (fun W => Hid (FiC w W wn.heap.size p q)) (Lib.hid ⟨(C.out.step ba).bel, (C.out.step ba).cf, px_new wn 28 p q, C.out.cf.lt, HPF.out.keep (.of_below (C.out.step ba).bel)⟩) ?_
  obtain ⟨g, hgg⟩ : ∃ g, Hid (wn.heap.size = g) := ⟨_, Lib.hid rfl⟩
  rw [hgg.out]
  clear ba C hgg x0 x1 x2 x3 x4 x5 x6 x7 x8 x9
  rintro W F
  have nq1 := Nat.ne_of_lt F.out.lt
  have nq3 := Nat.ne_of_gt F.out.lt
  have b0 := F.out.cf.lt
  have b1 := F.out.cp.lt
  obtain ⟨x0, x1, x2, x3, x4, x5, x6, x7, x8, x9⟩ := F.out.cf.all
  obtain ⟨y0, y1, y2, y3, y4, y5, y6, y7, y8, y9⟩ := F.out.cp.all
  obtain ⟨z0, z1, z2, z3, z4, z5, z6, z7, z8, z9⟩ := F.out.cp.free
  go_wp2_with fail
  all_goals
    go_ret
    exact ⟨rfl, F.out.bel⟩

set_option maxRecDepth 4000 in
set_option maxHeartbeats 16000000 in
theorem lfi_sub (p : Pk) (q : Pl) (t : Nat) (w : World) (h : IsPk w p q) (hf : fewP p = true) (m : List Nat) (hm : lputB p = (m, 0)) (ht : t % 7 = 4) (hc : ¬ p.code = 8) :
    Calls Try.prog 5 #[p.val q, .int .u8 (t : Int)] w fun e w' => e = .returned (.bool true) ∧ Below w.heap.size w w' := by
  have C := Lib.hid (BxC.made 28 w p q)
  have H := Lib.hid h.pw
  have HPF := Lib.hid h.pw.pwF
  have hno := h.no
  have HD := Lib.hid h.od
  have HK := Lib.hid h.ok
  have HF := Lib.hid hf
  have HS := Lib.hid (fewP_sm hf)
  have HM := Lib.hid hm
  have hno2 : q.no ≤ 1073741824 := by rw [← h.pw.lo]; exact (fewP_sm hf).o
  obtain ⟨pp, -, -, -, -⟩ := lput_ok hm
  have e0 : (t : Int) % 7 = 4 := by omega
  have c8' : ((p.code : Int) == 8) = false := by simp; omega
  have hk : hasL p.code ≠ 2 := by unfold hasL; split
                                  · decide
                                  · first | (rw [if_neg hc]; split <;> decide) | (split <;> decide)
  have XX := Lib.hid (show ∀ x : Pk, x = { p with sub := 1 } → x.ok ∧ x.sm ∧ lputB x = ([], 9) from fun x hx => by
    subst hx
    have k := HK.out
    have s := HS.out
    exact ⟨⟨k.proto, k.code, k.id, k.opts, show (1 : Nat) < 65536 by omega, k.magic, k.one, k.two, k.data, k.nums⟩, ⟨s.o, s.d, s.n1, s.n2, s.nd, s.nn⟩, lput_field pp (noth_more (fun hh => by obtain ⟨a1, a2, a3, a4, a5, a6, a7⟩ := hh; exact absurd (show (1 : Nat) = 0 from a3 hk) (by decide)))⟩)
  clear h hf hm ht pp hc
  go_enter Try.func5, Try.ntmps5
  go_upto_region 7 with (first
    | (go_at_call 6; (with_reducible refine (speaks15 _).mono ?_); rintro e wn ⟨rfl, hb⟩; replace C := Lib.hid (C.out.step hb); clear hb; (try clear x0 x1 x2 x3 x4 x5 x6 x7 x8 x9); obtain ⟨x0, x1, x2, x3, x4, x5, x6, x7, x8, x9⟩ := C.out.cf.all)
    | (go_at_call 7; (with_reducible refine (few15_any p q _ (H.out.on C.out.bel) hno HD.out _ HF.out).mono ?_); rintro e wn ⟨rfl, hb⟩; replace C := Lib.hid (C.out.step hb); clear hb; (try clear x0 x1 x2 x3 x4 x5 x6 x7 x8 x9); obtain ⟨x0, x1, x2, x3, x4, x5, x6, x7, x8, x9⟩ := C.out.cf.all)
    | (go_at_call 10; (with_reducible refine (rput_any p q _ (H.out.on C.out.bel) HK.out HS.out m _ HM.out m.length rfl).mono ?_); rintro e wn ⟨A6, c6, rfl, h6, h6c, hb⟩; replace C := Lib.hid (C.out.step hb); clear h6 h6c hb; clear x0 x1 x2 x3 x4 x5 x6 x7 x8 x9; obtain ⟨x0, x1, x2, x3, x4, x5, x6, x7, x8, x9⟩ := C.out.cf.all))
  have ba := (Below.refl wn.heap.size wn).alloc (Nat.le_refl _) (p.obj q 28)
  refine at_worldP (fun W => Hid (FiC w W wn.heap.size p q)) (Lib.hid ⟨(C.out.step ba).bel, (C.out.step ba).cf, px_new wn 28 p q, C.out.cf.lt, HPF.out.keep (.of_below (C.out.step ba).bel)⟩) ?_
  obtain ⟨g, hgg⟩ : ∃ g, Hid (wn.heap.size = g) := ⟨_, Lib.hid rfl⟩
  rw [hgg.out]
  clear ba C hgg x0 x1 x2 x3 x4 x5 x6 x7 x8 x9
  rintro W F
  have nq1 := Nat.ne_of_lt F.out.lt
  have nq3 := Nat.ne_of_gt F.out.lt
  have b0 := F.out.cf.lt
  have b1 := F.out.cp.lt
  obtain ⟨x0, x1, x2, x3, x4, x5, x6, x7, x8, x9⟩ := F.out.cf.all
  obtain ⟨y0, y1, y2, y3, y4, y5, y6, y7, y8, y9⟩ := F.out.cp.all
  obtain ⟨z0, z1, z2, z3, z4, z5, z6, z7, z8, z9⟩ := F.out.cp.free
  go_upto_region 30 with fail
  all_goals
    refine at_worldP (fun V => ∃ x r, Hid (x = { p with sub := 1 }) ∧ Hid (FiV w V g x r)) ⟨_, _, Lib.hid rfl, Lib.hid F.out.sub⟩ ?_
    clear F nq1 nq3 b0 b1 x0 x1 x2 x3 x4 x5 x6 x7 x8 x9 y0 y1 y2 y3 y4 y5 y6 y7 y8 y9 z0 z1 z2 z3 z4 z5 z6 z7 z8 z9
    rintro V ⟨x, r, hx, Z⟩
    obtain ⟨ox, sx, px⟩ := XX.out x hx.out
    have HP := Lib.hid px
    have OX := Lib.hid ox
    have SX := Lib.hid sx
    have hno3 : r.no ≤ 1073741824 := by rw [← Z.out.pw.lo]; exact sx.o
    obtain ⟨y0, y1, y2, y3, y4, y5, y6, y7, y8, y9⟩ := Z.out.cp.all
    have B := Lib.hid Z.out.bel
    clear ox sx px XX hx
    go_wp2_with (first
      | (go_at_call 9; (with_reducible refine (of15_any x r _ Z.out.pw hno3).mono ?_); rintro e wk ⟨r2, rfl, hp, hb⟩; have P := Lib.hid hp; replace B := Lib.hid (B.out.trans (hb.mono B.out.size)); clear hp hb Z y0 y1 y2 y3 y4 y5 y6 y7 y8 y9)
      | (go_at_call 8; (with_reducible refine (lput_any x r2 _ P.out OX.out SX.out [] 9 HP.out 0 rfl).mono ?_); rintro e wk ⟨A8, c8, rfl, h8, h8c, hb⟩; replace B := Lib.hid (B.out.trans (hb.mono B.out.size)); clear h8 h8c hb P))
    go_ret
    exact ⟨rfl, B.out⟩

set_option maxRecDepth 4000 in
set_option maxHeartbeats 16000000 in
theorem lfi_magic0 (p : Pk) (q : Pl) (t : Nat) (w : World) (h : IsPk w p q) (hf : fewP p = true) (m : List Nat) (hm : lputB p = (m, 0)) (ht : t % 7 = 5) (hc : p.code < 9) :
    Calls Try.prog 5 #[p.val q, .int .u8 (t : Int)] w fun e w' => e = .returned (.bool true) ∧ Below w.heap.size w w' := by
  have C := Lib.hid (BxC.made 28 w p q)
  have H := Lib.hid h.pw
  have HPF := Lib.hid h.pw.pwF
  have hno := h.no
  have HD := Lib.hid h.od
  have HK := Lib.hid h.ok
  have HF := Lib.hid hf
  have HS := Lib.hid (fewP_sm hf)
  have HM := Lib.hid hm
  have hno2 : q.no ≤ 1073741824 := by rw [← h.pw.lo]; exact (fewP_sm hf).o
  obtain ⟨pp, -, -, -, -⟩ := lput_ok hm
  have e0 : (t : Int) % 7 = 5 := by omega
  have c9' : ¬ (9 : Int) ≤ (p.code : Int) := by omega
  have hk : hasL p.code ≠ 3 := by
    unfold hasL
    split
    · decide
    · split
      · decide
      · rw [if_neg (by omega)]; decide
  have XX := Lib.hid (show ∀ x : Pk, x = { p with magic := 1 } → x.ok ∧ x.sm ∧ lputB x = ([], 9) from fun x hx => by
    subst hx
    have k := HK.out
    have s := HS.out
    exact ⟨⟨k.proto, k.code, k.id, k.opts, k.sub, show (1 : Nat) < 4294967296 by omega, k.one, k.two, k.data, k.nums⟩, ⟨s.o, s.d, s.n1, s.n2, s.nd, s.nn⟩, lput_field pp (noth_more (fun hh => by obtain ⟨a1, a2, a3, a4, a5, a6, a7⟩ := hh; exact absurd (show (1 : Nat) = 0 from a4 hk) (by decide)))⟩)
  clear h hf hm ht pp hc
  go_enter Try.func5, Try.ntmps5
  go_upto_region 7 with (first
    | (go_at_call 6; (with_reducible refine (speaks15 _).mono ?_); rintro e wn ⟨rfl, hb⟩; replace C := Lib.hid (C.out.step hb); clear hb; (try clear x0 x1 x2 x3 x4 x5 x6 x7 x8 x9); obtain ⟨x0, x1, x2, x3, x4, x5, x6, x7, x8, x9⟩ := C.out.cf.all)
    | (go_at_call 7; (with_reducible refine (few15_any p q _ (H.out.on C.out.bel) hno HD.out _ HF.out).mono ?_); rintro e wn ⟨rfl, hb⟩; replace C := Lib.hid (C.out.step hb); clear hb; (try clear x0 x1 x2 x3 x4 x5 x6 x7 x8 x9); obtain ⟨x0, x1, x2, x3, x4, x5, x6, x7, x8, x9⟩ := C.out.cf.all)
    | (go_at_call 10; (with_reducible refine (rput_any p q _ (H.out.on C.out.bel) HK.out HS.out m _ HM.out m.length rfl).mono ?_); rintro e wn ⟨A6, c6, rfl, h6, h6c, hb⟩; replace C := Lib.hid (C.out.step hb); clear h6 h6c hb; clear x0 x1 x2 x3 x4 x5 x6 x7 x8 x9; obtain ⟨x0, x1, x2, x3, x4, x5, x6, x7, x8, x9⟩ := C.out.cf.all))
  have ba := (Below.refl wn.heap.size wn).alloc (Nat.le_refl _) (p.obj q 28)
  refine at_worldP (fun W => Hid (FiC w W wn.heap.size p q)) (Lib.hid ⟨(C.out.step ba).bel, (C.out.step ba).cf, px_new wn 28 p q, C.out.cf.lt, HPF.out.keep (.of_below (C.out.step ba).bel)⟩) ?_
  obtain ⟨g, hgg⟩ : ∃ g, Hid (wn.heap.size = g) := ⟨_, Lib.hid rfl⟩
  rw [hgg.out]
  clear ba C hgg x0 x1 x2 x3 x4 x5 x6 x7 x8 x9
  rintro W F
  have nq1 := Nat.ne_of_lt F.out.lt
  have nq3 := Nat.ne_of_gt F.out.lt
  have b0 := F.out.cf.lt
  have b1 := F.out.cp.lt
  obtain ⟨x0, x1, x2, x3, x4, x5, x6, x7, x8, x9⟩ := F.out.cf.all
  obtain ⟨y0, y1, y2, y3, y4, y5, y6, y7, y8, y9⟩ := F.out.cp.all
  obtain ⟨z0, z1, z2, z3, z4, z5, z6, z7, z8, z9⟩ := F.out.cp.free
  go_upto_region 30 with fail
  all_goals
    refine at_worldP (fun V => ∃ x r, Hid (x = { p with magic := 1 }) ∧ Hid (FiV w V g x r)) ⟨_, _, Lib.hid rfl, Lib.hid F.out.magic⟩ ?_
    clear F nq1 nq3 b0 b1 x0 x1 x2 x3 x4 x5 x6 x7 x8 x9 y0 y1 y2 y3 y4 y5 y6 y7 y8 y9 z0 z1 z2 z3 z4 z5 z6 z7 z8 z9
    rintro V ⟨x, r, hx, Z⟩
    obtain ⟨ox, sx, px⟩ := XX.out x hx.out
    have HP := Lib.hid px
    have OX := Lib.hid ox
    have SX := Lib.hid sx
    have hno3 : r.no ≤ 1073741824 := by rw [← Z.out.pw.lo]; exact sx.o
    obtain ⟨y0, y1, y2, y3, y4, y5, y6, y7, y8, y9⟩ := Z.out.cp.all
    have B := Lib.hid Z.out.bel
    clear ox sx px XX hx
    go_wp2_with (first
      | (go_at_call 9; (with_reducible refine (of15_any x r _ Z.out.pw hno3).mono ?_); rintro e wk ⟨r2, rfl, hp, hb⟩; have P := Lib.hid hp; replace B := Lib.hid (B.out.trans (hb.mono B.out.size)); clear hp hb Z y0 y1 y2 y3 y4 y5 y6 y7 y8 y9)
      | (go_at_call 8; (with_reducible refine (lput_any x r2 _ P.out OX.out SX.out [] 9 HP.out 0 rfl).mono ?_); rintro e wk ⟨A8, c8, rfl, h8, h8c, hb⟩; replace B := Lib.hid (B.out.trans (hb.mono B.out.size)); clear h8 h8c hb P))
    go_ret
    exact ⟨rfl, B.out⟩

set_option maxRecDepth 4000 in
set_option maxHeartbeats 16000000 in
theorem lfi_magic12 (p : Pk) (q : Pl) (t : Nat) (w : World) (h : IsPk w p q) (hf : fewP p = true) (m : List Nat) (hm : lputB p = (m, 0)) (ht : t % 7 = 5) (hc : 12 ≤ p.code) :
    Calls Try.prog 5 #[p.val q, .int .u8 (t : Int)] w fun e w' => e = .returned (.bool true) ∧ Below w.heap.size w w' := by
  have C := Lib.hid (BxC.made 28 w p q)
  have H := Lib.hid h.pw
  have HPF := Lib.hid h.pw.pwF
  have hno := h.no
  have HD := Lib.hid h.od
  have HK := Lib.hid h.ok
  have HF := Lib.hid hf
  have HS := Lib.hid (fewP_sm hf)
  have HM := Lib.hid hm
  have hno2 : q.no ≤ 1073741824 := by rw [← h.pw.lo]; exact (fewP_sm hf).o
  obtain ⟨pp, -, -, -, -⟩ := lput_ok hm
  have e0 : (t : Int) % 7 = 5 := by omega
  have c9' : (9 : Int) ≤ (p.code : Int) := by omega
  have c11' : ¬ (p.code : Int) ≤ 11 := by omega
  have hk : hasL p.code ≠ 3 := by
    unfold hasL
    split
    · decide
    · split
      · decide
      · rw [if_neg (by omega)]; decide
  have XX := Lib.hid (show ∀ x : Pk, x = { p with magic := 1 } → x.ok ∧ x.sm ∧ lputB x = ([], 9) from fun x hx => by
    subst hx
    have k := HK.out
    have s := HS.out
    exact ⟨⟨k.proto, k.code, k.id, k.opts, k.sub, show (1 : Nat) < 4294967296 by omega, k.one, k.two, k.data, k.nums⟩, ⟨s.o, s.d, s.n1, s.n2, s.nd, s.nn⟩, lput_field pp (noth_more (fun hh => by obtain ⟨a1, a2, a3, a4, a5, a6, a7⟩ := hh; exact absurd (show (1 : Nat) = 0 from a4 hk) (by decide)))⟩)
  clear h hf hm ht pp hc
  go_enter Try.func5, Try.ntmps5
  go_upto_region 7 with (first
    | (go_at_call 6; (with_reducible refine (speaks15 _).mono ?_); rintro e wn ⟨rfl, hb⟩; replace C := Lib.hid (C.out.step hb); clear hb; (try clear x0 x1 x2 x3 x4 x5 x6 x7 x8 x9); obtain ⟨x0, x1, x2, x3, x4, x5, x6, x7, x8, x9⟩ := C.out.cf.all)
    | (go_at_call 7; (with_reducible refine (few15_any p q _ (H.out.on C.out.bel) hno HD.out _ HF.out).mono ?_); rintro e wn ⟨rfl, hb⟩; replace C := Lib.hid (C.out.step hb); clear hb; (try clear x0 x1 x2 x3 x4 x5 x6 x7 x8 x9); obtain ⟨x0, x1, x2, x3, x4, x5, x6, x7, x8, x9⟩ := C.out.cf.all)
    | (go_at_call 10; (with_reducible refine (rput_any p q _ (H.out.on C.out.bel) HK.out HS.out m _ HM.out m.length rfl).mono ?_); rintro e wn ⟨A6, c6, rfl, h6, h6c, hb⟩; replace C := Lib.hid (C.out.step hb); clear h6 h6c hb; clear x0 x1 x2 x3 x4 x5 x6 x7 x8 x9; obtain ⟨x0, x1, x2, x3, x4, x5, x6, x7, x8, x9⟩ := C.out.cf.all))
  have ba := (Below.refl wn.heap.size wn).alloc (Nat.le_refl _) (p.obj q 28)
  refine at_worldP (fun W => Hid (FiC w W wn.heap.size p q)) (Lib.hid ⟨(C.out.step ba).bel, (C.out.step ba).cf, px_new wn 28 p q, C.out.cf.lt, HPF.out.keep (.of_below (C.out.step ba).bel)⟩) ?_
  obtain ⟨g, hgg⟩ : ∃ g, Hid (wn.heap.size = g) := ⟨_, Lib.hid rfl⟩
  rw [hgg.out]
  clear ba C hgg x0 x1 x2 x3 x4 x5 x6 x7 x8 x9
  rintro W F
  have nq1 := Nat.ne_of_lt F.out.lt
  have nq3 := Nat.ne_of_gt F.out.lt
  have b0 := F.out.cf.lt
  have b1 := F.out.cp.lt
  obtain ⟨x0, x1, x2, x3, x4, x5, x6, x7, x8, x9⟩ := F.out.cf.all
  obtain ⟨y0, y1, y2, y3, y4, y5, y6, y7, y8, y9⟩ := F.out.cp.all
  obtain ⟨z0, z1, z2, z3, z4, z5, z6, z7, z8, z9⟩ := F.out.cp.free
  go_upto_region 30 with fail
  all_goals
    refine at_worldP (fun V => ∃ x r, Hid (x = { p with magic := 1 }) ∧ Hid (FiV w V g x r)) ⟨_, _, Lib.hid rfl, Lib.hid F.out.magic⟩ ?_
    clear F nq1 nq3 b0 b1 x0 x1 x2 x3 x4 x5 x6 x7 x8 x9 y0 y1 y2 y3 y4 y5 y6 y7 y8 y9 z0 z1 z2 z3 z4 z5 z6 z7 z8 z9
    rintro V ⟨x, r, hx, Z⟩
    obtain ⟨ox, sx, px⟩ := XX.out x hx.out
    have HP := Lib.hid px
    have OX := Lib.hid ox
    have SX := Lib.hid sx
    have hno3 : r.no ≤ 1073741824 := by rw [← Z.out.pw.lo]; exact sx.o
    obtain ⟨y0, y1, y2, y3, y4, y5, y6, y7, y8, y9⟩ := Z.out.cp.all
    have B := Lib.hid Z.out.bel
    clear ox sx px XX hx
    go_wp2_with (first
      | (go_at_call 9; (with_reducible refine (of15_any x r _ Z.out.pw hno3).mono ?_); rintro e wk ⟨r2, rfl, hp, hb⟩; have P := Lib.hid hp; replace B := Lib.hid (B.out.trans (hb.mono B.out.size)); clear hp hb Z y0 y1 y2 y3 y4 y5 y6 y7 y8 y9)
      | (go_at_call 8; (with_reducible refine (lput_any x r2 _ P.out OX.out SX.out [] 9 HP.out 0 rfl).mono ?_); rintro e wk ⟨A8, c8, rfl, h8, h8c, hb⟩; replace B := Lib.hid (B.out.trans (hb.mono B.out.size)); clear h8 h8c hb P))
    go_ret
    exact ⟨rfl, B.out⟩

set_option maxRecDepth 4000 in
set_option maxHeartbeats 16000000 in
theorem lfi_proto (p : Pk) (q : Pl) (t : Nat) (w : World) (h : IsPk w p q) (hf : fewP p = true) (m : List Nat) (hm : lputB p = (m, 0)) (ht : t % 7 = 6)  :
    Calls Try.prog 5 #[p.val q, .int .u8 (t : Int)] w fun e w' => e = .returned (.bool true) ∧ Below w.heap.size w w' := by
  have C := Lib.hid (BxC.made 28 w p q)
  have H := Lib.hid h.pw
  have HPF := Lib.hid h.pw.pwF
  have hno := h.no
  have HD := Lib.hid h.od
  have HK := Lib.hid h.ok
  have HF := Lib.hid hf
  have HS := Lib.hid (fewP_sm hf)
  have HM := Lib.hid hm
  have hno2 : q.no ≤ 1073741824 := by rw [← h.pw.lo]; exact (fewP_sm hf).o
  obtain ⟨pp, -, -, -, -⟩ := lput_ok hm
  have e0 : (t : Int) % 7 = 6 := by omega
  obtain ⟨v, hv⟩ : ∃ v, v = p.proto + 1 := ⟨_, rfl⟩
  have i1 : (p.proto : Int) + 1 = (v : Int) := by omega
  have i2 : IntKind.u16.wrap (v : Int) = (v : Int) := by rw [IntKind.wrap_u16]; omega
  have XX := Lib.hid (show ∀ x : Pk, x = { p with proto := v } → x.ok ∧ x.sm ∧ lputB x = ([], 8) from fun x hx => by
    subst hx
    have k := HK.out
    have s := HS.out
    exact ⟨⟨show v < 65536 by omega, k.code, k.id, k.opts, k.sub, k.magic, k.one, k.two, k.data, k.nums⟩, ⟨s.o, s.d, s.n1, s.n2, s.nd, s.nn⟩, lput_kind (show ¬ v = 49185 by omega)⟩)
  clear h hf hm ht pp hv
  go_enter Try.func5, Try.ntmps5
  go_upto_region 7 with (first
    | (go_at_call 6; (with_reducible refine (speaks15 _).mono ?_); rintro e wn ⟨rfl, hb⟩; replace C := Lib.hid (C.out.step hb); clear hb; (try clear x0 x1 x2 x3 x4 x5 x6 x7 x8 x9); obtain ⟨x0, x1, x2, x3, x4, x5, x6, x7, x8, x9⟩ := C.out.cf.all)
    | (go_at_call 7; (with_reducible refine (few15_any p q _ (H.out.on C.out.bel) hno HD.out _ HF.out).mono ?_); rintro e wn ⟨rfl, hb⟩; replace C := Lib.hid (C.out.step hb); clear hb; (try clear x0 x1 x2 x3 x4 x5 x6 x7 x8 x9); obtain ⟨x0, x1, x2, x3, x4, x5, x6, x7, x8, x9⟩ := C.out.cf.all)
    | (go_at_call 10; (with_reducible refine (rput_any p q _ (H.out.on C.out.bel) HK.out HS.out m _ HM.out m.length rfl).mono ?_); rintro e wn ⟨A6, c6, rfl, h6, h6c, hb⟩; replace C := Lib.hid (C.out.step hb); clear h6 h6c hb; clear x0 x1 x2 x3 x4 x5 x6 x7 x8 x9; obtain ⟨x0, x1, x2, x3, x4, x5, x6, x7, x8, x9⟩ := C.out.cf.all))
  have ba := (Below.refl wn.heap.size wn).alloc (Nat.le_refl _) (p.obj q 28)
  refine at_worldP (fun W => Hid (FiC w W wn.heap.size p q)) (Lib.hid ⟨(C.out.step ba).bel, (C.out.step ba).cf, px_new wn 28 p q, C.out.cf.lt, HPF.out.keep (.of_below (C.out.step ba).bel)⟩) ?_
  obtain ⟨g, hgg⟩ : ∃ g, Hid (wn.heap.size = g) := ⟨_, Lib.hid rfl⟩
  rw [hgg.out]
  clear ba C hgg x0 x1 x2 x3 x4 x5 x6 x7 x8 x9
  rintro W F
  have nq1 := Nat.ne_of_lt F.out.lt
  have nq3 := Nat.ne_of_gt F.out.lt
  have b0 := F.out.cf.lt
  have b1 := F.out.cp.lt
  obtain ⟨x0, x1, x2, x3, x4, x5, x6, x7, x8, x9⟩ := F.out.cf.all
  obtain ⟨y0, y1, y2, y3, y4, y5, y6, y7, y8, y9⟩ := F.out.cp.all
  obtain ⟨z0, z1, z2, z3, z4, z5, z6, z7, z8, z9⟩ := F.out.cp.free
  go_upto_region 10 with fail
  all_goals
    refine at_worldP (fun V => ∃ x r, Hid (x = { p with proto := v }) ∧ Hid (FiV w V g x r)) ⟨_, _, Lib.hid rfl, Lib.hid (F.out.proto v)⟩ ?_
    clear F nq1 nq3 b0 b1 x0 x1 x2 x3 x4 x5 x6 x7 x8 x9 y0 y1 y2 y3 y4 y5 y6 y7 y8 y9 z0 z1 z2 z3 z4 z5 z6 z7 z8 z9
    rintro V ⟨x, r, hx, Z⟩
    obtain ⟨ox, sx, px⟩ := XX.out x hx.out
    have HP := Lib.hid px
    have OX := Lib.hid ox
    have SX := Lib.hid sx
    have hno3 : r.no ≤ 1073741824 := by rw [← Z.out.pw.lo]; exact sx.o
    obtain ⟨y0, y1, y2, y3, y4, y5, y6, y7, y8, y9⟩ := Z.out.cp.all
    have B := Lib.hid Z.out.bel
    clear ox sx px XX hx
    go_wp2_with (first
      | (go_at_call 9; (with_reducible refine (of15_any x r _ Z.out.pw hno3).mono ?_); rintro e wk ⟨r2, rfl, hp, hb⟩; have P := Lib.hid hp; replace B := Lib.hid (B.out.trans (hb.mono B.out.size)); clear hp hb Z y0 y1 y2 y3 y4 y5 y6 y7 y8 y9)
      | (go_at_call 8; (with_reducible refine (lput_any x r2 _ P.out OX.out SX.out [] 8 HP.out 0 rfl).mono ?_); rintro e wk ⟨A8, c8, rfl, h8, h8c, hb⟩; replace B := Lib.hid (B.out.trans (hb.mono B.out.size)); clear h8 h8c hb P))
    go_ret
    exact ⟨rfl, B.out⟩
end Go.Proofs.Ytbmmlkebhiijpaa
