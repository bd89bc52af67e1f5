
/-
  PapKeeps' walk. No condition.
-/
import Derived.Test.YtbagdaidhnegaaaPapS
import Derived.Test.YtbagdaidhnegaaaPktH
import Derived.Test.YtbagdaidhnegaaaPktQ
import Derived.Deep.CutRange
import Derived.Deep.RegionHeld3
namespace Go.Proofs.Ytbagdaidhnegaaa
open Go.RowKit
set_option linter.unusedVariables false

theorem bvs_setA (l : List Nat) (k x : Nat) : (bvs l).set k (.int .u8 (x : Int)) = bvs (l.set k x) := by simp [bvs, bv, List.map_set]
theorem Px.off {w w' : World} {b : Nat} {t : TypeId} {p : Pk} {q : Pl} {F : Nat → Prop} (h : Px w b t p q) (hk : Keeps F w w') (hb : F b) : Px w' b t p q := (hk.block b h.lt hb).trans h
/-- What PapKeeps knows of the world that it stands in: four packets in blocks of their own, none of them, nor what they lead to, among the row's. -/
structure KeC (F : Nat → Prop) (w W : World) (gx gq gw : Nat) (p y : Pk) (q r q1 q2 : Pl) : Prop where
  bel : Below w.heap.size w W
  cf : Px W w.heap.size 28 p q
  x : Px W gx 36 p r
  xq : Px W gq 36 y q1
  xw : Px W gw 36 y q2
  px : PwF F W p r
  pq : PwF F W y q1
  pw : PwF F W y q2
  f0 : F w.heap.size
  fx : F gx
  fq : F gq
  fw : F gw
section
variable {F : Nat → Prop} {w W X W' : World} {gx gq gw : Nat} {p y : Pk} {q r q1 q2 : Pl}
theorem KeC.step (h : KeC F w W gx gq gw p y q r q1 q2) (hb : Below X.heap.size X W') (hX : Below W.heap.size W X := by first | exact Below.refl _ _ | exact (Below.refl _ _).drew) : KeC F w W' gx gq gw p y q r q1 q2 :=
  have hh := hX.trans (hb.mono hX.size)
  ⟨h.bel.trans (hh.mono h.bel.size), h.cf.below hh, h.x.below hh, h.xq.below hh, h.xw.below hh, h.px.keep (.of_below hh), h.pq.keep (.of_below hh), h.pw.keep (.of_below hh), h.f0, h.fx, h.fq, h.fw⟩
theorem KeC.drew (h : KeC F w W gx gq gw p y q r q1 q2) : KeC F w W.drew gx gq gw p y q r q1 q2 := h.step (X := W) (Below.refl _ _).drew
theorem KeC.off {Y : Nat → Prop} (h : KeC F w W gx gq gw p y q r q1 q2) (ho : Offs Y W W') (hY : ∀ b, F b → ¬ Y b) (hw : ∀ b, b < w.heap.size → ¬ Y b) : KeC F w W' gx gq gw p y q r q1 q2 :=
  have hk : Keeps F W W' := .of_offs ho hY
  ⟨h.bel.trans (ho.below hw h.bel.size), h.cf.off hk h.f0, h.x.off hk h.fx, h.xq.off hk h.fq, h.xw.off hk h.fw, h.px.keep hk, h.pq.keep hk, h.pw.keep hk, h.f0, h.fx, h.fq, h.fw⟩
theorem KeC.flat (h : KeC F w W gx gq gw p y q r q1 q2) : W.cell? ⟨gx, 0, none⟩ = some (.int .u16 (p.proto : Int)) ∧ W.cell? ⟨gx, 1, none⟩ = some (.int .u8 (p.code : Int)) ∧ W.cell? ⟨gx, 2, none⟩ = some (.int .u8 (p.id : Int)) ∧ W.cell? ⟨gx, 3, none⟩ = some (.slice r.ao r.no r.co) ∧ W.cell? ⟨gx, 4, none⟩ = some (.int .u16 (p.sub : Int)) ∧ W.cell? ⟨gx, 5, none⟩ = some (.int .u32 (p.magic : Int)) ∧ W.cell? ⟨gx, 6, none⟩ = some (.slice r.a1 r.n1 r.c1) ∧ W.cell? ⟨gx, 7, none⟩ = some (.slice r.a2 r.n2 r.c2) ∧ W.cell? ⟨gx, 8, none⟩ = some (.slice r.ad r.nd r.cd) ∧ W.cell? ⟨gx, 9, none⟩ = some (.slice r.an r.nn r.cn) ∧ W.cell? ⟨w.heap.size, 0, none⟩ = some (.int .u16 (p.proto : Int)) ∧ W.cell? ⟨w.heap.size, 1, none⟩ = some (.int .u8 (p.code : Int)) ∧ W.cell? ⟨w.heap.size, 2, none⟩ = some (.int .u8 (p.id : Int)) ∧ W.cell? ⟨w.heap.size, 3, none⟩ = some (.slice q.ao q.no q.co) ∧ W.cell? ⟨w.heap.size, 4, none⟩ = some (.int .u16 (p.sub : Int)) ∧ W.cell? ⟨w.heap.size, 5, none⟩ = some (.int .u32 (p.magic : Int)) ∧ W.cell? ⟨w.heap.size, 6, none⟩ = some (.slice q.a1 q.n1 q.c1) ∧ W.cell? ⟨w.heap.size, 7, none⟩ = some (.slice q.a2 q.n2 q.c2) ∧ W.cell? ⟨w.heap.size, 8, none⟩ = some (.slice q.ad q.nd q.cd) ∧ W.cell? ⟨w.heap.size, 9, none⟩ = some (.slice q.an q.nn q.cn) ∧ W.cell? ⟨gq, 0, none⟩ = some (.int .u16 (y.proto : Int)) ∧ W.cell? ⟨gq, 1, none⟩ = some (.int .u8 (y.code : Int)) ∧ W.cell? ⟨gq, 2, none⟩ = some (.int .u8 (y.id : Int)) ∧ W.cell? ⟨gq, 3, none⟩ = some (.slice q1.ao q1.no q1.co) ∧ W.cell? ⟨gq, 4, none⟩ = some (.int .u16 (y.sub : Int)) ∧ W.cell? ⟨gq, 5, none⟩ = some (.int .u32 (y.magic : Int)) ∧ W.cell? ⟨gq, 6, none⟩ = some (.slice q1.a1 q1.n1 q1.c1) ∧ W.cell? ⟨gq, 7, none⟩ = some (.slice q1.a2 q1.n2 q1.c2) ∧ W.cell? ⟨gq, 8, none⟩ = some (.slice q1.ad q1.nd q1.cd) ∧ W.cell? ⟨gq, 9, none⟩ = some (.slice q1.an q1.nn q1.cn) ∧ W.cell? ⟨gw, 0, none⟩ = some (.int .u16 (y.proto : Int)) ∧ W.cell? ⟨gw, 1, none⟩ = some (.int .u8 (y.code : Int)) ∧ W.cell? ⟨gw, 2, none⟩ = some (.int .u8 (y.id : Int)) ∧ W.cell? ⟨gw, 3, none⟩ = some (.slice q2.ao q2.no q2.co) ∧ W.cell? ⟨gw, 4, none⟩ = some (.int .u16 (y.sub : Int)) ∧ W.cell? ⟨gw, 5, none⟩ = some (.int .u32 (y.magic : Int)) ∧ W.cell? ⟨gw, 6, none⟩ = some (.slice q2.a1 q2.n1 q2.c1) ∧ W.cell? ⟨gw, 7, none⟩ = some (.slice q2.a2 q2.n2 q2.c2) ∧ W.cell? ⟨gw, 8, none⟩ = some (.slice q2.ad q2.nd q2.cd) ∧ W.cell? ⟨gw, 9, none⟩ = some (.slice q2.an q2.nn q2.cn) := by
  obtain ⟨a0, a1, a2, a3, a4, a5, a6, a7, a8, a9⟩ := h.x.all
  obtain ⟨b0, b1, b2, b3, b4, b5, b6, b7, b8, b9⟩ := h.cf.all
  obtain ⟨c0, c1, c2, c3, c4, c5, c6, c7, c8, c9⟩ := h.xq.all
  exact ⟨a0, a1, a2, a3, a4, a5, a6, a7, a8, a9, b0, b1, b2, b3, b4, b5, b6, b7, b8, b9, c0, c1, c2, c3, c4, c5, c6, c7, c8, c9, h.xw.all⟩
end

set_option maxHeartbeats 4000000 in
theorem akeep_early (p : Pk) (q : Pl) (A1 : Option Addr) (n1 c1 : Nat) (w : World) (h : IsPk w p q) (hh : ¬ (fewP p = true ∧ n1 ≤ 600)) :
    Calls Try.prog 5 #[p.val q, .slice A1 n1 c1] w fun e w' => e = .returned (.bool true) ∧ Below w.heap.size w w' := by
  have C := Lib.hid (BxC.made 28 w p q)
  have H := Lib.hid h.pw
  have hno := h.no
  have HD := Lib.hid h.od
  cases hf : fewP p
  · have HF := Lib.hid hf
    clear hf hh h
    go_enter Try.func5, Try.ntmps5
    go_wp2_with (first
    | (go_at_call 6; (with_reducible refine (speaks17 _).mono ?_); rintro e wn ⟨rfl, hb⟩; replace C := Lib.hid (C.out.step hb); clear hb; (try clear x0 x1 x2 x3 x4 x5 x6 x7 x8 x9); obtain ⟨x0, x1, x2, x3, x4, x5, x6, x7, x8, x9⟩ := C.out.cf.all)
    | (go_at_call 7; (with_reducible refine (few15_any p q _ (H.out.on C.out.bel) hno HD.out _ HF.out).mono ?_); rintro e wn ⟨rfl, hb⟩; replace C := Lib.hid (C.out.step hb); clear hb; (try clear x0 x1 x2 x3 x4 x5 x6 x7 x8 x9); obtain ⟨x0, x1, x2, x3, x4, x5, x6, x7, x8, x9⟩ := C.out.cf.all))
    go_ret
    exact ⟨rfl, C.out.bel⟩
  · have j1 : (600 : Int) < (n1 : Int) := by
      have : ¬ n1 ≤ 600 := fun h1 => hh ⟨hf, h1⟩
      omega
    have HF := Lib.hid hf
    clear hf hh h
    go_enter Try.func5, Try.ntmps5
    go_wp2_with (first
    | (go_at_call 6; (with_reducible refine (speaks17 _).mono ?_); rintro e wn ⟨rfl, hb⟩; replace C := Lib.hid (C.out.step hb); clear hb; (try clear x0 x1 x2 x3 x4 x5 x6 x7 x8 x9); obtain ⟨x0, x1, x2, x3, x4, x5, x6, x7, x8, x9⟩ := C.out.cf.all)
    | (go_at_call 7; (with_reducible refine (few15_any p q _ (H.out.on C.out.bel) hno HD.out _ HF.out).mono ?_); rintro e wn ⟨rfl, hb⟩; replace C := Lib.hid (C.out.step hb); clear hb; (try clear x0 x1 x2 x3 x4 x5 x6 x7 x8 x9); obtain ⟨x0, x1, x2, x3, x4, x5, x6, x7, x8, x9⟩ := C.out.cf.all))
    go_ret
    exact ⟨rfl, C.out.bel⟩

set_option maxRecDepth 4000 in
set_option maxHeartbeats 40000000 in
theorem akeep_yes (p : Pk) (q : Pl) (b : List Nat) (A1 : Option Addr) (n1 c1 : Nat) (w : World) (h : IsPk w p q) (hR : Rd w w.heap.size A1 b) (hB : By b) (hL : b.length = n1) (hc1 : n1 ≤ c1) (hf : fewP p = true) (h1 : n1 ≤ 600) (y : Pk) (k2 : Nat) (hy : agetB b = (y, k2)) (hk2 : k2 = 0) :
    Calls Try.prog 5 #[p.val q, .slice A1 n1 c1] w fun e w' => e = .returned (.bool true) ∧ Below w.heap.size w w' := by
  obtain ⟨i0, hi, hz0, hz1, hz2⟩ := info_parts byte_info
  have C := Lib.hid (BxC.made 28 w p q)
  have H := Lib.hid h.pw
  have hno := h.no
  have HD := Lib.hid h.od
  have HF := Lib.hid hf
  have HS := Lib.hid (fewP_sm hf)
  have HR := Lib.hid hR
  have HB := Lib.hid hB
  have HL := Lib.hid hL
  have hno2 : q.no ≤ 1073741824 := by rw [← h.pw.lo]; exact (fewP_sm hf).o
  have j1 : ¬ (600 : Int) < (n1 : Int) := by omega
  obtain ⟨m, k, hm⟩ : ∃ m k, Hid (aputB p = (m, k)) := ⟨_, _, Lib.hid rfl⟩
  have HY := Lib.hid (aget_ok hB hy (by omega)).2
  have HG := Lib.hid hy
  have jk2 : ((k2 : Int) != 0) = false := by simp; omega
  subst hk2
  clear h hR hB hL hf hy
  go_enter Try.func5, Try.ntmps5
  go_upto_region 4 with (first
    | (go_at_call 6; (with_reducible refine (speaks17 _).mono ?_); rintro e wn ⟨rfl, hb⟩; replace C := Lib.hid (C.out.step hb); clear hb; (try clear x0 x1 x2 x3 x4 x5 x6 x7 x8 x9); obtain ⟨x0, x1, x2, x3, x4, x5, x6, x7, x8, x9⟩ := C.out.cf.all)
    | (go_at_call 7; (with_reducible refine (few15_any p q _ (H.out.on C.out.bel) hno HD.out _ HF.out).mono ?_); rintro e wn ⟨rfl, hb⟩; replace C := Lib.hid (C.out.step hb); clear hb; (try clear x0 x1 x2 x3 x4 x5 x6 x7 x8 x9); obtain ⟨x0, x1, x2, x3, x4, x5, x6, x7, x8, x9⟩ := C.out.cf.all)
    | (go_at_call 9; (with_reducible refine (of15_any p q _ (H.out.on C.out.bel) hno2).mono ?_); rintro e wn ⟨r, rfl, hp, hb⟩; have P := Lib.hid hp.pwF; replace C := Lib.hid (C.out.step hb); clear hp hb; clear x0 x1 x2 x3 x4 x5 x6 x7 x8 x9))
  have BA := Lib.hid ((Below.refl wn.heap.size wn).alloc (Nat.le_refl _) (p.obj r 36))
  have XA := Lib.hid (px_new wn 36 p r)
  have LW := Lib.hid C.out.cf.lt
  replace C := Lib.hid (C.out.step BA.out)
  have PA := Lib.hid (P.out.keep (.of_below BA.out))
  obtain ⟨gx, hgx⟩ : ∃ gx, Hid (wn.heap.size = gx) := ⟨_, Lib.hid rfl⟩
  rw [hgx.out] at XA PA LW ⊢
  refine at_worldP (fun W => Hid (BxC 28 w W p q) ∧ Hid (Px W gx 36 p r) ∧ Hid (PwF (fun i => i < gx) W p r)) ⟨C, XA, PA⟩ ?_
  clear C XA PA BA P hgx
  rintro wa ⟨C, X, P⟩
  obtain ⟨v0, v1, v2, v3, v4, v5, v6, v7, v8, v9⟩ := X.out.all
  obtain ⟨x0, x1, x2, x3, x4, x5, x6, x7, x8, x9⟩ := C.out.cf.all
  go_upto_region 9 with (first
    | (go_at_call 8; (with_reducible refine (aput_any p r _ P.out.pw HS.out m k hm.out m.length rfl).mono ?_); rintro e wn ⟨A5, c5, rfl, -, -, hb⟩; have OX := Lib.hid (show (wn.alloc (.cells #[] 5)).ownsRow wn.heap.size 5 1 (.slice (some ⟨wn.heap.size, 0, none⟩) 0 0) 0 (bvs []) from World.ownsRow_lit wn #[] 0 (Nat.le_refl _) (by unfold maxLen; omega) rfl); have BX := Lib.hid ((Below.refl wn.heap.size wn).alloc (Nat.le_refl _) (.cells #[] 5)); replace C := Lib.hid (C.out.step hb); replace X := Lib.hid (X.out.below hb); replace P := Lib.hid (P.out.keep (.of_below hb)); have GX := Lib.hid X.out.lt; clear hb; clear x0 x1 x2 x3 x4 x5 x6 x7 x8 x9; clear v0 v1 v2 v3 v4 v5 v6 v7 v8 v9)
    | (at_builtin; have _g := OX; clear _g; refine list_app rfl _ _ _ rfl _ i0 Try.underlying25 hi hz0 hz1 hz2 _ _ _ [] rfl OX.out _ _ n1 _ b rfl ((HR.out.on C.out.bel).on BX.out) HL.out (by omega) BX.out.size ?_; intro A10 c10 w10 h10 hg10; rw [List.nil_append, Nat.zero_add] at h10; rw [Nat.zero_add]; have hb := app_below BX.out (Nat.le_refl _) OX.out hg10; replace OX := Lib.hid h10; replace C := Lib.hid (C.out.step hb); replace X := Lib.hid (X.out.below hb); replace P := Lib.hid (P.out.keep (.of_below hb)); have B1 := Lib.hid (Nat.lt_of_lt_of_le LW.out (Nat.le_of_lt GX.out)); clear h10 hg10 hb BX; have W1 := Lib.hid trivial)
    | (go_at_call 11; have _g := W1; clear _g; (with_reducible refine (aget_any b n1 c10 A10 _ (Rd.own OX.out) HB.out HL.out (by omega) (own_cap OX.out) y _ HG.out).mono ?_); rintro e w11 ⟨q1, rfl, hp1, hb⟩; have ba := (Below.refl w11.heap.size w11).alloc (Nat.le_refl _) (y.obj q1 36); have Q1 := Lib.hid (hp1.keep (.of_below ba)); have XQ := Lib.hid (px_new w11 36 y q1); have SQ := Lib.hid hb.size; have bb := hb.trans (ba.mono hb.size); have QM := Lib.hid (fun g hg => OX.out.lt g hg : ∀ g, (Value.slice A10 n1 c10).ownBlock = some g → wn.heap.size ≤ g ∧ g < w10.heap.size); replace OX := Lib.hid (own_off OX.out (.of_below bb (X := fun _ => False)) (fun _ _ h => h)); replace C := Lib.hid (C.out.step bb); replace X := Lib.hid (X.out.below bb); replace P := Lib.hid (P.out.keep (.of_below bb)); clear hp1 hb ba bb W1; have W2 := Lib.hid trivial)
    | (go_at_call 11; have _g := W2; clear _g; (with_reducible refine (aget_any b n1 c1 A1 _ (HR.out.on C.out.bel) HB.out HL.out (by omega) hc1 y _ HG.out).mono ?_); rintro e w12 ⟨q2, rfl, hp2, hb⟩; have ba := (Below.refl w12.heap.size w12).alloc (Nat.le_refl _) (y.obj q2 36); have bb := hb.trans (ba.mono hb.size); have S2 := Lib.hid (show w10.heap.size ≤ w12.heap.size from Nat.le_trans SQ.out (Nat.le_trans (by rw [World.size_alloc]; exact Nat.le_succ _) hb.size)); have Z := Lib.hid (show KeC (fun i => i < wn.heap.size ∨ w10.heap.size ≤ i) w (w12.alloc (y.obj q2 36)) gx w11.heap.size w12.heap.size p y q r q1 q2 from ⟨(C.out.step bb).bel, (C.out.step bb).cf, X.out.below bb, XQ.out.below bb, px_new w12 36 y q2, (P.out.keep (.of_below bb)).mono (fun i _ hi => .inl (Nat.lt_trans hi GX.out)), (Q1.out.keep (.of_below bb)).mono (fun i _ hi => .inr hi), (hp2.keep (.of_below ba)).mono (fun i _ hi => .inr (Nat.le_trans (Nat.le_trans SQ.out (by rw [World.size_alloc]; exact Nat.le_succ _)) hi)), .inl B1.out, .inl GX.out, .inr SQ.out, .inr S2.out⟩); replace OX := Lib.hid (own_off OX.out (.of_below bb (X := fun _ => False)) (fun _ _ h => h)); clear hp2 hb ba bb C X P Q1 XQ W2))
  obtain ⟨b1, hb1⟩ : ∃ b1, Hid (wn.heap.size = b1) := ⟨_, Lib.hid rfl⟩
  obtain ⟨b2, hb2⟩ : ∃ b2, Hid (w10.heap.size = b2) := ⟨_, Lib.hid rfl⟩
  obtain ⟨gq, hgq⟩ : ∃ gq, Hid (w11.heap.size = gq) := ⟨_, Lib.hid rfl⟩
  obtain ⟨gw, hgw⟩ : ∃ gw, Hid (w12.heap.size = gw) := ⟨_, Lib.hid rfl⟩
  rw [hb1.out] at QM Z B1 OX
  rw [hb2.out] at QM Z
  rw [hgq.out] at Z ⊢
  rw [hgw.out] at Z ⊢
  refine at_worldP (fun W => Hid (KeC (fun i => i < b1 ∨ b2 ≤ i) w W gx gq gw p y q r q1 q2) ∧ Hid (W.ownsRow b1 5 1 (.slice A10 n1 c10) n1 (bvs b))) ⟨Z, OX⟩ ?_
  clear Z OX hb1 hb2 hgq hgw GX SQ S2
  rintro wl ⟨ZL, OX⟩
  have OXL := OX.out
  clear OX
  go_loopw [44] (fun i wr => ∃ (k : Nat) (m : List Nat), k ≤ n1 ∧ i = .int .i64 k ∧ Hid (m.length = n1) ∧ wr.ownsRow b1 5 1 (.slice A10 n1 c10) n1 (bvs m) ∧ Offs (fun g => (Value.slice A10 n1 c10).ownBlock = some g) wl wr) (fun i _ => n1 - (intOf i).toNat)
  case atStart => exact ⟨0, b, Nat.zero_le _, rfl, Lib.hid HL.out, OXL, Offs.refl _ _⟩
  case round =>
    obtain ⟨k, m', hk, rfl, hml, hown, hoff⟩ := hrel
    by_cases hlt : k < n1
    · obtain ⟨g, rfl⟩ : ∃ g, A10 = some ⟨g, 0, none⟩ := by
        obtain ⟨g, cap, e⟩ := own_some hown (by omega)
        injection e with e1
        exact ⟨g, e1⟩
      have i1 : (0 : Int) ≤ k := by omega
      have i2 : (k : Int) < n1 := by omega
      obtain ⟨x, hx⟩ : ∃ x, m'[k]? = some x := ⟨_, List.getElem?_eq_getElem (by rw [hml.out]; exact hlt)⟩
      have hst := hown.stored k (.int .u8 (((x + 1) % 256 : Nat) : Int))
      rw [bvs_setA, show (((x + 1) % 256 : Nat) : Int) = ((x : Int) + 1) % 256 by omega] at hst
      have HST := Lib.hid hst.1
      have HSL := Lib.hid (show (m'.set k ((x + 1) % 256)).length = n1 by rw [List.length_set]; exact hml.out)
      have hc0 := hown.cellAt k (by omega)
      have hf0 := hown.frozenAt k
      rw [bvs_get _ _ _ hx] at hc0
      have HO := Lib.hid hoff
      clear hst hx hown hoff
      go_wp2_with fail
      go_roundw
      case rel => exact ⟨k + 1, m'.set k ((x + 1) % 256), by omega, by go_num, HSL, HST.out, HO.out.trans (Offs.set (X := fun j => (Value.slice (some ⟨g, 0, none⟩) n1 c10).ownBlock = some j) wr g k _ rfl) (fun _ h => h) (fun _ _ h => h)⟩
      case measure => simp [intOf]; omega
    · have he : k = n1 := by omega
      subst he
      have Z := Lib.hid (ZL.out.off hoff (fun j hj e => by have := QM.out j e; omega) (fun j hj e => by have := QM.out j e; have := B1.out; omega))
      clear hown hoff hml ZL OXL
      obtain ⟨a0, a1, a2, a3, a4, a5, a6, a7, a8, a9, e0, e1, e2, e3, e4, e5, e6, e7, e8, e9, f0, f1, f2, f3, f4, f5, f6, f7, f8, f9, d0, d1, d2, d3, d4, d5, d6, d7, d8, d9⟩ := Z.out.flat
      go_upto_region 13 with fail
      (
        refine wp_region_held_drew (S := (fun W => W.cell? ⟨gx, 0, none⟩ = some (.int .u16 (p.proto : Int)) ∧ W.cell? ⟨gx, 1, none⟩ = some (.int .u8 (p.code : Int)) ∧ W.cell? ⟨gx, 2, none⟩ = some (.int .u8 (p.id : Int)) ∧ W.cell? ⟨gx, 3, none⟩ = some (.slice r.ao r.no r.co) ∧ W.cell? ⟨gx, 4, none⟩ = some (.int .u16 (p.sub : Int)) ∧ W.cell? ⟨gx, 5, none⟩ = some (.int .u32 (p.magic : Int)) ∧ W.cell? ⟨gx, 6, none⟩ = some (.slice r.a1 r.n1 r.c1) ∧ W.cell? ⟨gx, 7, none⟩ = some (.slice r.a2 r.n2 r.c2) ∧ W.cell? ⟨gx, 8, none⟩ = some (.slice r.ad r.nd r.cd) ∧ W.cell? ⟨gx, 9, none⟩ = some (.slice r.an r.nn r.cn) ∧ W.cell? ⟨w.heap.size, 0, none⟩ = some (.int .u16 (p.proto : Int)) ∧ W.cell? ⟨w.heap.size, 1, none⟩ = some (.int .u8 (p.code : Int)) ∧ W.cell? ⟨w.heap.size, 2, none⟩ = some (.int .u8 (p.id : Int)) ∧ W.cell? ⟨w.heap.size, 3, none⟩ = some (.slice q.ao q.no q.co) ∧ W.cell? ⟨w.heap.size, 4, none⟩ = some (.int .u16 (p.sub : Int)) ∧ W.cell? ⟨w.heap.size, 5, none⟩ = some (.int .u32 (p.magic : Int)) ∧ W.cell? ⟨w.heap.size, 6, none⟩ = some (.slice q.a1 q.n1 q.c1) ∧ W.cell? ⟨w.heap.size, 7, none⟩ = some (.slice q.a2 q.n2 q.c2) ∧ W.cell? ⟨w.heap.size, 8, none⟩ = some (.slice q.ad q.nd q.cd) ∧ W.cell? ⟨w.heap.size, 9, none⟩ = some (.slice q.an q.nn q.cn) ∧ W.cell? ⟨gq, 0, none⟩ = some (.int .u16 (y.proto : Int)) ∧ W.cell? ⟨gq, 1, none⟩ = some (.int .u8 (y.code : Int)) ∧ W.cell? ⟨gq, 2, none⟩ = some (.int .u8 (y.id : Int)) ∧ W.cell? ⟨gq, 3, none⟩ = some (.slice q1.ao q1.no q1.co) ∧ W.cell? ⟨gq, 4, none⟩ = some (.int .u16 (y.sub : Int)) ∧ W.cell? ⟨gq, 5, none⟩ = some (.int .u32 (y.magic : Int)) ∧ W.cell? ⟨gq, 6, none⟩ = some (.slice q1.a1 q1.n1 q1.c1) ∧ W.cell? ⟨gq, 7, none⟩ = some (.slice q1.a2 q1.n2 q1.c2) ∧ W.cell? ⟨gq, 8, none⟩ = some (.slice q1.ad q1.nd q1.cd) ∧ W.cell? ⟨gq, 9, none⟩ = some (.slice q1.an q1.nn q1.cn) ∧ W.cell? ⟨gw, 0, none⟩ = some (.int .u16 (y.proto : Int)) ∧ W.cell? ⟨gw, 1, none⟩ = some (.int .u8 (y.code : Int)) ∧ W.cell? ⟨gw, 2, none⟩ = some (.int .u8 (y.id : Int)) ∧ W.cell? ⟨gw, 3, none⟩ = some (.slice q2.ao q2.no q2.co) ∧ W.cell? ⟨gw, 4, none⟩ = some (.int .u16 (y.sub : Int)) ∧ W.cell? ⟨gw, 5, none⟩ = some (.int .u32 (y.magic : Int)) ∧ W.cell? ⟨gw, 6, none⟩ = some (.slice q2.a1 q2.n1 q2.c1) ∧ W.cell? ⟨gw, 7, none⟩ = some (.slice q2.a2 q2.n2 q2.c2) ∧ W.cell? ⟨gw, 8, none⟩ = some (.slice q2.ad q2.nd q2.cd) ∧ W.cell? ⟨gw, 9, none⟩ = some (.slice q2.an q2.nn q2.cn))) (by kernel_rfl) (by (first | (with_reducible exact Z.out.flat) | (with_reducible exact Z.out.drew.flat))) (fun _ => ?_)
        refine wpAnyH_take (i := 0) (oi := ?oy0) (v := ?vy0) ?hiy0 (by kernel_rfl) (by kernel_rfl) (by kernel_rfl) ?hqy0 (Or.inl ⟨?hwy0, ?hyy0⟩) (by (first | (with_reducible exact Z.out.flat) | (with_reducible exact Z.out.drew.flat))) ?resty0
        case hiy0 => (simp only [List.getElem?_toArray, List.getElem?_cons_zero]; rfl)
        case hwy0 => (rfl)
        case hqy0 => (exact fun _ _ _ h => h)
        case hyy0 => (intro w hSw; (try dsimp only at hSw); go_simp; (try with_reducible rfl))
        try simp only [Act.put, List.setIfInBounds_toArray, List.set_cons_zero, List.set_cons_succ]
        refine wpAnyH_take (i := 2) (oi := ?oy2) (v := ?vy2) ?hiy2 (by kernel_rfl) (by kernel_rfl) (by kernel_rfl) ?hqy2 (Or.inl ⟨?hwy2, ?hyy2⟩) (by (first | (with_reducible exact Z.out.flat) | (with_reducible exact Z.out.drew.flat))) ?resty2
        case hiy2 => (simp only [List.getElem?_toArray, List.getElem?_cons_succ, List.getElem?_cons_zero]; rfl)
        case hwy2 => (rfl)
        case hqy2 => (exact fun _ _ _ h => h)
        case hyy2 => (intro w hSw; (try dsimp only at hSw); go_simp; (try with_reducible rfl))
        try simp only [Act.put, List.setIfInBounds_toArray, List.set_cons_zero, List.set_cons_succ]
        refine wpAnyH_ready (rs := [1]) (by kernel_rfl) (by simp) ?_
        refine AllReadyH.cons (o := ?oy1) ?hiy1 (fun K hK => ?sty1) AllReadyH.nil
        case hiy1 => (simp only [List.getElem?_toArray, List.getElem?_cons_succ, List.getElem?_cons_zero]; rfl)
        go_simp
        go_at_call 15; (first | (with_reducible refine (to15_any p r _ Z.out.px.pw (by rw [← Z.out.px.lo]; exact HS.out.o)).mono ?_) | (with_reducible refine (to15_any p r _ Z.out.drew.px.pw (by rw [← Z.out.px.lo]; exact HS.out.o)).mono ?_)); rintro e wn ⟨r3, rfl, hp3, hb⟩; replace Z := Lib.hid (Z.out.step hb); have Pr3 := Lib.hid hp3; clear hp3 hb; dsimp only
        refine hK.out _ _ (by (first | (with_reducible exact Z.out.flat) | (with_reducible exact Z.out.drew.flat))) (fun _ => ?_)
        clear hK K
        try simp only [Act.put, List.setIfInBounds_toArray, List.set_cons_zero, List.set_cons_succ]
        refine wpAnyH_ready (rs := [3]) (by kernel_rfl) (by simp) ?_
        refine AllReadyH.cons (o := ?oy3) ?hiy3 (fun K hK => ?sty3) AllReadyH.nil
        case hiy3 => (simp only [List.getElem?_toArray, List.getElem?_cons_succ, List.getElem?_cons_zero]; rfl)
        go_simp
        go_at_call 14; (with_reducible refine (psame_yes p r3 q _ Pr3.out (H.out.on Z.out.bel) HS.out).mono ?_); rintro e wn ⟨rfl, hb⟩; replace Z := Lib.hid (Z.out.step hb); clear hb Pr3; dsimp only
        refine hK.out _ _ (by (first | (with_reducible exact Z.out.flat) | (with_reducible exact Z.out.drew.flat))) (fun _ => ?_)
        clear hK K
        try simp only [Act.put, List.setIfInBounds_toArray, List.set_cons_zero, List.set_cons_succ]
        refine wpAnyH_take (i := 4) (oi := ?oy4) (v := ?vy4) ?hiy4 (by kernel_rfl) (by kernel_rfl) (by kernel_rfl) ?hqy4 (Or.inl ⟨?hwy4, ?hyy4⟩) (by (first | (with_reducible exact Z.out.flat) | (with_reducible exact Z.out.drew.flat))) ?resty4
        case hiy4 => (simp only [List.getElem?_toArray, List.getElem?_cons_succ, List.getElem?_cons_zero]; rfl)
        case hwy4 => (rfl)
        case hqy4 => (exact fun _ _ _ h => h)
        case hyy4 => (intro w hSw; (try dsimp only at hSw); go_simp; (try with_reducible rfl))
        try simp only [Act.put, List.setIfInBounds_toArray, List.set_cons_zero, List.set_cons_succ]
        refine wpAnyH_take (i := 5) (oi := ?oy5) (v := ?vy5) ?hiy5 (by kernel_rfl) (by kernel_rfl) (by kernel_rfl) ?hqy5 (Or.inl ⟨?hwy5, ?hyy5⟩) (by (first | (with_reducible exact Z.out.flat) | (with_reducible exact Z.out.drew.flat))) ?resty5
        case hiy5 => (simp only [List.getElem?_toArray, List.getElem?_cons_succ, List.getElem?_cons_zero]; rfl)
        case hwy5 => (rfl)
        case hqy5 => (exact fun _ _ _ h => h)
        case hyy5 => (intro w hSw; (try dsimp only at hSw); go_simp; (try with_reducible rfl))
        try simp only [Act.put, List.setIfInBounds_toArray, List.set_cons_zero, List.set_cons_succ]
        refine wpAnyH_take (i := 6) (oi := ?oy6) (v := ?vy6) ?hiy6 (by kernel_rfl) (by kernel_rfl) (by kernel_rfl) ?hqy6 (Or.inl ⟨?hwy6, ?hyy6⟩) (by (first | (with_reducible exact Z.out.flat) | (with_reducible exact Z.out.drew.flat))) ?resty6
        case hiy6 => (simp only [List.getElem?_toArray, List.getElem?_cons_succ, List.getElem?_cons_zero]; rfl)
        case hwy6 => (rfl)
        case hqy6 => (exact fun _ _ _ h => h)
        case hyy6 => (intro w hSw; (try dsimp only at hSw); go_simp; (try with_reducible rfl))
        try simp only [Act.put, List.setIfInBounds_toArray, List.set_cons_zero, List.set_cons_succ]
        refine wpAnyH_take (i := 7) (oi := ?oy7) (v := ?vy7) ?hiy7 (by kernel_rfl) (by kernel_rfl) (by kernel_rfl) ?hqy7 (Or.inl ⟨?hwy7, ?hyy7⟩) (by (first | (with_reducible exact Z.out.flat) | (with_reducible exact Z.out.drew.flat))) ?resty7
        case hiy7 => (simp only [List.getElem?_toArray, List.getElem?_cons_succ, List.getElem?_cons_zero]; rfl)
        case hwy7 => (rfl)
        case hqy7 => (exact fun _ _ _ h => h)
        case hyy7 => (intro w hSw; (try dsimp only at hSw); go_simp; (try with_reducible rfl))
        try simp only [Act.put, List.setIfInBounds_toArray, List.set_cons_zero, List.set_cons_succ]
        refine wpAnyH_take (i := 8) (oi := ?oy8) (v := ?vy8) ?hiy8 (by kernel_rfl) (by kernel_rfl) (by kernel_rfl) ?hqy8 (Or.inl ⟨?hwy8, ?hyy8⟩) (by (first | (with_reducible exact Z.out.flat) | (with_reducible exact Z.out.drew.flat))) ?resty8
        case hiy8 => (simp only [List.getElem?_toArray, List.getElem?_cons_succ, List.getElem?_cons_zero]; rfl)
        case hwy8 => (rfl)
        case hqy8 => (exact fun _ _ _ h => h)
        case hyy8 => (intro w hSw; (try dsimp only at hSw); go_simp; (try with_reducible rfl))
        try simp only [Act.put, List.setIfInBounds_toArray, List.set_cons_zero, List.set_cons_succ]
        refine wpAnyH_take (i := 10) (oi := ?oy10) (v := ?vy10) ?hiy10 (by kernel_rfl) (by kernel_rfl) (by kernel_rfl) ?hqy10 (Or.inl ⟨?hwy10, ?hyy10⟩) (by (first | (with_reducible exact Z.out.flat) | (with_reducible exact Z.out.drew.flat))) ?resty10
        case hiy10 => (simp only [List.getElem?_toArray, List.getElem?_cons_succ, List.getElem?_cons_zero]; rfl)
        case hwy10 => (rfl)
        case hqy10 => (exact fun _ _ _ h => h)
        case hyy10 => (intro w hSw; (try dsimp only at hSw); go_simp; (try with_reducible rfl))
        try simp only [Act.put, List.setIfInBounds_toArray, List.set_cons_zero, List.set_cons_succ]
        refine wpAnyH_ready (rs := [9]) (by kernel_rfl) (by simp) ?_
        refine AllReadyH.cons (o := ?oy9) ?hiy9 (fun K hK => ?sty9) AllReadyH.nil
        case hiy9 => (simp only [List.getElem?_toArray, List.getElem?_cons_succ, List.getElem?_cons_zero]; rfl)
        go_simp
        go_at_call 15; (first | (with_reducible refine (to15_any y q1 _ Z.out.pq.pw (by rw [← Z.out.pq.lo]; exact HY.out.o)).mono ?_) | (with_reducible refine (to15_any y q1 _ Z.out.drew.pq.pw (by rw [← Z.out.pq.lo]; exact HY.out.o)).mono ?_)); rintro e wn ⟨r4, rfl, hp3, hb⟩; replace Z := Lib.hid (Z.out.step hb); have Pr4 := Lib.hid hp3; clear hp3 hb; dsimp only
        refine hK.out _ _ (by (first | (with_reducible exact Z.out.flat) | (with_reducible exact Z.out.drew.flat))) (fun _ => ?_)
        clear hK K
        try simp only [Act.put, List.setIfInBounds_toArray, List.set_cons_zero, List.set_cons_succ]
        refine wpAnyH_ready (rs := [11]) (by kernel_rfl) (by simp) ?_
        refine AllReadyH.cons (o := ?oy11) ?hiy11 (fun K hK => ?sty11) AllReadyH.nil
        case hiy11 => (simp only [List.getElem?_toArray, List.getElem?_cons_succ, List.getElem?_cons_zero]; rfl)
        go_simp
        go_at_call 15; (first | (with_reducible refine (to15_any y q2 _ Z.out.pw.pw (by rw [← Z.out.pw.lo]; exact HY.out.o)).mono ?_) | (with_reducible refine (to15_any y q2 _ Z.out.drew.pw.pw (by rw [← Z.out.pw.lo]; exact HY.out.o)).mono ?_)); rintro e wn ⟨r5, rfl, hp3, hb⟩; replace Z := Lib.hid (Z.out.step hb); replace Pr4 := Lib.hid (Pr4.out.on hb); have Pr5 := Lib.hid hp3; clear hp3 hb; dsimp only
        refine hK.out _ _ (by (first | (with_reducible exact Z.out.flat) | (with_reducible exact Z.out.drew.flat))) (fun _ => ?_)
        clear hK K
        try simp only [Act.put, List.setIfInBounds_toArray, List.set_cons_zero, List.set_cons_succ]
        refine wpAnyH_ready (rs := [12]) (by kernel_rfl) (by simp) ?_
        refine AllReadyH.cons (o := ?oy12) ?hiy12 (fun K hK => ?sty12) AllReadyH.nil
        case hiy12 => (simp only [List.getElem?_toArray, List.getElem?_cons_succ, List.getElem?_cons_zero]; rfl)
        go_simp
        go_at_call 14; (with_reducible refine (psame_yes y r4 r5 _ Pr4.out Pr5.out HY.out).mono ?_); rintro e wn ⟨rfl, hb⟩; replace Z := Lib.hid (Z.out.step hb); clear hb Pr4 Pr5; dsimp only
        refine hK.out _ _ (by (first | (with_reducible exact Z.out.flat) | (with_reducible exact Z.out.drew.flat))) (fun _ => ?_)
        clear hK K
        try simp only [Act.put, List.setIfInBounds_toArray, List.set_cons_zero, List.set_cons_succ]
        refine wpAnyH_take (i := 13) (oi := ?oy13) (v := ?vy13) ?hiy13 (by kernel_rfl) (by kernel_rfl) (by kernel_rfl) ?hqy13 (Or.inl ⟨?hwy13, ?hyy13⟩) (by (first | (with_reducible exact Z.out.flat) | (with_reducible exact Z.out.drew.flat))) ?resty13
        case hiy13 => (simp only [List.getElem?_toArray, List.getElem?_cons_succ, List.getElem?_cons_zero]; rfl)
        case hwy13 => (rfl)
        case hqy13 => (exact fun _ _ _ h => h)
        case hyy13 => (intro w hSw; (try dsimp only at hSw); go_simp; (try with_reducible rfl))
        try simp only [Act.put, List.setIfInBounds_toArray, List.set_cons_zero, List.set_cons_succ]
        refine wpAnyH_take (i := 14) (oi := ?oy14) (v := ?vy14) ?hiy14 (by kernel_rfl) (by kernel_rfl) (by kernel_rfl) ?hqy14 (Or.inl ⟨?hwy14, ?hyy14⟩) (by (first | (with_reducible exact Z.out.flat) | (with_reducible exact Z.out.drew.flat))) ?resty14
        case hiy14 => (simp only [List.getElem?_toArray, List.getElem?_cons_succ, List.getElem?_cons_zero]; rfl)
        case hwy14 => (rfl)
        case hqy14 => (exact fun _ _ _ h => h)
        case hyy14 => (intro w hSw; (try dsimp only at hSw); go_simp; (try with_reducible rfl))
        try simp only [Act.put, List.setIfInBounds_toArray, List.set_cons_zero, List.set_cons_succ]
        refine wpAnyH_take (i := 15) (oi := ?oy15) (v := ?vy15) ?hiy15 (by kernel_rfl) (by kernel_rfl) (by kernel_rfl) ?hqy15 (Or.inl ⟨?hwy15, ?hyy15⟩) (by (first | (with_reducible exact Z.out.flat) | (with_reducible exact Z.out.drew.flat))) ?resty15
        case hiy15 => (simp only [List.getElem?_toArray, List.getElem?_cons_succ, List.getElem?_cons_zero]; rfl)
        case hwy15 => (rfl)
        case hqy15 => (exact fun _ _ _ h => h)
        case hyy15 => (intro w hSw; (try dsimp only at hSw); go_simp; (try with_reducible rfl))
        try simp only [Act.put, List.setIfInBounds_toArray, List.set_cons_zero, List.set_cons_succ]
        refine wpAnyH_done (by kernel_rfl) ?_ _
        go_wp2_with fail
        go_ret
        exact ⟨rfl, Z.out.bel⟩)

set_option maxRecDepth 4000 in
set_option maxHeartbeats 40000000 in
theorem akeep_no (p : Pk) (q : Pl) (b : List Nat) (A1 : Option Addr) (n1 c1 : Nat) (w : World) (h : IsPk w p q) (hR : Rd w w.heap.size A1 b) (hB : By b) (hL : b.length = n1) (hc1 : n1 ≤ c1) (hf : fewP p = true) (h1 : n1 ≤ 600) (y : Pk) (k2 : Nat) (hy : agetB b = (y, k2)) (hk2 : ¬ k2 = 0) :
    Calls Try.prog 5 #[p.val q, .slice A1 n1 c1] w fun e w' => e = .returned (.bool true) ∧ Below w.heap.size w w' := by
  obtain ⟨i0, hi, hz0, hz1, hz2⟩ := info_parts byte_info
  have C := Lib.hid (BxC.made 28 w p q)
  have H := Lib.hid h.pw
  have hno := h.no
  have HD := Lib.hid h.od
  have HF := Lib.hid hf
  have HS := Lib.hid (fewP_sm hf)
  have HR := Lib.hid hR
  have HB := Lib.hid hB
  have HL := Lib.hid hL
  have hno2 : q.no ≤ 1073741824 := by rw [← h.pw.lo]; exact (fewP_sm hf).o
  have j1 : ¬ (600 : Int) < (n1 : Int) := by omega
  obtain ⟨m, k, hm⟩ : ∃ m k, Hid (aputB p = (m, k)) := ⟨_, _, Lib.hid rfl⟩
  have HY := Lib.hid (aget_ok hB hy (by omega)).2
  have HG := Lib.hid hy
  have jk2 : ((k2 : Int) != 0) = true := by rw [bne_iff_ne]; omega
  clear h hR hB hL hf hy hk2
  go_enter Try.func5, Try.ntmps5
  go_upto_region 4 with (first
    | (go_at_call 6; (with_reducible refine (speaks17 _).mono ?_); rintro e wn ⟨rfl, hb⟩; replace C := Lib.hid (C.out.step hb); clear hb; (try clear x0 x1 x2 x3 x4 x5 x6 x7 x8 x9); obtain ⟨x0, x1, x2, x3, x4, x5, x6, x7, x8, x9⟩ := C.out.cf.all)
    | (go_at_call 7; (with_reducible refine (few15_any p q _ (H.out.on C.out.bel) hno HD.out _ HF.out).mono ?_); rintro e wn ⟨rfl, hb⟩; replace C := Lib.hid (C.out.step hb); clear hb; (try clear x0 x1 x2 x3 x4 x5 x6 x7 x8 x9); obtain ⟨x0, x1, x2, x3, x4, x5, x6, x7, x8, x9⟩ := C.out.cf.all)
    | (go_at_call 9; (with_reducible refine (of15_any p q _ (H.out.on C.out.bel) hno2).mono ?_); rintro e wn ⟨r, rfl, hp, hb⟩; have P := Lib.hid hp.pwF; replace C := Lib.hid (C.out.step hb); clear hp hb; clear x0 x1 x2 x3 x4 x5 x6 x7 x8 x9))
  have BA := Lib.hid ((Below.refl wn.heap.size wn).alloc (Nat.le_refl _) (p.obj r 36))
  have XA := Lib.hid (px_new wn 36 p r)
  have LW := Lib.hid C.out.cf.lt
  replace C := Lib.hid (C.out.step BA.out)
  have PA := Lib.hid (P.out.keep (.of_below BA.out))
  obtain ⟨gx, hgx⟩ : ∃ gx, Hid (wn.heap.size = gx) := ⟨_, Lib.hid rfl⟩
  rw [hgx.out] at XA PA LW ⊢
  refine at_worldP (fun W => Hid (BxC 28 w W p q) ∧ Hid (Px W gx 36 p r) ∧ Hid (PwF (fun i => i < gx) W p r)) ⟨C, XA, PA⟩ ?_
  clear C XA PA BA P hgx
  rintro wa ⟨C, X, P⟩
  obtain ⟨v0, v1, v2, v3, v4, v5, v6, v7, v8, v9⟩ := X.out.all
  obtain ⟨x0, x1, x2, x3, x4, x5, x6, x7, x8, x9⟩ := C.out.cf.all
  go_upto_region 9 with (first
    | (go_at_call 8; (with_reducible refine (aput_any p r _ P.out.pw HS.out m k hm.out m.length rfl).mono ?_); rintro e wn ⟨A5, c5, rfl, -, -, hb⟩; have OX := Lib.hid (show (wn.alloc (.cells #[] 5)).ownsRow wn.heap.size 5 1 (.slice (some ⟨wn.heap.size, 0, none⟩) 0 0) 0 (bvs []) from World.ownsRow_lit wn #[] 0 (Nat.le_refl _) (by unfold maxLen; omega) rfl); have BX := Lib.hid ((Below.refl wn.heap.size wn).alloc (Nat.le_refl _) (.cells #[] 5)); replace C := Lib.hid (C.out.step hb); replace X := Lib.hid (X.out.below hb); replace P := Lib.hid (P.out.keep (.of_below hb)); have GX := Lib.hid X.out.lt; clear hb; clear x0 x1 x2 x3 x4 x5 x6 x7 x8 x9; clear v0 v1 v2 v3 v4 v5 v6 v7 v8 v9)
    | (at_builtin; have _g := OX; clear _g; refine list_app rfl _ _ _ rfl _ i0 Try.underlying25 hi hz0 hz1 hz2 _ _ _ [] rfl OX.out _ _ n1 _ b rfl ((HR.out.on C.out.bel).on BX.out) HL.out (by omega) BX.out.size ?_; intro A10 c10 w10 h10 hg10; rw [List.nil_append, Nat.zero_add] at h10; rw [Nat.zero_add]; have hb := app_below BX.out (Nat.le_refl _) OX.out hg10; replace OX := Lib.hid h10; replace C := Lib.hid (C.out.step hb); replace X := Lib.hid (X.out.below hb); replace P := Lib.hid (P.out.keep (.of_below hb)); have B1 := Lib.hid (Nat.lt_of_lt_of_le LW.out (Nat.le_of_lt GX.out)); clear h10 hg10 hb BX; have W1 := Lib.hid trivial)
    | (go_at_call 11; have _g := W1; clear _g; (with_reducible refine (aget_any b n1 c10 A10 _ (Rd.own OX.out) HB.out HL.out (by omega) (own_cap OX.out) y _ HG.out).mono ?_); rintro e w11 ⟨q1, rfl, hp1, hb⟩; have ba := (Below.refl w11.heap.size w11).alloc (Nat.le_refl _) (y.obj q1 36); have Q1 := Lib.hid (hp1.keep (.of_below ba)); have XQ := Lib.hid (px_new w11 36 y q1); have SQ := Lib.hid hb.size; have bb := hb.trans (ba.mono hb.size); have QM := Lib.hid (fun g hg => OX.out.lt g hg : ∀ g, (Value.slice A10 n1 c10).ownBlock = some g → wn.heap.size ≤ g ∧ g < w10.heap.size); replace OX := Lib.hid (own_off OX.out (.of_below bb (X := fun _ => False)) (fun _ _ h => h)); replace C := Lib.hid (C.out.step bb); replace X := Lib.hid (X.out.below bb); replace P := Lib.hid (P.out.keep (.of_below bb)); clear hp1 hb ba bb W1; have W2 := Lib.hid trivial)
    | (go_at_call 11; have _g := W2; clear _g; (with_reducible refine (aget_any b n1 c1 A1 _ (HR.out.on C.out.bel) HB.out HL.out (by omega) hc1 y _ HG.out).mono ?_); rintro e w12 ⟨q2, rfl, hp2, hb⟩; have ba := (Below.refl w12.heap.size w12).alloc (Nat.le_refl _) (y.obj q2 36); have bb := hb.trans (ba.mono hb.size); have S2 := Lib.hid (show w10.heap.size ≤ w12.heap.size from Nat.le_trans SQ.out (Nat.le_trans (by rw [World.size_alloc]; exact Nat.le_succ _) hb.size)); have Z := Lib.hid (show KeC (fun i => i < wn.heap.size ∨ w10.heap.size ≤ i) w (w12.alloc (y.obj q2 36)) gx w11.heap.size w12.heap.size p y q r q1 q2 from ⟨(C.out.step bb).bel, (C.out.step bb).cf, X.out.below bb, XQ.out.below bb, px_new w12 36 y q2, (P.out.keep (.of_below bb)).mono (fun i _ hi => .inl (Nat.lt_trans hi GX.out)), (Q1.out.keep (.of_below bb)).mono (fun i _ hi => .inr hi), (hp2.keep (.of_below ba)).mono (fun i _ hi => .inr (Nat.le_trans (Nat.le_trans SQ.out (by rw [World.size_alloc]; exact Nat.le_succ _)) hi)), .inl B1.out, .inl GX.out, .inr SQ.out, .inr S2.out⟩); replace OX := Lib.hid (own_off OX.out (.of_below bb (X := fun _ => False)) (fun _ _ h => h)); clear hp2 hb ba bb C X P Q1 XQ W2))
  obtain ⟨b1, hb1⟩ : ∃ b1, Hid (wn.heap.size = b1) := ⟨_, Lib.hid rfl⟩
  obtain ⟨b2, hb2⟩ : ∃ b2, Hid (w10.heap.size = b2) := ⟨_, Lib.hid rfl⟩
  obtain ⟨gq, hgq⟩ : ∃ gq, Hid (w11.heap.size = gq) := ⟨_, Lib.hid rfl⟩
  obtain ⟨gw, hgw⟩ : ∃ gw, Hid (w12.heap.size = gw) := ⟨_, Lib.hid rfl⟩
  rw [hb1.out] at QM Z B1 OX
  rw [hb2.out] at QM Z
  rw [hgq.out] at Z ⊢
  rw [hgw.out] at Z ⊢
  refine at_worldP (fun W => Hid (KeC (fun i => i < b1 ∨ b2 ≤ i) w W gx gq gw p y q r q1 q2) ∧ Hid (W.ownsRow b1 5 1 (.slice A10 n1 c10) n1 (bvs b))) ⟨Z, OX⟩ ?_
  clear Z OX hb1 hb2 hgq hgw GX SQ S2
  rintro wl ⟨ZL, OX⟩
  have OXL := OX.out
  clear OX
  go_loopw [44] (fun i wr => ∃ (k : Nat) (m : List Nat), k ≤ n1 ∧ i = .int .i64 k ∧ Hid (m.length = n1) ∧ wr.ownsRow b1 5 1 (.slice A10 n1 c10) n1 (bvs m) ∧ Offs (fun g => (Value.slice A10 n1 c10).ownBlock = some g) wl wr) (fun i _ => n1 - (intOf i).toNat)
  case atStart => exact ⟨0, b, Nat.zero_le _, rfl, Lib.hid HL.out, OXL, Offs.refl _ _⟩
  case round =>
    obtain ⟨k, m', hk, rfl, hml, hown, hoff⟩ := hrel
    by_cases hlt : k < n1
    · obtain ⟨g, rfl⟩ : ∃ g, A10 = some ⟨g, 0, none⟩ := by
        obtain ⟨g, cap, e⟩ := own_some hown (by omega)
        injection e with e1
        exact ⟨g, e1⟩
      have i1 : (0 : Int) ≤ k := by omega
      have i2 : (k : Int) < n1 := by omega
      obtain ⟨x, hx⟩ : ∃ x, m'[k]? = some x := ⟨_, List.getElem?_eq_getElem (by rw [hml.out]; exact hlt)⟩
      have hst := hown.stored k (.int .u8 (((x + 1) % 256 : Nat) : Int))
      rw [bvs_setA, show (((x + 1) % 256 : Nat) : Int) = ((x : Int) + 1) % 256 by omega] at hst
      have HST := Lib.hid hst.1
      have HSL := Lib.hid (show (m'.set k ((x + 1) % 256)).length = n1 by rw [List.length_set]; exact hml.out)
      have hc0 := hown.cellAt k (by omega)
      have hf0 := hown.frozenAt k
      rw [bvs_get _ _ _ hx] at hc0
      have HO := Lib.hid hoff
      clear hst hx hown hoff
      go_wp2_with fail
      go_roundw
      case rel => exact ⟨k + 1, m'.set k ((x + 1) % 256), by omega, by go_num, HSL, HST.out, HO.out.trans (Offs.set (X := fun j => (Value.slice (some ⟨g, 0, none⟩) n1 c10).ownBlock = some j) wr g k _ rfl) (fun _ h => h) (fun _ _ h => h)⟩
      case measure => simp [intOf]; omega
    · have he : k = n1 := by omega
      subst he
      have Z := Lib.hid (ZL.out.off hoff (fun j hj e => by have := QM.out j e; omega) (fun j hj e => by have := QM.out j e; have := B1.out; omega))
      clear hown hoff hml ZL OXL
      obtain ⟨a0, a1, a2, a3, a4, a5, a6, a7, a8, a9, e0, e1, e2, e3, e4, e5, e6, e7, e8, e9, f0, f1, f2, f3, f4, f5, f6, f7, f8, f9, d0, d1, d2, d3, d4, d5, d6, d7, d8, d9⟩ := Z.out.flat
      go_upto_region 13 with fail
      (
        refine wp_region_held_drew (S := (fun W => W.cell? ⟨gx, 0, none⟩ = some (.int .u16 (p.proto : Int)) ∧ W.cell? ⟨gx, 1, none⟩ = some (.int .u8 (p.code : Int)) ∧ W.cell? ⟨gx, 2, none⟩ = some (.int .u8 (p.id : Int)) ∧ W.cell? ⟨gx, 3, none⟩ = some (.slice r.ao r.no r.co) ∧ W.cell? ⟨gx, 4, none⟩ = some (.int .u16 (p.sub : Int)) ∧ W.cell? ⟨gx, 5, none⟩ = some (.int .u32 (p.magic : Int)) ∧ W.cell? ⟨gx, 6, none⟩ = some (.slice r.a1 r.n1 r.c1) ∧ W.cell? ⟨gx, 7, none⟩ = some (.slice r.a2 r.n2 r.c2) ∧ W.cell? ⟨gx, 8, none⟩ = some (.slice r.ad r.nd r.cd) ∧ W.cell? ⟨gx, 9, none⟩ = some (.slice r.an r.nn r.cn) ∧ W.cell? ⟨w.heap.size, 0, none⟩ = some (.int .u16 (p.proto : Int)) ∧ W.cell? ⟨w.heap.size, 1, none⟩ = some (.int .u8 (p.code : Int)) ∧ W.cell? ⟨w.heap.size, 2, none⟩ = some (.int .u8 (p.id : Int)) ∧ W.cell? ⟨w.heap.size, 3, none⟩ = some (.slice q.ao q.no q.co) ∧ W.cell? ⟨w.heap.size, 4, none⟩ = some (.int .u16 (p.sub : Int)) ∧ W.cell? ⟨w.heap.size, 5, none⟩ = some (.int .u32 (p.magic : Int)) ∧ W.cell? ⟨w.heap.size, 6, none⟩ = some (.slice q.a1 q.n1 q.c1) ∧ W.cell? ⟨w.heap.size, 7, none⟩ = some (.slice q.a2 q.n2 q.c2) ∧ W.cell? ⟨w.heap.size, 8, none⟩ = some (.slice q.ad q.nd q.cd) ∧ W.cell? ⟨w.heap.size, 9, none⟩ = some (.slice q.an q.nn q.cn) ∧ W.cell? ⟨gq, 0, none⟩ = some (.int .u16 (y.proto : Int)) ∧ W.cell? ⟨gq, 1, none⟩ = some (.int .u8 (y.code : Int)) ∧ W.cell? ⟨gq, 2, none⟩ = some (.int .u8 (y.id : Int)) ∧ W.cell? ⟨gq, 3, none⟩ = some (.slice q1.ao q1.no q1.co) ∧ W.cell? ⟨gq, 4, none⟩ = some (.int .u16 (y.sub : Int)) ∧ W.cell? ⟨gq, 5, none⟩ = some (.int .u32 (y.magic : Int)) ∧ W.cell? ⟨gq, 6, none⟩ = some (.slice q1.a1 q1.n1 q1.c1) ∧ W.cell? ⟨gq, 7, none⟩ = some (.slice q1.a2 q1.n2 q1.c2) ∧ W.cell? ⟨gq, 8, none⟩ = some (.slice q1.ad q1.nd q1.cd) ∧ W.cell? ⟨gq, 9, none⟩ = some (.slice q1.an q1.nn q1.cn) ∧ W.cell? ⟨gw, 0, none⟩ = some (.int .u16 (y.proto : Int)) ∧ W.cell? ⟨gw, 1, none⟩ = some (.int .u8 (y.code : Int)) ∧ W.cell? ⟨gw, 2, none⟩ = some (.int .u8 (y.id : Int)) ∧ W.cell? ⟨gw, 3, none⟩ = some (.slice q2.ao q2.no q2.co) ∧ W.cell? ⟨gw, 4, none⟩ = some (.int .u16 (y.sub : Int)) ∧ W.cell? ⟨gw, 5, none⟩ = some (.int .u32 (y.magic : Int)) ∧ W.cell? ⟨gw, 6, none⟩ = some (.slice q2.a1 q2.n1 q2.c1) ∧ W.cell? ⟨gw, 7, none⟩ = some (.slice q2.a2 q2.n2 q2.c2) ∧ W.cell? ⟨gw, 8, none⟩ = some (.slice q2.ad q2.nd q2.cd) ∧ W.cell? ⟨gw, 9, none⟩ = some (.slice q2.an q2.nn q2.cn))) (by kernel_rfl) (by (first | (with_reducible exact Z.out.flat) | (with_reducible exact Z.out.drew.flat))) (fun _ => ?_)
        refine wpAnyH_take (i := 0) (oi := ?on0) (v := ?vn0) ?hin0 (by kernel_rfl) (by kernel_rfl) (by kernel_rfl) ?hqn0 (Or.inl ⟨?hwn0, ?hyn0⟩) (by (first | (with_reducible exact Z.out.flat) | (with_reducible exact Z.out.drew.flat))) ?restn0
        case hin0 => (simp only [List.getElem?_toArray, List.getElem?_cons_zero]; rfl)
        case hwn0 => (rfl)
        case hqn0 => (exact fun _ _ _ h => h)
        case hyn0 => (intro w hSw; (try dsimp only at hSw); go_simp; (try with_reducible rfl))
        try simp only [Act.put, List.setIfInBounds_toArray, List.set_cons_zero, List.set_cons_succ]
        refine wpAnyH_take (i := 2) (oi := ?on2) (v := ?vn2) ?hin2 (by kernel_rfl) (by kernel_rfl) (by kernel_rfl) ?hqn2 (Or.inl ⟨?hwn2, ?hyn2⟩) (by (first | (with_reducible exact Z.out.flat) | (with_reducible exact Z.out.drew.flat))) ?restn2
        case hin2 => (simp only [List.getElem?_toArray, List.getElem?_cons_succ, List.getElem?_cons_zero]; rfl)
        case hwn2 => (rfl)
        case hqn2 => (exact fun _ _ _ h => h)
        case hyn2 => (intro w hSw; (try dsimp only at hSw); go_simp; (try with_reducible rfl))
        try simp only [Act.put, List.setIfInBounds_toArray, List.set_cons_zero, List.set_cons_succ]
        refine wpAnyH_ready (rs := [1]) (by kernel_rfl) (by simp) ?_
        refine AllReadyH.cons (o := ?on1) ?hin1 (fun K hK => ?stn1) AllReadyH.nil
        case hin1 => (simp only [List.getElem?_toArray, List.getElem?_cons_succ, List.getElem?_cons_zero]; rfl)
        go_simp
        go_at_call 15; (first | (with_reducible refine (to15_any p r _ Z.out.px.pw (by rw [← Z.out.px.lo]; exact HS.out.o)).mono ?_) | (with_reducible refine (to15_any p r _ Z.out.drew.px.pw (by rw [← Z.out.px.lo]; exact HS.out.o)).mono ?_)); rintro e wn ⟨r3, rfl, hp3, hb⟩; replace Z := Lib.hid (Z.out.step hb); have Pr3 := Lib.hid hp3; clear hp3 hb; dsimp only
        refine hK.out _ _ (by (first | (with_reducible exact Z.out.flat) | (with_reducible exact Z.out.drew.flat))) (fun _ => ?_)
        clear hK K
        try simp only [Act.put, List.setIfInBounds_toArray, List.set_cons_zero, List.set_cons_succ]
        refine wpAnyH_ready (rs := [3]) (by kernel_rfl) (by simp) ?_
        refine AllReadyH.cons (o := ?on3) ?hin3 (fun K hK => ?stn3) AllReadyH.nil
        case hin3 => (simp only [List.getElem?_toArray, List.getElem?_cons_succ, List.getElem?_cons_zero]; rfl)
        go_simp
        go_at_call 14; (with_reducible refine (psame_yes p r3 q _ Pr3.out (H.out.on Z.out.bel) HS.out).mono ?_); rintro e wn ⟨rfl, hb⟩; replace Z := Lib.hid (Z.out.step hb); clear hb Pr3; dsimp only
        refine hK.out _ _ (by (first | (with_reducible exact Z.out.flat) | (with_reducible exact Z.out.drew.flat))) (fun _ => ?_)
        clear hK K
        try simp only [Act.put, List.setIfInBounds_toArray, List.set_cons_zero, List.set_cons_succ]
        refine wpAnyH_take (i := 4) (oi := ?on4) (v := ?vn4) ?hin4 (by kernel_rfl) (by kernel_rfl) (by kernel_rfl) ?hqn4 (Or.inl ⟨?hwn4, ?hyn4⟩) (by (first | (with_reducible exact Z.out.flat) | (with_reducible exact Z.out.drew.flat))) ?restn4
        case hin4 => (simp only [List.getElem?_toArray, List.getElem?_cons_succ, List.getElem?_cons_zero]; rfl)
        case hwn4 => (rfl)
        case hqn4 => (exact fun _ _ _ h => h)
        case hyn4 => (intro w hSw; (try dsimp only at hSw); go_simp; (try with_reducible rfl))
        try simp only [Act.put, List.setIfInBounds_toArray, List.set_cons_zero, List.set_cons_succ]
        refine wpAnyH_take (i := 5) (oi := ?on5) (v := ?vn5) ?hin5 (by kernel_rfl) (by kernel_rfl) (by kernel_rfl) ?hqn5 (Or.inl ⟨?hwn5, ?hyn5⟩) (by (first | (with_reducible exact Z.out.flat) | (with_reducible exact Z.out.drew.flat))) ?restn5
        case hin5 => (simp only [List.getElem?_toArray, List.getElem?_cons_succ, List.getElem?_cons_zero]; rfl)
        case hwn5 => (rfl)
        case hqn5 => (exact fun _ _ _ h => h)
        case hyn5 => (intro w hSw; (try dsimp only at hSw); go_simp; (try with_reducible rfl))
        try simp only [Act.put, List.setIfInBounds_toArray, List.set_cons_zero, List.set_cons_succ]
        refine wpAnyH_take (i := 6) (oi := ?on6) (v := ?vn6) ?hin6 (by kernel_rfl) (by kernel_rfl) (by kernel_rfl) ?hqn6 (Or.inl ⟨?hwn6, ?hyn6⟩) (by (first | (with_reducible exact Z.out.flat) | (with_reducible exact Z.out.drew.flat))) ?restn6
        case hin6 => (simp only [List.getElem?_toArray, List.getElem?_cons_succ, List.getElem?_cons_zero]; rfl)
        case hwn6 => (rfl)
        case hqn6 => (exact fun _ _ _ h => h)
        case hyn6 => (intro w hSw; (try dsimp only at hSw); go_simp; (try with_reducible rfl))
        try simp only [Act.put, List.setIfInBounds_toArray, List.set_cons_zero, List.set_cons_succ]
        refine wpAnyH_take (i := 7) (oi := ?on7) (v := ?vn7) ?hin7 (by kernel_rfl) (by kernel_rfl) (by kernel_rfl) ?hqn7 (Or.inl ⟨?hwn7, ?hyn7⟩) (by (first | (with_reducible exact Z.out.flat) | (with_reducible exact Z.out.drew.flat))) ?restn7
        case hin7 => (simp only [List.getElem?_toArray, List.getElem?_cons_succ, List.getElem?_cons_zero]; rfl)
        case hwn7 => (rfl)
        case hqn7 => (exact fun _ _ _ h => h)
        case hyn7 => (intro w hSw; (try dsimp only at hSw); go_simp; (try with_reducible rfl))
        try simp only [Act.put, List.setIfInBounds_toArray, List.set_cons_zero, List.set_cons_succ]
        refine wpAnyH_take (i := 8) (oi := ?on8) (v := undef) ?hin8 (by kernel_rfl) (by kernel_rfl) (by kernel_rfl) ?hqn8 (Or.inr ⟨?hwn8, rfl⟩) (by (first | (with_reducible exact Z.out.flat) | (with_reducible exact Z.out.drew.flat))) ?restn8
        case hin8 => (simp only [List.getElem?_toArray, List.getElem?_cons_succ, List.getElem?_cons_zero]; rfl)
        case hqn8 => (exact fun _ _ _ h => h)
        case hwn8 => (rfl)
        try simp only [Act.put, List.setIfInBounds_toArray, List.set_cons_zero, List.set_cons_succ]
        refine wpAnyH_take (i := 9) (oi := ?on9) (v := undef) ?hin9 (by kernel_rfl) (by kernel_rfl) (by kernel_rfl) ?hqn9 (Or.inr ⟨?hwn9, rfl⟩) (by (first | (with_reducible exact Z.out.flat) | (with_reducible exact Z.out.drew.flat))) ?restn9
        case hin9 => (simp only [List.getElem?_toArray, List.getElem?_cons_succ, List.getElem?_cons_zero]; rfl)
        case hqn9 => (exact fun _ _ _ h => h)
        case hwn9 => (rfl)
        try simp only [Act.put, List.setIfInBounds_toArray, List.set_cons_zero, List.set_cons_succ]
        refine wpAnyH_take (i := 10) (oi := ?on10) (v := undef) ?hin10 (by kernel_rfl) (by kernel_rfl) (by kernel_rfl) ?hqn10 (Or.inr ⟨?hwn10, rfl⟩) (by (first | (with_reducible exact Z.out.flat) | (with_reducible exact Z.out.drew.flat))) ?restn10
        case hin10 => (simp only [List.getElem?_toArray, List.getElem?_cons_succ, List.getElem?_cons_zero]; rfl)
        case hqn10 => (exact fun _ _ _ h => h)
        case hwn10 => (rfl)
        try simp only [Act.put, List.setIfInBounds_toArray, List.set_cons_zero, List.set_cons_succ]
        refine wpAnyH_take (i := 11) (oi := ?on11) (v := undef) ?hin11 (by kernel_rfl) (by kernel_rfl) (by kernel_rfl) ?hqn11 (Or.inr ⟨?hwn11, rfl⟩) (by (first | (with_reducible exact Z.out.flat) | (with_reducible exact Z.out.drew.flat))) ?restn11
        case hin11 => (simp only [List.getElem?_toArray, List.getElem?_cons_succ, List.getElem?_cons_zero]; rfl)
        case hqn11 => (exact fun _ _ _ h => h)
        case hwn11 => (rfl)
        try simp only [Act.put, List.setIfInBounds_toArray, List.set_cons_zero, List.set_cons_succ]
        refine wpAnyH_take (i := 12) (oi := ?on12) (v := undef) ?hin12 (by kernel_rfl) (by kernel_rfl) (by kernel_rfl) ?hqn12 (Or.inr ⟨?hwn12, rfl⟩) (by (first | (with_reducible exact Z.out.flat) | (with_reducible exact Z.out.drew.flat))) ?restn12
        case hin12 => (simp only [List.getElem?_toArray, List.getElem?_cons_succ, List.getElem?_cons_zero]; rfl)
        case hqn12 => (exact fun _ _ _ h => h)
        case hwn12 => (rfl)
        try simp only [Act.put, List.setIfInBounds_toArray, List.set_cons_zero, List.set_cons_succ]
        refine wpAnyH_take (i := 13) (oi := ?on13) (v := ?vn13) ?hin13 (by kernel_rfl) (by kernel_rfl) (by kernel_rfl) ?hqn13 (Or.inl ⟨?hwn13, ?hyn13⟩) (by (first | (with_reducible exact Z.out.flat) | (with_reducible exact Z.out.drew.flat))) ?restn13
        case hin13 => (simp only [List.getElem?_toArray, List.getElem?_cons_succ, List.getElem?_cons_zero]; rfl)
        case hwn13 => (rfl)
        case hqn13 => (exact fun _ _ _ h => h)
        case hyn13 => (intro w hSw; (try dsimp only at hSw); go_simp; (try with_reducible rfl))
        try simp only [Act.put, List.setIfInBounds_toArray, List.set_cons_zero, List.set_cons_succ]
        refine wpAnyH_take (i := 14) (oi := ?on14) (v := ?vn14) ?hin14 (by kernel_rfl) (by kernel_rfl) (by kernel_rfl) ?hqn14 (Or.inl ⟨?hwn14, ?hyn14⟩) (by (first | (with_reducible exact Z.out.flat) | (with_reducible exact Z.out.drew.flat))) ?restn14
        case hin14 => (simp only [List.getElem?_toArray, List.getElem?_cons_succ, List.getElem?_cons_zero]; rfl)
        case hwn14 => (rfl)
        case hqn14 => (exact fun _ _ _ h => h)
        case hyn14 => (intro w hSw; (try dsimp only at hSw); go_simp; (try with_reducible rfl))
        try simp only [Act.put, List.setIfInBounds_toArray, List.set_cons_zero, List.set_cons_succ]
        refine wpAnyH_take (i := 15) (oi := ?on15) (v := ?vn15) ?hin15 (by kernel_rfl) (by kernel_rfl) (by kernel_rfl) ?hqn15 (Or.inl ⟨?hwn15, ?hyn15⟩) (by (first | (with_reducible exact Z.out.flat) | (with_reducible exact Z.out.drew.flat))) ?restn15
        case hin15 => (simp only [List.getElem?_toArray, List.getElem?_cons_succ, List.getElem?_cons_zero]; rfl)
        case hwn15 => (rfl)
        case hqn15 => (exact fun _ _ _ h => h)
        case hyn15 => (intro w hSw; (try dsimp only at hSw); go_simp; (try with_reducible rfl))
        try simp only [Act.put, List.setIfInBounds_toArray, List.set_cons_zero, List.set_cons_succ]
        refine wpAnyH_done (by kernel_rfl) ?_ _
        go_wp2_with fail
        go_ret
        exact ⟨rfl, Z.out.bel⟩)
end Go.Proofs.Ytbagdaidhnegaaa
