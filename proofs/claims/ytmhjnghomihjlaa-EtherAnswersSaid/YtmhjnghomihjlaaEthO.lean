
/-
  What the law's helpers of layer 22 answer: few, Same of two frames that are the same, Of, To. No condition beyond: at most 2^30 tags and options.
-/
import Derived.Test.YtmhjnghomihjlaaEthF
import Derived.Test.YtmhjnghomihjlaaEthP
import Derived.Test.YtmhjnghomihjlaaGTag
import Derived.Test.YtmhjnghomihjlaaGPkt
import Derived.Deep.RegionHeld3
namespace Go.Proofs.Ytmhjnghomihjlaa
set_option maxRecDepth 4000
open Go.RowKit
set_option linter.unusedVariables false

/-- Is a frame gone through? -/
def fewE (f : Fr) : Bool := tgfew f.tags && fewP f.pkt

set_option maxHeartbeats 4000000 in
theorem efew_any (f : Fr) (q : Fl) (w : World) (F : Nat → Prop) (h : FwF F w f q) (h1 : q.nt ≤ 140737488351232) (h2 : ∀ x ∈ f.tags, x.2.length ≤ 140737488351232) (h3 : q.pl.no ≤ 140737488351232) (h4 : ∀ x ∈ f.pkt.opts, x.2.length ≤ 140737488351232) (r : Bool) (hr : fewE f = r) :
    Calls Try.prog 5 #[f.val q] w fun e w' => e = .returned (.bool r) ∧ Below w.heap.size w w' := by
  have H := Lib.hid h
  have H2 := Lib.hid h2
  have H4 := Lib.hid h4
  have hb := (Below.refl w.heap.size w).alloc (Nat.le_refl _) (f.obj q 31)
  obtain ⟨wm, hwm⟩ : ∃ wm, wm = w.alloc (f.obj q 31) := ⟨_, rfl⟩
  have X := Lib.hid (show Fx wm w.heap.size 31 f q by rw [hwm]; exact fx_new w _ f q)
  rw [← hwm] at hb
  have B := Lib.hid hb
  have HW := Lib.hid hwm
  obtain ⟨t, ht⟩ : ∃ t, Hid (tgfew f.tags = t) := ⟨_, Lib.hid rfl⟩
  obtain ⟨u, hu⟩ : ∃ u, Hid (fewP f.pkt = u) := ⟨_, Lib.hid rfl⟩
  have hr2 : (t && u) = r := by rw [← hr, fewE, ht.out, hu.out]
  clear h h2 h4 hb hr hwm
  go_enter Try.func5, Try.ntmps5
  go_upto_region 1 with fail
  rw [← HW.out]
  obtain ⟨x0, x1, x2, x3, x4, x5, x6, x7, x8, x9, x10, x11, x12⟩ := X.out.all
  cases t
  · obtain rfl : false = r := hr2
    go_wp2_with (first
      | (go_at_call 14; (with_reducible refine (tgfew_any f.tags q.nt q.ct q.at_ F _ (H.out.on B.out).rt H.out.lt h1 140737488351232 (Nat.le_refl _) H2.out).mono ?_); rintro e wn ⟨rfl, hb⟩; rw [ht.out]; replace B := Lib.hid (B.out.trans (hb.mono B.out.size)); replace X := Lib.hid (X.out.below hb); clear hb))
    go_ret
    exact ⟨rfl, B.out⟩
  · obtain rfl : u = r := hr2
    go_wp2_with (first
      | (go_at_call 14; (with_reducible refine (tgfew_any f.tags q.nt q.ct q.at_ F _ (H.out.on B.out).rt H.out.lt h1 140737488351232 (Nat.le_refl _) H2.out).mono ?_); rintro e wn ⟨rfl, hb⟩; rw [ht.out]; replace B := Lib.hid (B.out.trans (hb.mono B.out.size)); replace X := Lib.hid (X.out.below hb); clear hb x0 x1 x2 x3 x4 x5 x6 x7 x8 x9 x10 x11 x12; obtain ⟨y0, y1, y2, y3, y4, y5, y6, y7, y8, y9, y10, y11, y12⟩ := X.out.all)
      | (go_at_call 15; (with_reducible refine (few15_any f.pkt q.pl _ (H.out.on B.out).pk.pw h3 H4.out _ hu.out).mono ?_); rintro e wn ⟨rfl, hb⟩; replace B := Lib.hid (B.out.trans (hb.mono B.out.size)); clear hb))
    go_ret
    exact ⟨rfl, B.out⟩

/-- A call's two frames, that say the same. -/
structure SaF (T : TypeId) (w W : World) (f : Fr) (q r : Fl) : Prop where
  bel : Below w.heap.size w W
  x : Fx W w.heap.size T f q
  y : Fx W (w.heap.size + 1) T f r
theorem SaF.made (T : TypeId) (w : World) (f : Fr) (q r : Fl) : SaF T w ((w.alloc (f.obj q T)).alloc (f.obj r T)) f q r := by
  have e1 : (w.alloc (f.obj q T)).heap.size = w.heap.size + 1 := World.size_alloc _ _
  refine ⟨belowP_two w _ _, heap_alloc2_old w _ _, ?_⟩
  have := fx_new (w.alloc (f.obj q T)) T f r
  rw [e1] at this
  exact this
theorem SaF.step {T : TypeId} {w W W' : World} {f : Fr} {q r : Fl} (h : SaF T w W f q r) (hb : Below W.heap.size W W') : SaF T w W' f q r := ⟨h.bel.trans (hb.mono h.bel.size), h.x.below hb, h.y.below hb⟩

/-- A call's own frame, and its result's block. -/
structure OfF (T U : TypeId) (w W : World) (f : Fr) (q : Fl) : Prop where
  bel : Below w.heap.size w W
  cf : Fx W w.heap.size T f q
  res : Fx W (w.heap.size + 1) U fr0 fl0
section
variable {T U : TypeId} {w W X W' : World} {f : Fr} {q : Fl}
theorem OfF.made (T U : TypeId) (w : World) (f : Fr) (q : Fl) : OfF T U w ((w.alloc (f.obj q T)).alloc (obj0F U)) f q := by
  have e1 : (w.alloc (f.obj q T)).heap.size = w.heap.size + 1 := World.size_alloc _ _
  refine ⟨belowP_two w _ _, heap_alloc2_old w _ _, ?_⟩
  have := heap_alloc_new (w.alloc (f.obj q T)) (obj0F U)
  rw [e1] at this
  exact fx0 this
theorem OfF.step (h : OfF T U w W f q) (hb : Below X.heap.size X W') (hX : Below W.heap.size W X := by first | exact Below.refl _ _ | exact (Below.refl _ _).drew) : OfF T U w W' f q :=
  have hh := hX.trans (hb.mono hX.size)
  ⟨h.bel.trans (hh.mono h.bel.size), h.cf.below hh, h.res.below hh⟩
theorem OfF.lt (h : OfF T U w W f q) : w.heap.size + 1 < W.heap.size := h.res.lt
theorem OfF.put (h : OfF T U w W f q) (r : Fl) : Fc (put13 W (w.heap.size + 1) f r) w.heap.size f q := (h.cf.putOther f r (by omega)).all
end

theorem tgofF_v (F : Nat → Prop) (l : List (Nat × List Nat)) (n c : Nat) (A : Option Addr) (w : World) (hF : ∀ i, w.heap.size ≤ i → F i) (h : Rws shG F w A l) (hl : l.length = n) (hn : n ≤ 1073741824) :
    Calls Try.prog 16 #[.slice A n c] w fun e w' => ∃ A' c', e = .returned (.slice A' n c') ∧ n ≤ c' ∧ Rws shG F w' A' l ∧ Below w.heap.size w w' :=
  (tgof_any l n c A F w h hF hl hn).mono fun _ _ ⟨v, h1, h2, h3⟩ => by
    obtain ⟨A', c', rfl, hc, _, hr⟩ := h2.slice
    rw [hl] at h1 hc
    exact ⟨A', c', h1, hc, hr.mono (fun i _ hi => hi.elim id (hF i)), h3⟩

set_option maxHeartbeats 16000000 in
theorem eofF_any (F : Nat → Prop) (f : Fr) (q : Fl) (w : World) (hF : ∀ i, w.heap.size ≤ i → F i) (h : FwF F w f q) (hn : q.nt ≤ 1073741824) (hn2 : q.pl.no ≤ 1073741824) :
    Calls Try.prog 6 #[f.val q] w fun e w' => ∃ r, e = .returned (f.val r) ∧ FwF F w' f r ∧ Below w.heap.size w w' := by
  have C := Lib.hid (OfF.made 31 39 w f q)
  have H := Lib.hid (h.mono (G := fun b => F b ∧ b < w.heap.size) (fun b hb hf => ⟨hf, hb⟩))
  have HFF := Lib.hid hF
  have HL := Lib.hid h.lt
  clear h hF
  go_enter Try.func6, Try.ntmps6
  go_wp2_with fail
  obtain ⟨wm, hwm⟩ : ∃ wm, wm = (w.alloc (f.obj q 31)).alloc (obj0F 39) := ⟨_, rfl⟩
  rw [← hwm] at C ⊢
  clear hwm
  obtain ⟨G, hG⟩ : ∃ G, Hid (G = fun b => F b ∧ b ≠ w.heap.size + 1) := ⟨_, Lib.hid rfl⟩
  replace H := Lib.hid (show FwF G wm f q by rw [hG.out]; exact (H.out.on C.out.bel).mono (fun b _ hb => ⟨hb.1, by have := hb.2; omega⟩))
  have FP := Lib.hid (show ∀ W : World, wm.heap.size ≤ W.heap.size → ∀ i, W.heap.size ≤ i → G i by rw [hG.out]; exact fun W hW i hi => ⟨HFF.out i (Nat.le_trans C.out.bel.size (Nat.le_trans hW hi)), Nat.ne_of_gt (Nat.lt_of_lt_of_le C.out.lt (Nat.le_trans hW hi))⟩)
  have D := Lib.hid (Below.refl wm.heap.size wm)
  obtain ⟨x0, x1, x2, x3, x4, x5, x6, x7, x8, x9, x10, x11, x12⟩ := C.out.cf.all
  go_region_held3 (fun W => W.cell? ⟨w.heap.size, 0, none⟩ = some (.int .u8 (f.code : Int)) ∧ W.cell? ⟨w.heap.size, 1, none⟩ = some (.int .u16 (f.sess : Int)) ∧ W.cell? ⟨w.heap.size, 2, none⟩ = some (.slice q.at_ q.nt q.ct) ∧ W.cell? ⟨w.heap.size, 3, none⟩ = some (.int .u16 (f.pkt.proto : Int)) ∧ W.cell? ⟨w.heap.size, 4, none⟩ = some (.int .u8 (f.pkt.code : Int)) ∧ W.cell? ⟨w.heap.size, 5, none⟩ = some (.int .u8 (f.pkt.id : Int)) ∧ W.cell? ⟨w.heap.size, 6, none⟩ = some (.slice q.pl.ao q.pl.no q.pl.co) ∧ W.cell? ⟨w.heap.size, 7, none⟩ = some (.int .u16 (f.pkt.sub : Int)) ∧ W.cell? ⟨w.heap.size, 8, none⟩ = some (.int .u32 (f.pkt.magic : Int)) ∧ W.cell? ⟨w.heap.size, 9, none⟩ = some (.slice q.pl.a1 q.pl.n1 q.pl.c1) ∧ W.cell? ⟨w.heap.size, 10, none⟩ = some (.slice q.pl.a2 q.pl.n2 q.pl.c2) ∧ W.cell? ⟨w.heap.size, 11, none⟩ = some (.slice q.pl.ad q.pl.nd q.pl.cd) ∧ W.cell? ⟨w.heap.size, 12, none⟩ = some (.slice q.pl.an q.pl.nn q.pl.cn)) (first | (with_reducible exact C.out.cf.all) | (with_reducible exact (C.out.step (Below.refl _ _).drew).cf.all) | (with_reducible exact C.out.put ⟨A, q.nt, c, r⟩)) (first
    | (go_at_call 16; (first | (with_reducible refine (tgofF_v G f.tags q.nt q.ct q.at_ _ (FP.out _ D.out.size) (H.out.on D.out).rt HL.out hn).mono ?_) | (with_reducible refine (tgofF_v G f.tags q.nt q.ct q.at_ _ (FP.out _ D.out.drew.size) (H.out.on D.out.drew).rt HL.out hn).mono ?_)); rintro e wn ⟨A, c, rfl, hc, hr, hb⟩; replace C := Lib.hid (C.out.step hb); replace D := Lib.hid (by first | exact D.out.trans (hb.mono D.out.size) | exact D.out.drew.trans (hb.mono D.out.drew.size)); have RT := Lib.hid hr; have HC := Lib.hid hc; (try replace RP := Lib.hid (RP.out.keep (.of_below hb))); clear hb hr hc; (try clear y0 y1 y2 y3 y4 y5 y6 y7 y8 y9 y10 y11 y12 z0 z1 z2 z3 z4 z5 z6 z7 z8 z9 z10 z11 z12); obtain ⟨y0, y1, y2, y3, y4, y5, y6, y7, y8, y9, y10, y11, y12⟩ := C.out.res.all; obtain ⟨z0, z1, z2, z3, z4, z5, z6, z7, z8, z9, z10, z11, z12⟩ := C.out.res.free; dsimp only)
    | (go_at_call 17; (first | (with_reducible refine (of15F_any G f.pkt q.pl _ (FP.out _ D.out.size) (H.out.on D.out).pk hn2).mono ?_) | (with_reducible refine (of15F_any G f.pkt q.pl _ (FP.out _ D.out.drew.size) (H.out.on D.out.drew).pk hn2).mono ?_)); rintro e wn ⟨r, rfl, hr, hb⟩; replace C := Lib.hid (C.out.step hb); replace D := Lib.hid (by first | exact D.out.trans (hb.mono D.out.size) | exact D.out.drew.trans (hb.mono D.out.drew.size)); have RP := Lib.hid hr; (try replace RT := Lib.hid (RT.out.below hb)); clear hb hr; (try clear y0 y1 y2 y3 y4 y5 y6 y7 y8 y9 y10 y11 y12 z0 z1 z2 z3 z4 z5 z6 z7 z8 z9 z10 z11 z12); obtain ⟨y0, y1, y2, y3, y4, y5, y6, y7, y8, y9, y10, y11, y12⟩ := C.out.res.all; obtain ⟨z0, z1, z2, z3, z4, z5, z6, z7, z8, z9, z10, z11, z12⟩ := C.out.res.free; dsimp only))
  all_goals
    rw [hG.out] at RT RP
    have B := Lib.hid (put13_below C.out.bel (Nat.le_succ _) f ⟨A, q.nt, c, r⟩)
    have K := Lib.hid (put13_keeps wn (w.heap.size + 1) f ⟨A, q.nt, c, r⟩)
    with_reducible refine at_worldP (fun W => Hid (Below w.heap.size w W) ∧ Hid (Fx W (w.heap.size + 1) 39 f ⟨A, q.nt, c, r⟩) ∧ Hid (FwF F W f ⟨A, q.nt, c, r⟩)) ⟨B, Lib.hid (put13_fx C.out.res f ⟨A, q.nt, c, r⟩), Lib.hid ⟨HL.out, (RT.out.keep (K.out.less (fun _ _ h => h.2))).mono (fun _ _ h => h.1), HC.out, (RP.out.keep (K.out.less (fun _ _ h => h.2))).mono (fun _ _ h => h.1)⟩⟩ ?_
    clear B C D H RT RP K x0 x1 x2 x3 x4 x5 x6 x7 x8 x9 x10 x11 x12 y0 y1 y2 y3 y4 y5 y6 y7 y8 y9 y10 y11 y12 z0 z1 z2 z3 z4 z5 z6 z7 z8 z9 z10 z11 z12
    rintro W ⟨B, X, P⟩
    all_goals go_wp2_with fail
    refine bodyPost_ret (v := f.val ⟨A, q.nt, c, r⟩) ?_ rfl ⟨_, rfl, P.out, B.out⟩
    exact results_cell_row rfl _ _ (w.heap.size + 1) 39 _ _ _ rfl X.out Try.underlying39 rfl (by kernel_rfl)

theorem tgtoF_v (F : Nat → Prop) (l : List (Nat × List Nat)) (n c : Nat) (A : Option Addr) (w : World) (hF : ∀ i, w.heap.size ≤ i → F i) (h : Rws shG F w A l) (hl : l.length = n) (hn : n ≤ 1073741824) :
    Calls Try.prog 12 #[.slice A n c] w fun e w' => ∃ A' c', e = .returned (.slice A' n c') ∧ n ≤ c' ∧ Rws shG F w' A' l ∧ Below w.heap.size w w' :=
  (tgto_any l n c A F w h hF hl hn).mono fun _ _ ⟨v, h1, h2, h3⟩ => by
    obtain ⟨A', c', rfl, hc, _, hr⟩ := h2.slice
    rw [hl] at h1 hc
    exact ⟨A', c', h1, hc, hr.mono (fun i _ hi => hi.elim id (hF i)), h3⟩

end Go.Proofs.Ytmhjnghomihjlaa
