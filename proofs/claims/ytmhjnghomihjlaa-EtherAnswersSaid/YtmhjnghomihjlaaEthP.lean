
/-
  Of of a packet whose slices lie in blocks that F tells. No condition beyond: at most 2^30 options.
-/
import Derived.Test.YtmhjnghomihjlaaGPks
import Derived.Deep.RegionHeld3
import Derived.BigQuiet
namespace Go.Proofs.Ytmhjnghomihjlaa
set_option maxRecDepth 4000
open Go.RowKit

theorem otoF_v (F : Nat → Prop) (l : List (Nat × List Nat)) (n c : Nat) (A : Option Addr) (w : World) (hF : ∀ i, w.heap.size ≤ i → F i) (h : Rws shO F w A l) (hl : l.length = n) (hn : n ≤ 1073741824) :
    Calls Try.prog 20 #[.slice A n c] w fun e w' => ∃ A' c', e = .returned (.slice A' n c') ∧ Rws shO F w' A' l ∧ Below w.heap.size w w' :=
  (oto_any l n c A _ w h hF hl hn).mono fun _ _ ⟨v, h1, h2, h3⟩ => by
    obtain ⟨A', c', rfl, _, _, hr⟩ := h2.slice
    rw [hl] at h1
    exact ⟨A', c', h1, hr.mono (fun b _ hb => hb.elim id (fun h => hF b h)), h3⟩
set_option maxHeartbeats 4000000 in
theorem to15F_any (F : Nat → Prop) (p : Pk) (q : Pl) (w : World) (hF : ∀ i, w.heap.size ≤ i → F i) (h : PwF F w p q) (hn : q.no ≤ 1073741824) :
    Calls Try.prog 10 #[p.val q] w fun e w' => ∃ r, e = .returned (p.val r) ∧ PwF F w' p r ∧ Below w.heap.size w w' := by
  have C := Lib.hid (OfC.made 37 29 w p q)
  have H := Lib.hid h
  have RO := Lib.hid ((h.ro.mono (G := fun b => F b ∧ b < w.heap.size) (fun b hb hf => ⟨hf, hb⟩)))
  have HFF := Lib.hid hF
  clear h hF
  go_enter Try.func10, Try.ntmps10
  go_wp2_with fail
  obtain ⟨wm, hwm⟩ : ∃ wm, wm = (w.alloc (p.obj q 37)).alloc (obj0P 29) := ⟨_, rfl⟩
  rw [← hwm] at C ⊢
  clear hwm
  replace RO := Lib.hid ((RO.out.below C.out.bel).mono (G := fun b => F b ∧ b ≠ w.heap.size + 1) (fun b _ hb => ⟨hb.1, by have := hb.2; omega⟩))
  obtain ⟨G, hG⟩ : ∃ G, Hid (G = fun b => F b ∧ b ≠ w.heap.size + 1) := ⟨_, Lib.hid rfl⟩
  have FP := Lib.hid (show ∀ i, wm.heap.size ≤ i → G i by rw [hG.out]; exact fun i hi => ⟨HFF.out i (Nat.le_trans C.out.bel.size hi), Nat.ne_of_gt (Nat.lt_of_lt_of_le C.out.lt hi)⟩)
  have FPd := Lib.hid (show ∀ i, wm.drew.heap.size ≤ i → G i from FP.out)
  rw [← hG.out] at RO
  obtain ⟨x0, x1, x2, x3, x4, x5, x6, x7, x8, x9⟩ := C.out.cf.all
  go_region_held3 (fun W => W.cell? ⟨w.heap.size, 0, none⟩ = some (.int .u16 (p.proto : Int)) ∧ W.cell? ⟨w.heap.size, 1, none⟩ = some (.int .u8 (p.code : Int)) ∧ W.cell? ⟨w.heap.size, 2, none⟩ = some (.int .u8 (p.id : Int)) ∧ W.cell? ⟨w.heap.size, 3, none⟩ = some (.slice q.ao q.no q.co) ∧ W.cell? ⟨w.heap.size, 4, none⟩ = some (.int .u16 (p.sub : Int)) ∧ W.cell? ⟨w.heap.size, 5, none⟩ = some (.int .u32 (p.magic : Int)) ∧ W.cell? ⟨w.heap.size, 6, none⟩ = some (.slice q.a1 q.n1 q.c1) ∧ W.cell? ⟨w.heap.size, 7, none⟩ = some (.slice q.a2 q.n2 q.c2) ∧ W.cell? ⟨w.heap.size, 8, none⟩ = some (.slice q.ad q.nd q.cd) ∧ W.cell? ⟨w.heap.size, 9, none⟩ = some (.slice q.an q.nn q.cn)) (first | (with_reducible exact C.out.cf.all) | (with_reducible exact (C.out.step (Below.refl _ _).drew).cf.all) | (with_reducible exact C.out.put { q with ao := A, co := c })) (first
    | (go_at_call 20; (first | (with_reducible refine (otoF_v G p.opts q.no q.co q.ao _ FP.out RO.out H.out.lo hn).mono ?_) | (with_reducible refine (otoF_v G p.opts q.no q.co q.ao _ FPd.out (RO.out.below (Below.refl wm.heap.size wm).drew) H.out.lo hn).mono ?_)); rintro e wn ⟨A, c, rfl, hr, hb⟩; replace C := Lib.hid (C.out.step hb); have R := Lib.hid hr; clear hb hr RO; obtain ⟨y0, y1, y2, y3, y4, y5, y6, y7, y8, y9⟩ := C.out.res.all; obtain ⟨z0, z1, z2, z3, z4, z5, z6, z7, z8, z9⟩ := C.out.res.free; dsimp only))
  rw [hG.out] at R
  have B := Lib.hid (put10_below C.out.bel (Nat.le_succ _) p { q with ao := A, co := c })
  with_reducible refine at_worldP (fun W => Hid (Below w.heap.size w W) ∧ Hid (Px W (w.heap.size + 1) 29 p { q with ao := A, co := c }) ∧ Hid (PwF F W p { q with ao := A, co := c })) ⟨B, Lib.hid (put10_px C.out.res p { q with ao := A, co := c }), Lib.hid ((H.out.keep (.of_below B.out)).optsF ((R.out.keep ((put10_keeps wn (w.heap.size + 1) p { q with ao := A, co := c }).less (fun _ _ h => h.2))).mono (fun _ _ h => h.1)))⟩ ?_
  clear B C R H x0 x1 x2 x3 x4 x5 x6 x7 x8 x9 y0 y1 y2 y3 y4 y5 y6 y7 y8 y9 z0 z1 z2 z3 z4 z5 z6 z7 z8 z9
  rintro W ⟨B, X, P⟩
  all_goals go_wp2_with fail
  refine bodyPost_ret (v := p.val { q with ao := A, co := c }) ?_ rfl ⟨_, rfl, P.out, B.out⟩
  exact results_cell_row rfl _ _ (w.heap.size + 1) 29 _ _ _ rfl X.out Try.underlying29 rfl (by kernel_rfl)
end Go.Proofs.Ytmhjnghomihjlaa
