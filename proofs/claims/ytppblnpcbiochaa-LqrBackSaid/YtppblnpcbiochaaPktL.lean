
/-
  What the law's own helpers answer on packets: Few, Of, To; the document's Same. No condition beyond: at most 2^30 elements in each slice.
-/
import Derived.Test.YtppblnpcbiochaaPkt
import Derived.Deep.RegionHeld3
import Derived.BigQuiet
namespace Go.Proofs.Ytppblnpcbiochaa
open Go.RowKit

/-- Of a size that all calls bear. -/
structure Pk.sm (p : Pk) : Prop where
  o : p.opts.length ≤ 1073741824
  d : datB p.opts ≤ 1073741824
  n1 : p.one.length ≤ 1073741824
  n2 : p.two.length ≤ 1073741824
  nd : p.data.length ≤ 1073741824
  nn : p.nums.length ≤ 1073741824
/-- Has a packet few octets? -/
def fewP (p : Pk) : Bool := fewB p.opts && decide (p.one.length ≤ 600) && decide (p.two.length ≤ 600) && decide (p.data.length ≤ 600) && decide (p.nums.length ≤ 40)
theorem fewP_of {p : Pk} (h : fewP p = true) : (p.opts.length ≤ 60 ∧ datB p.opts ≤ 1000) ∧ p.one.length ≤ 600 ∧ p.two.length ≤ 600 ∧ p.data.length ≤ 600 ∧ p.nums.length ≤ 40 := by
  unfold fewP at h
  simp only [Bool.and_eq_true, decide_eq_true_eq] at h
  exact ⟨few_of h.1.1.1.1, h.1.1.1.2, h.1.1.2, h.1.2, h.2⟩
theorem fewP_sm {p : Pk} (h : fewP p = true) : p.sm := by
  obtain ⟨⟨h1, h2⟩, h3, h4, h5, h6⟩ := fewP_of h
  exact ⟨by omega, by omega, by omega, by omega, by omega, by omega⟩

theorem belowP_two (w : World) (a b : Obj) : Below w.heap.size w ((w.alloc a).alloc b) := ((Below.refl w.heap.size w).alloc (Nat.le_refl _) a).alloc (by simp) b
/-- No packet, in memory. -/
abbrev obj0P (t : TypeId) : Obj := .cells #[.int .u16 0, .int .u8 0, .int .u8 0, .slice none 0 0, .int .u16 0, .int .u32 0, .slice none 0 0, .slice none 0 0, .slice none 0 0, .slice none 0 0] t (0, 0)
theorem px0 {w : World} {b : Nat} {t : TypeId} (h : w.heap[b]? = some (obj0P t)) : Px w b t pk0 pl0 := h

set_option maxHeartbeats 1000000 in
theorem few15_any (p : Pk) (q : Pl) (w : World) (h : Pw w p q) (hn : q.no ≤ 140737488351232) (hd : ∀ x ∈ p.opts, x.2.length ≤ 140737488351232) (r : Bool) (hr : fewP p = r) :
    Calls Try.prog 7 #[p.val q] w fun e w' => e = .returned (.bool r) ∧ Below w.heap.size w w' := by
  have hb1 := (Below.refl w.heap.size w).alloc (Nat.le_refl _) (p.obj q 28)
  have PX := Lib.hid (px_new w 28 p q)
  have H := Lib.hid (h.on hb1)
  have B := Lib.hid hb1
  have HD := Lib.hid hd
  have e1 := h.l1
  have e2 := h.l2
  have e3 := h.ld
  have e4 := h.ln
  obtain ⟨f, hf⟩ : ∃ f, Hid (fewB p.opts = f) := ⟨_, Lib.hid rfl⟩
  have E := Lib.hid (show r = (f && decide (q.n1 ≤ 600) && decide (q.n2 ≤ 600) && decide (q.nd ≤ 600) && decide (q.nn ≤ 40)) by rw [← hr, fewP, hf.out, e1, e2, e3, e4])
  clear h hb1 hd e1 e2 e3 e4 hr
  go_enter Try.func7, Try.ntmps7
  go_wp2_with (go_at_call 18; (with_reducible refine (few_v p.opts _ hf.out q.no q.co q.ao _ _ H.out.ro H.out.lo (by omega) HD.out).mono ?_); rintro e wn ⟨rfl, hb⟩; replace B := Lib.hid (B.out.trans (hb.mono B.out.size)); obtain ⟨x0, x1, x2, x3, x4, x5, x6, x7, x8, x9⟩ := (PX.out.below hb).all; clear hb; cases f)
  all_goals
    go_ret
    refine ⟨?_, B.out⟩
    show Ending.returned (.bool _) = _
    have W' := E.out
    clear E
    congr 2
    rw [W']
    try simp only [show ∀ n : Nat, ((n : Int) ≤ 600) = (n ≤ 600) from fun n => by simp only [eq_iff_iff]; omega, show ∀ n : Nat, ((n : Int) ≤ 40) = (n ≤ 40) from fun n => by simp only [eq_iff_iff]; omega] at *
    (try simp_all) <;> (try (intros; omega))

/-- What Of and To know of the world they stand in. -/
structure OfC (T U : TypeId) (w W : World) (p : Pk) (q : Pl) : Prop where
  bel : Below w.heap.size w W
  cf : Px W w.heap.size T p q
  res : Px W (w.heap.size + 1) U pk0 pl0
section
variable {T U : TypeId} {w W X W' : World} {p : Pk} {q : Pl}
theorem OfC.made (T U : TypeId) (w : World) (p : Pk) (q : Pl) : OfC T U w ((w.alloc (p.obj q T)).alloc (obj0P U)) p q := by
  have e1 : (w.alloc (p.obj q T)).heap.size = w.heap.size + 1 := World.size_alloc _ _
  refine ⟨belowP_two w _ _, heap_alloc2_old w _ _, ?_⟩
  have := heap_alloc_new (w.alloc (p.obj q T)) (obj0P U)
  rw [e1] at this
  exact px0 this
theorem OfC.step (h : OfC T U w W p q) (hb : Below X.heap.size X W') (hX : Below W.heap.size W X := by first | exact Below.refl _ _ | exact (Below.refl _ _).drew) : OfC T U w W' p q :=
  have hh := hX.trans (hb.mono hX.size)
  ⟨h.bel.trans (hh.mono h.bel.size), h.cf.below hh, h.res.below hh⟩
theorem OfC.lt (h : OfC T U w W p q) : w.heap.size + 1 < W.heap.size := h.res.lt
theorem OfC.put (h : OfC T U w W p q) (r : Pl) : Pc (put10 W (w.heap.size + 1) p r) w.heap.size p q := by
  have hne : w.heap.size ≠ w.heap.size + 1 := by omega
  exact ((((((((((h.cf.other _ hne).other _ hne).other _ hne).other _ hne).other _ hne).other _ hne).other _ hne).other _ hne).other _ hne).other _ hne).all
end

theorem keeps_set (w : World) (k j : Nat) (u : Value) : Keeps (fun b => b ≠ k) w (w.setCell ⟨k, j, none⟩ u) := ⟨by simp [World.setCell], fun i _ hx => Below.heap_setCell _ _ _ _ (fun e => hx e)⟩
theorem put10_keeps (w : World) (b : Nat) (p : Pk) (q : Pl) : Keeps (fun i => i ≠ b) w (put10 w b p q) :=
  (((((((((keeps_set _ _ _ _).trans (keeps_set _ _ _ _)).trans (keeps_set _ _ _ _)).trans (keeps_set _ _ _ _)).trans (keeps_set _ _ _ _)).trans (keeps_set _ _ _ _)).trans (keeps_set _ _ _ _)).trans (keeps_set _ _ _ _)).trans (keeps_set _ _ _ _)).trans (keeps_set _ _ _ _)
theorem Pw.opts {w : World} {p : Pk} {q : Pl} (h : Pw w p q) {A : Option Addr} {c : Nat} (hr : Rws shO (fun _ => True) w A p.opts) : Pw w p { q with ao := A, co := c } :=
  ⟨h.lo, hr, h.l1, h.r1, h.l2, h.r2, h.ld, h.rd, h.ln, h.rn, h.k1, h.k2, h.kd⟩
theorem oofN_v (l : List (Nat × List Nat)) (n c : Nat) (A : Option Addr) (k : Nat) (w : World) (hk : k < w.heap.size) (h : Rws shO (fun b => b ≠ k) w A l) (hl : l.length = n) (hn : n ≤ 1073741824) :
    Calls Try.prog 21 #[.slice A n c] w fun e w' => ∃ A' c', e = .returned (.slice A' n c') ∧ Rws shO (fun b => b ≠ k) w' A' l ∧ Below w.heap.size w w' :=
  (oof_any l n c A _ w h (fun b hb => by omega) hl hn).mono fun _ _ ⟨v, h1, h2, h3⟩ => by
    obtain ⟨A', c', rfl, _, _, hr⟩ := h2.slice
    rw [hl] at h1
    exact ⟨A', c', h1, hr.mono (fun b _ hb => hb.elim id (fun h => by omega)), h3⟩
theorem otoN_v (l : List (Nat × List Nat)) (n c : Nat) (A : Option Addr) (k : Nat) (w : World) (hk : k < w.heap.size) (h : Rws shO (fun b => b ≠ k) w A l) (hl : l.length = n) (hn : n ≤ 1073741824) :
    Calls Try.prog 26 #[.slice A n c] w fun e w' => ∃ A' c', e = .returned (.slice A' n c') ∧ Rws shO (fun b => b ≠ k) w' A' l ∧ Below w.heap.size w w' :=
  (oto_any l n c A _ w h (fun b hb => by omega) hl hn).mono fun _ _ ⟨v, h1, h2, h3⟩ => by
    obtain ⟨A', c', rfl, _, _, hr⟩ := h2.slice
    rw [hl] at h1
    exact ⟨A', c', h1, hr.mono (fun b _ hb => hb.elim id (fun h => by omega)), h3⟩
set_option maxHeartbeats 4000000 in
theorem of15_any (p : Pk) (q : Pl) (w : World) (h : Pw w p q) (hn : q.no ≤ 1073741824) :
    Calls Try.prog 9 #[p.val q] w fun e w' => ∃ r, e = .returned (p.val r) ∧ Pw w' p r ∧ Below w.heap.size w w' := by
  have C := Lib.hid (OfC.made 28 36 w p q)
  have H := Lib.hid h
  have RO := Lib.hid ((h.ro.mono (G := fun b => b < w.heap.size) (fun b hb _ => hb)))
  clear h
  go_enter Try.func9, Try.ntmps9
  go_wp2_with fail
  obtain ⟨wm, hwm⟩ : ∃ wm, wm = (w.alloc (p.obj q 28)).alloc (obj0P 36) := ⟨_, rfl⟩
  rw [← hwm] at C ⊢
  clear hwm
  replace RO := Lib.hid ((RO.out.below C.out.bel).mono (G := fun b => b ≠ w.heap.size + 1) (fun b _ hb => by omega))
  obtain ⟨x0, x1, x2, x3, x4, x5, x6, x7, x8, x9⟩ := C.out.cf.all
  go_region_held3 (fun W => W.cell? ⟨w.heap.size, 0, none⟩ = some (.int .u16 (p.proto : Int)) ∧ W.cell? ⟨w.heap.size, 1, none⟩ = some (.int .u8 (p.code : Int)) ∧ W.cell? ⟨w.heap.size, 2, none⟩ = some (.int .u8 (p.id : Int)) ∧ W.cell? ⟨w.heap.size, 3, none⟩ = some (.slice q.ao q.no q.co) ∧ W.cell? ⟨w.heap.size, 4, none⟩ = some (.int .u16 (p.sub : Int)) ∧ W.cell? ⟨w.heap.size, 5, none⟩ = some (.int .u32 (p.magic : Int)) ∧ W.cell? ⟨w.heap.size, 6, none⟩ = some (.slice q.a1 q.n1 q.c1) ∧ W.cell? ⟨w.heap.size, 7, none⟩ = some (.slice q.a2 q.n2 q.c2) ∧ W.cell? ⟨w.heap.size, 8, none⟩ = some (.slice q.ad q.nd q.cd) ∧ W.cell? ⟨w.heap.size, 9, none⟩ = some (.slice q.an q.nn q.cn)) (first | (with_reducible exact C.out.cf.all) | (with_reducible exact (C.out.step (Below.refl _ _).drew).cf.all) | (with_reducible exact C.out.put { q with ao := A, co := c })) (first
    | (go_at_call 21; (first | (with_reducible refine (oofN_v p.opts q.no q.co q.ao (w.heap.size + 1) _ C.out.lt RO.out H.out.lo hn).mono ?_) | (with_reducible refine (oofN_v p.opts q.no q.co q.ao (w.heap.size + 1) _ (C.out.step (Below.refl wm.heap.size wm).drew).lt (RO.out.below (Below.refl wm.heap.size wm).drew) H.out.lo hn).mono ?_)); rintro e wn ⟨A, c, rfl, hr, hb⟩; replace C := Lib.hid (C.out.step hb); have R := Lib.hid hr; clear hb hr RO; obtain ⟨y0, y1, y2, y3, y4, y5, y6, y7, y8, y9⟩ := C.out.res.all; obtain ⟨z0, z1, z2, z3, z4, z5, z6, z7, z8, z9⟩ := C.out.res.free; dsimp only))
  have B := Lib.hid (put10_below C.out.bel (Nat.le_succ _) p { q with ao := A, co := c })
  with_reducible refine at_worldP (fun W => Hid (Below w.heap.size w W) ∧ Hid (Px W (w.heap.size + 1) 36 p { q with ao := A, co := c }) ∧ Hid (Pw W p { q with ao := A, co := c })) ⟨B, Lib.hid (put10_px C.out.res p { q with ao := A, co := c }), Lib.hid ((H.out.on B.out).opts ((R.out.keep (put10_keeps wn (w.heap.size + 1) p { q with ao := A, co := c })).mono (fun _ _ _ => trivial)))⟩ ?_
  clear B C R H x0 x1 x2 x3 x4 x5 x6 x7 x8 x9 y0 y1 y2 y3 y4 y5 y6 y7 y8 y9 z0 z1 z2 z3 z4 z5 z6 z7 z8 z9
  rintro W ⟨B, X, P⟩
  all_goals go_wp2_with fail
  refine bodyPost_ret (v := p.val { q with ao := A, co := c }) ?_ rfl ⟨_, rfl, P.out, B.out⟩
  exact results_cell_row rfl _ _ (w.heap.size + 1) 36 _ _ _ rfl X.out Try.underlying36 rfl (by kernel_rfl)

set_option maxHeartbeats 4000000 in
theorem to15_any (p : Pk) (q : Pl) (w : World) (h : Pw w p q) (hn : q.no ≤ 1073741824) :
    Calls Try.prog 17 #[p.val q] w fun e w' => ∃ r, e = .returned (p.val r) ∧ Pw w' p r ∧ Below w.heap.size w w' := by
  have C := Lib.hid (OfC.made 36 28 w p q)
  have H := Lib.hid h
  have RO := Lib.hid ((h.ro.mono (G := fun b => b < w.heap.size) (fun b hb _ => hb)))
  clear h
  go_enter Try.func17, Try.ntmps17
  go_wp2_with fail
  obtain ⟨wm, hwm⟩ : ∃ wm, wm = (w.alloc (p.obj q 36)).alloc (obj0P 28) := ⟨_, rfl⟩
  rw [← hwm] at C ⊢
  clear hwm
  replace RO := Lib.hid ((RO.out.below C.out.bel).mono (G := fun b => b ≠ w.heap.size + 1) (fun b _ hb => by omega))
  obtain ⟨x0, x1, x2, x3, x4, x5, x6, x7, x8, x9⟩ := C.out.cf.all
  go_region_held3 (fun W => W.cell? ⟨w.heap.size, 0, none⟩ = some (.int .u16 (p.proto : Int)) ∧ W.cell? ⟨w.heap.size, 1, none⟩ = some (.int .u8 (p.code : Int)) ∧ W.cell? ⟨w.heap.size, 2, none⟩ = some (.int .u8 (p.id : Int)) ∧ W.cell? ⟨w.heap.size, 3, none⟩ = some (.slice q.ao q.no q.co) ∧ W.cell? ⟨w.heap.size, 4, none⟩ = some (.int .u16 (p.sub : Int)) ∧ W.cell? ⟨w.heap.size, 5, none⟩ = some (.int .u32 (p.magic : Int)) ∧ W.cell? ⟨w.heap.size, 6, none⟩ = some (.slice q.a1 q.n1 q.c1) ∧ W.cell? ⟨w.heap.size, 7, none⟩ = some (.slice q.a2 q.n2 q.c2) ∧ W.cell? ⟨w.heap.size, 8, none⟩ = some (.slice q.ad q.nd q.cd) ∧ W.cell? ⟨w.heap.size, 9, none⟩ = some (.slice q.an q.nn q.cn)) (first | (with_reducible exact C.out.cf.all) | (with_reducible exact (C.out.step (Below.refl _ _).drew).cf.all) | (with_reducible exact C.out.put { q with ao := A, co := c })) (first
    | (go_at_call 26; (first | (with_reducible refine (otoN_v p.opts q.no q.co q.ao (w.heap.size + 1) _ C.out.lt RO.out H.out.lo hn).mono ?_) | (with_reducible refine (otoN_v p.opts q.no q.co q.ao (w.heap.size + 1) _ (C.out.step (Below.refl wm.heap.size wm).drew).lt (RO.out.below (Below.refl wm.heap.size wm).drew) H.out.lo hn).mono ?_)); rintro e wn ⟨A, c, rfl, hr, hb⟩; replace C := Lib.hid (C.out.step hb); have R := Lib.hid hr; clear hb hr RO; obtain ⟨y0, y1, y2, y3, y4, y5, y6, y7, y8, y9⟩ := C.out.res.all; obtain ⟨z0, z1, z2, z3, z4, z5, z6, z7, z8, z9⟩ := C.out.res.free; dsimp only))
  have B := Lib.hid (put10_below C.out.bel (Nat.le_succ _) p { q with ao := A, co := c })
  with_reducible refine at_worldP (fun W => Hid (Below w.heap.size w W) ∧ Hid (Px W (w.heap.size + 1) 28 p { q with ao := A, co := c }) ∧ Hid (Pw W p { q with ao := A, co := c })) ⟨B, Lib.hid (put10_px C.out.res p { q with ao := A, co := c }), Lib.hid ((H.out.on B.out).opts ((R.out.keep (put10_keeps wn (w.heap.size + 1) p { q with ao := A, co := c })).mono (fun _ _ _ => trivial)))⟩ ?_
  clear B C R H x0 x1 x2 x3 x4 x5 x6 x7 x8 x9 y0 y1 y2 y3 y4 y5 y6 y7 y8 y9 z0 z1 z2 z3 z4 z5 z6 z7 z8 z9
  rintro W ⟨B, X, P⟩
  all_goals go_wp2_with fail
  refine bodyPost_ret (v := p.val { q with ao := A, co := c }) ?_ rfl ⟨_, rfl, P.out, B.out⟩
  exact results_cell_row rfl _ _ (w.heap.size + 1) 28 _ _ _ rfl X.out Try.underlying28 rfl (by kernel_rfl)

/-- What Same knows of the world it stands in. -/
structure SaC (T : TypeId) (w W : World) (p : Pk) (q r : Pl) : Prop where
  bel : Below w.heap.size w W
  x : Px W w.heap.size T p q
  y : Px W (w.heap.size + 1) T p r
section
variable {T : TypeId} {w W X W' : World} {p : Pk} {q r : Pl}
theorem SaC.made (T : TypeId) (w : World) (p : Pk) (q r : Pl) : SaC T w ((w.alloc (p.obj q T)).alloc (p.obj r T)) p q r := by
  have e1 : (w.alloc (p.obj q T)).heap.size = w.heap.size + 1 := World.size_alloc _ _
  refine ⟨belowP_two w _ _, heap_alloc2_old w _ _, ?_⟩
  have := px_new (w.alloc (p.obj q T)) T p r
  rw [e1] at this
  exact this
theorem SaC.step (h : SaC T w W p q r) (hb : Below X.heap.size X W') (hX : Below W.heap.size W X := by first | exact Below.refl _ _ | exact (Below.refl _ _).drew) : SaC T w W' p q r :=
  have hh := hX.trans (hb.mono hX.size)
  ⟨h.bel.trans (hh.mono h.bel.size), h.x.below hh, h.y.below hh⟩
end

set_option maxHeartbeats 8000000 in
theorem psame_yes (p : Pk) (q r : Pl) (w : World) (ha : Pw w p q) (hb : Pw w p r) (hs : p.sm) :
    Calls Try.prog 16 #[p.val q, p.val r] w fun e w' => e = .returned (.bool true) ∧ Below w.heap.size w w' := by
  have C := Lib.hid (SaC.made 28 w p q r)
  have HA := Lib.hid ha
  have HB := Lib.hid hb
  obtain ⟨s1, s2, s3, s4, s5, s6⟩ := hs
  have n1 : r.nn = q.nn := by rw [← ha.ln, ← hb.ln]
  have n2 : r.no = q.no := by rw [← ha.lo, ← hb.lo]
  have n3 : r.n1 = q.n1 := by rw [← ha.l1, ← hb.l1]
  have n4 : r.n2 = q.n2 := by rw [← ha.l2, ← hb.l2]
  have n5 : r.nd = q.nd := by rw [← ha.ld, ← hb.ld]
  have m1 : q.nn ≤ 1073741824 := by rw [← ha.ln]; exact s6
  have m2 : q.no ≤ 1073741824 := by rw [← ha.lo]; exact s1
  have m3 : q.n1 ≤ 1073741824 := by rw [← ha.l1]; exact s3
  have m4 : q.n2 ≤ 1073741824 := by rw [← ha.l2]; exact s4
  have m5 : q.nd ≤ 1073741824 := by rw [← ha.ld]; exact s5
  have S2 := Lib.hid s2
  have M := Lib.hid (show q.n1 ≤ 1099511627776 ∧ q.n2 ≤ 1099511627776 ∧ q.nd ≤ 1099511627776 from ⟨by omega, by omega, by omega⟩)
  have N := Lib.hid (show r.nn = q.nn from n1)
  have j0 : ((q.nn : Int) != (r.nn : Int)) = false := by rw [n1]; simp
  clear ha hb s1 s2 s3 s4 s5 s6 n1 n2 n3 n4 n5 m3 m4 m5
  go_enter Try.func16, Try.ntmps16
  go_wp2_with fail
  obtain ⟨wm, hwm⟩ : ∃ wm, wm = (w.alloc (p.obj q 28)).alloc (p.obj r 28) := ⟨_, rfl⟩
  rw [← hwm] at C ⊢
  clear hwm j0
  go_loopw [5] (fun i wr => ∃ k : Nat, k ≤ q.nn ∧ i = .int .i64 k ∧ Hid (Below wm.heap.size wm wr)) (fun i _ => q.nn - (intOf i).toNat)
  case atStart => exact ⟨0, Nat.zero_le _, rfl, Lib.hid (Below.refl _ _)⟩
  case round =>
    obtain ⟨k, hk, rfl, BW⟩ := hrel
    replace C := Lib.hid (C.out.step BW.out)
    obtain ⟨x0, x1, x2, x3, x4, x5, x6, x7, x8, x9⟩ := C.out.x.all
    obtain ⟨y0, y1, y2, y3, y4, y5, y6, y7, y8, y9⟩ := C.out.y.all
    by_cases hlt : k < q.nn
    · obtain ⟨b1, o1, v, hA, hv, hc⟩ := ((HA.out.on C.out.bel).rn).num (k := k) (by rw [HA.out.ln]; exact hlt)
      obtain ⟨b2, o2, v', hA2, hv', hc2⟩ := ((HB.out.on C.out.bel).rn).num (k := k) (by rw [HA.out.ln]; exact hlt)
      obtain rfl : v = v' := Option.some.inj (hv.symm.trans hv')
      rw [hA] at x9
      rw [hA2, N.out] at y9
      clear hA hA2 hv hv' x0 x1 x2 x3 x4 x5 x6 x7 x8 y0 y1 y2 y3 y4 y5 y6 y7 y8
      have i1 : (0 : Int) ≤ k := by omega
      have i2 : (k : Int) < q.nn := by omega
      go_wp2_with fail
      go_quiet (fail)
      all_goals go_wp2_with fail
      go_roundw
      case rel => exact ⟨k + 1, by omega, by go_num, Lib.hid (below_drewN BW.out _)⟩
      case measure => simp [intOf]; omega
    · have he : k = q.nn := by omega
      subst he
      have B := Lib.hid C.out.bel
      go_wp2_with (first
        | (go_at_call 25; (with_reducible refine (orsame_v p.opts p.opts _ (decide_eq_true rfl) q.no r.no q.co r.co _ _ _ _ _ (HA.out.on B.out).ro (HB.out.on B.out).ro HA.out.lo HB.out.lo (by omega) (Nat.le_trans S2.out (by decide))).mono ?_); rintro e wn ⟨rfl, hb⟩; replace C := Lib.hid (C.out.step hb); replace B := Lib.hid (B.out.trans (hb.mono B.out.size)); clear hb x0 x1 x2 x3 x4 x5 x6 x7 x8 x9 y0 y1 y2 y3 y4 y5 y6 y7 y8 y9; obtain ⟨x0, x1, x2, x3, x4, x5, x6, x7, x8, x9⟩ := C.out.x.all; obtain ⟨y0, y1, y2, y3, y4, y5, y6, y7, y8, y9⟩ := C.out.y.all)
        | (go_at_call 15; (with_reducible refine (equal_yes p.one p.one q.n1 r.n1 q.a1 r.a1 q.c1 r.c1 _ (HA.out.on B.out).r1 (HB.out.on B.out).r1 HA.out.l1 HB.out.l1 M.out.1 rfl).mono ?_); rintro e wn ⟨rfl, hb⟩; replace C := Lib.hid (C.out.step hb); replace B := Lib.hid (B.out.trans (hb.mono B.out.size)); clear hb x0 x1 x2 x3 x4 x5 x6 x7 x8 x9 y0 y1 y2 y3 y4 y5 y6 y7 y8 y9; obtain ⟨x0, x1, x2, x3, x4, x5, x6, x7, x8, x9⟩ := C.out.x.all; obtain ⟨y0, y1, y2, y3, y4, y5, y6, y7, y8, y9⟩ := C.out.y.all)
        | (go_at_call 15; (with_reducible refine (equal_yes p.two p.two q.n2 r.n2 q.a2 r.a2 q.c2 r.c2 _ (HA.out.on B.out).r2 (HB.out.on B.out).r2 HA.out.l2 HB.out.l2 M.out.2.1 rfl).mono ?_); rintro e wn ⟨rfl, hb⟩; replace C := Lib.hid (C.out.step hb); replace B := Lib.hid (B.out.trans (hb.mono B.out.size)); clear hb x0 x1 x2 x3 x4 x5 x6 x7 x8 x9 y0 y1 y2 y3 y4 y5 y6 y7 y8 y9; obtain ⟨x0, x1, x2, x3, x4, x5, x6, x7, x8, x9⟩ := C.out.x.all; obtain ⟨y0, y1, y2, y3, y4, y5, y6, y7, y8, y9⟩ := C.out.y.all)
        | (go_at_call 15; (with_reducible refine (equal_yes p.data p.data q.nd r.nd q.ad r.ad q.cd r.cd _ (HA.out.on B.out).rd (HB.out.on B.out).rd HA.out.ld HB.out.ld M.out.2.2 rfl).mono ?_); rintro e wn ⟨rfl, hb⟩; replace C := Lib.hid (C.out.step hb); replace B := Lib.hid (B.out.trans (hb.mono B.out.size)); clear hb x0 x1 x2 x3 x4 x5 x6 x7 x8 x9 y0 y1 y2 y3 y4 y5 y6 y7 y8 y9; obtain ⟨x0, x1, x2, x3, x4, x5, x6, x7, x8, x9⟩ := C.out.x.all; obtain ⟨y0, y1, y2, y3, y4, y5, y6, y7, y8, y9⟩ := C.out.y.all))
      go_ret
      exact ⟨rfl, B.out⟩
end Go.Proofs.Ytppblnpcbiochaa
