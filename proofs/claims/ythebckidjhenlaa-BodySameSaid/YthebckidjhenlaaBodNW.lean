
/-
  BodySame's walk. No condition.
-/
import Derived.Test.YthebckidjhenlaaBodC
import Derived.Test.YthebckidjhenlaaBodE
import Derived.Test.YthebckidjhenlaaPktO
import Derived.Test.YthebckidjhenlaaPktT
import Derived.Test.YthebckidjhenlaaGPkt
import Derived.Test.YthebckidjhenlaaLqrG
import Derived.Deep.CutRange
import Derived.Deep.RegionHeld3
namespace Go.Proofs.Ythebckidjhenlaa
set_option maxRecDepth 4000
open Go.RowKit
set_option linter.unusedVariables false

/-- A variable of its own holds a packet. -/
structure Vy (w W : World) (b : Nat) (p : Pk) (q : Pl) : Prop where
  gt : w.heap.size < b
  bx : Px W b 36 p q
theorem Px.putY {W : World} {b d : Nat} {t : TypeId} {p x : Pk} {q y : Pl} (h : Px W b t p q) (hne : b ≠ d) : Px (put10 W d x y) b t p q := ((((((((((h.other _ hne).other _ hne).other _ hne).other _ hne).other _ hne).other _ hne).other _ hne).other _ hne).other _ hne).other _ hne)
section
variable {w W X W' : World} {b d : Nat} {p x : Pk} {q y : Pl}
theorem BxC.putY {T : TypeId} (h : BxC T w W p q) (hd : w.heap.size < d) (x : Pk) (y : Pl) : BxC T w (put10 W d x y) p q := ⟨put10_below h.bel (Nat.le_of_lt hd) x y, h.cf.putY (Nat.ne_of_lt hd)⟩
theorem Vy.new {T : TypeId} (h : BxC T w W p q) : Vy w (W.alloc (obj0P 36)) W.heap.size pk0 pl0 := ⟨h.cf.lt, px0 (heap_alloc_new W _)⟩
theorem Vy.below (h : Vy w W b p q) (hb : Below W.heap.size W W') : Vy w W' b p q := ⟨h.gt, h.bx.below hb⟩
theorem Vy.al (h : Vy w W b p q) (u : Obj) : Vy w (W.alloc u) b p q := h.below ((Below.refl W.heap.size W).alloc (Nat.le_refl _) u)
theorem Vy.put (h : Vy w W b p q) (x : Pk) (y : Pl) : Vy w (put10 W b x y) b x y := ⟨h.gt, put10_px h.bx x y⟩
theorem Vy.putO (h : Vy w W b p q) (hne : b ≠ d) (x : Pk) (y : Pl) : Vy w (put10 W d x y) b p q := ⟨h.gt, h.bx.putY hne⟩
end
/-- What BodySame knows behind its two variables. -/
structure SaV (w W : World) (b5 b6 : Nat) (x y : Pk) (r3 r4 : Pl) : Prop where
  bel : Below w.heap.size w W
  g5 : w.heap.size < b5
  g6 : w.heap.size < b6
  ne : b5 ≠ b6
  v5 : Px W b5 36 x r3
  v6 : Px W b6 36 y r4
  p5 : PwF (fun i => i ≠ b5 ∧ i ≠ b6) W x r3
  p6 : PwF (fun i => i ≠ b5 ∧ i ≠ b6) W y r4
section
variable {w W X W' : World} {b5 b6 : Nat} {x y : Pk} {r3 r4 : Pl}
theorem SaV.step (h : SaV w W b5 b6 x y r3 r4) (hb : Below X.heap.size X W') (hX : Below W.heap.size W X := by first | exact Below.refl _ _ | exact (Below.refl _ _).drew) : SaV w W' b5 b6 x y r3 r4 :=
  have hh := hX.trans (hb.mono hX.size)
  ⟨h.bel.trans (hh.mono h.bel.size), h.g5, h.g6, h.ne, h.v5.below hh, h.v6.below hh, h.p5.keep (.of_below hh), h.p6.keep (.of_below hh)⟩
theorem SaV.kp (h : SaV w W b5 b6 x y r3 r4) (j : Nat) (u : Value) : Keeps (fun i => i ≠ b5 ∧ i ≠ b6) W (W.setCell ⟨b6, j, none⟩ u) := (keeps_set W b6 j u).less (fun _ _ hi => hi.2)
theorem SaV.set (h : SaV w W b5 b6 x y r3 r4) (j : Nat) (u : Value) {y' : Pk} {r' : Pl} (hv : Px (W.setCell ⟨b6, j, none⟩ u) b6 36 y' r') (hp : PwF (fun i => i ≠ b5 ∧ i ≠ b6) (W.setCell ⟨b6, j, none⟩ u) y' r') : SaV w (W.setCell ⟨b6, j, none⟩ u) b5 b6 x y' r3 r' :=
  ⟨h.bel.setCell (p := ⟨b6, j, none⟩) (Nat.le_of_lt h.g6) _, h.g5, h.g6, h.ne, h.v5.other _ h.ne, hv, h.p5.keep (h.kp j u), hp⟩
theorem SaV.proto (h : SaV w W b5 b6 x y r3 r4) (v : Nat) : SaV w (W.setCell ⟨b6, 0, none⟩ (.int .u16 (v : Int))) b5 b6 x { y with proto := v } r3 r4 :=
  have k := h.p6.keep (h.kp 0 (.int .u16 (v : Int)))
  h.set 0 _ (h.v6.setProto v) ⟨k.lo, k.ro, k.l1, k.r1, k.l2, k.r2, k.ld, k.rd, k.ln, k.rn, k.k1, k.k2, k.kd⟩
theorem SaV.code (h : SaV w W b5 b6 x y r3 r4) (v : Nat) : SaV w (W.setCell ⟨b6, 1, none⟩ (.int .u8 (v : Int))) b5 b6 x { y with code := v } r3 r4 :=
  have k := h.p6.keep (h.kp 1 (.int .u8 (v : Int)))
  h.set 1 _ (h.v6.setCode v) ⟨k.lo, k.ro, k.l1, k.r1, k.l2, k.r2, k.ld, k.rd, k.ln, k.rn, k.k1, k.k2, k.kd⟩
theorem SaV.id (h : SaV w W b5 b6 x y r3 r4) (v : Nat) : SaV w (W.setCell ⟨b6, 2, none⟩ (.int .u8 (v : Int))) b5 b6 x { y with id := v } r3 r4 :=
  have k := h.p6.keep (h.kp 2 (.int .u8 (v : Int)))
  h.set 2 _ (h.v6.setId v) ⟨k.lo, k.ro, k.l1, k.r1, k.l2, k.r2, k.ld, k.rd, k.ln, k.rn, k.k1, k.k2, k.kd⟩
theorem SaV.sub (h : SaV w W b5 b6 x y r3 r4) (v : Nat) : SaV w (W.setCell ⟨b6, 4, none⟩ (.int .u16 (v : Int))) b5 b6 x { y with sub := v } r3 r4 :=
  have k := h.p6.keep (h.kp 4 (.int .u16 (v : Int)))
  h.set 4 _ (h.v6.setSub v) ⟨k.lo, k.ro, k.l1, k.r1, k.l2, k.r2, k.ld, k.rd, k.ln, k.rn, k.k1, k.k2, k.kd⟩
theorem SaV.magic (h : SaV w W b5 b6 x y r3 r4) (v : Nat) : SaV w (W.setCell ⟨b6, 5, none⟩ (.int .u32 (v : Int))) b5 b6 x { y with magic := v } r3 r4 :=
  have k := h.p6.keep (h.kp 5 (.int .u32 (v : Int)))
  h.set 5 _ (h.v6.setMagic v) ⟨k.lo, k.ro, k.l1, k.r1, k.l2, k.r2, k.ld, k.rd, k.ln, k.rn, k.k1, k.k2, k.kd⟩
theorem SaV.one (h : SaV w W b5 b6 x y r3 r4) {A : Option Addr} {n c : Nat} {l : List Nat} (hl : l.length = n) (hc : n ≤ c) (hr : RdF (fun i => i ≠ b5 ∧ i ≠ b6) W A l) : SaV w (W.setCell ⟨b6, 6, none⟩ (.slice A n c)) b5 b6 x { y with one := l } r3 { r4 with a1 := A, n1 := n, c1 := c } :=
  have k := h.p6.keep (h.kp 6 (.slice A n c))
  h.set 6 _ (h.v6.setOne A n c l) ⟨k.lo, k.ro, hl, hr.keep (h.kp 6 _), k.l2, k.r2, k.ld, k.rd, k.ln, k.rn, hc, k.k2, k.kd⟩
theorem SaV.data (h : SaV w W b5 b6 x y r3 r4) {A : Option Addr} {n c : Nat} {l : List Nat} (hl : l.length = n) (hc : n ≤ c) (hr : RdF (fun i => i ≠ b5 ∧ i ≠ b6) W A l) : SaV w (W.setCell ⟨b6, 8, none⟩ (.slice A n c)) b5 b6 x { y with data := l } r3 { r4 with ad := A, nd := n, cd := c } :=
  have k := h.p6.keep (h.kp 8 (.slice A n c))
  h.set 8 _ (h.v6.setData A n c l) ⟨k.lo, k.ro, k.l1, k.r1, k.l2, k.r2, hl, hr.keep (h.kp 8 _), k.ln, k.rn, k.k1, k.k2, hc⟩
theorem SaV.nums (h : SaV w W b5 b6 x y r3 r4) {A : Option Addr} {n c : Nat} {l : List Nat} (hl : l.length = n) (hr : Rws shN (fun i => i ≠ b5 ∧ i ≠ b6) W A l) : SaV w (W.setCell ⟨b6, 9, none⟩ (.slice A n c)) b5 b6 x { y with nums := l } r3 { r4 with an := A, nn := n, cn := c } :=
  have k := h.p6.keep (h.kp 9 (.slice A n c))
  h.set 9 _ (h.v6.setNums A n c l) ⟨k.lo, k.ro, k.l1, k.r1, k.l2, k.r2, k.ld, k.rd, hl, hr.keep (h.kp 9 _), k.k1, k.k2, k.kd⟩
theorem SaV.opts (h : SaV w W b5 b6 x y r3 r4) {A : Option Addr} {n c : Nat} {l : List (Nat × List Nat)} (hl : l.length = n) (hr : Rws shO (fun i => i ≠ b5 ∧ i ≠ b6) W A l) : SaV w (W.setCell ⟨b6, 3, none⟩ (.slice A n c)) b5 b6 x { y with opts := l } r3 { r4 with ao := A, no := n, co := c } :=
  have k := h.p6.keep (h.kp 3 (.slice A n c))
  h.set 3 _ (h.v6.setOpts A n c l) ⟨hl, hr.keep (h.kp 3 _), k.l1, k.r1, k.l2, k.r2, k.ld, k.rd, k.ln, k.rn, k.k1, k.k2, k.kd⟩
end

set_option maxHeartbeats 4000000 in
theorem bsm_few (p : Pk) (q : Pl) (t : Nat) (w : World) (h : IsPk w p q) (hf : fewP p = false) :
    Calls Try.prog 5 #[p.val q, .int .u8 (t : Int)] w fun e w' => e = .returned (.bool true) ∧ Below w.heap.size w w' := by
  have C := Lib.hid (BxC.made 28 w p q)
  have H0 := Lib.hid h.pw
  have H := Lib.hid h.pw.pwF
  have hno := h.no
  have HD := Lib.hid h.od
  have HF := Lib.hid hf
  clear hf h
  go_enter Try.func5, Try.ntmps5
  go_wp2_with (first
    | (go_at_call 6; (with_reducible refine (speaks20 _).mono ?_); rintro e wn ⟨rfl, hb⟩; replace C := Lib.hid (C.out.step hb); clear hb; (try clear x0 x1 x2 x3 x4 x5 x6 x7 x8 x9); obtain ⟨x0, x1, x2, x3, x4, x5, x6, x7, x8, x9⟩ := C.out.cf.all)
    | (go_at_call 7; (with_reducible refine (few15_any p q _ (H0.out.on C.out.bel) hno HD.out _ HF.out).mono ?_); rintro e wn ⟨rfl, hb⟩; replace C := Lib.hid (C.out.step hb); clear hb; (try clear x0 x1 x2 x3 x4 x5 x6 x7 x8 x9); obtain ⟨x0, x1, x2, x3, x4, x5, x6, x7, x8, x9⟩ := C.out.cf.all))
  go_ret
  exact ⟨rfl, C.out.bel⟩

theorem litnO (w : World) (x : Nat) : Orw shN 24 (fun _ => True) w.heap.size (w.alloc (.cells #[.int .u32 (x : Int)] 24)) (.slice (some ⟨w.heap.size, 0, none⟩) 1 1) [x] :=
  Orw.lit (H := shN) w [[.int .u32 (x : Int)]] rfl (fun k y cs hx hc => by
    match k, hx, hc with
    | 0, hx, hc => injection hx with hx; injection hc with hc; subst hx; subst hc; rfl
    | k + 1, hx, hc => simp at hx) (Nat.le_of_ble_eq_true rfl)
theorem orwN_rd {T : TypeId} {F : Nat → Prop} {B n c : Nat} {w : World} {A : Option Addr} {l : List Nat} (h : Orw shN T F B w (.slice A n c) l) : Rws shN (fun b => B ≤ b) w A l := by
  obtain ⟨css, h1, h2, h3⟩ := h
  have h' : Orw shN T (fun _ => False) B w (.slice A n c) l := ⟨css, h1, h2, fun k x cs hx hc => show cs = _ from h3 k x cs hx hc⟩
  exact h'.read.mono fun _ _ hf => hf.elim False.elim id
theorem sm_more {p : Pk} (hf : fewP p = true) {y : Pk} (h1 : y.opts.length ≤ p.opts.length + 1) (h2 : datB y.opts ≤ datB p.opts + 1) (h3 : y.one.length ≤ p.one.length + 1) (h4 : y.two.length ≤ p.two.length + 1) (h5 : y.data.length ≤ p.data.length + 1) (h6 : y.nums.length ≤ p.nums.length + 1) : y.sm := by
  obtain ⟨⟨g1, g2⟩, g3, g4, g5, g6⟩ := fewP_of hf
  exact ⟨by omega, by omega, by omega, by omega, by omega, by omega⟩

set_option maxRecDepth 8000 in
set_option maxHeartbeats 400000000 in
theorem bsm_walk (p : Pk) (q : Pl) (t : Nat) (w : World) (h : IsPk w p q) (hf : fewP p = true) :
    Calls Try.prog 5 #[p.val q, .int .u8 (t : Int)] w fun e w' => e = .returned (.bool true) ∧ Below w.heap.size w w' := by
  have C := Lib.hid (BxC.made 28 w p q)
  have H0 := Lib.hid h.pw
  have H := Lib.hid h.pw.pwF
  have hno := h.no
  have HD := Lib.hid h.od
  have HF := Lib.hid hf
  have hno2 : q.no ≤ 1073741824 := by rw [← h.pw.lo]; exact (fewP_sm hf).o
  have HOK := Lib.hid h.ok
  have HS := Lib.hid (fewP_sm hf)
  clear h hf
  go_enter Try.func5, Try.ntmps5
  go_upto_region 3 with (first
    | (go_at_call 6; (with_reducible refine (speaks20 _).mono ?_); rintro e wn ⟨rfl, hb⟩; replace C := Lib.hid (C.out.step hb); clear hb; (try clear x0 x1 x2 x3 x4 x5 x6 x7 x8 x9); obtain ⟨x0, x1, x2, x3, x4, x5, x6, x7, x8, x9⟩ := C.out.cf.all)
    | (go_at_call 7; (with_reducible refine (few15_any p q _ (H0.out.on C.out.bel) hno HD.out _ HF.out).mono ?_); rintro e wn ⟨rfl, hb⟩; replace C := Lib.hid (C.out.step hb); clear hb; (try clear x0 x1 x2 x3 x4 x5 x6 x7 x8 x9); obtain ⟨x0, x1, x2, x3, x4, x5, x6, x7, x8, x9⟩ := C.out.cf.all))
  clear x0 x1 x2 x3 x4 x5 x6 x7 x8 x9
  go_cut [5, 6] from 15 to 19 (fun s5 s6 wx => ∃ b5 b6 r3 r4, s5 = .pointer (some ⟨b5, 0, none⟩) ∧ s6 = .pointer (some ⟨b6, 0, none⟩) ∧ Hid (SaV w wx b5 b6 p p r3 r4))
  case first =>
    refine wp_region_held_drew (S := fun W => W.cell? ⟨w.heap.size, 0, none⟩ = some (.int .u16 (p.proto : Int)) ∧ W.cell? ⟨w.heap.size, 1, none⟩ = some (.int .u8 (p.code : Int)) ∧ W.cell? ⟨w.heap.size, 2, none⟩ = some (.int .u8 (p.id : Int)) ∧ W.cell? ⟨w.heap.size, 3, none⟩ = some (.slice q.ao q.no q.co) ∧ W.cell? ⟨w.heap.size, 4, none⟩ = some (.int .u16 (p.sub : Int)) ∧ W.cell? ⟨w.heap.size, 5, none⟩ = some (.int .u32 (p.magic : Int)) ∧ W.cell? ⟨w.heap.size, 6, none⟩ = some (.slice q.a1 q.n1 q.c1) ∧ W.cell? ⟨w.heap.size, 7, none⟩ = some (.slice q.a2 q.n2 q.c2) ∧ W.cell? ⟨w.heap.size, 8, none⟩ = some (.slice q.ad q.nd q.cd) ∧ W.cell? ⟨w.heap.size, 9, none⟩ = some (.slice q.an q.nn q.cn)) (by kernel_rfl) (by exact C.out.drew.cf.all) (fun _ => ?_)
    refine at_worldP (fun W => Hid (BxC 28 w W p q)) (Lib.hid C.out.drew) ?_
    clear C
    rintro W C
    refine wpAnyH_take (i := 0) (oi := ?ol0) (v := ?vl0) ?hil0 (by kernel_rfl) (by kernel_rfl) (by kernel_rfl) ?hql0 (Or.inl ⟨?hwl0, ?hyl0⟩) (by exact C.out.cf.all) ?restl0
    case hil0 => (simp only [List.getElem?_toArray, List.getElem?_cons_zero]; rfl)
    case hwl0 => (rfl)
    case hql0 => (exact fun _ _ _ h => h)
    case hyl0 => (intro w hSw; (try dsimp only at hSw); go_simp; (try with_reducible rfl))
    try simp only [Act.put, List.setIfInBounds_toArray, List.set_cons_zero, List.set_cons_succ]
    refine wpAnyH_take (i := 2) (oi := ?ol2) (v := ?vl2) ?hil2 (by kernel_rfl) (by kernel_rfl) (by kernel_rfl) ?hql2 (Or.inl ⟨?hwl2, ?hyl2⟩) (by exact C.out.cf.all) ?restl2
    case hil2 => (simp only [List.getElem?_toArray, List.getElem?_cons_succ, List.getElem?_cons_zero]; rfl)
    case hwl2 => (rfl)
    case hql2 => (exact fun _ _ _ h => h)
    case hyl2 => (intro w hSw; (try dsimp only at hSw); go_simp; (try with_reducible rfl))
    try simp only [Act.put, List.setIfInBounds_toArray, List.set_cons_zero, List.set_cons_succ]
    refine wpAnyH_ready (rs := [1, 4, 5]) (by kernel_rfl) (by simp) ?_
    refine (AllReadyH.cons (o := ?oz3) ?hiz3 (fun K hK => ?stz3) (AllReadyH.cons (o := ?oz2) ?hiz2 (fun K hK => ?stz2) (AllReadyH.cons (o := ?oz1) ?hiz1 (fun K hK => ?stz1) AllReadyH.nil)))
    case hiz3 => (simp only [List.getElem?_toArray, List.getElem?_cons_succ, List.getElem?_cons_zero]; rfl)
    case hiz2 => (simp only [List.getElem?_toArray, List.getElem?_cons_succ, List.getElem?_cons_zero]; rfl)
    case hiz1 => (simp only [List.getElem?_toArray, List.getElem?_cons_succ, List.getElem?_cons_zero]; rfl)
    case stz3 =>
      obtain ⟨G, hG⟩ : ∃ G : Nat → Prop, Hid (G = (fun _ => True)) := ⟨_, Lib.hid rfl⟩
      have FN := Lib.hid (show ∀ i, W.heap.size ≤ i → G i by rw [hG.out]; exact fun _ _ => trivial)
      have PW := Lib.hid (show PwF G W p q by rw [hG.out]; exact (H.out.keep (.of_below C.out.bel)).mono (fun _ _ _ => trivial))
      go_simp
      go_at_call 9
      with_reducible refine (of15F_any G p q _ FN.out PW.out hno2).mono ?_
      rintro e wy ⟨r3, rfl, hq, hb⟩
      rw [hG.out] at hq
      dsimp only
      refine hK.out _ _ (by exact (C.out.step hb).cf.all) (fun _ => ?_)
      clear hK K FN PW hG
      try simp only [Act.put, List.setIfInBounds_toArray, List.set_cons_zero, List.set_cons_succ]
      refine at_worldP (fun W => Hid (BxC 28 w W p q) ∧ Hid (PwF (fun _ => True) W p r3)) ⟨Lib.hid (C.out.step hb), Lib.hid hq⟩ ?_
      clear C hq hb
      rintro W ⟨C, P3⟩
      refine wpAnyH_ready (rs := [3, 4, 5]) (by kernel_rfl) (by simp) ?_
      refine (AllReadyH.cons (o := ?oz6) ?hiz6 (fun K hK => ?stz6) (AllReadyH.cons (o := ?oz5) ?hiz5 (fun K hK => ?stz5) (AllReadyH.cons (o := ?oz4) ?hiz4 (fun K hK => ?stz4) AllReadyH.nil)))
      case hiz6 => (simp only [List.getElem?_toArray, List.getElem?_cons_succ, List.getElem?_cons_zero]; rfl)
      case hiz5 => (simp only [List.getElem?_toArray, List.getElem?_cons_succ, List.getElem?_cons_zero]; rfl)
      case hiz4 => (simp only [List.getElem?_toArray, List.getElem?_cons_succ, List.getElem?_cons_zero]; rfl)
      case stz6 =>
        obtain ⟨G, hG⟩ : ∃ G : Nat → Prop, Hid (G = (fun _ => True)) := ⟨_, Lib.hid rfl⟩
        have FN := Lib.hid (show ∀ i, W.heap.size ≤ i → G i by rw [hG.out]; exact fun _ _ => trivial)
        have PW := Lib.hid (show PwF G W p q by rw [hG.out]; exact (H.out.keep (.of_below C.out.bel)).mono (fun _ _ _ => trivial))
        go_simp
        go_at_call 9
        with_reducible refine (of15F_any G p q _ FN.out PW.out hno2).mono ?_
        rintro e wy ⟨r4, rfl, hq, hb⟩
        rw [hG.out] at hq
        dsimp only
        refine hK.out _ _ (by exact (C.out.step hb).cf.all) (fun _ => ?_)
        clear hK K FN PW hG
        try simp only [Act.put, List.setIfInBounds_toArray, List.set_cons_zero, List.set_cons_succ]
        refine at_worldP (fun W => Hid (BxC 28 w W p q) ∧ Hid (PwF (fun _ => True) W p r3) ∧ Hid (PwF (fun _ => True) W p r4)) ⟨Lib.hid (C.out.step hb), Lib.hid (P3.out.keep (.of_below hb)), Lib.hid hq⟩ ?_
        clear C P3 hq hb
        rintro W ⟨C, P3, P4⟩
        refine wpAnyH_ready (rs := [4, 5]) (by kernel_rfl) (by simp) ?_
        refine (AllReadyH.cons (o := ?oz8) ?hiz8 (fun K hK => ?stz8) (AllReadyH.cons (o := ?oz7) ?hiz7 (fun K hK => ?stz7) AllReadyH.nil))
        case hiz8 => (simp only [List.getElem?_toArray, List.getElem?_cons_succ, List.getElem?_cons_zero]; rfl)
        case hiz7 => (simp only [List.getElem?_toArray, List.getElem?_cons_succ, List.getElem?_cons_zero]; rfl)
        case stz8 =>
          go_simp
          refine hK.out _ _ (by exact (C.out.al _).cf.all) (fun _ => ?_)
          clear hK K
          try simp only [Act.put, List.setIfInBounds_toArray, List.set_cons_zero, List.set_cons_succ]
          obtain ⟨b5, hbb⟩ : ∃ b, b = W.heap.size := ⟨_, rfl⟩
          rw [← hbb]
          refine at_worldP (fun W => Hid (BxC 28 w W p q) ∧ Hid (PwF (fun i => i ≠ b5) W p r3) ∧ Hid (PwF (fun i => i ≠ b5) W p r4) ∧ Hid (Vy w W b5 pk0 pl0)) ⟨Lib.hid (C.out.al (obj0P 36)), Lib.hid ((P3.out.mono (G := (fun i => i ≠ b5)) (fun i hi _ => (by rw [hbb]; exact Nat.ne_of_lt hi))).keep (.of_below ((Below.refl W.heap.size W).alloc (Nat.le_refl _) (obj0P 36)))), Lib.hid ((P4.out.mono (G := (fun i => i ≠ b5)) (fun i hi _ => (by rw [hbb]; exact Nat.ne_of_lt hi))).keep (.of_below ((Below.refl W.heap.size W).alloc (Nat.le_refl _) (obj0P 36)))), Lib.hid (show Vy w _ b5 pk0 pl0 from hbb ▸ Vy.new C.out)⟩ ?_
          clear C P3 P4 hbb
          rintro W ⟨C, P3, P4, V5⟩
          refine wpAnyH_ready (rs := [5]) (by kernel_rfl) (by simp) ?_
          refine (AllReadyH.cons (o := ?oz9) ?hiz9 (fun K hK => ?stz9) AllReadyH.nil)
          case hiz9 => (simp only [List.getElem?_toArray, List.getElem?_cons_succ, List.getElem?_cons_zero]; rfl)
          case stz9 =>
            go_simp
            refine hK.out _ _ (by exact (C.out.al _).cf.all) (fun _ => ?_)
            clear hK K
            try simp only [Act.put, List.setIfInBounds_toArray, List.set_cons_zero, List.set_cons_succ]
            obtain ⟨b6, hbb⟩ : ∃ b, b = W.heap.size := ⟨_, rfl⟩
            rw [← hbb]
            have NE := Lib.hid (show b5 ≠ b6 from fun e => absurd V5.out.bx.lt (by rw [e, hbb]; exact Nat.lt_irrefl _))
            refine at_worldP (fun W => Hid (BxC 28 w W p q) ∧ Hid (PwF (fun i => i ≠ b5 ∧ i ≠ b6) W p r3) ∧ Hid (PwF (fun i => i ≠ b5 ∧ i ≠ b6) W p r4) ∧ Hid (Vy w W b5 pk0 pl0) ∧ Hid (Vy w W b6 pk0 pl0)) ⟨Lib.hid (C.out.al (obj0P 36)), Lib.hid ((P3.out.mono (G := (fun i => i ≠ b5 ∧ i ≠ b6)) (fun i hi hf => ⟨hf, (by rw [hbb]; exact Nat.ne_of_lt hi)⟩)).keep (.of_below ((Below.refl W.heap.size W).alloc (Nat.le_refl _) (obj0P 36)))), Lib.hid ((P4.out.mono (G := (fun i => i ≠ b5 ∧ i ≠ b6)) (fun i hi hf => ⟨hf, (by rw [hbb]; exact Nat.ne_of_lt hi)⟩)).keep (.of_below ((Below.refl W.heap.size W).alloc (Nat.le_refl _) (obj0P 36)))), Lib.hid (V5.out.al (obj0P 36)), Lib.hid (show Vy w _ b6 pk0 pl0 from hbb ▸ Vy.new C.out)⟩ ?_
            clear C P3 P4 V5 hbb
            rintro W ⟨C, P3, P4, V5, V6⟩
            refine wpAnyH_ready (rs := [6]) (by kernel_rfl) (by simp) ?_
            refine AllReadyH.cons (o := ?oz10) ?hiz10 (fun K hK => ?stz10) AllReadyH.nil
            case hiz10 => (simp only [List.getElem?_toArray, List.getElem?_cons_succ, List.getElem?_cons_zero]; rfl)
            obtain ⟨e0, e1, e2, e3, e4, e5, e6, e7, e8, e9⟩ := V5.out.bx.free
            obtain ⟨d0, d1, d2, d3, d4, d5, d6, d7, d8, d9⟩ := V5.out.bx.all
            go_simp
            refine hK.out _ _ (by exact (C.out.putY V5.out.gt p r3).cf.all) (fun _ => ?_)
            clear hK K e0 e1 e2 e3 e4 e5 e6 e7 e8 e9 d0 d1 d2 d3 d4 d5 d6 d7 d8 d9
            try simp only [Act.put, List.setIfInBounds_toArray, List.set_cons_zero, List.set_cons_succ]
            refine at_worldP (fun W => Hid (BxC 28 w W p q) ∧ Hid (PwF (fun i => i ≠ b5 ∧ i ≠ b6) W p r3) ∧ Hid (PwF (fun i => i ≠ b5 ∧ i ≠ b6) W p r4) ∧ Hid (Vy w W b5 p r3) ∧ Hid (Vy w W b6 pk0 pl0)) ⟨Lib.hid (C.out.putY V5.out.gt p r3), Lib.hid (P3.out.keep ((put10_keeps W b5 p r3).less (fun _ _ h => h.1))), Lib.hid (P4.out.keep ((put10_keeps W b5 p r3).less (fun _ _ h => h.1))), Lib.hid (V5.out.put p r3), Lib.hid (V6.out.putO NE.out.symm p r3)⟩ ?_
            clear C P3 P4 V5 V6
            rintro W ⟨C, P3, P4, V5, V6⟩
            refine wpAnyH_ready (rs := [7]) (by kernel_rfl) (by simp) ?_
            refine AllReadyH.cons (o := ?oz11) ?hiz11 (fun K hK => ?stz11) AllReadyH.nil
            case hiz11 => (simp only [List.getElem?_toArray, List.getElem?_cons_succ, List.getElem?_cons_zero]; rfl)
            obtain ⟨e0, e1, e2, e3, e4, e5, e6, e7, e8, e9⟩ := V6.out.bx.free
            obtain ⟨d0, d1, d2, d3, d4, d5, d6, d7, d8, d9⟩ := V6.out.bx.all
            go_simp
            refine hK.out _ _ (by exact (C.out.putY V6.out.gt p r4).cf.all) (fun _ => ?_)
            clear hK K e0 e1 e2 e3 e4 e5 e6 e7 e8 e9 d0 d1 d2 d3 d4 d5 d6 d7 d8 d9
            try simp only [Act.put, List.setIfInBounds_toArray, List.set_cons_zero, List.set_cons_succ]
            refine at_worldP (fun W => Hid (BxC 28 w W p q) ∧ Hid (PwF (fun i => i ≠ b5 ∧ i ≠ b6) W p r3) ∧ Hid (PwF (fun i => i ≠ b5 ∧ i ≠ b6) W p r4) ∧ Hid (Vy w W b5 p r3) ∧ Hid (Vy w W b6 p r4)) ⟨Lib.hid (C.out.putY V6.out.gt p r4), Lib.hid (P3.out.keep ((put10_keeps W b6 p r4).less (fun _ _ h => h.2))), Lib.hid (P4.out.keep ((put10_keeps W b6 p r4).less (fun _ _ h => h.2))), Lib.hid (V5.out.putO NE.out p r4), Lib.hid (V6.out.put p r4)⟩ ?_
            clear C P3 P4 V5 V6
            rintro W ⟨C, P3, P4, V5, V6⟩
            refine wpAnyH_done (by kernel_rfl) ?_ _
            (try go_wp2_with fail); go_meet
            exact ⟨b5, b6, r3, r4, rfl, rfl, Lib.hid ⟨C.out.bel, V5.out.gt, V6.out.gt, NE.out, V5.out.bx, V6.out.bx, P3.out, P4.out⟩⟩
        case stz7 =>
          go_simp
          refine hK.out _ _ (by exact (C.out.al _).cf.all) (fun _ => ?_)
          clear hK K
          try simp only [Act.put, List.setIfInBounds_toArray, List.set_cons_zero, List.set_cons_succ]
          obtain ⟨b6, hbb⟩ : ∃ b, b = W.heap.size := ⟨_, rfl⟩
          rw [← hbb]
          refine at_worldP (fun W => Hid (BxC 28 w W p q) ∧ Hid (PwF (fun i => i ≠ b6) W p r3) ∧ Hid (PwF (fun i => i ≠ b6) W p r4) ∧ Hid (Vy w W b6 pk0 pl0)) ⟨Lib.hid (C.out.al (obj0P 36)), Lib.hid ((P3.out.mono (G := (fun i => i ≠ b6)) (fun i hi _ => (by rw [hbb]; exact Nat.ne_of_lt hi))).keep (.of_below ((Below.refl W.heap.size W).alloc (Nat.le_refl _) (obj0P 36)))), Lib.hid ((P4.out.mono (G := (fun i => i ≠ b6)) (fun i hi _ => (by rw [hbb]; exact Nat.ne_of_lt hi))).keep (.of_below ((Below.refl W.heap.size W).alloc (Nat.le_refl _) (obj0P 36)))), Lib.hid (show Vy w _ b6 pk0 pl0 from hbb ▸ Vy.new C.out)⟩ ?_
          clear C P3 P4 hbb
          rintro W ⟨C, P3, P4, V6⟩
          refine wpAnyH_ready (rs := [4]) (by kernel_rfl) (by simp) ?_
          refine (AllReadyH.cons (o := ?oz12) ?hiz12 (fun K hK => ?stz12) AllReadyH.nil)
          case hiz12 => (simp only [List.getElem?_toArray, List.getElem?_cons_succ, List.getElem?_cons_zero]; rfl)
          case stz12 =>
            go_simp
            refine hK.out _ _ (by exact (C.out.al _).cf.all) (fun _ => ?_)
            clear hK K
            try simp only [Act.put, List.setIfInBounds_toArray, List.set_cons_zero, List.set_cons_succ]
            obtain ⟨b5, hbb⟩ : ∃ b, b = W.heap.size := ⟨_, rfl⟩
            rw [← hbb]
            have NE := Lib.hid (show b5 ≠ b6 from fun e => absurd V6.out.bx.lt (by rw [← e, hbb]; exact Nat.lt_irrefl _))
            refine at_worldP (fun W => Hid (BxC 28 w W p q) ∧ Hid (PwF (fun i => i ≠ b5 ∧ i ≠ b6) W p r3) ∧ Hid (PwF (fun i => i ≠ b5 ∧ i ≠ b6) W p r4) ∧ Hid (Vy w W b5 pk0 pl0) ∧ Hid (Vy w W b6 pk0 pl0)) ⟨Lib.hid (C.out.al (obj0P 36)), Lib.hid ((P3.out.mono (G := (fun i => i ≠ b5 ∧ i ≠ b6)) (fun i hi hf => ⟨(by rw [hbb]; exact Nat.ne_of_lt hi), hf⟩)).keep (.of_below ((Below.refl W.heap.size W).alloc (Nat.le_refl _) (obj0P 36)))), Lib.hid ((P4.out.mono (G := (fun i => i ≠ b5 ∧ i ≠ b6)) (fun i hi hf => ⟨(by rw [hbb]; exact Nat.ne_of_lt hi), hf⟩)).keep (.of_below ((Below.refl W.heap.size W).alloc (Nat.le_refl _) (obj0P 36)))), Lib.hid (show Vy w _ b5 pk0 pl0 from hbb ▸ Vy.new C.out), Lib.hid (V6.out.al (obj0P 36))⟩ ?_
            clear C P3 P4 V6 hbb
            rintro W ⟨C, P3, P4, V5, V6⟩
            refine wpAnyH_ready (rs := [6]) (by kernel_rfl) (by simp) ?_
            refine AllReadyH.cons (o := ?oz13) ?hiz13 (fun K hK => ?stz13) AllReadyH.nil
            case hiz13 => (simp only [List.getElem?_toArray, List.getElem?_cons_succ, List.getElem?_cons_zero]; rfl)
            obtain ⟨e0, e1, e2, e3, e4, e5, e6, e7, e8, e9⟩ := V5.out.bx.free
            obtain ⟨d0, d1, d2, d3, d4, d5, d6, d7, d8, d9⟩ := V5.out.bx.all
            go_simp
            refine hK.out _ _ (by exact (C.out.putY V5.out.gt p r3).cf.all) (fun _ => ?_)
            clear hK K e0 e1 e2 e3 e4 e5 e6 e7 e8 e9 d0 d1 d2 d3 d4 d5 d6 d7 d8 d9
            try simp only [Act.put, List.setIfInBounds_toArray, List.set_cons_zero, List.set_cons_succ]
            refine at_worldP (fun W => Hid (BxC 28 w W p q) ∧ Hid (PwF (fun i => i ≠ b5 ∧ i ≠ b6) W p r3) ∧ Hid (PwF (fun i => i ≠ b5 ∧ i ≠ b6) W p r4) ∧ Hid (Vy w W b5 p r3) ∧ Hid (Vy w W b6 pk0 pl0)) ⟨Lib.hid (C.out.putY V5.out.gt p r3), Lib.hid (P3.out.keep ((put10_keeps W b5 p r3).less (fun _ _ h => h.1))), Lib.hid (P4.out.keep ((put10_keeps W b5 p r3).less (fun _ _ h => h.1))), Lib.hid (V5.out.put p r3), Lib.hid (V6.out.putO NE.out.symm p r3)⟩ ?_
            clear C P3 P4 V5 V6
            rintro W ⟨C, P3, P4, V5, V6⟩
            refine wpAnyH_ready (rs := [7]) (by kernel_rfl) (by simp) ?_
            refine AllReadyH.cons (o := ?oz14) ?hiz14 (fun K hK => ?stz14) AllReadyH.nil
            case hiz14 => (simp only [List.getElem?_toArray, List.getElem?_cons_succ, List.getElem?_cons_zero]; rfl)
            obtain ⟨e0, e1, e2, e3, e4, e5, e6, e7, e8, e9⟩ := V6.out.bx.free
            obtain ⟨d0, d1, d2, d3, d4, d5, d6, d7, d8, d9⟩ := V6.out.bx.all
            go_simp
            refine hK.out _ _ (by exact (C.out.putY V6.out.gt p r4).cf.all) (fun _ => ?_)
            clear hK K e0 e1 e2 e3 e4 e5 e6 e7 e8 e9 d0 d1 d2 d3 d4 d5 d6 d7 d8 d9
            try simp only [Act.put, List.setIfInBounds_toArray, List.set_cons_zero, List.set_cons_succ]
            refine at_worldP (fun W => Hid (BxC 28 w W p q) ∧ Hid (PwF (fun i => i ≠ b5 ∧ i ≠ b6) W p r3) ∧ Hid (PwF (fun i => i ≠ b5 ∧ i ≠ b6) W p r4) ∧ Hid (Vy w W b5 p r3) ∧ Hid (Vy w W b6 p r4)) ⟨Lib.hid (C.out.putY V6.out.gt p r4), Lib.hid (P3.out.keep ((put10_keeps W b6 p r4).less (fun _ _ h => h.2))), Lib.hid (P4.out.keep ((put10_keeps W b6 p r4).less (fun _ _ h => h.2))), Lib.hid (V5.out.putO NE.out p r4), Lib.hid (V6.out.put p r4)⟩ ?_
            clear C P3 P4 V5 V6
            rintro W ⟨C, P3, P4, V5, V6⟩
            refine wpAnyH_done (by kernel_rfl) ?_ _
            (try go_wp2_with fail); go_meet
            exact ⟨b5, b6, r3, r4, rfl, rfl, Lib.hid ⟨C.out.bel, V5.out.gt, V6.out.gt, NE.out, V5.out.bx, V6.out.bx, P3.out, P4.out⟩⟩
      case stz5 =>
        go_simp
        refine hK.out _ _ (by exact (C.out.al _).cf.all) (fun _ => ?_)
        clear hK K
        try simp only [Act.put, List.setIfInBounds_toArray, List.set_cons_zero, List.set_cons_succ]
        obtain ⟨b5, hbb⟩ : ∃ b, b = W.heap.size := ⟨_, rfl⟩
        rw [← hbb]
        refine at_worldP (fun W => Hid (BxC 28 w W p q) ∧ Hid (PwF (fun i => i ≠ b5) W p r3) ∧ Hid (Vy w W b5 pk0 pl0)) ⟨Lib.hid (C.out.al (obj0P 36)), Lib.hid ((P3.out.mono (G := (fun i => i ≠ b5)) (fun i hi _ => (by rw [hbb]; exact Nat.ne_of_lt hi))).keep (.of_below ((Below.refl W.heap.size W).alloc (Nat.le_refl _) (obj0P 36)))), Lib.hid (show Vy w _ b5 pk0 pl0 from hbb ▸ Vy.new C.out)⟩ ?_
        clear C P3 hbb
        rintro W ⟨C, P3, V5⟩
        refine wpAnyH_ready (rs := [3, 5]) (by kernel_rfl) (by simp) ?_
        refine (AllReadyH.cons (o := ?oz16) ?hiz16 (fun K hK => ?stz16) (AllReadyH.cons (o := ?oz15) ?hiz15 (fun K hK => ?stz15) AllReadyH.nil))
        case hiz16 => (simp only [List.getElem?_toArray, List.getElem?_cons_succ, List.getElem?_cons_zero]; rfl)
        case hiz15 => (simp only [List.getElem?_toArray, List.getElem?_cons_succ, List.getElem?_cons_zero]; rfl)
        case stz16 =>
          obtain ⟨G, hG⟩ : ∃ G : Nat → Prop, Hid (G = (fun i => i ≠ b5)) := ⟨_, Lib.hid rfl⟩
          have FN := Lib.hid (show ∀ i, W.heap.size ≤ i → G i by rw [hG.out]; exact fun i hi => Nat.ne_of_gt (Nat.lt_of_lt_of_le V5.out.bx.lt hi))
          have PW := Lib.hid (show PwF G W p q by rw [hG.out]; exact (H.out.keep (.of_below C.out.bel)).mono (fun i _ hi => Nat.ne_of_lt (Nat.lt_trans hi V5.out.gt)))
          go_simp
          go_at_call 9
          with_reducible refine (of15F_any G p q _ FN.out PW.out hno2).mono ?_
          rintro e wy ⟨r4, rfl, hq, hb⟩
          rw [hG.out] at hq
          dsimp only
          refine hK.out _ _ (by exact (C.out.step hb).cf.all) (fun _ => ?_)
          clear hK K FN PW hG
          try simp only [Act.put, List.setIfInBounds_toArray, List.set_cons_zero, List.set_cons_succ]
          refine at_worldP (fun W => Hid (BxC 28 w W p q) ∧ Hid (PwF (fun i => i ≠ b5) W p r3) ∧ Hid (PwF (fun i => i ≠ b5) W p r4) ∧ Hid (Vy w W b5 pk0 pl0)) ⟨Lib.hid (C.out.step hb), Lib.hid (P3.out.keep (.of_below hb)), Lib.hid hq, Lib.hid (V5.out.below hb)⟩ ?_
          clear C P3 V5 hq hb
          rintro W ⟨C, P3, P4, V5⟩
          refine wpAnyH_ready (rs := [5]) (by kernel_rfl) (by simp) ?_
          refine (AllReadyH.cons (o := ?oz17) ?hiz17 (fun K hK => ?stz17) AllReadyH.nil)
          case hiz17 => (simp only [List.getElem?_toArray, List.getElem?_cons_succ, List.getElem?_cons_zero]; rfl)
          case stz17 =>
            go_simp
            refine hK.out _ _ (by exact (C.out.al _).cf.all) (fun _ => ?_)
            clear hK K
            try simp only [Act.put, List.setIfInBounds_toArray, List.set_cons_zero, List.set_cons_succ]
            obtain ⟨b6, hbb⟩ : ∃ b, b = W.heap.size := ⟨_, rfl⟩
            rw [← hbb]
            have NE := Lib.hid (show b5 ≠ b6 from fun e => absurd V5.out.bx.lt (by rw [e, hbb]; exact Nat.lt_irrefl _))
            refine at_worldP (fun W => Hid (BxC 28 w W p q) ∧ Hid (PwF (fun i => i ≠ b5 ∧ i ≠ b6) W p r3) ∧ Hid (PwF (fun i => i ≠ b5 ∧ i ≠ b6) W p r4) ∧ Hid (Vy w W b5 pk0 pl0) ∧ Hid (Vy w W b6 pk0 pl0)) ⟨Lib.hid (C.out.al (obj0P 36)), Lib.hid ((P3.out.mono (G := (fun i => i ≠ b5 ∧ i ≠ b6)) (fun i hi hf => ⟨hf, (by rw [hbb]; exact Nat.ne_of_lt hi)⟩)).keep (.of_below ((Below.refl W.heap.size W).alloc (Nat.le_refl _) (obj0P 36)))), Lib.hid ((P4.out.mono (G := (fun i => i ≠ b5 ∧ i ≠ b6)) (fun i hi hf => ⟨hf, (by rw [hbb]; exact Nat.ne_of_lt hi)⟩)).keep (.of_below ((Below.refl W.heap.size W).alloc (Nat.le_refl _) (obj0P 36)))), Lib.hid (V5.out.al (obj0P 36)), Lib.hid (show Vy w _ b6 pk0 pl0 from hbb ▸ Vy.new C.out)⟩ ?_
            clear C P3 P4 V5 hbb
            rintro W ⟨C, P3, P4, V5, V6⟩
            refine wpAnyH_ready (rs := [6]) (by kernel_rfl) (by simp) ?_
            refine AllReadyH.cons (o := ?oz18) ?hiz18 (fun K hK => ?stz18) AllReadyH.nil
            case hiz18 => (simp only [List.getElem?_toArray, List.getElem?_cons_succ, List.getElem?_cons_zero]; rfl)
            obtain ⟨e0, e1, e2, e3, e4, e5, e6, e7, e8, e9⟩ := V5.out.bx.free
            obtain ⟨d0, d1, d2, d3, d4, d5, d6, d7, d8, d9⟩ := V5.out.bx.all
            go_simp
            refine hK.out _ _ (by exact (C.out.putY V5.out.gt p r3).cf.all) (fun _ => ?_)
            clear hK K e0 e1 e2 e3 e4 e5 e6 e7 e8 e9 d0 d1 d2 d3 d4 d5 d6 d7 d8 d9
            try simp only [Act.put, List.setIfInBounds_toArray, List.set_cons_zero, List.set_cons_succ]
            refine at_worldP (fun W => Hid (BxC 28 w W p q) ∧ Hid (PwF (fun i => i ≠ b5 ∧ i ≠ b6) W p r3) ∧ Hid (PwF (fun i => i ≠ b5 ∧ i ≠ b6) W p r4) ∧ Hid (Vy w W b5 p r3) ∧ Hid (Vy w W b6 pk0 pl0)) ⟨Lib.hid (C.out.putY V5.out.gt p r3), Lib.hid (P3.out.keep ((put10_keeps W b5 p r3).less (fun _ _ h => h.1))), Lib.hid (P4.out.keep ((put10_keeps W b5 p r3).less (fun _ _ h => h.1))), Lib.hid (V5.out.put p r3), Lib.hid (V6.out.putO NE.out.symm p r3)⟩ ?_
            clear C P3 P4 V5 V6
            rintro W ⟨C, P3, P4, V5, V6⟩
            refine wpAnyH_ready (rs := [7]) (by kernel_rfl) (by simp) ?_
            refine AllReadyH.cons (o := ?oz19) ?hiz19 (fun K hK => ?stz19) AllReadyH.nil
            case hiz19 => (simp only [List.getElem?_toArray, List.getElem?_cons_succ, List.getElem?_cons_zero]; rfl)
            obtain ⟨e0, e1, e2, e3, e4, e5, e6, e7, e8, e9⟩ := V6.out.bx.free
            obtain ⟨d0, d1, d2, d3, d4, d5, d6, d7, d8, d9⟩ := V6.out.bx.all
            go_simp
            refine hK.out _ _ (by exact (C.out.putY V6.out.gt p r4).cf.all) (fun _ => ?_)
            clear hK K e0 e1 e2 e3 e4 e5 e6 e7 e8 e9 d0 d1 d2 d3 d4 d5 d6 d7 d8 d9
            try simp only [Act.put, List.setIfInBounds_toArray, List.set_cons_zero, List.set_cons_succ]
            refine at_worldP (fun W => Hid (BxC 28 w W p q) ∧ Hid (PwF (fun i => i ≠ b5 ∧ i ≠ b6) W p r3) ∧ Hid (PwF (fun i => i ≠ b5 ∧ i ≠ b6) W p r4) ∧ Hid (Vy w W b5 p r3) ∧ Hid (Vy w W b6 p r4)) ⟨Lib.hid (C.out.putY V6.out.gt p r4), Lib.hid (P3.out.keep ((put10_keeps W b6 p r4).less (fun _ _ h => h.2))), Lib.hid (P4.out.keep ((put10_keeps W b6 p r4).less (fun _ _ h => h.2))), Lib.hid (V5.out.putO NE.out p r4), Lib.hid (V6.out.put p r4)⟩ ?_
            clear C P3 P4 V5 V6
            rintro W ⟨C, P3, P4, V5, V6⟩
            refine wpAnyH_done (by kernel_rfl) ?_ _
            (try go_wp2_with fail); go_meet
            exact ⟨b5, b6, r3, r4, rfl, rfl, Lib.hid ⟨C.out.bel, V5.out.gt, V6.out.gt, NE.out, V5.out.bx, V6.out.bx, P3.out, P4.out⟩⟩
        case stz15 =>
          go_simp
          refine hK.out _ _ (by exact (C.out.al _).cf.all) (fun _ => ?_)
          clear hK K
          try simp only [Act.put, List.setIfInBounds_toArray, List.set_cons_zero, List.set_cons_succ]
          obtain ⟨b6, hbb⟩ : ∃ b, b = W.heap.size := ⟨_, rfl⟩
          rw [← hbb]
          have NE := Lib.hid (show b5 ≠ b6 from fun e => absurd V5.out.bx.lt (by rw [e, hbb]; exact Nat.lt_irrefl _))
          refine at_worldP (fun W => Hid (BxC 28 w W p q) ∧ Hid (PwF (fun i => i ≠ b5 ∧ i ≠ b6) W p r3) ∧ Hid (Vy w W b5 pk0 pl0) ∧ Hid (Vy w W b6 pk0 pl0)) ⟨Lib.hid (C.out.al (obj0P 36)), Lib.hid ((P3.out.mono (G := (fun i => i ≠ b5 ∧ i ≠ b6)) (fun i hi hf => ⟨hf, (by rw [hbb]; exact Nat.ne_of_lt hi)⟩)).keep (.of_below ((Below.refl W.heap.size W).alloc (Nat.le_refl _) (obj0P 36)))), Lib.hid (V5.out.al (obj0P 36)), Lib.hid (show Vy w _ b6 pk0 pl0 from hbb ▸ Vy.new C.out)⟩ ?_
          clear C P3 V5 hbb
          rintro W ⟨C, P3, V5, V6⟩
          refine wpAnyH_ready (rs := [3]) (by kernel_rfl) (by simp) ?_
          refine (AllReadyH.cons (o := ?oz20) ?hiz20 (fun K hK => ?stz20) AllReadyH.nil)
          case hiz20 => (simp only [List.getElem?_toArray, List.getElem?_cons_succ, List.getElem?_cons_zero]; rfl)
          case stz20 =>
            obtain ⟨G, hG⟩ : ∃ G : Nat → Prop, Hid (G = (fun i => i ≠ b5 ∧ i ≠ b6)) := ⟨_, Lib.hid rfl⟩
            have FN := Lib.hid (show ∀ i, W.heap.size ≤ i → G i by rw [hG.out]; exact fun i hi => ⟨Nat.ne_of_gt (Nat.lt_of_lt_of_le V5.out.bx.lt hi), Nat.ne_of_gt (Nat.lt_of_lt_of_le V6.out.bx.lt hi)⟩)
            have PW := Lib.hid (show PwF G W p q by rw [hG.out]; exact (H.out.keep (.of_below C.out.bel)).mono (fun i _ hi => ⟨Nat.ne_of_lt (Nat.lt_trans hi V5.out.gt), Nat.ne_of_lt (Nat.lt_trans hi V6.out.gt)⟩))
            go_simp
            go_at_call 9
            with_reducible refine (of15F_any G p q _ FN.out PW.out hno2).mono ?_
            rintro e wy ⟨r4, rfl, hq, hb⟩
            rw [hG.out] at hq
            dsimp only
            refine hK.out _ _ (by exact (C.out.step hb).cf.all) (fun _ => ?_)
            clear hK K FN PW hG
            try simp only [Act.put, List.setIfInBounds_toArray, List.set_cons_zero, List.set_cons_succ]
            refine at_worldP (fun W => Hid (BxC 28 w W p q) ∧ Hid (PwF (fun i => i ≠ b5 ∧ i ≠ b6) W p r3) ∧ Hid (PwF (fun i => i ≠ b5 ∧ i ≠ b6) W p r4) ∧ Hid (Vy w W b5 pk0 pl0) ∧ Hid (Vy w W b6 pk0 pl0)) ⟨Lib.hid (C.out.step hb), Lib.hid (P3.out.keep (.of_below hb)), Lib.hid hq, Lib.hid (V5.out.below hb), Lib.hid (V6.out.below hb)⟩ ?_
            clear C P3 V5 V6 hq hb
            rintro W ⟨C, P3, P4, V5, V6⟩
            refine wpAnyH_ready (rs := [6]) (by kernel_rfl) (by simp) ?_
            refine AllReadyH.cons (o := ?oz21) ?hiz21 (fun K hK => ?stz21) AllReadyH.nil
            case hiz21 => (simp only [List.getElem?_toArray, List.getElem?_cons_succ, List.getElem?_cons_zero]; rfl)
            obtain ⟨e0, e1, e2, e3, e4, e5, e6, e7, e8, e9⟩ := V5.out.bx.free
            obtain ⟨d0, d1, d2, d3, d4, d5, d6, d7, d8, d9⟩ := V5.out.bx.all
            go_simp
            refine hK.out _ _ (by exact (C.out.putY V5.out.gt p r3).cf.all) (fun _ => ?_)
            clear hK K e0 e1 e2 e3 e4 e5 e6 e7 e8 e9 d0 d1 d2 d3 d4 d5 d6 d7 d8 d9
            try simp only [Act.put, List.setIfInBounds_toArray, List.set_cons_zero, List.set_cons_succ]
            refine at_worldP (fun W => Hid (BxC 28 w W p q) ∧ Hid (PwF (fun i => i ≠ b5 ∧ i ≠ b6) W p r3) ∧ Hid (PwF (fun i => i ≠ b5 ∧ i ≠ b6) W p r4) ∧ Hid (Vy w W b5 p r3) ∧ Hid (Vy w W b6 pk0 pl0)) ⟨Lib.hid (C.out.putY V5.out.gt p r3), Lib.hid (P3.out.keep ((put10_keeps W b5 p r3).less (fun _ _ h => h.1))), Lib.hid (P4.out.keep ((put10_keeps W b5 p r3).less (fun _ _ h => h.1))), Lib.hid (V5.out.put p r3), Lib.hid (V6.out.putO NE.out.symm p r3)⟩ ?_
            clear C P3 P4 V5 V6
            rintro W ⟨C, P3, P4, V5, V6⟩
            refine wpAnyH_ready (rs := [7]) (by kernel_rfl) (by simp) ?_
            refine AllReadyH.cons (o := ?oz22) ?hiz22 (fun K hK => ?stz22) AllReadyH.nil
            case hiz22 => (simp only [List.getElem?_toArray, List.getElem?_cons_succ, List.getElem?_cons_zero]; rfl)
            obtain ⟨e0, e1, e2, e3, e4, e5, e6, e7, e8, e9⟩ := V6.out.bx.free
            obtain ⟨d0, d1, d2, d3, d4, d5, d6, d7, d8, d9⟩ := V6.out.bx.all
            go_simp
            refine hK.out _ _ (by exact (C.out.putY V6.out.gt p r4).cf.all) (fun _ => ?_)
            clear hK K e0 e1 e2 e3 e4 e5 e6 e7 e8 e9 d0 d1 d2 d3 d4 d5 d6 d7 d8 d9
            try simp only [Act.put, List.setIfInBounds_toArray, List.set_cons_zero, List.set_cons_succ]
            refine at_worldP (fun W => Hid (BxC 28 w W p q) ∧ Hid (PwF (fun i => i ≠ b5 ∧ i ≠ b6) W p r3) ∧ Hid (PwF (fun i => i ≠ b5 ∧ i ≠ b6) W p r4) ∧ Hid (Vy w W b5 p r3) ∧ Hid (Vy w W b6 p r4)) ⟨Lib.hid (C.out.putY V6.out.gt p r4), Lib.hid (P3.out.keep ((put10_keeps W b6 p r4).less (fun _ _ h => h.2))), Lib.hid (P4.out.keep ((put10_keeps W b6 p r4).less (fun _ _ h => h.2))), Lib.hid (V5.out.putO NE.out p r4), Lib.hid (V6.out.put p r4)⟩ ?_
            clear C P3 P4 V5 V6
            rintro W ⟨C, P3, P4, V5, V6⟩
            refine wpAnyH_done (by kernel_rfl) ?_ _
            (try go_wp2_with fail); go_meet
            exact ⟨b5, b6, r3, r4, rfl, rfl, Lib.hid ⟨C.out.bel, V5.out.gt, V6.out.gt, NE.out, V5.out.bx, V6.out.bx, P3.out, P4.out⟩⟩
      case stz4 =>
        go_simp
        refine hK.out _ _ (by exact (C.out.al _).cf.all) (fun _ => ?_)
        clear hK K
        try simp only [Act.put, List.setIfInBounds_toArray, List.set_cons_zero, List.set_cons_succ]
        obtain ⟨b6, hbb⟩ : ∃ b, b = W.heap.size := ⟨_, rfl⟩
        rw [← hbb]
        refine at_worldP (fun W => Hid (BxC 28 w W p q) ∧ Hid (PwF (fun i => i ≠ b6) W p r3) ∧ Hid (Vy w W b6 pk0 pl0)) ⟨Lib.hid (C.out.al (obj0P 36)), Lib.hid ((P3.out.mono (G := (fun i => i ≠ b6)) (fun i hi _ => (by rw [hbb]; exact Nat.ne_of_lt hi))).keep (.of_below ((Below.refl W.heap.size W).alloc (Nat.le_refl _) (obj0P 36)))), Lib.hid (show Vy w _ b6 pk0 pl0 from hbb ▸ Vy.new C.out)⟩ ?_
        clear C P3 hbb
        rintro W ⟨C, P3, V6⟩
        refine wpAnyH_ready (rs := [3, 4]) (by kernel_rfl) (by simp) ?_
        refine (AllReadyH.cons (o := ?oz24) ?hiz24 (fun K hK => ?stz24) (AllReadyH.cons (o := ?oz23) ?hiz23 (fun K hK => ?stz23) AllReadyH.nil))
        case hiz24 => (simp only [List.getElem?_toArray, List.getElem?_cons_succ, List.getElem?_cons_zero]; rfl)
        case hiz23 => (simp only [List.getElem?_toArray, List.getElem?_cons_succ, List.getElem?_cons_zero]; rfl)
        case stz24 =>
          obtain ⟨G, hG⟩ : ∃ G : Nat → Prop, Hid (G = (fun i => i ≠ b6)) := ⟨_, Lib.hid rfl⟩
          have FN := Lib.hid (show ∀ i, W.heap.size ≤ i → G i by rw [hG.out]; exact fun i hi => Nat.ne_of_gt (Nat.lt_of_lt_of_le V6.out.bx.lt hi))
          have PW := Lib.hid (show PwF G W p q by rw [hG.out]; exact (H.out.keep (.of_below C.out.bel)).mono (fun i _ hi => Nat.ne_of_lt (Nat.lt_trans hi V6.out.gt)))
          go_simp
          go_at_call 9
          with_reducible refine (of15F_any G p q _ FN.out PW.out hno2).mono ?_
          rintro e wy ⟨r4, rfl, hq, hb⟩
          rw [hG.out] at hq
          dsimp only
          refine hK.out _ _ (by exact (C.out.step hb).cf.all) (fun _ => ?_)
          clear hK K FN PW hG
          try simp only [Act.put, List.setIfInBounds_toArray, List.set_cons_zero, List.set_cons_succ]
          refine at_worldP (fun W => Hid (BxC 28 w W p q) ∧ Hid (PwF (fun i => i ≠ b6) W p r3) ∧ Hid (PwF (fun i => i ≠ b6) W p r4) ∧ Hid (Vy w W b6 pk0 pl0)) ⟨Lib.hid (C.out.step hb), Lib.hid (P3.out.keep (.of_below hb)), Lib.hid hq, Lib.hid (V6.out.below hb)⟩ ?_
          clear C P3 V6 hq hb
          rintro W ⟨C, P3, P4, V6⟩
          refine wpAnyH_ready (rs := [4]) (by kernel_rfl) (by simp) ?_
          refine (AllReadyH.cons (o := ?oz25) ?hiz25 (fun K hK => ?stz25) AllReadyH.nil)
          case hiz25 => (simp only [List.getElem?_toArray, List.getElem?_cons_succ, List.getElem?_cons_zero]; rfl)
          case stz25 =>
            go_simp
            refine hK.out _ _ (by exact (C.out.al _).cf.all) (fun _ => ?_)
            clear hK K
            try simp only [Act.put, List.setIfInBounds_toArray, List.set_cons_zero, List.set_cons_succ]
            obtain ⟨b5, hbb⟩ : ∃ b, b = W.heap.size := ⟨_, rfl⟩
            rw [← hbb]
            have NE := Lib.hid (show b5 ≠ b6 from fun e => absurd V6.out.bx.lt (by rw [← e, hbb]; exact Nat.lt_irrefl _))
            refine at_worldP (fun W => Hid (BxC 28 w W p q) ∧ Hid (PwF (fun i => i ≠ b5 ∧ i ≠ b6) W p r3) ∧ Hid (PwF (fun i => i ≠ b5 ∧ i ≠ b6) W p r4) ∧ Hid (Vy w W b5 pk0 pl0) ∧ Hid (Vy w W b6 pk0 pl0)) ⟨Lib.hid (C.out.al (obj0P 36)), Lib.hid ((P3.out.mono (G := (fun i => i ≠ b5 ∧ i ≠ b6)) (fun i hi hf => ⟨(by rw [hbb]; exact Nat.ne_of_lt hi), hf⟩)).keep (.of_below ((Below.refl W.heap.size W).alloc (Nat.le_refl _) (obj0P 36)))), Lib.hid ((P4.out.mono (G := (fun i => i ≠ b5 ∧ i ≠ b6)) (fun i hi hf => ⟨(by rw [hbb]; exact Nat.ne_of_lt hi), hf⟩)).keep (.of_below ((Below.refl W.heap.size W).alloc (Nat.le_refl _) (obj0P 36)))), Lib.hid (show Vy w _ b5 pk0 pl0 from hbb ▸ Vy.new C.out), Lib.hid (V6.out.al (obj0P 36))⟩ ?_
            clear C P3 P4 V6 hbb
            rintro W ⟨C, P3, P4, V5, V6⟩
            refine wpAnyH_ready (rs := [6]) (by kernel_rfl) (by simp) ?_
            refine AllReadyH.cons (o := ?oz26) ?hiz26 (fun K hK => ?stz26) AllReadyH.nil
            case hiz26 => (simp only [List.getElem?_toArray, List.getElem?_cons_succ, List.getElem?_cons_zero]; rfl)
            obtain ⟨e0, e1, e2, e3, e4, e5, e6, e7, e8, e9⟩ := V5.out.bx.free
            obtain ⟨d0, d1, d2, d3, d4, d5, d6, d7, d8, d9⟩ := V5.out.bx.all
            go_simp
            refine hK.out _ _ (by exact (C.out.putY V5.out.gt p r3).cf.all) (fun _ => ?_)
            clear hK K e0 e1 e2 e3 e4 e5 e6 e7 e8 e9 d0 d1 d2 d3 d4 d5 d6 d7 d8 d9
            try simp only [Act.put, List.setIfInBounds_toArray, List.set_cons_zero, List.set_cons_succ]
            refine at_worldP (fun W => Hid (BxC 28 w W p q) ∧ Hid (PwF (fun i => i ≠ b5 ∧ i ≠ b6) W p r3) ∧ Hid (PwF (fun i => i ≠ b5 ∧ i ≠ b6) W p r4) ∧ Hid (Vy w W b5 p r3) ∧ Hid (Vy w W b6 pk0 pl0)) ⟨Lib.hid (C.out.putY V5.out.gt p r3), Lib.hid (P3.out.keep ((put10_keeps W b5 p r3).less (fun _ _ h => h.1))), Lib.hid (P4.out.keep ((put10_keeps W b5 p r3).less (fun _ _ h => h.1))), Lib.hid (V5.out.put p r3), Lib.hid (V6.out.putO NE.out.symm p r3)⟩ ?_
            clear C P3 P4 V5 V6
            rintro W ⟨C, P3, P4, V5, V6⟩
            refine wpAnyH_ready (rs := [7]) (by kernel_rfl) (by simp) ?_
            refine AllReadyH.cons (o := ?oz27) ?hiz27 (fun K hK => ?stz27) AllReadyH.nil
            case hiz27 => (simp only [List.getElem?_toArray, List.getElem?_cons_succ, List.getElem?_cons_zero]; rfl)
            obtain ⟨e0, e1, e2, e3, e4, e5, e6, e7, e8, e9⟩ := V6.out.bx.free
            obtain ⟨d0, d1, d2, d3, d4, d5, d6, d7, d8, d9⟩ := V6.out.bx.all
            go_simp
            refine hK.out _ _ (by exact (C.out.putY V6.out.gt p r4).cf.all) (fun _ => ?_)
            clear hK K e0 e1 e2 e3 e4 e5 e6 e7 e8 e9 d0 d1 d2 d3 d4 d5 d6 d7 d8 d9
            try simp only [Act.put, List.setIfInBounds_toArray, List.set_cons_zero, List.set_cons_succ]
            refine at_worldP (fun W => Hid (BxC 28 w W p q) ∧ Hid (PwF (fun i => i ≠ b5 ∧ i ≠ b6) W p r3) ∧ Hid (PwF (fun i => i ≠ b5 ∧ i ≠ b6) W p r4) ∧ Hid (Vy w W b5 p r3) ∧ Hid (Vy w W b6 p r4)) ⟨Lib.hid (C.out.putY V6.out.gt p r4), Lib.hid (P3.out.keep ((put10_keeps W b6 p r4).less (fun _ _ h => h.2))), Lib.hid (P4.out.keep ((put10_keeps W b6 p r4).less (fun _ _ h => h.2))), Lib.hid (V5.out.putO NE.out p r4), Lib.hid (V6.out.put p r4)⟩ ?_
            clear C P3 P4 V5 V6
            rintro W ⟨C, P3, P4, V5, V6⟩
            refine wpAnyH_done (by kernel_rfl) ?_ _
            (try go_wp2_with fail); go_meet
            exact ⟨b5, b6, r3, r4, rfl, rfl, Lib.hid ⟨C.out.bel, V5.out.gt, V6.out.gt, NE.out, V5.out.bx, V6.out.bx, P3.out, P4.out⟩⟩
        case stz23 =>
          go_simp
          refine hK.out _ _ (by exact (C.out.al _).cf.all) (fun _ => ?_)
          clear hK K
          try simp only [Act.put, List.setIfInBounds_toArray, List.set_cons_zero, List.set_cons_succ]
          obtain ⟨b5, hbb⟩ : ∃ b, b = W.heap.size := ⟨_, rfl⟩
          rw [← hbb]
          have NE := Lib.hid (show b5 ≠ b6 from fun e => absurd V6.out.bx.lt (by rw [← e, hbb]; exact Nat.lt_irrefl _))
          refine at_worldP (fun W => Hid (BxC 28 w W p q) ∧ Hid (PwF (fun i => i ≠ b5 ∧ i ≠ b6) W p r3) ∧ Hid (Vy w W b5 pk0 pl0) ∧ Hid (Vy w W b6 pk0 pl0)) ⟨Lib.hid (C.out.al (obj0P 36)), Lib.hid ((P3.out.mono (G := (fun i => i ≠ b5 ∧ i ≠ b6)) (fun i hi hf => ⟨(by rw [hbb]; exact Nat.ne_of_lt hi), hf⟩)).keep (.of_below ((Below.refl W.heap.size W).alloc (Nat.le_refl _) (obj0P 36)))), Lib.hid (show Vy w _ b5 pk0 pl0 from hbb ▸ Vy.new C.out), Lib.hid (V6.out.al (obj0P 36))⟩ ?_
          clear C P3 V6 hbb
          rintro W ⟨C, P3, V5, V6⟩
          refine wpAnyH_ready (rs := [3]) (by kernel_rfl) (by simp) ?_
          refine (AllReadyH.cons (o := ?oz28) ?hiz28 (fun K hK => ?stz28) AllReadyH.nil)
          case hiz28 => (simp only [List.getElem?_toArray, List.getElem?_cons_succ, List.getElem?_cons_zero]; rfl)
          case stz28 =>
            obtain ⟨G, hG⟩ : ∃ G : Nat → Prop, Hid (G = (fun i => i ≠ b5 ∧ i ≠ b6)) := ⟨_, Lib.hid rfl⟩
            have FN := Lib.hid (show ∀ i, W.heap.size ≤ i → G i by rw [hG.out]; exact fun i hi => ⟨Nat.ne_of_gt (Nat.lt_of_lt_of_le V5.out.bx.lt hi), Nat.ne_of_gt (Nat.lt_of_lt_of_le V6.out.bx.lt hi)⟩)
            have PW := Lib.hid (show PwF G W p q by rw [hG.out]; exact (H.out.keep (.of_below C.out.bel)).mono (fun i _ hi => ⟨Nat.ne_of_lt (Nat.lt_trans hi V5.out.gt), Nat.ne_of_lt (Nat.lt_trans hi V6.out.gt)⟩))
            go_simp
            go_at_call 9
            with_reducible refine (of15F_any G p q _ FN.out PW.out hno2).mono ?_
            rintro e wy ⟨r4, rfl, hq, hb⟩
            rw [hG.out] at hq
            dsimp only
            refine hK.out _ _ (by exact (C.out.step hb).cf.all) (fun _ => ?_)
            clear hK K FN PW hG
            try simp only [Act.put, List.setIfInBounds_toArray, List.set_cons_zero, List.set_cons_succ]
            refine at_worldP (fun W => Hid (BxC 28 w W p q) ∧ Hid (PwF (fun i => i ≠ b5 ∧ i ≠ b6) W p r3) ∧ Hid (PwF (fun i => i ≠ b5 ∧ i ≠ b6) W p r4) ∧ Hid (Vy w W b5 pk0 pl0) ∧ Hid (Vy w W b6 pk0 pl0)) ⟨Lib.hid (C.out.step hb), Lib.hid (P3.out.keep (.of_below hb)), Lib.hid hq, Lib.hid (V5.out.below hb), Lib.hid (V6.out.below hb)⟩ ?_
            clear C P3 V5 V6 hq hb
            rintro W ⟨C, P3, P4, V5, V6⟩
            refine wpAnyH_ready (rs := [6]) (by kernel_rfl) (by simp) ?_
            refine AllReadyH.cons (o := ?oz29) ?hiz29 (fun K hK => ?stz29) AllReadyH.nil
            case hiz29 => (simp only [List.getElem?_toArray, List.getElem?_cons_succ, List.getElem?_cons_zero]; rfl)
            obtain ⟨e0, e1, e2, e3, e4, e5, e6, e7, e8, e9⟩ := V5.out.bx.free
            obtain ⟨d0, d1, d2, d3, d4, d5, d6, d7, d8, d9⟩ := V5.out.bx.all
            go_simp
            refine hK.out _ _ (by exact (C.out.putY V5.out.gt p r3).cf.all) (fun _ => ?_)
            clear hK K e0 e1 e2 e3 e4 e5 e6 e7 e8 e9 d0 d1 d2 d3 d4 d5 d6 d7 d8 d9
            try simp only [Act.put, List.setIfInBounds_toArray, List.set_cons_zero, List.set_cons_succ]
            refine at_worldP (fun W => Hid (BxC 28 w W p q) ∧ Hid (PwF (fun i => i ≠ b5 ∧ i ≠ b6) W p r3) ∧ Hid (PwF (fun i => i ≠ b5 ∧ i ≠ b6) W p r4) ∧ Hid (Vy w W b5 p r3) ∧ Hid (Vy w W b6 pk0 pl0)) ⟨Lib.hid (C.out.putY V5.out.gt p r3), Lib.hid (P3.out.keep ((put10_keeps W b5 p r3).less (fun _ _ h => h.1))), Lib.hid (P4.out.keep ((put10_keeps W b5 p r3).less (fun _ _ h => h.1))), Lib.hid (V5.out.put p r3), Lib.hid (V6.out.putO NE.out.symm p r3)⟩ ?_
            clear C P3 P4 V5 V6
            rintro W ⟨C, P3, P4, V5, V6⟩
            refine wpAnyH_ready (rs := [7]) (by kernel_rfl) (by simp) ?_
            refine AllReadyH.cons (o := ?oz30) ?hiz30 (fun K hK => ?stz30) AllReadyH.nil
            case hiz30 => (simp only [List.getElem?_toArray, List.getElem?_cons_succ, List.getElem?_cons_zero]; rfl)
            obtain ⟨e0, e1, e2, e3, e4, e5, e6, e7, e8, e9⟩ := V6.out.bx.free
            obtain ⟨d0, d1, d2, d3, d4, d5, d6, d7, d8, d9⟩ := V6.out.bx.all
            go_simp
            refine hK.out _ _ (by exact (C.out.putY V6.out.gt p r4).cf.all) (fun _ => ?_)
            clear hK K e0 e1 e2 e3 e4 e5 e6 e7 e8 e9 d0 d1 d2 d3 d4 d5 d6 d7 d8 d9
            try simp only [Act.put, List.setIfInBounds_toArray, List.set_cons_zero, List.set_cons_succ]
            refine at_worldP (fun W => Hid (BxC 28 w W p q) ∧ Hid (PwF (fun i => i ≠ b5 ∧ i ≠ b6) W p r3) ∧ Hid (PwF (fun i => i ≠ b5 ∧ i ≠ b6) W p r4) ∧ Hid (Vy w W b5 p r3) ∧ Hid (Vy w W b6 p r4)) ⟨Lib.hid (C.out.putY V6.out.gt p r4), Lib.hid (P3.out.keep ((put10_keeps W b6 p r4).less (fun _ _ h => h.2))), Lib.hid (P4.out.keep ((put10_keeps W b6 p r4).less (fun _ _ h => h.2))), Lib.hid (V5.out.putO NE.out p r4), Lib.hid (V6.out.put p r4)⟩ ?_
            clear C P3 P4 V5 V6
            rintro W ⟨C, P3, P4, V5, V6⟩
            refine wpAnyH_done (by kernel_rfl) ?_ _
            (try go_wp2_with fail); go_meet
            exact ⟨b5, b6, r3, r4, rfl, rfl, Lib.hid ⟨C.out.bel, V5.out.gt, V6.out.gt, NE.out, V5.out.bx, V6.out.bx, P3.out, P4.out⟩⟩
    case stz2 =>
      go_simp
      refine hK.out _ _ (by exact (C.out.al _).cf.all) (fun _ => ?_)
      clear hK K
      try simp only [Act.put, List.setIfInBounds_toArray, List.set_cons_zero, List.set_cons_succ]
      obtain ⟨b5, hbb⟩ : ∃ b, b = W.heap.size := ⟨_, rfl⟩
      rw [← hbb]
      refine at_worldP (fun W => Hid (BxC 28 w W p q) ∧ Hid (Vy w W b5 pk0 pl0)) ⟨Lib.hid (C.out.al (obj0P 36)), Lib.hid (show Vy w _ b5 pk0 pl0 from hbb ▸ Vy.new C.out)⟩ ?_
      clear C hbb
      rintro W ⟨C, V5⟩
      refine wpAnyH_ready (rs := [1, 5]) (by kernel_rfl) (by simp) ?_
      refine (AllReadyH.cons (o := ?oz32) ?hiz32 (fun K hK => ?stz32) (AllReadyH.cons (o := ?oz31) ?hiz31 (fun K hK => ?stz31) AllReadyH.nil))
      case hiz32 => (simp only [List.getElem?_toArray, List.getElem?_cons_succ, List.getElem?_cons_zero]; rfl)
      case hiz31 => (simp only [List.getElem?_toArray, List.getElem?_cons_succ, List.getElem?_cons_zero]; rfl)
      case stz32 =>
        obtain ⟨G, hG⟩ : ∃ G : Nat → Prop, Hid (G = (fun i => i ≠ b5)) := ⟨_, Lib.hid rfl⟩
        have FN := Lib.hid (show ∀ i, W.heap.size ≤ i → G i by rw [hG.out]; exact fun i hi => Nat.ne_of_gt (Nat.lt_of_lt_of_le V5.out.bx.lt hi))
        have PW := Lib.hid (show PwF G W p q by rw [hG.out]; exact (H.out.keep (.of_below C.out.bel)).mono (fun i _ hi => Nat.ne_of_lt (Nat.lt_trans hi V5.out.gt)))
        go_simp
        go_at_call 9
        with_reducible refine (of15F_any G p q _ FN.out PW.out hno2).mono ?_
        rintro e wy ⟨r3, rfl, hq, hb⟩
        rw [hG.out] at hq
        dsimp only
        refine hK.out _ _ (by exact (C.out.step hb).cf.all) (fun _ => ?_)
        clear hK K FN PW hG
        try simp only [Act.put, List.setIfInBounds_toArray, List.set_cons_zero, List.set_cons_succ]
        refine at_worldP (fun W => Hid (BxC 28 w W p q) ∧ Hid (PwF (fun i => i ≠ b5) W p r3) ∧ Hid (Vy w W b5 pk0 pl0)) ⟨Lib.hid (C.out.step hb), Lib.hid hq, Lib.hid (V5.out.below hb)⟩ ?_
        clear C V5 hq hb
        rintro W ⟨C, P3, V5⟩
        refine wpAnyH_ready (rs := [3, 5]) (by kernel_rfl) (by simp) ?_
        refine (AllReadyH.cons (o := ?oz34) ?hiz34 (fun K hK => ?stz34) (AllReadyH.cons (o := ?oz33) ?hiz33 (fun K hK => ?stz33) AllReadyH.nil))
        case hiz34 => (simp only [List.getElem?_toArray, List.getElem?_cons_succ, List.getElem?_cons_zero]; rfl)
        case hiz33 => (simp only [List.getElem?_toArray, List.getElem?_cons_succ, List.getElem?_cons_zero]; rfl)
        case stz34 =>
          obtain ⟨G, hG⟩ : ∃ G : Nat → Prop, Hid (G = (fun i => i ≠ b5)) := ⟨_, Lib.hid rfl⟩
          have FN := Lib.hid (show ∀ i, W.heap.size ≤ i → G i by rw [hG.out]; exact fun i hi => Nat.ne_of_gt (Nat.lt_of_lt_of_le V5.out.bx.lt hi))
          have PW := Lib.hid (show PwF G W p q by rw [hG.out]; exact (H.out.keep (.of_below C.out.bel)).mono (fun i _ hi => Nat.ne_of_lt (Nat.lt_trans hi V5.out.gt)))
          go_simp
          go_at_call 9
          with_reducible refine (of15F_any G p q _ FN.out PW.out hno2).mono ?_
          rintro e wy ⟨r4, rfl, hq, hb⟩
          rw [hG.out] at hq
          dsimp only
          refine hK.out _ _ (by exact (C.out.step hb).cf.all) (fun _ => ?_)
          clear hK K FN PW hG
          try simp only [Act.put, List.setIfInBounds_toArray, List.set_cons_zero, List.set_cons_succ]
          refine at_worldP (fun W => Hid (BxC 28 w W p q) ∧ Hid (PwF (fun i => i ≠ b5) W p r3) ∧ Hid (PwF (fun i => i ≠ b5) W p r4) ∧ Hid (Vy w W b5 pk0 pl0)) ⟨Lib.hid (C.out.step hb), Lib.hid (P3.out.keep (.of_below hb)), Lib.hid hq, Lib.hid (V5.out.below hb)⟩ ?_
          clear C P3 V5 hq hb
          rintro W ⟨C, P3, P4, V5⟩
          refine wpAnyH_ready (rs := [5]) (by kernel_rfl) (by simp) ?_
          refine (AllReadyH.cons (o := ?oz35) ?hiz35 (fun K hK => ?stz35) AllReadyH.nil)
          case hiz35 => (simp only [List.getElem?_toArray, List.getElem?_cons_succ, List.getElem?_cons_zero]; rfl)
          case stz35 =>
            go_simp
            refine hK.out _ _ (by exact (C.out.al _).cf.all) (fun _ => ?_)
            clear hK K
            try simp only [Act.put, List.setIfInBounds_toArray, List.set_cons_zero, List.set_cons_succ]
            obtain ⟨b6, hbb⟩ : ∃ b, b = W.heap.size := ⟨_, rfl⟩
            rw [← hbb]
            have NE := Lib.hid (show b5 ≠ b6 from fun e => absurd V5.out.bx.lt (by rw [e, hbb]; exact Nat.lt_irrefl _))
            refine at_worldP (fun W => Hid (BxC 28 w W p q) ∧ Hid (PwF (fun i => i ≠ b5 ∧ i ≠ b6) W p r3) ∧ Hid (PwF (fun i => i ≠ b5 ∧ i ≠ b6) W p r4) ∧ Hid (Vy w W b5 pk0 pl0) ∧ Hid (Vy w W b6 pk0 pl0)) ⟨Lib.hid (C.out.al (obj0P 36)), Lib.hid ((P3.out.mono (G := (fun i => i ≠ b5 ∧ i ≠ b6)) (fun i hi hf => ⟨hf, (by rw [hbb]; exact Nat.ne_of_lt hi)⟩)).keep (.of_below ((Below.refl W.heap.size W).alloc (Nat.le_refl _) (obj0P 36)))), Lib.hid ((P4.out.mono (G := (fun i => i ≠ b5 ∧ i ≠ b6)) (fun i hi hf => ⟨hf, (by rw [hbb]; exact Nat.ne_of_lt hi)⟩)).keep (.of_below ((Below.refl W.heap.size W).alloc (Nat.le_refl _) (obj0P 36)))), Lib.hid (V5.out.al (obj0P 36)), Lib.hid (show Vy w _ b6 pk0 pl0 from hbb ▸ Vy.new C.out)⟩ ?_
            clear C P3 P4 V5 hbb
            rintro W ⟨C, P3, P4, V5, V6⟩
            refine wpAnyH_ready (rs := [6]) (by kernel_rfl) (by simp) ?_
            refine AllReadyH.cons (o := ?oz36) ?hiz36 (fun K hK => ?stz36) AllReadyH.nil
            case hiz36 => (simp only [List.getElem?_toArray, List.getElem?_cons_succ, List.getElem?_cons_zero]; rfl)
            obtain ⟨e0, e1, e2, e3, e4, e5, e6, e7, e8, e9⟩ := V5.out.bx.free
            obtain ⟨d0, d1, d2, d3, d4, d5, d6, d7, d8, d9⟩ := V5.out.bx.all
            go_simp
            refine hK.out _ _ (by exact (C.out.putY V5.out.gt p r3).cf.all) (fun _ => ?_)
            clear hK K e0 e1 e2 e3 e4 e5 e6 e7 e8 e9 d0 d1 d2 d3 d4 d5 d6 d7 d8 d9
            try simp only [Act.put, List.setIfInBounds_toArray, List.set_cons_zero, List.set_cons_succ]
            refine at_worldP (fun W => Hid (BxC 28 w W p q) ∧ Hid (PwF (fun i => i ≠ b5 ∧ i ≠ b6) W p r3) ∧ Hid (PwF (fun i => i ≠ b5 ∧ i ≠ b6) W p r4) ∧ Hid (Vy w W b5 p r3) ∧ Hid (Vy w W b6 pk0 pl0)) ⟨Lib.hid (C.out.putY V5.out.gt p r3), Lib.hid (P3.out.keep ((put10_keeps W b5 p r3).less (fun _ _ h => h.1))), Lib.hid (P4.out.keep ((put10_keeps W b5 p r3).less (fun _ _ h => h.1))), Lib.hid (V5.out.put p r3), Lib.hid (V6.out.putO NE.out.symm p r3)⟩ ?_
            clear C P3 P4 V5 V6
            rintro W ⟨C, P3, P4, V5, V6⟩
            refine wpAnyH_ready (rs := [7]) (by kernel_rfl) (by simp) ?_
            refine AllReadyH.cons (o := ?oz37) ?hiz37 (fun K hK => ?stz37) AllReadyH.nil
            case hiz37 => (simp only [List.getElem?_toArray, List.getElem?_cons_succ, List.getElem?_cons_zero]; rfl)
            obtain ⟨e0, e1, e2, e3, e4, e5, e6, e7, e8, e9⟩ := V6.out.bx.free
            obtain ⟨d0, d1, d2, d3, d4, d5, d6, d7, d8, d9⟩ := V6.out.bx.all
            go_simp
            refine hK.out _ _ (by exact (C.out.putY V6.out.gt p r4).cf.all) (fun _ => ?_)
            clear hK K e0 e1 e2 e3 e4 e5 e6 e7 e8 e9 d0 d1 d2 d3 d4 d5 d6 d7 d8 d9
            try simp only [Act.put, List.setIfInBounds_toArray, List.set_cons_zero, List.set_cons_succ]
            refine at_worldP (fun W => Hid (BxC 28 w W p q) ∧ Hid (PwF (fun i => i ≠ b5 ∧ i ≠ b6) W p r3) ∧ Hid (PwF (fun i => i ≠ b5 ∧ i ≠ b6) W p r4) ∧ Hid (Vy w W b5 p r3) ∧ Hid (Vy w W b6 p r4)) ⟨Lib.hid (C.out.putY V6.out.gt p r4), Lib.hid (P3.out.keep ((put10_keeps W b6 p r4).less (fun _ _ h => h.2))), Lib.hid (P4.out.keep ((put10_keeps W b6 p r4).less (fun _ _ h => h.2))), Lib.hid (V5.out.putO NE.out p r4), Lib.hid (V6.out.put p r4)⟩ ?_
            clear C P3 P4 V5 V6
            rintro W ⟨C, P3, P4, V5, V6⟩
            refine wpAnyH_done (by kernel_rfl) ?_ _
            (try go_wp2_with fail); go_meet
            exact ⟨b5, b6, r3, r4, rfl, rfl, Lib.hid ⟨C.out.bel, V5.out.gt, V6.out.gt, NE.out, V5.out.bx, V6.out.bx, P3.out, P4.out⟩⟩
        case stz33 =>
          go_simp
          refine hK.out _ _ (by exact (C.out.al _).cf.all) (fun _ => ?_)
          clear hK K
          try simp only [Act.put, List.setIfInBounds_toArray, List.set_cons_zero, List.set_cons_succ]
          obtain ⟨b6, hbb⟩ : ∃ b, b = W.heap.size := ⟨_, rfl⟩
          rw [← hbb]
          have NE := Lib.hid (show b5 ≠ b6 from fun e => absurd V5.out.bx.lt (by rw [e, hbb]; exact Nat.lt_irrefl _))
          refine at_worldP (fun W => Hid (BxC 28 w W p q) ∧ Hid (PwF (fun i => i ≠ b5 ∧ i ≠ b6) W p r3) ∧ Hid (Vy w W b5 pk0 pl0) ∧ Hid (Vy w W b6 pk0 pl0)) ⟨Lib.hid (C.out.al (obj0P 36)), Lib.hid ((P3.out.mono (G := (fun i => i ≠ b5 ∧ i ≠ b6)) (fun i hi hf => ⟨hf, (by rw [hbb]; exact Nat.ne_of_lt hi)⟩)).keep (.of_below ((Below.refl W.heap.size W).alloc (Nat.le_refl _) (obj0P 36)))), Lib.hid (V5.out.al (obj0P 36)), Lib.hid (show Vy w _ b6 pk0 pl0 from hbb ▸ Vy.new C.out)⟩ ?_
          clear C P3 V5 hbb
          rintro W ⟨C, P3, V5, V6⟩
          refine wpAnyH_ready (rs := [3]) (by kernel_rfl) (by simp) ?_
          refine (AllReadyH.cons (o := ?oz38) ?hiz38 (fun K hK => ?stz38) AllReadyH.nil)
          case hiz38 => (simp only [List.getElem?_toArray, List.getElem?_cons_succ, List.getElem?_cons_zero]; rfl)
          case stz38 =>
            obtain ⟨G, hG⟩ : ∃ G : Nat → Prop, Hid (G = (fun i => i ≠ b5 ∧ i ≠ b6)) := ⟨_, Lib.hid rfl⟩
            have FN := Lib.hid (show ∀ i, W.heap.size ≤ i → G i by rw [hG.out]; exact fun i hi => ⟨Nat.ne_of_gt (Nat.lt_of_lt_of_le V5.out.bx.lt hi), Nat.ne_of_gt (Nat.lt_of_lt_of_le V6.out.bx.lt hi)⟩)
            have PW := Lib.hid (show PwF G W p q by rw [hG.out]; exact (H.out.keep (.of_below C.out.bel)).mono (fun i _ hi => ⟨Nat.ne_of_lt (Nat.lt_trans hi V5.out.gt), Nat.ne_of_lt (Nat.lt_trans hi V6.out.gt)⟩))
            go_simp
            go_at_call 9
            with_reducible refine (of15F_any G p q _ FN.out PW.out hno2).mono ?_
            rintro e wy ⟨r4, rfl, hq, hb⟩
            rw [hG.out] at hq
            dsimp only
            refine hK.out _ _ (by exact (C.out.step hb).cf.all) (fun _ => ?_)
            clear hK K FN PW hG
            try simp only [Act.put, List.setIfInBounds_toArray, List.set_cons_zero, List.set_cons_succ]
            refine at_worldP (fun W => Hid (BxC 28 w W p q) ∧ Hid (PwF (fun i => i ≠ b5 ∧ i ≠ b6) W p r3) ∧ Hid (PwF (fun i => i ≠ b5 ∧ i ≠ b6) W p r4) ∧ Hid (Vy w W b5 pk0 pl0) ∧ Hid (Vy w W b6 pk0 pl0)) ⟨Lib.hid (C.out.step hb), Lib.hid (P3.out.keep (.of_below hb)), Lib.hid hq, Lib.hid (V5.out.below hb), Lib.hid (V6.out.below hb)⟩ ?_
            clear C P3 V5 V6 hq hb
            rintro W ⟨C, P3, P4, V5, V6⟩
            refine wpAnyH_ready (rs := [6]) (by kernel_rfl) (by simp) ?_
            refine AllReadyH.cons (o := ?oz39) ?hiz39 (fun K hK => ?stz39) AllReadyH.nil
            case hiz39 => (simp only [List.getElem?_toArray, List.getElem?_cons_succ, List.getElem?_cons_zero]; rfl)
            obtain ⟨e0, e1, e2, e3, e4, e5, e6, e7, e8, e9⟩ := V5.out.bx.free
            obtain ⟨d0, d1, d2, d3, d4, d5, d6, d7, d8, d9⟩ := V5.out.bx.all
            go_simp
            refine hK.out _ _ (by exact (C.out.putY V5.out.gt p r3).cf.all) (fun _ => ?_)
            clear hK K e0 e1 e2 e3 e4 e5 e6 e7 e8 e9 d0 d1 d2 d3 d4 d5 d6 d7 d8 d9
            try simp only [Act.put, List.setIfInBounds_toArray, List.set_cons_zero, List.set_cons_succ]
            refine at_worldP (fun W => Hid (BxC 28 w W p q) ∧ Hid (PwF (fun i => i ≠ b5 ∧ i ≠ b6) W p r3) ∧ Hid (PwF (fun i => i ≠ b5 ∧ i ≠ b6) W p r4) ∧ Hid (Vy w W b5 p r3) ∧ Hid (Vy w W b6 pk0 pl0)) ⟨Lib.hid (C.out.putY V5.out.gt p r3), Lib.hid (P3.out.keep ((put10_keeps W b5 p r3).less (fun _ _ h => h.1))), Lib.hid (P4.out.keep ((put10_keeps W b5 p r3).less (fun _ _ h => h.1))), Lib.hid (V5.out.put p r3), Lib.hid (V6.out.putO NE.out.symm p r3)⟩ ?_
            clear C P3 P4 V5 V6
            rintro W ⟨C, P3, P4, V5, V6⟩
            refine wpAnyH_ready (rs := [7]) (by kernel_rfl) (by simp) ?_
            refine AllReadyH.cons (o := ?oz40) ?hiz40 (fun K hK => ?stz40) AllReadyH.nil
            case hiz40 => (simp only [List.getElem?_toArray, List.getElem?_cons_succ, List.getElem?_cons_zero]; rfl)
            obtain ⟨e0, e1, e2, e3, e4, e5, e6, e7, e8, e9⟩ := V6.out.bx.free
            obtain ⟨d0, d1, d2, d3, d4, d5, d6, d7, d8, d9⟩ := V6.out.bx.all
            go_simp
            refine hK.out _ _ (by exact (C.out.putY V6.out.gt p r4).cf.all) (fun _ => ?_)
            clear hK K e0 e1 e2 e3 e4 e5 e6 e7 e8 e9 d0 d1 d2 d3 d4 d5 d6 d7 d8 d9
            try simp only [Act.put, List.setIfInBounds_toArray, List.set_cons_zero, List.set_cons_succ]
            refine at_worldP (fun W => Hid (BxC 28 w W p q) ∧ Hid (PwF (fun i => i ≠ b5 ∧ i ≠ b6) W p r3) ∧ Hid (PwF (fun i => i ≠ b5 ∧ i ≠ b6) W p r4) ∧ Hid (Vy w W b5 p r3) ∧ Hid (Vy w W b6 p r4)) ⟨Lib.hid (C.out.putY V6.out.gt p r4), Lib.hid (P3.out.keep ((put10_keeps W b6 p r4).less (fun _ _ h => h.2))), Lib.hid (P4.out.keep ((put10_keeps W b6 p r4).less (fun _ _ h => h.2))), Lib.hid (V5.out.putO NE.out p r4), Lib.hid (V6.out.put p r4)⟩ ?_
            clear C P3 P4 V5 V6
            rintro W ⟨C, P3, P4, V5, V6⟩
            refine wpAnyH_done (by kernel_rfl) ?_ _
            (try go_wp2_with fail); go_meet
            exact ⟨b5, b6, r3, r4, rfl, rfl, Lib.hid ⟨C.out.bel, V5.out.gt, V6.out.gt, NE.out, V5.out.bx, V6.out.bx, P3.out, P4.out⟩⟩
      case stz31 =>
        go_simp
        refine hK.out _ _ (by exact (C.out.al _).cf.all) (fun _ => ?_)
        clear hK K
        try simp only [Act.put, List.setIfInBounds_toArray, List.set_cons_zero, List.set_cons_succ]
        obtain ⟨b6, hbb⟩ : ∃ b, b = W.heap.size := ⟨_, rfl⟩
        rw [← hbb]
        have NE := Lib.hid (show b5 ≠ b6 from fun e => absurd V5.out.bx.lt (by rw [e, hbb]; exact Nat.lt_irrefl _))
        refine at_worldP (fun W => Hid (BxC 28 w W p q) ∧ Hid (Vy w W b5 pk0 pl0) ∧ Hid (Vy w W b6 pk0 pl0)) ⟨Lib.hid (C.out.al (obj0P 36)), Lib.hid (V5.out.al (obj0P 36)), Lib.hid (show Vy w _ b6 pk0 pl0 from hbb ▸ Vy.new C.out)⟩ ?_
        clear C V5 hbb
        rintro W ⟨C, V5, V6⟩
        refine wpAnyH_ready (rs := [1]) (by kernel_rfl) (by simp) ?_
        refine (AllReadyH.cons (o := ?oz41) ?hiz41 (fun K hK => ?stz41) AllReadyH.nil)
        case hiz41 => (simp only [List.getElem?_toArray, List.getElem?_cons_succ, List.getElem?_cons_zero]; rfl)
        case stz41 =>
          obtain ⟨G, hG⟩ : ∃ G : Nat → Prop, Hid (G = (fun i => i ≠ b5 ∧ i ≠ b6)) := ⟨_, Lib.hid rfl⟩
          have FN := Lib.hid (show ∀ i, W.heap.size ≤ i → G i by rw [hG.out]; exact fun i hi => ⟨Nat.ne_of_gt (Nat.lt_of_lt_of_le V5.out.bx.lt hi), Nat.ne_of_gt (Nat.lt_of_lt_of_le V6.out.bx.lt hi)⟩)
          have PW := Lib.hid (show PwF G W p q by rw [hG.out]; exact (H.out.keep (.of_below C.out.bel)).mono (fun i _ hi => ⟨Nat.ne_of_lt (Nat.lt_trans hi V5.out.gt), Nat.ne_of_lt (Nat.lt_trans hi V6.out.gt)⟩))
          go_simp
          go_at_call 9
          with_reducible refine (of15F_any G p q _ FN.out PW.out hno2).mono ?_
          rintro e wy ⟨r3, rfl, hq, hb⟩
          rw [hG.out] at hq
          dsimp only
          refine hK.out _ _ (by exact (C.out.step hb).cf.all) (fun _ => ?_)
          clear hK K FN PW hG
          try simp only [Act.put, List.setIfInBounds_toArray, List.set_cons_zero, List.set_cons_succ]
          refine at_worldP (fun W => Hid (BxC 28 w W p q) ∧ Hid (PwF (fun i => i ≠ b5 ∧ i ≠ b6) W p r3) ∧ Hid (Vy w W b5 pk0 pl0) ∧ Hid (Vy w W b6 pk0 pl0)) ⟨Lib.hid (C.out.step hb), Lib.hid hq, Lib.hid (V5.out.below hb), Lib.hid (V6.out.below hb)⟩ ?_
          clear C V5 V6 hq hb
          rintro W ⟨C, P3, V5, V6⟩
          refine wpAnyH_ready (rs := [3]) (by kernel_rfl) (by simp) ?_
          refine (AllReadyH.cons (o := ?oz42) ?hiz42 (fun K hK => ?stz42) AllReadyH.nil)
          case hiz42 => (simp only [List.getElem?_toArray, List.getElem?_cons_succ, List.getElem?_cons_zero]; rfl)
          case stz42 =>
            obtain ⟨G, hG⟩ : ∃ G : Nat → Prop, Hid (G = (fun i => i ≠ b5 ∧ i ≠ b6)) := ⟨_, Lib.hid rfl⟩
            have FN := Lib.hid (show ∀ i, W.heap.size ≤ i → G i by rw [hG.out]; exact fun i hi => ⟨Nat.ne_of_gt (Nat.lt_of_lt_of_le V5.out.bx.lt hi), Nat.ne_of_gt (Nat.lt_of_lt_of_le V6.out.bx.lt hi)⟩)
            have PW := Lib.hid (show PwF G W p q by rw [hG.out]; exact (H.out.keep (.of_below C.out.bel)).mono (fun i _ hi => ⟨Nat.ne_of_lt (Nat.lt_trans hi V5.out.gt), Nat.ne_of_lt (Nat.lt_trans hi V6.out.gt)⟩))
            go_simp
            go_at_call 9
            with_reducible refine (of15F_any G p q _ FN.out PW.out hno2).mono ?_
            rintro e wy ⟨r4, rfl, hq, hb⟩
            rw [hG.out] at hq
            dsimp only
            refine hK.out _ _ (by exact (C.out.step hb).cf.all) (fun _ => ?_)
            clear hK K FN PW hG
            try simp only [Act.put, List.setIfInBounds_toArray, List.set_cons_zero, List.set_cons_succ]
            refine at_worldP (fun W => Hid (BxC 28 w W p q) ∧ Hid (PwF (fun i => i ≠ b5 ∧ i ≠ b6) W p r3) ∧ Hid (PwF (fun i => i ≠ b5 ∧ i ≠ b6) W p r4) ∧ Hid (Vy w W b5 pk0 pl0) ∧ Hid (Vy w W b6 pk0 pl0)) ⟨Lib.hid (C.out.step hb), Lib.hid (P3.out.keep (.of_below hb)), Lib.hid hq, Lib.hid (V5.out.below hb), Lib.hid (V6.out.below hb)⟩ ?_
            clear C P3 V5 V6 hq hb
            rintro W ⟨C, P3, P4, V5, V6⟩
            refine wpAnyH_ready (rs := [6]) (by kernel_rfl) (by simp) ?_
            refine AllReadyH.cons (o := ?oz43) ?hiz43 (fun K hK => ?stz43) AllReadyH.nil
            case hiz43 => (simp only [List.getElem?_toArray, List.getElem?_cons_succ, List.getElem?_cons_zero]; rfl)
            obtain ⟨e0, e1, e2, e3, e4, e5, e6, e7, e8, e9⟩ := V5.out.bx.free
            obtain ⟨d0, d1, d2, d3, d4, d5, d6, d7, d8, d9⟩ := V5.out.bx.all
            go_simp
            refine hK.out _ _ (by exact (C.out.putY V5.out.gt p r3).cf.all) (fun _ => ?_)
            clear hK K e0 e1 e2 e3 e4 e5 e6 e7 e8 e9 d0 d1 d2 d3 d4 d5 d6 d7 d8 d9
            try simp only [Act.put, List.setIfInBounds_toArray, List.set_cons_zero, List.set_cons_succ]
            refine at_worldP (fun W => Hid (BxC 28 w W p q) ∧ Hid (PwF (fun i => i ≠ b5 ∧ i ≠ b6) W p r3) ∧ Hid (PwF (fun i => i ≠ b5 ∧ i ≠ b6) W p r4) ∧ Hid (Vy w W b5 p r3) ∧ Hid (Vy w W b6 pk0 pl0)) ⟨Lib.hid (C.out.putY V5.out.gt p r3), Lib.hid (P3.out.keep ((put10_keeps W b5 p r3).less (fun _ _ h => h.1))), Lib.hid (P4.out.keep ((put10_keeps W b5 p r3).less (fun _ _ h => h.1))), Lib.hid (V5.out.put p r3), Lib.hid (V6.out.putO NE.out.symm p r3)⟩ ?_
            clear C P3 P4 V5 V6
            rintro W ⟨C, P3, P4, V5, V6⟩
            refine wpAnyH_ready (rs := [7]) (by kernel_rfl) (by simp) ?_
            refine AllReadyH.cons (o := ?oz44) ?hiz44 (fun K hK => ?stz44) AllReadyH.nil
            case hiz44 => (simp only [List.getElem?_toArray, List.getElem?_cons_succ, List.getElem?_cons_zero]; rfl)
            obtain ⟨e0, e1, e2, e3, e4, e5, e6, e7, e8, e9⟩ := V6.out.bx.free
            obtain ⟨d0, d1, d2, d3, d4, d5, d6, d7, d8, d9⟩ := V6.out.bx.all
            go_simp
            refine hK.out _ _ (by exact (C.out.putY V6.out.gt p r4).cf.all) (fun _ => ?_)
            clear hK K e0 e1 e2 e3 e4 e5 e6 e7 e8 e9 d0 d1 d2 d3 d4 d5 d6 d7 d8 d9
            try simp only [Act.put, List.setIfInBounds_toArray, List.set_cons_zero, List.set_cons_succ]
            refine at_worldP (fun W => Hid (BxC 28 w W p q) ∧ Hid (PwF (fun i => i ≠ b5 ∧ i ≠ b6) W p r3) ∧ Hid (PwF (fun i => i ≠ b5 ∧ i ≠ b6) W p r4) ∧ Hid (Vy w W b5 p r3) ∧ Hid (Vy w W b6 p r4)) ⟨Lib.hid (C.out.putY V6.out.gt p r4), Lib.hid (P3.out.keep ((put10_keeps W b6 p r4).less (fun _ _ h => h.2))), Lib.hid (P4.out.keep ((put10_keeps W b6 p r4).less (fun _ _ h => h.2))), Lib.hid (V5.out.putO NE.out p r4), Lib.hid (V6.out.put p r4)⟩ ?_
            clear C P3 P4 V5 V6
            rintro W ⟨C, P3, P4, V5, V6⟩
            refine wpAnyH_done (by kernel_rfl) ?_ _
            (try go_wp2_with fail); go_meet
            exact ⟨b5, b6, r3, r4, rfl, rfl, Lib.hid ⟨C.out.bel, V5.out.gt, V6.out.gt, NE.out, V5.out.bx, V6.out.bx, P3.out, P4.out⟩⟩
    case stz1 =>
      go_simp
      refine hK.out _ _ (by exact (C.out.al _).cf.all) (fun _ => ?_)
      clear hK K
      try simp only [Act.put, List.setIfInBounds_toArray, List.set_cons_zero, List.set_cons_succ]
      obtain ⟨b6, hbb⟩ : ∃ b, b = W.heap.size := ⟨_, rfl⟩
      rw [← hbb]
      refine at_worldP (fun W => Hid (BxC 28 w W p q) ∧ Hid (Vy w W b6 pk0 pl0)) ⟨Lib.hid (C.out.al (obj0P 36)), Lib.hid (show Vy w _ b6 pk0 pl0 from hbb ▸ Vy.new C.out)⟩ ?_
      clear C hbb
      rintro W ⟨C, V6⟩
      refine wpAnyH_ready (rs := [1, 4]) (by kernel_rfl) (by simp) ?_
      refine (AllReadyH.cons (o := ?oz46) ?hiz46 (fun K hK => ?stz46) (AllReadyH.cons (o := ?oz45) ?hiz45 (fun K hK => ?stz45) AllReadyH.nil))
      case hiz46 => (simp only [List.getElem?_toArray, List.getElem?_cons_succ, List.getElem?_cons_zero]; rfl)
      case hiz45 => (simp only [List.getElem?_toArray, List.getElem?_cons_succ, List.getElem?_cons_zero]; rfl)
      case stz46 =>
        obtain ⟨G, hG⟩ : ∃ G : Nat → Prop, Hid (G = (fun i => i ≠ b6)) := ⟨_, Lib.hid rfl⟩
        have FN := Lib.hid (show ∀ i, W.heap.size ≤ i → G i by rw [hG.out]; exact fun i hi => Nat.ne_of_gt (Nat.lt_of_lt_of_le V6.out.bx.lt hi))
        have PW := Lib.hid (show PwF G W p q by rw [hG.out]; exact (H.out.keep (.of_below C.out.bel)).mono (fun i _ hi => Nat.ne_of_lt (Nat.lt_trans hi V6.out.gt)))
        go_simp
        go_at_call 9
        with_reducible refine (of15F_any G p q _ FN.out PW.out hno2).mono ?_
        rintro e wy ⟨r3, rfl, hq, hb⟩
        rw [hG.out] at hq
        dsimp only
        refine hK.out _ _ (by exact (C.out.step hb).cf.all) (fun _ => ?_)
        clear hK K FN PW hG
        try simp only [Act.put, List.setIfInBounds_toArray, List.set_cons_zero, List.set_cons_succ]
        refine at_worldP (fun W => Hid (BxC 28 w W p q) ∧ Hid (PwF (fun i => i ≠ b6) W p r3) ∧ Hid (Vy w W b6 pk0 pl0)) ⟨Lib.hid (C.out.step hb), Lib.hid hq, Lib.hid (V6.out.below hb)⟩ ?_
        clear C V6 hq hb
        rintro W ⟨C, P3, V6⟩
        refine wpAnyH_ready (rs := [3, 4]) (by kernel_rfl) (by simp) ?_
        refine (AllReadyH.cons (o := ?oz48) ?hiz48 (fun K hK => ?stz48) (AllReadyH.cons (o := ?oz47) ?hiz47 (fun K hK => ?stz47) AllReadyH.nil))
        case hiz48 => (simp only [List.getElem?_toArray, List.getElem?_cons_succ, List.getElem?_cons_zero]; rfl)
        case hiz47 => (simp only [List.getElem?_toArray, List.getElem?_cons_succ, List.getElem?_cons_zero]; rfl)
        case stz48 =>
          obtain ⟨G, hG⟩ : ∃ G : Nat → Prop, Hid (G = (fun i => i ≠ b6)) := ⟨_, Lib.hid rfl⟩
          have FN := Lib.hid (show ∀ i, W.heap.size ≤ i → G i by rw [hG.out]; exact fun i hi => Nat.ne_of_gt (Nat.lt_of_lt_of_le V6.out.bx.lt hi))
          have PW := Lib.hid (show PwF G W p q by rw [hG.out]; exact (H.out.keep (.of_below C.out.bel)).mono (fun i _ hi => Nat.ne_of_lt (Nat.lt_trans hi V6.out.gt)))
          go_simp
          go_at_call 9
          with_reducible refine (of15F_any G p q _ FN.out PW.out hno2).mono ?_
          rintro e wy ⟨r4, rfl, hq, hb⟩
          rw [hG.out] at hq
          dsimp only
          refine hK.out _ _ (by exact (C.out.step hb).cf.all) (fun _ => ?_)
          clear hK K FN PW hG
          try simp only [Act.put, List.setIfInBounds_toArray, List.set_cons_zero, List.set_cons_succ]
          refine at_worldP (fun W => Hid (BxC 28 w W p q) ∧ Hid (PwF (fun i => i ≠ b6) W p r3) ∧ Hid (PwF (fun i => i ≠ b6) W p r4) ∧ Hid (Vy w W b6 pk0 pl0)) ⟨Lib.hid (C.out.step hb), Lib.hid (P3.out.keep (.of_below hb)), Lib.hid hq, Lib.hid (V6.out.below hb)⟩ ?_
          clear C P3 V6 hq hb
          rintro W ⟨C, P3, P4, V6⟩
          refine wpAnyH_ready (rs := [4]) (by kernel_rfl) (by simp) ?_
          refine (AllReadyH.cons (o := ?oz49) ?hiz49 (fun K hK => ?stz49) AllReadyH.nil)
          case hiz49 => (simp only [List.getElem?_toArray, List.getElem?_cons_succ, List.getElem?_cons_zero]; rfl)
          case stz49 =>
            go_simp
            refine hK.out _ _ (by exact (C.out.al _).cf.all) (fun _ => ?_)
            clear hK K
            try simp only [Act.put, List.setIfInBounds_toArray, List.set_cons_zero, List.set_cons_succ]
            obtain ⟨b5, hbb⟩ : ∃ b, b = W.heap.size := ⟨_, rfl⟩
            rw [← hbb]
            have NE := Lib.hid (show b5 ≠ b6 from fun e => absurd V6.out.bx.lt (by rw [← e, hbb]; exact Nat.lt_irrefl _))
            refine at_worldP (fun W => Hid (BxC 28 w W p q) ∧ Hid (PwF (fun i => i ≠ b5 ∧ i ≠ b6) W p r3) ∧ Hid (PwF (fun i => i ≠ b5 ∧ i ≠ b6) W p r4) ∧ Hid (Vy w W b5 pk0 pl0) ∧ Hid (Vy w W b6 pk0 pl0)) ⟨Lib.hid (C.out.al (obj0P 36)), Lib.hid ((P3.out.mono (G := (fun i => i ≠ b5 ∧ i ≠ b6)) (fun i hi hf => ⟨(by rw [hbb]; exact Nat.ne_of_lt hi), hf⟩)).keep (.of_below ((Below.refl W.heap.size W).alloc (Nat.le_refl _) (obj0P 36)))), Lib.hid ((P4.out.mono (G := (fun i => i ≠ b5 ∧ i ≠ b6)) (fun i hi hf => ⟨(by rw [hbb]; exact Nat.ne_of_lt hi), hf⟩)).keep (.of_below ((Below.refl W.heap.size W).alloc (Nat.le_refl _) (obj0P 36)))), Lib.hid (show Vy w _ b5 pk0 pl0 from hbb ▸ Vy.new C.out), Lib.hid (V6.out.al (obj0P 36))⟩ ?_
            clear C P3 P4 V6 hbb
            rintro W ⟨C, P3, P4, V5, V6⟩
            refine wpAnyH_ready (rs := [6]) (by kernel_rfl) (by simp) ?_
            refine AllReadyH.cons (o := ?oz50) ?hiz50 (fun K hK => ?stz50) AllReadyH.nil
            case hiz50 => (simp only [List.getElem?_toArray, List.getElem?_cons_succ, List.getElem?_cons_zero]; rfl)
            obtain ⟨e0, e1, e2, e3, e4, e5, e6, e7, e8, e9⟩ := V5.out.bx.free
            obtain ⟨d0, d1, d2, d3, d4, d5, d6, d7, d8, d9⟩ := V5.out.bx.all
            go_simp
            refine hK.out _ _ (by exact (C.out.putY V5.out.gt p r3).cf.all) (fun _ => ?_)
            clear hK K e0 e1 e2 e3 e4 e5 e6 e7 e8 e9 d0 d1 d2 d3 d4 d5 d6 d7 d8 d9
            try simp only [Act.put, List.setIfInBounds_toArray, List.set_cons_zero, List.set_cons_succ]
            refine at_worldP (fun W => Hid (BxC 28 w W p q) ∧ Hid (PwF (fun i => i ≠ b5 ∧ i ≠ b6) W p r3) ∧ Hid (PwF (fun i => i ≠ b5 ∧ i ≠ b6) W p r4) ∧ Hid (Vy w W b5 p r3) ∧ Hid (Vy w W b6 pk0 pl0)) ⟨Lib.hid (C.out.putY V5.out.gt p r3), Lib.hid (P3.out.keep ((put10_keeps W b5 p r3).less (fun _ _ h => h.1))), Lib.hid (P4.out.keep ((put10_keeps W b5 p r3).less (fun _ _ h => h.1))), Lib.hid (V5.out.put p r3), Lib.hid (V6.out.putO NE.out.symm p r3)⟩ ?_
            clear C P3 P4 V5 V6
            rintro W ⟨C, P3, P4, V5, V6⟩
            refine wpAnyH_ready (rs := [7]) (by kernel_rfl) (by simp) ?_
            refine AllReadyH.cons (o := ?oz51) ?hiz51 (fun K hK => ?stz51) AllReadyH.nil
            case hiz51 => (simp only [List.getElem?_toArray, List.getElem?_cons_succ, List.getElem?_cons_zero]; rfl)
            obtain ⟨e0, e1, e2, e3, e4, e5, e6, e7, e8, e9⟩ := V6.out.bx.free
            obtain ⟨d0, d1, d2, d3, d4, d5, d6, d7, d8, d9⟩ := V6.out.bx.all
            go_simp
            refine hK.out _ _ (by exact (C.out.putY V6.out.gt p r4).cf.all) (fun _ => ?_)
            clear hK K e0 e1 e2 e3 e4 e5 e6 e7 e8 e9 d0 d1 d2 d3 d4 d5 d6 d7 d8 d9
            try simp only [Act.put, List.setIfInBounds_toArray, List.set_cons_zero, List.set_cons_succ]
            refine at_worldP (fun W => Hid (BxC 28 w W p q) ∧ Hid (PwF (fun i => i ≠ b5 ∧ i ≠ b6) W p r3) ∧ Hid (PwF (fun i => i ≠ b5 ∧ i ≠ b6) W p r4) ∧ Hid (Vy w W b5 p r3) ∧ Hid (Vy w W b6 p r4)) ⟨Lib.hid (C.out.putY V6.out.gt p r4), Lib.hid (P3.out.keep ((put10_keeps W b6 p r4).less (fun _ _ h => h.2))), Lib.hid (P4.out.keep ((put10_keeps W b6 p r4).less (fun _ _ h => h.2))), Lib.hid (V5.out.putO NE.out p r4), Lib.hid (V6.out.put p r4)⟩ ?_
            clear C P3 P4 V5 V6
            rintro W ⟨C, P3, P4, V5, V6⟩
            refine wpAnyH_done (by kernel_rfl) ?_ _
            (try go_wp2_with fail); go_meet
            exact ⟨b5, b6, r3, r4, rfl, rfl, Lib.hid ⟨C.out.bel, V5.out.gt, V6.out.gt, NE.out, V5.out.bx, V6.out.bx, P3.out, P4.out⟩⟩
        case stz47 =>
          go_simp
          refine hK.out _ _ (by exact (C.out.al _).cf.all) (fun _ => ?_)
          clear hK K
          try simp only [Act.put, List.setIfInBounds_toArray, List.set_cons_zero, List.set_cons_succ]
          obtain ⟨b5, hbb⟩ : ∃ b, b = W.heap.size := ⟨_, rfl⟩
          rw [← hbb]
          have NE := Lib.hid (show b5 ≠ b6 from fun e => absurd V6.out.bx.lt (by rw [← e, hbb]; exact Nat.lt_irrefl _))
          refine at_worldP (fun W => Hid (BxC 28 w W p q) ∧ Hid (PwF (fun i => i ≠ b5 ∧ i ≠ b6) W p r3) ∧ Hid (Vy w W b5 pk0 pl0) ∧ Hid (Vy w W b6 pk0 pl0)) ⟨Lib.hid (C.out.al (obj0P 36)), Lib.hid ((P3.out.mono (G := (fun i => i ≠ b5 ∧ i ≠ b6)) (fun i hi hf => ⟨(by rw [hbb]; exact Nat.ne_of_lt hi), hf⟩)).keep (.of_below ((Below.refl W.heap.size W).alloc (Nat.le_refl _) (obj0P 36)))), Lib.hid (show Vy w _ b5 pk0 pl0 from hbb ▸ Vy.new C.out), Lib.hid (V6.out.al (obj0P 36))⟩ ?_
          clear C P3 V6 hbb
          rintro W ⟨C, P3, V5, V6⟩
          refine wpAnyH_ready (rs := [3]) (by kernel_rfl) (by simp) ?_
          refine (AllReadyH.cons (o := ?oz52) ?hiz52 (fun K hK => ?stz52) AllReadyH.nil)
          case hiz52 => (simp only [List.getElem?_toArray, List.getElem?_cons_succ, List.getElem?_cons_zero]; rfl)
          case stz52 =>
            obtain ⟨G, hG⟩ : ∃ G : Nat → Prop, Hid (G = (fun i => i ≠ b5 ∧ i ≠ b6)) := ⟨_, Lib.hid rfl⟩
            have FN := Lib.hid (show ∀ i, W.heap.size ≤ i → G i by rw [hG.out]; exact fun i hi => ⟨Nat.ne_of_gt (Nat.lt_of_lt_of_le V5.out.bx.lt hi), Nat.ne_of_gt (Nat.lt_of_lt_of_le V6.out.bx.lt hi)⟩)
            have PW := Lib.hid (show PwF G W p q by rw [hG.out]; exact (H.out.keep (.of_below C.out.bel)).mono (fun i _ hi => ⟨Nat.ne_of_lt (Nat.lt_trans hi V5.out.gt), Nat.ne_of_lt (Nat.lt_trans hi V6.out.gt)⟩))
            go_simp
            go_at_call 9
            with_reducible refine (of15F_any G p q _ FN.out PW.out hno2).mono ?_
            rintro e wy ⟨r4, rfl, hq, hb⟩
            rw [hG.out] at hq
            dsimp only
            refine hK.out _ _ (by exact (C.out.step hb).cf.all) (fun _ => ?_)
            clear hK K FN PW hG
            try simp only [Act.put, List.setIfInBounds_toArray, List.set_cons_zero, List.set_cons_succ]
            refine at_worldP (fun W => Hid (BxC 28 w W p q) ∧ Hid (PwF (fun i => i ≠ b5 ∧ i ≠ b6) W p r3) ∧ Hid (PwF (fun i => i ≠ b5 ∧ i ≠ b6) W p r4) ∧ Hid (Vy w W b5 pk0 pl0) ∧ Hid (Vy w W b6 pk0 pl0)) ⟨Lib.hid (C.out.step hb), Lib.hid (P3.out.keep (.of_below hb)), Lib.hid hq, Lib.hid (V5.out.below hb), Lib.hid (V6.out.below hb)⟩ ?_
            clear C P3 V5 V6 hq hb
            rintro W ⟨C, P3, P4, V5, V6⟩
            refine wpAnyH_ready (rs := [6]) (by kernel_rfl) (by simp) ?_
            refine AllReadyH.cons (o := ?oz53) ?hiz53 (fun K hK => ?stz53) AllReadyH.nil
            case hiz53 => (simp only [List.getElem?_toArray, List.getElem?_cons_succ, List.getElem?_cons_zero]; rfl)
            obtain ⟨e0, e1, e2, e3, e4, e5, e6, e7, e8, e9⟩ := V5.out.bx.free
            obtain ⟨d0, d1, d2, d3, d4, d5, d6, d7, d8, d9⟩ := V5.out.bx.all
            go_simp
            refine hK.out _ _ (by exact (C.out.putY V5.out.gt p r3).cf.all) (fun _ => ?_)
            clear hK K e0 e1 e2 e3 e4 e5 e6 e7 e8 e9 d0 d1 d2 d3 d4 d5 d6 d7 d8 d9
            try simp only [Act.put, List.setIfInBounds_toArray, List.set_cons_zero, List.set_cons_succ]
            refine at_worldP (fun W => Hid (BxC 28 w W p q) ∧ Hid (PwF (fun i => i ≠ b5 ∧ i ≠ b6) W p r3) ∧ Hid (PwF (fun i => i ≠ b5 ∧ i ≠ b6) W p r4) ∧ Hid (Vy w W b5 p r3) ∧ Hid (Vy w W b6 pk0 pl0)) ⟨Lib.hid (C.out.putY V5.out.gt p r3), Lib.hid (P3.out.keep ((put10_keeps W b5 p r3).less (fun _ _ h => h.1))), Lib.hid (P4.out.keep ((put10_keeps W b5 p r3).less (fun _ _ h => h.1))), Lib.hid (V5.out.put p r3), Lib.hid (V6.out.putO NE.out.symm p r3)⟩ ?_
            clear C P3 P4 V5 V6
            rintro W ⟨C, P3, P4, V5, V6⟩
            refine wpAnyH_ready (rs := [7]) (by kernel_rfl) (by simp) ?_
            refine AllReadyH.cons (o := ?oz54) ?hiz54 (fun K hK => ?stz54) AllReadyH.nil
            case hiz54 => (simp only [List.getElem?_toArray, List.getElem?_cons_succ, List.getElem?_cons_zero]; rfl)
            obtain ⟨e0, e1, e2, e3, e4, e5, e6, e7, e8, e9⟩ := V6.out.bx.free
            obtain ⟨d0, d1, d2, d3, d4, d5, d6, d7, d8, d9⟩ := V6.out.bx.all
            go_simp
            refine hK.out _ _ (by exact (C.out.putY V6.out.gt p r4).cf.all) (fun _ => ?_)
            clear hK K e0 e1 e2 e3 e4 e5 e6 e7 e8 e9 d0 d1 d2 d3 d4 d5 d6 d7 d8 d9
            try simp only [Act.put, List.setIfInBounds_toArray, List.set_cons_zero, List.set_cons_succ]
            refine at_worldP (fun W => Hid (BxC 28 w W p q) ∧ Hid (PwF (fun i => i ≠ b5 ∧ i ≠ b6) W p r3) ∧ Hid (PwF (fun i => i ≠ b5 ∧ i ≠ b6) W p r4) ∧ Hid (Vy w W b5 p r3) ∧ Hid (Vy w W b6 p r4)) ⟨Lib.hid (C.out.putY V6.out.gt p r4), Lib.hid (P3.out.keep ((put10_keeps W b6 p r4).less (fun _ _ h => h.2))), Lib.hid (P4.out.keep ((put10_keeps W b6 p r4).less (fun _ _ h => h.2))), Lib.hid (V5.out.putO NE.out p r4), Lib.hid (V6.out.put p r4)⟩ ?_
            clear C P3 P4 V5 V6
            rintro W ⟨C, P3, P4, V5, V6⟩
            refine wpAnyH_done (by kernel_rfl) ?_ _
            (try go_wp2_with fail); go_meet
            exact ⟨b5, b6, r3, r4, rfl, rfl, Lib.hid ⟨C.out.bel, V5.out.gt, V6.out.gt, NE.out, V5.out.bx, V6.out.bx, P3.out, P4.out⟩⟩
      case stz45 =>
        go_simp
        refine hK.out _ _ (by exact (C.out.al _).cf.all) (fun _ => ?_)
        clear hK K
        try simp only [Act.put, List.setIfInBounds_toArray, List.set_cons_zero, List.set_cons_succ]
        obtain ⟨b5, hbb⟩ : ∃ b, b = W.heap.size := ⟨_, rfl⟩
        rw [← hbb]
        have NE := Lib.hid (show b5 ≠ b6 from fun e => absurd V6.out.bx.lt (by rw [← e, hbb]; exact Nat.lt_irrefl _))
        refine at_worldP (fun W => Hid (BxC 28 w W p q) ∧ Hid (Vy w W b5 pk0 pl0) ∧ Hid (Vy w W b6 pk0 pl0)) ⟨Lib.hid (C.out.al (obj0P 36)), Lib.hid (show Vy w _ b5 pk0 pl0 from hbb ▸ Vy.new C.out), Lib.hid (V6.out.al (obj0P 36))⟩ ?_
        clear C V6 hbb
        rintro W ⟨C, V5, V6⟩
        refine wpAnyH_ready (rs := [1]) (by kernel_rfl) (by simp) ?_
        refine (AllReadyH.cons (o := ?oz55) ?hiz55 (fun K hK => ?stz55) AllReadyH.nil)
        case hiz55 => (simp only [List.getElem?_toArray, List.getElem?_cons_succ, List.getElem?_cons_zero]; rfl)
        case stz55 =>
          obtain ⟨G, hG⟩ : ∃ G : Nat → Prop, Hid (G = (fun i => i ≠ b5 ∧ i ≠ b6)) := ⟨_, Lib.hid rfl⟩
          have FN := Lib.hid (show ∀ i, W.heap.size ≤ i → G i by rw [hG.out]; exact fun i hi => ⟨Nat.ne_of_gt (Nat.lt_of_lt_of_le V5.out.bx.lt hi), Nat.ne_of_gt (Nat.lt_of_lt_of_le V6.out.bx.lt hi)⟩)
          have PW := Lib.hid (show PwF G W p q by rw [hG.out]; exact (H.out.keep (.of_below C.out.bel)).mono (fun i _ hi => ⟨Nat.ne_of_lt (Nat.lt_trans hi V5.out.gt), Nat.ne_of_lt (Nat.lt_trans hi V6.out.gt)⟩))
          go_simp
          go_at_call 9
          with_reducible refine (of15F_any G p q _ FN.out PW.out hno2).mono ?_
          rintro e wy ⟨r3, rfl, hq, hb⟩
          rw [hG.out] at hq
          dsimp only
          refine hK.out _ _ (by exact (C.out.step hb).cf.all) (fun _ => ?_)
          clear hK K FN PW hG
          try simp only [Act.put, List.setIfInBounds_toArray, List.set_cons_zero, List.set_cons_succ]
          refine at_worldP (fun W => Hid (BxC 28 w W p q) ∧ Hid (PwF (fun i => i ≠ b5 ∧ i ≠ b6) W p r3) ∧ Hid (Vy w W b5 pk0 pl0) ∧ Hid (Vy w W b6 pk0 pl0)) ⟨Lib.hid (C.out.step hb), Lib.hid hq, Lib.hid (V5.out.below hb), Lib.hid (V6.out.below hb)⟩ ?_
          clear C V5 V6 hq hb
          rintro W ⟨C, P3, V5, V6⟩
          refine wpAnyH_ready (rs := [3]) (by kernel_rfl) (by simp) ?_
          refine (AllReadyH.cons (o := ?oz56) ?hiz56 (fun K hK => ?stz56) AllReadyH.nil)
          case hiz56 => (simp only [List.getElem?_toArray, List.getElem?_cons_succ, List.getElem?_cons_zero]; rfl)
          case stz56 =>
            obtain ⟨G, hG⟩ : ∃ G : Nat → Prop, Hid (G = (fun i => i ≠ b5 ∧ i ≠ b6)) := ⟨_, Lib.hid rfl⟩
            have FN := Lib.hid (show ∀ i, W.heap.size ≤ i → G i by rw [hG.out]; exact fun i hi => ⟨Nat.ne_of_gt (Nat.lt_of_lt_of_le V5.out.bx.lt hi), Nat.ne_of_gt (Nat.lt_of_lt_of_le V6.out.bx.lt hi)⟩)
            have PW := Lib.hid (show PwF G W p q by rw [hG.out]; exact (H.out.keep (.of_below C.out.bel)).mono (fun i _ hi => ⟨Nat.ne_of_lt (Nat.lt_trans hi V5.out.gt), Nat.ne_of_lt (Nat.lt_trans hi V6.out.gt)⟩))
            go_simp
            go_at_call 9
            with_reducible refine (of15F_any G p q _ FN.out PW.out hno2).mono ?_
            rintro e wy ⟨r4, rfl, hq, hb⟩
            rw [hG.out] at hq
            dsimp only
            refine hK.out _ _ (by exact (C.out.step hb).cf.all) (fun _ => ?_)
            clear hK K FN PW hG
            try simp only [Act.put, List.setIfInBounds_toArray, List.set_cons_zero, List.set_cons_succ]
            refine at_worldP (fun W => Hid (BxC 28 w W p q) ∧ Hid (PwF (fun i => i ≠ b5 ∧ i ≠ b6) W p r3) ∧ Hid (PwF (fun i => i ≠ b5 ∧ i ≠ b6) W p r4) ∧ Hid (Vy w W b5 pk0 pl0) ∧ Hid (Vy w W b6 pk0 pl0)) ⟨Lib.hid (C.out.step hb), Lib.hid (P3.out.keep (.of_below hb)), Lib.hid hq, Lib.hid (V5.out.below hb), Lib.hid (V6.out.below hb)⟩ ?_
            clear C P3 V5 V6 hq hb
            rintro W ⟨C, P3, P4, V5, V6⟩
            refine wpAnyH_ready (rs := [6]) (by kernel_rfl) (by simp) ?_
            refine AllReadyH.cons (o := ?oz57) ?hiz57 (fun K hK => ?stz57) AllReadyH.nil
            case hiz57 => (simp only [List.getElem?_toArray, List.getElem?_cons_succ, List.getElem?_cons_zero]; rfl)
            obtain ⟨e0, e1, e2, e3, e4, e5, e6, e7, e8, e9⟩ := V5.out.bx.free
            obtain ⟨d0, d1, d2, d3, d4, d5, d6, d7, d8, d9⟩ := V5.out.bx.all
            go_simp
            refine hK.out _ _ (by exact (C.out.putY V5.out.gt p r3).cf.all) (fun _ => ?_)
            clear hK K e0 e1 e2 e3 e4 e5 e6 e7 e8 e9 d0 d1 d2 d3 d4 d5 d6 d7 d8 d9
            try simp only [Act.put, List.setIfInBounds_toArray, List.set_cons_zero, List.set_cons_succ]
            refine at_worldP (fun W => Hid (BxC 28 w W p q) ∧ Hid (PwF (fun i => i ≠ b5 ∧ i ≠ b6) W p r3) ∧ Hid (PwF (fun i => i ≠ b5 ∧ i ≠ b6) W p r4) ∧ Hid (Vy w W b5 p r3) ∧ Hid (Vy w W b6 pk0 pl0)) ⟨Lib.hid (C.out.putY V5.out.gt p r3), Lib.hid (P3.out.keep ((put10_keeps W b5 p r3).less (fun _ _ h => h.1))), Lib.hid (P4.out.keep ((put10_keeps W b5 p r3).less (fun _ _ h => h.1))), Lib.hid (V5.out.put p r3), Lib.hid (V6.out.putO NE.out.symm p r3)⟩ ?_
            clear C P3 P4 V5 V6
            rintro W ⟨C, P3, P4, V5, V6⟩
            refine wpAnyH_ready (rs := [7]) (by kernel_rfl) (by simp) ?_
            refine AllReadyH.cons (o := ?oz58) ?hiz58 (fun K hK => ?stz58) AllReadyH.nil
            case hiz58 => (simp only [List.getElem?_toArray, List.getElem?_cons_succ, List.getElem?_cons_zero]; rfl)
            obtain ⟨e0, e1, e2, e3, e4, e5, e6, e7, e8, e9⟩ := V6.out.bx.free
            obtain ⟨d0, d1, d2, d3, d4, d5, d6, d7, d8, d9⟩ := V6.out.bx.all
            go_simp
            refine hK.out _ _ (by exact (C.out.putY V6.out.gt p r4).cf.all) (fun _ => ?_)
            clear hK K e0 e1 e2 e3 e4 e5 e6 e7 e8 e9 d0 d1 d2 d3 d4 d5 d6 d7 d8 d9
            try simp only [Act.put, List.setIfInBounds_toArray, List.set_cons_zero, List.set_cons_succ]
            refine at_worldP (fun W => Hid (BxC 28 w W p q) ∧ Hid (PwF (fun i => i ≠ b5 ∧ i ≠ b6) W p r3) ∧ Hid (PwF (fun i => i ≠ b5 ∧ i ≠ b6) W p r4) ∧ Hid (Vy w W b5 p r3) ∧ Hid (Vy w W b6 p r4)) ⟨Lib.hid (C.out.putY V6.out.gt p r4), Lib.hid (P3.out.keep ((put10_keeps W b6 p r4).less (fun _ _ h => h.2))), Lib.hid (P4.out.keep ((put10_keeps W b6 p r4).less (fun _ _ h => h.2))), Lib.hid (V5.out.putO NE.out p r4), Lib.hid (V6.out.put p r4)⟩ ?_
            clear C P3 P4 V5 V6
            rintro W ⟨C, P3, P4, V5, V6⟩
            refine wpAnyH_done (by kernel_rfl) ?_ _
            (try go_wp2_with fail); go_meet
            exact ⟨b5, b6, r3, r4, rfl, rfl, Lib.hid ⟨C.out.bel, V5.out.gt, V6.out.gt, NE.out, V5.out.bx, V6.out.bx, P3.out, P4.out⟩⟩
  case rest =>
    obtain ⟨b5, b6, r3, r4, rfl, rfl, Z⟩ := hcut
    have n5 : ¬ b5 = b6 := Z.out.ne
    have n6 : ¬ b6 = b5 := Z.out.ne.symm
    (try clear x0 x1 x2 x3 x4 x5 x6 x7 x8 x9 y0 y1 y2 y3 y4 y5 y6 y7 y8 y9); obtain ⟨x0, x1, x2, x3, x4, x5, x6, x7, x8, x9⟩ := Z.out.v5.all; obtain ⟨y0, y1, y2, y3, y4, y5, y6, y7, y8, y9⟩ := Z.out.v6.all
    go_upto_region 6 with (first
      | (go_at_call 11; (with_reducible refine (bsame_any p p r3 r4 _ Z.out.p5.pw Z.out.p6.pw HOK.out HOK.out HS.out true (decide_eq_true rfl)).mono ?_); rintro e wn ⟨rfl, hb⟩; replace Z := Lib.hid (Z.out.step hb); clear hb))
    with_reducible refine at_worldP (fun W => Hid (SaV w W b5 b6 p p r3 r4)) Z ?_
    clear Z x0 x1 x2 x3 x4 x5 x6 x7 x8 x9 y0 y1 y2 y3 y4 y5 y6 y7 y8 y9 C H H0 HD hno hno2
    rintro W Z
    have L5 := Lib.hid Z.out.v5.lt
    have L6 := Lib.hid Z.out.v6.lt
    have l6 := Z.out.v6.lt
    obtain ⟨y0, y1, y2, y3, y4, y5, y6, y7, y8, y9⟩ := Z.out.v6.all
    obtain ⟨f0, f1, f2, f3, f4, f5, f6, f7, f8, f9⟩ := Z.out.v6.free
    rcases (show t % 9 = 0 ∨ t % 9 = 1 ∨ t % 9 = 2 ∨ t % 9 = 4 ∨ t % 9 = 5 ∨ t % 9 = 6 ∨ t % 9 = 7 ∨ t % 9 = 8 ∨ t % 9 = 3 by omega) with ht | ht | ht | ht | ht | ht | ht | ht | ht
    · obtain ⟨v, hv⟩ : ∃ v, Hid ((p.proto + 1) % 65536 = v) := ⟨_, Lib.hid rfl⟩
      have u1 : IntKind.u16.wrap ((p.proto : Int) + 1) = (v : Int) := by rw [show IntKind.u16.wrap ((p.proto : Int) + 1) = ((p.proto : Int) + 1) % 65536 from rfl]; have := hv.out; omega
      have NP := Lib.hid (show p ≠ { p with proto := v } from fun e => by
        have e1 : p.proto = v := congrArg Pk.proto e
        have := hv.out
        have := HOK.out.proto
        omega)
      have OK2 := Lib.hid (show ({ p with proto := v } : Pk).ok from { HOK.out with proto := by show v < _; have := hv.out; omega })
      have SM2 := Lib.hid (show ({ p with proto := v } : Pk).sm from sm_more HF.out (by simp <;> omega) (by simp [datB] <;> omega) (by simp <;> omega) (by simp <;> omega) (by simp <;> omega) (by simp <;> omega))
      have s0 : ((t : Int) % 9 == 0) = true := by simp; omega
      have s1 : ((t : Int) % 9 == 1) = false := by simp; omega
      have s2 : ((t : Int) % 9 == 2) = false := by simp; omega
      have s3 : ((t : Int) % 9 == 3) = false := by simp; omega
      have s4 : ((t : Int) % 9 == 4) = false := by simp; omega
      have s5 : ((t : Int) % 9 == 5) = false := by simp; omega
      have s6 : ((t : Int) % 9 == 6) = false := by simp; omega
      have s7 : ((t : Int) % 9 == 7) = false := by simp; omega
      clear ht
      go_upto_region 24 with (fail)
      refine at_worldP (fun V => ∃ y r, Hid (SaV w V b5 b6 p y r3 r) ∧ Hid (y.ok ∧ y.sm ∧ p ≠ y)) ⟨{ p with proto := v }, r4, Lib.hid (Z.out.proto v), Lib.hid ⟨OK2.out, SM2.out, NP.out⟩⟩ ?_
      clear Z OK2 SM2 NP y0 y1 y2 y3 y4 y5 y6 y7 y8 y9 f0 f1 f2 f3 f4 f5 f6 f7 f8 f9
      rintro V ⟨y, r, Z, HY⟩
      obtain ⟨x0, x1, x2, x3, x4, x5, x6, x7, x8, x9⟩ := Z.out.v5.all
      obtain ⟨y0, y1, y2, y3, y4, y5, y6, y7, y8, y9⟩ := Z.out.v6.all
      go_wp2_with (first
        | (go_at_call 11; (with_reducible refine (bsame_any p y r3 r _ Z.out.p5.pw Z.out.p6.pw HOK.out HY.out.1 HS.out false (decide_eq_false HY.out.2.2)).mono ?_); rintro e wn ⟨rfl, hb⟩; replace Z := Lib.hid (Z.out.step hb); clear hb; (try clear x0 x1 x2 x3 x4 x5 x6 x7 x8 x9 y0 y1 y2 y3 y4 y5 y6 y7 y8 y9); obtain ⟨x0, x1, x2, x3, x4, x5, x6, x7, x8, x9⟩ := Z.out.v5.all; obtain ⟨y0, y1, y2, y3, y4, y5, y6, y7, y8, y9⟩ := Z.out.v6.all)
        | (go_at_call 11; (with_reducible refine (bsame_any y p r r3 _ Z.out.p6.pw Z.out.p5.pw HY.out.1 HOK.out HY.out.2.1 false (decide_eq_false HY.out.2.2.symm)).mono ?_); rintro e wn ⟨rfl, hb⟩; replace Z := Lib.hid (Z.out.step hb); clear hb))
      go_ret
      exact ⟨rfl, Z.out.bel⟩
    · obtain ⟨v, hv⟩ : ∃ v, Hid ((p.code + 1) % 256 = v) := ⟨_, Lib.hid rfl⟩
      have u1 : IntKind.u8.wrap ((p.code : Int) + 1) = (v : Int) := by rw [show IntKind.u8.wrap ((p.code : Int) + 1) = ((p.code : Int) + 1) % 256 from rfl]; have := hv.out; omega
      have NP := Lib.hid (show p ≠ { p with code := v } from fun e => by
        have e1 : p.code = v := congrArg Pk.code e
        have := hv.out
        have := HOK.out.code
        omega)
      have OK2 := Lib.hid (show ({ p with code := v } : Pk).ok from { HOK.out with code := by show v < _; have := hv.out; omega })
      have SM2 := Lib.hid (show ({ p with code := v } : Pk).sm from sm_more HF.out (by simp <;> omega) (by simp [datB] <;> omega) (by simp <;> omega) (by simp <;> omega) (by simp <;> omega) (by simp <;> omega))
      have s0 : ((t : Int) % 9 == 0) = false := by simp; omega
      have s1 : ((t : Int) % 9 == 1) = true := by simp; omega
      have s2 : ((t : Int) % 9 == 2) = false := by simp; omega
      have s3 : ((t : Int) % 9 == 3) = false := by simp; omega
      have s4 : ((t : Int) % 9 == 4) = false := by simp; omega
      have s5 : ((t : Int) % 9 == 5) = false := by simp; omega
      have s6 : ((t : Int) % 9 == 6) = false := by simp; omega
      have s7 : ((t : Int) % 9 == 7) = false := by simp; omega
      clear ht
      go_upto_region 24 with (fail)
      refine at_worldP (fun V => ∃ y r, Hid (SaV w V b5 b6 p y r3 r) ∧ Hid (y.ok ∧ y.sm ∧ p ≠ y)) ⟨{ p with code := v }, r4, Lib.hid (Z.out.code v), Lib.hid ⟨OK2.out, SM2.out, NP.out⟩⟩ ?_
      clear Z OK2 SM2 NP y0 y1 y2 y3 y4 y5 y6 y7 y8 y9 f0 f1 f2 f3 f4 f5 f6 f7 f8 f9
      rintro V ⟨y, r, Z, HY⟩
      obtain ⟨x0, x1, x2, x3, x4, x5, x6, x7, x8, x9⟩ := Z.out.v5.all
      obtain ⟨y0, y1, y2, y3, y4, y5, y6, y7, y8, y9⟩ := Z.out.v6.all
      go_wp2_with (first
        | (go_at_call 11; (with_reducible refine (bsame_any p y r3 r _ Z.out.p5.pw Z.out.p6.pw HOK.out HY.out.1 HS.out false (decide_eq_false HY.out.2.2)).mono ?_); rintro e wn ⟨rfl, hb⟩; replace Z := Lib.hid (Z.out.step hb); clear hb; (try clear x0 x1 x2 x3 x4 x5 x6 x7 x8 x9 y0 y1 y2 y3 y4 y5 y6 y7 y8 y9); obtain ⟨x0, x1, x2, x3, x4, x5, x6, x7, x8, x9⟩ := Z.out.v5.all; obtain ⟨y0, y1, y2, y3, y4, y5, y6, y7, y8, y9⟩ := Z.out.v6.all)
        | (go_at_call 11; (with_reducible refine (bsame_any y p r r3 _ Z.out.p6.pw Z.out.p5.pw HY.out.1 HOK.out HY.out.2.1 false (decide_eq_false HY.out.2.2.symm)).mono ?_); rintro e wn ⟨rfl, hb⟩; replace Z := Lib.hid (Z.out.step hb); clear hb))
      go_ret
      exact ⟨rfl, Z.out.bel⟩
    · obtain ⟨v, hv⟩ : ∃ v, Hid ((p.id + 1) % 256 = v) := ⟨_, Lib.hid rfl⟩
      have u1 : IntKind.u8.wrap ((p.id : Int) + 1) = (v : Int) := by rw [show IntKind.u8.wrap ((p.id : Int) + 1) = ((p.id : Int) + 1) % 256 from rfl]; have := hv.out; omega
      have NP := Lib.hid (show p ≠ { p with id := v } from fun e => by
        have e1 : p.id = v := congrArg Pk.id e
        have := hv.out
        have := HOK.out.id
        omega)
      have OK2 := Lib.hid (show ({ p with id := v } : Pk).ok from { HOK.out with id := by show v < _; have := hv.out; omega })
      have SM2 := Lib.hid (show ({ p with id := v } : Pk).sm from sm_more HF.out (by simp <;> omega) (by simp [datB] <;> omega) (by simp <;> omega) (by simp <;> omega) (by simp <;> omega) (by simp <;> omega))
      have s0 : ((t : Int) % 9 == 0) = false := by simp; omega
      have s1 : ((t : Int) % 9 == 1) = false := by simp; omega
      have s2 : ((t : Int) % 9 == 2) = true := by simp; omega
      have s3 : ((t : Int) % 9 == 3) = false := by simp; omega
      have s4 : ((t : Int) % 9 == 4) = false := by simp; omega
      have s5 : ((t : Int) % 9 == 5) = false := by simp; omega
      have s6 : ((t : Int) % 9 == 6) = false := by simp; omega
      have s7 : ((t : Int) % 9 == 7) = false := by simp; omega
      clear ht
      go_upto_region 24 with (fail)
      refine at_worldP (fun V => ∃ y r, Hid (SaV w V b5 b6 p y r3 r) ∧ Hid (y.ok ∧ y.sm ∧ p ≠ y)) ⟨{ p with id := v }, r4, Lib.hid (Z.out.id v), Lib.hid ⟨OK2.out, SM2.out, NP.out⟩⟩ ?_
      clear Z OK2 SM2 NP y0 y1 y2 y3 y4 y5 y6 y7 y8 y9 f0 f1 f2 f3 f4 f5 f6 f7 f8 f9
      rintro V ⟨y, r, Z, HY⟩
      obtain ⟨x0, x1, x2, x3, x4, x5, x6, x7, x8, x9⟩ := Z.out.v5.all
      obtain ⟨y0, y1, y2, y3, y4, y5, y6, y7, y8, y9⟩ := Z.out.v6.all
      go_wp2_with (first
        | (go_at_call 11; (with_reducible refine (bsame_any p y r3 r _ Z.out.p5.pw Z.out.p6.pw HOK.out HY.out.1 HS.out false (decide_eq_false HY.out.2.2)).mono ?_); rintro e wn ⟨rfl, hb⟩; replace Z := Lib.hid (Z.out.step hb); clear hb; (try clear x0 x1 x2 x3 x4 x5 x6 x7 x8 x9 y0 y1 y2 y3 y4 y5 y6 y7 y8 y9); obtain ⟨x0, x1, x2, x3, x4, x5, x6, x7, x8, x9⟩ := Z.out.v5.all; obtain ⟨y0, y1, y2, y3, y4, y5, y6, y7, y8, y9⟩ := Z.out.v6.all)
        | (go_at_call 11; (with_reducible refine (bsame_any y p r r3 _ Z.out.p6.pw Z.out.p5.pw HY.out.1 HOK.out HY.out.2.1 false (decide_eq_false HY.out.2.2.symm)).mono ?_); rintro e wn ⟨rfl, hb⟩; replace Z := Lib.hid (Z.out.step hb); clear hb))
      go_ret
      exact ⟨rfl, Z.out.bel⟩
    · obtain ⟨v, hv⟩ : ∃ v, Hid ((p.sub + 1) % 65536 = v) := ⟨_, Lib.hid rfl⟩
      have u1 : IntKind.u16.wrap ((p.sub : Int) + 1) = (v : Int) := by rw [show IntKind.u16.wrap ((p.sub : Int) + 1) = ((p.sub : Int) + 1) % 65536 from rfl]; have := hv.out; omega
      have NP := Lib.hid (show p ≠ { p with sub := v } from fun e => by
        have e1 : p.sub = v := congrArg Pk.sub e
        have := hv.out
        have := HOK.out.sub
        omega)
      have OK2 := Lib.hid (show ({ p with sub := v } : Pk).ok from { HOK.out with sub := by show v < _; have := hv.out; omega })
      have SM2 := Lib.hid (show ({ p with sub := v } : Pk).sm from sm_more HF.out (by simp <;> omega) (by simp [datB] <;> omega) (by simp <;> omega) (by simp <;> omega) (by simp <;> omega) (by simp <;> omega))
      have s0 : ((t : Int) % 9 == 0) = false := by simp; omega
      have s1 : ((t : Int) % 9 == 1) = false := by simp; omega
      have s2 : ((t : Int) % 9 == 2) = false := by simp; omega
      have s3 : ((t : Int) % 9 == 3) = false := by simp; omega
      have s4 : ((t : Int) % 9 == 4) = true := by simp; omega
      have s5 : ((t : Int) % 9 == 5) = false := by simp; omega
      have s6 : ((t : Int) % 9 == 6) = false := by simp; omega
      have s7 : ((t : Int) % 9 == 7) = false := by simp; omega
      clear ht
      go_upto_region 24 with (fail)
      refine at_worldP (fun V => ∃ y r, Hid (SaV w V b5 b6 p y r3 r) ∧ Hid (y.ok ∧ y.sm ∧ p ≠ y)) ⟨{ p with sub := v }, r4, Lib.hid (Z.out.sub v), Lib.hid ⟨OK2.out, SM2.out, NP.out⟩⟩ ?_
      clear Z OK2 SM2 NP y0 y1 y2 y3 y4 y5 y6 y7 y8 y9 f0 f1 f2 f3 f4 f5 f6 f7 f8 f9
      rintro V ⟨y, r, Z, HY⟩
      obtain ⟨x0, x1, x2, x3, x4, x5, x6, x7, x8, x9⟩ := Z.out.v5.all
      obtain ⟨y0, y1, y2, y3, y4, y5, y6, y7, y8, y9⟩ := Z.out.v6.all
      go_wp2_with (first
        | (go_at_call 11; (with_reducible refine (bsame_any p y r3 r _ Z.out.p5.pw Z.out.p6.pw HOK.out HY.out.1 HS.out false (decide_eq_false HY.out.2.2)).mono ?_); rintro e wn ⟨rfl, hb⟩; replace Z := Lib.hid (Z.out.step hb); clear hb; (try clear x0 x1 x2 x3 x4 x5 x6 x7 x8 x9 y0 y1 y2 y3 y4 y5 y6 y7 y8 y9); obtain ⟨x0, x1, x2, x3, x4, x5, x6, x7, x8, x9⟩ := Z.out.v5.all; obtain ⟨y0, y1, y2, y3, y4, y5, y6, y7, y8, y9⟩ := Z.out.v6.all)
        | (go_at_call 11; (with_reducible refine (bsame_any y p r r3 _ Z.out.p6.pw Z.out.p5.pw HY.out.1 HOK.out HY.out.2.1 false (decide_eq_false HY.out.2.2.symm)).mono ?_); rintro e wn ⟨rfl, hb⟩; replace Z := Lib.hid (Z.out.step hb); clear hb))
      go_ret
      exact ⟨rfl, Z.out.bel⟩
    · obtain ⟨v, hv⟩ : ∃ v, Hid ((p.magic + 1) % 4294967296 = v) := ⟨_, Lib.hid rfl⟩
      have u1 : IntKind.u32.wrap ((p.magic : Int) + 1) = (v : Int) := by rw [show IntKind.u32.wrap ((p.magic : Int) + 1) = ((p.magic : Int) + 1) % 4294967296 from rfl]; have := hv.out; omega
      have NP := Lib.hid (show p ≠ { p with magic := v } from fun e => by
        have e1 : p.magic = v := congrArg Pk.magic e
        have := hv.out
        have := HOK.out.magic
        omega)
      have OK2 := Lib.hid (show ({ p with magic := v } : Pk).ok from { HOK.out with magic := by show v < _; have := hv.out; omega })
      have SM2 := Lib.hid (show ({ p with magic := v } : Pk).sm from sm_more HF.out (by simp <;> omega) (by simp [datB] <;> omega) (by simp <;> omega) (by simp <;> omega) (by simp <;> omega) (by simp <;> omega))
      have s0 : ((t : Int) % 9 == 0) = false := by simp; omega
      have s1 : ((t : Int) % 9 == 1) = false := by simp; omega
      have s2 : ((t : Int) % 9 == 2) = false := by simp; omega
      have s3 : ((t : Int) % 9 == 3) = false := by simp; omega
      have s4 : ((t : Int) % 9 == 4) = false := by simp; omega
      have s5 : ((t : Int) % 9 == 5) = true := by simp; omega
      have s6 : ((t : Int) % 9 == 6) = false := by simp; omega
      have s7 : ((t : Int) % 9 == 7) = false := by simp; omega
      clear ht
      go_upto_region 24 with (fail)
      refine at_worldP (fun V => ∃ y r, Hid (SaV w V b5 b6 p y r3 r) ∧ Hid (y.ok ∧ y.sm ∧ p ≠ y)) ⟨{ p with magic := v }, r4, Lib.hid (Z.out.magic v), Lib.hid ⟨OK2.out, SM2.out, NP.out⟩⟩ ?_
      clear Z OK2 SM2 NP y0 y1 y2 y3 y4 y5 y6 y7 y8 y9 f0 f1 f2 f3 f4 f5 f6 f7 f8 f9
      rintro V ⟨y, r, Z, HY⟩
      obtain ⟨x0, x1, x2, x3, x4, x5, x6, x7, x8, x9⟩ := Z.out.v5.all
      obtain ⟨y0, y1, y2, y3, y4, y5, y6, y7, y8, y9⟩ := Z.out.v6.all
      go_wp2_with (first
        | (go_at_call 11; (with_reducible refine (bsame_any p y r3 r _ Z.out.p5.pw Z.out.p6.pw HOK.out HY.out.1 HS.out false (decide_eq_false HY.out.2.2)).mono ?_); rintro e wn ⟨rfl, hb⟩; replace Z := Lib.hid (Z.out.step hb); clear hb; (try clear x0 x1 x2 x3 x4 x5 x6 x7 x8 x9 y0 y1 y2 y3 y4 y5 y6 y7 y8 y9); obtain ⟨x0, x1, x2, x3, x4, x5, x6, x7, x8, x9⟩ := Z.out.v5.all; obtain ⟨y0, y1, y2, y3, y4, y5, y6, y7, y8, y9⟩ := Z.out.v6.all)
        | (go_at_call 11; (with_reducible refine (bsame_any y p r r3 _ Z.out.p6.pw Z.out.p5.pw HY.out.1 HOK.out HY.out.2.1 false (decide_eq_false HY.out.2.2.symm)).mono ?_); rintro e wn ⟨rfl, hb⟩; replace Z := Lib.hid (Z.out.step hb); clear hb))
      go_ret
      exact ⟨rfl, Z.out.bel⟩
    · have NP := Lib.hid (show p ≠ { p with one := [1] ++ p.one } from fun e => by
        have e1 : p.one.length = ([1] ++ p.one).length := congrArg (fun x => x.one.length) e
        simp at e1)
      have OK2 := Lib.hid (show ({ p with one := [1] ++ p.one } : Pk).ok from { HOK.out with one := By.app (by intro x hx; simp at hx; omega) HOK.out.one })
      obtain ⟨i0, hi0, hz0, hz1, hz2⟩ := info_parts byte_info
      have SM2 := Lib.hid (show ({ p with one := [1] ++ p.one } : Pk).sm from sm_more HF.out (by simp <;> omega) (by simp [datB] <;> omega) (by simp <;> omega) (by simp <;> omega) (by simp <;> omega) (by simp <;> omega))
      have s0 : ((t : Int) % 9 == 0) = false := by simp; omega
      have s1 : ((t : Int) % 9 == 1) = false := by simp; omega
      have s2 : ((t : Int) % 9 == 2) = false := by simp; omega
      have s3 : ((t : Int) % 9 == 3) = false := by simp; omega
      have s4 : ((t : Int) % 9 == 4) = false := by simp; omega
      have s5 : ((t : Int) % 9 == 5) = false := by simp; omega
      have s6 : ((t : Int) % 9 == 6) = true := by simp; omega
      have s7 : ((t : Int) % 9 == 7) = false := by simp; omega
      clear ht
      have OX := Lib.hid (show (W.alloc (.cells #[.int .u8 1] 5)).ownsRow W.heap.size 5 1 (.slice (some ⟨W.heap.size, 0, none⟩) 1 1) 1 (bvs [1]) from World.ownsRow_lit W #[.int .u8 1] 1 (Nat.le_refl _) (by unfold maxLen; omega) rfl)
      have BX := Lib.hid ((Below.refl W.heap.size W).alloc (Nat.le_refl _) (.cells #[.int .u8 1] 5))
      have SN := Lib.hid (show r4.n1 ≤ 1073741824 by rw [← Z.out.p6.l1]; exact HS.out.n1)
      go_upto_region 24 with ((at_builtin; refine list_app rfl _ _ _ rfl _ i0 Try.underlying25 hi0 hz0 hz1 hz2 W.heap.size _ 1 [1] rfl OX.out _ _ r4.n1 _ p.one rfl (Z.out.p6.keep (.of_below BX.out)).r1.rd Z.out.p6.l1 (by have := SN.out; omega) BX.out.size ?_; intro A7 c7 w7 h7 hg7; have O7 := Lib.hid h7; replace Z := Lib.hid (Z.out.step (app_below BX.out (Nat.le_refl _) OX.out hg7)); clear h7 hg7; obtain ⟨y0, y1, y2, y3, y4, y5, y6, y7, y8, y9⟩ := Z.out.v6.all; obtain ⟨f0, f1, f2, f3, f4, f5, f6, f7, f8, f9⟩ := Z.out.v6.free))
      refine at_worldP (fun V => ∃ y r, Hid (SaV w V b5 b6 p y r3 r) ∧ Hid (y.ok ∧ y.sm ∧ p ≠ y)) ⟨{ p with one := [1] ++ p.one }, { r4 with a1 := A7, n1 := 1 + r4.n1, c1 := c7 }, Lib.hid (Z.out.one (by rw [List.length_append, Z.out.p6.l1]; rfl) (own_cap O7.out) ((RdF.own O7.out).mono (fun i _ hi => ⟨Nat.ne_of_gt (Nat.lt_of_lt_of_le L5.out hi), Nat.ne_of_gt (Nat.lt_of_lt_of_le L6.out hi)⟩))), Lib.hid ⟨OK2.out, SM2.out, NP.out⟩⟩ ?_
      clear Z OK2 SM2 NP y0 y1 y2 y3 y4 y5 y6 y7 y8 y9 f0 f1 f2 f3 f4 f5 f6 f7 f8 f9
      rintro V ⟨y, r, Z, HY⟩
      obtain ⟨x0, x1, x2, x3, x4, x5, x6, x7, x8, x9⟩ := Z.out.v5.all
      obtain ⟨y0, y1, y2, y3, y4, y5, y6, y7, y8, y9⟩ := Z.out.v6.all
      go_wp2_with (first
        | (go_at_call 11; (with_reducible refine (bsame_any p y r3 r _ Z.out.p5.pw Z.out.p6.pw HOK.out HY.out.1 HS.out false (decide_eq_false HY.out.2.2)).mono ?_); rintro e wn ⟨rfl, hb⟩; replace Z := Lib.hid (Z.out.step hb); clear hb; (try clear x0 x1 x2 x3 x4 x5 x6 x7 x8 x9 y0 y1 y2 y3 y4 y5 y6 y7 y8 y9); obtain ⟨x0, x1, x2, x3, x4, x5, x6, x7, x8, x9⟩ := Z.out.v5.all; obtain ⟨y0, y1, y2, y3, y4, y5, y6, y7, y8, y9⟩ := Z.out.v6.all)
        | (go_at_call 11; (with_reducible refine (bsame_any y p r r3 _ Z.out.p6.pw Z.out.p5.pw HY.out.1 HOK.out HY.out.2.1 false (decide_eq_false HY.out.2.2.symm)).mono ?_); rintro e wn ⟨rfl, hb⟩; replace Z := Lib.hid (Z.out.step hb); clear hb))
      go_ret
      exact ⟨rfl, Z.out.bel⟩
    · have NP := Lib.hid (show p ≠ { p with data := [1] ++ p.data } from fun e => by
        have e1 : p.data.length = ([1] ++ p.data).length := congrArg (fun x => x.data.length) e
        simp at e1)
      have OK2 := Lib.hid (show ({ p with data := [1] ++ p.data } : Pk).ok from { HOK.out with data := By.app (by intro x hx; simp at hx; omega) HOK.out.data })
      obtain ⟨i0, hi0, hz0, hz1, hz2⟩ := info_parts byte_info
      have SM2 := Lib.hid (show ({ p with data := [1] ++ p.data } : Pk).sm from sm_more HF.out (by simp <;> omega) (by simp [datB] <;> omega) (by simp <;> omega) (by simp <;> omega) (by simp <;> omega) (by simp <;> omega))
      have s0 : ((t : Int) % 9 == 0) = false := by simp; omega
      have s1 : ((t : Int) % 9 == 1) = false := by simp; omega
      have s2 : ((t : Int) % 9 == 2) = false := by simp; omega
      have s3 : ((t : Int) % 9 == 3) = false := by simp; omega
      have s4 : ((t : Int) % 9 == 4) = false := by simp; omega
      have s5 : ((t : Int) % 9 == 5) = false := by simp; omega
      have s6 : ((t : Int) % 9 == 6) = false := by simp; omega
      have s7 : ((t : Int) % 9 == 7) = true := by simp; omega
      clear ht
      have OX := Lib.hid (show (W.alloc (.cells #[.int .u8 1] 5)).ownsRow W.heap.size 5 1 (.slice (some ⟨W.heap.size, 0, none⟩) 1 1) 1 (bvs [1]) from World.ownsRow_lit W #[.int .u8 1] 1 (Nat.le_refl _) (by unfold maxLen; omega) rfl)
      have BX := Lib.hid ((Below.refl W.heap.size W).alloc (Nat.le_refl _) (.cells #[.int .u8 1] 5))
      have SN := Lib.hid (show r4.nd ≤ 1073741824 by rw [← Z.out.p6.ld]; exact HS.out.nd)
      go_upto_region 24 with ((at_builtin; refine list_app rfl _ _ _ rfl _ i0 Try.underlying25 hi0 hz0 hz1 hz2 W.heap.size _ 1 [1] rfl OX.out _ _ r4.nd _ p.data rfl (Z.out.p6.keep (.of_below BX.out)).rd.rd Z.out.p6.ld (by have := SN.out; omega) BX.out.size ?_; intro A7 c7 w7 h7 hg7; have O7 := Lib.hid h7; replace Z := Lib.hid (Z.out.step (app_below BX.out (Nat.le_refl _) OX.out hg7)); clear h7 hg7; obtain ⟨y0, y1, y2, y3, y4, y5, y6, y7, y8, y9⟩ := Z.out.v6.all; obtain ⟨f0, f1, f2, f3, f4, f5, f6, f7, f8, f9⟩ := Z.out.v6.free))
      refine at_worldP (fun V => ∃ y r, Hid (SaV w V b5 b6 p y r3 r) ∧ Hid (y.ok ∧ y.sm ∧ p ≠ y)) ⟨{ p with data := [1] ++ p.data }, { r4 with ad := A7, nd := 1 + r4.nd, cd := c7 }, Lib.hid (Z.out.data (by rw [List.length_append, Z.out.p6.ld]; rfl) (own_cap O7.out) ((RdF.own O7.out).mono (fun i _ hi => ⟨Nat.ne_of_gt (Nat.lt_of_lt_of_le L5.out hi), Nat.ne_of_gt (Nat.lt_of_lt_of_le L6.out hi)⟩))), Lib.hid ⟨OK2.out, SM2.out, NP.out⟩⟩ ?_
      clear Z OK2 SM2 NP y0 y1 y2 y3 y4 y5 y6 y7 y8 y9 f0 f1 f2 f3 f4 f5 f6 f7 f8 f9
      rintro V ⟨y, r, Z, HY⟩
      obtain ⟨x0, x1, x2, x3, x4, x5, x6, x7, x8, x9⟩ := Z.out.v5.all
      obtain ⟨y0, y1, y2, y3, y4, y5, y6, y7, y8, y9⟩ := Z.out.v6.all
      go_wp2_with (first
        | (go_at_call 11; (with_reducible refine (bsame_any p y r3 r _ Z.out.p5.pw Z.out.p6.pw HOK.out HY.out.1 HS.out false (decide_eq_false HY.out.2.2)).mono ?_); rintro e wn ⟨rfl, hb⟩; replace Z := Lib.hid (Z.out.step hb); clear hb; (try clear x0 x1 x2 x3 x4 x5 x6 x7 x8 x9 y0 y1 y2 y3 y4 y5 y6 y7 y8 y9); obtain ⟨x0, x1, x2, x3, x4, x5, x6, x7, x8, x9⟩ := Z.out.v5.all; obtain ⟨y0, y1, y2, y3, y4, y5, y6, y7, y8, y9⟩ := Z.out.v6.all)
        | (go_at_call 11; (with_reducible refine (bsame_any y p r r3 _ Z.out.p6.pw Z.out.p5.pw HY.out.1 HOK.out HY.out.2.1 false (decide_eq_false HY.out.2.2.symm)).mono ?_); rintro e wn ⟨rfl, hb⟩; replace Z := Lib.hid (Z.out.step hb); clear hb))
      go_ret
      exact ⟨rfl, Z.out.bel⟩
    · have NP := Lib.hid (show p ≠ { p with nums := [1] ++ p.nums } from fun e => by
        have e1 : p.nums.length = ([1] ++ p.nums).length := congrArg (fun x => x.nums.length) e
        simp at e1)
      have OK2 := Lib.hid (show ({ p with nums := [1] ++ p.nums } : Pk).ok from { HOK.out with nums := by intro x hx; rcases List.mem_append.1 hx with h1 | h1; (· simp at h1; omega); exact HOK.out.nums x h1 })
      obtain ⟨i0, hi0, hz0, hz1, hz2⟩ := info_parts word_info
      have SM2 := Lib.hid (show ({ p with nums := [1] ++ p.nums } : Pk).sm from sm_more HF.out (by simp <;> omega) (by simp [datB] <;> omega) (by simp <;> omega) (by simp <;> omega) (by simp <;> omega) (by simp <;> omega))
      have s0 : ((t : Int) % 9 == 0) = false := by simp; omega
      have s1 : ((t : Int) % 9 == 1) = false := by simp; omega
      have s2 : ((t : Int) % 9 == 2) = false := by simp; omega
      have s3 : ((t : Int) % 9 == 3) = false := by simp; omega
      have s4 : ((t : Int) % 9 == 4) = false := by simp; omega
      have s5 : ((t : Int) % 9 == 5) = false := by simp; omega
      have s6 : ((t : Int) % 9 == 6) = false := by simp; omega
      have s7 : ((t : Int) % 9 == 7) = false := by simp; omega
      clear ht
      have OX := Lib.hid (show Orw shN 24 (fun _ => True) W.heap.size (W.alloc (.cells #[.int .u32 1] 24)) (.slice (some ⟨W.heap.size, 0, none⟩) 1 1) [1] from litnO W 1)
      have GN := Lib.hid (show ∀ i, i < (W.alloc (.cells #[.int .u32 1] 24)).heap.size → i < W.heap.size → True ∧ (Value.slice (some ⟨W.heap.size, 0, none⟩) 1 1).ownBlock ≠ some i from fun i _ hi => ⟨trivial, fun e => absurd (show some W.heap.size = some i from e) (fun h => by injection h with h; omega)⟩)
      have BX := Lib.hid ((Below.refl W.heap.size W).alloc (Nat.le_refl _) (.cells #[.int .u32 1] 24))
      have SN := Lib.hid (show r4.nn ≤ 1073741824 by rw [← Z.out.p6.ln]; exact HS.out.nn)
      have LTN := Lib.hid (show Rws shN (fun i => i < W.heap.size) W r4.an p.nums from Z.out.p6.rn.mono (fun i hi _ => hi))
      go_upto_region 24 with ((at_builtin; refine list_rows shN rfl _ _ _ rfl 24 i0 (.int .u32 0) 4 Try.underlying26 hi0 hz0 hz1 hz2 rfl (by decide) (fun _ => True) (fun i => i < W.heap.size) W.heap.size _ 1 [1] rfl OX.out rfl _ r4.nn _ p.nums rfl (LTN.out.below BX.out) Z.out.p6.ln GN.out (by unfold maxLen; have := SN.out; omega) (by have := SN.out; omega) BX.out.size ?_; intro v7 w7 h7 hg7 hm7; clear hm7; obtain ⟨A7, c7, e7, _, _⟩ := h7.shape; subst e7; rw [List.length_append, Z.out.p6.ln] at h7 ⊢; have O7 := Lib.hid h7; replace Z := Lib.hid (Z.out.step (BX.out.grown hg7 BX.out.size (fun k hk => (OX.out.lt hk).1))); clear h7 hg7; obtain ⟨y0, y1, y2, y3, y4, y5, y6, y7, y8, y9⟩ := Z.out.v6.all; obtain ⟨f0, f1, f2, f3, f4, f5, f6, f7, f8, f9⟩ := Z.out.v6.free))
      refine at_worldP (fun V => ∃ y r, Hid (SaV w V b5 b6 p y r3 r) ∧ Hid (y.ok ∧ y.sm ∧ p ≠ y)) ⟨{ p with nums := [1] ++ p.nums }, { r4 with an := A7, nn := 1 + r4.nn, cn := c7 }, Lib.hid (Z.out.nums (by rw [List.length_append, Z.out.p6.ln]; rfl) ((orwN_rd O7.out).mono (fun i _ hi => ⟨Nat.ne_of_gt (Nat.lt_of_lt_of_le L5.out hi), Nat.ne_of_gt (Nat.lt_of_lt_of_le L6.out hi)⟩))), Lib.hid ⟨OK2.out, SM2.out, NP.out⟩⟩ ?_
      clear Z OK2 SM2 NP y0 y1 y2 y3 y4 y5 y6 y7 y8 y9 f0 f1 f2 f3 f4 f5 f6 f7 f8 f9
      rintro V ⟨y, r, Z, HY⟩
      obtain ⟨x0, x1, x2, x3, x4, x5, x6, x7, x8, x9⟩ := Z.out.v5.all
      obtain ⟨y0, y1, y2, y3, y4, y5, y6, y7, y8, y9⟩ := Z.out.v6.all
      go_wp2_with (first
        | (go_at_call 11; (with_reducible refine (bsame_any p y r3 r _ Z.out.p5.pw Z.out.p6.pw HOK.out HY.out.1 HS.out false (decide_eq_false HY.out.2.2)).mono ?_); rintro e wn ⟨rfl, hb⟩; replace Z := Lib.hid (Z.out.step hb); clear hb; (try clear x0 x1 x2 x3 x4 x5 x6 x7 x8 x9 y0 y1 y2 y3 y4 y5 y6 y7 y8 y9); obtain ⟨x0, x1, x2, x3, x4, x5, x6, x7, x8, x9⟩ := Z.out.v5.all; obtain ⟨y0, y1, y2, y3, y4, y5, y6, y7, y8, y9⟩ := Z.out.v6.all)
        | (go_at_call 11; (with_reducible refine (bsame_any y p r r3 _ Z.out.p6.pw Z.out.p5.pw HY.out.1 HOK.out HY.out.2.1 false (decide_eq_false HY.out.2.2.symm)).mono ?_); rintro e wn ⟨rfl, hb⟩; replace Z := Lib.hid (Z.out.step hb); clear hb))
      go_ret
      exact ⟨rfl, Z.out.bel⟩
    · have NP := Lib.hid (show p ≠ { p with opts := [(0, [])] ++ p.opts } from fun e => by
        have e1 : p.opts.length = ([((0 : Nat), ([] : List Nat))] ++ p.opts).length := congrArg (fun x => x.opts.length) e
        simp at e1)
      have OK2 := Lib.hid (show ({ p with opts := [(0, [])] ++ p.opts } : Pk).ok from { HOK.out with opts := by intro x hx; rcases List.mem_append.1 hx with h1 | h1; (· simp at h1; subst h1; exact ⟨by show 0 < 256; omega, By.nil⟩); exact HOK.out.opts x h1 })
      obtain ⟨i0, hi0, hz0, hz1, hz2⟩ := info_parts opt_info
      have SM2 := Lib.hid (show ({ p with opts := [(0, [])] ++ p.opts } : Pk).sm from sm_more HF.out (by simp <;> omega) (by simp [datB] <;> omega) (by simp <;> omega) (by simp <;> omega) (by simp <;> omega) (by simp <;> omega))
      have s0 : ((t : Int) % 9 == 0) = false := by simp; omega
      have s1 : ((t : Int) % 9 == 1) = false := by simp; omega
      have s2 : ((t : Int) % 9 == 2) = false := by simp; omega
      have s3 : ((t : Int) % 9 == 3) = true := by simp; omega
      have s4 : ((t : Int) % 9 == 4) = false := by simp; omega
      have s5 : ((t : Int) % 9 == 5) = false := by simp; omega
      have s6 : ((t : Int) % 9 == 6) = false := by simp; omega
      have s7 : ((t : Int) % 9 == 7) = false := by simp; omega
      clear ht
      have OX := Lib.hid (show Orw shO 50 (fun i => i ≠ b5 ∧ i ≠ b6) W.heap.size (W.alloc (.cells #[.int .u8 0, .slice none 0 0] 50)) (.slice (some ⟨W.heap.size, 0, none⟩) 1 1) [(0, [])] from lito (F := (fun i => i ≠ b5 ∧ i ≠ b6)) W (T := 50) (A := none) (n := 0) (c := 0) (t := 0) (l := []) rfl (Nat.le_refl _) RdF.nil)
      have GN := Lib.hid (show ∀ i, i < (W.alloc (.cells #[.int .u8 0, .slice none 0 0] 50)).heap.size → (i ≠ b5 ∧ i ≠ b6) ∧ i < W.heap.size → (i ≠ b5 ∧ i ≠ b6) ∧ (Value.slice (some ⟨W.heap.size, 0, none⟩) 1 1).ownBlock ≠ some i from fun i _ hi => ⟨hi.1, fun e => absurd (show some W.heap.size = some i from e) (fun h => by injection h with h; have := hi.2; omega)⟩)
      have BX := Lib.hid ((Below.refl W.heap.size W).alloc (Nat.le_refl _) (.cells #[.int .u8 0, .slice none 0 0] 50))
      have SN := Lib.hid (show r4.no ≤ 1073741824 by rw [← Z.out.p6.lo]; exact HS.out.o)
      have LTN := Lib.hid (show Rws shO (fun i => (i ≠ b5 ∧ i ≠ b6) ∧ i < W.heap.size) W r4.ao p.opts from Z.out.p6.ro.mono (fun i hi hf => ⟨hf, hi⟩))
      go_upto_region 24 with ((at_builtin; refine list_rows shO rfl _ _ _ rfl 50 i0 (.agg #[.int .u8 0, .slice none 0 0]) 32 Try.underlying34 hi0 hz0 hz1 hz2 rfl (by decide) (fun i => i ≠ b5 ∧ i ≠ b6) (fun i => (i ≠ b5 ∧ i ≠ b6) ∧ i < W.heap.size) W.heap.size _ 1 [(0, [])] rfl OX.out rfl _ r4.no _ p.opts rfl (LTN.out.below BX.out) Z.out.p6.lo GN.out (by unfold maxLen; have := SN.out; omega) (by have := SN.out; omega) BX.out.size ?_; intro v7 w7 h7 hg7 hm7; clear hm7; obtain ⟨A7, c7, e7, _, _⟩ := h7.shape; subst e7; rw [List.length_append, Z.out.p6.lo] at h7 ⊢; have O7 := Lib.hid h7; replace Z := Lib.hid (Z.out.step (BX.out.grown hg7 BX.out.size (fun k hk => (OX.out.lt hk).1))); clear h7 hg7; obtain ⟨y0, y1, y2, y3, y4, y5, y6, y7, y8, y9⟩ := Z.out.v6.all; obtain ⟨f0, f1, f2, f3, f4, f5, f6, f7, f8, f9⟩ := Z.out.v6.free))
      refine at_worldP (fun V => ∃ y r, Hid (SaV w V b5 b6 p y r3 r) ∧ Hid (y.ok ∧ y.sm ∧ p ≠ y)) ⟨{ p with opts := [(0, [])] ++ p.opts }, { r4 with ao := A7, no := 1 + r4.no, co := c7 }, Lib.hid (Z.out.opts (by rw [List.length_append, Z.out.p6.lo]; rfl) (O7.out.read.mono (fun i _ hi => hi.elim id (fun hi => ⟨Nat.ne_of_gt (Nat.lt_of_lt_of_le L5.out hi), Nat.ne_of_gt (Nat.lt_of_lt_of_le L6.out hi)⟩)))), Lib.hid ⟨OK2.out, SM2.out, NP.out⟩⟩ ?_
      clear Z OK2 SM2 NP y0 y1 y2 y3 y4 y5 y6 y7 y8 y9 f0 f1 f2 f3 f4 f5 f6 f7 f8 f9
      rintro V ⟨y, r, Z, HY⟩
      obtain ⟨x0, x1, x2, x3, x4, x5, x6, x7, x8, x9⟩ := Z.out.v5.all
      obtain ⟨y0, y1, y2, y3, y4, y5, y6, y7, y8, y9⟩ := Z.out.v6.all
      go_wp2_with (first
        | (go_at_call 11; (with_reducible refine (bsame_any p y r3 r _ Z.out.p5.pw Z.out.p6.pw HOK.out HY.out.1 HS.out false (decide_eq_false HY.out.2.2)).mono ?_); rintro e wn ⟨rfl, hb⟩; replace Z := Lib.hid (Z.out.step hb); clear hb; (try clear x0 x1 x2 x3 x4 x5 x6 x7 x8 x9 y0 y1 y2 y3 y4 y5 y6 y7 y8 y9); obtain ⟨x0, x1, x2, x3, x4, x5, x6, x7, x8, x9⟩ := Z.out.v5.all; obtain ⟨y0, y1, y2, y3, y4, y5, y6, y7, y8, y9⟩ := Z.out.v6.all)
        | (go_at_call 11; (with_reducible refine (bsame_any y p r r3 _ Z.out.p6.pw Z.out.p5.pw HY.out.1 HOK.out HY.out.2.1 false (decide_eq_false HY.out.2.2.symm)).mono ?_); rintro e wn ⟨rfl, hb⟩; replace Z := Lib.hid (Z.out.step hb); clear hb))
      go_ret
      exact ⟨rfl, Z.out.bel⟩

theorem bsm_any (p : Pk) (q : Pl) (t : Nat) (w : World) (h : IsPk w p q) :
    Calls Try.prog 5 #[p.val q, .int .u8 (t : Int)] w fun e w' => e = .returned (.bool true) ∧ Below w.heap.size w w' := by
  cases hf : fewP p
  · exact bsm_few p q t w h hf
  · exact bsm_walk p q t w h hf
end Go.Proofs.Ythebckidjhenlaa
