/-
  Packets that a call answers whose slices lie in blocks that F tells, as its argument does. No condition. What the document's Same answers on any two packets. No condition beyond: at most 2^30 elements in each slice. Of of a packet whose slices lie in blocks that F tells. No condition beyond: at most 2^30 options. What layers 17 and 18 both call: the document's Text; packets with two texts; a constant's octets. No condition beyond: at most 2^38 octets.
-/
import Derived.Test.YtmhjnghomihjlaaGPkt
import Derived.Deep.CutRange
import Derived.Deep.RegionHeld3
import Derived.BigQuiet
import Derived.Test.YtmhjnghomihjlaaGMat
import Derived.Test.YtmhjnghomihjlaaGCtl
namespace Go.Proofs.Ytmhjnghomihjlaa
section
set_option maxRecDepth 4000
open Go.RowKit
set_option linter.unusedVariables false

/-- Of F, and neither of two blocks. -/
def Nf (F : Nat → Prop) (a b i : Nat) : Prop := F i ∧ i ≠ a ∧ i ≠ b
theorem keeps_f1 (F : Nat → Prop) (w : World) (a b j : Nat) (u : Value) : Keeps (Nf F a b) w (w.setCell ⟨b, j, none⟩ u) := (keeps_set w b j u).less (fun _ _ h => h.2.2)
theorem keeps_f2 (F : Nat → Prop) (w : World) (a b : Nat) (p : Pk) (q : Pl) : Keeps (Nf F a b) w (put10 w a p q) := (put10_keeps w a p q).less (fun _ _ h => h.2.1)
theorem GpC.farF {T : TypeId} {w W : World} {g : Nat} {p : Pk} {q : Pl} {F : Nat → Prop} (h : GpC T w W g p q) (hF : ∀ i, w.heap.size ≤ i → F i) : ∀ i, W.heap.size ≤ i → Nf F w.heap.size g i := fun i hi => by
  have h1 := h.cf.lt
  have h2 := h.lt
  exact ⟨hF i (by omega), by omega, by omega⟩
theorem RdF.ltF {F : Nat → Prop} {w : World} {A : Option Addr} {l : List Nat} (h : RdF F w A l) : RdF (fun i => F i ∧ i < w.heap.size) w A l := h.mono (fun _ hb hf => ⟨hf, hb⟩)
/-- What Get answers: a packet whose slices lie in blocks that F tells, and the error's number. -/
def GetF (F : Nat → Prop) (w : World) (x : Pk) (k : Nat) (e : Ending) (w' : World) : Prop := ∃ q, e = .returned (.tuple #[x.val q, .int .i64 (k : Int)]) ∧ PwF F w' x q ∧ Below w.heap.size w w'
theorem GetF.mk {F : Nat → Prop} {w w' : World} {x : Pk} {k : Nat} {e : Ending} (q : Pl) (h1 : e = .returned (.tuple #[x.val q, .int .i64 (k : Int)])) (h2 : PwF F w' x q) (h3 : Below w.heap.size w w') : GetF F w x k e w' := ⟨q, h1, h2, h3⟩
theorem GetF.getR {F : Nat → Prop} {w w' : World} {x : Pk} {k : Nat} {e : Ending} (h : GetF F w x k e w') : GetR w x k e w' := by
  obtain ⟨q, h1, h2, h3⟩ := h
  exact ⟨q, h1, h2.pw, h3⟩
theorem GetN.getF {F : Nat → Prop} {w w' : World} {x : Pk} {k : Nat} {e : Ending} (h : GetN w x k e w') (hF : ∀ i, w.heap.size ≤ i → F i) : GetF F w x k e w' := by
  obtain ⟨q, h1, h2, h3⟩ := h
  exact ⟨q, h1, h2.mono (fun i _ hi => hF i hi), h3⟩
theorem Rd.rdT {w : World} {A : Option Addr} {l : List Nat} (h : Rd w w.heap.size A l) : RdF (fun _ => True) w A l := h.rdF (fun _ _ => trivial) (Nat.le_refl _)
end

section
set_option maxRecDepth 4000
open Go.RowKit
set_option linter.unusedVariables false

/-- What Same knows of the world it stands in. -/
structure SbC (T : TypeId) (w W : World) (p p' : Pk) (q r : Pl) : Prop where
  bel : Below w.heap.size w W
  x : Px W w.heap.size T p q
  y : Px W (w.heap.size + 1) T p' r
section
variable {T : TypeId} {w W X W' : World} {p p' : Pk} {q r : Pl}
theorem SbC.made (T : TypeId) (w : World) (p p' : Pk) (q r : Pl) : SbC T w ((w.alloc (p.obj q T)).alloc (p'.obj r T)) p p' q r := by
  have e1 : (w.alloc (p.obj q T)).heap.size = w.heap.size + 1 := World.size_alloc _ _
  refine ⟨belowP_two w _ _, heap_alloc2_old w _ _, ?_⟩
  have := px_new (w.alloc (p.obj q T)) T p' r
  rw [e1] at this
  exact this
theorem SbC.step (h : SbC T w W p p' q r) (hb : Below X.heap.size X W') (hX : Below W.heap.size W X := by first | exact Below.refl _ _ | exact (Below.refl _ _).drew) : SbC T w W' p p' q r :=
  have hh := hX.trans (hb.mono hX.size)
  ⟨h.bel.trans (hh.mono h.bel.size), h.x.below hh, h.y.below hh⟩
end
theorem equal_q (a b : List Nat) (z : Bool) (hz : decide (a = b) = z) (n m : Nat) (A B : Option Addr) (c d : Nat) (w : World) (ha : Rd w w.heap.size A a) (hb : Rd w w.heap.size B b) (hn : a.length = n) (hm : b.length = m) (hl : n ≤ 1099511627776) :
    Calls Try.prog 8 #[.slice A n c, .slice B m d] w fun e w' => e = .returned (.bool z) ∧ Below w.heap.size w w' := hz ▸ equal_c a b n m A B c d w ha hb hn hm hl
/-- The fields that have no slices, and how many numbers there are. -/
def headB (p p' : Pk) : Prop := p.proto = p'.proto ∧ p.code = p'.code ∧ p.id = p'.id ∧ p.sub = p'.sub ∧ p.magic = p'.magic ∧ p.nums.length = p'.nums.length
theorem same_all {p p' : Pk} (h : headB p p') (hn : p.nums = p'.nums) : decide (p = p') = (decide (p.opts = p'.opts) && (decide (p.one = p'.one) && (decide (p.two = p'.two) && decide (p.data = p'.data)))) := by
  obtain ⟨h1, h2, h3, h4, h5, -⟩ := h
  obtain ⟨a1, a2, a3, a4, a5, a6, a7, a8, a9, a10⟩ := p
  obtain ⟨b1, b2, b3, b4, b5, b6, b7, b8, b9, b10⟩ := p'
  simp only at h1 h2 h3 h4 h5 hn
  subst h1; subst h2; subst h3; subst h4; subst h5; subst hn
  simp only [Pk.mk.injEq, true_and, and_true, Bool.decide_and]

set_option maxRecDepth 4000 in
set_option maxHeartbeats 16000000 in
theorem psame_head (p p' : Pk) (q r : Pl) (w : World) (ha : Pw w p q) (hb : Pw w p' r) (hh : ¬ headB p p') :
    Calls Try.prog 9 #[p.val q, p'.val r] w fun e w' => e = .returned (.bool false) ∧ Below w.heap.size w w' := by
  have C := Lib.hid (SbC.made 29 w p p' q r)
  have HH := Lib.hid (show ¬ (p.proto = p'.proto ∧ p.code = p'.code ∧ p.id = p'.id ∧ p.sub = p'.sub ∧ p.magic = p'.magic ∧ q.nn = r.nn) from fun h => hh ⟨h.1, h.2.1, h.2.2.1, h.2.2.2.1, h.2.2.2.2.1, by rw [ha.ln, hb.ln]; exact h.2.2.2.2.2⟩)
  clear ha hb hh
  go_enter Try.func9, Try.ntmps9
  go_upto_region 1 with fail
  obtain ⟨wm, hwm⟩ : ∃ wm, wm = (w.alloc (p.obj q 29)).alloc (p'.obj r 29) := ⟨_, rfl⟩
  rw [← hwm] at C ⊢
  clear hwm
  obtain ⟨x0, x1, x2, x3, x4, x5, x6, x7, x8, x9⟩ := C.out.x.all
  obtain ⟨y0, y1, y2, y3, y4, y5, y6, y7, y8, y9⟩ := C.out.y.all
  go_wp2_with fail
  all_goals first
    | (go_ret
       exact ⟨rfl, C.out.bel⟩)
    | (exfalso
       refine HH.out ⟨?_, ?_, ?_, ?_, ?_, ?_⟩ <;> first | assumption | omega | (simp_all; done) | (simp_all; omega))

set_option maxRecDepth 4000 in
set_option maxHeartbeats 32000000 in
theorem psame_rest (p p' : Pk) (q r : Pl) (w : World) (ha : Pw w p q) (hb : Pw w p' r) (hs : p.sm) (hh : headB p p') (z : Bool) (hz : decide (p = p') = z) :
    Calls Try.prog 9 #[p.val q, p'.val r] w fun e w' => e = .returned (.bool z) ∧ Below w.heap.size w w' := by
  have C := Lib.hid (SbC.made 29 w p p' q r)
  have HA := Lib.hid ha
  have HB := Lib.hid hb
  have HH := Lib.hid hh
  have HZ := Lib.hid hz
  obtain ⟨s1, s2, s3, s4, s5, s6⟩ := hs
  obtain ⟨e1, e2, e3, e4, e5, e6⟩ := hh
  have N := Lib.hid (show r.nn = q.nn by rw [← ha.ln, ← hb.ln, e6])
  have j1 : ((p.proto : Int) != (p'.proto : Int)) = false := by rw [e1]; simp
  have j2 : ((p.code : Int) != (p'.code : Int)) = false := by rw [e2]; simp
  have j3 : ((p.id : Int) != (p'.id : Int)) = false := by rw [e3]; simp
  have j4 : ((p.sub : Int) != (p'.sub : Int)) = false := by rw [e4]; simp
  have j5 : ((p.magic : Int) != (p'.magic : Int)) = false := by rw [e5]; simp
  have j6 : ((q.nn : Int) != (r.nn : Int)) = false := by rw [N.out]; simp
  have m1 : q.nn ≤ 1073741824 := by rw [← ha.ln]; exact s6
  have m2 : q.no ≤ 1073741824 := by rw [← ha.lo]; exact s1
  have M := Lib.hid (show q.n1 ≤ 1099511627776 ∧ q.n2 ≤ 1099511627776 ∧ q.nd ≤ 1099511627776 from ⟨by rw [← ha.l1]; omega, by rw [← ha.l2]; omega, by rw [← ha.ld]; omega⟩)
  have S2 := Lib.hid s2
  obtain ⟨b1, hb1⟩ : ∃ b1, Hid (decide (p.opts = p'.opts) = b1) := ⟨_, Lib.hid rfl⟩
  obtain ⟨b2, hb2⟩ : ∃ b2, Hid (decide (p.one = p'.one) = b2) := ⟨_, Lib.hid rfl⟩
  obtain ⟨b3, hb3⟩ : ∃ b3, Hid (decide (p.two = p'.two) = b3) := ⟨_, Lib.hid rfl⟩
  obtain ⟨b4, hb4⟩ : ∃ b4, Hid (decide (p.data = p'.data) = b4) := ⟨_, Lib.hid rfl⟩
  clear ha hb s1 s2 s3 s4 s5 s6 e1 e2 e3 e4 e5 e6 hz
  go_enter Try.func9, Try.ntmps9
  go_wp2_with fail
  obtain ⟨wm, hwm⟩ : ∃ wm, wm = (w.alloc (p.obj q 29)).alloc (p'.obj r 29) := ⟨_, rfl⟩
  rw [← hwm] at C ⊢
  clear hwm j1 j2 j3 j4 j5 j6
  go_loopw [5] (fun i wr => ∃ k : Nat, k ≤ q.nn ∧ i = .int .i64 k ∧ Hid (p.nums.take k = p'.nums.take k) ∧ Hid (Below wm.heap.size wm wr)) (fun i _ => q.nn - (intOf i).toNat)
  case atStart => exact ⟨0, Nat.zero_le _, rfl, Lib.hid (by simp), Lib.hid (Below.refl _ _)⟩
  case round =>
    obtain ⟨k, hk, rfl, HT, BW⟩ := hrel
    replace C := Lib.hid (C.out.step BW.out)
    obtain ⟨x0, x1, x2, x3, x4, x5, x6, x7, x8, x9⟩ := C.out.x.all
    obtain ⟨y0, y1, y2, y3, y4, y5, y6, y7, y8, y9⟩ := C.out.y.all
    by_cases hlt : k < q.nn
    · obtain ⟨g1, o1, v, hA, hv, hc⟩ := ((HA.out.on C.out.bel).rn).num (k := k) (by rw [HA.out.ln]; exact hlt)
      obtain ⟨g2, o2, v', hA2, hv', hc2⟩ := ((HB.out.on C.out.bel).rn).num (k := k) (by rw [HB.out.ln, N.out]; exact hlt)
      rw [hA] at x9
      rw [hA2, N.out] at y9
      have i1 : (0 : Int) ≤ k := by omega
      have i2 : (k : Int) < q.nn := by omega
      by_cases hvv : v = v'
      · have T2 := Lib.hid (take_snoc_eq HT.out hv hv' hvv)
        have i3 : ((v : Int) != (v' : Int)) = false := by rw [hvv]; simp
        clear hA hA2 hv hv' hvv x0 x1 x2 x3 x4 x5 x6 x7 x8 y0 y1 y2 y3 y4 y5 y6 y7 y8
        go_wp2_with fail
        go_quiet (fail)
        all_goals go_wp2_with fail
        go_roundw
        case rel => exact ⟨k + 1, by omega, by go_num, T2, Lib.hid (below_drewN BW.out _)⟩
        case measure => simp [intOf]; omega
      · have E := Lib.hid (show false = z by rw [← HZ.out]; exact (decide_eq_false (fun e => ne_of_at hv hv' hvv (by rw [e]))).symm)
        have i3 : ((v : Int) != (v' : Int)) = true := by rw [bne_iff_ne]; omega
        clear hA hA2 hv hv' hvv x0 x1 x2 x3 x4 x5 x6 x7 x8 y0 y1 y2 y3 y4 y5 y6 y7 y8
        go_wp2_with fail
        go_quiet (fail)
        all_goals go_wp2_with fail
        go_ret
        exact ⟨by rw [← E.out]; rfl, below_drewN C.out.bel _⟩
    · have he : k = q.nn := by omega
      subst he
      have HE := Lib.hid (show p.nums = p'.nums by
        have h := HT.out
        rw [List.take_of_length_le (by rw [HA.out.ln]; exact Nat.le_refl _), List.take_of_length_le (by rw [HB.out.ln, N.out]; exact Nat.le_refl _)] at h
        exact h)
      have EZ := Lib.hid (show z = (b1 && (b2 && (b3 && b4))) by rw [← HZ.out, same_all HH.out HE.out, hb1.out, hb2.out, hb3.out, hb4.out])
      have B := Lib.hid C.out.bel
      clear HT HE HH HZ
      cases b1
      case' true => cases b2
      case' true.true => cases b3
      case' true.true.true => cases b4
      all_goals
        go_wp2_with (first
          | (go_at_call 19; (with_reducible refine (orsame_v p.opts p'.opts _ hb1.out q.no r.no q.co r.co _ _ _ _ _ (HA.out.on B.out).ro (HB.out.on B.out).ro HA.out.lo HB.out.lo (by omega) (Nat.le_trans S2.out (by decide))).mono ?_); rintro e wn ⟨rfl, hb⟩; replace C := Lib.hid (C.out.step hb); replace B := Lib.hid (B.out.trans (hb.mono B.out.size)); clear hb x0 x1 x2 x3 x4 x5 x6 x7 x8 x9 y0 y1 y2 y3 y4 y5 y6 y7 y8 y9; obtain ⟨x0, x1, x2, x3, x4, x5, x6, x7, x8, x9⟩ := C.out.x.all; obtain ⟨y0, y1, y2, y3, y4, y5, y6, y7, y8, y9⟩ := C.out.y.all)
          | (go_at_call 8; (with_reducible refine (equal_q p.one p'.one _ hb2.out q.n1 r.n1 q.a1 r.a1 q.c1 r.c1 _ (HA.out.on B.out).r1 (HB.out.on B.out).r1 HA.out.l1 HB.out.l1 M.out.1).mono ?_); rintro e wn ⟨rfl, hb⟩; replace C := Lib.hid (C.out.step hb); replace B := Lib.hid (B.out.trans (hb.mono B.out.size)); clear hb x0 x1 x2 x3 x4 x5 x6 x7 x8 x9 y0 y1 y2 y3 y4 y5 y6 y7 y8 y9; obtain ⟨x0, x1, x2, x3, x4, x5, x6, x7, x8, x9⟩ := C.out.x.all; obtain ⟨y0, y1, y2, y3, y4, y5, y6, y7, y8, y9⟩ := C.out.y.all)
          | (go_at_call 8; (with_reducible refine (equal_q p.two p'.two _ hb3.out q.n2 r.n2 q.a2 r.a2 q.c2 r.c2 _ (HA.out.on B.out).r2 (HB.out.on B.out).r2 HA.out.l2 HB.out.l2 M.out.2.1).mono ?_); rintro e wn ⟨rfl, hb⟩; replace C := Lib.hid (C.out.step hb); replace B := Lib.hid (B.out.trans (hb.mono B.out.size)); clear hb x0 x1 x2 x3 x4 x5 x6 x7 x8 x9 y0 y1 y2 y3 y4 y5 y6 y7 y8 y9; obtain ⟨x0, x1, x2, x3, x4, x5, x6, x7, x8, x9⟩ := C.out.x.all; obtain ⟨y0, y1, y2, y3, y4, y5, y6, y7, y8, y9⟩ := C.out.y.all)
          | (go_at_call 8; (with_reducible refine (equal_q p.data p'.data _ hb4.out q.nd r.nd q.ad r.ad q.cd r.cd _ (HA.out.on B.out).rd (HB.out.on B.out).rd HA.out.ld HB.out.ld M.out.2.2).mono ?_); rintro e wn ⟨rfl, hb⟩; replace C := Lib.hid (C.out.step hb); replace B := Lib.hid (B.out.trans (hb.mono B.out.size)); clear hb x0 x1 x2 x3 x4 x5 x6 x7 x8 x9 y0 y1 y2 y3 y4 y5 y6 y7 y8 y9; obtain ⟨x0, x1, x2, x3, x4, x5, x6, x7, x8, x9⟩ := C.out.x.all; obtain ⟨y0, y1, y2, y3, y4, y5, y6, y7, y8, y9⟩ := C.out.y.all))
        go_ret
        exact ⟨by rw [EZ.out]; rfl, B.out⟩

theorem psame_any (p p' : Pk) (q r : Pl) (w : World) (ha : Pw w p q) (hb : Pw w p' r) (hs : p.sm) (z : Bool) (hz : decide (p = p') = z) :
    Calls Try.prog 9 #[p.val q, p'.val r] w fun e w' => e = .returned (.bool z) ∧ Below w.heap.size w w' := by
  by_cases hh : headB p p'
  · exact psame_rest p p' q r w ha hb hs hh z hz
  · have e : false = z := by
      rw [← hz]
      exact (decide_eq_false (fun e => hh (by subst e; exact ⟨rfl, rfl, rfl, rfl, rfl, rfl⟩))).symm
    exact e ▸ psame_head p p' q r w ha hb hh
end

section
set_option maxRecDepth 4000
open Go.RowKit

theorem oofF_v (F : Nat → Prop) (l : List (Nat × List Nat)) (n c : Nat) (A : Option Addr) (w : World) (hF : ∀ i, w.heap.size ≤ i → F i) (h : Rws shO F w A l) (hl : l.length = n) (hn : n ≤ 1073741824) :
    Calls Try.prog 26 #[.slice A n c] w fun e w' => ∃ A' c', e = .returned (.slice A' n c') ∧ Rws shO F w' A' l ∧ Below w.heap.size w w' :=
  (oof_any l n c A _ w h hF hl hn).mono fun _ _ ⟨v, h1, h2, h3⟩ => by
    obtain ⟨A', c', rfl, _, _, hr⟩ := h2.slice
    rw [hl] at h1
    exact ⟨A', c', h1, hr.mono (fun b _ hb => hb.elim id (fun h => hF b h)), h3⟩
theorem PwF.optsF {F : Nat → Prop} {w : World} {p : Pk} {q : Pl} (h : PwF F w p q) {A : Option Addr} {c : Nat} (hr : Rws shO F w A p.opts) : PwF F w p { q with ao := A, co := c } :=
  ⟨h.lo, hr, h.l1, h.r1, h.l2, h.r2, h.ld, h.rd, h.ln, h.rn, h.k1, h.k2, h.kd⟩
set_option maxHeartbeats 4000000 in
theorem of15F_any (F : Nat → Prop) (p : Pk) (q : Pl) (w : World) (hF : ∀ i, w.heap.size ≤ i → F i) (h : PwF F w p q) (hn : q.no ≤ 1073741824) :
    Calls Try.prog 17 #[p.val q] w fun e w' => ∃ r, e = .returned (p.val r) ∧ PwF F w' p r ∧ Below w.heap.size w w' := by
  have C := Lib.hid (OfC.made 29 37 w p q)
  have H := Lib.hid h
  have RO := Lib.hid ((h.ro.mono (G := fun b => F b ∧ b < w.heap.size) (fun b hb hf => ⟨hf, hb⟩)))
  have HFF := Lib.hid hF
  clear h hF
  go_enter Try.func17, Try.ntmps17
  go_wp2_with fail
  obtain ⟨wm, hwm⟩ : ∃ wm, wm = (w.alloc (p.obj q 29)).alloc (obj0P 37) := ⟨_, rfl⟩
  rw [← hwm] at C ⊢
  clear hwm
  replace RO := Lib.hid ((RO.out.below C.out.bel).mono (G := fun b => F b ∧ b ≠ w.heap.size + 1) (fun b _ hb => ⟨hb.1, by have := hb.2; omega⟩))
  obtain ⟨G, hG⟩ : ∃ G, Hid (G = fun b => F b ∧ b ≠ w.heap.size + 1) := ⟨_, Lib.hid rfl⟩
  have FP := Lib.hid (show ∀ i, wm.heap.size ≤ i → G i by rw [hG.out]; exact fun i hi => ⟨HFF.out i (Nat.le_trans C.out.bel.size hi), Nat.ne_of_gt (Nat.lt_of_lt_of_le C.out.lt hi)⟩)
  have FPd := Lib.hid (show ∀ i, wm.drew.heap.size ≤ i → G i from FP.out)
  rw [← hG.out] at RO
  obtain ⟨x0, x1, x2, x3, x4, x5, x6, x7, x8, x9⟩ := C.out.cf.all
  go_region_held3 (fun W => W.cell? ⟨w.heap.size, 0, none⟩ = some (.int .u16 (p.proto : Int)) ∧ W.cell? ⟨w.heap.size, 1, none⟩ = some (.int .u8 (p.code : Int)) ∧ W.cell? ⟨w.heap.size, 2, none⟩ = some (.int .u8 (p.id : Int)) ∧ W.cell? ⟨w.heap.size, 3, none⟩ = some (.slice q.ao q.no q.co) ∧ W.cell? ⟨w.heap.size, 4, none⟩ = some (.int .u16 (p.sub : Int)) ∧ W.cell? ⟨w.heap.size, 5, none⟩ = some (.int .u32 (p.magic : Int)) ∧ W.cell? ⟨w.heap.size, 6, none⟩ = some (.slice q.a1 q.n1 q.c1) ∧ W.cell? ⟨w.heap.size, 7, none⟩ = some (.slice q.a2 q.n2 q.c2) ∧ W.cell? ⟨w.heap.size, 8, none⟩ = some (.slice q.ad q.nd q.cd) ∧ W.cell? ⟨w.heap.size, 9, none⟩ = some (.slice q.an q.nn q.cn)) (first | (with_reducible exact C.out.cf.all) | (with_reducible exact (C.out.step (Below.refl _ _).drew).cf.all) | (with_reducible exact C.out.put { q with ao := A, co := c })) (first
    | (go_at_call 26; (first | (with_reducible refine (oofF_v G p.opts q.no q.co q.ao _ FP.out RO.out H.out.lo hn).mono ?_) | (with_reducible refine (oofF_v G p.opts q.no q.co q.ao _ FPd.out (RO.out.below (Below.refl wm.heap.size wm).drew) H.out.lo hn).mono ?_)); rintro e wn ⟨A, c, rfl, hr, hb⟩; replace C := Lib.hid (C.out.step hb); have R := Lib.hid hr; clear hb hr RO; obtain ⟨y0, y1, y2, y3, y4, y5, y6, y7, y8, y9⟩ := C.out.res.all; obtain ⟨z0, z1, z2, z3, z4, z5, z6, z7, z8, z9⟩ := C.out.res.free; dsimp only))
  rw [hG.out] at R
  have B := Lib.hid (put10_below C.out.bel (Nat.le_succ _) p { q with ao := A, co := c })
  with_reducible refine at_worldP (fun W => Hid (Below w.heap.size w W) ∧ Hid (Px W (w.heap.size + 1) 37 p { q with ao := A, co := c }) ∧ Hid (PwF F W p { q with ao := A, co := c })) ⟨B, Lib.hid (put10_px C.out.res p { q with ao := A, co := c }), Lib.hid ((H.out.keep (.of_below B.out)).optsF ((R.out.keep ((put10_keeps wn (w.heap.size + 1) p { q with ao := A, co := c }).less (fun _ _ h => h.2))).mono (fun _ _ h => h.1)))⟩ ?_
  clear B C R H x0 x1 x2 x3 x4 x5 x6 x7 x8 x9 y0 y1 y2 y3 y4 y5 y6 y7 y8 y9 z0 z1 z2 z3 z4 z5 z6 z7 z8 z9
  rintro W ⟨B, X, P⟩
  all_goals go_wp2_with fail
  refine bodyPost_ret (v := p.val { q with ao := A, co := c }) ?_ rfl ⟨_, rfl, P.out, B.out⟩
  exact results_cell_row rfl _ _ (w.heap.size + 1) 37 _ _ _ rfl X.out Try.underlying37 rfl (by kernel_rfl)
end

section
set_option maxRecDepth 4000
open Go.RowKit
set_option linter.unusedVariables false

section
variable {T : TypeId} {w W : World} {p : Pk} {q : Pl}
theorem BxC.drew (h : BxC T w W p q) : BxC T w W.drew p q := h.step (X := W) (Below.refl _ _).drew
theorem BxC.al (h : BxC T w W p q) (o : Obj) : BxC T w (W.alloc o) p q := h.step (X := W) ((Below.refl _ _).alloc (Nat.le_refl _) o)
theorem BxC.c6 (h : BxC T w W p q) : W.cell? ⟨w.heap.size, 6, none⟩ = some (.slice q.a1 q.n1 q.c1) := h.cf.all.2.2.2.2.2.2.1
theorem BxC.c7 (h : BxC T w W p q) : W.cell? ⟨w.heap.size, 7, none⟩ = some (.slice q.a2 q.n2 q.c2) := h.cf.all.2.2.2.2.2.2.2.1
end
theorem pwF_texts {F : Nat → Prop} {w : World} (t c i : Nat) {A B : Option Addr} {n k m j : Nat} {l l2 : List Nat} (hl : l.length = n) (hr : RdF F w A l) (hk : n ≤ k) (hl2 : l2.length = m) (hr2 : RdF F w B l2) (hk2 : m ≤ j) : PwF F w ⟨t, c, i, [], 0, 0, l, l2, [], []⟩ { pl0 with a1 := A, n1 := n, c1 := k, a2 := B, n2 := m, c2 := j } :=
  ⟨rfl, Rws.nilO, hl, hr, hl2, hr2, rfl, RdF.nil, rfl, Rws.nil, hk, hk2, Nat.le_refl _⟩
/-- A constant's octets in a new block, marked behind their end. -/
theorem Rd.markP (w : World) (l : List Nat) (C : Array Value) (hC : C = (bvs l).toArray) (m : Nat × Nat) : Rd (w.alloc (.cells C 5 m)) (w.alloc (.cells C 5 m)).heap.size (some ⟨w.heap.size, 0, none⟩) l := by
  intro hl
  refine ⟨w.heap.size, 0, rfl, by simp, fun k x hx => ?_⟩
  have := bvs_get l k x hx
  subst hC
  have hh : (w.alloc (.cells (bvs l).toArray 5 m)).heap[w.heap.size]? = some (.cells (bvs l).toArray 5 m) := heap_alloc_new w _
  unfold World.cell?
  dsimp only
  rw [hh]
  simpa using this

theorem cutT_drop {d l r : List Nat} (h : cutT d = (l, r, 0)) : d.drop (l.length + 1) = r := by
  rw [cutT_said h, show lenT l ++ r = l.length :: (l ++ r) from rfl, List.drop_succ_cons, List.drop_left']
  rfl

/-- What Text answers where there is one: a text, and where it ends. -/
def TextR (F : Nat → Prop) (w : World) (l : List Nat) (k1 z : Nat) (e : Ending) (w' : World) : Prop := ∃ A1 c1, e = .returned (.tuple #[.slice A1 k1 c1, .int .i64 (z : Int)]) ∧ k1 ≤ c1 ∧ RdF F w' A1 l ∧ Below w.heap.size w w'
end
end Go.Proofs.Ytmhjnghomihjlaa
