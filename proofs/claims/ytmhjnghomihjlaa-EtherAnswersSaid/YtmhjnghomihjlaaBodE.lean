
/-
  What slices.Equal answers on numbers; what the program's Same of layer 20 answers. No condition beyond: at most 2^30 elements in each slice.
-/
import Derived.Test.YtmhjnghomihjlaaGMat
import Derived.Test.YtmhjnghomihjlaaGPks
import Derived.Test.YtmhjnghomihjlaaLqrP
import Derived.BigQuiet
import Derived.Deep.CutRange
namespace Go.Proofs.Ytmhjnghomihjlaa
set_option maxRecDepth 4000
open Go.RowKit
set_option linter.unusedVariables false

set_option maxHeartbeats 2000000 in
theorem nequal_any (a b : List Nat) (z : Bool) (hz : decide (a = b) = z) (n m c d : Nat) (A B : Option Addr) (F G : Nat → Prop) (w : World) (ha : Rws shN F w A a) (hb : Rws shN G w B b) (hn : a.length = n) (hm : b.length = m) (hl : n ≤ 1073741824) :
    Calls Try.prog 38 #[.slice A n c, .slice B m d] w fun e w' => e = .returned (.bool z) ∧ Below w.heap.size w w' := by
  subst hz
  have HA := Lib.hid hn
  have HB := Lib.hid hm
  by_cases hnm : n = m
  · subst hnm
    have hne : ((n : Int) != (n : Int)) = false := by simp
    clear hn hm
    go_enter Try.func38, Try.ntmps38
    go_wp2_with fail
    go_loopw [13] (fun i wr => ∃ k : Nat, k ≤ n ∧ i = .int .i64 k ∧ Hid (a.take k = b.take k) ∧ Hid (Below w.heap.size w wr)) (fun i _ => n - (intOf i).toNat)
    case atStart => exact ⟨0, Nat.zero_le _, rfl, Lib.hid (by simp), Lib.hid (Below.refl _ _)⟩
    case round =>
      obtain ⟨k, hk, rfl, heq, B0⟩ := hrel
      by_cases hlt : k < n
      · obtain ⟨ba, oa, x, e1, hx, hcx⟩ := (ha.below B0.out).num (k := k) (by rw [HA.out]; exact hlt)
        obtain ⟨bb, ob, y, e2, hy, hcy⟩ := (hb.below B0.out).num (k := k) (by rw [HB.out]; exact hlt)
        subst e1; subst e2
        have i1 : (0 : Int) ≤ k := by omega
        have i2 : (k : Int) < n := by omega
        by_cases hxy : x = y
        · have R := Lib.hid (take_snoc_eq heq.out hx hy hxy)
          have i3 : ((x : Int) != (y : Int)) = false := by rw [hxy]; simp
          clear hx hy hxy
          go_wp2_with fail
          go_quiet (fail)
          all_goals go_wp2_with fail
          go_roundw
          case rel => exact ⟨k + 1, by omega, by go_num, R, Lib.hid (below_drewN B0.out _)⟩
          case measure => simp [intOf]; omega
        · have E := Lib.hid (show a ≠ b from ne_of_at hx hy hxy)
          have i3 : ((x : Int) != (y : Int)) = true := by rw [bne_iff_ne]; omega
          clear hx hy hxy
          go_wp2_with fail
          go_quiet (fail)
          all_goals go_wp2_with fail
          go_ret
          exact ⟨by rw [decide_eq_false E.out]; rfl, below_drewN B0.out _⟩
      · have he : k = n := by omega
        subst he
        have E := Lib.hid (show a = b by
          have h := heq.out
          rw [List.take_of_length_le (by rw [HA.out]; exact Nat.le_refl _), List.take_of_length_le (by rw [HB.out]; exact Nat.le_refl _)] at h
          exact h)
        go_wp2_with fail
        go_ret
        exact ⟨by rw [decide_eq_true E.out]; rfl, B0.out⟩
  · have hne : ((n : Int) != (m : Int)) = true := by rw [bne_iff_ne]; omega
    have E := Lib.hid (show a ≠ b from fun e => hnm (by rw [← hn, ← hm, e]))
    clear hn hm hnm
    go_enter Try.func38, Try.ntmps38
    go_wp2_with fail
    go_ret
    exact ⟨by rw [decide_eq_false E.out]; rfl, Below.refl _ _⟩

theorem beq_v (a b : List Nat) (z : Bool) (hz : decide (a = b) = z) (n m c d : Nat) (A B : Option Addr) (w : World) (ha : Rd w w.heap.size A a) (hb : Rd w w.heap.size B b) (hA : By a) (hB : By b) (hn : a.length = n) (hm : b.length = m) :
    Calls Try.prog 28 #[.slice A n c, .slice B m d] w fun e w' => e = .returned (.bool z) ∧ Below w.heap.size w w' :=
  (bequal_any a b n m A B c d w _ ha hb hA hB hn hm).mono fun _ _ ⟨h1, h2⟩ => ⟨by rw [h1, hz], h2 ▸ Below.refl _ _⟩
theorem pk_eq (p o : Pk) : decide (p = o) = (decide (p.proto = o.proto) && decide (p.code = o.code) && decide (p.id = o.id) && decide (p.opts = o.opts) && decide (p.sub = o.sub) && decide (p.magic = o.magic) && decide (p.one = o.one) && decide (p.two = o.two) && decide (p.data = o.data) && decide (p.nums = o.nums)) := by
  obtain ⟨a1, a2, a3, a4, a5, a6, a7, a8, a9, a10⟩ := p
  obtain ⟨b1, b2, b3, b4, b5, b6, b7, b8, b9, b10⟩ := o
  simp only [Pk.mk.injEq, Bool.decide_and, Bool.and_assoc]
theorem int_eq {a b : Nat} {z : Bool} (h : decide (a = b) = z) : ((a : Int) == (b : Int)) = z := by
  rw [← h, Bool.eq_iff_iff]
  simp only [beq_iff_eq, decide_eq_true_eq]
  omega

set_option maxRecDepth 4000 in
set_option maxHeartbeats 32000000 in
theorem bsame_any (p o : Pk) (q r : Pl) (w : World) (hp : Pw w p q) (ho : Pw w o r) (hok : p.ok) (hok2 : o.ok) (hs : p.sm) (z : Bool) (hz : decide (p = o) = z) :
    Calls Try.prog 30 #[p.val q, o.val r] w fun e w' => e = .returned (.bool z) ∧ Below w.heap.size w w' := by
  have C := Lib.hid (TwB.made 37 w p o q r hp ho)
  have HO := Lib.hid (show ByO p.opts ∧ ByO o.opts from ⟨hok.opts, hok2.opts⟩)
  have HY1 := Lib.hid (show By p.one ∧ By o.one from ⟨hok.one, hok2.one⟩)
  have HY2 := Lib.hid (show By p.two ∧ By o.two from ⟨hok.two, hok2.two⟩)
  have HYd := Lib.hid (show By p.data ∧ By o.data from ⟨hok.data, hok2.data⟩)
  have mno : q.no ≤ 274877906944 := by rw [← hp.lo]; exact Nat.le_trans hs.o (by omega)
  have mnn : q.nn ≤ 1073741824 := by rw [← hp.ln]; exact hs.nn
  rw [pk_eq] at hz
  obtain ⟨d0, hd0⟩ : ∃ d, Hid (decide (p.proto = o.proto) = d) := ⟨_, Lib.hid rfl⟩
  obtain ⟨d1, hd1⟩ : ∃ d, Hid (decide (p.code = o.code) = d) := ⟨_, Lib.hid rfl⟩
  obtain ⟨d2, hd2⟩ : ∃ d, Hid (decide (p.id = o.id) = d) := ⟨_, Lib.hid rfl⟩
  obtain ⟨d3, hd3⟩ : ∃ d, Hid (decide (p.sub = o.sub) = d) := ⟨_, Lib.hid rfl⟩
  obtain ⟨d4, hd4⟩ : ∃ d, Hid (decide (p.magic = o.magic) = d) := ⟨_, Lib.hid rfl⟩
  obtain ⟨d5, hd5⟩ : ∃ d, Hid (decide (p.opts = o.opts) = d) := ⟨_, Lib.hid rfl⟩
  obtain ⟨d6, hd6⟩ : ∃ d, Hid (decide (p.one = o.one) = d) := ⟨_, Lib.hid rfl⟩
  obtain ⟨d7, hd7⟩ : ∃ d, Hid (decide (p.two = o.two) = d) := ⟨_, Lib.hid rfl⟩
  obtain ⟨d8, hd8⟩ : ∃ d, Hid (decide (p.data = o.data) = d) := ⟨_, Lib.hid rfl⟩
  obtain ⟨d9, hd9⟩ : ∃ d, Hid (decide (p.nums = o.nums) = d) := ⟨_, Lib.hid rfl⟩
  rw [hd0.out, hd1.out, hd2.out, hd5.out, hd3.out, hd4.out, hd6.out, hd7.out, hd8.out, hd9.out] at hz
  have HZ := Lib.hid hz
  have j0 := int_eq hd0.out
  have j1 := int_eq hd1.out
  have j2 := int_eq hd2.out
  have j3 := int_eq hd3.out
  have j4 := int_eq hd4.out
  clear hp ho hok hok2 hs hz
  go_enter Try.func30, Try.ntmps30
  go_upto_region 1 with fail
  with_reducible refine at_worldP (fun W => Hid (TwB 37 w W p o q r)) C ?_
  clear C
  rintro W C
  obtain ⟨x0, x1, x2, x3, x4, x5, x6, x7, x8, x9⟩ := C.out.x1.all
  obtain ⟨y0, y1, y2, y3, y4, y5, y6, y7, y8, y9⟩ := C.out.x2.all
  cases d0
  case' true => cases d1
  case' true.true => cases d2
  case' true.true.true => cases d3
  case' true.true.true.true => cases d4
  case' true.true.true.true.true => cases d5
  case' true.true.true.true.true.true => cases d6
  case' true.true.true.true.true.true.true => cases d7
  case' true.true.true.true.true.true.true.true => cases d8
  case' true.true.true.true.true.true.true.true.true => cases d9
  all_goals
    go_wp2_with (first
      | (go_at_call 37; (with_reducible refine (osame_v p.opts o.opts _ hd5.out q.no r.no q.co r.co _ _ _ _ _ C.out.p1.ro C.out.p2.ro HO.out.1 HO.out.2 C.out.p1.lo C.out.p2.lo mno).mono ?_); rintro e wn ⟨rfl, hb⟩; replace C := Lib.hid (C.out.step hb); clear hb; clear x0 x1 x2 x3 x4 x5 x6 x7 x8 x9 y0 y1 y2 y3 y4 y5 y6 y7 y8 y9; obtain ⟨x0, x1, x2, x3, x4, x5, x6, x7, x8, x9⟩ := C.out.x1.all; obtain ⟨y0, y1, y2, y3, y4, y5, y6, y7, y8, y9⟩ := C.out.x2.all)
      | (go_at_call 28; (with_reducible refine (beq_v p.one o.one _ hd6.out q.n1 r.n1 q.c1 r.c1 _ _ _ C.out.p1.r1 C.out.p2.r1 HY1.out.1 HY1.out.2 C.out.p1.l1 C.out.p2.l1).mono ?_); rintro e wn ⟨rfl, hb⟩; replace C := Lib.hid (C.out.step hb); clear hb; clear x0 x1 x2 x3 x4 x5 x6 x7 x8 x9 y0 y1 y2 y3 y4 y5 y6 y7 y8 y9; obtain ⟨x0, x1, x2, x3, x4, x5, x6, x7, x8, x9⟩ := C.out.x1.all; obtain ⟨y0, y1, y2, y3, y4, y5, y6, y7, y8, y9⟩ := C.out.x2.all)
      | (go_at_call 28; (with_reducible refine (beq_v p.two o.two _ hd7.out q.n2 r.n2 q.c2 r.c2 _ _ _ C.out.p1.r2 C.out.p2.r2 HY2.out.1 HY2.out.2 C.out.p1.l2 C.out.p2.l2).mono ?_); rintro e wn ⟨rfl, hb⟩; replace C := Lib.hid (C.out.step hb); clear hb; clear x0 x1 x2 x3 x4 x5 x6 x7 x8 x9 y0 y1 y2 y3 y4 y5 y6 y7 y8 y9; obtain ⟨x0, x1, x2, x3, x4, x5, x6, x7, x8, x9⟩ := C.out.x1.all; obtain ⟨y0, y1, y2, y3, y4, y5, y6, y7, y8, y9⟩ := C.out.x2.all)
      | (go_at_call 28; (with_reducible refine (beq_v p.data o.data _ hd8.out q.nd r.nd q.cd r.cd _ _ _ C.out.p1.rd C.out.p2.rd HYd.out.1 HYd.out.2 C.out.p1.ld C.out.p2.ld).mono ?_); rintro e wn ⟨rfl, hb⟩; replace C := Lib.hid (C.out.step hb); clear hb; clear x0 x1 x2 x3 x4 x5 x6 x7 x8 x9 y0 y1 y2 y3 y4 y5 y6 y7 y8 y9; obtain ⟨x0, x1, x2, x3, x4, x5, x6, x7, x8, x9⟩ := C.out.x1.all; obtain ⟨y0, y1, y2, y3, y4, y5, y6, y7, y8, y9⟩ := C.out.x2.all)
      | (go_at_call 38; (with_reducible refine (nequal_any p.nums o.nums _ hd9.out q.nn r.nn q.cn r.cn _ _ _ _ _ C.out.p1.rn C.out.p2.rn C.out.p1.ln C.out.p2.ln mnn).mono ?_); rintro e wn ⟨rfl, hb⟩; replace C := Lib.hid (C.out.step hb); clear hb; clear x0 x1 x2 x3 x4 x5 x6 x7 x8 x9 y0 y1 y2 y3 y4 y5 y6 y7 y8 y9; obtain ⟨x0, x1, x2, x3, x4, x5, x6, x7, x8, x9⟩ := C.out.x1.all; obtain ⟨y0, y1, y2, y3, y4, y5, y6, y7, y8, y9⟩ := C.out.x2.all))
    go_ret
    have hz := HZ.out
    (try simp only [Bool.and_false, Bool.false_and, Bool.and_true, Bool.true_and] at hz)
    subst hz
    exact ⟨rfl, C.out.bel⟩
end Go.Proofs.Ytmhjnghomihjlaa
