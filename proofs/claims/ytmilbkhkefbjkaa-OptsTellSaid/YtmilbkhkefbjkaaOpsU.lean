
/-
  What the document's Settle answers. No condition beyond: options of bytes, lists of at most 2^36 options.
-/
import Derived.Test.YtmilbkhkefbjkaaOpsT
namespace Go.Proofs.Ytmilbkhkefbjkaa
open Go.RowKit

theorem quo4 (v : Nat) : ((v : Int) / 4 % 2 == 1) = decide (v / 4 % 2 = 1) := by rw [Bool.eq_iff_iff]; simp; omega
theorem rright_lcp (l : List (Nat × List Nat)) (n c : Nat) (A : Option Addr) (F : Nat → Prop) (w : World) (h : Rws shO F w A l) (hl : l.length = n) (hn : n ≤ 274877906944) (q : Bool) (hq : okL (tabB 49185) l = q) :
    Calls Try.prog 14 #[.int .i64 49185, .slice A n c] w fun e w' => e = .returned (.bool q) ∧ Below w.heap.size w w' := rright_any 49185 l n c A F w h hl hn q hq

set_option maxHeartbeats 4000000 in
theorem rsettle_no (c : Cf) (l : List (Nat × List Nat)) (n k : Nat) (A : Option Addr) (F : Nat → Prop) (w : World) (h : Rws shO F w A l) (hl : l.length = n) (hn : n ≤ 68719476736) (hq : okL (tabB 49185) l = false) :
    Calls Try.prog 25 #[c.val, .slice A n k] w fun e w' => e = .returned (.tuple #[cf0.val, .int .i64 4]) ∧ Below w.heap.size w w' := by
  have C := Lib.hid (SeC.made (T := 55) w c)
  have HR := Lib.hid h
  have HL := Lib.hid hl
  have HQ := Lib.hid hq
  clear h hl hq
  go_enter Try.func25, Try.ntmps25
  go_wp2_with (go_at_call 14; (with_reducible refine (rright_lcp l n k A F _ (HR.out.below C.out.bel) HL.out (by omega) _ HQ.out).mono ?_); rintro e wn ⟨rfl, hb⟩; replace C := Lib.hid (C.out.step hb); obtain ⟨x0, x1, x2, x3, x4, x5, x6⟩ := C.out.cf.all; obtain ⟨y0, y1, y2, y3, y4, y5, y6⟩ := C.out.cf.free; obtain ⟨r0, r1, r2, r3, r4, r5, r6⟩ := C.out.res.all; obtain ⟨s0, s1, s2, s3, s4, s5, s6⟩ := C.out.res.free; clear hb)
  refine bodyPost_ret (v := .tuple #[cf0.val, .int .i64 4]) ?_ rfl ⟨rfl, ?_⟩
  · exact results_row_tmp rfl _ _ _ (w.heap.size + 1) 55 _ _ _ rfl rfl (put7_bx C.out.res cf0) Try.underlying55 (by kernel_rfl)
  · exact put7_below C.out.bel (by omega) cf0

set_option maxHeartbeats 32000000 in
theorem rsettle_yes (c : Cf) (l : List (Nat × List Nat)) (n k : Nat) (A : Option Addr) (F : Nat → Prop) (w : World) (h : Rws shO F w A l) (ho : ByO l) (hl : l.length = n) (hn : n ≤ 68719476736) (hq : okL (tabB 49185) l = true) (x : Cf) (q : Int) (ha : ansB c l = (x, q)) (hd : ∀ o ∈ l, o.2.length ≤ 274877906944) :
    Calls Try.prog 25 #[c.val, .slice A n k] w fun e w' => e = .returned (.tuple #[x.val, .int .i64 q]) ∧ Below w.heap.size w w' := by
  have C := Lib.hid (SeC.made (T := 55) w c)
  have HR := Lib.hid h
  have HL := Lib.hid hl
  have HO := Lib.hid ho
  have HQ := Lib.hid hq
  have HD := Lib.hid hd
  clear h hl ho hq hd
  go_enter Try.func25, Try.ntmps25
  go_wp2_with (go_at_call 14; (with_reducible refine (rright_lcp l n k A F _ (HR.out.below C.out.bel) HL.out (by omega) _ HQ.out).mono ?_); rintro e wn ⟨rfl, hb⟩; replace C := Lib.hid (C.out.step hb); clear hb)
  go_loopw [6] (fun i wr => ∃ j : Nat, j ≤ n ∧ i = .int .i64 j ∧ Hid (SeC 55 w wr (setB c (l.take j)))) (fun i _ => n - (intOf i).toNat)
  case atStart => exact ⟨0, Nat.zero_le _, rfl, by rw [show setB c (l.take 0) = c from rfl]; exact C⟩
  case round =>
    clear C
    obtain ⟨j, hj, rfl, C⟩ := hrel
    obtain ⟨cc, hcc⟩ : ∃ cc, Hid (setB c (l.take j) = cc) := ⟨_, Lib.hid rfl⟩
    rw [hcc.out] at C
    by_cases hlt : j < n
    · obtain ⟨b, o, y, A3, c3, rfl, hb3, hx, h3, h4, h5, h6⟩ := (HR.out.below C.out.bel).opt (k := j) (by rw [HL.out]; exact hlt)
      have hy := okL_at HQ.out hx
      have hyb := (HO.out y (List.mem_of_getElem? hx)).2
      have hyd := HD.out y (List.mem_of_getElem? hx)
      have hlt2 := grant_lt hy hyb
      have i1 : (0 : Int) ≤ j := by omega
      have i2 : (j : Int) < n := by omega
      have HS := Lib.hid (set_snoc (c := c) hx)
      obtain ⟨v, hv⟩ : ∃ v, Hid (valB y.2 = v) := ⟨_, Lib.hid rfl⟩
      rw [hv.out] at hlt2
      have H6 := Lib.hid h6.rd
      obtain ⟨x0, x1, x2, x3, x4, x5, x6⟩ := C.out.cf.all; obtain ⟨y0, y1, y2, y3, y4, y5, y6⟩ := C.out.cf.free; obtain ⟨r0, r1, r2, r3, r4, r5, r6⟩ := C.out.res.all; obtain ⟨s0, s1, s2, s3, s4, s5, s6⟩ := C.out.res.free
      clear hx h6
      obtain ⟨t, ht⟩ : ∃ t, y.1 = t := ⟨_, rfl⟩
      rw [ht] at h3 hlt2
      have HT := Lib.hid ht
      clear ht
      by_cases h1 : t = 1
      · subst h1
        have e : grantB cc y = { cc with mru := (v : Int) } := by unfold grantB; rw [HT.out, hv.out]; simp
        have hv1 := hlt2.1 rfl
        clear hlt2
        go_wp2_with (go_at_call 16; (with_reducible refine (rvalue_any _ y.2 y.2.length c3 A3 _ H6.out hyb rfl hyd v hv.out).mono ?_); rintro e wn ⟨rfl, hb⟩; replace C := Lib.hid (C.out.step hb); clear x0 x1 x2 x3 x4 x5 x6 y0 y1 y2 y3 y4 y5 y6 r0 r1 r2 r3 r4 r5 r6 s0 s1 s2 s3 s4 s5 s6; obtain ⟨x0, x1, x2, x3, x4, x5, x6⟩ := C.out.cf.all; obtain ⟨y0, y1, y2, y3, y4, y5, y6⟩ := C.out.cf.free; obtain ⟨r0, r1, r2, r3, r4, r5, r6⟩ := C.out.res.all; obtain ⟨s0, s1, s2, s3, s4, s5, s6⟩ := C.out.res.free; replace h3 := (hb.cell (p := ⟨b, o + j * 2, none⟩) hb3).trans h3; replace h4 := (hb.cell (p := ⟨b, o + j * 2 + 1, none⟩) hb3).trans h4; clear hb)
        go_roundw
        case rel => exact ⟨j + 1, by omega, by go_num, Lib.hid (by rw [HS.out, hcc.out, e]; exact C.out.set 6 _ _ (C.out.cf.mru v))⟩
        case measure => simp [intOf]; omega
      by_cases h2 : t = 2
      · subst h2
        have e : grantB cc y = { cc with send := v } := by unfold grantB; rw [HT.out, hv.out]; simp
        have hv1 := hlt2.2 rfl
        clear hlt2
        go_wp2_with (go_at_call 16; (with_reducible refine (rvalue_any _ y.2 y.2.length c3 A3 _ H6.out hyb rfl hyd v hv.out).mono ?_); rintro e wn ⟨rfl, hb⟩; replace C := Lib.hid (C.out.step hb); clear x0 x1 x2 x3 x4 x5 x6 y0 y1 y2 y3 y4 y5 y6 r0 r1 r2 r3 r4 r5 r6 s0 s1 s2 s3 s4 s5 s6; obtain ⟨x0, x1, x2, x3, x4, x5, x6⟩ := C.out.cf.all; obtain ⟨y0, y1, y2, y3, y4, y5, y6⟩ := C.out.cf.free; obtain ⟨r0, r1, r2, r3, r4, r5, r6⟩ := C.out.res.all; obtain ⟨s0, s1, s2, s3, s4, s5, s6⟩ := C.out.res.free; replace h3 := (hb.cell (p := ⟨b, o + j * 2, none⟩) hb3).trans h3; replace h4 := (hb.cell (p := ⟨b, o + j * 2 + 1, none⟩) hb3).trans h4; clear hb)
        go_roundw
        case rel => exact ⟨j + 1, by omega, by go_num, Lib.hid (by rw [HS.out, hcc.out, e]; exact C.out.set 4 _ _ (C.out.cf.send v))⟩
        case measure => simp [intOf]; omega
      by_cases h7 : t = 7
      · subst h7
        have e : grantB cc y = { cc with pfc := true } := by unfold grantB; rw [HT.out, hv.out]; simp
        clear hlt2
        go_wp2_with (go_at_call 16; (with_reducible refine (rvalue_any _ y.2 y.2.length c3 A3 _ H6.out hyb rfl hyd v hv.out).mono ?_); rintro e wn ⟨rfl, hb⟩; replace C := Lib.hid (C.out.step hb); clear x0 x1 x2 x3 x4 x5 x6 y0 y1 y2 y3 y4 y5 y6 r0 r1 r2 r3 r4 r5 r6 s0 s1 s2 s3 s4 s5 s6; obtain ⟨x0, x1, x2, x3, x4, x5, x6⟩ := C.out.cf.all; obtain ⟨y0, y1, y2, y3, y4, y5, y6⟩ := C.out.cf.free; obtain ⟨r0, r1, r2, r3, r4, r5, r6⟩ := C.out.res.all; obtain ⟨s0, s1, s2, s3, s4, s5, s6⟩ := C.out.res.free; replace h3 := (hb.cell (p := ⟨b, o + j * 2, none⟩) hb3).trans h3; replace h4 := (hb.cell (p := ⟨b, o + j * 2 + 1, none⟩) hb3).trans h4; clear hb)
        go_roundw
        case rel => exact ⟨j + 1, by omega, by go_num, Lib.hid (by rw [HS.out, hcc.out, e]; exact C.out.set 3 _ _ (C.out.cf.pfc true))⟩
        case measure => simp [intOf]; omega
      by_cases h8 : t = 8
      · subst h8
        have e : grantB cc y = { cc with acfc := true } := by unfold grantB; rw [HT.out, hv.out]; simp
        clear hlt2
        go_wp2_with (go_at_call 16; (with_reducible refine (rvalue_any _ y.2 y.2.length c3 A3 _ H6.out hyb rfl hyd v hv.out).mono ?_); rintro e wn ⟨rfl, hb⟩; replace C := Lib.hid (C.out.step hb); clear x0 x1 x2 x3 x4 x5 x6 y0 y1 y2 y3 y4 y5 y6 r0 r1 r2 r3 r4 r5 r6 s0 s1 s2 s3 s4 s5 s6; obtain ⟨x0, x1, x2, x3, x4, x5, x6⟩ := C.out.cf.all; obtain ⟨y0, y1, y2, y3, y4, y5, y6⟩ := C.out.cf.free; obtain ⟨r0, r1, r2, r3, r4, r5, r6⟩ := C.out.res.all; obtain ⟨s0, s1, s2, s3, s4, s5, s6⟩ := C.out.res.free; replace h3 := (hb.cell (p := ⟨b, o + j * 2, none⟩) hb3).trans h3; replace h4 := (hb.cell (p := ⟨b, o + j * 2 + 1, none⟩) hb3).trans h4; clear hb)
        go_roundw
        case rel => exact ⟨j + 1, by omega, by go_num, Lib.hid (by rw [HS.out, hcc.out, e]; exact C.out.set 2 _ _ (C.out.cf.acfc true))⟩
        case measure => simp [intOf]; omega
      by_cases h9 : t = 9
      · subst h9
        have e : grantB cc y = { cc with wide := ((v : Int) / 4 % 2 == 1) } := by unfold grantB; rw [HT.out, hv.out]; rw [← quo4 v]; rfl
        have hv1 : v < 18446744073709551616 := by have := valB_lt y.2; rw [hv.out] at this; exact this
        clear hlt2
        go_wp2_with (go_at_call 16; (with_reducible refine (rvalue_any _ y.2 y.2.length c3 A3 _ H6.out hyb rfl hyd v hv.out).mono ?_); rintro e wn ⟨rfl, hb⟩; replace C := Lib.hid (C.out.step hb); clear x0 x1 x2 x3 x4 x5 x6 y0 y1 y2 y3 y4 y5 y6 r0 r1 r2 r3 r4 r5 r6 s0 s1 s2 s3 s4 s5 s6; obtain ⟨x0, x1, x2, x3, x4, x5, x6⟩ := C.out.cf.all; obtain ⟨y0, y1, y2, y3, y4, y5, y6⟩ := C.out.cf.free; obtain ⟨r0, r1, r2, r3, r4, r5, r6⟩ := C.out.res.all; obtain ⟨s0, s1, s2, s3, s4, s5, s6⟩ := C.out.res.free; replace h3 := (hb.cell (p := ⟨b, o + j * 2, none⟩) hb3).trans h3; replace h4 := (hb.cell (p := ⟨b, o + j * 2 + 1, none⟩) hb3).trans h4; clear hb)
        go_roundw
        case rel => exact ⟨j + 1, by omega, by go_num, Lib.hid (by rw [HS.out, hcc.out, e]; exact C.out.set 1 _ _ (C.out.cf.wide _))⟩
        case measure => simp [intOf]; omega
      have e : grantB cc y = cc := by unfold grantB; rw [HT.out, hv.out]; simp [h1, h2, h7, h8, h9]
      have j1 : ¬ (t : Int) = 1 := by omega
      have j2 : ¬ (t : Int) = 2 := by omega
      have j7 : ¬ (t : Int) = 7 := by omega
      have j8 : ¬ (t : Int) = 8 := by omega
      have j9 : ¬ (t : Int) = 9 := by omega
      clear hlt2 h1 h2 h7 h8 h9
      go_wp2_with (go_at_call 16; (with_reducible refine (rvalue_any _ y.2 y.2.length c3 A3 _ H6.out hyb rfl hyd v hv.out).mono ?_); rintro e wn ⟨rfl, hb⟩; replace C := Lib.hid (C.out.step hb); clear x0 x1 x2 x3 x4 x5 x6 y0 y1 y2 y3 y4 y5 y6 r0 r1 r2 r3 r4 r5 r6 s0 s1 s2 s3 s4 s5 s6; obtain ⟨x0, x1, x2, x3, x4, x5, x6⟩ := C.out.cf.all; obtain ⟨y0, y1, y2, y3, y4, y5, y6⟩ := C.out.cf.free; obtain ⟨r0, r1, r2, r3, r4, r5, r6⟩ := C.out.res.all; obtain ⟨s0, s1, s2, s3, s4, s5, s6⟩ := C.out.res.free; replace h3 := (hb.cell (p := ⟨b, o + j * 2, none⟩) hb3).trans h3; replace h4 := (hb.cell (p := ⟨b, o + j * 2 + 1, none⟩) hb3).trans h4; clear hb)
      go_roundw
      case rel => exact ⟨j + 1, by omega, by go_num, Lib.hid (by rw [HS.out, hcc.out, e]; exact C.out)⟩
      case measure => simp [intOf]; omega
    · have he : j = n := by omega
      subst he
      have HE := hcc
      rw [List.take_of_length_le (by rw [HL.out]; exact Nat.le_refl _)] at HE
      obtain ⟨x0, x1, x2, x3, x4, x5, x6⟩ := C.out.cf.all; obtain ⟨y0, y1, y2, y3, y4, y5, y6⟩ := C.out.cf.free; obtain ⟨r0, r1, r2, r3, r4, r5, r6⟩ := C.out.res.all; obtain ⟨s0, s1, s2, s3, s4, s5, s6⟩ := C.out.res.free
      by_cases hk : chk cc.mru = 0
      · have e : x = cc ∧ q = 0 := by
          rw [ansB, HQ.out, if_pos rfl, HE.out, if_pos hk] at ha
          exact ⟨(Prod.mk.inj ha).1.symm, (Prod.mk.inj ha).2.symm⟩
        obtain ⟨rfl, rfl⟩ := e
        have HK := Lib.hid hk
        clear hk ha
        go_wp2_with (go_at_call 37; (with_reducible refine (rcheck_v x _ HK.out _).mono ?_); rintro e wn ⟨rfl, hb⟩; replace C := Lib.hid (C.out.step hb); clear x0 x1 x2 x3 x4 x5 x6 y0 y1 y2 y3 y4 y5 y6 r0 r1 r2 r3 r4 r5 r6 s0 s1 s2 s3 s4 s5 s6; obtain ⟨x0, x1, x2, x3, x4, x5, x6⟩ := C.out.cf.all; obtain ⟨y0, y1, y2, y3, y4, y5, y6⟩ := C.out.cf.free; obtain ⟨r0, r1, r2, r3, r4, r5, r6⟩ := C.out.res.all; obtain ⟨s0, s1, s2, s3, s4, s5, s6⟩ := C.out.res.free; clear hb)
        refine bodyPost_ret (v := .tuple #[x.val, .int .i64 0]) ?_ rfl ⟨rfl, ?_⟩
        · exact results_row_tmp rfl _ _ _ (w.heap.size + 1) 55 _ _ _ rfl rfl (put7_bx C.out.res x) Try.underlying55 (by kernel_rfl)
        · exact put7_below C.out.bel (by omega) x
      · have e : x = cf0 ∧ q = 5 := by
          rw [ansB, HQ.out, if_pos rfl, HE.out, if_neg hk] at ha
          have := chk_cases cc.mru
          have h5 := (Prod.mk.inj ha).2
          exact ⟨(Prod.mk.inj ha).1.symm, by omega⟩
        obtain ⟨rfl, rfl⟩ := e
        have HK := Lib.hid (show chk cc.mru = 5 by have := chk_cases cc.mru; omega)
        clear hk ha
        go_wp2_with (go_at_call 37; (with_reducible refine (rcheck_v cc _ HK.out _).mono ?_); rintro e wn ⟨rfl, hb⟩; replace C := Lib.hid (C.out.step hb); clear x0 x1 x2 x3 x4 x5 x6 y0 y1 y2 y3 y4 y5 y6 r0 r1 r2 r3 r4 r5 r6 s0 s1 s2 s3 s4 s5 s6; obtain ⟨x0, x1, x2, x3, x4, x5, x6⟩ := C.out.cf.all; obtain ⟨y0, y1, y2, y3, y4, y5, y6⟩ := C.out.cf.free; obtain ⟨r0, r1, r2, r3, r4, r5, r6⟩ := C.out.res.all; obtain ⟨s0, s1, s2, s3, s4, s5, s6⟩ := C.out.res.free; clear hb)
        refine bodyPost_ret (v := .tuple #[cf0.val, .int .i64 5]) ?_ rfl ⟨rfl, ?_⟩
        · exact results_row_tmp rfl _ _ _ (w.heap.size + 1) 55 _ _ _ rfl rfl (put7_bx C.out.res cf0) Try.underlying55 (by kernel_rfl)
        · exact put7_below C.out.bel (by omega) cf0

theorem rsettle_any (c : Cf) (l : List (Nat × List Nat)) (n k : Nat) (A : Option Addr) (F : Nat → Prop) (w : World) (h : Rws shO F w A l) (ho : ByO l) (hl : l.length = n) (hn : n ≤ 68719476736) (x : Cf) (q : Int) (ha : ansB c l = (x, q)) (hd : ∀ o ∈ l, o.2.length ≤ 274877906944) :
    Calls Try.prog 25 #[c.val, .slice A n k] w fun e w' => e = .returned (.tuple #[x.val, .int .i64 q]) ∧ Below w.heap.size w w' := by
  cases hq : okL (tabB 49185) l
  · rw [ansB, hq, if_neg (by decide)] at ha
    obtain ⟨rfl, rfl⟩ := Prod.mk.inj ha
    exact rsettle_no c l n k A F w h hl hn hq
  · exact rsettle_yes c l n k A F w h ho hl hn hq x q ha hd
end Go.Proofs.Ytmilbkhkefbjkaa
