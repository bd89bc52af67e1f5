
/-
  What Settle answers, and the document's. No condition beyond: options of bytes, lists of at most 2^36 options.
-/
import Derived.Test.YtmilbkhkefbjkaaOpsS
namespace Go.Proofs.Ytmilbkhkefbjkaa
open Go.RowKit

theorem results_row_tmp {fn : Func} {p u : Tmp} {ty : TypeId} (h : fn.results = #[.cell p ty, .tmp u]) (tmps : Array Value) (v : Value) (w : World) (g : Nat) (t : TypeId) (cs : Array Value) (fr : Nat × Nat) (fs : Array Field)
    (hp : tmps.getD p undef = .pointer (some ⟨g, 0, none⟩)) (hv : tmps.getD u undef = v) (hg : w.heap[g]? = some (.cells cs t fr))
    (hu : Try.prog.underlying ty = some (.struct fs)) (hi : (Try.prog.info? ty).map (·.size) = some cs.size) :
    (results fn tmps).run Try.prog w = .ok (.tuple #[.agg cs, v]) w := by
  have hp' : tmps[p]?.getD undef = .pointer (some ⟨g, 0, none⟩) := by simpa using hp
  have hv' : tmps[u]?.getD undef = v := by simpa using hv
  rw [results_cell_tmp h]
  simp [hp', hv', asAddr, run_loadVar_row w g t ty cs fr _ hg hu rfl hi, Result.andThen]

/-- What Settle knows of the world it stands in: a config so far, and the one to be answered. -/
structure SeC (T : TypeId) (w W : World) (c : Cf) : Prop where
  bel : Below w.heap.size w W
  cf : Bx W w.heap.size T c
  res : Bx W (w.heap.size + 1) T cf0
section
variable {T : TypeId} {w W X W' : World} {c : Cf}
theorem SeC.made (w : World) (c : Cf) : SeC T w ((w.alloc (c.obj T)).alloc (obj0 T)) c := by
  have e1 : (w.alloc (c.obj T)).heap.size = w.heap.size + 1 := World.size_alloc _ _
  refine ⟨below_two w _ _, heap_alloc2_old w _ _, ?_⟩
  have := heap_alloc_new (w.alloc (c.obj T)) (obj0 T)
  rwa [e1] at this
theorem SeC.step (h : SeC T w W c) (hb : Below W.heap.size W W') : SeC T w W' c := ⟨h.bel.trans (hb.mono h.bel.size), h.cf.below hb, h.res.below hb⟩
theorem SeC.put (h : SeC T w W c) (d : Cf) : SeC T w (put7 W w.heap.size d) d := by
  refine ⟨put7_below h.bel (Nat.le_refl _) d, put7_bx h.cf d, ?_⟩
  have hne : w.heap.size + 1 ≠ w.heap.size := by omega
  exact ((((((h.res.other _ hne).other _ hne).other _ hne).other _ hne).other _ hne).other _ hne).other _ hne
theorem SeC.set (h : SeC T w W c) (o : Nat) (u : Value) (d : Cf) (hd : Bx (W.setCell ⟨w.heap.size, o, none⟩ u) w.heap.size T d) : SeC T w (W.setCell ⟨w.heap.size, o, none⟩ u) d :=
  ⟨h.bel.setCell (p := ⟨w.heap.size, o, none⟩) (Nat.le_refl _) _, hd, h.res.other _ (by omega)⟩
end
theorem Bx.mru {w : World} {b : Nat} {t : TypeId} {c : Cf} (h : Bx w b t c) (v : Int) : Bx (w.setCell ⟨b, 6, none⟩ (.int .i64 v)) b t { c with mru := v } := by unfold Bx; rw [heap_setCell_same _ b 6 _ _ _ h]; rfl
theorem Bx.send {w : World} {b : Nat} {t : TypeId} {c : Cf} (h : Bx w b t c) (v : Nat) : Bx (w.setCell ⟨b, 4, none⟩ (.int .u32 (v : Int))) b t { c with send := v } := by unfold Bx; rw [heap_setCell_same _ b 4 _ _ _ h]; rfl
theorem Bx.pfc {w : World} {b : Nat} {t : TypeId} {c : Cf} (h : Bx w b t c) (v : Bool) : Bx (w.setCell ⟨b, 3, none⟩ (.bool v)) b t { c with pfc := v } := by unfold Bx; rw [heap_setCell_same _ b 3 _ _ _ h]; rfl
theorem Bx.acfc {w : World} {b : Nat} {t : TypeId} {c : Cf} (h : Bx w b t c) (v : Bool) : Bx (w.setCell ⟨b, 2, none⟩ (.bool v)) b t { c with acfc := v } := by unfold Bx; rw [heap_setCell_same _ b 2 _ _ _ h]; rfl
theorem Bx.wide {w : World} {b : Nat} {t : TypeId} {c : Cf} (h : Bx w b t c) (v : Bool) : Bx (w.setCell ⟨b, 1, none⟩ (.bool v)) b t { c with wide := v } := by unfold Bx; rw [heap_setCell_same _ b 1 _ _ _ h]; rfl

theorem wrong_lcp (w : World) : Calls Try.prog 29 #[.int .u16 49185] w fun e w' => ∃ g, e = .returned (fvW g) ∧ Wr w' g (tabB 49185) ∧ Below w.heap.size w w' := wrong_any 49185 w
theorem check_v (c : Cf) (q : Int) (hq : chk c.mru = q) (w : World) : Calls Try.prog 36 #[c.val] w fun e w' => e = .returned (.int .i64 q) ∧ Below w.heap.size w w' := hq ▸ check_any c w
theorem rcheck_v (c : Cf) (q : Int) (hq : chk c.mru = q) (w : World) : Calls Try.prog 37 #[c.val] w fun e w' => e = .returned (.int .i64 q) ∧ Below w.heap.size w w' := hq ▸ rcheck_any c w

set_option maxHeartbeats 4000000 in
theorem settle_no (c : Cf) (l : List (Nat × List Nat)) (n k : Nat) (A : Option Addr) (F : Nat → Prop) (w : World) (h : Rws shO F w A l) (ho : ByO l) (hl : l.length = n) (hn : n ≤ 68719476736) (hq : okL (tabB 49185) l = false) :
    Calls Try.prog 24 #[c.val, .slice A n k] w fun e w' => e = .returned (.tuple #[cf0.val, .int .i64 4]) ∧ Below w.heap.size w w' := by
  have C := Lib.hid (SeC.made (T := 56) w c)
  have HR := Lib.hid h
  have HL := Lib.hid hl
  have HO := Lib.hid ho
  have HQ := Lib.hid hq
  clear h hl ho hq
  go_enter Try.func24, Try.ntmps24
  go_wp2_with (first
    | (go_at_call 29; (with_reducible refine (wrong_lcp _).mono ?_); rintro e wn ⟨g, rfl, hw, hb⟩; replace C := Lib.hid (C.out.step hb); have V := Lib.hid hw; clear hw hb)
    | (go_at_call 30; (with_reducible refine (any_wrong _ l n k A F g _ (HR.out.below C.out.bel) HO.out HL.out (by omega) V.out _ HQ.out).mono ?_); rintro e wn ⟨rfl, hb⟩; replace C := Lib.hid (C.out.step hb); obtain ⟨x0, x1, x2, x3, x4, x5, x6⟩ := C.out.cf.all; obtain ⟨y0, y1, y2, y3, y4, y5, y6⟩ := C.out.cf.free; obtain ⟨r0, r1, r2, r3, r4, r5, r6⟩ := C.out.res.all; obtain ⟨s0, s1, s2, s3, s4, s5, s6⟩ := C.out.res.free; clear hb))
  refine bodyPost_ret (v := .tuple #[cf0.val, .int .i64 4]) ?_ rfl ⟨rfl, ?_⟩
  · exact results_row_tmp rfl _ _ _ (w.heap.size + 1) 56 _ _ _ rfl rfl (put7_bx C.out.res cf0) Try.underlying56 (by kernel_rfl)
  · exact put7_below C.out.bel (by omega) cf0

set_option maxHeartbeats 16000000 in
theorem settle_yes (c : Cf) (l : List (Nat × List Nat)) (n k : Nat) (A : Option Addr) (F : Nat → Prop) (w : World) (h : Rws shO F w A l) (ho : ByO l) (hl : l.length = n) (hn : n ≤ 68719476736) (hq : okL (tabB 49185) l = true) (x : Cf) (q : Int) (ha : ansB c l = (x, q)) (hd : ∀ o ∈ l, o.2.length ≤ 274877906944) :
    Calls Try.prog 24 #[c.val, .slice A n k] w fun e w' => e = .returned (.tuple #[x.val, .int .i64 q]) ∧ Below w.heap.size w w' := by
  have C := Lib.hid (SeC.made (T := 56) w c)
  have HR := Lib.hid h
  have HL := Lib.hid hl
  have HO := Lib.hid ho
  have HQ := Lib.hid hq
  have HD := Lib.hid hd
  clear h hl ho hq hd
  go_enter Try.func24, Try.ntmps24
  go_wp2_with (first
    | (go_at_call 29; (with_reducible refine (wrong_lcp _).mono ?_); rintro e wn ⟨g, rfl, hw, hb⟩; replace C := Lib.hid (C.out.step hb); have V := Lib.hid hw; clear hw hb)
    | (go_at_call 30; (with_reducible refine (any_wrong _ l n k A F g _ (HR.out.below C.out.bel) HO.out HL.out (by omega) V.out _ HQ.out).mono ?_); rintro e wn ⟨rfl, hb⟩; replace C := Lib.hid (C.out.step hb); clear hb))
  clear V
  go_loopw [15] (fun i wr => ∃ j : Nat, j ≤ n ∧ i = .int .i64 j ∧ Hid (SeC 56 w wr (setB c (l.take j)))) (fun i _ => n - (intOf i).toNat)
  case atStart => exact ⟨0, Nat.zero_le _, rfl, by rw [show setB c (l.take 0) = c from rfl]; exact C⟩
  case round =>
    clear C
    obtain ⟨j, hj, rfl, C⟩ := hrel
    obtain ⟨cc, hcc⟩ : ∃ cc, Hid (setB c (l.take j) = cc) := ⟨_, Lib.hid rfl⟩
    rw [hcc.out] at C
    by_cases hlt : j < n
    · obtain ⟨b, o, y, A3, c3, rfl, hb3, hx, h3, h4, h5, h6⟩ := (HR.out.below C.out.bel).opt (k := j) (by rw [HL.out]; exact hlt)
      have hy := okL_at HQ.out hx
      have hyb := (HO.out y (List.mem_of_getElem? hx)).2
      have hyd := HD.out y (List.mem_of_getElem? hx)
      have i1 : (0 : Int) ≤ j := by omega
      have i2 : (j : Int) < n := by omega
      have HS := Lib.hid (set_snoc (c := c) hx)
      obtain ⟨d, hd⟩ : ∃ d, Hid (grantB cc y = d) := ⟨_, Lib.hid rfl⟩
      have hbA := (Below.refl wr.heap.size wr).alloc (Nat.le_refl _) (.cells #[.int .u8 (y.1 : Int), .slice A3 y.2.length c3] 33)
      have H6 := Lib.hid (h6.rd.on hbA)
      replace C := Lib.hid (C.out.step hbA)
      obtain ⟨x0, x1, x2, x3, x4, x5, x6⟩ := C.out.cf.all; obtain ⟨y0, y1, y2, y3, y4, y5, y6⟩ := C.out.cf.free; obtain ⟨r0, r1, r2, r3, r4, r5, r6⟩ := C.out.res.all; obtain ⟨s0, s1, s2, s3, s4, s5, s6⟩ := C.out.res.free
      clear hx h6 hbA
      go_wp2_with (go_at_call 35; (with_reducible refine (grant_any cc y hy hyb y.2.length c3 A3 _ H6.out rfl hyd d hd.out).mono ?_); rintro e wn ⟨rfl, hb⟩; replace C := Lib.hid (C.out.step hb); clear x0 x1 x2 x3 x4 x5 x6 y0 y1 y2 y3 y4 y5 y6 r0 r1 r2 r3 r4 r5 r6 s0 s1 s2 s3 s4 s5 s6; obtain ⟨x0, x1, x2, x3, x4, x5, x6⟩ := C.out.cf.all; obtain ⟨y0, y1, y2, y3, y4, y5, y6⟩ := C.out.cf.free; obtain ⟨r0, r1, r2, r3, r4, r5, r6⟩ := C.out.res.all; obtain ⟨s0, s1, s2, s3, s4, s5, s6⟩ := C.out.res.free; clear hb)
      go_roundw
      case rel => exact ⟨j + 1, by omega, by go_num, Lib.hid (by rw [HS.out, hcc.out, hd.out]; exact C.out.put d)⟩
      case measure => simp [intOf]; omega
    · have he : j = n := by omega
      subst he
      have HE := hcc
      rw [List.take_of_length_le (by rw [HL.out]; exact Nat.le_refl _)] at HE
      obtain ⟨x0, x1, x2, x3, x4, x5, x6⟩ := C.out.cf.all; obtain ⟨y0, y1, y2, y3, y4, y5, y6⟩ := C.out.cf.free; obtain ⟨r0, r1, r2, r3, r4, r5, r6⟩ := C.out.res.all; obtain ⟨s0, s1, s2, s3, s4, s5, s6⟩ := C.out.res.free
      by_cases hk : chk cc.mru = 0
      · have e : x = cc ∧ q = 0 := by
          rw [ansB, HQ.out, if_pos rfl, HE.out, if_pos hk] at ha
          exact ⟨(Prod.mk.inj ha).1.symm, (Prod.mk.inj ha).2.symm⟩
        obtain ⟨rfl, rfl⟩ := e
        have HK := Lib.hid hk
        clear hk ha
        go_wp2_with (go_at_call 36; (with_reducible refine (check_v x _ HK.out _).mono ?_); rintro e wn ⟨rfl, hb⟩; replace C := Lib.hid (C.out.step hb); clear x0 x1 x2 x3 x4 x5 x6 y0 y1 y2 y3 y4 y5 y6 r0 r1 r2 r3 r4 r5 r6 s0 s1 s2 s3 s4 s5 s6; obtain ⟨x0, x1, x2, x3, x4, x5, x6⟩ := C.out.cf.all; obtain ⟨y0, y1, y2, y3, y4, y5, y6⟩ := C.out.cf.free; obtain ⟨r0, r1, r2, r3, r4, r5, r6⟩ := C.out.res.all; obtain ⟨s0, s1, s2, s3, s4, s5, s6⟩ := C.out.res.free; clear hb)
        refine bodyPost_ret (v := .tuple #[x.val, .int .i64 0]) ?_ rfl ⟨rfl, ?_⟩
        · exact results_row_tmp rfl _ _ _ (w.heap.size + 1) 56 _ _ _ rfl rfl (put7_bx C.out.res x) Try.underlying56 (by kernel_rfl)
        · exact put7_below C.out.bel (by omega) x
      · have e : x = cf0 ∧ q = 5 := by
          rw [ansB, HQ.out, if_pos rfl, HE.out, if_neg hk] at ha
          have := chk_cases cc.mru
          have h5 := (Prod.mk.inj ha).2
          exact ⟨(Prod.mk.inj ha).1.symm, by omega⟩
        obtain ⟨rfl, rfl⟩ := e
        have HK := Lib.hid (show chk cc.mru = 5 by have := chk_cases cc.mru; omega)
        clear hk ha
        go_wp2_with (go_at_call 36; (with_reducible refine (check_v cc _ HK.out _).mono ?_); rintro e wn ⟨rfl, hb⟩; replace C := Lib.hid (C.out.step hb); clear x0 x1 x2 x3 x4 x5 x6 y0 y1 y2 y3 y4 y5 y6 r0 r1 r2 r3 r4 r5 r6 s0 s1 s2 s3 s4 s5 s6; obtain ⟨x0, x1, x2, x3, x4, x5, x6⟩ := C.out.cf.all; obtain ⟨y0, y1, y2, y3, y4, y5, y6⟩ := C.out.cf.free; obtain ⟨r0, r1, r2, r3, r4, r5, r6⟩ := C.out.res.all; obtain ⟨s0, s1, s2, s3, s4, s5, s6⟩ := C.out.res.free; clear hb)
        refine bodyPost_ret (v := .tuple #[cf0.val, .int .i64 5]) ?_ rfl ⟨rfl, ?_⟩
        · exact results_row_tmp rfl _ _ _ (w.heap.size + 1) 56 _ _ _ rfl rfl (put7_bx C.out.res cf0) Try.underlying56 (by kernel_rfl)
        · exact put7_below C.out.bel (by omega) cf0

theorem settle_any (c : Cf) (l : List (Nat × List Nat)) (n k : Nat) (A : Option Addr) (F : Nat → Prop) (w : World) (h : Rws shO F w A l) (ho : ByO l) (hl : l.length = n) (hn : n ≤ 68719476736) (x : Cf) (q : Int) (ha : ansB c l = (x, q)) (hd : ∀ o ∈ l, o.2.length ≤ 274877906944) :
    Calls Try.prog 24 #[c.val, .slice A n k] w fun e w' => e = .returned (.tuple #[x.val, .int .i64 q]) ∧ Below w.heap.size w w' := by
  cases hq : okL (tabB 49185) l
  · rw [ansB, hq, if_neg (by decide)] at ha
    obtain ⟨rfl, rfl⟩ := Prod.mk.inj ha
    exact settle_no c l n k A F w h ho hl hn hq
  · exact settle_yes c l n k A F w h ho hl hn hq x q ha hd
end Go.Proofs.Ytmilbkhkefbjkaa
