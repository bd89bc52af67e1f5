
/-
  EtherBack's walk. No condition.
-/
import Derived.Test.YtmhjnghomihjlaaGreatEthJ
import Derived.Test.YtmhjnghomihjlaaGreatEthH
import Derived.Test.YtmhjnghomihjlaaGreatEthN
import Derived.Deep.CutRange
import Derived.Deep.RegionHeld3
namespace Go.Proofs.YtmhjnghomihjlaaGreat
set_option maxRecDepth 4000
open Go.RowKit
set_option linter.unusedVariables false

theorem fewE_ofB {f : Fr} (h : fewE f = true) : tgfew f.tags = true ∧ fewP f.pkt = true := by
  unfold fewE at h
  simpa using h
/-- Two frames that say the same, each in a block. -/
structure BbL (T U : TypeId) (w W : World) (g1 g2 : Nat) (f : Fr) (q1 q2 : Fl) : Prop where
  bel : Below w.heap.size w W
  x1 : Fx W g1 T f q1
  x2 : Fx W g2 U f q2
  p1 : FwF (fun _ => True) W f q1
  p2 : FwF (fun _ => True) W f q2
section
variable {T U : TypeId} {w W X W' : World} {g1 g2 : Nat} {f : Fr} {q1 q2 : Fl}
theorem BbL.step (h : BbL T U w W g1 g2 f q1 q2) (hb : Below X.heap.size X W') (hX : Below W.heap.size W X := by first | exact Below.refl _ _ | exact (Below.refl _ _).drew) : BbL T U w W' g1 g2 f q1 q2 :=
  have hh := hX.trans (hb.mono hX.size)
  ⟨h.bel.trans (hh.mono h.bel.size), h.x1.below hh, h.x2.below hh, h.p1.on hh, h.p2.on hh⟩
theorem BbL.drew (h : BbL T U w W g1 g2 f q1 q2) : BbL T U w W.drew g1 g2 f q1 q2 := h.step (X := W) (Below.refl _ _).drew
theorem BbL.flat (h : BbL T U w W g1 g2 f q1 q2) : W.cell? ⟨g1, 0, none⟩ = some (.int .u8 (f.code : Int)) ∧ W.cell? ⟨g1, 1, none⟩ = some (.int .u16 (f.sess : Int)) ∧ W.cell? ⟨g1, 2, none⟩ = some (.slice q1.at_ q1.nt q1.ct) ∧ W.cell? ⟨g1, 3, none⟩ = some (.int .u16 (f.pkt.proto : Int)) ∧ W.cell? ⟨g1, 4, none⟩ = some (.int .u8 (f.pkt.code : Int)) ∧ W.cell? ⟨g1, 5, none⟩ = some (.int .u8 (f.pkt.id : Int)) ∧ W.cell? ⟨g1, 6, none⟩ = some (.slice q1.pl.ao q1.pl.no q1.pl.co) ∧ W.cell? ⟨g1, 7, none⟩ = some (.int .u16 (f.pkt.sub : Int)) ∧ W.cell? ⟨g1, 8, none⟩ = some (.int .u32 (f.pkt.magic : Int)) ∧ W.cell? ⟨g1, 9, none⟩ = some (.slice q1.pl.a1 q1.pl.n1 q1.pl.c1) ∧ W.cell? ⟨g1, 10, none⟩ = some (.slice q1.pl.a2 q1.pl.n2 q1.pl.c2) ∧ W.cell? ⟨g1, 11, none⟩ = some (.slice q1.pl.ad q1.pl.nd q1.pl.cd) ∧ W.cell? ⟨g1, 12, none⟩ = some (.slice q1.pl.an q1.pl.nn q1.pl.cn) ∧ W.cell? ⟨g2, 0, none⟩ = some (.int .u8 (f.code : Int)) ∧ W.cell? ⟨g2, 1, none⟩ = some (.int .u16 (f.sess : Int)) ∧ W.cell? ⟨g2, 2, none⟩ = some (.slice q2.at_ q2.nt q2.ct) ∧ W.cell? ⟨g2, 3, none⟩ = some (.int .u16 (f.pkt.proto : Int)) ∧ W.cell? ⟨g2, 4, none⟩ = some (.int .u8 (f.pkt.code : Int)) ∧ W.cell? ⟨g2, 5, none⟩ = some (.int .u8 (f.pkt.id : Int)) ∧ W.cell? ⟨g2, 6, none⟩ = some (.slice q2.pl.ao q2.pl.no q2.pl.co) ∧ W.cell? ⟨g2, 7, none⟩ = some (.int .u16 (f.pkt.sub : Int)) ∧ W.cell? ⟨g2, 8, none⟩ = some (.int .u32 (f.pkt.magic : Int)) ∧ W.cell? ⟨g2, 9, none⟩ = some (.slice q2.pl.a1 q2.pl.n1 q2.pl.c1) ∧ W.cell? ⟨g2, 10, none⟩ = some (.slice q2.pl.a2 q2.pl.n2 q2.pl.c2) ∧ W.cell? ⟨g2, 11, none⟩ = some (.slice q2.pl.ad q2.pl.nd q2.pl.cd) ∧ W.cell? ⟨g2, 12, none⟩ = some (.slice q2.pl.an q2.pl.nn q2.pl.cn) := by
  obtain ⟨x0, x1, x2, x3, x4, x5, x6, x7, x8, x9, x10, x11, x12⟩ := h.x1.all
  exact ⟨x0, x1, x2, x3, x4, x5, x6, x7, x8, x9, x10, x11, x12, h.x2.all⟩
end
theorem eget_z (b : List Nat) (n cap : Nat) (A : Option Addr) (w : World) (h : Rd w w.heap.size A b) (hb : By b) (hl : b.length = n) (hn : n ≤ 1073741824) (hc : n ≤ cap) (f : Fr) (k : Nat) (hg : egetB b = (f, 0, k)) :
    Calls Tryz.prog 11 #[.slice A n cap] w fun e w' => ∃ q, e = .returned (.tuple #[f.val q, .int .i64 0, .int .i64 (k : Int)]) ∧ FwF (fun _ => True) w' f q ∧ Below w.heap.size w w' := eget_any b n cap A w h hb hl hn hc f 0 k hg
theorem eget_k (b : List Nat) (n cap : Nat) (A : Option Addr) (w : World) (h : Rd w w.heap.size A b) (hb : By b) (hl : b.length = n) (hn : n ≤ 1073741824) (hc : n ≤ cap) (f : Fr) (m : Nat) (hg : egetB b = (f, m, 0)) :
    Calls Tryz.prog 11 #[.slice A n cap] w fun e w' => ∃ q, e = .returned (.tuple #[f.val q, .int .i64 (m : Int), .int .i64 0]) ∧ FwF (fun _ => True) w' f q ∧ Below w.heap.size w w' := eget_any b n cap A w h hb hl hn hc f m 0 hg
theorem eput_k (f : Fr) (q : Fl) (w : World) (h : FwF (fun _ => True) w f q) (hok : f.ok) (hs : f.pkt.sm) (hn : f.tags.length ≤ 137438953472) (hd : tgdat f.tags ≤ 68719476736) (hl : (bputB f.pkt).1.length ≤ 549755813888) (m : List Nat) (hm : eputB f = (m, 0)) (n : Nat) (hn9 : m.length = n) :
    Calls Tryz.prog 8 #[f.val q] w fun e w' => ∃ A c, e = .returned (.tuple #[.slice A n c, .int .i64 0]) ∧ Rd w' w'.heap.size A m ∧ n ≤ c ∧ Below w.heap.size w w' := eput_any f q w h hok hs (by rw [← h.lt]; exact hn) hd hl m 0 hm n hn9

set_option maxHeartbeats 4000000 in
theorem etbk_few (f : Fr) (q : Fl) (A1 : Option Addr) (n1 c1 : Nat) (A2 : Option Addr) (n2 c2 : Nat) (w : World) (h : IsFr w f q) (hf : fewE f = false) :
    Calls Tryz.prog 4 #[f.val q, .slice A1 n1 c1, .slice A2 n2 c2] w fun e w' => e = .returned (.bool true) ∧ Below w.heap.size w w' := by
  have C := Lib.hid (OpF.made 31 w f q)
  have H := Lib.hid h.fw
  have HI := Lib.hid h
  have HF := Lib.hid hf
  clear hf
  clear h
  go_enter Tryz.func4, Tryz.ntmps4
  go_wp2_with (first
    | (go_at_call 6; (with_reducible refine (speaks22 _).mono ?_); rintro e wn ⟨rfl, hb⟩; replace C := Lib.hid (C.out.step hb); clear hb; (try clear x0 x1 x2 x3 x4 x5 x6 x7 x8 x9 x10 x11 x12); obtain ⟨x0, x1, x2, x3, x4, x5, x6, x7, x8, x9, x10, x11, x12⟩ := C.out.cf.all)
    | (go_at_call 7; (with_reducible refine (efew_any f q _ (fun _ => True) (H.out.on C.out.bel) HI.out.nt HI.out.td HI.out.no HI.out.od _ HF.out).mono ?_); rintro e wn ⟨rfl, hb⟩; replace C := Lib.hid (C.out.step hb); clear hb; (try clear x0 x1 x2 x3 x4 x5 x6 x7 x8 x9 x10 x11 x12); obtain ⟨x0, x1, x2, x3, x4, x5, x6, x7, x8, x9, x10, x11, x12⟩ := C.out.cf.all))
  go_ret
  exact ⟨rfl, C.out.bel⟩

set_option maxHeartbeats 4000000 in
theorem etbk_long1 (f : Fr) (q : Fl) (A1 : Option Addr) (n1 c1 : Nat) (A2 : Option Addr) (n2 c2 : Nat) (w : World) (h : IsFr w f q) (hf : fewE f = true) (h1 : ¬ n1 ≤ 1000) :
    Calls Tryz.prog 4 #[f.val q, .slice A1 n1 c1, .slice A2 n2 c2] w fun e w' => e = .returned (.bool true) ∧ Below w.heap.size w w' := by
  have C := Lib.hid (OpF.made 31 w f q)
  have H := Lib.hid h.fw
  have HI := Lib.hid h
  have HF := Lib.hid hf
  have j1 : (1000 : Int) < (n1 : Int) := by omega
  clear hf h1
  clear h
  go_enter Tryz.func4, Tryz.ntmps4
  go_wp2_with (first
    | (go_at_call 6; (with_reducible refine (speaks22 _).mono ?_); rintro e wn ⟨rfl, hb⟩; replace C := Lib.hid (C.out.step hb); clear hb; (try clear x0 x1 x2 x3 x4 x5 x6 x7 x8 x9 x10 x11 x12); obtain ⟨x0, x1, x2, x3, x4, x5, x6, x7, x8, x9, x10, x11, x12⟩ := C.out.cf.all)
    | (go_at_call 7; (with_reducible refine (efew_any f q _ (fun _ => True) (H.out.on C.out.bel) HI.out.nt HI.out.td HI.out.no HI.out.od _ HF.out).mono ?_); rintro e wn ⟨rfl, hb⟩; replace C := Lib.hid (C.out.step hb); clear hb; (try clear x0 x1 x2 x3 x4 x5 x6 x7 x8 x9 x10 x11 x12); obtain ⟨x0, x1, x2, x3, x4, x5, x6, x7, x8, x9, x10, x11, x12⟩ := C.out.cf.all))
  go_ret
  exact ⟨rfl, C.out.bel⟩

set_option maxHeartbeats 4000000 in
theorem etbk_long2 (f : Fr) (q : Fl) (A1 : Option Addr) (n1 c1 : Nat) (A2 : Option Addr) (n2 c2 : Nat) (w : World) (h : IsFr w f q) (hf : fewE f = true) (h1 : n1 ≤ 1000) (h2 : ¬ n2 ≤ 2000) :
    Calls Tryz.prog 4 #[f.val q, .slice A1 n1 c1, .slice A2 n2 c2] w fun e w' => e = .returned (.bool true) ∧ Below w.heap.size w w' := by
  have C := Lib.hid (OpF.made 31 w f q)
  have H := Lib.hid h.fw
  have HI := Lib.hid h
  have HF := Lib.hid hf
  have j1 : ¬ (1000 : Int) < (n1 : Int) := by omega
  have j2 : (2000 : Int) < (n2 : Int) := by omega
  clear hf h1 h2
  clear h
  go_enter Tryz.func4, Tryz.ntmps4
  go_wp2_with (first
    | (go_at_call 6; (with_reducible refine (speaks22 _).mono ?_); rintro e wn ⟨rfl, hb⟩; replace C := Lib.hid (C.out.step hb); clear hb; (try clear x0 x1 x2 x3 x4 x5 x6 x7 x8 x9 x10 x11 x12); obtain ⟨x0, x1, x2, x3, x4, x5, x6, x7, x8, x9, x10, x11, x12⟩ := C.out.cf.all)
    | (go_at_call 7; (with_reducible refine (efew_any f q _ (fun _ => True) (H.out.on C.out.bel) HI.out.nt HI.out.td HI.out.no HI.out.od _ HF.out).mono ?_); rintro e wn ⟨rfl, hb⟩; replace C := Lib.hid (C.out.step hb); clear hb; (try clear x0 x1 x2 x3 x4 x5 x6 x7 x8 x9 x10 x11 x12); obtain ⟨x0, x1, x2, x3, x4, x5, x6, x7, x8, x9, x10, x11, x12⟩ := C.out.cf.all))
  go_ret
  exact ⟨rfl, C.out.bel⟩

set_option maxRecDepth 8000 in
set_option maxHeartbeats 40000000 in
theorem etbk_yes_yes (f : Fr) (q : Fl) (l1 : List Nat) (A1 : Option Addr) (n1 c1 : Nat) (b : List Nat) (A2 : Option Addr) (n2 c2 : Nat) (w : World) (h : IsFr w f q) (hR1 : Rd w w.heap.size A1 l1) (hB1 : By l1) (hL1 : l1.length = n1) (hR : Rd w w.heap.size A2 b) (hB : By b) (hL : b.length = n2) (hc2 : n2 ≤ c2) (hf : fewE f = true) (h1 : n1 ≤ 1000) (h2 : n2 ≤ 2000) (m : List Nat) (k : Nat) (hm : eputB f = (m, k)) (hk : k = 0) (y : Fr) (mm k2 : Nat) (hy : egetB b = (y, mm, k2)) (hk2 : k2 = 0) :
    Calls Tryz.prog 4 #[f.val q, .slice A1 n1 c1, .slice A2 n2 c2] w fun e w' => e = .returned (.bool true) ∧ Below w.heap.size w w' := by
  obtain ⟨i0, hi, hz0, hz1, hz2⟩ := info_parts byte_info
  have C := Lib.hid (OpF.made 31 w f q)
  have H := Lib.hid h.fw
  have HI := Lib.hid h
  have HF := Lib.hid hf
  obtain ⟨ht, hp⟩ := fewE_ofB hf
  obtain ⟨hln, htd⟩ := tgfew_of ht
  have HOK := Lib.hid h.ok
  have HS := Lib.hid (fewP_sm hp)
  have hnt : q.nt ≤ 60 := by rw [← h.fw.lt]; exact hln
  have QN := Lib.hid (Nat.le_trans hnt (by decide) : q.nt ≤ 1073741824)
  have QO := Lib.hid (show q.pl.no ≤ 1073741824 by rw [← h.fw.pk.lo]; exact (fewP_sm hp).o)
  have LN := Lib.hid (Nat.le_trans hln (by decide) : f.tags.length ≤ 137438953472)
  have LQ := Lib.hid (Nat.le_trans hln (by decide) : f.tags.length ≤ 1073741824)
  have TD := Lib.hid (Nat.le_trans htd (by decide) : tgdat f.tags ≤ 68719476736)
  have HLB := Lib.hid (Nat.le_trans (bput_len (p := f.pkt) (m := (bputB f.pkt).1) (k := (bputB f.pkt).2) rfl hp) (by decide) : (bputB f.pkt).1.length ≤ 549755813888)
  have HR1 := Lib.hid hR1
  have HL1 := Lib.hid hL1
  have HR := Lib.hid hR
  have HB := Lib.hid hB
  have HL := Lib.hid hL
  have HC2 := Lib.hid hc2
  have j1 : ¬ (1000 : Int) < (n1 : Int) := by omega
  have j2 : ¬ (2000 : Int) < (n2 : Int) := by omega
  have N2 := Lib.hid (Nat.le_trans h2 (by decide) : n2 ≤ 1073741824)
  obtain ⟨nm, hnm⟩ : ∃ x, Hid (m.length = x) := ⟨_, Lib.hid rfl⟩
  have hnm9 : nm ≤ 1500 := by rw [← hnm.out]; exact eput_len hm
  obtain ⟨yg, ysm, yl, yd, yb⟩ := eget_sm hB (by omega) hy
  have YG := Lib.hid yg
  have YS := Lib.hid ysm
  have YL := Lib.hid (show y.tags.length ≤ 1073741824 by omega)
  subst hk
  have HM := Lib.hid hm
  obtain ⟨s, hs⟩ : ∃ s, nm + n1 = s := ⟨_, rfl⟩
  have hg1 := eget_put h.ok hm l1
  rw [hnm.out] at hg1
  have HG1 := Lib.hid hg1
  have BS := Lib.hid ((eput_by h.ok hm).app hB1)
  have LS := Lib.hid (show (m ++ l1).length = s by rw [List.length_append, hnm.out, hL1, hs])
  have S9 := Lib.hid (show s ≤ 1073741824 by omega)
  have NS := Lib.hid (show nm + n1 ≤ 1099511627776 by omega)
  clear hg1
  subst hk2
  have HGY := Lib.hid hy
  obtain ⟨yok, ymm, m2, hm2, hm2l⟩ := eput_get hB (by omega) hy
  have YOK := Lib.hid yok
  have HM2 := Lib.hid hm2
  obtain ⟨n3, hn3⟩ : ∃ x, Hid (m2.length = x) := ⟨_, Lib.hid rfl⟩
  have hg2 := eget_own yok hm2
  rw [hn3.out] at hg2
  have HG2 := Lib.hid hg2
  have BM2 := Lib.hid (eput_by yok hm2)
  have YLN := Lib.hid (show y.tags.length ≤ 137438953472 by omega)
  have YTD := Lib.hid (show tgdat y.tags ≤ 68719476736 by omega)
  have YBL := Lib.hid (show (bputB y.pkt).1.length ≤ 549755813888 by omega)
  rw [hn3.out] at hm2l
  have N3 := Lib.hid (show n3 ≤ 1073741824 by omega)
  have g5 : (mm : Int) ≤ (n2 : Int) := by omega
  have g6 : (n3 : Int) ≤ (mm : Int) := by omega
  clear h hf hR1 hB1 hL1 hR hB hL hc2 hm hy ht hp hln htd hnt yg ysm yl yd yb h1 h2 hnm9 hg2 hm2 hm2l yok ymm  
  go_enter Tryz.func4, Tryz.ntmps4
  go_upto_region 6 with (first
    | (go_at_call 6; (with_reducible refine (speaks22 _).mono ?_); rintro e wn ⟨rfl, hb⟩; replace C := Lib.hid (C.out.step hb); clear hb; (try clear x0 x1 x2 x3 x4 x5 x6 x7 x8 x9 x10 x11 x12); obtain ⟨x0, x1, x2, x3, x4, x5, x6, x7, x8, x9, x10, x11, x12⟩ := C.out.cf.all)
    | (go_at_call 7; (with_reducible refine (efew_any f q _ (fun _ => True) (H.out.on C.out.bel) HI.out.nt HI.out.td HI.out.no HI.out.od _ HF.out).mono ?_); rintro e wn ⟨rfl, hb⟩; replace C := Lib.hid (C.out.step hb); clear hb; (try clear x0 x1 x2 x3 x4 x5 x6 x7 x8 x9 x10 x11 x12); obtain ⟨x0, x1, x2, x3, x4, x5, x6, x7, x8, x9, x10, x11, x12⟩ := C.out.cf.all)
    | (go_at_call 9; (with_reducible refine (eofF_any (fun _ => True) f q _ (fun _ _ => trivial) (H.out.on C.out.bel) QN.out QO.out).mono ?_); rintro e wn ⟨r3, rfl, hp, hb⟩; have P := Lib.hid hp; replace C := Lib.hid (C.out.step hb); clear hp hb; (try clear x0 x1 x2 x3 x4 x5 x6 x7 x8 x9 x10 x11 x12); obtain ⟨x0, x1, x2, x3, x4, x5, x6, x7, x8, x9, x10, x11, x12⟩ := C.out.cf.all)
    | (go_at_call 8; (with_reducible refine (eput_k f r3 _ P.out HOK.out HS.out LN.out TD.out HLB.out m HM.out nm hnm.out).mono ?_); rintro e wn ⟨A5, c5, rfl, h5, h5c, hb⟩; replace C := Lib.hid (C.out.step hb); have X5 := Lib.hid h5; have HO := Lib.hid (own_new wn wn.heap.size (Nat.le_refl _)); have HX := Lib.hid ((Below.refl wn.heap.size wn).alloc (Nat.le_refl _) (.cells #[] 5)); clear h5 h5c hb P; (try clear x0 x1 x2 x3 x4 x5 x6 x7 x8 x9 x10 x11 x12); obtain ⟨x0, x1, x2, x3, x4, x5, x6, x7, x8, x9, x10, x11, x12⟩ := C.out.cf.all)
    | (at_builtin; refine list_app rfl _ _ _ rfl _ i0 Tryz.underlying26 hi hz0 hz1 hz2 _ _ 0 [] rfl HO.out _ _ nm _ m rfl (X5.out.below HX.out) hnm.out (by have := NS.out; omega) HX.out.size ?_; intro A6 c6 w6 ho6 hg6; rw [Nat.zero_add] at ho6; have HO6 := Lib.hid ho6; replace HX := Lib.hid (HX.out.grown hg6 HX.out.size (fun g hk => (HO.out.lt g hk).1)); clear ho6 hg6 HO)
    | (at_builtin; refine list_app rfl _ _ _ rfl _ i0 Tryz.underlying26 hi hz0 hz1 hz2 _ _ nm _ rfl HO6.out _ _ n1 _ l1 rfl ((HR1.out.on C.out.bel).below HX.out) HL1.out (by have := NS.out; omega) HX.out.size ?_; intro A7 c7 w7 ho7 hg7; have hb := HX.out.grown hg7 HX.out.size (fun g hk => (HO6.out.lt g hk).1); replace C := Lib.hid (C.out.step hb); have Y := Lib.hid (show Rd w7 w7.heap.size A7 (m ++ l1) from Rd.own ho7); have hc7 := own_cap ho7; rw [hs] at hc7 ⊢; have HC7 := Lib.hid hc7; clear ho7 hg7 HX HO6 hb hc7)
    | (go_at_call 11; (with_reducible refine (eget_k (m ++ l1) s c7 A7 _ Y.out BS.out LS.out S9.out HC7.out f nm HG1.out).mono ?_); rintro e w9 ⟨q1, rfl, hp1, hb⟩; have ba := (Below.refl w9.heap.size w9).alloc (Nat.le_refl _) (f.obj q1 42); have Z := Lib.hid (show BbL 42 31 w (w9.alloc (f.obj q1 42)) w9.heap.size w.heap.size f q1 q from ⟨((C.out.step hb).step ba).bel, fx_new w9 42 f q1, ((C.out.step hb).step ba).cf, hp1.on ba, H.out.on ((C.out.step hb).step ba).bel⟩); clear hp1 hb ba C Y))
  obtain ⟨g, hg⟩ : ∃ g, Hid (w9.heap.size = g) := ⟨_, Lib.hid rfl⟩
  rw [hg.out] at Z ⊢
  with_reducible refine at_worldP (fun W => Hid (BbL 42 31 w W g w.heap.size f q1 q)) Z ?_
  clear Z hg x0 x1 x2 x3 x4 x5 x6 x7 x8 x9 x10 x11 x12
  rintro W Z
  obtain ⟨x0, x1, x2, x3, x4, x5, x6, x7, x8, x9, x10, x11, x12, y0, y1, y2, y3, y4, y5, y6, y7, y8, y9, y10, y11, y12⟩ := Z.out.flat
  go_region_held3 (fun W => W.cell? ⟨g, 0, none⟩ = some (.int .u8 (f.code : Int)) ∧ W.cell? ⟨g, 1, none⟩ = some (.int .u16 (f.sess : Int)) ∧ W.cell? ⟨g, 2, none⟩ = some (.slice q1.at_ q1.nt q1.ct) ∧ W.cell? ⟨g, 3, none⟩ = some (.int .u16 (f.pkt.proto : Int)) ∧ W.cell? ⟨g, 4, none⟩ = some (.int .u8 (f.pkt.code : Int)) ∧ W.cell? ⟨g, 5, none⟩ = some (.int .u8 (f.pkt.id : Int)) ∧ W.cell? ⟨g, 6, none⟩ = some (.slice q1.pl.ao q1.pl.no q1.pl.co) ∧ W.cell? ⟨g, 7, none⟩ = some (.int .u16 (f.pkt.sub : Int)) ∧ W.cell? ⟨g, 8, none⟩ = some (.int .u32 (f.pkt.magic : Int)) ∧ W.cell? ⟨g, 9, none⟩ = some (.slice q1.pl.a1 q1.pl.n1 q1.pl.c1) ∧ W.cell? ⟨g, 10, none⟩ = some (.slice q1.pl.a2 q1.pl.n2 q1.pl.c2) ∧ W.cell? ⟨g, 11, none⟩ = some (.slice q1.pl.ad q1.pl.nd q1.pl.cd) ∧ W.cell? ⟨g, 12, none⟩ = some (.slice q1.pl.an q1.pl.nn q1.pl.cn) ∧ W.cell? ⟨w.heap.size, 0, none⟩ = some (.int .u8 (f.code : Int)) ∧ W.cell? ⟨w.heap.size, 1, none⟩ = some (.int .u16 (f.sess : Int)) ∧ W.cell? ⟨w.heap.size, 2, none⟩ = some (.slice q.at_ q.nt q.ct) ∧ W.cell? ⟨w.heap.size, 3, none⟩ = some (.int .u16 (f.pkt.proto : Int)) ∧ W.cell? ⟨w.heap.size, 4, none⟩ = some (.int .u8 (f.pkt.code : Int)) ∧ W.cell? ⟨w.heap.size, 5, none⟩ = some (.int .u8 (f.pkt.id : Int)) ∧ W.cell? ⟨w.heap.size, 6, none⟩ = some (.slice q.pl.ao q.pl.no q.pl.co) ∧ W.cell? ⟨w.heap.size, 7, none⟩ = some (.int .u16 (f.pkt.sub : Int)) ∧ W.cell? ⟨w.heap.size, 8, none⟩ = some (.int .u32 (f.pkt.magic : Int)) ∧ W.cell? ⟨w.heap.size, 9, none⟩ = some (.slice q.pl.a1 q.pl.n1 q.pl.c1) ∧ W.cell? ⟨w.heap.size, 10, none⟩ = some (.slice q.pl.a2 q.pl.n2 q.pl.c2) ∧ W.cell? ⟨w.heap.size, 11, none⟩ = some (.slice q.pl.ad q.pl.nd q.pl.cd) ∧ W.cell? ⟨w.heap.size, 12, none⟩ = some (.slice q.pl.an q.pl.nn q.pl.cn)) (first | (with_reducible exact Z.out.flat) | (with_reducible exact Z.out.drew.flat)) (first
    | (go_at_call 15; (first | (with_reducible refine (eto_v f q1 _ Z.out.p1 LQ.out HS.out.o).mono ?_) | (with_reducible refine (eto_v f q1 _ Z.out.drew.p1 LQ.out HS.out.o).mono ?_)); rintro e wn ⟨q3, rfl, hp, hb⟩; have P3 := Lib.hid hp; replace Z := Lib.hid (Z.out.step hb); clear hp hb; dsimp only)
    | (go_at_call 14; (with_reducible refine (esame_yes f q3 q _ P3.out Z.out.p2 HOK.out.tags HS.out (by rw [← P3.out.lt]; exact Nat.le_trans LQ.out (by decide))).mono ?_); rintro e wn ⟨rfl, hb⟩; replace Z := Lib.hid (Z.out.step hb); clear hb P3; dsimp only))
  all_goals (clear x0 x1 x2 x3 x4 x5 x6 x7 x8 x9 x10 x11 x12 y0 y1 y2 y3 y4 y5 y6 y7 y8 y9 y10 y11 y12; have B0 := Lib.hid Z.out.bel; clear Z)
  all_goals
    go_upto_region 11 with ((go_at_call 11; (with_reducible refine (eget_k b n2 c2 A2 _ (HR.out.on B0.out) HB.out HL.out N2.out HC2.out y mm HGY.out).mono ?_); rintro e w9 ⟨q1, rfl, hp1, hb⟩; have ba := (Below.refl w9.heap.size w9).alloc (Nat.le_refl _) (y.obj q1 42); have B := Lib.hid ((B0.out.trans (hb.mono B0.out.size)).alloc (B0.out.trans (hb.mono B0.out.size)).size (y.obj q1 42)); have V := Lib.hid (fx_new w9 42 y q1); have PV := Lib.hid (hp1.on ba); clear hp1 hb ba B0))
    obtain ⟨g, hg⟩ : ∃ g, Hid (w9.heap.size = g) := ⟨_, Lib.hid rfl⟩
    rw [hg.out] at V ⊢
    with_reducible refine at_worldP (fun W => Hid (Below w.heap.size w W) ∧ Hid (Fx W g 42 y q1) ∧ Hid (FwF (fun _ => True) W y q1)) ⟨B, V, PV⟩ ?_
    clear B V PV hg
    rintro W ⟨B, V, PV⟩
    obtain ⟨x0, x1, x2, x3, x4, x5, x6, x7, x8, x9, x10, x11, x12⟩ := V.out.all
    go_upto_region 15 with (first
      | (go_at_call 8; (with_reducible refine (eput_k y q1 _ PV.out YOK.out YS.out YLN.out YTD.out YBL.out m2 HM2.out n3 hn3.out).mono ?_); rintro e wn ⟨A8, c8, rfl, h8, h8c, hb⟩; replace B := Lib.hid (B.out.trans (hb.mono B.out.size)); replace V := Lib.hid (V.out.below hb); replace PV := Lib.hid (PV.out.on hb); have X8 := Lib.hid h8; have K8 := Lib.hid h8c; clear h8 h8c hb x0 x1 x2 x3 x4 x5 x6 x7 x8 x9 x10 x11 x12; obtain ⟨x0, x1, x2, x3, x4, x5, x6, x7, x8, x9, x10, x11, x12⟩ := V.out.all)
      | (go_at_call 11; (with_reducible refine (eget_k m2 n3 c8 A8 _ X8.out BM2.out hn3.out N3.out K8.out y n3 HG2.out).mono ?_); rintro e w11 ⟨q2, rfl, hp2, hb⟩; have ba := (Below.refl w11.heap.size w11).alloc (Nat.le_refl _) (y.obj q2 42); have Z := Lib.hid (show BbL 42 42 w (w11.alloc (y.obj q2 42)) g w11.heap.size y q1 q2 from ⟨(B.out.trans (hb.mono B.out.size)).alloc (B.out.trans (hb.mono B.out.size)).size _, (V.out.below hb).below ba, fx_new w11 42 y q2, (PV.out.on hb).on ba, hp2.on ba⟩); clear hp2 hb ba B V PV X8 x0 x1 x2 x3 x4 x5 x6 x7 x8 x9 x10 x11 x12))
    obtain ⟨x0, x1, x2, x3, x4, x5, x6, x7, x8, x9, x10, x11, x12, y0, y1, y2, y3, y4, y5, y6, y7, y8, y9, y10, y11, y12⟩ := Z.out.flat
    go_region_held3 (fun W => W.cell? ⟨g, 0, none⟩ = some (.int .u8 (y.code : Int)) ∧ W.cell? ⟨g, 1, none⟩ = some (.int .u16 (y.sess : Int)) ∧ W.cell? ⟨g, 2, none⟩ = some (.slice q1.at_ q1.nt q1.ct) ∧ W.cell? ⟨g, 3, none⟩ = some (.int .u16 (y.pkt.proto : Int)) ∧ W.cell? ⟨g, 4, none⟩ = some (.int .u8 (y.pkt.code : Int)) ∧ W.cell? ⟨g, 5, none⟩ = some (.int .u8 (y.pkt.id : Int)) ∧ W.cell? ⟨g, 6, none⟩ = some (.slice q1.pl.ao q1.pl.no q1.pl.co) ∧ W.cell? ⟨g, 7, none⟩ = some (.int .u16 (y.pkt.sub : Int)) ∧ W.cell? ⟨g, 8, none⟩ = some (.int .u32 (y.pkt.magic : Int)) ∧ W.cell? ⟨g, 9, none⟩ = some (.slice q1.pl.a1 q1.pl.n1 q1.pl.c1) ∧ W.cell? ⟨g, 10, none⟩ = some (.slice q1.pl.a2 q1.pl.n2 q1.pl.c2) ∧ W.cell? ⟨g, 11, none⟩ = some (.slice q1.pl.ad q1.pl.nd q1.pl.cd) ∧ W.cell? ⟨g, 12, none⟩ = some (.slice q1.pl.an q1.pl.nn q1.pl.cn) ∧ W.cell? ⟨w11.heap.size, 0, none⟩ = some (.int .u8 (y.code : Int)) ∧ W.cell? ⟨w11.heap.size, 1, none⟩ = some (.int .u16 (y.sess : Int)) ∧ W.cell? ⟨w11.heap.size, 2, none⟩ = some (.slice q2.at_ q2.nt q2.ct) ∧ W.cell? ⟨w11.heap.size, 3, none⟩ = some (.int .u16 (y.pkt.proto : Int)) ∧ W.cell? ⟨w11.heap.size, 4, none⟩ = some (.int .u8 (y.pkt.code : Int)) ∧ W.cell? ⟨w11.heap.size, 5, none⟩ = some (.int .u8 (y.pkt.id : Int)) ∧ W.cell? ⟨w11.heap.size, 6, none⟩ = some (.slice q2.pl.ao q2.pl.no q2.pl.co) ∧ W.cell? ⟨w11.heap.size, 7, none⟩ = some (.int .u16 (y.pkt.sub : Int)) ∧ W.cell? ⟨w11.heap.size, 8, none⟩ = some (.int .u32 (y.pkt.magic : Int)) ∧ W.cell? ⟨w11.heap.size, 9, none⟩ = some (.slice q2.pl.a1 q2.pl.n1 q2.pl.c1) ∧ W.cell? ⟨w11.heap.size, 10, none⟩ = some (.slice q2.pl.a2 q2.pl.n2 q2.pl.c2) ∧ W.cell? ⟨w11.heap.size, 11, none⟩ = some (.slice q2.pl.ad q2.pl.nd q2.pl.cd) ∧ W.cell? ⟨w11.heap.size, 12, none⟩ = some (.slice q2.pl.an q2.pl.nn q2.pl.cn)) (first | (with_reducible exact Z.out.flat) | (with_reducible exact Z.out.drew.flat)) (first
      | (go_at_call 15; (first | (with_reducible refine (eto_v y q1 _ Z.out.p1 YL.out YS.out.o).mono ?_) | (with_reducible refine (eto_v y q1 _ Z.out.drew.p1 YL.out YS.out.o).mono ?_)); rintro e wn ⟨q3, rfl, hp, hb⟩; have P3 := Lib.hid hp; (try replace P4 := Lib.hid (P4.out.on hb)); replace Z := Lib.hid (Z.out.step hb); clear hp hb; dsimp only)
      | (go_at_call 15; (first | (with_reducible refine (eto_v y q2 _ Z.out.p2 YL.out YS.out.o).mono ?_) | (with_reducible refine (eto_v y q2 _ Z.out.drew.p2 YL.out YS.out.o).mono ?_)); rintro e wn ⟨q4, rfl, hp, hb⟩; have P4 := Lib.hid hp; (try replace P3 := Lib.hid (P3.out.on hb)); replace Z := Lib.hid (Z.out.step hb); clear hp hb; dsimp only)
      | (go_at_call 14; (with_reducible refine (esame_yes y q4 q3 _ P4.out P3.out YG.out YS.out (by rw [← P4.out.lt]; exact Nat.le_trans YL.out (by decide))).mono ?_); rintro e wn ⟨rfl, hb⟩; replace Z := Lib.hid (Z.out.step hb); clear hb; dsimp only))
    all_goals go_wp2_with fail
    all_goals
      go_ret
      exact ⟨rfl, Z.out.bel⟩

set_option maxRecDepth 8000 in
set_option maxHeartbeats 40000000 in
theorem etbk_yes_no (f : Fr) (q : Fl) (l1 : List Nat) (A1 : Option Addr) (n1 c1 : Nat) (b : List Nat) (A2 : Option Addr) (n2 c2 : Nat) (w : World) (h : IsFr w f q) (hR1 : Rd w w.heap.size A1 l1) (hB1 : By l1) (hL1 : l1.length = n1) (hR : Rd w w.heap.size A2 b) (hB : By b) (hL : b.length = n2) (hc2 : n2 ≤ c2) (hf : fewE f = true) (h1 : n1 ≤ 1000) (h2 : n2 ≤ 2000) (m : List Nat) (k : Nat) (hm : eputB f = (m, k)) (hk : k = 0) (y : Fr) (mm k2 : Nat) (hy : egetB b = (y, mm, k2)) (hk2 : ¬ k2 = 0) :
    Calls Tryz.prog 4 #[f.val q, .slice A1 n1 c1, .slice A2 n2 c2] w fun e w' => e = .returned (.bool true) ∧ Below w.heap.size w w' := by
  obtain ⟨i0, hi, hz0, hz1, hz2⟩ := info_parts byte_info
  have C := Lib.hid (OpF.made 31 w f q)
  have H := Lib.hid h.fw
  have HI := Lib.hid h
  have HF := Lib.hid hf
  obtain ⟨ht, hp⟩ := fewE_ofB hf
  obtain ⟨hln, htd⟩ := tgfew_of ht
  have HOK := Lib.hid h.ok
  have HS := Lib.hid (fewP_sm hp)
  have hnt : q.nt ≤ 60 := by rw [← h.fw.lt]; exact hln
  have QN := Lib.hid (Nat.le_trans hnt (by decide) : q.nt ≤ 1073741824)
  have QO := Lib.hid (show q.pl.no ≤ 1073741824 by rw [← h.fw.pk.lo]; exact (fewP_sm hp).o)
  have LN := Lib.hid (Nat.le_trans hln (by decide) : f.tags.length ≤ 137438953472)
  have LQ := Lib.hid (Nat.le_trans hln (by decide) : f.tags.length ≤ 1073741824)
  have TD := Lib.hid (Nat.le_trans htd (by decide) : tgdat f.tags ≤ 68719476736)
  have HLB := Lib.hid (Nat.le_trans (bput_len (p := f.pkt) (m := (bputB f.pkt).1) (k := (bputB f.pkt).2) rfl hp) (by decide) : (bputB f.pkt).1.length ≤ 549755813888)
  have HR1 := Lib.hid hR1
  have HL1 := Lib.hid hL1
  have HR := Lib.hid hR
  have HB := Lib.hid hB
  have HL := Lib.hid hL
  have HC2 := Lib.hid hc2
  have j1 : ¬ (1000 : Int) < (n1 : Int) := by omega
  have j2 : ¬ (2000 : Int) < (n2 : Int) := by omega
  have N2 := Lib.hid (Nat.le_trans h2 (by decide) : n2 ≤ 1073741824)
  obtain ⟨nm, hnm⟩ : ∃ x, Hid (m.length = x) := ⟨_, Lib.hid rfl⟩
  have hnm9 : nm ≤ 1500 := by rw [← hnm.out]; exact eput_len hm
  obtain ⟨yg, ysm, yl, yd, yb⟩ := eget_sm hB (by omega) hy
  have YG := Lib.hid yg
  have YS := Lib.hid ysm
  have YL := Lib.hid (show y.tags.length ≤ 1073741824 by omega)
  subst hk
  have HM := Lib.hid hm
  obtain ⟨s, hs⟩ : ∃ s, nm + n1 = s := ⟨_, rfl⟩
  have hg1 := eget_put h.ok hm l1
  rw [hnm.out] at hg1
  have HG1 := Lib.hid hg1
  have BS := Lib.hid ((eput_by h.ok hm).app hB1)
  have LS := Lib.hid (show (m ++ l1).length = s by rw [List.length_append, hnm.out, hL1, hs])
  have S9 := Lib.hid (show s ≤ 1073741824 by omega)
  have NS := Lib.hid (show nm + n1 ≤ 1099511627776 by omega)
  clear hg1
  obtain ⟨hy0, hm00⟩ := eget_err hy hk2
  subst hm00
  have HGY := Lib.hid hy
  have HY0 := Lib.hid hy0.symm
  have g3 := ez0t k2 hk2
  clear h hf hR1 hB1 hL1 hR hB hL hc2 hm hy ht hp hln htd hnt yg ysm yl yd yb h1 h2 hnm9 hk2 hy0  
  go_enter Tryz.func4, Tryz.ntmps4
  go_upto_region 6 with (first
    | (go_at_call 6; (with_reducible refine (speaks22 _).mono ?_); rintro e wn ⟨rfl, hb⟩; replace C := Lib.hid (C.out.step hb); clear hb; (try clear x0 x1 x2 x3 x4 x5 x6 x7 x8 x9 x10 x11 x12); obtain ⟨x0, x1, x2, x3, x4, x5, x6, x7, x8, x9, x10, x11, x12⟩ := C.out.cf.all)
    | (go_at_call 7; (with_reducible refine (efew_any f q _ (fun _ => True) (H.out.on C.out.bel) HI.out.nt HI.out.td HI.out.no HI.out.od _ HF.out).mono ?_); rintro e wn ⟨rfl, hb⟩; replace C := Lib.hid (C.out.step hb); clear hb; (try clear x0 x1 x2 x3 x4 x5 x6 x7 x8 x9 x10 x11 x12); obtain ⟨x0, x1, x2, x3, x4, x5, x6, x7, x8, x9, x10, x11, x12⟩ := C.out.cf.all)
    | (go_at_call 9; (with_reducible refine (eofF_any (fun _ => True) f q _ (fun _ _ => trivial) (H.out.on C.out.bel) QN.out QO.out).mono ?_); rintro e wn ⟨r3, rfl, hp, hb⟩; have P := Lib.hid hp; replace C := Lib.hid (C.out.step hb); clear hp hb; (try clear x0 x1 x2 x3 x4 x5 x6 x7 x8 x9 x10 x11 x12); obtain ⟨x0, x1, x2, x3, x4, x5, x6, x7, x8, x9, x10, x11, x12⟩ := C.out.cf.all)
    | (go_at_call 8; (with_reducible refine (eput_k f r3 _ P.out HOK.out HS.out LN.out TD.out HLB.out m HM.out nm hnm.out).mono ?_); rintro e wn ⟨A5, c5, rfl, h5, h5c, hb⟩; replace C := Lib.hid (C.out.step hb); have X5 := Lib.hid h5; have HO := Lib.hid (own_new wn wn.heap.size (Nat.le_refl _)); have HX := Lib.hid ((Below.refl wn.heap.size wn).alloc (Nat.le_refl _) (.cells #[] 5)); clear h5 h5c hb P; (try clear x0 x1 x2 x3 x4 x5 x6 x7 x8 x9 x10 x11 x12); obtain ⟨x0, x1, x2, x3, x4, x5, x6, x7, x8, x9, x10, x11, x12⟩ := C.out.cf.all)
    | (at_builtin; refine list_app rfl _ _ _ rfl _ i0 Tryz.underlying26 hi hz0 hz1 hz2 _ _ 0 [] rfl HO.out _ _ nm _ m rfl (X5.out.below HX.out) hnm.out (by have := NS.out; omega) HX.out.size ?_; intro A6 c6 w6 ho6 hg6; rw [Nat.zero_add] at ho6; have HO6 := Lib.hid ho6; replace HX := Lib.hid (HX.out.grown hg6 HX.out.size (fun g hk => (HO.out.lt g hk).1)); clear ho6 hg6 HO)
    | (at_builtin; refine list_app rfl _ _ _ rfl _ i0 Tryz.underlying26 hi hz0 hz1 hz2 _ _ nm _ rfl HO6.out _ _ n1 _ l1 rfl ((HR1.out.on C.out.bel).below HX.out) HL1.out (by have := NS.out; omega) HX.out.size ?_; intro A7 c7 w7 ho7 hg7; have hb := HX.out.grown hg7 HX.out.size (fun g hk => (HO6.out.lt g hk).1); replace C := Lib.hid (C.out.step hb); have Y := Lib.hid (show Rd w7 w7.heap.size A7 (m ++ l1) from Rd.own ho7); have hc7 := own_cap ho7; rw [hs] at hc7 ⊢; have HC7 := Lib.hid hc7; clear ho7 hg7 HX HO6 hb hc7)
    | (go_at_call 11; (with_reducible refine (eget_k (m ++ l1) s c7 A7 _ Y.out BS.out LS.out S9.out HC7.out f nm HG1.out).mono ?_); rintro e w9 ⟨q1, rfl, hp1, hb⟩; have ba := (Below.refl w9.heap.size w9).alloc (Nat.le_refl _) (f.obj q1 42); have Z := Lib.hid (show BbL 42 31 w (w9.alloc (f.obj q1 42)) w9.heap.size w.heap.size f q1 q from ⟨((C.out.step hb).step ba).bel, fx_new w9 42 f q1, ((C.out.step hb).step ba).cf, hp1.on ba, H.out.on ((C.out.step hb).step ba).bel⟩); clear hp1 hb ba C Y))
  obtain ⟨g, hg⟩ : ∃ g, Hid (w9.heap.size = g) := ⟨_, Lib.hid rfl⟩
  rw [hg.out] at Z ⊢
  with_reducible refine at_worldP (fun W => Hid (BbL 42 31 w W g w.heap.size f q1 q)) Z ?_
  clear Z hg x0 x1 x2 x3 x4 x5 x6 x7 x8 x9 x10 x11 x12
  rintro W Z
  obtain ⟨x0, x1, x2, x3, x4, x5, x6, x7, x8, x9, x10, x11, x12, y0, y1, y2, y3, y4, y5, y6, y7, y8, y9, y10, y11, y12⟩ := Z.out.flat
  go_region_held3 (fun W => W.cell? ⟨g, 0, none⟩ = some (.int .u8 (f.code : Int)) ∧ W.cell? ⟨g, 1, none⟩ = some (.int .u16 (f.sess : Int)) ∧ W.cell? ⟨g, 2, none⟩ = some (.slice q1.at_ q1.nt q1.ct) ∧ W.cell? ⟨g, 3, none⟩ = some (.int .u16 (f.pkt.proto : Int)) ∧ W.cell? ⟨g, 4, none⟩ = some (.int .u8 (f.pkt.code : Int)) ∧ W.cell? ⟨g, 5, none⟩ = some (.int .u8 (f.pkt.id : Int)) ∧ W.cell? ⟨g, 6, none⟩ = some (.slice q1.pl.ao q1.pl.no q1.pl.co) ∧ W.cell? ⟨g, 7, none⟩ = some (.int .u16 (f.pkt.sub : Int)) ∧ W.cell? ⟨g, 8, none⟩ = some (.int .u32 (f.pkt.magic : Int)) ∧ W.cell? ⟨g, 9, none⟩ = some (.slice q1.pl.a1 q1.pl.n1 q1.pl.c1) ∧ W.cell? ⟨g, 10, none⟩ = some (.slice q1.pl.a2 q1.pl.n2 q1.pl.c2) ∧ W.cell? ⟨g, 11, none⟩ = some (.slice q1.pl.ad q1.pl.nd q1.pl.cd) ∧ W.cell? ⟨g, 12, none⟩ = some (.slice q1.pl.an q1.pl.nn q1.pl.cn) ∧ W.cell? ⟨w.heap.size, 0, none⟩ = some (.int .u8 (f.code : Int)) ∧ W.cell? ⟨w.heap.size, 1, none⟩ = some (.int .u16 (f.sess : Int)) ∧ W.cell? ⟨w.heap.size, 2, none⟩ = some (.slice q.at_ q.nt q.ct) ∧ W.cell? ⟨w.heap.size, 3, none⟩ = some (.int .u16 (f.pkt.proto : Int)) ∧ W.cell? ⟨w.heap.size, 4, none⟩ = some (.int .u8 (f.pkt.code : Int)) ∧ W.cell? ⟨w.heap.size, 5, none⟩ = some (.int .u8 (f.pkt.id : Int)) ∧ W.cell? ⟨w.heap.size, 6, none⟩ = some (.slice q.pl.ao q.pl.no q.pl.co) ∧ W.cell? ⟨w.heap.size, 7, none⟩ = some (.int .u16 (f.pkt.sub : Int)) ∧ W.cell? ⟨w.heap.size, 8, none⟩ = some (.int .u32 (f.pkt.magic : Int)) ∧ W.cell? ⟨w.heap.size, 9, none⟩ = some (.slice q.pl.a1 q.pl.n1 q.pl.c1) ∧ W.cell? ⟨w.heap.size, 10, none⟩ = some (.slice q.pl.a2 q.pl.n2 q.pl.c2) ∧ W.cell? ⟨w.heap.size, 11, none⟩ = some (.slice q.pl.ad q.pl.nd q.pl.cd) ∧ W.cell? ⟨w.heap.size, 12, none⟩ = some (.slice q.pl.an q.pl.nn q.pl.cn)) (first | (with_reducible exact Z.out.flat) | (with_reducible exact Z.out.drew.flat)) (first
    | (go_at_call 15; (first | (with_reducible refine (eto_v f q1 _ Z.out.p1 LQ.out HS.out.o).mono ?_) | (with_reducible refine (eto_v f q1 _ Z.out.drew.p1 LQ.out HS.out.o).mono ?_)); rintro e wn ⟨q3, rfl, hp, hb⟩; have P3 := Lib.hid hp; replace Z := Lib.hid (Z.out.step hb); clear hp hb; dsimp only)
    | (go_at_call 14; (with_reducible refine (esame_yes f q3 q _ P3.out Z.out.p2 HOK.out.tags HS.out (by rw [← P3.out.lt]; exact Nat.le_trans LQ.out (by decide))).mono ?_); rintro e wn ⟨rfl, hb⟩; replace Z := Lib.hid (Z.out.step hb); clear hb P3; dsimp only))
  all_goals (clear x0 x1 x2 x3 x4 x5 x6 x7 x8 x9 x10 x11 x12 y0 y1 y2 y3 y4 y5 y6 y7 y8 y9 y10 y11 y12; have B0 := Lib.hid Z.out.bel; clear Z)
  all_goals
    go_upto_region 11 with ((go_at_call 11; (with_reducible refine (eget_z b n2 c2 A2 _ (HR.out.on B0.out) HB.out HL.out N2.out HC2.out y k2 HGY.out).mono ?_); rintro e w9 ⟨q1, rfl, hp1, hb⟩; have ba := (Below.refl w9.heap.size w9).alloc (Nat.le_refl _) (y.obj q1 42); have B := Lib.hid ((B0.out.trans (hb.mono B0.out.size)).alloc (B0.out.trans (hb.mono B0.out.size)).size (y.obj q1 42)); have V := Lib.hid (fx_new w9 42 y q1); have PV := Lib.hid (hp1.on ba); clear hp1 hb ba B0))
    obtain ⟨g, hg⟩ : ∃ g, Hid (w9.heap.size = g) := ⟨_, Lib.hid rfl⟩
    rw [hg.out] at V ⊢
    with_reducible refine at_worldP (fun W => Hid (Below w.heap.size w W) ∧ Hid (Fx W g 42 y q1) ∧ Hid (FwF (fun _ => True) W y q1)) ⟨B, V, PV⟩ ?_
    clear B V PV hg
    rintro W ⟨B, V, PV⟩
    obtain ⟨x0, x1, x2, x3, x4, x5, x6, x7, x8, x9, x10, x11, x12⟩ := V.out.all
    go_wp2_with (first
      | (go_at_call 15; (with_reducible refine (eto_v y q1 _ PV.out YL.out YS.out.o).mono ?_); rintro e wn ⟨q3, rfl, hp, hb⟩; have P3 := Lib.hid hp; replace B := Lib.hid (B.out.trans (hb.mono B.out.size)); clear hp hb)
      | (go_at_call 14; (with_reducible refine (esame_zero y HY0.out q3 _ P3.out).mono ?_); rintro e wn ⟨rfl, hb⟩; replace B := Lib.hid (B.out.trans (hb.mono B.out.size)); clear hb))
    go_ret
    exact ⟨rfl, B.out⟩

set_option maxRecDepth 8000 in
set_option maxHeartbeats 40000000 in
theorem etbk_no_yes (f : Fr) (q : Fl) (l1 : List Nat) (A1 : Option Addr) (n1 c1 : Nat) (b : List Nat) (A2 : Option Addr) (n2 c2 : Nat) (w : World) (h : IsFr w f q) (hR1 : Rd w w.heap.size A1 l1) (hB1 : By l1) (hL1 : l1.length = n1) (hR : Rd w w.heap.size A2 b) (hB : By b) (hL : b.length = n2) (hc2 : n2 ≤ c2) (hf : fewE f = true) (h1 : n1 ≤ 1000) (h2 : n2 ≤ 2000) (m : List Nat) (k : Nat) (hm : eputB f = (m, k)) (hk : ¬ k = 0) (y : Fr) (mm k2 : Nat) (hy : egetB b = (y, mm, k2)) (hk2 : k2 = 0) :
    Calls Tryz.prog 4 #[f.val q, .slice A1 n1 c1, .slice A2 n2 c2] w fun e w' => e = .returned (.bool true) ∧ Below w.heap.size w w' := by
  obtain ⟨i0, hi, hz0, hz1, hz2⟩ := info_parts byte_info
  have C := Lib.hid (OpF.made 31 w f q)
  have H := Lib.hid h.fw
  have HI := Lib.hid h
  have HF := Lib.hid hf
  obtain ⟨ht, hp⟩ := fewE_ofB hf
  obtain ⟨hln, htd⟩ := tgfew_of ht
  have HOK := Lib.hid h.ok
  have HS := Lib.hid (fewP_sm hp)
  have hnt : q.nt ≤ 60 := by rw [← h.fw.lt]; exact hln
  have QN := Lib.hid (Nat.le_trans hnt (by decide) : q.nt ≤ 1073741824)
  have QO := Lib.hid (show q.pl.no ≤ 1073741824 by rw [← h.fw.pk.lo]; exact (fewP_sm hp).o)
  have LN := Lib.hid (Nat.le_trans hln (by decide) : f.tags.length ≤ 137438953472)
  have LQ := Lib.hid (Nat.le_trans hln (by decide) : f.tags.length ≤ 1073741824)
  have TD := Lib.hid (Nat.le_trans htd (by decide) : tgdat f.tags ≤ 68719476736)
  have HLB := Lib.hid (Nat.le_trans (bput_len (p := f.pkt) (m := (bputB f.pkt).1) (k := (bputB f.pkt).2) rfl hp) (by decide) : (bputB f.pkt).1.length ≤ 549755813888)
  have HR1 := Lib.hid hR1
  have HL1 := Lib.hid hL1
  have HR := Lib.hid hR
  have HB := Lib.hid hB
  have HL := Lib.hid hL
  have HC2 := Lib.hid hc2
  have j1 : ¬ (1000 : Int) < (n1 : Int) := by omega
  have j2 : ¬ (2000 : Int) < (n2 : Int) := by omega
  have N2 := Lib.hid (Nat.le_trans h2 (by decide) : n2 ≤ 1073741824)
  obtain ⟨nm, hnm⟩ : ∃ x, Hid (m.length = x) := ⟨_, Lib.hid rfl⟩
  have hnm9 : nm ≤ 1500 := by rw [← hnm.out]; exact eput_len hm
  obtain ⟨yg, ysm, yl, yd, yb⟩ := eget_sm hB (by omega) hy
  have YG := Lib.hid yg
  have YS := Lib.hid ysm
  have YL := Lib.hid (show y.tags.length ≤ 1073741824 by omega)
  have HM := Lib.hid hm
  have hm0 : m = [] := eput_err hm hk
  have g1 : ((nm : Int) != 0) = false := by rw [← hnm.out, hm0]; rfl
  have g2 := ez0f k hk
  subst hk2
  have HGY := Lib.hid hy
  obtain ⟨yok, ymm, m2, hm2, hm2l⟩ := eput_get hB (by omega) hy
  have YOK := Lib.hid yok
  have HM2 := Lib.hid hm2
  obtain ⟨n3, hn3⟩ : ∃ x, Hid (m2.length = x) := ⟨_, Lib.hid rfl⟩
  have hg2 := eget_own yok hm2
  rw [hn3.out] at hg2
  have HG2 := Lib.hid hg2
  have BM2 := Lib.hid (eput_by yok hm2)
  have YLN := Lib.hid (show y.tags.length ≤ 137438953472 by omega)
  have YTD := Lib.hid (show tgdat y.tags ≤ 68719476736 by omega)
  have YBL := Lib.hid (show (bputB y.pkt).1.length ≤ 549755813888 by omega)
  rw [hn3.out] at hm2l
  have N3 := Lib.hid (show n3 ≤ 1073741824 by omega)
  have g5 : (mm : Int) ≤ (n2 : Int) := by omega
  have g6 : (n3 : Int) ≤ (mm : Int) := by omega
  clear h hf hR1 hB1 hL1 hR hB hL hc2 hm hy ht hp hln htd hnt yg ysm yl yd yb h1 h2 hnm9 hg2 hm2 hm2l yok ymm  hk hm0
  go_enter Tryz.func4, Tryz.ntmps4
  go_upto_region 10 with (first
    | (go_at_call 6; (with_reducible refine (speaks22 _).mono ?_); rintro e wn ⟨rfl, hb⟩; replace C := Lib.hid (C.out.step hb); clear hb; (try clear x0 x1 x2 x3 x4 x5 x6 x7 x8 x9 x10 x11 x12); obtain ⟨x0, x1, x2, x3, x4, x5, x6, x7, x8, x9, x10, x11, x12⟩ := C.out.cf.all)
    | (go_at_call 7; (with_reducible refine (efew_any f q _ (fun _ => True) (H.out.on C.out.bel) HI.out.nt HI.out.td HI.out.no HI.out.od _ HF.out).mono ?_); rintro e wn ⟨rfl, hb⟩; replace C := Lib.hid (C.out.step hb); clear hb; (try clear x0 x1 x2 x3 x4 x5 x6 x7 x8 x9 x10 x11 x12); obtain ⟨x0, x1, x2, x3, x4, x5, x6, x7, x8, x9, x10, x11, x12⟩ := C.out.cf.all)
    | (go_at_call 9; (with_reducible refine (eofF_any (fun _ => True) f q _ (fun _ _ => trivial) (H.out.on C.out.bel) QN.out QO.out).mono ?_); rintro e wn ⟨r3, rfl, hp, hb⟩; have P := Lib.hid hp; replace C := Lib.hid (C.out.step hb); clear hp hb; (try clear x0 x1 x2 x3 x4 x5 x6 x7 x8 x9 x10 x11 x12); obtain ⟨x0, x1, x2, x3, x4, x5, x6, x7, x8, x9, x10, x11, x12⟩ := C.out.cf.all)
    | (go_at_call 8; (with_reducible refine (eput_any f r3 _ P.out HOK.out HS.out (by rw [← P.out.lt]; exact LN.out) TD.out HLB.out m k HM.out nm hnm.out).mono ?_); rintro e wn ⟨A5, c5, rfl, h5, h5c, hb⟩; replace C := Lib.hid (C.out.step hb); clear h5 h5c hb P; (try clear x0 x1 x2 x3 x4 x5 x6 x7 x8 x9 x10 x11 x12); obtain ⟨x0, x1, x2, x3, x4, x5, x6, x7, x8, x9, x10, x11, x12⟩ := C.out.cf.all))
  clear x0 x1 x2 x3 x4 x5 x6 x7 x8 x9 x10 x11 x12
  have B0 := Lib.hid C.out.bel
  clear C
  go_upto_region 11 with ((go_at_call 11; (with_reducible refine (eget_k b n2 c2 A2 _ (HR.out.on B0.out) HB.out HL.out N2.out HC2.out y mm HGY.out).mono ?_); rintro e w9 ⟨q1, rfl, hp1, hb⟩; have ba := (Below.refl w9.heap.size w9).alloc (Nat.le_refl _) (y.obj q1 42); have B := Lib.hid ((B0.out.trans (hb.mono B0.out.size)).alloc (B0.out.trans (hb.mono B0.out.size)).size (y.obj q1 42)); have V := Lib.hid (fx_new w9 42 y q1); have PV := Lib.hid (hp1.on ba); clear hp1 hb ba B0))
  obtain ⟨g, hg⟩ : ∃ g, Hid (w9.heap.size = g) := ⟨_, Lib.hid rfl⟩
  rw [hg.out] at V ⊢
  with_reducible refine at_worldP (fun W => Hid (Below w.heap.size w W) ∧ Hid (Fx W g 42 y q1) ∧ Hid (FwF (fun _ => True) W y q1)) ⟨B, V, PV⟩ ?_
  clear B V PV hg
  rintro W ⟨B, V, PV⟩
  obtain ⟨x0, x1, x2, x3, x4, x5, x6, x7, x8, x9, x10, x11, x12⟩ := V.out.all
  go_upto_region 15 with (first
    | (go_at_call 8; (with_reducible refine (eput_k y q1 _ PV.out YOK.out YS.out YLN.out YTD.out YBL.out m2 HM2.out n3 hn3.out).mono ?_); rintro e wn ⟨A8, c8, rfl, h8, h8c, hb⟩; replace B := Lib.hid (B.out.trans (hb.mono B.out.size)); replace V := Lib.hid (V.out.below hb); replace PV := Lib.hid (PV.out.on hb); have X8 := Lib.hid h8; have K8 := Lib.hid h8c; clear h8 h8c hb x0 x1 x2 x3 x4 x5 x6 x7 x8 x9 x10 x11 x12; obtain ⟨x0, x1, x2, x3, x4, x5, x6, x7, x8, x9, x10, x11, x12⟩ := V.out.all)
    | (go_at_call 11; (with_reducible refine (eget_k m2 n3 c8 A8 _ X8.out BM2.out hn3.out N3.out K8.out y n3 HG2.out).mono ?_); rintro e w11 ⟨q2, rfl, hp2, hb⟩; have ba := (Below.refl w11.heap.size w11).alloc (Nat.le_refl _) (y.obj q2 42); have Z := Lib.hid (show BbL 42 42 w (w11.alloc (y.obj q2 42)) g w11.heap.size y q1 q2 from ⟨(B.out.trans (hb.mono B.out.size)).alloc (B.out.trans (hb.mono B.out.size)).size _, (V.out.below hb).below ba, fx_new w11 42 y q2, (PV.out.on hb).on ba, hp2.on ba⟩); clear hp2 hb ba B V PV X8 x0 x1 x2 x3 x4 x5 x6 x7 x8 x9 x10 x11 x12))
  obtain ⟨x0, x1, x2, x3, x4, x5, x6, x7, x8, x9, x10, x11, x12, y0, y1, y2, y3, y4, y5, y6, y7, y8, y9, y10, y11, y12⟩ := Z.out.flat
  go_region_held3 (fun W => W.cell? ⟨g, 0, none⟩ = some (.int .u8 (y.code : Int)) ∧ W.cell? ⟨g, 1, none⟩ = some (.int .u16 (y.sess : Int)) ∧ W.cell? ⟨g, 2, none⟩ = some (.slice q1.at_ q1.nt q1.ct) ∧ W.cell? ⟨g, 3, none⟩ = some (.int .u16 (y.pkt.proto : Int)) ∧ W.cell? ⟨g, 4, none⟩ = some (.int .u8 (y.pkt.code : Int)) ∧ W.cell? ⟨g, 5, none⟩ = some (.int .u8 (y.pkt.id : Int)) ∧ W.cell? ⟨g, 6, none⟩ = some (.slice q1.pl.ao q1.pl.no q1.pl.co) ∧ W.cell? ⟨g, 7, none⟩ = some (.int .u16 (y.pkt.sub : Int)) ∧ W.cell? ⟨g, 8, none⟩ = some (.int .u32 (y.pkt.magic : Int)) ∧ W.cell? ⟨g, 9, none⟩ = some (.slice q1.pl.a1 q1.pl.n1 q1.pl.c1) ∧ W.cell? ⟨g, 10, none⟩ = some (.slice q1.pl.a2 q1.pl.n2 q1.pl.c2) ∧ W.cell? ⟨g, 11, none⟩ = some (.slice q1.pl.ad q1.pl.nd q1.pl.cd) ∧ W.cell? ⟨g, 12, none⟩ = some (.slice q1.pl.an q1.pl.nn q1.pl.cn) ∧ W.cell? ⟨w11.heap.size, 0, none⟩ = some (.int .u8 (y.code : Int)) ∧ W.cell? ⟨w11.heap.size, 1, none⟩ = some (.int .u16 (y.sess : Int)) ∧ W.cell? ⟨w11.heap.size, 2, none⟩ = some (.slice q2.at_ q2.nt q2.ct) ∧ W.cell? ⟨w11.heap.size, 3, none⟩ = some (.int .u16 (y.pkt.proto : Int)) ∧ W.cell? ⟨w11.heap.size, 4, none⟩ = some (.int .u8 (y.pkt.code : Int)) ∧ W.cell? ⟨w11.heap.size, 5, none⟩ = some (.int .u8 (y.pkt.id : Int)) ∧ W.cell? ⟨w11.heap.size, 6, none⟩ = some (.slice q2.pl.ao q2.pl.no q2.pl.co) ∧ W.cell? ⟨w11.heap.size, 7, none⟩ = some (.int .u16 (y.pkt.sub : Int)) ∧ W.cell? ⟨w11.heap.size, 8, none⟩ = some (.int .u32 (y.pkt.magic : Int)) ∧ W.cell? ⟨w11.heap.size, 9, none⟩ = some (.slice q2.pl.a1 q2.pl.n1 q2.pl.c1) ∧ W.cell? ⟨w11.heap.size, 10, none⟩ = some (.slice q2.pl.a2 q2.pl.n2 q2.pl.c2) ∧ W.cell? ⟨w11.heap.size, 11, none⟩ = some (.slice q2.pl.ad q2.pl.nd q2.pl.cd) ∧ W.cell? ⟨w11.heap.size, 12, none⟩ = some (.slice q2.pl.an q2.pl.nn q2.pl.cn)) (first | (with_reducible exact Z.out.flat) | (with_reducible exact Z.out.drew.flat)) (first
    | (go_at_call 15; (first | (with_reducible refine (eto_v y q1 _ Z.out.p1 YL.out YS.out.o).mono ?_) | (with_reducible refine (eto_v y q1 _ Z.out.drew.p1 YL.out YS.out.o).mono ?_)); rintro e wn ⟨q3, rfl, hp, hb⟩; have P3 := Lib.hid hp; (try replace P4 := Lib.hid (P4.out.on hb)); replace Z := Lib.hid (Z.out.step hb); clear hp hb; dsimp only)
    | (go_at_call 15; (first | (with_reducible refine (eto_v y q2 _ Z.out.p2 YL.out YS.out.o).mono ?_) | (with_reducible refine (eto_v y q2 _ Z.out.drew.p2 YL.out YS.out.o).mono ?_)); rintro e wn ⟨q4, rfl, hp, hb⟩; have P4 := Lib.hid hp; (try replace P3 := Lib.hid (P3.out.on hb)); replace Z := Lib.hid (Z.out.step hb); clear hp hb; dsimp only)
    | (go_at_call 14; (with_reducible refine (esame_yes y q4 q3 _ P4.out P3.out YG.out YS.out (by rw [← P4.out.lt]; exact Nat.le_trans YL.out (by decide))).mono ?_); rintro e wn ⟨rfl, hb⟩; replace Z := Lib.hid (Z.out.step hb); clear hb; dsimp only))
  all_goals go_wp2_with fail
  all_goals
    go_ret
    exact ⟨rfl, Z.out.bel⟩

set_option maxRecDepth 8000 in
set_option maxHeartbeats 40000000 in
theorem etbk_no_no (f : Fr) (q : Fl) (l1 : List Nat) (A1 : Option Addr) (n1 c1 : Nat) (b : List Nat) (A2 : Option Addr) (n2 c2 : Nat) (w : World) (h : IsFr w f q) (hR1 : Rd w w.heap.size A1 l1) (hB1 : By l1) (hL1 : l1.length = n1) (hR : Rd w w.heap.size A2 b) (hB : By b) (hL : b.length = n2) (hc2 : n2 ≤ c2) (hf : fewE f = true) (h1 : n1 ≤ 1000) (h2 : n2 ≤ 2000) (m : List Nat) (k : Nat) (hm : eputB f = (m, k)) (hk : ¬ k = 0) (y : Fr) (mm k2 : Nat) (hy : egetB b = (y, mm, k2)) (hk2 : ¬ k2 = 0) :
    Calls Tryz.prog 4 #[f.val q, .slice A1 n1 c1, .slice A2 n2 c2] w fun e w' => e = .returned (.bool true) ∧ Below w.heap.size w w' := by
  obtain ⟨i0, hi, hz0, hz1, hz2⟩ := info_parts byte_info
  have C := Lib.hid (OpF.made 31 w f q)
  have H := Lib.hid h.fw
  have HI := Lib.hid h
  have HF := Lib.hid hf
  obtain ⟨ht, hp⟩ := fewE_ofB hf
  obtain ⟨hln, htd⟩ := tgfew_of ht
  have HOK := Lib.hid h.ok
  have HS := Lib.hid (fewP_sm hp)
  have hnt : q.nt ≤ 60 := by rw [← h.fw.lt]; exact hln
  have QN := Lib.hid (Nat.le_trans hnt (by decide) : q.nt ≤ 1073741824)
  have QO := Lib.hid (show q.pl.no ≤ 1073741824 by rw [← h.fw.pk.lo]; exact (fewP_sm hp).o)
  have LN := Lib.hid (Nat.le_trans hln (by decide) : f.tags.length ≤ 137438953472)
  have LQ := Lib.hid (Nat.le_trans hln (by decide) : f.tags.length ≤ 1073741824)
  have TD := Lib.hid (Nat.le_trans htd (by decide) : tgdat f.tags ≤ 68719476736)
  have HLB := Lib.hid (Nat.le_trans (bput_len (p := f.pkt) (m := (bputB f.pkt).1) (k := (bputB f.pkt).2) rfl hp) (by decide) : (bputB f.pkt).1.length ≤ 549755813888)
  have HR1 := Lib.hid hR1
  have HL1 := Lib.hid hL1
  have HR := Lib.hid hR
  have HB := Lib.hid hB
  have HL := Lib.hid hL
  have HC2 := Lib.hid hc2
  have j1 : ¬ (1000 : Int) < (n1 : Int) := by omega
  have j2 : ¬ (2000 : Int) < (n2 : Int) := by omega
  have N2 := Lib.hid (Nat.le_trans h2 (by decide) : n2 ≤ 1073741824)
  obtain ⟨nm, hnm⟩ : ∃ x, Hid (m.length = x) := ⟨_, Lib.hid rfl⟩
  have hnm9 : nm ≤ 1500 := by rw [← hnm.out]; exact eput_len hm
  obtain ⟨yg, ysm, yl, yd, yb⟩ := eget_sm hB (by omega) hy
  have YG := Lib.hid yg
  have YS := Lib.hid ysm
  have YL := Lib.hid (show y.tags.length ≤ 1073741824 by omega)
  have HM := Lib.hid hm
  have hm0 : m = [] := eput_err hm hk
  have g1 : ((nm : Int) != 0) = false := by rw [← hnm.out, hm0]; rfl
  have g2 := ez0f k hk
  obtain ⟨hy0, hm00⟩ := eget_err hy hk2
  subst hm00
  have HGY := Lib.hid hy
  have HY0 := Lib.hid hy0.symm
  have g3 := ez0t k2 hk2
  clear h hf hR1 hB1 hL1 hR hB hL hc2 hm hy ht hp hln htd hnt yg ysm yl yd yb h1 h2 hnm9 hk2 hy0  hk hm0
  go_enter Tryz.func4, Tryz.ntmps4
  go_upto_region 10 with (first
    | (go_at_call 6; (with_reducible refine (speaks22 _).mono ?_); rintro e wn ⟨rfl, hb⟩; replace C := Lib.hid (C.out.step hb); clear hb; (try clear x0 x1 x2 x3 x4 x5 x6 x7 x8 x9 x10 x11 x12); obtain ⟨x0, x1, x2, x3, x4, x5, x6, x7, x8, x9, x10, x11, x12⟩ := C.out.cf.all)
    | (go_at_call 7; (with_reducible refine (efew_any f q _ (fun _ => True) (H.out.on C.out.bel) HI.out.nt HI.out.td HI.out.no HI.out.od _ HF.out).mono ?_); rintro e wn ⟨rfl, hb⟩; replace C := Lib.hid (C.out.step hb); clear hb; (try clear x0 x1 x2 x3 x4 x5 x6 x7 x8 x9 x10 x11 x12); obtain ⟨x0, x1, x2, x3, x4, x5, x6, x7, x8, x9, x10, x11, x12⟩ := C.out.cf.all)
    | (go_at_call 9; (with_reducible refine (eofF_any (fun _ => True) f q _ (fun _ _ => trivial) (H.out.on C.out.bel) QN.out QO.out).mono ?_); rintro e wn ⟨r3, rfl, hp, hb⟩; have P := Lib.hid hp; replace C := Lib.hid (C.out.step hb); clear hp hb; (try clear x0 x1 x2 x3 x4 x5 x6 x7 x8 x9 x10 x11 x12); obtain ⟨x0, x1, x2, x3, x4, x5, x6, x7, x8, x9, x10, x11, x12⟩ := C.out.cf.all)
    | (go_at_call 8; (with_reducible refine (eput_any f r3 _ P.out HOK.out HS.out (by rw [← P.out.lt]; exact LN.out) TD.out HLB.out m k HM.out nm hnm.out).mono ?_); rintro e wn ⟨A5, c5, rfl, h5, h5c, hb⟩; replace C := Lib.hid (C.out.step hb); clear h5 h5c hb P; (try clear x0 x1 x2 x3 x4 x5 x6 x7 x8 x9 x10 x11 x12); obtain ⟨x0, x1, x2, x3, x4, x5, x6, x7, x8, x9, x10, x11, x12⟩ := C.out.cf.all))
  clear x0 x1 x2 x3 x4 x5 x6 x7 x8 x9 x10 x11 x12
  have B0 := Lib.hid C.out.bel
  clear C
  go_upto_region 11 with ((go_at_call 11; (with_reducible refine (eget_z b n2 c2 A2 _ (HR.out.on B0.out) HB.out HL.out N2.out HC2.out y k2 HGY.out).mono ?_); rintro e w9 ⟨q1, rfl, hp1, hb⟩; have ba := (Below.refl w9.heap.size w9).alloc (Nat.le_refl _) (y.obj q1 42); have B := Lib.hid ((B0.out.trans (hb.mono B0.out.size)).alloc (B0.out.trans (hb.mono B0.out.size)).size (y.obj q1 42)); have V := Lib.hid (fx_new w9 42 y q1); have PV := Lib.hid (hp1.on ba); clear hp1 hb ba B0))
  obtain ⟨g, hg⟩ : ∃ g, Hid (w9.heap.size = g) := ⟨_, Lib.hid rfl⟩
  rw [hg.out] at V ⊢
  with_reducible refine at_worldP (fun W => Hid (Below w.heap.size w W) ∧ Hid (Fx W g 42 y q1) ∧ Hid (FwF (fun _ => True) W y q1)) ⟨B, V, PV⟩ ?_
  clear B V PV hg
  rintro W ⟨B, V, PV⟩
  obtain ⟨x0, x1, x2, x3, x4, x5, x6, x7, x8, x9, x10, x11, x12⟩ := V.out.all
  go_wp2_with (first
    | (go_at_call 15; (with_reducible refine (eto_v y q1 _ PV.out YL.out YS.out.o).mono ?_); rintro e wn ⟨q3, rfl, hp, hb⟩; have P3 := Lib.hid hp; replace B := Lib.hid (B.out.trans (hb.mono B.out.size)); clear hp hb)
    | (go_at_call 14; (with_reducible refine (esame_zero y HY0.out q3 _ P3.out).mono ?_); rintro e wn ⟨rfl, hb⟩; replace B := Lib.hid (B.out.trans (hb.mono B.out.size)); clear hb))
  go_ret
  exact ⟨rfl, B.out⟩

theorem etbk_any (f : Fr) (q : Fl) (l1 : List Nat) (A1 : Option Addr) (n1 c1 : Nat) (b : List Nat) (A2 : Option Addr) (n2 c2 : Nat) (w : World) (h : IsFr w f q) (hR1 : Rd w w.heap.size A1 l1) (hB1 : By l1) (hL1 : l1.length = n1) (hR : Rd w w.heap.size A2 b) (hB : By b) (hL : b.length = n2) (hc2 : n2 ≤ c2) :
    Calls Tryz.prog 4 #[f.val q, .slice A1 n1 c1, .slice A2 n2 c2] w fun e w' => e = .returned (.bool true) ∧ Below w.heap.size w w' := by
  cases hf : fewE f
  · exact etbk_few f q A1 n1 c1 A2 n2 c2 w h hf
  by_cases h1 : n1 ≤ 1000
  · by_cases h2 : n2 ≤ 2000
    · obtain ⟨m, k, hm⟩ : ∃ m k, eputB f = (m, k) := ⟨_, _, rfl⟩
      obtain ⟨y, mm, k2, hy⟩ : ∃ y mm k2, egetB b = (y, mm, k2) := ⟨_, _, _, rfl⟩
      by_cases hk : k = 0
      · by_cases hk2 : k2 = 0
        · exact etbk_yes_yes f q l1 A1 n1 c1 b A2 n2 c2 w h hR1 hB1 hL1 hR hB hL hc2 hf h1 h2 m k hm hk y mm k2 hy hk2
        · exact etbk_yes_no f q l1 A1 n1 c1 b A2 n2 c2 w h hR1 hB1 hL1 hR hB hL hc2 hf h1 h2 m k hm hk y mm k2 hy hk2
      · by_cases hk2 : k2 = 0
        · exact etbk_no_yes f q l1 A1 n1 c1 b A2 n2 c2 w h hR1 hB1 hL1 hR hB hL hc2 hf h1 h2 m k hm hk y mm k2 hy hk2
        · exact etbk_no_no f q l1 A1 n1 c1 b A2 n2 c2 w h hR1 hB1 hL1 hR hB hL hc2 hf h1 h2 m k hm hk y mm k2 hy hk2
    · exact etbk_long2 f q A1 n1 c1 A2 n2 c2 w h hf h1 h2
  · exact etbk_long1 f q A1 n1 c1 A2 n2 c2 w h hf h1
end Go.Proofs.YtmhjnghomihjlaaGreat
