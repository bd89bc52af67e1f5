
/-
  EtherAnswers' walk: no frame answers the other. No condition.
-/
import Derived.Test.YtmhjnghomihjlaaEthAV
namespace Go.Proofs.Ytmhjnghomihjlaa
set_option maxRecDepth 4000
open Go.RowKit
set_option linter.unusedVariables false

set_option maxRecDepth 8000 in
set_option maxHeartbeats 80000000 in
theorem etan_no (f : Fr) (q : Fl) (o : Fr) (r : Fl) (la : List Nat) (A1 : Option Addr) (n1 c1 : Nat) (lb : List Nat) (A2 : Option Addr) (n2 c2 : Nat) (w : World) (h : IsFr w f q) (h' : IsFr w o r) (hR1 : Rd w w.heap.size A1 la) (hB1 : By la) (hL1 : la.length = n1) (hc1 : n1 ≤ c1) (hR2 : Rd w w.heap.size A2 lb) (hB2 : By lb) (hL2 : lb.length = n2) (hc2 : n2 ≤ c2) (hf : fewE f = true) (hf2 : fewE o = true) (h1 : n1 ≤ 100) (h2 : n2 ≤ 100) (ha : eansB f o = false) :
    Calls Try.prog 3 #[f.val q, o.val r, .slice A1 n1 c1, .slice A2 n2 c2] w fun e w' => e = .returned (.bool true) ∧ Below w.heap.size w w' := by
  obtain ⟨i0, hi0, hz0, hz1, hz2⟩ := info_parts tag_info
  have C := Lib.hid (TwF.made 31 w f o q r)
  have H := Lib.hid h.fw
  have HI := Lib.hid h
  have H2 := Lib.hid h'.fw
  have HI2 := Lib.hid h'
  have HF := Lib.hid hf
  have HF2 := Lib.hid hf2
  obtain ⟨ht, hp⟩ := fewE_ofA hf
  obtain ⟨ht2, hp2⟩ := fewE_ofA hf2
  obtain ⟨hln, htd⟩ := tgfew_of ht
  obtain ⟨hln2, htd2⟩ := tgfew_of ht2
  have hnt : q.nt ≤ 60 := by rw [← h.fw.lt]; exact hln
  have hnt2 : r.nt ≤ 60 := by rw [← h'.fw.lt]; exact hln2
  have QN := Lib.hid (Nat.le_trans hnt (by decide) : q.nt ≤ 1073741824)
  have RN := Lib.hid (Nat.le_trans hnt2 (by decide) : r.nt ≤ 1073741824)
  have QA := Lib.hid (Nat.le_trans hnt (by decide) : q.nt ≤ 274877906944)
  have QO := Lib.hid (show q.pl.no ≤ 1073741824 by rw [← h.fw.pk.lo]; exact (fewP_sm hp).o)
  have RO := Lib.hid (show r.pl.no ≤ 1073741824 by rw [← h'.fw.pk.lo]; exact (fewP_sm hp2).o)
  have HSM := Lib.hid (fewP_sm hp)
  have OK1 := Lib.hid h.ok.tags
  have OK2 := Lib.hid h'.ok.tags
  have LF := Lib.hid hln
  have LO := Lib.hid hln2
  have LA := Lib.hid (Nat.le_trans hln (by decide) : f.tags.length ≤ 274877906944)
  have LB := Lib.hid (Nat.le_trans hln2 (by decide) : o.tags.length ≤ 274877906944)
  have TX := Lib.hid (show ∀ x ∈ f.tags, x.2.length ≤ 274877906944 from fun x hx => Nat.le_trans (Nat.le_trans (tgdat_le hx) htd) (by decide))
  have TX2 := Lib.hid (show ∀ x ∈ o.tags, x.2.length ≤ 274877906944 from fun x hx => Nat.le_trans (Nat.le_trans (tgdat_le hx) htd2) (by decide))
  have RA := Lib.hid hR1
  have RB := Lib.hid hR2
  have BA := Lib.hid hB1
  have BB := Lib.hid hB2
  have HL1 := Lib.hid hL1
  have HL2 := Lib.hid hL2
  have HC1 := Lib.hid hc1
  have HC2 := Lib.hid hc2
  have j1 : ¬ (100 : Int) < (n1 : Int) := by omega
  have j2 : ¬ (100 : Int) < (n2 : Int) := by omega
  have N1 := Lib.hid (Nat.le_trans h1 (by decide) : n1 ≤ 274877906944)
  have N2 := Lib.hid (Nat.le_trans h2 (by decide) : n2 ≤ 274877906944)
  obtain ⟨z, hz⟩ : ∃ z, Hid (decide (la = lb) = z) := ⟨_, Lib.hid rfl⟩
  have HA := Lib.hid ha
  clear h h' hR1 hB1 hL1 hc1 hR2 hB2 hL2 hc2 hf hf2 h1 h2 ha ht hp ht2 hp2 hln htd hln2 htd2 hnt hnt2
  go_enter Try.func3, Try.ntmps3
  go_upto_region 3 with (first
    | (go_at_call 4; (with_reducible refine (speaks22 _).mono ?_); rintro e wn ⟨rfl, hb⟩; replace C := Lib.hid (C.out.step hb); clear hb; (try clear x0 x1 x2 x3 x4 x5 x6 x7 x8 x9 x10 x11 x12 y0 y1 y2 y3 y4 y5 y6 y7 y8 y9 y10 y11 y12); obtain ⟨x0, x1, x2, x3, x4, x5, x6, x7, x8, x9, x10, x11, x12⟩ := C.out.x.all; obtain ⟨y0, y1, y2, y3, y4, y5, y6, y7, y8, y9, y10, y11, y12⟩ := C.out.y.all)
    | (go_at_call 5; (with_reducible refine (efew_any f q _ (fun _ => True) (H.out.on C.out.bel) HI.out.nt HI.out.td HI.out.no HI.out.od _ HF.out).mono ?_); rintro e wn ⟨rfl, hb⟩; replace C := Lib.hid (C.out.step hb); clear hb; (try clear x0 x1 x2 x3 x4 x5 x6 x7 x8 x9 x10 x11 x12 y0 y1 y2 y3 y4 y5 y6 y7 y8 y9 y10 y11 y12); obtain ⟨x0, x1, x2, x3, x4, x5, x6, x7, x8, x9, x10, x11, x12⟩ := C.out.x.all; obtain ⟨y0, y1, y2, y3, y4, y5, y6, y7, y8, y9, y10, y11, y12⟩ := C.out.y.all)
    | (go_at_call 5; (with_reducible refine (efew_any o r _ (fun _ => True) (H2.out.on C.out.bel) HI2.out.nt HI2.out.td HI2.out.no HI2.out.od _ HF2.out).mono ?_); rintro e wn ⟨rfl, hb⟩; replace C := Lib.hid (C.out.step hb); clear hb; (try clear x0 x1 x2 x3 x4 x5 x6 x7 x8 x9 x10 x11 x12 y0 y1 y2 y3 y4 y5 y6 y7 y8 y9 y10 y11 y12); obtain ⟨x0, x1, x2, x3, x4, x5, x6, x7, x8, x9, x10, x11, x12⟩ := C.out.x.all; obtain ⟨y0, y1, y2, y3, y4, y5, y6, y7, y8, y9, y10, y11, y12⟩ := C.out.y.all))
  clear x0 x1 x2 x3 x4 x5 x6 x7 x8 x9 x10 x11 x12 y0 y1 y2 y3 y4 y5 y6 y7 y8 y9 y10 y11 y12
  go_cut [9, 10] from 36 to 40 (fun s9 s10 wx => ∃ b5 b6 r3 r4, s9 = .pointer (some ⟨b5, 0, none⟩) ∧ s10 = .pointer (some ⟨b6, 0, none⟩) ∧ Hid (AnV w wx b5 b6 f o r3 r4 f q))
  case first =>
    refine wp_region_held_drew (S := fun W => Hid (TwF 31 w W f o q r)) (by kernel_rfl) (by exact Lib.hid C.out.drew) (fun _ => ?_)
    refine at_worldP (fun W => Hid (TwF 31 w W f o q r)) (Lib.hid C.out.drew) ?_
    clear C
    rintro W C
    refine wpAnyH_take (i := 0) (oi := ?ol0) (v := ?vl0) ?hil0 (by kernel_rfl) (by kernel_rfl) (by kernel_rfl) ?hql0 (Or.inl ⟨?hwl0, ?hyl0⟩) (by exact C) ?restl0
    case hil0 => (simp only [List.getElem?_toArray, List.getElem?_cons_zero]; rfl)
    case hwl0 => (rfl)
    case hql0 => (exact fun _ _ _ h => h)
    case hyl0 => (intro w' hSw; obtain ⟨x0, x1, x2, x3, x4, x5, x6, x7, x8, x9, x10, x11, x12⟩ := hSw.out.x.all; obtain ⟨y0, y1, y2, y3, y4, y5, y6, y7, y8, y9, y10, y11, y12⟩ := hSw.out.y.all; go_simp; (try with_reducible rfl))
    try simp only [Act.put, List.setIfInBounds_toArray, List.set_cons_zero, List.set_cons_succ]
    refine wpAnyH_take (i := 2) (oi := ?ol2) (v := ?vl2) ?hil2 (by kernel_rfl) (by kernel_rfl) (by kernel_rfl) ?hql2 (Or.inl ⟨?hwl2, ?hyl2⟩) (by exact C) ?restl2
    case hil2 => (simp only [List.getElem?_toArray, List.getElem?_cons_succ, List.getElem?_cons_zero]; rfl)
    case hwl2 => (rfl)
    case hql2 => (exact fun _ _ _ h => h)
    case hyl2 => (intro w' hSw; obtain ⟨x0, x1, x2, x3, x4, x5, x6, x7, x8, x9, x10, x11, x12⟩ := hSw.out.x.all; obtain ⟨y0, y1, y2, y3, y4, y5, y6, y7, y8, y9, y10, y11, y12⟩ := hSw.out.y.all; go_simp; (try with_reducible rfl))
    try simp only [Act.put, List.setIfInBounds_toArray, List.set_cons_zero, List.set_cons_succ]
    refine wpAnyH_ready (rs := [1, 4, 5]) (by kernel_rfl) (by simp) ?_
    refine (AllReadyH.cons (o := ?oz3) ?hiz3 (fun K hK => ?stz3) (AllReadyH.cons (o := ?oz2) ?hiz2 (fun K hK => ?stz2) (AllReadyH.cons (o := ?oz1) ?hiz1 (fun K hK => ?stz1) AllReadyH.nil)))
    case hiz3 => (simp only [List.getElem?_toArray, List.getElem?_cons_succ, List.getElem?_cons_zero]; rfl)
    case hiz2 => (simp only [List.getElem?_toArray, List.getElem?_cons_succ, List.getElem?_cons_zero]; rfl)
    case hiz1 => (simp only [List.getElem?_toArray, List.getElem?_cons_succ, List.getElem?_cons_zero]; rfl)
    case stz3 =>
      obtain ⟨G, hG⟩ : ∃ G : Nat → Prop, Hid (G = (fun _ => True)) := ⟨_, Lib.hid rfl⟩
      have FN := Lib.hid (show ∀ i, W.heap.size ≤ i → G i by rw [hG.out]; exact fun _ _ => trivial)
      have PW := Lib.hid (show FwF G W f q by rw [hG.out]; exact (H.out.there.on C.out.bel).mono (fun _ _ _ => trivial))
      go_simp
      go_at_call 6
      with_reducible refine (eofF_any G f q _ FN.out PW.out QN.out QO.out).mono ?_
      rintro e wy ⟨r3, rfl, hq, hb⟩
      rw [hG.out] at hq
      dsimp only
      refine hK.out _ _ (by exact Lib.hid (C.out.step hb)) (fun _ => ?_)
      clear hK K FN PW hG
      try simp only [Act.put, List.setIfInBounds_toArray, List.set_cons_zero, List.set_cons_succ]
      refine at_worldP (fun W => Hid (TwF 31 w W f o q r) ∧ Hid (FwF (fun _ => True) W f r3)) ⟨Lib.hid (C.out.step hb), Lib.hid hq⟩ ?_
      clear C hq hb
      rintro W ⟨C, P3⟩
      refine wpAnyH_ready (rs := [3, 4, 5]) (by kernel_rfl) (by simp) ?_
      refine (AllReadyH.cons (o := ?oz6) ?hiz6 (fun K hK => ?stz6) (AllReadyH.cons (o := ?oz5) ?hiz5 (fun K hK => ?stz5) (AllReadyH.cons (o := ?oz4) ?hiz4 (fun K hK => ?stz4) AllReadyH.nil)))
      case hiz6 => (simp only [List.getElem?_toArray, List.getElem?_cons_succ, List.getElem?_cons_zero]; rfl)
      case hiz5 => (simp only [List.getElem?_toArray, List.getElem?_cons_succ, List.getElem?_cons_zero]; rfl)
      case hiz4 => (simp only [List.getElem?_toArray, List.getElem?_cons_succ, List.getElem?_cons_zero]; rfl)
      case stz6 =>
        obtain ⟨G, hG⟩ : ∃ G : Nat → Prop, Hid (G = (fun _ => True)) := ⟨_, Lib.hid rfl⟩
        have FN := Lib.hid (show ∀ i, W.heap.size ≤ i → G i by rw [hG.out]; exact fun _ _ => trivial)
        have PW := Lib.hid (show FwF G W o r by rw [hG.out]; exact (H2.out.there.on C.out.bel).mono (fun _ _ _ => trivial))
        go_simp
        go_at_call 6
        with_reducible refine (eofF_any G o r _ FN.out PW.out RN.out RO.out).mono ?_
        rintro e wy ⟨r4, rfl, hq, hb⟩
        rw [hG.out] at hq
        dsimp only
        refine hK.out _ _ (by exact Lib.hid (C.out.step hb)) (fun _ => ?_)
        clear hK K FN PW hG
        try simp only [Act.put, List.setIfInBounds_toArray, List.set_cons_zero, List.set_cons_succ]
        refine at_worldP (fun W => Hid (TwF 31 w W f o q r) ∧ Hid (FwF (fun _ => True) W f r3) ∧ Hid (FwF (fun _ => True) W o r4)) ⟨Lib.hid (C.out.step hb), Lib.hid (P3.out.on hb), Lib.hid hq⟩ ?_
        clear C P3 hq hb
        rintro W ⟨C, P3, P4⟩
        refine wpAnyH_ready (rs := [4, 5]) (by kernel_rfl) (by simp) ?_
        refine (AllReadyH.cons (o := ?oz8) ?hiz8 (fun K hK => ?stz8) (AllReadyH.cons (o := ?oz7) ?hiz7 (fun K hK => ?stz7) AllReadyH.nil))
        case hiz8 => (simp only [List.getElem?_toArray, List.getElem?_cons_succ, List.getElem?_cons_zero]; rfl)
        case hiz7 => (simp only [List.getElem?_toArray, List.getElem?_cons_succ, List.getElem?_cons_zero]; rfl)
        case stz8 =>
          go_simp
          refine hK.out _ _ (by exact Lib.hid (C.out.al _)) (fun _ => ?_)
          clear hK K
          try simp only [Act.put, List.setIfInBounds_toArray, List.set_cons_zero, List.set_cons_succ]
          obtain ⟨b5, hbb⟩ : ∃ b, b = W.heap.size := ⟨_, rfl⟩
          rw [← hbb]
          refine at_worldP (fun W => Hid (TwF 31 w W f o q r) ∧ Hid (FwF (fun i => i ≠ b5) W f r3) ∧ Hid (FwF (fun i => i ≠ b5) W o r4) ∧ Hid (Vf w W b5 fr0 fl0)) ⟨Lib.hid (C.out.al (obj0F 39)), Lib.hid ((P3.out.mono (G := (fun i => i ≠ b5)) (fun i hi _ => (by rw [hbb]; exact Nat.ne_of_lt hi))).on ((Below.refl W.heap.size W).alloc (Nat.le_refl _) (obj0F 39))), Lib.hid ((P4.out.mono (G := (fun i => i ≠ b5)) (fun i hi _ => (by rw [hbb]; exact Nat.ne_of_lt hi))).on ((Below.refl W.heap.size W).alloc (Nat.le_refl _) (obj0F 39))), Lib.hid (show Vf w _ b5 fr0 fl0 from hbb ▸ Vf.new C.out)⟩ ?_
          clear C P3 P4 hbb
          rintro W ⟨C, P3, P4, V5⟩
          refine wpAnyH_ready (rs := [5]) (by kernel_rfl) (by simp) ?_
          refine (AllReadyH.cons (o := ?oz9) ?hiz9 (fun K hK => ?stz9) AllReadyH.nil)
          case hiz9 => (simp only [List.getElem?_toArray, List.getElem?_cons_succ, List.getElem?_cons_zero]; rfl)
          case stz9 =>
            go_simp
            refine hK.out _ _ (by exact Lib.hid (C.out.al _)) (fun _ => ?_)
            clear hK K
            try simp only [Act.put, List.setIfInBounds_toArray, List.set_cons_zero, List.set_cons_succ]
            obtain ⟨b6, hbb⟩ : ∃ b, b = W.heap.size := ⟨_, rfl⟩
            rw [← hbb]
            have NE := Lib.hid (show b5 ≠ b6 from fun e => absurd V5.out.bx.lt (by rw [e, hbb]; exact Nat.lt_irrefl _))
            refine at_worldP (fun W => Hid (TwF 31 w W f o q r) ∧ Hid (FwF (fun i => i ≠ b5 ∧ i ≠ b6) W f r3) ∧ Hid (FwF (fun i => i ≠ b5 ∧ i ≠ b6) W o r4) ∧ Hid (Vf w W b5 fr0 fl0) ∧ Hid (Vf w W b6 fr0 fl0)) ⟨Lib.hid (C.out.al (obj0F 39)), Lib.hid ((P3.out.mono (G := (fun i => i ≠ b5 ∧ i ≠ b6)) (fun i hi hf => ⟨hf, (by rw [hbb]; exact Nat.ne_of_lt hi)⟩)).on ((Below.refl W.heap.size W).alloc (Nat.le_refl _) (obj0F 39))), Lib.hid ((P4.out.mono (G := (fun i => i ≠ b5 ∧ i ≠ b6)) (fun i hi hf => ⟨hf, (by rw [hbb]; exact Nat.ne_of_lt hi)⟩)).on ((Below.refl W.heap.size W).alloc (Nat.le_refl _) (obj0F 39))), Lib.hid (V5.out.al (obj0F 39)), Lib.hid (show Vf w _ b6 fr0 fl0 from hbb ▸ Vf.new C.out)⟩ ?_
            clear C P3 P4 V5 hbb
            rintro W ⟨C, P3, P4, V5, V6⟩
            refine wpAnyH_ready (rs := [6]) (by kernel_rfl) (by simp) ?_
            refine AllReadyH.cons (o := ?oz10) ?hiz10 (fun K hK => ?stz10) AllReadyH.nil
            case hiz10 => (simp only [List.getElem?_toArray, List.getElem?_cons_succ, List.getElem?_cons_zero]; rfl)
            obtain ⟨e0, e1, e2, e3, e4, e5, e6, e7, e8, e9, e10, e11, e12⟩ := V5.out.bx.free
            obtain ⟨d0, d1, d2, d3, d4, d5, d6, d7, d8, d9, d10, d11, d12⟩ := V5.out.bx.all
            go_simp
            refine hK.out _ _ (by exact Lib.hid (C.out.putY V5.out.gt f r3)) (fun _ => ?_)
            clear hK K e0 e1 e2 e3 e4 e5 e6 e7 e8 e9 e10 e11 e12 d0 d1 d2 d3 d4 d5 d6 d7 d8 d9 d10 d11 d12
            try simp only [Act.put, List.setIfInBounds_toArray, List.set_cons_zero, List.set_cons_succ]
            refine at_worldP (fun W => Hid (TwF 31 w W f o q r) ∧ Hid (FwF (fun i => i ≠ b5 ∧ i ≠ b6) W f r3) ∧ Hid (FwF (fun i => i ≠ b5 ∧ i ≠ b6) W o r4) ∧ Hid (Vf w W b5 f r3) ∧ Hid (Vf w W b6 fr0 fl0)) ⟨Lib.hid (C.out.putY V5.out.gt f r3), Lib.hid (P3.out.keep ((put13_keeps W b5 f r3).less (fun _ _ h => h.1))), Lib.hid (P4.out.keep ((put13_keeps W b5 f r3).less (fun _ _ h => h.1))), Lib.hid (V5.out.put f r3), Lib.hid (V6.out.putO NE.out.symm f r3)⟩ ?_
            clear C P3 P4 V5 V6
            rintro W ⟨C, P3, P4, V5, V6⟩
            refine wpAnyH_ready (rs := [7]) (by kernel_rfl) (by simp) ?_
            refine AllReadyH.cons (o := ?oz11) ?hiz11 (fun K hK => ?stz11) AllReadyH.nil
            case hiz11 => (simp only [List.getElem?_toArray, List.getElem?_cons_succ, List.getElem?_cons_zero]; rfl)
            obtain ⟨e0, e1, e2, e3, e4, e5, e6, e7, e8, e9, e10, e11, e12⟩ := V6.out.bx.free
            obtain ⟨d0, d1, d2, d3, d4, d5, d6, d7, d8, d9, d10, d11, d12⟩ := V6.out.bx.all
            go_simp
            refine hK.out _ _ (by exact Lib.hid (C.out.putY V6.out.gt o r4)) (fun _ => ?_)
            clear hK K e0 e1 e2 e3 e4 e5 e6 e7 e8 e9 e10 e11 e12 d0 d1 d2 d3 d4 d5 d6 d7 d8 d9 d10 d11 d12
            try simp only [Act.put, List.setIfInBounds_toArray, List.set_cons_zero, List.set_cons_succ]
            refine at_worldP (fun W => Hid (TwF 31 w W f o q r) ∧ Hid (FwF (fun i => i ≠ b5 ∧ i ≠ b6) W f r3) ∧ Hid (FwF (fun i => i ≠ b5 ∧ i ≠ b6) W o r4) ∧ Hid (Vf w W b5 f r3) ∧ Hid (Vf w W b6 o r4)) ⟨Lib.hid (C.out.putY V6.out.gt o r4), Lib.hid (P3.out.keep ((put13_keeps W b6 o r4).less (fun _ _ h => h.2))), Lib.hid (P4.out.keep ((put13_keeps W b6 o r4).less (fun _ _ h => h.2))), Lib.hid (V5.out.putO NE.out o r4), Lib.hid (V6.out.put o r4)⟩ ?_
            clear C P3 P4 V5 V6
            rintro W ⟨C, P3, P4, V5, V6⟩
            refine wpAnyH_done (by kernel_rfl) ?_ _
            (try go_wp2_with fail); go_meet
            exact ⟨b5, b6, r3, r4, rfl, rfl, Lib.hid ⟨C.out.bel, V5.out.gt, V6.out.gt, NE.out, V5.out.bx, V6.out.bx, P3.out, P4.out, C.out.x⟩⟩
        case stz7 =>
          go_simp
          refine hK.out _ _ (by exact Lib.hid (C.out.al _)) (fun _ => ?_)
          clear hK K
          try simp only [Act.put, List.setIfInBounds_toArray, List.set_cons_zero, List.set_cons_succ]
          obtain ⟨b6, hbb⟩ : ∃ b, b = W.heap.size := ⟨_, rfl⟩
          rw [← hbb]
          refine at_worldP (fun W => Hid (TwF 31 w W f o q r) ∧ Hid (FwF (fun i => i ≠ b6) W f r3) ∧ Hid (FwF (fun i => i ≠ b6) W o r4) ∧ Hid (Vf w W b6 fr0 fl0)) ⟨Lib.hid (C.out.al (obj0F 39)), Lib.hid ((P3.out.mono (G := (fun i => i ≠ b6)) (fun i hi _ => (by rw [hbb]; exact Nat.ne_of_lt hi))).on ((Below.refl W.heap.size W).alloc (Nat.le_refl _) (obj0F 39))), Lib.hid ((P4.out.mono (G := (fun i => i ≠ b6)) (fun i hi _ => (by rw [hbb]; exact Nat.ne_of_lt hi))).on ((Below.refl W.heap.size W).alloc (Nat.le_refl _) (obj0F 39))), Lib.hid (show Vf w _ b6 fr0 fl0 from hbb ▸ Vf.new C.out)⟩ ?_
          clear C P3 P4 hbb
          rintro W ⟨C, P3, P4, V6⟩
          refine wpAnyH_ready (rs := [4]) (by kernel_rfl) (by simp) ?_
          refine (AllReadyH.cons (o := ?oz12) ?hiz12 (fun K hK => ?stz12) AllReadyH.nil)
          case hiz12 => (simp only [List.getElem?_toArray, List.getElem?_cons_succ, List.getElem?_cons_zero]; rfl)
          case stz12 =>
            go_simp
            refine hK.out _ _ (by exact Lib.hid (C.out.al _)) (fun _ => ?_)
            clear hK K
            try simp only [Act.put, List.setIfInBounds_toArray, List.set_cons_zero, List.set_cons_succ]
            obtain ⟨b5, hbb⟩ : ∃ b, b = W.heap.size := ⟨_, rfl⟩
            rw [← hbb]
            have NE := Lib.hid (show b5 ≠ b6 from fun e => absurd V6.out.bx.lt (by rw [← e, hbb]; exact Nat.lt_irrefl _))
            refine at_worldP (fun W => Hid (TwF 31 w W f o q r) ∧ Hid (FwF (fun i => i ≠ b5 ∧ i ≠ b6) W f r3) ∧ Hid (FwF (fun i => i ≠ b5 ∧ i ≠ b6) W o r4) ∧ Hid (Vf w W b5 fr0 fl0) ∧ Hid (Vf w W b6 fr0 fl0)) ⟨Lib.hid (C.out.al (obj0F 39)), Lib.hid ((P3.out.mono (G := (fun i => i ≠ b5 ∧ i ≠ b6)) (fun i hi hf => ⟨(by rw [hbb]; exact Nat.ne_of_lt hi), hf⟩)).on ((Below.refl W.heap.size W).alloc (Nat.le_refl _) (obj0F 39))), Lib.hid ((P4.out.mono (G := (fun i => i ≠ b5 ∧ i ≠ b6)) (fun i hi hf => ⟨(by rw [hbb]; exact Nat.ne_of_lt hi), hf⟩)).on ((Below.refl W.heap.size W).alloc (Nat.le_refl _) (obj0F 39))), Lib.hid (show Vf w _ b5 fr0 fl0 from hbb ▸ Vf.new C.out), Lib.hid (V6.out.al (obj0F 39))⟩ ?_
            clear C P3 P4 V6 hbb
            rintro W ⟨C, P3, P4, V5, V6⟩
            refine wpAnyH_ready (rs := [6]) (by kernel_rfl) (by simp) ?_
            refine AllReadyH.cons (o := ?oz13) ?hiz13 (fun K hK => ?stz13) AllReadyH.nil
            case hiz13 => (simp only [List.getElem?_toArray, List.getElem?_cons_succ, List.getElem?_cons_zero]; rfl)
            obtain ⟨e0, e1, e2, e3, e4, e5, e6, e7, e8, e9, e10, e11, e12⟩ := V5.out.bx.free
            obtain ⟨d0, d1, d2, d3, d4, d5, d6, d7, d8, d9, d10, d11, d12⟩ := V5.out.bx.all
            go_simp
            refine hK.out _ _ (by exact Lib.hid (C.out.putY V5.out.gt f r3)) (fun _ => ?_)
            clear hK K e0 e1 e2 e3 e4 e5 e6 e7 e8 e9 e10 e11 e12 d0 d1 d2 d3 d4 d5 d6 d7 d8 d9 d10 d11 d12
            try simp only [Act.put, List.setIfInBounds_toArray, List.set_cons_zero, List.set_cons_succ]
            refine at_worldP (fun W => Hid (TwF 31 w W f o q r) ∧ Hid (FwF (fun i => i ≠ b5 ∧ i ≠ b6) W f r3) ∧ Hid (FwF (fun i => i ≠ b5 ∧ i ≠ b6) W o r4) ∧ Hid (Vf w W b5 f r3) ∧ Hid (Vf w W b6 fr0 fl0)) ⟨Lib.hid (C.out.putY V5.out.gt f r3), Lib.hid (P3.out.keep ((put13_keeps W b5 f r3).less (fun _ _ h => h.1))), Lib.hid (P4.out.keep ((put13_keeps W b5 f r3).less (fun _ _ h => h.1))), Lib.hid (V5.out.put f r3), Lib.hid (V6.out.putO NE.out.symm f r3)⟩ ?_
            clear C P3 P4 V5 V6
            rintro W ⟨C, P3, P4, V5, V6⟩
            refine wpAnyH_ready (rs := [7]) (by kernel_rfl) (by simp) ?_
            refine AllReadyH.cons (o := ?oz14) ?hiz14 (fun K hK => ?stz14) AllReadyH.nil
            case hiz14 => (simp only [List.getElem?_toArray, List.getElem?_cons_succ, List.getElem?_cons_zero]; rfl)
            obtain ⟨e0, e1, e2, e3, e4, e5, e6, e7, e8, e9, e10, e11, e12⟩ := V6.out.bx.free
            obtain ⟨d0, d1, d2, d3, d4, d5, d6, d7, d8, d9, d10, d11, d12⟩ := V6.out.bx.all
            go_simp
            refine hK.out _ _ (by exact Lib.hid (C.out.putY V6.out.gt o r4)) (fun _ => ?_)
            clear hK K e0 e1 e2 e3 e4 e5 e6 e7 e8 e9 e10 e11 e12 d0 d1 d2 d3 d4 d5 d6 d7 d8 d9 d10 d11 d12
            try simp only [Act.put, List.setIfInBounds_toArray, List.set_cons_zero, List.set_cons_succ]
            refine at_worldP (fun W => Hid (TwF 31 w W f o q r) ∧ Hid (FwF (fun i => i ≠ b5 ∧ i ≠ b6) W f r3) ∧ Hid (FwF (fun i => i ≠ b5 ∧ i ≠ b6) W o r4) ∧ Hid (Vf w W b5 f r3) ∧ Hid (Vf w W b6 o r4)) ⟨Lib.hid (C.out.putY V6.out.gt o r4), Lib.hid (P3.out.keep ((put13_keeps W b6 o r4).less (fun _ _ h => h.2))), Lib.hid (P4.out.keep ((put13_keeps W b6 o r4).less (fun _ _ h => h.2))), Lib.hid (V5.out.putO NE.out o r4), Lib.hid (V6.out.put o r4)⟩ ?_
            clear C P3 P4 V5 V6
            rintro W ⟨C, P3, P4, V5, V6⟩
            refine wpAnyH_done (by kernel_rfl) ?_ _
            (try go_wp2_with fail); go_meet
            exact ⟨b5, b6, r3, r4, rfl, rfl, Lib.hid ⟨C.out.bel, V5.out.gt, V6.out.gt, NE.out, V5.out.bx, V6.out.bx, P3.out, P4.out, C.out.x⟩⟩
      case stz5 =>
        go_simp
        refine hK.out _ _ (by exact Lib.hid (C.out.al _)) (fun _ => ?_)
        clear hK K
        try simp only [Act.put, List.setIfInBounds_toArray, List.set_cons_zero, List.set_cons_succ]
        obtain ⟨b5, hbb⟩ : ∃ b, b = W.heap.size := ⟨_, rfl⟩
        rw [← hbb]
        refine at_worldP (fun W => Hid (TwF 31 w W f o q r) ∧ Hid (FwF (fun i => i ≠ b5) W f r3) ∧ Hid (Vf w W b5 fr0 fl0)) ⟨Lib.hid (C.out.al (obj0F 39)), Lib.hid ((P3.out.mono (G := (fun i => i ≠ b5)) (fun i hi _ => (by rw [hbb]; exact Nat.ne_of_lt hi))).on ((Below.refl W.heap.size W).alloc (Nat.le_refl _) (obj0F 39))), Lib.hid (show Vf w _ b5 fr0 fl0 from hbb ▸ Vf.new C.out)⟩ ?_
        clear C P3 hbb
        rintro W ⟨C, P3, V5⟩
        refine wpAnyH_ready (rs := [3, 5]) (by kernel_rfl) (by simp) ?_
        refine (AllReadyH.cons (o := ?oz16) ?hiz16 (fun K hK => ?stz16) (AllReadyH.cons (o := ?oz15) ?hiz15 (fun K hK => ?stz15) AllReadyH.nil))
        case hiz16 => (simp only [List.getElem?_toArray, List.getElem?_cons_succ, List.getElem?_cons_zero]; rfl)
        case hiz15 => (simp only [List.getElem?_toArray, List.getElem?_cons_succ, List.getElem?_cons_zero]; rfl)
        case stz16 =>
          obtain ⟨G, hG⟩ : ∃ G : Nat → Prop, Hid (G = (fun i => i ≠ b5)) := ⟨_, Lib.hid rfl⟩
          have FN := Lib.hid (show ∀ i, W.heap.size ≤ i → G i by rw [hG.out]; exact fun i hi => Nat.ne_of_gt (Nat.lt_of_lt_of_le V5.out.bx.lt hi))
          have PW := Lib.hid (show FwF G W o r by rw [hG.out]; exact (H2.out.there.on C.out.bel).mono (fun i _ hi => Nat.ne_of_lt (Nat.lt_trans hi (Nat.lt_trans (Nat.lt_succ_self _) V5.out.gt))))
          go_simp
          go_at_call 6
          with_reducible refine (eofF_any G o r _ FN.out PW.out RN.out RO.out).mono ?_
          rintro e wy ⟨r4, rfl, hq, hb⟩
          rw [hG.out] at hq
          dsimp only
          refine hK.out _ _ (by exact Lib.hid (C.out.step hb)) (fun _ => ?_)
          clear hK K FN PW hG
          try simp only [Act.put, List.setIfInBounds_toArray, List.set_cons_zero, List.set_cons_succ]
          refine at_worldP (fun W => Hid (TwF 31 w W f o q r) ∧ Hid (FwF (fun i => i ≠ b5) W f r3) ∧ Hid (FwF (fun i => i ≠ b5) W o r4) ∧ Hid (Vf w W b5 fr0 fl0)) ⟨Lib.hid (C.out.step hb), Lib.hid (P3.out.on hb), Lib.hid hq, Lib.hid (V5.out.below hb)⟩ ?_
          clear C P3 V5 hq hb
          rintro W ⟨C, P3, P4, V5⟩
          refine wpAnyH_ready (rs := [5]) (by kernel_rfl) (by simp) ?_
          refine (AllReadyH.cons (o := ?oz17) ?hiz17 (fun K hK => ?stz17) AllReadyH.nil)
          case hiz17 => (simp only [List.getElem?_toArray, List.getElem?_cons_succ, List.getElem?_cons_zero]; rfl)
          case stz17 =>
            go_simp
            refine hK.out _ _ (by exact Lib.hid (C.out.al _)) (fun _ => ?_)
            clear hK K
            try simp only [Act.put, List.setIfInBounds_toArray, List.set_cons_zero, List.set_cons_succ]
            obtain ⟨b6, hbb⟩ : ∃ b, b = W.heap.size := ⟨_, rfl⟩
            rw [← hbb]
            have NE := Lib.hid (show b5 ≠ b6 from fun e => absurd V5.out.bx.lt (by rw [e, hbb]; exact Nat.lt_irrefl _))
            refine at_worldP (fun W => Hid (TwF 31 w W f o q r) ∧ Hid (FwF (fun i => i ≠ b5 ∧ i ≠ b6) W f r3) ∧ Hid (FwF (fun i => i ≠ b5 ∧ i ≠ b6) W o r4) ∧ Hid (Vf w W b5 fr0 fl0) ∧ Hid (Vf w W b6 fr0 fl0)) ⟨Lib.hid (C.out.al (obj0F 39)), Lib.hid ((P3.out.mono (G := (fun i => i ≠ b5 ∧ i ≠ b6)) (fun i hi hf => ⟨hf, (by rw [hbb]; exact Nat.ne_of_lt hi)⟩)).on ((Below.refl W.heap.size W).alloc (Nat.le_refl _) (obj0F 39))), Lib.hid ((P4.out.mono (G := (fun i => i ≠ b5 ∧ i ≠ b6)) (fun i hi hf => ⟨hf, (by rw [hbb]; exact Nat.ne_of_lt hi)⟩)).on ((Below.refl W.heap.size W).alloc (Nat.le_refl _) (obj0F 39))), Lib.hid (V5.out.al (obj0F 39)), Lib.hid (show Vf w _ b6 fr0 fl0 from hbb ▸ Vf.new C.out)⟩ ?_
            clear C P3 P4 V5 hbb
            rintro W ⟨C, P3, P4, V5, V6⟩
            refine wpAnyH_ready (rs := [6]) (by kernel_rfl) (by simp) ?_
            refine AllReadyH.cons (o := ?oz18) ?hiz18 (fun K hK => ?stz18) AllReadyH.nil
            case hiz18 => (simp only [List.getElem?_toArray, List.getElem?_cons_succ, List.getElem?_cons_zero]; rfl)
            obtain ⟨e0, e1, e2, e3, e4, e5, e6, e7, e8, e9, e10, e11, e12⟩ := V5.out.bx.free
            obtain ⟨d0, d1, d2, d3, d4, d5, d6, d7, d8, d9, d10, d11, d12⟩ := V5.out.bx.all
            go_simp
            refine hK.out _ _ (by exact Lib.hid (C.out.putY V5.out.gt f r3)) (fun _ => ?_)
            clear hK K e0 e1 e2 e3 e4 e5 e6 e7 e8 e9 e10 e11 e12 d0 d1 d2 d3 d4 d5 d6 d7 d8 d9 d10 d11 d12
            try simp only [Act.put, List.setIfInBounds_toArray, List.set_cons_zero, List.set_cons_succ]
            refine at_worldP (fun W => Hid (TwF 31 w W f o q r) ∧ Hid (FwF (fun i => i ≠ b5 ∧ i ≠ b6) W f r3) ∧ Hid (FwF (fun i => i ≠ b5 ∧ i ≠ b6) W o r4) ∧ Hid (Vf w W b5 f r3) ∧ Hid (Vf w W b6 fr0 fl0)) ⟨Lib.hid (C.out.putY V5.out.gt f r3), Lib.hid (P3.out.keep ((put13_keeps W b5 f r3).less (fun _ _ h => h.1))), Lib.hid (P4.out.keep ((put13_keeps W b5 f r3).less (fun _ _ h => h.1))), Lib.hid (V5.out.put f r3), Lib.hid (V6.out.putO NE.out.symm f r3)⟩ ?_
            clear C P3 P4 V5 V6
            rintro W ⟨C, P3, P4, V5, V6⟩
            refine wpAnyH_ready (rs := [7]) (by kernel_rfl) (by simp) ?_
            refine AllReadyH.cons (o := ?oz19) ?hiz19 (fun K hK => ?stz19) AllReadyH.nil
            case hiz19 => (simp only [List.getElem?_toArray, List.getElem?_cons_succ, List.getElem?_cons_zero]; rfl)
            obtain ⟨e0, e1, e2, e3, e4, e5, e6, e7, e8, e9, e10, e11, e12⟩ := V6.out.bx.free
            obtain ⟨d0, d1, d2, d3, d4, d5, d6, d7, d8, d9, d10, d11, d12⟩ := V6.out.bx.all
            go_simp
            refine hK.out _ _ (by exact Lib.hid (C.out.putY V6.out.gt o r4)) (fun _ => ?_)
            clear hK K e0 e1 e2 e3 e4 e5 e6 e7 e8 e9 e10 e11 e12 d0 d1 d2 d3 d4 d5 d6 d7 d8 d9 d10 d11 d12
            try simp only [Act.put, List.setIfInBounds_toArray, List.set_cons_zero, List.set_cons_succ]
            refine at_worldP (fun W => Hid (TwF 31 w W f o q r) ∧ Hid (FwF (fun i => i ≠ b5 ∧ i ≠ b6) W f r3) ∧ Hid (FwF (fun i => i ≠ b5 ∧ i ≠ b6) W o r4) ∧ Hid (Vf w W b5 f r3) ∧ Hid (Vf w W b6 o r4)) ⟨Lib.hid (C.out.putY V6.out.gt o r4), Lib.hid (P3.out.keep ((put13_keeps W b6 o r4).less (fun _ _ h => h.2))), Lib.hid (P4.out.keep ((put13_keeps W b6 o r4).less (fun _ _ h => h.2))), Lib.hid (V5.out.putO NE.out o r4), Lib.hid (V6.out.put o r4)⟩ ?_
            clear C P3 P4 V5 V6
            rintro W ⟨C, P3, P4, V5, V6⟩
            refine wpAnyH_done (by kernel_rfl) ?_ _
            (try go_wp2_with fail); go_meet
            exact ⟨b5, b6, r3, r4, rfl, rfl, Lib.hid ⟨C.out.bel, V5.out.gt, V6.out.gt, NE.out, V5.out.bx, V6.out.bx, P3.out, P4.out, C.out.x⟩⟩
        case stz15 =>
          go_simp
          refine hK.out _ _ (by exact Lib.hid (C.out.al _)) (fun _ => ?_)
          clear hK K
          try simp only [Act.put, List.setIfInBounds_toArray, List.set_cons_zero, List.set_cons_succ]
          obtain ⟨b6, hbb⟩ : ∃ b, b = W.heap.size := ⟨_, rfl⟩
          rw [← hbb]
          have NE := Lib.hid (show b5 ≠ b6 from fun e => absurd V5.out.bx.lt (by rw [e, hbb]; exact Nat.lt_irrefl _))
          refine at_worldP (fun W => Hid (TwF 31 w W f o q r) ∧ Hid (FwF (fun i => i ≠ b5 ∧ i ≠ b6) W f r3) ∧ Hid (Vf w W b5 fr0 fl0) ∧ Hid (Vf w W b6 fr0 fl0)) ⟨Lib.hid (C.out.al (obj0F 39)), Lib.hid ((P3.out.mono (G := (fun i => i ≠ b5 ∧ i ≠ b6)) (fun i hi hf => ⟨hf, (by rw [hbb]; exact Nat.ne_of_lt hi)⟩)).on ((Below.refl W.heap.size W).alloc (Nat.le_refl _) (obj0F 39))), Lib.hid (V5.out.al (obj0F 39)), Lib.hid (show Vf w _ b6 fr0 fl0 from hbb ▸ Vf.new C.out)⟩ ?_
          clear C P3 V5 hbb
          rintro W ⟨C, P3, V5, V6⟩
          refine wpAnyH_ready (rs := [3]) (by kernel_rfl) (by simp) ?_
          refine (AllReadyH.cons (o := ?oz20) ?hiz20 (fun K hK => ?stz20) AllReadyH.nil)
          case hiz20 => (simp only [List.getElem?_toArray, List.getElem?_cons_succ, List.getElem?_cons_zero]; rfl)
          case stz20 =>
            obtain ⟨G, hG⟩ : ∃ G : Nat → Prop, Hid (G = (fun i => i ≠ b5 ∧ i ≠ b6)) := ⟨_, Lib.hid rfl⟩
            have FN := Lib.hid (show ∀ i, W.heap.size ≤ i → G i by rw [hG.out]; exact fun i hi => ⟨Nat.ne_of_gt (Nat.lt_of_lt_of_le V5.out.bx.lt hi), Nat.ne_of_gt (Nat.lt_of_lt_of_le V6.out.bx.lt hi)⟩)
            have PW := Lib.hid (show FwF G W o r by rw [hG.out]; exact (H2.out.there.on C.out.bel).mono (fun i _ hi => ⟨Nat.ne_of_lt (Nat.lt_trans hi (Nat.lt_trans (Nat.lt_succ_self _) V5.out.gt)), Nat.ne_of_lt (Nat.lt_trans hi (Nat.lt_trans (Nat.lt_succ_self _) V6.out.gt))⟩))
            go_simp
            go_at_call 6
            with_reducible refine (eofF_any G o r _ FN.out PW.out RN.out RO.out).mono ?_
            rintro e wy ⟨r4, rfl, hq, hb⟩
            rw [hG.out] at hq
            dsimp only
            refine hK.out _ _ (by exact Lib.hid (C.out.step hb)) (fun _ => ?_)
            clear hK K FN PW hG
            try simp only [Act.put, List.setIfInBounds_toArray, List.set_cons_zero, List.set_cons_succ]
            refine at_worldP (fun W => Hid (TwF 31 w W f o q r) ∧ Hid (FwF (fun i => i ≠ b5 ∧ i ≠ b6) W f r3) ∧ Hid (FwF (fun i => i ≠ b5 ∧ i ≠ b6) W o r4) ∧ Hid (Vf w W b5 fr0 fl0) ∧ Hid (Vf w W b6 fr0 fl0)) ⟨Lib.hid (C.out.step hb), Lib.hid (P3.out.on hb), Lib.hid hq, Lib.hid (V5.out.below hb), Lib.hid (V6.out.below hb)⟩ ?_
            clear C P3 V5 V6 hq hb
            rintro W ⟨C, P3, P4, V5, V6⟩
            refine wpAnyH_ready (rs := [6]) (by kernel_rfl) (by simp) ?_
            refine AllReadyH.cons (o := ?oz21) ?hiz21 (fun K hK => ?stz21) AllReadyH.nil
            case hiz21 => (simp only [List.getElem?_toArray, List.getElem?_cons_succ, List.getElem?_cons_zero]; rfl)
            obtain ⟨e0, e1, e2, e3, e4, e5, e6, e7, e8, e9, e10, e11, e12⟩ := V5.out.bx.free
            obtain ⟨d0, d1, d2, d3, d4, d5, d6, d7, d8, d9, d10, d11, d12⟩ := V5.out.bx.all
            go_simp
            refine hK.out _ _ (by exact Lib.hid (C.out.putY V5.out.gt f r3)) (fun _ => ?_)
            clear hK K e0 e1 e2 e3 e4 e5 e6 e7 e8 e9 e10 e11 e12 d0 d1 d2 d3 d4 d5 d6 d7 d8 d9 d10 d11 d12
            try simp only [Act.put, List.setIfInBounds_toArray, List.set_cons_zero, List.set_cons_succ]
            refine at_worldP (fun W => Hid (TwF 31 w W f o q r) ∧ Hid (FwF (fun i => i ≠ b5 ∧ i ≠ b6) W f r3) ∧ Hid (FwF (fun i => i ≠ b5 ∧ i ≠ b6) W o r4) ∧ Hid (Vf w W b5 f r3) ∧ Hid (Vf w W b6 fr0 fl0)) ⟨Lib.hid (C.out.putY V5.out.gt f r3), Lib.hid (P3.out.keep ((put13_keeps W b5 f r3).less (fun _ _ h => h.1))), Lib.hid (P4.out.keep ((put13_keeps W b5 f r3).less (fun _ _ h => h.1))), Lib.hid (V5.out.put f r3), Lib.hid (V6.out.putO NE.out.symm f r3)⟩ ?_
            clear C P3 P4 V5 V6
            rintro W ⟨C, P3, P4, V5, V6⟩
            refine wpAnyH_ready (rs := [7]) (by kernel_rfl) (by simp) ?_
            refine AllReadyH.cons (o := ?oz22) ?hiz22 (fun K hK => ?stz22) AllReadyH.nil
            case hiz22 => (simp only [List.getElem?_toArray, List.getElem?_cons_succ, List.getElem?_cons_zero]; rfl)
            obtain ⟨e0, e1, e2, e3, e4, e5, e6, e7, e8, e9, e10, e11, e12⟩ := V6.out.bx.free
            obtain ⟨d0, d1, d2, d3, d4, d5, d6, d7, d8, d9, d10, d11, d12⟩ := V6.out.bx.all
            go_simp
            refine hK.out _ _ (by exact Lib.hid (C.out.putY V6.out.gt o r4)) (fun _ => ?_)
            clear hK K e0 e1 e2 e3 e4 e5 e6 e7 e8 e9 e10 e11 e12 d0 d1 d2 d3 d4 d5 d6 d7 d8 d9 d10 d11 d12
            try simp only [Act.put, List.setIfInBounds_toArray, List.set_cons_zero, List.set_cons_succ]
            refine at_worldP (fun W => Hid (TwF 31 w W f o q r) ∧ Hid (FwF (fun i => i ≠ b5 ∧ i ≠ b6) W f r3) ∧ Hid (FwF (fun i => i ≠ b5 ∧ i ≠ b6) W o r4) ∧ Hid (Vf w W b5 f r3) ∧ Hid (Vf w W b6 o r4)) ⟨Lib.hid (C.out.putY V6.out.gt o r4), Lib.hid (P3.out.keep ((put13_keeps W b6 o r4).less (fun _ _ h => h.2))), Lib.hid (P4.out.keep ((put13_keeps W b6 o r4).less (fun _ _ h => h.2))), Lib.hid (V5.out.putO NE.out o r4), Lib.hid (V6.out.put o r4)⟩ ?_
            clear C P3 P4 V5 V6
            rintro W ⟨C, P3, P4, V5, V6⟩
            refine wpAnyH_done (by kernel_rfl) ?_ _
            (try go_wp2_with fail); go_meet
            exact ⟨b5, b6, r3, r4, rfl, rfl, Lib.hid ⟨C.out.bel, V5.out.gt, V6.out.gt, NE.out, V5.out.bx, V6.out.bx, P3.out, P4.out, C.out.x⟩⟩
      case stz4 =>
        go_simp
        refine hK.out _ _ (by exact Lib.hid (C.out.al _)) (fun _ => ?_)
        clear hK K
        try simp only [Act.put, List.setIfInBounds_toArray, List.set_cons_zero, List.set_cons_succ]
        obtain ⟨b6, hbb⟩ : ∃ b, b = W.heap.size := ⟨_, rfl⟩
        rw [← hbb]
        refine at_worldP (fun W => Hid (TwF 31 w W f o q r) ∧ Hid (FwF (fun i => i ≠ b6) W f r3) ∧ Hid (Vf w W b6 fr0 fl0)) ⟨Lib.hid (C.out.al (obj0F 39)), Lib.hid ((P3.out.mono (G := (fun i => i ≠ b6)) (fun i hi _ => (by rw [hbb]; exact Nat.ne_of_lt hi))).on ((Below.refl W.heap.size W).alloc (Nat.le_refl _) (obj0F 39))), Lib.hid (show Vf w _ b6 fr0 fl0 from hbb ▸ Vf.new C.out)⟩ ?_
        clear C P3 hbb
        rintro W ⟨C, P3, V6⟩
        refine wpAnyH_ready (rs := [3, 4]) (by kernel_rfl) (by simp) ?_
        refine (AllReadyH.cons (o := ?oz24) ?hiz24 (fun K hK => ?stz24) (AllReadyH.cons (o := ?oz23) ?hiz23 (fun K hK => ?stz23) AllReadyH.nil))
        case hiz24 => (simp only [List.getElem?_toArray, List.getElem?_cons_succ, List.getElem?_cons_zero]; rfl)
        case hiz23 => (simp only [List.getElem?_toArray, List.getElem?_cons_succ, List.getElem?_cons_zero]; rfl)
        case stz24 =>
          obtain ⟨G, hG⟩ : ∃ G : Nat → Prop, Hid (G = (fun i => i ≠ b6)) := ⟨_, Lib.hid rfl⟩
          have FN := Lib.hid (show ∀ i, W.heap.size ≤ i → G i by rw [hG.out]; exact fun i hi => Nat.ne_of_gt (Nat.lt_of_lt_of_le V6.out.bx.lt hi))
          have PW := Lib.hid (show FwF G W o r by rw [hG.out]; exact (H2.out.there.on C.out.bel).mono (fun i _ hi => Nat.ne_of_lt (Nat.lt_trans hi (Nat.lt_trans (Nat.lt_succ_self _) V6.out.gt))))
          go_simp
          go_at_call 6
          with_reducible refine (eofF_any G o r _ FN.out PW.out RN.out RO.out).mono ?_
          rintro e wy ⟨r4, rfl, hq, hb⟩
          rw [hG.out] at hq
          dsimp only
          refine hK.out _ _ (by exact Lib.hid (C.out.step hb)) (fun _ => ?_)
          clear hK K FN PW hG
          try simp only [Act.put, List.setIfInBounds_toArray, List.set_cons_zero, List.set_cons_succ]
          refine at_worldP (fun W => Hid (TwF 31 w W f o q r) ∧ Hid (FwF (fun i => i ≠ b6) W f r3) ∧ Hid (FwF (fun i => i ≠ b6) W o r4) ∧ Hid (Vf w W b6 fr0 fl0)) ⟨Lib.hid (C.out.step hb), Lib.hid (P3.out.on hb), Lib.hid hq, Lib.hid (V6.out.below hb)⟩ ?_
          clear C P3 V6 hq hb
          rintro W ⟨C, P3, P4, V6⟩
          refine wpAnyH_ready (rs := [4]) (by kernel_rfl) (by simp) ?_
          refine (AllReadyH.cons (o := ?oz25) ?hiz25 (fun K hK => ?stz25) AllReadyH.nil)
          case hiz25 => (simp only [List.getElem?_toArray, List.getElem?_cons_succ, List.getElem?_cons_zero]; rfl)
          case stz25 =>
            go_simp
            refine hK.out _ _ (by exact Lib.hid (C.out.al _)) (fun _ => ?_)
            clear hK K
            try simp only [Act.put, List.setIfInBounds_toArray, List.set_cons_zero, List.set_cons_succ]
            obtain ⟨b5, hbb⟩ : ∃ b, b = W.heap.size := ⟨_, rfl⟩
            rw [← hbb]
            have NE := Lib.hid (show b5 ≠ b6 from fun e => absurd V6.out.bx.lt (by rw [← e, hbb]; exact Nat.lt_irrefl _))
            refine at_worldP (fun W => Hid (TwF 31 w W f o q r) ∧ Hid (FwF (fun i => i ≠ b5 ∧ i ≠ b6) W f r3) ∧ Hid (FwF (fun i => i ≠ b5 ∧ i ≠ b6) W o r4) ∧ Hid (Vf w W b5 fr0 fl0) ∧ Hid (Vf w W b6 fr0 fl0)) ⟨Lib.hid (C.out.al (obj0F 39)), Lib.hid ((P3.out.mono (G := (fun i => i ≠ b5 ∧ i ≠ b6)) (fun i hi hf => ⟨(by rw [hbb]; exact Nat.ne_of_lt hi), hf⟩)).on ((Below.refl W.heap.size W).alloc (Nat.le_refl _) (obj0F 39))), Lib.hid ((P4.out.mono (G := (fun i => i ≠ b5 ∧ i ≠ b6)) (fun i hi hf => ⟨(by rw [hbb]; exact Nat.ne_of_lt hi), hf⟩)).on ((Below.refl W.heap.size W).alloc (Nat.le_refl _) (obj0F 39))), Lib.hid (show Vf w _ b5 fr0 fl0 from hbb ▸ Vf.new C.out), Lib.hid (V6.out.al (obj0F 39))⟩ ?_
            clear C P3 P4 V6 hbb
            rintro W ⟨C, P3, P4, V5, V6⟩
            refine wpAnyH_ready (rs := [6]) (by kernel_rfl) (by simp) ?_
            refine AllReadyH.cons (o := ?oz26) ?hiz26 (fun K hK => ?stz26) AllReadyH.nil
            case hiz26 => (simp only [List.getElem?_toArray, List.getElem?_cons_succ, List.getElem?_cons_zero]; rfl)
            obtain ⟨e0, e1, e2, e3, e4, e5, e6, e7, e8, e9, e10, e11, e12⟩ := V5.out.bx.free
            obtain ⟨d0, d1, d2, d3, d4, d5, d6, d7, d8, d9, d10, d11, d12⟩ := V5.out.bx.all
            go_simp
            refine hK.out _ _ (by exact Lib.hid (C.out.putY V5.out.gt f r3)) (fun _ => ?_)
            clear hK K e0 e1 e2 e3 e4 e5 e6 e7 e8 e9 e10 e11 e12 d0 d1 d2 d3 d4 d5 d6 d7 d8 d9 d10 d11 d12
            try simp only [Act.put, List.setIfInBounds_toArray, List.set_cons_zero, List.set_cons_succ]
            refine at_worldP (fun W => Hid (TwF 31 w W f o q r) ∧ Hid (FwF (fun i => i ≠ b5 ∧ i ≠ b6) W f r3) ∧ Hid (FwF (fun i => i ≠ b5 ∧ i ≠ b6) W o r4) ∧ Hid (Vf w W b5 f r3) ∧ Hid (Vf w W b6 fr0 fl0)) ⟨Lib.hid (C.out.putY V5.out.gt f r3), Lib.hid (P3.out.keep ((put13_keeps W b5 f r3).less (fun _ _ h => h.1))), Lib.hid (P4.out.keep ((put13_keeps W b5 f r3).less (fun _ _ h => h.1))), Lib.hid (V5.out.put f r3), Lib.hid (V6.out.putO NE.out.symm f r3)⟩ ?_
            clear C P3 P4 V5 V6
            rintro W ⟨C, P3, P4, V5, V6⟩
            refine wpAnyH_ready (rs := [7]) (by kernel_rfl) (by simp) ?_
            refine AllReadyH.cons (o := ?oz27) ?hiz27 (fun K hK => ?stz27) AllReadyH.nil
            case hiz27 => (simp only [List.getElem?_toArray, List.getElem?_cons_succ, List.getElem?_cons_zero]; rfl)
            obtain ⟨e0, e1, e2, e3, e4, e5, e6, e7, e8, e9, e10, e11, e12⟩ := V6.out.bx.free
            obtain ⟨d0, d1, d2, d3, d4, d5, d6, d7, d8, d9, d10, d11, d12⟩ := V6.out.bx.all
            go_simp
            refine hK.out _ _ (by exact Lib.hid (C.out.putY V6.out.gt o r4)) (fun _ => ?_)
            clear hK K e0 e1 e2 e3 e4 e5 e6 e7 e8 e9 e10 e11 e12 d0 d1 d2 d3 d4 d5 d6 d7 d8 d9 d10 d11 d12
            try simp only [Act.put, List.setIfInBounds_toArray, List.set_cons_zero, List.set_cons_succ]
            refine at_worldP (fun W => Hid (TwF 31 w W f o q r) ∧ Hid (FwF (fun i => i ≠ b5 ∧ i ≠ b6) W f r3) ∧ Hid (FwF (fun i => i ≠ b5 ∧ i ≠ b6) W o r4) ∧ Hid (Vf w W b5 f r3) ∧ Hid (Vf w W b6 o r4)) ⟨Lib.hid (C.out.putY V6.out.gt o r4), Lib.hid (P3.out.keep ((put13_keeps W b6 o r4).less (fun _ _ h => h.2))), Lib.hid (P4.out.keep ((put13_keeps W b6 o r4).less (fun _ _ h => h.2))), Lib.hid (V5.out.putO NE.out o r4), Lib.hid (V6.out.put o r4)⟩ ?_
            clear C P3 P4 V5 V6
            rintro W ⟨C, P3, P4, V5, V6⟩
            refine wpAnyH_done (by kernel_rfl) ?_ _
            (try go_wp2_with fail); go_meet
            exact ⟨b5, b6, r3, r4, rfl, rfl, Lib.hid ⟨C.out.bel, V5.out.gt, V6.out.gt, NE.out, V5.out.bx, V6.out.bx, P3.out, P4.out, C.out.x⟩⟩
        case stz23 =>
          go_simp
          refine hK.out _ _ (by exact Lib.hid (C.out.al _)) (fun _ => ?_)
          clear hK K
          try simp only [Act.put, List.setIfInBounds_toArray, List.set_cons_zero, List.set_cons_succ]
          obtain ⟨b5, hbb⟩ : ∃ b, b = W.heap.size := ⟨_, rfl⟩
          rw [← hbb]
          have NE := Lib.hid (show b5 ≠ b6 from fun e => absurd V6.out.bx.lt (by rw [← e, hbb]; exact Nat.lt_irrefl _))
          refine at_worldP (fun W => Hid (TwF 31 w W f o q r) ∧ Hid (FwF (fun i => i ≠ b5 ∧ i ≠ b6) W f r3) ∧ Hid (Vf w W b5 fr0 fl0) ∧ Hid (Vf w W b6 fr0 fl0)) ⟨Lib.hid (C.out.al (obj0F 39)), Lib.hid ((P3.out.mono (G := (fun i => i ≠ b5 ∧ i ≠ b6)) (fun i hi hf => ⟨(by rw [hbb]; exact Nat.ne_of_lt hi), hf⟩)).on ((Below.refl W.heap.size W).alloc (Nat.le_refl _) (obj0F 39))), Lib.hid (show Vf w _ b5 fr0 fl0 from hbb ▸ Vf.new C.out), Lib.hid (V6.out.al (obj0F 39))⟩ ?_
          clear C P3 V6 hbb
          rintro W ⟨C, P3, V5, V6⟩
          refine wpAnyH_ready (rs := [3]) (by kernel_rfl) (by simp) ?_
          refine (AllReadyH.cons (o := ?oz28) ?hiz28 (fun K hK => ?stz28) AllReadyH.nil)
          case hiz28 => (simp only [List.getElem?_toArray, List.getElem?_cons_succ, List.getElem?_cons_zero]; rfl)
          case stz28 =>
            obtain ⟨G, hG⟩ : ∃ G : Nat → Prop, Hid (G = (fun i => i ≠ b5 ∧ i ≠ b6)) := ⟨_, Lib.hid rfl⟩
            have FN := Lib.hid (show ∀ i, W.heap.size ≤ i → G i by rw [hG.out]; exact fun i hi => ⟨Nat.ne_of_gt (Nat.lt_of_lt_of_le V5.out.bx.lt hi), Nat.ne_of_gt (Nat.lt_of_lt_of_le V6.out.bx.lt hi)⟩)
            have PW := Lib.hid (show FwF G W o r by rw [hG.out]; exact (H2.out.there.on C.out.bel).mono (fun i _ hi => ⟨Nat.ne_of_lt (Nat.lt_trans hi (Nat.lt_trans (Nat.lt_succ_self _) V5.out.gt)), Nat.ne_of_lt (Nat.lt_trans hi (Nat.lt_trans (Nat.lt_succ_self _) V6.out.gt))⟩))
            go_simp
            go_at_call 6
            with_reducible refine (eofF_any G o r _ FN.out PW.out RN.out RO.out).mono ?_
            rintro e wy ⟨r4, rfl, hq, hb⟩
            rw [hG.out] at hq
            dsimp only
            refine hK.out _ _ (by exact Lib.hid (C.out.step hb)) (fun _ => ?_)
            clear hK K FN PW hG
            try simp only [Act.put, List.setIfInBounds_toArray, List.set_cons_zero, List.set_cons_succ]
            refine at_worldP (fun W => Hid (TwF 31 w W f o q r) ∧ Hid (FwF (fun i => i ≠ b5 ∧ i ≠ b6) W f r3) ∧ Hid (FwF (fun i => i ≠ b5 ∧ i ≠ b6) W o r4) ∧ Hid (Vf w W b5 fr0 fl0) ∧ Hid (Vf w W b6 fr0 fl0)) ⟨Lib.hid (C.out.step hb), Lib.hid (P3.out.on hb), Lib.hid hq, Lib.hid (V5.out.below hb), Lib.hid (V6.out.below hb)⟩ ?_
            clear C P3 V5 V6 hq hb
            rintro W ⟨C, P3, P4, V5, V6⟩
            refine wpAnyH_ready (rs := [6]) (by kernel_rfl) (by simp) ?_
            refine AllReadyH.cons (o := ?oz29) ?hiz29 (fun K hK => ?stz29) AllReadyH.nil
            case hiz29 => (simp only [List.getElem?_toArray, List.getElem?_cons_succ, List.getElem?_cons_zero]; rfl)
            obtain ⟨e0, e1, e2, e3, e4, e5, e6, e7, e8, e9, e10, e11, e12⟩ := V5.out.bx.free
            obtain ⟨d0, d1, d2, d3, d4, d5, d6, d7, d8, d9, d10, d11, d12⟩ := V5.out.bx.all
            go_simp
            refine hK.out _ _ (by exact Lib.hid (C.out.putY V5.out.gt f r3)) (fun _ => ?_)
            clear hK K e0 e1 e2 e3 e4 e5 e6 e7 e8 e9 e10 e11 e12 d0 d1 d2 d3 d4 d5 d6 d7 d8 d9 d10 d11 d12
            try simp only [Act.put, List.setIfInBounds_toArray, List.set_cons_zero, List.set_cons_succ]
            refine at_worldP (fun W => Hid (TwF 31 w W f o q r) ∧ Hid (FwF (fun i => i ≠ b5 ∧ i ≠ b6) W f r3) ∧ Hid (FwF (fun i => i ≠ b5 ∧ i ≠ b6) W o r4) ∧ Hid (Vf w W b5 f r3) ∧ Hid (Vf w W b6 fr0 fl0)) ⟨Lib.hid (C.out.putY V5.out.gt f r3), Lib.hid (P3.out.keep ((put13_keeps W b5 f r3).less (fun _ _ h => h.1))), Lib.hid (P4.out.keep ((put13_keeps W b5 f r3).less (fun _ _ h => h.1))), Lib.hid (V5.out.put f r3), Lib.hid (V6.out.putO NE.out.symm f r3)⟩ ?_
            clear C P3 P4 V5 V6
            rintro W ⟨C, P3, P4, V5, V6⟩
            refine wpAnyH_ready (rs := [7]) (by kernel_rfl) (by simp) ?_
            refine AllReadyH.cons (o := ?oz30) ?hiz30 (fun K hK => ?stz30) AllReadyH.nil
            case hiz30 => (simp only [List.getElem?_toArray, List.getElem?_cons_succ, List.getElem?_cons_zero]; rfl)
            obtain ⟨e0, e1, e2, e3, e4, e5, e6, e7, e8, e9, e10, e11, e12⟩ := V6.out.bx.free
            obtain ⟨d0, d1, d2, d3, d4, d5, d6, d7, d8, d9, d10, d11, d12⟩ := V6.out.bx.all
            go_simp
            refine hK.out _ _ (by exact Lib.hid (C.out.putY V6.out.gt o r4)) (fun _ => ?_)
            clear hK K e0 e1 e2 e3 e4 e5 e6 e7 e8 e9 e10 e11 e12 d0 d1 d2 d3 d4 d5 d6 d7 d8 d9 d10 d11 d12
            try simp only [Act.put, List.setIfInBounds_toArray, List.set_cons_zero, List.set_cons_succ]
            refine at_worldP (fun W => Hid (TwF 31 w W f o q r) ∧ Hid (FwF (fun i => i ≠ b5 ∧ i ≠ b6) W f r3) ∧ Hid (FwF (fun i => i ≠ b5 ∧ i ≠ b6) W o r4) ∧ Hid (Vf w W b5 f r3) ∧ Hid (Vf w W b6 o r4)) ⟨Lib.hid (C.out.putY V6.out.gt o r4), Lib.hid (P3.out.keep ((put13_keeps W b6 o r4).less (fun _ _ h => h.2))), Lib.hid (P4.out.keep ((put13_keeps W b6 o r4).less (fun _ _ h => h.2))), Lib.hid (V5.out.putO NE.out o r4), Lib.hid (V6.out.put o r4)⟩ ?_
            clear C P3 P4 V5 V6
            rintro W ⟨C, P3, P4, V5, V6⟩
            refine wpAnyH_done (by kernel_rfl) ?_ _
            (try go_wp2_with fail); go_meet
            exact ⟨b5, b6, r3, r4, rfl, rfl, Lib.hid ⟨C.out.bel, V5.out.gt, V6.out.gt, NE.out, V5.out.bx, V6.out.bx, P3.out, P4.out, C.out.x⟩⟩
    case stz2 =>
      go_simp
      refine hK.out _ _ (by exact Lib.hid (C.out.al _)) (fun _ => ?_)
      clear hK K
      try simp only [Act.put, List.setIfInBounds_toArray, List.set_cons_zero, List.set_cons_succ]
      obtain ⟨b5, hbb⟩ : ∃ b, b = W.heap.size := ⟨_, rfl⟩
      rw [← hbb]
      refine at_worldP (fun W => Hid (TwF 31 w W f o q r) ∧ Hid (Vf w W b5 fr0 fl0)) ⟨Lib.hid (C.out.al (obj0F 39)), Lib.hid (show Vf w _ b5 fr0 fl0 from hbb ▸ Vf.new C.out)⟩ ?_
      clear C hbb
      rintro W ⟨C, V5⟩
      refine wpAnyH_ready (rs := [1, 5]) (by kernel_rfl) (by simp) ?_
      refine (AllReadyH.cons (o := ?oz32) ?hiz32 (fun K hK => ?stz32) (AllReadyH.cons (o := ?oz31) ?hiz31 (fun K hK => ?stz31) AllReadyH.nil))
      case hiz32 => (simp only [List.getElem?_toArray, List.getElem?_cons_succ, List.getElem?_cons_zero]; rfl)
      case hiz31 => (simp only [List.getElem?_toArray, List.getElem?_cons_succ, List.getElem?_cons_zero]; rfl)
      case stz32 =>
        obtain ⟨G, hG⟩ : ∃ G : Nat → Prop, Hid (G = (fun i => i ≠ b5)) := ⟨_, Lib.hid rfl⟩
        have FN := Lib.hid (show ∀ i, W.heap.size ≤ i → G i by rw [hG.out]; exact fun i hi => Nat.ne_of_gt (Nat.lt_of_lt_of_le V5.out.bx.lt hi))
        have PW := Lib.hid (show FwF G W f q by rw [hG.out]; exact (H.out.there.on C.out.bel).mono (fun i _ hi => Nat.ne_of_lt (Nat.lt_trans hi (Nat.lt_trans (Nat.lt_succ_self _) V5.out.gt))))
        go_simp
        go_at_call 6
        with_reducible refine (eofF_any G f q _ FN.out PW.out QN.out QO.out).mono ?_
        rintro e wy ⟨r3, rfl, hq, hb⟩
        rw [hG.out] at hq
        dsimp only
        refine hK.out _ _ (by exact Lib.hid (C.out.step hb)) (fun _ => ?_)
        clear hK K FN PW hG
        try simp only [Act.put, List.setIfInBounds_toArray, List.set_cons_zero, List.set_cons_succ]
        refine at_worldP (fun W => Hid (TwF 31 w W f o q r) ∧ Hid (FwF (fun i => i ≠ b5) W f r3) ∧ Hid (Vf w W b5 fr0 fl0)) ⟨Lib.hid (C.out.step hb), Lib.hid hq, Lib.hid (V5.out.below hb)⟩ ?_
        clear C V5 hq hb
        rintro W ⟨C, P3, V5⟩
        refine wpAnyH_ready (rs := [3, 5]) (by kernel_rfl) (by simp) ?_
        refine (AllReadyH.cons (o := ?oz34) ?hiz34 (fun K hK => ?stz34) (AllReadyH.cons (o := ?oz33) ?hiz33 (fun K hK => ?stz33) AllReadyH.nil))
        case hiz34 => (simp only [List.getElem?_toArray, List.getElem?_cons_succ, List.getElem?_cons_zero]; rfl)
        case hiz33 => (simp only [List.getElem?_toArray, List.getElem?_cons_succ, List.getElem?_cons_zero]; rfl)
        case stz34 =>
          obtain ⟨G, hG⟩ : ∃ G : Nat → Prop, Hid (G = (fun i => i ≠ b5)) := ⟨_, Lib.hid rfl⟩
          have FN := Lib.hid (show ∀ i, W.heap.size ≤ i → G i by rw [hG.out]; exact fun i hi => Nat.ne_of_gt (Nat.lt_of_lt_of_le V5.out.bx.lt hi))
          have PW := Lib.hid (show FwF G W o r by rw [hG.out]; exact (H2.out.there.on C.out.bel).mono (fun i _ hi => Nat.ne_of_lt (Nat.lt_trans hi (Nat.lt_trans (Nat.lt_succ_self _) V5.out.gt))))
          go_simp
          go_at_call 6
          with_reducible refine (eofF_any G o r _ FN.out PW.out RN.out RO.out).mono ?_
          rintro e wy ⟨r4, rfl, hq, hb⟩
          rw [hG.out] at hq
          dsimp only
          refine hK.out _ _ (by exact Lib.hid (C.out.step hb)) (fun _ => ?_)
          clear hK K FN PW hG
          try simp only [Act.put, List.setIfInBounds_toArray, List.set_cons_zero, List.set_cons_succ]
          refine at_worldP (fun W => Hid (TwF 31 w W f o q r) ∧ Hid (FwF (fun i => i ≠ b5) W f r3) ∧ Hid (FwF (fun i => i ≠ b5) W o r4) ∧ Hid (Vf w W b5 fr0 fl0)) ⟨Lib.hid (C.out.step hb), Lib.hid (P3.out.on hb), Lib.hid hq, Lib.hid (V5.out.below hb)⟩ ?_
          clear C P3 V5 hq hb
          rintro W ⟨C, P3, P4, V5⟩
          refine wpAnyH_ready (rs := [5]) (by kernel_rfl) (by simp) ?_
          refine (AllReadyH.cons (o := ?oz35) ?hiz35 (fun K hK => ?stz35) AllReadyH.nil)
          case hiz35 => (simp only [List.getElem?_toArray, List.getElem?_cons_succ, List.getElem?_cons_zero]; rfl)
          case stz35 =>
            go_simp
            refine hK.out _ _ (by exact Lib.hid (C.out.al _)) (fun _ => ?_)
            clear hK K
            try simp only [Act.put, List.setIfInBounds_toArray, List.set_cons_zero, List.set_cons_succ]
            obtain ⟨b6, hbb⟩ : ∃ b, b = W.heap.size := ⟨_, rfl⟩
            rw [← hbb]
            have NE := Lib.hid (show b5 ≠ b6 from fun e => absurd V5.out.bx.lt (by rw [e, hbb]; exact Nat.lt_irrefl _))
            refine at_worldP (fun W => Hid (TwF 31 w W f o q r) ∧ Hid (FwF (fun i => i ≠ b5 ∧ i ≠ b6) W f r3) ∧ Hid (FwF (fun i => i ≠ b5 ∧ i ≠ b6) W o r4) ∧ Hid (Vf w W b5 fr0 fl0) ∧ Hid (Vf w W b6 fr0 fl0)) ⟨Lib.hid (C.out.al (obj0F 39)), Lib.hid ((P3.out.mono (G := (fun i => i ≠ b5 ∧ i ≠ b6)) (fun i hi hf => ⟨hf, (by rw [hbb]; exact Nat.ne_of_lt hi)⟩)).on ((Below.refl W.heap.size W).alloc (Nat.le_refl _) (obj0F 39))), Lib.hid ((P4.out.mono (G := (fun i => i ≠ b5 ∧ i ≠ b6)) (fun i hi hf => ⟨hf, (by rw [hbb]; exact Nat.ne_of_lt hi)⟩)).on ((Below.refl W.heap.size W).alloc (Nat.le_refl _) (obj0F 39))), Lib.hid (V5.out.al (obj0F 39)), Lib.hid (show Vf w _ b6 fr0 fl0 from hbb ▸ Vf.new C.out)⟩ ?_
            clear C P3 P4 V5 hbb
            rintro W ⟨C, P3, P4, V5, V6⟩
            refine wpAnyH_ready (rs := [6]) (by kernel_rfl) (by simp) ?_
            refine AllReadyH.cons (o := ?oz36) ?hiz36 (fun K hK => ?stz36) AllReadyH.nil
            case hiz36 => (simp only [List.getElem?_toArray, List.getElem?_cons_succ, List.getElem?_cons_zero]; rfl)
            obtain ⟨e0, e1, e2, e3, e4, e5, e6, e7, e8, e9, e10, e11, e12⟩ := V5.out.bx.free
            obtain ⟨d0, d1, d2, d3, d4, d5, d6, d7, d8, d9, d10, d11, d12⟩ := V5.out.bx.all
            go_simp
            refine hK.out _ _ (by exact Lib.hid (C.out.putY V5.out.gt f r3)) (fun _ => ?_)
            clear hK K e0 e1 e2 e3 e4 e5 e6 e7 e8 e9 e10 e11 e12 d0 d1 d2 d3 d4 d5 d6 d7 d8 d9 d10 d11 d12
            try simp only [Act.put, List.setIfInBounds_toArray, List.set_cons_zero, List.set_cons_succ]
            refine at_worldP (fun W => Hid (TwF 31 w W f o q r) ∧ Hid (FwF (fun i => i ≠ b5 ∧ i ≠ b6) W f r3) ∧ Hid (FwF (fun i => i ≠ b5 ∧ i ≠ b6) W o r4) ∧ Hid (Vf w W b5 f r3) ∧ Hid (Vf w W b6 fr0 fl0)) ⟨Lib.hid (C.out.putY V5.out.gt f r3), Lib.hid (P3.out.keep ((put13_keeps W b5 f r3).less (fun _ _ h => h.1))), Lib.hid (P4.out.keep ((put13_keeps W b5 f r3).less (fun _ _ h => h.1))), Lib.hid (V5.out.put f r3), Lib.hid (V6.out.putO NE.out.symm f r3)⟩ ?_
            clear C P3 P4 V5 V6
            rintro W ⟨C, P3, P4, V5, V6⟩
            refine wpAnyH_ready (rs := [7]) (by kernel_rfl) (by simp) ?_
            refine AllReadyH.cons (o := ?oz37) ?hiz37 (fun K hK => ?stz37) AllReadyH.nil
            case hiz37 => (simp only [List.getElem?_toArray, List.getElem?_cons_succ, List.getElem?_cons_zero]; rfl)
            obtain ⟨e0, e1, e2, e3, e4, e5, e6, e7, e8, e9, e10, e11, e12⟩ := V6.out.bx.free
            obtain ⟨d0, d1, d2, d3, d4, d5, d6, d7, d8, d9, d10, d11, d12⟩ := V6.out.bx.all
            go_simp
            refine hK.out _ _ (by exact Lib.hid (C.out.putY V6.out.gt o r4)) (fun _ => ?_)
            clear hK K e0 e1 e2 e3 e4 e5 e6 e7 e8 e9 e10 e11 e12 d0 d1 d2 d3 d4 d5 d6 d7 d8 d9 d10 d11 d12
            try simp only [Act.put, List.setIfInBounds_toArray, List.set_cons_zero, List.set_cons_succ]
            refine at_worldP (fun W => Hid (TwF 31 w W f o q r) ∧ Hid (FwF (fun i => i ≠ b5 ∧ i ≠ b6) W f r3) ∧ Hid (FwF (fun i => i ≠ b5 ∧ i ≠ b6) W o r4) ∧ Hid (Vf w W b5 f r3) ∧ Hid (Vf w W b6 o r4)) ⟨Lib.hid (C.out.putY V6.out.gt o r4), Lib.hid (P3.out.keep ((put13_keeps W b6 o r4).less (fun _ _ h => h.2))), Lib.hid (P4.out.keep ((put13_keeps W b6 o r4).less (fun _ _ h => h.2))), Lib.hid (V5.out.putO NE.out o r4), Lib.hid (V6.out.put o r4)⟩ ?_
            clear C P3 P4 V5 V6
            rintro W ⟨C, P3, P4, V5, V6⟩
            refine wpAnyH_done (by kernel_rfl) ?_ _
            (try go_wp2_with fail); go_meet
            exact ⟨b5, b6, r3, r4, rfl, rfl, Lib.hid ⟨C.out.bel, V5.out.gt, V6.out.gt, NE.out, V5.out.bx, V6.out.bx, P3.out, P4.out, C.out.x⟩⟩
        case stz33 =>
          go_simp
          refine hK.out _ _ (by exact Lib.hid (C.out.al _)) (fun _ => ?_)
          clear hK K
          try simp only [Act.put, List.setIfInBounds_toArray, List.set_cons_zero, List.set_cons_succ]
          obtain ⟨b6, hbb⟩ : ∃ b, b = W.heap.size := ⟨_, rfl⟩
          rw [← hbb]
          have NE := Lib.hid (show b5 ≠ b6 from fun e => absurd V5.out.bx.lt (by rw [e, hbb]; exact Nat.lt_irrefl _))
          refine at_worldP (fun W => Hid (TwF 31 w W f o q r) ∧ Hid (FwF (fun i => i ≠ b5 ∧ i ≠ b6) W f r3) ∧ Hid (Vf w W b5 fr0 fl0) ∧ Hid (Vf w W b6 fr0 fl0)) ⟨Lib.hid (C.out.al (obj0F 39)), Lib.hid ((P3.out.mono (G := (fun i => i ≠ b5 ∧ i ≠ b6)) (fun i hi hf => ⟨hf, (by rw [hbb]; exact Nat.ne_of_lt hi)⟩)).on ((Below.refl W.heap.size W).alloc (Nat.le_refl _) (obj0F 39))), Lib.hid (V5.out.al (obj0F 39)), Lib.hid (show Vf w _ b6 fr0 fl0 from hbb ▸ Vf.new C.out)⟩ ?_
          clear C P3 V5 hbb
          rintro W ⟨C, P3, V5, V6⟩
          refine wpAnyH_ready (rs := [3]) (by kernel_rfl) (by simp) ?_
          refine (AllReadyH.cons (o := ?oz38) ?hiz38 (fun K hK => ?stz38) AllReadyH.nil)
          case hiz38 => (simp only [List.getElem?_toArray, List.getElem?_cons_succ, List.getElem?_cons_zero]; rfl)
          case stz38 =>
            obtain ⟨G, hG⟩ : ∃ G : Nat → Prop, Hid (G = (fun i => i ≠ b5 ∧ i ≠ b6)) := ⟨_, Lib.hid rfl⟩
            have FN := Lib.hid (show ∀ i, W.heap.size ≤ i → G i by rw [hG.out]; exact fun i hi => ⟨Nat.ne_of_gt (Nat.lt_of_lt_of_le V5.out.bx.lt hi), Nat.ne_of_gt (Nat.lt_of_lt_of_le V6.out.bx.lt hi)⟩)
            have PW := Lib.hid (show FwF G W o r by rw [hG.out]; exact (H2.out.there.on C.out.bel).mono (fun i _ hi => ⟨Nat.ne_of_lt (Nat.lt_trans hi (Nat.lt_trans (Nat.lt_succ_self _) V5.out.gt)), Nat.ne_of_lt (Nat.lt_trans hi (Nat.lt_trans (Nat.lt_succ_self _) V6.out.gt))⟩))
            go_simp
            go_at_call 6
            with_reducible refine (eofF_any G o r _ FN.out PW.out RN.out RO.out).mono ?_
            rintro e wy ⟨r4, rfl, hq, hb⟩
            rw [hG.out] at hq
            dsimp only
            refine hK.out _ _ (by exact Lib.hid (C.out.step hb)) (fun _ => ?_)
            clear hK K FN PW hG
            try simp only [Act.put, List.setIfInBounds_toArray, List.set_cons_zero, List.set_cons_succ]
            refine at_worldP (fun W => Hid (TwF 31 w W f o q r) ∧ Hid (FwF (fun i => i ≠ b5 ∧ i ≠ b6) W f r3) ∧ Hid (FwF (fun i => i ≠ b5 ∧ i ≠ b6) W o r4) ∧ Hid (Vf w W b5 fr0 fl0) ∧ Hid (Vf w W b6 fr0 fl0)) ⟨Lib.hid (C.out.step hb), Lib.hid (P3.out.on hb), Lib.hid hq, Lib.hid (V5.out.below hb), Lib.hid (V6.out.below hb)⟩ ?_
            clear C P3 V5 V6 hq hb
            rintro W ⟨C, P3, P4, V5, V6⟩
            refine wpAnyH_ready (rs := [6]) (by kernel_rfl) (by simp) ?_
            refine AllReadyH.cons (o := ?oz39) ?hiz39 (fun K hK => ?stz39) AllReadyH.nil
            case hiz39 => (simp only [List.getElem?_toArray, List.getElem?_cons_succ, List.getElem?_cons_zero]; rfl)
            obtain ⟨e0, e1, e2, e3, e4, e5, e6, e7, e8, e9, e10, e11, e12⟩ := V5.out.bx.free
            obtain ⟨d0, d1, d2, d3, d4, d5, d6, d7, d8, d9, d10, d11, d12⟩ := V5.out.bx.all
            go_simp
            refine hK.out _ _ (by exact Lib.hid (C.out.putY V5.out.gt f r3)) (fun _ => ?_)
            clear hK K e0 e1 e2 e3 e4 e5 e6 e7 e8 e9 e10 e11 e12 d0 d1 d2 d3 d4 d5 d6 d7 d8 d9 d10 d11 d12
            try simp only [Act.put, List.setIfInBounds_toArray, List.set_cons_zero, List.set_cons_succ]
            refine at_worldP (fun W => Hid (TwF 31 w W f o q r) ∧ Hid (FwF (fun i => i ≠ b5 ∧ i ≠ b6) W f r3) ∧ Hid (FwF (fun i => i ≠ b5 ∧ i ≠ b6) W o r4) ∧ Hid (Vf w W b5 f r3) ∧ Hid (Vf w W b6 fr0 fl0)) ⟨Lib.hid (C.out.putY V5.out.gt f r3), Lib.hid (P3.out.keep ((put13_keeps W b5 f r3).less (fun _ _ h => h.1))), Lib.hid (P4.out.keep ((put13_keeps W b5 f r3).less (fun _ _ h => h.1))), Lib.hid (V5.out.put f r3), Lib.hid (V6.out.putO NE.out.symm f r3)⟩ ?_
            clear C P3 P4 V5 V6
            rintro W ⟨C, P3, P4, V5, V6⟩
            refine wpAnyH_ready (rs := [7]) (by kernel_rfl) (by simp) ?_
            refine AllReadyH.cons (o := ?oz40) ?hiz40 (fun K hK => ?stz40) AllReadyH.nil
            case hiz40 => (simp only [List.getElem?_toArray, List.getElem?_cons_succ, List.getElem?_cons_zero]; rfl)
            obtain ⟨e0, e1, e2, e3, e4, e5, e6, e7, e8, e9, e10, e11, e12⟩ := V6.out.bx.free
            obtain ⟨d0, d1, d2, d3, d4, d5, d6, d7, d8, d9, d10, d11, d12⟩ := V6.out.bx.all
            go_simp
            refine hK.out _ _ (by exact Lib.hid (C.out.putY V6.out.gt o r4)) (fun _ => ?_)
            clear hK K e0 e1 e2 e3 e4 e5 e6 e7 e8 e9 e10 e11 e12 d0 d1 d2 d3 d4 d5 d6 d7 d8 d9 d10 d11 d12
            try simp only [Act.put, List.setIfInBounds_toArray, List.set_cons_zero, List.set_cons_succ]
            refine at_worldP (fun W => Hid (TwF 31 w W f o q r) ∧ Hid (FwF (fun i => i ≠ b5 ∧ i ≠ b6) W f r3) ∧ Hid (FwF (fun i => i ≠ b5 ∧ i ≠ b6) W o r4) ∧ Hid (Vf w W b5 f r3) ∧ Hid (Vf w W b6 o r4)) ⟨Lib.hid (C.out.putY V6.out.gt o r4), Lib.hid (P3.out.keep ((put13_keeps W b6 o r4).less (fun _ _ h => h.2))), Lib.hid (P4.out.keep ((put13_keeps W b6 o r4).less (fun _ _ h => h.2))), Lib.hid (V5.out.putO NE.out o r4), Lib.hid (V6.out.put o r4)⟩ ?_
            clear C P3 P4 V5 V6
            rintro W ⟨C, P3, P4, V5, V6⟩
            refine wpAnyH_done (by kernel_rfl) ?_ _
            (try go_wp2_with fail); go_meet
            exact ⟨b5, b6, r3, r4, rfl, rfl, Lib.hid ⟨C.out.bel, V5.out.gt, V6.out.gt, NE.out, V5.out.bx, V6.out.bx, P3.out, P4.out, C.out.x⟩⟩
      case stz31 =>
        go_simp
        refine hK.out _ _ (by exact Lib.hid (C.out.al _)) (fun _ => ?_)
        clear hK K
        try simp only [Act.put, List.setIfInBounds_toArray, List.set_cons_zero, List.set_cons_succ]
        obtain ⟨b6, hbb⟩ : ∃ b, b = W.heap.size := ⟨_, rfl⟩
        rw [← hbb]
        have NE := Lib.hid (show b5 ≠ b6 from fun e => absurd V5.out.bx.lt (by rw [e, hbb]; exact Nat.lt_irrefl _))
        refine at_worldP (fun W => Hid (TwF 31 w W f o q r) ∧ Hid (Vf w W b5 fr0 fl0) ∧ Hid (Vf w W b6 fr0 fl0)) ⟨Lib.hid (C.out.al (obj0F 39)), Lib.hid (V5.out.al (obj0F 39)), Lib.hid (show Vf w _ b6 fr0 fl0 from hbb ▸ Vf.new C.out)⟩ ?_
        clear C V5 hbb
        rintro W ⟨C, V5, V6⟩
        refine wpAnyH_ready (rs := [1]) (by kernel_rfl) (by simp) ?_
        refine (AllReadyH.cons (o := ?oz41) ?hiz41 (fun K hK => ?stz41) AllReadyH.nil)
        case hiz41 => (simp only [List.getElem?_toArray, List.getElem?_cons_succ, List.getElem?_cons_zero]; rfl)
        case stz41 =>
          obtain ⟨G, hG⟩ : ∃ G : Nat → Prop, Hid (G = (fun i => i ≠ b5 ∧ i ≠ b6)) := ⟨_, Lib.hid rfl⟩
          have FN := Lib.hid (show ∀ i, W.heap.size ≤ i → G i by rw [hG.out]; exact fun i hi => ⟨Nat.ne_of_gt (Nat.lt_of_lt_of_le V5.out.bx.lt hi), Nat.ne_of_gt (Nat.lt_of_lt_of_le V6.out.bx.lt hi)⟩)
          have PW := Lib.hid (show FwF G W f q by rw [hG.out]; exact (H.out.there.on C.out.bel).mono (fun i _ hi => ⟨Nat.ne_of_lt (Nat.lt_trans hi (Nat.lt_trans (Nat.lt_succ_self _) V5.out.gt)), Nat.ne_of_lt (Nat.lt_trans hi (Nat.lt_trans (Nat.lt_succ_self _) V6.out.gt))⟩))
          go_simp
          go_at_call 6
          with_reducible refine (eofF_any G f q _ FN.out PW.out QN.out QO.out).mono ?_
          rintro e wy ⟨r3, rfl, hq, hb⟩
          rw [hG.out] at hq
          dsimp only
          refine hK.out _ _ (by exact Lib.hid (C.out.step hb)) (fun _ => ?_)
          clear hK K FN PW hG
          try simp only [Act.put, List.setIfInBounds_toArray, List.set_cons_zero, List.set_cons_succ]
          refine at_worldP (fun W => Hid (TwF 31 w W f o q r) ∧ Hid (FwF (fun i => i ≠ b5 ∧ i ≠ b6) W f r3) ∧ Hid (Vf w W b5 fr0 fl0) ∧ Hid (Vf w W b6 fr0 fl0)) ⟨Lib.hid (C.out.step hb), Lib.hid hq, Lib.hid (V5.out.below hb), Lib.hid (V6.out.below hb)⟩ ?_
          clear C V5 V6 hq hb
          rintro W ⟨C, P3, V5, V6⟩
          refine wpAnyH_ready (rs := [3]) (by kernel_rfl) (by simp) ?_
          refine (AllReadyH.cons (o := ?oz42) ?hiz42 (fun K hK => ?stz42) AllReadyH.nil)
          case hiz42 => (simp only [List.getElem?_toArray, List.getElem?_cons_succ, List.getElem?_cons_zero]; rfl)
          case stz42 =>
            obtain ⟨G, hG⟩ : ∃ G : Nat → Prop, Hid (G = (fun i => i ≠ b5 ∧ i ≠ b6)) := ⟨_, Lib.hid rfl⟩
            have FN := Lib.hid (show ∀ i, W.heap.size ≤ i → G i by rw [hG.out]; exact fun i hi => ⟨Nat.ne_of_gt (Nat.lt_of_lt_of_le V5.out.bx.lt hi), Nat.ne_of_gt (Nat.lt_of_lt_of_le V6.out.bx.lt hi)⟩)
            have PW := Lib.hid (show FwF G W o r by rw [hG.out]; exact (H2.out.there.on C.out.bel).mono (fun i _ hi => ⟨Nat.ne_of_lt (Nat.lt_trans hi (Nat.lt_trans (Nat.lt_succ_self _) V5.out.gt)), Nat.ne_of_lt (Nat.lt_trans hi (Nat.lt_trans (Nat.lt_succ_self _) V6.out.gt))⟩))
            go_simp
            go_at_call 6
            with_reducible refine (eofF_any G o r _ FN.out PW.out RN.out RO.out).mono ?_
            rintro e wy ⟨r4, rfl, hq, hb⟩
            rw [hG.out] at hq
            dsimp only
            refine hK.out _ _ (by exact Lib.hid (C.out.step hb)) (fun _ => ?_)
            clear hK K FN PW hG
            try simp only [Act.put, List.setIfInBounds_toArray, List.set_cons_zero, List.set_cons_succ]
            refine at_worldP (fun W => Hid (TwF 31 w W f o q r) ∧ Hid (FwF (fun i => i ≠ b5 ∧ i ≠ b6) W f r3) ∧ Hid (FwF (fun i => i ≠ b5 ∧ i ≠ b6) W o r4) ∧ Hid (Vf w W b5 fr0 fl0) ∧ Hid (Vf w W b6 fr0 fl0)) ⟨Lib.hid (C.out.step hb), Lib.hid (P3.out.on hb), Lib.hid hq, Lib.hid (V5.out.below hb), Lib.hid (V6.out.below hb)⟩ ?_
            clear C P3 V5 V6 hq hb
            rintro W ⟨C, P3, P4, V5, V6⟩
            refine wpAnyH_ready (rs := [6]) (by kernel_rfl) (by simp) ?_
            refine AllReadyH.cons (o := ?oz43) ?hiz43 (fun K hK => ?stz43) AllReadyH.nil
            case hiz43 => (simp only [List.getElem?_toArray, List.getElem?_cons_succ, List.getElem?_cons_zero]; rfl)
            obtain ⟨e0, e1, e2, e3, e4, e5, e6, e7, e8, e9, e10, e11, e12⟩ := V5.out.bx.free
            obtain ⟨d0, d1, d2, d3, d4, d5, d6, d7, d8, d9, d10, d11, d12⟩ := V5.out.bx.all
            go_simp
            refine hK.out _ _ (by exact Lib.hid (C.out.putY V5.out.gt f r3)) (fun _ => ?_)
            clear hK K e0 e1 e2 e3 e4 e5 e6 e7 e8 e9 e10 e11 e12 d0 d1 d2 d3 d4 d5 d6 d7 d8 d9 d10 d11 d12
            try simp only [Act.put, List.setIfInBounds_toArray, List.set_cons_zero, List.set_cons_succ]
            refine at_worldP (fun W => Hid (TwF 31 w W f o q r) ∧ Hid (FwF (fun i => i ≠ b5 ∧ i ≠ b6) W f r3) ∧ Hid (FwF (fun i => i ≠ b5 ∧ i ≠ b6) W o r4) ∧ Hid (Vf w W b5 f r3) ∧ Hid (Vf w W b6 fr0 fl0)) ⟨Lib.hid (C.out.putY V5.out.gt f r3), Lib.hid (P3.out.keep ((put13_keeps W b5 f r3).less (fun _ _ h => h.1))), Lib.hid (P4.out.keep ((put13_keeps W b5 f r3).less (fun _ _ h => h.1))), Lib.hid (V5.out.put f r3), Lib.hid (V6.out.putO NE.out.symm f r3)⟩ ?_
            clear C P3 P4 V5 V6
            rintro W ⟨C, P3, P4, V5, V6⟩
            refine wpAnyH_ready (rs := [7]) (by kernel_rfl) (by simp) ?_
            refine AllReadyH.cons (o := ?oz44) ?hiz44 (fun K hK => ?stz44) AllReadyH.nil
            case hiz44 => (simp only [List.getElem?_toArray, List.getElem?_cons_succ, List.getElem?_cons_zero]; rfl)
            obtain ⟨e0, e1, e2, e3, e4, e5, e6, e7, e8, e9, e10, e11, e12⟩ := V6.out.bx.free
            obtain ⟨d0, d1, d2, d3, d4, d5, d6, d7, d8, d9, d10, d11, d12⟩ := V6.out.bx.all
            go_simp
            refine hK.out _ _ (by exact Lib.hid (C.out.putY V6.out.gt o r4)) (fun _ => ?_)
            clear hK K e0 e1 e2 e3 e4 e5 e6 e7 e8 e9 e10 e11 e12 d0 d1 d2 d3 d4 d5 d6 d7 d8 d9 d10 d11 d12
            try simp only [Act.put, List.setIfInBounds_toArray, List.set_cons_zero, List.set_cons_succ]
            refine at_worldP (fun W => Hid (TwF 31 w W f o q r) ∧ Hid (FwF (fun i => i ≠ b5 ∧ i ≠ b6) W f r3) ∧ Hid (FwF (fun i => i ≠ b5 ∧ i ≠ b6) W o r4) ∧ Hid (Vf w W b5 f r3) ∧ Hid (Vf w W b6 o r4)) ⟨Lib.hid (C.out.putY V6.out.gt o r4), Lib.hid (P3.out.keep ((put13_keeps W b6 o r4).less (fun _ _ h => h.2))), Lib.hid (P4.out.keep ((put13_keeps W b6 o r4).less (fun _ _ h => h.2))), Lib.hid (V5.out.putO NE.out o r4), Lib.hid (V6.out.put o r4)⟩ ?_
            clear C P3 P4 V5 V6
            rintro W ⟨C, P3, P4, V5, V6⟩
            refine wpAnyH_done (by kernel_rfl) ?_ _
            (try go_wp2_with fail); go_meet
            exact ⟨b5, b6, r3, r4, rfl, rfl, Lib.hid ⟨C.out.bel, V5.out.gt, V6.out.gt, NE.out, V5.out.bx, V6.out.bx, P3.out, P4.out, C.out.x⟩⟩
    case stz1 =>
      go_simp
      refine hK.out _ _ (by exact Lib.hid (C.out.al _)) (fun _ => ?_)
      clear hK K
      try simp only [Act.put, List.setIfInBounds_toArray, List.set_cons_zero, List.set_cons_succ]
      obtain ⟨b6, hbb⟩ : ∃ b, b = W.heap.size := ⟨_, rfl⟩
      rw [← hbb]
      refine at_worldP (fun W => Hid (TwF 31 w W f o q r) ∧ Hid (Vf w W b6 fr0 fl0)) ⟨Lib.hid (C.out.al (obj0F 39)), Lib.hid (show Vf w _ b6 fr0 fl0 from hbb ▸ Vf.new C.out)⟩ ?_
      clear C hbb
      rintro W ⟨C, V6⟩
      refine wpAnyH_ready (rs := [1, 4]) (by kernel_rfl) (by simp) ?_
      refine (AllReadyH.cons (o := ?oz46) ?hiz46 (fun K hK => ?stz46) (AllReadyH.cons (o := ?oz45) ?hiz45 (fun K hK => ?stz45) AllReadyH.nil))
      case hiz46 => (simp only [List.getElem?_toArray, List.getElem?_cons_succ, List.getElem?_cons_zero]; rfl)
      case hiz45 => (simp only [List.getElem?_toArray, List.getElem?_cons_succ, List.getElem?_cons_zero]; rfl)
      case stz46 =>
        obtain ⟨G, hG⟩ : ∃ G : Nat → Prop, Hid (G = (fun i => i ≠ b6)) := ⟨_, Lib.hid rfl⟩
        have FN := Lib.hid (show ∀ i, W.heap.size ≤ i → G i by rw [hG.out]; exact fun i hi => Nat.ne_of_gt (Nat.lt_of_lt_of_le V6.out.bx.lt hi))
        have PW := Lib.hid (show FwF G W f q by rw [hG.out]; exact (H.out.there.on C.out.bel).mono (fun i _ hi => Nat.ne_of_lt (Nat.lt_trans hi (Nat.lt_trans (Nat.lt_succ_self _) V6.out.gt))))
        go_simp
        go_at_call 6
        with_reducible refine (eofF_any G f q _ FN.out PW.out QN.out QO.out).mono ?_
        rintro e wy ⟨r3, rfl, hq, hb⟩
        rw [hG.out] at hq
        dsimp only
        refine hK.out _ _ (by exact Lib.hid (C.out.step hb)) (fun _ => ?_)
        clear hK K FN PW hG
        try simp only [Act.put, List.setIfInBounds_toArray, List.set_cons_zero, List.set_cons_succ]
        refine at_worldP (fun W => Hid (TwF 31 w W f o q r) ∧ Hid (FwF (fun i => i ≠ b6) W f r3) ∧ Hid (Vf w W b6 fr0 fl0)) ⟨Lib.hid (C.out.step hb), Lib.hid hq, Lib.hid (V6.out.below hb)⟩ ?_
        clear C V6 hq hb
        rintro W ⟨C, P3, V6⟩
        refine wpAnyH_ready (rs := [3, 4]) (by kernel_rfl) (by simp) ?_
        refine (AllReadyH.cons (o := ?oz48) ?hiz48 (fun K hK => ?stz48) (AllReadyH.cons (o := ?oz47) ?hiz47 (fun K hK => ?stz47) AllReadyH.nil))
        case hiz48 => (simp only [List.getElem?_toArray, List.getElem?_cons_succ, List.getElem?_cons_zero]; rfl)
        case hiz47 => (simp only [List.getElem?_toArray, List.getElem?_cons_succ, List.getElem?_cons_zero]; rfl)
        case stz48 =>
          obtain ⟨G, hG⟩ : ∃ G : Nat → Prop, Hid (G = (fun i => i ≠ b6)) := ⟨_, Lib.hid rfl⟩
          have FN := Lib.hid (show ∀ i, W.heap.size ≤ i → G i by rw [hG.out]; exact fun i hi => Nat.ne_of_gt (Nat.lt_of_lt_of_le V6.out.bx.lt hi))
          have PW := Lib.hid (show FwF G W o r by rw [hG.out]; exact (H2.out.there.on C.out.bel).mono (fun i _ hi => Nat.ne_of_lt (Nat.lt_trans hi (Nat.lt_trans (Nat.lt_succ_self _) V6.out.gt))))
          go_simp
          go_at_call 6
          with_reducible refine (eofF_any G o r _ FN.out PW.out RN.out RO.out).mono ?_
          rintro e wy ⟨r4, rfl, hq, hb⟩
          rw [hG.out] at hq
          dsimp only
          refine hK.out _ _ (by exact Lib.hid (C.out.step hb)) (fun _ => ?_)
          clear hK K FN PW hG
          try simp only [Act.put, List.setIfInBounds_toArray, List.set_cons_zero, List.set_cons_succ]
          refine at_worldP (fun W => Hid (TwF 31 w W f o q r) ∧ Hid (FwF (fun i => i ≠ b6) W f r3) ∧ Hid (FwF (fun i => i ≠ b6) W o r4) ∧ Hid (Vf w W b6 fr0 fl0)) ⟨Lib.hid (C.out.step hb), Lib.hid (P3.out.on hb), Lib.hid hq, Lib.hid (V6.out.below hb)⟩ ?_
          clear C P3 V6 hq hb
          rintro W ⟨C, P3, P4, V6⟩
          refine wpAnyH_ready (rs := [4]) (by kernel_rfl) (by simp) ?_
          refine (AllReadyH.cons (o := ?oz49) ?hiz49 (fun K hK => ?stz49) AllReadyH.nil)
          case hiz49 => (simp only [List.getElem?_toArray, List.getElem?_cons_succ, List.getElem?_cons_zero]; rfl)
          case stz49 =>
            go_simp
            refine hK.out _ _ (by exact Lib.hid (C.out.al _)) (fun _ => ?_)
            clear hK K
            try simp only [Act.put, List.setIfInBounds_toArray, List.set_cons_zero, List.set_cons_succ]
            obtain ⟨b5, hbb⟩ : ∃ b, b = W.heap.size := ⟨_, rfl⟩
            rw [← hbb]
            have NE := Lib.hid (show b5 ≠ b6 from fun e => absurd V6.out.bx.lt (by rw [← e, hbb]; exact Nat.lt_irrefl _))
            refine at_worldP (fun W => Hid (TwF 31 w W f o q r) ∧ Hid (FwF (fun i => i ≠ b5 ∧ i ≠ b6) W f r3) ∧ Hid (FwF (fun i => i ≠ b5 ∧ i ≠ b6) W o r4) ∧ Hid (Vf w W b5 fr0 fl0) ∧ Hid (Vf w W b6 fr0 fl0)) ⟨Lib.hid (C.out.al (obj0F 39)), Lib.hid ((P3.out.mono (G := (fun i => i ≠ b5 ∧ i ≠ b6)) (fun i hi hf => ⟨(by rw [hbb]; exact Nat.ne_of_lt hi), hf⟩)).on ((Below.refl W.heap.size W).alloc (Nat.le_refl _) (obj0F 39))), Lib.hid ((P4.out.mono (G := (fun i => i ≠ b5 ∧ i ≠ b6)) (fun i hi hf => ⟨(by rw [hbb]; exact Nat.ne_of_lt hi), hf⟩)).on ((Below.refl W.heap.size W).alloc (Nat.le_refl _) (obj0F 39))), Lib.hid (show Vf w _ b5 fr0 fl0 from hbb ▸ Vf.new C.out), Lib.hid (V6.out.al (obj0F 39))⟩ ?_
            clear C P3 P4 V6 hbb
            rintro W ⟨C, P3, P4, V5, V6⟩
            refine wpAnyH_ready (rs := [6]) (by kernel_rfl) (by simp) ?_
            refine AllReadyH.cons (o := ?oz50) ?hiz50 (fun K hK => ?stz50) AllReadyH.nil
            case hiz50 => (simp only [List.getElem?_toArray, List.getElem?_cons_succ, List.getElem?_cons_zero]; rfl)
            obtain ⟨e0, e1, e2, e3, e4, e5, e6, e7, e8, e9, e10, e11, e12⟩ := V5.out.bx.free
            obtain ⟨d0, d1, d2, d3, d4, d5, d6, d7, d8, d9, d10, d11, d12⟩ := V5.out.bx.all
            go_simp
            refine hK.out _ _ (by exact Lib.hid (C.out.putY V5.out.gt f r3)) (fun _ => ?_)
            clear hK K e0 e1 e2 e3 e4 e5 e6 e7 e8 e9 e10 e11 e12 d0 d1 d2 d3 d4 d5 d6 d7 d8 d9 d10 d11 d12
            try simp only [Act.put, List.setIfInBounds_toArray, List.set_cons_zero, List.set_cons_succ]
            refine at_worldP (fun W => Hid (TwF 31 w W f o q r) ∧ Hid (FwF (fun i => i ≠ b5 ∧ i ≠ b6) W f r3) ∧ Hid (FwF (fun i => i ≠ b5 ∧ i ≠ b6) W o r4) ∧ Hid (Vf w W b5 f r3) ∧ Hid (Vf w W b6 fr0 fl0)) ⟨Lib.hid (C.out.putY V5.out.gt f r3), Lib.hid (P3.out.keep ((put13_keeps W b5 f r3).less (fun _ _ h => h.1))), Lib.hid (P4.out.keep ((put13_keeps W b5 f r3).less (fun _ _ h => h.1))), Lib.hid (V5.out.put f r3), Lib.hid (V6.out.putO NE.out.symm f r3)⟩ ?_
            clear C P3 P4 V5 V6
            rintro W ⟨C, P3, P4, V5, V6⟩
            refine wpAnyH_ready (rs := [7]) (by kernel_rfl) (by simp) ?_
            refine AllReadyH.cons (o := ?oz51) ?hiz51 (fun K hK => ?stz51) AllReadyH.nil
            case hiz51 => (simp only [List.getElem?_toArray, List.getElem?_cons_succ, List.getElem?_cons_zero]; rfl)
            obtain ⟨e0, e1, e2, e3, e4, e5, e6, e7, e8, e9, e10, e11, e12⟩ := V6.out.bx.free
            obtain ⟨d0, d1, d2, d3, d4, d5, d6, d7, d8, d9, d10, d11, d12⟩ := V6.out.bx.all
            go_simp
            refine hK.out _ _ (by exact Lib.hid (C.out.putY V6.out.gt o r4)) (fun _ => ?_)
            clear hK K e0 e1 e2 e3 e4 e5 e6 e7 e8 e9 e10 e11 e12 d0 d1 d2 d3 d4 d5 d6 d7 d8 d9 d10 d11 d12
            try simp only [Act.put, List.setIfInBounds_toArray, List.set_cons_zero, List.set_cons_succ]
            refine at_worldP (fun W => Hid (TwF 31 w W f o q r) ∧ Hid (FwF (fun i => i ≠ b5 ∧ i ≠ b6) W f r3) ∧ Hid (FwF (fun i => i ≠ b5 ∧ i ≠ b6) W o r4) ∧ Hid (Vf w W b5 f r3) ∧ Hid (Vf w W b6 o r4)) ⟨Lib.hid (C.out.putY V6.out.gt o r4), Lib.hid (P3.out.keep ((put13_keeps W b6 o r4).less (fun _ _ h => h.2))), Lib.hid (P4.out.keep ((put13_keeps W b6 o r4).less (fun _ _ h => h.2))), Lib.hid (V5.out.putO NE.out o r4), Lib.hid (V6.out.put o r4)⟩ ?_
            clear C P3 P4 V5 V6
            rintro W ⟨C, P3, P4, V5, V6⟩
            refine wpAnyH_done (by kernel_rfl) ?_ _
            (try go_wp2_with fail); go_meet
            exact ⟨b5, b6, r3, r4, rfl, rfl, Lib.hid ⟨C.out.bel, V5.out.gt, V6.out.gt, NE.out, V5.out.bx, V6.out.bx, P3.out, P4.out, C.out.x⟩⟩
        case stz47 =>
          go_simp
          refine hK.out _ _ (by exact Lib.hid (C.out.al _)) (fun _ => ?_)
          clear hK K
          try simp only [Act.put, List.setIfInBounds_toArray, List.set_cons_zero, List.set_cons_succ]
          obtain ⟨b5, hbb⟩ : ∃ b, b = W.heap.size := ⟨_, rfl⟩
          rw [← hbb]
          have NE := Lib.hid (show b5 ≠ b6 from fun e => absurd V6.out.bx.lt (by rw [← e, hbb]; exact Nat.lt_irrefl _))
          refine at_worldP (fun W => Hid (TwF 31 w W f o q r) ∧ Hid (FwF (fun i => i ≠ b5 ∧ i ≠ b6) W f r3) ∧ Hid (Vf w W b5 fr0 fl0) ∧ Hid (Vf w W b6 fr0 fl0)) ⟨Lib.hid (C.out.al (obj0F 39)), Lib.hid ((P3.out.mono (G := (fun i => i ≠ b5 ∧ i ≠ b6)) (fun i hi hf => ⟨(by rw [hbb]; exact Nat.ne_of_lt hi), hf⟩)).on ((Below.refl W.heap.size W).alloc (Nat.le_refl _) (obj0F 39))), Lib.hid (show Vf w _ b5 fr0 fl0 from hbb ▸ Vf.new C.out), Lib.hid (V6.out.al (obj0F 39))⟩ ?_
          clear C P3 V6 hbb
          rintro W ⟨C, P3, V5, V6⟩
          refine wpAnyH_ready (rs := [3]) (by kernel_rfl) (by simp) ?_
          refine (AllReadyH.cons (o := ?oz52) ?hiz52 (fun K hK => ?stz52) AllReadyH.nil)
          case hiz52 => (simp only [List.getElem?_toArray, List.getElem?_cons_succ, List.getElem?_cons_zero]; rfl)
          case stz52 =>
            obtain ⟨G, hG⟩ : ∃ G : Nat → Prop, Hid (G = (fun i => i ≠ b5 ∧ i ≠ b6)) := ⟨_, Lib.hid rfl⟩
            have FN := Lib.hid (show ∀ i, W.heap.size ≤ i → G i by rw [hG.out]; exact fun i hi => ⟨Nat.ne_of_gt (Nat.lt_of_lt_of_le V5.out.bx.lt hi), Nat.ne_of_gt (Nat.lt_of_lt_of_le V6.out.bx.lt hi)⟩)
            have PW := Lib.hid (show FwF G W o r by rw [hG.out]; exact (H2.out.there.on C.out.bel).mono (fun i _ hi => ⟨Nat.ne_of_lt (Nat.lt_trans hi (Nat.lt_trans (Nat.lt_succ_self _) V5.out.gt)), Nat.ne_of_lt (Nat.lt_trans hi (Nat.lt_trans (Nat.lt_succ_self _) V6.out.gt))⟩))
            go_simp
            go_at_call 6
            with_reducible refine (eofF_any G o r _ FN.out PW.out RN.out RO.out).mono ?_
            rintro e wy ⟨r4, rfl, hq, hb⟩
            rw [hG.out] at hq
            dsimp only
            refine hK.out _ _ (by exact Lib.hid (C.out.step hb)) (fun _ => ?_)
            clear hK K FN PW hG
            try simp only [Act.put, List.setIfInBounds_toArray, List.set_cons_zero, List.set_cons_succ]
            refine at_worldP (fun W => Hid (TwF 31 w W f o q r) ∧ Hid (FwF (fun i => i ≠ b5 ∧ i ≠ b6) W f r3) ∧ Hid (FwF (fun i => i ≠ b5 ∧ i ≠ b6) W o r4) ∧ Hid (Vf w W b5 fr0 fl0) ∧ Hid (Vf w W b6 fr0 fl0)) ⟨Lib.hid (C.out.step hb), Lib.hid (P3.out.on hb), Lib.hid hq, Lib.hid (V5.out.below hb), Lib.hid (V6.out.below hb)⟩ ?_
            clear C P3 V5 V6 hq hb
            rintro W ⟨C, P3, P4, V5, V6⟩
            refine wpAnyH_ready (rs := [6]) (by kernel_rfl) (by simp) ?_
            refine AllReadyH.cons (o := ?oz53) ?hiz53 (fun K hK => ?stz53) AllReadyH.nil
            case hiz53 => (simp only [List.getElem?_toArray, List.getElem?_cons_succ, List.getElem?_cons_zero]; rfl)
            obtain ⟨e0, e1, e2, e3, e4, e5, e6, e7, e8, e9, e10, e11, e12⟩ := V5.out.bx.free
            obtain ⟨d0, d1, d2, d3, d4, d5, d6, d7, d8, d9, d10, d11, d12⟩ := V5.out.bx.all
            go_simp
            refine hK.out _ _ (by exact Lib.hid (C.out.putY V5.out.gt f r3)) (fun _ => ?_)
            clear hK K e0 e1 e2 e3 e4 e5 e6 e7 e8 e9 e10 e11 e12 d0 d1 d2 d3 d4 d5 d6 d7 d8 d9 d10 d11 d12
            try simp only [Act.put, List.setIfInBounds_toArray, List.set_cons_zero, List.set_cons_succ]
            refine at_worldP (fun W => Hid (TwF 31 w W f o q r) ∧ Hid (FwF (fun i => i ≠ b5 ∧ i ≠ b6) W f r3) ∧ Hid (FwF (fun i => i ≠ b5 ∧ i ≠ b6) W o r4) ∧ Hid (Vf w W b5 f r3) ∧ Hid (Vf w W b6 fr0 fl0)) ⟨Lib.hid (C.out.putY V5.out.gt f r3), Lib.hid (P3.out.keep ((put13_keeps W b5 f r3).less (fun _ _ h => h.1))), Lib.hid (P4.out.keep ((put13_keeps W b5 f r3).less (fun _ _ h => h.1))), Lib.hid (V5.out.put f r3), Lib.hid (V6.out.putO NE.out.symm f r3)⟩ ?_
            clear C P3 P4 V5 V6
            rintro W ⟨C, P3, P4, V5, V6⟩
            refine wpAnyH_ready (rs := [7]) (by kernel_rfl) (by simp) ?_
            refine AllReadyH.cons (o := ?oz54) ?hiz54 (fun K hK => ?stz54) AllReadyH.nil
            case hiz54 => (simp only [List.getElem?_toArray, List.getElem?_cons_succ, List.getElem?_cons_zero]; rfl)
            obtain ⟨e0, e1, e2, e3, e4, e5, e6, e7, e8, e9, e10, e11, e12⟩ := V6.out.bx.free
            obtain ⟨d0, d1, d2, d3, d4, d5, d6, d7, d8, d9, d10, d11, d12⟩ := V6.out.bx.all
            go_simp
            refine hK.out _ _ (by exact Lib.hid (C.out.putY V6.out.gt o r4)) (fun _ => ?_)
            clear hK K e0 e1 e2 e3 e4 e5 e6 e7 e8 e9 e10 e11 e12 d0 d1 d2 d3 d4 d5 d6 d7 d8 d9 d10 d11 d12
            try simp only [Act.put, List.setIfInBounds_toArray, List.set_cons_zero, List.set_cons_succ]
            refine at_worldP (fun W => Hid (TwF 31 w W f o q r) ∧ Hid (FwF (fun i => i ≠ b5 ∧ i ≠ b6) W f r3) ∧ Hid (FwF (fun i => i ≠ b5 ∧ i ≠ b6) W o r4) ∧ Hid (Vf w W b5 f r3) ∧ Hid (Vf w W b6 o r4)) ⟨Lib.hid (C.out.putY V6.out.gt o r4), Lib.hid (P3.out.keep ((put13_keeps W b6 o r4).less (fun _ _ h => h.2))), Lib.hid (P4.out.keep ((put13_keeps W b6 o r4).less (fun _ _ h => h.2))), Lib.hid (V5.out.putO NE.out o r4), Lib.hid (V6.out.put o r4)⟩ ?_
            clear C P3 P4 V5 V6
            rintro W ⟨C, P3, P4, V5, V6⟩
            refine wpAnyH_done (by kernel_rfl) ?_ _
            (try go_wp2_with fail); go_meet
            exact ⟨b5, b6, r3, r4, rfl, rfl, Lib.hid ⟨C.out.bel, V5.out.gt, V6.out.gt, NE.out, V5.out.bx, V6.out.bx, P3.out, P4.out, C.out.x⟩⟩
      case stz45 =>
        go_simp
        refine hK.out _ _ (by exact Lib.hid (C.out.al _)) (fun _ => ?_)
        clear hK K
        try simp only [Act.put, List.setIfInBounds_toArray, List.set_cons_zero, List.set_cons_succ]
        obtain ⟨b5, hbb⟩ : ∃ b, b = W.heap.size := ⟨_, rfl⟩
        rw [← hbb]
        have NE := Lib.hid (show b5 ≠ b6 from fun e => absurd V6.out.bx.lt (by rw [← e, hbb]; exact Nat.lt_irrefl _))
        refine at_worldP (fun W => Hid (TwF 31 w W f o q r) ∧ Hid (Vf w W b5 fr0 fl0) ∧ Hid (Vf w W b6 fr0 fl0)) ⟨Lib.hid (C.out.al (obj0F 39)), Lib.hid (show Vf w _ b5 fr0 fl0 from hbb ▸ Vf.new C.out), Lib.hid (V6.out.al (obj0F 39))⟩ ?_
        clear C V6 hbb
        rintro W ⟨C, V5, V6⟩
        refine wpAnyH_ready (rs := [1]) (by kernel_rfl) (by simp) ?_
        refine (AllReadyH.cons (o := ?oz55) ?hiz55 (fun K hK => ?stz55) AllReadyH.nil)
        case hiz55 => (simp only [List.getElem?_toArray, List.getElem?_cons_succ, List.getElem?_cons_zero]; rfl)
        case stz55 =>
          obtain ⟨G, hG⟩ : ∃ G : Nat → Prop, Hid (G = (fun i => i ≠ b5 ∧ i ≠ b6)) := ⟨_, Lib.hid rfl⟩
          have FN := Lib.hid (show ∀ i, W.heap.size ≤ i → G i by rw [hG.out]; exact fun i hi => ⟨Nat.ne_of_gt (Nat.lt_of_lt_of_le V5.out.bx.lt hi), Nat.ne_of_gt (Nat.lt_of_lt_of_le V6.out.bx.lt hi)⟩)
          have PW := Lib.hid (show FwF G W f q by rw [hG.out]; exact (H.out.there.on C.out.bel).mono (fun i _ hi => ⟨Nat.ne_of_lt (Nat.lt_trans hi (Nat.lt_trans (Nat.lt_succ_self _) V5.out.gt)), Nat.ne_of_lt (Nat.lt_trans hi (Nat.lt_trans (Nat.lt_succ_self _) V6.out.gt))⟩))
          go_simp
          go_at_call 6
          with_reducible refine (eofF_any G f q _ FN.out PW.out QN.out QO.out).mono ?_
          rintro e wy ⟨r3, rfl, hq, hb⟩
          rw [hG.out] at hq
          dsimp only
          refine hK.out _ _ (by exact Lib.hid (C.out.step hb)) (fun _ => ?_)
          clear hK K FN PW hG
          try simp only [Act.put, List.setIfInBounds_toArray, List.set_cons_zero, List.set_cons_succ]
          refine at_worldP (fun W => Hid (TwF 31 w W f o q r) ∧ Hid (FwF (fun i => i ≠ b5 ∧ i ≠ b6) W f r3) ∧ Hid (Vf w W b5 fr0 fl0) ∧ Hid (Vf w W b6 fr0 fl0)) ⟨Lib.hid (C.out.step hb), Lib.hid hq, Lib.hid (V5.out.below hb), Lib.hid (V6.out.below hb)⟩ ?_
          clear C V5 V6 hq hb
          rintro W ⟨C, P3, V5, V6⟩
          refine wpAnyH_ready (rs := [3]) (by kernel_rfl) (by simp) ?_
          refine (AllReadyH.cons (o := ?oz56) ?hiz56 (fun K hK => ?stz56) AllReadyH.nil)
          case hiz56 => (simp only [List.getElem?_toArray, List.getElem?_cons_succ, List.getElem?_cons_zero]; rfl)
          case stz56 =>
            obtain ⟨G, hG⟩ : ∃ G : Nat → Prop, Hid (G = (fun i => i ≠ b5 ∧ i ≠ b6)) := ⟨_, Lib.hid rfl⟩
            have FN := Lib.hid (show ∀ i, W.heap.size ≤ i → G i by rw [hG.out]; exact fun i hi => ⟨Nat.ne_of_gt (Nat.lt_of_lt_of_le V5.out.bx.lt hi), Nat.ne_of_gt (Nat.lt_of_lt_of_le V6.out.bx.lt hi)⟩)
            have PW := Lib.hid (show FwF G W o r by rw [hG.out]; exact (H2.out.there.on C.out.bel).mono (fun i _ hi => ⟨Nat.ne_of_lt (Nat.lt_trans hi (Nat.lt_trans (Nat.lt_succ_self _) V5.out.gt)), Nat.ne_of_lt (Nat.lt_trans hi (Nat.lt_trans (Nat.lt_succ_self _) V6.out.gt))⟩))
            go_simp
            go_at_call 6
            with_reducible refine (eofF_any G o r _ FN.out PW.out RN.out RO.out).mono ?_
            rintro e wy ⟨r4, rfl, hq, hb⟩
            rw [hG.out] at hq
            dsimp only
            refine hK.out _ _ (by exact Lib.hid (C.out.step hb)) (fun _ => ?_)
            clear hK K FN PW hG
            try simp only [Act.put, List.setIfInBounds_toArray, List.set_cons_zero, List.set_cons_succ]
            refine at_worldP (fun W => Hid (TwF 31 w W f o q r) ∧ Hid (FwF (fun i => i ≠ b5 ∧ i ≠ b6) W f r3) ∧ Hid (FwF (fun i => i ≠ b5 ∧ i ≠ b6) W o r4) ∧ Hid (Vf w W b5 fr0 fl0) ∧ Hid (Vf w W b6 fr0 fl0)) ⟨Lib.hid (C.out.step hb), Lib.hid (P3.out.on hb), Lib.hid hq, Lib.hid (V5.out.below hb), Lib.hid (V6.out.below hb)⟩ ?_
            clear C P3 V5 V6 hq hb
            rintro W ⟨C, P3, P4, V5, V6⟩
            refine wpAnyH_ready (rs := [6]) (by kernel_rfl) (by simp) ?_
            refine AllReadyH.cons (o := ?oz57) ?hiz57 (fun K hK => ?stz57) AllReadyH.nil
            case hiz57 => (simp only [List.getElem?_toArray, List.getElem?_cons_succ, List.getElem?_cons_zero]; rfl)
            obtain ⟨e0, e1, e2, e3, e4, e5, e6, e7, e8, e9, e10, e11, e12⟩ := V5.out.bx.free
            obtain ⟨d0, d1, d2, d3, d4, d5, d6, d7, d8, d9, d10, d11, d12⟩ := V5.out.bx.all
            go_simp
            refine hK.out _ _ (by exact Lib.hid (C.out.putY V5.out.gt f r3)) (fun _ => ?_)
            clear hK K e0 e1 e2 e3 e4 e5 e6 e7 e8 e9 e10 e11 e12 d0 d1 d2 d3 d4 d5 d6 d7 d8 d9 d10 d11 d12
            try simp only [Act.put, List.setIfInBounds_toArray, List.set_cons_zero, List.set_cons_succ]
            refine at_worldP (fun W => Hid (TwF 31 w W f o q r) ∧ Hid (FwF (fun i => i ≠ b5 ∧ i ≠ b6) W f r3) ∧ Hid (FwF (fun i => i ≠ b5 ∧ i ≠ b6) W o r4) ∧ Hid (Vf w W b5 f r3) ∧ Hid (Vf w W b6 fr0 fl0)) ⟨Lib.hid (C.out.putY V5.out.gt f r3), Lib.hid (P3.out.keep ((put13_keeps W b5 f r3).less (fun _ _ h => h.1))), Lib.hid (P4.out.keep ((put13_keeps W b5 f r3).less (fun _ _ h => h.1))), Lib.hid (V5.out.put f r3), Lib.hid (V6.out.putO NE.out.symm f r3)⟩ ?_
            clear C P3 P4 V5 V6
            rintro W ⟨C, P3, P4, V5, V6⟩
            refine wpAnyH_ready (rs := [7]) (by kernel_rfl) (by simp) ?_
            refine AllReadyH.cons (o := ?oz58) ?hiz58 (fun K hK => ?stz58) AllReadyH.nil
            case hiz58 => (simp only [List.getElem?_toArray, List.getElem?_cons_succ, List.getElem?_cons_zero]; rfl)
            obtain ⟨e0, e1, e2, e3, e4, e5, e6, e7, e8, e9, e10, e11, e12⟩ := V6.out.bx.free
            obtain ⟨d0, d1, d2, d3, d4, d5, d6, d7, d8, d9, d10, d11, d12⟩ := V6.out.bx.all
            go_simp
            refine hK.out _ _ (by exact Lib.hid (C.out.putY V6.out.gt o r4)) (fun _ => ?_)
            clear hK K e0 e1 e2 e3 e4 e5 e6 e7 e8 e9 e10 e11 e12 d0 d1 d2 d3 d4 d5 d6 d7 d8 d9 d10 d11 d12
            try simp only [Act.put, List.setIfInBounds_toArray, List.set_cons_zero, List.set_cons_succ]
            refine at_worldP (fun W => Hid (TwF 31 w W f o q r) ∧ Hid (FwF (fun i => i ≠ b5 ∧ i ≠ b6) W f r3) ∧ Hid (FwF (fun i => i ≠ b5 ∧ i ≠ b6) W o r4) ∧ Hid (Vf w W b5 f r3) ∧ Hid (Vf w W b6 o r4)) ⟨Lib.hid (C.out.putY V6.out.gt o r4), Lib.hid (P3.out.keep ((put13_keeps W b6 o r4).less (fun _ _ h => h.2))), Lib.hid (P4.out.keep ((put13_keeps W b6 o r4).less (fun _ _ h => h.2))), Lib.hid (V5.out.putO NE.out o r4), Lib.hid (V6.out.put o r4)⟩ ?_
            clear C P3 P4 V5 V6
            rintro W ⟨C, P3, P4, V5, V6⟩
            refine wpAnyH_done (by kernel_rfl) ?_ _
            (try go_wp2_with fail); go_meet
            exact ⟨b5, b6, r3, r4, rfl, rfl, Lib.hid ⟨C.out.bel, V5.out.gt, V6.out.gt, NE.out, V5.out.bx, V6.out.bx, P3.out, P4.out, C.out.x⟩⟩
  case rest =>
    as_aux_lemma =>
      obtain ⟨b5, b6, r3, r4, rfl, rfl, Z⟩ := hcut
      have n5 : ¬ b5 = b6 := Z.out.ne
      have n6 : ¬ b6 = b5 := Z.out.ne.symm
      obtain ⟨x0, x1, x2, x3, x4, x5, x6, x7, x8, x9, x10, x11, x12⟩ := Z.out.v5.all; obtain ⟨y0, y1, y2, y3, y4, y5, y6, y7, y8, y9, y10, y11, y12⟩ := Z.out.v6.all
      go_upto_region 6 with (first
        | (go_at_call 7; (with_reducible refine (eans_any f f r3 r3 _ Z.out.p5.all Z.out.p5.all OK1.out OK1.out (by rw [← Z.out.p5.lt]; exact LA.out) (by rw [← Z.out.p5.lt]; exact LA.out) TX.out TX.out _ (eans_self f)).mono ?_); rintro e wn ⟨rfl, hb⟩; replace Z := Lib.hid (Z.out.step hb); clear hb; clear x0 x1 x2 x3 x4 x5 x6 x7 x8 x9 x10 x11 x12 y0 y1 y2 y3 y4 y5 y6 y7 y8 y9 y10 y11 y12; obtain ⟨x0, x1, x2, x3, x4, x5, x6, x7, x8, x9, x10, x11, x12⟩ := Z.out.v5.all; obtain ⟨y0, y1, y2, y3, y4, y5, y6, y7, y8, y9, y10, y11, y12⟩ := Z.out.v6.all)
        | (go_at_call 7; (with_reducible refine (eans_any f o r3 r4 _ Z.out.p5.all Z.out.p6.all OK1.out OK2.out (by rw [← Z.out.p5.lt]; exact LA.out) (by rw [← Z.out.p6.lt]; exact LB.out) TX.out TX2.out _ HA.out).mono ?_); rintro e wn ⟨rfl, hb⟩; replace Z := Lib.hid (Z.out.step hb); clear hb; clear x0 x1 x2 x3 x4 x5 x6 x7 x8 x9 x10 x11 x12 y0 y1 y2 y3 y4 y5 y6 y7 y8 y9 y10 y11 y12; obtain ⟨x0, x1, x2, x3, x4, x5, x6, x7, x8, x9, x10, x11, x12⟩ := Z.out.v5.all; obtain ⟨y0, y1, y2, y3, y4, y5, y6, y7, y8, y9, y10, y11, y12⟩ := Z.out.v6.all))
      clear x0 x1 x2 x3 x4 x5 x6 x7 x8 x9 x10 x11 x12 y0 y1 y2 y3 y4 y5 y6 y7 y8 y9 y10 y11 y12
      with_reducible refine at_worldP (fun W => Hid (AnV w W b5 b6 f o r3 r4 f q)) Z ?_
      clear Z
      rintro W Z
      obtain ⟨x0, x1, x2, x3, x4, x5, x6, x7, x8, x9, x10, x11, x12⟩ := Z.out.v5.all; obtain ⟨y0, y1, y2, y3, y4, y5, y6, y7, y8, y9, y10, y11, y12⟩ := Z.out.v6.all
      obtain ⟨e0, e1, e2, e3, e4, e5, e6, e7, e8, e9, e10, e11, e12⟩ := Z.out.v5.free; obtain ⟨g0, g1, g2, g3, g4, g5, g6, g7, g8, g9, g10, g11, g12⟩ := Z.out.v6.free
      have L5 := Lib.hid Z.out.v5.lt
      have l5 := Z.out.v5.lt
      have L6 := Lib.hid Z.out.v6.lt
      have OX := Lib.hid (show Orw shG 43 (fun i => i ≠ b5 ∧ i ≠ b6) W.heap.size (W.alloc (.cells #[.int .u16 259, .slice A1 n1 c1] 43)) (.slice (some ⟨W.heap.size, 0, none⟩) 1 1) [(259, la)] from litg (F := (fun i => i ≠ b5 ∧ i ≠ b6)) W (T := 43) (A := A1) (n := n1) (c := c1) (t := 259) (l := la) HL1.out HC1.out (((RA.out.rdF (F := fun i => i < w.heap.size) (fun _ hi => hi) (Nat.le_refl _)).keep (.of_below Z.out.bel)).mono (fun i _ hi => ⟨Nat.ne_of_lt (Nat.lt_trans hi (Nat.lt_trans (Nat.lt_succ_self _) Z.out.g5)), Nat.ne_of_lt (Nat.lt_trans hi (Nat.lt_trans (Nat.lt_succ_self _) Z.out.g6))⟩)))
      have GN := Lib.hid (show ∀ i, i < (W.alloc (.cells #[.int .u16 259, .slice A1 n1 c1] 43)).heap.size → (i ≠ b5 ∧ i ≠ b6) ∧ i < W.heap.size → (i ≠ b5 ∧ i ≠ b6) ∧ (Value.slice (some ⟨W.heap.size, 0, none⟩) 1 1).ownBlock ≠ some i from fun i _ hi => ⟨hi.1, fun e => absurd (show some W.heap.size = some i from e) (fun h => by injection h with h; have := hi.2; omega)⟩)
      have BX := Lib.hid ((Below.refl W.heap.size W).alloc (Nat.le_refl _) (.cells #[.int .u16 259, .slice A1 n1 c1] 43))
      have SN := Lib.hid (show r3.nt ≤ 60 by rw [← Z.out.p5.lt]; exact LF.out)
      have LTN := Lib.hid (show Rws shG (fun i => (i ≠ b5 ∧ i ≠ b6) ∧ i < W.heap.size) W r3.at_ f.tags from Z.out.p5.rt.mono (fun i hi hf => ⟨hf, hi⟩))
      go_upto_region 7 with ((at_builtin; refine list_rows shG rfl _ _ _ rfl 43 i0 (.agg #[.int .u16 0, .slice none 0 0]) 32 Try.underlying34 hi0 hz0 hz1 hz2 rfl (by decide) (fun i => i ≠ b5 ∧ i ≠ b6) (fun i => (i ≠ b5 ∧ i ≠ b6) ∧ i < W.heap.size) W.heap.size _ 1 [(259, la)] rfl OX.out rfl _ r3.nt _ f.tags rfl (LTN.out.below BX.out) Z.out.p5.lt GN.out (by unfold maxLen; have := SN.out; omega) (by have := SN.out; omega) BX.out.size ?_; intro v7 w7 h7 hg7 hm7; clear hm7; obtain ⟨A5', c5', e7, hc7, _⟩ := h7.shape; subst e7; rw [List.length_append, Z.out.p5.lt] at h7 hc7 ⊢; have O7 := Lib.hid h7; have K7 := Lib.hid hc7; replace Z := Lib.hid (Z.out.step (BX.out.grown hg7 BX.out.size (fun k hk => (OX.out.lt hk).1))); clear h7 hg7 hc7 l5 x0 x1 x2 x3 x4 x5 x6 x7 x8 x9 x10 x11 x12 y0 y1 y2 y3 y4 y5 y6 y7 y8 y9 y10 y11 y12 e0 e1 e2 e3 e4 e5 e6 e7 e8 e9 e10 e11 e12 g0 g1 g2 g3 g4 g5 g6 g7 g8 g9 g10 g11 g12; obtain ⟨x0, x1, x2, x3, x4, x5, x6, x7, x8, x9, x10, x11, x12⟩ := Z.out.v5.all; obtain ⟨y0, y1, y2, y3, y4, y5, y6, y7, y8, y9, y10, y11, y12⟩ := Z.out.v6.all; obtain ⟨e0, e1, e2, e3, e4, e5, e6, e7, e8, e9, e10, e11, e12⟩ := Z.out.v5.free; obtain ⟨g0, g1, g2, g3, g4, g5, g6, g7, g8, g9, g10, g11, g12⟩ := Z.out.v6.free))
      have Z9 := Lib.hid (Z.out.tags5 (l := [(259, la)] ++ f.tags) (by rw [List.length_append, Z.out.p5.lt]) K7.out (O7.out.read.mono (fun i _ hi => hi.elim id (fun hi => ⟨Nat.ne_of_gt (Nat.lt_of_lt_of_le L5.out hi), Nat.ne_of_gt (Nat.lt_of_lt_of_le L6.out hi)⟩))))
      obtain ⟨lx, hlx⟩ : ∃ l, Hid ([(259, la)] ++ f.tags = l) := ⟨_, Lib.hid rfl⟩
      rw [hlx.out] at Z9
      refine at_worldP (fun W => ∃ R3, Hid (AnV w W b5 b6 ⟨f.code, f.sess, lx, f.pkt⟩ o R3 r4 f q)) ⟨_, Z9⟩ ?_
      clear Z Z9 L5 L6 OX GN BX SN LTN O7 K7 x0 x1 x2 x3 x4 x5 x6 x7 x8 x9 x10 x11 x12 y0 y1 y2 y3 y4 y5 y6 y7 y8 y9 y10 y11 y12 e0 e1 e2 e3 e4 e5 e6 e7 e8 e9 e10 e11 e12 g0 g1 g2 g3 g4 g5 g6 g7 g8 g9 g10 g11 g12
      rintro W ⟨R3, Z⟩
      obtain ⟨x0, x1, x2, x3, x4, x5, x6, x7, x8, x9, x10, x11, x12⟩ := Z.out.v5.all; obtain ⟨y0, y1, y2, y3, y4, y5, y6, y7, y8, y9, y10, y11, y12⟩ := Z.out.v6.all
      obtain ⟨e0, e1, e2, e3, e4, e5, e6, e7, e8, e9, e10, e11, e12⟩ := Z.out.v5.free; obtain ⟨g0, g1, g2, g3, g4, g5, g6, g7, g8, g9, g10, g11, g12⟩ := Z.out.v6.free
      have L5 := Lib.hid Z.out.v5.lt
      have l6 := Z.out.v6.lt
      have L6 := Lib.hid Z.out.v6.lt
      have OX := Lib.hid (show Orw shG 43 (fun i => i ≠ b5 ∧ i ≠ b6) W.heap.size (W.alloc (.cells #[.int .u16 259, .slice A2 n2 c2] 43)) (.slice (some ⟨W.heap.size, 0, none⟩) 1 1) [(259, lb)] from litg (F := (fun i => i ≠ b5 ∧ i ≠ b6)) W (T := 43) (A := A2) (n := n2) (c := c2) (t := 259) (l := lb) HL2.out HC2.out (((RB.out.rdF (F := fun i => i < w.heap.size) (fun _ hi => hi) (Nat.le_refl _)).keep (.of_below Z.out.bel)).mono (fun i _ hi => ⟨Nat.ne_of_lt (Nat.lt_trans hi (Nat.lt_trans (Nat.lt_succ_self _) Z.out.g5)), Nat.ne_of_lt (Nat.lt_trans hi (Nat.lt_trans (Nat.lt_succ_self _) Z.out.g6))⟩)))
      have GN := Lib.hid (show ∀ i, i < (W.alloc (.cells #[.int .u16 259, .slice A2 n2 c2] 43)).heap.size → (i ≠ b5 ∧ i ≠ b6) ∧ i < W.heap.size → (i ≠ b5 ∧ i ≠ b6) ∧ (Value.slice (some ⟨W.heap.size, 0, none⟩) 1 1).ownBlock ≠ some i from fun i _ hi => ⟨hi.1, fun e => absurd (show some W.heap.size = some i from e) (fun h => by injection h with h; have := hi.2; omega)⟩)
      have BX := Lib.hid ((Below.refl W.heap.size W).alloc (Nat.le_refl _) (.cells #[.int .u16 259, .slice A2 n2 c2] 43))
      have SN := Lib.hid (show r4.nt ≤ 60 by rw [← Z.out.p6.lt]; exact LO.out)
      have LTN := Lib.hid (show Rws shG (fun i => (i ≠ b5 ∧ i ≠ b6) ∧ i < W.heap.size) W r4.at_ o.tags from Z.out.p6.rt.mono (fun i hi hf => ⟨hf, hi⟩))
      go_upto_region 8 with ((at_builtin; refine list_rows shG rfl _ _ _ rfl 43 i0 (.agg #[.int .u16 0, .slice none 0 0]) 32 Try.underlying34 hi0 hz0 hz1 hz2 rfl (by decide) (fun i => i ≠ b5 ∧ i ≠ b6) (fun i => (i ≠ b5 ∧ i ≠ b6) ∧ i < W.heap.size) W.heap.size _ 1 [(259, lb)] rfl OX.out rfl _ r4.nt _ o.tags rfl (LTN.out.below BX.out) Z.out.p6.lt GN.out (by unfold maxLen; have := SN.out; omega) (by have := SN.out; omega) BX.out.size ?_; intro v7 w7 h7 hg7 hm7; clear hm7; obtain ⟨A6', c6', e7, hc7, _⟩ := h7.shape; subst e7; rw [List.length_append, Z.out.p6.lt] at h7 hc7 ⊢; have O7 := Lib.hid h7; have K7 := Lib.hid hc7; replace Z := Lib.hid (Z.out.step (BX.out.grown hg7 BX.out.size (fun k hk => (OX.out.lt hk).1))); clear h7 hg7 hc7 l6 x0 x1 x2 x3 x4 x5 x6 x7 x8 x9 x10 x11 x12 y0 y1 y2 y3 y4 y5 y6 y7 y8 y9 y10 y11 y12 e0 e1 e2 e3 e4 e5 e6 e7 e8 e9 e10 e11 e12 g0 g1 g2 g3 g4 g5 g6 g7 g8 g9 g10 g11 g12; obtain ⟨x0, x1, x2, x3, x4, x5, x6, x7, x8, x9, x10, x11, x12⟩ := Z.out.v5.all; obtain ⟨y0, y1, y2, y3, y4, y5, y6, y7, y8, y9, y10, y11, y12⟩ := Z.out.v6.all; obtain ⟨e0, e1, e2, e3, e4, e5, e6, e7, e8, e9, e10, e11, e12⟩ := Z.out.v5.free; obtain ⟨g0, g1, g2, g3, g4, g5, g6, g7, g8, g9, g10, g11, g12⟩ := Z.out.v6.free))
      have Z9 := Lib.hid (Z.out.tags6 (l := [(259, lb)] ++ o.tags) (by rw [List.length_append, Z.out.p6.lt]) K7.out (O7.out.read.mono (fun i _ hi => hi.elim id (fun hi => ⟨Nat.ne_of_gt (Nat.lt_of_lt_of_le L5.out hi), Nat.ne_of_gt (Nat.lt_of_lt_of_le L6.out hi)⟩))))
      obtain ⟨ly, hly⟩ : ∃ l, Hid ([(259, lb)] ++ o.tags = l) := ⟨_, Lib.hid rfl⟩
      rw [hly.out] at Z9
      refine at_worldP (fun W => ∃ R4, Hid (AnV w W b5 b6 ⟨f.code, f.sess, lx, f.pkt⟩ ⟨o.code, o.sess, ly, o.pkt⟩ R3 R4 f q)) ⟨_, Z9⟩ ?_
      clear Z Z9 L5 L6 OX GN BX SN LTN O7 K7 x0 x1 x2 x3 x4 x5 x6 x7 x8 x9 x10 x11 x12 y0 y1 y2 y3 y4 y5 y6 y7 y8 y9 y10 y11 y12 e0 e1 e2 e3 e4 e5 e6 e7 e8 e9 e10 e11 e12 g0 g1 g2 g3 g4 g5 g6 g7 g8 g9 g10 g11 g12
      rintro W ⟨R4, Z⟩
      have GX := Lib.hid (show ByG lx by rw [← hlx.out]; exact fun v hv => (List.mem_cons.1 hv).elim (fun e => by rw [e]; exact ⟨(show 259 < 65536 by decide), BA.out⟩) (fun hv => OK1.out v hv))
      have GY := Lib.hid (show ByG ly by rw [← hly.out]; exact fun v hv => (List.mem_cons.1 hv).elim (fun e => by rw [e]; exact ⟨(show 259 < 65536 by decide), BB.out⟩) (fun hv => OK2.out v hv))
      have DX := Lib.hid (show ∀ v ∈ lx, v.2.length ≤ 274877906944 by rw [← hlx.out]; exact fun v hv => (List.mem_cons.1 hv).elim (fun e => by rw [e]; show la.length ≤ _; rw [HL1.out]; exact N1.out) (fun hv => TX.out v hv))
      have DY := Lib.hid (show ∀ v ∈ ly, v.2.length ≤ 274877906944 by rw [← hly.out]; exact fun v hv => (List.mem_cons.1 hv).elim (fun e => by rw [e]; show lb.length ≤ _; rw [HL2.out]; exact N2.out) (fun hv => TX2.out v hv))
      have NX := Lib.hid (show lx.length ≤ 274877906944 by rw [← hlx.out, List.length_append, List.length_singleton]; have := LF.out; omega)
      have NY := Lib.hid (show ly.length ≤ 274877906944 by rw [← hly.out, List.length_append, List.length_singleton]; have := LO.out; omega)
      have EZ := Lib.hid (show ∀ (c d : Nat) (u : Bool), ((decide (c = 7) && decide (d = 9) || decide (c = 101) && decide (d = 25)) && decide (la = lb)) = u → eansB ⟨c, f.sess, lx, f.pkt⟩ ⟨d, o.sess, ly, o.pkt⟩ = u by rw [← hlx.out, ← hly.out]; exact fun c d u hu => (eans_tags c d _ _ la lb _ _ _ _).trans hu)
      obtain ⟨x0, x1, x2, x3, x4, x5, x6, x7, x8, x9, x10, x11, x12⟩ := Z.out.v5.all; obtain ⟨y0, y1, y2, y3, y4, y5, y6, y7, y8, y9, y10, y11, y12⟩ := Z.out.v6.all
      obtain ⟨e0, e1, e2, e3, e4, e5, e6, e7, e8, e9, e10, e11, e12⟩ := Z.out.v5.free; obtain ⟨g0, g1, g2, g3, g4, g5, g6, g7, g8, g9, g10, g11, g12⟩ := Z.out.v6.free
      go_upto_region 9 with fail
      refine at_worldP (fun W => Hid (AnV w W b5 b6 ⟨7, f.sess, lx, f.pkt⟩ ⟨9, o.sess, ly, o.pkt⟩ R3 R4 f q)) (Lib.hid ((Z.out.code5 7).code6 9)) ?_
      clear x0 x1 x2 x3 x4 x5 x6 x7 x8 x9 x10 x11 x12 y0 y1 y2 y3 y4 y5 y6 y7 y8 y9 y10 y11 y12 e0 e1 e2 e3 e4 e5 e6 e7 e8 e9 e10 e11 e12 g0 g1 g2 g3 g4 g5 g6 g7 g8 g9 g10 g11 g12
      clear Z
      rintro W Z
      obtain ⟨x0, x1, x2, x3, x4, x5, x6, x7, x8, x9, x10, x11, x12⟩ := Z.out.v5.all; obtain ⟨y0, y1, y2, y3, y4, y5, y6, y7, y8, y9, y10, y11, y12⟩ := Z.out.v6.all
      obtain ⟨e0, e1, e2, e3, e4, e5, e6, e7, e8, e9, e10, e11, e12⟩ := Z.out.v5.free; obtain ⟨g0, g1, g2, g3, g4, g5, g6, g7, g8, g9, g10, g11, g12⟩ := Z.out.v6.free
      go_upto_region 10 with (first
        | (go_at_call 7; (with_reducible refine (eans_lit 7 9 7 9 rfl rfl f.sess o.sess lx ly f.pkt o.pkt R3.at_ R4.at_ R3.nt R3.ct R4.nt R4.ct R3.pl R4.pl _ Z.out.p5.all Z.out.p6.all GX.out GY.out NX.out NY.out DX.out DY.out _ (EZ.out 7 9 z (by simp [hz.out]))).mono ?_); rintro e wn ⟨rfl, hb⟩; replace Z := Lib.hid (Z.out.step hb); clear hb; clear x0 x1 x2 x3 x4 x5 x6 x7 x8 x9 x10 x11 x12 y0 y1 y2 y3 y4 y5 y6 y7 y8 y9 y10 y11 y12; obtain ⟨x0, x1, x2, x3, x4, x5, x6, x7, x8, x9, x10, x11, x12⟩ := Z.out.v5.all; obtain ⟨y0, y1, y2, y3, y4, y5, y6, y7, y8, y9, y10, y11, y12⟩ := Z.out.v6.all))
      clear x0 x1 x2 x3 x4 x5 x6 x7 x8 x9 x10 x11 x12 y0 y1 y2 y3 y4 y5 y6 y7 y8 y9 y10 y11 y12 e0 e1 e2 e3 e4 e5 e6 e7 e8 e9 e10 e11 e12 g0 g1 g2 g3 g4 g5 g6 g7 g8 g9 g10 g11 g12
      obtain ⟨x0, x1, x2, x3, x4, x5, x6, x7, x8, x9, x10, x11, x12⟩ := Z.out.v5.all; obtain ⟨y0, y1, y2, y3, y4, y5, y6, y7, y8, y9, y10, y11, y12⟩ := Z.out.v6.all
      obtain ⟨e0, e1, e2, e3, e4, e5, e6, e7, e8, e9, e10, e11, e12⟩ := Z.out.v5.free; obtain ⟨g0, g1, g2, g3, g4, g5, g6, g7, g8, g9, g10, g11, g12⟩ := Z.out.v6.free
      go_upto_region 11 with fail
      refine at_worldP (fun W => Hid (AnV w W b5 b6 ⟨101, f.sess, lx, f.pkt⟩ ⟨25, o.sess, ly, o.pkt⟩ R3 R4 f q)) (Lib.hid ((Z.out.code5 101).code6 25)) ?_
      clear x0 x1 x2 x3 x4 x5 x6 x7 x8 x9 x10 x11 x12 y0 y1 y2 y3 y4 y5 y6 y7 y8 y9 y10 y11 y12 e0 e1 e2 e3 e4 e5 e6 e7 e8 e9 e10 e11 e12 g0 g1 g2 g3 g4 g5 g6 g7 g8 g9 g10 g11 g12
      clear Z
      rintro W Z
      obtain ⟨x0, x1, x2, x3, x4, x5, x6, x7, x8, x9, x10, x11, x12⟩ := Z.out.v5.all; obtain ⟨y0, y1, y2, y3, y4, y5, y6, y7, y8, y9, y10, y11, y12⟩ := Z.out.v6.all
      obtain ⟨e0, e1, e2, e3, e4, e5, e6, e7, e8, e9, e10, e11, e12⟩ := Z.out.v5.free; obtain ⟨g0, g1, g2, g3, g4, g5, g6, g7, g8, g9, g10, g11, g12⟩ := Z.out.v6.free
      go_upto_region 12 with (first
        | (go_at_call 7; (with_reducible refine (eans_lit 101 25 101 25 rfl rfl f.sess o.sess lx ly f.pkt o.pkt R3.at_ R4.at_ R3.nt R3.ct R4.nt R4.ct R3.pl R4.pl _ Z.out.p5.all Z.out.p6.all GX.out GY.out NX.out NY.out DX.out DY.out _ (EZ.out 101 25 z (by simp [hz.out]))).mono ?_); rintro e wn ⟨rfl, hb⟩; replace Z := Lib.hid (Z.out.step hb); clear hb; clear x0 x1 x2 x3 x4 x5 x6 x7 x8 x9 x10 x11 x12 y0 y1 y2 y3 y4 y5 y6 y7 y8 y9 y10 y11 y12; obtain ⟨x0, x1, x2, x3, x4, x5, x6, x7, x8, x9, x10, x11, x12⟩ := Z.out.v5.all; obtain ⟨y0, y1, y2, y3, y4, y5, y6, y7, y8, y9, y10, y11, y12⟩ := Z.out.v6.all))
      clear x0 x1 x2 x3 x4 x5 x6 x7 x8 x9 x10 x11 x12 y0 y1 y2 y3 y4 y5 y6 y7 y8 y9 y10 y11 y12 e0 e1 e2 e3 e4 e5 e6 e7 e8 e9 e10 e11 e12 g0 g1 g2 g3 g4 g5 g6 g7 g8 g9 g10 g11 g12
      obtain ⟨x0, x1, x2, x3, x4, x5, x6, x7, x8, x9, x10, x11, x12⟩ := Z.out.v5.all; obtain ⟨y0, y1, y2, y3, y4, y5, y6, y7, y8, y9, y10, y11, y12⟩ := Z.out.v6.all
      obtain ⟨e0, e1, e2, e3, e4, e5, e6, e7, e8, e9, e10, e11, e12⟩ := Z.out.v5.free; obtain ⟨g0, g1, g2, g3, g4, g5, g6, g7, g8, g9, g10, g11, g12⟩ := Z.out.v6.free
      go_upto_region 13 with fail
      refine at_worldP (fun W => Hid (AnV w W b5 b6 ⟨7, f.sess, lx, f.pkt⟩ ⟨25, o.sess, ly, o.pkt⟩ R3 R4 f q)) (Lib.hid (Z.out.code5 7)) ?_
      clear x0 x1 x2 x3 x4 x5 x6 x7 x8 x9 x10 x11 x12 y0 y1 y2 y3 y4 y5 y6 y7 y8 y9 y10 y11 y12 e0 e1 e2 e3 e4 e5 e6 e7 e8 e9 e10 e11 e12 g0 g1 g2 g3 g4 g5 g6 g7 g8 g9 g10 g11 g12
      clear Z
      rintro W Z
      obtain ⟨at3, nt3, ct3, pl3⟩ := R3
      obtain ⟨bt, ot, hAt⟩ := (show Rws shG (fun _ => True) W at3 ((259, la) :: f.tags) by rw [show (259, la) :: f.tags = lx from hlx.out]; exact Z.out.p5.all.rt).atG
      subst hAt
      have hn1 : nt3 = 1 + f.tags.length := by rw [← (show lx.length = nt3 from Z.out.p5.lt), ← hlx.out, List.length_append, List.length_singleton]
      have hk1 : nt3 ≤ ct3 := Z.out.p5.kt
      have NT2 := Lib.hid (show f.tags.length = nt3 - 1 by omega)
      have N31 := Lib.hid (show nt3 - 1 ≤ 1073741824 by have := LF.out; omega)
      have i1 : (1 : Int) ≤ (nt3 : Int) := by omega
      have i2 : (nt3 : Int) ≤ (ct3 : Int) := by omega
      have EL := Lib.hid (EZ.out 7 25 false (by simp))
      have RT := Lib.hid (show ∀ V, AnV w V b5 b6 ⟨7, f.sess, lx, f.pkt⟩ ⟨25, o.sess, ly, o.pkt⟩ ⟨some ⟨bt, ot, none⟩, nt3, ct3, pl3⟩ R4 f q → Rws shG (fun _ => True) V (some ⟨bt, ot + 2, none⟩) f.tags from fun V hV => (by
        have h9 := hV.p5.all.rt
        rw [show lx = (259, la) :: f.tags from hlx.out.symm] at h9
        exact h9.tailG))
      have FQ := Lib.hid (show ∀ V, AnV w V b5 b6 ⟨7, f.sess, lx, f.pkt⟩ ⟨25, o.sess, ly, o.pkt⟩ ⟨some ⟨bt, ot, none⟩, nt3, ct3, pl3⟩ R4 f q → V.cell? ⟨b5, 0, none⟩ = some (.int .u8 7) ∧ V.cell? ⟨b5, 1, none⟩ = some (.int .u16 (f.sess : Int)) ∧ V.cell? ⟨b5, 2, none⟩ = some (.slice (some ⟨bt, ot, none⟩) nt3 ct3) ∧ V.cell? ⟨b5, 3, none⟩ = some (.int .u16 (f.pkt.proto : Int)) ∧ V.cell? ⟨b5, 4, none⟩ = some (.int .u8 (f.pkt.code : Int)) ∧ V.cell? ⟨b5, 5, none⟩ = some (.int .u8 (f.pkt.id : Int)) ∧ V.cell? ⟨b5, 6, none⟩ = some (.slice pl3.ao pl3.no pl3.co) ∧ V.cell? ⟨b5, 7, none⟩ = some (.int .u16 (f.pkt.sub : Int)) ∧ V.cell? ⟨b5, 8, none⟩ = some (.int .u32 (f.pkt.magic : Int)) ∧ V.cell? ⟨b5, 9, none⟩ = some (.slice pl3.a1 pl3.n1 pl3.c1) ∧ V.cell? ⟨b5, 10, none⟩ = some (.slice pl3.a2 pl3.n2 pl3.c2) ∧ V.cell? ⟨b5, 11, none⟩ = some (.slice pl3.ad pl3.nd pl3.cd) ∧ V.cell? ⟨b5, 12, none⟩ = some (.slice pl3.an pl3.nn pl3.cn) ∧ V.cell? ⟨b6, 0, none⟩ = some (.int .u8 25) ∧ V.cell? ⟨b6, 1, none⟩ = some (.int .u16 (o.sess : Int)) ∧ V.cell? ⟨b6, 2, none⟩ = some (.slice R4.at_ R4.nt R4.ct) ∧ V.cell? ⟨b6, 3, none⟩ = some (.int .u16 (o.pkt.proto : Int)) ∧ V.cell? ⟨b6, 4, none⟩ = some (.int .u8 (o.pkt.code : Int)) ∧ V.cell? ⟨b6, 5, none⟩ = some (.int .u8 (o.pkt.id : Int)) ∧ V.cell? ⟨b6, 6, none⟩ = some (.slice R4.pl.ao R4.pl.no R4.pl.co) ∧ V.cell? ⟨b6, 7, none⟩ = some (.int .u16 (o.pkt.sub : Int)) ∧ V.cell? ⟨b6, 8, none⟩ = some (.int .u32 (o.pkt.magic : Int)) ∧ V.cell? ⟨b6, 9, none⟩ = some (.slice R4.pl.a1 R4.pl.n1 R4.pl.c1) ∧ V.cell? ⟨b6, 10, none⟩ = some (.slice R4.pl.a2 R4.pl.n2 R4.pl.c2) ∧ V.cell? ⟨b6, 11, none⟩ = some (.slice R4.pl.ad R4.pl.nd R4.pl.cd) ∧ V.cell? ⟨b6, 12, none⟩ = some (.slice R4.pl.an R4.pl.nn R4.pl.cn) ∧ V.cell? ⟨w.heap.size, 0, none⟩ = some (.int .u8 (f.code : Int)) ∧ V.cell? ⟨w.heap.size, 1, none⟩ = some (.int .u16 (f.sess : Int)) ∧ V.cell? ⟨w.heap.size, 2, none⟩ = some (.slice q.at_ q.nt q.ct) ∧ V.cell? ⟨w.heap.size, 3, none⟩ = some (.int .u16 (f.pkt.proto : Int)) ∧ V.cell? ⟨w.heap.size, 4, none⟩ = some (.int .u8 (f.pkt.code : Int)) ∧ V.cell? ⟨w.heap.size, 5, none⟩ = some (.int .u8 (f.pkt.id : Int)) ∧ V.cell? ⟨w.heap.size, 6, none⟩ = some (.slice q.pl.ao q.pl.no q.pl.co) ∧ V.cell? ⟨w.heap.size, 7, none⟩ = some (.int .u16 (f.pkt.sub : Int)) ∧ V.cell? ⟨w.heap.size, 8, none⟩ = some (.int .u32 (f.pkt.magic : Int)) ∧ V.cell? ⟨w.heap.size, 9, none⟩ = some (.slice q.pl.a1 q.pl.n1 q.pl.c1) ∧ V.cell? ⟨w.heap.size, 10, none⟩ = some (.slice q.pl.a2 q.pl.n2 q.pl.c2) ∧ V.cell? ⟨w.heap.size, 11, none⟩ = some (.slice q.pl.ad q.pl.nd q.pl.cd) ∧ V.cell? ⟨w.heap.size, 12, none⟩ = some (.slice q.pl.an q.pl.nn q.pl.cn) from fun V hV => hV.flat)
      have SM := Lib.hid HSM.out
      clear hn1 hk1 EZ
      by_cases hc1 : ct3 = 1
      · have hn0 : f.tags = [] := List.eq_nil_of_length_eq_zero (by rw [NT2.out]; omega)
        have RS := Lib.hid (show ∀ V, AnV w V b5 b6 ⟨7, f.sess, lx, f.pkt⟩ ⟨25, o.sess, ly, o.pkt⟩ ⟨some ⟨bt, ot, none⟩, nt3, ct3, pl3⟩ R4 f q → Rws shG (fun _ => True) V (some ⟨bt, ot, none⟩) f.tags from fun V hV => by rw [hn0]; exact Rws.nilG)
        clear hn0 RT
        subst hc1
        obtain ⟨h0, h1, h2, h3, h4, h5, h6, h7, h8, h9, h10, h11, h12, h13, h14, h15, h16, h17, h18, h19, h20, h21, h22, h23, h24, h25, h26, h27, h28, h29, h30, h31, h32, h33, h34, h35, h36, h37, h38⟩ := FQ.out W Z.out
        go_region_held3 (fun W => W.cell? ⟨b5, 0, none⟩ = some (.int .u8 7) ∧ W.cell? ⟨b5, 1, none⟩ = some (.int .u16 (f.sess : Int)) ∧ W.cell? ⟨b5, 2, none⟩ = some (.slice (some ⟨bt, ot, none⟩) nt3 1) ∧ W.cell? ⟨b5, 3, none⟩ = some (.int .u16 (f.pkt.proto : Int)) ∧ W.cell? ⟨b5, 4, none⟩ = some (.int .u8 (f.pkt.code : Int)) ∧ W.cell? ⟨b5, 5, none⟩ = some (.int .u8 (f.pkt.id : Int)) ∧ W.cell? ⟨b5, 6, none⟩ = some (.slice pl3.ao pl3.no pl3.co) ∧ W.cell? ⟨b5, 7, none⟩ = some (.int .u16 (f.pkt.sub : Int)) ∧ W.cell? ⟨b5, 8, none⟩ = some (.int .u32 (f.pkt.magic : Int)) ∧ W.cell? ⟨b5, 9, none⟩ = some (.slice pl3.a1 pl3.n1 pl3.c1) ∧ W.cell? ⟨b5, 10, none⟩ = some (.slice pl3.a2 pl3.n2 pl3.c2) ∧ W.cell? ⟨b5, 11, none⟩ = some (.slice pl3.ad pl3.nd pl3.cd) ∧ W.cell? ⟨b5, 12, none⟩ = some (.slice pl3.an pl3.nn pl3.cn) ∧ W.cell? ⟨b6, 0, none⟩ = some (.int .u8 25) ∧ W.cell? ⟨b6, 1, none⟩ = some (.int .u16 (o.sess : Int)) ∧ W.cell? ⟨b6, 2, none⟩ = some (.slice R4.at_ R4.nt R4.ct) ∧ W.cell? ⟨b6, 3, none⟩ = some (.int .u16 (o.pkt.proto : Int)) ∧ W.cell? ⟨b6, 4, none⟩ = some (.int .u8 (o.pkt.code : Int)) ∧ W.cell? ⟨b6, 5, none⟩ = some (.int .u8 (o.pkt.id : Int)) ∧ W.cell? ⟨b6, 6, none⟩ = some (.slice R4.pl.ao R4.pl.no R4.pl.co) ∧ W.cell? ⟨b6, 7, none⟩ = some (.int .u16 (o.pkt.sub : Int)) ∧ W.cell? ⟨b6, 8, none⟩ = some (.int .u32 (o.pkt.magic : Int)) ∧ W.cell? ⟨b6, 9, none⟩ = some (.slice R4.pl.a1 R4.pl.n1 R4.pl.c1) ∧ W.cell? ⟨b6, 10, none⟩ = some (.slice R4.pl.a2 R4.pl.n2 R4.pl.c2) ∧ W.cell? ⟨b6, 11, none⟩ = some (.slice R4.pl.ad R4.pl.nd R4.pl.cd) ∧ W.cell? ⟨b6, 12, none⟩ = some (.slice R4.pl.an R4.pl.nn R4.pl.cn) ∧ W.cell? ⟨w.heap.size, 0, none⟩ = some (.int .u8 (f.code : Int)) ∧ W.cell? ⟨w.heap.size, 1, none⟩ = some (.int .u16 (f.sess : Int)) ∧ W.cell? ⟨w.heap.size, 2, none⟩ = some (.slice q.at_ q.nt q.ct) ∧ W.cell? ⟨w.heap.size, 3, none⟩ = some (.int .u16 (f.pkt.proto : Int)) ∧ W.cell? ⟨w.heap.size, 4, none⟩ = some (.int .u8 (f.pkt.code : Int)) ∧ W.cell? ⟨w.heap.size, 5, none⟩ = some (.int .u8 (f.pkt.id : Int)) ∧ W.cell? ⟨w.heap.size, 6, none⟩ = some (.slice q.pl.ao q.pl.no q.pl.co) ∧ W.cell? ⟨w.heap.size, 7, none⟩ = some (.int .u16 (f.pkt.sub : Int)) ∧ W.cell? ⟨w.heap.size, 8, none⟩ = some (.int .u32 (f.pkt.magic : Int)) ∧ W.cell? ⟨w.heap.size, 9, none⟩ = some (.slice q.pl.a1 q.pl.n1 q.pl.c1) ∧ W.cell? ⟨w.heap.size, 10, none⟩ = some (.slice q.pl.a2 q.pl.n2 q.pl.c2) ∧ W.cell? ⟨w.heap.size, 11, none⟩ = some (.slice q.pl.ad q.pl.nd q.pl.cd) ∧ W.cell? ⟨w.heap.size, 12, none⟩ = some (.slice q.pl.an q.pl.nn q.pl.cn)) (first | (with_reducible exact FQ.out _ Z.out) | (with_reducible exact FQ.out _ Z.out.drew)) (first
          | (go_at_call 8; (first | (with_reducible refine (equal_z la lb z hz.out n1 n2 _ _ _ _ _ (RA.out.on Z.out.bel) (RB.out.on Z.out.bel) HL1.out HL2.out BA.out BB.out (Nat.le_trans N1.out (by decide))).mono ?_) | (with_reducible refine (equal_z la lb z hz.out n1 n2 _ _ _ _ _ (RA.out.on Z.out.drew.bel) (RB.out.on Z.out.drew.bel) HL1.out HL2.out BA.out BB.out (Nat.le_trans N1.out (by decide))).mono ?_)); rintro e wn ⟨rfl, hb⟩; replace Z := Lib.hid (Z.out.step hb); (try replace P1 := Lib.hid (P1.out.on hb)); (try replace P2 := Lib.hid (P2.out.keep (.of_below hb))); clear hb; dsimp only)
          | (go_at_call 7; (first | (with_reducible refine (eans_lit 7 25 7 25 rfl rfl f.sess o.sess lx ly f.pkt o.pkt (some ⟨bt, ot, none⟩) R4.at_ nt3 1 R4.nt R4.ct pl3 R4.pl _ Z.out.p5.all Z.out.p6.all GX.out GY.out NX.out NY.out DX.out DY.out false EL.out).mono ?_) | (with_reducible refine (eans_lit 7 25 7 25 rfl rfl f.sess o.sess lx ly f.pkt o.pkt (some ⟨bt, ot, none⟩) R4.at_ nt3 1 R4.nt R4.ct pl3 R4.pl _ Z.out.drew.p5.all Z.out.drew.p6.all GX.out GY.out NX.out NY.out DX.out DY.out false EL.out).mono ?_)); rintro e wn ⟨rfl, hb⟩; replace Z := Lib.hid (Z.out.step hb); (try replace P1 := Lib.hid (P1.out.on hb)); (try replace P2 := Lib.hid (P2.out.keep (.of_below hb))); clear hb; dsimp only)
          | (go_at_call 10; (first | (with_reducible refine (to15_any f.pkt pl3 _ Z.out.p5.all.pk.pw (by rw [← Z.out.p5.pk.lo]; exact SM.out.o)).mono ?_) | (with_reducible refine (to15_any f.pkt pl3 _ Z.out.drew.p5.all.pk.pw (by rw [← Z.out.p5.pk.lo]; exact SM.out.o)).mono ?_)); rintro e wn ⟨r7, rfl, hp, hb⟩; replace Z := Lib.hid (Z.out.step hb); (try replace P1 := Lib.hid (P1.out.on hb)); (try replace P2 := Lib.hid (P2.out.keep (.of_below hb))); have P1 := Lib.hid hp; clear hb hp; dsimp only)
          | (go_at_call 9; (first | (with_reducible refine (psame_yes f.pkt q.pl r7 _ (H.out.on Z.out.bel).pk.pw P1.out SM.out).mono ?_) | (with_reducible refine (psame_yes f.pkt q.pl r7 _ (H.out.on Z.out.drew.bel).pk.pw P1.out SM.out).mono ?_)); rintro e wn ⟨rfl, hb⟩; replace Z := Lib.hid (Z.out.step hb); (try replace P1 := Lib.hid (P1.out.on hb)); (try replace P2 := Lib.hid (P2.out.keep (.of_below hb))); clear hb; dsimp only)
          | (go_at_call 12; (first | (with_reducible refine (tgto_v f.tags (nt3 - 1) _ _ _ (RS.out _ Z.out) NT2.out N31.out).mono ?_) | (with_reducible refine (tgto_v f.tags (nt3 - 1) _ _ _ (RS.out _ Z.out.drew) NT2.out N31.out).mono ?_)); rintro e wn ⟨A9, c9, rfl, hr, hb⟩; replace Z := Lib.hid (Z.out.step hb); (try replace P1 := Lib.hid (P1.out.on hb)); (try replace P2 := Lib.hid (P2.out.keep (.of_below hb))); have P2 := Lib.hid hr; clear hb hr; dsimp only)
          | (go_at_call 11; (first | (with_reducible refine (tgsame_v f.tags f.tags true (decide_eq_true rfl) q.nt (nt3 - 1) q.ct c9 q.at_ A9 _ _ _ (H.out.on Z.out.bel).rt P2.out OK1.out OK1.out H.out.lt NT2.out QA.out).mono ?_) | (with_reducible refine (tgsame_v f.tags f.tags true (decide_eq_true rfl) q.nt (nt3 - 1) q.ct c9 q.at_ A9 _ _ _ (H.out.on Z.out.drew.bel).rt P2.out OK1.out OK1.out H.out.lt NT2.out QA.out).mono ?_)); rintro e wn ⟨rfl, hb⟩; replace Z := Lib.hid (Z.out.step hb); (try replace P1 := Lib.hid (P1.out.on hb)); (try replace P2 := Lib.hid (P2.out.keep (.of_below hb))); clear hb; dsimp only))
        all_goals go_wp2_with fail
        all_goals
          go_ret
          exact ⟨rfl, Z.out.bel⟩
      · have RS := RT
        clear RT
        obtain ⟨h0, h1, h2, h3, h4, h5, h6, h7, h8, h9, h10, h11, h12, h13, h14, h15, h16, h17, h18, h19, h20, h21, h22, h23, h24, h25, h26, h27, h28, h29, h30, h31, h32, h33, h34, h35, h36, h37, h38⟩ := FQ.out W Z.out
        go_region_held3 (fun W => W.cell? ⟨b5, 0, none⟩ = some (.int .u8 7) ∧ W.cell? ⟨b5, 1, none⟩ = some (.int .u16 (f.sess : Int)) ∧ W.cell? ⟨b5, 2, none⟩ = some (.slice (some ⟨bt, ot, none⟩) nt3 ct3) ∧ W.cell? ⟨b5, 3, none⟩ = some (.int .u16 (f.pkt.proto : Int)) ∧ W.cell? ⟨b5, 4, none⟩ = some (.int .u8 (f.pkt.code : Int)) ∧ W.cell? ⟨b5, 5, none⟩ = some (.int .u8 (f.pkt.id : Int)) ∧ W.cell? ⟨b5, 6, none⟩ = some (.slice pl3.ao pl3.no pl3.co) ∧ W.cell? ⟨b5, 7, none⟩ = some (.int .u16 (f.pkt.sub : Int)) ∧ W.cell? ⟨b5, 8, none⟩ = some (.int .u32 (f.pkt.magic : Int)) ∧ W.cell? ⟨b5, 9, none⟩ = some (.slice pl3.a1 pl3.n1 pl3.c1) ∧ W.cell? ⟨b5, 10, none⟩ = some (.slice pl3.a2 pl3.n2 pl3.c2) ∧ W.cell? ⟨b5, 11, none⟩ = some (.slice pl3.ad pl3.nd pl3.cd) ∧ W.cell? ⟨b5, 12, none⟩ = some (.slice pl3.an pl3.nn pl3.cn) ∧ W.cell? ⟨b6, 0, none⟩ = some (.int .u8 25) ∧ W.cell? ⟨b6, 1, none⟩ = some (.int .u16 (o.sess : Int)) ∧ W.cell? ⟨b6, 2, none⟩ = some (.slice R4.at_ R4.nt R4.ct) ∧ W.cell? ⟨b6, 3, none⟩ = some (.int .u16 (o.pkt.proto : Int)) ∧ W.cell? ⟨b6, 4, none⟩ = some (.int .u8 (o.pkt.code : Int)) ∧ W.cell? ⟨b6, 5, none⟩ = some (.int .u8 (o.pkt.id : Int)) ∧ W.cell? ⟨b6, 6, none⟩ = some (.slice R4.pl.ao R4.pl.no R4.pl.co) ∧ W.cell? ⟨b6, 7, none⟩ = some (.int .u16 (o.pkt.sub : Int)) ∧ W.cell? ⟨b6, 8, none⟩ = some (.int .u32 (o.pkt.magic : Int)) ∧ W.cell? ⟨b6, 9, none⟩ = some (.slice R4.pl.a1 R4.pl.n1 R4.pl.c1) ∧ W.cell? ⟨b6, 10, none⟩ = some (.slice R4.pl.a2 R4.pl.n2 R4.pl.c2) ∧ W.cell? ⟨b6, 11, none⟩ = some (.slice R4.pl.ad R4.pl.nd R4.pl.cd) ∧ W.cell? ⟨b6, 12, none⟩ = some (.slice R4.pl.an R4.pl.nn R4.pl.cn) ∧ W.cell? ⟨w.heap.size, 0, none⟩ = some (.int .u8 (f.code : Int)) ∧ W.cell? ⟨w.heap.size, 1, none⟩ = some (.int .u16 (f.sess : Int)) ∧ W.cell? ⟨w.heap.size, 2, none⟩ = some (.slice q.at_ q.nt q.ct) ∧ W.cell? ⟨w.heap.size, 3, none⟩ = some (.int .u16 (f.pkt.proto : Int)) ∧ W.cell? ⟨w.heap.size, 4, none⟩ = some (.int .u8 (f.pkt.code : Int)) ∧ W.cell? ⟨w.heap.size, 5, none⟩ = some (.int .u8 (f.pkt.id : Int)) ∧ W.cell? ⟨w.heap.size, 6, none⟩ = some (.slice q.pl.ao q.pl.no q.pl.co) ∧ W.cell? ⟨w.heap.size, 7, none⟩ = some (.int .u16 (f.pkt.sub : Int)) ∧ W.cell? ⟨w.heap.size, 8, none⟩ = some (.int .u32 (f.pkt.magic : Int)) ∧ W.cell? ⟨w.heap.size, 9, none⟩ = some (.slice q.pl.a1 q.pl.n1 q.pl.c1) ∧ W.cell? ⟨w.heap.size, 10, none⟩ = some (.slice q.pl.a2 q.pl.n2 q.pl.c2) ∧ W.cell? ⟨w.heap.size, 11, none⟩ = some (.slice q.pl.ad q.pl.nd q.pl.cd) ∧ W.cell? ⟨w.heap.size, 12, none⟩ = some (.slice q.pl.an q.pl.nn q.pl.cn)) (first | (with_reducible exact FQ.out _ Z.out) | (with_reducible exact FQ.out _ Z.out.drew)) (first
          | (go_at_call 8; (first | (with_reducible refine (equal_z la lb z hz.out n1 n2 _ _ _ _ _ (RA.out.on Z.out.bel) (RB.out.on Z.out.bel) HL1.out HL2.out BA.out BB.out (Nat.le_trans N1.out (by decide))).mono ?_) | (with_reducible refine (equal_z la lb z hz.out n1 n2 _ _ _ _ _ (RA.out.on Z.out.drew.bel) (RB.out.on Z.out.drew.bel) HL1.out HL2.out BA.out BB.out (Nat.le_trans N1.out (by decide))).mono ?_)); rintro e wn ⟨rfl, hb⟩; replace Z := Lib.hid (Z.out.step hb); (try replace P1 := Lib.hid (P1.out.on hb)); (try replace P2 := Lib.hid (P2.out.keep (.of_below hb))); clear hb; dsimp only)
          | (go_at_call 7; (first | (with_reducible refine (eans_lit 7 25 7 25 rfl rfl f.sess o.sess lx ly f.pkt o.pkt (some ⟨bt, ot, none⟩) R4.at_ nt3 ct3 R4.nt R4.ct pl3 R4.pl _ Z.out.p5.all Z.out.p6.all GX.out GY.out NX.out NY.out DX.out DY.out false EL.out).mono ?_) | (with_reducible refine (eans_lit 7 25 7 25 rfl rfl f.sess o.sess lx ly f.pkt o.pkt (some ⟨bt, ot, none⟩) R4.at_ nt3 ct3 R4.nt R4.ct pl3 R4.pl _ Z.out.drew.p5.all Z.out.drew.p6.all GX.out GY.out NX.out NY.out DX.out DY.out false EL.out).mono ?_)); rintro e wn ⟨rfl, hb⟩; replace Z := Lib.hid (Z.out.step hb); (try replace P1 := Lib.hid (P1.out.on hb)); (try replace P2 := Lib.hid (P2.out.keep (.of_below hb))); clear hb; dsimp only)
          | (go_at_call 10; (first | (with_reducible refine (to15_any f.pkt pl3 _ Z.out.p5.all.pk.pw (by rw [← Z.out.p5.pk.lo]; exact SM.out.o)).mono ?_) | (with_reducible refine (to15_any f.pkt pl3 _ Z.out.drew.p5.all.pk.pw (by rw [← Z.out.p5.pk.lo]; exact SM.out.o)).mono ?_)); rintro e wn ⟨r7, rfl, hp, hb⟩; replace Z := Lib.hid (Z.out.step hb); (try replace P1 := Lib.hid (P1.out.on hb)); (try replace P2 := Lib.hid (P2.out.keep (.of_below hb))); have P1 := Lib.hid hp; clear hb hp; dsimp only)
          | (go_at_call 9; (first | (with_reducible refine (psame_yes f.pkt q.pl r7 _ (H.out.on Z.out.bel).pk.pw P1.out SM.out).mono ?_) | (with_reducible refine (psame_yes f.pkt q.pl r7 _ (H.out.on Z.out.drew.bel).pk.pw P1.out SM.out).mono ?_)); rintro e wn ⟨rfl, hb⟩; replace Z := Lib.hid (Z.out.step hb); (try replace P1 := Lib.hid (P1.out.on hb)); (try replace P2 := Lib.hid (P2.out.keep (.of_below hb))); clear hb; dsimp only)
          | (go_at_call 12; (first | (with_reducible refine (tgto_v f.tags (nt3 - 1) _ _ _ (RS.out _ Z.out) NT2.out N31.out).mono ?_) | (with_reducible refine (tgto_v f.tags (nt3 - 1) _ _ _ (RS.out _ Z.out.drew) NT2.out N31.out).mono ?_)); rintro e wn ⟨A9, c9, rfl, hr, hb⟩; replace Z := Lib.hid (Z.out.step hb); (try replace P1 := Lib.hid (P1.out.on hb)); (try replace P2 := Lib.hid (P2.out.keep (.of_below hb))); have P2 := Lib.hid hr; clear hb hr; dsimp only)
          | (go_at_call 11; (first | (with_reducible refine (tgsame_v f.tags f.tags true (decide_eq_true rfl) q.nt (nt3 - 1) q.ct c9 q.at_ A9 _ _ _ (H.out.on Z.out.bel).rt P2.out OK1.out OK1.out H.out.lt NT2.out QA.out).mono ?_) | (with_reducible refine (tgsame_v f.tags f.tags true (decide_eq_true rfl) q.nt (nt3 - 1) q.ct c9 q.at_ A9 _ _ _ (H.out.on Z.out.drew.bel).rt P2.out OK1.out OK1.out H.out.lt NT2.out QA.out).mono ?_)); rintro e wn ⟨rfl, hb⟩; replace Z := Lib.hid (Z.out.step hb); (try replace P1 := Lib.hid (P1.out.on hb)); (try replace P2 := Lib.hid (P2.out.keep (.of_below hb))); clear hb; dsimp only))
        all_goals go_wp2_with fail
        all_goals
          go_ret
          exact ⟨rfl, Z.out.bel⟩

end Go.Proofs.Ytmhjnghomihjlaa
