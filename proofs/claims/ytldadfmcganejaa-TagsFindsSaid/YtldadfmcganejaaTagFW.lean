
/-
  TagsFinds' walk. No condition.
-/
import Derived.Test.YtldadfmcganejaaTagV
import Derived.Deep.CutRange
namespace Go.Proofs.Ytldadfmcganejaa
set_option maxRecDepth 4000
open Go.RowKit

theorem tg_setK (l : List Nat) (k x : Nat) : (bvs l).set k (.int .u8 (x : Int)) = bvs (l.set k x) := by simp [bvs, bv, List.map_set]
theorem tgfnd_none (t : Nat) (l : List (Nat × List Nat)) (n c : Nat) (A : Option Addr) (F : Nat → Prop) (w : World) (hr : Rws shG F w A l) (hl : l.length = n) (hn : n ≤ 274877906944) (hd : ∀ x ∈ l, x.2.length ≤ 274877906944) (h0 : l.find? (tgask t) = none) :
    Calls Try.prog 19 #[.slice A n c, .int .u16 (t : Int)] w fun e w' => e = .returned (.tuple #[.slice none 0 0, .bool false]) ∧ Below w.heap.size w w' :=
  (tgfind_any t l n c A F w hr hl hn hd).mono fun e w' hf => by
    rcases hf with ⟨-, h2, h3⟩ | ⟨o, _, _, h1, -⟩
    · exact ⟨h2, h3⟩
    · rw [h0] at h1; cases h1
theorem tgfnd_some (t : Nat) (l : List (Nat × List Nat)) (o : Nat × List Nat) (n c : Nat) (A : Option Addr) (F : Nat → Prop) (w : World) (hr : Rws shG F w A l) (hl : l.length = n) (hn : n ≤ 274877906944) (hd : ∀ x ∈ l, x.2.length ≤ 274877906944) (h0 : l.find? (tgask t) = some o) (k : Nat) (hk : o.2.length = k) :
    Calls Try.prog 19 #[.slice A n c, .int .u16 (t : Int)] w fun e w' => ∃ A' c', e = .returned (.tuple #[.slice A' k c', .bool true]) ∧ New w w' A' c' k o.2 :=
  (tgfind_any t l n c A F w hr hl hn hd).mono fun e w' hf => by
    rcases hf with ⟨h1, -⟩ | ⟨o', A', c', h1, h2, h3⟩
    · rw [h0] at h1; cases h1
    · rw [h0] at h1
      obtain rfl : o = o' := Option.some.inj h1
      rw [hk] at h2 h3
      exact ⟨A', c', h2, h3⟩

set_option maxHeartbeats 4000000 in
theorem tgq_early (a : List (Nat × List Nat)) (A0 : Option Addr) (n0 c0 : Nat) (t : Nat) (w : World) (hL0 : a.length = n0) (hn0 : n0 ≤ 140737488351232) (hO0 : ByG a) (hD0 : ∀ x ∈ a, x.2.length ≤ 140737488351232) (hR0 : Rws shG (fun _ => True) w A0 a) (h : ¬ (tgfew a = true)) :
    Calls Try.prog 6 #[.slice A0 n0 c0, .int .u16 (t : Int)] w fun e w' => e = .returned (.bool true) ∧ Below w.heap.size w w' := by
  have HR0 := Lib.hid hR0
  have HL0 := Lib.hid hL0
  have HD0 := Lib.hid hD0
  have HO0 := Lib.hid hO0
  clear hR0 hL0 hD0 hO0
  have B := Lib.hid (Below.refl w.heap.size w)
  have HF := Lib.hid (Bool.eq_false_iff.2 h)
  clear h
  go_enter Try.func6, Try.ntmps6
  go_wp2_with (first
    | (go_at_call 7; (with_reducible refine (speaks21 _).mono ?_); rintro e wn ⟨rfl, hb⟩; replace B := Lib.hid (B.out.trans (hb.mono B.out.size)); (try replace L := Lib.hid (L.out.below hb)); (try replace X := Lib.hid (X.out.on hb)); (try replace X2 := Lib.hid (X2.out.on hb)); (try replace Y := Lib.hid (Y.out.below hb)); (try replace Y2 := Lib.hid (Y2.out.below hb)); (try replace TT := Lib.hid (TT.out.below hb)); (try replace T2 := Lib.hid (T2.out.below hb)); (try replace Z := Lib.hid (Z.out.below hb)); clear hb)
    | (go_at_call 8; (with_reducible refine (tgfew_v a _ HF.out n0 c0 A0 _ _ (HR0.out.below B.out) HL0.out (by omega) HD0.out).mono ?_); rintro e wn ⟨rfl, hb⟩; replace B := Lib.hid (B.out.trans (hb.mono B.out.size)); (try replace L := Lib.hid (L.out.below hb)); (try replace X := Lib.hid (X.out.on hb)); (try replace X2 := Lib.hid (X2.out.on hb)); (try replace Y := Lib.hid (Y.out.below hb)); (try replace Y2 := Lib.hid (Y2.out.below hb)); (try replace TT := Lib.hid (TT.out.below hb)); (try replace T2 := Lib.hid (T2.out.below hb)); (try replace Z := Lib.hid (Z.out.below hb)); clear hb))
  go_ret
  exact ⟨rfl, B.out⟩

set_option linter.unusedVariables false in
set_option maxHeartbeats 20000000 in
theorem tgq_none (a : List (Nat × List Nat)) (A0 : Option Addr) (n0 c0 : Nat) (t : Nat) (w : World) (hL0 : a.length = n0) (hn0 : n0 ≤ 140737488351232) (hO0 : ByG a) (hD0 : ∀ x ∈ a, x.2.length ≤ 140737488351232) (hR0 : Rws shG (fun _ => True) w A0 a) (ht : t < 65536) (hf : tgfew a = true) (hN : a.find? (tgask t) = none) :
    Calls Try.prog 6 #[.slice A0 n0 c0, .int .u16 (t : Int)] w fun e w' => e = .returned (.bool true) ∧ Below w.heap.size w w' := by
  have HR0 := Lib.hid hR0
  have HL0 := Lib.hid hL0
  have HD0 := Lib.hid hD0
  have HO0 := Lib.hid hO0
  clear hR0 hL0 hD0 hO0
  have B := Lib.hid (Below.refl w.heap.size w)
  obtain ⟨q1, q2⟩ := tgfew_of hf
  rw [HL0.out] at q1
  have HF := Lib.hid hf
  have Q2 := Lib.hid q2
  clear hf q2
  have HM := Lib.hid (fun x hx => Nat.le_trans (tgdat_le hx) (Nat.le_trans Q2.out (by decide)) : ∀ x ∈ a, x.2.length ≤ 274877906944)
  have HN := Lib.hid hN
  clear hN
  go_enter Try.func6, Try.ntmps6
  go_wp2_with (first
    | (go_at_call 7; (with_reducible refine (speaks21 _).mono ?_); rintro e wn ⟨rfl, hb⟩; replace B := Lib.hid (B.out.trans (hb.mono B.out.size)); (try replace L := Lib.hid (L.out.below hb)); (try replace X := Lib.hid (X.out.on hb)); (try replace X2 := Lib.hid (X2.out.on hb)); (try replace Y := Lib.hid (Y.out.below hb)); (try replace Y2 := Lib.hid (Y2.out.below hb)); (try replace TT := Lib.hid (TT.out.below hb)); (try replace T2 := Lib.hid (T2.out.below hb)); (try replace Z := Lib.hid (Z.out.below hb)); clear hb)
    | (go_at_call 8; (with_reducible refine (tgfew_v a _ HF.out n0 c0 A0 _ _ (HR0.out.below B.out) HL0.out (by omega) HD0.out).mono ?_); rintro e wn ⟨rfl, hb⟩; replace B := Lib.hid (B.out.trans (hb.mono B.out.size)); (try replace L := Lib.hid (L.out.below hb)); (try replace X := Lib.hid (X.out.on hb)); (try replace X2 := Lib.hid (X2.out.on hb)); (try replace Y := Lib.hid (Y.out.below hb)); (try replace Y2 := Lib.hid (Y2.out.below hb)); (try replace TT := Lib.hid (TT.out.below hb)); (try replace T2 := Lib.hid (T2.out.below hb)); (try replace Z := Lib.hid (Z.out.below hb)); clear hb)
    | (go_at_call 10; (with_reducible refine (tgof_v a n0 c0 A0 _ (HR0.out.below B.out) HL0.out (by omega)).mono ?_); rintro e wn ⟨A3, c3, rfl, h3, hb⟩; replace B := Lib.hid (B.out.trans (hb.mono B.out.size)); (try replace L := Lib.hid (L.out.below hb)); (try replace X := Lib.hid (X.out.on hb)); (try replace X2 := Lib.hid (X2.out.on hb)); (try replace Y := Lib.hid (Y.out.below hb)); (try replace Y2 := Lib.hid (Y2.out.below hb)); (try replace TT := Lib.hid (TT.out.below hb)); (try replace T2 := Lib.hid (T2.out.below hb)); (try replace Z := Lib.hid (Z.out.below hb)); have L := Lib.hid h3; clear h3; clear hb)
    | (go_at_call 19; (with_reducible refine (tgfnd_none t a n0 _ _ _ _ L.out HL0.out (by omega) HM.out HN.out).mono ?_); rintro e wn ⟨rfl, hb⟩; replace B := Lib.hid (B.out.trans (hb.mono B.out.size)); (try replace L := Lib.hid (L.out.below hb)); (try replace X := Lib.hid (X.out.on hb)); (try replace X2 := Lib.hid (X2.out.on hb)); (try replace Y := Lib.hid (Y.out.below hb)); (try replace Y2 := Lib.hid (Y2.out.below hb)); (try replace TT := Lib.hid (TT.out.below hb)); (try replace T2 := Lib.hid (T2.out.below hb)); (try replace Z := Lib.hid (Z.out.below hb)); clear hb))
  obtain ⟨wl, hwl⟩ : ∃ wl, wl = wn := ⟨_, rfl⟩
  subst hwl
  have BL := Lib.hid B.out
  clear B
  clear L
  go_loopw [31] (fun i wr => ∃ k : Nat, k ≤ n0 ∧ i = .int .i64 k ∧ Hid ((a.take k).find? (tgask t) = none) ∧ Below wl.heap.size wl wr) (fun i _ => n0 - (intOf i).toNat)
  case atStart => exact ⟨0, Nat.zero_le _, rfl, Lib.hid (by simp), Below.refl _ _⟩
  case round =>
    obtain ⟨k, hk, rfl, hf, hbel⟩ := hrel
    have BR := Lib.hid (BL.out.trans (hbel.mono BL.out.size))
    by_cases hlt : k < n0
    · obtain ⟨bb, oo, x, A3, c3, rfl, hb3, hx, h3, h4, h5, h6⟩ := HR0.out.tag (k := k) (by rw [HL0.out]; exact hlt)
      replace h3 := (BR.out.cell (p := ⟨bb, oo + k * 2, none⟩) hb3).trans h3
      replace h4 := (BR.out.cell (p := ⟨bb, oo + k * 2 + 1, none⟩) hb3).trans h4
      have HX := Lib.hid hx
      have H6 := Lib.hid h6.rd
      have i1 : (0 : Int) ≤ k := by omega
      have i2 : (k : Int) < n0 := by omega
      have R2 := Lib.hid (hbel.alloc hbel.size (.cells #[.int .u16 (x.1 : Int), .slice A3 x.2.length c3] 48))
      clear hx h6
      obtain ⟨q, hq⟩ : ∃ q, Hid (tgask t x = q) := ⟨_, Lib.hid rfl⟩
      cases q
      · have hne : ¬ x.1 = t := by
          have := hq.out
          unfold tgask at this
          exact beq_eq_false_iff_ne.1 this
        have j1 : ((x.1 : Int) != (t : Int)) = true := by rw [bne_iff_ne]; omega
        have R := Lib.hid (tgfind_more hf.out HX.out hq.out)
        clear hne
        go_wp2_with fail
        go_roundw
        case rel => exact ⟨k + 1, by omega, by go_num, R, R2.out⟩
        case measure => simp [intOf]; omega
      · have e := tgfind_at hf.out HX.out hq.out
        rw [HN.out] at e
        cases e
    · have he : k = n0 := by omega
      subst he
      go_wp2_with fail
      go_ret
      exact ⟨rfl, BR.out⟩

set_option linter.unusedVariables false in
set_option maxHeartbeats 20000000 in
theorem tgq_some (a : List (Nat × List Nat)) (A0 : Option Addr) (n0 c0 : Nat) (t : Nat) (w : World) (hL0 : a.length = n0) (hn0 : n0 ≤ 140737488351232) (hO0 : ByG a) (hD0 : ∀ x ∈ a, x.2.length ≤ 140737488351232) (hR0 : Rws shG (fun _ => True) w A0 a) (ht : t < 65536) (hf : tgfew a = true) (o : Nat × List Nat) (hN : a.find? (tgask t) = some o) :
    Calls Try.prog 6 #[.slice A0 n0 c0, .int .u16 (t : Int)] w fun e w' => e = .returned (.bool true) ∧ Below w.heap.size w w' := by
  have HR0 := Lib.hid hR0
  have HL0 := Lib.hid hL0
  have HD0 := Lib.hid hD0
  have HO0 := Lib.hid hO0
  clear hR0 hL0 hD0 hO0
  have B := Lib.hid (Below.refl w.heap.size w)
  obtain ⟨q1, q2⟩ := tgfew_of hf
  rw [HL0.out] at q1
  have HF := Lib.hid hf
  have Q2 := Lib.hid q2
  clear hf q2
  have HM := Lib.hid (fun x hx => Nat.le_trans (tgdat_le hx) (Nat.le_trans Q2.out (by decide)) : ∀ x ∈ a, x.2.length ≤ 274877906944)
  have HN := Lib.hid hN
  obtain ⟨ko, hko⟩ : ∃ k, Hid (o.2.length = k) := ⟨_, Lib.hid rfl⟩
  have hko2 : ko ≤ 1000 := by rw [← hko.out]; exact Nat.le_trans (tgdat_le (List.mem_of_find?_eq_some hN)) Q2.out
  clear hN
  go_enter Try.func6, Try.ntmps6
  go_wp2_with (first
    | (go_at_call 7; (with_reducible refine (speaks21 _).mono ?_); rintro e wn ⟨rfl, hb⟩; replace B := Lib.hid (B.out.trans (hb.mono B.out.size)); (try replace L := Lib.hid (L.out.below hb)); (try replace X := Lib.hid (X.out.on hb)); (try replace X2 := Lib.hid (X2.out.on hb)); (try replace Y := Lib.hid (Y.out.below hb)); (try replace Y2 := Lib.hid (Y2.out.below hb)); (try replace TT := Lib.hid (TT.out.below hb)); (try replace T2 := Lib.hid (T2.out.below hb)); (try replace Z := Lib.hid (Z.out.below hb)); clear hb)
    | (go_at_call 8; (with_reducible refine (tgfew_v a _ HF.out n0 c0 A0 _ _ (HR0.out.below B.out) HL0.out (by omega) HD0.out).mono ?_); rintro e wn ⟨rfl, hb⟩; replace B := Lib.hid (B.out.trans (hb.mono B.out.size)); (try replace L := Lib.hid (L.out.below hb)); (try replace X := Lib.hid (X.out.on hb)); (try replace X2 := Lib.hid (X2.out.on hb)); (try replace Y := Lib.hid (Y.out.below hb)); (try replace Y2 := Lib.hid (Y2.out.below hb)); (try replace TT := Lib.hid (TT.out.below hb)); (try replace T2 := Lib.hid (T2.out.below hb)); (try replace Z := Lib.hid (Z.out.below hb)); clear hb)
    | (go_at_call 10; (with_reducible refine (tgof_v a n0 c0 A0 _ (HR0.out.below B.out) HL0.out (by omega)).mono ?_); rintro e wn ⟨A3, c3, rfl, h3, hb⟩; replace B := Lib.hid (B.out.trans (hb.mono B.out.size)); (try replace L := Lib.hid (L.out.below hb)); (try replace X := Lib.hid (X.out.on hb)); (try replace X2 := Lib.hid (X2.out.on hb)); (try replace Y := Lib.hid (Y.out.below hb)); (try replace Y2 := Lib.hid (Y2.out.below hb)); (try replace TT := Lib.hid (TT.out.below hb)); (try replace T2 := Lib.hid (T2.out.below hb)); (try replace Z := Lib.hid (Z.out.below hb)); have L := Lib.hid h3; clear h3; clear hb)
    | (go_at_call 19; (with_reducible refine (tgfnd_some t a o n0 _ _ _ _ L.out HL0.out (by omega) HM.out HN.out ko hko.out).mono ?_); rintro e wn ⟨A11, c11, rfl, h11⟩; have QG := Lib.hid (fun g hg => (h11.2.1.lt g hg).1 : ∀ g, (Value.slice A11 ko c11).ownBlock = some g → _ ≤ g); have LQ := Lib.hid L.out.there; replace L := Lib.hid (LQ.out.below h11.2.2.2); have OD := Lib.hid (own_lo h11.2.1 B.out.size); have XD := Lib.hid h11.2.2.1; replace B := Lib.hid (B.out.trans (h11.2.2.2.mono B.out.size)); clear h11 LQ))
  obtain ⟨wl, hwl⟩ : ∃ wl, wl = wn := ⟨_, rfl⟩
  subst hwl
  have BL := Lib.hid B.out
  clear B
  have LL := Lib.hid L.out
  have ODL := Lib.hid OD.out
  have XDL := Lib.hid XD.out
  clear L OD XD
  go_loopw [31] (fun i wr => ∃ k : Nat, k ≤ n0 ∧ i = .int .i64 k ∧ Hid ((a.take k).find? (tgask t) = none) ∧ Below wl.heap.size wl wr) (fun i _ => n0 - (intOf i).toNat)
  case atStart => exact ⟨0, Nat.zero_le _, rfl, Lib.hid (by simp), Below.refl _ _⟩
  case round =>
    obtain ⟨k, hk, rfl, hf, hbel⟩ := hrel
    have BR := Lib.hid (BL.out.trans (hbel.mono BL.out.size))
    by_cases hlt : k < n0
    · obtain ⟨bb, oo, x, A3, c3, rfl, hb3, hx, h3, h4, h5, h6⟩ := HR0.out.tag (k := k) (by rw [HL0.out]; exact hlt)
      replace h3 := (BR.out.cell (p := ⟨bb, oo + k * 2, none⟩) hb3).trans h3
      replace h4 := (BR.out.cell (p := ⟨bb, oo + k * 2 + 1, none⟩) hb3).trans h4
      have HX := Lib.hid hx
      have H6 := Lib.hid h6.rd
      have i1 : (0 : Int) ≤ k := by omega
      have i2 : (k : Int) < n0 := by omega
      have R2 := Lib.hid (hbel.alloc hbel.size (.cells #[.int .u16 (x.1 : Int), .slice A3 x.2.length c3] 48))
      clear hx h6
      obtain ⟨q, hq⟩ : ∃ q, Hid (tgask t x = q) := ⟨_, Lib.hid rfl⟩
      cases q
      · have hne : ¬ x.1 = t := by
          have := hq.out
          unfold tgask at this
          exact beq_eq_false_iff_ne.1 this
        have j1 : ((x.1 : Int) != (t : Int)) = true := by rw [bne_iff_ne]; omega
        have R := Lib.hid (tgfind_more hf.out HX.out hq.out)
        clear hne
        go_wp2_with fail
        go_roundw
        case rel => exact ⟨k + 1, by omega, by go_num, R, R2.out⟩
        case measure => simp [intOf]; omega
      · have e := tgfind_at hf.out HX.out hq.out
        rw [HN.out] at e
        obtain rfl : o = x := Option.some.inj e
        have hne : o.1 = t := by
          have := hq.out
          unfold tgask at this
          exact beq_iff_eq.1 this
        have j1 : ((o.1 : Int) != (t : Int)) = false := by rw [hne]; simp
        have HK2 := Lib.hid (hko.out)
        rw [hko.out] at h4 h5
        clear R2
        have L := Lib.hid (LL.out.below hbel)
        have OD := Lib.hid (own_below ODL.out hbel)
        have B := Lib.hid BR.out
        have X := Lib.hid (XDL.out.on hbel)
        have LS := Lib.hid hbel.size
        obtain ⟨wk, hwk⟩ : ∃ wk, wk = wr.alloc (.cells #[.int .u16 (o.1 : Int), .slice A3 ko c3] 48) := ⟨_, rfl⟩
        have hbk : Below wr.heap.size wr wk := by rw [hwk]; exact (Below.refl _ _).alloc (Nat.le_refl _) _
        obtain ⟨qq, hqq⟩ : ∃ q, Hid (wr.heap.size = q) := ⟨_, Lib.hid rfl⟩
        have QL := Lib.hid (fun g hg => by (have h7 := (ODL.out.lt g hg).2; have h8 := LS.out; have h9 := hqq.out; omega) : ∀ g, (Value.slice A11 ko c11).ownBlock = some g → g < qq)
        have HC := Lib.hid (show wk.cell? ⟨qq, 1, none⟩ = some (.slice A3 ko c3) by rw [hwk, ← hqq.out]; exact cell_of_row _ _ _ _ _ _ (heap_alloc_new wr _))
        have HQ := Lib.hid (show qq < wk.heap.size by rw [hwk, World.size_alloc, hqq.out]; omega)
        have HW := Lib.hid hwk
        replace L := Lib.hid (L.out.below hbk)
        replace OD := Lib.hid (own_below OD.out hbk)
        replace B := Lib.hid (B.out.trans (hbk.mono B.out.size))
        replace X := Lib.hid (X.out.on hbk)
        have j2 : (ko : Int) ≤ (c3 : Int) := by omega
        clear e hne hwk hbk hbel
        go_upto_region 9 with fail
        rw [← HW.out, hqq.out]
        have hc2 := HC.out
        go_wp2_with (first
          | (go_at_call 14; have _g := HQ; clear _g; (with_reducible refine (equal_yes o.2 o.2 ko ko _ _ _ _ _ X.out (H6.out.on B.out) hko.out hko.out (by omega) rfl).mono ?_); rintro e wn ⟨rfl, hb⟩; replace HC := Lib.hid ((hb.cell (p := ⟨qq, 1, none⟩) HQ.out).trans HC.out); replace HQ := Lib.hid (Nat.lt_of_lt_of_le HQ.out hb.size); replace L := Lib.hid (L.out.below hb); replace OD := Lib.hid (own_below OD.out hb); replace B := Lib.hid (B.out.trans (hb.mono B.out.size)); clear X hb hc2))
        obtain ⟨wm, hwm⟩ : ∃ wm, wm = wn := ⟨_, rfl⟩
        subst hwm
        have BM := Lib.hid B.out
        have LM := Lib.hid L.out
        have ODM := Lib.hid OD.out
        clear L OD B
        go_loopw [50] (fun i wv => ∃ (k : Nat) (m : List Nat), k ≤ ko ∧ i = .int .i64 k ∧ Hid (m.length = ko) ∧ wv.ownsRow w.heap.size 5 1 (.slice A11 ko c11) ko (bvs m) ∧ Offs (fun g => (Value.slice A11 ko c11).ownBlock = some g) wm wv) (fun i _ => ko - (intOf i).toNat)
        case atStart => exact ⟨0, o.2, Nat.zero_le _, rfl, Lib.hid hko.out, ODM.out, Offs.refl _ _⟩
        case round =>
          obtain ⟨i, m, hi, rfl, hml, hown, hoff⟩ := hrel
          by_cases hlt2 : i < ko
          · obtain ⟨g, rfl⟩ : ∃ g, A11 = some ⟨g, 0, none⟩ := by
              obtain ⟨g, cap, e⟩ := own_some hown (by omega)
              injection e with e1
              exact ⟨g, e1⟩
            have i3 : (0 : Int) ≤ i := by omega
            have i4 : (i : Int) < ko := by omega
            obtain ⟨x, hx⟩ : ∃ x, m[i]? = some x := ⟨_, List.getElem?_eq_getElem (by rw [hml.out]; exact hlt2)⟩
            have hst := hown.stored i (.int .u8 (((x + 1) % 256 : Nat) : Int))
            rw [tg_setK, show (((x + 1) % 256 : Nat) : Int) = ((x : Int) + 1) % 256 by omega] at hst
            have HS := Lib.hid hst.1
            have HSL := Lib.hid (show (m.set i ((x + 1) % 256)).length = ko by rw [List.length_set]; exact hml.out)
            have hc0 := hown.cellAt i (by omega)
            have hf0 := hown.frozenAt i
            rw [bvs_get _ _ _ hx] at hc0
            have HO2 := Lib.hid hoff
            clear hst hx hown hoff
            go_wp2_with fail
            go_roundw
            case rel => exact ⟨i + 1, m.set i ((x + 1) % 256), by omega, by go_num, HSL, HS.out, HO2.out.trans (Offs.set (X := fun j => (Value.slice (some ⟨g, 0, none⟩) ko c11).ownBlock = some j) _ g i _ rfl) (fun _ h => h) (fun _ _ h => h)⟩
            case measure => simp [intOf]; omega
          · have he : i = ko := by omega
            subst he
            have B := Lib.hid (BM.out.trans (hoff.below (fun j hj e => absurd (hown.lt j e).1 (Nat.not_le.2 hj)) BM.out.size))
            have L := Lib.hid ((LM.out.keep (.of_offs hoff (fun j hj e => absurd (QG.out j e) (Nat.not_le.2 hj)))).mono (G := fun _ => True) (fun _ _ _ => trivial))
            have KQ := Keeps.of_offs hoff (F := fun b => b = qq) (fun b hb e => absurd (QL.out b e) (by rw [hb]; exact Nat.lt_irrefl _))
            have hc1 := (KQ.cell HQ.out rfl 1).trans HC.out
            replace HQ := Lib.hid (Nat.lt_of_lt_of_le HQ.out KQ.size)
            replace HC := Lib.hid hc1
            clear hown hoff hml BM LM ODM QG KQ
            go_wp2_with (first
              | (go_at_call 19; (with_reducible refine (tgfnd_some t a o n0 _ _ _ _ L.out HL0.out (by omega) HM.out HN.out _ hko.out).mono ?_); rintro e wn ⟨A12, c12, rfl, h12⟩; have hb := h12.2.2.2; have X := Lib.hid h12.2.2.1; replace HC := Lib.hid ((hb.cell (p := ⟨qq, 1, none⟩) HQ.out).trans HC.out); have hc2 := HC.out; replace L := Lib.hid (L.out.below hb); replace B := Lib.hid (B.out.trans (hb.mono B.out.size)); clear h12 hb hc1)
              | (go_at_call 14; (with_reducible refine (equal_yes o.2 o.2 _ _ _ _ _ _ _ X.out (H6.out.on B.out) hko.out hko.out (by omega) rfl).mono ?_); rintro e wn ⟨rfl, hb⟩; replace L := Lib.hid (L.out.below hb); replace B := Lib.hid (B.out.trans (hb.mono B.out.size)); clear X hb)
              | (go_at_call 16; (with_reducible refine (tgto_v a n0 _ _ _ L.out HL0.out (by omega)).mono ?_); rintro e wn ⟨A13, c13, rfl, h13, hb⟩; replace B := Lib.hid (B.out.trans (hb.mono B.out.size)); have TT := Lib.hid h13; clear h13 hb)
              | (go_at_call 15; (with_reducible refine (tgsame_v a a _ (decide_eq_true rfl) n0 n0 _ _ _ _ _ _ _ TT.out (HR0.out.below B.out) HO0.out HO0.out HL0.out HL0.out (by omega)).mono ?_); rintro e wn ⟨rfl, hb⟩; replace B := Lib.hid (B.out.trans (hb.mono B.out.size)); clear hb))
            go_ret
            exact ⟨rfl, B.out⟩
    · have he : k = n0 := by omega
      have e := hf.out
      rw [he, List.take_of_length_le (by rw [HL0.out]; exact Nat.le_refl _), HN.out] at e
      cases e

theorem tgq_walk (a : List (Nat × List Nat)) (A0 : Option Addr) (n0 c0 : Nat) (t : Nat) (w : World) (hL0 : a.length = n0) (hn0 : n0 ≤ 140737488351232) (hO0 : ByG a) (hD0 : ∀ x ∈ a, x.2.length ≤ 140737488351232) (hR0 : Rws shG (fun _ => True) w A0 a) (ht : t < 65536) (hf : tgfew a = true) :
    Calls Try.prog 6 #[.slice A0 n0 c0, .int .u16 (t : Int)] w fun e w' => e = .returned (.bool true) ∧ Below w.heap.size w w' := by
  cases hN : a.find? (tgask t) with
  | none => exact tgq_none a A0 n0 c0 t w hL0 hn0 hO0 hD0 hR0 ht hf hN
  | some o => exact tgq_some a A0 n0 c0 t w hL0 hn0 hO0 hD0 hR0 ht hf o hN
end Go.Proofs.Ytldadfmcganejaa
