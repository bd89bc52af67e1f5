
/-
  OptsTell's walk. No condition.
-/
import Derived.Test.YtmilbkhkefbjkaaOpsBW
import Derived.Deep.CutRange
import Derived.Deep.RegionHeld3
namespace Go.Proofs.Ytmilbkhkefbjkaa
open Go.RowKit

theorem dat_each' {l : List (Nat × List Nat)} {m : Nat} (h : datB l ≤ m) (hm : m ≤ 274877906944) : ∀ o ∈ l, o.2.length ≤ 274877906944 := fun o ho => by
  obtain ⟨i, hi⟩ := List.mem_iff_getElem?.1 ho
  exact Nat.le_trans (Nat.le_trans (dat_le hi) h) hm
theorem getO_len {p : Nat} {b : List Nat} {l : List (Nat × List Nat)} {k : Nat} (h : getO p b = (l, k)) (hb : By b) : 2 * l.length + datB l ≤ b.length := by
  by_cases hk : k = 0
  · subst hk
    exact (getO_ok h hb).2.2.2.2
  · rw [getO_err h hk]
    simp [datB]
theorem putO_le {p : Nat} {a : List (Nat × List Nat)} {m : List Nat} {e : Nat} (h : putO p a = (m, e)) (h1 : a.length ≤ 60) (h2 : datB a ≤ 1000) : m.length ≤ 1120 := by
  unfold putO at h
  split at h
  · obtain ⟨rfl, -⟩ := Prod.mk.inj h
    rw [put_len]
    omega
  · obtain ⟨rfl, -⟩ := Prod.mk.inj h
    simp

/-- One option of a row, a row of its own. -/
theorem Rws.cut {F : Nat → Prop} {w : World} {b o : Nat} {l : List (Nat × List Nat)} {k : Nat} {x : Nat × List Nat} (h : Rws shO F w (some ⟨b, o, none⟩) l) (hx : l[k]? = some x) : Rws shO F w (some ⟨b, o + k * 2, none⟩) [x] := by
  obtain ⟨b', off, e, hb, hF, hc⟩ := h (by have := (List.getElem?_eq_some_iff.1 hx).1; omega)
  injection e with e
  injection e with e1 e2
  subst e1; subst e2
  obtain ⟨cs, h1, h2⟩ := hc k x hx
  refine fun _ => ⟨b, o + k * 2, rfl, hb, hF, fun i y hi => ?_⟩
  match i, hi with
  | 0, hi =>
    injection hi with hi
    subst hi
    refine ⟨cs, h1, fun j u hj => ?_⟩
    have := h2 j u hj
    rw [show o + k * 2 + (0 * shO.sz + j) = o + (k * shO.sz + j) by show o + k * 2 + (0 * 2 + j) = o + (k * 2 + j); omega]
    exact this
  | i + 1, hi => simp at hi
theorem okL_one {T : Tab} {x : Nat × List Nat} {q : Bool} (h : okO T x = q) : okL T [x] = q := by unfold okL; simp [h]

/-- What a round knows of the world it stands in: its option, and the one of the list. -/
structure TeC (w W : World) (g b o : Nat) (t : Nat) (A B : Option Addr) (n c d : Nat) : Prop where
  bel : Below w.heap.size w W
  box : W.heap[g]? = some (.cells #[.int .u8 (t : Int), .slice A n c] 33 (0, 0))
  lt : b < W.heap.size
  e0 : W.cell? ⟨b, o, none⟩ = some (.int .u8 (t : Int))
  e1 : W.cell? ⟨b, o + 1, none⟩ = some (.slice B n d)
section
variable {w W X W' : World} {g b o : Nat} {t : Nat} {A B : Option Addr} {n c d : Nat}
theorem TeC.cells (h : TeC w W g b o t A B n c d) : W.cell? ⟨g, 0, none⟩ = some (.int .u8 (t : Int)) ∧ W.cell? ⟨g, 1, none⟩ = some (.slice A n c) ∧ W.cell? ⟨b, o, none⟩ = some (.int .u8 (t : Int)) ∧ W.cell? ⟨b, o + 1, none⟩ = some (.slice B n d) :=
  ⟨by rw [cell_of_row W _ 0 _ _ _ h.box]; rfl, by rw [cell_of_row W _ 1 _ _ _ h.box]; rfl, h.e0, h.e1⟩
theorem TeC.step (h : TeC w W g b o t A B n c d) (hb : Below X.heap.size X W') (hX : Below W.heap.size W X := by first | exact Below.refl _ _ | exact (Below.refl _ _).drew) : TeC w W' g b o t A B n c d :=
  have hh := hX.trans (hb.mono hX.size)
  ⟨h.bel.trans (hh.mono h.bel.size), (hh.block g (Array.getElem?_eq_some_iff.1 h.box).1).trans h.box, Nat.lt_of_lt_of_le h.lt hh.size, (hh.cell (p := ⟨b, o, none⟩) h.lt).trans h.e0, (hh.cell (p := ⟨b, o + 1, none⟩) h.lt).trans h.e1⟩
theorem TeC.drew (h : TeC w W g b o t A B n c d) : TeC w W.drew g b o t A B n c d := h.step (X := W) (Below.refl _ _).drew
end

set_option maxHeartbeats 2000000 in
theorem tell_early (p t : Int) (a : List (Nat × List Nat)) (A0 : Option Addr) (n0 c0 : Nat) (A1 : Option Addr) (n1 c1 : Nat) (w : World) (hL0 : a.length = n0) (hn0 : n0 ≤ 140737488351232) (hD0 : ∀ x ∈ a, x.2.length ≤ 140737488351232) (hR0 : Rws shO (fun _ => True) w A0 a) (h : ¬ (fewB a = true ∧ n1 ≤ 1000)) :
    Calls Try.prog 3 #[.int .u16 p, .slice A0 n0 c0, .slice A1 n1 c1, .int .u8 t] w fun e w' => e = .returned (.bool true) ∧ Below w.heap.size w w' := by
  have HR0 := Lib.hid hR0
  have HL0 := Lib.hid hL0
  have HD0 := Lib.hid hD0
  clear hR0 hL0 hD0
  have B := Lib.hid (Below.refl w.heap.size w)
  cases hf : fewB a
  · have HF := Lib.hid hf
    clear hf h
    go_enter Try.func3, Try.ntmps3
    go_wp2_with (first
      | (go_at_call 8; (with_reducible refine (speaks14 _).mono ?_); rintro e wn ⟨rfl, hb⟩; replace B := Lib.hid (B.out.trans (hb.mono B.out.size)); clear hb)
      | (go_at_call 9; (with_reducible refine (few_v a _ HF.out n0 c0 A0 _ _ (HR0.out.below B.out) HL0.out (by omega) HD0.out).mono ?_); rintro e wn ⟨rfl, hb⟩; replace B := Lib.hid (B.out.trans (hb.mono B.out.size)); clear hb))
    go_ret
    exact ⟨rfl, B.out⟩
  · have j1 : (1000 : Int) < (n1 : Int) := by
      have : ¬ n1 ≤ 1000 := fun h1 => h ⟨hf, h1⟩
      omega
    have HF := Lib.hid hf
    clear hf h
    go_enter Try.func3, Try.ntmps3
    go_wp2_with (first
      | (go_at_call 8; (with_reducible refine (speaks14 _).mono ?_); rintro e wn ⟨rfl, hb⟩; replace B := Lib.hid (B.out.trans (hb.mono B.out.size)); clear hb)
      | (go_at_call 9; (with_reducible refine (few_v a _ HF.out n0 c0 A0 _ _ (HR0.out.below B.out) HL0.out (by omega) HD0.out).mono ?_); rintro e wn ⟨rfl, hb⟩; replace B := Lib.hid (B.out.trans (hb.mono B.out.size)); clear hb))
    go_ret
    exact ⟨rfl, B.out⟩

set_option maxHeartbeats 40000000 in
theorem tell_walk (p : Nat) (hp : p < 65536) (a : List (Nat × List Nat)) (A0 : Option Addr) (n0 c0 : Nat) (b : List Nat) (A1 : Option Addr) (n1 c1 : Nat) (t : Nat) (ht : t < 256) (w : World) (hL0 : a.length = n0) (hc0 : n0 ≤ c0) (hn0 : n0 ≤ 140737488351232) (hO0 : ByO a) (hD0 : ∀ x ∈ a, x.2.length ≤ 140737488351232) (hR0 : Rws shO (fun _ => True) w A0 a) (hL1 : b.length = n1) (hc1 : n1 ≤ c1) (hB1 : By b) (hR1 : Rd w w.heap.size A1 b) (hf : fewB a = true) (h1 : n1 ≤ 1000) :
    Calls Try.prog 3 #[.int .u16 (p : Int), .slice A0 n0 c0, .slice A1 n1 c1, .int .u8 (t : Int)] w fun e w' => e = .returned (.bool true) ∧ Below w.heap.size w w' := by
  have HR0 := Lib.hid hR0
  have HL0 := Lib.hid hL0
  have HD0 := Lib.hid hD0
  have HO0 := Lib.hid hO0
  clear hR0 hL0 hD0 hO0
  have B := Lib.hid (Below.refl w.heap.size w)
  have HR1 := Lib.hid hR1
  have HL1 := Lib.hid hL1
  have HB1 := Lib.hid hB1
  clear hR1 hL1 hB1
  obtain ⟨q1, q2⟩ := few_of hf
  rw [HL0.out] at q1
  have HF := Lib.hid hf
  have j1 : ¬ (1000 : Int) < (n1 : Int) := by omega
  have Q2 := Lib.hid q2
  have HE0 := Lib.hid (dat_each' q2 (by decide))
  obtain ⟨u, v, hs⟩ : ∃ u v, Hid (spanB (tabB p) t = (u, v)) := ⟨_, _, Lib.hid rfl⟩
  obtain ⟨l2, kk, hg⟩ : ∃ l2 kk, getO p b = (l2, kk) := ⟨_, _, rfl⟩
  have HG := Lib.hid hg
  obtain ⟨n2, hn2⟩ : ∃ n2, Hid (l2.length = n2) := ⟨_, Lib.hid rfl⟩
  have hS := getO_len hg HB1.out
  rw [HL1.out] at hS
  have s2 : n2 ≤ 500 := by rw [← hn2.out]; omega
  have S2 := Lib.hid (show datB l2 ≤ 1000 by omega)
  obtain ⟨m0, e0, hm0⟩ : ∃ m0 e0, Hid (putO p a = (m0, e0)) := ⟨_, _, Lib.hid rfl⟩
  obtain ⟨k0, hk0⟩ : ∃ k0, Hid (m0.length = k0) := ⟨_, Lib.hid rfl⟩
  have sk : k0 ≤ 1120 := by rw [← hk0.out]; exact putO_le hm0.out (by rw [HL0.out]; exact q1) q2
  clear hf q2 hg hS
  go_enter Try.func3, Try.ntmps3
  go_wp2_with (first
    | (go_at_call 8; (with_reducible refine (speaks14 _).mono ?_); rintro e wn ⟨rfl, hb⟩; replace B := Lib.hid (B.out.trans (hb.mono B.out.size)); clear hb)
    | (go_at_call 9; (with_reducible refine (few_v a _ HF.out n0 c0 A0 _ _ (HR0.out.below B.out) HL0.out (by omega) HD0.out).mono ?_); rintro e wn ⟨rfl, hb⟩; replace B := Lib.hid (B.out.trans (hb.mono B.out.size)); clear hb)
    | (go_at_call 10; (with_reducible refine (size_span p t ht _ u v hs.out).mono ?_); rintro e wn ⟨rfl, hb⟩; replace B := Lib.hid (B.out.trans (hb.mono B.out.size)); clear hb)
    | (go_at_call 11; (with_reducible refine (rsize_any p t u v hs.out _).mono ?_); rintro e wn ⟨rfl, rfl⟩)
    | (go_at_call 12; (with_reducible refine (oof_v a n0 c0 A0 _ (HR0.out.below B.out) HL0.out (by omega)).mono ?_); rintro e wn ⟨A3, c3, rfl, h3, hb⟩; replace B := Lib.hid (B.out.trans (hb.mono B.out.size)); (try replace L := Lib.hid (L.out.below hb)); (try replace X := Lib.hid (X.out.on hb)); (try replace X2 := Lib.hid (X2.out.on hb)); (try replace Y := Lib.hid (Y.out.below hb)); (try replace Y2 := Lib.hid (Y2.out.below hb)); (try replace TT := Lib.hid (TT.out.below hb)); have L := Lib.hid h3; clear h3; clear hb))
  obtain ⟨w7, hw7⟩ : ∃ w7, w7 = wn := ⟨_, rfl⟩
  subst hw7
  go_loopw [60] (fun i wr => ∃ k : Nat, k ≤ n0 ∧ i = .int .i64 k ∧ Hid (Below w7.heap.size w7 wr)) (fun i _ => n0 - (intOf i).toNat)
  case atStart => exact ⟨0, Nat.zero_le _, rfl, Lib.hid (Below.refl _ _)⟩
  case round =>
    obtain ⟨k, hk, rfl, BW⟩ := hrel
    by_cases hlt : k < n0
    · obtain ⟨g, og, x, A5, c5, rfl, hbg, hx, h3, h4, h5, h6⟩ := (L.out.below BW.out).opt (k := k) (by rw [HL0.out]; exact hlt)
      obtain ⟨gr, org, x', A6, c6, rfl, hbr, hx', g3, g4, g5, g6⟩ := (HR0.out.below (B.out.trans (BW.out.mono B.out.size))).opt (k := k) (by rw [HL0.out]; exact hlt)
      obtain rfl : x = x' := Option.some.inj (hx.symm.trans hx')
      have hxo := HO0.out x (List.mem_of_getElem? hx)
      have hxd := HE0.out x (List.mem_of_getElem? hx)
      have i1 : (0 : Int) ≤ k := by omega
      have i2 : (k : Int) < n0 := by omega
      have i3 : (k : Int) + 1 ≤ c0 := by omega
      have i4 : ¬ c0 = k := by omega
      have i5 : IntKind.i64.wrap ((k : Int) + 1) = (k : Int) + 1 := IntWalk.i64_in _ (by omega)
      have i8 : IntKind.i64.wrap (p : Int) = (p : Int) := IntWalk.i64_in _ (by omega)
      have i6 : (k : Int) ≤ (k : Int) + 1 := by omega
      have i7 : (0 : Int) ≤ (k : Int) + 1 := by omega
      obtain ⟨q, hq⟩ : ∃ q, Hid (okO (tabB p) x = q) := ⟨_, Lib.hid rfl⟩
      obtain ⟨z, hz⟩ : ∃ z, Hid (valB x.2 = z) := ⟨_, Lib.hid rfl⟩
      have RC := Lib.hid ((HR0.out.below (B.out.trans (BW.out.mono B.out.size))).cut hx)
      have D5 := Lib.hid h6.rd
      have D6 := Lib.hid g6.rd
      have ba := (Below.refl wr.heap.size wr).alloc (Nat.le_refl _) (.cells #[.int .u8 (x.1 : Int), .slice A5 x.2.length c5] 33)
      have C := Lib.hid (show TeC wr (wr.alloc (.cells #[.int .u8 (x.1 : Int), .slice A5 x.2.length c5] 33)) wr.heap.size gr (org + k * 2) x.1 A5 A6 x.2.length c5 c6 from ⟨ba, heap_alloc_new wr _, Nat.lt_of_lt_of_le hbr ba.size, (ba.cell (p := ⟨gr, org + k * 2, none⟩) hbr).trans g3, (ba.cell (p := ⟨gr, org + k * 2 + 1, none⟩) hbr).trans g4⟩)
      have hqq : (q != q) = false := by cases q <;> rfl
      clear hx hx' h6 g6 ba
      go_wp2_with fail
      go_region_held3 (fun W => W.cell? ⟨wr.heap.size, 0, none⟩ = some (.int .u8 (x.1 : Int)) ∧ W.cell? ⟨wr.heap.size, 1, none⟩ = some (.slice A5 x.2.length c5) ∧ W.cell? ⟨gr, org + k * 2, none⟩ = some (.int .u8 (x.1 : Int)) ∧ W.cell? ⟨gr, org + k * 2 + 1, none⟩ = some (.slice A6 x.2.length c6)) (first | (with_reducible exact C.out.cells) | (with_reducible exact C.out.drew.cells)) (first
        | (go_at_call 13; (with_reducible refine (right_any p x hxo.1 x.2.length c5 A5 _ rfl q hq.out).mono ?_); rintro e wn ⟨rfl, hb⟩; replace C := Lib.hid (C.out.step hb); clear hb; dsimp only)
        | (go_at_call 14; (with_reducible refine (rright_any p [x] 1 _ _ _ _ (RC.out.below C.out.bel) rfl (by omega) q (okL_one hq.out)).mono ?_); rintro e wn ⟨rfl, hb⟩; replace C := Lib.hid (C.out.step hb); clear hb; dsimp only)
        | (go_at_call 15; (with_reducible refine (value_any _ x.2 x.2.length c5 A5 _ (D5.out.on C.out.bel) hxo.2 rfl hxd z hz.out).mono ?_); rintro e wn ⟨rfl, hb⟩; replace C := Lib.hid (C.out.step hb); clear hb; dsimp only)
        | (go_at_call 16; (with_reducible refine (rvalue_any _ x.2 x.2.length c6 A6 _ (D6.out.on C.out.bel) hxo.2 rfl hxd z hz.out).mono ?_); rintro e wn ⟨rfl, hb⟩; replace C := Lib.hid (C.out.step hb); clear hb; dsimp only))
      all_goals go_wp2_with fail
      go_roundw
      case rel => exact ⟨k + 1, by omega, by go_num, Lib.hid (BW.out.trans (C.out.bel.mono BW.out.size))⟩
      case measure => simp [intOf]; omega
    · have he : n0 = k := by omega
      subst he
      replace B := Lib.hid (B.out.trans (BW.out.mono B.out.size))
      clear BW L
      go_wp2_with (first
        | (go_at_call 12; (with_reducible refine (oof_v a n0 c0 A0 _ (HR0.out.below B.out) HL0.out (by omega)).mono ?_); rintro e wn ⟨A3, c3, rfl, h3, hb⟩; replace B := Lib.hid (B.out.trans (hb.mono B.out.size)); (try replace L := Lib.hid (L.out.below hb)); (try replace X := Lib.hid (X.out.on hb)); (try replace X2 := Lib.hid (X2.out.on hb)); (try replace Y := Lib.hid (Y.out.below hb)); (try replace Y2 := Lib.hid (Y2.out.below hb)); (try replace TT := Lib.hid (TT.out.below hb)); have L := Lib.hid h3; clear h3; clear hb)
        | (go_at_call 17; (with_reducible refine (pput_any p a m0 e0 hm0.out k0 hk0.out n0 _ _ _ _ L.out HO0.out HL0.out (by omega) (Nat.le_trans Q2.out (by decide))).mono ?_); rintro e wn ⟨A4, c4, rfl, h4, h4c, hb⟩; replace B := Lib.hid (B.out.trans (hb.mono B.out.size)); (try replace L := Lib.hid (L.out.below hb)); (try replace X := Lib.hid (X.out.on hb)); (try replace X2 := Lib.hid (X2.out.on hb)); (try replace Y := Lib.hid (Y.out.below hb)); (try replace Y2 := Lib.hid (Y2.out.below hb)); (try replace TT := Lib.hid (TT.out.below hb)); have X := Lib.hid h4; clear h4 h4c L; clear hb)
        | (go_at_call 18; (with_reducible refine (prput_any p a m0 e0 hm0.out k0 hk0.out n0 _ _ _ _ (HR0.out.below B.out) HL0.out (by omega) (Nat.le_trans Q2.out (by decide))).mono ?_); rintro e wn ⟨A5, c5, rfl, h5, h5c, hb⟩; replace B := Lib.hid (B.out.trans (hb.mono B.out.size)); (try replace L := Lib.hid (L.out.below hb)); (try replace X := Lib.hid (X.out.on hb)); (try replace X2 := Lib.hid (X2.out.on hb)); (try replace Y := Lib.hid (Y.out.below hb)); (try replace Y2 := Lib.hid (Y2.out.below hb)); (try replace TT := Lib.hid (TT.out.below hb)); have X2 := Lib.hid h5; clear h5 h5c; clear hb)
        | (go_at_call 19; (with_reducible refine (pget_any p b l2 kk HG.out n2 hn2.out n1 _ _ _ (HR1.out.on B.out) HB1.out HL1.out (by omega) hc1).mono ?_); rintro e wn ⟨A7, c7, rfl, h7, hb⟩; replace B := Lib.hid (B.out.trans (hb.mono B.out.size)); (try replace L := Lib.hid (L.out.below hb)); (try replace X := Lib.hid (X.out.on hb)); (try replace X2 := Lib.hid (X2.out.on hb)); (try replace Y := Lib.hid (Y.out.below hb)); (try replace Y2 := Lib.hid (Y2.out.below hb)); (try replace TT := Lib.hid (TT.out.below hb)); have Y := Lib.hid h7; clear h7; clear hb)
        | (go_at_call 20; (with_reducible refine (prget_any p b l2 kk HG.out n2 hn2.out n1 _ _ _ (HR1.out.on B.out) HB1.out HL1.out (by omega) hc1).mono ?_); rintro e wn ⟨A8, c8, rfl, h8, hb⟩; replace B := Lib.hid (B.out.trans (hb.mono B.out.size)); (try replace L := Lib.hid (L.out.below hb)); (try replace X := Lib.hid (X.out.on hb)); (try replace X2 := Lib.hid (X2.out.on hb)); (try replace Y := Lib.hid (Y.out.below hb)); (try replace Y2 := Lib.hid (Y2.out.below hb)); (try replace TT := Lib.hid (TT.out.below hb)); have Y2 := Lib.hid h8; clear h8; clear hb)
        | (go_at_call 21; (with_reducible refine (equal_yes m0 m0 k0 k0 _ _ _ _ _ X.out X2.out hk0.out hk0.out (by omega) rfl).mono ?_); rintro e wn ⟨rfl, hb⟩; replace B := Lib.hid (B.out.trans (hb.mono B.out.size)); (try replace L := Lib.hid (L.out.below hb)); (try replace X := Lib.hid (X.out.on hb)); (try replace X2 := Lib.hid (X2.out.on hb)); (try replace Y := Lib.hid (Y.out.below hb)); (try replace Y2 := Lib.hid (Y2.out.below hb)); (try replace TT := Lib.hid (TT.out.below hb)); clear X X2; clear hb)
        | (go_at_call 23; (with_reducible refine (oto_v l2 n2 _ _ _ Y.out hn2.out (by omega)).mono ?_); rintro e wn ⟨A9, c9, rfl, h9, hb⟩; replace B := Lib.hid (B.out.trans (hb.mono B.out.size)); (try replace L := Lib.hid (L.out.below hb)); (try replace X := Lib.hid (X.out.on hb)); (try replace X2 := Lib.hid (X2.out.on hb)); (try replace Y := Lib.hid (Y.out.below hb)); (try replace Y2 := Lib.hid (Y2.out.below hb)); (try replace TT := Lib.hid (TT.out.below hb)); have TT := Lib.hid h9; clear h9 Y; clear hb)
        | (go_at_call 22; (with_reducible refine (orsame_v l2 l2 _ (decide_eq_true rfl) n2 n2 _ _ _ _ _ _ _ TT.out Y2.out hn2.out hn2.out (by omega) (Nat.le_trans S2.out (by decide))).mono ?_); rintro e wn ⟨rfl, hb⟩; replace B := Lib.hid (B.out.trans (hb.mono B.out.size)); (try replace L := Lib.hid (L.out.below hb)); (try replace X := Lib.hid (X.out.on hb)); (try replace X2 := Lib.hid (X2.out.on hb)); (try replace Y := Lib.hid (Y.out.below hb)); (try replace Y2 := Lib.hid (Y2.out.below hb)); (try replace TT := Lib.hid (TT.out.below hb)); clear TT Y2; clear hb))
      go_ret
      exact ⟨rfl, B.out⟩
end Go.Proofs.Ytmilbkhkefbjkaa
