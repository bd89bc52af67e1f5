
/-
  What Get answers, the program's and the document's, with the blocks that options lie in. No condition beyond: at most 2^30 octets.
-/
import Derived.Test.YtdnnincdbenjfaaOpsG
namespace Go.Proofs.Ytdnnincdbenjfaa
open Go.RowKit

theorem RdF.cutAt {F : Nat → Prop} {w : World} {b o : Nat} {l : List Nat} (h : RdF F w (some ⟨b, o, none⟩) l) {f c : Nat} (hc : l.length ≤ c) : RdF F w (if c = f then some ⟨b, o, none⟩ else some ⟨b, o + f, none⟩) (l.drop f) := by
  intro hl
  rw [List.length_drop] at hl
  rw [if_neg (by omega)]
  obtain ⟨b', off, e, hb, hF, hcell⟩ := h (by omega)
  injection e with e
  injection e with e1 e2
  subst e1; subst e2
  exact ⟨b, o + f, rfl, hb, hF, fun k x hx => by rw [Nat.add_assoc]; exact hcell (f + k) x (by rw [← List.getElem?_drop]; exact hx)⟩
theorem RdF.take {F : Nat → Prop} {w : World} {A : Option Addr} {l : List Nat} (h : RdF F w A l) (k : Nat) : RdF F w A (l.take k) := by
  intro hl
  rw [List.length_take] at hl
  obtain ⟨b, off, e, hb, hF, hc⟩ := h (by omega)
  refine ⟨b, off, e, hb, hF, fun j x hx => hc j x ?_⟩
  rw [List.getElem?_take] at hx
  split at hx
  · exact hx
  · cases hx

set_option maxHeartbeats 2000000 in
theorem orgetF_any (b : List Nat) (n c : Nat) (A : Option Addr) (w : World) (h : Rd w w.heap.size A b) (hb : By b) (hl : b.length = n) (hn : n ≤ 1073741824) (hc : n ≤ c) (F : Nat → Prop) (hF : RdF F w A b) (hFn : ∀ g, w.heap.size ≤ g → F g) :
    Calls Try.prog 48 #[.slice A n c] w (GetO 77 F b w) := by
  obtain ⟨i0, hi, hz0, hz1, hz2⟩ := info_parts ropt_info
  have H := Lib.hid h
  have HB := Lib.hid hb
  have HL := Lib.hid hl
  have HF := Lib.hid (hF.mono (G := fun g => F g ∧ g < w.heap.size) (fun b hb h => ⟨h, hb⟩))
  have HFN := Lib.hid hFn
  clear h hb hl hF hFn
  go_enter Try.func48, Try.ntmps48
  go_wp2_with fail
  go_loopw [4, 5] (fun v i wr => ∃ (k : Nat) (acc : List (Nat × List Nat)), i = .int .i64 k ∧ k ≤ n ∧ 2 * acc.length ≤ k ∧ Hid (getB b = addB acc (getB (b.drop k))) ∧ Orw shO 77 F w.heap.size wr v acc ∧ Below w.heap.size w wr) (fun _ i _ => n - (intOf i).toNat)
  case atStart => exact ⟨0, [], rfl, Nat.zero_le _, Nat.le_refl _, Lib.hid (add_nil _ (get_err b)).symm, Orw.lit w [] rfl (fun k x cs hx => by simp at hx) (by simp), (Below.refl _ _).alloc (Nat.le_refl _) _⟩
  case round =>
    obtain ⟨k, acc, rfl, hkn, hacc, hg, hown, hbel⟩ := hrel
    by_cases hlt : k < n
    · have HNE := Lib.hid (show b.drop k ≠ [] from fun e => by have h1 := congrArg List.length e; rw [List.length_drop, HL.out] at h1; simp at h1; omega)
      have HD := Lib.hid (show (b.drop k).length = n - k by rw [List.length_drop, HL.out])
      obtain ⟨bb, oo, x0, rfl, hbb, hx0, hcx⟩ := H.out.at_ (k := k) (by rw [HL.out]; exact hlt)
      have HX0 := Lib.hid (show (b.drop k).headD 0 = x0 by rw [List.headD_eq_head?_getD, List.head?_drop, hx0]; rfl)
      have i1 : (0 : Int) ≤ k := by omega
      have i2 : (k : Int) < n := by omega
      clear hx0
      by_cases h1 : k + 1 < n
      · obtain ⟨bb', oo', e, e1, -, he, hce⟩ := H.out.at_ (k := k + 1) (by rw [HL.out]; exact h1)
        injection e1 with e1
        injection e1 with e1 e2
        subst e1; subst e2
        have HE := Lib.hid (show (b.drop k)[1]? = some e by rw [List.getElem?_drop]; exact he)
        have he256 := HB.out.get he
        have HS := Lib.hid (step_two HE.out HD.out)
        obtain ⟨k1, hk1⟩ : ∃ k1, k + 1 = k1 := ⟨_, rfl⟩
        have hce' := (hbel.cell (p := ⟨bb, oo + (k + 1), none⟩) hbb).trans hce
        rw [hk1] at hce'
        have i3 : (k : Int) + 1 = (k1 : Int) := by omega
        have i4 : IntKind.i64.wrap (k1 : Int) = (k1 : Int) := IntWalk.i64_in _ (by omega)
        have i5 : ¬ (n : Int) ≤ (k1 : Int) := by omega
        have i6 : (k1 : Int) < (n : Int) := by omega
        have i7 : (0 : Int) ≤ (k1 : Int) := by omega
        clear he hce
        by_cases h2 : e < 2
        · have j1 : (e : Int) < 2 := by omega
          have G := Lib.hid (show ∀ w' : World, Below w.heap.size w w' → GetO 77 F b w (.returned (.tuple #[.slice none 0 0, .int .i64 (4 : Int)])) w' from fun w' hb' => by
            have hs : stepB (b.drop k) = (0, 4) := by rw [HS.out, if_pos h2]
            have := getO_bad (T := 77) (F := F) hg.out HNE.out (by rw [hs]; decide) hb'
            rw [hs] at this
            exact this)
          clear h2
          go_wp2_with fail
          go_ret2
          exact G.out _ hbel
        · have j1 : ¬ (e : Int) < 2 := by omega
          obtain ⟨k3, hk3⟩ : ∃ k3, k + e = k3 := ⟨_, rfl⟩
          have i8 : (k : Int) + (e : Int) = (k3 : Int) := by omega
          have i9 : IntKind.i64.wrap (k3 : Int) = (k3 : Int) := IntWalk.i64_in _ (by omega)
          by_cases h3 : n < k3
          · have j2 : (n : Int) < (k3 : Int) := by omega
            have G := Lib.hid (show ∀ w' : World, Below w.heap.size w w' → GetO 77 F b w (.returned (.tuple #[.slice none 0 0, .int .i64 (2 : Int)])) w' from fun w' hb' => by
              have hs : stepB (b.drop k) = (0, 2) := by rw [HS.out, if_neg h2, if_pos (by omega)]
              have := getO_bad (T := 77) (F := F) hg.out HNE.out (by rw [hs]; decide) hb'
              rw [hs] at this
              exact this)
            clear h2 h3
            go_wp2_with fail
            go_ret2
            exact G.out _ hbel
          · have j2 : ¬ (n : Int) < (k3 : Int) := by omega
            have hs : stepB (b.drop k) = (e, 0) := by rw [HS.out, if_neg h2, if_neg (by omega)]
            obtain ⟨k2, hk2⟩ : ∃ k2, k + 2 = k2 := ⟨_, rfl⟩
            have j3 : (k : Int) + 2 = (k2 : Int) := by omega
            have j4 : IntKind.i64.wrap (k2 : Int) = (k2 : Int) := IntWalk.i64_in _ (by omega)
            have j5 : (0 : Int) ≤ (k2 : Int) := by omega
            have j6 : (k2 : Int) ≤ (k3 : Int) := by omega
            have j7 : (k3 : Int) ≤ (c : Int) := by omega
            have hk32 : k3 - k2 = e - 2 := by omega
            have HC := Lib.hid (cut_eq b k e k2 (e - 2) hk2 rfl)
            have HG2 := Lib.hid (show getB b = addB (acc ++ [(x0, ((b.drop k).take e).drop 2)]) (getB (b.drop k3)) by rw [hg.out, get_ok (by rw [hs]), hs, HX0.out, add_add, List.drop_drop, hk3])
            have HRD := Lib.hid (show RdF (fun g => F g ∧ g < w.heap.size) w (if c = k2 then some ⟨bb, oo, none⟩ else some ⟨bb, oo + k2, none⟩) (((b.drop k).take e).drop 2) by rw [HC.out]; exact (RdF.cutAt HF.out (by rw [HL.out]; exact hc)).take _)
            have HLN := Lib.hid (show (((b.drop k).take e).drop 2).length = e - 2 by rw [HC.out, List.length_take, List.length_drop, HL.out]; omega)
            have C := Lib.hid (show GC 77 F w wr ⟨bb, oo + k, none⟩ x0 _ acc from ⟨hown, hbel, hbb, hcx⟩)
            have f0 := C.out.cell
            have hacc2 : 2 * (acc ++ [(x0, ((b.drop k).take e).drop 2)]).length ≤ k3 := by rw [List.length_append]; simp; omega
            clear hown hcx hs
            go_wp2_with fail
            go_region_held3 (fun W => W.cell? ⟨bb, oo + k, none⟩ = some (.int .u8 (x0 : Int))) (first | exact C.out.cell | exact (C.out.drew.al _).cell) (first
              | ((refine step_rows shO _ (by rfl) _ _ _ (by rfl) 77 i0 (.agg #[.int .u8 0, .slice none 0 0]) 32 Try.underlying23 hi hz0 hz1 hz2 rfl (by decide) F _ w.heap.size _ _ acc (by rfl) (C.out.drew.al _).own rfl _ 1 1 _ (by rfl) (lito _ HLN.out (by omega) (HRD.out.keep (.of_below C.out.drew.bel))).read rfl (fun b _ hb => ⟨hb.elim (fun h => h.1) (fun h => HFN.out b (C.out.drew.far b h).1), hb.elim (fun h e => absurd (C.out.own.lt e).1 (Nat.not_le.2 h.2)) (fun h => (C.out.drew.far b h).2)⟩) (by unfold maxLen; omega) (by omega) (C.out.drew.al _).bel.size ?_); intro v7 w7 ho7 hg7 hm7; replace C := Lib.hid ((C.out.drew.al _).push ho7 hg7); clear ho7 hg7 hm7; dsimp only))
            clear f0 HRD
            generalize (if c = k2 then some (⟨bb, oo, none⟩ : Addr) else some ⟨bb, oo + k2, none⟩) = A'
            go_wp2_with fail
            go_roundw
            case rel => exact ⟨k3, _, rfl, by omega, hacc2, HG2, C.out.own, C.out.bel⟩
            case measure => simp [intOf]; omega
      · have h2 : n = k + 1 := by omega
        have i3 : (k : Int) + 1 = (n : Int) := by omega
        have i4 : IntKind.i64.wrap (n : Int) = (n : Int) := IntWalk.i64_in _ (by omega)
        have G := Lib.hid (show ∀ w' : World, Below w.heap.size w w' → GetO 77 F b w (.returned (.tuple #[.slice none 0 0, .int .i64 (2 : Int)])) w' from fun w' hb' => by
          have hs : stepB (b.drop k) = (0, 2) := step_one (by rw [HD.out]; omega)
          have := getO_bad (T := 77) (F := F) hg.out HNE.out (by rw [hs]; decide) hb'
          rw [hs] at this
          exact this)
        clear h2 h1
        go_wp2_with fail
        go_ret2
        exact G.out _ hbel
    · have hr0 : b.drop k = [] := List.eq_nil_of_length_eq_zero (by rw [List.length_drop, HL.out]; omega)
      have HG0 := Lib.hid (show getB b = addB acc (getB []) by rw [hg.out, hr0])
      clear hr0
      go_wp2_with fail
      go_ret2
      exact getO_end HG0.out hown hbel

theorem orgetF_v (b : List Nat) (l : List (Nat × List Nat)) (k : Nat) (hg : getB b = (l, k)) (n c : Nat) (A : Option Addr) (w : World) (h : Rd w w.heap.size A b) (hb : By b) (hl : b.length = n) (hn : n ≤ 1073741824) (hc : n ≤ c) (F : Nat → Prop) (hF : RdF F w A b) (hFn : ∀ g, w.heap.size ≤ g → F g) :
    Calls Try.prog 48 #[.slice A n c] w fun e w' => ∃ A' c', e = .returned (.tuple #[.slice A' l.length c', .int .i64 (k : Int)]) ∧ Rws shO F w' A' l ∧ Below w.heap.size w w' :=
  (orgetF_any b n c A w h hb hl hn hc F hF hFn).mono fun _ _ ⟨v, h1, h2, h3⟩ => by
    rw [hg] at h1 h2
    obtain ⟨A', c', rfl, _, _, hr⟩ := h2.slice
    exact ⟨A', c', h1, hr.mono (fun b _ hb => hb.elim id (hFn b)), h3⟩

set_option maxHeartbeats 2000000 in
theorem pgetN_any (p : Nat) (b : List Nat) (m : List (Nat × List Nat)) (q : Nat) (hm : getO p b = (m, q)) (k : Nat) (hk : m.length = k) (nb c : Nat) (A : Option Addr) (w : World) (h : Rd w w.heap.size A b) (hb : By b) (hl : b.length = nb) (hn : nb ≤ 1073741824) (hc : nb ≤ c) :
    Calls Try.prog 30 #[.int .u16 (p : Int), .slice A nb c] w fun e w' => ∃ A' c', e = .returned (.tuple #[.slice A' k c', .int .i64 (q : Int)]) ∧ Rws shO (fun b => w.heap.size ≤ b) w' A' m ∧ Below w.heap.size w w' := by
  have B := Lib.hid (Below.refl w.heap.size w)
  have HR := Lib.hid h
  have HL := Lib.hid hl
  have HB := Lib.hid hb
  obtain ⟨l, e, hg⟩ : ∃ l e, getB b = (l, e) := ⟨_, _, rfl⟩
  have HG := Lib.hid hg
  obtain ⟨n, hn2⟩ : ∃ n, l.length = n := ⟨_, rfl⟩
  have HN := Lib.hid hn2
  have hlen := get_len b hb
  rw [hg] at hlen
  dsimp only at hlen
  have hn3 : n ≤ 1073741824 := by omega
  clear h hl hb hlen
  by_cases he : e = 0
  · subst he
    have HO := Lib.hid (show ByO l by have := (put_get b HB.out (by rw [hg])).2.2; rw [hg] at this; exact this)
    cases hq : okL (tabB p) l
    · have HQ := Lib.hid hq
      rw [getO, hg] at hm
      dsimp only at hm
      rw [if_pos rfl, hq, if_neg (by decide)] at hm
      obtain ⟨rfl, rfl⟩ := Prod.mk.inj hm
      obtain rfl : 0 = k := hk
      clear hm hq hg hn2
      go_enter Try.func30, Try.ntmps30
      go_wp2_with (first
      | (go_at_call 47; (with_reducible refine (oget_v b l _ HG.out nb c A _ (HR.out.on B.out) HB.out HL.out (by omega) hc).mono ?_); rintro e wn ⟨A7, c7, rfl, h7, hb⟩; replace B := Lib.hid (B.out.trans (hb.mono B.out.size)); have Y := Lib.hid (h7.read.mono (G := fun b => w.heap.size ≤ b) (fun _ _ hb => hb.elim id id)); rw [HN.out]; clear h7 hb)
      | (go_at_call 42; (with_reducible refine (wrong_any p _).mono ?_); rintro e wn ⟨g, rfl, hw, hb⟩; replace B := Lib.hid (B.out.trans (hb.mono B.out.size)); replace Y := Lib.hid (Y.out.below hb); have V := Lib.hid hw; clear hw hb)
      | (go_at_call 41; (with_reducible refine (any_wrong _ l n c7 A7 _ g _ Y.out HO.out HN.out (by omega) V.out _ HQ.out).mono ?_); rintro e wn ⟨rfl, hb⟩; replace B := Lib.hid (B.out.trans (hb.mono B.out.size)); replace Y := Lib.hid (Y.out.below hb); clear hb))
      go_ret2
      exact ⟨none, 0, rfl, Rws.nilO, B.out⟩
    · have HQ := Lib.hid hq
      rw [getO, hg] at hm
      dsimp only at hm
      rw [if_pos rfl, hq, if_pos rfl] at hm
      obtain ⟨rfl, rfl⟩ := Prod.mk.inj hm
      obtain rfl : n = k := hn2.symm.trans hk
      clear hm hq hk hg hn2
      go_enter Try.func30, Try.ntmps30
      go_wp2_with (first
      | (go_at_call 47; (with_reducible refine (oget_v b l _ HG.out nb c A _ (HR.out.on B.out) HB.out HL.out (by omega) hc).mono ?_); rintro e wn ⟨A7, c7, rfl, h7, hb⟩; replace B := Lib.hid (B.out.trans (hb.mono B.out.size)); have Y := Lib.hid (h7.read.mono (G := fun b => w.heap.size ≤ b) (fun _ _ hb => hb.elim id id)); rw [HN.out]; clear h7 hb)
      | (go_at_call 42; (with_reducible refine (wrong_any p _).mono ?_); rintro e wn ⟨g, rfl, hw, hb⟩; replace B := Lib.hid (B.out.trans (hb.mono B.out.size)); replace Y := Lib.hid (Y.out.below hb); have V := Lib.hid hw; clear hw hb)
      | (go_at_call 41; (with_reducible refine (any_wrong _ l n c7 A7 _ g _ Y.out HO.out HN.out (by omega) V.out _ HQ.out).mono ?_); rintro e wn ⟨rfl, hb⟩; replace B := Lib.hid (B.out.trans (hb.mono B.out.size)); replace Y := Lib.hid (Y.out.below hb); clear hb))
      go_ret2
      exact ⟨A7, c7, rfl, Y.out, B.out⟩
  · have i1 : ((e : Int) != 0) = true := by rw [bne_iff_ne]; omega
    rw [getO, hg] at hm
    dsimp only at hm
    rw [if_neg he] at hm
    obtain ⟨rfl, rfl⟩ := Prod.mk.inj hm
    obtain rfl : 0 = k := hk
    clear hm he hg hn2
    go_enter Try.func30, Try.ntmps30
    go_wp2_with (first
    | (go_at_call 47; (with_reducible refine (oget_v b l _ HG.out nb c A _ (HR.out.on B.out) HB.out HL.out (by omega) hc).mono ?_); rintro e wn ⟨A7, c7, rfl, h7, hb⟩; replace B := Lib.hid (B.out.trans (hb.mono B.out.size)); have Y := Lib.hid (h7.read.mono (G := fun b => w.heap.size ≤ b) (fun _ _ hb => hb.elim id id)); rw [HN.out]; clear h7 hb))
    go_ret2
    exact ⟨none, 0, rfl, Rws.nilO, B.out⟩

set_option maxHeartbeats 2000000 in
theorem prgetF_any (p : Nat) (b : List Nat) (m : List (Nat × List Nat)) (q : Nat) (hm : getO p b = (m, q)) (k : Nat) (hk : m.length = k) (nb c : Nat) (A : Option Addr) (w : World) (h : Rd w w.heap.size A b) (hb : By b) (hl : b.length = nb) (hn : nb ≤ 1073741824) (hc : nb ≤ c) (F : Nat → Prop) (hF : RdF F w A b) (hFn : ∀ g, w.heap.size ≤ g → F g) :
    Calls Try.prog 32 #[.int .i64 (p : Int), .slice A nb c] w fun e w' => ∃ A' c', e = .returned (.tuple #[.slice A' k c', .int .i64 (q : Int)]) ∧ Rws shO F w' A' m ∧ Below w.heap.size w w' := by
  have B := Lib.hid (Below.refl w.heap.size w)
  have HR := Lib.hid h
  have HL := Lib.hid hl
  have HB := Lib.hid hb
  have HF := Lib.hid hF
  have HFN := Lib.hid hFn
  obtain ⟨l, e, hg⟩ : ∃ l e, getB b = (l, e) := ⟨_, _, rfl⟩
  have HG := Lib.hid hg
  obtain ⟨n, hn2⟩ : ∃ n, l.length = n := ⟨_, rfl⟩
  have HN := Lib.hid hn2
  have hlen := get_len b hb
  rw [hg] at hlen
  dsimp only at hlen
  have hn3 : n ≤ 1073741824 := by omega
  clear h hl hb hlen hF hFn
  by_cases he : e = 0
  · subst he
    have HO := Lib.hid (show ByO l by have := (put_get b HB.out (by rw [hg])).2.2; rw [hg] at this; exact this)
    cases hq : okL (tabB p) l
    · have HQ := Lib.hid hq
      rw [getO, hg] at hm
      dsimp only at hm
      rw [if_pos rfl, hq, if_neg (by decide)] at hm
      obtain ⟨rfl, rfl⟩ := Prod.mk.inj hm
      obtain rfl : 0 = k := hk
      clear hm hq hg hn2 HO
      go_enter Try.func32, Try.ntmps32
      go_wp2_with (first
      | (go_at_call 48; (with_reducible refine (orgetF_v b l _ HG.out nb c A _ HR.out HB.out HL.out (by omega) hc F HF.out HFN.out).mono ?_); rintro e wn ⟨A7, c7, rfl, h7, hb⟩; replace B := Lib.hid (B.out.trans (hb.mono B.out.size)); have Y := Lib.hid h7; rw [HN.out]; clear h7 hb)
      | (go_at_call 39; (with_reducible refine (orright_any p l n c7 A7 _ _ Y.out HN.out (by omega) _ HQ.out).mono ?_); rintro e wn ⟨rfl, hb⟩; replace B := Lib.hid (B.out.trans (hb.mono B.out.size)); replace Y := Lib.hid (Y.out.below hb); clear hb))
      go_ret2
      exact ⟨none, 0, rfl, Rws.nilO, B.out⟩
    · have HQ := Lib.hid hq
      rw [getO, hg] at hm
      dsimp only at hm
      rw [if_pos rfl, hq, if_pos rfl] at hm
      obtain ⟨rfl, rfl⟩ := Prod.mk.inj hm
      obtain rfl : n = k := hn2.symm.trans hk
      clear hm hq hk hg hn2 HO
      go_enter Try.func32, Try.ntmps32
      go_wp2_with (first
      | (go_at_call 48; (with_reducible refine (orgetF_v b l _ HG.out nb c A _ HR.out HB.out HL.out (by omega) hc F HF.out HFN.out).mono ?_); rintro e wn ⟨A7, c7, rfl, h7, hb⟩; replace B := Lib.hid (B.out.trans (hb.mono B.out.size)); have Y := Lib.hid h7; rw [HN.out]; clear h7 hb)
      | (go_at_call 39; (with_reducible refine (orright_any p l n c7 A7 _ _ Y.out HN.out (by omega) _ HQ.out).mono ?_); rintro e wn ⟨rfl, hb⟩; replace B := Lib.hid (B.out.trans (hb.mono B.out.size)); replace Y := Lib.hid (Y.out.below hb); clear hb))
      go_ret2
      exact ⟨A7, c7, rfl, Y.out, B.out⟩
  · have i1 : ((e : Int) != 0) = true := by rw [bne_iff_ne]; omega
    rw [getO, hg] at hm
    dsimp only at hm
    rw [if_neg he] at hm
    obtain ⟨rfl, rfl⟩ := Prod.mk.inj hm
    obtain rfl : 0 = k := hk
    clear hm he hg hn2
    go_enter Try.func32, Try.ntmps32
    go_wp2_with (first
    | (go_at_call 48; (with_reducible refine (orgetF_v b l _ HG.out nb c A _ HR.out HB.out HL.out (by omega) hc F HF.out HFN.out).mono ?_); rintro e wn ⟨A7, c7, rfl, h7, hb⟩; replace B := Lib.hid (B.out.trans (hb.mono B.out.size)); have Y := Lib.hid h7; rw [HN.out]; clear h7 hb))
    go_ret2
    exact ⟨none, 0, rfl, Rws.nilO, B.out⟩

theorem pgetN_lcp (b : List Nat) (m : List (Nat × List Nat)) (q : Nat) (hm : getO 49185 b = (m, q)) (k : Nat) (hk : m.length = k) (nb c : Nat) (A : Option Addr) (w : World) (h : Rd w w.heap.size A b) (hb : By b) (hl : b.length = nb) (hn : nb ≤ 1073741824) (hc : nb ≤ c) :
    Calls Try.prog 30 #[.int .u16 49185, .slice A nb c] w fun e w' => ∃ A' c', e = .returned (.tuple #[.slice A' k c', .int .i64 (q : Int)]) ∧ Rws shO (fun b => w.heap.size ≤ b) w' A' m ∧ Below w.heap.size w w' := pgetN_any 49185 b m q hm k hk nb c A w h hb hl hn hc
theorem prgetF_lcp (b : List Nat) (m : List (Nat × List Nat)) (q : Nat) (hm : getO 49185 b = (m, q)) (k : Nat) (hk : m.length = k) (nb c : Nat) (A : Option Addr) (w : World) (h : Rd w w.heap.size A b) (hb : By b) (hl : b.length = nb) (hn : nb ≤ 1073741824) (hc : nb ≤ c) (F : Nat → Prop) (hF : RdF F w A b) (hFn : ∀ g, w.heap.size ≤ g → F g) :
    Calls Try.prog 32 #[.int .i64 49185, .slice A nb c] w fun e w' => ∃ A' c', e = .returned (.tuple #[.slice A' k c', .int .i64 (q : Int)]) ∧ Rws shO F w' A' m ∧ Below w.heap.size w w' := prgetF_any 49185 b m q hm k hk nb c A w h hb hl hn hc F hF hFn
end Go.Proofs.Ytdnnincdbenjfaa
