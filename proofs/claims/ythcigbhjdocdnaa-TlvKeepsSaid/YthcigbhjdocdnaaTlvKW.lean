
/-
  TlvKeeps' walk. No condition.
-/
import Derived.Test.YthcigbhjdocdnaaTlvV
import Derived.Test.YthcigbhjdocdnaaTlvTF
namespace Go.Proofs.Ythcigbhjdocdnaa
open Go.RowKit

theorem bvs_setK (l : List Nat) (k x : Nat) : (bvs l).set k (.int .u8 (x : Int)) = bvs (l.set k x) := by simp [bvs, bv, List.map_set]
theorem by_setK {l : List Nat} {k x : Nat} (h : By l) (hx : x < 256) : By (l.set k x) := by
  intro y hy
  rcases List.mem_or_eq_of_mem_set hy with h1 | h1
  · exact h y h1
  · omega

theorem keeps_early (A : Option Addr) (n c : Nat) (t : Nat) (w : World) (h : 1000 < n) :
    Calls Try.prog 6 #[.slice A n c, .int .u8 (t : Int)] w fun e w' => e = .returned (.bool true) ∧ Below w.heap.size w w' := by
  have B := Lib.hid (Below.refl w.heap.size w)
  have j1 : (1000 : Int) < (n : Int) := by omega
  go_enter Try.func6, Try.ntmps6
  go_wp2_with (first
    | (go_at_call 7; (with_reducible refine (speaks12 _).mono ?_); rintro e wn ⟨rfl, hb⟩; replace B := Lib.hid (B.out.trans (hb.mono B.out.size)); clear hb))
  go_ret
  exact ⟨rfl, B.out⟩

set_option maxHeartbeats 16000000 in
theorem keeps_walk (b : List Nat) (A : Option Addr) (n c : Nat) (t : Nat) (w : World) (hL : b.length = n) (hc : n ≤ c) (hB : By b) (hR : Rd w w.heap.size A b) (h1 : n ≤ 1000) :
    Calls Try.prog 6 #[.slice A n c, .int .u8 (t : Int)] w fun e w' => e = .returned (.bool true) ∧ Below w.heap.size w w' := by
  obtain ⟨i0, hi, hz0, hz1, hz2⟩ := info_parts byte_info
  have HR := Lib.hid hR
  have HL := Lib.hid hL
  have HB := Lib.hid hB
  clear hR hL hB
  have B := Lib.hid (Below.refl w.heap.size w)
  have j1 : ¬ (1000 : Int) < (n : Int) := by omega
  obtain ⟨l, k, hg⟩ : ∃ l k, Hid (getB b = (l, k)) := ⟨_, _, Lib.hid rfl⟩
  obtain ⟨nb, hnb⟩ : ∃ n, Hid (l.length = n) := ⟨_, Lib.hid rfl⟩
  have hlen := get_len b HB.out
  rw [hg.out, HL.out] at hlen
  dsimp only at hlen
  rw [hnb.out] at hlen
  have snb : nb ≤ 500 := by omega
  have SD := Lib.hid (show datB l ≤ 1000 by omega)
  clear hlen
  by_cases hk : k = 0
  · subst hk
    have HO := Lib.hid (show ByO l by have := (put_get b HB.out (by rw [hg.out])).2.2; rw [hg.out] at this; exact this)
    have G := Lib.hid trivial
    go_enter Try.func6, Try.ntmps6
    go_wp2_with (first
      | (go_at_call 7; (with_reducible refine (speaks12 _).mono ?_); rintro e wn ⟨rfl, hb⟩; replace B := Lib.hid (B.out.trans (hb.mono B.out.size)); have OX := Lib.hid (show (wn.alloc (.cells #[] 5)).ownsRow wn.heap.size 5 1 (.slice (some ⟨wn.heap.size, 0, none⟩) 0 0) 0 (bvs []) from World.ownsRow_lit wn #[] 0 (Nat.le_refl _) (by unfold maxLen; omega) rfl); have BX := Lib.hid ((Below.refl wn.heap.size wn).alloc (Nat.le_refl _) (.cells #[] 5)); clear hb)
      | (at_builtin; have _g := OX; clear _g; refine list_app rfl _ _ _ rfl _ i0 Try.underlying23 hi hz0 hz1 hz2 _ _ _ [] rfl OX.out _ _ n _ b rfl ((HR.out.on B.out).on BX.out) HL.out (by omega) BX.out.size ?_; intro A10 c10 w10 h10 hg10; rw [List.nil_append, Nat.zero_add] at h10; rw [Nat.zero_add]; have hb := app_below BX.out (Nat.le_refl _) OX.out hg10; replace OX := Lib.hid (own_lo h10 B.out.size); replace B := Lib.hid (B.out.trans (hb.mono B.out.size)); clear h10 hg10 hb BX; have W1 := Lib.hid trivial)
      | (go_at_call 12; have _g := W1; clear _g; (with_reducible refine (oget_v b l _ hg.out n _ _ _ (Rd.own OX.out) HB.out HL.out (by omega) (own_cap OX.out)).mono ?_); rintro e wn ⟨A5, c5, rfl, h5, hb⟩; rw [hnb.out] at h5 ⊢; have L := Lib.hid (h5.read.mono (G := fun g => w10.heap.size ≤ g) (fun _ _ h => h.elim id id)); have QM := Lib.hid (fun g hg => (OX.out.lt g hg).2 : ∀ g, (Value.slice A10 n c10).ownBlock = some g → g < w10.heap.size); replace OX := Lib.hid (own_off OX.out (.of_below hb (X := fun _ => False)) (fun _ _ h => h)); have S1 := Lib.hid hb.size; replace B := Lib.hid (B.out.trans (hb.mono B.out.size)); clear W1 h5 hb)
      | (go_at_call 12; have _g := L; clear _g; (with_reducible refine (oget_v b l _ hg.out n c _ _ (HR.out.on B.out) HB.out HL.out (by omega) hc).mono ?_); rintro e wn ⟨A6, c6, rfl, h6, hb⟩; rw [hnb.out] at h6 ⊢; have Y := Lib.hid (h6.read.mono (G := fun g => w10.heap.size ≤ g) (fun _ _ h => Nat.le_trans S1.out (h.elim id id))); replace OX := Lib.hid (own_off OX.out (.of_below hb (X := fun _ => False)) (fun _ _ h => h)); replace L := Lib.hid (L.out.below hb); replace B := Lib.hid (B.out.trans (hb.mono B.out.size)); clear h6 hb S1))
    obtain ⟨wl, hwl⟩ : ∃ wl, wl = wn := ⟨_, rfl⟩
    subst hwl
    have BL := Lib.hid B.out
    have LL := Lib.hid L.out
    have YL := Lib.hid Y.out
    have OXL := OX.out
    obtain ⟨z0, hz0'⟩ : ∃ z, Hid (w10.heap.size = z) := ⟨_, Lib.hid rfl⟩
    rw [hz0'.out] at LL YL QM
    clear B L Y OX
    go_loopw [39] (fun i wr => ∃ (k : Nat) (m : List Nat), k ≤ n ∧ i = .int .i64 k ∧ Hid (m.length = n) ∧ wr.ownsRow w.heap.size 5 1 (.slice A10 n c10) n (bvs m) ∧ Offs (fun g => (Value.slice A10 n c10).ownBlock = some g) wl wr) (fun i _ => n - (intOf i).toNat)
    case atStart => exact ⟨0, b, Nat.zero_le _, rfl, Lib.hid HL.out, OXL, Offs.refl _ _⟩
    case round =>
      obtain ⟨k, m, hk, rfl, hml, hown, hoff⟩ := hrel
      by_cases hlt : k < n
      · obtain ⟨g, rfl⟩ : ∃ g, A10 = some ⟨g, 0, none⟩ := by
          obtain ⟨g, cap, e⟩ := own_some hown (by omega)
          injection e with e1
          exact ⟨g, e1⟩
        have i1 : (0 : Int) ≤ k := by omega
        have i2 : (k : Int) < n := by omega
        obtain ⟨x, hx⟩ : ∃ x, m[k]? = some x := ⟨_, List.getElem?_eq_getElem (by rw [hml.out]; exact hlt)⟩
        have hst := hown.stored k (.int .u8 (((x + 1) % 256 : Nat) : Int))
        rw [bvs_setK, show (((x + 1) % 256 : Nat) : Int) = ((x : Int) + 1) % 256 by omega] at hst
        have HS := Lib.hid hst.1
        have HSL := Lib.hid (show (m.set k ((x + 1) % 256)).length = n by rw [List.length_set]; exact hml.out)
        have hc0 := hown.cellAt k (by omega)
        have hf0 := hown.frozenAt k
        rw [bvs_get _ _ _ hx] at hc0
        have HO := Lib.hid hoff
        clear hst hx hown hoff
        go_wp2_with fail
        go_roundw
        case rel => exact ⟨k + 1, m.set k ((x + 1) % 256), by omega, by go_num, HSL, HS.out, HO.out.trans (Offs.set (X := fun j => (Value.slice (some ⟨g, 0, none⟩) n c10).ownBlock = some j) wr g k _ rfl) (fun _ h => h) (fun _ _ h => h)⟩
        case measure => simp [intOf]; omega
      · have he : k = n := by omega
        subst he
        have B := Lib.hid (BL.out.trans (hoff.below (fun j hj e => absurd (hown.lt j e).1 (Nat.not_le.2 hj)) BL.out.size))
        have L := Lib.hid (LL.out.keep (.of_offs hoff (fun j hj e => absurd (QM.out j e) (Nat.not_lt.2 hj))))
        have Y := Lib.hid (YL.out.keep (.of_offs hoff (fun j hj e => absurd (QM.out j e) (Nat.not_lt.2 hj))))
        clear hown hoff hml BL LL YL OXL QM
        cases hfo : l.find? (fun o => decide (o.1 = t)) with
        | none =>
          have HF := Lib.hid hfo
          clear hfo
          go_wp2_with (first
            | (go_at_call 18; (with_reducible refine (ofind_none l t nb _ _ _ _ L.out hnb.out (by omega) (Nat.le_trans SD.out (by decide)) HF.out).mono ?_); rintro e wn ⟨rfl, hb⟩; replace B := Lib.hid (B.out.trans (hb.mono B.out.size)); replace L := Lib.hid (L.out.below hb); replace Y := Lib.hid (Y.out.below hb); clear hb; have hb := (Below.refl wn.heap.size wn).alloc (Nat.le_refl _) (.cells #[.int .u8 0, .slice none 0 0] 43); replace B := Lib.hid (B.out.trans (hb.mono B.out.size)); replace L := Lib.hid (L.out.below hb); replace Y := Lib.hid (Y.out.below hb); clear hb)
            | (go_at_call 17; (with_reducible refine (osame_v l l _ (decide_eq_true rfl) nb nb _ _ _ _ _ _ _ L.out Y.out HO.out HO.out hnb.out hnb.out (by omega)).mono ?_); rintro e wn ⟨rfl, hb⟩; replace B := Lib.hid (B.out.trans (hb.mono B.out.size)); clear hb))
          go_ret
          exact ⟨rfl, B.out⟩
        | some o =>
          have HF := Lib.hid hfo
          obtain ⟨ko, hko⟩ : ∃ k, Hid (o.2.length = k) := ⟨_, Lib.hid rfl⟩
          have hko2 : ko ≤ 1000 := by
            obtain ⟨i, hi⟩ := List.mem_iff_getElem?.1 (List.mem_of_find?_eq_some hfo)
            have := dat_le hi
            have := SD.out
            rw [← hko.out]
            omega
          clear hfo
          replace L := Lib.hid (L.out.mono (G := fun b => b < wr.heap.size) (fun _ h _ => h))
          replace Y := Lib.hid (Y.out.mono (G := fun b => b < wr.heap.size) (fun _ h _ => h))
          go_wp2_with (first
            | (go_at_call 18; (with_reducible refine (ofind_some l o t nb _ _ _ _ L.out hnb.out (by omega) (Nat.le_trans SD.out (by decide)) HF.out ko hko.out).mono ?_); rintro e wn ⟨A11, c11, rfl, h11, hb⟩; have QG := Lib.hid (fun g hg => h11.lt g hg : ∀ g, (Value.slice A11 ko c11).ownBlock = some g → wr.heap.size ≤ g ∧ g < wn.heap.size); replace h11 := own_lo h11 B.out.size; replace B := Lib.hid (B.out.trans (hb.mono B.out.size)); replace L := Lib.hid (L.out.below hb); replace Y := Lib.hid (Y.out.below hb); clear hb; have hb := (Below.refl wn.heap.size wn).alloc (Nat.le_refl _) (.cells #[.int .u8 (t : Int), .slice A11 ko c11] 43); replace B := Lib.hid (B.out.trans (hb.mono B.out.size)); replace L := Lib.hid (L.out.below hb); replace Y := Lib.hid (Y.out.below hb); have OD := Lib.hid (own_off h11 (.of_below hb (X := fun _ => False)) (fun _ _ h => h)); obtain ⟨q, hq⟩ : ∃ q, Hid (wn.heap.size = q) := ⟨_, Lib.hid rfl⟩; have HC := Lib.hid (show (wn.alloc (.cells #[.int .u8 (t : Int), .slice A11 ko c11] 43)).cell? ⟨q, 1, none⟩ = some (.slice A11 ko c11) by rw [← hq.out]; exact cell_of_row _ _ _ _ _ _ (heap_alloc_new wn _)); have HQ := Lib.hid (show q < (wn.alloc (.cells #[.int .u8 (t : Int), .slice A11 ko c11] 43)).heap.size by rw [World.size_alloc, hq.out]; omega); clear hb h11))
          obtain ⟨wk, hwk⟩ : ∃ wk, wk = wn.alloc (.cells #[.int .u8 (t : Int), .slice A11 ko c11] 43) := ⟨_, rfl⟩
          rw [← hwk] at B L Y OD HC HQ ⊢
          rw [hq.out] at QG ⊢
          have BL := Lib.hid B.out
          have LL := Lib.hid L.out
          have YL := Lib.hid Y.out
          have ODL := OD.out
          clear B L Y OD hwk
          go_loopw [59] (fun i wv => ∃ (k : Nat) (m : List Nat), k ≤ ko ∧ i = .int .i64 k ∧ Hid (m.length = ko) ∧ wv.ownsRow w.heap.size 5 1 (.slice A11 ko c11) ko (bvs m) ∧ Offs (fun g => (Value.slice A11 ko c11).ownBlock = some g) wk wv) (fun i _ => ko - (intOf i).toNat)
          case atStart => exact ⟨0, o.2, Nat.zero_le _, rfl, Lib.hid hko.out, ODL, Offs.refl _ _⟩
          case round =>
            obtain ⟨i, m, hi, rfl, hml, hown, hoff⟩ := hrel
            by_cases hlt : i < ko
            · obtain ⟨g, rfl⟩ : ∃ g, A11 = some ⟨g, 0, none⟩ := by
                obtain ⟨g, cap, e⟩ := own_some hown (by omega)
                injection e with e1
                exact ⟨g, e1⟩
              have i1 : (0 : Int) ≤ i := by omega
              have i2 : (i : Int) < ko := by omega
              obtain ⟨x, hx⟩ : ∃ x, m[i]? = some x := ⟨_, List.getElem?_eq_getElem (by rw [hml.out]; exact hlt)⟩
              have hst := hown.stored i (.int .u8 (((x + 1) % 256 : Nat) : Int))
              rw [bvs_setK, show (((x + 1) % 256 : Nat) : Int) = ((x : Int) + 1) % 256 by omega] at hst
              have HS := Lib.hid hst.1
              have HSL := Lib.hid (show (m.set i ((x + 1) % 256)).length = ko by rw [List.length_set]; exact hml.out)
              have hc0 := hown.cellAt i (by omega)
              have hf0 := hown.frozenAt i
              rw [bvs_get _ _ _ hx] at hc0
              have HO2 := Lib.hid hoff
              have hc1 := ((Keeps.of_offs hoff (F := fun b => b = q) (fun b hb e => absurd (QG.out b e).2 (by omega))).cell HQ.out rfl 1).trans HC.out
              clear hst hx hown hoff
              go_wp2_with fail
              go_roundw
              case rel => exact ⟨i + 1, m.set i ((x + 1) % 256), by omega, by go_num, HSL, HS.out, HO2.out.trans (Offs.set (X := fun j => (Value.slice (some ⟨g, 0, none⟩) ko c11).ownBlock = some j) _ g i _ rfl) (fun _ h => h) (fun _ _ h => h)⟩
              case measure => simp [intOf]; omega
            · have he : i = ko := by omega
              subst he
              have B := Lib.hid (BL.out.trans (hoff.below (fun j hj e => absurd (hown.lt j e).1 (Nat.not_le.2 hj)) BL.out.size))
              have L := Lib.hid (LL.out.keep (.of_offs hoff (fun j hj e => absurd (QG.out j e).1 (Nat.not_le.2 hj))))
              have Y := Lib.hid (YL.out.keep (.of_offs hoff (fun j hj e => absurd (QG.out j e).1 (Nat.not_le.2 hj))))
              clear hown hoff hml BL LL YL ODL QG
              go_wp2_with (first
                | (go_at_call 17; (with_reducible refine (osame_v l l _ (decide_eq_true rfl) nb nb _ _ _ _ _ _ _ L.out Y.out HO.out HO.out hnb.out hnb.out (by omega)).mono ?_); rintro e wn ⟨rfl, hb⟩; replace B := Lib.hid (B.out.trans (hb.mono B.out.size)); clear hb))
              go_ret
              exact ⟨rfl, B.out⟩
  · go_enter Try.func6, Try.ntmps6
    go_wp2_with (first
      | (go_at_call 7; (with_reducible refine (speaks12 _).mono ?_); rintro e wn ⟨rfl, hb⟩; replace B := Lib.hid (B.out.trans (hb.mono B.out.size)); have OX := Lib.hid (show (wn.alloc (.cells #[] 5)).ownsRow wn.heap.size 5 1 (.slice (some ⟨wn.heap.size, 0, none⟩) 0 0) 0 (bvs []) from World.ownsRow_lit wn #[] 0 (Nat.le_refl _) (by unfold maxLen; omega) rfl); have BX := Lib.hid ((Below.refl wn.heap.size wn).alloc (Nat.le_refl _) (.cells #[] 5)); clear hb)
      | (at_builtin; have _g := OX; clear _g; refine list_app rfl _ _ _ rfl _ i0 Try.underlying23 hi hz0 hz1 hz2 _ _ _ [] rfl OX.out _ _ n _ b rfl ((HR.out.on B.out).on BX.out) HL.out (by omega) BX.out.size ?_; intro A10 c10 w10 h10 hg10; rw [List.nil_append, Nat.zero_add] at h10; rw [Nat.zero_add]; have hb := app_below BX.out (Nat.le_refl _) OX.out hg10; replace OX := Lib.hid (own_lo h10 B.out.size); replace B := Lib.hid (B.out.trans (hb.mono B.out.size)); clear h10 hg10 hb BX; have W1 := Lib.hid trivial)
      | (go_at_call 12; have _g := W1; clear _g; (with_reducible refine (oget_v b l _ hg.out n _ _ _ (Rd.own OX.out) HB.out HL.out (by omega) (own_cap OX.out)).mono ?_); rintro e wn ⟨A5, c5, rfl, h5, hb⟩; replace B := Lib.hid (B.out.trans (hb.mono B.out.size)); clear W1 OX h5 hb))
    go_ret
    exact ⟨rfl, B.out⟩
end Go.Proofs.Ythcigbhjdocdnaa
