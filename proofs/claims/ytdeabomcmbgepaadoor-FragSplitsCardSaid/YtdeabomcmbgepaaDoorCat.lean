
/-
  slices.Grow on nil, slices.Concat of lists of bytes. No condition beyond: together at most 2^40 octets.
-/
import Derived.Test.YtdeabomcmbgepaaDoorOffs
import Derived.Lib.AppendZeros
namespace Go.Proofs.YtdeabomcmbgepaaDoor
open Go.RowKit

/-- A fact that lay is found later. -/
theorem Rd.on {w w' : World} {A : Option Addr} {l : List Nat} (h : Rd w w.heap.size A l) (hb : Below w.heap.size w w') : Rd w' w'.heap.size A l := (h.below hb).more hb.size

/-- The slice of slices at A leads to lists of bytes that read as ls. -/
def Rr (w : World) (A : Option Addr) (ls : List (List Nat)) : Prop :=
  0 < ls.length → ∃ b off, A = some ⟨b, off, none⟩ ∧ ∀ (k : Nat) (x : List Nat), ls[k]? = some x → ∃ Ak ck, w.cell? ⟨b, off + k, none⟩ = some (.slice Ak x.length ck) ∧ Rd w w.heap.size Ak x
theorem Rr.at_ {w : World} {A : Option Addr} {ls : List (List Nat)} (h : Rr w A ls) {k : Nat} (hk : k < ls.length) : ∃ b off x Ak ck, A = some ⟨b, off, none⟩ ∧ ls[k]? = some x ∧ w.cell? ⟨b, off + k, none⟩ = some (.slice Ak x.length ck) ∧ Rd w w.heap.size Ak x := by
  obtain ⟨b, off, e, hc⟩ := h (by omega)
  obtain ⟨Ak, ck, h2, h3⟩ := hc k _ (List.getElem?_eq_getElem hk)
  exact ⟨b, off, ls[k], Ak, ck, e, List.getElem?_eq_getElem hk, h2, h3⟩
theorem Rr.on {w w' : World} {A : Option Addr} {ls : List (List Nat)} (h : Rr w A ls) (hb : Below w.heap.size w w') : Rr w' A ls := by
  intro hl
  obtain ⟨b, off, rfl, hc⟩ := h hl
  refine ⟨b, off, rfl, fun k x hx => ?_⟩
  obtain ⟨Ak, ck, h2, h3⟩ := hc k x hx
  exact ⟨Ak, ck, (hb.cell (block_lt h2)).trans h2, (h3.below hb).more hb.size⟩
theorem flat_take {ls : List (List Nat)} {k : Nat} {x : List Nat} (h : ls[k]? = some x) : (ls.take (k + 1)).flatten = (ls.take k).flatten ++ x := by
  rw [List.take_add_one, h, Option.toList_some, List.flatten_append]
  simp
theorem flat_le (ls : List (List Nat)) (k : Nat) : (ls.take k).flatten.length ≤ ls.flatten.length := by
  have e : ls.flatten = (ls.take k).flatten ++ (ls.drop k).flatten := by rw [← List.flatten_append, List.take_append_drop]
  rw [e, List.length_append]
  omega

theorem rd_nil {w : World} {B : Nat} {A : Option Addr} {l : List Nat} (h : Rd w B A l) : A = none → l.length = 0 := by
  intro h0
  rcases Nat.eq_zero_or_pos l.length with h1 | h1
  · exact h1
  · obtain ⟨_, _, h2, _⟩ := h h1
    rw [h2] at h0; cases h0
theorem rd_news {w : World} {B : Nat} {A : Option Addr} {l : List Nat} (h : Rd w B A l) : ∀ ad, A = some ad → ∀ j u, (bvs l)[j]? = some u → w.cell? (ad.add j) = some u := by
  intro ad had j u hu
  rw [bvs, List.getElem?_map] at hu
  obtain ⟨x, hx, rfl⟩ := Option.map_eq_some_iff.1 hu
  obtain ⟨b, off, he, _, hc⟩ := h (by have := (List.getElem?_eq_some_iff.1 hx).1; omega)
  rw [he] at had
  injection had with had
  subst had
  have := hc j x hx
  by_cases hj : j = 0
  · subst hj; simpa [Addr.add, bv] using this
  · simpa [Addr.add, hj, bv] using this

set_option maxHeartbeats 1000000 in
theorem grow_any (n : Nat) (w : World) (hn : n ≤ 1099511627776) :
    Calls Tryd.prog 35 #[.slice none 0 0, .int .i64 (n : Int)] w fun e w' => ∃ v, e = .returned v ∧ w'.ownsRow w.heap.size 5 1 v 0 [] ∧ Below w.heap.size w w' := by
  obtain ⟨i0, hi, hz0, hz1, hz2⟩ := info_parts byte_info
  by_cases h : n = 0
  · subst h
    go_enter Tryd.func35, Tryd.ntmps35
    go_wp2
    go_ret
    exact ⟨_, rfl, World.ownsRow_nil _ _ _ _, Below.refl _ _⟩
  · have h0 : 0 < n := by omega
    have h1 : ¬ (n : Int) < 0 := by omega
    have h2 : (0 : Int) < (n : Int) := by omega
    obtain ⟨cc, hcc, hcm⟩ : ∃ cc, grownCap w n 0 5 = cc ∧ cc ≤ maxLen := ⟨_, rfl, grownCap_le_maxLen _ _ _ _ (by unfold maxLen; omega)⟩
    have hcn : n ≤ cc := by rw [← hcc]; exact grownCap_ge _ _ _ _
    have hr : ∀ ty, (Builtin.append_ #[22, 3] ty #[.slice none 0 0, .int .i64 n]).run Tryd.prog w = .ok (.slice (some ⟨w.heap.size, 0, none⟩) n cc) (w.drew.alloc (.cells (Builtin.zeroCells #[.int .u8 0] n ++ Builtin.zeroCells #[.int .u8 0] (cc - n)) 5)) := by
      intro ty
      have := Lib.run_append_nil_zeros (P := Tryd.prog) w 22 3 ty 5 i0 (.int .u8 0) .i64 .i64 Tryd.underlying22 Tryd.underlying3 hi hz0 n h0 (by omega) (by omega) (by rw [hz2]; omega)
      rw [hcc] at this
      exact this
    have HR := Lib.hid hr
    clear hr
    go_enter Tryd.func35, Tryd.ntmps35
    go_wp2_with (at_builtin; refine Lib.wpList_append_run _ rfl _ _ _ _ rfl _ _ rfl rfl _ _ (HR.out _) ?_)
    go_ret
    refine ⟨_, rfl, ⟨rfl, .inr ⟨w.heap.size, cc, _, rfl, Nat.le_refl _, heap_alloc_new _ _, Nat.zero_le _, hcm, ?_, rfl⟩⟩, ((Below.refl _ _).drew).alloc (Nat.le_refl _) _⟩
    rw [Array.size_append, size_zeroCells, size_zeroCells]
    simp
    omega

set_option maxHeartbeats 1000000 in
theorem concat_any (ls : List (List Nat)) (n : Nat) (A : Option Addr) (c : Nat) (w : World) (h : Rr w A ls) (hl : ls.length = n) (hn : n ≤ 274877906944) (hs : ls.flatten.length ≤ 1099511627776) :
    Calls Tryd.prog 24 #[.slice A n c] w fun e w' => ∃ A' c' k, e = .returned (.slice A' k c') ∧ k = ls.flatten.length ∧ New w w' A' c' k ls.flatten := by
  obtain ⟨i0, hi, hz0, hz1, hz2⟩ := info_parts byte_info
  have HL := Lib.hid hl
  have HF := Lib.hid (flat_le ls)
  clear hl
  go_enter Tryd.func24, Tryd.ntmps24
  go_wp2_with fail
  go_loopw [3, 11] (fun s i wr => w = wr ∧ ∃ k q : Nat, k ≤ n ∧ i = .int .i64 k ∧ s = .int .i64 q ∧ Hid ((ls.take k).flatten.length = q)) (fun _ i _ => n - (intOf i).toNat)
  case atStart => exact ⟨rfl, 0, 0, Nat.zero_le _, rfl, rfl, Lib.hid rfl⟩
  case round =>
    obtain ⟨rfl, k, q, hk, rfl, rfl, hq⟩ := hrel
    have hq1 : q ≤ 1099511627776 := by have := HF.out k; have := hq.out; omega
    by_cases hlt : k < n
    · obtain ⟨b, o, x, A3, c3, rfl, hx, h3, h5⟩ := h.at_ (k := k) (by rw [HL.out]; exact hlt)
      have hq2 : q + x.length ≤ 1099511627776 := by have h1 := HF.out (k + 1); rw [flat_take hx, List.length_append] at h1; have := hq.out; omega
      have HQ := Lib.hid (show (ls.take (k + 1)).flatten.length = q + x.length by rw [flat_take hx, List.length_append, hq.out])
      clear hx h5
      have i1 : (0 : Int) ≤ k := by omega
      have i2 : (k : Int) < n := by omega
      have i3 : ¬ ((q : Int) + (x.length : Int) < 0) := by omega
      go_wp2_with fail
      go_roundw
      case rel => exact ⟨trivial, k + 1, q + x.length, by omega, by go_num, by go_num, HQ⟩
      case measure => simp [intOf]; omega
    · go_wp2_with fail
      refine (grow_any q _ hq1).mono ?_
      rintro e w1 ⟨v0, rfl, hown1, hB1⟩
      go_wp2_with fail
      have HQ := Lib.hid (show (ls.take n).flatten = ls.flatten by rw [List.take_of_length_le (by rw [HL.out]; exact Nat.le_refl _)])
      clear hq hq1 hlt hk
      go_loopw [6, 27] (fun v i wx => ∃ k m : Nat, k ≤ n ∧ i = .int .i64 k ∧ wx.ownsRow w.heap.size 5 1 v m (bvs (ls.take k).flatten) ∧ Below w.heap.size w wx) (fun _ i _ => n - (intOf i).toNat)
      case atStart => exact ⟨0, 0, Nat.zero_le _, rfl, hown1, hB1⟩
      case round =>
        clear hown1 hB1
        obtain ⟨k, m, hk, rfl, hown, hbel⟩ := hrel
        by_cases hlt : k < n
        · obtain ⟨b, o, x, A3, c3, rfl, hx, h3, h5⟩ := (h.on hbel).at_ (k := k) (by rw [HL.out]; exact hlt)
          have hm1 := hown.1
          rw [bvs_len] at hm1
          have hq2 : m + x.length ≤ 1099511627776 := by have h1 := HF.out (k + 1); rw [flat_take hx, List.length_append] at h1; omega
          have HE := Lib.hid (show bvs (ls.take (k + 1)).flatten = bvs (ls.take k).flatten ++ bvs x by rw [flat_take hx, bvs_app])
          have H5 := Lib.hid h5
          have hsz := hbel.size
          clear hx h5 hm1
          have i1 : (0 : Int) ≤ k := by omega
          have i2 : (k : Int) < n := by omega
          go_wp2_with (at_builtin; refine list_mv rfl _ _ 22 rfl 5 i0 (.int .u8 0) 1 1 Tryd.underlying22 hi hz0 hz1 hz2 rfl (by decide) w.heap.size _ _ _ rfl hown A3 x.length c3 (bvs x) rfl (rd_nil H5.out) (by rw [bvs_len]; omega) (rd_news H5.out) (bvs_one x) (by unfold maxLen; omega) (by omega) hsz ?_; intro v' w3 hown3 hgrow3 hmv3)
          have R := hown3
          rw [← HE.out] at R
          have R2 := hbel.grown hgrow3 hsz (fun g hg => (hown.lt g hg).1)
          go_roundw
          case rel => exact ⟨k + 1, m + x.length, by omega, by go_num, R, R2⟩
          case measure => simp [intOf]; omega
        · have he : k = n := by omega
          subst he
          rw [HQ.out] at hown
          go_wp2_with fail
          go_ret
          obtain ⟨A', c', rfl, hN⟩ := New.mk hown hbel
          exact ⟨A', c', m, rfl, by rw [hN.1], hN⟩

theorem rr_tri (w : World) (A A2 A3 : Option Addr) (l l2 l3 : List Nat) (n n2 n3 c c2 c3 : Nat) (T : TypeId) (h : Rd w w.heap.size A l) (h2 : Rd w w.heap.size A2 l2) (h3 : Rd w w.heap.size A3 l3) (e : l.length = n) (e2 : l2.length = n2) (e3 : l3.length = n3) :
    Rr (w.alloc (.cells #[.slice A n c, .slice A2 n2 c2, .slice A3 n3 c3] T)) (some ⟨w.heap.size, 0, none⟩) [l, l2, l3] := by
  subst e; subst e2; subst e3
  intro _
  have hb := (Below.refl w.heap.size w).alloc (Nat.le_refl _) (.cells #[.slice A l.length c, .slice A2 l2.length c2, .slice A3 l3.length c3] T)
  have cell : ∀ k u, (#[.slice A l.length c, .slice A2 l2.length c2, .slice A3 l3.length c3] : Array Value)[k]? = some u → (w.alloc (.cells #[.slice A l.length c, .slice A2 l2.length c2, .slice A3 l3.length c3] T)).cell? ⟨w.heap.size, 0 + k, none⟩ = some u := by
    intro k u hu
    rw [Nat.zero_add, World.cell?_alloc_at _ _ _ _ rfl]
    exact hu
  refine ⟨w.heap.size, 0, rfl, fun k x hx => ?_⟩
  match k, hx with
  | 0, hx => injection hx with hx; subst hx; exact ⟨A, c, cell 0 _ rfl, (h.below hb).more hb.size⟩
  | 1, hx => injection hx with hx; subst hx; exact ⟨A2, c2, cell 1 _ rfl, (h2.below hb).more hb.size⟩
  | 2, hx => injection hx with hx; subst hx; exact ⟨A3, c3, cell 2 _ rfl, (h3.below hb).more hb.size⟩
  | k + 3, hx => simp at hx

end Go.Proofs.YtdeabomcmbgepaaDoor
