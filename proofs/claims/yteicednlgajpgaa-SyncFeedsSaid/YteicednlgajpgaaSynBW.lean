
/-
  The walk of the statement SyncBounds: it answers true for every most, list of bytes and choice, and writes nothing that was there. No condition.
-/
import Derived.Test.YteicednlgajpgaaSynP
namespace Go.Proofs.Yteicednlgajpgaa
open Go.RowKit

section
variable (a : Int) (A : Option Addr) (n c : Nat) (q : Bool) (w : World)
set_option maxHeartbeats 1000000 in
theorem sbounds_out (h : a < 1 ∨ 1048576 < a ∨ 900 < n) :
    Calls Try.prog 6 #[.int .i64 a, .slice A n c, .bool q] w fun e w' => e = .returned (.bool true) ∧ Below w.heap.size w w' := by
  by_cases h1 : a < 1
  · clear h
    go_enter Try.func6, Try.ntmps6
    go_wp2_with fail
    refine (speaks7_any _).mono ?_
    rintro e w1 ⟨rfl, hB1⟩
    go_wp2_with fail
    refine (speaks7_any _).mono ?_
    rintro e w2 ⟨rfl, hb2⟩
    go_wp2_with fail
    go_ret
    exact ⟨rfl, hB1.trans (hb2.mono hB1.size)⟩
  by_cases h2 : 1048576 < a
  · clear h
    go_enter Try.func6, Try.ntmps6
    go_wp2_with fail
    refine (speaks7_any _).mono ?_
    rintro e w1 ⟨rfl, hB1⟩
    go_wp2_with fail
    refine (speaks7_any _).mono ?_
    rintro e w2 ⟨rfl, hb2⟩
    go_wp2_with fail
    go_ret
    exact ⟨rfl, hB1.trans (hb2.mono hB1.size)⟩
  have h3 : (900 : Int) < (n : Int) := by omega
  clear h
  go_enter Try.func6, Try.ntmps6
  go_wp2_with fail
  refine (speaks7_any _).mono ?_
  rintro e w1 ⟨rfl, hB1⟩
  go_wp2_with fail
  refine (speaks7_any _).mono ?_
  rintro e w2 ⟨rfl, hb2⟩
  go_wp2_with fail
  go_ret
  exact ⟨rfl, hB1.trans (hb2.mono hB1.size)⟩
end

theorem Rd.dropAt {w : World} {B b o : Nat} {l : List Nat} (h : Rd w B (some ⟨b, o, none⟩) l) (f : Nat) : Rd w B (some ⟨b, o + f, none⟩) (l.drop f) := by
  intro hl
  rw [List.length_drop] at hl
  obtain ⟨b', off, e, hb, hc⟩ := h (by omega)
  injection e with e
  injection e with e1 e2 _
  subst e1; subst e2
  refine ⟨_, _, rfl, hb, fun j x hx => ?_⟩
  rw [Nat.add_assoc]
  exact hc (f + j) x (by rw [← List.getElem?_drop]; exact hx)

theorem flag_at (w : World) : Calls Try.prog 15 #[] w fun e w' => ∃ g c, e = .returned (.slice (some ⟨g, 0, none⟩) 8 c) ∧ 8 ≤ c ∧ w.heap.size ≤ g ∧ New w w' (some ⟨g, 0, none⟩) c 8 flagL :=
  (flag_any w).mono fun e w' ⟨A, c, he, hN⟩ => by
    obtain ⟨g, cap, hv⟩ := own_some hN.2.1 (by omega)
    injection hv with hA _ hc
    subst hA; subst hc
    obtain ⟨A', c', hv', h1, _⟩ := own_shape hN.2.1
    injection hv' with _ _ hc'
    subst hc'
    exact ⟨g, c, he, h1, (hN.2.1.lt g rfl).1, hN⟩

set_option maxHeartbeats 4000000 in
theorem sbounds_walk (most : Nat) (hm1 : 1 ≤ most) (hm2 : most ≤ 1048576) (l : List Nat) (A : Option Addr) (n c : Nat) (q : Bool) (w : World) (hl : l.length = n) (hb : By l) (h : Rd w w.heap.size A l) (h4 : n ≤ 900) :
    Calls Try.prog 6 #[.int .i64 (most : Int), .slice A n c, .bool q] w fun e w' => e = .returned (.bool true) ∧ Below w.heap.size w w' := by
  have HL := Lib.hid hl
  have HR := Lib.hid h
  clear hl h
  have i1 : ¬ (most : Int) < 1 := by omega
  have i2 : ¬ (1048576 : Int) < (most : Int) := by omega
  have i3 : ¬ (900 : Int) < (n : Int) := by omega
  go_enter Try.func6, Try.ntmps6
  go_wp2_with fail
  refine (speaks7_any _).mono ?_
  rintro e w1 ⟨rfl, hB1⟩
  go_wp2_with fail
  refine (new_any most _).mono ?_
  rintro e w2 ⟨b, rfl, hbb, hbl, hD, hb2⟩
  have hd2 := hD w.heap.size hB1.size
  have hB2 := hB1.trans (hb2.mono hB1.size)
  have hsz2 := hB2.size
  clear hD hb2 hB1 hbb
  go_wp2_with fail
  refine (feed_any hd2 hsz2 (by omega) l n A c HL.out hb (by show 0 + n ≤ _; omega) ((HR.out.below hB2).more hsz2)).mono ?_
  rintro e w3 ⟨U1, U2, v3, rfl, hF3⟩
  have hB3 := hB2.trans (hF3.below_ hd2 hsz2)
  have ht := hF3.tl
  have hd3 := hF3.df
  have htot3 : (run most St.start l).1.tot ≤ 900 := by
    have := run_tot (most := most) l (s := St.start)
    rw [HL.out] at this
    have h0 : St.start.tot = 0 := rfl
    omega
  generalize hT : (run most St.start l).2 = told at ht
  have HO := Lib.hid (show told.length ≤ n ∧ 8 * octs told ≤ n ∧ ∀ x ∈ told, x.ok most by
    subst hT
    refine ⟨by have := run_told (most := most) l (s := St.start); rw [HL.out] at this; exact this, ?_, run_ok _ (ok_start _)⟩
    have := run_octs (most := most) l (s := St.start) (ok_start _)
    rw [HL.out] at this
    have h0 : St.start.tot = 0 := rfl
    omega)
  obtain ⟨A3, c3, rfl, hc3, hcm⟩ := ht.shape
  have HS := Lib.hid (ht.read (n := told.length))
  have hcn : told.length ≤ 900 := by have := HO.out.1; omega
  have HC := Lib.hid (And.intro hc3 hcm)
  clear hT ht hF3 hd2 hc3 hcm
  go_wp2_with fail
  go_loopw [8, 36] (fun q i wr => Below w3.heap.size w3 wr ∧ ∃ j : Nat, j ≤ told.length ∧ i = .int .i64 j ∧ q = .int .i64 (octs (told.take j) : Nat)) (fun _ i _ => told.length - (intOf i).toNat)
  case atStart => exact ⟨Below.refl _ _, 0, Nat.zero_le _, rfl, rfl⟩
  case round =>
    obtain ⟨hbr, j, hj, rfl, rfl⟩ := hrel
    by_cases hlt : j < told.length
    · obtain ⟨b3, o3, x, A4, c4, rfl, hx, q1, q2, q3⟩ := (HS.out.on hbr).at_ (k := j) hlt
      have HX := Lib.hid (octs_take hx)
      have hok := HO.out.2.2 x (List.mem_of_getElem? hx)
      have hle : octs (told.take j) + x.2.length ≤ 900 := by
        have h1 := octs_mem told j
        have h2 := HO.out.2.1
        rw [HX.out] at h1
        omega
      clear hx q3
      have j1 : (0 : Int) ≤ j := by omega
      have j2 : (j : Int) < (told.length : Int) := by omega
      have j3 : ¬ (most : Int) < (x.2.length : Int) := by have := hok.2.1; omega
      rcases hok.2.2 with e1 | ⟨e1, e2, e3⟩
      · rw [e1] at q1
        clear e1 hok
        go_wp2_with fail
        go_roundw
        case rel => exact ⟨hbr.alloc hbr.size _, j + 1, by omega, by go_num, by rw [HX.out]; go_num⟩
        case measure => simp [intOf]; omega
      · have j4 : ((x.1 : Int) == 0) = false := by simp; exact e1
        have hz : x.2.length = 0 := by rw [e3]; rfl
        rw [hz] at q2 hle j3
        have HZ := Lib.hid hz
        have j5 : ¬ (most : Int) < 0 := by omega
        have j6 : ¬ x.1 = 0 := e1
        clear e1 e2 e3 hok hz
        go_wp2_with fail
        go_roundw
        case rel => exact ⟨hbr.alloc hbr.size _, j + 1, by omega, by go_num, by rw [HX.out, HZ.out]; go_num⟩
        case measure => simp [intOf]; omega
    · have he : j = told.length := by omega
      subst he
      have hB4 := hB3.trans (hbr.mono hB3.size)
      have hd4 := hd3.below hbr
      rw [List.take_length] at *
      have hoc := HO.out.2.1
      clear hlt hj hbr hB2 hsz2 hbl hd3
      go_wp2_with fail
      refine (flag_any wr).mono ?_
      rintro e w5 ⟨A5, c5, rfl, -, -, hr5, hb5⟩
      have hd5 := hd4.below hb5
      have hB5 := hB4.trans (hb5.mono hB4.size)
      clear hb5 hd4
      go_wp2_with fail
      refine (feed_any hd5 hB5.size (by omega) flagL 8 A5 c5 rfl flagL_by (by omega) hr5).mono ?_
      rintro e w6 ⟨X1, X2, v6, rfl, hF6⟩
      have hB6 := hB5.trans (hF6.below_ hd5 hB5.size)
      have hd6 := hF6.df
      have hrf := Lib.hid (run_flag most (run most St.start l).1)
      rw [hrf.out] at hd6
      obtain ⟨A6, c6, rfl, _, _⟩ := hF6.tl.shape
      clear hF6 hd5 hr5 hB5 htot3
      go_wp2_with fail
      refine (flag_at w6).mono ?_
      rintro e w7 ⟨g7, c7, rfl, hcap, hg7, -, ho7, hr7, hb7⟩
      have hd7 := hd6.below hb7
      have hB7 := hB6.trans (hb7.mono hB6.size)
      have hne7 : X1.ownBlock ≠ some g7 ∧ X2.ownBlock ≠ some g7 := ⟨fun e => by have := (hd6.own1.lt g7 e).2; omega, fun e => by have := (hd6.own2.lt g7 e).2; omega⟩
      have HO7 := Lib.hid ho7
      have HN7 := Lib.hid hne7
      have j0 : (1 : Int) ≤ c7 := by omega
      have j1 : (8 : Int) ≤ c7 := by omega
      have j2 : ¬ c7 = 1 := by omega
      have k1 : 8 * ((octs told : Nat) : Int) ≤ (n : Int) := by omega
      have k2 : octs told ≤ 900 := by omega
      clear hb7 hd6 ho7 hne7
      have hr7' := hr7.dropAt 1
      cases q
      · go_wp2_with fail
        refine (feed_any hd7 hB7.size (by omega) flagL 8 _ _ rfl flagL_by (by show 0 + 8 ≤ _; omega) hr7).mono ?_
        rintro e w8 ⟨Y1, Y2, v8, rfl, hF8⟩
        have hB8 := hB7.trans (hF8.below_ hd7 hB7.size)
        have ho8 := own_fed HO7.out hd7 hF8.off (fun g hg => by injection hg with hg; subst hg; exact HN7.out)
        have hd8 := hF8.df
        have ht8 := hF8.tl
        have hrf := Lib.hid (run_flag0 most)
        rw [hrf.out] at hd8 ht8
        obtain ⟨A8, c8, rfl, _, _⟩ := ht8.shape
        have hr8 := Rd.own ho8
        clear hF8 ht8 hd7 hr7 hB7
        go_wp2_with fail
        refine (feed_any hd8 hB8.size (by omega) flagL 8 _ _ rfl flagL_by (by show 0 + 8 ≤ _; omega) hr8).mono ?_
        rintro e w9 ⟨Z1, Z2, v9, rfl, hF9⟩
        have hB9 := hB8.trans (hF9.below_ hd8 hB8.size)
        have ht9 := hF9.tl
        rw [hrf.out] at ht9
        obtain ⟨A9, c9, rfl, _, _⟩ := ht9.shape
        go_wp2_with fail
        go_ret
        exact ⟨rfl, hB9⟩
      · go_wp2_with fail
        refine (feed_any hd7 hB7.size (by omega) [1, 1, 1, 1, 1, 1, 0] 7 (some ⟨g7, 1, none⟩) (c7 - 1) rfl (by intro x hx; simp at hx; omega) (by show 0 + 7 ≤ _; omega) hr7').mono ?_
        rintro e w8 ⟨Y1, Y2, v8, rfl, hF8⟩
        have hB8 := hB7.trans (hF8.below_ hd7 hB7.size)
        have ho8 := own_fed HO7.out hd7 hF8.off (fun g hg => by injection hg with hg; subst hg; exact HN7.out)
        have hd8 := hF8.df
        have ht8 := hF8.tl
        have hrf := Lib.hid (run_flag1 most)
        rw [hrf.out] at hd8 ht8
        obtain ⟨A8, c8, rfl, _, _⟩ := ht8.shape
        have hr8 := (Rd.own ho8).dropAt 1
        clear hF8 ht8 hd7 hr7 hB7
        go_wp2_with fail
        refine (feed_any hd8 hB8.size (by omega) [1, 1, 1, 1, 1, 1, 0] 7 (some ⟨g7, 1, none⟩) (c7 - 1) rfl (by intro x hx; simp at hx; omega) (by show 0 + 7 ≤ _; omega) hr8).mono ?_
        rintro e w9 ⟨Z1, Z2, v9, rfl, hF9⟩
        have hB9 := hB8.trans (hF9.below_ hd8 hB8.size)
        have ht9 := hF9.tl
        rw [hrf.out] at ht9
        obtain ⟨A9, c9, rfl, _, _⟩ := ht9.shape
        go_wp2_with fail
        go_ret
        exact ⟨rfl, hB9⟩

end Go.Proofs.Yteicednlgajpgaa
