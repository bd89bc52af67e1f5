
/-
  The walk of the statement AsyncBounds: it answers true for every map, most and list of bytes, and writes nothing that was there. No condition.
-/
import Derived.Test.YtdpkccbcfedhbaaAsyP
namespace Go.Proofs.Ytdpkccbcfedhbaa
open Go.RowKit

section
variable (m : Nat) (a : Int) (A : Option Addr) (n c : Nat) (w : World)
set_option maxHeartbeats 1000000 in
theorem abounds_out (h : a < 1 ∨ 1048576 < a ∨ 600 < n) :
    Calls Try.prog 5 #[.int .u32 (m : Int), .int .i64 a, .slice A n c] w fun e w' => e = .returned (.bool true) ∧ Below w.heap.size w w' := by
  by_cases h1 : a < 1
  · clear h
    go_enter Try.func5, Try.ntmps5
    go_wp2_with fail
    refine (speaks5_any _).mono ?_
    rintro e w1 ⟨rfl, hB1⟩
    go_wp2_with fail
    refine (speaks5_any _).mono ?_
    rintro e w2 ⟨rfl, hb2⟩
    go_wp2_with fail
    go_ret
    exact ⟨rfl, hB1.trans (hb2.mono hB1.size)⟩
  by_cases h2 : 1048576 < a
  · clear h
    go_enter Try.func5, Try.ntmps5
    go_wp2_with fail
    refine (speaks5_any _).mono ?_
    rintro e w1 ⟨rfl, hB1⟩
    go_wp2_with fail
    refine (speaks5_any _).mono ?_
    rintro e w2 ⟨rfl, hb2⟩
    go_wp2_with fail
    go_ret
    exact ⟨rfl, hB1.trans (hb2.mono hB1.size)⟩
  have h3 : (600 : Int) < (n : Int) := by omega
  clear h
  go_enter Try.func5, Try.ntmps5
  go_wp2_with fail
  refine (speaks5_any _).mono ?_
  rintro e w1 ⟨rfl, hB1⟩
  go_wp2_with fail
  refine (speaks5_any _).mono ?_
  rintro e w2 ⟨rfl, hb2⟩
  go_wp2_with fail
  go_ret
  exact ⟨rfl, hB1.trans (hb2.mono hB1.size)⟩
end

set_option maxHeartbeats 4000000 in
theorem abounds_walk (m most : Nat) (hm : m < 4294967296) (hm1 : 1 ≤ most) (hm2 : most ≤ 1048576) (l : List Nat) (A : Option Addr) (n c : Nat) (w : World) (hl : l.length = n) (hb : By l) (h : Rd w w.heap.size A l) (h4 : n ≤ 600) :
    Calls Try.prog 5 #[.int .u32 (m : Int), .int .i64 (most : Int), .slice A n c] w fun e w' => e = .returned (.bool true) ∧ Below w.heap.size w w' := by
  obtain ⟨i0, hi, hz0, hz1, hz2⟩ := info_parts byte_info
  have HL := Lib.hid hl
  have HR := Lib.hid h
  clear hl h
  have i1 : ¬ (most : Int) < 1 := by omega
  have i2 : ¬ (1048576 : Int) < (most : Int) := by omega
  have i3 : ¬ (600 : Int) < (n : Int) := by omega
  go_enter Try.func5, Try.ntmps5
  go_wp2_with fail
  refine (speaks5_any _).mono ?_
  rintro e w1 ⟨rfl, hB1⟩
  go_wp2_with fail
  refine (new_any m most _).mono ?_
  rintro e w2 ⟨b, rfl, hbb, hbl, hD, hb2⟩
  have hd2 := hD w.heap.size hB1.size
  have hB2 := hB1.trans (hb2.mono hB1.size)
  have hsz2 := hB2.size
  clear hD hb2 hB1 hbb
  go_wp2_with fail
  go_loopw [8, 41] (fun f i wr => w2 = wr ∧ ∃ k : Nat, k ≤ n ∧ i = .int .i64 k ∧ f = .int .i64 (flags (l.take k) : Nat)) (fun _ i _ => n - (intOf i).toNat)
  case atStart => exact ⟨rfl, 0, Nat.zero_le _, rfl, rfl⟩
  case round =>
    obtain ⟨rfl, k, hk, rfl, rfl⟩ := hrel
    have hfk : flags (l.take k) ≤ k := by have := flags_le (l.take k); rw [List.length_take] at this; omega
    by_cases hlt : k < n
    · obtain ⟨ba, oa, x, rfl, _, hx, hcx⟩ := (HR.out.below hB2).at_ (k := k) (by rw [HL.out]; exact hlt)
      have HE := Lib.hid (flags_take hx)
      clear hx
      have j1 : (0 : Int) ≤ k := by omega
      have j2 : (k : Int) < n := by omega
      by_cases hx : x = 126
      · subst hx
        go_wp2_with fail
        go_roundw
        case rel => exact ⟨trivial, k + 1, by omega, by go_num, by rw [HE.out, if_pos rfl]; go_num⟩
        case measure => simp [intOf]; omega
      · have hx' : ((x : Int) == 126) = false := by simp; omega
        have HX := Lib.hid hx
        clear hx
        go_wp2_with fail
        go_roundw
        case rel => exact ⟨trivial, k + 1, by omega, by go_num, by rw [HE.out, if_neg HX.out]; rfl⟩
        case measure => simp [intOf]; omega
    · have he : k = n := by omega
      subst he
      have HFl := Lib.hid (show flags (l.take k) = flags l by rw [List.take_of_length_le (by rw [HL.out]; exact Nat.le_refl _)])
      rw [HFl.out]
      rw [HFl.out] at hfk
      clear hlt hk
      go_wp2_with fail
      refine (feed_old hd2 hsz2 hm (by omega) l k A c HL.out hb (by omega) (HR.out.below hB2)).mono ?_
      rintro e w3 ⟨V3, v3, rfl, hF3⟩
      have hB3 := hB2.trans (hF3.below_ hd2 hsz2)
      have ht := hF3.tl
      generalize hT : (run m most St.start l).2 = told at ht
      have HO := Lib.hid (show told.length ≤ flags l ∧ octs told + flags l ≤ k ∧ ∀ x ∈ told, x.ok most by
        subst hT
        refine ⟨run_flags _, ?_, run_ok _ (ok_start _) hb⟩
        have := run_octs (m := m) (most := most) l (s := St.start)
        rw [HL.out] at this
        have h0 : St.start.held.length = 0 := rfl
        omega)
      obtain ⟨A3, c3, rfl, hc3, hcm⟩ := ht.shape
      have HS := Lib.hid (ht.read (n := told.length))
      have hcn : told.length ≤ 600 := by have := HO.out.1; omega
      have HC := Lib.hid (And.intro hc3 hcm)
      clear hT ht hF3 hd2 hc3 hcm
      go_wp2_with fail
      go_loopw [9, 55] (fun q i wr => Below w3.heap.size w3 wr ∧ ∃ j : Nat, j ≤ told.length ∧ i = .int .i64 j ∧ q = .int .i64 (octs (told.take j) : Nat)) (fun _ i _ => told.length - (intOf i).toNat)
      case atStart => exact ⟨Below.refl _ _, 0, Nat.zero_le _, rfl, rfl⟩
      case round =>
        obtain ⟨hbr, j, hj, rfl, rfl⟩ := hrel
        by_cases hlt : j < told.length
        · obtain ⟨b3, o3, x, A4, c4, rfl, hx, q1, q2, q3⟩ := (HS.out.on hbr).at_ (k := j) hlt
          have HX := Lib.hid (octs_take hx)
          have hok := HO.out.2.2 x (List.mem_of_getElem? hx)
          have hle : octs (told.take j) + x.2.length ≤ 600 := by
            have h1 := octs_mem told j
            have h2 := HO.out.2.1
            rw [HX.out] at h1
            omega
          clear hx q3
          have j1 : (0 : Int) ≤ j := by omega
          have j2 : (j : Int) < (told.length : Int) := by omega
          have j3 : ¬ (most : Int) < (x.2.length : Int) := by have := hok.2.1; omega
          rcases hok.2.2 with ⟨e1, e2⟩ | ⟨e1, e2, e3⟩
          · have hpos : 0 < x.2.length := by
              rcases Nat.eq_zero_or_pos x.2.length with h0 | h0
              · exact absurd (List.eq_nil_of_length_eq_zero h0) e2
              · exact h0
            have j4 : ((x.2.length : Int) == 0) = false := by simp; exact e2
            rw [e1] at q1
            have E2 := Lib.hid e2
            clear e1 e2 hok
            go_wp2_with fail
            go_roundw
            case rel => exact ⟨hbr.alloc hbr.size _, j + 1, by omega, by go_num, by rw [HX.out]; go_num⟩
            case measure => simp [intOf]; omega
          · have j4 : ((x.1 : Int) == 0) = false := by simp; exact e1
            have hz : x.2.length = 0 := by rw [e3]; rfl
            rw [hz] at q2 hle j3
            have HZ := Lib.hid hz
            have j5 : ¬ (most : Int) < 0 := by omega
            have j6 : ¬ x.1 = 0 := e1
            clear e1 e2 e3 hok hz
            go_wp2_with fail
            go_roundw
            case rel => exact ⟨hbr.alloc hbr.size _, j + 1, by omega, by go_num, by rw [HX.out, HZ.out]; go_num⟩
            case measure => simp [intOf]; omega
        · have he : j = told.length := by omega
          subst he
          have hB4 := hB3.trans (hbr.mono hB3.size)
          rw [List.take_length] at *
          have hoc := HO.out.2.1
          clear hlt hj hbr hB2 hsz2 hbl
          go_wp2_with fail
          refine (new_any m most _).mono ?_
          rintro e w5 ⟨b5, rfl, hbb5, hbl5, hD5, hb5⟩
          have hd5 := hD5 w.heap.size hB4.size
          have hB5 := hB4.trans (hb5.mono hB4.size)
          clear hD5 hb5
          have hown5 : (w5.alloc (.cells #[.int .u8 126] 5)).ownsRow w.heap.size 5 1 (.slice (some ⟨w5.heap.size, 0, none⟩) 1 1) 1 (bvs [126]) := World.ownsRow_lit w5 _ 1 hB5.size (by unfold maxLen; omega) rfl
          have hB6 := hB5.alloc hB5.size (.cells #[.int .u8 126] 5)
          have hb56 := (Below.refl w5.heap.size w5).alloc (Nat.le_refl _) (.cells #[.int .u8 126] 5)
          have hr6 := (HR.out.below hB6).more hB6.size
          go_wp2_with (at_builtin; refine list_mv rfl _ _ 28 rfl 5 i0 (.int .u8 0) 1 1 Try.underlying28 hi hz0 hz1 hz2 rfl (by decide) w.heap.size _ _ _ rfl hown5 A l.length c (bvs l) (by rw [HL.out]; rfl) (rd_nil hr6) (by rw [bvs_len]; omega) (rd_news hr6) (bvs_one l) (by have := HL.out; unfold maxLen; omega) (by have := HL.out; omega) hB6.size ?_; intro v7 w7 hown7 hgrow7 hmv7)
          have hBy7 : By ([126] ++ l) := By.app (by intro x hx; rw [List.mem_singleton] at hx; omega) hb
          have hown7' : w7.ownsRow w.heap.size 5 1 v7 (1 + l.length) (bvs ([126] ++ l)) := by rw [bvs_app]; exact hown7
          have hb67 := (Offs.of_grown (X := fun i => i = w5.heap.size) hgrow7 (fun k hk => by injection hk with hk; exact hk.symm))
          have hd7 := hd5.off ((Offs.of_below (X := fun i => i = w5.heap.size) hb56).trans hb67 (fun _ h => h) (fun _ _ h => h)) (by intro h; omega) (fun g hg => by cases hg)
          have hB7 := hB6.grown hgrow7 hB6.size (fun g hg => (hown5.lt g hg).1)
          have hb57 := (Below.trans hb56 (hb67.below (B := w5.heap.size) (fun i hi h => by omega) hb56.size))
          obtain ⟨A7, c7, rfl, _, _⟩ := own_form hown7'
          have hl7 : ([126] ++ l).length = 1 + l.length := by rw [List.length_append]; rfl
          have hs7 : 1 + l.length ≤ 601 := by have := HL.out; omega
          have HL7 := Lib.hid hl7
          have hr7 := Rd.own hown7'
          have HB7 := Lib.hid hBy7
          have HN7 := Lib.hid hown7'
          have hb5l : b5 < w7.heap.size := by have := hb57.size; omega
          clear hown7 hgrow7 hmv7 hown5 hb56 hr6 hl7 hBy7 hown7' hb67
          refine (left_any m hm ([126] ++ l) (1 + l.length) A7 c7 w7 hr7 HB7.out HL7.out (by omega)).mono ?_
          rintro e w8 ⟨A8, c8, k8, rfl, hk8, hl8, ho8, hr8, hb8⟩
          have hB8 := hB7.trans (hb8.mono hB7.size)
          have hd8 := hd7.below hb8
          have HN8 := Lib.hid (own_off (X := fun _ => False) HN7.out (.of_below hb8) (fun _ _ => id))
          have HK8 := Lib.hid (own_lo ho8 (show w.heap.size ≤ w7.heap.size from hB7.size))
          have hb5l8 : b5 < w8.heap.size := by have := hb8.size; omega
          have HL8 := Lib.hid hl8
          have hb58 := hb57.trans (hb8.mono hb57.size)
          clear hl8 ho8 hr8 hb8 hr7 hd7 hb57 hB7 hb5l
          go_wp2_with fail
          refine (new_any m most _).mono ?_
          rintro e w9 ⟨b9, rfl, hbb9, hbl9, hD9, hb9⟩
          have hd9 := hD9 w.heap.size hB8.size
          have hB9 := hB8.trans (hb9.mono hB8.size)
          have hd59 := hd8.below hb9
          have HN9 := Lib.hid (own_off (X := fun _ => False) HN8.out (.of_below hb9) (fun _ _ => id))
          have HK9 := Lib.hid (own_off (X := fun _ => False) HK8.out (.of_below hb9) (fun _ _ => id))
          have hne : b5 ≠ b9 := by omega
          clear hD9 hb9 hd8
          have f1 : (told.length : Int) ≤ (flags l : Nat) := by have := HO.out.1; omega
          have f2 : ((octs told : Nat) : Int) + (flags l : Nat) ≤ (k : Int) := by omega
          have f3 : flags l ≤ 600 := by omega
          have f4 : octs told ≤ 600 := by omega
          go_wp2_with fail
          refine (feed_own hd59 hB9.size hm (by omega) ([126] ++ l) _ _ _ HB7.out (by omega) HN9.out (fun g _ h => by cases h)).mono ?_
          rintro e w10 ⟨V10, v10, rfl, hF10⟩
          have hB10 := hB9.trans (hF10.below_ hd59 hB9.size)
          have hd10 := hd9.fed hd59 hF10.off (fun h => hne h.symm) (fun g hg => by cases hg)
          have hk10 := own_off HK9.out hF10.off (by
            rintro g hg (rfl | h)
            · exact hd59.cells.own_ne HK9.out (by decide) hg
            · cases h)
          have ht10 := hF10.tl
          generalize hT : (run m most St.start ([126] ++ l)).2 = told2 at ht10
          obtain ⟨A10, c10, rfl, hc10, hcm10⟩ := ht10.shape
          have HT2 := Lib.hid hT
          clear hT hF10
          go_wp2_with fail
          refine (feed_own hd10 hB10.size hm (by omega) (leftB m ([126] ++ l)) _ _ _ (leftB_by HB7.out) (by omega) hk10 (fun g _ h => by cases h)).mono ?_
          rintro e w11 ⟨V11, v11, rfl, hF11⟩
          have hB11 := hB10.trans (hF11.below_ hd10 hB10.size)
          have ht11 := hF11.tl
          rw [run_left, HT2.out] at ht11
          have ht10' := (ht10.fed (by decide) (by decide) hd10 hF11.off (fun g _ h => by cases h)).read (n := told2.length)
          obtain ⟨A11, c11, rfl, hc11, hcm11⟩ := ht11.shape
          have hr11 := ht11.read (n := told2.length)
          have hsz2 : told2.length ≤ 601 ∧ ∀ x ∈ told2, x.2.length ≤ most := by
            rw [← HT2.out]
            refine ⟨Nat.le_trans (run_flags _) (Nat.le_trans (flags_le _) (by have := HL7.out; omega)), fun x hx => (run_ok _ (ok_start _) HB7.out x hx).2.1⟩
          clear hF11 ht10 ht11
          go_wp2_with fail
          refine (same_yes told2 told2.length A10 A11 c10 c11 w11 ht10' hr11 rfl (by omega) (fun x hx => by have := hsz2.2 x hx; omega)).mono ?_
          rintro e w12 ⟨rfl, hb12⟩
          have hB12 := hB11.trans (hb12.mono hB11.size)
          go_wp2_with fail
          go_ret
          exact ⟨rfl, hB12⟩

end Go.Proofs.Ytdpkccbcfedhbaa
