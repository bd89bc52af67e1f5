
/-
  The walk of the statement AsyncKeeps: it answers true for every map, most and two lists of bytes, and writes nothing that was there. No condition.
-/
import Derived.Test.YtdpkccbcfedhbaaAsyP
import Derived.Deep.RegionHeld3
namespace Go.Proofs.Ytdpkccbcfedhbaa
open Go.RowKit

section
variable (m : Nat) (a : Int) (A : Option Addr) (n c : Nat) (A2 : Option Addr) (n2 c2 : Nat) (w : World)
set_option maxHeartbeats 1000000 in
theorem akeeps_out (h : a < 1 ∨ 1048576 < a ∨ 300 < n ∨ 300 < n2) :
    Calls Try.prog 6 #[.int .u32 (m : Int), .int .i64 a, .slice A n c, .slice A2 n2 c2] w fun e w' => e = .returned (.bool true) ∧ Below w.heap.size w w' := by
  by_cases h1 : a < 1
  · clear h
    go_enter Try.func6, Try.ntmps6
    go_wp2_with fail
    refine (speaks5_any _).mono ?_
    rintro e w1 ⟨rfl, hB1⟩
    go_wp2_with fail
    refine (speaks5_any _).mono ?_
    rintro e w2 ⟨rfl, hb2⟩
    go_wp2_with fail
    go_ret
    exact ⟨rfl, hB1.trans (hb2.mono hB1.size)⟩
  by_cases h2 : 1048576 < a
  · clear h
    go_enter Try.func6, Try.ntmps6
    go_wp2_with fail
    refine (speaks5_any _).mono ?_
    rintro e w1 ⟨rfl, hB1⟩
    go_wp2_with fail
    refine (speaks5_any _).mono ?_
    rintro e w2 ⟨rfl, hb2⟩
    go_wp2_with fail
    go_ret
    exact ⟨rfl, hB1.trans (hb2.mono hB1.size)⟩
  by_cases h3 : (300 : Int) < (n : Int)
  · clear h
    go_enter Try.func6, Try.ntmps6
    go_wp2_with fail
    refine (speaks5_any _).mono ?_
    rintro e w1 ⟨rfl, hB1⟩
    go_wp2_with fail
    refine (speaks5_any _).mono ?_
    rintro e w2 ⟨rfl, hb2⟩
    go_wp2_with fail
    go_ret
    exact ⟨rfl, hB1.trans (hb2.mono hB1.size)⟩
  have h4 : (300 : Int) < (n2 : Int) := by omega
  clear h
  go_enter Try.func6, Try.ntmps6
  go_wp2_with fail
  refine (speaks5_any _).mono ?_
  rintro e w1 ⟨rfl, hB1⟩
  go_wp2_with fail
  refine (speaks5_any _).mono ?_
  rintro e w2 ⟨rfl, hb2⟩
  go_wp2_with fail
  go_ret
  exact ⟨rfl, hB1.trans (hb2.mono hB1.size)⟩
end

set_option maxHeartbeats 4000000 in
theorem akeeps_walk (m most : Nat) (hm : m < 4294967296) (hm1 : 1 ≤ most) (hm2 : most ≤ 1048576) (l l2 : List Nat) (A : Option Addr) (n c : Nat) (A2 : Option Addr) (n2 c2 : Nat) (w : World) (hl : l.length = n) (hb : By l) (h : Rd w w.heap.size A l) (hl2 : l2.length = n2) (hb2 : By l2) (h2 : Rd w w.heap.size A2 l2) (h4 : n ≤ 300) (h5 : n2 ≤ 300) :
    Calls Try.prog 6 #[.int .u32 (m : Int), .int .i64 (most : Int), .slice A n c, .slice A2 n2 c2] w fun e w' => e = .returned (.bool true) ∧ Below w.heap.size w w' := by
  obtain ⟨i0, hi, hz0, hz1, hz2⟩ := info_parts byte_info
  obtain ⟨i9, hi9, hz90, hz91, hz92⟩ := info_parts seg_info
  have HL := Lib.hid hl
  have HR := Lib.hid h
  have HL2 := Lib.hid hl2
  have HR2 := Lib.hid h2
  clear hl h hl2 h2
  have i1 : ¬ (most : Int) < 1 := by omega
  have i2 : ¬ (1048576 : Int) < (most : Int) := by omega
  have i3 : ¬ (300 : Int) < (n : Int) := by omega
  have i4 : ¬ (300 : Int) < (n2 : Int) := by omega
  go_enter Try.func6, Try.ntmps6
  go_wp2_with fail
  refine (speaks5_any _).mono ?_
  rintro e w1 ⟨rfl, hB1⟩
  go_wp2_with fail
  refine (new_any m most _).mono ?_
  rintro e w2 ⟨b, rfl, hbb, hbl, hD, hb2'⟩
  have hd2 := hD w.heap.size hB1.size
  have hB2 := hB1.trans (hb2'.mono hB1.size)
  clear hD hb2' hB1 hbb i1 i2 i3 i4
  have hown2 : (w2.alloc (.cells #[] 5)).ownsRow w.heap.size 5 1 (.slice (some ⟨w2.heap.size, 0, none⟩) 0 0) 0 (bvs []) := World.ownsRow_lit w2 _ 0 hB2.size (by unfold maxLen; omega) rfl
  have hB3 := hB2.alloc hB2.size (.cells #[] 5)
  have hb23 := (Below.refl w2.heap.size w2).alloc (Nat.le_refl _) (.cells #[] 5)
  have hr3 := (HR.out.below hB3).more hB3.size
  go_wp2_with (at_builtin; refine list_mv rfl _ _ 28 rfl 5 i0 (.int .u8 0) 1 1 Try.underlying28 hi hz0 hz1 hz2 rfl (by decide) w.heap.size _ _ _ rfl hown2 A l.length c (bvs l) (by rw [HL.out]; rfl) (rd_nil hr3) (by rw [bvs_len]; omega) (rd_news hr3) (bvs_one l) (by have := HL.out; unfold maxLen; omega) (by have := HL.out; omega) hB3.size ?_; intro v4 w4 hown4 hgrow4 hmv4)
  have hb34 := (Offs.of_grown (X := fun i => i = w2.heap.size) hgrow4 (fun k hk => by injection hk with hk; exact hk.symm))
  have hd4 := hd2.off ((Offs.of_below (X := fun i => i = w2.heap.size) hb23).trans hb34 (fun _ h => h) (fun _ _ h => h)) (by intro h; omega) (fun g hg => by cases hg)
  have hB4 := hB3.grown hgrow4 hB3.size (fun g hg => (hown2.lt g hg).1)
  rw [show bvs ([] : List Nat) ++ bvs l = bvs l from rfl, Nat.zero_add] at hown4
  obtain ⟨A4, c4, rfl, _, _⟩ := own_form hown4
  have hln : l.length ≤ 300 := by have := HL.out; omega
  clear hgrow4 hmv4 hown2 hb23 hr3 hb34 hd2 hB2 hB3
  refine (feed_own hd4 hB4.size hm (by omega) l _ _ _ hb (by omega) hown4 (fun g _ h => by cases h)).mono ?_
  rintro e w5 ⟨V5, v5, rfl, hF5⟩
  have hB5 := hB4.trans (hF5.below_ hd4 hB4.size)
  have hd5 := hF5.df
  have ho5 := own_off hown4 hF5.off (by
    rintro g hg (rfl | h)
    · exact hd4.cells.own_ne hown4 (by decide) hg
    · cases h)
  have hne5 : ∀ g, (Value.slice A4 l.length c4).ownBlock = some g → V5.ownBlock ≠ some g := by
    intro g hg hv
    rcases hF5.mv g hv with h1 | h1
    · cases h1
    · have := (hown4.lt g hg).2; omega
  have ht5 := hF5.tl.mono (F' := fun g => V5.ownBlock ≠ some g) (fun g h => h.2)
  generalize hT : (run m most St.start l).2 = told at ht5
  have HT := Lib.hid (show told.length ≤ 300 ∧ ∀ x ∈ told, x.ok most by
    subst hT
    exact ⟨Nat.le_trans (run_flags _) (Nat.le_trans (flags_le _) hln), run_ok _ (ok_start _) hb⟩)
  obtain ⟨A5, c5, rfl, hc5, hcm5⟩ := ht5.shape
  have HS := Lib.hid (ht5.read (n := told.length))
  have HT5 := Lib.hid ht5
  have HD5 := Lib.hid hd5
  have HO5 := Lib.hid ho5
  have hcn : told.length ≤ 300 := HT.out.1
  have HC := Lib.hid (And.intro hc5 hcm5)
  clear hT ht5 hF5 hd4 hd5 ho5 hc5 hcm5 hown4 hB4
  go_wp2_with fail
  go_loopw [12, 49] (fun v i wr => Below w5.heap.size w5 wr ∧ ∃ j : Nat, j ≤ told.length ∧ i = .int .i64 j ∧ Tl w5.heap.size wr 39 (fun g => w5.heap.size ≤ g) v (told.take j)) (fun _ i _ => told.length - (intOf i).toNat)
  case atStart => exact ⟨Below.refl _ _, 0, Nat.zero_le _, rfl, Tl.nil _ _ _ _⟩
  case round =>
    obtain ⟨hbr, j, hj, rfl, htl⟩ := hrel
    by_cases hlt : j < told.length
    · obtain ⟨b3, o3, x, A6, c6, rfl, hx, q1, q2, q3⟩ := (HS.out.on hbr).at_ (k := j) hlt
      have HX := Lib.hid (show told.take (j + 1) = told.take j ++ [x] by rw [List.take_add_one, hx]; rfl)
      have hok := HT.out.2 x (List.mem_of_getElem? hx)
      obtain ⟨A7, c7, rfl, hc7, _⟩ := htl.shape
      obtain ⟨vs, hvs, hown, hds⟩ := htl
      have hlj : (told.take j).length = j := by rw [List.length_take]; omega
      rw [hlj] at hown
      have HNE : some wr.heap.size ≠ (Value.slice A7 (told.take j).length c7).ownBlock := by
        rw [hlj]; intro h; have := (hown.lt _ h.symm).2; omega
      rw [hlj] at HNE
      have HNE' := Lib.hid HNE
      clear hx HNE
      have j1 : (0 : Int) ≤ j := by omega
      have j2 : (j : Int) < (told.length : Int) := by omega
      go_wp2_with fail
      have hb6 := (Below.refl wr.heap.size wr).alloc (Nat.le_refl _) (.cells #[.int .i64 (x.1 : Nat), .slice A6 x.2.length c6] 39)
      have hS6 : (wr.alloc (.cells #[.int .i64 (x.1 : Nat), .slice A6 x.2.length c6] 39)).cell? ⟨wr.heap.size, 0, none⟩ = some (.int .i64 (x.1 : Nat)) ∧ (wr.alloc (.cells #[.int .i64 (x.1 : Nat), .slice A6 x.2.length c6] 39)).cell? ⟨wr.heap.size, 1, none⟩ = some (.slice A6 x.2.length c6) := by
        constructor
        · rw [World.cell?_alloc_at _ _ _ _ rfl]; rfl
        · rw [World.cell?_alloc_at _ _ _ _ rfl]; rfl
      have hs6 : (wr.alloc (.cells #[.int .i64 (x.1 : Nat), .slice A6 x.2.length c6] 39)).heap.size = wr.heap.size + 1 := by simp
      generalize wr.alloc (.cells #[.int .i64 (x.1 : Nat), .slice A6 x.2.length c6] 39) = w6 at hb6 hS6 hs6 ⊢
      obtain ⟨f0, f1⟩ := hS6
      have hbE := ((Below.refl w6.heap.size w6).alloc (Nat.le_refl _) (.cells #[] 5)).drew
      have hE : (w6.alloc (.cells #[] 5)).drew.ownsRow w6.heap.size 5 1 (.slice (some ⟨w6.heap.size, 0, none⟩) 0 0) 0 (bvs []) := World.ownsRow_lit w6 _ 0 (Nat.le_refl _) (by unfold maxLen; omega) rfl
      have hSE : (w6.alloc (.cells #[] 5)).drew.cell? ⟨wr.heap.size, 0, none⟩ = some (.int .i64 (x.1 : Nat)) ∧ (w6.alloc (.cells #[] 5)).drew.cell? ⟨wr.heap.size, 1, none⟩ = some (.slice A6 x.2.length c6) :=
        ⟨(hbE.cell (p := ⟨wr.heap.size, 0, none⟩) (by show wr.heap.size < _; omega)).trans f0, (hbE.cell (p := ⟨wr.heap.size, 1, none⟩) (by show wr.heap.size < _; omega)).trans f1⟩
      obtain ⟨g0, g1⟩ := hSE
      have q3E := ((q3.below hb6).more hb6.size).on hbE
      have HQ := Lib.hid q3E
      have HE := Lib.hid hE
      have HBE := Lib.hid hbE
      have HOWN := Lib.hid hown
      have HDS := Lib.hid hds
      have HVS := Lib.hid hvs
      have HOK := Lib.hid hok
      have HS6 := Lib.hid hs6
      have HB6 := Lib.hid hb6
      have HLJ := Lib.hid hlj
      have hxl : x.2.length ≤ 1048576 := by have := hok.2.1; omega
      clear q3E hE hbE hown hds hvs hok hs6 hb6 hlj q1 q2 q3
      have hsE : w6.heap.size ≤ (w6.alloc (.cells #[] 5)).drew.heap.size := HBE.out.size
      have HSE := Lib.hid hsE
      clear hsE
      go_region_held3 (fun W => W.cell? ⟨wr.heap.size, 0, none⟩ = some (.int .i64 (x.1 : Nat)) ∧ W.cell? ⟨wr.heap.size, 1, none⟩ = some (.slice A6 x.2.length c6)) (first | exact ⟨f0, f1⟩ | exact ⟨g0, g1⟩ | exact s7 | exact s7a | exact s8) (first
        | (have _g := g0; clear _g; (refine step_mv _ (by rfl) _ _ _ (by rfl) _ i0 (.int .u8 0) 1 1 Try.underlying28 hi hz0 hz1 hz2 (by rfl) (by decide) w6.heap.size _ 0 (bvs []) (by rfl) HE.out A6 x.2.length c6 (bvs x.2) (by rfl) (rd_nil HQ.out) (by rw [bvs_len]; omega) (rd_news HQ.out) (bvs_one _) (by unfold maxLen; omega) (by omega) HSE.out ?_); intro v7 w7 ho7 hg7 hm7; rw [Nat.zero_add, show bvs ([] : List Nat) ++ bvs x.2 = bvs x.2 from rfl] at ho7; obtain ⟨A8, c8, rfl, _, _⟩ := own_form ho7; have hb7 := HBE.out.grown hg7 HSE.out (fun k hk => by injection hk with hk; exact Nat.le_of_eq hk); have hb7r := HB6.out.trans (hb7.mono HB6.out.size); have s7 := And.intro ((hb7.cell (p := ⟨wr.heap.size, 0, none⟩) (by show wr.heap.size < _; rw [HS6.out]; omega)).trans f0) ((hb7.cell (p := ⟨wr.heap.size, 1, none⟩) (by show wr.heap.size < _; rw [HS6.out]; omega)).trans f1); have HO7 := Lib.hid ho7; have HB7 := Lib.hid hb7r; have HW7 := Lib.hid (own_off (X := fun _ => False) HOWN.out (.of_below hb7r) (fun _ _ => id)); have hbA := (Below.refl w7.heap.size w7).alloc (Nat.le_refl _) (.cells #[.int .i64 (x.1 : Nat), .slice A8 x.2.length c8] 39); have s7a := And.intro ((hbA.cell (p := ⟨wr.heap.size, 0, none⟩) (by show wr.heap.size < _; have := hb7.size; rw [HS6.out] at this; omega)).trans s7.1) ((hbA.cell (p := ⟨wr.heap.size, 1, none⟩) (by show wr.heap.size < _; have := hb7.size; rw [HS6.out] at this; omega)).trans s7.2); have HWA := Lib.hid (own_off (X := fun _ => False) HW7.out (.of_below hbA) (fun _ _ => id)); have HBA := Lib.hid hbA; have HSA := Lib.hid (Nat.le_trans (Nat.le_trans hbr.size hb7r.size) hbA.size); clear hg7 hm7 ho7 hb7 hb7r g0 g1 hbA; dsimp only)
        | ((refine step_mv _ (by rfl) _ _ _ (by rfl) _ i9 (.agg #[.int .i64 0, .slice none 0 0]) 2 32 Try.underlying29 hi9 hz90 hz91 hz92 (by rfl) (by decide) w5.heap.size _ j (sgC vs) (by rfl) HWA.out (some ⟨w7.heap.size, 0, none⟩) 1 1 [.int .i64 (x.1 : Nat), .slice A8 x.2.length c8] (by rfl) (fun h => by cases h) (by rfl) (fun ad had => by injection had with had; subst had; exact cells_at _ _ _ _ rfl) (fun u hu => by simp at hu; rcases hu with rfl | rfl <;> rfl) (by unfold maxLen; omega) (by omega) HSA.out ?_); intro v8 w8 ho8 hg8 hm8; have s8 := And.intro (hg8.cell s7a.1 HNE'.out) (hg8.cell s7a.2 HNE'.out); dsimp only))
      have R := Tl.push (F := fun g => w5.heap.size ≤ g) (x := x) HVS.out (w1 := w7) (fun y hy => ⟨own_off (X := fun _ => False) (HDS.out y hy).1 (.of_below HB7.out) (fun _ _ => id), (HDS.out y hy).2⟩) (own_lo HO7.out (show w5.heap.size ≤ w6.heap.size from Nat.le_trans hbr.size HB6.out.size))
        (fun g hg => by have := (HO7.out.lt g hg).1; have := hbr.size; rw [HS6.out] at *; omega) (v := .slice A7 j c7) (fun g hg => own_blk HW7.out hg) (by decide) HBA.out hg8 (by rw [HLJ.out]; exact ho8)
      rw [← HX.out] at R
      have R2 := (hbr.trans ((HB7.out.trans (HBA.out.mono (HB7.out.size))).mono hbr.size)).grown hg8 HSA.out (fun g hg => (HWA.out.lt g hg).1)
      clear s7 s7a s8 hm8 hg8 ho8 f0 f1
      go_wp2_with fail
      go_roundw
      case rel => exact ⟨R2, j + 1, by omega, by go_num, R⟩
      case measure => simp [intOf]; omega
    · have he : j = told.length := by omega
      subst he
      rw [List.take_length] at htl
      have hBr := hB5.trans (hbr.mono hB5.size)
      have hdr := HD5.out.below hbr
      have hVlt : ∀ g, V5.ownBlock = some g → g < w5.heap.size := fun g hg => (HD5.out.own.lt g hg).2
      have HTl := Lib.hid htl
      obtain ⟨A7, c7, rfl, hc7, hcm7⟩ := htl.shape
      clear htl hlt hj
      go_wp2_with fail
      refine (feed_old hdr hBr.size hm (by omega) l2 n2 A2 c2 HL2.out hb2 (by omega) (HR2.out.below hBr)).mono ?_
      rintro e w9 ⟨V9, v9, rfl, hF9⟩
      have hB9 := hBr.trans (hF9.below_ hdr hBr.size)
      have hs1 := ((HT5.out.below hbr).fed (by decide) (by decide) hdr hF9.off (fun g h => h)).read (n := told.length)
      have hs2 := (HTl.out.fed (by decide) (by decide) hdr hF9.off (fun g hg hv => by have := hVlt g hv; omega)).read (n := told.length)
      have ho9 := own_off (own_off (X := fun _ => False) HO5.out (.of_below hbr) (fun _ _ => id)) hF9.off (by
        rintro g hg (rfl | h)
        · exact HD5.out.cells.own_ne HO5.out (by decide) hg
        · exact hne5 g hg h)
      have hr9 := Rd.own ho9
      have hle : ∀ x ∈ told, x.2.length ≤ 1099511627776 := fun x hx => by have := (HT.out.2 x hx).2.1; omega
      have HR9 := Lib.hid hr9
      clear hF9 hdr ho9 hr9 hVlt hBr
      go_wp2_with fail
      refine (same_yes told told.length A5 A7 c5 c7 w9 hs1 hs2 rfl (by omega) hle).mono ?_
      rintro e w10 ⟨rfl, hb10⟩
      have hB10 := hB9.trans (hb10.mono hB9.size)
      have hr10 := HR9.out.on hb10
      clear hs1 hs2 hb10
      go_wp2_with fail
      refine (equal_yes l l _ _ A4 A c4 c w10 hr10 ((HR.out.below hB10).more hB10.size) rfl HL.out (by omega) rfl).mono ?_
      rintro e w11 ⟨rfl, hb11⟩
      have hB11 := hB10.trans (hb11.mono hB10.size)
      go_wp2_with fail
      go_ret
      exact ⟨rfl, hB11⟩

end Go.Proofs.Ytdpkccbcfedhbaa
