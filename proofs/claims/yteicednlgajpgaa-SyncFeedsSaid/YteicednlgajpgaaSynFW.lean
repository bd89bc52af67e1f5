
/-
  The walk of the statement SyncFeeds: it answers true for every most and list of chunks, and writes nothing that was there. No condition beyond: no chunk of more than 2^47 bits.
-/
import Derived.Test.YteicednlgajpgaaSynCW
namespace Go.Proofs.Yteicednlgajpgaa
open Go.RowKit

set_option maxHeartbeats 2000000 in
theorem sfeeds_out (a : Int) (ls : List (List Nat)) (n : Nat) (A : Option Addr) (c : Nat) (w : World) (h : Rr w A ls) (hl : ls.length = n) (hn2 : n ≤ 140737488351232) (hs : ∀ x ∈ ls, x.length ≤ 140737488351232) (hno : ¬ (1 ≤ a ∧ a ≤ 1048576 ∧ n ≤ 60 ∧ ls.flatten.length ≤ 900)) :
    Calls Try.prog 3 #[.int .i64 a, .slice A n c] w fun e w' => e = .returned (.bool true) ∧ Below w.heap.size w w' := by
  have HL := Lib.hid hl
  have HS := Lib.hid hs
  have HN := Lib.hid hno
  clear hl hs hno
  go_enter Try.func3, Try.ntmps3
  go_wp2_with fail
  refine (speaks7_any _).mono ?_
  rintro e w1 ⟨rfl, hB1⟩
  go_wp2_with fail
  refine (right_any a ls n A c w1 (h.on hB1) HL.out hn2 HS.out).mono ?_
  rintro e w2 ⟨⟨t, rfl, ht⟩, rfl⟩
  cases t
  · go_wp2_with fail
    refine (speaks7_any _).mono ?_
    rintro e w2 ⟨rfl, hb2⟩
    go_wp2_with fail
    go_ret
    exact ⟨rfl, hB1.trans (hb2.mono hB1.size)⟩
  · exact absurd (ht rfl) HN.out

/-- Behind some chunks: what the deframer holds, all bits so far, what was told. -/
structure Cf (B : Nat) (w : World) (ba most : Nat) (U1 U2 av xv : Value) (l : List Nat) (q : Nat) : Prop where
  da : Df B w ba most U1 U2 (run most St.start l).1
  al : w.ownsRow B 5 1 av q (bvs l)
  nv : ∀ g, av.ownBlock = some g → U1.ownBlock ≠ some g ∧ U2.ownBlock ≠ some g
  tl : Tl B w 38 (fun g => (U1.ownBlock ≠ some g ∧ U2.ownBlock ≠ some g) ∧ av.ownBlock ≠ some g) xv (run most St.start l).2
theorem Cf.below {B : Nat} {w w' : World} {ba most : Nat} {U1 U2 av xv : Value} {l : List Nat} {q : Nat} (h : Cf B w ba most U1 U2 av xv l q) (hb : Below w.heap.size w w') : Cf B w' ba most U1 U2 av xv l q :=
  ⟨h.da.below hb, own_off (X := fun _ => False) h.al (.of_below hb) (fun _ _ => id), h.nv, h.tl.below hb⟩

set_option maxHeartbeats 8000000 in
theorem sfeeds_walk (most : Nat) (hm1 : 1 ≤ most) (hm2 : most ≤ 1048576) (ls : List (List Nat)) (n : Nat) (A : Option Addr) (c : Nat) (w : World) (h : Rr w A ls) (hby : ∀ x ∈ ls, By x) (hl : ls.length = n) (hs : ∀ x ∈ ls, x.length ≤ 140737488351232) (hn : n ≤ 60) (hf : ls.flatten.length ≤ 900) :
    Calls Try.prog 3 #[.int .i64 (most : Int), .slice A n c] w fun e w' => e = .returned (.bool true) ∧ Below w.heap.size w w' := by
  obtain ⟨i0, hi, hz0, hz1, hz2⟩ := info_parts byte_info
  obtain ⟨i9, hi9, hz90, hz91, hz92⟩ := info_parts seg_info
  have HL := Lib.hid hl
  have HS := Lib.hid hs
  have HBY := Lib.hid hby
  have HFL := Lib.hid (fun k => Nat.le_trans (flat_le ls k) hf)
  have HF := Lib.hid hf
  clear hl hs hby hf
  go_enter Try.func3, Try.ntmps3
  go_wp2_with fail
  refine (speaks7_any _).mono ?_
  rintro e w1 ⟨rfl, hB1⟩
  go_wp2_with fail
  refine (right_any (most : Int) ls n A c w1 (h.on hB1) HL.out (by omega) HS.out).mono ?_
  rintro e w2 ⟨⟨t, rfl, ht⟩, rfl⟩
  cases t
  · go_wp2_with fail
    refine (speaks7_any _).mono ?_
    rintro e w2 ⟨rfl, hb2⟩
    go_wp2_with fail
    go_ret
    exact ⟨rfl, hB1.trans (hb2.mono hB1.size)⟩
  · clear ht
    go_wp2_with fail
    refine (new_any most _).mono ?_
    rintro e w2 ⟨ba, rfl, hba, hba2, hDa, hb2⟩
    have hB2 := hB1.trans (hb2.mono hB1.size)
    have hCf : Cf w.heap.size w2 ba most (.slice none 0 0) (.slice none 0 0) (.slice none 0 0) (.slice none 0 0) [] 0 :=
      ⟨hDa w.heap.size hB1.size, World.ownsRow_nil _ _ _ _, nil_ne, Tl.nil _ _ _ _⟩
    clear hDa hb2 hB1 hba hba2
    go_wp2_with fail
    go_loopw [6, 7, 25] (fun av xv i wr => Below w.heap.size w wr ∧ ∃ (k q : Nat) (U1 U2 : Value), k ≤ n ∧ i = .int .i64 k ∧ Cf w.heap.size wr ba most U1 U2 av xv (ls.take k).flatten q) (fun _ _ i _ => n - (intOf i).toNat)
    case atStart => exact ⟨hB2, 0, 0, _, _, Nat.zero_le _, rfl, hCf⟩
    case round =>
      clear hCf hB2
      obtain ⟨hbel, k, q, U1, U2, hk, rfl, hcu⟩ := hrel
      have hbytes := Lib.hid (show By (ls.take (k + 1)).flatten by
        intro y hy
        obtain ⟨x, hx, hy⟩ := List.mem_flatten.1 hy
        exact HBY.out x (List.mem_of_mem_take hx) y hy)
      by_cases hlt : k < n
      · obtain ⟨b0, o0, x, Ax, cx, rfl, hx, q1, q2⟩ := h.old hbel (k := k) (by rw [HL.out]; exact hlt)
        have hbx := HBY.out x (List.mem_of_getElem? hx)
        have hft := flat_take hx
        have hle := HFL.out (k + 1)
        rw [hft] at hle
        have HFT := Lib.hid hft
        have HBX := Lib.hid hbx
        have hq := hcu.al.1
        rw [bvs_len] at hq
        have j1 : (0 : Int) ≤ k := by omega
        have j2 : (k : Int) < n := by omega
        have HQ2 := Lib.hid q2
        have hxl : x.length ≤ 900 := by rw [List.length_append] at hle; omega
        have hql : q + x.length ≤ 900 := by rw [List.length_append] at hle; omega
        generalize (ls.take k).flatten = pre at hcu hle hq HFT
        have hpl : pre.length ≤ 900 := by omega
        have htot : (run most St.start pre).1.tot ≤ 900 := by
          have := run_tot (most := most) pre (s := St.start)
          have h0 : St.start.tot = 0 := rfl
          omega
        have hrx := Lib.hid ((HQ2.out.below hbel).more hbel.size)
        clear hx hft hbx q2
        go_wp2_with fail
        refine (feed_any hcu.da hbel.size (by omega) x x.length Ax cx rfl HBX.out (by omega) hrx.out).mono ?_
        rintro e w1' ⟨X1, X2, v1, rfl, hF⟩
        have hB1' := hbel.trans ((hF.below_ hcu.da hbel.size))
        have hal1 := own_fed hcu.al hcu.da hF.off hcu.nv
        have hnv1 : ∀ g, u6.ownBlock = some g → X1.ownBlock ≠ some g ∧ X2.ownBlock ≠ some g := fun g hg => ⟨fun hv => (hF.mv1 g hv).elim (hcu.nv g hg).1 (fun h => by have := (hcu.al.lt g hg).2; omega), fun hv => (hF.mv2 g hv).elim (hcu.nv g hg).2 (fun h => by have := (hcu.al.lt g hg).2; omega)⟩
        have htl1 := ((hcu.tl.turn (F' := fun g => (U1.ownBlock ≠ some g ∧ U2.ownBlock ≠ some g) ∧ (X1.ownBlock ≠ some g ∧ X2.ownBlock ≠ some g) ∧ u6.ownBlock ≠ some g) (fun g hg h => ⟨h.1, ⟨fun hv => (hF.mv1 g hv).elim h.1.1 (fun h => by omega), fun hv => (hF.mv2 g hv).elim h.1.2 (fun h => by omega)⟩, h.2⟩)).fed (by decide) (by decide) hcu.da hF.off (fun g h => h.1)).mono (F' := fun g => (X1.ownBlock ≠ some g ∧ X2.ownBlock ≠ some g) ∧ u6.ownBlock ≠ some g) (fun g h => h.2)
        have htv1 := hF.tl.mono (F' := fun g => (X1.ownBlock ≠ some g ∧ X2.ownBlock ≠ some g) ∧ u6.ownBlock ≠ some g) (fun g h => ⟨h.2, fun hv => h.1.elim (fun h0 => (hcu.nv g hv).1 h0) (fun h0 => by have := (hcu.al.lt g hv).2; omega)⟩)
        have hda1 := hF.df
        have hsx : (run most (run most St.start pre).1 x).2.length ≤ 900 := Nat.le_trans (run_told _) hxl
        have hsp : (run most St.start pre).2.length ≤ 900 := Nat.le_trans (run_told _) hpl
        have HR1 := Lib.hid (run_app1 most St.start pre x)
        have HR2 := Lib.hid (run_app2 most St.start pre x)
        generalize hTP : (run most St.start pre).2 = tp at htl1 hsp HR2
        generalize hTX : (run most (run most St.start pre).1 x).2 = tx at htv1 hsx HR2
        obtain ⟨A5, c5, rfl, _, _⟩ := htv1.shape
        obtain ⟨vs, hvs, hown, hds⟩ := htl1
        obtain ⟨us, hus, hown2, hds2⟩ := htv1
        have HVS := Lib.hid hvs
        have HUS := Lib.hid hus
        have HOWN := Lib.hid hown
        have HOWN2 := Lib.hid hown2
        have HDS := Lib.hid hds
        have HDS2 := Lib.hid hds2
        have HUL := Lib.hid (show (sgC us).length = tx.length * 2 by rw [sgC_len, ← hus, List.length_map])
        have HDA := Lib.hid hda1
        have HAL := Lib.hid hal1
        have HNV := Lib.hid hnv1
        have hszw := hB1'.size
        have HBW := Lib.hid hB1'
        clear hTP hTX hF hcu hvs hus hown hown2 hds hds2 hda1 hal1 hnv1 hB1'
        go_wp2_with (first
          | (at_builtin; have _g := hszw; clear _g; refine list_mv rfl _ _ 28 rfl 38 i9 (.agg #[.int .i64 0, .slice none 0 0]) 2 32 Try.underlying28 hi9 hz90 hz91 hz92 rfl (by decide) w.heap.size _ _ _ rfl HOWN.out A5 tx.length c5 (sgC us) rfl (own_zero HOWN2.out) HUL.out (own_news HOWN2.out) (sgC_one (fun y hy => (HDS2.out y hy).1)) (by unfold maxLen; omega) (by omega) hszw ?_; intro v2 w2' hown3 hgrow3 hmv3; have HTL := Lib.hid (Tl.join HVS.out HUS.out HDS.out HDS2.out (fun g hg => own_blk HOWN.out hg) (by decide) hgrow3 hown3); have HDA2 := Lib.hid (HDA.out.grown HOWN.out hgrow3 (by decide) (fun g hg => own_ne HDA.out.own1 HOWN.out (by decide) hg) (fun g hg => own_ne HDA.out.own2 HOWN.out (by decide) hg)); have HAL2 := Lib.hid (own_off HAL.out (.of_grown (X := fun i => u7.ownBlock = some i) hgrow3 (fun _ h => h)) (fun g hg => own_ne HAL.out HOWN.out (by decide) hg)); have hB2' := HBW.out.grown hgrow3 hszw (fun g hg => (HOWN.out.lt g hg).1); have HB2 := Lib.hid hB2'; have HSZ2 := Lib.hid hB2'.size; have HRX := Lib.hid (HQ2.out.below hB2'); clear hown3 hgrow3 hmv3 hB2' hszw)
          | (at_builtin; refine list_mv rfl _ _ 27 rfl 5 i0 (.int .u8 0) 1 1 Try.underlying27 hi hz0 hz1 hz2 rfl (by decide) w.heap.size _ _ _ rfl HAL2.out Ax x.length cx (bvs x) rfl (rd_nil HRX.out) (by rw [bvs_len]; omega) (rd_news HRX.out) (bvs_one x) (by unfold maxLen; omega) (by omega) HSZ2.out ?_; intro v3 w3' hown4 hgrow4 hmv4))
        have hsz2 := HB2.out.size
        have R : Cf w.heap.size w3' ba most X1 X2 v3 v2 (pre ++ x) (q + x.length) := by
          refine ⟨?_, by rw [bvs_app]; exact hown4, ?_, ?_⟩
          · rw [HR1.out]
            exact HDA2.out.grown HAL2.out hgrow4 (by decide) (fun g hg h => (HNV.out g h).1 hg) (fun g hg h => (HNV.out g h).2 hg)
          · exact fun g hg => (hmv4 g hg).elim (HNV.out g) (fun h => ⟨fun hv => by have := (HDA2.out.own1.lt g hv).2; omega, fun hv => by have := (HDA2.out.own2.lt g hv).2; omega⟩)
          · rw [HR2.out]
            exact ((HTL.out.turn (F' := fun g => u6.ownBlock ≠ some g ∧ (X1.ownBlock ≠ some g ∧ X2.ownBlock ≠ some g) ∧ v3.ownBlock ≠ some g) (fun g hg h => ⟨h.2, h.1, fun hv => (hmv4 g hv).elim h.2 (fun h0 => by omega)⟩)).grown8 HAL2.out hgrow4 (by decide) (fun g h => h.1)).mono (fun g h => h.2)
        have R2 := HB2.out.grown hgrow4 HSZ2.out (fun g hg => (HAL2.out.lt g hg).1)
        clear hgrow4 hmv4 hown4
        obtain ⟨A3, c3, rfl, hq3, _⟩ := own_form R.al
        have hby3 := hbytes.out
        rw [HFT.out] at hby3
        have hrd := Rd.own R.al
        have hl3 := R.al.1
        rw [bvs_len] at hl3
        have hl3' : (pre ++ x).length = q + x.length := by omega
        have hspec := run_spec most (pre ++ x)
        have hokt : ∀ y ∈ (run most St.start (pre ++ x)).2, y.2.length ≤ 1099511627776 := fun y hy => by have := (run_ok _ (ok_start most) y hy).2.1; omega
        have htl3 : (run most St.start (pre ++ x)).2.length ≤ 900 := Nat.le_trans (run_told _) (by omega)
        have htot3 : (run most St.start (pre ++ x)).1.tot ≤ 1099511627776 := by
          have := run_tot (most := most) (pre ++ x) (s := St.start)
          have h0 : St.start.tot = 0 := rfl
          omega
        obtain ⟨nt, hnt⟩ : ∃ nt, (run most St.start (pre ++ x)).2.length = nt := ⟨_, rfl⟩
        obtain ⟨A7, c7, hv2, _, _⟩ := R.tl.shape
        rw [hnt] at hv2 htl3
        subst hv2
        have HNT := Lib.hid hnt
        have HSPEC := Lib.hid hspec
        have HOKT := Lib.hid hokt
        have HL3 := Lib.hid hl3'
        have HB3 := Lib.hid hby3
        have hsr := R.tl.read (n := nt)
        have hszR := R2.size
        clear hnt hspec hokt hl3 hl3' hby3
        refine (all_any most (pre ++ x) (q + x.length) A3 c3 w3' hrd HB3.out HL3.out hq3 (by omega)).mono ?_
        rintro e w5 ⟨v5, rfl, htl5, hb5⟩
        rw [← HSPEC.out] at htl5
        obtain ⟨A8, c8, hv5, _, _⟩ := htl5.shape
        rw [HNT.out] at hv5
        subst hv5
        have hsr5 := hsr.on hb5
        have hst5 := htl5.read (n := nt)
        have R5 := R.below hb5
        have R25 := R2.trans (hb5.mono hszR)
        clear hb5 htl5 hsr hrd R R2 hszR
        go_wp2_with fail
        refine (Same_yes (run most St.start (pre ++ x)).2 nt A7 A8 c7 c8 w5 hsr5 hst5 HNT.out (by omega) HOKT.out).mono ?_
        rintro e w6 ⟨rfl, hb6⟩
        have R6 := R5.below hb6
        have R26 := R25.trans (hb6.mono R25.size)
        clear hb6 hsr5 hst5 R5 R25
        go_wp2_with fail
        refine (held_any R6.da htot3).mono ?_
        rintro e w7 ⟨q7, rfl, hq7, m7, hw7⟩
        have hb7 : Below w6.heap.size w6 w7 := by rw [hw7]; exact below_drewN (Below.refl _ _) m7
        have R7 := R6.below hb7
        have R27 := R26.trans (hb7.mono R26.size)
        have i7 : ¬ (q7 : Int) < 0 := by omega
        clear hw7 hb7 R6 R26
        go_wp2_with fail
        refine (held_any R7.da htot3).mono ?_
        rintro e w8 ⟨q8, rfl, hq8, m8, hw8⟩
        have hb8 : Below w7.heap.size w7 w8 := by rw [hw8]; exact below_drewN (Below.refl _ _) m8
        have R8 := R7.below hb8
        have R28 := R27.trans (hb8.mono R27.size)
        have i8 : ¬ (most : Int) + 1 < (q8 : Int) := by omega
        clear hw8 hb8 R7 R27
        rw [← HFT.out] at R8
        go_wp2_with fail
        go_roundw
        case rel => exact ⟨R28, k + 1, _, X1, X2, by omega, by go_num, R8⟩
        case measure => simp [intOf]; omega
      · have he : k = n := by omega
        go_wp2_with fail
        go_ret
        exact ⟨rfl, hbel⟩

end Go.Proofs.Yteicednlgajpgaa
