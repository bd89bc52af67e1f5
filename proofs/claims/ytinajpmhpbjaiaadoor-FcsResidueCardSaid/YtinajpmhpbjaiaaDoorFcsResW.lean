/-
  The walk of the statement FcsResidue: it answers true for every list of octets and every four others. Condition: the tables hold what the start-up lays ('Tabs').
-/
import Derived.Test.YtinajpmhpbjaiaaDoorFcsMoreW
namespace Go.Proofs.YtinajpmhpbjaiaaDoor
open Go.RowKit

/-- Four octets in a variable of their own. -/
theorem Rd.four (w : World) (x0 x1 x2 x3 : Nat) (t : TypeId) : Rd (w.alloc (.cells #[.int .u8 (x0 : Int), .int .u8 (x1 : Int), .int .u8 (x2 : Int), .int .u8 (x3 : Int)] t)) (w.alloc (.cells #[.int .u8 (x0 : Int), .int .u8 (x1 : Int), .int .u8 (x2 : Int), .int .u8 (x3 : Int)] t)).heap.size (some ⟨w.heap.size, 0, none⟩) [x0, x1, x2, x3] := by
  intro _
  refine ⟨w.heap.size, 0, rfl, by simp, fun k x hx => ?_⟩
  have := bvs_get [x0, x1, x2, x3] k x hx
  rw [World.cell?_alloc_at _ _ _ _ rfl, Nat.zero_add]
  simpa [bvs, bv] using this
theorem four_by {x0 x1 x2 x3 : Nat} (h0 : x0 < 256) (h1 : x1 < 256) (h2 : x2 < 256) (h3 : x3 < 256) : By [x0, x1, x2, x3] := by
  intro x hx
  simp at hx
  omega

set_option maxHeartbeats 1000000 in
theorem residue_long_true (A : Option Addr) (n c x0 x1 x2 x3 : Nat) (w : World) (h : 400 < n) (hT : Tabs w) :
    Calls Tryd.prog 5 #[.slice A n c, .bool true, .agg #[.int .u8 (x0 : Int), .int .u8 (x1 : Int), .int .u8 (x2 : Int), .int .u8 (x3 : Int)]] w fun e w' => e = .returned (.bool true) ∧ Below w.heap.size w w' := by
  have h4 : (400 : Int) < (n : Int) := by omega
  have hb0 : Below w.heap.size w (w.alloc (.cells #[.int .u8 (x0 : Int), .int .u8 (x1 : Int), .int .u8 (x2 : Int), .int .u8 (x3 : Int)] 35)) := (Below.refl _ _).alloc (Nat.le_refl _) _
  go_enter Tryd.func5, Tryd.ntmps5
  go_wp2_with fail
  refine (speaks_any _ (hT.below hb0)).mono ?_
  rintro e w1 ⟨rfl, hb1⟩
  have hB1 := hb0.trans (hb1.mono hb0.size)
  go_wp2_with fail
  refine (speaks_any _ (hT.below hB1)).mono ?_
  rintro e w2 ⟨rfl, hb2⟩
  go_wp2_with fail
  go_ret
  exact ⟨rfl, hB1.trans (hb2.mono hB1.size)⟩

set_option maxHeartbeats 4000000 in
theorem residue_walk_true (l : List Nat) (A : Option Addr) (n c x0 x1 x2 x3 : Nat) (w : World) (hx0 : x0 < 256) (hx1 : x1 < 256) (hx2 : x2 < 256) (hx3 : x3 < 256) (hl : l.length = n) (hb : By l) (h : Rd w w.heap.size A l) (h4 : n ≤ 400) (hT : Tabs w) :
    Calls Tryd.prog 5 #[.slice A n c, .bool true, .agg #[.int .u8 (x0 : Int), .int .u8 (x1 : Int), .int .u8 (x2 : Int), .int .u8 (x3 : Int)]] w fun e w' => e = .returned (.bool true) ∧ Below w.heap.size w w' := by
  have HL := Lib.hid hl
  have HB := Lib.hid hb
  have HR := Lib.hid h
  have HO := Lib.hid ((four_by hx0 hx1 hx2 hx3).take 4)
  clear hl hb h hx0 hx1 hx2 hx3
  obtain ⟨i0, hi, hz0, hz1, hz2⟩ := info_parts byte_info
  obtain ⟨t, ht⟩ : ∃ t, Hid (trail true (sumW true l) = t) := ⟨_, Lib.hid rfl⟩
  have htb := Lib.hid (show By t by rw [← ht.out]; exact trail_by true _ (sumW_lt HB.out))
  have HW := Lib.hid (show ((regW true (l ++ t) : Nat) : Int) = 3736805603 by rw [← ht.out, whole_res true l HB.out]; rfl)
  have HWb := Lib.hid (HB.out.app htb.out)
  have HOb := Lib.hid (HB.out.app HO.out)
  obtain ⟨q, hq⟩ : ∃ q, Hid (decide (([x0, x1, x2, x3] : List Nat).take 4 = t) = q) := ⟨_, Lib.hid rfl⟩
  obtain ⟨y, hy⟩ : ∃ y, Hid (regW true (l ++ ([x0, x1, x2, x3] : List Nat).take 4) = y) := ⟨_, Lib.hid rfl⟩
  have HE := Lib.hid (end_iff true l (([x0, x1, x2, x3] : List Nat).take 4) HB.out HO.out rfl)
  have HN := Lib.hid (show q = false → ((y : Int) != 3736805603) = true by
    intro hqf
    have h1 : ¬ ([x0, x1, x2, x3] : List Nat).take 4 = t := of_decide_eq_false (hq.out.trans hqf)
    rw [← ht.out, ← HE.out, hy.out] at h1
    rw [bne_iff_ne]
    intro h2
    apply h1
    have h3 : (y : Int) = ((resW true : Nat) : Int) := h2
    omega)
  have hb0 : Below w.heap.size w (w.alloc (.cells #[.int .u8 (x0 : Int), .int .u8 (x1 : Int), .int .u8 (x2 : Int), .int .u8 (x3 : Int)] 35)) := (Below.refl _ _).alloc (Nat.le_refl _) _
  have hro := Rd.four w x0 x1 x2 x3 35
  go_enter Tryd.func5, Tryd.ntmps5
  go_wp2_with fail
  refine (speaks_any _ (hT.below hb0)).mono ?_
  rintro e w1 ⟨rfl, hb1⟩
  have hro1 := (hro.below hb1).more hb1.size
  have hB1 := hb0.trans (hb1.mono hb0.size)
  clear hb0 hb1 hro
  go_wp2_with fail
  refine (trailer_z true l n 4 _ _ _ rfl ((HR.out.below hB1).more hB1.size) HB.out HL.out (by omega) (hT.below hB1)).mono ?_
  rintro e w2 ⟨A2, c2, rfl, hl2, -, hr2, hb2⟩
  rw [ht.out] at hl2 hr2
  have hro2 := (hro1.below hb2).more hb2.size
  have hB2 := hB1.trans (hb2.mono hB1.size)
  clear hb2 hro1 hB1
  go_wp2_with fail
  refine (size_any true _).mono ?_
  rintro e w3 ⟨rfl, rfl⟩
  rw [show ((sizeW true : Nat) : Int) = 4 from rfl]
  go_wp2_with fail
  refine (start_any true _).mono ?_
  rintro e w3 ⟨rfl, rfl⟩
  have hsz2 := hB2.size
  have hown2 : (w2.alloc (.cells #[] 5)).ownsRow w2.heap.size 5 1 (.slice (some ⟨w2.heap.size, 0, none⟩) 0 0) 0 (bvs []) := World.ownsRow_lit w2 #[] 0 (Nat.le_refl _) (by unfold maxLen; omega) rfl
  have hb3 : Below w2.heap.size w2 (w2.alloc (.cells #[] 5)) := (Below.refl _ _).alloc (Nat.le_refl _) _
  have HR2 := Lib.hid ((HR.out.below hB2).more hB2.size)
  go_wp2_with (first
    | (at_builtin; have _g := hown2; clear _g; refine list_app_w rfl _ _ _ rfl _ i0 Tryd.underlying22 hi hz0 hz1 hz2 w2.heap.size _ _ [] rfl hown2 _ _ _ _ l rfl ((HR2.out.below hb3).more hb3.size) HL.out (by omega) hb3.size ?_; intro A4 c4 w4 ho4 hg4; rw [List.nil_append, Nat.zero_add] at ho4; rw [Nat.zero_add]; have hb4 := app_below hb3 (Nat.le_refl _) hown2 hg4; clear hg4 hown2)
    | (at_builtin; refine list_app_w rfl _ _ _ rfl _ i0 Tryd.underlying22 hi hz0 hz1 hz2 w2.heap.size _ n l rfl ho4 _ _ _ _ t rfl ((hr2.below hb4).more hb4.size) hl2 (by omega) hb4.size ?_; intro A5 c5 w5 ho5 hg5; have hb5 := app_below hb4 (Nat.le_refl _) ho4 hg5; clear hg5 ho4 hb4))
  have hB5 := hB2.trans (hb5.mono hsz2)
  have hr5 := (hr2.below hb5).more hb5.size
  have hro5 := (hro2.below hb5).more hb5.size
  refine (more_start true (l ++ t) (n + 4) _ _ _ (Rd.own ho5) HWb.out (by rw [List.length_append, HL.out, hl2]) (by omega) (hT.below hB5)).mono ?_
  rintro e w6 ⟨rfl, rfl⟩
  rw [HW.out]
  clear hb3 hb5 ho5 hr2 hro2 hB2
  go_wp2_with fail
  refine (equal_c (([x0, x1, x2, x3] : List Nat).take 4) t 4 4 _ _ _ _ _ (hro5.take 4) hr5 rfl hl2 (by omega)).mono ?_
  rintro e w7 ⟨rfl, hb7⟩
  rw [hq.out]
  have hB7 := hB5.trans (hb7.mono hB5.size)
  have hro7 := (hro5.below hb7).more hb7.size
  clear hb7 hB5 hro5 hr5
  cases q
  · have hne := HN.out rfl
    go_wp2_with fail
    refine (start_any true _).mono ?_
    rintro e w8 ⟨rfl, rfl⟩
    have hsz7 := hB7.size
    have hown7 : (w7.alloc (.cells #[] 5)).ownsRow w7.heap.size 5 1 (.slice (some ⟨w7.heap.size, 0, none⟩) 0 0) 0 (bvs []) := World.ownsRow_lit w7 #[] 0 (Nat.le_refl _) (by unfold maxLen; omega) rfl
    have hb8 : Below w7.heap.size w7 (w7.alloc (.cells #[] 5)) := (Below.refl _ _).alloc (Nat.le_refl _) _
    have HR7 := Lib.hid ((HR.out.below hB7).more hB7.size)
    go_wp2_with (first
      | (at_builtin; have _g := hown7; clear _g; refine list_app_w rfl _ _ _ rfl _ i0 Tryd.underlying22 hi hz0 hz1 hz2 w7.heap.size _ _ [] rfl hown7 _ _ _ _ l rfl ((HR7.out.below hb8).more hb8.size) HL.out (by omega) hb8.size ?_; intro A9 c9 w9 ho9 hg9; rw [List.nil_append, Nat.zero_add] at ho9; rw [Nat.zero_add]; have hb9 := app_below hb8 (Nat.le_refl _) hown7 hg9; clear hg9 hown7)
      | (at_builtin; refine list_app_w rfl _ _ _ rfl _ i0 Tryd.underlying22 hi hz0 hz1 hz2 w7.heap.size _ n l rfl ho9 _ _ _ _ (([x0, x1, x2, x3] : List Nat).take 4) rfl (((hro7.take 4).below hb9).more hb9.size) rfl (by omega) hb9.size ?_; intro A10 c10 w10 ho10 hg10; have hb10 := app_below hb9 (Nat.le_refl _) ho9 hg10; clear hg10 ho9 hb9))
    have hB10 := hB7.trans (hb10.mono hsz7)
    refine (more_start true (l ++ ([x0, x1, x2, x3] : List Nat).take 4) (n + 4) _ _ _ (Rd.own ho10) HOb.out (by rw [List.length_append, HL.out]; rfl) (by omega) (hT.below hB10)).mono ?_
    rintro e w11 ⟨rfl, rfl⟩
    rw [hy.out]
    go_wp2_with fail
    go_ret
    exact ⟨rfl, hB10⟩
  · go_wp2_with fail
    go_ret
    exact ⟨rfl, hB7⟩

set_option maxHeartbeats 1000000 in
theorem residue_long_false (A : Option Addr) (n c x0 x1 x2 x3 : Nat) (w : World) (h : 400 < n) (hT : Tabs w) :
    Calls Tryd.prog 5 #[.slice A n c, .bool false, .agg #[.int .u8 (x0 : Int), .int .u8 (x1 : Int), .int .u8 (x2 : Int), .int .u8 (x3 : Int)]] w fun e w' => e = .returned (.bool true) ∧ Below w.heap.size w w' := by
  have h4 : (400 : Int) < (n : Int) := by omega
  have hb0 : Below w.heap.size w (w.alloc (.cells #[.int .u8 (x0 : Int), .int .u8 (x1 : Int), .int .u8 (x2 : Int), .int .u8 (x3 : Int)] 35)) := (Below.refl _ _).alloc (Nat.le_refl _) _
  go_enter Tryd.func5, Tryd.ntmps5
  go_wp2_with fail
  refine (speaks_any _ (hT.below hb0)).mono ?_
  rintro e w1 ⟨rfl, hb1⟩
  have hB1 := hb0.trans (hb1.mono hb0.size)
  go_wp2_with fail
  refine (speaks_any _ (hT.below hB1)).mono ?_
  rintro e w2 ⟨rfl, hb2⟩
  go_wp2_with fail
  go_ret
  exact ⟨rfl, hB1.trans (hb2.mono hB1.size)⟩

set_option maxHeartbeats 4000000 in
theorem residue_walk_false (l : List Nat) (A : Option Addr) (n c x0 x1 x2 x3 : Nat) (w : World) (hx0 : x0 < 256) (hx1 : x1 < 256) (hx2 : x2 < 256) (hx3 : x3 < 256) (hl : l.length = n) (hb : By l) (h : Rd w w.heap.size A l) (h4 : n ≤ 400) (hT : Tabs w) :
    Calls Tryd.prog 5 #[.slice A n c, .bool false, .agg #[.int .u8 (x0 : Int), .int .u8 (x1 : Int), .int .u8 (x2 : Int), .int .u8 (x3 : Int)]] w fun e w' => e = .returned (.bool true) ∧ Below w.heap.size w w' := by
  have HL := Lib.hid hl
  have HB := Lib.hid hb
  have HR := Lib.hid h
  have HO := Lib.hid ((four_by hx0 hx1 hx2 hx3).take 2)
  clear hl hb h hx0 hx1 hx2 hx3
  obtain ⟨i0, hi, hz0, hz1, hz2⟩ := info_parts byte_info
  obtain ⟨t, ht⟩ : ∃ t, Hid (trail false (sumW false l) = t) := ⟨_, Lib.hid rfl⟩
  have htb := Lib.hid (show By t by rw [← ht.out]; exact trail_by false _ (sumW_lt HB.out))
  have HW := Lib.hid (show ((regW false (l ++ t) : Nat) : Int) = 61624 by rw [← ht.out, whole_res false l HB.out]; rfl)
  have HWb := Lib.hid (HB.out.app htb.out)
  have HOb := Lib.hid (HB.out.app HO.out)
  obtain ⟨q, hq⟩ : ∃ q, Hid (decide (([x0, x1, x2, x3] : List Nat).take 2 = t) = q) := ⟨_, Lib.hid rfl⟩
  obtain ⟨y, hy⟩ : ∃ y, Hid (regW false (l ++ ([x0, x1, x2, x3] : List Nat).take 2) = y) := ⟨_, Lib.hid rfl⟩
  have HE := Lib.hid (end_iff false l (([x0, x1, x2, x3] : List Nat).take 2) HB.out HO.out rfl)
  have HN := Lib.hid (show q = false → ((y : Int) != 61624) = true by
    intro hqf
    have h1 : ¬ ([x0, x1, x2, x3] : List Nat).take 2 = t := of_decide_eq_false (hq.out.trans hqf)
    rw [← ht.out, ← HE.out, hy.out] at h1
    rw [bne_iff_ne]
    intro h2
    apply h1
    have h3 : (y : Int) = ((resW false : Nat) : Int) := h2
    omega)
  have hb0 : Below w.heap.size w (w.alloc (.cells #[.int .u8 (x0 : Int), .int .u8 (x1 : Int), .int .u8 (x2 : Int), .int .u8 (x3 : Int)] 35)) := (Below.refl _ _).alloc (Nat.le_refl _) _
  have hro := Rd.four w x0 x1 x2 x3 35
  go_enter Tryd.func5, Tryd.ntmps5
  go_wp2_with fail
  refine (speaks_any _ (hT.below hb0)).mono ?_
  rintro e w1 ⟨rfl, hb1⟩
  have hro1 := (hro.below hb1).more hb1.size
  have hB1 := hb0.trans (hb1.mono hb0.size)
  clear hb0 hb1 hro
  go_wp2_with fail
  refine (trailer_z false l n 2 _ _ _ rfl ((HR.out.below hB1).more hB1.size) HB.out HL.out (by omega) (hT.below hB1)).mono ?_
  rintro e w2 ⟨A2, c2, rfl, hl2, -, hr2, hb2⟩
  rw [ht.out] at hl2 hr2
  have hro2 := (hro1.below hb2).more hb2.size
  have hB2 := hB1.trans (hb2.mono hB1.size)
  clear hb2 hro1 hB1
  go_wp2_with fail
  refine (size_any false _).mono ?_
  rintro e w3 ⟨rfl, rfl⟩
  rw [show ((sizeW false : Nat) : Int) = 2 from rfl]
  go_wp2_with fail
  refine (start_any false _).mono ?_
  rintro e w3 ⟨rfl, rfl⟩
  have hsz2 := hB2.size
  have hown2 : (w2.alloc (.cells #[] 5)).ownsRow w2.heap.size 5 1 (.slice (some ⟨w2.heap.size, 0, none⟩) 0 0) 0 (bvs []) := World.ownsRow_lit w2 #[] 0 (Nat.le_refl _) (by unfold maxLen; omega) rfl
  have hb3 : Below w2.heap.size w2 (w2.alloc (.cells #[] 5)) := (Below.refl _ _).alloc (Nat.le_refl _) _
  have HR2 := Lib.hid ((HR.out.below hB2).more hB2.size)
  go_wp2_with (first
    | (at_builtin; have _g := hown2; clear _g; refine list_app_w rfl _ _ _ rfl _ i0 Tryd.underlying22 hi hz0 hz1 hz2 w2.heap.size _ _ [] rfl hown2 _ _ _ _ l rfl ((HR2.out.below hb3).more hb3.size) HL.out (by omega) hb3.size ?_; intro A4 c4 w4 ho4 hg4; rw [List.nil_append, Nat.zero_add] at ho4; rw [Nat.zero_add]; have hb4 := app_below hb3 (Nat.le_refl _) hown2 hg4; clear hg4 hown2)
    | (at_builtin; refine list_app_w rfl _ _ _ rfl _ i0 Tryd.underlying22 hi hz0 hz1 hz2 w2.heap.size _ n l rfl ho4 _ _ _ _ t rfl ((hr2.below hb4).more hb4.size) hl2 (by omega) hb4.size ?_; intro A5 c5 w5 ho5 hg5; have hb5 := app_below hb4 (Nat.le_refl _) ho4 hg5; clear hg5 ho4 hb4))
  have hB5 := hB2.trans (hb5.mono hsz2)
  have hr5 := (hr2.below hb5).more hb5.size
  have hro5 := (hro2.below hb5).more hb5.size
  refine (more_start false (l ++ t) (n + 2) _ _ _ (Rd.own ho5) HWb.out (by rw [List.length_append, HL.out, hl2]) (by omega) (hT.below hB5)).mono ?_
  rintro e w6 ⟨rfl, rfl⟩
  rw [HW.out]
  clear hb3 hb5 ho5 hr2 hro2 hB2
  go_wp2_with fail
  refine (equal_c (([x0, x1, x2, x3] : List Nat).take 2) t 2 2 _ _ _ _ _ (hro5.take 2) hr5 rfl hl2 (by omega)).mono ?_
  rintro e w7 ⟨rfl, hb7⟩
  rw [hq.out]
  have hB7 := hB5.trans (hb7.mono hB5.size)
  have hro7 := (hro5.below hb7).more hb7.size
  clear hb7 hB5 hro5 hr5
  cases q
  · have hne := HN.out rfl
    go_wp2_with fail
    refine (start_any false _).mono ?_
    rintro e w8 ⟨rfl, rfl⟩
    have hsz7 := hB7.size
    have hown7 : (w7.alloc (.cells #[] 5)).ownsRow w7.heap.size 5 1 (.slice (some ⟨w7.heap.size, 0, none⟩) 0 0) 0 (bvs []) := World.ownsRow_lit w7 #[] 0 (Nat.le_refl _) (by unfold maxLen; omega) rfl
    have hb8 : Below w7.heap.size w7 (w7.alloc (.cells #[] 5)) := (Below.refl _ _).alloc (Nat.le_refl _) _
    have HR7 := Lib.hid ((HR.out.below hB7).more hB7.size)
    go_wp2_with (first
      | (at_builtin; have _g := hown7; clear _g; refine list_app_w rfl _ _ _ rfl _ i0 Tryd.underlying22 hi hz0 hz1 hz2 w7.heap.size _ _ [] rfl hown7 _ _ _ _ l rfl ((HR7.out.below hb8).more hb8.size) HL.out (by omega) hb8.size ?_; intro A9 c9 w9 ho9 hg9; rw [List.nil_append, Nat.zero_add] at ho9; rw [Nat.zero_add]; have hb9 := app_below hb8 (Nat.le_refl _) hown7 hg9; clear hg9 hown7)
      | (at_builtin; refine list_app_w rfl _ _ _ rfl _ i0 Tryd.underlying22 hi hz0 hz1 hz2 w7.heap.size _ n l rfl ho9 _ _ _ _ (([x0, x1, x2, x3] : List Nat).take 2) rfl (((hro7.take 2).below hb9).more hb9.size) rfl (by omega) hb9.size ?_; intro A10 c10 w10 ho10 hg10; have hb10 := app_below hb9 (Nat.le_refl _) ho9 hg10; clear hg10 ho9 hb9))
    have hB10 := hB7.trans (hb10.mono hsz7)
    refine (more_start false (l ++ ([x0, x1, x2, x3] : List Nat).take 2) (n + 2) _ _ _ (Rd.own ho10) HOb.out (by rw [List.length_append, HL.out]; rfl) (by omega) (hT.below hB10)).mono ?_
    rintro e w11 ⟨rfl, rfl⟩
    rw [hy.out]
    go_wp2_with fail
    go_ret
    exact ⟨rfl, hB10⟩
  · go_wp2_with fail
    go_ret
    exact ⟨rfl, hB7⟩

end Go.Proofs.YtinajpmhpbjaiaaDoor
