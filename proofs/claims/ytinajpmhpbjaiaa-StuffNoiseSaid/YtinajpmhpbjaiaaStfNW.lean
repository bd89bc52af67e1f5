
/-
  The walk of the statement StuffNoise: it answers true for every map, list of bytes and list of places, and writes nothing that was there. No condition.
-/
import Derived.Test.YtinajpmhpbjaiaaStfC
import Derived.Test.YtinajpmhpbjaiaaAppg
import Derived.Test.YtinajpmhpbjaiaaAccl
import Derived.IntWalk
namespace Go.Proofs.Ytinajpmhpbjaiaa
open Go.RowKit

set_option maxHeartbeats 1000000 in
theorem snoise_long (m : Nat) (A A2 : Option Addr) (n c n2 c2 : Nat) (w : World) (h : 400 < n) :
    Calls Try.prog 6 #[.int .u32 (m : Int), .slice A n c, .slice A2 n2 c2] w fun e w' => e = .returned (.bool true) ∧ Below w.heap.size w w' := by
  have h4 : (400 : Int) < (n : Int) := by omega
  go_enter Try.func6, Try.ntmps6
  go_wp2_with fail
  refine (speaks4_any _).mono ?_
  rintro e w1 ⟨rfl, hB1⟩
  go_wp2_with fail
  refine (speaks4_any _).mono ?_
  rintro e w2 ⟨rfl, hb2⟩
  go_wp2_with fail
  go_ret
  exact ⟨rfl, hB1.trans (hb2.mono hB1.size)⟩

set_option maxHeartbeats 1000000 in
theorem snoise_long2 (m : Nat) (A A2 : Option Addr) (n c n2 c2 : Nat) (w : World) (h1 : n ≤ 400) (h : 40 < n2) :
    Calls Try.prog 6 #[.int .u32 (m : Int), .slice A n c, .slice A2 n2 c2] w fun e w' => e = .returned (.bool true) ∧ Below w.heap.size w w' := by
  have h4 : (40 : Int) < (n2 : Int) := by omega
  have h5 : ¬ (400 : Int) < (n : Int) := by omega
  go_enter Try.func6, Try.ntmps6
  go_wp2_with fail
  refine (speaks4_any _).mono ?_
  rintro e w1 ⟨rfl, hB1⟩
  go_wp2_with fail
  refine (speaks4_any _).mono ?_
  rintro e w2 ⟨rfl, hb2⟩
  go_wp2_with fail
  go_ret
  exact ⟨rfl, hB1.trans (hb2.mono hB1.size)⟩

theorem map_nil {m : Nat} (hm : m < 4294967296) (h : mapB m 32 = []) : m = 0 := by
  apply Nat.eq_of_testBit_eq
  intro c
  rw [Nat.zero_testBit]
  rcases Nat.lt_or_ge c 32 with hc | hc
  · cases hb : m.testBit c
    · rfl
    · have : c ∈ mapB m 32 := by
        rw [mapB, List.mem_filter]
        refine ⟨List.mem_range.2 hc, ?_⟩
        rw [hasB, ← Nat.testBit_eq_decide_div_mod_eq, hb]
        simp [hc]
      rw [h] at this
      cases this
  · exact Nat.testBit_lt_two_pow (Nat.lt_of_lt_of_le hm (Nat.pow_le_pow_right (n := 2) (by omega) hc))
theorem map_has {m k x : Nat} (h : (mapB m 32)[k]? = some x) : hasB m x = true ∧ x < 256 := by
  have := List.mem_of_getElem? h
  rw [mapB, List.mem_filter] at this
  exact ⟨this.2, by have := has_lt this.2; omega⟩

set_option maxHeartbeats 4000000 in
theorem snoise_walk (m : Nat) (hm : m < 4294967296) (l : List Nat) (A A2 : Option Addr) (n c n2 c2 : Nat) (w : World) (hl : l.length = n) (hb : By l) (h : Rd w w.heap.size A l) (h2 : Rw w w.heap.size A2 n2) (h4 : n ≤ 400) (h5 : n2 ≤ 40) :
    Calls Try.prog 6 #[.int .u32 (m : Int), .slice A n c, .slice A2 n2 c2] w fun e w' => e = .returned (.bool true) ∧ Below w.heap.size w w' := by
  obtain ⟨i0, hi, hz0, hz1, hz2⟩ := info_parts byte_info
  have HL := Lib.hid hl
  have HR := Lib.hid h
  have HR2 := Lib.hid h2
  clear hl h h2
  go_enter Try.func6, Try.ntmps6
  go_wp2_with fail
  refine (speaks4_any _).mono ?_
  rintro e w1 ⟨rfl, hB1⟩
  go_wp2_with fail
  refine (list_any m hm _).mono ?_
  rintro e w2 ⟨A3, c3, n3, rfl, hn3, hl3, -, hr3, hb2⟩
  have hB2 := hB1.trans (hb2.mono hB1.size)
  have HL3 := Lib.hid hl3
  have HR3 := Lib.hid hr3
  clear hl3 hb2 hr3
  by_cases h0 : n3 = 0
  · have hm0 : m = 0 := map_nil hm (List.eq_nil_of_length_eq_zero (by rw [HL3.out]; exact h0))
    subst h0
    subst hm0
    go_wp2_with fail
    go_ret
    exact ⟨rfl, hB2⟩
  · have e0 : ((n3 : Int) == 0) = false := by simp; omega
    have hsz2 := hB2.size
    have hown0 : (w2.alloc (.cells #[] 5)).ownsRow w2.heap.size 5 1 (.slice (some ⟨w2.heap.size, 0, none⟩) 0 0) 0 (bvs []) := World.ownsRow_lit w2 #[] 0 (Nat.le_refl _) (by unfold maxLen; omega) rfl
    have hb0 : Below w2.heap.size w2 (w2.alloc (.cells #[] 5)) := (Below.refl _ _).alloc (Nat.le_refl _) _
    have HR4 := Lib.hid ((HR.out.below hB2).more hB2.size)
    go_wp2_with (at_builtin; refine list_app rfl _ _ _ rfl _ i0 Try.underlying23 hi hz0 hz1 hz2 w2.heap.size _ _ [] rfl hown0 _ _ _ _ l rfl ((HR4.out.below hb0).more hb0.size) HL.out (by omega) hb0.size ?_; intro A4 c4 w4 ho4 hg4; rw [List.nil_append, Nat.zero_add] at ho4; rw [Nat.zero_add]; have hb4 := app_below hb0 (Nat.le_refl _) hown0 hg4; clear hg4 hown0)
    go_loopw [8, 41] (fun v s wr => ∃ (i q : Nat) (xs : List Nat), i ≤ n2 ∧ s = .int .i64 i ∧ q ≤ n + i ∧ wr.ownsRow w2.heap.size 5 1 v q (bvs xs) ∧ By xs ∧ Hid (unst m xs = unst m l) ∧ Below w2.heap.size w2 wr) (fun _ s _ => n2 - (intOf s).toNat)
    case atStart => exact ⟨0, n, l, Nat.zero_le _, rfl, by omega, ho4, hb, Lib.hid rfl, hb4⟩
    case round =>
      obtain ⟨i, q, xs, hin, rfl, hq, hown, hbx, hux, hbel⟩ := hrel
      clear ho4 hb4
      obtain ⟨A5, c5, rfl, hqc, hcm⟩ := own_form hown
      have HXL := Lib.hid (show xs.length = q by have := hown.1; rw [bvs_len] at this; omega)
      by_cases hlt : i < n2
      · obtain ⟨b, off, rfl, hbb, hcw⟩ := (HR2.out.below (hB2.trans (hbel.mono hB2.size))) (by omega)
        obtain ⟨z, hz, hcz⟩ := hcw i hlt
        clear hcw
        have i1 : (0 : Int) ≤ i := by omega
        have i2 : (i : Int) < n2 := by omega
        obtain ⟨r, hr, hrq⟩ : ∃ r : Nat, z % (q + 1) = r ∧ r ≤ q := ⟨_, rfl, by have := Nat.mod_lt z (show 0 < q + 1 by omega); omega⟩
        obtain ⟨t, ht, htn⟩ : ∃ t : Nat, i % n3 = t ∧ t < n3 := ⟨_, rfl, Nat.mod_lt _ (by omega)⟩
        have HRr := Lib.hid (show ((z : Int) % ((q : Int) + 1)) = (r : Int) by rw [← hr]; push_cast; rfl)
        have HTt := Lib.hid (show (i : Int).tmod (n3 : Int) = (t : Int) by rw [← ht, Int.tmod_eq_emod_of_nonneg (by omega)]; push_cast; rfl)
        clear hr ht
        obtain ⟨b3, o3, y, rfl, hb3, hy, hcy⟩ := (HR3.out.below hbel).at_ (k := t) (by rw [HL3.out]; exact htn)
        obtain ⟨hyh, hy256⟩ := map_has hy
        have HY := Lib.hid hyh
        have hcy0 := (hbel.cell (p := ⟨b3, o3 + t, none⟩) hb3).symm.trans hcy
        clear hy hyh
        go_wp2_with fail
        rw [HRr.out]
        have j1 : (0 : Int) ≤ r := by omega
        have j2 : (r : Int) ≤ q := by omega
        have j3 : (r : Int) ≤ c5 := by omega
        have j4 : (q : Int) ≤ c5 := by omega
        have j5 : (0 : Int) ≤ t := by omega
        have j6 : (t : Int) < n3 := by omega
        have j7 := HTt.out
        have j8 : IntKind.i64.wrap (t : Int) = t := IntWalk.i64_in _ (by omega)
        have hrq' := Lib.hid hrq
        have hxs := Rd.own hown
        have hsz4 := hbel.size
        have hlit : ∀ W : World, w2.heap.size ≤ W.heap.size → (W.alloc (.cells #[.int .u8 (y : Int)] 5)).ownsRow w2.heap.size 5 1 (.slice (some ⟨W.heap.size, 0, none⟩) 1 1) 1 (bvs [y]) := fun W hW => World.ownsRow_lit W #[.int .u8 (y : Int)] 1 hW (by unfold maxLen; omega) rfl
        have HD := Lib.hid (show (xs.drop r).length = q - r by rw [List.length_drop, HXL.out])
        have HT2 := Lib.hid (show (xs.take r).length = r by rw [List.length_take, HXL.out]; omega)
        have hrx : r ≤ xs.length := by rw [HXL.out]; exact hrq
        have hqx : xs.length ≤ c5 := by rw [HXL.out]; exact hqc
        have HRX := Lib.hid hrx
        have HQX := Lib.hid hqx
        have HXS := Lib.hid hxs
        have HLIT := Lib.hid hlit
        clear hrx hqx hxs hlit
        have hwd := Lib.hid ((Below.refl wr.heap.size wr).alloc (Nat.le_refl _) (.cells #[.int .u8 (y : Int)] 5)).drew
        have HYD := Lib.hid (show ([y] ++ xs.drop r).length = 1 + (q - r) by rw [List.length_append, HD.out]; rfl)
        have hcy2 : (wr.alloc (.cells #[.int .u8 (y : Int)] 5)).drew.cell? ⟨b3, o3 + t, none⟩ = some (.int .u8 (y : Int)) := (World.cell?_alloc_lt wr _ ⟨b3, o3 + t, none⟩ (by show b3 < _; omega)).trans hcy
        have hwsz : (wr.alloc (.cells #[.int .u8 (y : Int)] 5)).drew.heap.size = wr.heap.size + 1 := by simp [World.drew]
        have HRX2 := Lib.hid (HXS.out.alloc (Nat.le_refl _) (.cells #[.int .u8 (y : Int)] 5)).drew
        have hol : (wr.alloc (.cells #[.int .u8 (y : Int)] 5)).drew.ownsRow wr.heap.size 5 1 (.slice (some ⟨wr.heap.size, 0, none⟩) 1 1) 1 (bvs [y]) := World.ownsRow_lit wr #[.int .u8 (y : Int)] 1 (Nat.le_refl _) (by unfold maxLen; omega) rfl
        have HOL := Lib.hid hol
        have HSZ := Lib.hid hwsz
        clear hol hwsz
        go_region_held3 (fun W => W.cell? ⟨b3, o3 + t, none⟩ = some (.int .u8 (y : Int))) (first | exact hcy | exact hcy2 | exact hcy6 | exact hcy7) (first
          | (have _g := hcy2; clear _g; (refine step_app _ (by rfl) _ _ _ (by rfl) _ i0 Try.underlying23 hi hz0 hz1 hz2 wr.heap.size _ 1 [y] (by rfl) HOL.out wr.heap.size _ _ _ (xs.drop r) (by rfl) (HRX2.out.cut HRX.out HQX.out) HD.out (by omega) (by rw [HSZ.out]; omega) ?_); intro A6 c6 w6 ho6 hg6; have hb6 := app_below hwd.out (Nat.le_refl _) HOL.out hg6; have hcy6 := (hb6.cell (p := ⟨b3, o3 + t, none⟩) (show b3 < wr.heap.size by omega)).trans hcy; have HX6 := Lib.hid (((HXS.out.below hb6).more hb6.size).take r); have HY6 := Lib.hid (Rd.own ho6); have HB6 := Lib.hid hb6; have hsz6 := hb6.size; clear hg6 hcy2 hb6 ho6; dsimp only)
          | ((refine step_appg _ (by rfl) _ _ _ (by rfl) _ i0 Try.underlying23 hi hz0 hz1 hz2 w2.heap.size A5 r (xs.take r) (by rfl) _ HX6.out HT2.out _ _ _ _ ([y] ++ xs.drop r) (by rfl) HY6.out HYD.out (by omega) (by omega) (by omega) ?_); intro A7 c7 w7 ho7 hg7; have hb7 := (HB6.out).grown hg7 hsz6 (fun k hk => by cases hk); have hcy7 := (hb7.cell (p := ⟨b3, o3 + t, none⟩) (show b3 < wr.heap.size by omega)).trans hcy; clear hg7 hcy6; dsimp only))
        generalize (if c5 = r then A5 else Option.map (fun x => x.add r) A5) = A'
        have hbel7 : Below w2.heap.size w2 w7 := hbel.trans (hb7.mono hsz4)
        have hux7 : Hid (unst m (xs.take r ++ ([y] ++ xs.drop r)) = unst m l) := Lib.hid (by
          rw [show xs.take r ++ ([y] ++ xs.drop r) = xs.take r ++ y :: xs.drop r from rfl, unst_noise _ _ HY.out, List.take_append_drop]
          exact hux.out)
        have hby7 : By (xs.take r ++ ([y] ++ xs.drop r)) := (hbx.take r).app (By.app (by intro x hx; rw [List.mem_singleton] at hx; subst hx; exact hy256) (hbx.drop r))
        clear hcy7 HX6 HY6 HB6 hb7
        go_wp2_with fail
        go_roundw
        case rel => exact ⟨i + 1, r + (1 + (q - r)), _, by omega, by go_num, by omega, ho7, hby7, hux7, hbel7⟩
        case measure => simp [intOf]; omega
      · have hB5 := hB2.trans (hbel.mono hsz2)
        have hr5 := Rd.own hown
        clear hown
        go_wp2_with fail
        refine (unst_any m hm l n _ _ wr ((HR.out.below hB5).more hB5.size) hb HL.out (by omega)).mono ?_
        rintro e w8 ⟨A8, c8, k8, rfl, hk8, hl8, hr8, hb8⟩
        have hB8 := hB5.trans (hb8.mono hB5.size)
        have HR58 := Lib.hid ((hr5.below hb8).more hb8.size)
        have HL8 := Lib.hid hl8
        clear hl8 hb8 hr5
        obtain ⟨v, hv⟩ : ∃ v, Hid ((unst m l).2 = v) := ⟨_, Lib.hid rfl⟩
        rw [hv.out]
        go_wp2_with fail
        refine (unst_any m hm xs q _ _ w8 HR58.out hbx HXL.out (by omega)).mono ?_
        rintro e w9 ⟨A9, c9, k9, rfl, hk9, hl9, hr9, hb9⟩
        have hB9 := hB8.trans (hb9.mono hB8.size)
        have hr89 := (hr8.below hb9).more hb9.size
        rw [hux.out] at hl9 hr9
        rw [hux.out, hv.out]
        have HL9 := Lib.hid hl9
        have ev : ((v : Int) == (v : Int)) = true := by simp
        clear hl9 hb9 hr8
        go_wp2_with fail
        refine (equal_yes _ _ k8 k9 _ _ _ _ w9 hr89 hr9 HL8.out HL9.out (by omega) rfl).mono ?_
        rintro e w10 ⟨rfl, hb10⟩
        have hB10 := hB9.trans (hb10.mono hB9.size)
        clear hb10
        go_wp2_with fail
        go_ret
        exact ⟨rfl, hB10⟩

end Go.Proofs.Ytinajpmhpbjaiaa
