/-
  The walk of the statement BitsJoin: it answers true for every list of bytes and every place, and writes nothing that was there. No condition.
-/
import Derived.Test.YtbkebmpeofbnjaaBitM
import Derived.Test.YtbkebmpeofbnjaaApp
namespace Go.Proofs.Ytbkebmpeofbnjaa
open Go.RowKit

set_option maxHeartbeats 1000000 in
theorem join_long (A : Option Addr) (n c : Nat) (a : Int) (w : World) (h : 400 < n) :
    Calls Try.prog 5 #[.slice A n c, .int .u16 a] w fun e w' => e = .returned (.bool true) ∧ Below w.heap.size w w' := by
  have h4 : (400 : Int) < (n : Int) := by omega
  go_enter Try.func5, Try.ntmps5
  go_wp2_with fail
  refine (speaks_any _).mono ?_
  rintro e w1 ⟨rfl, hB1⟩
  go_wp2_with fail
  refine (speaks_any _).mono ?_
  rintro e w2 ⟨rfl, hb2⟩
  go_wp2_with fail
  go_ret
  exact ⟨rfl, hB1.trans (hb2.mono hB1.size)⟩

/-- What b's part reads as in a later world. -/
theorem part_take {w w' : World} {A : Option Addr} {l : List Nat} (h : Rd w w.heap.size A l) (hb : Below w.heap.size w w') (k : Nat) : Rd w' w'.heap.size A (l.take k) := ((h.below hb).more hb.size).take k
theorem part_drop {w w' : World} {A : Option Addr} {l : List Nat} (h : Rd w w.heap.size A l) (hb : Below w.heap.size w w') {k c : Nat} (hk : k ≤ l.length) (hc : l.length ≤ c) : Rd w' w'.heap.size (if c = k then A else A.map (·.add k)) (l.drop k) := ((h.below hb).more hb.size).cut hk hc
theorem app_below {W w w' : World} {base n : Nat} {e : TypeId} {v : Value} {xs : List Value} (hb : Below W.heap.size W w) (hbase : W.heap.size ≤ base) (hown : w.ownsRow base e 1 v n xs) (hg : w.grownBy w' v.ownBlock) : Below W.heap.size W w' :=
  hb.grown hg hb.size (fun k hk => Nat.le_trans hbase (hown.lt k hk).1)

theorem run_q (l : List Nat) (n : Nat) (A : Option Addr) (c : Nat) (w : World) (h : Rd w w.heap.size A l) (hb : By l) (hn : l.length = n) (hl : n ≤ 1099511627776) :
    Calls Try.prog 15 #[.slice A n c] w fun e w' => e = .returned (.int .i64 (best l : Int)) ∧ w' = w :=
  (run_c l n A c w h hb hn hl).mono fun _ _ ⟨he, hw⟩ => ⟨he, hw.symm⟩

set_option maxHeartbeats 4000000 in
theorem join_walk (l : List Nat) (A : Option Addr) (n c : Nat) (a : Int) (w : World) (ha : 0 ≤ a) (ha2 : a ≤ 65535) (hl : l.length = n) (hb : By l) (h : Rd w w.heap.size A l) (h4 : n ≤ 400) (hc : n ≤ c) :
    Calls Try.prog 5 #[.slice A n c, .int .u16 a] w fun e w' => e = .returned (.bool true) ∧ Below w.heap.size w w' := by
  have HL := Lib.hid hl
  have HB := Lib.hid hb
  have HR := Lib.hid h
  clear hl hb h
  obtain ⟨k, hk, hkn⟩ : ∃ k : Nat, a % ((n : Int) + 1) = (k : Int) ∧ k ≤ n := by
    have h1 := Int.emod_nonneg a (b := (n : Int) + 1) (by omega)
    have h2 := Int.emod_lt_of_pos a (b := (n : Int) + 1) (by omega)
    exact ⟨(a % ((n : Int) + 1)).toNat, by omega, by omega⟩
  have k0 : (0 : Int) ≤ k := by omega
  have k1 : (k : Int) ≤ n := by omega
  have k2 : (k : Int) ≤ c := by omega
  have k3 : (n : Int) ≤ c := by omega
  go_enter Try.func5, Try.ntmps5
  go_wp2_with fail
  refine (speaks_any _).mono ?_
  rintro e w1 ⟨rfl, hB1⟩
  go_wp2_with fail
  rw [hk]
  clear hk
  obtain ⟨i0, hi, hz0, hz1, hz2⟩ := info_parts byte_info
  have hkl : k ≤ l.length := by rw [HL.out]; exact hkn
  have hlc : l.length ≤ c := by rw [HL.out]; exact hc
  have htl : (l.take k).length = k := by rw [List.length_take]; omega
  have hdl : (l.drop k).length = n - k := by rw [List.length_drop, HL.out]
  have HK := Lib.hid hkl
  have HC := Lib.hid hlc
  have HT := Lib.hid htl
  have HD := Lib.hid hdl
  have HE := Lib.hid (show ofB (l.take k) ++ ofB (l.drop k) = ofB l by rw [← ofB_app, List.take_append_drop])
  have HE2 := Lib.hid (show lows (l.take k) ++ lows (l.drop k) = lows l by rw [← lows_app, List.take_append_drop])
  have hBd := hB1.drew
  clear hkl hlc htl hdl hB1
  go_region_held3 (fun _ => True) (trivial) (first
    | (go_at_call 12; (with_reducible refine (of_c (l.take k) k A c _ (part_take HR.out hBd k) (HB.out.take k) HT.out (by omega)).mono ?_); rintro e w2 ⟨A2, c2, rfl, hl2, ho2, hr2, hb2⟩; have hB2 := hBd.trans (hb2.mono hBd.size); have hs2 := hb2.size; clear hb2; dsimp only)
    | (go_at_call 12; (with_reducible refine (of_c (l.drop k) (n - k) _ (c - k) _ (part_drop HR.out hB2 HK.out HC.out) (HB.out.drop k) HD.out (by omega)).mono ?_); rintro e w3 ⟨A3, c3, rfl, hl3, ho3, hr3, hb3⟩; have ho2' := own_below ho2 hb3; have hB3 := hB2.trans (hb3.mono hB2.size); have hs3 := hb3.size; clear hb3 hr2; dsimp only)
    | (have _g := ho2'; clear _g; (refine step_app _ (by rfl) _ _ _ (by rfl) _ i0 Try.underlying22 hi hz0 hz1 hz2 _ _ _ (ofB (l.take k)) (by rfl) ho2' _ _ _ _ (ofB (l.drop k)) (by rfl) hr3 hl3 (by omega) (by omega) ?_); intro A4 c4 w4 ho4 hg4; have hB4 := app_below hB3 hBd.size ho2' hg4; clear hr3 hg4 ho2' ho2)
    | (go_at_call 12; (with_reducible refine (of_c l n A c _ ((HR.out.below hB4).more hB4.size) HB.out HL.out (by omega)).mono ?_); rintro e w5 ⟨A5, c5, rfl, hl5, ho5, hr5, hb5⟩; have hr4 := ((Rd.own ho4).below hb5).more hb5.size; have hB5 := hB4.trans (hb5.mono hB4.size); clear hb5 ho5 ho4; dsimp only)
    | (go_at_call 11; (with_reducible refine (equal_yes (ofB (l.take k) ++ ofB (l.drop k)) (ofB l) (8 * k + 8 * (n - k)) (8 * n) _ _ _ _ _ hr4 hr5 (by rw [List.length_append]; omega) hl5 (by omega) HE.out).mono ?_); rintro e w6 ⟨rfl, hb6⟩; have hB6 := hB5.trans (hb6.mono hB5.size); clear hb6 hr4 hr5; dsimp only)
    | (go_at_call 10; (with_reducible refine (clean_c (l.take k) k A c _ (part_take HR.out hB6 k) (HB.out.take k) HT.out (by omega)).mono ?_); rintro e w7 ⟨A7, c7, rfl, hl7, ho7, hr7, hb7⟩; have hB7 := hB6.trans (hb7.mono hB6.size); have hs7 := hb7.size; clear hb7 hr7; dsimp only)
    | (go_at_call 10; (with_reducible refine (clean_c (l.drop k) (n - k) _ (c - k) _ (part_drop HR.out hB7 HK.out HC.out) (HB.out.drop k) HD.out (by omega)).mono ?_); rintro e w8 ⟨A8, c8, rfl, hl8, ho8, hr8, hb8⟩; have ho7' := own_below ho7 hb8; have hB8 := hB7.trans (hb8.mono hB7.size); have hs8 := hb8.size; clear hb8 ho8; dsimp only)
    | (refine step_app _ (by rfl) _ _ _ (by rfl) _ i0 Try.underlying22 hi hz0 hz1 hz2 _ _ _ (lows (l.take k)) (by rfl) ho7' _ _ _ _ (lows (l.drop k)) (by rfl) hr8 hl8 (by omega) (by omega) ?_; intro A9 c9 w9 ho9 hg9; have hB9 := app_below hB8 hB6.size ho7' hg9; clear hr8 hg9 ho7' ho7)
    | (go_at_call 10; (with_reducible refine (clean_c l n A c _ ((HR.out.below hB9).more hB9.size) HB.out HL.out (by omega)).mono ?_); rintro e w10 ⟨A10, c10, rfl, hl10, ho10, hr10, hb10⟩; have hr9 := ((Rd.own ho9).below hb10).more hb10.size; have hB10 := hB9.trans (hb10.mono hB9.size); clear hb10 ho10 ho9; dsimp only)
    | (go_at_call 11; (with_reducible refine (equal_yes (lows (l.take k) ++ lows (l.drop k)) (lows l) n n _ _ _ _ _ hr9 hr10 (by rw [List.length_append]; omega) hl10 (by omega) HE2.out).mono ?_); rintro e w11 ⟨rfl, hb11⟩; have hB11 := hB10.trans (hb11.mono hB10.size); clear hb11 hr9 hr10; dsimp only))
  generalize (if c = k then A else Option.map (fun x => x.add k) A) = A'
  clear hi hz0 hz1 hz2
  go_wp2_with fail
  go_quiet (first
    | (go_at_call 15; (with_reducible exact Calls.quiet_of_same (run_q (l.take k) k A c _ (part_take HR.out (below_drewN hB11 _) k) (HB.out.take k) HT.out (by omega))))
    | (go_at_call 15; (with_reducible exact Calls.quiet_of_same (run_q (l.drop k) (n - k) _ (c - k) _ (part_drop HR.out (below_drewN hB11 _) HK.out HC.out) (HB.out.drop k) HD.out (by omega))))
    | (go_at_call 15; (with_reducible exact Calls.quiet_of_same (run_q l n A c _ ((HR.out.below (below_drewN hB11 _)).more (below_drewN hB11 _).size) HB.out HL.out (by omega)))))
  generalize (if c = k then A else Option.map (fun x => x.add k) A) = A''
  have hx1 : best (l.take k) ≤ best l := by have := best_app_left (l.take k) (l.drop k); rwa [List.take_append_drop] at this
  have hy1 : best (l.drop k) ≤ best l := by have := best_app_right (l.take k) (l.drop k); rwa [List.take_append_drop] at this
  have hz1 : best l ≤ best (l.take k) + best (l.drop k) := by have := best_app (l.take k) (l.drop k); rwa [List.take_append_drop] at this
  have hz4 : best l ≤ 400 := by have := best_le l; rw [HL.out] at this; omega
  have hlow := Lib.hid (best_lows l)
  generalize best (l.take k) = x at *
  generalize best (l.drop k) = y at *
  obtain ⟨z, hz⟩ : ∃ z, best l = z := ⟨_, rfl⟩
  rw [hz] at hx1 hy1 hz1 hz4 ⊢
  have HZ := Lib.hid hz
  clear hz
  rename_i nq
  have hB12 := below_drewN hB11 nq
  by_cases hxy : x < y
  all_goals
    go_wp2_with fail
    refine (clean_c l n A c _ ((HR.out.below hB12).more hB12.size) HB.out HL.out (by omega)).mono ?_
    rintro e w13 ⟨A13, c13, rfl, hl13, -, hr13, hb13⟩
    have hB13 := hB12.trans (hb13.mono hB12.size)
    clear hb13
    go_wp2_with fail
    refine (run_c (lows l) n A13 c13 _ hr13 (lows_by l) hl13 (by omega)).mono ?_
    rintro e w14 ⟨rfl, rfl⟩
    rw [hlow.out, HZ.out]
    have hzz : ((z : Int) == (z : Int)) = true := by simp
    go_wp2_with fail
    go_ret
    exact ⟨rfl, hB13⟩

end Go.Proofs.Ytbkebmpeofbnjaa
