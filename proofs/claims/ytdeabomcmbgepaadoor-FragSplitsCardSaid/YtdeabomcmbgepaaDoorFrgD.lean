
/-
  What the document's own Put and Get of layer 23 answer. No condition beyond: data of at most 2^38 octets.
-/
import Derived.Test.YtdeabomcmbgepaaDoorFrgG
namespace Go.Proofs.YtdeabomcmbgepaaDoor
open Go.RowKit

theorem frd_low (v : Nat) (h : v < 16777216) : ∃ v1 v2 v3 v4 : Nat, v / 256 = v1 ∧ v % 256 = v2 ∧ v / 65536 = v3 ∧ v1 % 256 = v4 ∧ v1 < 65536 ∧ v2 < 256 ∧ v3 < 256 ∧ v4 < 256 := ⟨_, _, _, _, rfl, rfl, rfl, rfl, by omega, by omega, by omega, by omega⟩
theorem frd_quo (v z k : Nat) (h : v / z = k) : (v : Int) / (z : Int) = (k : Int) := by rw [← h, Int.natCast_ediv]
theorem frd_rem (v z k : Nat) (h : v % z = k) : (v : Int).tmod (z : Int) = (k : Int) := by rw [← h, Int.ofNat_tmod]
theorem frd_u8 (k : Nat) (h : k < 256) : IntKind.u8.wrap (k : Int) = (k : Int) := IntWalk.u8_in _ (by omega)
theorem frd_64 (k : Nat) (h : k < 16777216) : wrap64 (k : Int) = (k : Int) := IntWalk.wrap64_in _ (by omega)
theorem frd_add (a b k : Nat) (h : a + b = k) : (a : Int) + (b : Int) = (k : Int) := by omega
theorem frd_top (v v1 T : Nat) (h : v < 4096) (h1 : v / 256 = v1) (hT : T ≤ 192) : T + v1 < 256 := by omega
theorem frd_sum (v1 T : Nat) (h : v1 < 65536) (hT : T ≤ 192) : T + v1 < 16777216 := by omega

theorem frrmod_q (s : Bool) (w : World) :
    Calls Tryd.prog 26 #[.bool s] w fun e w' => e = .returned (.int .i64 (frmod s : Int)) ∧ ∃ n, w' = w.drewN n :=
  (frrmod_any s w).mono fun _ _ ⟨h1, h2⟩ => ⟨h1, 0, h2.symm⟩

set_option maxHeartbeats 2000000 in
theorem frrput_any (s b e : Bool) (x : Int) (A : Option Addr) (l : List Nat) (n c : Nat) (w : World) (h : Rd w w.heap.size A l) (hl : l.length = n) (hn : n ≤ 274877906944) (z q : Nat) (hz : (frputA s ⟨b, e, x, l⟩).length = z) (hq : frputE s ⟨b, e, x, l⟩ = q) :
    Calls Tryd.prog 10 #[.bool s, fV b e x A n c] w fun r w' => ∃ A' c', r = .returned (.tuple #[.slice A' z c', .int .i64 (q : Int)]) ∧ New w w' A' c' z (frputA s ⟨b, e, x, l⟩) := by
  obtain ⟨i0, hi, hz0, hz1, hz2⟩ := info_parts byte_info
  obtain ⟨w1, hw1⟩ : ∃ w1, w1 = w.alloc (.cells #[.bool b, .bool e, .int .i64 x, .slice A n c] 24) := ⟨_, rfl⟩
  have hb1 : Below w.heap.size w w1 := by rw [hw1]; exact (Below.refl _ _).alloc (Nat.le_refl _) _
  have X1 : FrX w1 w.heap.size 24 b e x A n c := by rw [hw1]; exact FrX.new _ _ _ _ _ _ _ _
  have HW1 := Lib.hid hw1
  have HX := Lib.hid X1
  have HR := Lib.hid (h.on hb1)
  have HB1 := Lib.hid hb1
  have q0 := X1.c0
  have q1 := X1.c1
  have q2 := X1.c2
  have q3 := X1.c3
  have HL := Lib.hid hl
  clear hw1 hb1 X1 h hl
  cases hr : frright s x
  · have E1 := Lib.hid (show frputA s ⟨b, e, x, l⟩ = [] by unfold frputA; rw [hr]; rfl)
    have E2 : q = 5 := by rw [← hq]; unfold frputE; rw [hr]; rfl
    have E3 : z = 0 := by rw [← hz, E1.out]; rfl
    subst E2 E3
    have fin : ∀ k, New w (w1.drewN k) none 0 0 (frputA s ⟨b, e, x, l⟩) := fun k => by
      rw [E1.out]
      exact ⟨rfl, ⟨rfl, .inl ⟨rfl, rfl⟩⟩, Rd.nil, below_drewN HB1.out k⟩
    have FIN := Lib.hid fin
    by_cases hx0 : x < 0
    · clear hr hq hz fin
      go_enter Tryd.func10, Tryd.ntmps10
      go_wp2_with fail
      rw [← HW1.out]
      go_quiet (fail)
      all_goals go_wp2_with fail
      go_ret2
      exact ⟨none, 0, rfl, FIN.out _⟩
    · have hx1 : (frmod s : Int) ≤ x := by rcases frright_no hr with h | h; exact absurd h hx0; exact h
      have hx2 : ¬ x < 0 := hx0
      clear hr hq hz fin hx0
      go_enter Tryd.func10, Tryd.ntmps10
      go_wp2_with fail
      rw [← HW1.out]
      go_quiet (first | (go_at_call 26; with_reducible exact Calls.quiet_of (frrmod_q s _)))
      all_goals go_wp2_with fail
      go_ret2
      exact ⟨none, 0, rfl, FIN.out _⟩
  · obtain ⟨h0, h1⟩ := frright_iff.1 hr
    obtain ⟨v, rfl⟩ := Int.eq_ofNat_of_zero_le h0
    have E1 := Lib.hid (show frputA s ⟨b, e, v, l⟩ = frhead s b e v ++ l by unfold frputA; rw [hr]; rfl)
    have E2 : q = 0 := by rw [← hq]; unfold frputE; rw [hr]; rfl
    subst E2
    have hv : v < frmod s := by omega
    have hx2 : ¬ (v : Int) < 0 := by omega
    have hx1 : ¬ (frmod s : Int) ≤ (v : Int) := by omega
    have HZ := Lib.hid (show z = frsz s + n by rw [← hz, E1.out, List.length_append, frhead_len, HL.out])
    clear hr hq hz h0 h1
    go_enter Tryd.func10, Tryd.ntmps10
    go_wp2_with fail
    rw [← HW1.out]
    go_quiet (first | (go_at_call 26; with_reducible exact Calls.quiet_of (frrmod_q s _)))
    all_goals go_upto_region 3 with fail
    with_reducible refine at_worldF (fun W => Hid (Below w.heap.size w W ∧ FrX W w.heap.size 24 b e (v : Int) A n c ∧ Rd W W.heap.size A l)) (Lib.hid ⟨below_drewN HB1.out _, HX.out.on (below_drewN (Below.refl _ _) _), HR.out.on (below_drewN (Below.refl _ _) _)⟩) ?_
    clear HB1 HX HR HW1 q0 q1 q2 q3 w1
    rintro w2 C
    have q0 := C.out.2.1.c0
    have q1 := C.out.2.1.c1
    have q2 := C.out.2.1.c2
    have q3 := C.out.2.1.c3
    have hvm : v < 16777216 := Nat.lt_of_lt_of_le hv (by cases s <;> simp [frmod])
    obtain ⟨v1, v2, v3, v4, e1, e2, e3, e4, l1, l2, l3, l4⟩ := frd_low v hvm
    have hv1 := Lib.hid (And.intro e1 l1)
    have hv2 := Lib.hid (And.intro e2 l2)
    have hv3 := Lib.hid (And.intro e3 l3)
    have hv4 := Lib.hid (And.intro e4 l4)
    have d1 : (v : Int) / 256 = (v1 : Int) := frd_quo v 256 v1 e1
    have d2 : (v : Int).tmod 256 = (v2 : Int) := frd_rem v 256 v2 e2
    have d3 := frd_u8 v2 l2
    have d4 := frd_64 v1 (Nat.lt_trans l1 (by decide))
    clear e1 e2 e3 e4 l1 l2 l3 l4 hvm
    cases s
    · have hv9 := Lib.hid (show v < 16777216 from hv)
      clear hv hx1 hx2
      have d5 : (v : Int) / 65536 = (v3 : Int) := frd_quo v 65536 v3 hv3.out.1
      have d6 := frd_u8 v3 hv3.out.2
      have d7 : (v1 : Int).tmod 256 = (v4 : Int) := frd_rem v1 256 v4 hv4.out.1
      have d8 := frd_u8 v4 hv4.out.2
      have d9 := frd_64 v3 (Nat.lt_trans hv3.out.2 (by decide))
      cases b <;> cases e
      · obtain ⟨t1, ht1⟩ : ∃ t1, Hid (0 + v1 = t1) := ⟨_, Lib.hid rfl⟩
        have a1 : (0 : Int) + (v1 : Int) = (t1 : Int) := frd_add 0 v1 t1 ht1.out
        have a3 := frd_64 t1 (by rw [← ht1.out]; exact frd_sum v1 _ hv1.out.2 (by decide))
        obtain ⟨t2, a2⟩ : ∃ t2, IntKind.u8.wrap (t1 : Int) = t2 := ⟨_, rfl⟩
        have a5 : t1 = v1 := by rw [← ht1.out, Nat.zero_add]
        subst a5
        clear a1
        have E1 := Lib.hid (show frputA false ⟨false, false, v, l⟩ = [0, v3, v4, v2] ++ l by rw [E1.out, frhead, ← hv2.out.1, ← hv4.out.1, ← hv3.out.1, ← hv1.out.1]; simp [frtop])
        obtain ⟨w5, hw5⟩ : ∃ w5, w5 = w2.alloc (.cells #[.int .u8 t2, .int .u8 (v2 : Int)] 5) := ⟨_, rfl⟩
        have hb5 : Below w2.heap.size w2 w5 := by rw [hw5]; exact (Below.refl _ _).alloc (Nat.le_refl _) _
        obtain ⟨w4, hw4⟩ : ∃ w4, w4 = w5.alloc (.cells #[.int .u8 0, .int .u8 (v3 : Int), .int .u8 (v4 : Int), .int .u8 (v2 : Int)] 5) := ⟨_, rfl⟩
        have hs5 : w5.heap.size = w2.heap.size + 1 := by rw [hw5, World.size_alloc]
        have HSZ := Lib.hid (show w2.heap.size ≤ w5.heap.size by omega)
        have HS5 := Lib.hid hs5
        have HOWN := Lib.hid (show w4.ownsRow w5.heap.size 5 1 (.slice (some ⟨w5.heap.size, 0, none⟩) 4 4) 4 (bvs [0, v3, v4, v2]) by rw [hw4]; exact World.ownsRow_lit w5 #[.int .u8 0, .int .u8 (v3 : Int), .int .u8 (v4 : Int), .int .u8 (v2 : Int)] 4 (Nat.le_refl _) (by unfold maxLen; omega) rfl)
        have HB4 := Lib.hid (show Below w2.heap.size w2 w4 by rw [hw4]; exact hb5.alloc hb5.size _)
        have HW5 := Lib.hid hw5
        have HW4 := Lib.hid hw4
        have BB := Lib.hid (C.out.1.trans (HB4.out.mono C.out.1.size))
        have X5 := C.out.2.1.on hb5
        have q5 := X5.c2
        have X4 := C.out.2.1.on HB4.out
        have RR := Lib.hid (C.out.2.2.on HB4.out)
        have q4 := X4.c3
        have HS4 := Lib.hid (show w5.heap.size ≤ w4.heap.size by rw [hw4, World.size_alloc]; omega)
        clear X4 X5 hw4 hw5 hb5 hs5
        go_upto_region 10 with fail
        rw [← HW5.out]
        go_upto_region 11 with fail
        rw [← HW4.out]
        go_wp2_with (at_builtin; refine list_app rfl _ _ 22 rfl 5 i0 Tryd.underlying22 hi hz0 hz1 hz2 w5.heap.size _ 4 [0, v3, v4, v2] rfl HOWN.out _ A n c l rfl RR.out HL.out (by omega) HS4.out ?_; intro A' c' w3 hown3 hgrow3)
        go_ret2
        have HZ2 := HZ.out
        subst HZ2
        have hB3 := BB.out.grown hgrow3 BB.out.size (fun k hk => Nat.le_trans (Nat.le_trans C.out.1.size HSZ.out) (HOWN.out.lt k hk).1)
        obtain ⟨A9, c9, e9, hN⟩ := New.mk (own_lo hown3 (by have h5 := C.out.1.size; have h6 := HSZ.out; omega)) hB3
        injection e9 with e1 e2 e3
        subst e1; subst e3
        rw [E1.out]
        exact ⟨_, _, rfl, hN⟩
      · obtain ⟨t1, ht1⟩ : ∃ t1, Hid (64 + v1 = t1) := ⟨_, Lib.hid rfl⟩
        have a1 : (64 : Int) + (v1 : Int) = (t1 : Int) := frd_add 64 v1 t1 ht1.out
        have a3 := frd_64 t1 (by rw [← ht1.out]; exact frd_sum v1 _ hv1.out.2 (by decide))
        obtain ⟨t2, a2⟩ : ∃ t2, IntKind.u8.wrap (t1 : Int) = t2 := ⟨_, rfl⟩
        have E1 := Lib.hid (show frputA false ⟨false, true, v, l⟩ = [64, v3, v4, v2] ++ l by rw [E1.out, frhead, ← hv2.out.1, ← hv4.out.1, ← hv3.out.1, ← hv1.out.1]; simp [frtop])
        obtain ⟨w5, hw5⟩ : ∃ w5, w5 = w2.alloc (.cells #[.int .u8 t2, .int .u8 (v2 : Int)] 5) := ⟨_, rfl⟩
        have hb5 : Below w2.heap.size w2 w5 := by rw [hw5]; exact (Below.refl _ _).alloc (Nat.le_refl _) _
        obtain ⟨w4, hw4⟩ : ∃ w4, w4 = w5.alloc (.cells #[.int .u8 64, .int .u8 (v3 : Int), .int .u8 (v4 : Int), .int .u8 (v2 : Int)] 5) := ⟨_, rfl⟩
        have hs5 : w5.heap.size = w2.heap.size + 1 := by rw [hw5, World.size_alloc]
        have HSZ := Lib.hid (show w2.heap.size ≤ w5.heap.size by omega)
        have HS5 := Lib.hid hs5
        have HOWN := Lib.hid (show w4.ownsRow w5.heap.size 5 1 (.slice (some ⟨w5.heap.size, 0, none⟩) 4 4) 4 (bvs [64, v3, v4, v2]) by rw [hw4]; exact World.ownsRow_lit w5 #[.int .u8 64, .int .u8 (v3 : Int), .int .u8 (v4 : Int), .int .u8 (v2 : Int)] 4 (Nat.le_refl _) (by unfold maxLen; omega) rfl)
        have HB4 := Lib.hid (show Below w2.heap.size w2 w4 by rw [hw4]; exact hb5.alloc hb5.size _)
        have HW5 := Lib.hid hw5
        have HW4 := Lib.hid hw4
        have BB := Lib.hid (C.out.1.trans (HB4.out.mono C.out.1.size))
        have X5 := C.out.2.1.on hb5
        have q5 := X5.c2
        have X4 := C.out.2.1.on HB4.out
        have RR := Lib.hid (C.out.2.2.on HB4.out)
        have q4 := X4.c3
        have HS4 := Lib.hid (show w5.heap.size ≤ w4.heap.size by rw [hw4, World.size_alloc]; omega)
        clear X4 X5 hw4 hw5 hb5 hs5
        go_upto_region 10 with fail
        rw [← HW5.out]
        go_upto_region 11 with fail
        rw [← HW4.out]
        go_wp2_with (at_builtin; refine list_app rfl _ _ 22 rfl 5 i0 Tryd.underlying22 hi hz0 hz1 hz2 w5.heap.size _ 4 [64, v3, v4, v2] rfl HOWN.out _ A n c l rfl RR.out HL.out (by omega) HS4.out ?_; intro A' c' w3 hown3 hgrow3)
        go_ret2
        have HZ2 := HZ.out
        subst HZ2
        have hB3 := BB.out.grown hgrow3 BB.out.size (fun k hk => Nat.le_trans (Nat.le_trans C.out.1.size HSZ.out) (HOWN.out.lt k hk).1)
        obtain ⟨A9, c9, e9, hN⟩ := New.mk (own_lo hown3 (by have h5 := C.out.1.size; have h6 := HSZ.out; omega)) hB3
        injection e9 with e1 e2 e3
        subst e1; subst e3
        rw [E1.out]
        exact ⟨_, _, rfl, hN⟩
      · obtain ⟨t1, ht1⟩ : ∃ t1, Hid (128 + v1 = t1) := ⟨_, Lib.hid rfl⟩
        have a1 : (128 : Int) + (v1 : Int) = (t1 : Int) := frd_add 128 v1 t1 ht1.out
        have a3 := frd_64 t1 (by rw [← ht1.out]; exact frd_sum v1 _ hv1.out.2 (by decide))
        obtain ⟨t2, a2⟩ : ∃ t2, IntKind.u8.wrap (t1 : Int) = t2 := ⟨_, rfl⟩
        have E1 := Lib.hid (show frputA false ⟨true, false, v, l⟩ = [128, v3, v4, v2] ++ l by rw [E1.out, frhead, ← hv2.out.1, ← hv4.out.1, ← hv3.out.1, ← hv1.out.1]; simp [frtop])
        obtain ⟨w5, hw5⟩ : ∃ w5, w5 = w2.alloc (.cells #[.int .u8 t2, .int .u8 (v2 : Int)] 5) := ⟨_, rfl⟩
        have hb5 : Below w2.heap.size w2 w5 := by rw [hw5]; exact (Below.refl _ _).alloc (Nat.le_refl _) _
        obtain ⟨w4, hw4⟩ : ∃ w4, w4 = w5.alloc (.cells #[.int .u8 128, .int .u8 (v3 : Int), .int .u8 (v4 : Int), .int .u8 (v2 : Int)] 5) := ⟨_, rfl⟩
        have hs5 : w5.heap.size = w2.heap.size + 1 := by rw [hw5, World.size_alloc]
        have HSZ := Lib.hid (show w2.heap.size ≤ w5.heap.size by omega)
        have HS5 := Lib.hid hs5
        have HOWN := Lib.hid (show w4.ownsRow w5.heap.size 5 1 (.slice (some ⟨w5.heap.size, 0, none⟩) 4 4) 4 (bvs [128, v3, v4, v2]) by rw [hw4]; exact World.ownsRow_lit w5 #[.int .u8 128, .int .u8 (v3 : Int), .int .u8 (v4 : Int), .int .u8 (v2 : Int)] 4 (Nat.le_refl _) (by unfold maxLen; omega) rfl)
        have HB4 := Lib.hid (show Below w2.heap.size w2 w4 by rw [hw4]; exact hb5.alloc hb5.size _)
        have HW5 := Lib.hid hw5
        have HW4 := Lib.hid hw4
        have BB := Lib.hid (C.out.1.trans (HB4.out.mono C.out.1.size))
        have X5 := C.out.2.1.on hb5
        have q5 := X5.c2
        have X4 := C.out.2.1.on HB4.out
        have RR := Lib.hid (C.out.2.2.on HB4.out)
        have q4 := X4.c3
        have HS4 := Lib.hid (show w5.heap.size ≤ w4.heap.size by rw [hw4, World.size_alloc]; omega)
        clear X4 X5 hw4 hw5 hb5 hs5
        go_upto_region 10 with fail
        rw [← HW5.out]
        go_upto_region 11 with fail
        rw [← HW4.out]
        go_wp2_with (at_builtin; refine list_app rfl _ _ 22 rfl 5 i0 Tryd.underlying22 hi hz0 hz1 hz2 w5.heap.size _ 4 [128, v3, v4, v2] rfl HOWN.out _ A n c l rfl RR.out HL.out (by omega) HS4.out ?_; intro A' c' w3 hown3 hgrow3)
        go_ret2
        have HZ2 := HZ.out
        subst HZ2
        have hB3 := BB.out.grown hgrow3 BB.out.size (fun k hk => Nat.le_trans (Nat.le_trans C.out.1.size HSZ.out) (HOWN.out.lt k hk).1)
        obtain ⟨A9, c9, e9, hN⟩ := New.mk (own_lo hown3 (by have h5 := C.out.1.size; have h6 := HSZ.out; omega)) hB3
        injection e9 with e1 e2 e3
        subst e1; subst e3
        rw [E1.out]
        exact ⟨_, _, rfl, hN⟩
      · obtain ⟨t1, ht1⟩ : ∃ t1, Hid (192 + v1 = t1) := ⟨_, Lib.hid rfl⟩
        have a1 : (192 : Int) + (v1 : Int) = (t1 : Int) := frd_add 192 v1 t1 ht1.out
        have a3 := frd_64 t1 (by rw [← ht1.out]; exact frd_sum v1 _ hv1.out.2 (by decide))
        obtain ⟨t2, a2⟩ : ∃ t2, IntKind.u8.wrap (t1 : Int) = t2 := ⟨_, rfl⟩
        have E1 := Lib.hid (show frputA false ⟨true, true, v, l⟩ = [192, v3, v4, v2] ++ l by rw [E1.out, frhead, ← hv2.out.1, ← hv4.out.1, ← hv3.out.1, ← hv1.out.1]; simp [frtop])
        obtain ⟨w5, hw5⟩ : ∃ w5, w5 = w2.alloc (.cells #[.int .u8 t2, .int .u8 (v2 : Int)] 5) := ⟨_, rfl⟩
        have hb5 : Below w2.heap.size w2 w5 := by rw [hw5]; exact (Below.refl _ _).alloc (Nat.le_refl _) _
        obtain ⟨w4, hw4⟩ : ∃ w4, w4 = w5.alloc (.cells #[.int .u8 192, .int .u8 (v3 : Int), .int .u8 (v4 : Int), .int .u8 (v2 : Int)] 5) := ⟨_, rfl⟩
        have hs5 : w5.heap.size = w2.heap.size + 1 := by rw [hw5, World.size_alloc]
        have HSZ := Lib.hid (show w2.heap.size ≤ w5.heap.size by omega)
        have HS5 := Lib.hid hs5
        have HOWN := Lib.hid (show w4.ownsRow w5.heap.size 5 1 (.slice (some ⟨w5.heap.size, 0, none⟩) 4 4) 4 (bvs [192, v3, v4, v2]) by rw [hw4]; exact World.ownsRow_lit w5 #[.int .u8 192, .int .u8 (v3 : Int), .int .u8 (v4 : Int), .int .u8 (v2 : Int)] 4 (Nat.le_refl _) (by unfold maxLen; omega) rfl)
        have HB4 := Lib.hid (show Below w2.heap.size w2 w4 by rw [hw4]; exact hb5.alloc hb5.size _)
        have HW5 := Lib.hid hw5
        have HW4 := Lib.hid hw4
        have BB := Lib.hid (C.out.1.trans (HB4.out.mono C.out.1.size))
        have X5 := C.out.2.1.on hb5
        have q5 := X5.c2
        have X4 := C.out.2.1.on HB4.out
        have RR := Lib.hid (C.out.2.2.on HB4.out)
        have q4 := X4.c3
        have HS4 := Lib.hid (show w5.heap.size ≤ w4.heap.size by rw [hw4, World.size_alloc]; omega)
        clear X4 X5 hw4 hw5 hb5 hs5
        go_upto_region 10 with fail
        rw [← HW5.out]
        go_upto_region 11 with fail
        rw [← HW4.out]
        go_wp2_with (at_builtin; refine list_app rfl _ _ 22 rfl 5 i0 Tryd.underlying22 hi hz0 hz1 hz2 w5.heap.size _ 4 [192, v3, v4, v2] rfl HOWN.out _ A n c l rfl RR.out HL.out (by omega) HS4.out ?_; intro A' c' w3 hown3 hgrow3)
        go_ret2
        have HZ2 := HZ.out
        subst HZ2
        have hB3 := BB.out.grown hgrow3 BB.out.size (fun k hk => Nat.le_trans (Nat.le_trans C.out.1.size HSZ.out) (HOWN.out.lt k hk).1)
        obtain ⟨A9, c9, e9, hN⟩ := New.mk (own_lo hown3 (by have h5 := C.out.1.size; have h6 := HSZ.out; omega)) hB3
        injection e9 with e1 e2 e3
        subst e1; subst e3
        rw [E1.out]
        exact ⟨_, _, rfl, hN⟩
    · have hv9 := Lib.hid (show v < 4096 from hv)
      clear hv hx1 hx2
      cases b <;> cases e
      · obtain ⟨t1, ht1⟩ : ∃ t1, Hid (0 + v1 = t1 ∧ t1 < 256) := ⟨_, Lib.hid ⟨rfl, frd_top v v1 _ hv9.out hv1.out.1 (by decide)⟩⟩
        have a1 : (0 : Int) + (v1 : Int) = (t1 : Int) := frd_add 0 v1 t1 ht1.out.1
        have a2 := frd_u8 t1 ht1.out.2
        have a3 := frd_64 t1 (Nat.lt_trans ht1.out.2 (by decide))
        have a5 : t1 = v1 := by rw [← ht1.out.1, Nat.zero_add]
        subst a5
        clear a1
        have E1 := Lib.hid (show frputA true ⟨false, false, v, l⟩ = [t1, v2] ++ l by rw [E1.out, frhead, ← hv2.out.1, ← ht1.out.1, ← hv1.out.1]; simp [frtop])
        obtain ⟨w4, hw4⟩ : ∃ w4, w4 = w2.alloc (.cells #[.int .u8 (t1 : Int), .int .u8 (v2 : Int)] 5) := ⟨_, rfl⟩
        have HW4 := Lib.hid hw4
        have HSZ := Lib.hid (show w2.heap.size ≤ w2.heap.size from Nat.le_refl _)
        have HOWN := Lib.hid (show w4.ownsRow w2.heap.size 5 1 (.slice (some ⟨w2.heap.size, 0, none⟩) 2 2) 2 (bvs [t1, v2]) by rw [hw4]; exact World.ownsRow_lit w2 #[.int .u8 (t1 : Int), .int .u8 (v2 : Int)] 2 (Nat.le_refl _) (by unfold maxLen; omega) rfl)
        have HB4 := Lib.hid (show Below w2.heap.size w2 w4 by rw [hw4]; exact (Below.refl _ _).alloc (Nat.le_refl _) _)
        have BB := Lib.hid (C.out.1.trans (HB4.out.mono C.out.1.size))
        have X4 := C.out.2.1.on HB4.out
        have RR := Lib.hid (C.out.2.2.on HB4.out)
        have q4 := X4.c3
        clear X4 hw4
        go_upto_region 11 with fail
        rw [← HW4.out]
        go_wp2_with (at_builtin; refine list_app rfl _ _ 22 rfl 5 i0 Tryd.underlying22 hi hz0 hz1 hz2 w2.heap.size _ 2 [t1, v2] rfl HOWN.out _ A n c l rfl RR.out HL.out (by omega) (by have := HB4.out.size; omega) ?_; intro A' c' w3 hown3 hgrow3)
        go_ret2
        have HZ2 := HZ.out
        subst HZ2
        have hB3 := BB.out.grown hgrow3 BB.out.size (fun k hk => Nat.le_trans C.out.1.size (HOWN.out.lt k hk).1)
        obtain ⟨A9, c9, e9, hN⟩ := New.mk (own_lo hown3 (by have h5 := C.out.1.size; have h6 := HSZ.out; omega)) hB3
        injection e9 with e1 e2 e3
        subst e1; subst e3
        rw [E1.out]
        exact ⟨_, _, rfl, hN⟩
      · obtain ⟨t1, ht1⟩ : ∃ t1, Hid (64 + v1 = t1 ∧ t1 < 256) := ⟨_, Lib.hid ⟨rfl, frd_top v v1 _ hv9.out hv1.out.1 (by decide)⟩⟩
        have a1 : (64 : Int) + (v1 : Int) = (t1 : Int) := frd_add 64 v1 t1 ht1.out.1
        have a2 := frd_u8 t1 ht1.out.2
        have a3 := frd_64 t1 (Nat.lt_trans ht1.out.2 (by decide))
        have E1 := Lib.hid (show frputA true ⟨false, true, v, l⟩ = [t1, v2] ++ l by rw [E1.out, frhead, ← hv2.out.1, ← ht1.out.1, ← hv1.out.1]; simp [frtop])
        obtain ⟨w4, hw4⟩ : ∃ w4, w4 = w2.alloc (.cells #[.int .u8 (t1 : Int), .int .u8 (v2 : Int)] 5) := ⟨_, rfl⟩
        have HW4 := Lib.hid hw4
        have HSZ := Lib.hid (show w2.heap.size ≤ w2.heap.size from Nat.le_refl _)
        have HOWN := Lib.hid (show w4.ownsRow w2.heap.size 5 1 (.slice (some ⟨w2.heap.size, 0, none⟩) 2 2) 2 (bvs [t1, v2]) by rw [hw4]; exact World.ownsRow_lit w2 #[.int .u8 (t1 : Int), .int .u8 (v2 : Int)] 2 (Nat.le_refl _) (by unfold maxLen; omega) rfl)
        have HB4 := Lib.hid (show Below w2.heap.size w2 w4 by rw [hw4]; exact (Below.refl _ _).alloc (Nat.le_refl _) _)
        have BB := Lib.hid (C.out.1.trans (HB4.out.mono C.out.1.size))
        have X4 := C.out.2.1.on HB4.out
        have RR := Lib.hid (C.out.2.2.on HB4.out)
        have q4 := X4.c3
        clear X4 hw4
        go_upto_region 11 with fail
        rw [← HW4.out]
        go_wp2_with (at_builtin; refine list_app rfl _ _ 22 rfl 5 i0 Tryd.underlying22 hi hz0 hz1 hz2 w2.heap.size _ 2 [t1, v2] rfl HOWN.out _ A n c l rfl RR.out HL.out (by omega) (by have := HB4.out.size; omega) ?_; intro A' c' w3 hown3 hgrow3)
        go_ret2
        have HZ2 := HZ.out
        subst HZ2
        have hB3 := BB.out.grown hgrow3 BB.out.size (fun k hk => Nat.le_trans C.out.1.size (HOWN.out.lt k hk).1)
        obtain ⟨A9, c9, e9, hN⟩ := New.mk (own_lo hown3 (by have h5 := C.out.1.size; have h6 := HSZ.out; omega)) hB3
        injection e9 with e1 e2 e3
        subst e1; subst e3
        rw [E1.out]
        exact ⟨_, _, rfl, hN⟩
      · obtain ⟨t1, ht1⟩ : ∃ t1, Hid (128 + v1 = t1 ∧ t1 < 256) := ⟨_, Lib.hid ⟨rfl, frd_top v v1 _ hv9.out hv1.out.1 (by decide)⟩⟩
        have a1 : (128 : Int) + (v1 : Int) = (t1 : Int) := frd_add 128 v1 t1 ht1.out.1
        have a2 := frd_u8 t1 ht1.out.2
        have a3 := frd_64 t1 (Nat.lt_trans ht1.out.2 (by decide))
        have E1 := Lib.hid (show frputA true ⟨true, false, v, l⟩ = [t1, v2] ++ l by rw [E1.out, frhead, ← hv2.out.1, ← ht1.out.1, ← hv1.out.1]; simp [frtop])
        obtain ⟨w4, hw4⟩ : ∃ w4, w4 = w2.alloc (.cells #[.int .u8 (t1 : Int), .int .u8 (v2 : Int)] 5) := ⟨_, rfl⟩
        have HW4 := Lib.hid hw4
        have HSZ := Lib.hid (show w2.heap.size ≤ w2.heap.size from Nat.le_refl _)
        have HOWN := Lib.hid (show w4.ownsRow w2.heap.size 5 1 (.slice (some ⟨w2.heap.size, 0, none⟩) 2 2) 2 (bvs [t1, v2]) by rw [hw4]; exact World.ownsRow_lit w2 #[.int .u8 (t1 : Int), .int .u8 (v2 : Int)] 2 (Nat.le_refl _) (by unfold maxLen; omega) rfl)
        have HB4 := Lib.hid (show Below w2.heap.size w2 w4 by rw [hw4]; exact (Below.refl _ _).alloc (Nat.le_refl _) _)
        have BB := Lib.hid (C.out.1.trans (HB4.out.mono C.out.1.size))
        have X4 := C.out.2.1.on HB4.out
        have RR := Lib.hid (C.out.2.2.on HB4.out)
        have q4 := X4.c3
        clear X4 hw4
        go_upto_region 11 with fail
        rw [← HW4.out]
        go_wp2_with (at_builtin; refine list_app rfl _ _ 22 rfl 5 i0 Tryd.underlying22 hi hz0 hz1 hz2 w2.heap.size _ 2 [t1, v2] rfl HOWN.out _ A n c l rfl RR.out HL.out (by omega) (by have := HB4.out.size; omega) ?_; intro A' c' w3 hown3 hgrow3)
        go_ret2
        have HZ2 := HZ.out
        subst HZ2
        have hB3 := BB.out.grown hgrow3 BB.out.size (fun k hk => Nat.le_trans C.out.1.size (HOWN.out.lt k hk).1)
        obtain ⟨A9, c9, e9, hN⟩ := New.mk (own_lo hown3 (by have h5 := C.out.1.size; have h6 := HSZ.out; omega)) hB3
        injection e9 with e1 e2 e3
        subst e1; subst e3
        rw [E1.out]
        exact ⟨_, _, rfl, hN⟩
      · obtain ⟨t1, ht1⟩ : ∃ t1, Hid (192 + v1 = t1 ∧ t1 < 256) := ⟨_, Lib.hid ⟨rfl, frd_top v v1 _ hv9.out hv1.out.1 (by decide)⟩⟩
        have a1 : (192 : Int) + (v1 : Int) = (t1 : Int) := frd_add 192 v1 t1 ht1.out.1
        have a2 := frd_u8 t1 ht1.out.2
        have a3 := frd_64 t1 (Nat.lt_trans ht1.out.2 (by decide))
        have E1 := Lib.hid (show frputA true ⟨true, true, v, l⟩ = [t1, v2] ++ l by rw [E1.out, frhead, ← hv2.out.1, ← ht1.out.1, ← hv1.out.1]; simp [frtop])
        obtain ⟨w4, hw4⟩ : ∃ w4, w4 = w2.alloc (.cells #[.int .u8 (t1 : Int), .int .u8 (v2 : Int)] 5) := ⟨_, rfl⟩
        have HW4 := Lib.hid hw4
        have HSZ := Lib.hid (show w2.heap.size ≤ w2.heap.size from Nat.le_refl _)
        have HOWN := Lib.hid (show w4.ownsRow w2.heap.size 5 1 (.slice (some ⟨w2.heap.size, 0, none⟩) 2 2) 2 (bvs [t1, v2]) by rw [hw4]; exact World.ownsRow_lit w2 #[.int .u8 (t1 : Int), .int .u8 (v2 : Int)] 2 (Nat.le_refl _) (by unfold maxLen; omega) rfl)
        have HB4 := Lib.hid (show Below w2.heap.size w2 w4 by rw [hw4]; exact (Below.refl _ _).alloc (Nat.le_refl _) _)
        have BB := Lib.hid (C.out.1.trans (HB4.out.mono C.out.1.size))
        have X4 := C.out.2.1.on HB4.out
        have RR := Lib.hid (C.out.2.2.on HB4.out)
        have q4 := X4.c3
        clear X4 hw4
        go_upto_region 11 with fail
        rw [← HW4.out]
        go_wp2_with (at_builtin; refine list_app rfl _ _ 22 rfl 5 i0 Tryd.underlying22 hi hz0 hz1 hz2 w2.heap.size _ 2 [t1, v2] rfl HOWN.out _ A n c l rfl RR.out HL.out (by omega) (by have := HB4.out.size; omega) ?_; intro A' c' w3 hown3 hgrow3)
        go_ret2
        have HZ2 := HZ.out
        subst HZ2
        have hB3 := BB.out.grown hgrow3 BB.out.size (fun k hk => Nat.le_trans C.out.1.size (HOWN.out.lt k hk).1)
        obtain ⟨A9, c9, e9, hN⟩ := New.mk (own_lo hown3 (by have h5 := C.out.1.size; have h6 := HSZ.out; omega)) hB3
        injection e9 with e1 e2 e3
        subst e1; subst e3
        rw [E1.out]
        exact ⟨_, _, rfl, hN⟩
end Go.Proofs.YtdeabomcmbgepaaDoor
