
/-
  What the document's Lost of layer 19 answers; the example; both Lost of any two packets. No condition beyond: packets that Go may have.
-/
import Derived.Test.YtppblnpcbiochaaLqrG
import Derived.Deep.CutRange
import Derived.BigQuiet
namespace Go.Proofs.Ytppblnpcbiochaa
open Go.RowKit
set_option linter.unusedVariables false

theorem Rws.nums {F : Nat → Prop} {w : World} {A : Option Addr} {xs : List Nat} (h : Rws shN F w A xs) (h0 : 0 < xs.length) : ∃ b off, A = some ⟨b, off, none⟩ ∧ ∀ (k x : Nat), xs[k]? = some x → w.cell? ⟨b, off + k, none⟩ = some (.int .u32 (x : Int)) := by
  obtain ⟨b, off, h1, _, _, h4⟩ := h h0
  refine ⟨b, off, h1, fun k x hx => ?_⟩
  obtain ⟨cs, rfl, h6⟩ := h4 k x hx
  have h7 := h6 0 _ rfl
  rw [show k * shN.sz + 0 = k by show k * 1 + 0 = k; omega] at h7
  exact h7

set_option maxHeartbeats 4000000 in
theorem rlost_no (p o : Pk) (q r : Pl) (w : World) (hp : Pw w p q) (ho : Pw w o r) (h : ¬ (q.nn = 12 ∧ r.nn = 12)) :
    Calls Try.prog 14 #[p.val q, o.val r] w fun e w' => e = .returned (.tuple #[.int .i64 0, .bool false]) ∧ Below w.heap.size w w' := by
  have C := Lib.hid (TwB.made 28 w p o q r hp ho)
  by_cases h1 : q.nn = 12
  · have h2 : r.nn ≠ 12 := fun h2 => h ⟨h1, h2⟩
    have t1 : ((q.nn : Int) != 12) = false := by rw [bne_eq_false_iff_eq]; omega
    have t2 : ((r.nn : Int) != 12) = true := by rw [bne_iff_ne]; omega
    clear h h1 h2 hp ho
    go_enter Try.func14, Try.ntmps14
    go_wp2_with fail
    go_ret2
    exact ⟨rfl, C.out.bel⟩
  · have t1 : ((q.nn : Int) != 12) = true := by rw [bne_iff_ne]; omega
    clear h h1 hp ho
    go_enter Try.func14, Try.ntmps14
    go_wp2_with fail
    go_ret2
    exact ⟨rfl, C.out.bel⟩

theorem loss_int {a b : List Nat} {x2 y2 x5 y5 : Nat} (h1 : a[2]? = some x2) (h2 : b[2]? = some y2) (h3 : a[5]? = some x5) (h4 : b[5]? = some y5) (k1 : x2 < 4294967296) (k2 : y2 < 4294967296) (k3 : x5 < 4294967296) (k4 : y5 < 4294967296) :
    ((y2 : Int) - x2 - y5 + x5) % 4294967296 = (lossB a b : Int) := by
  unfold lossB
  rw [List.getD_eq_getElem?_getD, List.getD_eq_getElem?_getD, List.getD_eq_getElem?_getD, List.getD_eq_getElem?_getD, h1, h2, h3, h4]
  simp only [Option.getD_some]
  omega

set_option maxHeartbeats 8000000 in
theorem rlost_yes (p o : Pk) (q r : Pl) (w : World) (hp : Pw w p q) (ho : Pw w o r) (h1 : q.nn = 12) (h2 : r.nn = 12) (m1 : N32 p.nums) (m2 : N32 o.nums) :
    Calls Try.prog 14 #[p.val q, o.val r] w fun e w' => e = .returned (.tuple #[.int .i64 (lossB p.nums o.nums : Int), .bool true]) ∧ Below w.heap.size w w' := by
  have C := Lib.hid (TwB.made 28 w p o q r hp ho)
  have l1 := hp.ln.trans h1
  have l2 := ho.ln.trans h2
  obtain ⟨s2, hs2⟩ : ∃ x, p.nums[2]? = some x := ⟨_, List.getElem?_eq_getElem (by omega)⟩
  obtain ⟨t2, ht2⟩ : ∃ x, o.nums[2]? = some x := ⟨_, List.getElem?_eq_getElem (by omega)⟩
  obtain ⟨s5, hs5⟩ : ∃ x, p.nums[5]? = some x := ⟨_, List.getElem?_eq_getElem (by omega)⟩
  obtain ⟨t5, ht5⟩ : ∃ x, o.nums[5]? = some x := ⟨_, List.getElem?_eq_getElem (by omega)⟩
  have b1 := m1 _ (List.mem_of_getElem? hs2)
  have b2 := m2 _ (List.mem_of_getElem? ht2)
  have b3 := m1 _ (List.mem_of_getElem? hs5)
  have b4 := m2 _ (List.mem_of_getElem? ht5)
  have E := Lib.hid (loss_int hs2 ht2 hs5 ht5 b1 b2 b3 b4)
  have L1 := Lib.hid (show 0 < p.nums.length by omega)
  have L2 := Lib.hid (show 0 < o.nums.length by omega)
  have S2 := Lib.hid hs2
  have S5 := Lib.hid hs5
  have T2 := Lib.hid ht2
  have T5 := Lib.hid ht5
  have t1 : ((q.nn : Int) != 12) = false := by rw [bne_eq_false_iff_eq]; omega
  have t3 : ((r.nn : Int) != 12) = false := by rw [bne_eq_false_iff_eq]; omega
  have i1 : (2 : Int) < (q.nn : Int) := by omega
  have i2 : (5 : Int) < (q.nn : Int) := by omega
  have i3 : (2 : Int) < (r.nn : Int) := by omega
  have i4 : (5 : Int) < (r.nn : Int) := by omega
  clear hp ho h1 h2 m1 m2 l1 l2 hs2 hs5 ht2 ht5
  obtain ⟨d, hd⟩ : ∃ d, Hid (lossB p.nums o.nums = d) := ⟨_, Lib.hid rfl⟩
  rw [hd.out] at E ⊢
  go_enter Try.func14, Try.ntmps14
  go_upto_region 1 with fail
  with_reducible refine at_worldP (fun W => Hid (TwB 28 w W p o q r)) C ?_
  clear C
  rintro W C
  obtain ⟨-, -, -, -, -, -, -, -, -, x9⟩ := C.out.x1.all
  obtain ⟨-, -, -, -, -, -, -, -, -, y9⟩ := C.out.x2.all
  obtain ⟨f1, g1, e1, c1⟩ := C.out.p1.rn.nums L1.out
  obtain ⟨f2, g2, e2, c2⟩ := C.out.p2.rn.nums L2.out
  rw [e1] at x9
  rw [e2] at y9
  have d2 := c1 2 _ S2.out
  have d5 := c1 5 _ S5.out
  have u2 := c2 2 _ T2.out
  have u5 := c2 5 _ T5.out
  clear c1 c2 e1 e2
  go_wp2_with fail
  go_quiet (fail)
  have B := Lib.hid (below_drewN C.out.bel nq)
  obtain ⟨W2, hW2⟩ : ∃ W2, W2 = W.drewN nq := ⟨_, rfl⟩
  rw [← hW2] at B ⊢
  have A1 : (-8589934592 : Int) < (t2 : Int) - s2 - t5 + s5 := by omega
  have A2 : (t2 : Int) - s2 - t5 + s5 < 8589934592 := by omega
  obtain ⟨z, hz⟩ : ∃ z : Int, (t2 : Int) - s2 - t5 + s5 = z := ⟨_, rfl⟩
  rw [hz] at A1 A2 E ⊢
  clear hz C x9 y9 d2 d5 u2 u5 b1 b2 b3 b4 hW2
  go_wp2_with fail
  go_loopw [6] (fun v wr => ∃ m : Int, v = .int .i64 m ∧ -8589934592 < m ∧ m < 8589934592 ∧ Hid (m % 4294967296 = (d : Int)) ∧ Hid (Below w.heap.size w wr)) (fun v _ => (8589934592 - intOf v).toNat)
  case atStart => exact ⟨z, rfl, A1, A2, E, B⟩
  case round =>
    clear A1 A2 E B
    obtain ⟨m, rfl, A1, A2, E, B⟩ := hrel
    by_cases hlt : m < 0
    · go_wp2_with fail
      go_roundw
      case rel => exact ⟨m + 4294967296, rfl, by omega, by omega, Lib.hid (by have := E.out; omega), B⟩
      case measure => simp [intOf]; omega
    · have h0 : 0 ≤ m := by omega
      go_wp2_with fail
      go_ret2
      exact ⟨by rw [← E.out]; rfl, B.out⟩

/-- Both Lost of any two packets, by the numbers' answer. -/
theorem lost_any (p o : Pk) (q r : Pl) (w : World) (hp : Pw w p q) (ho : Pw w o r) (m1 : N32 p.nums) (m2 : N32 o.nums) (l : Nat) (k : Bool) (h : lostB p.nums o.nums = (l, k)) :
    Calls Try.prog 13 #[p.val q, o.val r] w fun e w' => e = .returned (.tuple #[.int .u32 (l : Int), .bool k]) ∧ Below w.heap.size w w' := by
  unfold lostB at h
  rw [hp.ln, ho.ln] at h
  by_cases h1 : q.nn = 12
  · rw [if_pos h1] at h
    by_cases h2 : r.nn = 12
    · rw [if_pos h2] at h
      injection h with e1 e2
      subst e1; subst e2
      exact lost_yes p o q r w hp ho h1 h2 m1 m2
    · rw [if_neg h2] at h
      injection h with e1 e2
      subst e1; subst e2
      exact lost_no p o q r w hp ho (fun h => h2 h.2)
  · rw [if_neg h1] at h
    injection h with e1 e2
    subst e1; subst e2
    exact lost_no p o q r w hp ho (fun h => h1 h.1)
theorem rlost_any (p o : Pk) (q r : Pl) (w : World) (hp : Pw w p q) (ho : Pw w o r) (m1 : N32 p.nums) (m2 : N32 o.nums) (l : Nat) (k : Bool) (h : lostB p.nums o.nums = (l, k)) :
    Calls Try.prog 14 #[p.val q, o.val r] w fun e w' => e = .returned (.tuple #[.int .i64 (l : Int), .bool k]) ∧ Below w.heap.size w w' := by
  unfold lostB at h
  rw [hp.ln, ho.ln] at h
  by_cases h1 : q.nn = 12
  · rw [if_pos h1] at h
    by_cases h2 : r.nn = 12
    · rw [if_pos h2] at h
      injection h with e1 e2
      subst e1; subst e2
      exact rlost_yes p o q r w hp ho h1 h2 m1 m2
    · rw [if_neg h2] at h
      injection h with e1 e2
      subst e1; subst e2
      exact rlost_no p o q r w hp ho (fun h => h2 h.2)
  · rw [if_neg h1] at h
    injection h with e1 e2
    subst e1; subst e2
    exact rlost_no p o q r w hp ho (fun h => h1 h.1)

theorem zeros12_oct : octN (List.replicate 12 0) = List.replicate 48 0 := by decide
theorem zero_bytes {w : World} {A : Option Addr} {base n c : Nat} (h : w.ownsRow base 5 1 (.slice A n c) n (madeCells (Value.cells (.int .u8 0)) (n * 1)).toList) : Rd w w.heap.size A (List.replicate n 0) := by
  rw [← part_zero] at h
  have e : part [] n 0 = List.replicate n 0 := by simp [part]
  rw [e] at h
  exact Rd.own h

set_option maxHeartbeats 4000000 in
theorem speaks19 (w : World) : Calls Try.prog 6 #[] w fun e w' => e = .returned (.bool true) ∧ Below w.heap.size w w' := by
  obtain ⟨i0, hi, hz0, hz1, hz2⟩ := info_parts word_info
  obtain ⟨i1, hi1, hy0, hy1, hy2⟩ := info_parts byte_info
  obtain ⟨w4, hmk, hown, hg4⟩ := run_make_full (P := Try.prog) (w := w) w.heap.size 26 24 i0 (.int .u32 0) 1 Try.underlying26 hi hz0 hz1 .i64 .i64 12 (by rw [hz2]; omega) (by unfold maxLen; omega) (Nat.le_refl _)
  rw [show ((12 : Nat) : Int) = 12 from rfl] at hmk
  rw [made12] at hown
  have B := Lib.hid ((Below.refl w.heap.size w).grown hg4 (Nat.le_refl _) (fun k hk => by cases hk))
  have R := Lib.hid ((rws_own hown).mono (G := fun _ => True) (fun _ _ _ => trivial))
  have P := Lib.hid (show Pw w4 (repP (List.replicate 12 0)) { pl0 with an := some ⟨w.heap.size, 0, none⟩, nn := 12, cn := 12 } from ⟨rfl, Rws.nilO, rfl, Rd.nil, rfl, Rd.nil, rfl, Rd.nil, rfl, R.out, Nat.le_refl _, Nat.le_refl _, Nat.le_refl _⟩)
  have HM := Lib.hid (show lqputB (repP (List.replicate 12 0)) = (List.replicate 48 0, 0) by rw [lqput_rep rfl, zeros12_oct])
  have H32 := Lib.hid (show N32 (repP (List.replicate 12 0)).nums from fun x hx => by rw [List.eq_of_mem_replicate hx]; omega)
  clear hg4 hown R
  go_enter Try.func6, Try.ntmps6
  go_wp2_with (first
    | (go_at_call 8; (refine (lput_any (repP (List.replicate 12 0)) { pl0 with an := some ⟨w.heap.size, 0, none⟩, nn := 12, cn := 12 } _ P.out H32.out _ 0 HM.out 48 rfl).mono ?_); rintro e wn ⟨A5, c5, rfl, h5, h5c, hb⟩; replace B := Lib.hid (B.out.trans (hb.mono B.out.size)); obtain ⟨w6, hmk6, hown6, hg6⟩ := run_make_full (P := Try.prog) (w := wn) wn.heap.size 25 5 i1 (.int .u8 0) 1 Try.underlying25 hi1 hy0 hy1 .i64 .i64 48 (by rw [hy2]; omega) (by unfold maxLen; omega) (Nat.le_refl _); rw [show ((48 : Nat) : Int) = 48 from rfl] at hmk6; have B6 := (Below.refl wn.heap.size wn).grown hg6 (Nat.le_refl _) (fun k hk => by cases hk); have X5 := Lib.hid (h5.ons B6); have X6 := Lib.hid (zero_bytes hown6); replace B := Lib.hid (B.out.trans (B6.mono B.out.size)); clear h5 h5c hb hg6 hown6 B6)
    | (go_at_call 15; (with_reducible refine (equal_yes (List.replicate 48 0) (List.replicate 48 0) 48 48 _ _ _ _ _ X5.out X6.out rfl rfl (by omega) rfl).mono ?_); rintro e wn ⟨rfl, hb⟩; replace B := Lib.hid (B.out.trans (hb.mono B.out.size)); clear hb))
  go_ret
  exact ⟨rfl, B.out⟩
end Go.Proofs.Ytppblnpcbiochaa
