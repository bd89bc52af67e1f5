/-
  The walk of the statement FcsBursts: it answers true for every list of octets, place and pattern. Condition: the tables hold what the start-up lays ('Tabs').
-/
import Derived.Test.YtinajpmhpbjaiaaDoorFcsMoreW
namespace Go.Proofs.YtinajpmhpbjaiaaDoor
open Go.RowKit

theorem own_some {w : World} {base n c : Nat} {e : TypeId} {A : Option Addr} {xs : List Value} (h : w.ownsRow base e 1 (.slice A n c) n xs) (hn : 0 < n) : ∃ g, A = some ⟨g, 0, none⟩ := by
  rcases h.2 with ⟨_, h0⟩ | ⟨g, cap, cur, hv, _⟩
  · omega
  · injection hv with h1 _ _
    exact ⟨g, h1⟩
theorem bvs_set (l : List Nat) (k x : Nat) : (bvs l).set k (.int .u8 (x : Int)) = bvs (l.set k x) := by
  simp [bvs, bv, List.map_set]
theorem by_set {l : List Nat} {k x : Nat} (h : By l) (hx : x < 256) : By (l.set k x) := by
  intro y hy
  rcases List.mem_or_eq_of_mem_set hy with h1 | h1
  · exact h y h1
  · omega
theorem bit_lt {P j T : Nat} (h : P < T) (hb : P / 2 ^ j % 2 = 1) : 2 ^ j < T := by
  have h1 : 1 ≤ P / 2 ^ j := Nat.pos_of_ne_zero fun h0 => by rw [h0] at hb; omega
  have h2 : 1 * 2 ^ j ≤ P := (Nat.le_div_iff_mul_le (Nat.two_pow_pos j)).1 h1
  omega
theorem bit_val (P j : Nat) (hP : P < 4294967296) : (bits .and .u32 ((P : Int) / 2 ^ j) 1 == 1) = decide (P / 2 ^ j % 2 = 1) := by
  have e : ((P : Int) / 2 ^ j) = ((P / 2 ^ j : Nat) : Int) := by simp
  have hlt : P / 2 ^ j < 4294967296 := Nat.lt_of_le_of_lt (Nat.div_le_self _ _) hP
  have h1 := u32_and_nat (P / 2 ^ j) 1 hlt (by omega)
  rw [nat_mask1] at h1
  have h2 : bits .and .u32 ((P / 2 ^ j : Nat) : Int) 1 = ((P / 2 ^ j % 2 : Nat) : Int) := h1
  rw [e, h2, Bool.eq_iff_iff]
  simp
  omega
theorem one_bit {x r : Nat} (hx : x < 256) (hr : r < 8) : bits .xor .u8 (x : Int) (2 ^ r % 256) = ((x ^^^ 2 ^ r : Nat) : Int) ∧ x ^^^ 2 ^ r < 256 := by
  have h : (2 ^ r : Nat) < 256 := Nat.pow_lt_pow_right (n := 8) (a := 2) (by omega) hr
  have e : ((2 : Int) ^ r % 256) = ((2 ^ r : Nat) : Int) := by
    have c1 : ((2 : Int) ^ r) = ((2 ^ r : Nat) : Int) := by simp
    rw [c1]
    exact Int.emod_eq_of_lt (Int.natCast_nonneg _) (by omega)
  rw [e]
  exact ⟨u8_xor_nat x (2 ^ r) hx h, Nat.xor_lt_two_pow (n := 8) hx h⟩
/-- What is turned so far: the pattern's bits below j that lie within the octets. -/
def Turn (wide : Bool) (N f j : Nat) (m : List Nat) (u : Bool) : Prop :=
  ∃ Q, Q < 2 ^ j ∧ Q < topW wide ∧ u = decide (Q ≠ 0) ∧ regW wide m = resW wide ^^^ shN (polyW wide) (8 * N - f) Q
theorem Turn.start {wide : Bool} {N f : Nat} {m : List Nat} (h : regW wide m = resW wide) : Turn wide N f 0 m false :=
  ⟨0, by omega, by have := top_ge wide; omega, rfl, by rw [shN_zero, Nat.xor_zero, h]⟩
theorem Turn.keep {wide : Bool} {N f j : Nat} {m : List Nat} {u : Bool} (h : Turn wide N f j m u) : Turn wide N f (j + 1) m u := by
  obtain ⟨Q, h1, h2, h3, h4⟩ := h
  exact ⟨Q, by rw [Nat.pow_succ]; omega, h2, h3, h4⟩
theorem xor_two_pow {Q j : Nat} (h : Q < 2 ^ j) : Q ^^^ 2 ^ j ≠ 0 := by
  intro h0
  have := congrArg (fun x => Nat.testBit x j) h0
  simp [Nat.testBit_xor, Nat.testBit_lt_two_pow h] at this
theorem Turn.turn {wide : Bool} {N f j : Nat} {m : List Nat} {u : Bool} {k x : Nat} (h : Turn wide N f j m u) (hm : m.length = N) (hk : f + j = k) (hkN : k < 8 * N) (hx : m[k / 8]? = some x) (hP : 2 ^ j < topW wide) : Turn wide N f (j + 1) (m.set (k / 8) (x ^^^ 2 ^ (k % 8))) true := by
  obtain ⟨Q, h1, h2, h3, h4⟩ := h
  refine ⟨Q ^^^ 2 ^ j, ?_, xorT_lt h2 hP, by simp [xor_two_pow h1], ?_⟩
  · refine Nat.xor_lt_two_pow ?_ ?_
    · rw [Nat.pow_succ]; omega
    · exact Nat.pow_lt_pow_right (by omega) (by omega)
  · have e := reg_turn (polyW wide) (onesW wide) m (k / 8) (k % 8) x hx (by omega)
    have e2 : 8 * (k / 8) + k % 8 = f + j := by omega
    rw [hm, e2] at e
    unfold regW at h4 ⊢
    rw [e, h4, Nat.xor_assoc, turn_window _ _ _ _ _ (by omega)]
theorem Turn.done {wide : Bool} {N f j : Nat} {m : List Nat} {u : Bool} (h : Turn wide N f j m u) (hm : m.length = N) (hb : By m) (hN : sizeW wide ≤ N) : (goodW wide m != u) = true := by
  obtain ⟨Q, _, h2, h3, h4⟩ := h
  rw [good_iff wide m hb (by rw [hm]; exact hN), h4, h3]
  have key : (resW wide ^^^ shN (polyW wide) (8 * N - f) Q = resW wide) ↔ Q = 0 := by
    constructor
    · intro h
      have h5 : shN (polyW wide) (8 * N - f) Q = shN (polyW wide) (8 * N - f) 0 := by
        rw [shN_zero]
        have : resW wide ^^^ (resW wide ^^^ shN (polyW wide) (8 * N - f) Q) = resW wide ^^^ resW wide := by rw [h]
        rwa [← Nat.xor_assoc, Nat.xor_self, Nat.zero_xor] at this
      exact shT_inj wide _ h2 (by have := top_ge wide; omega) h5
    · intro h
      rw [h, shN_zero, Nat.xor_zero]
  rw [show decide (resW wide ^^^ shN (polyW wide) (8 * N - f) Q = resW wide) = decide (Q = 0) from decide_eq_decide.2 key]
  by_cases hQ : Q = 0
  · simp [hQ]
  · simp [hQ]

set_option maxHeartbeats 1000000 in
theorem bursts_long_true (A : Option Addr) (n c : Nat) (a p : Int) (w : World) (h : 400 < n) (hT : Tabs w) :
    Calls Tryd.prog 6 #[.slice A n c, .bool true, .int .u16 a, .int .u32 p] w fun e w' => e = .returned (.bool true) ∧ Below w.heap.size w w' := by
  have h4 : (400 : Int) < (n : Int) := by omega
  go_enter Tryd.func6, Tryd.ntmps6
  go_wp2_with fail
  refine (speaks_any _ hT).mono ?_
  rintro e w1 ⟨rfl, hB1⟩
  go_wp2_with fail
  refine (speaks_any _ (hT.below hB1)).mono ?_
  rintro e w2 ⟨rfl, hb2⟩
  go_wp2_with fail
  go_ret
  exact ⟨rfl, hB1.trans (hb2.mono hB1.size)⟩

set_option maxHeartbeats 4000000 in
theorem bursts_walk_true (l : List Nat) (A : Option Addr) (n c : Nat) (a : Int) (p : Nat) (w : World) (ha : 0 ≤ a) (ha2 : a ≤ 65535) (hp : p < 4294967296) (hl : l.length = n) (hb : By l) (h : Rd w w.heap.size A l) (h4 : n ≤ 400) (hT : Tabs w) :
    Calls Tryd.prog 6 #[.slice A n c, .bool true, .int .u16 a, .int .u32 (p : Int)] w fun e w' => e = .returned (.bool true) ∧ Below w.heap.size w w' := by
  have HL := Lib.hid hl
  have HB := Lib.hid hb
  have HR := Lib.hid h
  clear hl hb h
  obtain ⟨i0, hi, hz0, hz1, hz2⟩ := info_parts byte_info
  obtain ⟨t, ht⟩ : ∃ t, Hid (trail true (sumW true l) = t) := ⟨_, Lib.hid rfl⟩
  have htb := Lib.hid (show By t by rw [← ht.out]; exact trail_by true _ (sumW_lt HB.out))
  have HW := Lib.hid (show regW true (l ++ t) = resW true by rw [← ht.out]; exact whole_res true l HB.out)
  have HWb := Lib.hid (HB.out.app htb.out)
  obtain ⟨N, hN⟩ : ∃ N, Hid (n + 4 = N) := ⟨_, Lib.hid rfl⟩
  have hN2 : 2 ≤ N ∧ N ≤ 404 ∧ 4 ≤ N := by have := hN.out; omega
  have hN0 : ((N : Int) == 0) = false := by simp; omega
  have HWl := Lib.hid (show t.length = 4 → (l ++ t).length = N by intro h; rw [List.length_append, HL.out, h]; exact hN.out)
  obtain ⟨f, hf, hfN⟩ : ∃ f : Nat, a % (8 * (N : Int)) = (f : Int) ∧ f < 8 * N := by
    have h1 := Int.emod_nonneg a (b := 8 * (N : Int)) (by omega)
    have h2 := Int.emod_lt_of_pos a (b := 8 * (N : Int)) (by omega)
    exact ⟨(a % (8 * (N : Int))).toNat, by omega, by omega⟩
  obtain ⟨P, hP, hPT⟩ : ∃ P : Nat, Hid (p = P) ∧ P < 4294967296 := ⟨p, Lib.hid rfl, hp⟩
  go_enter Tryd.func6, Tryd.ntmps6
  go_wp2_with fail
  refine (speaks_any _ hT).mono ?_
  rintro e w1 ⟨rfl, hB1⟩
  have hsz1 := hB1.size
  have hown0 : (w1.alloc (.cells #[] 5)).ownsRow w.heap.size 5 1 (.slice (some ⟨w1.heap.size, 0, none⟩) 0 0) 0 (bvs []) := World.ownsRow_lit w1 #[] 0 hsz1 (by unfold maxLen; omega) rfl
  have hB0 := hB1.alloc hsz1 (.cells #[] 5)
  go_wp2_with (at_builtin; refine list_app rfl _ _ _ rfl _ i0 Tryd.underlying22 hi hz0 hz1 hz2 w.heap.size _ _ [] rfl hown0 _ _ _ _ l rfl ((HR.out.below hB0).more hB0.size) HL.out (by omega) hB0.size ?_; intro A2 c2 w2 ho2 hg2; have hB2 := app_below hB0 (Nat.le_refl _) hown0 hg2; clear hg2 hown0 hB0)
  rw [List.nil_append, Nat.zero_add] at ho2
  refine (trailer_z true l n 4 _ _ _ rfl ((HR.out.below hB2).more hB2.size) HB.out HL.out (by omega) (hT.below hB2)).mono ?_
  rintro e w3 ⟨A3, c3, rfl, hl3, -, hr3, hb3⟩
  rw [ht.out] at hl3 hr3
  have ho3 := own_below ho2 hb3
  have hB3 := hB2.trans (hb3.mono hB2.size)
  clear ho2 hb3
  have HNn := hN.out
  go_wp2_with (at_builtin; refine list_app rfl _ _ _ rfl _ i0 Tryd.underlying22 hi hz0 hz1 hz2 w.heap.size _ n l rfl ho3 _ _ _ _ t rfl hr3 hl3 (by omega) hB3.size ?_; intro A4 c4 w4 ho4 hg4; have hB4 := app_below hB3 (Nat.le_refl _) ho3 hg4; clear hg4 ho3 hB3 hr3 hB2; rw [HNn] at ho4; rw [HNn]; obtain ⟨g, rfl⟩ := own_some ho4 (by omega); clear HNn)
  have hbv := ho4
  have HB0 := Lib.hid (show By (l ++ t) from HWb.out)
  have HT0 := Lib.hid (Turn.start (N := N) (f := f) HW.out)
  have HL0 := Lib.hid (HWl.out hl3)
  have HF := Lib.hid hf
  clear hbv HWb HW HWl hl3 hf
  rw [HF.out]
  try rw [hN0]
  obtain rfl := hP.out.symm
  go_loopw [11, 42] (fun v i wr => ∃ j : Nat, j ≤ 32 ∧ i = .int .i64 j ∧ ∃ (u : Bool) (m : List Nat), v = .bool u ∧ wr.ownsRow w.heap.size 5 1 (.slice (some ⟨g, 0, none⟩) N c4) N (bvs m) ∧ Hid (By m) ∧ Hid (m.length = N) ∧ Hid (Turn true N f j m u) ∧ Below w.heap.size w wr) (fun _ i _ => 32 - (intOf i).toNat)
  case atStart => exact ⟨0, by omega, rfl, false, l ++ t, rfl, ho4, HB0, HL0, HT0, hB4⟩
  case round =>
    obtain ⟨j, hj, rfl, u, m, rfl, hown, hmb, hml, htu, hbel⟩ := hrel
    clear ho4 hB4 HB0 HT0 HL0
    by_cases hlt : j < 32
    · obtain ⟨k, hk, hkI⟩ : ∃ k : Nat, Hid (f + j = k) ∧ (f : Int) + (j : Int) = (k : Int) := ⟨f + j, Lib.hid rfl, by omega⟩
      have i1 : (j : Int) < 32 := by omega
      have i2 : (0 : Int) ≤ (j : Int) := by omega
      have hbv := bit_val P j (by omega)
      obtain ⟨bt, hbt⟩ : ∃ b, Hid (decide (P / 2 ^ j % 2 = 1) = b) := ⟨_, Lib.hid rfl⟩
      rw [hbt.out] at hbv
      have HK := Lib.hid (htu.out.keep)
      cases bt
      · go_wp2_with fail
        go_roundw
        case rel => exact ⟨j + 1, by omega, by go_num, u, m, rfl, hown, hmb, hml, HK, hbel⟩
        case measure => simp [intOf]; omega
      · by_cases hkN : k < 8 * N
        · have k1 : (k : Int) < 8 * (N : Int) := by omega
          obtain ⟨q, hq, hqI, hqN⟩ : ∃ q : Nat, Hid (k / 8 = q) ∧ (k : Int) / 8 = (q : Int) ∧ q < N := ⟨k / 8, Lib.hid rfl, by omega, by omega⟩
          obtain ⟨r, hr, hrI, hr8⟩ : ∃ r : Nat, Hid (k % 8 = r) ∧ (k : Int) % 8 = (r : Int) ∧ r < 8 := ⟨k % 8, Lib.hid rfl, by omega, by omega⟩
          have hx : m[q]? = some (m[q]'(by rw [hml.out]; exact hqN)) := List.getElem?_eq_getElem _
          obtain ⟨x, hxx⟩ : ∃ x, Hid (m[q]'(by rw [hml.out]; exact hqN) = x) := ⟨_, Lib.hid rfl⟩
          rw [hxx.out] at hx
          have hx256 := hmb.out.get hx
          have HO := Lib.hid (one_bit hx256 hr8)
          have HS := Lib.hid (htu.out.turn (k := k) (x := x) hml.out hk.out hkN (by rw [hq.out]; exact hx) (bit_lt hPT (of_decide_eq_true hbt.out)))
          rw [hq.out, hr.out] at HS
          have hst := hown.stored q (.int .u8 ((x ^^^ 2 ^ r : Nat) : Int))
          rw [bvs_set, ← HO.out.1] at hst
          have HST := Lib.hid hst
          have HSB := Lib.hid (by_set (k := q) hmb.out HO.out.2)
          have HSL := Lib.hid (show (m.set q (x ^^^ 2 ^ r)).length = N by rw [List.length_set]; exact hml.out)
          have hc0 := hown.cellAt q (by omega)
          have hf0 := hown.frozenAt q
          rw [bvs_get _ _ _ hx] at hc0
          clear hst hx
          have q0 : (0 : Int) ≤ q := by omega
          have q1 : (q : Int) < N := by omega
          have r0 : (0 : Int) ≤ r := by omega
          go_wp2_with fail
          go_region
          go_wp2_with fail
          go_roundw
          case rel => exact ⟨j + 1, by omega, by go_num, true, _, rfl, HST.out.1, HSB, HSL, HS, (hbel.setCell (show w.heap.size ≤ (⟨g, q, none⟩ : Addr).block from (hown.lt g rfl).1) _).drew⟩
          case measure => simp [intOf]; omega
        · have k1 : ¬ (k : Int) < 8 * (N : Int) := by omega
          go_wp2_with fail
          go_roundw
          case rel => exact ⟨j + 1, by omega, by go_num, u, m, rfl, hown, hmb, hml, HK, hbel⟩
          case measure => simp [intOf]; omega
    · have hG := Lib.hid (htu.out.done hml.out hmb.out (by show 4 ≤ N; omega))
      go_wp2_with fail
      refine (good_any true m N _ _ _ (Rd.own hown |> fun h => h) hmb.out hml.out (by omega) (own_cap hown) (hT.below hbel)).mono ?_
      rintro e w5 ⟨rfl, hb5⟩
      have hB5 := hbel.trans (hb5.mono hbel.size)
      obtain ⟨gd, hgd⟩ : ∃ b, Hid (goodW true m = b) := ⟨_, Lib.hid rfl⟩
      have hGG := hG.out
      rw [hgd.out] at hGG ⊢
      go_wp2_with fail
      go_ret
      exact ⟨congrArg (fun b => Ending.returned (Value.bool b)) hGG, hB5⟩

set_option maxHeartbeats 1000000 in
theorem bursts_long_false (A : Option Addr) (n c : Nat) (a p : Int) (w : World) (h : 400 < n) (hT : Tabs w) :
    Calls Tryd.prog 6 #[.slice A n c, .bool false, .int .u16 a, .int .u32 p] w fun e w' => e = .returned (.bool true) ∧ Below w.heap.size w w' := by
  have h4 : (400 : Int) < (n : Int) := by omega
  go_enter Tryd.func6, Tryd.ntmps6
  go_wp2_with fail
  refine (speaks_any _ hT).mono ?_
  rintro e w1 ⟨rfl, hB1⟩
  go_wp2_with fail
  refine (speaks_any _ (hT.below hB1)).mono ?_
  rintro e w2 ⟨rfl, hb2⟩
  go_wp2_with fail
  go_ret
  exact ⟨rfl, hB1.trans (hb2.mono hB1.size)⟩

set_option maxHeartbeats 4000000 in
theorem bursts_walk_false (l : List Nat) (A : Option Addr) (n c : Nat) (a : Int) (p : Nat) (w : World) (ha : 0 ≤ a) (ha2 : a ≤ 65535) (hp : p < 4294967296) (hl : l.length = n) (hb : By l) (h : Rd w w.heap.size A l) (h4 : n ≤ 400) (hT : Tabs w) :
    Calls Tryd.prog 6 #[.slice A n c, .bool false, .int .u16 a, .int .u32 (p : Int)] w fun e w' => e = .returned (.bool true) ∧ Below w.heap.size w w' := by
  have HL := Lib.hid hl
  have HB := Lib.hid hb
  have HR := Lib.hid h
  clear hl hb h
  obtain ⟨i0, hi, hz0, hz1, hz2⟩ := info_parts byte_info
  obtain ⟨t, ht⟩ : ∃ t, Hid (trail false (sumW false l) = t) := ⟨_, Lib.hid rfl⟩
  have htb := Lib.hid (show By t by rw [← ht.out]; exact trail_by false _ (sumW_lt HB.out))
  have HW := Lib.hid (show regW false (l ++ t) = resW false by rw [← ht.out]; exact whole_res false l HB.out)
  have HWb := Lib.hid (HB.out.app htb.out)
  obtain ⟨N, hN⟩ : ∃ N, Hid (n + 2 = N) := ⟨_, Lib.hid rfl⟩
  have hN2 : 2 ≤ N ∧ N ≤ 404 ∧ 2 ≤ N := by have := hN.out; omega
  have hN0 : ((N : Int) == 0) = false := by simp; omega
  have HWl := Lib.hid (show t.length = 2 → (l ++ t).length = N by intro h; rw [List.length_append, HL.out, h]; exact hN.out)
  obtain ⟨f, hf, hfN⟩ : ∃ f : Nat, a % (8 * (N : Int)) = (f : Int) ∧ f < 8 * N := by
    have h1 := Int.emod_nonneg a (b := 8 * (N : Int)) (by omega)
    have h2 := Int.emod_lt_of_pos a (b := 8 * (N : Int)) (by omega)
    exact ⟨(a % (8 * (N : Int))).toNat, by omega, by omega⟩
  obtain ⟨P, hP, hPT⟩ : ∃ P : Nat, Hid (bits .and .u32 (p : Int) 65535 = (P : Int)) ∧ P < 65536 := ⟨p % 65536, Lib.hid (mask_val false p hp), Nat.mod_lt _ (by omega)⟩
  go_enter Tryd.func6, Tryd.ntmps6
  go_wp2_with fail
  refine (speaks_any _ hT).mono ?_
  rintro e w1 ⟨rfl, hB1⟩
  have hsz1 := hB1.size
  have hown0 : (w1.alloc (.cells #[] 5)).ownsRow w.heap.size 5 1 (.slice (some ⟨w1.heap.size, 0, none⟩) 0 0) 0 (bvs []) := World.ownsRow_lit w1 #[] 0 hsz1 (by unfold maxLen; omega) rfl
  have hB0 := hB1.alloc hsz1 (.cells #[] 5)
  go_wp2_with (at_builtin; refine list_app rfl _ _ _ rfl _ i0 Tryd.underlying22 hi hz0 hz1 hz2 w.heap.size _ _ [] rfl hown0 _ _ _ _ l rfl ((HR.out.below hB0).more hB0.size) HL.out (by omega) hB0.size ?_; intro A2 c2 w2 ho2 hg2; have hB2 := app_below hB0 (Nat.le_refl _) hown0 hg2; clear hg2 hown0 hB0)
  rw [List.nil_append, Nat.zero_add] at ho2
  refine (trailer_z false l n 2 _ _ _ rfl ((HR.out.below hB2).more hB2.size) HB.out HL.out (by omega) (hT.below hB2)).mono ?_
  rintro e w3 ⟨A3, c3, rfl, hl3, -, hr3, hb3⟩
  rw [ht.out] at hl3 hr3
  have ho3 := own_below ho2 hb3
  have hB3 := hB2.trans (hb3.mono hB2.size)
  clear ho2 hb3
  have HNn := hN.out
  go_wp2_with (at_builtin; refine list_app rfl _ _ _ rfl _ i0 Tryd.underlying22 hi hz0 hz1 hz2 w.heap.size _ n l rfl ho3 _ _ _ _ t rfl hr3 hl3 (by omega) hB3.size ?_; intro A4 c4 w4 ho4 hg4; have hB4 := app_below hB3 (Nat.le_refl _) ho3 hg4; clear hg4 ho3 hB3 hr3 hB2; rw [HNn] at ho4; rw [HNn]; obtain ⟨g, rfl⟩ := own_some ho4 (by omega); clear HNn)
  have hbv := ho4
  have HB0 := Lib.hid (show By (l ++ t) from HWb.out)
  have HT0 := Lib.hid (Turn.start (N := N) (f := f) HW.out)
  have HL0 := Lib.hid (HWl.out hl3)
  have HF := Lib.hid hf
  clear hbv HWb HW HWl hl3 hf
  rw [HF.out]
  try rw [hN0]
  rw [hP.out]
  go_loopw [11, 42] (fun v i wr => ∃ j : Nat, j ≤ 32 ∧ i = .int .i64 j ∧ ∃ (u : Bool) (m : List Nat), v = .bool u ∧ wr.ownsRow w.heap.size 5 1 (.slice (some ⟨g, 0, none⟩) N c4) N (bvs m) ∧ Hid (By m) ∧ Hid (m.length = N) ∧ Hid (Turn false N f j m u) ∧ Below w.heap.size w wr) (fun _ i _ => 32 - (intOf i).toNat)
  case atStart => exact ⟨0, by omega, rfl, false, l ++ t, rfl, ho4, HB0, HL0, HT0, hB4⟩
  case round =>
    obtain ⟨j, hj, rfl, u, m, rfl, hown, hmb, hml, htu, hbel⟩ := hrel
    clear ho4 hB4 HB0 HT0 HL0
    by_cases hlt : j < 32
    · obtain ⟨k, hk, hkI⟩ : ∃ k : Nat, Hid (f + j = k) ∧ (f : Int) + (j : Int) = (k : Int) := ⟨f + j, Lib.hid rfl, by omega⟩
      have i1 : (j : Int) < 32 := by omega
      have i2 : (0 : Int) ≤ (j : Int) := by omega
      have hbv := bit_val P j (by omega)
      obtain ⟨bt, hbt⟩ : ∃ b, Hid (decide (P / 2 ^ j % 2 = 1) = b) := ⟨_, Lib.hid rfl⟩
      rw [hbt.out] at hbv
      have HK := Lib.hid (htu.out.keep)
      cases bt
      · go_wp2_with fail
        go_roundw
        case rel => exact ⟨j + 1, by omega, by go_num, u, m, rfl, hown, hmb, hml, HK, hbel⟩
        case measure => simp [intOf]; omega
      · by_cases hkN : k < 8 * N
        · have k1 : (k : Int) < 8 * (N : Int) := by omega
          obtain ⟨q, hq, hqI, hqN⟩ : ∃ q : Nat, Hid (k / 8 = q) ∧ (k : Int) / 8 = (q : Int) ∧ q < N := ⟨k / 8, Lib.hid rfl, by omega, by omega⟩
          obtain ⟨r, hr, hrI, hr8⟩ : ∃ r : Nat, Hid (k % 8 = r) ∧ (k : Int) % 8 = (r : Int) ∧ r < 8 := ⟨k % 8, Lib.hid rfl, by omega, by omega⟩
          have hx : m[q]? = some (m[q]'(by rw [hml.out]; exact hqN)) := List.getElem?_eq_getElem _
          obtain ⟨x, hxx⟩ : ∃ x, Hid (m[q]'(by rw [hml.out]; exact hqN) = x) := ⟨_, Lib.hid rfl⟩
          rw [hxx.out] at hx
          have hx256 := hmb.out.get hx
          have HO := Lib.hid (one_bit hx256 hr8)
          have HS := Lib.hid (htu.out.turn (k := k) (x := x) hml.out hk.out hkN (by rw [hq.out]; exact hx) (bit_lt hPT (of_decide_eq_true hbt.out)))
          rw [hq.out, hr.out] at HS
          have hst := hown.stored q (.int .u8 ((x ^^^ 2 ^ r : Nat) : Int))
          rw [bvs_set, ← HO.out.1] at hst
          have HST := Lib.hid hst
          have HSB := Lib.hid (by_set (k := q) hmb.out HO.out.2)
          have HSL := Lib.hid (show (m.set q (x ^^^ 2 ^ r)).length = N by rw [List.length_set]; exact hml.out)
          have hc0 := hown.cellAt q (by omega)
          have hf0 := hown.frozenAt q
          rw [bvs_get _ _ _ hx] at hc0
          clear hst hx
          have q0 : (0 : Int) ≤ q := by omega
          have q1 : (q : Int) < N := by omega
          have r0 : (0 : Int) ≤ r := by omega
          go_wp2_with fail
          go_region
          go_wp2_with fail
          go_roundw
          case rel => exact ⟨j + 1, by omega, by go_num, true, _, rfl, HST.out.1, HSB, HSL, HS, (hbel.setCell (show w.heap.size ≤ (⟨g, q, none⟩ : Addr).block from (hown.lt g rfl).1) _).drew⟩
          case measure => simp [intOf]; omega
        · have k1 : ¬ (k : Int) < 8 * (N : Int) := by omega
          go_wp2_with fail
          go_roundw
          case rel => exact ⟨j + 1, by omega, by go_num, u, m, rfl, hown, hmb, hml, HK, hbel⟩
          case measure => simp [intOf]; omega
    · have hG := Lib.hid (htu.out.done hml.out hmb.out (by show 2 ≤ N; omega))
      go_wp2_with fail
      refine (good_any false m N _ _ _ (Rd.own hown |> fun h => h) hmb.out hml.out (by omega) (own_cap hown) (hT.below hbel)).mono ?_
      rintro e w5 ⟨rfl, hb5⟩
      have hB5 := hbel.trans (hb5.mono hbel.size)
      obtain ⟨gd, hgd⟩ : ∃ b, Hid (goodW false m = b) := ⟨_, Lib.hid rfl⟩
      have hGG := hG.out
      rw [hgd.out] at hGG ⊢
      go_wp2_with fail
      go_ret
      exact ⟨congrArg (fun b => Ending.returned (Value.bool b)) hGG, hB5⟩

end Go.Proofs.YtinajpmhpbjaiaaDoor
