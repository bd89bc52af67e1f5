
/-
  The walk of the statement HeadOne. No condition beyond: numbers that Go's types have.
-/
import Derived.Test.YtekhijbgikjlmaaHedB
namespace Go.Proofs.Ytekhijbgikjlmaa
open Go.RowKit

/-! Lists alone. -/
theorem num_mem (c : Cf) (p : Nat) (led s : Bool) (h : s = true → c.pfc = true ∧ p < 256) : wrB p led s ∈ numB c p led := by
  unfold numB
  cases s
  · split <;> simp
  · rw [if_pos (by simp [(h rfl).1, (h rfl).2])]; simp
theorem put_short {p : Nat} {l : List Nat} (h : putB p true = l.take 1) : p < 256 := by
  have := congrArg List.length h
  rw [List.length_take] at this
  unfold putB at this
  split at this
  · rename_i h; exact h.2
  · simp at this; omega
/-- Octets that are read begin with one of the headers. -/
theorem hget_all {c : Cf} {l : List Nat} {q n : Nat} (hb : By l) (h : hgetB c l = (q, n, 0)) : rightB q = true ∧ n ≤ l.length ∧ l.take n ∈ allB c q := by
  unfold hgetB at h
  split at h
  · rename_i h2
    obtain ⟨g1, g2, g3, hg⟩ : ∃ g1 g2 g3, getB (l.drop 2) c.pfc = (g1, g2, g3) := ⟨_, _, _, rfl⟩
    rw [hg, haddB] at h
    dsimp only at h
    split at h
    · rename_i h3
      simp only [Prod.mk.injEq] at h
      obtain ⟨rfl, rfl, _⟩ := h
      subst h3
      obtain ⟨k1, k2, k3⟩ := getB_ok (hb.drop 2) hg
      rw [List.length_drop] at k2
      have hl : 2 ≤ l.length := by
        have := congrArg List.length h2
        rw [List.length_take] at this
        simp at this
        omega
      have ht : ∀ m, l.take (2 + m) = [255, 3] ++ (l.drop 2).take m := fun m => by rw [List.take_add, h2]
      refine ⟨k1, by omega, ?_⟩
      rw [allB, List.mem_append]
      right
      rw [ht]
      rcases k3 with ⟨rfl, k3⟩ | ⟨rfl, ks, k3⟩
      · rw [← k3]; exact num_mem c g1 true false (by simp)
      · rw [← k3]; exact num_mem c g1 true true (fun _ => ⟨ks, put_short k3⟩)
    · simp at h
  · split at h
    · rename_i ha
      obtain ⟨g1, g2, g3, hg⟩ : ∃ g1 g2 g3, getB l c.pfc = (g1, g2, g3) := ⟨_, _, _, rfl⟩
      rw [hg, haddB] at h
      dsimp only at h
      split at h
      · rename_i h3
        simp only [Prod.mk.injEq] at h
        obtain ⟨rfl, rfl, _⟩ := h
        subst h3
        obtain ⟨k1, k2, k3⟩ := getB_ok hb hg
        refine ⟨k1, by omega, ?_⟩
        rw [allB, List.mem_append, if_pos ha]
        left
        rw [Nat.zero_add]
        rcases k3 with ⟨rfl, k3⟩ | ⟨rfl, ks, k3⟩
        · rw [← k3]; exact num_mem c g1 false false (by simp)
        · rw [← k3]; exact num_mem c g1 false true (fun _ => ⟨ks, put_short k3⟩)
      · simp at h
    · simp at h
theorem putB_any {p : Nat} (h : ¬ p < 256) (s : Bool) : putB p s = putB p false := by simp [putB, h]
/-- What is written is the first of all headers, or the last one. -/
theorem allB_first (c : Cf) (p : Nat) (h : p ≠ 49185) : (allB c p)[0]? = some (hputB c p) := by
  have e : hputB c p = wrB p (!c.acfc) c.pfc := by simp [hputB, h]
  rw [e]
  by_cases hp : p < 256
  · cases ha : c.acfc <;> cases hf : c.pfc <;> simp [allB, numB, ha, hf, hp]
  · have k : ∀ a s, wrB p a s = wrB p a false := fun a s => by rw [wrB, wrB, putB_any hp]
    rw [k]
    cases ha : c.acfc <;> simp [allB, numB, ha, hp]
theorem allB_last (c : Cf) : (allB c 49185)[(allB c 49185).length - 1]? = some (hputB c 49185) := by
  have e : hputB c 49185 = wrB 49185 true false := by simp [hputB]
  rw [e]
  cases ha : c.acfc <;> simp [allB, numB, ha]

theorem hone_long (c : Cf) (p : Int) (A : Option Addr) (n cp : Nat) (w : World) (h : 100 < n) :
    Calls Try.prog 5 #[c.val, .int .u16 p, .slice A n cp] w fun e w' => e = .returned (.bool true) ∧ Below w.heap.size w w' := by
  have h4 : (100 : Int) < (n : Int) := by omega
  go_enter Try.func5, Try.ntmps5
  go_wp2_with fail
  refine (speaks10_any _).mono ?_
  rintro e w1 ⟨rfl, hb1⟩
  have hB1 := ((Below.refl w.heap.size w).alloc (Nat.le_refl _) (c.obj 24)).trans (hb1.mono (by simp))
  clear hb1
  go_wp2_with fail
  refine (speaks10_any _).mono ?_
  rintro e w2 ⟨rfl, hb2⟩
  go_wp2_with fail
  go_ret
  exact ⟨rfl, hB1.trans (hb2.mono hB1.size)⟩

/-- A config in a block, and a cell. -/
structure Cel (w0 W : World) (b2 : Nat) (c : Cf) (b6 o : Nat) (v : Value) : Prop where
  x : Bx W b2 28 c
  k : W.cell? ⟨b6, o, none⟩ = some v
  bel : Below w0.heap.size w0 W
theorem Cel.step {w0 W W' : World} {b2 : Nat} {c : Cf} {b6 o : Nat} {v : Value} (h : Cel w0 W b2 c b6 o v) (hb : Below W.heap.size W W') : Cel w0 W' b2 c b6 o v :=
  ⟨h.x.below hb, (hb.cell (block_lt h.k)).trans h.k, h.bel.trans (hb.mono h.bel.size)⟩
theorem Cel.drew {w0 W : World} {b2 : Nat} {c : Cf} {b6 o : Nat} {v : Value} (h : Cel w0 W b2 c b6 o v) : Cel w0 W.drew b2 c b6 o v := ⟨h.x, h.k, h.bel.drew⟩
theorem celflat {w0 W : World} {b2 : Nat} {c : Cf} {b6 o : Nat} {v : Value} (h : Cel w0 W b2 c b6 o v) : W.cell? ⟨b2, 0, none⟩ = some (.bool c.sync) ∧ W.cell? ⟨b2, 1, none⟩ = some (.bool c.wide) ∧ W.cell? ⟨b2, 2, none⟩ = some (.bool c.acfc) ∧ W.cell? ⟨b2, 3, none⟩ = some (.bool c.pfc) ∧ W.cell? ⟨b2, 4, none⟩ = some (.int .u32 (c.send : Int)) ∧ W.cell? ⟨b2, 5, none⟩ = some (.int .u32 (c.recv : Int)) ∧ W.cell? ⟨b2, 6, none⟩ = some (.int .i64 c.mru) ∧ W.cell? ⟨b6, o, none⟩ = some v := by
  obtain ⟨x0, x1, x2, x3, x4, x5, x6⟩ := h.x.all
  exact ⟨x0, x1, x2, x3, x4, x5, x6, h.k⟩

theorem hput_v (c : Cf) (p : Nat) (hp : p < 65536) (y : Int) (hy : y = (p : Int)) (w : World) :
    Calls Try.prog 10 #[c.val, .int .u16 y] w fun e w' => ∃ A n, e = .returned (.slice A n n) ∧ Got w w' A n (hputB c p) := hy ▸ hput_any c p hp w

set_option maxHeartbeats 20000000 in
theorem hone_walk (c : Cf) (p : Nat) (hp : p < 65536) (l : List Nat) (A : Option Addr) (n cp : Nat) (w : World) (hl : l.length = n) (hb : By l) (h : Rd w w.heap.size A l) (h4 : n ≤ 100) (hcp : n ≤ cp) :
    Calls Try.prog 5 #[c.val, .int .u16 (p : Int), .slice A n cp] w fun e w' => e = .returned (.bool true) ∧ Below w.heap.size w w' := by
  have HL := Lib.hid hl
  have HB := Lib.hid hb
  have HR := Lib.hid h
  clear hl hb h
  have h4' : ¬ (100 : Int) < (n : Int) := by omega
  obtain ⟨g1, g2, g3, hg⟩ : ∃ g1 g2 g3, Hid (hgetB c l = (g1, g2, g3)) := ⟨_, _, _, Lib.hid rfl⟩
  have hg1 : g1 < 65536 := by have := hgetB_lt (c := c) HB.out; rw [hg.out] at this; exact this
  obtain ⟨r, hr⟩ : ∃ r, Hid (rightB p = r) := ⟨_, Lib.hid rfl⟩
  go_enter Try.func5, Try.ntmps5
  go_wp2_with fail
  refine (speaks10_any _).mono ?_
  rintro e w1 ⟨rfl, hb1⟩
  have X1 : Bx w1 w.heap.size 24 c := (hb1.block _ (by simp)).trans (heap_alloc_new _ _)
  have hB1 := ((Below.refl w.heap.size w).alloc (Nat.le_refl _) (c.obj 24)).trans (hb1.mono (by simp))
  clear hb1
  have HX1 := Lib.hid X1
  have HB1 := Lib.hid hB1
  obtain ⟨u0, u1, u2, u3, u4, u5, u6⟩ := X1.all
  clear hB1 X1
  go_wp2_with fail
  clear u0 u1 u2 u3 u4 u5 u6
  have hra : Rd (w1.alloc (c.obj 28)) (w1.alloc (c.obj 28)).heap.size A l := ((HR.out.below HB1.out).more HB1.out.size).alloc (Nat.le_refl _) _ |>.more (by simp)
  refine (hget_b c l g1 g2 g3 hg.out A n cp _ hra HB.out HL.out hcp (by omega)).mono ?_
  rintro e w2 ⟨rfl, hb2⟩
  have C : Two w w2 w.heap.size w1.heap.size c := ⟨(HX1.out.below ((Below.refl _ _).alloc (Nat.le_refl _) _)).below hb2, (hb2.block _ (by simp)).trans (heap_alloc_new _ _), (HB1.out.alloc HB1.out.size _).trans (hb2.mono (by have := HB1.out.size; simp; omega))⟩
  clear hra hb2 HX1 HB1
  obtain ⟨q, hq⟩ : ∃ q, Hid (w1.heap.size = q) := ⟨_, Lib.hid rfl⟩
  rw [hq.out] at C ⊢
  clear hq
  rcases Nat.eq_zero_or_pos g3 with h3 | h3
  case' inr =>
    have e3 : ((g3 : Int) == 0) = false := by simp; omega
    have E3 := Lib.hid e3
    clear e3 h3
    obtain ⟨W, hW⟩ : ∃ W, Hid (W = w2) := ⟨_, Lib.hid rfl⟩
    rw [← hW.out] at C ⊢
    clear hW
    have e3 := E3.out
  case' inl =>
    subst h3
    obtain ⟨k1, k2, k3⟩ := hget_all HB.out hg.out
    have HK1 := Lib.hid k1
    have HK2 := Lib.hid k2
    have HK3 := Lib.hid k3
    have hgn : g2 ≤ n := by rw [HL.out] at k2; exact k2
    clear k1 k2 k3
    have hgc : g2 ≤ cp := by omega
    have HTL := Lib.hid (show (l.take g2).length = g2 by rw [List.length_take, HL.out]; omega)
    have i3 : (g2 : Int) ≤ (n : Int) := by omega
    have i4 : (0 : Int) ≤ (g2 : Int) := by omega
    obtain ⟨u0, u1, u2, u3, u4, u5, u6⟩ := cfull C.x
    go_wp2_with fail
    clear u0 u1 u2 u3 u4 u5 u6
    refine (hall_any c g1 hg1 HK1.out _).mono ?_
    rintro e w3 ⟨A5, n5, c5, rfl, hr5, hl5, hb5⟩
    replace C := C.step hb5
    have HR5 := Lib.hid (hr5.mono (G := fun _ => True) fun _ _ _ => trivial)
    have HL5 := Lib.hid hl5
    have hn5 : n5 ≤ 4 := hl5 ▸ (allB_len c g1).2
    clear hb5 hl5 hr5
    go_wp2_with fail
    go_loopw [11, 38] (fun b i wr => ∃ k : Nat, k ≤ n5 ∧ i = .int .i64 k ∧ b = .bool (decide (l.take g2 ∈ (allB c g1).take k)) ∧ Hid (Two w wr w.heap.size q c) ∧ Hid (Rws shB (fun _ => True) wr A5 (allB c g1))) (fun _ i _ => n5 - (intOf i).toNat)
    case atStart => exact ⟨0, Nat.zero_le _, rfl, by simp, Lib.hid C, HR5⟩
    case round =>
      obtain ⟨k, hk, rfl, rfl, C2, R2⟩ := hrel
      by_cases hlt : k < n5
      · have HK := Lib.hid hlt
        obtain ⟨ba, oa, x, Ak, ck, rfl, hx, hcx, _, hrx⟩ := R2.out.list (k := k) (by rw [HL5.out]; exact hlt)
        have HX := Lib.hid hx
        have H5 := Lib.hid hrx
        have HXS := Lib.hid (allB_short hx)
        clear hx hrx
        have HT := Lib.hid (show (allB c g1).take (k + 1) = (allB c g1).take k ++ [x] by rw [List.take_add_one, HX.out]; rfl)
        have i1 : (0 : Int) ≤ k := by omega
        have i2 : (k : Int) < n5 := by omega
        obtain ⟨b, hb⟩ : ∃ b, Hid (decide (l.take g2 ∈ (allB c g1).take k) = b) := ⟨_, Lib.hid rfl⟩
        rw [hb.out]
        cases b
        · go_wp2_with fail
          refine (equal_c x (l.take g2) x.length g2 _ _ _ _ _ H5.out (((HR.out.below C2.out.bel).more C2.out.bel.size).take g2) rfl HTL.out (by have := HXS.out; omega)).mono ?_
          rintro e wr2 ⟨rfl, hbr⟩
          obtain ⟨d, hd⟩ : ∃ d, Hid (decide (x = l.take g2) = d) := ⟨_, Lib.hid rfl⟩
          rw [hd.out]
          have HD := Lib.hid (show decide (l.take g2 ∈ (allB c g1).take (k + 1)) = d by
            rw [HT.out, ← hd.out, Bool.eq_iff_iff]
            have := of_decide_eq_false hb.out
            simp only [decide_eq_true_eq, List.mem_append, List.mem_singleton, this, false_or]
            exact eq_comm)
          cases d
          all_goals
            go_wp2_with fail
            go_roundw
            case rel => exact ⟨k + 1, HK.out, by go_num, by rw [HD.out], Lib.hid (C2.out.step hbr), Lib.hid (R2.out.below hbr)⟩
            case measure => have := HK.out; simp [intOf]; omega
        · have HD := Lib.hid (show decide (l.take g2 ∈ (allB c g1).take (k + 1)) = true by
            rw [HT.out, decide_eq_true_eq, List.mem_append]
            exact .inl (of_decide_eq_true hb.out))
          go_wp2_with fail
          go_roundw
          case rel => exact ⟨k + 1, HK.out, by go_num, by rw [HD.out], C2, R2⟩
          case measure => have := HK.out; simp [intOf]; omega
      · have hk5 : k = n5 := by omega
        subst hk5
        have HD := Lib.hid (show decide (l.take g2 ∈ (allB c g1).take k) = true by
          rw [decide_eq_true_eq, List.take_of_length_le (by rw [HL5.out]; exact Nat.le_refl _)]
          exact HK3.out)
        rw [HD.out]
        have C := C2.out
        clear C2 R2 HR5
        go_wp2_with fail
        refine (rright_v g1 true hg1 HK1.out _).mono ?_
        rintro e w7 ⟨rfl, rfl⟩
        obtain ⟨u0, u1, u2, u3, u4, u5, u6⟩ := cfull C.x
        go_wp2_with fail
        clear u0 u1 u2 u3 u4 u5 u6
        refine (rright_v p r hp hr.out _).mono ?_
        rintro e w8 ⟨rfl, rfl⟩
        cases r
        · have hB := C.bel
          clear C
          go_wp2_with fail
          go_ret
          exact ⟨rfl, hB⟩
        obtain ⟨u0, u1, u2, u3, u4, u5, u6⟩ := cfull C.x
        go_wp2_with fail
        clear u0 u1 u2 u3 u4 u5 u6
        refine (hall_any c p hp hr.out _).mono ?_
        rintro e w9 ⟨A6, n6, c6, rfl, hr6, hl6, hb6⟩
        replace C := C.step hb6
        have HR6 := Lib.hid (hr6.mono (G := fun _ => True) fun _ _ _ => trivial)
        have hn6 := allB_len c p
        rw [hl6] at hn6
        have HL6 := Lib.hid hl6
        clear hb6 hl6 hr6
        have HPL := Lib.hid (show (hputB c p).length ≤ 4 from (wrB_len _ _ _).2)
        obtain ⟨a, ha⟩ : ∃ a, Hid ((allB c p)[a]? = some (hputB c p) ∧ a < n6 ∧ ((p ≠ 49185 ∧ a = 0) ∨ (p = 49185 ∧ n6 = a + 1))) := by
          by_cases hp49 : p = 49185
          · refine ⟨n6 - 1, Lib.hid ⟨?_, by omega, .inr ⟨hp49, by omega⟩⟩⟩
            subst hp49
            have := allB_last c
            rw [HL6.out] at this
            exact this
          · exact ⟨0, Lib.hid ⟨allB_first c p hp49, by omega, .inl ⟨hp49, rfl⟩⟩⟩
        have hal : a < (allB c p).length := by rw [HL6.out]; exact ha.out.2.1
        obtain ⟨b6, o6, x6, Ak, ck, rfl, hx6, hcx6, -, hrx6⟩ := HR6.out.list hal
        obtain rfl : hputB c p = x6 := by have := ha.out.1; rw [hx6] at this; injection this with this; exact this.symm
        have HRX := Lib.hid hrx6
        have D : Cel w w9 q c b6 (o6 + a) (.slice Ak (hputB c p).length ck) := ⟨C.x, hcx6, C.bel⟩
        clear hrx6 hcx6 hx6 C HR6
        obtain ⟨z, hz⟩ : ∃ z, Hid ((hputB c p).length = z) := ⟨_, Lib.hid rfl⟩
        rw [hz.out] at D HPL
        have han : a < n6 := ha.out.2.1
        have hzz := HPL.out
        rcases ha.out.2.2 with ⟨hp49, rfl⟩ | ⟨hp49, hna⟩
        · have e49 : ((p : Int) == 49185) = false := by simp; omega
          have e60 : ((n6 : Int) == 0) = false := by simp; omega
          have e61 : ¬ (4 : Int) < (n6 : Int) := by omega
          go_wp2_with fail
          obtain ⟨u0, u1, u2, u3, u4, u5, u6, u7⟩ := celflat D
          go_region_held3 (fun W => W.cell? ⟨q, 0, none⟩ = some (.bool c.sync) ∧ W.cell? ⟨q, 1, none⟩ = some (.bool c.wide) ∧ W.cell? ⟨q, 2, none⟩ = some (.bool c.acfc) ∧ W.cell? ⟨q, 3, none⟩ = some (.bool c.pfc) ∧ W.cell? ⟨q, 4, none⟩ = some (.int .u32 (c.send : Int)) ∧ W.cell? ⟨q, 5, none⟩ = some (.int .u32 (c.recv : Int)) ∧ W.cell? ⟨q, 6, none⟩ = some (.int .i64 c.mru) ∧ W.cell? ⟨b6, o6, none⟩ = some (.slice Ak z ck)) (first | exact celflat D | exact celflat D.drew) (first
            | (go_at_call 10; (with_reducible refine (hput_any c p hp _).mono ?_); rintro e wn ⟨A7, n7, rfl, hl7, hr7, hbn⟩; replace hr7 := Lib.hid hr7.rd; have HL7 := Lib.hid hl7; clear hl7; replace HRX := Lib.hid ((HRX.out.drew.below hbn).more hbn.size); replace D := D.drew.step hbn; clear hbn; dsimp only)
            | (go_at_call 9; (with_reducible refine (equal_yes (hputB c p) (hputB c p) z n7 _ _ _ _ _ HRX.out hr7.out hz.out HL7.out (by omega) rfl).mono ?_); rintro e wn ⟨rfl, hbn⟩; replace D := D.step hbn; clear hbn hr7; dsimp only))
          clear u0 u1 u2 u3 u4 u5 u6 u7
          have hB := D.bel
          clear D
          go_wp2_with fail
          go_ret
          exact ⟨rfl, hB⟩
        · have e49 : ((p : Int) == 49185) = true := by simp; omega
          have ha4 : a = 0 ∨ a = 1 ∨ a = 2 ∨ a = 3 := by omega
          rcases ha4 with rfl | rfl | rfl | rfl
          · subst hna
            go_wp2_with fail
            obtain ⟨u0, u1, u2, u3, u4, u5, u6, u7⟩ := celflat D
            go_region_held3 (fun W => W.cell? ⟨q, 0, none⟩ = some (.bool c.sync) ∧ W.cell? ⟨q, 1, none⟩ = some (.bool c.wide) ∧ W.cell? ⟨q, 2, none⟩ = some (.bool c.acfc) ∧ W.cell? ⟨q, 3, none⟩ = some (.bool c.pfc) ∧ W.cell? ⟨q, 4, none⟩ = some (.int .u32 (c.send : Int)) ∧ W.cell? ⟨q, 5, none⟩ = some (.int .u32 (c.recv : Int)) ∧ W.cell? ⟨q, 6, none⟩ = some (.int .i64 c.mru) ∧ W.cell? ⟨b6, o6, none⟩ = some (.slice Ak z ck)) (first | exact celflat D | exact celflat D.drew) (first
              | (go_at_call 10; (with_reducible refine (hput_v c p hp _ (by omega) _).mono ?_); rintro e wn ⟨A7, n7, rfl, hl7, hr7, hbn⟩; replace hr7 := Lib.hid hr7.rd; have HL7 := Lib.hid hl7; clear hl7; replace HRX := Lib.hid ((HRX.out.drew.below hbn).more hbn.size); replace D := D.drew.step hbn; clear hbn; dsimp only)
              | (go_at_call 9; (with_reducible refine (equal_yes (hputB c p) (hputB c p) z n7 _ _ _ _ _ HRX.out hr7.out hz.out HL7.out (by omega) rfl).mono ?_); rintro e wn ⟨rfl, hbn⟩; replace D := D.step hbn; clear hbn hr7; dsimp only))
            clear u0 u1 u2 u3 u4 u5 u6 u7
            have hB := D.bel
            clear D
            go_wp2_with fail
            go_ret
            exact ⟨rfl, hB⟩
          · subst hna
            go_wp2_with fail
            obtain ⟨u0, u1, u2, u3, u4, u5, u6, u7⟩ := celflat D
            go_region_held3 (fun W => W.cell? ⟨q, 0, none⟩ = some (.bool c.sync) ∧ W.cell? ⟨q, 1, none⟩ = some (.bool c.wide) ∧ W.cell? ⟨q, 2, none⟩ = some (.bool c.acfc) ∧ W.cell? ⟨q, 3, none⟩ = some (.bool c.pfc) ∧ W.cell? ⟨q, 4, none⟩ = some (.int .u32 (c.send : Int)) ∧ W.cell? ⟨q, 5, none⟩ = some (.int .u32 (c.recv : Int)) ∧ W.cell? ⟨q, 6, none⟩ = some (.int .i64 c.mru) ∧ W.cell? ⟨b6, o6 + 1, none⟩ = some (.slice Ak z ck)) (first | exact celflat D | exact celflat D.drew) (first
              | (go_at_call 10; (with_reducible refine (hput_v c p hp _ (by omega) _).mono ?_); rintro e wn ⟨A7, n7, rfl, hl7, hr7, hbn⟩; replace hr7 := Lib.hid hr7.rd; have HL7 := Lib.hid hl7; clear hl7; replace HRX := Lib.hid ((HRX.out.drew.below hbn).more hbn.size); replace D := D.drew.step hbn; clear hbn; dsimp only)
              | (go_at_call 9; (with_reducible refine (equal_yes (hputB c p) (hputB c p) z n7 _ _ _ _ _ HRX.out hr7.out hz.out HL7.out (by omega) rfl).mono ?_); rintro e wn ⟨rfl, hbn⟩; replace D := D.step hbn; clear hbn hr7; dsimp only))
            clear u0 u1 u2 u3 u4 u5 u6 u7
            have hB := D.bel
            clear D
            go_wp2_with fail
            go_ret
            exact ⟨rfl, hB⟩
          · subst hna
            go_wp2_with fail
            obtain ⟨u0, u1, u2, u3, u4, u5, u6, u7⟩ := celflat D
            go_region_held3 (fun W => W.cell? ⟨q, 0, none⟩ = some (.bool c.sync) ∧ W.cell? ⟨q, 1, none⟩ = some (.bool c.wide) ∧ W.cell? ⟨q, 2, none⟩ = some (.bool c.acfc) ∧ W.cell? ⟨q, 3, none⟩ = some (.bool c.pfc) ∧ W.cell? ⟨q, 4, none⟩ = some (.int .u32 (c.send : Int)) ∧ W.cell? ⟨q, 5, none⟩ = some (.int .u32 (c.recv : Int)) ∧ W.cell? ⟨q, 6, none⟩ = some (.int .i64 c.mru) ∧ W.cell? ⟨b6, o6 + 2, none⟩ = some (.slice Ak z ck)) (first | exact celflat D | exact celflat D.drew) (first
              | (go_at_call 10; (with_reducible refine (hput_v c p hp _ (by omega) _).mono ?_); rintro e wn ⟨A7, n7, rfl, hl7, hr7, hbn⟩; replace hr7 := Lib.hid hr7.rd; have HL7 := Lib.hid hl7; clear hl7; replace HRX := Lib.hid ((HRX.out.drew.below hbn).more hbn.size); replace D := D.drew.step hbn; clear hbn; dsimp only)
              | (go_at_call 9; (with_reducible refine (equal_yes (hputB c p) (hputB c p) z n7 _ _ _ _ _ HRX.out hr7.out hz.out HL7.out (by omega) rfl).mono ?_); rintro e wn ⟨rfl, hbn⟩; replace D := D.step hbn; clear hbn hr7; dsimp only))
            clear u0 u1 u2 u3 u4 u5 u6 u7
            have hB := D.bel
            clear D
            go_wp2_with fail
            go_ret
            exact ⟨rfl, hB⟩
          · subst hna
            go_wp2_with fail
            obtain ⟨u0, u1, u2, u3, u4, u5, u6, u7⟩ := celflat D
            go_region_held3 (fun W => W.cell? ⟨q, 0, none⟩ = some (.bool c.sync) ∧ W.cell? ⟨q, 1, none⟩ = some (.bool c.wide) ∧ W.cell? ⟨q, 2, none⟩ = some (.bool c.acfc) ∧ W.cell? ⟨q, 3, none⟩ = some (.bool c.pfc) ∧ W.cell? ⟨q, 4, none⟩ = some (.int .u32 (c.send : Int)) ∧ W.cell? ⟨q, 5, none⟩ = some (.int .u32 (c.recv : Int)) ∧ W.cell? ⟨q, 6, none⟩ = some (.int .i64 c.mru) ∧ W.cell? ⟨b6, o6 + 3, none⟩ = some (.slice Ak z ck)) (first | exact celflat D | exact celflat D.drew) (first
              | (go_at_call 10; (with_reducible refine (hput_v c p hp _ (by omega) _).mono ?_); rintro e wn ⟨A7, n7, rfl, hl7, hr7, hbn⟩; replace hr7 := Lib.hid hr7.rd; have HL7 := Lib.hid hl7; clear hl7; replace HRX := Lib.hid ((HRX.out.drew.below hbn).more hbn.size); replace D := D.drew.step hbn; clear hbn; dsimp only)
              | (go_at_call 9; (with_reducible refine (equal_yes (hputB c p) (hputB c p) z n7 _ _ _ _ _ HRX.out hr7.out hz.out HL7.out (by omega) rfl).mono ?_); rintro e wn ⟨rfl, hbn⟩; replace D := D.step hbn; clear hbn hr7; dsimp only))
            clear u0 u1 u2 u3 u4 u5 u6 u7
            have hB := D.bel
            clear D
            go_wp2_with fail
            go_ret
            exact ⟨rfl, hB⟩
  obtain ⟨u0, u1, u2, u3, u4, u5, u6⟩ := cfull C.x
  go_wp2_with fail
  clear u0 u1 u2 u3 u4 u5 u6
  refine (rright_v p r hp hr.out _).mono ?_
  rintro e w8 ⟨rfl, rfl⟩
  cases r
  · have hB := C.bel
    clear C
    go_wp2_with fail
    go_ret
    exact ⟨rfl, hB⟩
  obtain ⟨u0, u1, u2, u3, u4, u5, u6⟩ := cfull C.x
  go_wp2_with fail
  clear u0 u1 u2 u3 u4 u5 u6
  refine (hall_any c p hp hr.out _).mono ?_
  rintro e w9 ⟨A6, n6, c6, rfl, hr6, hl6, hb6⟩
  replace C := C.step hb6
  have HR6 := Lib.hid (hr6.mono (G := fun _ => True) fun _ _ _ => trivial)
  have hn6 := allB_len c p
  rw [hl6] at hn6
  have HL6 := Lib.hid hl6
  clear hb6 hl6 hr6
  have HPL := Lib.hid (show (hputB c p).length ≤ 4 from (wrB_len _ _ _).2)
  obtain ⟨a, ha⟩ : ∃ a, Hid ((allB c p)[a]? = some (hputB c p) ∧ a < n6 ∧ ((p ≠ 49185 ∧ a = 0) ∨ (p = 49185 ∧ n6 = a + 1))) := by
    by_cases hp49 : p = 49185
    · refine ⟨n6 - 1, Lib.hid ⟨?_, by omega, .inr ⟨hp49, by omega⟩⟩⟩
      subst hp49
      have := allB_last c
      rw [HL6.out] at this
      exact this
    · exact ⟨0, Lib.hid ⟨allB_first c p hp49, by omega, .inl ⟨hp49, rfl⟩⟩⟩
  have hal : a < (allB c p).length := by rw [HL6.out]; exact ha.out.2.1
  obtain ⟨b6, o6, x6, Ak, ck, rfl, hx6, hcx6, -, hrx6⟩ := HR6.out.list hal
  obtain rfl : hputB c p = x6 := by have := ha.out.1; rw [hx6] at this; injection this with this; exact this.symm
  have HRX := Lib.hid hrx6
  have D : Cel w w9 q c b6 (o6 + a) (.slice Ak (hputB c p).length ck) := ⟨C.x, hcx6, C.bel⟩
  clear hrx6 hcx6 hx6 C HR6
  obtain ⟨z, hz⟩ : ∃ z, Hid ((hputB c p).length = z) := ⟨_, Lib.hid rfl⟩
  rw [hz.out] at D HPL
  have han : a < n6 := ha.out.2.1
  have hzz := HPL.out
  rcases ha.out.2.2 with ⟨hp49, rfl⟩ | ⟨hp49, hna⟩
  · have e49 : ((p : Int) == 49185) = false := by simp; omega
    have e60 : ((n6 : Int) == 0) = false := by simp; omega
    have e61 : ¬ (4 : Int) < (n6 : Int) := by omega
    go_wp2_with fail
    obtain ⟨u0, u1, u2, u3, u4, u5, u6, u7⟩ := celflat D
    go_region_held3 (fun W => W.cell? ⟨q, 0, none⟩ = some (.bool c.sync) ∧ W.cell? ⟨q, 1, none⟩ = some (.bool c.wide) ∧ W.cell? ⟨q, 2, none⟩ = some (.bool c.acfc) ∧ W.cell? ⟨q, 3, none⟩ = some (.bool c.pfc) ∧ W.cell? ⟨q, 4, none⟩ = some (.int .u32 (c.send : Int)) ∧ W.cell? ⟨q, 5, none⟩ = some (.int .u32 (c.recv : Int)) ∧ W.cell? ⟨q, 6, none⟩ = some (.int .i64 c.mru) ∧ W.cell? ⟨b6, o6, none⟩ = some (.slice Ak z ck)) (first | exact celflat D | exact celflat D.drew) (first
      | (go_at_call 10; (with_reducible refine (hput_any c p hp _).mono ?_); rintro e wn ⟨A7, n7, rfl, hl7, hr7, hbn⟩; replace hr7 := Lib.hid hr7.rd; have HL7 := Lib.hid hl7; clear hl7; replace HRX := Lib.hid ((HRX.out.drew.below hbn).more hbn.size); replace D := D.drew.step hbn; clear hbn; dsimp only)
      | (go_at_call 9; (with_reducible refine (equal_yes (hputB c p) (hputB c p) z n7 _ _ _ _ _ HRX.out hr7.out hz.out HL7.out (by omega) rfl).mono ?_); rintro e wn ⟨rfl, hbn⟩; replace D := D.step hbn; clear hbn hr7; dsimp only))
    clear u0 u1 u2 u3 u4 u5 u6 u7
    have hB := D.bel
    clear D
    go_wp2_with fail
    go_ret
    exact ⟨rfl, hB⟩
  · have e49 : ((p : Int) == 49185) = true := by simp; omega
    have ha4 : a = 0 ∨ a = 1 ∨ a = 2 ∨ a = 3 := by omega
    rcases ha4 with rfl | rfl | rfl | rfl
    · subst hna
      go_wp2_with fail
      obtain ⟨u0, u1, u2, u3, u4, u5, u6, u7⟩ := celflat D
      go_region_held3 (fun W => W.cell? ⟨q, 0, none⟩ = some (.bool c.sync) ∧ W.cell? ⟨q, 1, none⟩ = some (.bool c.wide) ∧ W.cell? ⟨q, 2, none⟩ = some (.bool c.acfc) ∧ W.cell? ⟨q, 3, none⟩ = some (.bool c.pfc) ∧ W.cell? ⟨q, 4, none⟩ = some (.int .u32 (c.send : Int)) ∧ W.cell? ⟨q, 5, none⟩ = some (.int .u32 (c.recv : Int)) ∧ W.cell? ⟨q, 6, none⟩ = some (.int .i64 c.mru) ∧ W.cell? ⟨b6, o6, none⟩ = some (.slice Ak z ck)) (first | exact celflat D | exact celflat D.drew) (first
        | (go_at_call 10; (with_reducible refine (hput_v c p hp _ (by omega) _).mono ?_); rintro e wn ⟨A7, n7, rfl, hl7, hr7, hbn⟩; replace hr7 := Lib.hid hr7.rd; have HL7 := Lib.hid hl7; clear hl7; replace HRX := Lib.hid ((HRX.out.drew.below hbn).more hbn.size); replace D := D.drew.step hbn; clear hbn; dsimp only)
        | (go_at_call 9; (with_reducible refine (equal_yes (hputB c p) (hputB c p) z n7 _ _ _ _ _ HRX.out hr7.out hz.out HL7.out (by omega) rfl).mono ?_); rintro e wn ⟨rfl, hbn⟩; replace D := D.step hbn; clear hbn hr7; dsimp only))
      clear u0 u1 u2 u3 u4 u5 u6 u7
      have hB := D.bel
      clear D
      go_wp2_with fail
      go_ret
      exact ⟨rfl, hB⟩
    · subst hna
      go_wp2_with fail
      obtain ⟨u0, u1, u2, u3, u4, u5, u6, u7⟩ := celflat D
      go_region_held3 (fun W => W.cell? ⟨q, 0, none⟩ = some (.bool c.sync) ∧ W.cell? ⟨q, 1, none⟩ = some (.bool c.wide) ∧ W.cell? ⟨q, 2, none⟩ = some (.bool c.acfc) ∧ W.cell? ⟨q, 3, none⟩ = some (.bool c.pfc) ∧ W.cell? ⟨q, 4, none⟩ = some (.int .u32 (c.send : Int)) ∧ W.cell? ⟨q, 5, none⟩ = some (.int .u32 (c.recv : Int)) ∧ W.cell? ⟨q, 6, none⟩ = some (.int .i64 c.mru) ∧ W.cell? ⟨b6, o6 + 1, none⟩ = some (.slice Ak z ck)) (first | exact celflat D | exact celflat D.drew) (first
        | (go_at_call 10; (with_reducible refine (hput_v c p hp _ (by omega) _).mono ?_); rintro e wn ⟨A7, n7, rfl, hl7, hr7, hbn⟩; replace hr7 := Lib.hid hr7.rd; have HL7 := Lib.hid hl7; clear hl7; replace HRX := Lib.hid ((HRX.out.drew.below hbn).more hbn.size); replace D := D.drew.step hbn; clear hbn; dsimp only)
        | (go_at_call 9; (with_reducible refine (equal_yes (hputB c p) (hputB c p) z n7 _ _ _ _ _ HRX.out hr7.out hz.out HL7.out (by omega) rfl).mono ?_); rintro e wn ⟨rfl, hbn⟩; replace D := D.step hbn; clear hbn hr7; dsimp only))
      clear u0 u1 u2 u3 u4 u5 u6 u7
      have hB := D.bel
      clear D
      go_wp2_with fail
      go_ret
      exact ⟨rfl, hB⟩
    · subst hna
      go_wp2_with fail
      obtain ⟨u0, u1, u2, u3, u4, u5, u6, u7⟩ := celflat D
      go_region_held3 (fun W => W.cell? ⟨q, 0, none⟩ = some (.bool c.sync) ∧ W.cell? ⟨q, 1, none⟩ = some (.bool c.wide) ∧ W.cell? ⟨q, 2, none⟩ = some (.bool c.acfc) ∧ W.cell? ⟨q, 3, none⟩ = some (.bool c.pfc) ∧ W.cell? ⟨q, 4, none⟩ = some (.int .u32 (c.send : Int)) ∧ W.cell? ⟨q, 5, none⟩ = some (.int .u32 (c.recv : Int)) ∧ W.cell? ⟨q, 6, none⟩ = some (.int .i64 c.mru) ∧ W.cell? ⟨b6, o6 + 2, none⟩ = some (.slice Ak z ck)) (first | exact celflat D | exact celflat D.drew) (first
        | (go_at_call 10; (with_reducible refine (hput_v c p hp _ (by omega) _).mono ?_); rintro e wn ⟨A7, n7, rfl, hl7, hr7, hbn⟩; replace hr7 := Lib.hid hr7.rd; have HL7 := Lib.hid hl7; clear hl7; replace HRX := Lib.hid ((HRX.out.drew.below hbn).more hbn.size); replace D := D.drew.step hbn; clear hbn; dsimp only)
        | (go_at_call 9; (with_reducible refine (equal_yes (hputB c p) (hputB c p) z n7 _ _ _ _ _ HRX.out hr7.out hz.out HL7.out (by omega) rfl).mono ?_); rintro e wn ⟨rfl, hbn⟩; replace D := D.step hbn; clear hbn hr7; dsimp only))
      clear u0 u1 u2 u3 u4 u5 u6 u7
      have hB := D.bel
      clear D
      go_wp2_with fail
      go_ret
      exact ⟨rfl, hB⟩
    · subst hna
      go_wp2_with fail
      obtain ⟨u0, u1, u2, u3, u4, u5, u6, u7⟩ := celflat D
      go_region_held3 (fun W => W.cell? ⟨q, 0, none⟩ = some (.bool c.sync) ∧ W.cell? ⟨q, 1, none⟩ = some (.bool c.wide) ∧ W.cell? ⟨q, 2, none⟩ = some (.bool c.acfc) ∧ W.cell? ⟨q, 3, none⟩ = some (.bool c.pfc) ∧ W.cell? ⟨q, 4, none⟩ = some (.int .u32 (c.send : Int)) ∧ W.cell? ⟨q, 5, none⟩ = some (.int .u32 (c.recv : Int)) ∧ W.cell? ⟨q, 6, none⟩ = some (.int .i64 c.mru) ∧ W.cell? ⟨b6, o6 + 3, none⟩ = some (.slice Ak z ck)) (first | exact celflat D | exact celflat D.drew) (first
        | (go_at_call 10; (with_reducible refine (hput_v c p hp _ (by omega) _).mono ?_); rintro e wn ⟨A7, n7, rfl, hl7, hr7, hbn⟩; replace hr7 := Lib.hid hr7.rd; have HL7 := Lib.hid hl7; clear hl7; replace HRX := Lib.hid ((HRX.out.drew.below hbn).more hbn.size); replace D := D.drew.step hbn; clear hbn; dsimp only)
        | (go_at_call 9; (with_reducible refine (equal_yes (hputB c p) (hputB c p) z n7 _ _ _ _ _ HRX.out hr7.out hz.out HL7.out (by omega) rfl).mono ?_); rintro e wn ⟨rfl, hbn⟩; replace D := D.step hbn; clear hbn hr7; dsimp only))
      clear u0 u1 u2 u3 u4 u5 u6 u7
      have hB := D.bel
      clear D
      go_wp2_with fail
      go_ret
      exact ⟨rfl, hB⟩
end Go.Proofs.Ytekhijbgikjlmaa
