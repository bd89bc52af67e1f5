
/-
  The document's example for layer 10; the walk of the statement HeadTells. No condition beyond: numbers that Go's types have.
-/
import Derived.Test.YtekhijbgikjlmaaHedA
import Derived.IntWalk
namespace Go.Proofs.Ytekhijbgikjlmaa
open Go.RowKit

theorem hgetB_lt {c : Cf} {l : List Nat} (h : By l) : (hgetB c l).1 < 65536 := by
  have h1 := getB_lt h c.pfc
  have h2 := getB_lt (h.drop 2) c.pfc
  unfold hgetB haddB
  repeat' split
  all_goals first | exact h1 | exact h2 | decide
theorem hget_b (c : Cf) (l : List Nat) (g1 g2 g3 : Nat) (hg : hgetB c l = (g1, g2, g3)) (A : Option Addr) (n cp : Nat) (w : World) (h : Rd w w.heap.size A l) (hb : By l) (hn : l.length = n) (hc : n ≤ cp) (hm : n ≤ 1099511627776) :
    Calls Try.prog 7 #[c.val, .slice A n cp] w fun e w' => e = .returned (.tuple #[.int .u16 (g1 : Int), .int .i64 (g2 : Int), .int .i64 (g3 : Int)]) ∧ Below w.heap.size w w' :=
  (hget_any c l A n cp w h hb hn hc hm).mono fun _ _ ⟨he, hw⟩ => ⟨by rw [he, hg]; rfl, hw⟩
theorem rhget_b (c : Cf) (l : List Nat) (g1 g2 g3 : Nat) (hg : hgetB c l = (g1, g2, g3)) (A : Option Addr) (n cp : Nat) (w : World) (h : Rd w w.heap.size A l) (hb : By l) (hn : l.length = n) (hc : n ≤ cp) (hm : n ≤ 1099511627776) :
    Calls Try.prog 8 #[c.val, .slice A n cp] w fun e w' => e = .returned (.tuple #[.int .i64 (g1 : Int), .int .i64 (g2 : Int), .int .i64 (g3 : Int)]) ∧ Below w.heap.size w w' :=
  (rhget_any c l A n cp w h hb hn hc hm).mono fun _ _ ⟨he, hw⟩ => ⟨by rw [he, hg]; rfl, hw⟩

set_option maxHeartbeats 1000000 in
theorem speaks10_any (w : World) : Calls Try.prog 6 #[] w fun e w' => e = .returned (.bool true) ∧ Below w.heap.size w w' := by
  go_enter Try.func6, Try.ntmps6
  go_wp2_with fail
  refine (hput_any ⟨false, false, true, true, 0, 0, 0⟩ 33 (by omega) _).mono ?_
  rintro e w1 ⟨A1, n1, rfl, hl1, hr1, hb1⟩
  obtain rfl : n1 = 1 := hl1.symm
  have hr1 := hr1.rd
  go_wp2_with fail
  refine (equal_yes [33] [33] 1 1 _ _ _ _ _ ((hr1.alloc (Nat.le_refl _) _).more (by simp)) (Rd.lit_ w1 [33]) rfl rfl (by omega) rfl).mono ?_
  rintro e w2 ⟨rfl, hb2⟩
  have hB2 := (hb1.alloc hb1.size _).trans (hb2.mono (B' := w.heap.size) (by have := hb1.size; simp; omega))
  clear hb2 hb1 hr1 hl1
  go_wp2_with fail
  refine (hput_any ⟨false, false, false, false, 0, 0, 0⟩ 33 (by omega) _).mono ?_
  rintro e w3 ⟨A3, n3, rfl, hl3, hr3, hb3⟩
  obtain rfl : n3 = 4 := hl3.symm
  have hr3 := hr3.rd
  have hB3 := hB2.trans (hb3.mono hB2.size)
  clear hb3 hB2 hl3
  go_wp2_with fail
  refine (equal_yes [255, 3, 0, 33] [255, 3, 0, 33] 4 4 _ _ _ _ _ ((hr3.alloc (Nat.le_refl _) _).more (by simp)) (Rd.lit_ w3 [255, 3, 0, 33]) rfl rfl (by omega) rfl).mono ?_
  rintro e w4 ⟨rfl, hb4⟩
  have hB4 := (hB3.alloc hB3.size _).trans (hb4.mono (B' := w.heap.size) (by have := hB3.size; simp; omega))
  clear hb4 hB3 hr3
  go_wp2_with fail
  go_ret
  exact ⟨rfl, hB4⟩

/-- The law's two configs, in a world behind w0. -/
structure Two (w0 W : World) (b1 b2 : Nat) (c : Cf) : Prop where
  a : Bx W b1 24 c
  x : Bx W b2 28 c
  bel : Below w0.heap.size w0 W
section
variable {w0 W W' X : World} {b1 b2 : Nat} {c : Cf}
theorem Two.step (h : Two w0 W b1 b2 c) (hb : Below W.heap.size W W') : Two w0 W' b1 b2 c := ⟨h.a.below hb, h.x.below hb, h.bel.trans (hb.mono h.bel.size)⟩
theorem Two.drew (h : Two w0 W b1 b2 c) : Two w0 W.drew b1 b2 c := ⟨h.a, h.x, h.bel.drew⟩
theorem Two.step' (h : Two w0 W b1 b2 c) (hb : Below X.heap.size X W') (hX : Below W.heap.size W X := by first | exact Below.refl _ _ | exact (Below.refl _ _).drew) : Two w0 W' b1 b2 c := (h.step hX).step hb
end

set_option maxHeartbeats 2000000 in
theorem htells_long (c : Cf) (p : Int) (A : Option Addr) (n cp : Nat) (w : World) (h : 100 < n) :
    Calls Try.prog 3 #[c.val, .int .u16 p, .slice A n cp] w fun e w' => e = .returned (.bool true) ∧ Below w.heap.size w w' := by
  have h4 : (100 : Int) < (n : Int) := by omega
  go_enter Try.func3, Try.ntmps3
  go_wp2_with fail
  refine (speaks10_any _).mono ?_
  rintro e w1 ⟨rfl, hb1⟩
  have hB1 := ((Below.refl w.heap.size w).alloc (Nat.le_refl _) (c.obj 24)).trans (hb1.mono (by simp))
  clear hb1
  go_wp2_with fail
  refine (speaks10_any _).mono ?_
  rintro e w2 ⟨rfl, hb2⟩
  go_wp2_with fail
  go_ret
  exact ⟨rfl, hB1.trans (hb2.mono hB1.size)⟩

theorem hequal_q (a : List Nat) (A B : Option Addr) (c d : Nat) (w : World) (ha : Rd w w.heap.size A a) (hb : Rd w w.heap.size B a) (hn : a.length ≤ 1099511627776) :
    Calls Try.prog 9 #[.slice A a.length c, .slice B a.length d] w fun e w' => e = .returned (.bool true) ∧ ∃ n, w' = w.drewN n :=
  (equal_any a a A B c d w _ ha hb hn).mono fun _ _ ⟨he, hw⟩ => ⟨by rw [he]; simp, hw⟩
theorem allB_short {c : Cf} {p k : Nat} {x : List Nat} (h : (allB c p)[k]? = some x) : x.length ≤ 4 := by
  have hm := List.mem_of_getElem? h
  unfold allB numB at hm
  have key : ∀ a b, (wrB p a b).length ≤ 4 := fun a b => (wrB_len p a b).2
  rcases List.mem_append.1 hm with hm | hm
  · split at hm
    · split at hm <;> simp at hm <;> rcases hm with rfl | rfl <;> exact key _ _
    · simp at hm
  · split at hm <;> simp at hm <;> rcases hm with rfl | rfl <;> exact key _ _

set_option maxHeartbeats 4000000 in
theorem htells_walk (c : Cf) (p : Nat) (hp : p < 65536) (l : List Nat) (A : Option Addr) (n cp : Nat) (w : World) (hl : l.length = n) (hb : By l) (h : Rd w w.heap.size A l) (h4 : n ≤ 100) (hcp : n ≤ cp) :
    Calls Try.prog 3 #[c.val, .int .u16 (p : Int), .slice A n cp] w fun e w' => e = .returned (.bool true) ∧ Below w.heap.size w w' := by
  have HL := Lib.hid hl
  have HB := Lib.hid hb
  have HR := Lib.hid h
  clear hl hb h
  have h4' : ¬ (100 : Int) < (n : Int) := by omega
  obtain ⟨g1, g2, g3, hg⟩ : ∃ g1 g2 g3, Hid (hgetB c l = (g1, g2, g3)) := ⟨_, _, _, Lib.hid rfl⟩
  have hg1 : g1 < 65536 := by have := hgetB_lt (c := c) HB.out; rw [hg.out] at this; exact this
  go_enter Try.func3, Try.ntmps3
  go_wp2_with fail
  refine (speaks10_any _).mono ?_
  rintro e w1 ⟨rfl, hb1⟩
  have X1 : Bx w1 w.heap.size 24 c := (hb1.block _ (by simp)).trans (heap_alloc_new _ _)
  have hB1 := ((Below.refl w.heap.size w).alloc (Nat.le_refl _) (c.obj 24)).trans (hb1.mono (by simp))
  clear hb1
  have HX1 := Lib.hid X1
  have HB1 := Lib.hid hB1
  obtain ⟨u0, u1, u2, u3, u4, u5, u6⟩ := X1.all
  clear hB1 X1
  go_wp2_with fail
  clear u0 u1 u2 u3 u4 u5 u6
  have hra : Rd (w1.alloc (c.obj 28)) (w1.alloc (c.obj 28)).heap.size A l := ((HR.out.below HB1.out).more HB1.out.size).alloc (Nat.le_refl _) _ |>.more (by simp)
  refine (hget_b c l g1 g2 g3 hg.out A n cp _ hra HB.out HL.out hcp (by omega)).mono ?_
  rintro e w2 ⟨rfl, hb2⟩
  have C : Two w w2 w.heap.size w1.heap.size c := ⟨(HX1.out.below ((Below.refl _ _).alloc (Nat.le_refl _) _)).below hb2, (hb2.block _ (by simp)).trans (heap_alloc_new _ _), (HB1.out.alloc HB1.out.size _).trans (hb2.mono (by have := HB1.out.size; simp; omega))⟩
  clear hra hb2 HX1 HB1
  obtain ⟨q, hq⟩ : ∃ q, Hid (w1.heap.size = q) := ⟨_, Lib.hid rfl⟩
  rw [hq.out] at C ⊢
  clear hq
  obtain ⟨u0, u1, u2, u3, u4, u5, u6⟩ := C.a.all
  go_wp2_with fail
  clear u0 u1 u2 u3 u4 u5 u6
  refine (rhget_b c l g1 g2 g3 hg.out A n cp _ ((HR.out.below C.bel).more C.bel.size) HB.out HL.out hcp (by omega)).mono ?_
  rintro e w3 ⟨rfl, hb3⟩
  replace C := C.step hb3
  clear hb3
  go_wp2_with fail
  have ew : IntKind.i64.wrap (g1 : Int) = (g1 : Int) := IntWalk.i64_in _ (by omega)
  have ewp : IntKind.i64.wrap (p : Int) = (p : Int) := IntWalk.i64_in _ (by omega)
  have e1 : ((g1 : Int) != (g1 : Int)) = false := by simp
  have e2 : ((g2 : Int) != (g2 : Int)) = false := by simp
  have e3 : ((g3 : Int) != (g3 : Int)) = false := by simp
  have F := flat2 C.a C.x
  obtain ⟨u0, u1, u2, u3, u4, u5, u6, u7, u8, u9, u10, u11, u12, u13⟩ := F
  go_region_held3 (fun W => W.cell? ⟨w.heap.size, 0, none⟩ = some (.bool c.sync) ∧ W.cell? ⟨w.heap.size, 1, none⟩ = some (.bool c.wide) ∧ W.cell? ⟨w.heap.size, 2, none⟩ = some (.bool c.acfc) ∧ W.cell? ⟨w.heap.size, 3, none⟩ = some (.bool c.pfc) ∧ W.cell? ⟨w.heap.size, 4, none⟩ = some (.int .u32 (c.send : Int)) ∧ W.cell? ⟨w.heap.size, 5, none⟩ = some (.int .u32 (c.recv : Int)) ∧ W.cell? ⟨w.heap.size, 6, none⟩ = some (.int .i64 c.mru) ∧ W.cell? ⟨q, 0, none⟩ = some (.bool c.sync) ∧ W.cell? ⟨q, 1, none⟩ = some (.bool c.wide) ∧ W.cell? ⟨q, 2, none⟩ = some (.bool c.acfc) ∧ W.cell? ⟨q, 3, none⟩ = some (.bool c.pfc) ∧ W.cell? ⟨q, 4, none⟩ = some (.int .u32 (c.send : Int)) ∧ W.cell? ⟨q, 5, none⟩ = some (.int .u32 (c.recv : Int)) ∧ W.cell? ⟨q, 6, none⟩ = some (.int .i64 c.mru)) (first | exact flat2 C.a C.x) (first
    | (go_at_call 10; (with_reducible refine (hput_any c p hp _).mono ?_); rintro e wn ⟨A5, n5, rfl, hl5, hr5, hbn⟩; replace hr5 := Lib.hid (hr5.mono (G := fun _ => True) fun _ _ _ => trivial); have HL5 := Lib.hid hl5; clear hl5; (try replace hr6 := Lib.hid (hr6.out.keep (.of_below hbn))); replace C := C.step' hbn; clear hbn; dsimp only)
    | (go_at_call 11; (with_reducible refine (rhput_any c p hp _).mono ?_); rintro e wn ⟨A6, c6, n6, rfl, hN⟩; have hr6 := Lib.hid (hN.2.2.1.rdF (F := fun _ => True) (fun _ _ => trivial) (Nat.le_refl _)); have HL6 := Lib.hid hN.1; have hbn := hN.2.2.2; clear hN; (try replace hr5 := Lib.hid (hr5.out.keep (.of_below hbn))); replace C := C.step' hbn; clear hbn; dsimp only)
    | (go_at_call 9; (with_reducible refine (equal_yes (hputB c p) (hputB c p) n5 n6 _ _ _ _ _ hr5.out.rd hr6.out.rd HL5.out HL6.out (by have := (wrB_len p (!c.acfc || decide (p = 49185)) (c.pfc && !decide (p = 49185))).2; have := HL5.out; unfold hputB at this; omega) rfl).mono ?_); rintro e wn ⟨rfl, hbn⟩; replace C := C.step' hbn; clear hbn hr5 hr6; dsimp only))
  clear u0 u1 u2 u3 u4 u5 u6 u7 u8 u9 u10 u11 u12 u13 e1 e2 e3 ew
  obtain ⟨r, hr⟩ : ∃ r, Hid (rightB p = r) := ⟨_, Lib.hid rfl⟩
  go_wp2_with fail
  refine (rright_v p r hp hr.out _).mono ?_
  rintro e w8 ⟨rfl, rfl⟩
  cases r
  · have hB := C.bel
    clear C
    go_wp2_with fail
    go_ret
    exact ⟨rfl, hB⟩
  have F := flat2 C.a C.x
  obtain ⟨u0, u1, u2, u3, u4, u5, u6, u7, u8, u9, u10, u11, u12, u13⟩ := F
  have hal := Lib.hid (allB_len c p)
  go_wp2_with fail
  go_region_held3 (fun W => W.cell? ⟨w.heap.size, 0, none⟩ = some (.bool c.sync) ∧ W.cell? ⟨w.heap.size, 1, none⟩ = some (.bool c.wide) ∧ W.cell? ⟨w.heap.size, 2, none⟩ = some (.bool c.acfc) ∧ W.cell? ⟨w.heap.size, 3, none⟩ = some (.bool c.pfc) ∧ W.cell? ⟨w.heap.size, 4, none⟩ = some (.int .u32 (c.send : Int)) ∧ W.cell? ⟨w.heap.size, 5, none⟩ = some (.int .u32 (c.recv : Int)) ∧ W.cell? ⟨w.heap.size, 6, none⟩ = some (.int .i64 c.mru) ∧ W.cell? ⟨q, 0, none⟩ = some (.bool c.sync) ∧ W.cell? ⟨q, 1, none⟩ = some (.bool c.wide) ∧ W.cell? ⟨q, 2, none⟩ = some (.bool c.acfc) ∧ W.cell? ⟨q, 3, none⟩ = some (.bool c.pfc) ∧ W.cell? ⟨q, 4, none⟩ = some (.int .u32 (c.send : Int)) ∧ W.cell? ⟨q, 5, none⟩ = some (.int .u32 (c.recv : Int)) ∧ W.cell? ⟨q, 6, none⟩ = some (.int .i64 c.mru)) (first | exact flat2 C.a C.x) (first
    | (go_at_call 13; (with_reducible refine (hall_any c p hp hr.out _).mono ?_); rintro e wn ⟨A5, n5, c5, rfl, hr5, hl5, hbn⟩; replace hr5 := Lib.hid (hr5.mono (G := fun _ => True) fun _ _ _ => trivial); have HL5 := Lib.hid hl5; clear hl5; (try replace hr6 := Lib.hid (hr6.out.keep (.of_below hbn))); replace C := C.step' hbn; clear hbn; dsimp only)
    | (go_at_call 14; (with_reducible refine (rhall_any c p hp _).mono ?_); rintro e wn ⟨A6, n6, c6, rfl, hr6, hl6, hbn⟩; replace hr6 := Lib.hid (hr6.mono (G := fun _ => True) fun _ _ _ => trivial); have HL6 := Lib.hid hl6; clear hl6; (try replace hr5 := Lib.hid (hr5.out.keep (.of_below hbn))); replace C := C.step' hbn; clear hbn; dsimp only))
  all_goals
    clear u0 u1 u2 u3 u4 u5 u6 u7 u8 u9 u10 u11 u12 u13 ewp
    obtain rfl : n6 = n5 := HL6.out.symm.trans HL5.out
    have HBl := Lib.hid C.bel
    clear C
    have nn : ((n6 : Int) != (n6 : Int)) = false := by simp
    go_wp2_with fail
    clear nn
    have hn6 : n6 ≤ 4 := by have := hal.out.2; rw [HL5.out] at this; exact this
    go_loopw [83] (fun i wr => ∃ k : Nat, k ≤ n6 ∧ i = .int .i64 k ∧ Below wn.heap.size wn wr) (fun i _ => n6 - (intOf i).toNat)
    case atStart => exact ⟨0, Nat.zero_le _, rfl, Below.refl _ _⟩
    case round =>
      obtain ⟨k, hk, rfl, hbel⟩ := hrel
      by_cases hlt : k < n6
      · have hq5 := hr5.out.below hbel
        have hq6 := hr6.out.below hbel
        obtain ⟨ba, oa, x, Ak, ck, rfl, hx, hcx, _, hrx⟩ := hq5.list (k := k) (by rw [HL5.out]; exact hlt)
        obtain ⟨bb, ob, y, Bk, dk, rfl, hy, hcy, _, hry⟩ := hq6.list (k := k) (by rw [HL5.out]; exact hlt)
        obtain rfl : x = y := by rw [hx] at hy; injection hy
        have hxs := Lib.hid (allB_short hx)
        have H5 := Lib.hid hrx
        have H6 := Lib.hid hry
        clear hq5 hq6 hx hy hrx hry
        have HK := Lib.hid hlt
        have i1 : (0 : Int) ≤ k := by omega
        have i2 : (k : Int) < n6 := by omega
        go_wp2_with fail
        go_quiet (first | (go_at_call 9; exact Calls.quiet_of (hequal_q x _ _ _ _ _ (H5.out.drewN _) (H6.out.drewN _) (by have := hxs.out; omega))))
        all_goals
          go_wp2_with fail
          go_roundw
          case rel => exact ⟨k + 1, HK.out, by go_num, below_drewN hbel _⟩
          case measure => have := HK.out; simp [intOf]; omega
      · go_wp2_with fail
        go_ret
        exact ⟨rfl, HBl.out.trans (hbel.mono HBl.out.size)⟩
end Go.Proofs.Ytekhijbgikjlmaa
