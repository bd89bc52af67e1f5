
/-
  The walk of the statement FrameSpoils. Conditions: the tables hold what the start-up lays ('Tabs'); numbers that Go's types have.
-/
import Derived.Test.YtkakkligndejaaaDoorFrq
import Derived.Test.YtkakkligndejaaaDoorFrw
import Derived.IntWalk
namespace Go.Proofs.YtkakkligndejaaaDoor
open Go.RowKit

theorem bvs_setF (l : List Nat) (k x : Nat) : (bvs l).set k (.int .u8 (x : Int)) = bvs (l.set k x) := by simp [bvs, bv, List.map_set]

set_option maxHeartbeats 1000000 in
theorem fspoils_early (c : Cf) (p : Int) (A : Option Addr) (n cp : Nat) (a d : Int) (w : World) (hT : Tabs w) (h : c.may → n ≤ 400 → d = 0) :
    Calls Tryd.prog 5 #[c.val, .int .u16 p, .slice A n cp, .int .u16 a, .int .u8 d] w fun e w' => e = .returned (.bool true) ∧ Below w.heap.size w w' := by
  have C0 := Lib.hid (show One w (w.alloc (c.obj 24)) w.heap.size 24 c from ⟨Bx.new _ _ _, (Below.refl _ _).alloc (Nat.le_refl _) _⟩)
  have HT := Lib.hid hT
  clear hT
  have HS := fun (W : World) (hB : Below w.heap.size w W) => speaks11_any W (HT.out.below hB)
  have key : (¬ c.may) ∨ (c.may ∧ (400 : Int) < (n : Int)) ∨ (c.may ∧ ¬ (400 : Int) < (n : Int) ∧ d = 0) := by
    by_cases h1 : c.may
    · by_cases h2 : n ≤ 400
      · exact .inr (.inr ⟨h1, by omega, h h1 h2⟩)
      · exact .inr (.inl ⟨h1, by omega⟩)
    · exact .inl h1
  clear h
  rcases key with hc | ⟨hc, h2⟩ | ⟨hc, h2, rfl⟩
  all_goals
    first | have HZ := Lib.hid (chk_not hc) | have HZ := Lib.hid (chk_may hc)
    go_enter Tryd.func5, Tryd.ntmps5
    go_wp2_with fail
    refine (HS _ C0.out.bel).mono ?_
    rintro e w1 ⟨rfl, hb1⟩
    have C1 := Lib.hid (C0.out.step hb1)
    obtain ⟨x0, x1, x2, x3, x4, x5, x6⟩ := C1.out.x.all
    clear hb1
    go_wp2_with fail
    refine (rcheck_any c _).mono ?_
    rintro e w2 ⟨rfl, hb2⟩
    rw [HZ.out]
    have C2 := Lib.hid (C1.out.step hb2)
    clear hb2
    go_wp2_with fail
    refine (HS _ C2.out.bel).mono ?_
    rintro e w3 ⟨rfl, hb3⟩
    go_wp2_with fail
    go_ret
    exact ⟨rfl, (C2.out.step hb3).bel⟩

set_option maxHeartbeats 4000000 in
theorem fspoils_walk (c : Cf) (hc : c.may) (p : Nat) (hp : p < 65536) (l : List Nat) (A : Option Addr) (n cp : Nat) (a d : Nat) (ha : a < 65536) (hd : d < 256) (hd0 : d ≠ 0) (w : World) (hT : Tabs w)
    (hl : l.length = n) (hb : By l) (h : Rd w w.heap.size A l) (h4 : n ≤ 400) :
    Calls Tryd.prog 5 #[c.val, .int .u16 (p : Int), .slice A n cp, .int .u16 (a : Int), .int .u8 (d : Int)] w fun e w' => e = .returned (.bool true) ∧ Below w.heap.size w w' := by
  have C0 := Lib.hid (show One w (w.alloc (c.obj 24)) w.heap.size 24 c from ⟨Bx.new _ _ _, (Below.refl _ _).alloc (Nat.le_refl _) _⟩)
  have HT := Lib.hid hT
  have HS := fun (W : World) (hB : Below w.heap.size w W) => speaks11_any W (HT.out.below hB)
  have HZ := Lib.hid (chk_may hc)
  have HL := Lib.hid hl
  have HBy := Lib.hid hb
  have HR := Lib.hid h
  have h4' : ¬ (400 : Int) < (n : Int) := by omega
  have hd' : ((d : Int) == 0) = false := by rw [beq_eq_false_iff_ne]; omega
  clear hl hb h hT
  by_cases hok : rightB p = true ∧ (n : Int) ≤ c.mru
  · have hfl := frameB_len c p l
    have hpl := hputB_len c p
    have hzw := size_pos c.wide
    obtain ⟨N, hN⟩ : ∃ N, Hid ((frameB c p l).length = N) := ⟨_, Lib.hid rfl⟩
    have hN1 : 3 ≤ N ∧ N ≤ 408 := by rw [← hN.out]; have := HL.out; omega
    have hN0 : ((N : Int) == 0) = false := by rw [beq_eq_false_iff_ne]; omega
    obtain ⟨q, hq, hq0, hqN⟩ : ∃ q : Nat, (a : Int) % (N : Int) = (q : Int) ∧ (0 : Int) ≤ (q : Int) ∧ (q : Int) < (N : Int) := by
      have h1 := Int.emod_nonneg (a : Int) (b := (N : Int)) (by omega)
      have h2 := Int.emod_lt_of_pos (a : Int) (b := (N : Int)) (by omega)
      exact ⟨((a : Int) % (N : Int)).toNat, by omega, by omega, by omega⟩
    have hqN2 : q < N := by omega
    obtain ⟨x, hx⟩ : ∃ x, Hid ((frameB c p l)[q]? = some x) := ⟨_, Lib.hid (List.getElem?_eq_getElem (by rw [hN.out]; exact hqN2))⟩
    have HFb := Lib.hid (frameB_by c hp HBy.out)
    have hx256 : x < 256 := HFb.out.get hx.out
    have HX := Lib.hid (u8_xor_nat x d hx256 hd)
    have HP := Lib.hid (parse_spoil c p hp l HBy.out (by rw [HL.out]; exact hok.2) q x d hx.out hd hd0)
    have HSb := Lib.hid (show By ((frameB c p l).set q (x ^^^ d)) by
      intro y hy
      rcases List.mem_or_eq_of_mem_set hy with h1 | rfl
      · exact HFb.out y h1
      · exact Nat.xor_lt_two_pow (n := 8) hx256 hd)
    have HSl := Lib.hid (show ((frameB c p l).set q (x ^^^ d)).length = N by rw [List.length_set, hN.out])
    have HQ := Lib.hid hq
    clear hpl hfl hzw hq
    go_enter Tryd.func5, Tryd.ntmps5
    go_wp2_with fail
    refine (HS _ C0.out.bel).mono ?_
    rintro e w1 ⟨rfl, hb1⟩
    have C1 := Lib.hid (C0.out.step hb1)
    obtain ⟨x0, x1, x2, x3, x4, x5, x6⟩ := C1.out.x.all
    clear hb1
    go_wp2_with fail
    refine (rcheck_any c _).mono ?_
    rintro e w2 ⟨rfl, hb2⟩
    rw [HZ.out]
    have C2 := Lib.hid (C1.out.step hb2)
    clear hb2 x0 x1 x2 x3 x4 x5 x6
    obtain ⟨x0, x1, x2, x3, x4, x5, x6⟩ := C2.out.x.all
    go_wp2_with fail
    clear x0 x1 x2 x3 x4 x5 x6
    refine (build_ok c p hp l A n cp _ (HR.out.on C2.out.bel) HBy.out HL.out (by omega) hok.1 hok.2 (HT.out.below C2.out.bel)).mono ?_
    rintro e w3 ⟨A3, c3, k3, rfl, hN3⟩
    obtain rfl : k3 = N := hN3.1.symm.trans hN.out
    obtain ⟨g, rfl⟩ : ∃ g, A3 = some ⟨g, 0, none⟩ := by
      obtain ⟨g, cap, e⟩ := own_some hN3.2.1 (by omega)
      injection e with e1
      exact ⟨g, e1⟩
    have hst := hN3.2.1.stored q (.int .u8 ((x ^^^ d : Nat) : Int))
    rw [bvs_setF] at hst
    have hc0 := hN3.2.1.cellAt q (by omega)
    rw [bvs_get _ _ _ hx.out] at hc0
    have hf0 := hN3.2.1.frozenAt q
    have C3 := Lib.hid (C2.out.step hN3.2.2.2)
    have HB4 := Lib.hid (hN3.2.2.2.grown hst.2 hN3.2.2.2.size (fun k hk => (hN3.2.1.lt k hk).1))
    have C4 := Lib.hid (C2.out.step HB4.out)
    have HR4 := Lib.hid (Rd.own hst.1)
    have hcap := own_cap hN3.2.1
    clear hst hN3
    have hQ := HQ.out
    obtain ⟨x0, x1, x2, x3, x4, x5, x6⟩ := C4.out.x.all
    have HE := HX.out
    rw [← HE] at x0 x1 x2 x3 x4 x5 x6
    clear HE
    go_wp2_with fail
    rw [HX.out]
    clear x0 x1 x2 x3 x4 x5 x6
    refine (parse_v c hc ((frameB c p l).set q (x ^^^ d)) 0 [] 6 HP.out _ k3 c3 _ HR4.out HSb.out HSl.out hcap (by omega) (HT.out.below C4.out.bel)).mono ?_
    rintro e w5 ⟨A5, c5, k5, rfl, hl5, -, hb5⟩
    obtain rfl : k5 = 0 := hl5.symm
    go_wp2_with fail
    go_ret
    exact ⟨rfl, (C4.out.step hb5).bel⟩
  · have hno : rightB p = true → c.mru < (n : Int) := fun h1 => by
      by_cases h2 : c.mru < (n : Int)
      · exact h2
      · exact absurd ⟨h1, by omega⟩ hok
    have hz0 := bErr_pos p
    obtain ⟨z, hz⟩ : ∃ z, Hid (bErr p = z) := ⟨_, Lib.hid rfl⟩
    rw [hz.out] at hz0
    have hz1 : ((z : Int) != 0) = true := by rw [bne_iff_ne]; omega
    have HNo := Lib.hid hno
    clear hno hok hz0
    go_enter Tryd.func5, Tryd.ntmps5
    go_wp2_with fail
    refine (HS _ C0.out.bel).mono ?_
    rintro e w1 ⟨rfl, hb1⟩
    have C1 := Lib.hid (C0.out.step hb1)
    obtain ⟨x0, x1, x2, x3, x4, x5, x6⟩ := C1.out.x.all
    clear hb1
    go_wp2_with fail
    refine (rcheck_any c _).mono ?_
    rintro e w2 ⟨rfl, hb2⟩
    rw [HZ.out]
    have C2 := Lib.hid (C1.out.step hb2)
    clear hb2 x0 x1 x2 x3 x4 x5 x6
    obtain ⟨x0, x1, x2, x3, x4, x5, x6⟩ := C2.out.x.all
    go_wp2_with fail
    clear x0 x1 x2 x3 x4 x5 x6
    refine (build_no c p hp A n cp _ HNo.out).mono ?_
    rintro e w3 ⟨rfl, hb3⟩
    rw [hz.out]
    have C3 := Lib.hid (C2.out.step hb3)
    clear hb3
    go_wp2_with fail
    go_ret
    exact ⟨rfl, C3.out.bel⟩

end Go.Proofs.YtkakkligndejaaaDoor
