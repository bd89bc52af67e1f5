
/-
  What zero's Insert, Remove, Flag, clean and broken answer. No condition beyond: bytes below 256, lists of at most 2^38 elements.
-/
import Derived.Test.YtkakkligndejaaaDoorZerM
import Derived.Test.YtkakkligndejaaaDoorOffs
namespace Go.Proofs.YtkakkligndejaaaDoor
open Go.RowKit

/-- Two rows lie in blocks of their own. -/
def Sep (v v' : Value) : Prop := ∀ g, v.ownBlock = some g → v'.ownBlock ≠ some g
theorem own_below' {w w' : World} {base : Nat} {e : TypeId} {v : Value} {n : Nat} {xs : List Value} (h : w.ownsRow base e 1 v n xs) (hb : Below w.heap.size w w') : w'.ownsRow base e 1 v n xs :=
  own_off h (X := fun _ => False) (.of_below hb) (fun _ _ => id)
theorem sep_new {w : World} {b b' n n' : Nat} {e e' : TypeId} {v v' : Value} {xs xs' : List Value} {w' : World} (h : w.ownsRow b e 1 v n xs) (h' : w'.ownsRow b' e' 1 v' n' xs') (hb : w.heap.size ≤ b') : Sep v v' := fun g hg hg' => by
  have h1 := (h.lt g hg).2
  have h2 := (h'.lt g hg').1
  omega
/-- An append to the one leaves the other. -/
theorem sep_push {wr w3 : World} {b bc n nc : Nat} {e ec : TypeId} {v v' vc : Value} {xs xc : List Value} {o : Obj} (_h : wr.ownsRow b e 1 v n xs) (hc : wr.ownsRow bc ec 1 vc nc xc) (hs : Sep v vc)
    (hg : (wr.alloc o).grownBy w3 v.ownBlock) (hm : Mv (wr.alloc o).heap.size v v') : w3.ownsRow bc ec 1 vc nc xc ∧ Sep v' vc := by
  refine ⟨own_off (hc.alloc o) (X := fun k => v.ownBlock = some k) (.of_grown hg (fun k hk => hk)) (fun g hgc hgv => hs g hgv hgc), fun g hg' hgc => ?_⟩
  rcases hm g hg' with h1 | h1
  · exact hs g h1 hgc
  · have := (hc.lt g hgc).2
    simp at h1
    omega

theorem zclean_any (l : List Nat) (n : Nat) (A : Option Addr) (c : Nat) (w : World) (h : Rd w w.heap.size A l) (hb : By l) (hn : l.length = n) (hl : n ≤ 1099511627776) :
    Calls Tryd.prog 59 #[.slice A n c] w fun e w' => ∃ A' c', e = .returned (.slice A' n c') ∧ New w w' A' c' n (lows l) := by
  go_enter Tryd.func59, Tryd.ntmps59
  go_wp2_with fail
  refine (clean_c l n A c w h hb hn hl).mono ?_
  rintro e w1 ⟨A1, c1, rfl, hN⟩
  go_wp2_with fail
  go_ret
  exact ⟨A1, c1, rfl, hN⟩

theorem flag_any (w : World) : Calls Tryd.prog 45 #[] w fun e w' => ∃ A c, e = .returned (.slice A 8 c) ∧ New w w' A c 8 [0, 1, 1, 1, 1, 1, 1, 0] := by
  go_enter Tryd.func45, Tryd.ntmps45
  go_wp2
  go_ret
  exact ⟨_, _, rfl, rfl, World.ownsRow_lit w (bvs [0, 1, 1, 1, 1, 1, 1, 0]).toArray 8 (Nat.le_refl _) (by unfold maxLen; omega) rfl, Rd.lit_ w [0, 1, 1, 1, 1, 1, 1, 0], (Below.refl _ _).alloc (Nat.le_refl _) _⟩

set_option maxHeartbeats 1000000 in
theorem insert_any (l : List Nat) (n : Nat) (A : Option Addr) (c : Nat) (w : World) (h : Rd w w.heap.size A l) (hb : By l) (hl : l.length = n) (hn : n ≤ 274877906944) :
    Calls Tryd.prog 46 #[.slice A n c] w fun e w' => ∃ A' c' k, e = .returned (.slice A' k c') ∧ New w w' A' c' k (insB l) := by
  obtain ⟨i0, hi, hz0, hz1, hz2⟩ := info_parts byte_info
  have HLL := Lib.hid (show (lows l).length = n by rw [lows_len, hl])
  have HB := Lib.hid (lows_by l)
  have HL := Lib.hid hl
  clear hl
  have HZ := Lib.hid (show (n : Int) + (n : Int) / 5 = ((n + n / 5 : Nat) : Int) by omega)
  go_enter Tryd.func46, Tryd.ntmps46
  go_wp2_with (at_make; refine wpList_make_own _ rfl _ _ 26 rfl w.heap.size 5 i0 (.int .u8 0) 1 Tryd.underlying26 hi hz0 hz1 .i64 .i64 _ (n + n / 5) rfl rfl (by first | exact HZ.out | rfl | omega) (by rw [hz2]; omega) (by unfold maxLen; omega) (Nat.le_refl _) ?_; intro w1 hown1 hgrow1)
  have hb1 : Below w.heap.size w w1 := (Below.refl _ _).grown hgrow1 (Nat.le_refl _) (by simp)
  clear hgrow1
  refine (zclean_any l n A c w1 ((h.below hb1).more hb1.size) hb HL.out (by omega)).mono ?_
  rintro e w2 ⟨A2, c2, rfl, -, hc2, -, hb2⟩
  have hs2 := sep_new hown1 hc2 (Nat.le_refl _)
  have ho2 := own_below' hown1 hb2
  have hB2 := hb1.trans (hb2.mono hb1.size)
  rw [show ([] : List Value) = bvs (insP ((lows l).take 0)).1 from rfl] at ho2
  clear hown1 hb2
  go_wp2_with fail
  go_loopw [3, 4, 17] (fun v r i wr => ∃ k q t : Nat, k ≤ n ∧ i = .int .i64 k ∧ r = .int .i64 t ∧ t ≤ 4 ∧ q ≤ 2 * k ∧ Hid ((insP ((lows l).take k)).2 = t) ∧ wr.ownsRow w.heap.size 5 1 v q (bvs (insP ((lows l).take k)).1) ∧ wr.ownsRow w1.heap.size 5 1 (.slice A2 n c2) n (bvs (lows l)) ∧ Sep v (.slice A2 n c2) ∧ Below w.heap.size w wr) (fun _ _ i _ => n - (intOf i).toNat)
  case atStart => exact ⟨0, 0, 0, Nat.zero_le _, rfl, rfl, by omega, Nat.le_refl _, Lib.hid rfl, ho2, hc2, hs2, hB2⟩
  case round =>
    obtain ⟨k, q, t, hk, rfl, rfl, ht, hq, hrow, hown, hcl, hsep, hbel⟩ := hrel
    clear ho2 hc2 hs2 hB2
    by_cases hlt : k < n
    · obtain ⟨b, o, x, rfl, hbb, hx, hc⟩ := (Rd.own hcl).at_ (k := k) (by rw [HLL.out]; exact hlt)
      have hx2 : x = 0 ∨ x = 1 := by
        have := List.mem_of_getElem? hx
        simp only [lows, List.mem_map] at this
        obtain ⟨y, _, rfl⟩ := this
        omega
      have HX := Lib.hid hx
      clear hx
      have i1 : (0 : Int) ≤ k := by omega
      have i2 : (k : Int) < n := by omega
      have hszw := hbel.size
      rcases hx2 with rfl | rfl
      · have RE := Lib.hid (show insP ((lows l).take (k + 1)) = ((insP ((lows l).take k)).1 ++ [0], 0) by rw [take_snoc HX.out, insP_snoc, stepI, if_pos rfl])
        go_wp2_with (at_builtin; refine list_mv rfl _ _ 26 rfl 5 i0 (.int .u8 0) 1 1 Tryd.underlying26 hi hz0 hz1 hz2 rfl (by decide) w.heap.size _ q _ rfl (hown.alloc _) (some ⟨wr.heap.size, 0, none⟩) 1 1 [.int .u8 (0 : Nat)] rfl (fun h => by cases h) rfl (fun ad had => by injection had with had; subst had; exact cells_at _ _ _ _ rfl) (fun x hx => by simp at hx; subst hx; rfl) (by unfold maxLen; omega) (by omega) (by simp; omega) ?_; intro v3 w3 hown3 hgrow3 hmv3)
        obtain ⟨hcl3, hsep3⟩ := sep_push hown hcl hsep hgrow3 hmv3
        have R := push_row hown3 (m := q + 1) rfl
        rw [show (insP ((lows l).take k)).1 ++ [0] = (insP ((lows l).take (k + 1))).1 by rw [RE.out]] at R
        have R2 := push_below hbel hown hgrow3
        have R3 := Lib.hid (show (insP ((lows l).take (k + 1))).2 = 0 by rw [RE.out])
        clear hmv3
        go_roundw
        case rel => exact ⟨k + 1, q + 1, 0, by omega, by go_num, rfl, by omega, by omega, R3, R, hcl3, hsep3, R2⟩
        case measure => simp [intOf]; omega
      · by_cases h4 : t = 4
        · subst h4
          have RE := Lib.hid (show insP ((lows l).take (k + 1)) = ((insP ((lows l).take k)).1 ++ [1] ++ [0], 0) by rw [take_snoc HX.out, insP_snoc, stepI, if_neg (by decide), if_pos hrow.out])
          go_wp2_with (first
            | (at_builtin; have _g := hown; clear _g; refine list_mv rfl _ _ 26 rfl 5 i0 (.int .u8 0) 1 1 Tryd.underlying26 hi hz0 hz1 hz2 rfl (by decide) w.heap.size _ q _ rfl (hown.alloc _) (some ⟨wr.heap.size, 0, none⟩) 1 1 [.int .u8 (1 : Nat)] rfl (fun h => by cases h) rfl (fun ad had => by injection had with had; subst had; exact cells_at _ _ _ _ rfl) (fun x hx => by simp at hx; subst hx; rfl) (by unfold maxLen; omega) (by omega) (by simp; omega) ?_; intro v3 w3 hown3 hgrow3 hmv3; obtain ⟨hcl3, hsep3⟩ := sep_push hown hcl hsep hgrow3 hmv3; have R := push_row hown3 (m := q + 1) rfl; have R2 := push_below hbel hown hgrow3; have hsz3 := R2.size; clear hmv3 hgrow3 hown3 hown)
            | (at_builtin; refine list_mv rfl _ _ 26 rfl 5 i0 (.int .u8 0) 1 1 Tryd.underlying26 hi hz0 hz1 hz2 rfl (by decide) w.heap.size _ (q + 1) _ rfl (R.alloc _) (some ⟨w3.heap.size, 0, none⟩) 1 1 [.int .u8 (0 : Nat)] rfl (fun h => by cases h) rfl (fun ad had => by injection had with had; subst had; exact cells_at _ _ _ _ rfl) (fun x hx => by simp at hx; subst hx; rfl) (by unfold maxLen; omega) (by omega) (by simp; omega) ?_; intro v5 w5 hown5 hgrow5 hmv5))
          obtain ⟨hcl5, hsep5⟩ := sep_push R hcl3 hsep3 hgrow5 hmv5
          have S := push_row hown5 (m := q + 2) rfl
          rw [show (insP ((lows l).take k)).1 ++ [1] ++ [0] = (insP ((lows l).take (k + 1))).1 by rw [RE.out]] at S
          have S2 := push_below R2 R hgrow5
          have S3 := Lib.hid (show (insP ((lows l).take (k + 1))).2 = 0 by rw [RE.out])
          clear hmv5
          go_roundw
          case rel => exact ⟨k + 1, q + 2, 0, by omega, by go_num, rfl, by omega, by omega, S3, S, hcl5, hsep5, S2⟩
          case measure => simp [intOf]; omega
        · have RE := Lib.hid (show insP ((lows l).take (k + 1)) = ((insP ((lows l).take k)).1 ++ [1], t + 1) by rw [take_snoc HX.out, insP_snoc, stepI, if_neg (by decide), if_neg (by rw [hrow.out]; exact h4), hrow.out])
          have h5 : ((t : Int) + 1 == 5) = false := by rw [beq_eq_false_iff_ne]; omega
          go_wp2_with (at_builtin; refine list_mv rfl _ _ 26 rfl 5 i0 (.int .u8 0) 1 1 Tryd.underlying26 hi hz0 hz1 hz2 rfl (by decide) w.heap.size _ q _ rfl (hown.alloc _) (some ⟨wr.heap.size, 0, none⟩) 1 1 [.int .u8 (1 : Nat)] rfl (fun h => by cases h) rfl (fun ad had => by injection had with had; subst had; exact cells_at _ _ _ _ rfl) (fun x hx => by simp at hx; subst hx; rfl) (by unfold maxLen; omega) (by omega) (by simp; omega) ?_; intro v3 w3 hown3 hgrow3 hmv3)
          obtain ⟨hcl3, hsep3⟩ := sep_push hown hcl hsep hgrow3 hmv3
          have R := push_row hown3 (m := q + 1) rfl
          rw [show (insP ((lows l).take k)).1 ++ [1] = (insP ((lows l).take (k + 1))).1 by rw [RE.out]] at R
          have R2 := push_below hbel hown hgrow3
          have R3 := Lib.hid (show (insP ((lows l).take (k + 1))).2 = t + 1 by rw [RE.out])
          clear hmv3
          go_roundw
          case rel => exact ⟨k + 1, q + 1, t + 1, by omega, by go_num, by go_num, by omega, by omega, R3, R, hcl3, hsep3, R2⟩
          case measure => simp [intOf]; omega
    · go_wp2
      go_ret
      have he : k = n := by omega
      subst he
      rw [List.take_of_length_le (by rw [HLL.out]; omega), insP_lows] at hown
      obtain ⟨A', c', rfl, hN⟩ := New.mk hown hbel
      exact ⟨A', c', q, rfl, hN⟩

end Go.Proofs.YtkakkligndejaaaDoor
