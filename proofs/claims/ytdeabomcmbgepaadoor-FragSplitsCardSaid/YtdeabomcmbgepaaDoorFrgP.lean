
/-
  What the program's header, Put, value of layer 23 answer. Conditions: the shapes stand as the start-up lays them ('TabF'); data of at most 2^38 octets.
-/
import Derived.Test.YtdeabomcmbgepaaDoorFrgT
import Derived.Test.YtdeabomcmbgepaaDoorCln
import Derived.Laws.BitsAll
import Derived.OwnWalk
namespace Go.Proofs.YtdeabomcmbgepaaDoor
open Go.RowKit

theorem fr_make (n : Nat) (hn : n ≤ 1099511627776) (w : World) : ∃ w', (Instr.makeSlice 22 (.int .i64 (n : Int)) (.int .i64 (n : Int))).run Tryd.prog w = .ok (.slice (some ⟨w.heap.size, 0, none⟩) n n) w' ∧ w'.ownsRow w.heap.size 5 1 (.slice (some ⟨w.heap.size, 0, none⟩) n n) n (bvs (List.replicate n 0)) ∧ Below w.heap.size w w' := by
  obtain ⟨i0, hi, hz0, hz1, hz2⟩ := info_parts byte_info
  obtain ⟨w', h1, h2, h3⟩ := run_make_full (P := Tryd.prog) (w := w) w.heap.size 22 5 i0 (.int .u8 0) 1 Tryd.underlying22 hi hz0 hz1 .i64 .i64 n (by rw [hz2]; omega) (by unfold maxLen; omega) (Nat.le_refl _)
  refine ⟨w', h1, ?_, (Below.refl _ _).grown h3 (Nat.le_refl _) (fun k hk => by cases hk)⟩
  rw [← part_zero] at h2
  have e : part [] n 0 = List.replicate n 0 := by unfold part; rw [Nat.sub_zero]; rfl
  rw [e] at h2
  exact h2
theorem bvs_setF (l : List Nat) (k x : Nat) : (bvs l).set k (.int .u8 (x : Int)) = bvs (l.set k x) := by simp [bvs, bv, List.map_set]
theorem fr_set_same {l : List Nat} {k y : Nat} (h : l[k]? = some y) : l.set k y = l := by
  obtain ⟨h1, h2⟩ := List.getElem?_eq_some_iff.1 h
  rw [← h2, List.set_getElem_self]
theorem fr_or128 (y : Nat) (h : y < 16) : bits .or .u8 (y : Int) 128 = ((128 + y : Nat) : Int) := by
  have : y = 0 ∨ y = 1 ∨ y = 2 ∨ y = 3 ∨ y = 4 ∨ y = 5 ∨ y = 6 ∨ y = 7 ∨ y = 8 ∨ y = 9 ∨ y = 10 ∨ y = 11 ∨ y = 12 ∨ y = 13 ∨ y = 14 ∨ y = 15 := by omega
  rcases this with rfl | rfl | rfl | rfl | rfl | rfl | rfl | rfl | rfl | rfl | rfl | rfl | rfl | rfl | rfl | rfl <;> rfl
theorem fr_or64 (y : Nat) (h : y < 16) : bits .or .u8 (y : Int) 64 = ((64 + y : Nat) : Int) := by
  have : y = 0 ∨ y = 1 ∨ y = 2 ∨ y = 3 ∨ y = 4 ∨ y = 5 ∨ y = 6 ∨ y = 7 ∨ y = 8 ∨ y = 9 ∨ y = 10 ∨ y = 11 ∨ y = 12 ∨ y = 13 ∨ y = 14 ∨ y = 15 := by omega
  rcases this with rfl | rfl | rfl | rfl | rfl | rfl | rfl | rfl | rfl | rfl | rfl | rfl | rfl | rfl | rfl | rfl <;> rfl
theorem fr_or192 (y : Nat) (h : y < 16) : bits .or .u8 ((128 + y : Nat) : Int) 64 = ((192 + y : Nat) : Int) := by
  have : y = 0 ∨ y = 1 ∨ y = 2 ∨ y = 3 ∨ y = 4 ∨ y = 5 ∨ y = 6 ∨ y = 7 ∨ y = 8 ∨ y = 9 ∨ y = 10 ∨ y = 11 ∨ y = 12 ∨ y = 13 ∨ y = 14 ∨ y = 15 := by omega
  rcases this with rfl | rfl | rfl | rfl | rfl | rfl | rfl | rfl | rfl | rfl | rfl | rfl | rfl | rfl | rfl | rfl <;> rfl

set_option maxHeartbeats 2000000 in
theorem frhdr_any (s b e : Bool) (v : Nat) (hv : v < frmod s) (A : Option Addr) (n c : Nat) (w : World) (hT : TabF w) :
    Calls Tryd.prog 25 #[.bool s, fV b e (v : Int) A n c] w fun r w' => ∃ A' c', r = .returned (.slice A' (frsz s) c') ∧ New w w' A' c' (frsz s) (frhead s b e v) := by
  obtain ⟨y, hy, hy16, hset⟩ := frdig_head s v hv
  obtain ⟨z, hz⟩ : ∃ z, Hid (frsz s = z) := ⟨_, Lib.hid rfl⟩
  have hz4 : z ≤ 4 := by rw [← hz.out]; cases s <;> simp [frsz]
  have hz0 : 0 < z := by rw [← hz.out]; cases s <;> simp [frsz]
  rw [hz.out] at hy hset
  have hpick := frpick_any s
  rw [hz.out] at hpick ⊢
  have HY := Lib.hid hy
  have HSET := Lib.hid hset
  have hfd := frfield_0
  obtain ⟨w1, hw1⟩ : ∃ w1, w1 = w.alloc (.cells #[.bool b, .bool e, .int .i64 (v : Int), .slice A n c] 29) := ⟨_, rfl⟩
  have hb1 : Below w.heap.size w w1 := by rw [hw1]; exact (Below.refl _ _).alloc (Nat.le_refl _) _
  have hx1 : FrX w1 w.heap.size 29 b e (v : Int) A n c := by rw [hw1]; exact FrX.new _ _ _ _ _ _ _ _
  have HW1 := Lib.hid hw1
  have B1 := Lib.hid hb1
  have X1 := Lib.hid hx1
  have T1 := Lib.hid (hT.below hb1)
  clear hy hset hw1 hb1 hx1 hT
  go_enter Tryd.func25, Tryd.ntmps25
  go_wp2_with (go_at_call 27; rw [← HW1.out]; (with_reducible refine (hpick _ T1.out).mono ?_); rintro r w2 ⟨rfl, hb2⟩; obtain ⟨w3, hm3, ho3, hb3⟩ := fr_make z (by omega) w2; have hx3 := (X1.out.on hb2).on hb3; have X3 := Lib.hid hx3; have B3 := Lib.hid (B1.out.trans ((hb2.trans (hb3.mono hb2.size)).mono B1.out.size)); have hc2 := hx3.c2; have L2 := Lib.hid (Nat.lt_of_lt_of_le X1.out.lt hb2.size); clear hb2 hb3 hx3)
  obtain ⟨g, hg⟩ : ∃ g, g = w2.heap.size := ⟨_, rfl⟩
  rw [← hg] at ho3 L2 ⊢
  have HNG := Lib.hid (show w.heap.size ≠ g by have h3 := L2.out; omega)
  clear hm3 hc2 hg
  go_loopw [6, 16] (fun r i wr => ∃ k r0 : Nat, k ≤ z ∧ i = .int .i64 k ∧ r = .int .i64 (r0 : Int) ∧ Hid (v / 256 ^ k = r0) ∧ wr.ownsRow g 5 1 (.slice (some ⟨g, 0, none⟩) z z) z (bvs (frfil v z k)) ∧ Offs (fun j => j = g) w3 wr) (fun _ i _ => z - (intOf i).toNat)
  case atStart => exact ⟨0, v, Nat.zero_le _, rfl, rfl, Lib.hid (by simp), by rw [frfil_zero]; exact ho3, Offs.refl _ _⟩
  case round =>
    obtain ⟨k, r0, hk, rfl, rfl, hr0, hown, hoff⟩ := hrel
    by_cases hlt : k < z
    · have j1 : (0 : Int) ≤ k := by omega
      have j2 : (k : Int) < z := by omega
      have hc0 := hown.cellAt (z - 1 - k) (by omega)
      have hf0 := hown.frozenAt (z - 1 - k)
      obtain ⟨u, hu⟩ : ∃ u, (frfil v z k)[z - 1 - k]? = some u := ⟨_, List.getElem?_eq_getElem (by rw [frfil_len v z k hk]; omega)⟩
      rw [bvs_get _ _ _ hu] at hc0
      have hst := hown.stored (z - 1 - k) (.int .u8 ((v / 256 ^ k % 256 : Nat) : Int))
      rw [bvs_setF, frfil_set v z k hlt, hr0.out, Int.natCast_emod] at hst
      have HS := Lib.hid hst.1
      have HO := Lib.hid hoff
      have HR := Lib.hid (show v / 256 ^ (k + 1) = r0 / 256 by rw [Nat.pow_succ, ← Nat.div_div_eq_div_mul, hr0.out])
      clear hst hu hown hoff ho3
      go_wp2_with fail
      go_roundw
      case rel => exact ⟨k + 1, r0 / 256, by omega, by go_num, by rw [Int.natCast_ediv]; rfl, HR, HS.out, HO.out.trans (Offs.set (X := fun j => j = g) wr g (z - 1 - k) _ rfl) (fun _ h => h) (fun _ _ h => h)⟩
      case measure => simp [intOf]; omega
    · have he : k = z := by omega
      subst he
      rw [frfil_all] at hown
      have hB : Below w.heap.size w wr := B3.out.trans (hoff.below (X := fun j => j = g) (B := w.heap.size) (fun j hj e => by have := L2.out; omega) B3.out.size)
      have X4 : FrX wr w.heap.size 29 b e (v : Int) A n c := (hoff.block _ X3.out.lt (fun e => HNG.out e)).trans X3.out
      have BW := Lib.hid hB
      have q0 := X4.c0
      have q1 := X4.c1
      have hc0 := hown.cellAt 0 (by omega)
      have hf0 := hown.frozenAt 0
      rw [bvs_get _ _ _ HY.out] at hc0
      have HO := Lib.hid hown
      have fin : ∀ (W : World) (l : List Nat), W.ownsRow g 5 1 (.slice (some ⟨g, 0, none⟩) k k) k (bvs l) → l = frhead s b e v → Below w.heap.size w W → New w W (some ⟨g, 0, none⟩) k k (frhead s b e v) := by
        intro W l h1 h2 h3
        subst h2
        obtain ⟨A', c', e', hN⟩ := New.mk (own_lo h1 (Nat.le_of_lt L2.out)) h3
        injection e' with e1 e2 e3
        subst e1; subst e3
        exact hN
      have FIN := Lib.hid fin
      have st := fun (x : Nat) => hown.stored 0 (.int .u8 (x : Int))
      have ST := Lib.hid st
      clear hB X4 hown hoff ho3 fin st
      have set2 : ∀ x y : Nat, ((frdig v k).set 0 x).set 0 y = (frdig v k).set 0 y := fun x y => by rw [List.set_set]
      have S2 := Lib.hid set2
      clear set2
      have BB := fun (x : Value) => Lib.hid (BW.out.setCell (p := ⟨g, 0, none⟩) (Nat.le_of_lt L2.out) x)
      cases b
      · cases e
        · go_wp2_with fail
          go_ret
          exact ⟨_, _, rfl, FIN.out _ _ HO.out (by rw [← HSET.out, show frtop false false + y = y by simp [frtop], fr_set_same HY.out]) BW.out⟩
        · have ho := fr_or64 y hy16
          have HS := Lib.hid (ST.out (64 + y)).1
          go_wp2_with fail
          go_ret
          refine ⟨_, _, rfl, FIN.out _ _ (by rw [← bvs_setF]; exact HS.out) (by rw [← HSET.out]; rfl) (BB _).out⟩
      · cases e
        · have ho := fr_or128 y hy16
          have HS := Lib.hid (ST.out (128 + y)).1
          go_wp2_with fail
          go_ret
          refine ⟨_, _, rfl, FIN.out _ _ (by rw [← bvs_setF]; exact HS.out) (by rw [← HSET.out]; rfl) (BB _).out⟩
        · have ho := fr_or128 y hy16
          have ho2 : bits .or .u8 (128 + (y : Int)) 64 = 192 + (y : Int) := by simpa using fr_or192 y hy16
          have hs1 := (ST.out (128 + y)).1
          have HS := Lib.hid (hs1.stored 0 (.int .u8 ((192 + y : Nat) : Int))).1
          clear hs1
          go_wp2_with fail
          go_ret
          refine ⟨_, _, rfl, FIN.out _ _ (by rw [← bvs_setF, ← bvs_setF]; exact HS.out) (by rw [S2.out, ← HSET.out]; rfl) ((BB _).out.setCell (p := ⟨g, 0, none⟩) (Nat.le_of_lt L2.out) _)⟩

theorem rr_duo (w : World) (A A2 : Option Addr) (l l2 : List Nat) (n n2 c c2 : Nat) (T : TypeId) (h : Rd w w.heap.size A l) (h2 : Rd w w.heap.size A2 l2) (e : l.length = n) (e2 : l2.length = n2) :
    Rr (w.alloc (.cells #[.slice A n c, .slice A2 n2 c2] T)) (some ⟨w.heap.size, 0, none⟩) [l, l2] := by
  subst e; subst e2
  intro _
  have hb := (Below.refl w.heap.size w).alloc (Nat.le_refl _) (.cells #[.slice A l.length c, .slice A2 l2.length c2] T)
  have cell : ∀ k u, (#[.slice A l.length c, .slice A2 l2.length c2] : Array Value)[k]? = some u → (w.alloc (.cells #[.slice A l.length c, .slice A2 l2.length c2] T)).cell? ⟨w.heap.size, 0 + k, none⟩ = some u := by
    intro k u hu
    rw [Nat.zero_add, World.cell?_alloc_at _ _ _ _ rfl]
    exact hu
  refine ⟨w.heap.size, 0, rfl, fun k x hx => ?_⟩
  match k, hx with
  | 0, hx => injection hx with hx; subst hx; exact ⟨A, c, cell 0 _ rfl, (h.below hb).more hb.size⟩
  | 1, hx => injection hx with hx; subst hx; exact ⟨A2, c2, cell 1 _ rfl, (h2.below hb).more hb.size⟩
  | k + 2, hx => simp at hx

/-- What Put's region knows: its own box, the data. -/
structure FrC (w W : World) (g : Nat) (b e : Bool) (x : Int) (A : Option Addr) (n c : Nat) (l : List Nat) : Prop where
  bel : Below w.heap.size w W
  box : FrX W g 29 b e x A n c
  rd : Rd W W.heap.size A l
  tab : TabF W
theorem FrC.step {w W W' : World} {g : Nat} {b e : Bool} {x : Int} {A : Option Addr} {n c : Nat} {l : List Nat} (h : FrC w W g b e x A n c l) (hb : Below W.heap.size W W') : FrC w W' g b e x A n c l :=
  ⟨h.bel.trans (hb.mono h.bel.size), h.box.on hb, h.rd.on hb, h.tab.below hb⟩
theorem FrC.al {w W : World} {g : Nat} {b e : Bool} {x : Int} {A : Option Addr} {n c : Nat} {l : List Nat} (h : FrC w W g b e x A n c l) (o : Obj) : FrC w (W.alloc o) g b e x A n c l := h.step ((Below.refl _ _).alloc (Nat.le_refl _) o)
theorem FrC.cells {w W : World} {g : Nat} {b e : Bool} {x : Int} {A : Option Addr} {n c : Nat} {l : List Nat} (h : FrC w W g b e x A n c l) :
    W.cell? ⟨g, 0, none⟩ = some (.bool b) ∧ W.cell? ⟨g, 1, none⟩ = some (.bool e) ∧ W.cell? ⟨g, 2, none⟩ = some (.int .i64 x) ∧ W.cell? ⟨g, 3, none⟩ = some (.slice A n c) := ⟨h.box.c0, h.box.c1, h.box.c2, h.box.c3⟩

set_option maxHeartbeats 2000000 in
theorem frput_any (s b e : Bool) (x : Int) (A : Option Addr) (l : List Nat) (n c : Nat) (w : World) (h : Rd w w.heap.size A l) (hl : l.length = n) (hn : n ≤ 274877906944) (hT : TabF w) (z q : Nat) (hz : (frputA s ⟨b, e, x, l⟩).length = z) (hq : frputE s ⟨b, e, x, l⟩ = q) :
    Calls Tryd.prog 9 #[.bool s, fV b e x A n c] w fun r w' => ∃ A' c', r = .returned (.tuple #[.slice A' z c', .int .i64 (q : Int)]) ∧ New w w' A' c' z (frputA s ⟨b, e, x, l⟩) := by
  obtain ⟨w1, hw1⟩ : ∃ w1, w1 = w.alloc (.cells #[.bool b, .bool e, .int .i64 x, .slice A n c] 29) := ⟨_, rfl⟩
  have hb1 : Below w.heap.size w w1 := by rw [hw1]; exact (Below.refl _ _).alloc (Nat.le_refl _) _
  have C1 : FrC w w1 w.heap.size b e x A n c l := ⟨hb1, by rw [hw1]; exact FrX.new _ _ _ _ _ _ _ _, h.on hb1, hT.below hb1⟩
  have HW1 := Lib.hid hw1
  have C := Lib.hid C1
  have q2 := C1.box.c2
  have HL := Lib.hid hl
  clear hw1 hb1 C1 h hT hl
  cases hr : frright s x
  · have E1 := Lib.hid (show frputA s ⟨b, e, x, l⟩ = [] by unfold frputA; rw [hr]; rfl)
    have E2 : q = 5 := by rw [← hq]; unfold frputE; rw [hr]; rfl
    have E3 : z = 0 := by rw [← hz, E1.out]; rfl
    subst E2 E3
    have HR := Lib.hid hr
    clear hr hq hz
    go_enter Tryd.func9, Tryd.ntmps9
    go_wp2_with (go_at_call 23; rw [← HW1.out]; (with_reducible refine (frright_any s x _ C.out.tab).mono ?_); rintro r w2 ⟨rfl, hb2⟩; rw [HR.out])
    go_ret2
    refine ⟨none, 0, rfl, ?_⟩
    rw [E1.out]
    exact ⟨rfl, ⟨rfl, .inl ⟨rfl, rfl⟩⟩, Rd.nil, (C.out.step hb2).bel⟩
  · obtain ⟨h0, h1⟩ := frright_iff.1 hr
    obtain ⟨v, rfl⟩ := Int.eq_ofNat_of_zero_le h0
    have E1 := Lib.hid (show frputA s ⟨b, e, v, l⟩ = frhead s b e v ++ l by unfold frputA; rw [hr]; rfl)
    have E2 : q = 0 := by rw [← hq]; unfold frputE; rw [hr]; rfl
    subst E2
    have hv : v < frmod s := by omega
    have HZ := Lib.hid (show z = [frhead s b e v, l].flatten.length by rw [← hz, E1.out]; simp)
    have HF := Lib.hid (show [frhead s b e v, l].flatten = frputA s ⟨b, e, v, l⟩ by rw [E1.out]; simp)
    have HS := Lib.hid (show [frhead s b e v, l].flatten.length ≤ 1099511627776 by have h1 := frhead_len s b e v; have h2 := HL.out; have h3 : frsz s ≤ 4 := (by cases s <;> simp [frsz]); simp; omega)
    have HR := Lib.hid hr
    have HHL := Lib.hid (frhead_len s b e v)
    clear hr hq hz h0 h1
    go_enter Tryd.func9, Tryd.ntmps9
    go_wp2_with (go_at_call 23; rw [← HW1.out]; (with_reducible refine (frright_any s v _ C.out.tab).mono ?_); rintro r w2 ⟨rfl, hb2⟩; rw [HR.out]; replace C := Lib.hid (C.out.step hb2); clear hb2)
    replace C := Lib.hid (C.out.step ((Below.refl _ _).drew))
    have q0 := C.out.box.c0
    have q1 := C.out.box.c1
    replace q2 := C.out.box.c2
    have q3 := C.out.box.c3
    go_region_held3 (fun W => W.cell? ⟨w.heap.size, 0, none⟩ = some (.bool b) ∧ W.cell? ⟨w.heap.size, 1, none⟩ = some (.bool e) ∧ W.cell? ⟨w.heap.size, 2, none⟩ = some (.int .i64 (v : Int)) ∧ W.cell? ⟨w.heap.size, 3, none⟩ = some (.slice A n c)) (first | with_reducible exact C.out.cells | with_reducible exact (C.out.al _).cells) (first
      | (go_at_call 25; (with_reducible refine (frhdr_any s b e v hv A n c _ C.out.tab).mono ?_); rintro r w3 ⟨A3, c3, rfl, HN3⟩; replace C := Lib.hid (C.out.step HN3.2.2.2); have R3 := Lib.hid HN3.2.2.1; clear HN3; dsimp only)
      | (go_at_call 24; (with_reducible refine (concat_any [frhead s b e v, l] 2 _ _ _ (rr_duo _ A3 A _ _ _ _ c3 c _ R3.out C.out.rd HHL.out HL.out) rfl (by omega) HS.out).mono ?_); rintro r w4 ⟨A4, c4, k4, rfl, HK4, HN4⟩; replace HK4 := Lib.hid HK4; have R4 := own_lo HN4.2.1 (C.out.al _).bel.size; replace C := Lib.hid ((C.out.al _).step HN4.2.2.2); clear HN4 R3; dsimp only))
    have E := HF.out
    rw [E] at R4
    clear E
    go_wp2_with fail
    go_ret2
    have HK5 := HK4.out
    rw [← HZ.out] at HK5
    subst HK5
    obtain ⟨A', c', e', hN⟩ := New.mk R4 C.out.bel
    injection e' with e1 e2 e3
    subst e1; subst e3
    exact ⟨_, _, rfl, hN⟩
end Go.Proofs.YtdeabomcmbgepaaDoor
