
/-
  The walk of the statement FragThere: it answers true for every first, most and all octets. Condition: the shapes stand as the start-up lays them ('TabF').
-/
import Derived.Test.YtdeabomcmbgepaaDoorFrgY
import Derived.Test.YtdeabomcmbgepaaDoorFrgU
import Derived.Test.YtdeabomcmbgepaaDoorFrgTW
namespace Go.Proofs.YtdeabomcmbgepaaDoor
set_option maxRecDepth 4000
open Go.RowKit

theorem frcnt_max (m n : Nat) (hm : 0 < m) : frcnt m n = max 1 ((n + m - 1) / m) := by
  unfold frcnt
  by_cases h0 : n = 0
  · subst h0
    rw [Nat.div_eq_of_lt (show 0 + m - 1 < m by omega)]
    simp
  · have e : n + m - 1 = (n - 1) + m := by omega
    rw [e, Nat.add_div_right _ hm, show max n 1 - 1 = n - 1 by omega]
    generalize (n - 1) / m = q
    omega
theorem frw_64 (k : Nat) (h : k < 4294967296) : wrap64 (k : Int) = (k : Int) := IntWalk.wrap64_in _ (by omega)
theorem frw_mod (s : Bool) : ∃ y, frmod s = y ∧ 0 < y ∧ y ≤ 16777216 := ⟨_, rfl, frmod_pos s, by cases s <;> simp [frmod]⟩
theorem frw_size (m0 : Nat) (h : m0 < 256) : ∃ m, m0 + 1 = m ∧ 0 < m ∧ m ≤ 256 ∧ (m0 : Int) + 1 = (m : Int) := ⟨m0 + 1, rfl, by omega, by omega, by omega⟩
theorem frw_cnt (m n : Nat) (hn : n ≤ 1000) : ∃ k, frcnt m n = k ∧ 0 < k ∧ k ≤ 1000 := ⟨frcnt m n, rfl, Nat.succ_pos _, by
  by_cases hz : n = 0
  · subst hz; simp [frcnt]
  · exact Nat.le_trans (frcnt_le m n (by omega)) hn⟩
theorem frw_add (a b k z : Nat) (h : a + b - 1 = k) (hb : 0 < b) (hz : k + 1 = z) : (a : Int) + (b : Int) = (z : Int) ∧ (z : Int) - 1 = (k : Int) := by omega
theorem frw_all (n m : Nat) (hn : n ≤ 1000) (hm : 0 < m) (hm2 : m ≤ 256) : ∃ z1 q1 g1 : Nat, (n : Int) + (m : Int) = (z1 : Int) ∧ wrap64 (z1 : Int) = (z1 : Int) ∧ (z1 : Int) - 1 = (q1 : Int) ∧ wrap64 (q1 : Int) = (q1 : Int) ∧ (q1 : Int).tdiv (m : Int) = (g1 : Int) ∧ wrap64 (g1 : Int) = (g1 : Int) ∧ frcnt m n = max 1 g1 := by
  have hg : (n + m - 1) / m ≤ n + m - 1 := Nat.div_le_self _ _
  have e := frcnt_max m n hm
  refine ⟨n + m, n + m - 1, (n + m - 1) / m, by omega, frw_64 _ (by omega), by omega, frw_64 _ (by omega), (Int.ofNat_tdiv _ _).symm, frw_64 _ ?_, e⟩
  generalize (n + m - 1) / m = q at hg
  omega
theorem frw_two (k g1 : Nat) (h : k = max 1 g1) : (((1 : Int) < (g1 : Int)) ∧ ((k : Int) != (g1 : Int)) = false) ∨ ((¬ (1 : Int) < (g1 : Int)) ∧ ((k : Int) != 1) = false) := by
  by_cases hg : 1 < g1
  · exact .inl ⟨by omega, by rw [bne_eq_false_iff_eq]; omega⟩
  · exact .inr ⟨by omega, by rw [bne_eq_false_iff_eq]; omega⟩
theorem frw_three (k g1 : Nat) (h : k = max 1 g1) : (((1 : Int) < (g1 : Int)) ∧ ((k : Int) != (g1 : Int)) = false) ∨ ((k : Int) = 1 ∧ (g1 : Int) = 0) ∨ ((k : Int) = 1 ∧ (g1 : Int) = 1) := by
  by_cases hg : 1 < g1
  · exact .inl ⟨by omega, by rw [bne_eq_false_iff_eq]; omega⟩
  · omega
theorem frw_next (f k y N : Nat) (hf : f < y) (hy : y ≤ 16777216) (hk : k ≤ 1000) (h : (f + k) % y = N) : ∃ fk : Nat, (f : Int) + (k : Int) = (fk : Int) ∧ wrap64 (fk : Int) = (fk : Int) ∧ (fk : Int).tmod (y : Int) = (N : Int) :=
  ⟨f + k, by omega, frw_64 _ (by omega), by rw [← h, Int.ofNat_tmod]⟩
theorem frchk_len {m : Nat} {l : List Nat} {k : Nat} (hk : k < frcnt m l.length) (hm : 0 < m) : (frchk m l k).length ≤ m ∧ (0 < l.length → 0 < (frchk m l k).length) := by
  have h1 := frcnt_lo hk
  unfold frchk
  rw [List.length_take, List.length_drop]
  omega
theorem frpcs_right (s : Bool) (f m : Nat) (l : List Nat) (k : Nat) : frright s (frpc s f m l k).n = true := frright_iff.2 ⟨by show (0 : Int) ≤ ((frnum s f k : Nat) : Int); omega, by
  have h : frnum s f k < frmod s := Nat.mod_lt _ (frmod_pos s)
  show ((frnum s f k : Nat) : Int) < _
  omega⟩
theorem frpcs_d (s : Bool) (f m : Nat) (l : List Nat) (k : Nat) : (frpc s f m l k).d = frchk m l k := rfl

theorem frw_step {s : Bool} {f m : Nat} {l : List Nat} {kk : Nat} {x : Pc} (hx : (frpcs s f m l)[kk]? = some x) (hm : 0 < m) (hb : By l) : frright s x.n = true ∧ x.d.length ≤ m ∧ (0 < l.length → 0 < x.d.length) ∧ By x.d ∧ x.d.length ≤ l.length := by
  obtain ⟨h1, rfl⟩ := frpcs_get hx
  have h2 := frchk_len h1 hm
  refine ⟨frpcs_right s f m l kk, h2.1, h2.2, (hb.drop _).take _, ?_⟩
  show (frchk m l kk).length ≤ _
  unfold frchk
  rw [List.length_take, List.length_drop]
  omega
theorem frw_put {s : Bool} {x : Pc} (h : frright s x.n = true) (hb : By x.d) : frputE s x = 0 ∧ frget s (frputA s x) = (x, 0) ∧ By (frputA s x) := by
  have e : frputA s x = frhead s x.b x.e x.n.toNat ++ x.d := by unfold frputA; rw [if_pos h]
  refine ⟨by unfold frputE; rw [if_pos h], by rw [e]; exact frput_get s x h, ?_⟩
  rw [e]
  obtain ⟨h0, h1⟩ := frright_iff.1 h
  exact By.app (frhead_by s x.b x.e _ (by omega)) hb

/-- What a round knows: the own row, the piece's own block, its data; the row's block is older than the piece's. -/
structure FrT (w W : World) (v : Value) (xs : List Pc) (g : Nat) (x : Pc) (A : Option Addr) (n c : Nat) : Prop where
  ow : Orw shF 29 (fun b => w.heap.size ≤ b) w.heap.size W v xs
  bel : Below w.heap.size w W
  box : FrX W g 29 x.b x.e x.n A n c
  rd : Rd W W.heap.size A x.d
  low : w.heap.size ≤ g
  own : ∀ b, v.ownBlock = some b → b < g
section
variable {w W W' : World} {v : Value} {xs : List Pc} {g : Nat} {x : Pc} {A : Option Addr} {n c : Nat}
theorem FrT.step (h : FrT w W v xs g x A n c) (hb : Below W.heap.size W W') : FrT w W' v xs g x A n c :=
  ⟨h.ow.below hb, h.bel.trans (hb.mono h.bel.size), h.box.on hb, h.rd.on hb, h.low, h.own⟩
theorem FrT.al (h : FrT w W v xs g x A n c) (o : Obj) : FrT w (W.alloc o) v xs g x A n c := h.step ((Below.refl _ _).alloc (Nat.le_refl _) o)
theorem FrT.start {F : Nat → Prop} (ho : Orw shF 29 (fun b => w.heap.size ≤ b) w.heap.size W v xs) (hb : Below w.heap.size w W) (h : RdF F W A x.d) (n c : Nat) : FrT w (W.alloc (.cells #[.bool x.b, .bool x.e, .int .i64 x.n, .slice A n c] 29)) v xs W.heap.size x A n c :=
  have h1 := (Below.refl W.heap.size W).alloc (Nat.le_refl _) (.cells #[.bool x.b, .bool x.e, .int .i64 x.n, .slice A n c] 29)
  ⟨ho.below h1, hb.trans (h1.mono hb.size), FrX.new _ _ _ _ _ _ _ _, h.rd.on h1, hb.size, fun _ e => (ho.lt e).2⟩
theorem FrT.mine (h : FrT w W v xs g x A n c) (b : Nat) (hb : g ≤ b ∨ W.heap.size ≤ b) : w.heap.size ≤ b ∧ v.ownBlock ≠ some b := by
  have h1 := h.low
  have h2 := h.box.lt
  refine ⟨by omega, fun e => ?_⟩
  have := h.own b e
  omega
end

set_option maxHeartbeats 2000000 in
theorem frthere_long (s : Bool) (f0 m0 : Int) (n c : Nat) (A : Option Addr) (w : World) (h : 1000 < n) (hT : TabF w) :
    Calls Tryd.prog 6 #[.bool s, .int .u32 f0, .int .u8 m0, .slice A n c] w fun r w' => r = .returned (.bool true) ∧ Below w.heap.size w w' := by
  have j1 : (1000 : Int) < n := by omega
  have C := Lib.hid (And.intro (Below.refl w.heap.size w) hT)
  clear h hT
  go_enter Tryd.func6, Tryd.ntmps6
  go_wp2_with (go_at_call 8; (with_reducible refine (frspeaks _ C.out.2).mono ?_); rintro r w2 ⟨rfl, hb⟩; replace C := Lib.hid (And.intro (C.out.1.trans (hb.mono C.out.1.size)) (C.out.2.below hb)); clear hb)
  go_ret
  exact ⟨rfl, C.out.1⟩

set_option maxHeartbeats 4000000 in
theorem frthere_walk (s : Bool) (f0 m0 : Nat) (hf0 : f0 < 4294967296) (hm0 : m0 < 256) (l : List Nat) (n c : Nat) (A : Option Addr) (w : World) (h : Rd w w.heap.size A l) (hb : By l) (hl : l.length = n) (hc : n ≤ c) (hT : TabF w) :
    Calls Tryd.prog 6 #[.bool s, .int .u32 (f0 : Int), .int .u8 (m0 : Int), .slice A n c] w fun r w' => r = .returned (.bool true) ∧ Below w.heap.size w w' := by
  by_cases hlong : 1000 < n
  · exact frthere_long s f0 m0 n c A w hlong hT
  have j1 : ¬ (1000 : Int) < n := by omega
  obtain ⟨i0, hi, hz0, hz1, hz2⟩ := info_parts fr_info
  obtain ⟨y, hy0, hyp, hyl⟩ := frw_mod s
  have hy := Lib.hid hy0
  have hmod := fun W hW => frmod_any s W hW
  rw [hy0] at hmod
  obtain ⟨f, hf⟩ : ∃ f, Hid (f0 % y = f ∧ f < frmod s) := ⟨_, Lib.hid ⟨rfl, by rw [hy0]; exact Nat.mod_lt _ hyp⟩⟩
  obtain ⟨m, hm0', hm1, hm2, t3⟩ := frw_size m0 hm0
  obtain ⟨k, hk0', hk0, hk2⟩ := frw_cnt m n (Nat.le_of_not_lt hlong)
  have hk := Lib.hid hk0'
  obtain ⟨N, hN⟩ : ∃ N, Hid (frnum s f k = N ∧ N < 16777216) := ⟨_, Lib.hid ⟨rfl, by unfold frnum; rw [hy0]; exact Nat.lt_of_lt_of_le (Nat.mod_lt _ hyp) hyl⟩⟩
  have hn1 : n ≤ 1000 := Nat.le_of_not_lt hlong
  obtain ⟨z1, q1, g1, a1', a2', a3', a4', a5', a6', a7⟩ := frw_all n m hn1 hm1 hm2
  have AA := Lib.hid (And.intro a1' (And.intro a2' (And.intro a3' (And.intro a4' (And.intro a5' a6')))))
  clear a1' a2' a3' a4' a5' a6'
  have HKK := Lib.hid (frw_three k g1 (by rw [← hk0', a7]))
  obtain ⟨fk, b1', b2', b3'⟩ := frw_next f k y N (by rw [← hy0]; exact hf.out.2) hyl hk2 (by rw [← hy0]; exact hN.out.1)
  have BBB := Lib.hid (And.intro b1' (And.intro b2' b3'))
  clear b1' b2' b3'
  have y0 : ¬ y = 0 := Nat.pos_iff_ne_zero.1 hyp
  have m9 : ¬ m = 0 := Nat.pos_iff_ne_zero.1 hm1
  have t1 := frw_64 f0 hf0
  have t2 : (f0 : Int).tmod (y : Int) = (f : Int) := frd_rem f0 y f hf.out.1
  have t4 := frw_64 m (Nat.lt_of_le_of_lt hm2 (by decide))
  have t5 := frw_64 m0 (Nat.lt_trans hm0 (by decide))
  have HL := Lib.hid hl
  have HB := Lib.hid hb
  have HC := Lib.hid hc
  have HN := Lib.hid (Nat.le_of_not_lt hlong)
  have HM0 := Lib.hid hm0'
  have HM2 := Lib.hid hm2
  have HM1 := Lib.hid hm1
  have C := Lib.hid (And.intro (Below.refl w.heap.size w) (And.intro hT h))
  clear hlong hf0 hm0 hb hl hc hT h hy0 hyp hyl hm0' hm2 hm1 hk0' a7 hn1
  go_enter Tryd.func6, Tryd.ntmps6
  go_upto_region 4 with (first
    | (go_at_call 8; (with_reducible refine (frspeaks _ C.out.2.1).mono ?_); rintro r w2 ⟨rfl, hb⟩; replace C := Lib.hid (And.intro (C.out.1.trans (hb.mono C.out.1.size)) (And.intro (C.out.2.1.below hb) (C.out.2.2.on hb))); clear hb)
    | (go_at_call 22; (with_reducible refine (hmod _ C.out.2.1).mono ?_); rintro r w3 ⟨rfl, hb⟩; replace C := Lib.hid (And.intro (C.out.1.trans (hb.mono C.out.1.size)) (And.intro (C.out.2.1.below hb) (C.out.2.2.on hb))); clear hb))
  have HFR := Lib.hid (show f < frmod s from hf.out.2)
  obtain ⟨a1, a2, a3, a4, a5, a6⟩ := AA.out
  clear AA
  go_upto_region 5 with (go_at_call 16; (with_reducible refine (frsplit_ok s f m HFR.out HM1.out (Nat.le_trans HM2.out (by decide)) l n c A _ C.out.2.2 HB.out HL.out (Nat.le_trans HN.out (by decide)) HC.out C.out.2.1 k hk.out).mono ?_); rintro r w5 ⟨A5, c5, rfl, ho5, hb⟩; rw [hN.out.1]; replace C := Lib.hid (And.intro (C.out.1.trans (hb.mono C.out.1.size)) (And.intro (C.out.2.1.below hb) (C.out.2.2.on hb))); have R5 := Lib.hid ho5.read; clear hb ho5)
  obtain ⟨b1, b2, b3⟩ := BBB.out
  clear BBB
  rcases HKK.out with ⟨i1, i2⟩ | ⟨kk, i1⟩ | ⟨kk, i1⟩
  · clear HKK
    go_upto_region 7 with (go_at_call 22; (with_reducible refine (hmod _ C.out.2.1).mono ?_); rintro r w6 ⟨rfl, hb⟩; replace C := Lib.hid (And.intro (C.out.1.trans (hb.mono C.out.1.size)) (And.intro (C.out.2.1.below hb) (C.out.2.2.on hb))); replace R5 := Lib.hid (R5.out.below hb); clear hb)
    clear i1 i2 a5 a6
    clear a1 a2 a3 a4 t1 t2 t3 t4 t5 b1 b2 b3 y0 m9 hmod hz0 hz1 hz2 hi
    obtain ⟨i0, hi, hz0, hz1, hz2⟩ := info_parts fr_info
    have PL := Lib.hid (show (frpcs s f m l).length = k by rw [frpcs_len, HL.out]; exact hk.out)
    have NN := Lib.hid hk2
    clear hk2 hk0
    go_wp2_with fail
    go_loopw [14, 76] (fun v i wr => ∃ kk : Nat, kk ≤ k ∧ i = .int .i64 kk ∧ Orw shF 29 (fun b => w6.heap.size ≤ b) w6.heap.size wr v ((frpcs s f m l).take kk) ∧ Below w6.heap.size w6 wr) (fun _ i _ => k - (intOf i).toNat)
    case atStart => exact ⟨0, Nat.zero_le _, rfl, Orw.nil _ _ _ _ _, Below.refl _ _⟩
    case round =>
      obtain ⟨kk, hkk, rfl, hown, hbel⟩ := hrel
      by_cases hlt : kk < k
      · obtain ⟨b, o, x, A3, c3, hA5, hb3, hx, h1, h2, h3, h4, h5, h6⟩ := (R5.out.below hbel).pc (k := kk) (by rw [PL.out]; exact hlt)
        subst hA5
        obtain ⟨u, hu⟩ : ∃ u, x.d.length = u := ⟨_, rfl⟩
        obtain ⟨st1, st2, st3, st4, st5⟩ := frw_step hx HM1.out HB.out
        rw [hu] at h4 h5 st2 st3 st5
        rw [HL.out] at st3 st5
        obtain ⟨p1, p2, p3⟩ := frw_put st1 st4
        obtain ⟨z, hz⟩ : ∃ z, Hid ((frputA s x).length = z) := ⟨_, Lib.hid rfl⟩
        have P1 := Lib.hid p1
        have P2 := Lib.hid p2
        have P3 := Lib.hid p3
        have HU := Lib.hid hu
        have HN9 := Lib.hid (show u ≤ 1000 from Nat.le_trans st5 HN.out)
        have HZ9 := Lib.hid (show z ≤ 274877906944 by have := frputA_le s x; rw [hz.out, hu] at this; have := HN9.out; omega)
        have HT := Lib.hid (show (frpcs s f m l).take (kk + 1) = (frpcs s f m l).take kk ++ [x] by rw [List.take_add_one, hx]; rfl)
        have HK := Lib.hid (show ((frpcs s f m l).take kk).length = kk by rw [List.length_take, PL.out]; omega)
        have j5 : ¬ (m : Int) < (u : Int) := by omega
        have J6 := Lib.hid (show (((u : Int) == 0) = true ∧ ¬ (0 : Int) < (n : Int)) ∨ ((u : Int) == 0) = false by
          by_cases hu0 : u = 0
          · exact .inl ⟨by rw [hu0]; rfl, by omega⟩
          · exact .inr (by rw [beq_eq_false_iff_ne]; omega))
        have i1 : (0 : Int) ≤ kk := by omega
        have i2 : (kk : Int) < k := by omega
        have D0 := Lib.hid (FrT.start (x := x) hown hbel h6 u c3)
        clear hx hu st1 st2 st3 st4 st5 p1 p2 p3 hown hbel h6 h5
        go_upto_region 11 with fail
        with_reducible refine at_worldF (fun W => Hid (FrT w6 W u14 ((frpcs s f m l).take kk) wr.heap.size x A3 u c3)) D0 ?_
        clear D0 h1 h2 h3 h4
        generalize wr.heap.size = g
        rintro w7 D
        have y0 := D.out.box.c0
        have y1 := D.out.box.c1
        have y2 := D.out.box.c2
        have y3 := D.out.box.c3
        go_upto_region 13 with (first
          | (go_at_call 9; (with_reducible refine (frput_any s x.b x.e x.n A3 x.d u c3 _ D.out.rd HU.out (Nat.le_trans HN9.out (by decide)) (C.out.2.1.below D.out.bel) z 0 hz.out P1.out).mono ?_); rintro r w8 ⟨A8, c8, rfl, HN8⟩; replace D := Lib.hid (D.out.step HN8.2.2.2); have R8 := Lib.hid HN8.2.2.1; have K8 := Lib.hid (own_cap HN8.2.1); clear HN8 y0 y1 y2 y3)
          | (go_at_call 11; (with_reducible refine (frget_any s (frputA s x) x 0 P2.out u HU.out z c8 A8 _ R8.out P3.out hz.out HZ9.out K8.out (C.out.2.1.below D.out.bel)).mono ?_); rintro r w9 ⟨A9, c9, rfl, HN9'⟩; have R9 := Lib.hid ((RdF.own HN9'.2.1).mono (G := fun b => g ≤ b) fun b _ hb => Nat.le_trans (Nat.le_of_lt D.out.box.lt) hb); replace D := Lib.hid (D.out.step HN9'.2.2.2); have K9 := Lib.hid (own_cap HN9'.2.1); clear HN9'))
        with_reducible refine at_worldF (fun W => Hid (FrT w6 W u14 ((frpcs s f m l).take kk) g x A3 u c3) ∧ Hid (RdF (fun b => g ≤ b) W A9 x.d) ∧ Hid (FrX W w9.heap.size 29 x.b x.e x.n A9 u c9)) ⟨Lib.hid (D.out.al _), Lib.hid (R9.out.keep (.of_below ((Below.refl _ _).alloc (Nat.le_refl _) _))), Lib.hid (FrX.new _ _ _ _ _ _ _ _)⟩ ?_
        clear D R9 R8
        generalize w9.heap.size = g9
        rintro w10 ⟨D, R9, X9⟩
        have y3 := D.out.box.c3
        have x0 := X9.out.c0
        have x1 := X9.out.c1
        have x2 := X9.out.c2
        have x3 := X9.out.c3
        have l1 := D.out.box.lt
        have l3 := X9.out.lt
        rcases J6.out with ⟨i6, i7⟩ | i6
        all_goals
          clear J6
          have hk9 : k ≤ 1000 := NN.out
          go_wp2_with (at_builtin; refine list_rows shF rfl _ _ _ rfl 29 i0 (.agg #[.bool false, .bool false, .int .i64 0, .slice none 0 0]) 40 Tryd.underlying41 hi hz0 hz1 hz2 rfl (by decide) (fun b => w6.heap.size ≤ b) _ w6.heap.size _ kk ((frpcs s f m l).take kk) rfl (D.out.al _).ow HK.out _ 1 1 _ rfl (litf _ HU.out K9.out R9.out).read rfl (fun b _ hb => D.out.mine b hb) (by have := NN.out; unfold maxLen; omega) (by have := NN.out; omega) (D.out.al _).bel.size ?_; intro v11 w11 ho11 hg11 hm11; have R2 := Lib.hid ((D.out.al _).bel.grown hg11 (D.out.al _).bel.size (fun g hg => (D.out.ow.lt hg).1)); clear hg11 hm11)
          have R1 := Lib.hid (show Orw shF 29 (fun b => w6.heap.size ≤ b) w6.heap.size w11 v11 ((frpcs s f m l).take (kk + 1)) by rw [HT.out]; exact ho11)
          clear ho11
          go_roundw
          case rel => exact ⟨kk + 1, by omega, by go_num, R1.out, R2.out⟩
          case measure => simp [intOf]; omega
      · have he : kk = k := by omega
        subst he
        rw [List.take_of_length_le (by rw [PL.out]; exact Nat.le_refl _)] at hown
        obtain ⟨A6, c6, rfl, hc6, hm6, hr6⟩ := hown.slice
        rw [PL.out]
        have R6 := Lib.hid hr6
        have G6 := Lib.hid (frpcs_glue s f m l HFR.out)
        have J6 := Lib.hid (frglueA_pcs s f m l HFR.out HM1.out)
        have Z6 := Lib.hid (show (frglueA s (frpcs s f m l)).length = n by rw [J6.out]; exact HL.out)
        have D6 := Lib.hid (show frdat (frpcs s f m l) ≤ 274877906944 by rw [← frjoin_len, frpcs_join s f m l HM1.out, HL.out]; exact Nat.le_trans HN.out (by decide))
        replace C := Lib.hid (And.intro (C.out.1.trans (hbel.mono C.out.1.size)) (And.intro (C.out.2.1.below hbel) (C.out.2.2.on hbel)))
        clear hown hr6 hbel hm6 hc6
        go_wp2_with (first
          | (go_at_call 18; (with_reducible refine (frglue_any s (frpcs s f m l) kk c6 A6 _ _ R6.out PL.out (Nat.le_trans NN.out (by decide)) D6.out 0 n G6.out Z6.out C.out.2.1).mono ?_); rintro r w12 ⟨A12, c12, rfl, HN12⟩; have R12 := Lib.hid HN12.2.2.1; replace C := Lib.hid (And.intro (C.out.1.trans (HN12.2.2.2.mono C.out.1.size)) (And.intro (C.out.2.1.below HN12.2.2.2) (C.out.2.2.on HN12.2.2.2))); clear HN12)
          | (go_at_call 13; (with_reducible refine (equal_yes (frglueA s (frpcs s f m l)) l n n _ _ _ _ _ R12.out C.out.2.2 Z6.out HL.out (Nat.le_trans HN.out (by decide)) J6.out).mono ?_); rintro r w13 ⟨rfl, hb13⟩))
        go_ret
        exact ⟨rfl, C.out.1.trans (hb13.mono C.out.1.size)⟩
  · clear HKK
    rw [kk] at b1
    rw [i1] at a5 a6
    clear a6 i1
    go_upto_region 7 with (go_at_call 22; (with_reducible refine (hmod _ C.out.2.1).mono ?_); rintro r w6 ⟨rfl, hb⟩; replace C := Lib.hid (And.intro (C.out.1.trans (hb.mono C.out.1.size)) (And.intro (C.out.2.1.below hb) (C.out.2.2.on hb))); replace R5 := Lib.hid (R5.out.below hb); clear hb)
    clear kk a5
    clear a1 a2 a3 a4 t1 t2 t3 t4 t5 b1 b2 b3 y0 m9 hmod hz0 hz1 hz2 hi
    obtain ⟨i0, hi, hz0, hz1, hz2⟩ := info_parts fr_info
    have PL := Lib.hid (show (frpcs s f m l).length = k by rw [frpcs_len, HL.out]; exact hk.out)
    have NN := Lib.hid hk2
    clear hk2 hk0
    go_wp2_with fail
    go_loopw [14, 76] (fun v i wr => ∃ kk : Nat, kk ≤ k ∧ i = .int .i64 kk ∧ Orw shF 29 (fun b => w6.heap.size ≤ b) w6.heap.size wr v ((frpcs s f m l).take kk) ∧ Below w6.heap.size w6 wr) (fun _ i _ => k - (intOf i).toNat)
    case atStart => exact ⟨0, Nat.zero_le _, rfl, Orw.nil _ _ _ _ _, Below.refl _ _⟩
    case round =>
      obtain ⟨kk, hkk, rfl, hown, hbel⟩ := hrel
      by_cases hlt : kk < k
      · obtain ⟨b, o, x, A3, c3, hA5, hb3, hx, h1, h2, h3, h4, h5, h6⟩ := (R5.out.below hbel).pc (k := kk) (by rw [PL.out]; exact hlt)
        subst hA5
        obtain ⟨u, hu⟩ : ∃ u, x.d.length = u := ⟨_, rfl⟩
        obtain ⟨st1, st2, st3, st4, st5⟩ := frw_step hx HM1.out HB.out
        rw [hu] at h4 h5 st2 st3 st5
        rw [HL.out] at st3 st5
        obtain ⟨p1, p2, p3⟩ := frw_put st1 st4
        obtain ⟨z, hz⟩ : ∃ z, Hid ((frputA s x).length = z) := ⟨_, Lib.hid rfl⟩
        have P1 := Lib.hid p1
        have P2 := Lib.hid p2
        have P3 := Lib.hid p3
        have HU := Lib.hid hu
        have HN9 := Lib.hid (show u ≤ 1000 from Nat.le_trans st5 HN.out)
        have HZ9 := Lib.hid (show z ≤ 274877906944 by have := frputA_le s x; rw [hz.out, hu] at this; have := HN9.out; omega)
        have HT := Lib.hid (show (frpcs s f m l).take (kk + 1) = (frpcs s f m l).take kk ++ [x] by rw [List.take_add_one, hx]; rfl)
        have HK := Lib.hid (show ((frpcs s f m l).take kk).length = kk by rw [List.length_take, PL.out]; omega)
        have j5 : ¬ (m : Int) < (u : Int) := by omega
        have J6 := Lib.hid (show (((u : Int) == 0) = true ∧ ¬ (0 : Int) < (n : Int)) ∨ ((u : Int) == 0) = false by
          by_cases hu0 : u = 0
          · exact .inl ⟨by rw [hu0]; rfl, by omega⟩
          · exact .inr (by rw [beq_eq_false_iff_ne]; omega))
        have i1 : (0 : Int) ≤ kk := by omega
        have i2 : (kk : Int) < k := by omega
        have D0 := Lib.hid (FrT.start (x := x) hown hbel h6 u c3)
        clear hx hu st1 st2 st3 st4 st5 p1 p2 p3 hown hbel h6 h5
        go_upto_region 11 with fail
        with_reducible refine at_worldF (fun W => Hid (FrT w6 W u14 ((frpcs s f m l).take kk) wr.heap.size x A3 u c3)) D0 ?_
        clear D0 h1 h2 h3 h4
        generalize wr.heap.size = g
        rintro w7 D
        have y0 := D.out.box.c0
        have y1 := D.out.box.c1
        have y2 := D.out.box.c2
        have y3 := D.out.box.c3
        go_upto_region 13 with (first
          | (go_at_call 9; (with_reducible refine (frput_any s x.b x.e x.n A3 x.d u c3 _ D.out.rd HU.out (Nat.le_trans HN9.out (by decide)) (C.out.2.1.below D.out.bel) z 0 hz.out P1.out).mono ?_); rintro r w8 ⟨A8, c8, rfl, HN8⟩; replace D := Lib.hid (D.out.step HN8.2.2.2); have R8 := Lib.hid HN8.2.2.1; have K8 := Lib.hid (own_cap HN8.2.1); clear HN8 y0 y1 y2 y3)
          | (go_at_call 11; (with_reducible refine (frget_any s (frputA s x) x 0 P2.out u HU.out z c8 A8 _ R8.out P3.out hz.out HZ9.out K8.out (C.out.2.1.below D.out.bel)).mono ?_); rintro r w9 ⟨A9, c9, rfl, HN9'⟩; have R9 := Lib.hid ((RdF.own HN9'.2.1).mono (G := fun b => g ≤ b) fun b _ hb => Nat.le_trans (Nat.le_of_lt D.out.box.lt) hb); replace D := Lib.hid (D.out.step HN9'.2.2.2); have K9 := Lib.hid (own_cap HN9'.2.1); clear HN9'))
        with_reducible refine at_worldF (fun W => Hid (FrT w6 W u14 ((frpcs s f m l).take kk) g x A3 u c3) ∧ Hid (RdF (fun b => g ≤ b) W A9 x.d) ∧ Hid (FrX W w9.heap.size 29 x.b x.e x.n A9 u c9)) ⟨Lib.hid (D.out.al _), Lib.hid (R9.out.keep (.of_below ((Below.refl _ _).alloc (Nat.le_refl _) _))), Lib.hid (FrX.new _ _ _ _ _ _ _ _)⟩ ?_
        clear D R9 R8
        generalize w9.heap.size = g9
        rintro w10 ⟨D, R9, X9⟩
        have y3 := D.out.box.c3
        have x0 := X9.out.c0
        have x1 := X9.out.c1
        have x2 := X9.out.c2
        have x3 := X9.out.c3
        have l1 := D.out.box.lt
        have l3 := X9.out.lt
        rcases J6.out with ⟨i6, i7⟩ | i6
        all_goals
          clear J6
          have hk9 : k ≤ 1000 := NN.out
          go_wp2_with (at_builtin; refine list_rows shF rfl _ _ _ rfl 29 i0 (.agg #[.bool false, .bool false, .int .i64 0, .slice none 0 0]) 40 Tryd.underlying41 hi hz0 hz1 hz2 rfl (by decide) (fun b => w6.heap.size ≤ b) _ w6.heap.size _ kk ((frpcs s f m l).take kk) rfl (D.out.al _).ow HK.out _ 1 1 _ rfl (litf _ HU.out K9.out R9.out).read rfl (fun b _ hb => D.out.mine b hb) (by have := NN.out; unfold maxLen; omega) (by have := NN.out; omega) (D.out.al _).bel.size ?_; intro v11 w11 ho11 hg11 hm11; have R2 := Lib.hid ((D.out.al _).bel.grown hg11 (D.out.al _).bel.size (fun g hg => (D.out.ow.lt hg).1)); clear hg11 hm11)
          have R1 := Lib.hid (show Orw shF 29 (fun b => w6.heap.size ≤ b) w6.heap.size w11 v11 ((frpcs s f m l).take (kk + 1)) by rw [HT.out]; exact ho11)
          clear ho11
          go_roundw
          case rel => exact ⟨kk + 1, by omega, by go_num, R1.out, R2.out⟩
          case measure => simp [intOf]; omega
      · have he : kk = k := by omega
        subst he
        rw [List.take_of_length_le (by rw [PL.out]; exact Nat.le_refl _)] at hown
        obtain ⟨A6, c6, rfl, hc6, hm6, hr6⟩ := hown.slice
        rw [PL.out]
        have R6 := Lib.hid hr6
        have G6 := Lib.hid (frpcs_glue s f m l HFR.out)
        have J6 := Lib.hid (frglueA_pcs s f m l HFR.out HM1.out)
        have Z6 := Lib.hid (show (frglueA s (frpcs s f m l)).length = n by rw [J6.out]; exact HL.out)
        have D6 := Lib.hid (show frdat (frpcs s f m l) ≤ 274877906944 by rw [← frjoin_len, frpcs_join s f m l HM1.out, HL.out]; exact Nat.le_trans HN.out (by decide))
        replace C := Lib.hid (And.intro (C.out.1.trans (hbel.mono C.out.1.size)) (And.intro (C.out.2.1.below hbel) (C.out.2.2.on hbel)))
        clear hown hr6 hbel hm6 hc6
        go_wp2_with (first
          | (go_at_call 18; (with_reducible refine (frglue_any s (frpcs s f m l) kk c6 A6 _ _ R6.out PL.out (Nat.le_trans NN.out (by decide)) D6.out 0 n G6.out Z6.out C.out.2.1).mono ?_); rintro r w12 ⟨A12, c12, rfl, HN12⟩; have R12 := Lib.hid HN12.2.2.1; replace C := Lib.hid (And.intro (C.out.1.trans (HN12.2.2.2.mono C.out.1.size)) (And.intro (C.out.2.1.below HN12.2.2.2) (C.out.2.2.on HN12.2.2.2))); clear HN12)
          | (go_at_call 13; (with_reducible refine (equal_yes (frglueA s (frpcs s f m l)) l n n _ _ _ _ _ R12.out C.out.2.2 Z6.out HL.out (Nat.le_trans HN.out (by decide)) J6.out).mono ?_); rintro r w13 ⟨rfl, hb13⟩))
        go_ret
        exact ⟨rfl, C.out.1.trans (hb13.mono C.out.1.size)⟩
  · clear HKK
    rw [kk] at b1
    rw [i1] at a5 a6
    clear a6 i1
    go_upto_region 7 with (go_at_call 22; (with_reducible refine (hmod _ C.out.2.1).mono ?_); rintro r w6 ⟨rfl, hb⟩; replace C := Lib.hid (And.intro (C.out.1.trans (hb.mono C.out.1.size)) (And.intro (C.out.2.1.below hb) (C.out.2.2.on hb))); replace R5 := Lib.hid (R5.out.below hb); clear hb)
    clear kk a5
    clear a1 a2 a3 a4 t1 t2 t3 t4 t5 b1 b2 b3 y0 m9 hmod hz0 hz1 hz2 hi
    obtain ⟨i0, hi, hz0, hz1, hz2⟩ := info_parts fr_info
    have PL := Lib.hid (show (frpcs s f m l).length = k by rw [frpcs_len, HL.out]; exact hk.out)
    have NN := Lib.hid hk2
    clear hk2 hk0
    go_wp2_with fail
    go_loopw [14, 76] (fun v i wr => ∃ kk : Nat, kk ≤ k ∧ i = .int .i64 kk ∧ Orw shF 29 (fun b => w6.heap.size ≤ b) w6.heap.size wr v ((frpcs s f m l).take kk) ∧ Below w6.heap.size w6 wr) (fun _ i _ => k - (intOf i).toNat)
    case atStart => exact ⟨0, Nat.zero_le _, rfl, Orw.nil _ _ _ _ _, Below.refl _ _⟩
    case round =>
      obtain ⟨kk, hkk, rfl, hown, hbel⟩ := hrel
      by_cases hlt : kk < k
      · obtain ⟨b, o, x, A3, c3, hA5, hb3, hx, h1, h2, h3, h4, h5, h6⟩ := (R5.out.below hbel).pc (k := kk) (by rw [PL.out]; exact hlt)
        subst hA5
        obtain ⟨u, hu⟩ : ∃ u, x.d.length = u := ⟨_, rfl⟩
        obtain ⟨st1, st2, st3, st4, st5⟩ := frw_step hx HM1.out HB.out
        rw [hu] at h4 h5 st2 st3 st5
        rw [HL.out] at st3 st5
        obtain ⟨p1, p2, p3⟩ := frw_put st1 st4
        obtain ⟨z, hz⟩ : ∃ z, Hid ((frputA s x).length = z) := ⟨_, Lib.hid rfl⟩
        have P1 := Lib.hid p1
        have P2 := Lib.hid p2
        have P3 := Lib.hid p3
        have HU := Lib.hid hu
        have HN9 := Lib.hid (show u ≤ 1000 from Nat.le_trans st5 HN.out)
        have HZ9 := Lib.hid (show z ≤ 274877906944 by have := frputA_le s x; rw [hz.out, hu] at this; have := HN9.out; omega)
        have HT := Lib.hid (show (frpcs s f m l).take (kk + 1) = (frpcs s f m l).take kk ++ [x] by rw [List.take_add_one, hx]; rfl)
        have HK := Lib.hid (show ((frpcs s f m l).take kk).length = kk by rw [List.length_take, PL.out]; omega)
        have j5 : ¬ (m : Int) < (u : Int) := by omega
        have J6 := Lib.hid (show (((u : Int) == 0) = true ∧ ¬ (0 : Int) < (n : Int)) ∨ ((u : Int) == 0) = false by
          by_cases hu0 : u = 0
          · exact .inl ⟨by rw [hu0]; rfl, by omega⟩
          · exact .inr (by rw [beq_eq_false_iff_ne]; omega))
        have i1 : (0 : Int) ≤ kk := by omega
        have i2 : (kk : Int) < k := by omega
        have D0 := Lib.hid (FrT.start (x := x) hown hbel h6 u c3)
        clear hx hu st1 st2 st3 st4 st5 p1 p2 p3 hown hbel h6 h5
        go_upto_region 11 with fail
        with_reducible refine at_worldF (fun W => Hid (FrT w6 W u14 ((frpcs s f m l).take kk) wr.heap.size x A3 u c3)) D0 ?_
        clear D0 h1 h2 h3 h4
        generalize wr.heap.size = g
        rintro w7 D
        have y0 := D.out.box.c0
        have y1 := D.out.box.c1
        have y2 := D.out.box.c2
        have y3 := D.out.box.c3
        go_upto_region 13 with (first
          | (go_at_call 9; (with_reducible refine (frput_any s x.b x.e x.n A3 x.d u c3 _ D.out.rd HU.out (Nat.le_trans HN9.out (by decide)) (C.out.2.1.below D.out.bel) z 0 hz.out P1.out).mono ?_); rintro r w8 ⟨A8, c8, rfl, HN8⟩; replace D := Lib.hid (D.out.step HN8.2.2.2); have R8 := Lib.hid HN8.2.2.1; have K8 := Lib.hid (own_cap HN8.2.1); clear HN8 y0 y1 y2 y3)
          | (go_at_call 11; (with_reducible refine (frget_any s (frputA s x) x 0 P2.out u HU.out z c8 A8 _ R8.out P3.out hz.out HZ9.out K8.out (C.out.2.1.below D.out.bel)).mono ?_); rintro r w9 ⟨A9, c9, rfl, HN9'⟩; have R9 := Lib.hid ((RdF.own HN9'.2.1).mono (G := fun b => g ≤ b) fun b _ hb => Nat.le_trans (Nat.le_of_lt D.out.box.lt) hb); replace D := Lib.hid (D.out.step HN9'.2.2.2); have K9 := Lib.hid (own_cap HN9'.2.1); clear HN9'))
        with_reducible refine at_worldF (fun W => Hid (FrT w6 W u14 ((frpcs s f m l).take kk) g x A3 u c3) ∧ Hid (RdF (fun b => g ≤ b) W A9 x.d) ∧ Hid (FrX W w9.heap.size 29 x.b x.e x.n A9 u c9)) ⟨Lib.hid (D.out.al _), Lib.hid (R9.out.keep (.of_below ((Below.refl _ _).alloc (Nat.le_refl _) _))), Lib.hid (FrX.new _ _ _ _ _ _ _ _)⟩ ?_
        clear D R9 R8
        generalize w9.heap.size = g9
        rintro w10 ⟨D, R9, X9⟩
        have y3 := D.out.box.c3
        have x0 := X9.out.c0
        have x1 := X9.out.c1
        have x2 := X9.out.c2
        have x3 := X9.out.c3
        have l1 := D.out.box.lt
        have l3 := X9.out.lt
        rcases J6.out with ⟨i6, i7⟩ | i6
        all_goals
          clear J6
          have hk9 : k ≤ 1000 := NN.out
          go_wp2_with (at_builtin; refine list_rows shF rfl _ _ _ rfl 29 i0 (.agg #[.bool false, .bool false, .int .i64 0, .slice none 0 0]) 40 Tryd.underlying41 hi hz0 hz1 hz2 rfl (by decide) (fun b => w6.heap.size ≤ b) _ w6.heap.size _ kk ((frpcs s f m l).take kk) rfl (D.out.al _).ow HK.out _ 1 1 _ rfl (litf _ HU.out K9.out R9.out).read rfl (fun b _ hb => D.out.mine b hb) (by have := NN.out; unfold maxLen; omega) (by have := NN.out; omega) (D.out.al _).bel.size ?_; intro v11 w11 ho11 hg11 hm11; have R2 := Lib.hid ((D.out.al _).bel.grown hg11 (D.out.al _).bel.size (fun g hg => (D.out.ow.lt hg).1)); clear hg11 hm11)
          have R1 := Lib.hid (show Orw shF 29 (fun b => w6.heap.size ≤ b) w6.heap.size w11 v11 ((frpcs s f m l).take (kk + 1)) by rw [HT.out]; exact ho11)
          clear ho11
          go_roundw
          case rel => exact ⟨kk + 1, by omega, by go_num, R1.out, R2.out⟩
          case measure => simp [intOf]; omega
      · have he : kk = k := by omega
        subst he
        rw [List.take_of_length_le (by rw [PL.out]; exact Nat.le_refl _)] at hown
        obtain ⟨A6, c6, rfl, hc6, hm6, hr6⟩ := hown.slice
        rw [PL.out]
        have R6 := Lib.hid hr6
        have G6 := Lib.hid (frpcs_glue s f m l HFR.out)
        have J6 := Lib.hid (frglueA_pcs s f m l HFR.out HM1.out)
        have Z6 := Lib.hid (show (frglueA s (frpcs s f m l)).length = n by rw [J6.out]; exact HL.out)
        have D6 := Lib.hid (show frdat (frpcs s f m l) ≤ 274877906944 by rw [← frjoin_len, frpcs_join s f m l HM1.out, HL.out]; exact Nat.le_trans HN.out (by decide))
        replace C := Lib.hid (And.intro (C.out.1.trans (hbel.mono C.out.1.size)) (And.intro (C.out.2.1.below hbel) (C.out.2.2.on hbel)))
        clear hown hr6 hbel hm6 hc6
        go_wp2_with (first
          | (go_at_call 18; (with_reducible refine (frglue_any s (frpcs s f m l) kk c6 A6 _ _ R6.out PL.out (Nat.le_trans NN.out (by decide)) D6.out 0 n G6.out Z6.out C.out.2.1).mono ?_); rintro r w12 ⟨A12, c12, rfl, HN12⟩; have R12 := Lib.hid HN12.2.2.1; replace C := Lib.hid (And.intro (C.out.1.trans (HN12.2.2.2.mono C.out.1.size)) (And.intro (C.out.2.1.below HN12.2.2.2) (C.out.2.2.on HN12.2.2.2))); clear HN12)
          | (go_at_call 13; (with_reducible refine (equal_yes (frglueA s (frpcs s f m l)) l n n _ _ _ _ _ R12.out C.out.2.2 Z6.out HL.out (Nat.le_trans HN.out (by decide)) J6.out).mono ?_); rintro r w13 ⟨rfl, hb13⟩))
        go_ret
        exact ⟨rfl, C.out.1.trans (hb13.mono C.out.1.size)⟩
end Go.Proofs.YtdeabomcmbgepaaDoor
