
/-
  LqrBack's walk. No condition.
-/
import Derived.Test.YtppblnpcbiochaaLqrA
import Derived.Test.YtppblnpcbiochaaLqrTW
import Derived.Deep.CutRange
import Derived.Deep.RegionHeld3
namespace Go.Proofs.Ytppblnpcbiochaa
open Go.RowKit
set_option linter.unusedVariables false

/-- An array of its own. -/
structure LbA (w W : World) (l : List Nat) : Prop where
  bel : Below w.heap.size w W
  n1 : Nv W w.heap.size l
/-- A packet of its own. -/
structure LbC (w W : World) (g : Nat) (p : Pk) (q : Pl) : Prop where
  bel : Below w.heap.size w W
  gt : w.heap.size ≤ g
  x : Px W g 28 p q
  pq : Pw W p q
/-- .. and a variable that holds a packet. -/
structure LbV (w W : World) (g d : Nat) (p y : Pk) (q r : Pl) : Prop where
  lb : LbC w W g p q
  gt : g < d
  v : Px W d 36 y r
  pr : Pw W y r
section
variable {w W X W' : World} {l : List Nat} {g d : Nat} {p y : Pk} {q r : Pl}
theorem LbA.made (w : World) (l : List Nat) : LbA w (w.alloc (.cells (nvs l).toArray 52)) l := ⟨(Below.refl _ _).alloc (Nat.le_refl _) _, heap_alloc_new w _⟩
theorem LbA.step (h : LbA w W l) (hb : Below X.heap.size X W') (hX : Below W.heap.size W X := by first | exact Below.refl _ _ | exact (Below.refl _ _).drew) : LbA w W' l :=
  have hh := hX.trans (hb.mono hX.size)
  ⟨h.bel.trans (hh.mono h.bel.size), h.n1.below hh⟩
theorem LbC.step (h : LbC w W g p q) (hb : Below X.heap.size X W') (hX : Below W.heap.size W X := by first | exact Below.refl _ _ | exact (Below.refl _ _).drew) : LbC w W' g p q :=
  have hh := hX.trans (hb.mono hX.size)
  ⟨h.bel.trans (hh.mono h.bel.size), h.gt, h.x.below hh, h.pq.on hh⟩
theorem LbV.step (h : LbV w W g d p y q r) (hb : Below X.heap.size X W') (hX : Below W.heap.size W X := by first | exact Below.refl _ _ | exact (Below.refl _ _).drew) : LbV w W' g d p y q r :=
  have hh := hX.trans (hb.mono hX.size)
  ⟨h.lb.step hb hX, h.gt, h.v.below hh, h.pr.on hh⟩
theorem LbV.drew (h : LbV w W g d p y q r) : LbV w W.drew g d p y q r := h.step (X := W) (Below.refl _ _).drew
theorem LbA.pk (h : LbA w W l) (hl : l.length = 12) : LbC w (W.alloc ((repP l).obj (plA w.heap.size 12) 28)) W.heap.size (repP l) (plA w.heap.size 12) :=
  have hb := (Below.refl W.heap.size W).alloc (Nat.le_refl _) ((repP l).obj (plA w.heap.size 12) 28)
  ⟨h.bel.trans (hb.mono h.bel.size), h.bel.size, px_new W 28 _ _, (h.n1.pw12 hl).on hb⟩
theorem LbC.va (h : LbC w W g p q) (hr : Pw W y r) : LbV w (W.alloc (y.obj r 36)) g W.heap.size p y q r :=
  have hb := (Below.refl W.heap.size W).alloc (Nat.le_refl _) (y.obj r 36)
  ⟨h.step hb, h.x.lt, px_new W 36 _ _, hr.on hb⟩
theorem LbV.flat (h : LbV w W g d p y q r) : W.cell? ⟨g, 0, none⟩ = some (.int .u16 (p.proto : Int)) ∧ W.cell? ⟨g, 1, none⟩ = some (.int .u8 (p.code : Int)) ∧ W.cell? ⟨g, 2, none⟩ = some (.int .u8 (p.id : Int)) ∧ W.cell? ⟨g, 3, none⟩ = some (.slice q.ao q.no q.co) ∧ W.cell? ⟨g, 4, none⟩ = some (.int .u16 (p.sub : Int)) ∧ W.cell? ⟨g, 5, none⟩ = some (.int .u32 (p.magic : Int)) ∧ W.cell? ⟨g, 6, none⟩ = some (.slice q.a1 q.n1 q.c1) ∧ W.cell? ⟨g, 7, none⟩ = some (.slice q.a2 q.n2 q.c2) ∧ W.cell? ⟨g, 8, none⟩ = some (.slice q.ad q.nd q.cd) ∧ W.cell? ⟨g, 9, none⟩ = some (.slice q.an q.nn q.cn) ∧ W.cell? ⟨d, 0, none⟩ = some (.int .u16 (y.proto : Int)) ∧ W.cell? ⟨d, 1, none⟩ = some (.int .u8 (y.code : Int)) ∧ W.cell? ⟨d, 2, none⟩ = some (.int .u8 (y.id : Int)) ∧ W.cell? ⟨d, 3, none⟩ = some (.slice r.ao r.no r.co) ∧ W.cell? ⟨d, 4, none⟩ = some (.int .u16 (y.sub : Int)) ∧ W.cell? ⟨d, 5, none⟩ = some (.int .u32 (y.magic : Int)) ∧ W.cell? ⟨d, 6, none⟩ = some (.slice r.a1 r.n1 r.c1) ∧ W.cell? ⟨d, 7, none⟩ = some (.slice r.a2 r.n2 r.c2) ∧ W.cell? ⟨d, 8, none⟩ = some (.slice r.ad r.nd r.cd) ∧ W.cell? ⟨d, 9, none⟩ = some (.slice r.an r.nn r.cn) := by
  obtain ⟨x0, x1, x2, x3, x4, x5, x6, x7, x8, x9⟩ := h.lb.x.all
  exact ⟨x0, x1, x2, x3, x4, x5, x6, x7, x8, x9, h.v.all⟩
end

set_option maxHeartbeats 4000000 in
theorem lback_long (l : List Nat) (A : Option Addr) (n c : Nat) (w : World) (hn : ¬ n ≤ 600) :
    Calls Try.prog 4 #[arrV l, .slice A n c] w fun e w' => e = .returned (.bool true) ∧ Below w.heap.size w w' := by
  have C := Lib.hid (LbA.made w l)
  have j1 : (600 : Int) < (n : Int) := by omega
  clear hn
  go_enter Try.func4, Try.ntmps4
  go_wp2_with (first
    | (go_at_call 6; (with_reducible refine (speaks19 _).mono ?_); rintro e wn ⟨rfl, hb⟩; replace C := Lib.hid (C.out.step hb); clear hb))
  go_ret
  exact ⟨rfl, C.out.bel⟩

set_option maxRecDepth 8000 in
set_option maxHeartbeats 40000000 in
theorem lback_yes (l b : List Nat) (A : Option Addr) (n c : Nat) (w : World) (il : IsArr l) (hR : Rd w w.heap.size A b) (hB : By b) (hL : b.length = n) (hc : n ≤ c) (hn : n ≤ 600) (h48 : 48 ≤ n) :
    Calls Try.prog 4 #[arrV l, .slice A n c] w fun e w' => e = .returned (.bool true) ∧ Below w.heap.size w w' := by
  obtain ⟨i0, hi, hz0, hz1, hz2⟩ := info_parts byte_info
  have C := Lib.hid (LbA.made w l)
  have HA := Lib.hid il
  have HR := Lib.hid hR
  have HB := Lib.hid hB
  have HL := Lib.hid hL
  have HC := Lib.hid hc
  have j1 : ¬ (600 : Int) < (n : Int) := by omega
  have j2 : ¬ (n : Int) < 48 := by omega
  have j3 : (48 : Int) ≤ (n : Int) := by omega
  have j4 : (48 : Int) ≤ (c : Int) := by omega
  have HT := Lib.hid (show (b.take 48).length = 48 by rw [List.length_take]; omega)
  have HP := Lib.hid (lqput_rep il.1)
  have HG := Lib.hid (lqget_oct (m := b) il.1 il.2)
  have H32 := Lib.hid (show N32 (repP l).nums from il.2)
  have HS := Lib.hid (sm_rep (l := l) (by rw [il.1]; omega))
  have HO := Lib.hid (show (octN l).length = 48 by rw [octN_len, il.1])
  obtain ⟨y, hy⟩ : ∃ y, Hid (repP (rdN b 12) = y) := ⟨_, Lib.hid rfl⟩
  have HY := Lib.hid (show lqgetB b = (y, 0) by rw [← hy.out]; exact (lqget_put hB (by omega)).1)
  have HZ := Lib.hid (show lqputB y = (b.take 48, 0) by rw [← hy.out]; exact (lqget_put hB (by omega)).2)
  have Y32 := Lib.hid (show N32 y.nums by rw [← hy.out]; exact rdN_lt hB 12)
  clear il hR hB hL hc h48
  go_enter Try.func4, Try.ntmps4
  go_upto_region 4 with (first
    | (go_at_call 6; (with_reducible refine (speaks19 _).mono ?_); rintro e wn ⟨rfl, hb⟩; replace C := Lib.hid (C.out.step hb); clear hb))
  refine at_worldP (fun W => ∃ g p q, Hid (LbC w W g p q) ∧ Hid (repP l = p) ∧ Hid (wn.heap.size = g)) ⟨_, _, _, Lib.hid (C.out.pk HA.out.1), Lib.hid rfl, Lib.hid rfl⟩ ?_
  clear C
  rintro wb ⟨g, p, q, C, hp, hg⟩
  rw [hg.out]
  rw [hp.out] at HP HG H32 HS
  have hno : q.no ≤ 1073741824 := by rw [← C.out.pq.lo]; exact HS.out.o
  clear hg
  obtain ⟨x0, x1, x2, x3, x4, x5, x6, x7, x8, x9⟩ := C.out.x.all
  go_upto_region 7 with (first
    | (go_at_call 9; (with_reducible refine (of15_any p q _ C.out.pq hno).mono ?_); rintro e wn ⟨r1, rfl, hq, hb⟩; have P := Lib.hid hq; replace C := Lib.hid (C.out.step hb); clear hq hb; clear x0 x1 x2 x3 x4 x5 x6 x7 x8 x9)
    | (go_at_call 8; (with_reducible refine (lput_any p r1 _ P.out H32.out (octN l) 0 HP.out 48 HO.out).mono ?_); rintro e wn ⟨A5, c5, rfl, h5, h5c, hb⟩; replace C := Lib.hid (C.out.step hb); have X5 := Lib.hid h5; clear h5 h5c hb P))
  obtain ⟨wl, hwl⟩ : ∃ wl, wl = wn := ⟨_, rfl⟩
  rw [← hwl] at C X5 ⊢
  clear hwl
  have OX := Lib.hid (show (wl.alloc (.cells #[] 5)).ownsRow wl.heap.size 5 1 (.slice (some ⟨wl.heap.size, 0, none⟩) 0 0) 0 (bvs []) from World.ownsRow_lit wl #[] 0 (Nat.le_refl _) (by unfold maxLen; omega) rfl)
  have BX := Lib.hid ((Below.refl wl.heap.size wl).alloc (Nat.le_refl _) (.cells #[] 5))
  have W1 := Lib.hid trivial
  go_upto_region 8 with (first
    | (at_builtin; have _g := W1; clear _g; refine list_app rfl _ _ _ rfl _ i0 Try.underlying25 hi hz0 hz1 hz2 wl.heap.size _ 0 [] rfl OX.out _ _ 48 _ (octN l) rfl (X5.out.ons BX.out) HO.out (by omega) BX.out.size ?_; intro A7 c7 w7 h7 hg7; rw [List.nil_append, Nat.zero_add] at h7; rw [Nat.zero_add]; have hb := app_below BX.out (Nat.le_refl _) OX.out hg7; replace OX := Lib.hid h7; replace BX := Lib.hid hb; clear h7 hg7 hb W1)
    | (at_builtin; refine list_app rfl _ _ _ rfl _ i0 Try.underlying25 hi hz0 hz1 hz2 wl.heap.size _ 48 (octN l) rfl OX.out _ _ n _ b rfl ((HR.out.ons C.out.bel).ons BX.out) HL.out (by omega) BX.out.size ?_; intro A8 c8 w8 h8 hg8; have hb := app_below BX.out (Nat.le_refl _) OX.out hg8; replace OX := Lib.hid h8; replace C := Lib.hid (C.out.step hb); clear h8 hg8 hb BX)
    | (go_at_call 11; (with_reducible refine (lget_any (octN l ++ b) (48 + n) c8 A8 _ (Rd.own OX.out) ((octN_by l).app HB.out) (by rw [List.length_append, HO.out, HL.out]) (own_cap OX.out) p 0 HG.out).mono ?_); rintro e wm ⟨q1, rfl, hp1, hb⟩; have V := Lib.hid ((C.out.step hb).va hp1.pw); obtain ⟨d, hd⟩ : ∃ d, Hid (wm.heap.size = d) := ⟨_, Lib.hid rfl⟩; clear hp1 hb C OX X5))
  rw [hd.out] at V ⊢
  with_reducible refine at_worldP (fun W => Hid (LbV w W g d p p q q1)) V ?_
  clear V hd
  rintro wv V
  obtain ⟨x0, x1, x2, x3, x4, x5, x6, x7, x8, x9, y0, y1, y2, y3, y4, y5, y6, y7, y8, y9⟩ := V.out.flat
  go_region_held3 (fun W => W.cell? ⟨g, 0, none⟩ = some (.int .u16 (p.proto : Int)) ∧ W.cell? ⟨g, 1, none⟩ = some (.int .u8 (p.code : Int)) ∧ W.cell? ⟨g, 2, none⟩ = some (.int .u8 (p.id : Int)) ∧ W.cell? ⟨g, 3, none⟩ = some (.slice q.ao q.no q.co) ∧ W.cell? ⟨g, 4, none⟩ = some (.int .u16 (p.sub : Int)) ∧ W.cell? ⟨g, 5, none⟩ = some (.int .u32 (p.magic : Int)) ∧ W.cell? ⟨g, 6, none⟩ = some (.slice q.a1 q.n1 q.c1) ∧ W.cell? ⟨g, 7, none⟩ = some (.slice q.a2 q.n2 q.c2) ∧ W.cell? ⟨g, 8, none⟩ = some (.slice q.ad q.nd q.cd) ∧ W.cell? ⟨g, 9, none⟩ = some (.slice q.an q.nn q.cn) ∧ W.cell? ⟨d, 0, none⟩ = some (.int .u16 (p.proto : Int)) ∧ W.cell? ⟨d, 1, none⟩ = some (.int .u8 (p.code : Int)) ∧ W.cell? ⟨d, 2, none⟩ = some (.int .u8 (p.id : Int)) ∧ W.cell? ⟨d, 3, none⟩ = some (.slice q1.ao q1.no q1.co) ∧ W.cell? ⟨d, 4, none⟩ = some (.int .u16 (p.sub : Int)) ∧ W.cell? ⟨d, 5, none⟩ = some (.int .u32 (p.magic : Int)) ∧ W.cell? ⟨d, 6, none⟩ = some (.slice q1.a1 q1.n1 q1.c1) ∧ W.cell? ⟨d, 7, none⟩ = some (.slice q1.a2 q1.n2 q1.c2) ∧ W.cell? ⟨d, 8, none⟩ = some (.slice q1.ad q1.nd q1.cd) ∧ W.cell? ⟨d, 9, none⟩ = some (.slice q1.an q1.nn q1.cn)) (first | (with_reducible exact V.out.flat) | (with_reducible exact V.out.drew.flat)) (first
    | (go_at_call 17; (first | (with_reducible refine (to15_any p q1 _ V.out.pr (by rw [← V.out.pr.lo]; exact HS.out.o)).mono ?_) | (with_reducible refine (to15_any p q1 _ V.out.drew.pr (by rw [← V.out.pr.lo]; exact HS.out.o)).mono ?_)); rintro e wn ⟨q3, rfl, hp3, hb⟩; replace V := Lib.hid (V.out.step hb); have P3 := Lib.hid hp3; clear hp3 hb; dsimp only)
    | (go_at_call 16; (with_reducible refine (psame_yes p q3 q _ P3.out V.out.lb.pq HS.out).mono ?_); rintro e wn ⟨rfl, hb⟩; replace V := Lib.hid (V.out.step hb); clear hb P3; dsimp only))
  clear x0 x1 x2 x3 x4 x5 x6 x7 x8 x9 y0 y1 y2 y3 y4 y5 y6 y7 y8 y9
  go_upto_region 11 with (first
    | (go_at_call 11; (with_reducible refine (lget_any b n c A _ (HR.out.ons V.out.lb.bel) HB.out HL.out HC.out y 0 HY.out).mono ?_); rintro e wk ⟨q2, rfl, hp2, hb⟩; have P2 := Lib.hid (hp2.mono (G := fun i => i ≠ d) (fun i _ hi => Nat.ne_of_gt (Nat.lt_of_lt_of_le V.out.v.lt hi))); replace V := Lib.hid (V.out.step hb); obtain ⟨y0, y1, y2, y3, y4, y5, y6, y7, y8, y9⟩ := V.out.v.all; obtain ⟨z0, z1, z2, z3, z4, z5, z6, z7, z8, z9⟩ := V.out.v.free; clear hp2 hb))
  have BB := Lib.hid (put10_below V.out.lb.bel (Nat.le_trans V.out.lb.gt (Nat.le_of_lt V.out.gt)) y q2)
  have P4 := Lib.hid ((P2.out.keep (put10_keeps wk d y q2)).pw)
  refine at_worldP (fun W => Hid (Below w.heap.size w W) ∧ Hid (Px W d 36 y q2) ∧ Hid (Pw W y q2)) ⟨BB, Lib.hid (put10_px V.out.v y q2), P4⟩ ?_
  clear BB V P2 P4 y0 y1 y2 y3 y4 y5 y6 y7 y8 y9 z0 z1 z2 z3 z4 z5 z6 z7 z8 z9
  rintro W2 ⟨B, V, P⟩
  obtain ⟨y0, y1, y2, y3, y4, y5, y6, y7, y8, y9⟩ := V.out.all
  go_wp2_with (first
    | (go_at_call 8; (with_reducible refine (lput_any y q2 _ P.out Y32.out (b.take 48) 0 HZ.out 48 HT.out).mono ?_); rintro e wn ⟨A9, c9, rfl, h9, h9c, hb⟩; replace B := Lib.hid (B.out.trans (hb.mono B.out.size)); have X9 := Lib.hid h9; clear h9 h9c hb)
    | (go_at_call 15; (with_reducible refine (equal_yes (b.take 48) (b.take 48) 48 48 _ _ _ _ _ X9.out ((HR.out.ons B.out).take 48) HT.out HT.out (by omega) rfl).mono ?_); rintro e wn ⟨rfl, hb⟩; replace B := Lib.hid (B.out.trans (hb.mono B.out.size)); clear hb))
  go_ret
  exact ⟨rfl, B.out⟩

set_option maxRecDepth 8000 in
set_option maxHeartbeats 40000000 in
theorem lback_no (l b : List Nat) (A : Option Addr) (n c : Nat) (w : World) (il : IsArr l) (hR : Rd w w.heap.size A b) (hB : By b) (hL : b.length = n) (hc : n ≤ c) (hn : n ≤ 600) (h48 : n < 48) :
    Calls Try.prog 4 #[arrV l, .slice A n c] w fun e w' => e = .returned (.bool true) ∧ Below w.heap.size w w' := by
  obtain ⟨i0, hi, hz0, hz1, hz2⟩ := info_parts byte_info
  have C := Lib.hid (LbA.made w l)
  have HA := Lib.hid il
  have HR := Lib.hid hR
  have HB := Lib.hid hB
  have HL := Lib.hid hL
  have HC := Lib.hid hc
  have j1 : ¬ (600 : Int) < (n : Int) := by omega
  have j2 : (n : Int) < 48 := by omega
  have HP := Lib.hid (lqput_rep il.1)
  have HG := Lib.hid (lqget_oct (m := b) il.1 il.2)
  have H32 := Lib.hid (show N32 (repP l).nums from il.2)
  have HS := Lib.hid (sm_rep (l := l) (by rw [il.1]; omega))
  have HO := Lib.hid (show (octN l).length = 48 by rw [octN_len, il.1])
  have HY := Lib.hid (show lqgetB b = (pk0, 2) by unfold lqgetB; rw [if_pos (by omega)])
  obtain ⟨y, hy⟩ : ∃ y, Hid (pk0 = y) := ⟨_, Lib.hid rfl⟩
  have YN := Lib.hid (show y.nums.length = 0 by rw [← hy.out]; rfl)
  rw [hy.out] at HY
  clear il hR hB hL hc h48
  go_enter Try.func4, Try.ntmps4
  go_upto_region 4 with (first
    | (go_at_call 6; (with_reducible refine (speaks19 _).mono ?_); rintro e wn ⟨rfl, hb⟩; replace C := Lib.hid (C.out.step hb); clear hb))
  refine at_worldP (fun W => ∃ g p q, Hid (LbC w W g p q) ∧ Hid (repP l = p) ∧ Hid (wn.heap.size = g)) ⟨_, _, _, Lib.hid (C.out.pk HA.out.1), Lib.hid rfl, Lib.hid rfl⟩ ?_
  clear C
  rintro wb ⟨g, p, q, C, hp, hg⟩
  rw [hg.out]
  rw [hp.out] at HP HG H32 HS
  have hno : q.no ≤ 1073741824 := by rw [← C.out.pq.lo]; exact HS.out.o
  clear hg
  obtain ⟨x0, x1, x2, x3, x4, x5, x6, x7, x8, x9⟩ := C.out.x.all
  go_upto_region 7 with (first
    | (go_at_call 9; (with_reducible refine (of15_any p q _ C.out.pq hno).mono ?_); rintro e wn ⟨r1, rfl, hq, hb⟩; have P := Lib.hid hq; replace C := Lib.hid (C.out.step hb); clear hq hb; clear x0 x1 x2 x3 x4 x5 x6 x7 x8 x9)
    | (go_at_call 8; (with_reducible refine (lput_any p r1 _ P.out H32.out (octN l) 0 HP.out 48 HO.out).mono ?_); rintro e wn ⟨A5, c5, rfl, h5, h5c, hb⟩; replace C := Lib.hid (C.out.step hb); have X5 := Lib.hid h5; clear h5 h5c hb P))
  obtain ⟨wl, hwl⟩ : ∃ wl, wl = wn := ⟨_, rfl⟩
  rw [← hwl] at C X5 ⊢
  clear hwl
  have OX := Lib.hid (show (wl.alloc (.cells #[] 5)).ownsRow wl.heap.size 5 1 (.slice (some ⟨wl.heap.size, 0, none⟩) 0 0) 0 (bvs []) from World.ownsRow_lit wl #[] 0 (Nat.le_refl _) (by unfold maxLen; omega) rfl)
  have BX := Lib.hid ((Below.refl wl.heap.size wl).alloc (Nat.le_refl _) (.cells #[] 5))
  have W1 := Lib.hid trivial
  go_upto_region 8 with (first
    | (at_builtin; have _g := W1; clear _g; refine list_app rfl _ _ _ rfl _ i0 Try.underlying25 hi hz0 hz1 hz2 wl.heap.size _ 0 [] rfl OX.out _ _ 48 _ (octN l) rfl (X5.out.ons BX.out) HO.out (by omega) BX.out.size ?_; intro A7 c7 w7 h7 hg7; rw [List.nil_append, Nat.zero_add] at h7; rw [Nat.zero_add]; have hb := app_below BX.out (Nat.le_refl _) OX.out hg7; replace OX := Lib.hid h7; replace BX := Lib.hid hb; clear h7 hg7 hb W1)
    | (at_builtin; refine list_app rfl _ _ _ rfl _ i0 Try.underlying25 hi hz0 hz1 hz2 wl.heap.size _ 48 (octN l) rfl OX.out _ _ n _ b rfl ((HR.out.ons C.out.bel).ons BX.out) HL.out (by omega) BX.out.size ?_; intro A8 c8 w8 h8 hg8; have hb := app_below BX.out (Nat.le_refl _) OX.out hg8; replace OX := Lib.hid h8; replace C := Lib.hid (C.out.step hb); clear h8 hg8 hb BX)
    | (go_at_call 11; (with_reducible refine (lget_any (octN l ++ b) (48 + n) c8 A8 _ (Rd.own OX.out) ((octN_by l).app HB.out) (by rw [List.length_append, HO.out, HL.out]) (own_cap OX.out) p 0 HG.out).mono ?_); rintro e wm ⟨q1, rfl, hp1, hb⟩; have V := Lib.hid ((C.out.step hb).va hp1.pw); obtain ⟨d, hd⟩ : ∃ d, Hid (wm.heap.size = d) := ⟨_, Lib.hid rfl⟩; clear hp1 hb C OX X5))
  rw [hd.out] at V ⊢
  with_reducible refine at_worldP (fun W => Hid (LbV w W g d p p q q1)) V ?_
  clear V hd
  rintro wv V
  obtain ⟨x0, x1, x2, x3, x4, x5, x6, x7, x8, x9, y0, y1, y2, y3, y4, y5, y6, y7, y8, y9⟩ := V.out.flat
  go_region_held3 (fun W => W.cell? ⟨g, 0, none⟩ = some (.int .u16 (p.proto : Int)) ∧ W.cell? ⟨g, 1, none⟩ = some (.int .u8 (p.code : Int)) ∧ W.cell? ⟨g, 2, none⟩ = some (.int .u8 (p.id : Int)) ∧ W.cell? ⟨g, 3, none⟩ = some (.slice q.ao q.no q.co) ∧ W.cell? ⟨g, 4, none⟩ = some (.int .u16 (p.sub : Int)) ∧ W.cell? ⟨g, 5, none⟩ = some (.int .u32 (p.magic : Int)) ∧ W.cell? ⟨g, 6, none⟩ = some (.slice q.a1 q.n1 q.c1) ∧ W.cell? ⟨g, 7, none⟩ = some (.slice q.a2 q.n2 q.c2) ∧ W.cell? ⟨g, 8, none⟩ = some (.slice q.ad q.nd q.cd) ∧ W.cell? ⟨g, 9, none⟩ = some (.slice q.an q.nn q.cn) ∧ W.cell? ⟨d, 0, none⟩ = some (.int .u16 (p.proto : Int)) ∧ W.cell? ⟨d, 1, none⟩ = some (.int .u8 (p.code : Int)) ∧ W.cell? ⟨d, 2, none⟩ = some (.int .u8 (p.id : Int)) ∧ W.cell? ⟨d, 3, none⟩ = some (.slice q1.ao q1.no q1.co) ∧ W.cell? ⟨d, 4, none⟩ = some (.int .u16 (p.sub : Int)) ∧ W.cell? ⟨d, 5, none⟩ = some (.int .u32 (p.magic : Int)) ∧ W.cell? ⟨d, 6, none⟩ = some (.slice q1.a1 q1.n1 q1.c1) ∧ W.cell? ⟨d, 7, none⟩ = some (.slice q1.a2 q1.n2 q1.c2) ∧ W.cell? ⟨d, 8, none⟩ = some (.slice q1.ad q1.nd q1.cd) ∧ W.cell? ⟨d, 9, none⟩ = some (.slice q1.an q1.nn q1.cn)) (first | (with_reducible exact V.out.flat) | (with_reducible exact V.out.drew.flat)) (first
    | (go_at_call 17; (first | (with_reducible refine (to15_any p q1 _ V.out.pr (by rw [← V.out.pr.lo]; exact HS.out.o)).mono ?_) | (with_reducible refine (to15_any p q1 _ V.out.drew.pr (by rw [← V.out.pr.lo]; exact HS.out.o)).mono ?_)); rintro e wn ⟨q3, rfl, hp3, hb⟩; replace V := Lib.hid (V.out.step hb); have P3 := Lib.hid hp3; clear hp3 hb; dsimp only)
    | (go_at_call 16; (with_reducible refine (psame_yes p q3 q _ P3.out V.out.lb.pq HS.out).mono ?_); rintro e wn ⟨rfl, hb⟩; replace V := Lib.hid (V.out.step hb); clear hb P3; dsimp only))
  clear x0 x1 x2 x3 x4 x5 x6 x7 x8 x9 y0 y1 y2 y3 y4 y5 y6 y7 y8 y9
  go_upto_region 11 with (first
    | (go_at_call 11; (with_reducible refine (lget_any b n c A _ (HR.out.ons V.out.lb.bel) HB.out HL.out HC.out y 2 HY.out).mono ?_); rintro e wk ⟨q2, rfl, hp2, hb⟩; have P2 := Lib.hid (hp2.mono (G := fun i => i ≠ d) (fun i _ hi => Nat.ne_of_gt (Nat.lt_of_lt_of_le V.out.v.lt hi))); replace V := Lib.hid (V.out.step hb); obtain ⟨y0, y1, y2, y3, y4, y5, y6, y7, y8, y9⟩ := V.out.v.all; obtain ⟨z0, z1, z2, z3, z4, z5, z6, z7, z8, z9⟩ := V.out.v.free; clear hp2 hb))
  have BB := Lib.hid (put10_below V.out.lb.bel (Nat.le_trans V.out.lb.gt (Nat.le_of_lt V.out.gt)) y q2)
  have P4 := Lib.hid ((P2.out.keep (put10_keeps wk d y q2)).pw)
  refine at_worldP (fun W => Hid (Below w.heap.size w W) ∧ Hid (Px W d 36 y q2) ∧ Hid (Pw W y q2)) ⟨BB, Lib.hid (put10_px V.out.v y q2), P4⟩ ?_
  clear BB V P2 P4 y0 y1 y2 y3 y4 y5 y6 y7 y8 y9 z0 z1 z2 z3 z4 z5 z6 z7 z8 z9
  rintro W2 ⟨B, V, P⟩
  obtain ⟨y0, y1, y2, y3, y4, y5, y6, y7, y8, y9⟩ := V.out.all
  have z9 : ((q2.nn : Int) == 0) = true := by rw [← P.out.ln, YN.out]; rfl
  go_wp2_with fail
  go_ret
  exact ⟨rfl, B.out⟩

end Go.Proofs.Ytppblnpcbiochaa
