
/-
  What the small calls of layer 21's program answer: check, number, first. No condition beyond: at most 2^30 octets.
-/
import Derived.Test.YtldadfmcganejaaTagG
import Derived.WalkMore
import Derived.Deep.CutRange
namespace Go.Proofs.Ytldadfmcganejaa
set_option maxRecDepth 4000
open Go.RowKit

/-- A world by a name, with what is known of it. -/
theorem at_worldG {F : Act → World → Prop} {x : Act} {W : World} (R : World → Prop) (C : R W) (h : ∀ W', R W' → F x W') : F x W := h W C
/-- A tag as a value. -/
abbrev tgV (t : Nat) (A : Option Addr) (n c : Nat) : Value := .agg #[.int .u16 (t : Int), .slice A n c]
/-- What is wrong with one tag: an error's number. -/
def tgone (t n : Nat) : Nat := if t = 0 then 8 else if 65535 < n then 3 else 0

set_option maxHeartbeats 400000 in
theorem tgchk_any (t n c : Nat) (A : Option Addr) (w : World) (k : Nat) (hk : tgone t n = k) :
    Calls Try.prog 20 #[tgV t A n c] w fun e w' => e = .returned (.int .i64 (k : Int)) ∧ Below w.heap.size w w' := by
  have B := Lib.hid ((Below.refl w.heap.size w).alloc (Nat.le_refl _) (.cells #[.int .u16 (t : Int), .slice A n c] 50))
  by_cases h0 : t = 0
  · have j1 : ((t : Int) == 0) = true := by rw [h0]; rfl
    obtain rfl : 8 = k := by rw [← hk, tgone, if_pos h0]
    clear hk h0
    go_enter Try.func20, Try.ntmps20
    go_wp2_with fail
    go_ret
    exact ⟨rfl, B.out⟩
  · have j1 : ((t : Int) == 0) = false := by rw [beq_eq_false_iff_ne]; omega
    by_cases h1 : 65535 < n
    · have j2 : (65535 : Int) < (n : Int) := by omega
      obtain rfl : 3 = k := by rw [← hk, tgone, if_neg h0, if_pos h1]
      clear hk h0 h1
      go_enter Try.func20, Try.ntmps20
      go_wp2_with fail
      go_ret
      exact ⟨rfl, B.out⟩
    · have j2 : ¬ (65535 : Int) < (n : Int) := by omega
      obtain rfl : 0 = k := by rw [← hk, tgone, if_neg h0, if_neg h1]
      clear hk h0 h1
      go_enter Try.func20, Try.ntmps20
      go_wp2_with fail
      go_ret
      exact ⟨rfl, B.out⟩

theorem tg_or16 (x y : Nat) (hx : x < 256) (hy : y < 256) : bits .or .i64 ((x : Int) * 256) (y : Int) = ((x * 256 + y : Nat) : Int) := by
  have h2 := Nat.two_pow_add_eq_or_of_lt (show y < 2 ^ 8 by omega) x
  have e : ((x : Int) * 256) = ((2 ^ 8 * x : Nat) : Int) := by simp; omega
  rw [e]
  show IntKind.i64.wrap ((BitVec.ofInt 64 ((2 ^ 8 * x : Nat) : Int) ||| BitVec.ofInt 64 (y : Int)).toNat : Int) = _
  rw [BitVec.toNat_or, ofInt_u64 _ (by omega), ofInt_u64 _ (by omega), ← h2, show 2 ^ 8 * x + y = x * 256 + y by omega]
  exact IntWalk.i64_in _ (by omega)

set_option maxHeartbeats 400000 in
theorem tgnum_any (x y z : Nat) (l : List Nat) (hx : l[0]? = some x) (hy : l[1]? = some y) (hz : x * 256 + y = z) (n c : Nat) (A : Option Addr) (w : World) (h : Rd w w.heap.size A l) (hb : By l) (hn : l.length = n) :
    Calls Try.prog 26 #[.slice A n c] w fun e w' => e = .returned (.int .i64 (z : Int)) ∧ ∃ k, w' = w.drewN k := by
  have hx2 := hb.get hx
  have hy2 := hb.get hy
  have h1 : 1 < l.length := (List.getElem?_eq_some_iff.1 hy).1
  obtain ⟨bb, oo, x', rfl, -, hx', hcx⟩ := h.at_ (k := 0) (by omega)
  obtain ⟨bb', oo', y', e, -, hy', hcy⟩ := h.at_ (k := 1) h1
  injection e with e
  injection e with e1 e2
  subst e1; subst e2
  obtain rfl : x = x' := Option.some.inj (hx.symm.trans hx')
  obtain rfl : y = y' := Option.some.inj (hy.symm.trans hy')
  have O := Lib.hid (tg_or16 x y hx2 hy2)
  rw [hz] at O
  rw [Nat.add_zero] at hcx
  have j1 : 0 < n := by omega
  have j2 : (1 : Int) < n := by omega
  clear h hb hn hx hy hx' hy' h1 hz
  go_enter Try.func26, Try.ntmps26
  go_wp2_with fail
  go_quiet (fail)
  all_goals
    rw [O.out]
    go_wp2_with fail
    go_ret
    exact ⟨rfl, _, rfl⟩

/-- What first answers. -/
def FirG (b : List Nat) (w : World) (e : Ending) (w' : World) : Prop :=
  ((tgstep b).2 ≠ 0 ∧ e = .returned (.tuple #[.agg #[.int .u16 0, .slice none 0 0], .int .i64 ((tgstep b).2 : Int)]) ∧ Below w.heap.size w w') ∨
    ∃ A c n, tgstep b = (4 + n, 0) ∧ e = .returned (.tuple #[tgV (tgtyp b) A n c, .int .i64 0]) ∧ New w w' A c n ((b.take (4 + n)).drop 4)
theorem fir_bad {b : List Nat} {w w' : World} {q : Nat} (h : tgstep b = (0, q)) (hq : q ≠ 0) (hb : Below w.heap.size w w') : FirG b w (.returned (.tuple #[.agg #[.int .u16 0, .slice none 0 0], .int .i64 (q : Int)])) w' :=
  .inl ⟨by rw [h]; exact hq, by rw [h], hb⟩

/-- The block of the answer, as it is made, in every later world. -/
theorem fir_cells {w w1 w' : World} (hw1 : w1 = w.alloc (.cells #[.int .u16 0, .slice none 0 0] 50)) (hb' : Below w1.heap.size w1 w') :
    w.heap.size < w'.heap.size ∧ w'.cell? ⟨w.heap.size, 0, none⟩ = some (.int .u16 0) ∧ w'.cell? ⟨w.heap.size, 1, none⟩ = some (.slice none 0 0) ∧ w'.frozen? ⟨w.heap.size, 0, none⟩ = false ∧ w'.frozen? ⟨w.heap.size, 1, none⟩ = false := by
  have hs1 : w1.heap.size = w.heap.size + 1 := by rw [hw1, World.size_alloc]
  have hv1 : w1.heap[w.heap.size]? = some (.cells #[.int .u16 0, .slice none 0 0] 50 (0, 0)) := by rw [hw1]; exact heap_alloc_new _ _
  have hv : w'.heap[w.heap.size]? = some (.cells #[.int .u16 0, .slice none 0 0] 50 (0, 0)) := (hb'.block _ (by omega)).trans hv1
  refine ⟨by have := hb'.size; omega, ?_, ?_, frozen_of_row w' _ 0 _ _ hv, frozen_of_row w' _ 1 _ _ hv⟩
  · rw [cell_of_row w' _ 0 _ _ _ hv]; rfl
  · rw [cell_of_row w' _ 1 _ _ _ hv]; rfl
theorem fir_fin {w w1 w' : World} (hb0 : Below w.heap.size w w1) (u v : Value) (hb' : Below w1.heap.size w1 w') : Below w.heap.size w ((w'.setCell ⟨w.heap.size, 0, none⟩ u).setCell ⟨w.heap.size, 1, none⟩ v) :=
  ((hb0.trans (hb'.mono hb0.size)).setCell (p := ⟨w.heap.size, 0, none⟩) (Nat.le_refl _) _).setCell (p := ⟨w.heap.size, 1, none⟩) (Nat.le_refl _) _
theorem fir_own {w w1 w' : World} {A : Option Addr} {n c : Nat} {l : List Nat} (u v : Value) (hs : w1.heap.size = w.heap.size + 1) (ho : w'.ownsRow w1.heap.size 5 1 (.slice A n c) n (bvs l)) : ((w'.setCell ⟨w.heap.size, 0, none⟩ u).setCell ⟨w.heap.size, 1, none⟩ v).ownsRow w.heap.size 5 1 (.slice A n c) n (bvs l) := by
  have hof := Offs.trans (Offs.set (X := fun i => i = w.heap.size) w' w.heap.size 0 u rfl) (Offs.set (X := fun i => i = w.heap.size) _ w.heap.size 1 v rfl) (Z := fun i => i = w.heap.size) (fun _ h => h) (fun _ _ h => h)
  exact own_lo (own_off ho hof (fun g hg e => by have := (ho.lt g hg).1; omega)) (by omega)

set_option maxHeartbeats 1000000 in
theorem tgfir_short (b : List Nat) (n c : Nat) (A : Option Addr) (w : World) (hl : b.length = n) (hn : n < 4) :
    Calls Try.prog 21 #[.slice A n c] w (FirG b w) := by
  have E := Lib.hid (show tgstep b = (0, 2) by
    match b, hl with
    | [], _ => rfl
    | [_], _ => rfl
    | [_, _], _ => rfl
    | [_, _, _], _ => rfl
    | _ :: _ :: _ :: _ :: _, hl => simp at hl; omega)
  obtain ⟨w1, hw1⟩ : ∃ w1, w1 = w.alloc (.cells #[.int .u16 0, .slice none 0 0] 50) := ⟨_, rfl⟩
  have B0 := Lib.hid (show Below w.heap.size w w1 by rw [hw1]; exact (Below.refl _ _).alloc (Nat.le_refl _) _)
  have CA := fir_cells hw1 (Below.refl _ _)
  have HW1 := Lib.hid hw1
  have j1 : (n : Int) < 4 := by omega
  clear hl hn hw1
  obtain ⟨s2, q1, q2, q3, q4⟩ := CA
  go_enter Try.func21, Try.ntmps21
  go_upto_region 1 with fail
  rw [← HW1.out]
  go_wp2_with fail
  refine bodyPost_ret (v := .tuple #[.agg #[.int .u16 0, .slice none 0 0], .int .i64 2]) ?_ rfl (fir_bad E.out (by decide) ?_)
  · rw [results_cell_tmp rfl]; go_simp
  · exact fir_fin B0.out _ _ (Below.refl _ _)
set_option maxHeartbeats 4000000 in
theorem tgfir_long (x y z u : Nat) (t : List Nat) (n c : Nat) (A : Option Addr) (w : World) (h : Rd w w.heap.size A (x :: y :: z :: u :: t)) (hb : By (x :: y :: z :: u :: t)) (hl : t.length + 4 = n) (hn : n ≤ 1073741824) (hc : n ≤ c) (hc4 : ¬ c = 4) :
    Calls Try.prog 21 #[.slice A n c] w (FirG (x :: y :: z :: u :: t) w) := by
  have hx : x < 256 := hb x (by simp)
  have hy : y < 256 := hb y (by simp)
  have hz : z < 256 := hb z (by simp)
  have hu : u < 256 := hb u (by simp)
  obtain ⟨bb, oo, x', rfl, hbb, hx', hcx⟩ := h.at_ (k := 0) (by simp)
  clear hx' hcx
  obtain ⟨w1, hw1⟩ : ∃ w1, w1 = w.alloc (.cells #[.int .u16 0, .slice none 0 0] 50) := ⟨_, rfl⟩
  have hb0 : Below w.heap.size w w1 := by rw [hw1]; exact (Below.refl _ _).alloc (Nat.le_refl _) _
  have hs1 : w1.heap.size = w.heap.size + 1 := by rw [hw1, World.size_alloc]
  have B0 := Lib.hid hb0
  have HS1 := Lib.hid hs1
  have CA := Lib.hid (fun w' (hb' : Below w1.heap.size w1 w') => fir_cells hw1 hb')
  have HW1 := Lib.hid hw1
  obtain ⟨tt, htt⟩ : ∃ tt, Hid (x * 256 + y = tt) := ⟨_, Lib.hid rfl⟩
  obtain ⟨mm, hmm⟩ : ∃ mm, Hid (z * 256 + u = mm) := ⟨_, Lib.hid rfl⟩
  obtain ⟨n4, hn4⟩ : ∃ n4, Hid (t.length = n4) := ⟨_, Lib.hid rfl⟩
  have ht2 : tt < 65536 := by have := htt.out; omega
  have hm2 : mm < 65536 := by have := hmm.out; omega
  have hnn : n4 + 4 = n := by have := hn4.out; omega
  have HE := Lib.hid (show tgstep (x :: y :: z :: u :: t) = if n4 < mm then (0, 2) else if tt = 0 ∧ 0 < mm then (0, 4) else (4 + mm, 0) by rw [← hmm.out, ← htt.out, ← hn4.out]; rfl)
  have HT := Lib.hid (show tgtyp (x :: y :: z :: u :: t) = tt from htt.out)
  have RA := Lib.hid (h.on hb0)
  have RB := Lib.hid (show Rd w1 w1.heap.size (some ⟨bb, oo + 2, none⟩) (z :: u :: t) by
    have := (h.on hb0).cutG (f := 2) (c := c) (by simp; omega)
    rw [if_neg (by omega)] at this
    exact this)
  have BA := Lib.hid hb
  have BB := Lib.hid (show By (z :: u :: t) from hb.drop 2)
  have LA := Lib.hid (show (x :: y :: z :: u :: t).length = n by simp; omega)
  have LB := Lib.hid (show (z :: u :: t).length = n - 2 by simp; omega)
  have HD := Lib.hid (show mm ≤ n4 → (((x :: y :: z :: u :: t).take (4 + mm)).drop 4).length = mm from fun hle => by
    rw [List.length_drop, List.length_take]
    simp only [List.length_cons]
    have := hn4.out
    omega)
  have RD := Lib.hid (show Rd w1 w1.heap.size (some ⟨bb, oo + 4, none⟩) (((x :: y :: z :: u :: t).take (4 + mm)).drop 4) by
    have := ((h.on hb0).take (4 + mm)).cutG (f := 4) (c := c) (by rw [List.length_take]; simp only [List.length_cons]; omega)
    rw [if_neg hc4] at this
    exact this)
  have N1 := fun k => tgnum_any x y tt _ rfl rfl htt.out n c (some ⟨bb, oo, none⟩) (w1.drewN k) (RA.out.on (below_drewN (Below.refl _ _) k)) BA.out LA.out
  have N2 := fun k => tgnum_any z u mm _ rfl rfl hmm.out (n - 2) (c - 2) (some ⟨bb, oo + 2, none⟩) (w1.drewN k) (RB.out.on (below_drewN (Below.refl _ _) k)) BB.out LB.out
  have NN := Lib.hid N1
  have NM := Lib.hid N2
  have j1 : ¬ (n : Int) < 4 := by omega
  have j2 : ¬ c = 2 := by omega
  have j3 : (2 : Int) ≤ (n : Int) := by omega
  have j4 : (n : Int) ≤ (c : Int) := by omega
  have j5 : (n : Int) - 4 = (n4 : Int) := by omega
  have j6 : IntKind.i64.wrap (n4 : Int) = (n4 : Int) := IntWalk.i64_in _ (by omega)
  clear N1 N2 h hb hb0 hs1 hw1 hl hx hy hz hu hbb
  by_cases g1 : n4 < mm
  · have E := Lib.hid (show tgstep (x :: y :: z :: u :: t) = (0, 2) by rw [HE.out, if_pos g1])
    have k1 : (n4 : Int) < (mm : Int) := by omega
    clear g1 HE
    go_enter Try.func21, Try.ntmps21
    go_upto_region 1 with fail
    rw [← HW1.out]
    go_wp2_with fail
    go_quiet (first | (go_at_call 26; with_reducible exact Calls.quiet_of (NN.out _)) | (go_at_call 26; with_reducible exact Calls.quiet_of (NM.out _)))
    all_goals
      refine at_worldG (fun W => Hid (Below w1.heap.size w1 W)) (Lib.hid (below_drewN (Below.refl _ _) _)) ?_
      intro W BW
      obtain ⟨s2, q1, q2, q3, q4⟩ := CA.out _ BW.out
      go_wp2_with fail
      refine bodyPost_ret (v := .tuple #[.agg #[.int .u16 0, .slice none 0 0], .int .i64 2]) ?_ rfl (fir_bad E.out (by decide) ?_)
      · rw [results_cell_tmp rfl]; go_simp
      · exact fir_fin B0.out _ _ BW.out
  have k1 : ¬ (n4 : Int) < (mm : Int) := by omega
  by_cases g2 : tt = 0
  · have k2 : ((tt : Int) == 0) = true := by rw [g2]; rfl
    by_cases g3 : 0 < mm
    · have E := Lib.hid (show tgstep (x :: y :: z :: u :: t) = (0, 4) by rw [HE.out, if_neg g1, if_pos ⟨g2, g3⟩])
      have k3 : (0 : Int) < (mm : Int) := by omega
      clear g1 g2 g3 HE
      go_enter Try.func21, Try.ntmps21
      go_upto_region 1 with fail
      rw [← HW1.out]
      go_wp2_with fail
      go_quiet (first | (go_at_call 26; with_reducible exact Calls.quiet_of (NN.out _)) | (go_at_call 26; with_reducible exact Calls.quiet_of (NM.out _)))
      all_goals
        refine at_worldG (fun W => Hid (Below w1.heap.size w1 W)) (Lib.hid (below_drewN (Below.refl _ _) _)) ?_
        intro W BW
        obtain ⟨s2, q1, q2, q3, q4⟩ := CA.out _ BW.out
        go_wp2_with fail
        refine bodyPost_ret (v := .tuple #[.agg #[.int .u16 0, .slice none 0 0], .int .i64 4]) ?_ rfl (fir_bad E.out (by decide) ?_)
        · rw [results_cell_tmp rfl]; go_simp
        · exact fir_fin B0.out _ _ BW.out
    · have E := Lib.hid (show tgstep (x :: y :: z :: u :: t) = (4 + mm, 0) by rw [HE.out, if_neg g1, if_neg (fun h => g3 h.2)])
      obtain rfl : mm = 0 := by omega
      have HDL := Lib.hid (HD.out (by omega))
      have p1 : IntKind.u16.wrap (tt : Int) = (tt : Int) := by apply IntWalk.u16_in; omega
      have p4 : (4 : Int) ≤ (c : Int) := by omega
      clear g1 g2 g3 HE
      go_enter Try.func21, Try.ntmps21
      go_upto_region 1 with fail
      rw [← HW1.out]
      go_wp2_with fail
      go_quiet (first | (go_at_call 26; with_reducible exact Calls.quiet_of (NN.out _)) | (go_at_call 26; with_reducible exact Calls.quiet_of (NM.out _)))
      all_goals
        refine at_worldG (fun W => Hid (Below w1.heap.size w1 W)) (Lib.hid (below_drewN (Below.refl _ _) _)) ?_
        intro W BW
        obtain ⟨s2, q1, q2, q3, q4⟩ := CA.out _ BW.out
        go_wp2_with (go_at_call 25; (with_reducible refine (clone_any _ 0 (some ⟨bb, oo + 4, none⟩) _ _ (RD.out.on BW.out) HDL.out (by omega)).mono ?_); rintro e w5 ⟨A5, c5, rfl, HN⟩; have B5 := Lib.hid (BW.out.trans (HN.2.2.2.mono BW.out.size)); have OW := Lib.hid (own_lo HN.2.1 BW.out.size); clear HN s2 q1 q2 q3 q4; obtain ⟨s2, q1, q2, q3, q4⟩ := CA.out _ B5.out)
        refine bodyPost_ret (v := .tuple #[tgV tt A5 0 c5, .int .i64 0]) ?_ rfl (.inr ⟨A5, c5, 0, E.out, by rw [HT.out], HDL.out, ?_⟩)
        · rw [results_cell_tmp rfl]; go_simp
        · have ho := fir_own (.int .u16 (tt : Int)) (.slice A5 0 c5) HS1.out OW.out
          exact ⟨ho, Rd.own ho, fir_fin B0.out _ _ B5.out⟩
  · have k2 : ((tt : Int) == 0) = false := by rw [beq_eq_false_iff_ne]; omega
    have E := Lib.hid (show tgstep (x :: y :: z :: u :: t) = (4 + mm, 0) by rw [HE.out, if_neg g1, if_neg (fun h => g2 h.1)])
    have HDL := Lib.hid (HD.out (by omega))
    obtain ⟨k4, hk4⟩ : ∃ k4, 4 + mm = k4 := ⟨_, rfl⟩
    have p1 : IntKind.u16.wrap (tt : Int) = (tt : Int) := by apply IntWalk.u16_in; omega
    have p2 : (4 : Int) + (mm : Int) = (k4 : Int) := by omega
    have p3 : IntKind.i64.wrap (k4 : Int) = (k4 : Int) := IntWalk.i64_in _ (by omega)
    have p4 : (4 : Int) ≤ (k4 : Int) := by omega
    have p5 : (k4 : Int) ≤ (c : Int) := by omega
    have p6 : k4 - 4 = mm := by omega
    clear g1 g2 HE
    go_enter Try.func21, Try.ntmps21
    go_upto_region 1 with fail
    rw [← HW1.out]
    go_wp2_with fail
    go_quiet (first | (go_at_call 26; with_reducible exact Calls.quiet_of (NN.out _)) | (go_at_call 26; with_reducible exact Calls.quiet_of (NM.out _)))
    all_goals
      refine at_worldG (fun W => Hid (Below w1.heap.size w1 W)) (Lib.hid (below_drewN (Below.refl _ _) _)) ?_
      intro W BW
      obtain ⟨s2, q1, q2, q3, q4⟩ := CA.out _ BW.out
      go_wp2_with (go_at_call 25; (with_reducible refine (clone_any _ mm (some ⟨bb, oo + 4, none⟩) _ _ (RD.out.on BW.out) HDL.out (by omega)).mono ?_); rintro e w5 ⟨A5, c5, rfl, HN⟩; have B5 := Lib.hid (BW.out.trans (HN.2.2.2.mono BW.out.size)); have OW := Lib.hid (own_lo HN.2.1 BW.out.size); clear HN s2 q1 q2 q3 q4; obtain ⟨s2, q1, q2, q3, q4⟩ := CA.out _ B5.out)
      refine bodyPost_ret (v := .tuple #[tgV tt A5 mm c5, .int .i64 0]) ?_ rfl (.inr ⟨A5, c5, mm, E.out, by rw [HT.out], HDL.out, ?_⟩)
      · rw [results_cell_tmp rfl]; go_simp
      · have ho := fir_own (.int .u16 (tt : Int)) (.slice A5 mm c5) HS1.out OW.out
        exact ⟨ho, Rd.own ho, fir_fin B0.out _ _ B5.out⟩

set_option maxHeartbeats 4000000 in
theorem tgfir_four (x y z u : Nat) (A : Option Addr) (w : World) (h : Rd w w.heap.size A [x, y, z, u]) (hb : By [x, y, z, u]) :
    Calls Try.prog 21 #[.slice A 4 4] w (FirG [x, y, z, u] w) := by
  obtain ⟨bb, oo, x', rfl, hbb, hx', hcx⟩ := h.at_ (k := 0) (by simp)
  clear hx' hcx
  obtain ⟨w1, hw1⟩ : ∃ w1, w1 = w.alloc (.cells #[.int .u16 0, .slice none 0 0] 50) := ⟨_, rfl⟩
  have hx : x < 256 := hb x (by simp)
  have hy : y < 256 := hb y (by simp)
  have hb0 : Below w.heap.size w w1 := by rw [hw1]; exact (Below.refl _ _).alloc (Nat.le_refl _) _
  have hs1 : w1.heap.size = w.heap.size + 1 := by rw [hw1, World.size_alloc]
  have B0 := Lib.hid hb0
  have HS1 := Lib.hid hs1
  have CA := Lib.hid (fun w' (hb' : Below w1.heap.size w1 w') => fir_cells hw1 hb')
  have HW1 := Lib.hid hw1
  obtain ⟨tt, htt⟩ : ∃ tt, Hid (x * 256 + y = tt) := ⟨_, Lib.hid rfl⟩
  obtain ⟨mm, hmm⟩ : ∃ mm, Hid (z * 256 + u = mm) := ⟨_, Lib.hid rfl⟩
  have ht2 : tt < 65536 := by have := htt.out; omega
  have HE := Lib.hid (show tgstep [x, y, z, u] = if 0 < mm then (0, 2) else if tt = 0 ∧ 0 < mm then (0, 4) else (4 + mm, 0) by rw [← hmm.out, ← htt.out]; rfl)
  have HT := Lib.hid (show tgtyp [x, y, z, u] = tt from htt.out)
  have RA := Lib.hid (h.on hb0)
  have RB := Lib.hid (show Rd w1 w1.heap.size (some ⟨bb, oo + 2, none⟩) [z, u] from (h.on hb0).cutG (f := 2) (c := 4) (by simp))
  have BA := Lib.hid hb
  have BB := Lib.hid (show By [z, u] from hb.drop 2)
  have N1 := fun k => tgnum_any x y tt _ rfl rfl htt.out 4 4 (some ⟨bb, oo, none⟩) (w1.drewN k) (RA.out.on (below_drewN (Below.refl _ _) k)) BA.out rfl
  have N2 := fun k => tgnum_any z u mm _ rfl rfl hmm.out 2 2 (some ⟨bb, oo + 2, none⟩) (w1.drewN k) (RB.out.on (below_drewN (Below.refl _ _) k)) BB.out rfl
  have NN := Lib.hid N1
  have NM := Lib.hid N2
  clear N1 N2 h hb hb0 hs1 hw1 hx hy hbb
  by_cases g1 : 0 < mm
  · have E := Lib.hid (show tgstep [x, y, z, u] = (0, 2) by rw [HE.out, if_pos g1])
    have k1 : (0 : Int) < (mm : Int) := by omega
    clear g1 HE
    go_enter Try.func21, Try.ntmps21
    go_upto_region 1 with fail
    rw [← HW1.out]
    go_wp2_with fail
    go_quiet (first | (go_at_call 26; with_reducible exact Calls.quiet_of (NN.out _)) | (go_at_call 26; with_reducible exact Calls.quiet_of (NM.out _)))
    all_goals
      refine at_worldG (fun W => Hid (Below w1.heap.size w1 W)) (Lib.hid (below_drewN (Below.refl _ _) _)) ?_
      intro W BW
      obtain ⟨s2, q1, q2, q3, q4⟩ := CA.out _ BW.out
      go_wp2_with fail
      refine bodyPost_ret (v := .tuple #[.agg #[.int .u16 0, .slice none 0 0], .int .i64 2]) ?_ rfl (fir_bad E.out (by decide) ?_)
      · rw [results_cell_tmp rfl]; go_simp
      · exact fir_fin B0.out _ _ BW.out
  · obtain rfl : mm = 0 := by omega
    have E := Lib.hid (show tgstep [x, y, z, u] = (4 + 0, 0) by rw [HE.out, if_neg g1, if_neg (fun h => g1 h.2)])
    have p1 : IntKind.u16.wrap (tt : Int) = (tt : Int) := by apply IntWalk.u16_in; omega
    clear g1 HE
    by_cases g2 : tt = 0
    · have k2 : ((tt : Int) == 0) = true := by rw [g2]; rfl
      clear g2
      go_enter Try.func21, Try.ntmps21
      go_upto_region 1 with fail
      rw [← HW1.out]
      go_wp2_with fail
      go_quiet (first | (go_at_call 26; with_reducible exact Calls.quiet_of (NN.out _)) | (go_at_call 26; with_reducible exact Calls.quiet_of (NM.out _)))
      all_goals
        refine at_worldG (fun W => Hid (Below w1.heap.size w1 W)) (Lib.hid (below_drewN (Below.refl _ _) _)) ?_
        intro W BW
        obtain ⟨s2, q1, q2, q3, q4⟩ := CA.out _ BW.out
        go_wp2_with (go_at_call 25; (with_reducible refine (clone_any [] 0 _ _ _ Rd.nil rfl (by omega)).mono ?_); rintro e w5 ⟨A5, c5, rfl, HN⟩; have B5 := Lib.hid (BW.out.trans (HN.2.2.2.mono BW.out.size)); have OW := Lib.hid (own_lo HN.2.1 BW.out.size); clear HN s2 q1 q2 q3 q4; obtain ⟨s2, q1, q2, q3, q4⟩ := CA.out _ B5.out)
        refine bodyPost_ret (v := .tuple #[tgV tt A5 0 c5, .int .i64 0]) ?_ rfl (.inr ⟨A5, c5, 0, E.out, by rw [HT.out], rfl, ?_⟩)
        · rw [results_cell_tmp rfl]; go_simp
        · have ho := fir_own (.int .u16 (tt : Int)) (.slice A5 0 c5) HS1.out OW.out
          exact ⟨ho, Rd.own ho, fir_fin B0.out _ _ B5.out⟩
    · have k2 : ((tt : Int) == 0) = false := by rw [beq_eq_false_iff_ne]; omega
      clear g2
      go_enter Try.func21, Try.ntmps21
      go_upto_region 1 with fail
      rw [← HW1.out]
      go_wp2_with fail
      go_quiet (first | (go_at_call 26; with_reducible exact Calls.quiet_of (NN.out _)) | (go_at_call 26; with_reducible exact Calls.quiet_of (NM.out _)))
      all_goals
        refine at_worldG (fun W => Hid (Below w1.heap.size w1 W)) (Lib.hid (below_drewN (Below.refl _ _) _)) ?_
        intro W BW
        obtain ⟨s2, q1, q2, q3, q4⟩ := CA.out _ BW.out
        go_wp2_with (go_at_call 25; (with_reducible refine (clone_any [] 0 _ _ _ Rd.nil rfl (by omega)).mono ?_); rintro e w5 ⟨A5, c5, rfl, HN⟩; have B5 := Lib.hid (BW.out.trans (HN.2.2.2.mono BW.out.size)); have OW := Lib.hid (own_lo HN.2.1 BW.out.size); clear HN s2 q1 q2 q3 q4; obtain ⟨s2, q1, q2, q3, q4⟩ := CA.out _ B5.out)
        refine bodyPost_ret (v := .tuple #[tgV tt A5 0 c5, .int .i64 0]) ?_ rfl (.inr ⟨A5, c5, 0, E.out, by rw [HT.out], rfl, ?_⟩)
        · rw [results_cell_tmp rfl]; go_simp
        · have ho := fir_own (.int .u16 (tt : Int)) (.slice A5 0 c5) HS1.out OW.out
          exact ⟨ho, Rd.own ho, fir_fin B0.out _ _ B5.out⟩

theorem tgfir_any (b : List Nat) (n c : Nat) (A : Option Addr) (w : World) (h : Rd w w.heap.size A b) (hb : By b) (hl : b.length = n) (hn : n ≤ 1073741824) (hc : n ≤ c) :
    Calls Try.prog 21 #[.slice A n c] w (FirG b w) := by
  by_cases h4 : n < 4
  · exact tgfir_short b n c A w hl h4
  · match b, hl with
    | [], hl => simp at hl; omega
    | [_], hl => simp at hl; omega
    | [_, _], hl => simp at hl; omega
    | [_, _, _], hl => simp at hl; omega
    | x :: y :: z :: u :: t, hl =>
      by_cases hc4 : c = 4
      · subst hc4
        obtain rfl : n = 4 := by omega
        obtain rfl : t = [] := List.eq_nil_of_length_eq_zero (by simpa using hl)
        exact tgfir_four x y z u A w h hb
      · exact tgfir_long x y z u t n c A w h hb (by simpa using hl) hn hc hc4
theorem tgfir_bad (b : List Nat) (q : Nat) (hq : (tgstep b).2 = q) (hq0 : q ≠ 0) (n c : Nat) (A : Option Addr) (w : World) (h : Rd w w.heap.size A b) (hb : By b) (hl : b.length = n) (hn : n ≤ 1073741824) (hc : n ≤ c) :
    Calls Try.prog 21 #[.slice A n c] w fun e w' => e = .returned (.tuple #[.agg #[.int .u16 0, .slice none 0 0], .int .i64 (q : Int)]) ∧ Below w.heap.size w w' :=
  (tgfir_any b n c A w h hb hl hn hc).mono fun e w' hf => by
    rcases hf with ⟨-, h2, h3⟩ | ⟨A, c, n, h1, -⟩
    · exact ⟨by rw [h2, hq], h3⟩
    · rw [h1] at hq; exact absurd hq.symm hq0
theorem tgfir_ok (b : List Nat) (m t : Nat) (hm : tgstep b = (4 + m, 0)) (ht : tgtyp b = t) (n c : Nat) (A : Option Addr) (w : World) (h : Rd w w.heap.size A b) (hb : By b) (hl : b.length = n) (hn : n ≤ 1073741824) (hc : n ≤ c) :
    Calls Try.prog 21 #[.slice A n c] w fun e w' => ∃ A c, e = .returned (.tuple #[tgV t A m c, .int .i64 0]) ∧ New w w' A c m ((b.take (4 + m)).drop 4) :=
  (tgfir_any b n c A w h hb hl hn hc).mono fun e w' hf => by
    rcases hf with ⟨h1, -⟩ | ⟨A, c, n, h1, h2, h3⟩
    · rw [hm] at h1; exact absurd rfl h1
    · rw [hm] at h1
      obtain rfl : m = n := by injection h1 with h1; omega
      exact ⟨A, c, by rw [h2, ht], h3⟩
end Go.Proofs.Ytldadfmcganejaa
