
/-
  The walk of the statement FragLoss: it answers true for every first, most, all octets and every place. Condition: the shapes stand as the start-up lays them ('TabF').
-/
import Derived.Test.YtdeabomcmbgepaaDoorFrgRW
import Derived.IntWalk
namespace Go.Proofs.YtdeabomcmbgepaaDoor
set_option maxRecDepth 4000
open Go.RowKit

theorem frl_at (a k : Nat) (ha : a < 256) (hk : 0 < k) (hk2 : k ≤ 1000) : ∃ i, a % k = i ∧ wrap64 (a : Int) = (a : Int) ∧ (a : Int).tmod (k : Int) = (i : Int) ∧ wrap64 (i : Int) = (i : Int) ∧ i < k := by
  have h := Nat.mod_lt a hk
  refine ⟨a % k, rfl, frw_64 _ (by omega), frd_rem a k _ rfl, frw_64 _ ?_, h⟩
  generalize a % k = q at h
  omega

theorem Rws.takeF {F : Nat → Prop} {w : World} {A : Option Addr} {l : List Pc} (h : Rws shF F w A l) (j : Nat) : Rws shF F w A (l.take j) := fun hl => by
  rw [List.length_take] at hl
  obtain ⟨b, off, h1, h2, h3, h4⟩ := h (by omega)
  refine ⟨b, off, h1, h2, h3, fun k x hx => h4 k x ?_⟩
  rw [List.getElem?_take] at hx
  split at hx
  · exact hx
  · cases hx
theorem Rws.dropF {F : Nat → Prop} {w : World} {b o : Nat} {l : List Pc} {k c : Nat} (h : Rws shF F w (some ⟨b, o, none⟩) l) (hk : k ≤ l.length) (hc : l.length ≤ c) : Rws shF F w (if c = k then some ⟨b, o, none⟩ else some ⟨b, o + k * 4, none⟩) (l.drop k) := fun hl => by
  rw [List.length_drop] at hl
  rw [if_neg (by omega)]
  obtain ⟨b', off, e, h2, h3, h4⟩ := h (by omega)
  injection e with e
  injection e with e1 e2
  subst e1; subst e2
  refine ⟨b, o + k * 4, rfl, h2, h3, fun j x hx => ?_⟩
  obtain ⟨cs, g1, g2⟩ := h4 (k + j) x (by rw [← List.getElem?_drop]; exact hx)
  refine ⟨cs, g1, fun i u hu => ?_⟩
  rw [show o + k * 4 + (j * shF.sz + i) = o + ((k + j) * shF.sz + i) by show o + k * 4 + (j * 4 + i) = o + ((k + j) * 4 + i); omega]
  exact g2 i u hu
theorem frl_cap {T : TypeId} {F : Nat → Prop} {B : Nat} {w : World} {A : Option Addr} {n c : Nat} {xs : List Pc} (h : Orw shF T F B w (.slice A n c) xs) (hn : xs.length = n) : n ≤ c := by
  obtain ⟨A', c', e, h1, _⟩ := h.shape
  injection e with e1 e2 e3
  subst e3
  omega
theorem frdat_app (a b : List Pc) : frdat (a ++ b) = frdat a + frdat b := by unfold frdat; simp
theorem frdat_two (l : List Pc) (a b : Nat) : frdat (l.take a ++ l.drop b) ≤ 2 * frdat l := by
  have h1 : frdat (l.take a) + frdat (l.drop a) = frdat l := by rw [← frdat_app, List.take_append_drop]
  have h2 : frdat (l.take b) + frdat (l.drop b) = frdat l := by rw [← frdat_app, List.take_append_drop]
  rw [frdat_app]
  omega
theorem Orw.formF {T : TypeId} {F : Nat → Prop} {B : Nat} {w : World} {v : Value} {xs : List Pc} {n : Nat} (h : Orw shF T F B w v xs) (hn : xs.length = n) (h0 : 0 < n) : ∃ g c, v = .slice (some ⟨g, 0, none⟩) n c ∧ n ≤ c ∧ B ≤ g ∧ g < w.heap.size ∧ ∀ k, w.frozen? ⟨g, k, none⟩ = false := by
  subst hn
  obtain ⟨css, e1, e2, e3⟩ := h
  rcases e2.2 with ⟨hv, h1⟩ | ⟨g, cap, cur, hv, h1, h2, h3, _⟩
  · omega
  · exact ⟨g, cap, hv, h3, h1, (Array.getElem?_eq_some_iff.1 h2).1, fun k => frozen_of_row w g k _ _ h2⟩
/-- A piece of an own row, its data apart from the row's block. -/
theorem Orw.pcF {T : TypeId} {F : Nat → Prop} {B : Nat} {w : World} {g n c k : Nat} {xs : List Pc} {p : Pc} (h : Orw shF T F B w (.slice (some ⟨g, 0, none⟩) n c) xs) (hk : xs[k]? = some p) :
    ∃ A cd, p.d.length ≤ cd ∧ RdF (fun b => F b ∧ b ≠ g) w A p.d ∧ w.cell? ⟨g, k * 4, none⟩ = some (.bool p.b) ∧ w.cell? ⟨g, k * 4 + 1, none⟩ = some (.bool p.e) ∧ w.cell? ⟨g, k * 4 + 2, none⟩ = some (.int .i64 p.n) ∧ w.cell? ⟨g, k * 4 + 3, none⟩ = some (.slice A p.d.length cd) := by
  obtain ⟨css, h1, h2, h3⟩ := h
  have hall := Orw.all_len h1 h3
  have hkx : k < xs.length := (List.getElem?_eq_some_iff.1 hk).1
  have hkc : k < css.length := by omega
  obtain ⟨A, cd, e, h5, h6⟩ := h3 k p _ hk (List.getElem?_eq_getElem hkc)
  have hc : ∀ (j : Nat) (u : Value), (css[k])[j]? = some u → w.cell? ⟨g, k * 4 + j, none⟩ = some u := by
    intro j u hu
    rcases h2.2 with ⟨_, h0⟩ | ⟨g', cap, cur, hv, hg, hh, hc, hm, hcs, htake⟩
    · omega
    · injection hv with hA hn hc'
      injection hA with hA
      injection hA with hA
      subst hA
      have h7 := flat_put hall (List.getElem?_eq_getElem hkc) hu
      rw [cell_of_row w g _ _ _ _ hh]
      rw [← htake, List.getElem?_take] at h7
      split at h7
      · have h8 : cur[k * shF.sz + j]? = some u := by simpa using h7
        exact h8
      · cases h7
  rw [e] at hc
  refine ⟨A, cd, h5, h6.mono fun b _ hb => ⟨hb.1, fun e => hb.2 ?_⟩, hc 0 _ rfl, hc 1 _ rfl, hc 2 _ rfl, hc 3 _ rfl⟩
  rw [e]; rfl
theorem put4k_keeps (W : World) (g o : Nat) (a b c d : Value) : Keeps (fun i => i ≠ g) W ((((W.setCell ⟨g, o + 0, none⟩ a).setCell ⟨g, o + 1, none⟩ b).setCell ⟨g, o + 2, none⟩ c).setCell ⟨g, o + 3, none⟩ d) :=
  Keeps.of_offs (X := fun i => i = g) ((((Offs.set (X := fun i => i = g) W g (o + 0) a rfl).trans (Offs.set (X := fun i => i = g) _ g (o + 1) b rfl) (fun _ h => h) (fun _ _ h => h)).trans (Offs.set (X := fun i => i = g) _ g (o + 2) c rfl) (fun _ h => h) (fun _ _ h => h)).trans (Offs.set (X := fun i => i = g) _ g (o + 3) d rfl) (fun _ h => h) (fun _ _ h => h)) (fun _ h => h)
/-- A whole piece is written into an own row. -/
theorem Orw.putF {T : TypeId} {F : Nat → Prop} {B : Nat} {w : World} {g n c k : Nat} {xs : List Pc} {p q : Pc} (h : Orw shF T F B w (.slice (some ⟨g, 0, none⟩) n c) xs) (hk : xs[k]? = some p) {A : Option Addr} {cd : Nat} (hd : q.d.length ≤ cd) (hr : RdF (fun b => F b ∧ b ≠ g) w A q.d) :
    Orw shF T F B ((((w.setCell ⟨g, k * 4 + 0, none⟩ (.bool q.b)).setCell ⟨g, k * 4 + 1, none⟩ (.bool q.e)).setCell ⟨g, k * 4 + 2, none⟩ (.int .i64 q.n)).setCell ⟨g, k * 4 + 3, none⟩ (.slice A q.d.length cd)) (.slice (some ⟨g, 0, none⟩) n c) (xs.set k q) := by
  have hl : k < xs.length := (List.getElem?_eq_some_iff.1 hk).1
  have h1 := h.setF_b hk q.b
  have h2 := h1.setF_e (List.getElem?_set_self hl) q.e
  have h3 := h2.setF_n (List.getElem?_set_self (by rw [List.length_set]; exact hl)) q.n
  have h4 := h3.setF_d (List.getElem?_set_self (by rw [List.length_set, List.length_set]; exact hl)) (A := A) (d := q.d) (cd := cd) hd
    (hr.keep (Keeps.of_offs (X := fun i => i = g) (((Offs.set (X := fun i => i = g) w g (k * 4 + 0) _ rfl).trans (Offs.set (X := fun i => i = g) _ g (k * 4 + 1) _ rfl) (fun _ h => h) (fun _ _ h => h)).trans (Offs.set (X := fun i => i = g) _ g (k * 4 + 2) _ rfl) (fun _ h => h) (fun _ _ h => h)) (fun _ h => h.2)))
  rw [List.set_set, List.set_set, List.set_set] at h4
  exact h4
/-- Two pieces of an own row are turned. -/
theorem Orw.swapF {T : TypeId} {F : Nat → Prop} {B : Nat} {w : World} {g n c j k : Nat} {xs : List Pc} {p q : Pc} (h : Orw shF T F B w (.slice (some ⟨g, 0, none⟩) n c) xs) (hj : xs[j]? = some p) (hk : xs[k]? = some q) (hjk : j ≠ k) {A A' : Option Addr} {cd cd' : Nat} (hd : q.d.length ≤ cd) (hr : RdF (fun b => F b ∧ b ≠ g) w A q.d) (hd' : p.d.length ≤ cd') (hr' : RdF (fun b => F b ∧ b ≠ g) w A' p.d) :
    Orw shF T F B ((((((((w.setCell ⟨g, j * 4 + 0, none⟩ (.bool q.b)).setCell ⟨g, j * 4 + 1, none⟩ (.bool q.e)).setCell ⟨g, j * 4 + 2, none⟩ (.int .i64 q.n)).setCell ⟨g, j * 4 + 3, none⟩ (.slice A q.d.length cd)).setCell ⟨g, k * 4 + 0, none⟩ (.bool p.b)).setCell ⟨g, k * 4 + 1, none⟩ (.bool p.e)).setCell ⟨g, k * 4 + 2, none⟩ (.int .i64 p.n)).setCell ⟨g, k * 4 + 3, none⟩ (.slice A' p.d.length cd')) (.slice (some ⟨g, 0, none⟩) n c) ((xs.set j q).set k p) :=
  (h.putF hj hd hr).putF (by rw [List.getElem?_set_ne hjk]; exact hk) hd' (hr'.keep (have kp := put4k_keeps w g (j * 4) (.bool q.b) (.bool q.e) (.int .i64 q.n) (.slice A q.d.length cd); ⟨kp.size, fun b hb hf => kp.block b hb hf.2⟩))
theorem frdat_set : ∀ (l : List Pc) (i : Nat) (p : Pc), frdat (l.set i p) ≤ frdat l + p.d.length
  | [], _, _ => by simp [frdat]
  | a :: t, 0, p => by simp [frdat]; omega
  | a :: t, i + 1, p => by have := frdat_set t i p; simp [frdat] at this ⊢; omega
/-- The empty row in a new block. -/
theorem litF0 {F : Nat → Prop} (w : World) {T : TypeId} : Orw shF T F w.heap.size (w.alloc (.cells #[] T)) (.slice (some ⟨w.heap.size, 0, none⟩) 0 0) [] :=
  Orw.lit w [] rfl (fun k x cs hx _ => by simp at hx) (by simp)

set_option maxHeartbeats 2000000 in
theorem frloss_long (s : Bool) (f0 m0 a0 : Int) (n c : Nat) (A : Option Addr) (w : World) (h : 1000 < n) (hT : TabF w) :
    Calls Tryd.prog 7 #[.bool s, .int .u32 f0, .int .u8 m0, .slice A n c, .int .u8 a0] w fun r w' => r = .returned (.bool true) ∧ Below w.heap.size w w' := by
  have j1 : (1000 : Int) < n := by omega
  have C := Lib.hid (And.intro (Below.refl w.heap.size w) hT)
  clear h hT
  go_enter Tryd.func7, Tryd.ntmps7
  go_wp2_with (go_at_call 8; (with_reducible refine (frspeaks _ C.out.2).mono ?_); rintro r w2 ⟨rfl, hb⟩; replace C := Lib.hid (And.intro (C.out.1.trans (hb.mono C.out.1.size)) (C.out.2.below hb)); clear hb)
  go_ret
  exact ⟨rfl, C.out.1⟩

set_option maxHeartbeats 1000000 in
theorem frloss_walk (s : Bool) (f0 m0 a0 : Nat) (hf0 : f0 < 4294967296) (hm0 : m0 < 256) (ha0 : a0 < 256) (l : List Nat) (n c : Nat) (A : Option Addr) (w : World) (h : Rd w w.heap.size A l) (hb : By l) (hl : l.length = n) (hc : n ≤ c) (hT : TabF w) :
    Calls Tryd.prog 7 #[.bool s, .int .u32 (f0 : Int), .int .u8 (m0 : Int), .slice A n c, .int .u8 (a0 : Int)] w fun r w' => r = .returned (.bool true) ∧ Below w.heap.size w w' := by
  by_cases hlong : 1000 < n
  · exact frloss_long s f0 m0 a0 n c A w hlong hT
  have j1 : ¬ (1000 : Int) < n := by omega
  obtain ⟨i0, hi, hz0, hz1, hz2⟩ := info_parts fr_info
  obtain ⟨y, hy0, hyp, hyl⟩ := frw_mod s
  have hy := Lib.hid hy0
  have hmod := fun W hW => frmod_any s W hW
  rw [hy0] at hmod
  obtain ⟨f, hf⟩ : ∃ f, Hid (f0 % y = f ∧ f < frmod s) := ⟨_, Lib.hid ⟨rfl, by rw [hy0]; exact Nat.mod_lt _ hyp⟩⟩
  obtain ⟨m, hm0', hm1, hm2, t3⟩ := frw_size m0 hm0
  obtain ⟨k, hk0', hk0, hk2⟩ := frw_cnt m n (Nat.le_of_not_lt hlong)
  have hk := Lib.hid hk0'
  obtain ⟨N, hN⟩ : ∃ N, Hid (frnum s f k = N ∧ N < 16777216) := ⟨_, Lib.hid ⟨rfl, by unfold frnum; rw [hy0]; exact Nat.lt_of_lt_of_le (Nat.mod_lt _ hyp) hyl⟩⟩
  have hn1 : n ≤ 1000 := Nat.le_of_not_lt hlong
  obtain ⟨kk, r1, r2, r3, r4, r5⟩ := frl_at a0 k ha0 hk0 hk2
  have RR := Lib.hid (And.intro r1 (And.intro r2 (And.intro r3 (And.intro r4 r5))))
  clear r1 r2 r3 r4 r5
  have y0 : ¬ y = 0 := Nat.pos_iff_ne_zero.1 hyp
  have m9 : ¬ m = 0 := Nat.pos_iff_ne_zero.1 hm1
  have t1 := frw_64 f0 hf0
  have t2 : (f0 : Int).tmod (y : Int) = (f : Int) := frd_rem f0 y f hf.out.1
  have t4 := frw_64 m (Nat.lt_of_le_of_lt hm2 (by decide))
  have t5 := frw_64 m0 (Nat.lt_trans hm0 (by decide))
  have HL := Lib.hid hl
  have HB := Lib.hid hb
  have HC := Lib.hid hc
  have HN := Lib.hid (Nat.le_of_not_lt hlong)
  have HM0 := Lib.hid hm0'
  have HM2 := Lib.hid hm2
  have HM1 := Lib.hid hm1
  have C := Lib.hid (And.intro (Below.refl w.heap.size w) (And.intro hT h))
  clear hlong hf0 hm0 hb hl hc hT h hy0 hyp hyl hm0' hm2 hm1 hk0' hn1
  have HFR := Lib.hid (show f < frmod s from hf.out.2)
  go_enter Tryd.func7, Tryd.ntmps7
  go_upto_region 6 with (first
    | (go_at_call 8; (with_reducible refine (frspeaks _ C.out.2.1).mono ?_); rintro r w2 ⟨rfl, hb⟩; replace C := Lib.hid (And.intro (C.out.1.trans (hb.mono C.out.1.size)) (And.intro (C.out.2.1.below hb) (C.out.2.2.on hb))); clear hb)
    | (go_at_call 22; (with_reducible refine (hmod _ C.out.2.1).mono ?_); rintro r w3 ⟨rfl, hb⟩; replace C := Lib.hid (And.intro (C.out.1.trans (hb.mono C.out.1.size)) (And.intro (C.out.2.1.below hb) (C.out.2.2.on hb))); clear hb)
    | (go_at_call 16; (with_reducible refine (frsplit_ok s f m HFR.out HM1.out (Nat.le_trans HM2.out (by decide)) l n c A _ C.out.2.2 HB.out HL.out (Nat.le_trans HN.out (by decide)) HC.out C.out.2.1 k hk.out).mono ?_); rintro r w5 ⟨A5, c5, rfl, ho5, hb⟩; rw [hN.out.1]; replace C := Lib.hid (And.intro (C.out.1.trans (hb.mono C.out.1.size)) (And.intro (C.out.2.1.below hb) (C.out.2.2.on hb))); have R5 := Lib.hid ho5.read; have HC5 := Lib.hid (frl_cap ho5 (by rw [frpcs_len, HL.out]; exact hk.out)); clear hb ho5))
  obtain ⟨-, r2, r3, r4, r5⟩ := RR.out
  have HKK := Lib.hid r5
  have k9 : ¬ k = 0 := Nat.pos_iff_ne_zero.1 hk0
  clear r5 r4 RR t1 t2 t3 t4 t5 y0 m9 hmod hk0
  go_upto_region 7 with fail
  have PL := Lib.hid (show (frpcs s f m l).length = k by rw [frpcs_len, HL.out]; exact hk.out)
  have h2kk : kk < k := HKK.out
  obtain ⟨b, o, x, A3, c3, hA5, hb3, -⟩ := R5.out.pc (k := kk) (by rw [PL.out]; exact h2kk)
  subst hA5
  have hc5 : k ≤ c5 := HC5.out
  have HTK := Lib.hid (show ((frpcs s f m l).take kk).length = kk by rw [List.length_take, PL.out]; omega)
  have BE := Lib.hid (((Below.refl w5.heap.size w5).alloc (Nat.le_refl _) (.cells #[] 29)).drew)
  have RB := Lib.hid (R5.out.mono (G := fun b => b < w5.heap.size) fun b hb _ => hb)
  have HE := Lib.hid (((litF0 (F := fun b => b < w5.heap.size) w5 (T := 29))).below ((Below.refl _ _).drew))
  have U1 : IntKind.i64.wrap ((kk : Int) + 1) = (kk : Int) + 1 := IntWalk.i64_in _ (by omega)
  have U2 : 0 ≤ (kk : Int) + 1 := by omega
  have U3 : ((kk : Int) + 1).toNat = kk + 1 := by omega
  have U4 : (kk : Int) + 1 ≤ (k : Int) := by omega
  have U5 : (0 : Int) ≤ (kk : Int) := by omega
  have U6 : (kk : Int) ≤ (c5 : Int) := by omega
  have U7 : (k : Int) ≤ (c5 : Int) := by omega
  have U8 : (kk : Int).toNat = kk := by omega
  clear r2 r3 k9
  have DR := Lib.hid (show ∀ (A' : Option Addr), (A' = some ⟨b, o + (kk + 1) * 4, none⟩ ∨ k = kk + 1) → Rws shF (fun b => b < w5.heap.size) w5 A' ((frpcs s f m l).drop (kk + 1)) from fun A' h => by
    by_cases hk1 : k = kk + 1
    · rw [List.drop_of_length_le (by rw [PL.out]; omega)]; exact Rws.nilF
    · have h1 := RB.out.dropF (k := kk + 1) (c := k) (by rw [PL.out]; omega) (by rw [PL.out]; exact Nat.le_refl _)
      rw [if_neg hk1] at h1
      rcases h with rfl | h
      · exact h1
      · exact absurd h hk1)
  have PART : (c5 = kk + 1 ∧ (kk : Int) ≤ (kk : Int) + 1 ∧ (k : Int) ≤ (kk : Int) + 1) ∨ (¬ c5 = kk + 1 ∧ (0 : Int) ≤ kk ∧ (0 : Int) ≤ kk) := by omega
  rcases PART with ⟨hcc, V1, V2⟩ | ⟨hcc, V1, V2⟩
  all_goals
    go_region_held3 (fun _ => True) (trivial) (first
      | ((refine step_rows shF _ (by rfl) _ _ _ (by rfl) 29 i0 (.agg #[.bool false, .bool false, .int .i64 0, .slice none 0 0]) 40 Tryd.underlying41 hi hz0 hz1 hz2 rfl (by decide) (fun b => b < w5.heap.size) _ w5.heap.size _ 0 [] (by rfl) HE.out rfl _ kk _ ((frpcs s f m l).take kk) (by rfl) ((RB.out.takeF kk).below BE.out) HTK.out (fun b _ hb => ⟨hb, fun e => absurd (HE.out.lt e).1 (Nat.not_le.2 hb)⟩) (by unfold maxLen; omega) (by omega) BE.out.size ?_); intro v7 w7 ho7 hg7 hm7; have B7 := Lib.hid (BE.out.grown hg7 BE.out.size (fun g hg => (HE.out.lt hg).1)); have O7 := Lib.hid (show Orw shF 29 (fun b => b < w5.heap.size) w5.heap.size w7 v7 ((frpcs s f m l).take kk) from ho7); clear ho7 hg7 hm7; dsimp only)
      | ((refine step_rows shF _ (by rfl) _ _ _ (by rfl) 29 i0 (.agg #[.bool false, .bool false, .int .i64 0, .slice none 0 0]) 40 Tryd.underlying41 hi hz0 hz1 hz2 rfl (by decide) (fun b => b < w5.heap.size) _ w5.heap.size _ kk ((frpcs s f m l).take kk) (by rfl) O7.out HTK.out _ (k - (kk + 1)) _ ((frpcs s f m l).drop (kk + 1)) (by rfl) ((DR.out _ (by first | exact .inl rfl | exact .inr (by omega))).below B7.out) (by rw [List.length_drop, PL.out]) (fun b _ hb => ⟨hb, fun e => absurd (O7.out.lt e).1 (Nat.not_le.2 hb)⟩) (by unfold maxLen; omega) (by omega) B7.out.size ?_); intro v8 w8 ho8 hg8 hm8; have B8 := Lib.hid (B7.out.grown hg8 B7.out.size (fun g hg => (O7.out.lt hg).1)); have O8 := Lib.hid (show Orw shF 29 (fun b => b < w5.heap.size) w5.heap.size w8 v8 ((frpcs s f m l).take kk ++ (frpcs s f m l).drop (kk + 1)) from ho8); clear ho8 hg8 hm8; dsimp only))
    clear hcc V1 V2 U2 U3 U8 DR
    go_upto_region 8 with fail
    have U9 : (kk : Int) + 1 ≤ (c5 : Int) := by omega
    have U10 : (0 : Int) ≤ (kk : Int) + 1 := by omega
    have U11 : ((kk : Int) + 1).toNat = kk + 1 := by omega
    have U12 : ((kk : Int)).toNat = kk := by omega
    have U13 : ¬ c5 = kk := by omega
    have U14 : (kk : Int) ≤ (k : Int) := by omega
    have S8 := Lib.hid B8.out.size
    have BF := Lib.hid (((Below.refl w8.heap.size w8).alloc (Nat.le_refl _) (.cells #[] 29)).drew)
    have HF := Lib.hid (((litF0 (F := fun b => b < w5.heap.size) w8 (T := 29))).below ((Below.refl _ _).drew))
    have R8 := Lib.hid (RB.out.below B8.out)
    have HT1 := Lib.hid (show ((frpcs s f m l).take (kk + 1)).length = kk + 1 by rw [List.length_take, PL.out]; omega)
    have DR2 := Lib.hid (show Rws shF (fun b => b < w5.heap.size) w8 (some ⟨b, o + kk * 4, none⟩) ((frpcs s f m l).drop kk) by
      have h1 := R8.out.dropF (k := kk) (c := k) (by rw [PL.out]; omega) (by rw [PL.out]; exact Nat.le_refl _)
      rw [if_neg (by omega)] at h1
      exact h1)
    go_region_held3 (fun _ => True) (trivial) (first
      | ((refine step_rows shF _ (by rfl) _ _ _ (by rfl) 29 i0 (.agg #[.bool false, .bool false, .int .i64 0, .slice none 0 0]) 40 Tryd.underlying41 hi hz0 hz1 hz2 rfl (by decide) (fun b => b < w5.heap.size) _ w8.heap.size _ 0 [] (by rfl) HF.out rfl _ (kk + 1) _ ((frpcs s f m l).take (kk + 1)) (by rfl) ((R8.out.takeF (kk + 1)).below BF.out) HT1.out (fun b _ hb => ⟨hb, fun e => absurd (HF.out.lt e).1 (Nat.not_le.2 (Nat.lt_of_lt_of_le hb S8.out))⟩) (by unfold maxLen; omega) (by omega) BF.out.size ?_); intro v9 w9 ho9 hg9 hm9; have B9 := Lib.hid (BF.out.grown hg9 BF.out.size (fun g hg => (HF.out.lt hg).1)); have O9 := Lib.hid (show Orw shF 29 (fun b => b < w5.heap.size) w8.heap.size w9 v9 ((frpcs s f m l).take (kk + 1)) from ho9); clear ho9 hg9 hm9; dsimp only)
      | ((refine step_rows shF _ (by rfl) _ _ _ (by rfl) 29 i0 (.agg #[.bool false, .bool false, .int .i64 0, .slice none 0 0]) 40 Tryd.underlying41 hi hz0 hz1 hz2 rfl (by decide) (fun b => b < w5.heap.size) _ w8.heap.size _ (kk + 1) ((frpcs s f m l).take (kk + 1)) (by rfl) O9.out HT1.out _ (k - kk) _ ((frpcs s f m l).drop kk) (by rfl) (DR2.out.below B9.out) (by rw [List.length_drop, PL.out]) (fun b _ hb => ⟨hb, fun e => absurd (O9.out.lt e).1 (Nat.not_le.2 (Nat.lt_of_lt_of_le hb S8.out))⟩) (by unfold maxLen; omega) (by omega) B9.out.size ?_); intro v10 w10 ho10 hg10 hm10; have B10 := Lib.hid (B9.out.grown hg10 B9.out.size (fun g hg => (O9.out.lt hg).1)); have O10 := Lib.hid (show Orw shF 29 (fun b => b < w5.heap.size) w8.heap.size w10 v10 ((frpcs s f m l).take (kk + 1) ++ (frpcs s f m l).drop kk) from ho10); clear ho10 hg10 hm10; dsimp only))
    clear U1 U4 U5 U6 U7 U9 U10 U11 U12 U13 U14
    replace O8 := Lib.hid (O8.out.below B10.out)
    have BX := Lib.hid (B8.out.trans (B10.out.mono S8.out))
    clear HF HE BF BE B9 B7 O7 O9 DR2
    obtain ⟨A8, c8, hv8, -, -, hr8⟩ := O8.out.slice
    obtain ⟨A10, c10, hv10, -, -, hr10⟩ := O10.out.slice
    have R11 := Lib.hid hr8
    have R12 := Lib.hid hr10
    obtain ⟨n8, hn8⟩ : ∃ n8, ((frpcs s f m l).take kk ++ (frpcs s f m l).drop (kk + 1)).length = n8 := ⟨_, rfl⟩
    obtain ⟨n10, hn10⟩ : ∃ n10, ((frpcs s f m l).take (kk + 1) ++ (frpcs s f m l).drop kk).length = n10 := ⟨_, rfl⟩
    rw [hn8] at hv8
    rw [hn10] at hv10
    have M8 := Lib.hid (show n8 ≤ 274877906944 by rw [List.length_append, List.length_take, List.length_drop, PL.out] at hn8; omega)
    have M10 := Lib.hid (show n10 ≤ 274877906944 by rw [List.length_append, List.length_take, List.length_drop, PL.out] at hn10; omega)
    have FD := frjoin_len (frpcs s f m l)
    rw [frpcs_join s f m l HM1.out, HL.out] at FD
    have FN := HN.out
    have D8 := Lib.hid (show frdat ((frpcs s f m l).take kk ++ (frpcs s f m l).drop (kk + 1)) ≤ 274877906944 from Nat.le_trans (frdat_two _ _ _) (by omega))
    have D10 := Lib.hid (show frdat ((frpcs s f m l).take (kk + 1) ++ (frpcs s f m l).drop kk) ≤ 274877906944 from Nat.le_trans (frdat_two _ _ _) (by omega))
    obtain ⟨q8, hq8⟩ : ∃ q8, frglueE s ((frpcs s f m l).take kk ++ (frpcs s f m l).drop (kk + 1)) = q8 := ⟨_, rfl⟩
    obtain ⟨q10, hq10⟩ : ∃ q10, frglueE s ((frpcs s f m l).take (kk + 1) ++ (frpcs s f m l).drop kk) = q10 := ⟨_, rfl⟩
    obtain ⟨z8, hz8⟩ : ∃ z8, Hid ((frglueA s ((frpcs s f m l).take kk ++ (frpcs s f m l).drop (kk + 1))).length = z8) := ⟨_, Lib.hid rfl⟩
    obtain ⟨z10, hz10⟩ : ∃ z10, Hid ((frglueA s ((frpcs s f m l).take (kk + 1) ++ (frpcs s f m l).drop kk)).length = z10) := ⟨_, Lib.hid rfl⟩
    have kl : kk < frcnt m l.length := by rw [HL.out, hk.out]; exact h2kk
    have J8 : ((q8 : Int) == 0) = false := by have := frloss_less s f m l kk kl; rw [hq8] at this; rw [beq_eq_false_iff_ne]; omega
    have J10 : ((q10 : Int) == 0) = false := by have := frloss_twice s f m l kk kl; rw [hq10] at this; rw [beq_eq_false_iff_ne]; omega
    subst hv8 hv10
    have Q8 := Lib.hid hq8
    have Q10 := Lib.hid hq10
    have L8 := Lib.hid hn8
    have L10 := Lib.hid hn10
    replace C := Lib.hid (And.intro (C.out.1.trans (BX.out.mono C.out.1.size)) (And.intro (C.out.2.1.below BX.out) (C.out.2.2.on BX.out)))
    replace RB := Lib.hid (RB.out.below BX.out)
    clear hr8 hr10 hn8 hn10 FD FN hq8 hq10 O8 O10 R8 B10 B8
    go_upto_region 11 with (first
      | (go_at_call 18; (with_reducible refine (frglue_any s ((frpcs s f m l).take kk ++ (frpcs s f m l).drop (kk + 1)) n8 c8 A8 _ _ R11.out L8.out M8.out D8.out q8 z8 Q8.out hz8.out C.out.2.1).mono ?_); rintro r w11 ⟨A11, c11, rfl, HN11⟩; replace C := Lib.hid (And.intro (C.out.1.trans (HN11.2.2.2.mono C.out.1.size)) (And.intro (C.out.2.1.below HN11.2.2.2) (C.out.2.2.on HN11.2.2.2))); replace RB := Lib.hid (RB.out.below HN11.2.2.2); have SX11 := Lib.hid HN11.2.2.2.size; replace R12 := Lib.hid (R12.out.below HN11.2.2.2); clear HN11)
      | (go_at_call 18; (with_reducible refine (frglue_any s ((frpcs s f m l).take (kk + 1) ++ (frpcs s f m l).drop kk) n10 c10 A10 _ _ R12.out L10.out M10.out D10.out q10 z10 Q10.out hz10.out C.out.2.1).mono ?_); rintro r w12 ⟨A12, c12, rfl, HN12⟩; replace C := Lib.hid (And.intro (C.out.1.trans (HN12.2.2.2.mono C.out.1.size)) (And.intro (C.out.2.1.below HN12.2.2.2) (C.out.2.2.on HN12.2.2.2))); replace RB := Lib.hid (RB.out.below HN12.2.2.2); have SXX := Lib.hid (Nat.le_trans SX11.out HN12.2.2.2.size); clear HN12))
    by_cases hk0 : kk = 0
    · have e0 : ((kk : Int) == 0) = true := by rw [hk0]; rfl
      go_wp2_with fail
      go_ret
      exact ⟨rfl, C.out.1⟩
    · have e0 : ((kk : Int) == 0) = false := by rw [beq_eq_false_iff_ne]; omega
      clear R11 R12 L8 L10 M8 M10 D8 D10 Q8 Q10 hz8 hz10
      go_upto_region 15 with fail
      have S12 := Lib.hid (show w5.heap.size ≤ w12.heap.size from Nat.le_trans BX.out.size SXX.out)
      go_upto_region 16 with (at_builtin; refine list_rows shF rfl _ _ _ rfl 29 i0 (.agg #[.bool false, .bool false, .int .i64 0, .slice none 0 0]) 40 Tryd.underlying41 hi hz0 hz1 hz2 rfl (by decide) (fun b => b < w5.heap.size) _ w12.heap.size _ 0 [] rfl (litF0 w12) rfl _ k _ (frpcs s f m l) rfl (RB.out.below ((Below.refl _ _).alloc (Nat.le_refl _) _)) PL.out (fun b _ hb => ⟨hb, fun e => absurd ((litF0 (F := fun b => b < w5.heap.size) w12 (T := 29)).lt e).1 (Nat.not_le.2 (Nat.lt_of_lt_of_le hb S12.out))⟩) (by unfold maxLen; omega) (by omega) ((Below.refl w12.heap.size w12).alloc (Nat.le_refl _) (.cells #[] 29)).size ?_; intro v15 w15 ho15 hg15 hm15; have B15 := Lib.hid (((Below.refl w12.heap.size w12).alloc (Nat.le_refl _) (.cells #[] 29)).grown hg15 ((Below.refl w12.heap.size w12).alloc (Nat.le_refl _) (.cells #[] 29)).size (fun g hg => ((litF0 (F := fun b => b < w5.heap.size) w12 (T := 29)).lt hg).1)); have O15 := Lib.hid (show Orw shF 29 (fun b => b < w5.heap.size) w12.heap.size w15 v15 (frpcs s f m l) from ho15); clear hg15 hm15 ho15)
      obtain ⟨g, c15, hv15, hck, hg1, hg2, hfz⟩ := O15.out.formF PL.out (Nat.lt_of_le_of_lt (Nat.zero_le _) h2kk)
      subst hv15
      obtain ⟨j, hj⟩ : ∃ j, kk = j + 1 := ⟨kk - 1, by omega⟩
      have pj := frpcs_at s f m l (i := j) (by omega)
      have pk := frpcs_at s f m l (i := kk) kl
      obtain ⟨Pj, HPj⟩ : ∃ P, Hid (frpc s f m l j = P) := ⟨_, Lib.hid rfl⟩
      obtain ⟨Pk, HPk⟩ : ∃ P, Hid (frpc s f m l kk = P) := ⟨_, Lib.hid rfl⟩
      rw [HPj.out] at pj
      rw [HPk.out] at pk
      have O16 := O15.out
      have LJ := Lib.hid (frw_step pj HM1.out HB.out).2.2.2.2
      have LK := Lib.hid (frw_step pk HM1.out HB.out).2.2.2.2
      obtain ⟨Aj, cj, dj, rj, j0, j1', j2, j3⟩ := O16.pcF pj
      obtain ⟨Ak, ck, dk, rk, k0, k1, k2, k3⟩ := O16.pcF pk
      obtain ⟨uj, huj⟩ : ∃ u, Pj.d.length = u := ⟨_, rfl⟩
      obtain ⟨uk, huk⟩ : ∃ u, Pk.d.length = u := ⟨_, rfl⟩
      have SW := Lib.hid (O16.swapF pj pk (by omega) dk rk dj rj)
      rw [huj, huk] at SW
      rw [huj] at j3
      rw [huk] at k3
      have hfd : ∀ i, w15.drew.frozen? ⟨g, i, none⟩ = false := hfz
      have dj0 : w15.drew.cell? ⟨g, j * 4, none⟩ = some (.bool Pj.b) := j0
      have dj1 : w15.drew.cell? ⟨g, j * 4 + 1, none⟩ = some (.bool Pj.e) := j1'
      have dj2 : w15.drew.cell? ⟨g, j * 4 + 2, none⟩ = some (.int .i64 Pj.n) := j2
      have dj3 : w15.drew.cell? ⟨g, j * 4 + 3, none⟩ = some (.slice Aj uj cj) := j3
      have dk0 : w15.drew.cell? ⟨g, kk * 4, none⟩ = some (.bool Pk.b) := k0
      have dk1 : w15.drew.cell? ⟨g, kk * 4 + 1, none⟩ = some (.bool Pk.e) := k1
      have dk2 : w15.drew.cell? ⟨g, kk * 4 + 2, none⟩ = some (.int .i64 Pk.n) := k2
      have dk3 : w15.drew.cell? ⟨g, kk * 4 + 3, none⟩ = some (.slice Ak uk ck) := k3
      have W0 : (0 : Int) ≤ (j : Int) := by omega
      have W1 : (j : Int) < (k : Int) := by omega
      have W2 : (0 : Int) ≤ (kk : Int) := by omega
      have W3 : (kk : Int) < (k : Int) := by omega
      have hfz' : ∀ i, w15.frozen? ⟨g, i, none⟩ = false := hfz
      have W4 : IntKind.i64.wrap ((kk : Int) - 1) = (j : Int) := by rw [hj]; exact (congrArg _ (by omega)).trans (IntWalk.i64_in _ (by omega))
      have W5 : (kk : Int) = (j : Int) + 1 := by omega
      have N0 : ¬ j = kk := by omega
      have N0' : ¬ kk = j := by omega
      have N1 : ¬ j * 4 = kk * 4 := by omega
      have N1' : ¬ kk * 4 = j * 4 := by omega
      have N2 : ¬ j * 4 = kk * 4 + 1 := by omega
      have N2' : ¬ kk * 4 + 1 = j * 4 := by omega
      have N3 : ¬ j * 4 = kk * 4 + 2 := by omega
      have N3' : ¬ kk * 4 + 2 = j * 4 := by omega
      have N4 : ¬ j * 4 = kk * 4 + 3 := by omega
      have N4' : ¬ kk * 4 + 3 = j * 4 := by omega
      have N5 : ¬ j * 4 + 1 = kk * 4 := by omega
      have N5' : ¬ kk * 4 = j * 4 + 1 := by omega
      have N6 : ¬ j * 4 + 1 = kk * 4 + 1 := by omega
      have N6' : ¬ kk * 4 + 1 = j * 4 + 1 := by omega
      have N7 : ¬ j * 4 + 1 = kk * 4 + 2 := by omega
      have N7' : ¬ kk * 4 + 2 = j * 4 + 1 := by omega
      have N8 : ¬ j * 4 + 1 = kk * 4 + 3 := by omega
      have N8' : ¬ kk * 4 + 3 = j * 4 + 1 := by omega
      have N9 : ¬ j * 4 + 2 = kk * 4 := by omega
      have N9' : ¬ kk * 4 = j * 4 + 2 := by omega
      have N10 : ¬ j * 4 + 2 = kk * 4 + 1 := by omega
      have N10' : ¬ kk * 4 + 1 = j * 4 + 2 := by omega
      have N11 : ¬ j * 4 + 2 = kk * 4 + 2 := by omega
      have N11' : ¬ kk * 4 + 2 = j * 4 + 2 := by omega
      have N12 : ¬ j * 4 + 2 = kk * 4 + 3 := by omega
      have N12' : ¬ kk * 4 + 3 = j * 4 + 2 := by omega
      have N13 : ¬ j * 4 + 3 = kk * 4 := by omega
      have N13' : ¬ kk * 4 = j * 4 + 3 := by omega
      have N14 : ¬ j * 4 + 3 = kk * 4 + 1 := by omega
      have N14' : ¬ kk * 4 + 1 = j * 4 + 3 := by omega
      have N15 : ¬ j * 4 + 3 = kk * 4 + 2 := by omega
      have N15' : ¬ kk * 4 + 2 = j * 4 + 3 := by omega
      have N16 : ¬ j * 4 + 3 = kk * 4 + 3 := by omega
      have N16' : ¬ kk * 4 + 3 = j * 4 + 3 := by omega
      have HJ := Lib.hid hj
      have HFZ := Lib.hid hfz
      have KL := Lib.hid kl
      clear O16 hj dj rj dk rk pj pk huj huk hk0 kl W5
      go_region
      have HG := Lib.hid hg1
      have BN := fun (i : Nat) (W : World) (u : Value) (h : Below w12.heap.size w12 W) => h.setCell (p := ⟨g, i, none⟩) HG.out u
      with_reducible refine at_worldF (fun W => Hid (Orw shF 29 (fun b => b < w5.heap.size) w12.heap.size W (.slice (some ⟨g, 0, none⟩) k c15) (((frpcs s f m l).set j Pk).set kk Pj)) ∧ Hid (Below w12.heap.size w12 W)) ⟨Lib.hid (SW.out.below (Below.refl _ _).drew), Lib.hid (BN _ _ _ (BN _ _ _ (BN _ _ _ (BN _ _ _ (BN _ _ _ (BN _ _ _ (BN _ _ _ (BN _ _ _ B15.out)))))))).drew⟩ ?_
      clear SW BN HFZ O15 R5 B15
      rintro w16 ⟨O, BW⟩
      have R16 := Lib.hid O.out.read
      have L16 := Lib.hid (show (((frpcs s f m l).set j Pk).set kk Pj).length = k by rw [List.length_set, List.length_set]; exact PL.out)
      have FD := frjoin_len (frpcs s f m l)
      rw [frpcs_join s f m l HM1.out, HL.out] at FD
      have FN := HN.out
      have HLL := HL.out
      have D16 := Lib.hid (show frdat (((frpcs s f m l).set j Pk).set kk Pj) ≤ 274877906944 from by
        have h1 := frdat_set ((frpcs s f m l).set j Pk) kk Pj
        have h2 := frdat_set (frpcs s f m l) j Pk
        have h3 := LJ.out
        have h4 := LK.out
        omega)
      have T16 := frloss_turn s f m l kk KL.out (by have := HJ.out; omega)
      rw [show kk - 1 = j by have := HJ.out; omega, HPj.out, HPk.out] at T16
      obtain ⟨qt, hqt⟩ : ∃ qt, frglueE s (((frpcs s f m l).set j Pk).set kk Pj) = qt := ⟨_, rfl⟩
      obtain ⟨zt, hzt⟩ : ∃ zt, Hid ((frglueA s (((frpcs s f m l).set j Pk).set kk Pj)).length = zt) := ⟨_, Lib.hid rfl⟩
      rw [hqt] at T16
      have QT := Lib.hid hqt
      replace C := Lib.hid (And.intro (C.out.1.trans (BW.out.mono C.out.1.size)) (C.out.2.1.below BW.out))
      clear hqt FD FN HLL
      rcases T16 with rfl | rfl
      all_goals
        go_wp2_with (go_at_call 18; (with_reducible refine (frglue_any s (((frpcs s f m l).set j Pk).set kk Pj) k c15 (some ⟨g, 0, none⟩) _ _ R16.out L16.out (Nat.le_trans hk2 (by decide)) D16.out _ zt QT.out hzt.out C.out.2).mono ?_); rintro r w17 ⟨A17, c17, rfl, HN17⟩; replace C := Lib.hid (And.intro (C.out.1.trans (HN17.2.2.2.mono C.out.1.size)) (C.out.2.below HN17.2.2.2)); clear HN17)
        go_ret
        exact ⟨rfl, C.out.1⟩
end Go.Proofs.YtdeabomcmbgepaaDoor
