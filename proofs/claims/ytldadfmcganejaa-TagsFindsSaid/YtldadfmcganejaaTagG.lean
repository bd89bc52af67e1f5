
/-
  What the document's Get of tags answers. No condition beyond: at most 2^30 octets.
-/
import Derived.Test.YtldadfmcganejaaTagI
namespace Go.Proofs.Ytldadfmcganejaa
set_option maxRecDepth 4000
open Go.RowKit

/-- What Get answers: a row of its own, whose data lie anywhere. -/
def GetG (T : TypeId) (b : List Nat) (w : World) (e : Ending) (w' : World) : Prop :=
  ∃ v, e = .returned (.tuple #[v, .int .i64 ((tgget b).2.1 : Int), .int .i64 ((tgget b).2.2 : Int)]) ∧ Orw shG T (fun _ => True) w.heap.size w' v (tgget b).1 ∧ Below w.heap.size w w'
theorem getG_bad {T : TypeId} {b : List Nat} {k : Nat} {w w' : World} (h : tgget b = ([], 0, k)) (hb : Below w.heap.size w w') :
    GetG T b w (.returned (.tuple #[.slice none 0 0, .int .i64 0, .int .i64 (k : Int)])) w' := ⟨_, by rw [h]; rfl, by rw [h]; exact Orw.nil _ _ _ _ _, hb⟩
theorem getG_end {T : TypeId} {b : List Nat} {w w' : World} (h : tgget b = ([], 4, 0)) (hb : Below w.heap.size w w') :
    GetG T b w (.returned (.tuple #[.slice none 0 0, .int .i64 4, .int .i64 0])) w' := ⟨_, by rw [h]; rfl, by rw [h]; exact Orw.nil _ _ _ _ _, hb⟩
theorem Rd.cutG {w : World} {B b o : Nat} {l : List Nat} (h : Rd w B (some ⟨b, o, none⟩) l) {f c : Nat} (hc : l.length ≤ c) : Rd w B (if c = f then some ⟨b, o, none⟩ else some ⟨b, o + f, none⟩) (l.drop f) := by
  by_cases hf : l.length ≤ f
  · rw [List.drop_eq_nil_of_le hf]; exact Rd.nil
  · rw [if_neg (by omega)]
    intro hl
    obtain ⟨b', o', e, hb, hcell⟩ := h (by omega)
    injection e with e
    injection e with e1 e2
    subst e1; subst e2
    exact ⟨b, o + f, rfl, hb, fun k x hx => by rw [Nat.add_assoc]; exact hcell (f + k) x (by rw [← List.getElem?_drop]; exact hx)⟩
/-- A row read, its data in blocks that there are. -/
theorem Rws.there {F : Nat → Prop} {w : World} {A : Option Addr} {l : List (Nat × List Nat)} (h : Rws shG F w A l) : Rws shG (fun b => b < w.heap.size) w A l := h.mono fun _ hb _ => hb

set_option maxHeartbeats 2000000 in
theorem tgrget_nil (c : Nat) (A : Option Addr) (w : World) : Calls Try.prog 13 #[.slice A 0 c] w (GetG 48 [] w) := by
  go_enter Try.func13, Try.ntmps13
  go_wp2_with fail
  go_ret3
  exact getG_bad rfl (Below.refl _ _)

set_option maxHeartbeats 2000000 in
theorem tgrget_short (b : List Nat) (n c : Nat) (A : Option Addr) (w : World) (h0 : 0 < n) (h4 : n < 4) (hg : tgget b = ([], 0, 2)) : Calls Try.prog 13 #[.slice A n c] w (GetG 48 b w) := by
  have i1 : ((n : Int) == 0) = false := by rw [beq_eq_false_iff_ne]; omega
  have i2 : (n : Int) < 4 := by omega
  have HG := Lib.hid hg
  clear h0 h4 hg
  go_enter Try.func13, Try.ntmps13
  go_wp2_with fail
  go_ret3
  exact getG_bad HG.out (Below.refl _ _)

theorem tgget_len (b : List Nat) (hb : By b) : 4 * (tgget b).1.length ≤ b.length ∧ (tgget b).2.1 ≤ b.length := by
  by_cases h : (tgget b).2.2 = 0
  · obtain ⟨h1, -, -, h4, -⟩ := tgput_get b hb h
    refine ⟨?_, h4⟩
    have h5 := congrArg List.length h1
    rw [List.length_take] at h5
    have h6 := tgput_len (tgget b).1
    omega
  · obtain ⟨h1, h2⟩ := tgget_err b h
    rw [h1, h2]
    exact ⟨Nat.zero_le _, Nat.zero_le _⟩
/-- The row of an answer so far. -/
structure GG (T : TypeId) (w W : World) (v : Value) (l : List (Nat × List Nat)) : Prop where
  own : Orw shG T (fun _ => True) w.heap.size W v l
  bel : Below w.heap.size w W

set_option maxHeartbeats 8000000 in
theorem tgrget_aux (N : Nat) : ∀ (b : List Nat) (n c : Nat) (A : Option Addr) (w : World), n ≤ N → n ≤ 1073741824 → Rd w w.heap.size A b → By b → b.length = n → n ≤ c → Calls Try.prog 13 #[.slice A n c] w (GetG 48 b w) := by
  induction N with
  | zero =>
    intro b n c A w hN hn hR hB hl hc
    obtain rfl : n = 0 := by omega
    obtain rfl : b = [] := List.eq_nil_of_length_eq_zero hl
    exact tgrget_nil c A w
  | succ N ih =>
    intro b n c A w hN hn hR hB hl hc
    match b, hl with
    | [], hl => obtain rfl : n = 0 := by simpa using hl.symm
                exact tgrget_nil c A w
    | [x], hl => exact tgrget_short _ _ _ _ _ (by rw [← hl]; simp) (by rw [← hl]; simp) rfl
    | [x, y], hl => exact tgrget_short _ _ _ _ _ (by rw [← hl]; simp) (by rw [← hl]; simp) rfl
    | [x, y, z], hl => exact tgrget_short _ _ _ _ _ (by rw [← hl]; simp) (by rw [← hl]; simp) rfl
    | x :: y :: z :: u :: t, hl =>
      have hx : x < 256 := hB x (by simp)
      have hy : y < 256 := hB y (by simp)
      have hz : z < 256 := hB z (by simp)
      have hu : u < 256 := hB u (by simp)
      have hlen : t.length + 4 = n := by simpa using hl
      obtain ⟨bb, oo, x', rfl, hbb, hx', c0⟩ := hR.at_ (k := 0) (by simp)
      obtain ⟨bb1, oo1, y', e1, -, hy', c1⟩ := hR.at_ (k := 1) (by simp)
      injection e1 with e1
      injection e1 with e1 e1'
      subst e1; subst e1'
      obtain ⟨bb1, oo1, z', e1, -, hz', c2⟩ := hR.at_ (k := 2) (by simp)
      injection e1 with e1
      injection e1 with e1 e1'
      subst e1; subst e1'
      obtain ⟨bb1, oo1, u', e1, -, hu', c3⟩ := hR.at_ (k := 3) (by simp)
      injection e1 with e1
      injection e1 with e1 e1'
      subst e1; subst e1'
      obtain rfl : x = x' := by simpa using hx'
      obtain rfl : y = y' := by simpa using hy'
      obtain rfl : z = z' := by simpa using hz'
      obtain rfl : u = u' := by simpa using hu'
      clear hx' hy' hz' hu'
      obtain ⟨ax, hax⟩ : ∃ a, x * 256 = a := ⟨_, rfl⟩
      obtain ⟨az, haz⟩ : ∃ a, z * 256 = a := ⟨_, rfl⟩
      obtain ⟨tt, htt⟩ : ∃ a, ax + y = a := ⟨_, rfl⟩
      obtain ⟨mm, hmm⟩ : ∃ a, az + u = a := ⟨_, rfl⟩
      obtain ⟨n4, hn4⟩ : ∃ a, n - 4 = a := ⟨_, rfl⟩
      have HS := Lib.hid (show tgstep (x :: y :: z :: u :: t) = if n4 < mm then (0, 2) else if tt = 0 ∧ 0 < mm then (0, 4) else (4 + mm, 0) by
        simp only [tgstep]
        rw [hax, haz, htt, hmm, show t.length = n4 by omega])
      have HT := Lib.hid (show tgtyp (x :: y :: z :: u :: t) = tt by simp only [tgtyp]; rw [hax, htt])
      have HNE := Lib.hid (show (x :: y :: z :: u :: t) ≠ [] from fun e => by cases e)
      have i1 : ((n : Int) == 0) = false := by rw [beq_eq_false_iff_ne]; omega
      have i2 : ¬ (n : Int) < 4 := by omega
      have q0 : 0 < n := by omega
      rw [Nat.add_zero] at c0
      have q1 : (1 : Int) < (n : Int) := by omega
      have q2 : (2 : Int) < (n : Int) := by omega
      have q3 : (3 : Int) < (n : Int) := by omega
      have p1 : (x : Int) * 256 = (ax : Int) := by omega
      have p2 : IntKind.i64.wrap (ax : Int) = (ax : Int) := IntWalk.i64_in _ (by omega)
      have p3 : (ax : Int) + (y : Int) = (tt : Int) := by omega
      have p4 : IntKind.i64.wrap (tt : Int) = (tt : Int) := IntWalk.i64_in _ (by omega)
      have p5 : (z : Int) * 256 = (az : Int) := by omega
      have p6 : IntKind.i64.wrap (az : Int) = (az : Int) := IntWalk.i64_in _ (by omega)
      have p7 : (az : Int) + (u : Int) = (mm : Int) := by omega
      have p8 : IntKind.i64.wrap (mm : Int) = (mm : Int) := IntWalk.i64_in _ (by omega)
      have p9 : (n : Int) - 4 = (n4 : Int) := by omega
      have p10 : IntKind.i64.wrap (n4 : Int) = (n4 : Int) := IntWalk.i64_in _ (by omega)
      have HR := Lib.hid hR
      have HB := Lib.hid hB
      have HL := Lib.hid hl
      have htt2 : tt < 65536 := by omega
      have hmm2 : mm < 65536 := by omega
      have hn42 : n4 + 4 = n := by omega
      clear hR hB hl hlen hx hy hz hu hax haz htt hmm hn4
      by_cases g1 : n4 < mm
      · have j1 : (n4 : Int) < (mm : Int) := by omega
        have E := Lib.hid (show tgget (x :: y :: z :: u :: t) = ([], 0, 2) by
          have hs : tgstep (x :: y :: z :: u :: t) = (0, 2) := by rw [HS.out, if_pos g1]
          rw [tgget_bad HNE.out (by rw [hs]; decide), hs])
        clear g1
        go_enter Try.func13, Try.ntmps13
        go_wp2_with fail
        go_quiet (fail)
        all_goals go_wp2_with fail
        go_quiet (fail)
        all_goals go_wp2_with fail
        go_ret3
        exact getG_bad E.out (below_drewN (Below.refl _ _) _)
      have j1 : ¬ (n4 : Int) < (mm : Int) := by omega
      by_cases g2 : tt = 0
      · have j2 : ((tt : Int) == 0) = true := by rw [g2]; rfl
        by_cases g3 : 0 < mm
        · have j3 : (0 : Int) < (mm : Int) := by omega
          have E := Lib.hid (show tgget (x :: y :: z :: u :: t) = ([], 0, 4) by
            have hs : tgstep (x :: y :: z :: u :: t) = (0, 4) := by rw [HS.out, if_neg g1, if_pos ⟨g2, g3⟩]
            rw [tgget_bad HNE.out (by rw [hs]; decide), hs])
          clear g1 g2 g3
          go_enter Try.func13, Try.ntmps13
          go_wp2_with fail
          go_quiet (fail)
          all_goals go_wp2_with fail
          go_quiet (fail)
          all_goals go_wp2_with fail
          go_ret3
          exact getG_bad E.out (below_drewN (Below.refl _ _) _)
        · have j3 : ¬ (0 : Int) < (mm : Int) := by omega
          have E := Lib.hid (show tgget (x :: y :: z :: u :: t) = ([], 4, 0) from tgget_end (by rw [HS.out, if_neg g1, if_neg (fun h => g3 h.2)]) (by rw [HT.out, g2]))
          clear g1 g2 g3
          go_enter Try.func13, Try.ntmps13
          go_wp2_with fail
          go_quiet (fail)
          all_goals go_wp2_with fail
          go_quiet (fail)
          all_goals go_wp2_with fail
          go_ret3
          exact getG_end E.out (below_drewN (Below.refl _ _) _)
      have j2 : ((tt : Int) == 0) = false := by rw [beq_eq_false_iff_ne]; omega
      obtain ⟨i0, hi, hz0, hz1, hz2⟩ := info_parts rtag_info
      obtain ⟨k4, hk4⟩ : ∃ a, 4 + mm = a := ⟨_, rfl⟩
      have hs : tgstep (x :: y :: z :: u :: t) = (k4, 0) := by rw [HS.out, if_neg g1, if_neg (fun h => g2 h.1), hk4]
      obtain ⟨dat, hdat⟩ : ∃ d, ((x :: y :: z :: u :: t).take k4).drop 4 = d := ⟨_, rfl⟩
      obtain ⟨r, hr⟩ : ∃ r, (x :: y :: z :: u :: t).drop k4 = r := ⟨_, rfl⟩
      obtain ⟨l2, m2, e2, hG⟩ : ∃ l m e, tgget r = (l, m, e) := ⟨_, _, _, rfl⟩
      have E0 := tgget_ok (b := x :: y :: z :: u :: t) (by rw [hs]) (by rw [HT.out]; exact g2)
      rw [hs, HT.out] at E0
      dsimp only at E0
      rw [hdat, hr, hG] at E0
      have hBr : By r := by rw [← hr]; exact HB.out.drop _
      have hlr : r.length = n - k4 := by rw [← hr, List.length_drop, HL.out]
      have hlen2 := tgget_len r hBr
      rw [hG, hlr] at hlen2
      obtain ⟨hl2, hm2⟩ := hlen2
      dsimp only at hl2 hm2
      have hRr : ∀ j, Rd (w.drewN j) (w.drewN j).heap.size (if c = k4 then some ⟨bb, oo, none⟩ else some ⟨bb, oo + k4, none⟩) r := fun j => by
        rw [← hr]
        exact (HR.out.cutG (by rw [HL.out]; exact hc)).on (below_drewN (Below.refl _ _) j)
      have hRd : Rd w w.heap.size (if c = 4 then some ⟨bb, oo, none⟩ else some ⟨bb, oo + 4, none⟩) dat := by
        rw [← hdat, List.drop_take]
        exact (HR.out.cutG (by rw [HL.out]; exact hc)).take _
      have hld : dat.length = mm := by rw [← hdat, List.length_drop, List.length_take, HL.out]; omega
      have HIH := Lib.hid (show ∀ j, Calls Try.prog 13 #[.slice (if c = k4 then some ⟨bb, oo, none⟩ else some ⟨bb, oo + k4, none⟩) (n - k4) (c - k4)] (w.drewN j) fun e w' => ∃ A2 c2, e = .returned (.tuple #[.slice A2 l2.length c2, .int .i64 (m2 : Int), .int .i64 (e2 : Int)]) ∧ Rws shG (fun b => b < w'.heap.size) w' A2 l2 ∧ Below w.heap.size w w' from fun j => by
        refine (ih r (n - k4) (c - k4) _ (w.drewN j) (by omega) (by omega) (hRr j) hBr hlr (by omega)).mono ?_
        rintro e w' ⟨v, rfl, ho, hb⟩
        rw [hG] at ho ⊢
        obtain ⟨A2, c2, rfl, -, -, hrw⟩ := ho.slice
        have hj := below_drewN (Below.refl w.heap.size w) j
        exact ⟨A2, c2, rfl, hrw.there, hj.trans (hb.mono hj.size)⟩)
      have HLIT := Lib.hid (show ∀ W : World, Below w.heap.size w W → Orw shG 48 (fun _ => True) w.heap.size (W.alloc (.cells #[.int .u16 (tt : Int), .slice (if c = 4 then some ⟨bb, oo, none⟩ else some ⟨bb, oo + 4, none⟩) mm (c - 4)] 48)) (.slice (some ⟨W.heap.size, 0, none⟩) 1 1) [(tt, dat)] from fun W hW =>
        (litg W hld (by omega) ((hRd.on hW).rdF (fun _ _ => trivial) (Nat.le_refl _))).lo hW.size)
      obtain ⟨k5, hk5⟩ : ∃ a, k4 + m2 = a := ⟨_, rfl⟩
      have p11 : IntKind.u16.wrap (tt : Int) = (tt : Int) := by apply IntWalk.u16_in; omega
      have p12 : (4 : Int) + (mm : Int) = (k4 : Int) := by omega
      have p13 : IntKind.i64.wrap (k4 : Int) = (k4 : Int) := IntWalk.i64_in _ (by omega)
      have p14 : (k4 : Int) ≤ (n : Int) := by omega
      have p15 : (0 : Int) ≤ (k4 : Int) := by omega
      have p16 : (k4 : Int) + (m2 : Int) = (k5 : Int) := by omega
      have p17 : IntKind.i64.wrap (k5 : Int) = (k5 : Int) := IntWalk.i64_in _ (by omega)
      have p18 : (k4 : Int) ≤ (c : Int) := by omega
      have p19 : (4 : Int) ≤ (k4 : Int) := by omega
      have p20 : (n : Int) ≤ (c : Int) := by omega
      have hl22 : l2.length ≤ 268435456 := by omega
      have hk44 : k4 - 4 = mm := by omega
      clear hRr hRd hs hdat hr g1 hlr hBr hl2 hm2 hld
      by_cases g4 : e2 = 0
      · have E := Lib.hid (show tgget (x :: y :: z :: u :: t) = ([(tt, dat)] ++ l2, k5, 0) by rw [E0]; unfold tgadd; rw [if_pos g4]; dsimp only; rw [hk5])
        have j4 : ((e2 : Int) != 0) = false := by rw [g4]; rfl
        clear E0 hG g2
        go_enter Try.func13, Try.ntmps13
        go_wp2_with fail
        go_quiet (fail)
        all_goals go_wp2_with fail
        go_quiet (fail)
        all_goals go_wp2_with (first
          | (go_at_call 13; (with_reducible refine (HIH.out _).mono ?_); rintro e wn ⟨A2, c2, rfl, hrw, hbn⟩; have HBN := Lib.hid hbn; have HRW := Lib.hid (show ∀ o, Rws shG (fun b => b < wn.heap.size) (wn.alloc o) A2 l2 from fun o => hrw.below ((Below.refl _ _).alloc (Nat.le_refl _) o)); clear hrw hbn; generalize (if c = k4 then (some ⟨bb, oo, none⟩ : Option Addr) else some ⟨bb, oo + k4, none⟩) = A9)
          | (at_builtin; refine list_rows shG rfl _ _ _ rfl 48 i0 (.agg #[.int .u16 0, .slice none 0 0]) 32 Try.underlying22 hi hz0 hz1 hz2 rfl (by decide) (fun _ => True) _ w.heap.size _ 1 [(tt, dat)] rfl (HLIT.out _ HBN.out) rfl A2 l2.length c2 l2 rfl (HRW.out _) rfl (fun b _ hb => ⟨trivial, fun e => Nat.lt_irrefl _ (Nat.lt_of_lt_of_eq hb (Option.some.inj e))⟩) (by unfold maxLen; omega) (by omega) (HBN.out.alloc HBN.out.size _).size ?_; intro v7 w7 ho7 hg7 hm7; have C := Lib.hid (GG.mk ho7 ((HBN.out.alloc HBN.out.size _).grown hg7 (HBN.out.alloc HBN.out.size _).size (fun g hg => ((HLIT.out _ HBN.out).lt hg).1))); clear ho7 hg7 hm7; generalize (if c = 4 then (some ⟨bb, oo, none⟩ : Option Addr) else some ⟨bb, oo + 4, none⟩) = A8))
        go_ret3
        exact ⟨_, by rw [E.out]; rfl, by rw [E.out]; exact C.out.own, C.out.bel⟩
      · have E := Lib.hid (show tgget (x :: y :: z :: u :: t) = ([], 0, e2) by rw [E0]; unfold tgadd; rw [if_neg g4])
        have j4 : ((e2 : Int) != 0) = true := by rw [bne_iff_ne]; omega
        clear E0 hG g2 g4
        go_enter Try.func13, Try.ntmps13
        go_wp2_with fail
        go_quiet (fail)
        all_goals go_wp2_with fail
        go_quiet (fail)
        all_goals go_wp2_with (go_at_call 13; (with_reducible refine (HIH.out _).mono ?_); rintro e wn ⟨A2, c2, rfl, hrw, hbn⟩; generalize (if c = k4 then (some ⟨bb, oo, none⟩ : Option Addr) else some ⟨bb, oo + k4, none⟩) = A9)
        go_ret3
        exact getG_bad E.out hbn
theorem tgrget_any (b : List Nat) (n c : Nat) (A : Option Addr) (w : World) (h : Rd w w.heap.size A b) (hb : By b) (hl : b.length = n) (hn : n ≤ 1073741824) (hc : n ≤ c) :
    Calls Try.prog 13 #[.slice A n c] w (GetG 48 b w) := tgrget_aux n b n c A w (Nat.le_refl _) hn h hb hl hc
end Go.Proofs.Ytldadfmcganejaa
