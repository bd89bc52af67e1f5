
/-
  What the program's small calls of layer 15 answer: has, rest, nothing, octets, split. No condition beyond: data of at most 2^38 octets.
-/
import Derived.Test.YtmhjnghomihjlaaGreatLcpM
import Derived.Test.YtmhjnghomihjlaaGreatGPkt
import Derived.Test.YtmhjnghomihjlaaGreatGOps
namespace Go.Proofs.YtmhjnghomihjlaaGreat
set_option maxRecDepth 4000
open Go.RowKit

set_option maxHeartbeats 1000000 in
theorem lhas_v (c : Nat) (k : Nat) (hk : hasL c = k) (w : World) : Calls Tryz.prog 108 #[.int .u8 (c : Int)] w fun e w' => e = .returned (.int .i64 (k : Int)) ∧ Below w.heap.size w w' := by
  have HK := Lib.hid hk
  clear hk
  by_cases h1 : c = 1
  · subst h1
    obtain rfl : 1 = k := HK.out
    go_enter Tryz.func108, Tryz.ntmps108
    go_wp2_with fail
    go_ret
    exact ⟨rfl, Below.refl _ _⟩
  by_cases h2 : c = 2
  · subst h2
    obtain rfl : 1 = k := HK.out
    go_enter Tryz.func108, Tryz.ntmps108
    go_wp2_with fail
    go_ret
    exact ⟨rfl, Below.refl _ _⟩
  by_cases h3 : c = 3
  · subst h3
    obtain rfl : 1 = k := HK.out
    go_enter Tryz.func108, Tryz.ntmps108
    go_wp2_with fail
    go_ret
    exact ⟨rfl, Below.refl _ _⟩
  by_cases h4 : c = 4
  · subst h4
    obtain rfl : 1 = k := HK.out
    go_enter Tryz.func108, Tryz.ntmps108
    go_wp2_with fail
    go_ret
    exact ⟨rfl, Below.refl _ _⟩
  by_cases h8 : c = 8
  · subst h8
    obtain rfl : 2 = k := HK.out
    go_enter Tryz.func108, Tryz.ntmps108
    go_wp2_with fail
    go_ret
    exact ⟨rfl, Below.refl _ _⟩
  by_cases h9 : c = 9
  · subst h9
    obtain rfl : 3 = k := HK.out
    go_enter Tryz.func108, Tryz.ntmps108
    go_wp2_with fail
    go_ret
    exact ⟨rfl, Below.refl _ _⟩
  by_cases h10 : c = 10
  · subst h10
    obtain rfl : 3 = k := HK.out
    go_enter Tryz.func108, Tryz.ntmps108
    go_wp2_with fail
    go_ret
    exact ⟨rfl, Below.refl _ _⟩
  by_cases h11 : c = 11
  · subst h11
    obtain rfl : 3 = k := HK.out
    go_enter Tryz.func108, Tryz.ntmps108
    go_wp2_with fail
    go_ret
    exact ⟨rfl, Below.refl _ _⟩
  have e : k = 0 := by
    have := HK.out
    unfold hasL at this
    rw [if_neg (by omega), if_neg (by omega), if_neg (by omega)] at this
    exact this.symm
  subst e
  have j1 : ((c : Int) == 1) = false := by simp; omega
  have j2 : ((c : Int) == 2) = false := by simp; omega
  have j3 : ((c : Int) == 3) = false := by simp; omega
  have j4 : ((c : Int) == 4) = false := by simp; omega
  have j8 : ((c : Int) == 8) = false := by simp; omega
  have j9 : ((c : Int) == 9) = false := by simp; omega
  have j10 : ((c : Int) == 10) = false := by simp; omega
  have j11 : ((c : Int) == 11) = false := by simp; omega
  go_enter Tryz.func108, Tryz.ntmps108
  go_wp2_with fail
  go_ret
  exact ⟨rfl, Below.refl _ _⟩

set_option maxHeartbeats 1000000 in
theorem lnothing_any (p : Pk) (q : Pl) (w : World) (h : Pw w p q) (r : Bool) (hr : nothL p = r) :
    Calls Tryz.prog 111 #[p.val q] w fun e w' => e = .returned (.bool r) ∧ Below w.heap.size w w' := by
  have e0 := h.lo
  have e1 := h.l1
  have e2 := h.l2
  have e3 := h.ld
  have e4 := h.ln
  have E := Lib.hid (show r = (decide (p.sub = 0) && decide (p.magic = 0) && decide (q.no = 0) && decide (q.nn = 0) && decide (q.n1 = 0) && decide (q.n2 = 0) && decide (q.nd = 0)) by rw [← hr, nothL, e0, e1, e2, e3, e4])
  clear h e0 e1 e2 e3 e4 hr
  go_enter Tryz.func111, Tryz.ntmps111
  go_wp2_with fail
  all_goals
    go_ret
    refine ⟨?_, (Below.refl _ _).alloc (Nat.le_refl _) _⟩
    show Ending.returned (.bool _) = _
    have W' := E.out
    clear E
    congr 2
    rw [W']
    (try simp_all) <;> (first | (intros; omega) | (rw [Bool.eq_iff_iff]; simp) | skip)

set_option maxHeartbeats 4000000 in
theorem lrest_opts (p : Pk) (q : Pl) (w : World) (h : Pw w p q) (hk : hasL p.code = 1) :
    Calls Tryz.prog 112 #[p.val q] w fun e w' => ∃ x r, x = restL p ∧ e = .returned (x.val r) ∧ Pw w' x r ∧ Below w.heap.size w w' := by
  have C := Lib.hid (OfC.made 40 40 w p q)
  have H := Lib.hid h
  have HK := Lib.hid hk
  clear h hk
  go_enter Tryz.func112, Tryz.ntmps112
  go_wp2_with (go_at_call 108; (with_reducible refine (lhas_v p.code _ HK.out _).mono ?_); rintro e wn ⟨rfl, hb⟩; replace C := Lib.hid (C.out.step hb); clear hb; obtain ⟨x0, x1, x2, x3, x4, x5, x6, x7, x8, x9⟩ := C.out.cf.all; obtain ⟨u0, u1, u2, u3, u4, u5, u6, u7, u8, u9⟩ := C.out.cf.free; obtain ⟨y0, y1, y2, y3, y4, y5, y6, y7, y8, y9⟩ := C.out.res.all; obtain ⟨z0, z1, z2, z3, z4, z5, z6, z7, z8, z9⟩ := C.out.res.free)
  have B := Lib.hid (put10_below (C.out.bel.setCell (p := ⟨w.heap.size, 3, none⟩) (Nat.le_refl _) (.slice none 0 0)) (Nat.le_succ _) { p with opts := [] } { q with ao := none, no := 0, co := 0 })
  refine bodyPost_ret (v := Pk.val { p with opts := [] } { q with ao := none, no := 0, co := 0 }) ?_ rfl ⟨{ p with opts := [] }, { q with ao := none, no := 0, co := 0 }, ?_, rfl, ?_, B.out⟩
  · exact results_cell_row rfl _ _ (w.heap.size + 1) 40 _ _ _ rfl (put10_px (C.out.res.other _ (by omega)) { p with opts := [] } { q with ao := none, no := 0, co := 0 }) Tryz.underlying40 rfl (by kernel_rfl)
  · unfold restL; rw [HK.out]; rfl
  · have P := H.out.on B.out
    exact ⟨rfl, Rws.nilO, P.l1, P.r1, P.l2, P.r2, P.ld, P.rd, P.ln, P.rn, P.k1, P.k2, P.kd⟩

set_option maxHeartbeats 4000000 in
theorem lrest_sub (p : Pk) (q : Pl) (w : World) (h : Pw w p q) (hk : hasL p.code = 2) :
    Calls Tryz.prog 112 #[p.val q] w fun e w' => ∃ x r, x = restL p ∧ e = .returned (x.val r) ∧ Pw w' x r ∧ Below w.heap.size w w' := by
  have C := Lib.hid (OfC.made 40 40 w p q)
  have H := Lib.hid h
  have HK := Lib.hid hk
  clear h hk
  go_enter Tryz.func112, Tryz.ntmps112
  go_wp2_with (go_at_call 108; (with_reducible refine (lhas_v p.code _ HK.out _).mono ?_); rintro e wn ⟨rfl, hb⟩; replace C := Lib.hid (C.out.step hb); clear hb; obtain ⟨x0, x1, x2, x3, x4, x5, x6, x7, x8, x9⟩ := C.out.cf.all; obtain ⟨u0, u1, u2, u3, u4, u5, u6, u7, u8, u9⟩ := C.out.cf.free; obtain ⟨y0, y1, y2, y3, y4, y5, y6, y7, y8, y9⟩ := C.out.res.all; obtain ⟨z0, z1, z2, z3, z4, z5, z6, z7, z8, z9⟩ := C.out.res.free)
  have B := Lib.hid (put10_below ((C.out.bel.setCell (p := ⟨w.heap.size, 4, none⟩) (Nat.le_refl _) (.int .u16 0)).setCell (p := ⟨w.heap.size, 8, none⟩) (Nat.le_refl _) (.slice none 0 0)) (Nat.le_succ _) { p with sub := 0, data := [] } { q with ad := none, nd := 0, cd := 0 })
  refine bodyPost_ret (v := Pk.val { p with sub := 0, data := [] } { q with ad := none, nd := 0, cd := 0 }) ?_ rfl ⟨{ p with sub := 0, data := [] }, { q with ad := none, nd := 0, cd := 0 }, ?_, rfl, ?_, B.out⟩
  · exact results_cell_row rfl _ _ (w.heap.size + 1) 40 _ _ _ rfl (put10_px ((C.out.res.other _ (by omega)).other _ (by omega)) { p with sub := 0, data := [] } { q with ad := none, nd := 0, cd := 0 }) Tryz.underlying40 rfl (by kernel_rfl)
  · unfold restL; rw [HK.out]; rfl
  · have P := H.out.on B.out
    exact ⟨P.lo, P.ro, P.l1, P.r1, P.l2, P.r2, rfl, Rd.nil, P.ln, P.rn, P.k1, P.k2, Nat.le_refl _⟩

set_option maxHeartbeats 4000000 in
theorem lrest_magic (p : Pk) (q : Pl) (w : World) (h : Pw w p q) (hk : hasL p.code = 3) :
    Calls Tryz.prog 112 #[p.val q] w fun e w' => ∃ x r, x = restL p ∧ e = .returned (x.val r) ∧ Pw w' x r ∧ Below w.heap.size w w' := by
  have C := Lib.hid (OfC.made 40 40 w p q)
  have H := Lib.hid h
  have HK := Lib.hid hk
  clear h hk
  go_enter Tryz.func112, Tryz.ntmps112
  go_wp2_with (go_at_call 108; (with_reducible refine (lhas_v p.code _ HK.out _).mono ?_); rintro e wn ⟨rfl, hb⟩; replace C := Lib.hid (C.out.step hb); clear hb; obtain ⟨x0, x1, x2, x3, x4, x5, x6, x7, x8, x9⟩ := C.out.cf.all; obtain ⟨u0, u1, u2, u3, u4, u5, u6, u7, u8, u9⟩ := C.out.cf.free; obtain ⟨y0, y1, y2, y3, y4, y5, y6, y7, y8, y9⟩ := C.out.res.all; obtain ⟨z0, z1, z2, z3, z4, z5, z6, z7, z8, z9⟩ := C.out.res.free)
  have B := Lib.hid (put10_below ((C.out.bel.setCell (p := ⟨w.heap.size, 5, none⟩) (Nat.le_refl _) (.int .u32 0)).setCell (p := ⟨w.heap.size, 8, none⟩) (Nat.le_refl _) (.slice none 0 0)) (Nat.le_succ _) { p with magic := 0, data := [] } { q with ad := none, nd := 0, cd := 0 })
  refine bodyPost_ret (v := Pk.val { p with magic := 0, data := [] } { q with ad := none, nd := 0, cd := 0 }) ?_ rfl ⟨{ p with magic := 0, data := [] }, { q with ad := none, nd := 0, cd := 0 }, ?_, rfl, ?_, B.out⟩
  · exact results_cell_row rfl _ _ (w.heap.size + 1) 40 _ _ _ rfl (put10_px ((C.out.res.other _ (by omega)).other _ (by omega)) { p with magic := 0, data := [] } { q with ad := none, nd := 0, cd := 0 }) Tryz.underlying40 rfl (by kernel_rfl)
  · unfold restL; rw [HK.out]; rfl
  · have P := H.out.on B.out
    exact ⟨P.lo, P.ro, P.l1, P.r1, P.l2, P.r2, rfl, Rd.nil, P.ln, P.rn, P.k1, P.k2, Nat.le_refl _⟩

set_option maxHeartbeats 4000000 in
theorem lrest_data (p : Pk) (q : Pl) (w : World) (h : Pw w p q) (hk : hasL p.code = 0) :
    Calls Tryz.prog 112 #[p.val q] w fun e w' => ∃ x r, x = restL p ∧ e = .returned (x.val r) ∧ Pw w' x r ∧ Below w.heap.size w w' := by
  have C := Lib.hid (OfC.made 40 40 w p q)
  have H := Lib.hid h
  have HK := Lib.hid hk
  clear h hk
  go_enter Tryz.func112, Tryz.ntmps112
  go_wp2_with (go_at_call 108; (with_reducible refine (lhas_v p.code _ HK.out _).mono ?_); rintro e wn ⟨rfl, hb⟩; replace C := Lib.hid (C.out.step hb); clear hb; obtain ⟨x0, x1, x2, x3, x4, x5, x6, x7, x8, x9⟩ := C.out.cf.all; obtain ⟨u0, u1, u2, u3, u4, u5, u6, u7, u8, u9⟩ := C.out.cf.free; obtain ⟨y0, y1, y2, y3, y4, y5, y6, y7, y8, y9⟩ := C.out.res.all; obtain ⟨z0, z1, z2, z3, z4, z5, z6, z7, z8, z9⟩ := C.out.res.free)
  have B := Lib.hid (put10_below (C.out.bel.setCell (p := ⟨w.heap.size, 8, none⟩) (Nat.le_refl _) (.slice none 0 0)) (Nat.le_succ _) { p with data := [] } { q with ad := none, nd := 0, cd := 0 })
  refine bodyPost_ret (v := Pk.val { p with data := [] } { q with ad := none, nd := 0, cd := 0 }) ?_ rfl ⟨{ p with data := [] }, { q with ad := none, nd := 0, cd := 0 }, ?_, rfl, ?_, B.out⟩
  · exact results_cell_row rfl _ _ (w.heap.size + 1) 40 _ _ _ rfl (put10_px (C.out.res.other _ (by omega)) { p with data := [] } { q with ad := none, nd := 0, cd := 0 }) Tryz.underlying40 rfl (by kernel_rfl)
  · unfold restL; rw [HK.out]; rfl
  · have P := H.out.on B.out
    exact ⟨P.lo, P.ro, P.l1, P.r1, P.l2, P.r2, rfl, Rd.nil, P.ln, P.rn, P.k1, P.k2, Nat.le_refl _⟩

theorem lrest_any (p : Pk) (q : Pl) (w : World) (h : Pw w p q) :
    Calls Tryz.prog 112 #[p.val q] w fun e w' => ∃ x r, x = restL p ∧ e = .returned (x.val r) ∧ Pw w' x r ∧ Below w.heap.size w w' := by
  rcases hasL_cases p.code with hk | hk | hk | hk
  · exact lrest_data p q w h hk
  · exact lrest_opts p q w h hk
  · exact lrest_sub p q w h hk
  · exact lrest_magic p q w h hk

theorem num_lit (v n : Nat) (hn : n ≤ 8) (N : Int) (hN : N = (n : Int)) (w : World) :
    Calls Tryz.prog 128 #[.int .u8 0, .int .u64 (v : Int), .int .i64 N] w fun e w' => ∃ A c, e = .returned (.agg #[.int .u8 0, .slice A n c]) ∧ w'.ownsRow w.heap.size 5 1 (.slice A n c) n (bvs (numB v n)) ∧ Below w.heap.size w w' := by
  subst hN
  exact num_any 0 v n hn w
theorem lfield_1 (x : Value) (A : Option Addr) (n c : Nat) (w : World) : (Instr.field 116 (.agg #[x, .slice A n c]) 1).run Tryz.prog w = .ok (.slice A n c) w := by kernel_rfl

set_option maxHeartbeats 1000000 in
theorem loct_any (v n : Nat) (hn : n ≤ 8) (N : Int) (hN : N = (n : Int)) (w : World) :
    Calls Tryz.prog 121 #[.int .u64 (v : Int), .int .i64 N] w fun e w' => ∃ A c, e = .returned (.slice A n c) ∧ n ≤ c ∧ Rd w' w'.heap.size A (numB v n) ∧ Below w.heap.size w w' := by
  have hfd := lfield_1
  have HN := Lib.hid hN
  clear hN
  go_enter Tryz.func121, Tryz.ntmps121
  go_wp2_with (go_at_call 128; (with_reducible refine (num_lit v n hn N HN.out _).mono ?_); rintro e wn ⟨A1, c1, rfl, h1, hb⟩; have R := Lib.hid (Rd.own h1); have K := Lib.hid (own_cap h1); have B := Lib.hid hb; clear h1 hb)
  go_ret
  exact ⟨_, _, rfl, K.out, R.out, B.out⟩

set_option maxHeartbeats 1000000 in
theorem split_no (n c z : Nat) (Z : Int) (hZ : Z = (z : Int)) (A : Option Addr) (w : World) (hz : n < z) :
    Calls Tryz.prog 110 #[.slice A n c, .int .i64 Z] w fun e w' => e = .returned (.tuple #[.int .u64 0, .slice none 0 0, .int .i64 2]) ∧ Below w.heap.size w w' := by
  have j : (n : Int) < Z := by omega
  clear hZ hz
  go_enter Tryz.func110, Tryz.ntmps110
  go_wp2_with fail
  go_ret3
  exact ⟨rfl, Below.refl _ _⟩
end Go.Proofs.YtmhjnghomihjlaaGreat
