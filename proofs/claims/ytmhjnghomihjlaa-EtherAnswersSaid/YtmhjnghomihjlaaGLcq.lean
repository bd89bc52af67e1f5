/-
  What the program's small calls of layer 15 answer: has, rest, nothing, octets, split. No condition beyond: data of at most 2^38 octets. What the program's written and Put of layer 15 answer. No condition beyond: packets that Go may have, at most 2^30 elements in each slice. What the program's Put of layer 15 answers, and the document's example. No condition beyond: packets that Go may have, at most 2^30 elements in each slice.
-/
import Derived.Test.YtmhjnghomihjlaaGMat
import Derived.Test.YtmhjnghomihjlaaGPkt
import Derived.Test.YtmhjnghomihjlaaGOps
namespace Go.Proofs.Ytmhjnghomihjlaa
section
set_option maxRecDepth 4000
open Go.RowKit

set_option maxHeartbeats 1000000 in
theorem lhas_v (c : Nat) (k : Nat) (hk : hasL c = k) (w : World) : Calls Try.prog 68 #[.int .u8 (c : Int)] w fun e w' => e = .returned (.int .i64 (k : Int)) ∧ Below w.heap.size w w' := by
  have HK := Lib.hid hk
  clear hk
  by_cases h1 : c = 1
  · subst h1
    obtain rfl : 1 = k := HK.out
    go_enter Try.func68, Try.ntmps68
    go_wp2_with fail
    go_ret
    exact ⟨rfl, Below.refl _ _⟩
  by_cases h2 : c = 2
  · subst h2
    obtain rfl : 1 = k := HK.out
    go_enter Try.func68, Try.ntmps68
    go_wp2_with fail
    go_ret
    exact ⟨rfl, Below.refl _ _⟩
  by_cases h3 : c = 3
  · subst h3
    obtain rfl : 1 = k := HK.out
    go_enter Try.func68, Try.ntmps68
    go_wp2_with fail
    go_ret
    exact ⟨rfl, Below.refl _ _⟩
  by_cases h4 : c = 4
  · subst h4
    obtain rfl : 1 = k := HK.out
    go_enter Try.func68, Try.ntmps68
    go_wp2_with fail
    go_ret
    exact ⟨rfl, Below.refl _ _⟩
  by_cases h8 : c = 8
  · subst h8
    obtain rfl : 2 = k := HK.out
    go_enter Try.func68, Try.ntmps68
    go_wp2_with fail
    go_ret
    exact ⟨rfl, Below.refl _ _⟩
  by_cases h9 : c = 9
  · subst h9
    obtain rfl : 3 = k := HK.out
    go_enter Try.func68, Try.ntmps68
    go_wp2_with fail
    go_ret
    exact ⟨rfl, Below.refl _ _⟩
  by_cases h10 : c = 10
  · subst h10
    obtain rfl : 3 = k := HK.out
    go_enter Try.func68, Try.ntmps68
    go_wp2_with fail
    go_ret
    exact ⟨rfl, Below.refl _ _⟩
  by_cases h11 : c = 11
  · subst h11
    obtain rfl : 3 = k := HK.out
    go_enter Try.func68, Try.ntmps68
    go_wp2_with fail
    go_ret
    exact ⟨rfl, Below.refl _ _⟩
  have e : k = 0 := by
    have := HK.out
    unfold hasL at this
    rw [if_neg (by omega), if_neg (by omega), if_neg (by omega)] at this
    exact this.symm
  subst e
  have j1 : ((c : Int) == 1) = false := by simp; omega
  have j2 : ((c : Int) == 2) = false := by simp; omega
  have j3 : ((c : Int) == 3) = false := by simp; omega
  have j4 : ((c : Int) == 4) = false := by simp; omega
  have j8 : ((c : Int) == 8) = false := by simp; omega
  have j9 : ((c : Int) == 9) = false := by simp; omega
  have j10 : ((c : Int) == 10) = false := by simp; omega
  have j11 : ((c : Int) == 11) = false := by simp; omega
  go_enter Try.func68, Try.ntmps68
  go_wp2_with fail
  go_ret
  exact ⟨rfl, Below.refl _ _⟩

set_option maxHeartbeats 1000000 in
theorem lnothing_any (p : Pk) (q : Pl) (w : World) (h : Pw w p q) (r : Bool) (hr : nothL p = r) :
    Calls Try.prog 64 #[p.val q] w fun e w' => e = .returned (.bool r) ∧ Below w.heap.size w w' := by
  have e0 := h.lo
  have e1 := h.l1
  have e2 := h.l2
  have e3 := h.ld
  have e4 := h.ln
  have E := Lib.hid (show r = (decide (p.sub = 0) && decide (p.magic = 0) && decide (q.no = 0) && decide (q.nn = 0) && decide (q.n1 = 0) && decide (q.n2 = 0) && decide (q.nd = 0)) by rw [← hr, nothL, e0, e1, e2, e3, e4])
  clear h e0 e1 e2 e3 e4 hr
  go_enter Try.func64, Try.ntmps64
  go_wp2_with fail
  all_goals
    go_ret
    refine ⟨?_, (Below.refl _ _).alloc (Nat.le_refl _) _⟩
    show Ending.returned (.bool _) = _
    have W' := E.out
    clear E
    congr 2
    rw [W']
    (try simp_all) <;> (first | (intros; omega) | (rw [Bool.eq_iff_iff]; simp) | skip)

set_option maxHeartbeats 4000000 in
theorem lrest_opts (p : Pk) (q : Pl) (w : World) (h : Pw w p q) (hk : hasL p.code = 1) :
    Calls Try.prog 65 #[p.val q] w fun e w' => ∃ x r, x = restL p ∧ e = .returned (x.val r) ∧ Pw w' x r ∧ Below w.heap.size w w' := by
  have C := Lib.hid (OfC.made 37 37 w p q)
  have H := Lib.hid h
  have HK := Lib.hid hk
  clear h hk
  go_enter Try.func65, Try.ntmps65
  go_wp2_with (go_at_call 68; (with_reducible refine (lhas_v p.code _ HK.out _).mono ?_); rintro e wn ⟨rfl, hb⟩; replace C := Lib.hid (C.out.step hb); clear hb; obtain ⟨x0, x1, x2, x3, x4, x5, x6, x7, x8, x9⟩ := C.out.cf.all; obtain ⟨u0, u1, u2, u3, u4, u5, u6, u7, u8, u9⟩ := C.out.cf.free; obtain ⟨y0, y1, y2, y3, y4, y5, y6, y7, y8, y9⟩ := C.out.res.all; obtain ⟨z0, z1, z2, z3, z4, z5, z6, z7, z8, z9⟩ := C.out.res.free)
  have B := Lib.hid (put10_below (C.out.bel.setCell (p := ⟨w.heap.size, 3, none⟩) (Nat.le_refl _) (.slice none 0 0)) (Nat.le_succ _) { p with opts := [] } { q with ao := none, no := 0, co := 0 })
  refine bodyPost_ret (v := Pk.val { p with opts := [] } { q with ao := none, no := 0, co := 0 }) ?_ rfl ⟨{ p with opts := [] }, { q with ao := none, no := 0, co := 0 }, ?_, rfl, ?_, B.out⟩
  · exact results_cell_row rfl _ _ (w.heap.size + 1) 37 _ _ _ rfl (put10_px (C.out.res.other _ (by omega)) { p with opts := [] } { q with ao := none, no := 0, co := 0 }) Try.underlying37 rfl (by kernel_rfl)
  · unfold restL; rw [HK.out]; rfl
  · have P := H.out.on B.out
    exact ⟨rfl, Rws.nilO, P.l1, P.r1, P.l2, P.r2, P.ld, P.rd, P.ln, P.rn, P.k1, P.k2, P.kd⟩

set_option maxHeartbeats 4000000 in
theorem lrest_sub (p : Pk) (q : Pl) (w : World) (h : Pw w p q) (hk : hasL p.code = 2) :
    Calls Try.prog 65 #[p.val q] w fun e w' => ∃ x r, x = restL p ∧ e = .returned (x.val r) ∧ Pw w' x r ∧ Below w.heap.size w w' := by
  have C := Lib.hid (OfC.made 37 37 w p q)
  have H := Lib.hid h
  have HK := Lib.hid hk
  clear h hk
  go_enter Try.func65, Try.ntmps65
  go_wp2_with (go_at_call 68; (with_reducible refine (lhas_v p.code _ HK.out _).mono ?_); rintro e wn ⟨rfl, hb⟩; replace C := Lib.hid (C.out.step hb); clear hb; obtain ⟨x0, x1, x2, x3, x4, x5, x6, x7, x8, x9⟩ := C.out.cf.all; obtain ⟨u0, u1, u2, u3, u4, u5, u6, u7, u8, u9⟩ := C.out.cf.free; obtain ⟨y0, y1, y2, y3, y4, y5, y6, y7, y8, y9⟩ := C.out.res.all; obtain ⟨z0, z1, z2, z3, z4, z5, z6, z7, z8, z9⟩ := C.out.res.free)
  have B := Lib.hid (put10_below ((C.out.bel.setCell (p := ⟨w.heap.size, 4, none⟩) (Nat.le_refl _) (.int .u16 0)).setCell (p := ⟨w.heap.size, 8, none⟩) (Nat.le_refl _) (.slice none 0 0)) (Nat.le_succ _) { p with sub := 0, data := [] } { q with ad := none, nd := 0, cd := 0 })
  refine bodyPost_ret (v := Pk.val { p with sub := 0, data := [] } { q with ad := none, nd := 0, cd := 0 }) ?_ rfl ⟨{ p with sub := 0, data := [] }, { q with ad := none, nd := 0, cd := 0 }, ?_, rfl, ?_, B.out⟩
  · exact results_cell_row rfl _ _ (w.heap.size + 1) 37 _ _ _ rfl (put10_px ((C.out.res.other _ (by omega)).other _ (by omega)) { p with sub := 0, data := [] } { q with ad := none, nd := 0, cd := 0 }) Try.underlying37 rfl (by kernel_rfl)
  · unfold restL; rw [HK.out]; rfl
  · have P := H.out.on B.out
    exact ⟨P.lo, P.ro, P.l1, P.r1, P.l2, P.r2, rfl, Rd.nil, P.ln, P.rn, P.k1, P.k2, Nat.le_refl _⟩

set_option maxHeartbeats 4000000 in
theorem lrest_magic (p : Pk) (q : Pl) (w : World) (h : Pw w p q) (hk : hasL p.code = 3) :
    Calls Try.prog 65 #[p.val q] w fun e w' => ∃ x r, x = restL p ∧ e = .returned (x.val r) ∧ Pw w' x r ∧ Below w.heap.size w w' := by
  have C := Lib.hid (OfC.made 37 37 w p q)
  have H := Lib.hid h
  have HK := Lib.hid hk
  clear h hk
  go_enter Try.func65, Try.ntmps65
  go_wp2_with (go_at_call 68; (with_reducible refine (lhas_v p.code _ HK.out _).mono ?_); rintro e wn ⟨rfl, hb⟩; replace C := Lib.hid (C.out.step hb); clear hb; obtain ⟨x0, x1, x2, x3, x4, x5, x6, x7, x8, x9⟩ := C.out.cf.all; obtain ⟨u0, u1, u2, u3, u4, u5, u6, u7, u8, u9⟩ := C.out.cf.free; obtain ⟨y0, y1, y2, y3, y4, y5, y6, y7, y8, y9⟩ := C.out.res.all; obtain ⟨z0, z1, z2, z3, z4, z5, z6, z7, z8, z9⟩ := C.out.res.free)
  have B := Lib.hid (put10_below ((C.out.bel.setCell (p := ⟨w.heap.size, 5, none⟩) (Nat.le_refl _) (.int .u32 0)).setCell (p := ⟨w.heap.size, 8, none⟩) (Nat.le_refl _) (.slice none 0 0)) (Nat.le_succ _) { p with magic := 0, data := [] } { q with ad := none, nd := 0, cd := 0 })
  refine bodyPost_ret (v := Pk.val { p with magic := 0, data := [] } { q with ad := none, nd := 0, cd := 0 }) ?_ rfl ⟨{ p with magic := 0, data := [] }, { q with ad := none, nd := 0, cd := 0 }, ?_, rfl, ?_, B.out⟩
  · exact results_cell_row rfl _ _ (w.heap.size + 1) 37 _ _ _ rfl (put10_px ((C.out.res.other _ (by omega)).other _ (by omega)) { p with magic := 0, data := [] } { q with ad := none, nd := 0, cd := 0 }) Try.underlying37 rfl (by kernel_rfl)
  · unfold restL; rw [HK.out]; rfl
  · have P := H.out.on B.out
    exact ⟨P.lo, P.ro, P.l1, P.r1, P.l2, P.r2, rfl, Rd.nil, P.ln, P.rn, P.k1, P.k2, Nat.le_refl _⟩

set_option maxHeartbeats 4000000 in
theorem lrest_data (p : Pk) (q : Pl) (w : World) (h : Pw w p q) (hk : hasL p.code = 0) :
    Calls Try.prog 65 #[p.val q] w fun e w' => ∃ x r, x = restL p ∧ e = .returned (x.val r) ∧ Pw w' x r ∧ Below w.heap.size w w' := by
  have C := Lib.hid (OfC.made 37 37 w p q)
  have H := Lib.hid h
  have HK := Lib.hid hk
  clear h hk
  go_enter Try.func65, Try.ntmps65
  go_wp2_with (go_at_call 68; (with_reducible refine (lhas_v p.code _ HK.out _).mono ?_); rintro e wn ⟨rfl, hb⟩; replace C := Lib.hid (C.out.step hb); clear hb; obtain ⟨x0, x1, x2, x3, x4, x5, x6, x7, x8, x9⟩ := C.out.cf.all; obtain ⟨u0, u1, u2, u3, u4, u5, u6, u7, u8, u9⟩ := C.out.cf.free; obtain ⟨y0, y1, y2, y3, y4, y5, y6, y7, y8, y9⟩ := C.out.res.all; obtain ⟨z0, z1, z2, z3, z4, z5, z6, z7, z8, z9⟩ := C.out.res.free)
  have B := Lib.hid (put10_below (C.out.bel.setCell (p := ⟨w.heap.size, 8, none⟩) (Nat.le_refl _) (.slice none 0 0)) (Nat.le_succ _) { p with data := [] } { q with ad := none, nd := 0, cd := 0 })
  refine bodyPost_ret (v := Pk.val { p with data := [] } { q with ad := none, nd := 0, cd := 0 }) ?_ rfl ⟨{ p with data := [] }, { q with ad := none, nd := 0, cd := 0 }, ?_, rfl, ?_, B.out⟩
  · exact results_cell_row rfl _ _ (w.heap.size + 1) 37 _ _ _ rfl (put10_px (C.out.res.other _ (by omega)) { p with data := [] } { q with ad := none, nd := 0, cd := 0 }) Try.underlying37 rfl (by kernel_rfl)
  · unfold restL; rw [HK.out]; rfl
  · have P := H.out.on B.out
    exact ⟨P.lo, P.ro, P.l1, P.r1, P.l2, P.r2, rfl, Rd.nil, P.ln, P.rn, P.k1, P.k2, Nat.le_refl _⟩

theorem lrest_any (p : Pk) (q : Pl) (w : World) (h : Pw w p q) :
    Calls Try.prog 65 #[p.val q] w fun e w' => ∃ x r, x = restL p ∧ e = .returned (x.val r) ∧ Pw w' x r ∧ Below w.heap.size w w' := by
  rcases hasL_cases p.code with hk | hk | hk | hk
  · exact lrest_data p q w h hk
  · exact lrest_opts p q w h hk
  · exact lrest_sub p q w h hk
  · exact lrest_magic p q w h hk

theorem num_lit (v n : Nat) (hn : n ≤ 8) (N : Int) (hN : N = (n : Int)) (w : World) :
    Calls Try.prog 74 #[.int .u8 0, .int .u64 (v : Int), .int .i64 N] w fun e w' => ∃ A c, e = .returned (.agg #[.int .u8 0, .slice A n c]) ∧ w'.ownsRow w.heap.size 5 1 (.slice A n c) n (bvs (numB v n)) ∧ Below w.heap.size w w' := by
  subst hN
  exact num_any 0 v n hn w
theorem lfield_1 (x : Value) (A : Option Addr) (n c : Nat) (w : World) : (Instr.field 70 (.agg #[x, .slice A n c]) 1).run Try.prog w = .ok (.slice A n c) w := by kernel_rfl

set_option maxHeartbeats 1000000 in
theorem loct_any (v n : Nat) (hn : n ≤ 8) (N : Int) (hN : N = (n : Int)) (w : World) :
    Calls Try.prog 70 #[.int .u64 (v : Int), .int .i64 N] w fun e w' => ∃ A c, e = .returned (.slice A n c) ∧ n ≤ c ∧ Rd w' w'.heap.size A (numB v n) ∧ Below w.heap.size w w' := by
  have hfd := lfield_1
  have HN := Lib.hid hN
  clear hN
  go_enter Try.func70, Try.ntmps70
  go_wp2_with (go_at_call 74; (with_reducible refine (num_lit v n hn N HN.out _).mono ?_); rintro e wn ⟨A1, c1, rfl, h1, hb⟩; have R := Lib.hid (Rd.own h1); have K := Lib.hid (own_cap h1); have B := Lib.hid hb; clear h1 hb)
  go_ret
  exact ⟨_, _, rfl, K.out, R.out, B.out⟩
end

section
set_option maxRecDepth 4000
open Go.RowKit

theorem pput_lcp (l : List (Nat × List Nat)) (m : List Nat) (q : Nat) (hm : putO 49185 l = (m, q)) (k : Nat) (hk : m.length = k) (n c : Nat) (A : Option Addr) (F : Nat → Prop) (w : World) (h : Rws shO F w A l) (ho : ByO l) (hl : l.length = n) (hn : n ≤ 68719476736) (hd : datB l ≤ 68719476736) :
    Calls Try.prog 69 #[.int .u16 49185, .slice A n c] w fun e w' => ∃ A' c', e = .returned (.tuple #[.slice A' k c', .int .i64 (q : Int)]) ∧ Rd w' w'.heap.size A' m ∧ k ≤ c' ∧ Below w.heap.size w w' :=
  pput_any 49185 l m q hm k hk n c A F w h ho hl hn hd

theorem loct_2 (v : Nat) (w : World) : Calls Try.prog 70 #[.int .u64 (v : Int), .int .i64 2] w fun e w' => ∃ A c, e = .returned (.slice A 2 c) ∧ 2 ≤ c ∧ Rd w' w'.heap.size A (numB v 2) ∧ Below w.heap.size w w' := loct_any v 2 (by decide) 2 rfl w
theorem loct_4 (v : Nat) (w : World) : Calls Try.prog 70 #[.int .u64 (v : Int), .int .i64 4] w fun e w' => ∃ A c, e = .returned (.slice A 4 c) ∧ 4 ≤ c ∧ Rd w' w'.heap.size A (numB v 4) ∧ Below w.heap.size w w' := loct_any v 4 (by decide) 4 rfl w

set_option maxHeartbeats 4000000 in
theorem lwr_opts (p : Pk) (q : Pl) (w : World) (h : Pw w p q) (hok : p.ok) (hs : p.sm) (hc : hasL p.code = 1) (m : List Nat) (k : Nat) (hm : wrL p = (m, k)) (n : Nat) (hn : m.length = n) :
    Calls Try.prog 66 #[p.val q] w fun e w' => ∃ A c, e = .returned (.tuple #[.slice A n c, .int .i64 (k : Int)]) ∧ Rd w' w'.heap.size A m ∧ n ≤ c ∧ Below w.heap.size w w' := by
  have C := Lib.hid (BxC.made 37 w p q)
  have H := Lib.hid h
  have HC := Lib.hid hc
  have HM := Lib.hid (show putO 49185 p.opts = (m, k) by rw [← hm, wrL, if_pos hc])
  have HN := Lib.hid hn
  have HO := Lib.hid hok.opts
  have HD := Lib.hid (Nat.le_trans hs.d (by decide) : datB p.opts ≤ 68719476736)
  have s1 : q.no ≤ 68719476736 := by rw [← h.lo]; exact Nat.le_trans hs.o (by decide)
  clear h hc hm hn hok hs
  go_enter Try.func66, Try.ntmps66
  go_wp2_with (first
    | (go_at_call 68; (with_reducible refine (lhas_v p.code _ HC.out _).mono ?_); rintro e wn ⟨rfl, hb⟩; replace C := Lib.hid (C.out.step hb); clear hb; obtain ⟨x0, x1, x2, x3, x4, x5, x6, x7, x8, x9⟩ := C.out.cf.all)
    | (go_at_call 69; (with_reducible refine (pput_lcp p.opts m k HM.out n HN.out q.no q.co q.ao _ _ (H.out.on C.out.bel).ro HO.out H.out.lo s1 HD.out).mono ?_); rintro e wn ⟨A4, c4, rfl, h4, h4c, hb⟩; replace C := Lib.hid (C.out.step hb); have X := Lib.hid h4; have K := Lib.hid h4c; clear h4 h4c hb))
  go_ret2
  exact ⟨_, _, rfl, X.out, K.out, C.out.bel⟩

set_option maxHeartbeats 4000000 in
theorem lwr_data (p : Pk) (q : Pl) (w : World) (h : Pw w p q) (hc : hasL p.code = 0) (m : List Nat) (k : Nat) (hm : wrL p = (m, k)) (n : Nat) (hn : m.length = n) :
    Calls Try.prog 66 #[p.val q] w fun e w' => ∃ A c, e = .returned (.tuple #[.slice A n c, .int .i64 (k : Int)]) ∧ Rd w' w'.heap.size A m ∧ n ≤ c ∧ Below w.heap.size w w' := by
  have C := Lib.hid (BxC.made 37 w p q)
  have H := Lib.hid h
  have HC := Lib.hid hc
  obtain ⟨rfl, rfl⟩ : p.data = m ∧ 0 = k := by
    rw [wrL, hc] at hm
    exact ⟨(Prod.mk.inj hm).1, (Prod.mk.inj hm).2⟩
  obtain rfl : q.nd = n := h.ld.symm.trans hn
  clear h hc hm hn
  go_enter Try.func66, Try.ntmps66
  go_wp2_with (first
    | (go_at_call 68; (with_reducible refine (lhas_v p.code _ HC.out _).mono ?_); rintro e wn ⟨rfl, hb⟩; replace C := Lib.hid (C.out.step hb); clear hb; obtain ⟨x0, x1, x2, x3, x4, x5, x6, x7, x8, x9⟩ := C.out.cf.all))
  go_ret2
  exact ⟨_, _, rfl, (H.out.on C.out.bel).rd, H.out.kd, C.out.bel⟩

set_option maxHeartbeats 8000000 in
theorem lwr_sub (p : Pk) (q : Pl) (w : World) (h : Pw w p q) (hok : p.ok) (hs : p.sm) (hc : hasL p.code = 2) (m : List Nat) (k : Nat) (hm : wrL p = (m, k)) (n : Nat) (hn : m.length = n) :
    Calls Try.prog 66 #[p.val q] w fun e w' => ∃ A c, e = .returned (.tuple #[.slice A n c, .int .i64 (k : Int)]) ∧ Rd w' w'.heap.size A m ∧ n ≤ c ∧ Below w.heap.size w w' := by
  have C := Lib.hid (BxC.made 37 w p q)
  have H := Lib.hid h
  have HC := Lib.hid hc
  obtain ⟨hm1, rfl⟩ : numB p.sub 2 ++ p.data = m ∧ 0 = k := by
    rw [wrL, hc] at hm
    exact ⟨(Prod.mk.inj hm).1, (Prod.mk.inj hm).2⟩
  have FL := Lib.hid (show [numB p.sub 2, p.data].flatten = m by rw [← hm1]; simp)
  have LN := Lib.hid (show [numB p.sub 2, p.data].flatten.length = n by rw [FL.out, hn])
  have LE := Lib.hid (show [numB p.sub 2, p.data].flatten.length ≤ 1099511627776 by have := hs.nd; simp [num_len]; omega)
  have i1 : IntKind.u64.wrap (p.sub : Int) = (p.sub : Int) := by have := hok.sub; rw [IntKind.wrap_u64]; omega
  clear h hc hm hn hm1 hok hs
  go_enter Try.func66, Try.ntmps66
  go_wp2_with (first
    | (go_at_call 68; (with_reducible refine (lhas_v p.code _ HC.out _).mono ?_); rintro e wm ⟨rfl, hb⟩; replace C := Lib.hid (C.out.step hb); clear hb; obtain ⟨x0, x1, x2, x3, x4, x5, x6, x7, x8, x9⟩ := C.out.cf.all))
  clear x0 x1 x2 x3 x5 x6 x7 x9
  go_region_held3 (fun W => W.cell? ⟨w.heap.size, 4, none⟩ = some (.int .u16 (p.sub : Int)) ∧ W.cell? ⟨w.heap.size, 8, none⟩ = some (.slice q.ad q.nd q.cd)) (first | (with_reducible exact C.out.c48) | (with_reducible exact (C.out.step (Below.refl _ _).drew).c48) | (with_reducible exact (C.out.step ((Below.refl wn.heap.size wn).alloc (Nat.le_refl _) _)).c48)) (first
    | (go_at_call 70; (with_reducible refine (loct_2 p.sub _).mono ?_); rintro e wn ⟨A1, c1, rfl, hc1, h1, hb⟩; replace C := Lib.hid (C.out.step hb); have R := Lib.hid h1; clear h1 hb; dsimp only)
    | (go_at_call 23; (with_reducible refine (concat_2 (numB p.sub 2) p.data m _ 2 _ (rr_two wn A1 q.ad (numB p.sub 2) p.data 2 q.nd c1 q.cd _ R.out (H.out.on C.out.bel).rd (num_len _ _) H.out.ld) LE.out FL.out n LN.out).mono ?_); rintro e wk ⟨A2, c2, rfl, h2, hc2, hb⟩; replace C := Lib.hid (C.out.step hb ((Below.refl wn.heap.size wn).alloc (Nat.le_refl _) _)); clear R; have R := Lib.hid h2; have K := Lib.hid hc2; clear h2 hc2 hb; dsimp only))
  all_goals
    go_wp2_with fail
    go_ret2
    exact ⟨_, _, rfl, R.out, K.out, C.out.bel⟩


set_option maxHeartbeats 8000000 in
theorem lwr_magic (p : Pk) (q : Pl) (w : World) (h : Pw w p q) (hok : p.ok) (hs : p.sm) (hc : hasL p.code = 3) (m : List Nat) (k : Nat) (hm : wrL p = (m, k)) (n : Nat) (hn : m.length = n) :
    Calls Try.prog 66 #[p.val q] w fun e w' => ∃ A c, e = .returned (.tuple #[.slice A n c, .int .i64 (k : Int)]) ∧ Rd w' w'.heap.size A m ∧ n ≤ c ∧ Below w.heap.size w w' := by
  have C := Lib.hid (BxC.made 37 w p q)
  have H := Lib.hid h
  have HC := Lib.hid hc
  obtain ⟨hm1, rfl⟩ : numB p.magic 4 ++ p.data = m ∧ 0 = k := by
    rw [wrL, hc] at hm
    exact ⟨(Prod.mk.inj hm).1, (Prod.mk.inj hm).2⟩
  have FL := Lib.hid (show [numB p.magic 4, p.data].flatten = m by rw [← hm1]; simp)
  have LN := Lib.hid (show [numB p.magic 4, p.data].flatten.length = n by rw [FL.out, hn])
  have LE := Lib.hid (show [numB p.magic 4, p.data].flatten.length ≤ 1099511627776 by have := hs.nd; simp [num_len]; omega)
  have i1 : IntKind.u64.wrap (p.magic : Int) = (p.magic : Int) := by have := hok.magic; rw [IntKind.wrap_u64]; omega
  clear h hc hm hn hm1 hok hs
  go_enter Try.func66, Try.ntmps66
  go_wp2_with (first
    | (go_at_call 68; (with_reducible refine (lhas_v p.code _ HC.out _).mono ?_); rintro e wm ⟨rfl, hb⟩; replace C := Lib.hid (C.out.step hb); clear hb; obtain ⟨x0, x1, x2, x3, x4, x5, x6, x7, x8, x9⟩ := C.out.cf.all))
  clear x0 x1 x2 x3 x4 x6 x7 x9
  go_region_held3 (fun W => W.cell? ⟨w.heap.size, 5, none⟩ = some (.int .u32 (p.magic : Int)) ∧ W.cell? ⟨w.heap.size, 8, none⟩ = some (.slice q.ad q.nd q.cd)) (first | (with_reducible exact C.out.c58) | (with_reducible exact (C.out.step (Below.refl _ _).drew).c58) | (with_reducible exact (C.out.step ((Below.refl wn.heap.size wn).alloc (Nat.le_refl _) _)).c58)) (first
    | (go_at_call 70; (with_reducible refine (loct_4 p.magic _).mono ?_); rintro e wn ⟨A1, c1, rfl, hc1, h1, hb⟩; replace C := Lib.hid (C.out.step hb); have R := Lib.hid h1; clear h1 hb; dsimp only)
    | (go_at_call 23; (with_reducible refine (concat_2 (numB p.magic 4) p.data m _ 2 _ (rr_two wn A1 q.ad (numB p.magic 4) p.data 4 q.nd c1 q.cd _ R.out (H.out.on C.out.bel).rd (num_len _ _) H.out.ld) LE.out FL.out n LN.out).mono ?_); rintro e wk ⟨A2, c2, rfl, h2, hc2, hb⟩; replace C := Lib.hid (C.out.step hb ((Below.refl wn.heap.size wn).alloc (Nat.le_refl _) _)); clear R; have R := Lib.hid h2; have K := Lib.hid hc2; clear h2 hc2 hb; dsimp only))
  all_goals
    go_wp2_with fail
    go_ret2
    exact ⟨_, _, rfl, R.out, K.out, C.out.bel⟩
end

section
set_option maxRecDepth 4000
open Go.RowKit

theorem lwr_any (p : Pk) (q : Pl) (w : World) (h : Pw w p q) (hok : p.ok) (hs : p.sm) (m : List Nat) (k : Nat) (hm : wrL p = (m, k)) (n : Nat) (hn : m.length = n) :
    Calls Try.prog 66 #[p.val q] w fun e w' => ∃ A c, e = .returned (.tuple #[.slice A n c, .int .i64 (k : Int)]) ∧ Rd w' w'.heap.size A m ∧ n ≤ c ∧ Below w.heap.size w w' := by
  rcases hasL_cases p.code with hc | hc | hc | hc
  · exact lwr_data p q w h hc m k hm n hn
  · exact lwr_opts p q w h hok hs hc m k hm n hn
  · exact lwr_sub p q w h hok hs hc m k hm n hn
  · exact lwr_magic p q w h hok hs hc m k hm n hn

set_option maxHeartbeats 8000000 in
theorem lput_any (p : Pk) (q : Pl) (w : World) (h : Pw w p q) (hok : p.ok) (hs : p.sm) (m : List Nat) (k : Nat) (hm : lputB p = (m, k)) (n : Nat) (hn : m.length = n) :
    Calls Try.prog 63 #[p.val q] w fun e w' => ∃ A c, e = .returned (.tuple #[.slice A n c, .int .i64 (k : Int)]) ∧ Rd w' w'.heap.size A m ∧ n ≤ c ∧ Below w.heap.size w w' := by
  have C := Lib.hid (BxC.made 37 w p q)
  have H := Lib.hid h
  have HS := Lib.hid hs
  have HK := Lib.hid hok
  clear h hok hs
  by_cases h1 : p.proto = 49185
  case neg =>
    obtain ⟨rfl, rfl⟩ : [] = m ∧ 8 = k := by
      rw [lputB, if_neg h1] at hm
      exact ⟨(Prod.mk.inj hm).1, (Prod.mk.inj hm).2⟩
    obtain rfl : 0 = n := hn
    have j1 : ((p.proto : Int) != 49185) = true := by rw [bne_iff_ne]; omega
    clear hm h1
    go_enter Try.func63, Try.ntmps63
    go_wp2_with fail
    go_ret2
    exact ⟨none, 0, rfl, Rd.nil, Nat.le_refl _, C.out.bel⟩
  have j1 : ((p.proto : Int) != 49185) = false := by simp; omega
  cases hr : nothL (restL p)
  · obtain ⟨rfl, rfl⟩ : [] = m ∧ 9 = k := by
      rw [lputB, if_pos h1, hr] at hm
      exact ⟨(Prod.mk.inj hm).1, (Prod.mk.inj hm).2⟩
    obtain rfl : 0 = n := hn
    have HR := Lib.hid hr
    clear hm h1 hr
    go_enter Try.func63, Try.ntmps63
    go_wp2_with (first
      | (go_at_call 65; (with_reducible refine (lrest_any p q _ (H.out.on C.out.bel)).mono ?_); rintro e wn ⟨x, r, hx, rfl, hp, hb⟩; have HX := Lib.hid hx; have P := Lib.hid hp; replace C := Lib.hid (C.out.step hb); clear hx hp hb)
      | (go_at_call 64; (with_reducible refine (lnothing_any x r _ P.out _ (HX.out ▸ HR.out)).mono ?_); rintro e wn ⟨rfl, hb⟩; replace C := Lib.hid (C.out.step hb); clear hb P))
    go_ret2
    exact ⟨none, 0, rfl, Rd.nil, Nat.le_refl _, C.out.bel⟩
  obtain ⟨m2, k2, hw⟩ : ∃ m2 k2, wrL p = (m2, k2) := ⟨_, _, rfl⟩
  obtain ⟨n2, hn2⟩ : ∃ n2, Hid (m2.length = n2) := ⟨_, Lib.hid rfl⟩
  rw [lputB, if_pos h1, if_pos hr, hw] at hm
  dsimp only at hm
  have HR := Lib.hid hr
  have HW := Lib.hid hw
  clear h1 hr hw
  by_cases h2 : k2 = 0
  case neg =>
    obtain ⟨rfl, rfl⟩ : [] = m ∧ k2 = k := by
      rw [if_neg h2] at hm
      exact ⟨(Prod.mk.inj hm).1, (Prod.mk.inj hm).2⟩
    obtain rfl : 0 = n := hn
    have j2 : ((k2 : Int) != 0) = true := by rw [bne_iff_ne]; omega
    clear hm h2
    go_enter Try.func63, Try.ntmps63
    go_wp2_with (first
      | (go_at_call 65; (with_reducible refine (lrest_any p q _ (H.out.on C.out.bel)).mono ?_); rintro e wn ⟨x, r, hx, rfl, hp, hb⟩; have HX := Lib.hid hx; have P := Lib.hid hp; replace C := Lib.hid (C.out.step hb); clear hx hp hb)
      | (go_at_call 64; (with_reducible refine (lnothing_any x r _ P.out _ (HX.out ▸ HR.out)).mono ?_); rintro e wn ⟨rfl, hb⟩; replace C := Lib.hid (C.out.step hb); clear hb P; obtain ⟨x0, x1, x2, x3, x4, x5, x6, x7, x8, x9⟩ := C.out.cf.all)
      | (go_at_call 66; (with_reducible refine (lwr_any p q _ (H.out.on C.out.bel) HK.out HS.out m2 k2 HW.out n2 hn2.out).mono ?_); rintro e wn ⟨A3, c3, rfl, h3, h3c, hb⟩; replace C := Lib.hid (C.out.step hb); clear h3 h3c hb x0 x1 x2 x3 x4 x5 x6 x7 x8 x9))
    go_ret2
    exact ⟨none, 0, rfl, Rd.nil, Nat.le_refl _, C.out.bel⟩
  subst h2
  rw [if_pos rfl] at hm
  have HM := Lib.hid (Prod.mk.inj hm).1
  have HE := Lib.hid (Prod.mk.inj hm).2
  have HN := Lib.hid hn
  clear hm hn
  go_enter Try.func63, Try.ntmps63
  go_wp2_with (first
    | (go_at_call 65; (with_reducible refine (lrest_any p q _ (H.out.on C.out.bel)).mono ?_); rintro e wn ⟨x, r, hx, rfl, hp, hb⟩; have HX := Lib.hid hx; have P := Lib.hid hp; replace C := Lib.hid (C.out.step hb); clear hx hp hb)
    | (go_at_call 64; (with_reducible refine (lnothing_any x r _ P.out _ (HX.out ▸ HR.out)).mono ?_); rintro e wn ⟨rfl, hb⟩; replace C := Lib.hid (C.out.step hb); clear hb P; obtain ⟨x0, x1, x2, x3, x4, x5, x6, x7, x8, x9⟩ := C.out.cf.all)
    | (go_at_call 66; (with_reducible refine (lwr_any p q _ (H.out.on C.out.bel) HK.out HS.out m2 _ HW.out n2 hn2.out).mono ?_); rintro e wn ⟨A3, c3, rfl, h3, h3c, hb⟩; replace C := Lib.hid (C.out.step hb); have X := Lib.hid h3; clear h3 h3c hb x0 x1 x2 x3 x4 x5 x6 x7 x8 x9; obtain ⟨x0, x1, x2, x3, x4, x5, x6, x7, x8, x9⟩ := C.out.cf.all)
    | (go_at_call 67; (with_reducible refine (cput_v p.code p.id m2 _ HE.out m HM.out n HN.out n2 c3 A3 _ X.out hn2.out).mono ?_); rintro e wn ⟨A4, c4, rfl, h4, h4c, hb⟩; replace C := Lib.hid (C.out.step hb); clear X; have X := Lib.hid h4; have K := Lib.hid h4c; clear h4 h4c hb))
  go_ret2
  exact ⟨_, _, rfl, X.out, K.out, C.out.bel⟩

theorem lput_ex (w : World) : Calls Try.prog 63 #[.agg #[.int .u16 49185, .int .u8 9, .int .u8 0, .slice none 0 0, .int .u16 0, .int .u32 1, .slice none 0 0, .slice none 0 0, .slice none 0 0, .slice none 0 0]] w fun e w' => ∃ A c, e = .returned (.tuple #[.slice A 8 c, .int .i64 0]) ∧ Rd w' w'.heap.size A [9, 0, 0, 8, 0, 0, 0, 1] ∧ 8 ≤ c ∧ Below w.heap.size w w' :=
  lput_any ⟨49185, 9, 0, [], 0, 1, [], [], [], []⟩ pl0 w ⟨rfl, Rws.nilO, rfl, Rd.nil, rfl, Rd.nil, rfl, Rd.nil, rfl, Rws.nil, Nat.le_refl _, Nat.le_refl _, Nat.le_refl _⟩
    ⟨by decide, by decide, by decide, (fun _ h => by cases h), by decide, by decide, By.nil, By.nil, By.nil, (fun _ h => by cases h)⟩
    ⟨by decide, by decide, by decide, by decide, by decide, by decide⟩ [9, 0, 0, 8, 0, 0, 0, 1] 0 (by decide) 8 rfl
end
end Go.Proofs.Ytmhjnghomihjlaa
