
/-
  What the program's calls of layer 16 answer: Is, listed, rest, nothing, Put; the document's example. No condition beyond: packets that Go may have, at most 2^30 elements in each slice.
-/
import Derived.Test.YtmhjnghomihjlaaGMat
import Derived.Test.YtmhjnghomihjlaaGPkt
namespace Go.Proofs.Ytmhjnghomihjlaa
set_option maxRecDepth 4000
open Go.RowKit
set_option linter.unusedVariables false

theorem nis_any (t : Nat) (r : Bool) (hr : decide (t = 32801 ∨ t = 32855) = r) (w : World) : Calls Try.prog 44 #[.int .u16 (t : Int)] w fun e w' => e = .returned (.bool r) ∧ Below w.heap.size w w' := by
  by_cases h1 : t = 32801
  · have j1 : ((t : Int) == 32801) = true := by simp; omega
    obtain rfl : true = r := by rw [← hr]; simp [h1]
    clear h1 hr
    go_enter Try.func44, Try.ntmps44
    go_wp2_with fail
    go_ret
    exact ⟨rfl, Below.refl _ _⟩
  have j1 : ((t : Int) == 32801) = false := by simp; omega
  by_cases h2 : t = 32855
  · have j2 : ((t : Int) == 32855) = true := by simp; omega
    obtain rfl : true = r := by rw [← hr]; simp [h2]
    clear h1 h2 hr
    go_enter Try.func44, Try.ntmps44
    go_wp2_with fail
    go_ret
    exact ⟨rfl, Below.refl _ _⟩
  have j2 : ((t : Int) == 32855) = false := by simp; omega
  obtain rfl : false = r := by rw [← hr]; simp [h1, h2]
  clear h1 h2 hr
  go_enter Try.func44, Try.ntmps44
  go_wp2_with fail
  go_ret
  exact ⟨rfl, Below.refl _ _⟩

theorem nlisted_any (c : Nat) (r : Bool) (hr : decide (1 ≤ c ∧ c ≤ 4) = r) (w : World) : Calls Try.prog 87 #[.int .u8 (c : Int)] w fun e w' => e = .returned (.bool r) ∧ Below w.heap.size w w' := by
  by_cases h1 : 1 ≤ c
  case neg =>
    have j1 : ¬ (1 : Int) ≤ (c : Int) := by omega
    obtain rfl : false = r := by rw [← hr]; simp [h1]
    clear h1 hr
    go_enter Try.func87, Try.ntmps87
    go_wp2_with fail
    go_ret
    exact ⟨rfl, Below.refl _ _⟩
  have j1 : (1 : Int) ≤ (c : Int) := by omega
  by_cases h2 : c ≤ 4
  · have j2 : (c : Int) ≤ 4 := by omega
    obtain rfl : true = r := by rw [← hr]; simp [h1, h2]
    clear h1 h2 hr
    go_enter Try.func87, Try.ntmps87
    go_wp2_with fail
    go_ret
    exact ⟨rfl, Below.refl _ _⟩
  have j2 : ¬ (c : Int) ≤ 4 := by omega
  obtain rfl : false = r := by rw [← hr]; simp [h2]
  clear h1 h2 hr
  go_enter Try.func87, Try.ntmps87
  go_wp2_with fail
  go_ret
  exact ⟨rfl, Below.refl _ _⟩

set_option maxHeartbeats 1000000 in
theorem nnothing_any (p : Pk) (q : Pl) (w : World) (h : Pw w p q) (r : Bool) (hr : nothL p = r) :
    Calls Try.prog 85 #[p.val q] w fun e w' => e = .returned (.bool r) ∧ Below w.heap.size w w' := by
  have e0 := h.lo
  have e1 := h.l1
  have e2 := h.l2
  have e3 := h.ld
  have e4 := h.ln
  have E := Lib.hid (show r = (decide (p.sub = 0) && decide (p.magic = 0) && decide (q.no = 0) && decide (q.nn = 0) && decide (q.n1 = 0) && decide (q.n2 = 0) && decide (q.nd = 0)) by rw [← hr, nothL, e0, e1, e2, e3, e4])
  clear h e0 e1 e2 e3 e4 hr
  go_enter Try.func85, Try.ntmps85
  go_wp2_with fail
  all_goals
    go_ret
    refine ⟨?_, (Below.refl _ _).alloc (Nat.le_refl _) _⟩
    show Ending.returned (.bool _) = _
    have W' := E.out
    clear E
    congr 2
    rw [W']
    (try simp_all) <;> (first | (intros; omega) | (rw [Bool.eq_iff_iff]; simp) | skip)

set_option maxHeartbeats 4000000 in
theorem nrest_opts (p : Pk) (q : Pl) (w : World) (h : Pw w p q) (hk : 1 ≤ p.code ∧ p.code ≤ 4) :
    Calls Try.prog 86 #[p.val q] w fun e w' => ∃ x r, x = restN p ∧ e = .returned (x.val r) ∧ Pw w' x r ∧ Below w.heap.size w w' := by
  have C := Lib.hid (OfC.made 37 37 w p q)
  have H := Lib.hid h
  have HK := Lib.hid (show decide (1 ≤ p.code ∧ p.code ≤ 4) = true by exact decide_eq_true hk)
  have HX := Lib.hid (show { p with opts := [] } = restN p by unfold restN; rw [if_pos hk])
  clear h hk
  go_enter Try.func86, Try.ntmps86
  go_wp2_with (go_at_call 87; (with_reducible refine (nlisted_any p.code _ HK.out _).mono ?_); rintro e wn ⟨rfl, hb⟩; replace C := Lib.hid (C.out.step hb); clear hb; obtain ⟨x0, x1, x2, x3, x4, x5, x6, x7, x8, x9⟩ := C.out.cf.all; obtain ⟨u0, u1, u2, u3, u4, u5, u6, u7, u8, u9⟩ := C.out.cf.free; obtain ⟨y0, y1, y2, y3, y4, y5, y6, y7, y8, y9⟩ := C.out.res.all; obtain ⟨z0, z1, z2, z3, z4, z5, z6, z7, z8, z9⟩ := C.out.res.free)
  have B := Lib.hid (put10_below (C.out.bel.setCell (p := ⟨w.heap.size, 3, none⟩) (Nat.le_refl _) (.slice none 0 0)) (Nat.le_succ _) { p with opts := [] } { q with ao := none, no := 0, co := 0 })
  refine bodyPost_ret (v := Pk.val { p with opts := [] } { q with ao := none, no := 0, co := 0 }) ?_ rfl ⟨{ p with opts := [] }, { q with ao := none, no := 0, co := 0 }, HX.out, rfl, ?_, B.out⟩
  · exact results_cell_row rfl _ _ (w.heap.size + 1) 37 _ _ _ rfl (put10_px (C.out.res.other _ (by omega)) { p with opts := [] } { q with ao := none, no := 0, co := 0 }) Try.underlying37 rfl (by kernel_rfl)
  · have P := H.out.on B.out
    exact ⟨rfl, Rws.nilO, P.l1, P.r1, P.l2, P.r2, P.ld, P.rd, P.ln, P.rn, P.k1, P.k2, P.kd⟩

set_option maxHeartbeats 4000000 in
theorem nrest_data (p : Pk) (q : Pl) (w : World) (h : Pw w p q) (hk : ¬ (1 ≤ p.code ∧ p.code ≤ 4)) :
    Calls Try.prog 86 #[p.val q] w fun e w' => ∃ x r, x = restN p ∧ e = .returned (x.val r) ∧ Pw w' x r ∧ Below w.heap.size w w' := by
  have C := Lib.hid (OfC.made 37 37 w p q)
  have H := Lib.hid h
  have HK := Lib.hid (show decide (1 ≤ p.code ∧ p.code ≤ 4) = false by exact decide_eq_false hk)
  have HX := Lib.hid (show { p with data := [] } = restN p by unfold restN; rw [if_neg hk])
  clear h hk
  go_enter Try.func86, Try.ntmps86
  go_wp2_with (go_at_call 87; (with_reducible refine (nlisted_any p.code _ HK.out _).mono ?_); rintro e wn ⟨rfl, hb⟩; replace C := Lib.hid (C.out.step hb); clear hb; obtain ⟨x0, x1, x2, x3, x4, x5, x6, x7, x8, x9⟩ := C.out.cf.all; obtain ⟨u0, u1, u2, u3, u4, u5, u6, u7, u8, u9⟩ := C.out.cf.free; obtain ⟨y0, y1, y2, y3, y4, y5, y6, y7, y8, y9⟩ := C.out.res.all; obtain ⟨z0, z1, z2, z3, z4, z5, z6, z7, z8, z9⟩ := C.out.res.free)
  have B := Lib.hid (put10_below (C.out.bel.setCell (p := ⟨w.heap.size, 8, none⟩) (Nat.le_refl _) (.slice none 0 0)) (Nat.le_succ _) { p with data := [] } { q with ad := none, nd := 0, cd := 0 })
  refine bodyPost_ret (v := Pk.val { p with data := [] } { q with ad := none, nd := 0, cd := 0 }) ?_ rfl ⟨{ p with data := [] }, { q with ad := none, nd := 0, cd := 0 }, HX.out, rfl, ?_, B.out⟩
  · exact results_cell_row rfl _ _ (w.heap.size + 1) 37 _ _ _ rfl (put10_px (C.out.res.other _ (by omega)) { p with data := [] } { q with ad := none, nd := 0, cd := 0 }) Try.underlying37 rfl (by kernel_rfl)
  · have P := H.out.on B.out
    exact ⟨P.lo, P.ro, P.l1, P.r1, P.l2, P.r2, rfl, Rd.nil, P.ln, P.rn, P.k1, P.k2, Nat.le_refl _⟩

theorem nrest_any (p : Pk) (q : Pl) (w : World) (h : Pw w p q) :
    Calls Try.prog 86 #[p.val q] w fun e w' => ∃ x r, x = restN p ∧ e = .returned (x.val r) ∧ Pw w' x r ∧ Below w.heap.size w w' := by
  by_cases hk : 1 ≤ p.code ∧ p.code ≤ 4
  · exact nrest_opts p q w h hk
  · exact nrest_data p q w h hk

set_option maxHeartbeats 8000000 in
theorem nput_any (p : Pk) (q : Pl) (w : World) (h : Pw w p q) (hok : p.ok) (hs : p.sm) (m : List Nat) (k : Nat) (hm : nputB p = (m, k)) (n : Nat) (hn : m.length = n) :
    Calls Try.prog 84 #[p.val q] w fun e w' => ∃ A c, e = .returned (.tuple #[.slice A n c, .int .i64 (k : Int)]) ∧ Rd w' w'.heap.size A m ∧ n ≤ c ∧ Below w.heap.size w w' := by
  have C := Lib.hid (BxC.made 37 w p q)
  have H := Lib.hid h
  have HO := Lib.hid hok.opts
  have HD := Lib.hid (Nat.le_trans hs.d (by decide) : datB p.opts ≤ 68719476736)
  have s1 : q.no ≤ 68719476736 := by rw [← h.lo]; exact Nat.le_trans hs.o (by decide)
  clear h hok hs
  by_cases h1 : p.proto = 32801 ∨ p.proto = 32855
  case neg =>
    obtain ⟨rfl, rfl⟩ : [] = m ∧ 8 = k := by
      rw [nput_kind h1] at hm
      exact ⟨(Prod.mk.inj hm).1, (Prod.mk.inj hm).2⟩
    obtain rfl : 0 = n := hn
    have HI := Lib.hid (decide_eq_false h1)
    clear hm h1
    go_enter Try.func84, Try.ntmps84
    go_wp2_with (first
    | (go_at_call 44; (with_reducible refine (nis_any p.proto _ HI.out _).mono ?_); rintro e wn ⟨rfl, hb⟩; replace C := Lib.hid (C.out.step hb); clear hb; obtain ⟨x0, x1, x2, x3, x4, x5, x6, x7, x8, x9⟩ := C.out.cf.all)
)
    go_ret2
    exact ⟨none, 0, rfl, Rd.nil, Nat.le_refl _, C.out.bel⟩
  have HI := Lib.hid (decide_eq_true h1)
  cases hr : nothL (restN p)
  · obtain ⟨rfl, rfl⟩ : [] = m ∧ 9 = k := by
      rw [nputB, if_pos h1, hr] at hm
      exact ⟨(Prod.mk.inj hm).1, (Prod.mk.inj hm).2⟩
    obtain rfl : 0 = n := hn
    have HR := Lib.hid hr
    clear hm h1 hr
    go_enter Try.func84, Try.ntmps84
    go_wp2_with (first
    | (go_at_call 44; (with_reducible refine (nis_any p.proto _ HI.out _).mono ?_); rintro e wn ⟨rfl, hb⟩; replace C := Lib.hid (C.out.step hb); clear hb; obtain ⟨x0, x1, x2, x3, x4, x5, x6, x7, x8, x9⟩ := C.out.cf.all)
    | (go_at_call 86; (with_reducible refine (nrest_any p q _ (H.out.on C.out.bel)).mono ?_); rintro e wn ⟨x, r, hx, rfl, hp, hb⟩; have HX := Lib.hid hx; have P := Lib.hid hp; replace C := Lib.hid (C.out.step hb); clear hx hp hb; clear x0 x1 x2 x3 x4 x5 x6 x7 x8 x9)
    | (go_at_call 85; (with_reducible refine (nnothing_any x r _ P.out _ (HX.out ▸ HR.out)).mono ?_); rintro e wn ⟨rfl, hb⟩; replace C := Lib.hid (C.out.step hb); clear hb P; obtain ⟨x0, x1, x2, x3, x4, x5, x6, x7, x8, x9⟩ := C.out.cf.all)
)
    go_ret2
    exact ⟨none, 0, rfl, Rd.nil, Nat.le_refl _, C.out.bel⟩
  have HR := Lib.hid hr
  rw [nputB, if_pos h1, if_pos hr, wrN] at hm
  clear h1 hr
  by_cases hc : 1 ≤ p.code ∧ p.code ≤ 4
  case neg =>
    rw [if_neg hc] at hm
    dsimp only at hm
    rw [if_pos rfl] at hm
    have HC := Lib.hid (decide_eq_false hc)
    have HM := Lib.hid (Prod.mk.inj hm).1
    have HE := Lib.hid (Prod.mk.inj hm).2
    have HN := Lib.hid hn
    clear hm hn hc
    go_enter Try.func84, Try.ntmps84
    go_wp2_with (first
    | (go_at_call 44; (with_reducible refine (nis_any p.proto _ HI.out _).mono ?_); rintro e wn ⟨rfl, hb⟩; replace C := Lib.hid (C.out.step hb); clear hb; obtain ⟨x0, x1, x2, x3, x4, x5, x6, x7, x8, x9⟩ := C.out.cf.all)
    | (go_at_call 86; (with_reducible refine (nrest_any p q _ (H.out.on C.out.bel)).mono ?_); rintro e wn ⟨x, r, hx, rfl, hp, hb⟩; have HX := Lib.hid hx; have P := Lib.hid hp; replace C := Lib.hid (C.out.step hb); clear hx hp hb; clear x0 x1 x2 x3 x4 x5 x6 x7 x8 x9)
    | (go_at_call 85; (with_reducible refine (nnothing_any x r _ P.out _ (HX.out ▸ HR.out)).mono ?_); rintro e wn ⟨rfl, hb⟩; replace C := Lib.hid (C.out.step hb); clear hb P; obtain ⟨x0, x1, x2, x3, x4, x5, x6, x7, x8, x9⟩ := C.out.cf.all)
    | (go_at_call 87; (with_reducible refine (nlisted_any p.code _ HC.out _).mono ?_); rintro e wn ⟨rfl, hb⟩; replace C := Lib.hid (C.out.step hb); clear hb; clear x0 x1 x2 x3 x4 x5 x6 x7 x8 x9; obtain ⟨x0, x1, x2, x3, x4, x5, x6, x7, x8, x9⟩ := C.out.cf.all)
    | (go_at_call 67; (with_reducible refine (cput_v p.code p.id p.data _ HE.out m HM.out n HN.out q.nd q.cd q.ad _ (H.out.on C.out.bel).rd H.out.ld).mono ?_); rintro e wn ⟨A4, c4, rfl, h4, h4c, hb⟩; replace C := Lib.hid (C.out.step hb); have X := Lib.hid h4; have K := Lib.hid h4c; clear h4 h4c hb))
    go_ret2
    exact ⟨_, _, rfl, X.out, K.out, C.out.bel⟩
  rw [if_pos hc] at hm
  have HC := Lib.hid (decide_eq_true hc)
  obtain ⟨m2, k2, hw⟩ : ∃ m2 k2, putO p.proto p.opts = (m2, k2) := ⟨_, _, rfl⟩
  obtain ⟨n2, hn2⟩ : ∃ n2, Hid (m2.length = n2) := ⟨_, Lib.hid rfl⟩
  rw [hw] at hm
  dsimp only at hm
  have HW := Lib.hid hw
  clear hw hc
  by_cases h2 : k2 = 0
  case neg =>
    obtain ⟨rfl, rfl⟩ : [] = m ∧ k2 = k := by
      rw [if_neg h2] at hm
      exact ⟨(Prod.mk.inj hm).1, (Prod.mk.inj hm).2⟩
    obtain rfl : 0 = n := hn
    have j2 : ((k2 : Int) != 0) = true := by rw [bne_iff_ne]; omega
    clear hm h2
    go_enter Try.func84, Try.ntmps84
    go_wp2_with (first
    | (go_at_call 44; (with_reducible refine (nis_any p.proto _ HI.out _).mono ?_); rintro e wn ⟨rfl, hb⟩; replace C := Lib.hid (C.out.step hb); clear hb; obtain ⟨x0, x1, x2, x3, x4, x5, x6, x7, x8, x9⟩ := C.out.cf.all)
    | (go_at_call 86; (with_reducible refine (nrest_any p q _ (H.out.on C.out.bel)).mono ?_); rintro e wn ⟨x, r, hx, rfl, hp, hb⟩; have HX := Lib.hid hx; have P := Lib.hid hp; replace C := Lib.hid (C.out.step hb); clear hx hp hb; clear x0 x1 x2 x3 x4 x5 x6 x7 x8 x9)
    | (go_at_call 85; (with_reducible refine (nnothing_any x r _ P.out _ (HX.out ▸ HR.out)).mono ?_); rintro e wn ⟨rfl, hb⟩; replace C := Lib.hid (C.out.step hb); clear hb P; obtain ⟨x0, x1, x2, x3, x4, x5, x6, x7, x8, x9⟩ := C.out.cf.all)
    | (go_at_call 87; (with_reducible refine (nlisted_any p.code _ HC.out _).mono ?_); rintro e wn ⟨rfl, hb⟩; replace C := Lib.hid (C.out.step hb); clear hb; clear x0 x1 x2 x3 x4 x5 x6 x7 x8 x9; obtain ⟨x0, x1, x2, x3, x4, x5, x6, x7, x8, x9⟩ := C.out.cf.all)
    | (go_at_call 69; (with_reducible refine (pput_any p.proto p.opts m2 k2 HW.out n2 hn2.out q.no q.co q.ao _ _ (H.out.on C.out.bel).ro HO.out H.out.lo s1 HD.out).mono ?_); rintro e wn ⟨A4, c4, rfl, h4, h4c, hb⟩; replace C := Lib.hid (C.out.step hb); clear h4 h4c hb; clear x0 x1 x2 x3 x4 x5 x6 x7 x8 x9; obtain ⟨x0, x1, x2, x3, x4, x5, x6, x7, x8, x9⟩ := C.out.cf.all)
)
    go_ret2
    exact ⟨none, 0, rfl, Rd.nil, Nat.le_refl _, C.out.bel⟩
  subst h2
  rw [if_pos rfl] at hm
  have HM := Lib.hid (Prod.mk.inj hm).1
  have HE := Lib.hid (Prod.mk.inj hm).2
  have HN := Lib.hid hn
  clear hm hn
  go_enter Try.func84, Try.ntmps84
  go_wp2_with (first
    | (go_at_call 44; (with_reducible refine (nis_any p.proto _ HI.out _).mono ?_); rintro e wn ⟨rfl, hb⟩; replace C := Lib.hid (C.out.step hb); clear hb; obtain ⟨x0, x1, x2, x3, x4, x5, x6, x7, x8, x9⟩ := C.out.cf.all)
    | (go_at_call 86; (with_reducible refine (nrest_any p q _ (H.out.on C.out.bel)).mono ?_); rintro e wn ⟨x, r, hx, rfl, hp, hb⟩; have HX := Lib.hid hx; have P := Lib.hid hp; replace C := Lib.hid (C.out.step hb); clear hx hp hb; clear x0 x1 x2 x3 x4 x5 x6 x7 x8 x9)
    | (go_at_call 85; (with_reducible refine (nnothing_any x r _ P.out _ (HX.out ▸ HR.out)).mono ?_); rintro e wn ⟨rfl, hb⟩; replace C := Lib.hid (C.out.step hb); clear hb P; obtain ⟨x0, x1, x2, x3, x4, x5, x6, x7, x8, x9⟩ := C.out.cf.all)
    | (go_at_call 87; (with_reducible refine (nlisted_any p.code _ HC.out _).mono ?_); rintro e wn ⟨rfl, hb⟩; replace C := Lib.hid (C.out.step hb); clear hb; clear x0 x1 x2 x3 x4 x5 x6 x7 x8 x9; obtain ⟨x0, x1, x2, x3, x4, x5, x6, x7, x8, x9⟩ := C.out.cf.all)
    | (go_at_call 69; (with_reducible refine (pput_any p.proto p.opts m2 _ HW.out n2 hn2.out q.no q.co q.ao _ _ (H.out.on C.out.bel).ro HO.out H.out.lo s1 HD.out).mono ?_); rintro e wn ⟨A4, c4, rfl, h4, h4c, hb⟩; replace C := Lib.hid (C.out.step hb); have X := Lib.hid h4; clear h4 h4c hb; clear x0 x1 x2 x3 x4 x5 x6 x7 x8 x9; obtain ⟨x0, x1, x2, x3, x4, x5, x6, x7, x8, x9⟩ := C.out.cf.all)
    | (go_at_call 67; (with_reducible refine (cput_v p.code p.id m2 _ HE.out m HM.out n HN.out n2 c4 A4 _ X.out hn2.out).mono ?_); rintro e wn ⟨A5, c5, rfl, h5, h5c, hb⟩; replace C := Lib.hid (C.out.step hb); clear X; have X := Lib.hid h5; have K := Lib.hid h5c; clear h5 h5c hb))
  go_ret2
  exact ⟨_, _, rfl, X.out, K.out, C.out.bel⟩

theorem nput_ex (A : Option Addr) (w : World) (h : Rws shO (fun _ => True) w A [(3, [10, 0, 0, 1])]) : Calls Try.prog 84 #[.agg #[.int .u16 32801, .int .u8 1, .int .u8 0, .slice A 1 1, .int .u16 0, .int .u32 0, .slice none 0 0, .slice none 0 0, .slice none 0 0, .slice none 0 0]] w fun e w' => ∃ A c, e = .returned (.tuple #[.slice A 10 c, .int .i64 0]) ∧ Rd w' w'.heap.size A [1, 0, 0, 10, 3, 6, 10, 0, 0, 1] ∧ 10 ≤ c ∧ Below w.heap.size w w' :=
  nput_any ⟨32801, 1, 0, [(3, [10, 0, 0, 1])], 0, 0, [], [], [], []⟩ { pl0 with ao := A, no := 1, co := 1 } w ⟨rfl, h, rfl, Rd.nil, rfl, Rd.nil, rfl, Rd.nil, rfl, Rws.nil, Nat.le_refl _, Nat.le_refl _, Nat.le_refl _⟩
    ⟨by decide, by decide, by decide, (fun x hx => by simp at hx; subst hx; exact ⟨by decide, fun y hy => by have : y ∈ [10, 0, 0, 1] := hy; simp at this; omega⟩), by decide, by decide, By.nil, By.nil, By.nil, (fun _ h => by cases h)⟩
    ⟨by decide, by decide, by decide, by decide, by decide, by decide⟩ [1, 0, 0, 10, 3, 6, 10, 0, 0, 1] 0 (by decide) 10 rfl

end Go.Proofs.Ytmhjnghomihjlaa
