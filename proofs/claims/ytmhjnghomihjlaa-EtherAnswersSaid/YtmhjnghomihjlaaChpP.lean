
/-
  What the program's calls of layer 18 answer: valued, nothing, rest, written, Put; the document's example. No condition beyond: packets that Go may have, at most 2^30 elements in each slice.
-/
import Derived.Test.YtmhjnghomihjlaaGMat
import Derived.Test.YtmhjnghomihjlaaGPks
import Derived.Lib.SlBytesConst
import Derived.Deep.CutRange
import Derived.Deep.RegionHeld3
namespace Go.Proofs.Ytmhjnghomihjlaa
set_option maxRecDepth 4000
open Go.RowKit
set_option linter.unusedVariables false

theorem chval_any (c : Nat) (b : Bool) (hb : isvB c = b) (w : World) : Calls Try.prog 101 #[.int .u8 (c : Int)] w fun e w' => e = .returned (.bool b) ∧ Below w.heap.size w w' := by
  by_cases h1 : c = 1
  · obtain rfl : true = b := by rw [← hb, h1]; rfl
    have t1 : ((c : Int) == 1) = true := by simp; omega
    clear hb h1
    go_enter Try.func101, Try.ntmps101
    go_wp2_with fail
    go_ret
    exact ⟨rfl, Below.refl _ _⟩
  by_cases h2 : c = 2
  · obtain rfl : true = b := by rw [← hb, h2]; rfl
    have t1 : ((c : Int) == 1) = false := by simp; omega
    have t2 : ((c : Int) == 2) = true := by simp; omega
    clear hb h1 h2
    go_enter Try.func101, Try.ntmps101
    go_wp2_with fail
    go_ret
    exact ⟨rfl, Below.refl _ _⟩
  obtain rfl : false = b := by rw [← hb]; exact (decide_eq_false (by omega)).symm
  have t1 : ((c : Int) == 1) = false := by simp; omega
  have t2 : ((c : Int) == 2) = false := by simp; omega
  clear hb h1 h2
  go_enter Try.func101, Try.ntmps101
  go_wp2_with fail
  go_ret
  exact ⟨rfl, Below.refl _ _⟩

set_option maxHeartbeats 1000000 in
theorem chnothing_any (p : Pk) (q : Pl) (w : World) (h : Pw w p q) (r : Bool) (hr : nothL p = r) :
    Calls Try.prog 98 #[p.val q] w fun e w' => e = .returned (.bool r) ∧ Below w.heap.size w w' := by
  have e0 := h.lo
  have e1 := h.l1
  have e2 := h.l2
  have e3 := h.ld
  have e4 := h.ln
  have E := Lib.hid (show r = (decide (p.sub = 0) && decide (p.magic = 0) && decide (q.no = 0) && decide (q.nn = 0) && decide (q.n1 = 0) && decide (q.n2 = 0) && decide (q.nd = 0)) by rw [← hr, nothL, e0, e1, e2, e3, e4])
  clear h e0 e1 e2 e3 e4 hr
  go_enter Try.func98, Try.ntmps98
  go_wp2_with fail
  all_goals
    go_ret
    refine ⟨?_, (Below.refl _ _).alloc (Nat.le_refl _) _⟩
    show Ending.returned (.bool _) = _
    have W' := E.out
    clear E
    congr 2
    rw [W']
    (try simp_all) <;> (first | (intros; omega) | (rw [Bool.eq_iff_iff]; simp) | skip)


set_option maxHeartbeats 4000000 in
theorem chrest_val (p : Pk) (q : Pl) (w : World) (h : Pw w p q) (hk : isvB p.code = true) :
    Calls Try.prog 99 #[p.val q] w fun e w' => ∃ x r, x = restH p ∧ e = .returned (x.val r) ∧ Pw w' x r ∧ Below w.heap.size w w' := by
  have C := Lib.hid (OfC.made 37 37 w p q)
  have H := Lib.hid h
  have HK := Lib.hid hk
  have HX := Lib.hid (show { p with one := [], two := [] } = restH p by unfold restH; rw [hk]; rfl)
  clear h hk
  go_enter Try.func99, Try.ntmps99
  go_wp2_with (go_at_call 101; (with_reducible refine (chval_any p.code _ HK.out _).mono ?_); rintro e wn ⟨rfl, hb⟩; replace C := Lib.hid (C.out.step hb); clear hb; obtain ⟨x0, x1, x2, x3, x4, x5, x6, x7, x8, x9⟩ := C.out.cf.all; obtain ⟨u0, u1, u2, u3, u4, u5, u6, u7, u8, u9⟩ := C.out.cf.free; obtain ⟨y0, y1, y2, y3, y4, y5, y6, y7, y8, y9⟩ := C.out.res.all; obtain ⟨z0, z1, z2, z3, z4, z5, z6, z7, z8, z9⟩ := C.out.res.free)
  have B := Lib.hid (put10_below (((C.out.bel.setCell (p := ⟨w.heap.size, 6, none⟩) (Nat.le_refl _) (.slice none 0 0)).setCell (p := ⟨w.heap.size, 7, none⟩) (Nat.le_refl _) (.slice none 0 0))) (Nat.le_succ _) { p with one := [], two := [] } { q with a1 := none, n1 := 0, c1 := 0, a2 := none, n2 := 0, c2 := 0 })
  refine bodyPost_ret (v := Pk.val { p with one := [], two := [] } { q with a1 := none, n1 := 0, c1 := 0, a2 := none, n2 := 0, c2 := 0 }) ?_ rfl ⟨{ p with one := [], two := [] }, { q with a1 := none, n1 := 0, c1 := 0, a2 := none, n2 := 0, c2 := 0 }, HX.out, rfl, ?_, B.out⟩
  · exact results_cell_row rfl _ _ (w.heap.size + 1) 37 _ _ _ rfl (put10_px (((C.out.res).other _ (by omega)).other _ (by omega)) { p with one := [], two := [] } { q with a1 := none, n1 := 0, c1 := 0, a2 := none, n2 := 0, c2 := 0 }) Try.underlying37 rfl (by kernel_rfl)
  · have P := H.out.on B.out
    exact ⟨P.lo, P.ro, rfl, Rd.nil, rfl, Rd.nil, P.ld, P.rd, P.ln, P.rn, Nat.le_refl _, Nat.le_refl _, P.kd⟩

set_option maxHeartbeats 4000000 in
theorem chrest_data (p : Pk) (q : Pl) (w : World) (h : Pw w p q) (hk : isvB p.code = false) :
    Calls Try.prog 99 #[p.val q] w fun e w' => ∃ x r, x = restH p ∧ e = .returned (x.val r) ∧ Pw w' x r ∧ Below w.heap.size w w' := by
  have C := Lib.hid (OfC.made 37 37 w p q)
  have H := Lib.hid h
  have HK := Lib.hid hk
  have HX := Lib.hid (show { p with data := [] } = restH p by unfold restH; rw [hk]; rfl)
  clear h hk
  go_enter Try.func99, Try.ntmps99
  go_wp2_with (go_at_call 101; (with_reducible refine (chval_any p.code _ HK.out _).mono ?_); rintro e wn ⟨rfl, hb⟩; replace C := Lib.hid (C.out.step hb); clear hb; obtain ⟨x0, x1, x2, x3, x4, x5, x6, x7, x8, x9⟩ := C.out.cf.all; obtain ⟨u0, u1, u2, u3, u4, u5, u6, u7, u8, u9⟩ := C.out.cf.free; obtain ⟨y0, y1, y2, y3, y4, y5, y6, y7, y8, y9⟩ := C.out.res.all; obtain ⟨z0, z1, z2, z3, z4, z5, z6, z7, z8, z9⟩ := C.out.res.free)
  have B := Lib.hid (put10_below ((C.out.bel.setCell (p := ⟨w.heap.size, 8, none⟩) (Nat.le_refl _) (.slice none 0 0))) (Nat.le_succ _) { p with data := [] } { q with ad := none, nd := 0, cd := 0 })
  refine bodyPost_ret (v := Pk.val { p with data := [] } { q with ad := none, nd := 0, cd := 0 }) ?_ rfl ⟨{ p with data := [] }, { q with ad := none, nd := 0, cd := 0 }, HX.out, rfl, ?_, B.out⟩
  · exact results_cell_row rfl _ _ (w.heap.size + 1) 37 _ _ _ rfl (put10_px ((C.out.res).other _ (by omega)) { p with data := [] } { q with ad := none, nd := 0, cd := 0 }) Try.underlying37 rfl (by kernel_rfl)
  · have P := H.out.on B.out
    exact ⟨P.lo, P.ro, P.l1, P.r1, P.l2, P.r2, rfl, Rd.nil, P.ln, P.rn, P.k1, P.k2, Nat.le_refl _⟩

theorem chrest_any (p : Pk) (q : Pl) (w : World) (h : Pw w p q) :
    Calls Try.prog 99 #[p.val q] w fun e w' => ∃ x r, x = restH p ∧ e = .returned (x.val r) ∧ Pw w' x r ∧ Below w.heap.size w w' := by
  cases hk : isvB p.code
  · exact chrest_data p q w h hk
  · exact chrest_val p q w h hk

theorem concat_3 (l l2 l3 : List Nat) (m : List Nat) (A : Option Addr) (c : Nat) (w : World) (h : Rr w A [l, l2, l3]) (hs : [l, l2, l3].flatten.length ≤ 1099511627776) (hf : [l, l2, l3].flatten = m) (n : Nat) (hm : [l, l2, l3].flatten.length = n) :
    Calls Try.prog 23 #[.slice A 3 c] w fun e w' => ∃ A' c', e = .returned (.slice A' n c') ∧ Rd w' w'.heap.size A' m ∧ n ≤ c' ∧ Below w.heap.size w w' :=
  (concat_any [l, l2, l3] 3 A c w h rfl (by decide) hs).mono fun _ _ ⟨A', c', k, h1, h2, h3⟩ => by
    rw [hm] at h2
    subst h2
    rw [hf] at h3
    exact ⟨A', c', h1, h3.2.2.1, own_cap h3.2.1, h3.2.2.2⟩

set_option maxHeartbeats 8000000 in
theorem chwr_data (p : Pk) (q : Pl) (w : World) (h : Pw w p q) (hk : isvB p.code = false) :
    Calls Try.prog 100 #[p.val q] w (PutR w p.data q.nd 0) := by
  have C := Lib.hid (BxC.made 37 w p q)
  have H := Lib.hid h
  have HK := Lib.hid hk
  clear h hk
  obtain ⟨x0, x1, x2, x3, x4, x5, x6, x7, x8, x9⟩ := C.out.cf.all
  go_enter Try.func100, Try.ntmps100
  go_wp2_with (first
    | (go_at_call 101; (with_reducible refine (chval_any p.code _ HK.out _).mono ?_); rintro e wn ⟨rfl, hb⟩; replace C := Lib.hid (C.out.step hb); clear hb; (try clear x0 x1 x2 x3 x4 x5 x6 x7 x8 x9); obtain ⟨x0, x1, x2, x3, x4, x5, x6, x7, x8, x9⟩ := C.out.cf.all; have LT := C.out.cf.lt)
)
  go_ret2
  exact PutR.mk _ _ rfl (H.out.on C.out.bel).rd H.out.kd C.out.bel

set_option maxHeartbeats 8000000 in
theorem chwr_none (p : Pk) (q : Pl) (w : World) (h : Pw w p q) (hk : isvB p.code = true) (h1 : q.n1 = 0) :
    Calls Try.prog 100 #[p.val q] w (PutR w [] 0 4) := by
  have C := Lib.hid (BxC.made 37 w p q)
  have H := Lib.hid h
  have HK := Lib.hid hk
  have j1 : ((q.n1 : Int) == 0) = true := by simp; omega
  clear h1
  clear h hk
  obtain ⟨x0, x1, x2, x3, x4, x5, x6, x7, x8, x9⟩ := C.out.cf.all
  go_enter Try.func100, Try.ntmps100
  go_wp2_with (first
    | (go_at_call 101; (with_reducible refine (chval_any p.code _ HK.out _).mono ?_); rintro e wn ⟨rfl, hb⟩; replace C := Lib.hid (C.out.step hb); clear hb; (try clear x0 x1 x2 x3 x4 x5 x6 x7 x8 x9); obtain ⟨x0, x1, x2, x3, x4, x5, x6, x7, x8, x9⟩ := C.out.cf.all; have LT := C.out.cf.lt)
)
  go_ret2
  exact PutR.mk none 0 rfl Rd.nil (Nat.le_refl _) C.out.bel

set_option maxHeartbeats 8000000 in
theorem chwr_long (p : Pk) (q : Pl) (w : World) (h : Pw w p q) (hk : isvB p.code = true) (h1 : 255 < q.n1) :
    Calls Try.prog 100 #[p.val q] w (PutR w [] 0 3) := by
  have C := Lib.hid (BxC.made 37 w p q)
  have H := Lib.hid h
  have HK := Lib.hid hk
  have j1 : ((q.n1 : Int) == 0) = false := by simp; omega
  have j2 : (255 : Int) < (q.n1 : Int) := by omega
  clear h1
  clear h hk
  obtain ⟨x0, x1, x2, x3, x4, x5, x6, x7, x8, x9⟩ := C.out.cf.all
  go_enter Try.func100, Try.ntmps100
  go_wp2_with (first
    | (go_at_call 101; (with_reducible refine (chval_any p.code _ HK.out _).mono ?_); rintro e wn ⟨rfl, hb⟩; replace C := Lib.hid (C.out.step hb); clear hb; (try clear x0 x1 x2 x3 x4 x5 x6 x7 x8 x9); obtain ⟨x0, x1, x2, x3, x4, x5, x6, x7, x8, x9⟩ := C.out.cf.all; have LT := C.out.cf.lt)
)
  go_ret2
  exact PutR.mk none 0 rfl Rd.nil (Nat.le_refl _) C.out.bel

set_option maxHeartbeats 8000000 in
theorem chwr_ok (p : Pk) (q : Pl) (w : World) (h : Pw w p q) (hk : isvB p.code = true) (h0 : ¬ q.n1 = 0) (h1 : q.n1 ≤ 255) (hs : p.sm) (m : List Nat) (hm : lenT p.one ++ p.two = m) (n : Nat) (hn : m.length = n) :
    Calls Try.prog 100 #[p.val q] w (PutR w m n 0) := by
  have C := Lib.hid (BxC.made 37 w p q)
  have H := Lib.hid h
  have HK := Lib.hid hk
  have j1 : ((q.n1 : Int) == 0) = false := by simp; omega
  have j2 : ¬ (255 : Int) < (q.n1 : Int) := by omega
  have j3 : IntKind.u8.wrap (q.n1 : Int) = (q.n1 : Int) := by rw [IntKind.wrap_u8]; omega
  have FL := Lib.hid (show [[q.n1], p.one, p.two].flatten = m by rw [← hm, ← h.l1]; simp [lenT])
  have LN := Lib.hid (show [[q.n1], p.one, p.two].flatten.length = n by rw [FL.out, hn])
  have LE := Lib.hid (show [[q.n1], p.one, p.two].flatten.length ≤ 1099511627776 by have := hs.n1; have := hs.n2; simp; omega)
  clear h0 h1 hs hm hn
  clear h hk
  obtain ⟨x0, x1, x2, x3, x4, x5, x6, x7, x8, x9⟩ := C.out.cf.all
  go_enter Try.func100, Try.ntmps100
  go_wp2_with (first
    | (go_at_call 101; (with_reducible refine (chval_any p.code _ HK.out _).mono ?_); rintro e wn ⟨rfl, hb⟩; replace C := Lib.hid (C.out.step hb); clear hb; (try clear x0 x1 x2 x3 x4 x5 x6 x7 x8 x9); obtain ⟨x0, x1, x2, x3, x4, x5, x6, x7, x8, x9⟩ := C.out.cf.all; have LT := C.out.cf.lt)
    | (go_at_call 23; have hr := rr_tri (wn.alloc (.cells #[.int .u8 (q.n1 : Int)] 5)) (some ⟨wn.heap.size, 0, none⟩) q.a1 q.a2 [q.n1] p.one p.two 1 q.n1 q.n2 1 q.c1 q.c2 26 (Rd.lit_ wn [q.n1]) (H.out.on (C.out.al _).bel).r1 (H.out.on (C.out.al _).bel).r2 rfl H.out.l1 H.out.l2; rw [World.size_alloc] at hr; (with_reducible refine (concat_3 [q.n1] p.one p.two m _ _ _ hr LE.out FL.out n LN.out).mono ?_); rintro e wk ⟨A2, c2, rfl, h2, hc2, hb⟩; replace C := Lib.hid (((C.out.al (.cells #[.int .u8 (q.n1 : Int)] 5)).al (.cells #[.slice (some ⟨wn.heap.size, 0, none⟩) 1 1, .slice q.a1 q.n1 q.c1, .slice q.a2 q.n2 q.c2] 26)).step hb); have R := Lib.hid h2; have K := Lib.hid hc2; clear h2 hc2 hb hr)
)
  go_ret2
  exact PutR.mk _ _ rfl R.out K.out C.out.bel

theorem chwr_any (p : Pk) (q : Pl) (w : World) (h : Pw w p q) (hs : p.sm) (m : List Nat) (k : Nat) (hm : wrH p = (m, k)) (n : Nat) (hn : m.length = n) :
    Calls Try.prog 100 #[p.val q] w (PutR w m n k) := by
  have e1 := h.l1
  cases hk : isvB p.code
  · rw [wrH, hk, if_neg (by decide)] at hm
    obtain ⟨rfl, rfl⟩ := Prod.mk.inj hm
    rw [← hn, h.ld]
    exact chwr_data p q w h hk
  · rw [wrH, if_pos hk] at hm
    by_cases h0 : q.n1 = 0
    · rw [if_pos (List.eq_nil_of_length_eq_zero (e1.trans h0))] at hm
      obtain ⟨rfl, rfl⟩ := Prod.mk.inj hm
      obtain rfl : 0 = n := hn
      exact chwr_none p q w h hk h0
    · rw [if_neg (fun e => h0 (by rw [← e1, e]; rfl))] at hm
      by_cases h1 : q.n1 ≤ 255
      · rw [if_pos (by omega)] at hm
        obtain ⟨h2, rfl⟩ := Prod.mk.inj hm
        exact chwr_ok p q w h hk h0 h1 hs m h2 n hn
      · rw [if_neg (by omega)] at hm
        obtain ⟨rfl, rfl⟩ := Prod.mk.inj hm
        obtain rfl : 0 = n := hn
        exact chwr_long p q w h hk (by omega)

set_option maxHeartbeats 8000000 in
theorem chput_any (p : Pk) (q : Pl) (w : World) (h : Pw w p q) (hs : p.sm) (m : List Nat) (k : Nat) (hm : chputB p = (m, k)) (n : Nat) (hn : m.length = n) :
    Calls Try.prog 97 #[p.val q] w fun e w' => ∃ A c, e = .returned (.tuple #[.slice A n c, .int .i64 (k : Int)]) ∧ Rd w' w'.heap.size A m ∧ n ≤ c ∧ Below w.heap.size w w' := by
  have C := Lib.hid (BxC.made 37 w p q)
  have H := Lib.hid h
  have HS := Lib.hid hs
  clear h hs
  by_cases h1 : p.proto = 49699
  case neg =>
    obtain ⟨rfl, rfl⟩ : [] = m ∧ 8 = k := by
      rw [chput_kind h1] at hm
      exact ⟨(Prod.mk.inj hm).1, (Prod.mk.inj hm).2⟩
    obtain rfl : 0 = n := hn
    have j1 : ((p.proto : Int) != 49699) = true := by rw [bne_iff_ne]; omega
    clear hm h1
    go_enter Try.func97, Try.ntmps97
    go_wp2_with fail
    go_ret2
    exact ⟨none, 0, rfl, Rd.nil, Nat.le_refl _, C.out.bel⟩
  have j1 : ((p.proto : Int) != 49699) = false := by simp; omega
  cases hr : nothL (restH p)
  · obtain ⟨rfl, rfl⟩ : [] = m ∧ 9 = k := by
      rw [chputB, if_pos h1, hr] at hm
      exact ⟨(Prod.mk.inj hm).1, (Prod.mk.inj hm).2⟩
    obtain rfl : 0 = n := hn
    have HR := Lib.hid hr
    clear hm h1 hr
    go_enter Try.func97, Try.ntmps97
    go_wp2_with (first
    | (go_at_call 99; (with_reducible refine (chrest_any p q _ (H.out.on C.out.bel)).mono ?_); rintro e wn ⟨x, r, hx, rfl, hp, hb⟩; have HX := Lib.hid hx; have P := Lib.hid hp; replace C := Lib.hid (C.out.step hb); clear hx hp hb; (try clear x0 x1 x2 x3 x4 x5 x6 x7 x8 x9))
    | (go_at_call 98; (with_reducible refine (chnothing_any x r _ P.out _ (HX.out ▸ HR.out)).mono ?_); rintro e wn ⟨rfl, hb⟩; replace C := Lib.hid (C.out.step hb); clear hb P; obtain ⟨x0, x1, x2, x3, x4, x5, x6, x7, x8, x9⟩ := C.out.cf.all)
)
    go_ret2
    exact ⟨none, 0, rfl, Rd.nil, Nat.le_refl _, C.out.bel⟩
  have HR := Lib.hid hr
  rw [chputB, if_pos h1, if_pos hr] at hm
  clear h1 hr
  obtain ⟨m2, k2, hw⟩ : ∃ m2 k2, wrH p = (m2, k2) := ⟨_, _, rfl⟩
  obtain ⟨n2, hn2⟩ : ∃ n2, Hid (m2.length = n2) := ⟨_, Lib.hid rfl⟩
  rw [hw] at hm
  dsimp only at hm
  have HW := Lib.hid hw
  clear hw
  by_cases h2 : k2 = 0
  case neg =>
    obtain ⟨rfl, rfl⟩ : [] = m ∧ k2 = k := by
      rw [if_neg h2] at hm
      exact ⟨(Prod.mk.inj hm).1, (Prod.mk.inj hm).2⟩
    obtain rfl : 0 = n := hn
    have j2 : ((k2 : Int) != 0) = true := by rw [bne_iff_ne]; omega
    clear hm h2
    go_enter Try.func97, Try.ntmps97
    go_wp2_with (first
    | (go_at_call 99; (with_reducible refine (chrest_any p q _ (H.out.on C.out.bel)).mono ?_); rintro e wn ⟨x, r, hx, rfl, hp, hb⟩; have HX := Lib.hid hx; have P := Lib.hid hp; replace C := Lib.hid (C.out.step hb); clear hx hp hb; (try clear x0 x1 x2 x3 x4 x5 x6 x7 x8 x9))
    | (go_at_call 98; (with_reducible refine (chnothing_any x r _ P.out _ (HX.out ▸ HR.out)).mono ?_); rintro e wn ⟨rfl, hb⟩; replace C := Lib.hid (C.out.step hb); clear hb P; obtain ⟨x0, x1, x2, x3, x4, x5, x6, x7, x8, x9⟩ := C.out.cf.all)
    | (go_at_call 100; (with_reducible refine (chwr_any p q _ (H.out.on C.out.bel) HS.out m2 k2 HW.out n2 hn2.out).mono ?_); rintro e wn ⟨A4, c4, rfl, h4, h4c, hb⟩; replace C := Lib.hid (C.out.step hb); clear h4 h4c hb; clear x0 x1 x2 x3 x4 x5 x6 x7 x8 x9; obtain ⟨x0, x1, x2, x3, x4, x5, x6, x7, x8, x9⟩ := C.out.cf.all)
)
    go_ret2
    exact ⟨none, 0, rfl, Rd.nil, Nat.le_refl _, C.out.bel⟩
  subst h2
  rw [if_pos rfl] at hm
  have HM := Lib.hid (Prod.mk.inj hm).1
  have HE := Lib.hid (Prod.mk.inj hm).2
  have HN := Lib.hid hn
  clear hm hn
  go_enter Try.func97, Try.ntmps97
  go_wp2_with (first
    | (go_at_call 99; (with_reducible refine (chrest_any p q _ (H.out.on C.out.bel)).mono ?_); rintro e wn ⟨x, r, hx, rfl, hp, hb⟩; have HX := Lib.hid hx; have P := Lib.hid hp; replace C := Lib.hid (C.out.step hb); clear hx hp hb; (try clear x0 x1 x2 x3 x4 x5 x6 x7 x8 x9))
    | (go_at_call 98; (with_reducible refine (chnothing_any x r _ P.out _ (HX.out ▸ HR.out)).mono ?_); rintro e wn ⟨rfl, hb⟩; replace C := Lib.hid (C.out.step hb); clear hb P; obtain ⟨x0, x1, x2, x3, x4, x5, x6, x7, x8, x9⟩ := C.out.cf.all)
    | (go_at_call 100; (with_reducible refine (chwr_any p q _ (H.out.on C.out.bel) HS.out m2 _ HW.out n2 hn2.out).mono ?_); rintro e wn ⟨A4, c4, rfl, h4, h4c, hb⟩; replace C := Lib.hid (C.out.step hb); have X := Lib.hid h4; clear h4 h4c hb; clear x0 x1 x2 x3 x4 x5 x6 x7 x8 x9; obtain ⟨x0, x1, x2, x3, x4, x5, x6, x7, x8, x9⟩ := C.out.cf.all)
    | (go_at_call 67; (with_reducible refine (cput_v p.code p.id m2 _ HE.out m HM.out n HN.out n2 c4 A4 _ X.out hn2.out).mono ?_); rintro e wn ⟨A5, c5, rfl, h5, h5c, hb⟩; replace C := Lib.hid (C.out.step hb); clear X; have X := Lib.hid h5; have K := Lib.hid h5c; clear h5 h5c hb))
  go_ret2
  exact ⟨_, _, rfl, X.out, K.out, C.out.bel⟩

theorem chput_ex (A1 A2 : Option Addr) (w : World) (h1 : Rd w w.heap.size A1 [7]) (h2 : Rd w w.heap.size A2 [97]) : Calls Try.prog 97 #[.agg #[.int .u16 49699, .int .u8 1, .int .u8 0, .slice none 0 0, .int .u16 0, .int .u32 0, .slice A1 1 1, .slice A2 1 1, .slice none 0 0, .slice none 0 0]] w fun e w' => ∃ A c, e = .returned (.tuple #[.slice A 7 c, .int .i64 0]) ∧ Rd w' w'.heap.size A [1, 0, 0, 7, 1, 7, 97] ∧ 7 ≤ c ∧ Below w.heap.size w w' :=
  chput_any ⟨49699, 1, 0, [], 0, 0, [7], [97], [], []⟩ { pl0 with a1 := A1, n1 := 1, c1 := 1, a2 := A2, n2 := 1, c2 := 1 } w ⟨rfl, Rws.nilO, rfl, h1, rfl, h2, rfl, Rd.nil, rfl, Rws.nil, Nat.le_refl _, Nat.le_refl _, Nat.le_refl _⟩
    ⟨by decide, by decide, by decide, by decide, by decide, by decide⟩ [1, 0, 0, 7, 1, 7, 97] 0 (by decide) 7 rfl

end Go.Proofs.Ytmhjnghomihjlaa
