
/-
  What the program's calls of layer 17 answer: texts, rest, nothing, written, Put; the document's example. No condition beyond: packets that Go may have, at most 2^30 elements in each slice.
-/
import Derived.Test.YtmhjnghomihjlaaGPks
import Derived.LoopN
import Derived.Lib.SlBytesConst
import Derived.Deep.CutRange
import Derived.Deep.RegionHeld3
namespace Go.Proofs.Ytmhjnghomihjlaa
set_option maxRecDepth 4000
open Go.RowKit
set_option linter.unusedVariables false

theorem atxt_any (c : Nat) (k : Nat) (hk : txtB c = k) (w : World) : Calls Try.prog 94 #[.int .u8 (c : Int)] w fun e w' => e = .returned (.int .i64 (k : Int)) ∧ Below w.heap.size w w' := by
  by_cases h1 : c = 1
  · obtain rfl : 2 = k := by rw [← hk, h1]; rfl
    have t1 : ((c : Int) == 1) = true := by simp; omega
    clear hk h1
    go_enter Try.func94, Try.ntmps94
    go_wp2_with fail
    go_ret
    exact ⟨rfl, Below.refl _ _⟩
  by_cases h2 : c = 2
  · obtain rfl : 1 = k := by rw [← hk, h2]; rfl
    have t1 : ((c : Int) == 1) = false := by simp; omega
    have t2 : ((c : Int) == 2) = true := by simp; omega
    clear hk h1 h2
    go_enter Try.func94, Try.ntmps94
    go_wp2_with fail
    go_ret
    exact ⟨rfl, Below.refl _ _⟩
  by_cases h3 : c = 3
  · obtain rfl : 1 = k := by rw [← hk, h3]; rfl
    have t1 : ((c : Int) == 1) = false := by simp; omega
    have t2 : ((c : Int) == 2) = false := by simp; omega
    have t3 : ((c : Int) == 3) = true := by simp; omega
    clear hk h1 h2 h3
    go_enter Try.func94, Try.ntmps94
    go_wp2_with fail
    go_ret
    exact ⟨rfl, Below.refl _ _⟩
  obtain rfl : 0 = k := by rw [← hk, txtB, if_neg h1, if_neg (by omega)]
  have t1 : ((c : Int) == 1) = false := by simp; omega
  have t2 : ((c : Int) == 2) = false := by simp; omega
  have t3 : ((c : Int) == 3) = false := by simp; omega
  clear hk h1 h2 h3
  go_enter Try.func94, Try.ntmps94
  go_wp2_with fail
  go_ret
  exact ⟨rfl, Below.refl _ _⟩

set_option maxHeartbeats 1000000 in
theorem anothing_any (p : Pk) (q : Pl) (w : World) (h : Pw w p q) (r : Bool) (hr : nothL p = r) :
    Calls Try.prog 91 #[p.val q] w fun e w' => e = .returned (.bool r) ∧ Below w.heap.size w w' := by
  have e0 := h.lo
  have e1 := h.l1
  have e2 := h.l2
  have e3 := h.ld
  have e4 := h.ln
  have E := Lib.hid (show r = (decide (p.sub = 0) && decide (p.magic = 0) && decide (q.no = 0) && decide (q.nn = 0) && decide (q.n1 = 0) && decide (q.n2 = 0) && decide (q.nd = 0)) by rw [← hr, nothL, e0, e1, e2, e3, e4])
  clear h e0 e1 e2 e3 e4 hr
  go_enter Try.func91, Try.ntmps91
  go_wp2_with fail
  all_goals
    go_ret
    refine ⟨?_, (Below.refl _ _).alloc (Nat.le_refl _) _⟩
    show Ending.returned (.bool _) = _
    have W' := E.out
    clear E
    congr 2
    rw [W']
    (try simp_all) <;> (first | (intros; omega) | (rw [Bool.eq_iff_iff]; simp) | skip)

set_option maxHeartbeats 4000000 in
theorem arest_two (p : Pk) (q : Pl) (w : World) (h : Pw w p q) (hk : txtB p.code = 2) :
    Calls Try.prog 92 #[p.val q] w fun e w' => ∃ x r, x = restA p ∧ e = .returned (x.val r) ∧ Pw w' x r ∧ Below w.heap.size w w' := by
  have C := Lib.hid (OfC.made 37 37 w p q)
  have H := Lib.hid h
  have HK := Lib.hid hk
  have HX := Lib.hid (show { p with one := [], two := [] } = restA p by unfold restA; rw [if_pos hk])
  clear h hk
  go_enter Try.func92, Try.ntmps92
  go_wp2_with (go_at_call 94; (with_reducible refine (atxt_any p.code _ HK.out _).mono ?_); rintro e wn ⟨rfl, hb⟩; replace C := Lib.hid (C.out.step hb); clear hb; obtain ⟨x0, x1, x2, x3, x4, x5, x6, x7, x8, x9⟩ := C.out.cf.all; obtain ⟨u0, u1, u2, u3, u4, u5, u6, u7, u8, u9⟩ := C.out.cf.free; obtain ⟨y0, y1, y2, y3, y4, y5, y6, y7, y8, y9⟩ := C.out.res.all; obtain ⟨z0, z1, z2, z3, z4, z5, z6, z7, z8, z9⟩ := C.out.res.free)
  have B := Lib.hid (put10_below (((C.out.bel.setCell (p := ⟨w.heap.size, 6, none⟩) (Nat.le_refl _) (.slice none 0 0)).setCell (p := ⟨w.heap.size, 7, none⟩) (Nat.le_refl _) (.slice none 0 0))) (Nat.le_succ _) { p with one := [], two := [] } { q with a1 := none, n1 := 0, c1 := 0, a2 := none, n2 := 0, c2 := 0 })
  refine bodyPost_ret (v := Pk.val { p with one := [], two := [] } { q with a1 := none, n1 := 0, c1 := 0, a2 := none, n2 := 0, c2 := 0 }) ?_ rfl ⟨{ p with one := [], two := [] }, { q with a1 := none, n1 := 0, c1 := 0, a2 := none, n2 := 0, c2 := 0 }, HX.out, rfl, ?_, B.out⟩
  · exact results_cell_row rfl _ _ (w.heap.size + 1) 37 _ _ _ rfl (put10_px (((C.out.res).other _ (by omega)).other _ (by omega)) { p with one := [], two := [] } { q with a1 := none, n1 := 0, c1 := 0, a2 := none, n2 := 0, c2 := 0 }) Try.underlying37 rfl (by kernel_rfl)
  · have P := H.out.on B.out
    exact ⟨P.lo, P.ro, rfl, Rd.nil, rfl, Rd.nil, P.ld, P.rd, P.ln, P.rn, Nat.le_refl _, Nat.le_refl _, P.kd⟩

set_option maxHeartbeats 4000000 in
theorem arest_one (p : Pk) (q : Pl) (w : World) (h : Pw w p q) (hk : txtB p.code = 1) :
    Calls Try.prog 92 #[p.val q] w fun e w' => ∃ x r, x = restA p ∧ e = .returned (x.val r) ∧ Pw w' x r ∧ Below w.heap.size w w' := by
  have C := Lib.hid (OfC.made 37 37 w p q)
  have H := Lib.hid h
  have HK := Lib.hid hk
  have HX := Lib.hid (show { p with one := [] } = restA p by unfold restA; rw [if_neg (by omega), if_pos hk])
  clear h hk
  go_enter Try.func92, Try.ntmps92
  go_wp2_with (go_at_call 94; (with_reducible refine (atxt_any p.code _ HK.out _).mono ?_); rintro e wn ⟨rfl, hb⟩; replace C := Lib.hid (C.out.step hb); clear hb; obtain ⟨x0, x1, x2, x3, x4, x5, x6, x7, x8, x9⟩ := C.out.cf.all; obtain ⟨u0, u1, u2, u3, u4, u5, u6, u7, u8, u9⟩ := C.out.cf.free; obtain ⟨y0, y1, y2, y3, y4, y5, y6, y7, y8, y9⟩ := C.out.res.all; obtain ⟨z0, z1, z2, z3, z4, z5, z6, z7, z8, z9⟩ := C.out.res.free)
  have B := Lib.hid (put10_below ((C.out.bel.setCell (p := ⟨w.heap.size, 6, none⟩) (Nat.le_refl _) (.slice none 0 0))) (Nat.le_succ _) { p with one := [] } { q with a1 := none, n1 := 0, c1 := 0 })
  refine bodyPost_ret (v := Pk.val { p with one := [] } { q with a1 := none, n1 := 0, c1 := 0 }) ?_ rfl ⟨{ p with one := [] }, { q with a1 := none, n1 := 0, c1 := 0 }, HX.out, rfl, ?_, B.out⟩
  · exact results_cell_row rfl _ _ (w.heap.size + 1) 37 _ _ _ rfl (put10_px ((C.out.res).other _ (by omega)) { p with one := [] } { q with a1 := none, n1 := 0, c1 := 0 }) Try.underlying37 rfl (by kernel_rfl)
  · have P := H.out.on B.out
    exact ⟨P.lo, P.ro, rfl, Rd.nil, P.l2, P.r2, P.ld, P.rd, P.ln, P.rn, Nat.le_refl _, P.k2, P.kd⟩

set_option maxHeartbeats 4000000 in
theorem arest_data (p : Pk) (q : Pl) (w : World) (h : Pw w p q) (hk : txtB p.code = 0) :
    Calls Try.prog 92 #[p.val q] w fun e w' => ∃ x r, x = restA p ∧ e = .returned (x.val r) ∧ Pw w' x r ∧ Below w.heap.size w w' := by
  have C := Lib.hid (OfC.made 37 37 w p q)
  have H := Lib.hid h
  have HK := Lib.hid hk
  have HX := Lib.hid (show { p with data := [] } = restA p by unfold restA; rw [if_neg (by omega), if_neg (by omega)])
  clear h hk
  go_enter Try.func92, Try.ntmps92
  go_wp2_with (go_at_call 94; (with_reducible refine (atxt_any p.code _ HK.out _).mono ?_); rintro e wn ⟨rfl, hb⟩; replace C := Lib.hid (C.out.step hb); clear hb; obtain ⟨x0, x1, x2, x3, x4, x5, x6, x7, x8, x9⟩ := C.out.cf.all; obtain ⟨u0, u1, u2, u3, u4, u5, u6, u7, u8, u9⟩ := C.out.cf.free; obtain ⟨y0, y1, y2, y3, y4, y5, y6, y7, y8, y9⟩ := C.out.res.all; obtain ⟨z0, z1, z2, z3, z4, z5, z6, z7, z8, z9⟩ := C.out.res.free)
  have B := Lib.hid (put10_below ((C.out.bel.setCell (p := ⟨w.heap.size, 8, none⟩) (Nat.le_refl _) (.slice none 0 0))) (Nat.le_succ _) { p with data := [] } { q with ad := none, nd := 0, cd := 0 })
  refine bodyPost_ret (v := Pk.val { p with data := [] } { q with ad := none, nd := 0, cd := 0 }) ?_ rfl ⟨{ p with data := [] }, { q with ad := none, nd := 0, cd := 0 }, HX.out, rfl, ?_, B.out⟩
  · exact results_cell_row rfl _ _ (w.heap.size + 1) 37 _ _ _ rfl (put10_px ((C.out.res).other _ (by omega)) { p with data := [] } { q with ad := none, nd := 0, cd := 0 }) Try.underlying37 rfl (by kernel_rfl)
  · have P := H.out.on B.out
    exact ⟨P.lo, P.ro, P.l1, P.r1, P.l2, P.r2, rfl, Rd.nil, P.ln, P.rn, P.k1, P.k2, Nat.le_refl _⟩

theorem arest_any (p : Pk) (q : Pl) (w : World) (h : Pw w p q) :
    Calls Try.prog 92 #[p.val q] w fun e w' => ∃ x r, x = restA p ∧ e = .returned (x.val r) ∧ Pw w' x r ∧ Below w.heap.size w w' := by
  rcases txtB_cases p.code with ⟨-, hk⟩ | ⟨-, hk⟩ | ⟨-, hk⟩
  · exact arest_two p q w h hk
  · exact arest_one p q w h hk
  · exact arest_data p q w h hk

/-- What written knows of the world that it stands in: its packet, the row of its texts. -/
structure WrC (T : TypeId) (w W : World) (gr B : Nat) (p : Pk) (q : Pl) : Prop where
  bx : BxC T w W p q
  row : W.heap[gr]? = some (.cells #[.slice q.a1 q.n1 q.c1, .slice q.a2 q.n2 q.c2] 26)
  lo : w.heap.size < gr
  hi : gr < B
  sz : B ≤ W.heap.size
theorem WrC.grown {T : TypeId} {w W X W' : World} {gr B : Nat} {p : Pk} {q : Pl} {row : Option Nat} (h : WrC T w W gr B p q) (hg : X.grownBy W' row) (hrow : ∀ k, row = some k → B ≤ k) (hX : Below W.heap.size W X) : WrC T w W' gr B p q := by
  have h1 := h.lo
  have h2 := h.hi
  have h3 := h.sz
  have h4 := hX.size
  have hb := ((Below.refl X.heap.size X).mono (Nat.le_trans h3 h4)).grown hg (Nat.le_trans h3 h4) hrow
  refine ⟨h.bx.grown hg (fun k hk => by have := hrow k hk; omega) hX, ?_, h1, h2, ?_⟩
  · rw [hg.block gr (by omega) (fun e => by have := hrow _ e.symm; omega), hX.block gr (by omega)]
    exact h.row
  · have := hb.size; omega
theorem WrC.c {T : TypeId} {w W : World} {gr B : Nat} {p : Pk} {q : Pl} (h : WrC T w W gr B p q) : W.cell? ⟨gr, 0, none⟩ = some (.slice q.a1 q.n1 q.c1) ∧ W.cell? ⟨gr, 1, none⟩ = some (.slice q.a2 q.n2 q.c2) :=
  ⟨cell_of_row W gr 0 _ _ _ h.row, cell_of_row W gr 1 _ _ _ h.row⟩

set_option maxHeartbeats 8000000 in
theorem awr_data (p : Pk) (q : Pl) (w : World) (h : Pw w p q) (hk : txtB p.code = 0) :
    Calls Try.prog 93 #[p.val q] w (PutR w p.data q.nd 0) := by
  obtain ⟨i0, hi, hz0, hz1, hz2⟩ := info_parts byte_info
  have C := Lib.hid (BxC.made 37 w p q)
  have H := Lib.hid h
  have HK := Lib.hid hk
  clear h hk
  go_enter Try.func93, Try.ntmps93
  go_wp2_with (first
    | (go_at_call 94; (with_reducible refine (atxt_any p.code _ HK.out _).mono ?_); rintro e wn ⟨rfl, hb⟩; replace C := Lib.hid (C.out.step hb); clear hb; (try clear x0 x1 x2 x3 x4 x5 x6 x7 x8 x9); obtain ⟨x0, x1, x2, x3, x4, x5, x6, x7, x8, x9⟩ := C.out.cf.all; have G0 := Lib.hid trivial)
)
  go_ret2
  exact PutR.mk _ _ rfl (H.out.on C.out.bel).rd H.out.kd C.out.bel

set_option maxHeartbeats 8000000 in
theorem awr_one (p : Pk) (q : Pl) (w : World) (h : Pw w p q) (hk : txtB p.code = 1) (hs : p.sm) (h1 : q.n1 ≤ 255) :
    Calls Try.prog 93 #[p.val q] w (PutR w ([q.n1] ++ p.one) (1 + q.n1) 0) := by
  obtain ⟨i0, hi, hz0, hz1, hz2⟩ := info_parts byte_info
  have C := Lib.hid (BxC.made 37 w p q)
  have H := Lib.hid h
  have HK := Lib.hid hk
  have s1 : q.n1 ≤ 1073741824 := by rw [← h.l1]; exact hs.n1
  have s2 : q.n2 ≤ 1073741824 := by rw [← h.l2]; exact hs.n2
  have f1 : ¬ (255 : Int) < (q.n1 : Int) := by omega
  have e1 : IntKind.u8.wrap (q.n1 : Int) = (q.n1 : Int) := by rw [IntKind.wrap_u8]; omega
  clear hs
  clear h hk
  go_enter Try.func93, Try.ntmps93
  go_upto_region 6 with (first
    | (go_at_call 94; (with_reducible refine (atxt_any p.code _ HK.out _).mono ?_); rintro e wn ⟨rfl, hb⟩; replace C := Lib.hid (C.out.step hb); clear hb; (try clear x0 x1 x2 x3 x4 x5 x6 x7 x8 x9); obtain ⟨x0, x1, x2, x3, x4, x5, x6, x7, x8, x9⟩ := C.out.cf.all; have LT := Lib.hid C.out.cf.lt)
)
  have BA := Lib.hid ((Below.refl wn.heap.size wn).alloc (Nat.le_refl _) (.cells #[.slice q.a1 q.n1 q.c1, .slice q.a2 q.n2 q.c2] 26))
  have RA := Lib.hid (heap_alloc_new wn (.cells #[.slice q.a1 q.n1 q.c1, .slice q.a2 q.n2 q.c2] 26))
  have SA := Lib.hid (World.size_alloc wn (.cells #[.slice q.a1 q.n1 q.c1, .slice q.a2 q.n2 q.c2] 26))
  replace C := Lib.hid (C.out.step BA.out)
  obtain ⟨gr, hgr⟩ : ∃ gr, Hid (wn.heap.size = gr) := ⟨_, Lib.hid rfl⟩
  rw [hgr.out] at RA SA ⊢
  have GW := Lib.hid (show w.heap.size < gr from by rw [← hgr.out]; exact LT.out)
  refine at_worldP (fun W => Hid (WrC 37 w W gr W.heap.size p q)) (Lib.hid ⟨C.out, RA.out, GW.out, by rw [SA.out]; exact Nat.lt_succ_self _, Nat.le_refl _⟩) ?_
  clear C RA BA SA GW hgr LT x0 x1 x2 x3 x4 x5 x6 x7 x8 x9
  rintro wm Z
  obtain ⟨v0, v1⟩ := Z.out.c
  have G1 := Lib.hid trivial
  obtain ⟨vn, hvn⟩ : ∃ v, Hid (Value.slice none 0 0 = v) := ⟨_, Lib.hid rfl⟩
  have HON := Lib.hid (show (wm.alloc (.cells #[.int .u8 (q.n1 : Int)] 5)).ownsRow wm.heap.size 5 1 vn 0 (bvs []) from hvn.out ▸ World.ownsRow_nil _ _ _ _)
  rw [hvn.out]
  refine wp_loop_rounds 2 ?_
  rw [rounds_succ]
  go_wp2_with (first
    | (at_builtin; have _g := G1; clear _g; refine list_app rfl _ _ _ rfl _ i0 Try.underlying26 hi hz0 hz1 hz2 wm.heap.size _ 0 [] rfl HON.out _ _ 1 _ [q.n1] rfl (show Rd (wm.alloc (.cells #[.int .u8 (q.n1 : Int)] 5)) (wm.alloc (.cells #[.int .u8 (q.n1 : Int)] 5)).heap.size (some ⟨wm.heap.size, 0, none⟩) [q.n1] from Rd.lit_ wm [q.n1]) rfl (by omega) (by rw [World.size_alloc]; exact Nat.le_succ_of_le Z.out.sz) ?_; intro A3 c3 w3 ho3 hg3; rw [Nat.zero_add] at ho3 ⊢; replace Z := Lib.hid (Z.out.grown hg3 (fun k hk => (HON.out.lt k hk).1) ((Below.refl _ _).alloc (Nat.le_refl _) _)); (try clear HO); have HO := Lib.hid ho3; clear ho3 hg3 G1; have G2 := Lib.hid trivial; clear v0 v1; obtain ⟨v0, v1⟩ := Z.out.c)
    | (at_builtin; have _g := G2; clear _g; refine list_app rfl _ _ _ rfl _ i0 Try.underlying26 hi hz0 hz1 hz2 wm.heap.size _ 1 [q.n1] rfl HO.out _ _ q.n1 _ p.one rfl (H.out.on Z.out.bx.bel).r1 H.out.l1 (by omega) Z.out.sz ?_; intro A4 c4 w4 ho4 hg4; replace Z := Lib.hid (Z.out.grown hg4 (fun k hk => (HO.out.lt k hk).1) (Below.refl _ _)); clear HO; have HO := Lib.hid ho4; clear ho4 hg4 G2; have G3 := Lib.hid trivial; clear v0 v1; obtain ⟨v0, v1⟩ := Z.out.c)
)
  rw [rounds_succ]
  go_wp2_with fail
  go_ret2
  exact PutR.mk _ _ rfl (Rd.own HO.out) (own_cap HO.out) Z.out.bx.bel

set_option maxHeartbeats 8000000 in
theorem awr_one_no (p : Pk) (q : Pl) (w : World) (h : Pw w p q) (hk : txtB p.code = 1) (h1 : ¬ q.n1 ≤ 255) :
    Calls Try.prog 93 #[p.val q] w (PutR w [] 0 3) := by
  obtain ⟨i0, hi, hz0, hz1, hz2⟩ := info_parts byte_info
  have C := Lib.hid (BxC.made 37 w p q)
  have H := Lib.hid h
  have HK := Lib.hid hk
  have f1 : (255 : Int) < (q.n1 : Int) := by omega
  clear h hk
  go_enter Try.func93, Try.ntmps93
  go_upto_region 6 with (first
    | (go_at_call 94; (with_reducible refine (atxt_any p.code _ HK.out _).mono ?_); rintro e wn ⟨rfl, hb⟩; replace C := Lib.hid (C.out.step hb); clear hb; (try clear x0 x1 x2 x3 x4 x5 x6 x7 x8 x9); obtain ⟨x0, x1, x2, x3, x4, x5, x6, x7, x8, x9⟩ := C.out.cf.all; have LT := Lib.hid C.out.cf.lt)
)
  have BA := Lib.hid ((Below.refl wn.heap.size wn).alloc (Nat.le_refl _) (.cells #[.slice q.a1 q.n1 q.c1, .slice q.a2 q.n2 q.c2] 26))
  have RA := Lib.hid (heap_alloc_new wn (.cells #[.slice q.a1 q.n1 q.c1, .slice q.a2 q.n2 q.c2] 26))
  have SA := Lib.hid (World.size_alloc wn (.cells #[.slice q.a1 q.n1 q.c1, .slice q.a2 q.n2 q.c2] 26))
  replace C := Lib.hid (C.out.step BA.out)
  obtain ⟨gr, hgr⟩ : ∃ gr, Hid (wn.heap.size = gr) := ⟨_, Lib.hid rfl⟩
  rw [hgr.out] at RA SA ⊢
  have GW := Lib.hid (show w.heap.size < gr from by rw [← hgr.out]; exact LT.out)
  refine at_worldP (fun W => Hid (WrC 37 w W gr W.heap.size p q)) (Lib.hid ⟨C.out, RA.out, GW.out, by rw [SA.out]; exact Nat.lt_succ_self _, Nat.le_refl _⟩) ?_
  clear C RA BA SA GW hgr LT x0 x1 x2 x3 x4 x5 x6 x7 x8 x9
  rintro wm Z
  obtain ⟨v0, v1⟩ := Z.out.c
  have G1 := Lib.hid trivial
  obtain ⟨vn, hvn⟩ : ∃ v, Hid (Value.slice none 0 0 = v) := ⟨_, Lib.hid rfl⟩
  have HON := Lib.hid (show (wm.alloc (.cells #[.int .u8 (q.n1 : Int)] 5)).ownsRow wm.heap.size 5 1 vn 0 (bvs []) from hvn.out ▸ World.ownsRow_nil _ _ _ _)
  rw [hvn.out]
  refine wp_loop_rounds 1 ?_
  rw [rounds_succ]
  go_wp2_with fail
  go_ret2
  exact PutR.mk none 0 (by rw [← hvn.out]; rfl) Rd.nil (Nat.le_refl _) Z.out.bx.bel

set_option maxHeartbeats 8000000 in
theorem awr_two (p : Pk) (q : Pl) (w : World) (h : Pw w p q) (hk : txtB p.code = 2) (hs : p.sm) (h1 : q.n1 ≤ 255) (h2 : q.n2 ≤ 255) :
    Calls Try.prog 93 #[p.val q] w (PutR w ([q.n1] ++ p.one ++ [q.n2] ++ p.two) (1 + q.n1 + 1 + q.n2) 0) := by
  obtain ⟨i0, hi, hz0, hz1, hz2⟩ := info_parts byte_info
  have C := Lib.hid (BxC.made 37 w p q)
  have H := Lib.hid h
  have HK := Lib.hid hk
  have s1 : q.n1 ≤ 1073741824 := by rw [← h.l1]; exact hs.n1
  have s2 : q.n2 ≤ 1073741824 := by rw [← h.l2]; exact hs.n2
  have f1 : ¬ (255 : Int) < (q.n1 : Int) := by omega
  have e1 : IntKind.u8.wrap (q.n1 : Int) = (q.n1 : Int) := by rw [IntKind.wrap_u8]; omega
  have f2 : ¬ (255 : Int) < (q.n2 : Int) := by omega
  have e2 : IntKind.u8.wrap (q.n2 : Int) = (q.n2 : Int) := by rw [IntKind.wrap_u8]; omega
  clear hs
  clear h hk
  go_enter Try.func93, Try.ntmps93
  go_upto_region 6 with (first
    | (go_at_call 94; (with_reducible refine (atxt_any p.code _ HK.out _).mono ?_); rintro e wn ⟨rfl, hb⟩; replace C := Lib.hid (C.out.step hb); clear hb; (try clear x0 x1 x2 x3 x4 x5 x6 x7 x8 x9); obtain ⟨x0, x1, x2, x3, x4, x5, x6, x7, x8, x9⟩ := C.out.cf.all; have LT := Lib.hid C.out.cf.lt)
)
  have BA := Lib.hid ((Below.refl wn.heap.size wn).alloc (Nat.le_refl _) (.cells #[.slice q.a1 q.n1 q.c1, .slice q.a2 q.n2 q.c2] 26))
  have RA := Lib.hid (heap_alloc_new wn (.cells #[.slice q.a1 q.n1 q.c1, .slice q.a2 q.n2 q.c2] 26))
  have SA := Lib.hid (World.size_alloc wn (.cells #[.slice q.a1 q.n1 q.c1, .slice q.a2 q.n2 q.c2] 26))
  replace C := Lib.hid (C.out.step BA.out)
  obtain ⟨gr, hgr⟩ : ∃ gr, Hid (wn.heap.size = gr) := ⟨_, Lib.hid rfl⟩
  rw [hgr.out] at RA SA ⊢
  have GW := Lib.hid (show w.heap.size < gr from by rw [← hgr.out]; exact LT.out)
  refine at_worldP (fun W => Hid (WrC 37 w W gr W.heap.size p q)) (Lib.hid ⟨C.out, RA.out, GW.out, by rw [SA.out]; exact Nat.lt_succ_self _, Nat.le_refl _⟩) ?_
  clear C RA BA SA GW hgr LT x0 x1 x2 x3 x4 x5 x6 x7 x8 x9
  rintro wm Z
  obtain ⟨v0, v1⟩ := Z.out.c
  have G1 := Lib.hid trivial
  obtain ⟨vn, hvn⟩ : ∃ v, Hid (Value.slice none 0 0 = v) := ⟨_, Lib.hid rfl⟩
  have HON := Lib.hid (show (wm.alloc (.cells #[.int .u8 (q.n1 : Int)] 5)).ownsRow wm.heap.size 5 1 vn 0 (bvs []) from hvn.out ▸ World.ownsRow_nil _ _ _ _)
  rw [hvn.out]
  refine wp_loop_rounds 3 ?_
  rw [rounds_succ]
  go_wp2_with (first
    | (at_builtin; have _g := G1; clear _g; refine list_app rfl _ _ _ rfl _ i0 Try.underlying26 hi hz0 hz1 hz2 wm.heap.size _ 0 [] rfl HON.out _ _ 1 _ [q.n1] rfl (show Rd (wm.alloc (.cells #[.int .u8 (q.n1 : Int)] 5)) (wm.alloc (.cells #[.int .u8 (q.n1 : Int)] 5)).heap.size (some ⟨wm.heap.size, 0, none⟩) [q.n1] from Rd.lit_ wm [q.n1]) rfl (by omega) (by rw [World.size_alloc]; exact Nat.le_succ_of_le Z.out.sz) ?_; intro A3 c3 w3 ho3 hg3; rw [Nat.zero_add] at ho3 ⊢; replace Z := Lib.hid (Z.out.grown hg3 (fun k hk => (HON.out.lt k hk).1) ((Below.refl _ _).alloc (Nat.le_refl _) _)); (try clear HO); have HO := Lib.hid ho3; clear ho3 hg3 G1; have G2 := Lib.hid trivial; clear v0 v1; obtain ⟨v0, v1⟩ := Z.out.c)
    | (at_builtin; have _g := G2; clear _g; refine list_app rfl _ _ _ rfl _ i0 Try.underlying26 hi hz0 hz1 hz2 wm.heap.size _ 1 [q.n1] rfl HO.out _ _ q.n1 _ p.one rfl (H.out.on Z.out.bx.bel).r1 H.out.l1 (by omega) Z.out.sz ?_; intro A4 c4 w4 ho4 hg4; replace Z := Lib.hid (Z.out.grown hg4 (fun k hk => (HO.out.lt k hk).1) (Below.refl _ _)); clear HO; have HO := Lib.hid ho4; clear ho4 hg4 G2; have G3 := Lib.hid trivial; clear v0 v1; obtain ⟨v0, v1⟩ := Z.out.c)
)
  rw [rounds_succ]
  go_wp2_with (first
    | (at_builtin; have _g := G3; clear _g; refine list_app rfl _ _ _ rfl _ i0 Try.underlying26 hi hz0 hz1 hz2 wm.heap.size _ (1 + q.n1) ([q.n1] ++ p.one) rfl (own_below HO.out ((Below.refl _ _).alloc (Nat.le_refl _) _)) _ _ 1 _ [q.n2] rfl (show Rd (w4.alloc (.cells #[.int .u8 (q.n2 : Int)] 5)) (w4.alloc (.cells #[.int .u8 (q.n2 : Int)] 5)).heap.size (some ⟨w4.heap.size, 0, none⟩) [q.n2] from Rd.lit_ w4 [q.n2]) rfl (by omega) (by rw [World.size_alloc]; exact Nat.le_succ_of_le Z.out.sz) ?_; intro A3 c3 w5 ho3 hg3; replace Z := Lib.hid (Z.out.grown hg3 (fun k hk => (HO.out.lt k hk).1) ((Below.refl _ _).alloc (Nat.le_refl _) _)); (try clear HO); have HO := Lib.hid ho3; clear ho3 hg3 G3; have G4 := Lib.hid trivial; clear v0 v1; obtain ⟨v0, v1⟩ := Z.out.c)
    | (at_builtin; have _g := G4; clear _g; refine list_app rfl _ _ _ rfl _ i0 Try.underlying26 hi hz0 hz1 hz2 wm.heap.size _ (1 + q.n1 + 1) ([q.n1] ++ p.one ++ [q.n2]) rfl HO.out _ _ q.n2 _ p.two rfl (H.out.on Z.out.bx.bel).r2 H.out.l2 (by omega) Z.out.sz ?_; intro A4 c4 w6 ho4 hg4; replace Z := Lib.hid (Z.out.grown hg4 (fun k hk => (HO.out.lt k hk).1) (Below.refl _ _)); clear HO; have HO := Lib.hid ho4; clear ho4 hg4 G4; have G5 := Lib.hid trivial; clear v0 v1; obtain ⟨v0, v1⟩ := Z.out.c)
)
  rw [rounds_succ]
  go_wp2_with fail
  go_ret2
  exact PutR.mk _ _ rfl (Rd.own HO.out) (own_cap HO.out) Z.out.bx.bel

set_option maxHeartbeats 8000000 in
theorem awr_two_no1 (p : Pk) (q : Pl) (w : World) (h : Pw w p q) (hk : txtB p.code = 2) (h1 : ¬ q.n1 ≤ 255) :
    Calls Try.prog 93 #[p.val q] w (PutR w [] 0 3) := by
  obtain ⟨i0, hi, hz0, hz1, hz2⟩ := info_parts byte_info
  have C := Lib.hid (BxC.made 37 w p q)
  have H := Lib.hid h
  have HK := Lib.hid hk
  have f1 : (255 : Int) < (q.n1 : Int) := by omega
  clear h hk
  go_enter Try.func93, Try.ntmps93
  go_upto_region 6 with (first
    | (go_at_call 94; (with_reducible refine (atxt_any p.code _ HK.out _).mono ?_); rintro e wn ⟨rfl, hb⟩; replace C := Lib.hid (C.out.step hb); clear hb; (try clear x0 x1 x2 x3 x4 x5 x6 x7 x8 x9); obtain ⟨x0, x1, x2, x3, x4, x5, x6, x7, x8, x9⟩ := C.out.cf.all; have LT := Lib.hid C.out.cf.lt)
)
  have BA := Lib.hid ((Below.refl wn.heap.size wn).alloc (Nat.le_refl _) (.cells #[.slice q.a1 q.n1 q.c1, .slice q.a2 q.n2 q.c2] 26))
  have RA := Lib.hid (heap_alloc_new wn (.cells #[.slice q.a1 q.n1 q.c1, .slice q.a2 q.n2 q.c2] 26))
  have SA := Lib.hid (World.size_alloc wn (.cells #[.slice q.a1 q.n1 q.c1, .slice q.a2 q.n2 q.c2] 26))
  replace C := Lib.hid (C.out.step BA.out)
  obtain ⟨gr, hgr⟩ : ∃ gr, Hid (wn.heap.size = gr) := ⟨_, Lib.hid rfl⟩
  rw [hgr.out] at RA SA ⊢
  have GW := Lib.hid (show w.heap.size < gr from by rw [← hgr.out]; exact LT.out)
  refine at_worldP (fun W => Hid (WrC 37 w W gr W.heap.size p q)) (Lib.hid ⟨C.out, RA.out, GW.out, by rw [SA.out]; exact Nat.lt_succ_self _, Nat.le_refl _⟩) ?_
  clear C RA BA SA GW hgr LT x0 x1 x2 x3 x4 x5 x6 x7 x8 x9
  rintro wm Z
  obtain ⟨v0, v1⟩ := Z.out.c
  have G1 := Lib.hid trivial
  obtain ⟨vn, hvn⟩ : ∃ v, Hid (Value.slice none 0 0 = v) := ⟨_, Lib.hid rfl⟩
  have HON := Lib.hid (show (wm.alloc (.cells #[.int .u8 (q.n1 : Int)] 5)).ownsRow wm.heap.size 5 1 vn 0 (bvs []) from hvn.out ▸ World.ownsRow_nil _ _ _ _)
  rw [hvn.out]
  refine wp_loop_rounds 1 ?_
  rw [rounds_succ]
  go_wp2_with fail
  go_ret2
  exact PutR.mk none 0 (by rw [← hvn.out]; rfl) Rd.nil (Nat.le_refl _) Z.out.bx.bel

set_option maxHeartbeats 8000000 in
theorem awr_two_no2 (p : Pk) (q : Pl) (w : World) (h : Pw w p q) (hk : txtB p.code = 2) (hs : p.sm) (h1 : q.n1 ≤ 255) (h2 : ¬ q.n2 ≤ 255) :
    Calls Try.prog 93 #[p.val q] w (PutR w [] 0 3) := by
  obtain ⟨i0, hi, hz0, hz1, hz2⟩ := info_parts byte_info
  have C := Lib.hid (BxC.made 37 w p q)
  have H := Lib.hid h
  have HK := Lib.hid hk
  have s1 : q.n1 ≤ 1073741824 := by rw [← h.l1]; exact hs.n1
  have s2 : q.n2 ≤ 1073741824 := by rw [← h.l2]; exact hs.n2
  have f1 : ¬ (255 : Int) < (q.n1 : Int) := by omega
  have e1 : IntKind.u8.wrap (q.n1 : Int) = (q.n1 : Int) := by rw [IntKind.wrap_u8]; omega
  have f2 : (255 : Int) < (q.n2 : Int) := by omega
  clear hs
  clear h hk
  go_enter Try.func93, Try.ntmps93
  go_upto_region 6 with (first
    | (go_at_call 94; (with_reducible refine (atxt_any p.code _ HK.out _).mono ?_); rintro e wn ⟨rfl, hb⟩; replace C := Lib.hid (C.out.step hb); clear hb; (try clear x0 x1 x2 x3 x4 x5 x6 x7 x8 x9); obtain ⟨x0, x1, x2, x3, x4, x5, x6, x7, x8, x9⟩ := C.out.cf.all; have LT := Lib.hid C.out.cf.lt)
)
  have BA := Lib.hid ((Below.refl wn.heap.size wn).alloc (Nat.le_refl _) (.cells #[.slice q.a1 q.n1 q.c1, .slice q.a2 q.n2 q.c2] 26))
  have RA := Lib.hid (heap_alloc_new wn (.cells #[.slice q.a1 q.n1 q.c1, .slice q.a2 q.n2 q.c2] 26))
  have SA := Lib.hid (World.size_alloc wn (.cells #[.slice q.a1 q.n1 q.c1, .slice q.a2 q.n2 q.c2] 26))
  replace C := Lib.hid (C.out.step BA.out)
  obtain ⟨gr, hgr⟩ : ∃ gr, Hid (wn.heap.size = gr) := ⟨_, Lib.hid rfl⟩
  rw [hgr.out] at RA SA ⊢
  have GW := Lib.hid (show w.heap.size < gr from by rw [← hgr.out]; exact LT.out)
  refine at_worldP (fun W => Hid (WrC 37 w W gr W.heap.size p q)) (Lib.hid ⟨C.out, RA.out, GW.out, by rw [SA.out]; exact Nat.lt_succ_self _, Nat.le_refl _⟩) ?_
  clear C RA BA SA GW hgr LT x0 x1 x2 x3 x4 x5 x6 x7 x8 x9
  rintro wm Z
  obtain ⟨v0, v1⟩ := Z.out.c
  have G1 := Lib.hid trivial
  obtain ⟨vn, hvn⟩ : ∃ v, Hid (Value.slice none 0 0 = v) := ⟨_, Lib.hid rfl⟩
  have HON := Lib.hid (show (wm.alloc (.cells #[.int .u8 (q.n1 : Int)] 5)).ownsRow wm.heap.size 5 1 vn 0 (bvs []) from hvn.out ▸ World.ownsRow_nil _ _ _ _)
  rw [hvn.out]
  refine wp_loop_rounds 2 ?_
  rw [rounds_succ]
  go_wp2_with (first
    | (at_builtin; have _g := G1; clear _g; refine list_app rfl _ _ _ rfl _ i0 Try.underlying26 hi hz0 hz1 hz2 wm.heap.size _ 0 [] rfl HON.out _ _ 1 _ [q.n1] rfl (show Rd (wm.alloc (.cells #[.int .u8 (q.n1 : Int)] 5)) (wm.alloc (.cells #[.int .u8 (q.n1 : Int)] 5)).heap.size (some ⟨wm.heap.size, 0, none⟩) [q.n1] from Rd.lit_ wm [q.n1]) rfl (by omega) (by rw [World.size_alloc]; exact Nat.le_succ_of_le Z.out.sz) ?_; intro A3 c3 w3 ho3 hg3; rw [Nat.zero_add] at ho3 ⊢; replace Z := Lib.hid (Z.out.grown hg3 (fun k hk => (HON.out.lt k hk).1) ((Below.refl _ _).alloc (Nat.le_refl _) _)); (try clear HO); have HO := Lib.hid ho3; clear ho3 hg3 G1; have G2 := Lib.hid trivial; clear v0 v1; obtain ⟨v0, v1⟩ := Z.out.c)
    | (at_builtin; have _g := G2; clear _g; refine list_app rfl _ _ _ rfl _ i0 Try.underlying26 hi hz0 hz1 hz2 wm.heap.size _ 1 [q.n1] rfl HO.out _ _ q.n1 _ p.one rfl (H.out.on Z.out.bx.bel).r1 H.out.l1 (by omega) Z.out.sz ?_; intro A4 c4 w4 ho4 hg4; replace Z := Lib.hid (Z.out.grown hg4 (fun k hk => (HO.out.lt k hk).1) (Below.refl _ _)); clear HO; have HO := Lib.hid ho4; clear ho4 hg4 G2; have G3 := Lib.hid trivial; clear v0 v1; obtain ⟨v0, v1⟩ := Z.out.c)
)
  rw [rounds_succ]
  go_wp2_with fail
  go_ret2
  exact PutR.mk none 0 (by rw [← hvn.out]; rfl) Rd.nil (Nat.le_refl _) Z.out.bx.bel

theorem awr_any (p : Pk) (q : Pl) (w : World) (h : Pw w p q) (hs : p.sm) (m : List Nat) (k : Nat) (hm : wrA p = (m, k)) (n : Nat) (hn : m.length = n) :
    Calls Try.prog 93 #[p.val q] w (PutR w m n k) := by
  have e1 := h.l1
  have e2 := h.l2
  rcases txtB_cases p.code with ⟨-, hk⟩ | ⟨-, hk⟩ | ⟨-, hk⟩
  · rw [wrA, if_pos hk] at hm
    by_cases h1 : q.n1 ≤ 255
    · by_cases h2 : q.n2 ≤ 255
      · rw [if_pos ⟨by omega, by omega⟩] at hm
        obtain ⟨rfl, rfl⟩ := Prod.mk.inj hm
        have := awr_two p q w h hk hs h1 h2
        rw [show [q.n1] ++ p.one ++ [q.n2] ++ p.two = lenT p.one ++ lenT p.two by rw [← e1, ← e2]; simp [lenT]] at this
        rw [← hn, List.length_append, lenT_len, lenT_len, e1, e2, show q.n1 + 1 + (q.n2 + 1) = 1 + q.n1 + 1 + q.n2 by omega]
        exact this
      · rw [if_neg (by omega)] at hm
        obtain ⟨rfl, rfl⟩ := Prod.mk.inj hm
        obtain rfl : 0 = n := hn
        exact awr_two_no2 p q w h hk hs h1 h2
    · rw [if_neg (by omega)] at hm
      obtain ⟨rfl, rfl⟩ := Prod.mk.inj hm
      obtain rfl : 0 = n := hn
      exact awr_two_no1 p q w h hk h1
  · rw [wrA, if_neg (by omega), if_pos hk] at hm
    by_cases h1 : q.n1 ≤ 255
    · rw [if_pos (by omega)] at hm
      obtain ⟨rfl, rfl⟩ := Prod.mk.inj hm
      have := awr_one p q w h hk hs h1
      rw [show [q.n1] ++ p.one = lenT p.one by rw [← e1]; rfl] at this
      rw [← hn, lenT_len, e1, Nat.add_comm q.n1 1]
      exact this
    · rw [if_neg (by omega)] at hm
      obtain ⟨rfl, rfl⟩ := Prod.mk.inj hm
      obtain rfl : 0 = n := hn
      exact awr_one_no p q w h hk h1
  · rw [wrA, if_neg (by omega), if_neg (by omega)] at hm
    obtain ⟨rfl, rfl⟩ := Prod.mk.inj hm
    rw [← hn, h.ld]
    exact awr_data p q w h hk

set_option maxHeartbeats 8000000 in
theorem aput_any (p : Pk) (q : Pl) (w : World) (h : Pw w p q) (hs : p.sm) (m : List Nat) (k : Nat) (hm : aputB p = (m, k)) (n : Nat) (hn : m.length = n) :
    Calls Try.prog 90 #[p.val q] w fun e w' => ∃ A c, e = .returned (.tuple #[.slice A n c, .int .i64 (k : Int)]) ∧ Rd w' w'.heap.size A m ∧ n ≤ c ∧ Below w.heap.size w w' := by
  have C := Lib.hid (BxC.made 37 w p q)
  have H := Lib.hid h
  have HS := Lib.hid hs
  clear h hs
  by_cases h1 : p.proto = 49187
  case neg =>
    obtain ⟨rfl, rfl⟩ : [] = m ∧ 8 = k := by
      rw [aput_kind h1] at hm
      exact ⟨(Prod.mk.inj hm).1, (Prod.mk.inj hm).2⟩
    obtain rfl : 0 = n := hn
    have j1 : ((p.proto : Int) != 49187) = true := by rw [bne_iff_ne]; omega
    clear hm h1
    go_enter Try.func90, Try.ntmps90
    go_wp2_with fail
    go_ret2
    exact ⟨none, 0, rfl, Rd.nil, Nat.le_refl _, C.out.bel⟩
  have j1 : ((p.proto : Int) != 49187) = false := by simp; omega
  cases hr : nothL (restA p)
  · obtain ⟨rfl, rfl⟩ : [] = m ∧ 9 = k := by
      rw [aputB, if_pos h1, hr] at hm
      exact ⟨(Prod.mk.inj hm).1, (Prod.mk.inj hm).2⟩
    obtain rfl : 0 = n := hn
    have HR := Lib.hid hr
    clear hm h1 hr
    go_enter Try.func90, Try.ntmps90
    go_wp2_with (first
    | (go_at_call 92; (with_reducible refine (arest_any p q _ (H.out.on C.out.bel)).mono ?_); rintro e wn ⟨x, r, hx, rfl, hp, hb⟩; have HX := Lib.hid hx; have P := Lib.hid hp; replace C := Lib.hid (C.out.step hb); clear hx hp hb; (try clear x0 x1 x2 x3 x4 x5 x6 x7 x8 x9))
    | (go_at_call 91; (with_reducible refine (anothing_any x r _ P.out _ (HX.out ▸ HR.out)).mono ?_); rintro e wn ⟨rfl, hb⟩; replace C := Lib.hid (C.out.step hb); clear hb P; obtain ⟨x0, x1, x2, x3, x4, x5, x6, x7, x8, x9⟩ := C.out.cf.all)
)
    go_ret2
    exact ⟨none, 0, rfl, Rd.nil, Nat.le_refl _, C.out.bel⟩
  have HR := Lib.hid hr
  rw [aputB, if_pos h1, if_pos hr] at hm
  clear h1 hr
  obtain ⟨m2, k2, hw⟩ : ∃ m2 k2, wrA p = (m2, k2) := ⟨_, _, rfl⟩
  obtain ⟨n2, hn2⟩ : ∃ n2, Hid (m2.length = n2) := ⟨_, Lib.hid rfl⟩
  rw [hw] at hm
  dsimp only at hm
  have HW := Lib.hid hw
  clear hw
  by_cases h2 : k2 = 0
  case neg =>
    obtain ⟨rfl, rfl⟩ : [] = m ∧ k2 = k := by
      rw [if_neg h2] at hm
      exact ⟨(Prod.mk.inj hm).1, (Prod.mk.inj hm).2⟩
    obtain rfl : 0 = n := hn
    have j2 : ((k2 : Int) != 0) = true := by rw [bne_iff_ne]; omega
    clear hm h2
    go_enter Try.func90, Try.ntmps90
    go_wp2_with (first
    | (go_at_call 92; (with_reducible refine (arest_any p q _ (H.out.on C.out.bel)).mono ?_); rintro e wn ⟨x, r, hx, rfl, hp, hb⟩; have HX := Lib.hid hx; have P := Lib.hid hp; replace C := Lib.hid (C.out.step hb); clear hx hp hb; (try clear x0 x1 x2 x3 x4 x5 x6 x7 x8 x9))
    | (go_at_call 91; (with_reducible refine (anothing_any x r _ P.out _ (HX.out ▸ HR.out)).mono ?_); rintro e wn ⟨rfl, hb⟩; replace C := Lib.hid (C.out.step hb); clear hb P; obtain ⟨x0, x1, x2, x3, x4, x5, x6, x7, x8, x9⟩ := C.out.cf.all)
    | (go_at_call 93; (with_reducible refine (awr_any p q _ (H.out.on C.out.bel) HS.out m2 k2 HW.out n2 hn2.out).mono ?_); rintro e wn ⟨A4, c4, rfl, h4, h4c, hb⟩; replace C := Lib.hid (C.out.step hb); clear h4 h4c hb; clear x0 x1 x2 x3 x4 x5 x6 x7 x8 x9; obtain ⟨x0, x1, x2, x3, x4, x5, x6, x7, x8, x9⟩ := C.out.cf.all)
)
    go_ret2
    exact ⟨none, 0, rfl, Rd.nil, Nat.le_refl _, C.out.bel⟩
  subst h2
  rw [if_pos rfl] at hm
  have HM := Lib.hid (Prod.mk.inj hm).1
  have HE := Lib.hid (Prod.mk.inj hm).2
  have HN := Lib.hid hn
  clear hm hn
  go_enter Try.func90, Try.ntmps90
  go_wp2_with (first
    | (go_at_call 92; (with_reducible refine (arest_any p q _ (H.out.on C.out.bel)).mono ?_); rintro e wn ⟨x, r, hx, rfl, hp, hb⟩; have HX := Lib.hid hx; have P := Lib.hid hp; replace C := Lib.hid (C.out.step hb); clear hx hp hb; (try clear x0 x1 x2 x3 x4 x5 x6 x7 x8 x9))
    | (go_at_call 91; (with_reducible refine (anothing_any x r _ P.out _ (HX.out ▸ HR.out)).mono ?_); rintro e wn ⟨rfl, hb⟩; replace C := Lib.hid (C.out.step hb); clear hb P; obtain ⟨x0, x1, x2, x3, x4, x5, x6, x7, x8, x9⟩ := C.out.cf.all)
    | (go_at_call 93; (with_reducible refine (awr_any p q _ (H.out.on C.out.bel) HS.out m2 _ HW.out n2 hn2.out).mono ?_); rintro e wn ⟨A4, c4, rfl, h4, h4c, hb⟩; replace C := Lib.hid (C.out.step hb); have X := Lib.hid h4; clear h4 h4c hb; clear x0 x1 x2 x3 x4 x5 x6 x7 x8 x9; obtain ⟨x0, x1, x2, x3, x4, x5, x6, x7, x8, x9⟩ := C.out.cf.all)
    | (go_at_call 67; (with_reducible refine (cput_v p.code p.id m2 _ HE.out m HM.out n HN.out n2 c4 A4 _ X.out hn2.out).mono ?_); rintro e wn ⟨A5, c5, rfl, h5, h5c, hb⟩; replace C := Lib.hid (C.out.step hb); clear X; have X := Lib.hid h5; have K := Lib.hid h5c; clear h5 h5c hb))
  go_ret2
  exact ⟨_, _, rfl, X.out, K.out, C.out.bel⟩

theorem aput_ex (A1 A2 : Option Addr) (w : World) (h1 : Rd w w.heap.size A1 [97]) (h2 : Rd w w.heap.size A2 [98, 99]) : Calls Try.prog 90 #[.agg #[.int .u16 49187, .int .u8 1, .int .u8 0, .slice none 0 0, .int .u16 0, .int .u32 0, .slice A1 1 1, .slice A2 2 2, .slice none 0 0, .slice none 0 0]] w fun e w' => ∃ A c, e = .returned (.tuple #[.slice A 9 c, .int .i64 0]) ∧ Rd w' w'.heap.size A [1, 0, 0, 9, 1, 97, 2, 98, 99] ∧ 9 ≤ c ∧ Below w.heap.size w w' :=
  aput_any ⟨49187, 1, 0, [], 0, 0, [97], [98, 99], [], []⟩ { pl0 with a1 := A1, n1 := 1, c1 := 1, a2 := A2, n2 := 2, c2 := 2 } w ⟨rfl, Rws.nilO, rfl, h1, rfl, h2, rfl, Rd.nil, rfl, Rws.nil, Nat.le_refl _, Nat.le_refl _, Nat.le_refl _⟩
    ⟨by decide, by decide, by decide, by decide, by decide, by decide⟩ [1, 0, 0, 9, 1, 97, 2, 98, 99] 0 (by decide) 9 rfl

end Go.Proofs.Ytmhjnghomihjlaa
