
/-
  Control packets: the document's Put, both Get, the example; results by name. No condition beyond: octets below 256, data of at most 2^38 octets.
-/
import Derived.Test.YtcmapiaacimbeaaCtl
import Derived.Test.YtcmapiaacimbeaaCln
import Derived.Test.YtcmapiaacimbeaaCat
import Derived.WalkMore
namespace Go.Proofs.Ytcmapiaacimbeaa
open Go.RowKit

set_option maxHeartbeats 1000000 in
theorem krput_any (x y : Nat) (l : List Nat) (n c : Nat) (A : Option Addr) (w : World) (h : Rd w w.heap.size A l) (hl : l.length = n) (hn : n ≤ 274877906944) :
    Calls Try.prog 24 #[.int .u8 (x : Int), .int .u8 (y : Int), .slice A n c] w fun e w' => ∃ A' c' k, e = .returned (.tuple #[.slice A' k c', .int .i64 (kerrP l : Int)]) ∧ New w w' A' c' k (kputA x y l) := by
  obtain ⟨i0, hi, hz0, hz1, hz2⟩ := info_parts byte_info
  have HR := Lib.hid h
  have HL := Lib.hid hl
  obtain ⟨k, hk⟩ : ∃ k, n + 4 = k := ⟨_, rfl⟩
  have i2 : (n : Int) + 4 = (k : Int) := by omega
  have i3 : IntKind.i64.wrap (k : Int) = (k : Int) := IntWalk.i64_in _ (by omega)
  by_cases h5 : n ≤ 65531
  · have EP := Lib.hid (show kerrP l = 0 by unfold kerrP; rw [if_pos (by omega)])
    have EA := Lib.hid (show kputA x y l = kputB x y l by unfold kputA; rw [if_pos (by omega)])
    rw [EP.out, EA.out]
    have i1 : ¬ (65535 : Int) < (k : Int) := by omega
    have hbel4 := (Below.refl w.heap.size w).alloc (Nat.le_refl _) (.cells #[.int .u8 (x : Int), .int .u8 (y : Int), .int .u8 ((k : Int) / 256), .int .u8 ((k : Int) % 256)] 5)
    have hown4 : (w.alloc (.cells #[.int .u8 (x : Int), .int .u8 (y : Int), .int .u8 ((k : Int) / 256), .int .u8 ((k : Int) % 256)] 5)).ownsRow w.heap.size 5 1 (.slice (some ⟨w.heap.size, 0, none⟩) 4 4) 4 (bvs [x, y, k / 256, k % 256]) := by
      have := World.ownsRow_lit (base := w.heap.size) (e := 5) (size := 1) w #[.int .u8 (x : Int), .int .u8 (y : Int), .int .u8 ((k : Int) / 256), .int .u8 ((k : Int) % 256)] 4 (Nat.le_refl _) (by unfold maxLen; omega) rfl
      simpa [bvs, bv] using this
    clear h hl EP EA
    go_enter Try.func24, Try.ntmps24
    go_wp2_with (at_builtin; refine list_app rfl _ _ _ rfl _ i0 Try.underlying25 hi hz0 hz1 hz2 _ _ 4 _ rfl hown4 w.heap.size _ n _ l rfl (HR.out.below hbel4) HL.out (by omega) hbel4.size ?_; intro A7 c7 w7 ho7 hg7; have HB7 := Lib.hid (hbel4.grown hg7 hbel4.size (fun g hg => (hown4.lt g hg).1)); clear hg7)
    go_ret2
    have e : bvs (kputB x y l) = bvs ([x, y, k / 256, k % 256] ++ l) := by unfold kputB; rw [HL.out, hk]
    rw [← e] at ho7
    obtain ⟨A', c', e2, hN⟩ := New.mk ho7 HB7.out
    rw [e2]
    exact ⟨A', c', _, rfl, hN⟩
  · have EP := Lib.hid (show kerrP l = 3 by unfold kerrP; rw [if_neg (by omega)])
    have EA := Lib.hid (show kputA x y l = [] by unfold kputA; rw [if_neg (by omega)])
    rw [EP.out, EA.out]
    have i1 : (65535 : Int) < (k : Int) := by omega
    clear h hl EP EA
    go_enter Try.func24, Try.ntmps24
    go_wp2_with fail
    go_ret2
    exact ⟨none, 0, 0, rfl, rfl, World.ownsRow_nil _ _ _ _, Rd.nil, Below.refl _ _⟩

theorem Rd.kcutAt {w : World} {B b o : Nat} {l : List Nat} (h : Rd w B (some ⟨b, o, none⟩) l) {f c : Nat} (hc : l.length ≤ c) : Rd w B (if c = f then some ⟨b, o, none⟩ else some ⟨b, o + f, none⟩) (l.drop f) := by
  intro hl
  rw [List.length_drop] at hl
  rw [if_neg (by omega)]
  obtain ⟨b', off, e, hb, hcell⟩ := h (by omega)
  injection e with e
  injection e with e1 e2
  subst e1; subst e2
  exact ⟨b, o + f, rfl, hb, fun k x hx => by rw [Nat.add_assoc]; exact hcell (f + k) x (by rw [← List.getElem?_drop]; exact hx)⟩

/-- What Get answers. -/
def KGetO (l : List Nat) (w : World) (e : Ending) (w' : World) : Prop :=
  ∃ A' c' k, e = .returned (.tuple #[.int .u8 ((kgetB l).1 : Int), .int .u8 ((kgetB l).2.1 : Int), .slice A' k c', .int .i64 ((kgetB l).2.2.2 : Int)]) ∧ (kgetB l).2.2.1.length = k ∧ k ≤ c' ∧ Rd w' w'.heap.size A' (kgetB l).2.2.1 ∧ Below w.heap.size w w'

/-- What Get's reading knows of the world it stands in. -/
structure KFC (w W : World) (a0 a1 : Addr) (x y : Nat) : Prop where
  bel : Below w.heap.size w W
  lt0 : a0.block < w.heap.size
  lt1 : a1.block < w.heap.size
  f0 : w.cell? a0 = some (.int .u8 (x : Int))
  f1 : w.cell? a1 = some (.int .u8 (y : Int))
section
variable {w W X W' : World} {a0 a1 : Addr} {x y : Nat}
theorem KFC.cells (h : KFC w W a0 a1 x y) : W.cell? a0 = some (.int .u8 (x : Int)) ∧ W.cell? a1 = some (.int .u8 (y : Int)) := ⟨(h.bel.cell h.lt0).trans h.f0, (h.bel.cell h.lt1).trans h.f1⟩
theorem KFC.step (h : KFC w W a0 a1 x y) (hb : Below X.heap.size X W') (hX : Below W.heap.size W X := by first | exact Below.refl _ _ | exact (Below.refl _ _).drew) : KFC w W' a0 a1 x y :=
  ⟨h.bel.trans ((hX.trans (hb.mono hX.size)).mono h.bel.size), h.lt0, h.lt1, h.f0, h.f1⟩
theorem KFC.drew (h : KFC w W a0 a1 x y) : KFC w W.drew a0 a1 x y := h.step (X := W) (Below.refl _ _).drew
end

theorem kfirst_v (l : List Nat) (f e : Nat) (hf : kfirstB l = (f, e)) (n c : Nat) (A : Option Addr) (w : World) (h : Rd w w.heap.size A l) (hb : By l) (hn : l.length = n) :
    Calls Try.prog 33 #[.slice A n c] w fun e' w' => e' = .returned (.tuple #[.int .i64 (f : Int), .int .i64 (e : Int)]) ∧ Below w.heap.size w w' :=
  (kfirst_any l n c A w h hb hn).mono fun _ _ ⟨h1, k, h2⟩ => ⟨by rw [h1, hf], by rw [h2]; exact below_drewN (Below.refl _ _) k⟩

theorem kget_bad {l : List Nat} {f e : Nat} (hf : kfirstB l = (f, e)) (he : ¬ e = 0) : kgetB l = (0, 0, [], e) := by
  unfold kgetB; rw [hf, if_neg he]
theorem kget_good {l : List Nat} {f x y : Nat} (hf : kfirstB l = (f, 0)) (hx : l[0]? = some x) (hy : l[1]? = some y) : kgetB l = (x, y, (l.take f).drop 4, 0) := by
  unfold kgetB; rw [hf, if_pos rfl]
  match l, hx, hy with
  | u :: v :: t, hx, hy =>
    have e1 : u = x := by simpa using hx
    have e2 : v = y := by simpa using hy
    subst e1; subst e2
    rfl

set_option maxHeartbeats 2000000 in
theorem cget_any (l : List Nat) (n c : Nat) (A : Option Addr) (w : World) (h : Rd w w.heap.size A l) (hb : By l) (hl : l.length = n) (hn : n ≤ 274877906944) (hc : n ≤ c) :
    Calls Try.prog 25 #[.slice A n c] w (KGetO l w) := by
  obtain ⟨f, e, hf⟩ : ∃ f e, Hid (kfirstB l = (f, e)) := ⟨_, _, Lib.hid rfl⟩
  have HR := Lib.hid h
  have HB := Lib.hid hb
  have HN := Lib.hid hl
  by_cases he : e = 0
  · subst he
    have h1 := kfirst_ok (l := l) (by rw [hf.out])
    rw [hf.out, hl] at h1
    dsimp only at h1
    obtain ⟨bb, oo, x, rfl, hbb, hx, hcx⟩ := h.at_ (k := 0) (by omega)
    obtain ⟨bb', oo', y, e', -, hy, hcy⟩ := h.at_ (k := 1) (by omega)
    injection e' with e'
    injection e' with e1 e2
    subst e1; subst e2
    have G := Lib.hid (kget_good hf.out hx hy)
    have i0 : 0 < n := by omega
    have i1 : (0 : Int) < n := by omega
    have i2 : (1 : Int) < n := by omega
    have i3 : (4 : Int) ≤ f := by omega
    have i4 : (f : Int) ≤ c := by omega
    have i5 : (f : Int) ≤ n := by omega
    have hcl := Lib.hid (show Rd w w.heap.size (if c = 4 then some ⟨bb, oo, none⟩ else some ⟨bb, oo + 4, none⟩) ((l.take f).drop 4) from (HR.out.take f).kcutAt (by rw [List.length_take, hl]; omega))
    have hcl2 := Lib.hid (show ((l.take f).drop 4).length = f - 4 by rw [List.length_drop, List.length_take, hl]; omega)
    have C := Lib.hid (show KFC w w ⟨bb, oo, none⟩ ⟨bb, oo + 1, none⟩ x y from ⟨Below.refl _ _, hbb, hbb, hcx, hcy⟩)
    clear h hb hl hx hy h1 hcx hcy
    go_enter Try.func25, Try.ntmps25
    go_wp2_with (go_at_call 33; (with_reducible refine (kfirst_v l _ _ hf.out n c _ _ HR.out HB.out HN.out).mono ?_); rintro e' w2 ⟨rfl, hb2⟩; replace C := Lib.hid (C.out.step hb2); clear hb2)
    obtain ⟨f0, f1⟩ := C.out.cells
    go_region_held3 (fun W => W.cell? ⟨bb, oo, none⟩ = some (.int .u8 (x : Int)) ∧ W.cell? ⟨bb, oo + 1, none⟩ = some (.int .u8 (y : Int))) (first | exact C.out.cells | exact C.out.drew.cells) (first
      | (go_at_call 34; (with_reducible refine (clone_any ((l.take f).drop 4) (f - 4) _ _ _ (hcl.out.below C.out.drew.bel |>.more C.out.drew.bel.size) hcl2.out (by omega)).mono ?_); rintro e' w5 ⟨A5, c5, rfl, HN5⟩; have HN6 := Lib.hid HN5; replace C := Lib.hid (C.out.drew.step HN5.2.2.2); clear HN5; dsimp only))
    clear hcl f0 f1
    generalize (if c = 4 then (some (⟨bb, oo, none⟩ : Addr)) else some ⟨bb, oo + 4, none⟩) = A'
    go_wp2_with fail
    ((try simp only [Exit.inBlock, Exit.then]); refine bodyPost_ret (results_tmp4 rfl _ _ _) rfl ?_)
    unfold KGetO
    rw [G.out]
    exact ⟨A5, c5, f - 4, rfl, hcl2.out, own_cap HN6.out.2.1, HN6.out.2.2.1, C.out.bel⟩
  · have i1 : ((e : Int) != 0) = true := by rw [bne_iff_ne]; omega
    have G := Lib.hid (kget_bad hf.out he)
    clear h hb hl he
    go_enter Try.func25, Try.ntmps25
    go_wp2_with (go_at_call 33; (with_reducible refine (kfirst_any l n c A _ HR.out HB.out HN.out).mono ?_); rintro e' w' ⟨rfl, k, rfl⟩; rw [hf.out])
    ((try simp only [Exit.inBlock, Exit.then]); refine bodyPost_ret (results_tmp4 rfl _ _ _) rfl ?_)
    unfold KGetO
    rw [G.out]
    exact ⟨none, 0, 0, rfl, rfl, Nat.le_refl _, Rd.nil, below_drewN (Below.refl _ _) _⟩

/-- What the document's Get answers. -/
def KRGetO (l : List Nat) (w : World) (e : Ending) (w' : World) : Prop :=
  ∃ A' c' k, e = .returned (.tuple #[.int .u8 ((kgetB l).1 : Int), .int .u8 ((kgetB l).2.1 : Int), .slice A' k c', .int .i64 (kpadB l : Int), .int .i64 ((kgetB l).2.2.2 : Int)]) ∧ (kgetB l).2.2.1.length = k ∧ k ≤ c' ∧ Rd w' w'.heap.size A' (kgetB l).2.2.1 ∧ Below w.heap.size w w'
theorem krgetO_bad {l : List Nat} {w w' : World} {f e : Nat} (hf : kfirstB l = (f, e)) (he : ¬ e = 0) (hb : Below w.heap.size w w') : KRGetO l w (.returned (.tuple #[.int .u8 0, .int .u8 0, .slice none 0 0, .int .i64 0, .int .i64 (e : Int)])) w' := by
  unfold KRGetO
  have h2 : kpadB l = 0 := by rw [kpadB, hf, if_neg he]
  rw [kget_bad hf he, h2]
  exact ⟨none, 0, 0, rfl, rfl, Nat.le_refl _, Rd.nil, hb⟩

set_option maxHeartbeats 2000000 in
theorem krget_any (l : List Nat) (n c : Nat) (A : Option Addr) (w : World) (h : Rd w w.heap.size A l) (hb : By l) (hl : l.length = n) (hn : n ≤ 274877906944) (hc : n ≤ c) :
    Calls Try.prog 28 #[.slice A n c] w (KRGetO l w) := by
  by_cases h4 : n < 4
  · have E := Lib.hid (kfirst_short (by rw [hl]; exact h4))
    have j1 : (n : Int) < 4 := by omega
    clear h hb hl
    go_enter Try.func28, Try.ntmps28
    go_wp2_with fail
    ((try simp only [Exit.inBlock, Exit.then]); refine bodyPost_ret (results_tmp5 rfl _ _ _) rfl ?_)
    exact krgetO_bad E.out (by decide) (Below.refl _ _)
  · obtain ⟨bb, oo, x, rfl, hbb, hx, hcx⟩ := h.at_ (k := 2) (by omega)
    obtain ⟨bb', oo', y, e, -, hy, hcy⟩ := h.at_ (k := 3) (by omega)
    injection e with e
    injection e with e1 e2
    subst e1; subst e2
    obtain ⟨bb', oo', p, e, -, hp, hcp⟩ := h.at_ (k := 0) (by omega)
    injection e with e
    injection e with e1 e2
    subst e1; subst e2
    obtain ⟨bb', oo', q, e, -, hq, hcq⟩ := h.at_ (k := 1) (by omega)
    injection e with e
    injection e with e1 e2
    subst e1; subst e2
    replace hcp : w.cell? ⟨bb, oo, none⟩ = some (.int .u8 (p : Int)) := hcp
    have hx2 := hb.get hx
    have hy2 := hb.get hy
    have E := Lib.hid (kfirst_at hx hy hl)
    have j0 : 0 < n := by omega
    have j1 : ¬ (n : Int) < 4 := by omega
    have j2 : (2 : Int) < n := by omega
    have j3 : (3 : Int) < n := by omega
    have j4 : (1 : Int) < n := by omega
    obtain ⟨z, hz⟩ : ∃ z, Hid (256 * x + y = z) := ⟨_, Lib.hid rfl⟩
    have z9 : z < 65536 := by have := hz.out; omega
    have i1 : (256 : Int) * (x : Int) + (y : Int) = (z : Int) := by have := hz.out; omega
    have i2 : IntKind.i64.wrap (z : Int) = (z : Int) := IntWalk.i64_in _ (by omega)
    rw [hz.out] at E
    have HR := Lib.hid h
    have HN := Lib.hid hl
    have HP := Lib.hid hp
    have HQ := Lib.hid hq
    clear h hb hl hx hy hp hq
    by_cases z4 : z < 4
    · have k1 : (z : Int) < 4 := by omega
      rw [if_pos z4] at E
      go_enter Try.func28, Try.ntmps28
      go_wp2_with fail
      go_quiet (fail)
      all_goals
        go_wp2_with fail
        ((try simp only [Exit.inBlock, Exit.then]); refine bodyPost_ret (results_tmp5 rfl _ _ _) rfl ?_)
        exact krgetO_bad E.out (by decide) (below_drewN (Below.refl _ _) _)
    · have k1 : ¬ (z : Int) < 4 := by omega
      rw [if_neg z4] at E
      by_cases zn : n < z
      · have k2 : (n : Int) < (z : Int) := by omega
        rw [if_pos zn] at E
        go_enter Try.func28, Try.ntmps28
        go_wp2_with fail
        go_quiet (fail)
        all_goals
          go_wp2_with fail
          ((try simp only [Exit.inBlock, Exit.then]); refine bodyPost_ret (results_tmp5 rfl _ _ _) rfl ?_)
          exact krgetO_bad E.out (by decide) (below_drewN (Below.refl _ _) _)
      · have k2 : ¬ (n : Int) < (z : Int) := by omega
        rw [if_neg zn] at E
        have i3 : (4 : Int) ≤ z := by omega
        have i4 : (z : Int) ≤ c := by omega
        have i5 : (z : Int) ≤ n := by omega
        obtain ⟨d, hd⟩ : ∃ d, n - z = d := ⟨_, rfl⟩
        have i6 : (n : Int) - (z : Int) = (d : Int) := by omega
        have i7 : IntKind.i64.wrap (d : Int) = (d : Int) := IntWalk.i64_in _ (by omega)
        have hcl := Lib.hid (show Rd w w.heap.size (if c = 4 then some ⟨bb, oo, none⟩ else some ⟨bb, oo + 4, none⟩) ((l.take z).drop 4) from (HR.out.take z).kcutAt (by rw [List.length_take, HN.out]; omega))
        have hcl2 := Lib.hid (show ((l.take z).drop 4).length = z - 4 by rw [List.length_drop, List.length_take, HN.out]; omega)
        have G := Lib.hid (kget_good E.out HP.out HQ.out)
        have D := Lib.hid (show kpadB l = d by rw [kpadB, E.out, if_pos rfl, HN.out, hd])
        go_enter Try.func28, Try.ntmps28
        go_wp2_with fail
        go_quiet (fail)
        go_wp2_with fail
        go_quiet (fail)
        replace hcl := hcl.out
        generalize (if c = 4 then (some (⟨bb, oo, none⟩ : Addr)) else some ⟨bb, oo + 4, none⟩) = A' at hcl
        go_wp2_with fail
        ((try simp only [Exit.inBlock, Exit.then]); refine bodyPost_ret (results_tmp5 rfl _ _ _) rfl ?_)
        unfold KRGetO
        rw [G.out, D.out]
        have hb9 : ∀ j k, Below w.heap.size w ((w.drewN j).drewN k) := fun j k => below_drewN (below_drewN (Below.refl _ _) j) k
        exact ⟨_, _, z - 4, rfl, hcl2.out, by omega, (hcl.below (hb9 _ _)).more (hb9 _ _).size, hb9 _ _⟩

end Go.Proofs.Ytcmapiaacimbeaa
