
/-
  What the document's Get of layer 13 answers, with the blocks that its data lie in. No condition beyond: at most 2^38 octets.
-/
import Derived.Test.YtcmapiaacimbeaaCtlF
import Derived.Test.YtcmapiaacimbeaaOpsF
namespace Go.Proofs.Ytcmapiaacimbeaa
open Go.RowKit

/-- What the document's Get answers. -/
def KRGetF (F : Nat → Prop) (l : List Nat) (w : World) (e : Ending) (w' : World) : Prop :=
  ∃ A' c' k, e = .returned (.tuple #[.int .u8 ((kgetB l).1 : Int), .int .u8 ((kgetB l).2.1 : Int), .slice A' k c', .int .i64 (kpadB l : Int), .int .i64 ((kgetB l).2.2.2 : Int)]) ∧ (kgetB l).2.2.1.length = k ∧ k ≤ c' ∧ RdF F w' A' (kgetB l).2.2.1 ∧ Below w.heap.size w w'
theorem krgetF_bad {F : Nat → Prop} {l : List Nat} {w w' : World} {f e : Nat} (hf : kfirstB l = (f, e)) (he : ¬ e = 0) (hb : Below w.heap.size w w') : KRGetF F l w (.returned (.tuple #[.int .u8 0, .int .u8 0, .slice none 0 0, .int .i64 0, .int .i64 (e : Int)])) w' := by
  unfold KRGetF
  have h2 : kpadB l = 0 := by rw [kpadB, hf, if_neg he]
  rw [kget_bad hf he, h2]
  exact ⟨none, 0, 0, rfl, rfl, Nat.le_refl _, RdF.nil, hb⟩

set_option maxHeartbeats 2000000 in
theorem krgetF_any (l : List Nat) (n c : Nat) (A : Option Addr) (w : World) (h : Rd w w.heap.size A l) (hb : By l) (hl : l.length = n) (hn : n ≤ 274877906944) (hc : n ≤ c) (F : Nat → Prop) (hF : RdF F w A l) :
    Calls Try.prog 28 #[.slice A n c] w (KRGetF F l w) := by
  by_cases h4 : n < 4
  · have E := Lib.hid (kfirst_short (by rw [hl]; exact h4))
    have j1 : (n : Int) < 4 := by omega
    clear h hb hl hF
    go_enter Try.func28, Try.ntmps28
    go_wp2_with fail
    ((try simp only [Exit.inBlock, Exit.then]); refine bodyPost_ret (results_tmp5 rfl _ _ _) rfl ?_)
    exact krgetF_bad E.out (by decide) (Below.refl _ _)
  · obtain ⟨bb, oo, x, rfl, hbb, hx, hcx⟩ := h.at_ (k := 2) (by omega)
    obtain ⟨bb', oo', y, e, -, hy, hcy⟩ := h.at_ (k := 3) (by omega)
    injection e with e
    injection e with e1 e2
    subst e1; subst e2
    obtain ⟨bb', oo', p, e, -, hp, hcp⟩ := h.at_ (k := 0) (by omega)
    injection e with e
    injection e with e1 e2
    subst e1; subst e2
    obtain ⟨bb', oo', q, e, -, hq, hcq⟩ := h.at_ (k := 1) (by omega)
    injection e with e
    injection e with e1 e2
    subst e1; subst e2
    replace hcp : w.cell? ⟨bb, oo, none⟩ = some (.int .u8 (p : Int)) := hcp
    have hx2 := hb.get hx
    have hy2 := hb.get hy
    have E := Lib.hid (kfirst_at hx hy hl)
    have j0 : 0 < n := by omega
    have j1 : ¬ (n : Int) < 4 := by omega
    have j2 : (2 : Int) < n := by omega
    have j3 : (3 : Int) < n := by omega
    have j4 : (1 : Int) < n := by omega
    obtain ⟨z, hz⟩ : ∃ z, Hid (256 * x + y = z) := ⟨_, Lib.hid rfl⟩
    have z9 : z < 65536 := by have := hz.out; omega
    have i1 : (256 : Int) * (x : Int) + (y : Int) = (z : Int) := by have := hz.out; omega
    have i2 : IntKind.i64.wrap (z : Int) = (z : Int) := IntWalk.i64_in _ (by omega)
    rw [hz.out] at E
    have HF := Lib.hid hF
    have HN := Lib.hid hl
    have HP := Lib.hid hp
    have HQ := Lib.hid hq
    clear h hb hl hx hy hp hq hF
    by_cases z4 : z < 4
    · have k1 : (z : Int) < 4 := by omega
      rw [if_pos z4] at E
      go_enter Try.func28, Try.ntmps28
      go_wp2_with fail
      go_quiet (fail)
      all_goals
        go_wp2_with fail
        ((try simp only [Exit.inBlock, Exit.then]); refine bodyPost_ret (results_tmp5 rfl _ _ _) rfl ?_)
        exact krgetF_bad E.out (by decide) (below_drewN (Below.refl _ _) _)
    · have k1 : ¬ (z : Int) < 4 := by omega
      rw [if_neg z4] at E
      by_cases zn : n < z
      · have k2 : (n : Int) < (z : Int) := by omega
        rw [if_pos zn] at E
        go_enter Try.func28, Try.ntmps28
        go_wp2_with fail
        go_quiet (fail)
        all_goals
          go_wp2_with fail
          ((try simp only [Exit.inBlock, Exit.then]); refine bodyPost_ret (results_tmp5 rfl _ _ _) rfl ?_)
          exact krgetF_bad E.out (by decide) (below_drewN (Below.refl _ _) _)
      · have k2 : ¬ (n : Int) < (z : Int) := by omega
        rw [if_neg zn] at E
        have i3 : (4 : Int) ≤ z := by omega
        have i4 : (z : Int) ≤ c := by omega
        have i5 : (z : Int) ≤ n := by omega
        obtain ⟨d, hd⟩ : ∃ d, n - z = d := ⟨_, rfl⟩
        have i6 : (n : Int) - (z : Int) = (d : Int) := by omega
        have i7 : IntKind.i64.wrap (d : Int) = (d : Int) := IntWalk.i64_in _ (by omega)
        have hcl := Lib.hid (show RdF F w (if c = 4 then some ⟨bb, oo, none⟩ else some ⟨bb, oo + 4, none⟩) ((l.take z).drop 4) from RdF.cutAt (HF.out.take z) (by rw [List.length_take, HN.out]; omega))
        have hcl2 := Lib.hid (show ((l.take z).drop 4).length = z - 4 by rw [List.length_drop, List.length_take, HN.out]; omega)
        have G := Lib.hid (kget_good E.out HP.out HQ.out)
        have D := Lib.hid (show kpadB l = d by rw [kpadB, E.out, if_pos rfl, HN.out, hd])
        go_enter Try.func28, Try.ntmps28
        go_wp2_with fail
        go_quiet (fail)
        go_wp2_with fail
        go_quiet (fail)
        replace hcl := hcl.out
        generalize (if c = 4 then (some (⟨bb, oo, none⟩ : Addr)) else some ⟨bb, oo + 4, none⟩) = A' at hcl
        go_wp2_with fail
        ((try simp only [Exit.inBlock, Exit.then]); refine bodyPost_ret (results_tmp5 rfl _ _ _) rfl ?_)
        unfold KRGetF
        rw [G.out, D.out]
        have hb9 : ∀ j k, Below w.heap.size w ((w.drewN j).drewN k) := fun j k => below_drewN (below_drewN (Below.refl _ _) j) k
        exact ⟨_, _, z - 4, rfl, hcl2.out, by omega, hcl.keep (.of_below (hb9 _ _)), hb9 _ _⟩

theorem krgetF_v (l : List Nat) (x y : Nat) (d : List Nat) (q : Nat) (hg : kgetB l = (x, y, d, q)) (k : Nat) (hk : d.length = k) (p : Nat) (hp : kpadB l = p) (n c : Nat) (A : Option Addr) (w : World) (h : Rd w w.heap.size A l) (hb : By l) (hl : l.length = n) (hn : n ≤ 274877906944) (hc : n ≤ c) (F : Nat → Prop) (hF : RdF F w A l) :
    Calls Try.prog 28 #[.slice A n c] w fun e w' => ∃ A' c', e = .returned (.tuple #[.int .u8 (x : Int), .int .u8 (y : Int), .slice A' k c', .int .i64 (p : Int), .int .i64 (q : Int)]) ∧ k ≤ c' ∧ RdF F w' A' d ∧ Below w.heap.size w w' :=
  (krgetF_any l n c A w h hb hl hn hc F hF).mono fun _ _ ⟨A', c', k', h1, h2, h3, h4, h5⟩ => by
    rw [hg] at h1 h2 h4
    rw [hp] at h1
    obtain rfl : k = k' := by rw [← hk, h2]
    exact ⟨A', c', h1, h3, h4, h5⟩
end Go.Proofs.Ytcmapiaacimbeaa
