
/-
  What Get of layer 13 answers, with the blocks that its data lie in. No condition beyond: at most 2^38 octets.
-/
import Derived.Test.YtcmapiaacimbeaaCtlV
import Derived.Test.YtcmapiaacimbeaaRowk
namespace Go.Proofs.Ytcmapiaacimbeaa
open Go.RowKit

/-- What Get answers: data in blocks of its own. -/
def KGetN (l : List Nat) (w : World) (e : Ending) (w' : World) : Prop :=
  ∃ A' c' k, e = .returned (.tuple #[.int .u8 ((kgetB l).1 : Int), .int .u8 ((kgetB l).2.1 : Int), .slice A' k c', .int .i64 ((kgetB l).2.2.2 : Int)]) ∧ (kgetB l).2.2.1.length = k ∧ k ≤ c' ∧ RdF (fun b => w.heap.size ≤ b) w' A' (kgetB l).2.2.1 ∧ Below w.heap.size w w'

set_option maxHeartbeats 2000000 in
theorem cgetN_any (l : List Nat) (n c : Nat) (A : Option Addr) (w : World) (h : Rd w w.heap.size A l) (hb : By l) (hl : l.length = n) (hn : n ≤ 274877906944) (hc : n ≤ c) :
    Calls Try.prog 25 #[.slice A n c] w (KGetN l w) := by
  obtain ⟨f, e, hf⟩ : ∃ f e, Hid (kfirstB l = (f, e)) := ⟨_, _, Lib.hid rfl⟩
  have HR := Lib.hid h
  have HB := Lib.hid hb
  have HN := Lib.hid hl
  by_cases he : e = 0
  · subst he
    have h1 := kfirst_ok (l := l) (by rw [hf.out])
    rw [hf.out, hl] at h1
    dsimp only at h1
    obtain ⟨bb, oo, x, rfl, hbb, hx, hcx⟩ := h.at_ (k := 0) (by omega)
    obtain ⟨bb', oo', y, e', -, hy, hcy⟩ := h.at_ (k := 1) (by omega)
    injection e' with e'
    injection e' with e1 e2
    subst e1; subst e2
    have G := Lib.hid (kget_good hf.out hx hy)
    have i0 : 0 < n := by omega
    have i1 : (0 : Int) < n := by omega
    have i2 : (1 : Int) < n := by omega
    have i3 : (4 : Int) ≤ f := by omega
    have i4 : (f : Int) ≤ c := by omega
    have i5 : (f : Int) ≤ n := by omega
    have hcl := Lib.hid (show Rd w w.heap.size (if c = 4 then some ⟨bb, oo, none⟩ else some ⟨bb, oo + 4, none⟩) ((l.take f).drop 4) from (HR.out.take f).kcutAt (by rw [List.length_take, hl]; omega))
    have hcl2 := Lib.hid (show ((l.take f).drop 4).length = f - 4 by rw [List.length_drop, List.length_take, hl]; omega)
    have C := Lib.hid (show KFC w w ⟨bb, oo, none⟩ ⟨bb, oo + 1, none⟩ x y from ⟨Below.refl _ _, hbb, hbb, hcx, hcy⟩)
    clear h hb hl hx hy h1 hcx hcy
    go_enter Try.func25, Try.ntmps25
    go_wp2_with (go_at_call 33; (with_reducible refine (kfirst_v l _ _ hf.out n c _ _ HR.out HB.out HN.out).mono ?_); rintro e' w2 ⟨rfl, hb2⟩; replace C := Lib.hid (C.out.step hb2); clear hb2)
    obtain ⟨f0, f1⟩ := C.out.cells
    go_region_held3 (fun W => W.cell? ⟨bb, oo, none⟩ = some (.int .u8 (x : Int)) ∧ W.cell? ⟨bb, oo + 1, none⟩ = some (.int .u8 (y : Int))) (first | exact C.out.cells | exact C.out.drew.cells) (first
      | (go_at_call 34; (with_reducible refine (clone_any ((l.take f).drop 4) (f - 4) _ _ _ (hcl.out.below C.out.drew.bel |>.more C.out.drew.bel.size) hcl2.out (by omega)).mono ?_); rintro e' w5 ⟨A5, c5, rfl, HN5⟩; have HN6 := Lib.hid HN5; have HS := Lib.hid C.out.drew.bel.size; replace C := Lib.hid (C.out.drew.step HN5.2.2.2); clear HN5; dsimp only))
    clear hcl f0 f1
    generalize (if c = 4 then (some (⟨bb, oo, none⟩ : Addr)) else some ⟨bb, oo + 4, none⟩) = A'
    go_wp2_with fail
    ((try simp only [Exit.inBlock, Exit.then]); refine bodyPost_ret (results_tmp4 rfl _ _ _) rfl ?_)
    unfold KGetN
    rw [G.out]
    exact ⟨A5, c5, f - 4, rfl, hcl2.out, own_cap HN6.out.2.1, (RdF.own HN6.out.2.1).mono (fun b _ hb => Nat.le_trans HS.out hb), C.out.bel⟩
  · have i1 : ((e : Int) != 0) = true := by rw [bne_iff_ne]; omega
    have G := Lib.hid (kget_bad hf.out he)
    clear h hb hl he
    go_enter Try.func25, Try.ntmps25
    go_wp2_with (go_at_call 33; (with_reducible refine (kfirst_any l n c A _ HR.out HB.out HN.out).mono ?_); rintro e' w' ⟨rfl, k, rfl⟩; rw [hf.out])
    ((try simp only [Exit.inBlock, Exit.then]); refine bodyPost_ret (results_tmp4 rfl _ _ _) rfl ?_)
    unfold KGetN
    rw [G.out]
    exact ⟨none, 0, 0, rfl, rfl, Nat.le_refl _, RdF.nil, below_drewN (Below.refl _ _) _⟩

theorem cgetN_v (l : List Nat) (x y : Nat) (d : List Nat) (q : Nat) (hg : kgetB l = (x, y, d, q)) (k : Nat) (hk : d.length = k) (n c : Nat) (A : Option Addr) (w : World) (h : Rd w w.heap.size A l) (hb : By l) (hl : l.length = n) (hn : n ≤ 274877906944) (hc : n ≤ c) :
    Calls Try.prog 25 #[.slice A n c] w fun e w' => ∃ A' c', e = .returned (.tuple #[.int .u8 (x : Int), .int .u8 (y : Int), .slice A' k c', .int .i64 (q : Int)]) ∧ k ≤ c' ∧ RdF (fun b => w.heap.size ≤ b) w' A' d ∧ Below w.heap.size w w' :=
  (cgetN_any l n c A w h hb hl hn hc).mono fun _ _ ⟨A', c', k', h1, h2, h3, h4, h5⟩ => by
    rw [hg] at h1 h2 h4
    obtain rfl : k = k' := by rw [← hk, h2]
    exact ⟨A', c', h1, h3, h4, h5⟩
end Go.Proofs.Ytcmapiaacimbeaa
