
/-
  What layers 17 and 18 both call: the document's Text; packets with two texts; a constant's octets. No condition beyond: at most 2^38 octets.
-/
import Derived.Test.YthebckidjhenlaaGreatPapM
import Derived.Test.YthebckidjhenlaaGreatGPkt
import Derived.Test.YthebckidjhenlaaGreatGCtl
import Derived.Deep.CutRange
import Derived.Deep.RegionHeld3
namespace Go.Proofs.YthebckidjhenlaaGreat
set_option maxRecDepth 4000
open Go.RowKit
set_option linter.unusedVariables false

section
variable {T : TypeId} {w W : World} {p : Pk} {q : Pl}
theorem BxC.drew (h : BxC T w W p q) : BxC T w W.drew p q := h.step (X := W) (Below.refl _ _).drew
theorem BxC.al (h : BxC T w W p q) (o : Obj) : BxC T w (W.alloc o) p q := h.step (X := W) ((Below.refl _ _).alloc (Nat.le_refl _) o)
theorem BxC.c6 (h : BxC T w W p q) : W.cell? ⟨w.heap.size, 6, none⟩ = some (.slice q.a1 q.n1 q.c1) := h.cf.all.2.2.2.2.2.2.1
theorem BxC.c7 (h : BxC T w W p q) : W.cell? ⟨w.heap.size, 7, none⟩ = some (.slice q.a2 q.n2 q.c2) := h.cf.all.2.2.2.2.2.2.2.1
end
theorem pwF_texts {F : Nat → Prop} {w : World} (t c i : Nat) {A B : Option Addr} {n k m j : Nat} {l l2 : List Nat} (hl : l.length = n) (hr : RdF F w A l) (hk : n ≤ k) (hl2 : l2.length = m) (hr2 : RdF F w B l2) (hk2 : m ≤ j) : PwF F w ⟨t, c, i, [], 0, 0, l, l2, [], []⟩ { pl0 with a1 := A, n1 := n, c1 := k, a2 := B, n2 := m, c2 := j } :=
  ⟨rfl, Rws.nilO, hl, hr, hl2, hr2, rfl, RdF.nil, rfl, Rws.nil, hk, hk2, Nat.le_refl _⟩
/-- A constant's octets in a new block, marked behind their end. -/
theorem Rd.markP (w : World) (l : List Nat) (C : Array Value) (hC : C = (bvs l).toArray) (m : Nat × Nat) : Rd (w.alloc (.cells C 5 m)) (w.alloc (.cells C 5 m)).heap.size (some ⟨w.heap.size, 0, none⟩) l := by
  intro hl
  refine ⟨w.heap.size, 0, rfl, by simp, fun k x hx => ?_⟩
  have := bvs_get l k x hx
  subst hC
  have hh : (w.alloc (.cells (bvs l).toArray 5 m)).heap[w.heap.size]? = some (.cells (bvs l).toArray 5 m) := heap_alloc_new w _
  unfold World.cell?
  dsimp only
  rw [hh]
  simpa using this

theorem cutT_drop {d l r : List Nat} (h : cutT d = (l, r, 0)) : d.drop (l.length + 1) = r := by
  rw [cutT_said h, show lenT l ++ r = l.length :: (l ++ r) from rfl, List.drop_succ_cons, List.drop_left']
  rfl

set_option maxHeartbeats 2000000 in
theorem rtext_no (d : List Nat) (n c : Nat) (A : Option Addr) (w : World) (h : Rd w w.heap.size A d) (hl : d.length = n) (hb : By d) (hn : n ≤ 274877906944) (k : Nat) (K : Int) (hK : K = (k : Int)) (hk : k ≤ n) (hd : cutT (d.drop k) = ([], [], 2)) :
    Calls Tryz.prog 45 #[.slice A n c, .int .i64 K] w fun e w' => e = .returned (.tuple #[.slice none 0 0, .int .i64 (-1)]) ∧ Below w.heap.size w w' := by
  subst hK
  by_cases h0 : n ≤ k
  · have j1 : (n : Int) ≤ (k : Int) := by omega
    clear h hl hd h0
    go_enter Tryz.func45, Tryz.ntmps45
    go_wp2_with fail
    go_ret2
    exact ⟨rfl, Below.refl _ _⟩
  · have j1 : ¬ (n : Int) ≤ (k : Int) := by omega
    obtain ⟨bb, oo, x, rfl, hbb, hx, hcx⟩ := h.at_ (k := k) (by omega)
    have hx256 := hb.get hx
    have e := cutT_at (d := d.drop k) (x := x) (n := n - k) (by rw [List.getElem?_drop]; exact hx) (by rw [List.length_drop, hl])
    have hs : n - k < x + 1 := by
      rcases Nat.lt_or_ge (n - k) (x + 1) with h2 | h2
      · exact h2
      · rw [hd, if_neg (by omega)] at e
        exact absurd (Prod.mk.inj (Prod.mk.inj e).2).2 (by decide)
    obtain ⟨k', hk'⟩ : ∃ k', k + 1 = k' := ⟨_, rfl⟩
    obtain ⟨z, hz⟩ : ∃ z, k' + x = z := ⟨_, rfl⟩
    have i0 : (0 : Int) ≤ k := by omega
    have i1 : (k : Int) < n := by omega
    have i2 : (k : Int) + 1 = (k' : Int) := by omega
    have i3 : IntKind.i64.wrap (k' : Int) = (k' : Int) := IntWalk.i64_in _ (by omega)
    have i4 : (k' : Int) + (x : Int) = (z : Int) := by omega
    have i5 : IntKind.i64.wrap (z : Int) = (z : Int) := IntWalk.i64_in _ (by omega)
    have i6 : (n : Int) < (z : Int) := by omega
    clear h hl hd e hs hx hk' hz
    go_enter Tryz.func45, Tryz.ntmps45
    go_wp2_with fail
    go_ret2
    exact ⟨rfl, Below.refl _ _⟩

/-- What Text answers where there is one: a text, and where it ends. -/
def TextR (F : Nat → Prop) (w : World) (l : List Nat) (k1 z : Nat) (e : Ending) (w' : World) : Prop := ∃ A1 c1, e = .returned (.tuple #[.slice A1 k1 c1, .int .i64 (z : Int)]) ∧ k1 ≤ c1 ∧ RdF F w' A1 l ∧ Below w.heap.size w w'

set_option maxHeartbeats 4000000 in
theorem rtext_ok (F : Nat → Prop) (d : List Nat) (n c : Nat) (A : Option Addr) (w : World) (hF : RdF F w A d) (hl : d.length = n) (hb : By d) (hn : n ≤ 274877906944) (hc : n ≤ c) (k : Nat) (K : Int) (hK : K = (k : Int)) (hk : k ≤ n) (l r : List Nat) (hd : cutT (d.drop k) = (l, r, 0)) (k1 : Nat) (hk1 : l.length = k1) (z : Nat) (hz : k + 1 + k1 = z) :
    Calls Tryz.prog 45 #[.slice A n c, .int .i64 K] w (TextR F w l k1 z) := by
  subst hK
  have h := hF.rd
  have h0 : k < n := by
    rcases Nat.lt_or_ge k n with h0 | h0
    · exact h0
    · rw [List.drop_of_length_le (by omega), cutT_nil] at hd
      exact absurd (Prod.mk.inj (Prod.mk.inj hd).2).2 (by decide)
  have j1 : ¬ (n : Int) ≤ (k : Int) := by omega
  obtain ⟨bb, oo, x, rfl, hbb, hx, hcx⟩ := h.at_ (k := k) (by omega)
  have hx256 := hb.get hx
  have e := cutT_at (d := d.drop k) (x := x) (n := n - k) (by rw [List.getElem?_drop]; exact hx) (by rw [List.length_drop, hl])
  have hs : x + 1 ≤ n - k := by
    rcases Nat.lt_or_ge (n - k) (x + 1) with h2 | h2
    · rw [hd, if_pos h2] at e
      exact absurd (Prod.mk.inj (Prod.mk.inj e).2).2 (by decide)
    · exact h2
  rw [hd, if_neg (by omega)] at e
  have el := (Prod.mk.inj e).1
  have hkx : k1 = x := by rw [← hk1, el, List.length_drop, List.length_take, List.length_drop, hl]; omega
  obtain ⟨k', hk'⟩ : ∃ k', k + 1 = k' := ⟨_, rfl⟩
  have EL := Lib.hid (show l = (d.take z).drop k' by
    rw [el, ← hk', ← List.drop_drop, ← hz, hkx, show k + 1 + x = k + (x + 1) by omega, ← List.take_drop])
  have i0 : (0 : Int) ≤ k := by omega
  have i1 : (k : Int) < n := by omega
  have i2 : (k : Int) + 1 = (k' : Int) := by omega
  have i3 : IntKind.i64.wrap (k' : Int) = (k' : Int) := IntWalk.i64_in _ (by omega)
  have i4 : (k' : Int) + (x : Int) = (z : Int) := by omega
  have i5 : IntKind.i64.wrap (z : Int) = (z : Int) := IntWalk.i64_in _ (by omega)
  have i6 : ¬ (n : Int) < (z : Int) := by omega
  have i7 : (0 : Int) ≤ k' := by omega
  have i8 : (k' : Int) ≤ z := by omega
  have i9 : (z : Int) ≤ c := by omega
  have HC := Lib.hid (show RdF F w (if c = k' then some ⟨bb, oo, none⟩ else some ⟨bb, oo + k', none⟩) l from by rw [EL.out]; exact RdF.cutAt (c := c) (f := k') (hF.take z) (by rw [List.length_take, hl]; omega))
  have E1 := Lib.hid (show z - k' = k1 by omega)
  have KK := Lib.hid (show k1 ≤ c - k' by omega)
  have KZ := Lib.hid (show c = k' → k1 ≤ 0 by omega)
  clear h hl hb hd hx hF hk1 e hs hc EL el hkx hk' hz hk h0
  by_cases hck : c = k'
  · have HC1 := Lib.hid (show RdF F w (some ⟨bb, oo, none⟩) l from by have := HC.out; rw [if_pos hck] at this; exact this)
    have KZ1 := Lib.hid (KZ.out hck)
    clear HC KK KZ
    go_enter Tryz.func45, Tryz.ntmps45
    go_wp2_with fail
    go_ret2
    exact ⟨some ⟨bb, oo, none⟩, 0, by rw [← E1.out]; rfl, KZ1.out, HC1.out, Below.refl _ _⟩
  · have HC1 := Lib.hid (show RdF F w (some ⟨bb, oo + k', none⟩) l from by have := HC.out; rw [if_neg hck] at this; exact this)
    clear HC KZ
    go_enter Tryz.func45, Tryz.ntmps45
    go_wp2_with fail
    go_ret2
    exact ⟨some ⟨bb, oo + k', none⟩, c - k', by rw [← E1.out]; rfl, KK.out, HC1.out, Below.refl _ _⟩
end Go.Proofs.YthebckidjhenlaaGreat
