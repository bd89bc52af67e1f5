
/-
  Feeding what lies there; segments and deframers stay while another is fed; the example of the document, as the statements of layer 7 test it first: it holds. No condition.
-/
import Derived.Test.YteicednlgajpgaaSynS
import Derived.Test.YteicednlgajpgaaSynC
namespace Go.Proofs.Yteicednlgajpgaa
open Go.RowKit

theorem Fd.below_ {B : Nat} {w w' : World} {b most : Nat} {V1 V2 V1' V2' v : Value} {s : St} {l : List Nat} (h : Fd B w w' b most V1 V2 s l V1' V2' v) (hd : Df B w b most V1 V2 s) (hB : B ≤ w.heap.size) : Below B w w' := by
  refine h.off.below (fun k hk hx => ?_) hB
  rcases hx with rfl | hx | hx
  · have := hd.lo; omega
  · have := (hd.own1.lt k hx).1; omega
  · have := (hd.own2.lt k hx).1; omega
/-- Segments told stay while another deframer is fed. -/
theorem Tl.fed {B B' : Nat} {w w' : World} {T : TypeId} {F : Nat → Prop} {v : Value} {l : List Sg} {b most : Nat} {V1 V2 : Value} {s : St} (h : Tl B w T F v l) (hT : T ≠ 43) (hT8 : T ≠ 5) (hd : Df B' w b most V1 V2 s)
    (ho : Offs (Xs b V1 V2) w w') (hF : ∀ g, F g → V1.ownBlock ≠ some g ∧ V2.ownBlock ≠ some g) : Tl B w' T F v l := by
  obtain ⟨xs, hxs⟩ := h.own
  refine h.off ho (Dk.cut hd hxs hT hT8) ?_
  rintro g cur hc hg
  refine ⟨?_, hg⟩
  rintro (rfl | hv | hv)
  · exact hd.blk hc
  · exact (hF g hg).1 hv
  · exact (hF g hg).2 hv
/-- A row of bytes stays while a deframer is fed. -/
theorem own_fed {B B' : Nat} {w w' : World} {u : Value} {n : Nat} {xs : List Value} {b most : Nat} {V1 V2 : Value} {s : St} (h : w.ownsRow B 5 1 u n xs) (hd : Df B' w b most V1 V2 s) (ho : Offs (Xs b V1 V2) w w')
    (hF : ∀ g, u.ownBlock = some g → V1.ownBlock ≠ some g ∧ V2.ownBlock ≠ some g) : w'.ownsRow B 5 1 u n xs := by
  refine own_off h ho ?_
  rintro g hg (rfl | hv | hv)
  · exact hd.cells.own_ne h (by decide) hg
  · exact (hF g hg).1 hv
  · exact (hF g hg).2 hv
theorem Tl.mono {B : Nat} {w : World} {T : TypeId} {F F' : Nat → Prop} {v : Value} {l : List Sg} (h : Tl B w T F v l) (hF : ∀ g, F g → F' g) : Tl B w T F' v l := by
  obtain ⟨vs, e, hown, hd⟩ := h
  exact ⟨vs, e, hown, fun x hx => ⟨(hd x hx).1, fun g hg => hF g ((hd x hx).2 g hg)⟩⟩
/-- A deframer stays while another one is fed. -/
theorem Df.fed {B : Nat} {w w' : World} {b b' most most' : Nat} {V1 V2 U1 U2 : Value} {s s' : St} (h : Df B w b most V1 V2 s) (hd : Df B w b' most' U1 U2 s') (ho : Offs (Xs b' U1 U2) w w') (hb : b ≠ b') (hV1 : ∀ g, V1.ownBlock = some g → U1.ownBlock ≠ some g ∧ U2.ownBlock ≠ some g) (hV2 : ∀ g, V2.ownBlock = some g → U1.ownBlock ≠ some g ∧ U2.ownBlock ≠ some g) : Df B w' b most V1 V2 s := by
  refine h.off ho ?_ ?_ ?_
  · rintro (h1 | h1 | h1)
    · exact hb h1
    · exact h.cells.own_ne hd.own1 (by decide) h1
    · exact h.cells.own_ne hd.own2 (by decide) h1
  · rintro g hg (rfl | h1 | h1)
    · exact hd.cells.own_ne h.own1 (by decide) hg
    · exact (hV1 g hg).1 h1
    · exact (hV1 g hg).2 h1
  · rintro g hg (rfl | h1 | h1)
    · exact hd.cells.own_ne h.own2 (by decide) hg
    · exact (hV2 g hg).1 h1
    · exact (hV2 g hg).2 h1

/-- A copy of a segment, put behind copies. -/
theorem Tl.push {B : Nat} {w1 w2 w3 : World} {T : TypeId} {F : Nat → Prop} {v v3 d : Value} {l : List Sg} {x : Sg} {vs : List (Sg × Value)} (hvs : vs.map (·.1) = l) (hds : ∀ y ∈ vs, w1.ownsRow B 5 1 y.2 y.1.2.length (bvs y.1.2) ∧ ∀ g, y.2.ownBlock = some g → F g)
    (hd : w1.ownsRow B 5 1 d x.2.length (bvs x.2)) (hF : ∀ g, d.ownBlock = some g → F g) (hv : ∀ g, v.ownBlock = some g → ∃ cur, w1.heap[g]? = some (.cells cur T (0, 0))) (hT : T ≠ 5) (hb : Below w1.heap.size w1 w2) (hg : w2.grownBy w3 v.ownBlock)
    (hown : w3.ownsRow B T 2 v3 (l.length + 1) (sgC vs ++ [.int .i64 (x.1 : Nat), d])) : Tl B w3 T F v3 (l ++ [x]) := by
  have ho := Offs.trans (Z := fun i => v.ownBlock = some i) (.of_below (X := fun i => v.ownBlock = some i) hb) (.of_grown (X := fun i => v.ownBlock = some i) hg (fun _ h => h)) (fun _ h => h) (fun _ _ h => h)
  have un : ∀ {q : Value} {k : Nat} {ys : List Value}, w1.ownsRow B 5 1 q k ys → w3.ownsRow B 5 1 q k ys := fun hq => own_off hq ho (by
    intro g hg' hv'
    obtain ⟨c1, h1⟩ := own_blk hq hg'
    obtain ⟨c2, h2⟩ := hv g hv'
    rw [h1] at h2
    injection h2 with h2
    injection h2 with _ h2
    exact hT h2.symm)
  refine ⟨vs ++ [(x, d)], ?_, ?_, ?_⟩
  · rw [List.map_append, hvs]; rfl
  · rw [List.length_append, sgC_app]; exact hown
  · intro y hy
    rcases List.mem_append.1 hy with hy | hy
    · exact ⟨un (hds y hy).1, (hds y hy).2⟩
    · rw [List.mem_singleton] at hy
      subst hy
      exact ⟨un hd, hF⟩

set_option maxHeartbeats 1000000 in
theorem speaks7_any (w : World) : Calls Try.prog 7 #[] w fun e w' => e = .returned (.bool true) ∧ Below w.heap.size w w' := by
  have hby0 : By [0] := by intro x hx; simp at hx; omega
  have hl24 : (wrapB [0]).length = 24 := by decide +kernel
  have HL24 := Lib.hid hl24
  have HT := Lib.hid (show (run 9 St.start (wrapB [0])).2 = [(0, [0])] by
    unfold wrapB
    rw [wrap_start hby0]; rfl)
  clear hl24
  go_enter Try.func7, Try.ntmps7
  go_wp2_with fail
  refine (new_any 9 _).mono ?_
  rintro e w1 ⟨b, rfl, hb, hb1, hD1, hB1⟩
  have hd1 := hD1 _ (Nat.le_refl _)
  have hB2 := hB1.alloc hB1.size (.cells #[.int .u8 0] 5)
  have hd2 := hd1.below ((Below.refl _ _).alloc (Nat.le_refl _) (.cells #[.int .u8 0] 5))
  have hr2 := Rd.lit_ w1 [0]
  clear hD1 hd1 hB1
  go_wp2_with fail
  refine (wrap_any [0] 1 _ _ _ hr2 hby0 rfl (by omega)).mono ?_
  rintro e w3 ⟨A3, c3, k3, rfl, -, hN⟩
  have hk3 : k3 = 24 := by rw [← hN.1]; exact HL24.out
  subst hk3
  have hd3 := hd2.below hN.2.2.2
  have hr3 := hN.2.2.1
  have hB3 := hB2.trans (hN.2.2.2.mono hB2.size)
  clear hN hd2 hr2 hB2
  go_wp2_with fail
  refine (feed_any hd3 hB3.size (by omega) (wrapB [0]) 24 A3 c3 HL24.out (wrapB_by _) (by show 0 + 24 ≤ _; omega) hr3).mono ?_
  rintro e w4 ⟨U1, U2, v4, rfl, hF4⟩
  have hB4 := hB3.trans (hF4.below_ hd3 hB3.size)
  have ht := hF4.tl
  rw [HT.out] at ht
  obtain ⟨A4, c4, rfl, hc4, _⟩ := ht.shape
  obtain ⟨b5, o5, x, Ak, ck, rfl, hx, q1, q2, q3⟩ := (ht.read (n := 1)).at_ (k := 0) (by simp)
  injection hx with hx
  subst hx
  have Q3 := Lib.hid q3
  have HC := Lib.hid hc4
  clear ht hF4 hd3 hr3 hB3 q3 hc4
  have i1 : (0 : Int) < 1 := by omega
  have hbe : Below w4.heap.size w4 (w4.alloc (.cells #[.int .u8 0] 5)) := (Below.refl _ _).alloc (Nat.le_refl _) _
  have R4 : Rd (w4.alloc (.cells #[.int .u8 0] 5)) (w4.alloc (.cells #[.int .u8 0] 5)).heap.size (some ⟨w4.heap.size, 0, none⟩) [0] := Rd.lit_ w4 [0]
  simp only [Nat.zero_mul, Nat.add_zero] at q1 q2
  go_wp2_with fail
  refine (equal_yes [0] [0] 1 1 _ _ _ _ _ ((Q3.out.below hbe).more hbe.size) R4 rfl rfl (by omega) rfl).mono ?_
  rintro e w5 ⟨rfl, hb5⟩
  have hB5 := (hB4.trans (hbe.mono hB4.size)).trans (hb5.mono (Nat.le_trans hB4.size hbe.size))
  clear hbe R4 hb5
  go_wp2_with fail
  go_ret
  exact ⟨rfl, hB5⟩

end Go.Proofs.Yteicednlgajpgaa
