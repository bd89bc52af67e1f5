
/-
  The example of the document, as the statements of layer 5 test it first: it holds. No condition.
-/
import Derived.Test.YtdpkccbcfedhbaaAsyC
namespace Go.Proofs.Ytdpkccbcfedhbaa
open Go.RowKit

/-- Feeding what lay before the deframer did. -/
theorem feed_lay {B : Nat} {w : World} {b m most : Nat} {V : Value} {s : St} (h : Df B w b m most V s) (hB : B ≤ w.heap.size) (hm : m < 4294967296) (hmost : most ≤ 1099511627776) (l : List Nat) (n : Nat) (A : Option Addr) (c : Nat) (hl : l.length = n) (hby : By l) (hn : n ≤ 274877906944)
    (C : Nat → Prop) (hC : ∀ g, C g → g < w.heap.size ∧ g ≠ b ∧ V.ownBlock ≠ some g) (hr : 0 < l.length → ∃ g off, A = some ⟨g, off, none⟩ ∧ C g ∧ ∀ (k x : Nat), l[k]? = some x → w.cell? ⟨g, off + k, none⟩ = some (.int .u8 (x : Int))) :
    Calls Try.prog 10 #[.pointer (some ⟨b, 0, none⟩), .slice A n c] w fun e w' => ∃ V' v, e = .returned v ∧ Fd B w w' b m most V s l V' v := by
  refine feed_any h hB hm hmost l n A c hl hby hn (fun w' ho hl0 => ?_)
  obtain ⟨g, off, rfl, hg, hc⟩ := hr hl0
  obtain ⟨h1, h2, h3⟩ := hC g hg
  refine ⟨g, off, rfl, by have := ho.size; omega, fun k x hx => ?_⟩
  rw [World.cell?_of_block (w := w) (ho.block g h1 (by rintro (h4 | h4); exact h2 h4; exact h3 h4))]
  exact hc k x hx
/-- Of octets in a row of the call's own. -/
theorem feed_own {B : Nat} {w : World} {b m most : Nat} {V : Value} {s : St} (h : Df B w b m most V s) (hB : B ≤ w.heap.size) (hm : m < 4294967296) (hmost : most ≤ 1099511627776) (l : List Nat) (n : Nat) (A : Option Addr) (c : Nat) (hby : By l) (hn : n ≤ 274877906944)
    {base : Nat} (ho : w.ownsRow base 5 1 (.slice A n c) n (bvs l)) (hV : ∀ g, (Value.slice A n c).ownBlock = some g → V.ownBlock ≠ some g) :
    Calls Try.prog 10 #[.pointer (some ⟨b, 0, none⟩), .slice A n c] w fun e w' => ∃ V' v, e = .returned v ∧ Fd B w w' b m most V s l V' v := by
  have hl : l.length = n := by have := ho.1; rw [bvs_len] at this; omega
  refine feed_lay h hB hm hmost l n A c hl hby hn (fun g => (Value.slice A n c).ownBlock = some g) (fun g hg => ⟨(ho.lt g hg).2, fun e => h.cells.own_ne ho (by decide) (by rw [hg, e]), hV g hg⟩) (fun hl0 => ?_)
  obtain ⟨b', off, rfl, _, hc⟩ := Rd.own ho hl0
  exact ⟨b', off, rfl, rfl, hc⟩
/-- Of octets that lay below B. -/
theorem feed_old {B : Nat} {w : World} {b m most : Nat} {V : Value} {s : St} (h : Df B w b m most V s) (hB : B ≤ w.heap.size) (hm : m < 4294967296) (hmost : most ≤ 1099511627776) (l : List Nat) (n : Nat) (A : Option Addr) (c : Nat) (hl : l.length = n) (hby : By l) (hn : n ≤ 274877906944) (hr : Rd w B A l) :
    Calls Try.prog 10 #[.pointer (some ⟨b, 0, none⟩), .slice A n c] w fun e w' => ∃ V' v, e = .returned v ∧ Fd B w w' b m most V s l V' v := by
  refine feed_lay h hB hm hmost l n A c hl hby hn (fun g => g < B) (fun g hg => ⟨by omega, fun e => by have := h.lo; omega, fun e => by have := (h.own.lt g e).1; omega⟩) (fun hl0 => ?_)
  obtain ⟨b', off, rfl, hb, hc⟩ := hr hl0
  exact ⟨b', off, rfl, hb, hc⟩
theorem Fd.below_ {B : Nat} {w w' : World} {b m most : Nat} {V V' v : Value} {s : St} {l : List Nat} (h : Fd B w w' b m most V s l V' v) (hd : Df B w b m most V s) (hB : B ≤ w.heap.size) : Below B w w' := by
  refine h.off.below (fun k hk hx => ?_) hB
  rcases hx with rfl | hx
  · have := hd.lo; omega
  · have := (hd.own.lt k hx).1; omega

set_option maxHeartbeats 1000000 in
theorem speaks5_any (w : World) : Calls Try.prog 7 #[] w fun e w' => e = .returned (.bool true) ∧ Below w.heap.size w w' := by
  go_enter Try.func7, Try.ntmps7
  go_wp2_with fail
  refine (new_any 0 9 _).mono ?_
  rintro e w1 ⟨b, rfl, hb, hb1, hD1, hB1⟩
  have hd1 := hD1 _ (Nat.le_refl _)
  have hl : (run 0 9 St.start [126, 1, 125, 94, 126]).2 = [(0, [1, 126])] := by decide
  have HL := Lib.hid hl
  have hB2 := hB1.alloc hB1.size (.cells #[.int .u8 126, .int .u8 1, .int .u8 125, .int .u8 94, .int .u8 126] 5)
  have hd2 := hd1.below ((Below.refl _ _).alloc (Nat.le_refl _) (.cells #[.int .u8 126, .int .u8 1, .int .u8 125, .int .u8 94, .int .u8 126] 5))
  have ho2 : (w1.alloc (.cells #[.int .u8 126, .int .u8 1, .int .u8 125, .int .u8 94, .int .u8 126] 5)).ownsRow w.heap.size 5 1 (.slice (some ⟨w1.heap.size, 0, none⟩) 5 5) 5 (bvs [126, 1, 125, 94, 126]) := World.ownsRow_lit w1 _ 5 hB1.size (by unfold maxLen; omega) rfl
  clear hl hB1 hd1 hD1
  go_wp2_with fail
  refine (feed_own hd2 hB2.size (by omega) (by omega) _ 5 _ _ (by intro x hx; simp at hx; omega) (by omega) ho2 (fun g _ h => by cases h)).mono ?_
  rintro e w3 ⟨V3, v3, rfl, hF3⟩
  have hB3 := hB2.trans (hF3.below_ hd2 hB2.size)
  have ht := hF3.tl
  rw [HL.out] at ht
  obtain ⟨A3, c3, rfl, hc3, _⟩ := ht.shape
  obtain ⟨b3, o3, x, Ak, ck, rfl, hx, q1, q2, q3⟩ := (ht.read (n := 1)).at_ (k := 0) (by simp)
  injection hx with hx
  subst hx
  have Q3 := Lib.hid q3
  have HC := Lib.hid hc3
  clear ht hF3 hd2 hB2 ho2 q3 hc3
  have i1 : (0 : Int) < 1 := by omega
  have hbe : Below w3.heap.size w3 (w3.alloc (.cells #[.int .u8 1, .int .u8 126] 5)) := (Below.refl _ _).alloc (Nat.le_refl _) _
  have R4 : Rd (w3.alloc (.cells #[.int .u8 1, .int .u8 126] 5)) (w3.alloc (.cells #[.int .u8 1, .int .u8 126] 5)).heap.size (some ⟨w3.heap.size, 0, none⟩) [1, 126] := Rd.lit_ w3 [1, 126]
  simp only [Nat.zero_mul, Nat.add_zero] at q1 q2
  go_wp2_with fail
  refine (equal_yes [1, 126] [1, 126] 2 2 _ _ _ _ _ ((Q3.out.below hbe).more hbe.size) R4 rfl rfl (by omega) rfl).mono ?_
  rintro e w4 ⟨rfl, hb4⟩
  have hB4 := (hB3.trans (hbe.mono hB3.size)).trans (hb4.mono (Nat.le_trans hB3.size hbe.size))
  clear hbe R4 hb4
  go_wp2_with fail
  refine (wrap_any 0 (by omega) [] 0 none 0 w4 Rd.nil By.nil rfl (by omega)).mono ?_
  rintro e w5 ⟨A5, c5, k5, rfl, hk5, hN⟩
  have h2 : k5 = 2 := by rw [← hN.1]; rfl
  subst h2
  have hB5 := hB4.trans (hN.2.2.2.mono hB4.size)
  clear hN
  go_wp2_with fail
  go_ret
  exact ⟨rfl, hB5⟩

/-- A fact that lay is found later. -/
theorem Rd.on {w w' : World} {A : Option Addr} {l : List Nat} (h : Rd w w.heap.size A l) (hb : Below w.heap.size w w') : Rd w' w'.heap.size A l := (h.below hb).more hb.size
/-- Segments told stay while another deframer is fed. -/
theorem Tl.fed {B B' : Nat} {w w' : World} {T : TypeId} {F : Nat → Prop} {v : Value} {l : List Sg} {b m most : Nat} {V : Value} {s : St} (h : Tl B w T F v l) (hT : T ≠ 45) (hT8 : T ≠ 5) (hd : Df B' w b m most V s)
    (ho : Offs (fun k => k = b ∨ V.ownBlock = some k) w w') (hF : ∀ g, F g → V.ownBlock ≠ some g) : Tl B w' T F v l := by
  obtain ⟨xs, hxs⟩ := h.own
  refine h.off ho ?_ ?_
  · rintro g hg (rfl | hv)
    · exact hd.cells.own_ne hxs hT hg
    · exact own_ne hxs hd.own hT8 hg hv
  · rintro g cur hc hg
    refine ⟨?_, hg⟩
    rintro (rfl | hv)
    · have := hd.cells
      unfold Dc at this
      rw [this] at hc
      injection hc with hc
      injection hc with _ hc
      exact absurd hc (by decide)
    · exact hF g hg hv
theorem Tl.mono {B : Nat} {w : World} {T : TypeId} {F F' : Nat → Prop} {v : Value} {l : List Sg} (h : Tl B w T F v l) (hF : ∀ g, F g → F' g) : Tl B w T F' v l := by
  obtain ⟨vs, e, hown, hd⟩ := h
  exact ⟨vs, e, hown, fun x hx => ⟨(hd x hx).1, fun g hg => hF g ((hd x hx).2 g hg)⟩⟩
/-- A deframer stays while another one is fed. -/
theorem Df.fed {B : Nat} {w w' : World} {b b' m m' most most' : Nat} {V V' : Value} {s s' : St} (h : Df B w b m most V s) (hd : Df B w b' m' most' V' s') (ho : Offs (fun k => k = b' ∨ V'.ownBlock = some k) w w') (hb : b ≠ b') (hV : ∀ g, V.ownBlock = some g → V'.ownBlock ≠ some g) : Df B w' b m most V s := by
  refine h.off ho ?_ ?_
  · rintro (h1 | h1)
    · exact hb h1
    · exact h.cells.own_ne hd.own (by decide) h1
  · rintro g hg (rfl | h1)
    · exact hd.cells.own_ne h.own (by decide) hg
    · exact hV g hg h1

/-- A copy of a segment, put behind copies. -/
theorem Tl.push {B : Nat} {w1 w2 w3 : World} {T : TypeId} {F : Nat → Prop} {v v3 d : Value} {l : List Sg} {x : Sg} {vs : List (Sg × Value)} (hvs : vs.map (·.1) = l) (hds : ∀ y ∈ vs, w1.ownsRow B 5 1 y.2 y.1.2.length (bvs y.1.2) ∧ ∀ g, y.2.ownBlock = some g → F g)
    (hd : w1.ownsRow B 5 1 d x.2.length (bvs x.2)) (hF : ∀ g, d.ownBlock = some g → F g) (hv : ∀ g, v.ownBlock = some g → ∃ cur, w1.heap[g]? = some (.cells cur T (0, 0))) (hT : T ≠ 5) (hb : Below w1.heap.size w1 w2) (hg : w2.grownBy w3 v.ownBlock)
    (hown : w3.ownsRow B T 2 v3 (l.length + 1) (sgC vs ++ [.int .i64 (x.1 : Nat), d])) : Tl B w3 T F v3 (l ++ [x]) := by
  have ho := Offs.trans (Z := fun i => v.ownBlock = some i) (.of_below (X := fun i => v.ownBlock = some i) hb) (.of_grown (X := fun i => v.ownBlock = some i) hg (fun _ h => h)) (fun _ h => h) (fun _ _ h => h)
  have un : ∀ {q : Value} {k : Nat} {ys : List Value}, w1.ownsRow B 5 1 q k ys → w3.ownsRow B 5 1 q k ys := fun hq => own_off hq ho (by
    intro g hg' hv'
    obtain ⟨c1, h1⟩ := own_blk hq hg'
    obtain ⟨c2, h2⟩ := hv g hv'
    rw [h1] at h2
    injection h2 with h2
    injection h2 with _ h2
    exact hT h2.symm)
  refine ⟨vs ++ [(x, d)], ?_, ?_, ?_⟩
  · rw [List.map_append, hvs]; rfl
  · rw [List.length_append, sgC_app]; exact hown
  · intro y hy
    rcases List.mem_append.1 hy with hy | hy
    · exact ⟨un (hds y hy).1, (hds y hy).2⟩
    · rw [List.mem_singleton] at hy
      subst hy
      exact ⟨un hd, hF⟩

end Go.Proofs.Ytdpkccbcfedhbaa
