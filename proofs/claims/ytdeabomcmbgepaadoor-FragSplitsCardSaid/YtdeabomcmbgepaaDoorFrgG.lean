
/-
  What the program's value and Get of layer 23 answer. Conditions: the shapes stand as the start-up lays them ('TabF'); at most 2^38 octets.
-/
import Derived.Test.YtdeabomcmbgepaaDoorFrgP
import Derived.Deep.CutRange
namespace Go.Proofs.YtdeabomcmbgepaaDoor
open Go.RowKit

theorem fr_vor (v x : Nat) (hv : v < 4294967296) (hx : x < 256) : bits .or .i64 ((v : Int) * 256) (x : Int) = ((v * 256 + x : Nat) : Int) := by
  have h2 := Nat.two_pow_add_eq_or_of_lt (show x < 2 ^ 8 by omega) v
  have e : ((v : Int) * 256) = ((2 ^ 8 * v : Nat) : Int) := by simp; omega
  rw [e]
  show IntKind.i64.wrap ((BitVec.ofInt 64 ((2 ^ 8 * v : Nat) : Int) ||| BitVec.ofInt 64 (x : Int)).toNat : Int) = _
  rw [BitVec.toNat_or, ofInt_u64 _ (by omega), ofInt_u64 _ (by omega), ← h2, show 2 ^ 8 * v + x = v * 256 + x by omega]
  exact IntWalk.i64_in _ (by omega)
theorem frval_lt {l : List Nat} (h : By l) : ∀ k, k ≤ 4 → frval (l.take k) < 256 ^ k := by
  intro k
  induction k with
  | zero => intro _; simp [frval]
  | succ k ih =>
    intro hk
    rcases Nat.lt_or_ge k l.length with hl | hl
    · rw [frval_snoc (List.getElem?_eq_getElem hl), Nat.pow_succ]
      have h1 := ih (by omega)
      have h2 := h _ (List.getElem_mem hl)
      have h3 := Nat.mul_le_mul_right 256 (Nat.succ_le_of_lt h1)
      rw [Nat.succ_mul] at h3
      omega
    · rw [List.take_of_length_le (by omega)]
      have h1 := ih (by omega)
      rw [List.take_of_length_le hl] at h1
      rw [Nat.pow_succ]
      omega

set_option maxHeartbeats 1000000 in
theorem frvalue_any (l : List Nat) (n c : Nat) (A : Option Addr) (w : World) (h : Rd w w.heap.size A l) (hb : By l) (hl : l.length = n) (hn : n ≤ 4) :
    Calls Tryd.prog 28 #[.slice A n c] w fun e w' => e = .returned (.int .i64 (frval l : Int)) ∧ w = w' := by
  have HL := Lib.hid hl
  have HB := Lib.hid hb
  clear hl hb
  go_enter Tryd.func28, Tryd.ntmps28
  go_wp2_with fail
  go_loop [3, 8] (fun v i => ∃ k v0 : Nat, k ≤ n ∧ i = .int .i64 k ∧ v = .int .i64 (v0 : Int) ∧ Hid (frval (l.take k) = v0)) (fun _ i => n - (intOf i).toNat)
  case atStart => exact ⟨0, 0, Nat.zero_le _, rfl, rfl, Lib.hid (by simp [frval])⟩
  case round =>
    obtain ⟨k, v0, hk, rfl, rfl, hv⟩ := hrel
    by_cases hlt : k < n
    · obtain ⟨b, o, x, rfl, hbb, hx, hc⟩ := h.at_ (k := k) (by rw [HL.out]; exact hlt)
      have hx256 := HB.out.get hx
      have hv3 : v0 < 16777216 := by
        have h1 := frval_lt HB.out k (by omega)
        rw [hv.out] at h1
        exact Nat.lt_of_lt_of_le h1 (Nat.le_trans (Nat.pow_le_pow_right (by omega) (show k ≤ 3 by omega)) (by decide))
      have i1 : (0 : Int) ≤ k := by omega
      have i2 : (k : Int) < n := by omega
      have HS := Lib.hid (show frval (l.take (k + 1)) = v0 * 256 + x by rw [frval_snoc hx, hv.out])
      have hor := fr_vor v0 x (by omega) hx256
      clear hx
      go_wp2_with fail
      go_round
      case rel => exact ⟨k + 1, v0 * 256 + x, by omega, by go_num, by simp, HS⟩
      case measure => simp [intOf]; omega
    · have he : k = n := by omega
      subst he
      have E := hv.out
      rw [List.take_of_length_le (by rw [HL.out]; exact Nat.le_refl _)] at E
      go_wp2_with fail
      go_ret
      exact ⟨rfl, rfl⟩

/-- What a byte's bits say. -/
theorem fr_and (x : Nat) (h : x < 256) : (bits .and .u8 (x : Int) 128 != 0) = decide (128 ≤ x) ∧ (bits .and .u8 (x : Int) 64 != 0) = decide (x / 64 % 2 = 1) ∧ (bits .and .u8 (x : Int) 48 != 0) = decide (15 < x % 64) ∧ (bits .and .u8 (x : Int) 63 != 0) = decide (x % 64 ≠ 0) := by
  have key : ∀ y : Fin 256, ((bits .and .u8 ((y.1 : Nat) : Int) 128 != 0) = decide (128 ≤ y.1)) ∧ ((bits .and .u8 ((y.1 : Nat) : Int) 64 != 0) = decide (y.1 / 64 % 2 = 1)) ∧ ((bits .and .u8 ((y.1 : Nat) : Int) 48 != 0) = decide (15 < y.1 % 64)) ∧ ((bits .and .u8 ((y.1 : Nat) : Int) 63 != 0) = decide (y.1 % 64 ≠ 0)) := by decide +kernel
  exact key ⟨x, h⟩
theorem fr_spare (s : Bool) (x : Nat) (h : x < 256) : (bits .and .u8 (x : Int) (frspare s : Int) != 0) = frbad s x := by
  obtain ⟨_, _, h1, h2⟩ := fr_and x h
  cases s
  · exact h2
  · exact h1

theorem fr_res {fn : Func} {p u : Tmp} {ty : TypeId} (h : fn.results = #[.cell p ty, .tmp u]) (tmps : Array Value) (v : Value) (w : World) (g : Nat) (t : TypeId) (cs : Array Value) (fr : Nat × Nat) (fs : Array Field)
    (hp : tmps.getD p undef = .pointer (some ⟨g, 0, none⟩)) (hv : tmps.getD u undef = v) (hg : w.heap[g]? = some (.cells cs t fr))
    (hu : Tryd.prog.underlying ty = some (.struct fs)) (hi : (Tryd.prog.info? ty).map (·.size) = some cs.size) :
    (results fn tmps).run Tryd.prog w = .ok (.tuple #[.agg cs, v]) w := by
  have hp' : tmps[p]?.getD undef = .pointer (some ⟨g, 0, none⟩) := by simpa using hp
  have hv' : tmps[u]?.getD undef = v := by simpa using hv
  rw [results_cell_tmp h]
  simp [hp', hv', asAddr, run_loadVar_row w g t ty cs fr _ hg hu rfl hi, Result.andThen]

theorem Rd.cutF {w : World} {B b o : Nat} {l : List Nat} {k c : Nat} (h : Rd w B (some ⟨b, o, none⟩) l) (hk : k ≤ l.length) (hc : l.length ≤ c) : Rd w B (if c = k then some ⟨b, o, none⟩ else some ⟨b, o + k, none⟩) (l.drop k) := by
  intro hl
  rw [List.length_drop] at hl
  rw [if_neg (by omega)]
  obtain ⟨b', off, e, hb, hcell⟩ := h (by omega)
  injection e with e
  injection e with e1 e2
  subst e1; subst e2
  refine ⟨b, o + k, rfl, hb, fun j x hx => ?_⟩
  rw [Nat.add_assoc]
  exact hcell (k + j) x (by rw [← List.getElem?_drop]; exact hx)

/-- A walk goes on in a world of which a few things alone are known. -/
theorem at_worldF {F : Act → World → Prop} {x : Act} {W : World} (R : World → Prop) (C : R W) (h : ∀ W', R W' → F x W') : F x W := h W C

theorem frput_below {w W : World} {g : Nat} (h : Below w.heap.size w W) (hg : w.heap.size ≤ g) (a b c d : Value) : Below w.heap.size w ((((W.setCell ⟨g, 0, none⟩ a).setCell ⟨g, 1, none⟩ b).setCell ⟨g, 2, none⟩ c).setCell ⟨g, 3, none⟩ d) :=
  (((h.setCell (p := ⟨g, 0, none⟩) hg _).setCell (p := ⟨g, 1, none⟩) hg _).setCell (p := ⟨g, 2, none⟩) hg _).setCell (p := ⟨g, 3, none⟩) hg _

/-- What Get knows: the answer's block g, the shape's block g2, the octets. -/
structure FrG (w W : World) (g g2 : Nat) (z m k : Nat) (A : Option Addr) (l : List Nat) : Prop where
  bel : Below w.heap.size w W
  low : w.heap.size ≤ g
  box : FrX W g 29 false false 0 none 0 0
  shp : W.heap[g2]? = some (.cells #[.int .i64 (z : Int), .int .i64 (m : Int), .int .u8 (k : Int)] 59 (0, 0))
  rd : Rd W W.heap.size A l
theorem FrG.step {w W W' : World} {g g2 z m k : Nat} {A : Option Addr} {l : List Nat} (h : FrG w W g g2 z m k A l) (hb : Below W.heap.size W W') : FrG w W' g g2 z m k A l :=
  ⟨h.bel.trans (hb.mono h.bel.size), h.low, h.box.on hb, (hb.block g2 (Array.getElem?_eq_some_iff.1 h.shp).1).trans h.shp, h.rd.on hb⟩
theorem FrG.cells {w W : World} {g g2 z m k : Nat} {A : Option Addr} {l : List Nat} (h : FrG w W g g2 z m k A l) : W.cell? ⟨g2, 0, none⟩ = some (.int .i64 (z : Int)) ∧ W.cell? ⟨g2, 1, none⟩ = some (.int .i64 (m : Int)) ∧ W.cell? ⟨g2, 2, none⟩ = some (.int .u8 (k : Int)) := by
  refine ⟨?_, ?_, ?_⟩
  · rw [cell_of_row W g2 0 _ _ _ h.shp]; rfl
  · rw [cell_of_row W g2 1 _ _ _ h.shp]; rfl
  · rw [cell_of_row W g2 2 _ _ _ h.shp]; rfl

theorem put4_offs (W : World) (g : Nat) (a b c d : Value) : Offs (fun i => i = g) W ((((W.setCell ⟨g, 0, none⟩ a).setCell ⟨g, 1, none⟩ b).setCell ⟨g, 2, none⟩ c).setCell ⟨g, 3, none⟩ d) :=
  (((Offs.set (X := fun i => i = g) W g 0 a rfl).trans (Offs.set (X := fun i => i = g) _ g 1 b rfl) (fun _ h => h) (fun _ _ h => h)).trans (Offs.set (X := fun i => i = g) _ g 2 c rfl) (fun _ h => h) (fun _ _ h => h)).trans (Offs.set (X := fun i => i = g) _ g 3 d rfl) (fun _ h => h) (fun _ _ h => h)
theorem put4_keeps (W : World) (g : Nat) (a b c d : Value) : Keeps (fun i => i ≠ g) W ((((W.setCell ⟨g, 0, none⟩ a).setCell ⟨g, 1, none⟩ b).setCell ⟨g, 2, none⟩ c).setCell ⟨g, 3, none⟩ d) := Keeps.of_offs (put4_offs W g a b c d) (fun _ h => h)
theorem FrG.put {w W : World} {g g2 z m k : Nat} {A : Option Addr} {l : List Nat} (h : FrG w W g g2 z m k A l) {bb o : Nat} {x : Int} (hc : W.cell? ⟨bb, o, none⟩ = some (.int .u8 x)) (a b c d : Value) :
    (((((W.setCell ⟨g, 0, none⟩ a).setCell ⟨g, 1, none⟩ b).setCell ⟨g, 2, none⟩ c).setCell ⟨g, 3, none⟩ d).cell? ⟨g2, 0, none⟩ = some (.int .i64 (z : Int)) ∧ ((((W.setCell ⟨g, 0, none⟩ a).setCell ⟨g, 1, none⟩ b).setCell ⟨g, 2, none⟩ c).setCell ⟨g, 3, none⟩ d).cell? ⟨g2, 1, none⟩ = some (.int .i64 (m : Int)) ∧ ((((W.setCell ⟨g, 0, none⟩ a).setCell ⟨g, 1, none⟩ b).setCell ⟨g, 2, none⟩ c).setCell ⟨g, 3, none⟩ d).cell? ⟨g2, 2, none⟩ = some (.int .u8 (k : Int))) ∧
    ((((W.setCell ⟨g, 0, none⟩ a).setCell ⟨g, 1, none⟩ b).setCell ⟨g, 2, none⟩ c).setCell ⟨g, 3, none⟩ d).cell? ⟨bb, o, none⟩ = some (.int .u8 x) := by
  have hK := put4_keeps W g a b c d
  have n1 : g2 ≠ g := by
    intro e
    subst e
    have := h.box.symm.trans h.shp
    injection this with this
    injection this with _ this
    exact absurd this (by decide)
  have n2 : bb ≠ g := by
    intro e
    subst e
    rw [cell_of_row W bb o _ _ _ h.box] at hc
    match o, hc with
    | 0, hc => cases hc
    | 1, hc => cases hc
    | 2, hc => cases hc
    | 3, hc => cases hc
    | o + 4, hc => simp at hc
  obtain ⟨h0, h1, h2⟩ := h.cells
  exact ⟨⟨(hK.cell (block_lt h0) n1 _).trans h0, (hK.cell (block_lt h1) n1 _).trans h1, (hK.cell (block_lt h2) n1 _).trans h2⟩, (hK.cell (block_lt hc) n2 _).trans hc⟩

set_option maxHeartbeats 2000000 in
theorem frget_any (s : Bool) (l : List Nat) (p : Pc) (k : Nat) (hg : frget s l = (p, k)) (m : Nat) (hm : p.d.length = m) (n c : Nat) (A : Option Addr) (w : World) (h : Rd w w.heap.size A l) (hb : By l) (hl : l.length = n) (hn : n ≤ 274877906944) (hc : n ≤ c) (hT : TabF w) :
    Calls Tryd.prog 11 #[.bool s, .slice A n c] w fun r w' => ∃ A' c', r = .returned (.tuple #[fV p.b p.e p.n A' m c', .int .i64 (k : Int)]) ∧ New w w' A' c' m p.d := by
  obtain ⟨w1, hw1⟩ : ∃ w1, w1 = w.alloc (.cells #[.bool false, .bool false, .int .i64 0, .slice none 0 0] 29) := ⟨_, rfl⟩
  have hb1 : Below w.heap.size w w1 := by rw [hw1]; exact (Below.refl _ _).alloc (Nat.le_refl _) _
  have hx1 : FrX w1 w.heap.size 29 false false 0 none 0 0 := by rw [hw1]; exact FrX.new _ _ _ _ _ _ _ _
  obtain ⟨z, hz⟩ : ∃ z, Hid (frsz s = z) := ⟨_, Lib.hid rfl⟩
  have hz4 : z ≤ 4 := by rw [← hz.out]; cases s <;> simp [frsz]
  have hz0 : 0 < z := by rw [← hz.out]; cases s <;> simp [frsz]
  obtain ⟨y, hy⟩ : ∃ y, Hid (frmod s = y) := ⟨_, Lib.hid rfl⟩
  have hy0 : (0 : Int) < (y : Int) := by rw [← hy.out]; have := frmod_pos s; omega
  obtain ⟨u, hu⟩ : ∃ u, Hid (frspare s = u) := ⟨_, Lib.hid rfl⟩
  have hpick := frpick_any s
  rw [hz.out, hy.out, hu.out] at hpick
  have HW1 := Lib.hid hw1
  have B1 := Lib.hid hb1
  have X1 := Lib.hid hx1
  have T1 := Lib.hid (hT.below hb1)
  have R1 := Lib.hid (h.on hb1)
  have HG := Lib.hid hg
  have HL := Lib.hid hl
  have HB := Lib.hid hb
  have HM := Lib.hid hm
  have HC := Lib.hid hc
  have HN := Lib.hid hn
  clear hw1 hb1 hx1 hT h hg hl hb hm hc hn
  have START : ∀ (w2 : World), Below w1.heap.size w1 w2 → FrG w (w2.alloc (.cells #[.int .i64 (z : Int), .int .i64 (y : Int), .int .u8 (u : Int)] 59)) w.heap.size w2.heap.size z y u A l := by
    intro w2 hb2
    have hb3 := hb2.alloc hb2.size (.cells #[.int .i64 (z : Int), .int .i64 (y : Int), .int .u8 (u : Int)] 59)
    exact ⟨B1.out.trans (hb3.mono B1.out.size), Nat.le_refl _, X1.out.on hb3, heap_alloc_new _ _, R1.out.on hb3⟩
  have ST := Lib.hid START
  clear START R1
  go_enter Tryd.func11, Tryd.ntmps11
  go_upto_region 2 with (go_at_call 27; rw [← HW1.out]; (with_reducible refine (hpick _ T1.out).mono ?_); rintro r w2 ⟨rfl, hb2⟩; replace ST := Lib.hid (ST.out w2 hb2); clear hb2)
  with_reducible refine at_worldF (fun W => Hid (FrG w W w.heap.size w2.heap.size z y u A l)) ST ?_
  clear ST
  generalize w2.heap.size = g2
  rintro w3 C
  obtain ⟨e0, e1, e2⟩ := C.out.cells
  have p0 := C.out.box.c0
  have p1 := C.out.box.c1
  have p2 := C.out.box.c2
  have p3 := C.out.box.c3
  have q0 := C.out.box.fz 0
  have q1 := C.out.box.fz 1
  have q2 := C.out.box.fz 2
  have q3 := C.out.box.fz 3
  by_cases c1 : n < z
  · have j1 : (n : Int) < z := by omega
    have E := Lib.hid (show frget s l = (pc0, 2) by unfold frget; rw [HL.out, hz.out, if_pos c1])
    rw [HG.out] at E
    obtain ⟨rfl, rfl⟩ := Prod.mk.inj E.out
    have hm0 : m = 0 := by rw [← HM.out]; rfl
    subst hm0
    clear c1
    go_wp2_with fail
    refine bodyPost_ret (v := .tuple #[fV false false 0 none 0 0, .int .i64 2]) ?_ rfl ⟨none, 0, rfl, ⟨rfl, ⟨rfl, .inl ⟨rfl, rfl⟩⟩, Rd.nil, ?_⟩⟩
    · exact fr_res rfl _ _ _ w.heap.size 29 _ _ _ rfl rfl (C.out.box.put false false 0 none 0 0) Tryd.underlying29 (by kernel_rfl)
    · exact frput_below C.out.bel (Nat.le_refl _) _ _ _ _
  · have hz2 : z ≤ n := by omega
    obtain ⟨bb, o, x, rfl, hbb, hx, hcx⟩ := C.out.rd.at_ (k := 0) (by rw [HL.out]; omega)
    have hx256 := HB.out.get hx
    have hhd : l.headD 0 = x := by cases l with
      | nil => simp at hx
      | cons a t => simpa using hx
    have j1 : ¬ (n : Int) < z := by omega
    have j2 : 0 < n := by omega
    rw [Nat.add_zero] at hcx
    cases hbad : frbad s x
    · have E := Lib.hid (show frget s l = (⟨decide (128 ≤ x), decide (x / 64 % 2 = 1), (frn s l : Int), l.drop z⟩, 0) by unfold frget; rw [HL.out, hz.out, if_neg c1, hhd, hbad]; rfl)
      rw [HG.out] at E
      obtain ⟨rfl, rfl⟩ := Prod.mk.inj E.out
      have hsp := fr_spare s x hx256
      rw [hu.out, hbad] at hsp
      have hval : ((frval (l.take z) : Nat) : Int).tmod (y : Int) = ((frn s l : Nat) : Int) := by
        rw [← hz.out, ← hy.out, ← Int.ofNat_tmod, frval_n s HB.out (by rw [HL.out, hz.out]; exact hz2) (by rw [hhd]; exact hbad)]
      obtain ⟨v1, hv1⟩ : ∃ v1, Hid (frval (l.take z) = v1) := ⟨_, Lib.hid rfl⟩
      obtain ⟨v2, hv2⟩ : ∃ v2, Hid (frn s l = v2) := ⟨_, Lib.hid rfl⟩
      rw [hv1.out, hv2.out] at hval
      have hy1 : ¬ (y : Int) = 0 := by omega
      have hy2 : ((y : Int) == 0) = false := by simpa using hy1
      have hy4 : ¬ y = 0 := by omega
      obtain ⟨a1, a2, _, _⟩ := fr_and x hx256
      have hmm : m = n - z := by have := HM.out; rw [← this]; show (l.drop z).length = _; rw [List.length_drop, HL.out]
      have HMM := Lib.hid hmm
      have HTk := Lib.hid (show (l.take z).length = z by rw [List.length_take, HL.out]; omega)
      have HDr := Lib.hid (show (l.drop z).length = n - z by rw [List.length_drop, HL.out])
      have hzc : z ≤ c := by have := HC.out; omega
      have hnc := HC.out
      have HN2 := Lib.hid (show n - z ≤ 274877906944 by have := HN.out; omega)
      have HZL := Lib.hid (show z ≤ l.length by rw [HL.out]; exact hz2)
      have HLC := Lib.hid (show l.length ≤ c by rw [HL.out]; exact hnc)
      clear c1 hx hhd hbad hmm
      go_wp2_with fail
      go_quiet (fail)
      all_goals go_upto_region 6 with fail
      with_reducible refine at_worldF (fun W => Hid (FrG w W w.heap.size g2 z y u (some ⟨bb, o, none⟩) l) ∧ W.cell? ⟨bb, o, none⟩ = some (.int .u8 (x : Int))) ⟨Lib.hid (C.out.step (below_drewN (Below.refl _ _) _)), ((below_drewN (Below.refl w3.heap.size w3) _).cell (p := ⟨bb, o, none⟩) hbb).trans hcx⟩ ?_
      clear C hcx p0 p1 p2 p3 q0 q1 q2 q3 e0 e1 e2 hbb w3
      rintro w3 ⟨C, hcx⟩
      have hbb := block_lt hcx
      replace C := Lib.hid (C.out.step ((Below.refl _ _).drew))
      replace hcx : w3.drew.cell? ⟨bb, o, none⟩ = some (.int .u8 (x : Int)) := hcx
      go_region_held3 (fun W => (W.cell? ⟨g2, 0, none⟩ = some (.int .i64 (z : Int)) ∧ W.cell? ⟨g2, 1, none⟩ = some (.int .i64 (y : Int)) ∧ W.cell? ⟨g2, 2, none⟩ = some (.int .u8 (u : Int))) ∧ W.cell? ⟨bb, o, none⟩ = some (.int .u8 (x : Int))) (first | with_reducible exact ⟨C.out.cells, hcx⟩ | with_reducible exact C.out.put hcx _ _ _ _) (first
        | (go_at_call 28; (with_reducible refine (frvalue_any (l.take z) z c _ _ (C.out.rd.take z) (HB.out.take z) HTk.out hz4).mono ?_); rintro r w4 ⟨rfl, rfl⟩; rw [hv1.out]; dsimp only)
        | (go_at_call 29; (with_reducible refine (clone_any (l.drop z) (n - z) _ _ _ (C.out.rd.cutF HZL.out HLC.out) HDr.out HN2.out).mono ?_); rintro r w5 ⟨A5, c5, rfl, HN5⟩; replace hcx := (HN5.2.2.2.cell (p := ⟨bb, o, none⟩) hbb).trans hcx; have L5 := C.out.bel.size; replace C := Lib.hid (C.out.step HN5.2.2.2); have R5 := Lib.hid (own_lo HN5.2.1 L5); clear HN5 L5; replace hbb := block_lt hcx; have p0 := C.out.box.c0; have p1 := C.out.box.c1; have p2 := C.out.box.c2; have p3 := C.out.box.c3; have q0 := C.out.box.fz 0; have q1 := C.out.box.fz 1; have q2 := C.out.box.fz 2; have q3 := C.out.box.fz 3; dsimp only))
      generalize (if c = z then (some (⟨bb, o, none⟩ : Addr)) else some ⟨bb, o + z, none⟩) = A6
      go_wp2_with fail
      have hmm := HMM.out
      subst hmm
      refine bodyPost_ret (v := .tuple #[fV (decide (128 ≤ x)) (decide (x / 64 % 2 = 1)) (v2 : Int) A5 (n - z) c5, .int .i64 0]) ?_ rfl ⟨A5, c5, ?_, ?_⟩
      · exact fr_res rfl _ _ _ w.heap.size 29 _ _ _ rfl rfl (C.out.box.put _ _ _ A5 (n - z) c5) Tryd.underlying29 (by kernel_rfl)
      · show _ = Ending.returned (.tuple #[fV (decide (128 ≤ x)) (decide (x / 64 % 2 = 1)) ((frn s l : Nat) : Int) A5 (n - z) c5, .int .i64 ((0 : Nat) : Int)])
        rw [hv2.out]
        rfl
      · have hne : ∀ i, (Value.slice A5 (n - z) c5).ownBlock = some i → ¬ i = w.heap.size := fun i hi e => by
          obtain ⟨cur, hc⟩ := own_blk R5.out hi
          rw [e] at hc
          have := hc.symm.trans C.out.box
          injection this with this
          injection this with _ this
          exact absurd this (by decide)
        obtain ⟨A', c', e', hN⟩ := New.mk (own_off R5.out (put4_offs w5 w.heap.size (.bool (decide (128 ≤ x))) (.bool (decide (x / 64 % 2 = 1))) (.int .i64 (v2 : Int)) (.slice A5 (n - z) c5)) hne) (frput_below C.out.bel (Nat.le_refl _) _ _ _ _)
        injection e' with e1 e2 e3
        subst e1; subst e3
        exact hN
    · have E := Lib.hid (show frget s l = (pc0, 4) by unfold frget; rw [HL.out, hz.out, if_neg c1, hhd, if_pos hbad])
      rw [HG.out] at E
      obtain ⟨rfl, rfl⟩ := Prod.mk.inj E.out
      have hm0 : m = 0 := by rw [← HM.out]; rfl
      subst hm0
      have hsp := fr_spare s x hx256
      rw [hu.out, hbad] at hsp
      clear c1 hx hhd hbad
      go_wp2_with fail
      go_quiet (fail)
      all_goals go_wp2_with fail
      refine bodyPost_ret (v := .tuple #[fV false false 0 none 0 0, .int .i64 4]) ?_ rfl ⟨none, 0, rfl, ⟨rfl, ⟨rfl, .inl ⟨rfl, rfl⟩⟩, Rd.nil, ?_⟩⟩
      · exact fr_res rfl _ _ _ w.heap.size 29 _ _ _ rfl rfl ((C.out.step (below_drewN (Below.refl _ _) _)).box.put false false 0 none 0 0) Tryd.underlying29 (by kernel_rfl)
      · exact frput_below (C.out.step (below_drewN (Below.refl _ _) _)).bel (Nat.le_refl _) _ _ _ _
end Go.Proofs.YtdeabomcmbgepaaDoor
