
/-
  The document's own answers of layer 5: what a segment tells, the segments of a stream, what all of them tell. No condition beyond: streams of at most 2^37 octets, most at most 2^40.
-/
import Derived.Test.YtdpkccbcfedhbaaAsyP
namespace Go.Proofs.Ytdpkccbcfedhbaa
open Go.RowKit

theorem rseg_info : (Try.prog.info? 52).map (fun i => (i.zero, i.size, i.bytes)) = some (some (.agg #[.int .i64 0, .slice none 0 0]), 2, 32) := by kernel_rfl
theorem rows_info : (Try.prog.info? 28).map (fun i => (i.zero, i.size, i.bytes)) = some (some (.slice none 0 0), 1, 24) := by kernel_rfl

/-- What Tell answers. -/
def TellR (m most : Nat) (raw : List Nat) (w : World) (e : Ending) (w' : World) : Prop :=
  Below w.heap.size w w' ∧ ((tellP m most raw = [] ∧ e = .returned (.tuple #[.agg #[.int .i64 0, .slice none 0 0], .bool false])) ∨
    ∃ (x : Sg) (A : Option Addr) (c : Nat), tellP m most raw = [x] ∧ e = .returned (.tuple #[.agg #[.int .i64 (x.1 : Nat), .slice A x.2.length c], .bool true]) ∧ w'.ownsRow w.heap.size 5 1 (.slice A x.2.length c) x.2.length (bvs x.2))

set_option maxHeartbeats 2000000 in
theorem rtell_any (m most : Nat) (hm : m < 4294967296) (l : List Nat) (n : Nat) (A : Option Addr) (c : Nat) (w : World) (h : Rd w w.heap.size A l) (hb : By l) (hl : l.length = n) (hn : n ≤ 274877906944) :
    Calls Try.prog 22 #[.int .u32 (m : Int), .int .i64 (most : Int), .slice A n c] w (TellR m most l w) := by
  have HL := Lib.hid hl
  clear hl
  have hb0 := (Below.refl w.heap.size w).alloc (Nat.le_refl _) (.cells #[.int .i64 0, .slice none 0 0] 52)
  have cellsAt : ∀ w' : World, Below (w.alloc (.cells #[.int .i64 0, .slice none 0 0] 52)).heap.size (w.alloc (.cells #[.int .i64 0, .slice none 0 0] 52)) w' →
      w.heap.size < w'.heap.size ∧ w'.cell? ⟨w.heap.size, 0, none⟩ = some (.int .i64 0) ∧ w'.cell? ⟨w.heap.size, 1, none⟩ = some (.slice none 0 0) ∧ w'.frozen? ⟨w.heap.size, 0, none⟩ = false ∧ w'.frozen? ⟨w.heap.size, 1, none⟩ = false := by
    intro w' hb'
    have hv : w'.heap[w.heap.size]? = some (.cells #[.int .i64 0, .slice none 0 0] 52 (0, 0)) := (hb'.block _ (by simp)).trans (heap_alloc_new w _)
    refine ⟨by have := hb'.size; simp at this; omega, ?_, ?_, frozen_of_row w' _ 0 _ _ hv, frozen_of_row w' _ 1 _ _ hv⟩
    · rw [cell_of_row w' _ 0 _ _ _ hv]; rfl
    · rw [cell_of_row w' _ 1 _ _ _ hv]; rfl
  have CA := Lib.hid cellsAt
  clear cellsAt
  have fin : ∀ (k : Nat) (v : Value) (w' : World), Below (w.alloc (.cells #[.int .i64 0, .slice none 0 0] 52)).heap.size (w.alloc (.cells #[.int .i64 0, .slice none 0 0] 52)) w' →
      Below w.heap.size w (((w'.setCell ⟨w.heap.size, 0, none⟩ (.int .i64 (k : Nat))).setCell ⟨w.heap.size, 1, none⟩ v)) := fun k v w' hb' =>
    ((hb0.trans (hb'.mono hb0.size)).setCell (p := ⟨w.heap.size, 0, none⟩) (Nat.le_refl _) _).setCell (p := ⟨w.heap.size, 1, none⟩) (Nat.le_refl _) _
  have FIN := Lib.hid fin
  clear fin
  have h0 := (h.below hb0).more hb0.size
  have HB0 := Lib.hid hb0
  clear hb0
  go_enter Try.func22, Try.ntmps22
  go_wp2_with fail
  refine (left_any m hm l n A c _ h0 hb HL.out hn).mono ?_
  rintro e w2 ⟨A2, c2, k2, rfl, hk2, hl2, -, hr2, hb2⟩
  by_cases hz : k2 = 0
  · subst hz
    have he : leftB m l = [] := List.eq_nil_of_length_eq_zero hl2
    have E := Lib.hid (show tellP m most l = [] by unfold tellP; rw [if_pos he])
    obtain ⟨s2, q1, q2, q3, q4⟩ := CA.out _ hb2
    have HB2 := Lib.hid hb2
    clear he hl2 hb2 h0
    go_wp2
    refine bodyPost_ret (v := .tuple #[.agg #[.int .i64 0, .slice none 0 0], .bool false]) ?_ rfl ⟨?_, .inl ⟨E.out, rfl⟩⟩
    · rw [results_cell_tmp rfl]; go_simp
    · exact FIN.out 0 _ w2 HB2.out
  · have hz' : ((k2 : Int) == 0) = false := by simp; omega
    have hne : leftB m l ≠ [] := by intro h1; rw [h1] at hl2; exact hz hl2.symm
    have HNE := Lib.hid hne
    have HL2 := Lib.hid hl2
    have HB2 := Lib.hid hb2
    clear hz hne hl2 hb2 h0
    go_wp2_with fail
    refine (rread_any (leftB m l) k2 A2 c2 w2 hr2 (leftB_by hb) HL2.out (by omega)).mono ?_
    rintro e w3 ⟨A3, c3, k3, rfl, hk3, hl3, ho3, -, hb3⟩
    have hb3' := HB2.out.trans (hb3.mono HB2.out.size)
    obtain ⟨s3, q1, q2, q3, q4⟩ := CA.out _ hb3'
    have HB3 := Lib.hid hb3'
    have HB23 := Lib.hid hb3
    clear hb3' hb3
    cases hq : (rdF (leftB m l)).2
    · have HQ := Lib.hid hq
      clear hq
      by_cases hmost : most < k3
      · have E := Lib.hid (show tellP m most l = [(4, [])] by unfold tellP; rw [if_neg HNE.out, HQ.out, if_neg (by decide), if_pos (by rw [hl3]; exact hmost)])
        have hm' : (most : Int) < (k3 : Int) := by omega
        clear hl3 ho3
        go_wp2
        refine bodyPost_ret (v := .tuple #[.agg #[.int .i64 4, .slice none 0 0], .bool true]) ?_ rfl ⟨?_, .inr ⟨(4, []), none, 0, E.out, rfl, World.ownsRow_nil _ _ _ _⟩⟩
        · rw [results_cell_tmp rfl]; go_simp
        · exact FIN.out 4 _ w3 HB3.out
      · subst hl3
        have E := Lib.hid (show tellP m most l = [(0, (rdF (leftB m l)).1)] by unfold tellP; rw [if_neg HNE.out, HQ.out, if_neg (by decide), if_neg hmost])
        have hm' : ¬ (most : Int) < ((rdF (leftB m l)).1.length : Int) := by omega
        have HO := Lib.hid ho3
        clear ho3
        go_wp2
        refine bodyPost_ret (v := .tuple #[.agg #[.int .i64 0, .slice A3 (rdF (leftB m l)).1.length c3], .bool true]) ?_ rfl ⟨?_, .inr ⟨(0, (rdF (leftB m l)).1), A3, c3, E.out, rfl, ?_⟩⟩
        · rw [results_cell_tmp rfl]; go_simp
        · exact FIN.out 0 _ w3 HB3.out
        · have hs : w.heap.size < w2.heap.size := by have := HB2.out.size; simp at this; omega
          have ho := Offs.trans (Offs.set (X := fun i => i = w.heap.size) w3 w.heap.size 0 (.int .i64 0) rfl) (Offs.set (X := fun i => i = w.heap.size) _ w.heap.size 1 (.slice A3 (rdF (leftB m l)).1.length c3) rfl) (Z := fun i => i = w.heap.size) (fun _ h => h) (fun _ _ h => h)
          exact own_lo (own_off HO.out ho (fun g hg e => by have := (HO.out.lt g hg).1; omega)) (by omega)
    · have E := Lib.hid (show tellP m most l = [(2, [])] by unfold tellP; rw [if_neg HNE.out, hq]; rfl)
      clear hq ho3
      go_wp2
      refine bodyPost_ret (v := .tuple #[.agg #[.int .i64 2, .slice none 0 0], .bool true]) ?_ rfl ⟨?_, .inr ⟨(2, []), none, 0, E.out, rfl, World.ownsRow_nil _ _ _ _⟩⟩
      · rw [results_cell_tmp rfl]; go_simp
      · exact FIN.out 2 _ w3 HB3.out

theorem Rd.cut {w : World} {B : Nat} {A : Option Addr} {l : List Nat} {k c : Nat} (h : Rd w B A l) (hk : k ≤ l.length) (hc : l.length ≤ c) : Rd w B (if c = k then A else A.map (·.add k)) (l.drop k) := by
  intro hl
  rw [List.length_drop] at hl
  rw [if_neg (by omega)]
  obtain ⟨b, off, rfl, hb, hcell⟩ := h (by omega)
  refine ⟨b, off + k, ?_, hb, fun j x hx => ?_⟩
  · by_cases h0 : k = 0
    · subst h0; simp [Addr.add]
    · simp [Addr.add, h0]
  · rw [Nat.add_assoc]
    exact hcell (k + j) x (by rw [← List.getElem?_drop]; exact hx)

theorem Rd.dropAt {w : World} {B b o : Nat} {l : List Nat} (h : Rd w B (some ⟨b, o, none⟩) l) (f : Nat) : Rd w B (some ⟨b, o + f, none⟩) (l.drop f) := by
  intro hl
  rw [List.length_drop] at hl
  obtain ⟨b', off, e, hb, hc⟩ := h (by omega)
  injection e with e
  injection e with e1 e2 _
  subst e1; subst e2
  refine ⟨_, _, rfl, hb, fun j x hx => ?_⟩
  rw [Nat.add_assoc]
  exact hc (f + j) x (by rw [← List.getElem?_drop]; exact hx)
/-- A row of lists of bytes that is the call's own; the lists lie below block B. -/
def Pr (B0 B : Nat) (w : World) (v : Value) (ls : List (List Nat)) : Prop :=
  ∃ vs : List (List Nat × Value), vs.map (·.1) = ls ∧ w.ownsRow B0 28 1 v ls.length (vs.map (·.2)) ∧ ∀ x ∈ vs, ∃ A c, x.2 = .slice A x.1.length c ∧ Rd w B A x.1
theorem Pr.read {B0 B : Nat} {w : World} {A : Option Addr} {n c : Nat} {ls : List (List Nat)} (h : Pr B0 B w (.slice A n c) ls) (hB : B ≤ w.heap.size) : Rr w A ls := by
  intro hl
  obtain ⟨vs, e, hown, hd⟩ := h
  rcases hown.2 with ⟨_, h0⟩ | ⟨g, cap, cur, hv, _, _, _⟩
  · omega
  · injection hv with hA hn hc
    subst hA; subst hc
    rw [hn] at hown
    refine ⟨g, 0, rfl, fun k x hx => ?_⟩
    rw [← e, List.getElem?_map] at hx
    obtain ⟨y, hy, rfl⟩ := Option.map_eq_some_iff.1 hx
    have hk : k < vs.length := (List.getElem?_eq_some_iff.1 hy).1
    have hlen : ls.length = vs.length := by rw [← e, List.length_map]
    obtain ⟨Ak, ck, hyk, hr⟩ := hd y (List.mem_of_getElem? hy)
    refine ⟨Ak, ck, ?_, hr.more hB⟩
    have := hown.cellAt k (by omega)
    rw [Nat.zero_add, this, List.getElem?_map, hy, ← hyk]
    rfl
theorem Pr.on {B0 B : Nat} {w w' : World} {v : Value} {ls : List (List Nat)} (h : Pr B0 B w v ls) (hB : B ≤ w.heap.size) (hb : Below w.heap.size w w') : Pr B0 B w' v ls := by
  obtain ⟨vs, e, hown, hd⟩ := h
  refine ⟨vs, e, own_off (X := fun _ => False) hown (.of_below hb) (fun _ _ => id), fun x hx => ?_⟩
  obtain ⟨A, c, h1, h2⟩ := hd x hx
  exact ⟨A, c, h1, h2.below (hb.mono hB)⟩
theorem Pr.off {B0 B : Nat} {X : Nat → Prop} {w w' : World} {v : Value} {ls : List (List Nat)} (h : Pr B0 B w v ls) (hB : B ≤ w.heap.size) (ho : Offs X w w') (hv : ∀ g, v.ownBlock = some g → ¬ X g) (hX : ∀ k, k < B → ¬ X k) : Pr B0 B w' v ls := by
  obtain ⟨vs, e, hown, hd⟩ := h
  refine ⟨vs, e, own_off hown ho hv, fun x hx => ?_⟩
  obtain ⟨A, c, h1, h2⟩ := hd x hx
  exact ⟨A, c, h1, h2.below (ho.below hX hB)⟩
theorem Pr.lo {B0 B1 B : Nat} {w : World} {v : Value} {ls : List (List Nat)} (h : Pr B0 B w v ls) (hB : B1 ≤ B0) : Pr B1 B w v ls := by
  obtain ⟨vs, e, hown, hd⟩ := h
  exact ⟨vs, e, own_lo hown hB, hd⟩
theorem Pr.push {B0 B : Nat} {w1 w2 w3 : World} {v v3 : Value} {x : List Nat} {A : Option Addr} {c : Nat} {vs : List (List Nat × Value)} (hds : ∀ y ∈ vs, ∃ A c, y.2 = .slice A y.1.length c ∧ Rd w1 B A y.1) (hr : Rd w1 B A x) (hv : ∀ g, v.ownBlock = some g → B ≤ g) (hB : B ≤ w1.heap.size)
    (hb : Below w1.heap.size w1 w2) (hg : w2.grownBy w3 v.ownBlock) (hown : w3.ownsRow B0 28 1 v3 (vs.length + 1) (vs.map (·.2) ++ [.slice A x.length c])) : Pr B0 B w3 v3 (vs.map (·.1) ++ [x]) := by
  have hbw : Below B w1 w3 := (hb.mono hB).grown hg (Nat.le_trans hB hb.size) hv
  refine ⟨vs ++ [(x, .slice A x.length c)], by rw [List.map_append]; rfl, ?_, ?_⟩
  · rw [List.length_append, List.length_map, List.map_append]; exact hown
  · intro y hy
    rcases List.mem_append.1 hy with hy | hy
    · obtain ⟨A', c', h1, h2⟩ := hds y hy
      exact ⟨A', c', h1, h2.below hbw⟩
    · rw [List.mem_singleton] at hy
      subst hy
      exact ⟨A, c, rfl, hr.below hbw⟩
theorem parts_take {l : List Nat} {k x : Nat} (h : l[k]? = some x) : partsF (l.take (k + 1)) = if x = 126 then ((partsF (l.take k)).1 ++ [(partsF (l.take k)).2], []) else ((partsF (l.take k)).1, (partsF (l.take k)).2 ++ [x]) := by
  rw [List.take_add_one, h, Option.toList_some, partsF_snoc]
theorem parts_len (l : List Nat) : (partsF l).1.length ≤ l.length := by
  have key : ∀ k, (partsF (l.take k)).1.length ≤ k := by
    intro k
    induction k with
    | zero => exact Nat.le_refl _
    | succ k ih =>
      rcases Nat.lt_or_ge k l.length with h | h
      · rw [parts_take (List.getElem?_eq_getElem h)]
        split
        · rw [List.length_append]; simp; omega
        · show (partsF (l.take k)).1.length ≤ _; omega
      · rw [List.take_of_length_le (by omega)] at ih ⊢
        omega
  have := key l.length
  rwa [List.take_of_length_le (Nat.le_refl _)] at this

set_option maxHeartbeats 2000000 in
theorem parts_any (l : List Nat) (n : Nat) (A : Option Addr) (c : Nat) (w : World) (B : Nat) (hB : B ≤ w.heap.size) (h : Rd w B A l) (hl : l.length = n) (hnc : n ≤ c) (hn : n ≤ 137438953472) :
    Calls Try.prog 21 #[.slice A n c] w fun e w' => ∃ v v2, e = .returned (.tuple #[v, v2]) ∧ Pr w.heap.size B w' v (partsF l).1 ∧ Below w.heap.size w w' := by
  obtain ⟨i0, hi, hz0, hz1, hz2⟩ := info_parts rows_info
  have HL := Lib.hid hl
  clear hl
  go_enter Try.func21, Try.ntmps21
  go_wp2_with fail
  have hb1 := (Below.refl w.heap.size w).alloc (Nat.le_refl _) (.cells #[] 28)
  have hown1 : (w.alloc (.cells #[] 28)).ownsRow w.heap.size 28 1 (.slice (some ⟨w.heap.size, 0, none⟩) 0 0) 0 [] := World.ownsRow_lit w #[] 0 (Nat.le_refl _) (by unfold maxLen; omega) rfl
  go_loopw [4, 5, 6] (fun v s i wr => ∃ k f : Nat, k ≤ n ∧ f ≤ k ∧ i = .int .i64 k ∧ s = .int .i64 f ∧ Hid ((partsF (l.take k)).2 = (l.take k).drop f) ∧ Pr w.heap.size B wr v (partsF (l.take k)).1 ∧ Below w.heap.size w wr) (fun _ _ i _ => n - (intOf i).toNat)
  case atStart => exact ⟨0, 0, Nat.zero_le _, Nat.le_refl _, rfl, rfl, Lib.hid rfl, ⟨[], rfl, hown1, fun _ h => by cases h⟩, hb1⟩
  case round =>
    obtain ⟨k, f, hk, hf, rfl, rfl, hpf, hpr, hbel⟩ := hrel
    clear hown1 hb1
    by_cases hlt : k < n
    · obtain ⟨ba, oa, x, rfl, _, hx, hcx⟩ := (h.below (hbel.mono hB)).at_ (k := k) (by rw [HL.out]; exact hlt)
      have HX := Lib.hid hx
      clear hx
      have i1 : (0 : Int) ≤ k := by omega
      have i2 : (k : Int) < n := by omega
      by_cases h126 : x = 126
      · subst h126
        obtain ⟨vs, hvs, hown, hds⟩ := hpr
        have hlen : (partsF (l.take k)).1.length = vs.length := by rw [← hvs, List.length_map]
        have hvk : vs.length ≤ k := by have := parts_len (l.take k); rw [List.length_take] at this; omega
        rw [hlen] at hown
        obtain ⟨A3, c3, rfl, _, _⟩ := own_shape hown
        have hcut := ((h.below (hbel.mono hB)).take k).dropAt f
        have hcl : ((l.take k).drop f).length = k - f := by rw [List.length_drop, List.length_take, HL.out]; omega
        have HCUT := Lib.hid hcut
        have HCL := Lib.hid hcl
        have HDS := Lib.hid hds
        have HVS := Lib.hid hvs
        have HOWN := Lib.hid hown
        have hszw := hbel.size
        have j1 : (0 : Int) ≤ f := by omega
        have j2 : (f : Int) ≤ k := by omega
        have j3 : (k : Int) ≤ c := by omega
        have j4 : (f : Int) ≤ c := by omega
        clear hcut hcl hds hvs hown hlen
        have j5 : ¬ c = f := by omega
        have hbA := Lib.hid ((Below.refl wr.heap.size wr).alloc (Nat.le_refl _) (.cells #[.slice (some ⟨ba, oa + f, none⟩) (k - f) (c - f)] 28))
        have HOA := Lib.hid (own_off (X := fun _ => False) HOWN.out (.of_below hbA.out) (fun _ _ => id))
        have HSZ := Lib.hid (Nat.le_trans hszw hbA.out.size)
        go_wp2_with (at_builtin; refine list_mv rfl _ _ 23 rfl 28 i0 (.slice none 0 0) 1 24 Try.underlying23 hi hz0 hz1 hz2 rfl (by decide) w.heap.size _ _ _ rfl HOA.out (some ⟨wr.heap.size, 0, none⟩) 1 1 [.slice (some ⟨ba, oa + f, none⟩) (k - f) (c - f)] rfl (fun h => by cases h) rfl (fun ad had => by injection had with had; subst had; exact cells_at _ _ _ _ rfl) (fun u hu => by simp at hu; subst hu; rfl) (by unfold maxLen; omega) (by omega) HSZ.out ?_; intro v3 w3 hown3 hgrow3 hmv3)
        have R := Pr.push (w1 := wr) (v := .slice A3 vs.length c3) (x := (l.take k).drop f) (A := some ⟨ba, oa + f, none⟩) (c := c - f) HDS.out HCUT.out (fun g hg => Nat.le_trans hB (HOWN.out.lt g hg).1) (Nat.le_trans hB hszw) hbA.out hgrow3 (by rw [HCL.out]; exact hown3)
        have E := Lib.hid (show partsF (l.take (k + 1)) = ((partsF (l.take k)).1 ++ [(partsF (l.take k)).2], []) by rw [parts_take HX.out, if_pos rfl])
        rw [HVS.out, ← hpf.out, show (partsF (l.take k)).1 ++ [(partsF (l.take k)).2] = (partsF (l.take (k + 1))).1 by rw [E.out]] at R
        have R2 : Hid ((partsF (l.take (k + 1))).2 = (l.take (k + 1)).drop (k + 1)) := Lib.hid (by rw [E.out, List.drop_eq_nil_of_le (by rw [List.length_take]; omega)])
        have R3 := (hbel.trans (hbA.out.mono hszw)).grown hgrow3 HSZ.out (fun g hg => (HOWN.out.lt g hg).1)
        clear hown3 hgrow3 hmv3 j5
        go_roundw
        case rel => exact ⟨k + 1, k + 1, by omega, by omega, by go_num, by go_num, R2, R, R3⟩
        case measure => simp [intOf]; omega
      · have h126' : ((x : Int) == 126) = false := by simp; omega
        have E := Lib.hid (show partsF (l.take (k + 1)) = ((partsF (l.take k)).1, (partsF (l.take k)).2 ++ [x]) by rw [parts_take HX.out, if_neg h126])
        have R : Hid ((partsF (l.take (k + 1))).2 = (l.take (k + 1)).drop f) := Lib.hid (by
          rw [E.out, hpf.out, List.take_add_one, HX.out, Option.toList_some, List.drop_append_of_le_length (by rw [List.length_take, HL.out]; omega)])
        have R2 := hpr
        rw [show (partsF (l.take k)).1 = (partsF (l.take (k + 1))).1 by rw [E.out]] at R2
        clear h126
        go_wp2_with fail
        go_roundw
        case rel => exact ⟨k + 1, f, by omega, by omega, by go_num, rfl, R, R2, hbel⟩
        case measure => simp [intOf]; omega
    · have he : k = n := by omega
      have j1 : (0 : Int) ≤ f := by omega
      have j2 : (f : Int) ≤ n := by omega
      have j3 : (f : Int) ≤ c := by omega
      have HP := Lib.hid (show Pr w.heap.size B wr _ (partsF l).1 by
        have e := List.take_of_length_le (l := l) (i := k) (by rw [HL.out]; omega)
        rw [e] at hpr
        exact hpr)
      clear hpr
      go_wp2_with fail
      go_quiet (fail)
      all_goals go_wp2_with fail
      all_goals
        go_ret2
        exact ⟨_, ⟨_, rfl⟩, HP.out.on (by have := hbel.size; omega) (below_drewN (Below.refl _ _) _), below_drewN hbel _⟩

theorem parts_by {l : List Nat} (h : By l) : ∀ p ∈ (partsF l).1, By p ∧ p.length ≤ l.length := by
  have key : ∀ k, (∀ p ∈ (partsF (l.take k)).1, By p ∧ p.length ≤ k) ∧ By (partsF (l.take k)).2 ∧ (partsF (l.take k)).2.length ≤ k := by
    intro k
    induction k with
    | zero => exact ⟨(fun p hp => by cases hp), By.nil, Nat.le_refl _⟩
    | succ k ih =>
      obtain ⟨i1, i2, i3⟩ := ih
      rcases Nat.lt_or_ge k l.length with hk | hk
      · have hx := List.getElem?_eq_getElem hk
        rw [parts_take hx]
        split
        · refine ⟨fun p hp => ?_, By.nil, Nat.zero_le _⟩
          rcases List.mem_append.1 hp with hp | hp
          · exact ⟨(i1 p hp).1, by have := (i1 p hp).2; omega⟩
          · rw [List.mem_singleton] at hp
            subst hp
            exact ⟨i2, by omega⟩
        · refine ⟨fun p hp => ⟨(i1 p hp).1, by have := (i1 p hp).2; omega⟩, i2.app (fun y hy => by rw [List.mem_singleton] at hy; subst hy; exact h _ (List.getElem_mem hk)), ?_⟩
          show ((partsF (l.take k)).2 ++ [l[k]]).length ≤ _
          rw [List.length_append, List.length_singleton]; omega
      · rw [List.take_of_length_le (by omega)] at i1 i2 i3 ⊢
        exact ⟨fun p hp => ⟨(i1 p hp).1, by have := (i1 p hp).2; omega⟩, i2, by omega⟩
  have := (key l.length).1
  rwa [List.take_of_length_le (Nat.le_refl _)] at this
theorem tell_le (m most : Nat) (p : List Nat) : (tellP m most p).length ≤ 1 := by
  unfold tellP
  split
  · exact Nat.zero_le _
  split
  · exact Nat.le_refl _
  split
  · exact Nat.le_refl _
  · exact Nat.le_refl _
theorem told_take {m most k : Nat} {ls : List (List Nat)} {x : List Nat} (h : ls[k]? = some x) : (ls.take (k + 1)).flatMap (tellP m most) = (ls.take k).flatMap (tellP m most) ++ tellP m most x := by
  rw [List.take_add_one, h, Option.toList_some, List.flatMap_append]
  simp
theorem told_le (m most : Nat) (ls : List (List Nat)) : (ls.flatMap (tellP m most)).length ≤ ls.length := by
  induction ls with
  | nil => exact Nat.le_refl _
  | cons p t ih =>
    rw [List.flatMap_cons, List.length_append, List.length_cons]
    have := tell_le m most p
    omega

set_option maxHeartbeats 2000000 in
theorem all_any (m most : Nat) (hm : m < 4294967296) (l : List Nat) (n : Nat) (A : Option Addr) (c : Nat) (w : World) (h : Rd w w.heap.size A l) (hb : By l) (hl : l.length = n) (hnc : n ≤ c) (hn : n ≤ 137438953472) :
    Calls Try.prog 12 #[.int .u32 (m : Int), .int .i64 (most : Int), .slice A n c] w fun e w' => ∃ v, e = .returned v ∧ Tl w.heap.size w' 52 (fun _ => True) v (allP m most l) ∧ Below w.heap.size w w' := by
  obtain ⟨i0, hi, hz0, hz1, hz2⟩ := info_parts rseg_info
  have HL := Lib.hid hl
  clear hl
  go_enter Try.func12, Try.ntmps12
  go_wp2_with fail
  have hb1 := (Below.refl w.heap.size w).alloc (Nat.le_refl _) (.cells #[] 52)
  have hown1 : (w.alloc (.cells #[] 52)).ownsRow w.heap.size 52 2 (.slice (some ⟨w.heap.size, 0, none⟩) 0 0) 0 [] := World.ownsRow_lit w #[] 0 (Nat.le_refl _) (by unfold maxLen; omega) rfl
  have HO1 := Lib.hid hown1
  have HB1 := Lib.hid hb1
  have h1 := h.below hb1
  have hbs := parts_by hb
  have hpl := parts_len l
  rw [HL.out] at hpl
  have hb1s := hb1.size
  clear hown1 hb1
  refine (parts_any l n A c _ w.heap.size hb1s h1 HL.out hnc hn).mono ?_
  rintro e w2 ⟨v2, v3, rfl, hpr, hb2⟩
  have hB2 := HB1.out.trans (hb2.mono HB1.out.size)
  have HO2 := Lib.hid (own_off (X := fun _ => False) HO1.out (.of_below hb2) (fun _ _ => id))
  have hsb := hb2.size
  generalize hP : (partsF l).1 = ps at hpr hbs hpl
  obtain ⟨A3, c3, hv2, _, _⟩ : ∃ A c, v2 = .slice A ps.length c ∧ ps.length ≤ c ∧ c ≤ maxLen := by
    obtain ⟨vs, e, ho, _⟩ := hpr
    exact own_shape ho
  subst hv2
  have HPR := Lib.hid (hpr.lo hb1s)
  have HBS := Lib.hid hbs
  have HP := Lib.hid hP
  clear hP hpr hbs h1 hb2
  go_wp2_with fail
  go_loopw [7, 10] (fun v i wr => Below w.heap.size w wr ∧ ∃ (k : Nat) (pre : List Sg), k ≤ ps.length ∧ i = .int .i64 k ∧ Hid ((ps.take k).flatMap (tellP m most) = pre) ∧ Tl w.heap.size wr 52 (fun _ => True) v pre ∧ Pr w.heap.size w.heap.size wr (.slice A3 ps.length c3) ps) (fun _ i _ => ps.length - (intOf i).toNat)
  case atStart => exact ⟨hB2, 0, [], Nat.zero_le _, rfl, Lib.hid rfl, ⟨[], rfl, HO2.out, fun _ h => by cases h⟩, HPR.out⟩
  case round =>
    obtain ⟨hbr, k, pre, hk, rfl, hpre, htl, hpr⟩ := hrel
    have hsz := hbr.size
    by_cases hlt : k < ps.length
    · obtain ⟨b3, o3, x, A4, c4, rfl, hx, q1, q2⟩ := (hpr.read (n := ps.length) hsz).at_ (k := k) hlt
      have hxs := HBS.out x (List.mem_of_getElem? hx)
      have HX := Lib.hid (show (ps.take (k + 1)).flatMap (tellP m most) = pre ++ tellP m most x by rw [told_take hx, hpre.out])
      have HXL := Lib.hid hxs
      have hTK : pre.length ≤ k := by
        rw [← hpre.out]
        refine Nat.le_trans (told_le m most (ps.take k)) ?_
        rw [List.length_take]; omega
      have hkn : k ≤ 137438953472 := by omega
      have i1 : (0 : Int) ≤ k := by omega
      have i2 : (k : Int) < (ps.length : Int) := by omega
      obtain ⟨A7, c7, rfl, hc7, _⟩ := htl.shape
      have HTL := Lib.hid htl
      obtain ⟨vs, hvs, hown, hds⟩ := htl
      have HDS := Lib.hid hds
      have HVS := Lib.hid hvs
      have HOWN := Lib.hid hown
      have HPr := Lib.hid hpr
      clear hx hxs hds hvs hown hpr
      go_wp2_with fail
      refine (rtell_any m most hm x x.length A4 c4 wr q2 HXL.out.1 rfl (by have := HXL.out.2; rw [HL.out] at this; omega)).mono ?_
      rintro e w4 ⟨hb4, ⟨hn0, rfl⟩ | ⟨y, A5, c5, hy, rfl, ho5⟩⟩
      · have R := HTL.out.below hb4
        have R2 := hbr.trans (hb4.mono hsz)
        have R3 := HPr.out.on hsz hb4
        have hx := HX.out
        rw [hn0, List.append_nil] at hx
        have RX := Lib.hid hx
        have hsz4 := R2.size
        clear hn0 hb4 hx
        go_wp2_with fail
        go_roundw
        case rel => exact ⟨R2.alloc R2.size _, k + 1, pre, by omega, by go_num, RX, R.below ((Below.refl _ _).alloc (Nat.le_refl _) _), R3.on hsz4 ((Below.refl _ _).alloc (Nat.le_refl _) _)⟩
        case measure => simp [intOf]; omega
      · have hA := (((Below.refl w4.heap.size w4).alloc (Nat.le_refl _) (.cells #[.int .i64 (y.1 : Nat), .slice A5 y.2.length c5] 52)).alloc (by simp) (.cells #[.int .i64 (y.1 : Nat), .slice A5 y.2.length c5] 52))
        have HA := Lib.hid hA
        have HO4 := Lib.hid (own_off (X := fun _ => False) HOWN.out (.of_below hb4) (fun _ _ => id))
        have HOA := Lib.hid (own_off (X := fun _ => False) HO4.out (.of_below hA) (fun _ _ => id))
        have R2 := hbr.trans (hb4.mono hsz)
        have R3 := (HPr.out.on hsz hb4).on R2.size hA
        have HR2 := Lib.hid (R2.trans (hA.mono R2.size))
        have HR3 := Lib.hid R3
        have HSZ := Lib.hid (Nat.le_trans R2.size hA.size)
        have HY := Lib.hid hy
        have HO5 := Lib.hid ho5
        have HB4 := Lib.hid hb4
        clear hA hb4 hy ho5 R2 R3
        go_wp2_with (at_builtin; refine list_mv rfl _ _ 33 rfl 52 i0 (.agg #[.int .i64 0, .slice none 0 0]) 2 32 Try.underlying33 hi hz0 hz1 hz2 rfl (by decide) w.heap.size _ _ _ rfl HOA.out (some ⟨w4.heap.size + 1, 0, none⟩) 1 1 [.int .i64 (y.1 : Nat), .slice A5 y.2.length c5] rfl (fun h => by cases h) rfl (fun ad had => by injection had with had; subst had; exact cells_at _ _ _ _ (by simp)) (fun u hu => by simp at hu; rcases hu with rfl | rfl <;> rfl) (by unfold maxLen; omega) (by omega) HSZ.out ?_; intro v6 w6 hown6 hgrow6 hmv6)
        have R := Tl.push (F := fun _ => True) (x := y) HVS.out (w1 := w4) (fun z hz => ⟨own_off (X := fun _ => False) (HDS.out z hz).1 (.of_below HB4.out) (fun _ _ => id), fun _ _ => trivial⟩) (own_lo HO5.out hsz) (fun _ _ => trivial) (fun g hg => own_blk HO4.out hg) (by decide) HA.out hgrow6 hown6
        have RX := HX.out
        rw [HY.out] at RX
        have HRX := Lib.hid RX
        have R4 := HR2.out.grown hgrow6 HSZ.out (fun g hg => (HOA.out.lt g hg).1)
        have R5 := HR3.out.off HSZ.out (.of_grown (X := fun i => (Value.slice A7 pre.length c7).ownBlock = some i) hgrow6 (fun _ h => h)) (fun g hg => by
          obtain ⟨ws, _, ho, _⟩ := HR3.out
          exact own_ne ho HOA.out (by decide) hg) (fun g hg h => by have := (HOA.out.lt g h).1; omega)
        clear hgrow6 hmv6 hown6 RX
        go_roundw
        case rel => exact ⟨R4, k + 1, _, by omega, by go_num, HRX, R, R5⟩
        case measure => simp [intOf]; omega
    · have he : k = ps.length := by omega
      have e := hpre.out
      rw [he, List.take_length] at e
      have E := Lib.hid (show pre = allP m most l by unfold allP; rw [HP.out, e])
      clear hlt hk
      go_wp2_with fail
      go_ret
      refine ⟨_, rfl, ?_, hbr⟩
      rw [← E.out]
      exact htl

end Go.Proofs.Ytdpkccbcfedhbaa
