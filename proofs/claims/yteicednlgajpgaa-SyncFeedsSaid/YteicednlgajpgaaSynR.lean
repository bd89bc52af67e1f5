
/-
  The document's own answers of layer 7: what a segment tells, the segments of a stream, what all of them tell. No condition beyond: streams of at most 2^37 bits, most at most 2^40.
-/
import Derived.Test.YteicednlgajpgaaSynBW
namespace Go.Proofs.Yteicednlgajpgaa
open Go.RowKit

theorem rseg_info : (Try.prog.info? 46).map (fun i => (i.zero, i.size, i.bytes)) = some (some (.agg #[.int .i64 0, .slice none 0 0]), 2, 32) := by kernel_rfl
theorem rows_info : (Try.prog.info? 27).map (fun i => (i.zero, i.size, i.bytes)) = some (some (.slice none 0 0), 1, 24) := by kernel_rfl

/-- What Tell answers. -/
def TellR (most : Nat) (raw : List Nat) (w : World) (e : Ending) (w' : World) : Prop :=
  Below w.heap.size w w' ∧ ((tellP most raw = [] ∧ e = .returned (.tuple #[.agg #[.int .i64 0, .slice none 0 0], .bool false])) ∨
    ∃ (x : Sg) (A : Option Addr) (c : Nat), tellP most raw = [x] ∧ e = .returned (.tuple #[.agg #[.int .i64 (x.1 : Nat), .slice A x.2.length c], .bool true]) ∧ w'.ownsRow w.heap.size 5 1 (.slice A x.2.length c) x.2.length (bvs x.2))

set_option maxHeartbeats 2000000 in
theorem rtell_any (most : Nat) (l : List Nat) (n : Nat) (A : Option Addr) (c : Nat) (w : World) (h : Rd w w.heap.size A l) (hb : By l) (hl : l.length = n) (hn : n ≤ 274877906944) :
    Calls Try.prog 23 #[.int .i64 (most : Int), .slice A n c] w (TellR most l w) := by
  have HL := Lib.hid hl
  clear hl
  have hb0 := (Below.refl w.heap.size w).alloc (Nat.le_refl _) (.cells #[.int .i64 0, .slice none 0 0] 46)
  have cellsAt : ∀ w' : World, Below (w.alloc (.cells #[.int .i64 0, .slice none 0 0] 46)).heap.size (w.alloc (.cells #[.int .i64 0, .slice none 0 0] 46)) w' →
      w.heap.size < w'.heap.size ∧ w'.cell? ⟨w.heap.size, 0, none⟩ = some (.int .i64 0) ∧ w'.cell? ⟨w.heap.size, 1, none⟩ = some (.slice none 0 0) ∧ w'.frozen? ⟨w.heap.size, 0, none⟩ = false ∧ w'.frozen? ⟨w.heap.size, 1, none⟩ = false := by
    intro w' hb'
    have hv : w'.heap[w.heap.size]? = some (.cells #[.int .i64 0, .slice none 0 0] 46 (0, 0)) := (hb'.block _ (by simp)).trans (heap_alloc_new w _)
    refine ⟨by have := hb'.size; simp at this; omega, ?_, ?_, frozen_of_row w' _ 0 _ _ hv, frozen_of_row w' _ 1 _ _ hv⟩
    · rw [cell_of_row w' _ 0 _ _ _ hv]; rfl
    · rw [cell_of_row w' _ 1 _ _ _ hv]; rfl
  have CA := Lib.hid cellsAt
  clear cellsAt
  have fin : ∀ (k : Nat) (v : Value) (w' : World), Below (w.alloc (.cells #[.int .i64 0, .slice none 0 0] 46)).heap.size (w.alloc (.cells #[.int .i64 0, .slice none 0 0] 46)) w' →
      Below w.heap.size w (((w'.setCell ⟨w.heap.size, 0, none⟩ (.int .i64 (k : Nat))).setCell ⟨w.heap.size, 1, none⟩ v)) := fun k v w' hb' =>
    ((hb0.trans (hb'.mono hb0.size)).setCell (p := ⟨w.heap.size, 0, none⟩) (Nat.le_refl _) _).setCell (p := ⟨w.heap.size, 1, none⟩) (Nat.le_refl _) _
  have FIN := Lib.hid fin
  clear fin
  have h0 := (h.below hb0).more hb0.size
  have HB0 := Lib.hid hb0
  clear hb0
  by_cases hz : n = 0
  · subst hz
    have he : l = [] := List.eq_nil_of_length_eq_zero HL.out
    have E := Lib.hid (show tellP most l = [] by unfold tellP; rw [if_pos he])
    obtain ⟨s2, q1, q2, q3, q4⟩ := CA.out _ (Below.refl _ _)
    clear he h0
    go_enter Try.func23, Try.ntmps23
    go_wp2
    refine bodyPost_ret (v := .tuple #[.agg #[.int .i64 0, .slice none 0 0], .bool false]) ?_ rfl ⟨?_, .inl ⟨E.out, rfl⟩⟩
    · rw [results_cell_tmp rfl]; go_simp
    · exact HB0.out
  · have hz' : ((n : Int) == 0) = false := by simp; omega
    have hne : l ≠ [] := by intro h1; rw [h1] at HL; exact hz HL.out.symm
    have HNE := Lib.hid hne
    clear hz hne
    go_enter Try.func23, Try.ntmps23
    go_wp2_with fail
    refine (rremove_any l n A c _ h0 hb HL.out hn).mono ?_
    rintro e w2 ⟨A2, c2, k2, rfl, hk2, hl2, hr2, hb2⟩
    have HL2 := Lib.hid hl2
    have HB2 := Lib.hid hb2
    obtain ⟨s2, q1, q2, q3, q4⟩ := CA.out _ hb2
    clear hl2 hb2 h0
    by_cases h5 : 5 < best l
    · have E := Lib.hid (show tellP most l = [(2, [])] by unfold tellP; rw [if_neg HNE.out, if_pos h5])
      rw [(rem_bad h5).2]
      clear h5
      go_wp2
      refine bodyPost_ret (v := .tuple #[.agg #[.int .i64 2, .slice none 0 0], .bool true]) ?_ rfl ⟨?_, .inr ⟨(2, []), none, 0, E.out, rfl, World.ownsRow_nil _ _ _ _⟩⟩
      · rw [results_cell_tmp rfl]; go_simp
      · exact FIN.out 2 _ w2 HB2.out
    · have hg := rem_good h5
      rw [hg.2]
      have HG := Lib.hid hg.1
      have H5 := Lib.hid h5
      have hby := remB_by l
      clear h5 hg
      by_cases h8 : k2 % 8 = 0
      · have H8 := Lib.hid h8
        go_wp2_with fail
        refine (roctets_c (remB l) k2 (k2 / 8) A2 c2 w2 hr2 hby HL2.out (by omega) (by omega)).mono ?_
        rintro e w3 ⟨A3, c3, rfl, hl3, ho3, -, hb3⟩
        have hb3' := HB2.out.trans (hb3.mono HB2.out.size)
        obtain ⟨s3, q1, q2, q3, q4⟩ := CA.out _ hb3'
        have HB3 := Lib.hid hb3'
        have HB23 := Lib.hid hb3
        have HK := Lib.hid (show (remP l).1.length = k2 by rw [← HG.out, HL2.out])
        have HV := Lib.hid (show (toO (remB l)).length = k2 / 8 from hl3)
        clear hb3' hb3 h8
        obtain ⟨q, hq⟩ : ∃ q, k2 / 8 = q := ⟨_, rfl⟩
        rw [hq] at ho3
        have HQ := Lib.hid hq
        have eq8 : ((k2 / 8 : Nat) : Int) = (q : Int) := by rw [hq]
        clear hl3
        rw [hq]
        clear hq eq8
        by_cases hmost : most < q
        · have E := Lib.hid (show tellP most l = [(4, [])] by unfold tellP; rw [if_neg HNE.out, if_neg H5.out, HK.out, if_neg (by have := H8.out; omega), HQ.out, if_pos hmost])
          have hm' : (most : Int) < (q : Int) := by omega
          clear ho3
          go_wp2
          refine bodyPost_ret (v := .tuple #[.agg #[.int .i64 4, .slice none 0 0], .bool true]) ?_ rfl ⟨?_, .inr ⟨(4, []), none, 0, E.out, rfl, World.ownsRow_nil _ _ _ _⟩⟩
          · rw [results_cell_tmp rfl]; go_simp
          · exact FIN.out 4 _ w3 HB3.out
        · have E := Lib.hid (show tellP most l = [(0, toO (remB l))] by unfold tellP; rw [if_neg HNE.out, if_neg H5.out, HK.out, if_neg (by have := H8.out; omega), HQ.out, if_neg hmost, HG.out])
          have hlq : (toO (remB l)).length = q := by rw [HV.out, HQ.out]
          have HLQ := Lib.hid hlq
          have hm' : ¬ (most : Int) < (q : Int) := by omega
          have HO := Lib.hid ho3
          clear ho3 hlq
          go_wp2
          refine bodyPost_ret (v := .tuple #[.agg #[.int .i64 0, .slice A3 q c3], .bool true]) ?_ rfl ⟨?_, .inr ⟨(0, toO (remB l)), A3, c3, E.out, by rw [show (toO (remB l)).length = q from HLQ.out]; rfl, ?_⟩⟩
          · rw [results_cell_tmp rfl]; go_simp
          · exact FIN.out 0 _ w3 HB3.out
          · have hs : w.heap.size < w2.heap.size := by have := HB2.out.size; simp at this; omega
            have ho := Offs.trans (Offs.set (X := fun i => i = w.heap.size) w3 w.heap.size 0 (.int .i64 0) rfl) (Offs.set (X := fun i => i = w.heap.size) _ w.heap.size 1 (.slice A3 q c3) rfl) (Z := fun i => i = w.heap.size) (fun _ h => h) (fun _ _ h => h)
            have R := own_lo (own_off HO.out ho (fun g hg e => by have := (HO.out.lt g hg).1; omega)) (show w.heap.size ≤ w2.heap.size by omega)
            show World.ownsRow _ w.heap.size 5 1 (.slice A3 (toO (remB l)).length c3) (toO (remB l)).length (bvs (toO (remB l)))
            rw [HLQ.out]
            exact R
      · have E := Lib.hid (show tellP most l = [(3, [])] by unfold tellP; rw [if_neg HNE.out, if_neg H5.out, if_pos (by rw [← HG.out, HL2.out]; exact h8)])
        have H8 := Lib.hid h8
        clear h8
        go_wp2_with fail
        refine (roctets_no (remB l) k2 A2 c2 w2 HL2.out (by omega) H8.out).mono ?_
        rintro e w3 ⟨rfl, rfl⟩
        go_wp2
        refine bodyPost_ret (v := .tuple #[.agg #[.int .i64 3, .slice none 0 0], .bool true]) ?_ rfl ⟨?_, .inr ⟨(3, []), none, 0, E.out, rfl, World.ownsRow_nil _ _ _ _⟩⟩
        · rw [results_cell_tmp rfl]; go_simp
        · exact FIN.out 3 _ w2 HB2.out

set_option maxHeartbeats 1000000 in
theorem ahead_any (l : List Nat) (n : Nat) (A : Option Addr) (c k : Nat) (w : World) (B : Nat) (h : Rd w B A l) (hl : l.length = n) (hk : k ≤ n) (hn : n ≤ 137438953472) (hb : By l) :
    Calls Try.prog 33 #[.slice A n c, .int .i64 (k : Int)] w fun e w' => e = .returned (.int .i64 ((runP (l.take k)).2 : Nat)) ∧ w = w' := by
  have HL := Lib.hid hl
  clear hl
  go_enter Try.func33, Try.ntmps33
  go_wp2_with fail
  go_loopw [5] (fun i wr => w = wr ∧ ∃ j m : Nat, i = .int .i64 j ∧ Hid (m + j = k) ∧ j ≤ k ∧ Hid ((runP (l.take k)).2 = j + (runP (l.take m)).2)) (fun i _ => k - (intOf i).toNat)
  case atStart => exact ⟨rfl, 0, k, rfl, Lib.hid rfl, Nat.zero_le _, Lib.hid (by omega)⟩
  case round =>
    obtain ⟨rfl, j, m, rfl, hm, hj, hr⟩ := hrel
    by_cases hlt : j < k
    · obtain ⟨p, hp⟩ : ∃ p, m = p + 1 := ⟨m - 1, by have := hm.out; omega⟩
      have HP := Lib.hid hp
      clear hp
      obtain ⟨ba, oa, x, rfl, _, hx, hcx⟩ := h.at_ (k := p) (by have := hm.out; have := HP.out; rw [HL.out]; omega)
      have hx256 := hb.get hx
      have HS := Lib.hid (show runP (l.take m) = stepR (runP (l.take p)) x by rw [HP.out]; exact runP_snoc hx)
      clear hx
      have e3 : ((k : Int) - 1 - (j : Int)).toNat = p := by have := hm.out; have := HP.out; omega
      have i1 : (j : Int) < (k : Int) := by omega
      have i2 : (0 : Int) ≤ (k : Int) - 1 - (j : Int) := by omega
      have i3 : (k : Int) - 1 - (j : Int) < (n : Int) := by omega
      have x0 : (0 : Int) ≤ x := by omega
      by_cases ho : x % 2 = 1
      · have hb1 : ((x : Int) % 2 == 1) = true := by rw [beq_iff_eq]; omega
        have R := Lib.hid (show (runP (l.take k)).2 = j + 1 + (runP (l.take p)).2 by rw [hr.out, HS.out, stepR, if_pos ho]; show j + ((runP (l.take p)).2 + 1) = _; omega)
        have R2 := Lib.hid (show p + (j + 1) = k by have := hm.out; have := HP.out; omega)
        clear ho
        go_wp2_with fail
        go_roundw
        case rel => exact ⟨trivial, j + 1, p, by go_num, R2, by omega, R⟩
        case measure => simp [intOf]; omega
      · have hb1 : ((x : Int) % 2 == 1) = false := by rw [beq_eq_false_iff_ne]; omega
        have R := Lib.hid (show (runP (l.take k)).2 = j by rw [hr.out, HS.out, stepR, if_neg ho]; rfl)
        clear ho
        go_wp2_with fail
        go_ret
        exact ⟨by rw [R.out]; rfl, rfl⟩
    · have he : ¬ (j : Int) < (k : Int) := by omega
      have R := Lib.hid (show (runP (l.take k)).2 = j by rw [hr.out, show m = 0 by have := hm.out; omega]; rfl)
      go_wp2_with fail
      go_ret
      exact ⟨by rw [R.out]; rfl, rfl⟩

/-- A row of lists of bytes that is the call's own; the lists lie below block B. -/
def Pr (B0 B : Nat) (w : World) (v : Value) (ls : List (List Nat)) : Prop :=
  ∃ vs : List (List Nat × Value), vs.map (·.1) = ls ∧ w.ownsRow B0 27 1 v ls.length (vs.map (·.2)) ∧ ∀ x ∈ vs, ∃ A c, x.2 = .slice A x.1.length c ∧ Rd w B A x.1
theorem Pr.read {B0 B : Nat} {w : World} {A : Option Addr} {n c : Nat} {ls : List (List Nat)} (h : Pr B0 B w (.slice A n c) ls) (hB : B ≤ w.heap.size) : Rr w A ls := by
  intro hl
  obtain ⟨vs, e, hown, hd⟩ := h
  rcases hown.2 with ⟨_, h0⟩ | ⟨g, cap, cur, hv, _, _, _⟩
  · omega
  · injection hv with hA hn hc
    subst hA; subst hc
    rw [hn] at hown
    refine ⟨g, 0, rfl, fun k x hx => ?_⟩
    rw [← e, List.getElem?_map] at hx
    obtain ⟨y, hy, rfl⟩ := Option.map_eq_some_iff.1 hx
    have hk : k < vs.length := (List.getElem?_eq_some_iff.1 hy).1
    have hlen : ls.length = vs.length := by rw [← e, List.length_map]
    obtain ⟨Ak, ck, hyk, hr⟩ := hd y (List.mem_of_getElem? hy)
    refine ⟨Ak, ck, ?_, hr.more hB⟩
    have := hown.cellAt k (by omega)
    rw [Nat.zero_add, this, List.getElem?_map, hy, ← hyk]
    rfl
theorem Pr.on {B0 B : Nat} {w w' : World} {v : Value} {ls : List (List Nat)} (h : Pr B0 B w v ls) (hB : B ≤ w.heap.size) (hb : Below w.heap.size w w') : Pr B0 B w' v ls := by
  obtain ⟨vs, e, hown, hd⟩ := h
  refine ⟨vs, e, own_off (X := fun _ => False) hown (.of_below hb) (fun _ _ => id), fun x hx => ?_⟩
  obtain ⟨A, c, h1, h2⟩ := hd x hx
  exact ⟨A, c, h1, h2.below (hb.mono hB)⟩
theorem Pr.off {B0 B : Nat} {X : Nat → Prop} {w w' : World} {v : Value} {ls : List (List Nat)} (h : Pr B0 B w v ls) (hB : B ≤ w.heap.size) (ho : Offs X w w') (hv : ∀ g, v.ownBlock = some g → ¬ X g) (hX : ∀ k, k < B → ¬ X k) : Pr B0 B w' v ls := by
  obtain ⟨vs, e, hown, hd⟩ := h
  refine ⟨vs, e, own_off hown ho hv, fun x hx => ?_⟩
  obtain ⟨A, c, h1, h2⟩ := hd x hx
  exact ⟨A, c, h1, h2.below (ho.below hX hB)⟩
theorem Pr.lo {B0 B1 B : Nat} {w : World} {v : Value} {ls : List (List Nat)} (h : Pr B0 B w v ls) (hB : B1 ≤ B0) : Pr B1 B w v ls := by
  obtain ⟨vs, e, hown, hd⟩ := h
  exact ⟨vs, e, own_lo hown hB, hd⟩
theorem Pr.push {B0 B : Nat} {w1 w2 w3 : World} {v v3 : Value} {x : List Nat} {A : Option Addr} {c : Nat} {vs : List (List Nat × Value)} (hds : ∀ y ∈ vs, ∃ A c, y.2 = .slice A y.1.length c ∧ Rd w1 B A y.1) (hr : Rd w1 B A x) (hv : ∀ g, v.ownBlock = some g → B ≤ g) (hB : B ≤ w1.heap.size)
    (hb : Below w1.heap.size w1 w2) (hg : w2.grownBy w3 v.ownBlock) (hown : w3.ownsRow B0 27 1 v3 (vs.length + 1) (vs.map (·.2) ++ [.slice A x.length c])) : Pr B0 B w3 v3 (vs.map (·.1) ++ [x]) := by
  have hbw : Below B w1 w3 := (hb.mono hB).grown hg (Nat.le_trans hB hb.size) hv
  refine ⟨vs ++ [(x, .slice A x.length c)], by rw [List.map_append]; rfl, ?_, ?_⟩
  · rw [List.length_append, List.length_map, List.map_append]; exact hown
  · intro y hy
    rcases List.mem_append.1 hy with hy | hy
    · obtain ⟨A', c', h1, h2⟩ := hds y hy
      exact ⟨A', c', h1, h2.below hbw⟩
    · rw [List.mem_singleton] at hy
      subst hy
      exact ⟨A, c, rfl, hr.below hbw⟩
theorem parts_take {l : List Nat} {k x : Nat} (h : l[k]? = some x) : partsF (l.take (k + 1)) = stepP (partsF (l.take k)) x := by
  rw [List.take_add_one, h, Option.toList_some, partsF_snoc]
theorem parts_row (l : List Nat) : (runP (partsF l).2).2 = (runP l).2 := by
  induction l using snoc_rec with
  | nil => rfl
  | snoc l x ih =>
    rw [partsF_snoc, runP_snoc']
    unfold stepP
    split
    · rename_i hx
      rw [stepR, if_neg (by omega)]; rfl
    · show (runP ((partsF l).2 ++ [x])).2 = _
      rw [runP_snoc', stepR, stepR, ih]
      split <;> rfl
theorem parts_len (l : List Nat) : (partsF l).1.length ≤ l.length := by
  induction l using snoc_rec with
  | nil => exact Nat.le_refl _
  | snoc l x ih =>
    rw [partsF_snoc, List.length_append, List.length_singleton]
    unfold stepP
    split
    · rw [List.length_append, List.length_singleton]; omega
    · show (partsF l).1.length ≤ _; omega
theorem parts_by {l : List Nat} (h : By l) : ∀ p ∈ (partsF l).1, By p ∧ p.length ≤ l.length := by
  have key : By l → (∀ p ∈ (partsF l).1, By p ∧ p.length ≤ l.length) ∧ By (partsF l).2 ∧ (partsF l).2.length ≤ l.length := by
    clear h
    induction l using snoc_rec with
    | nil => exact fun _ => ⟨(fun p hp => by cases hp), By.nil, Nat.le_refl _⟩
    | snoc l x ih =>
      intro hb
      obtain ⟨i1, i2, i3⟩ := ih (fun y hy => hb y (List.mem_append_left _ hy))
      rw [partsF_snoc, List.length_append, List.length_singleton]
      unfold stepP
      split
      · refine ⟨fun p hp => ?_, By.nil, Nat.zero_le _⟩
        rcases List.mem_append.1 hp with hp | hp
        · exact ⟨(i1 p hp).1, by have := (i1 p hp).2; omega⟩
        · rw [List.mem_singleton] at hp
          subst hp
          exact ⟨i2.take _, by unfold cutP; rw [List.length_take]; omega⟩
      · refine ⟨fun p hp => ⟨(i1 p hp).1, by have := (i1 p hp).2; omega⟩, i2.app (fun y hy => hb y (List.mem_append_right _ hy)), ?_⟩
        show ((partsF l).2 ++ [x]).length ≤ _
        rw [List.length_append, List.length_singleton]; omega
  exact (key h).1
theorem tell_le (most : Nat) (p : List Nat) : (tellP most p).length ≤ 1 := by
  unfold tellP
  split
  · exact Nat.zero_le _
  split
  · exact Nat.le_refl _
  split
  · exact Nat.le_refl _
  split
  · exact Nat.le_refl _
  · exact Nat.le_refl _
theorem told_take {most k : Nat} {ls : List (List Nat)} {x : List Nat} (h : ls[k]? = some x) : (ls.take (k + 1)).flatMap (tellP most) = (ls.take k).flatMap (tellP most) ++ tellP most x := by
  rw [List.take_add_one, h, Option.toList_some, List.flatMap_append]
  simp
theorem told_le (most : Nat) (ls : List (List Nat)) : (ls.flatMap (tellP most)).length ≤ ls.length := by
  induction ls with
  | nil => exact Nat.le_refl _
  | cons p t ih =>
    rw [List.flatMap_cons, List.length_append, List.length_cons]
    have := tell_le most p
    omega


/-- What is cut off a tail, in the stream. -/
theorem cut_at {l : List Nat} {k f : Nat} (hk : k ≤ l.length) (hf : f ≤ k) (g : Nat) (hg : g = f + (k - f - 7)) : cutP ((l.take k).drop f) = (l.take g).drop f := by
  unfold cutP
  rw [List.length_drop, List.length_take, show min k l.length = k by omega, List.drop_take, List.drop_take, List.take_take]
  congr 1
  omega

set_option maxHeartbeats 4000000 in
theorem parts_any (l : List Nat) (n : Nat) (A : Option Addr) (c : Nat) (w : World) (B : Nat) (hB : B ≤ w.heap.size) (h : Rd w B A l) (hl : l.length = n) (hby : By l) (hnc : n ≤ c) (hn : n ≤ 137438953472) :
    Calls Try.prog 22 #[.slice A n c] w fun e w' => ∃ v, e = .returned v ∧ Pr w.heap.size B w' v (partsF l).1 ∧ Below w.heap.size w w' := by
  obtain ⟨i0, hi, hz0, hz1, hz2⟩ := info_parts rows_info
  have HL := Lib.hid hl
  clear hl
  go_enter Try.func22, Try.ntmps22
  go_wp2_with fail
  have hb1 := (Below.refl w.heap.size w).alloc (Nat.le_refl _) (.cells #[] 27)
  have hown1 : (w.alloc (.cells #[] 27)).ownsRow w.heap.size 27 1 (.slice (some ⟨w.heap.size, 0, none⟩) 0 0) 0 [] := World.ownsRow_lit w #[] 0 (Nat.le_refl _) (by unfold maxLen; omega) rfl
  go_loopw [3, 4, 5] (fun v s i wr => ∃ k f : Nat, k ≤ n ∧ f ≤ k ∧ i = .int .i64 k ∧ s = .int .i64 f ∧ Hid ((partsF (l.take k)).2 = (l.take k).drop f) ∧ Pr w.heap.size B wr v (partsF (l.take k)).1 ∧ Below w.heap.size w wr) (fun _ _ i _ => n - (intOf i).toNat)
  case atStart => exact ⟨0, 0, Nat.zero_le _, Nat.le_refl _, rfl, rfl, Lib.hid rfl, ⟨[], rfl, hown1, fun _ h => by cases h⟩, hb1⟩
  case round =>
    obtain ⟨k, f, hk, hf, rfl, rfl, hpf, hpr, hbel⟩ := hrel
    clear hown1 hb1
    by_cases hlt : k < n
    · obtain ⟨ba, oa, x, rfl, _, hx, hcx⟩ := (h.below (hbel.mono hB)).at_ (k := k) (by rw [HL.out]; exact hlt)
      have HX := Lib.hid hx
      have hr0 := h.below (hbel.mono hB)
      have x0 : (0 : Int) ≤ x := by omega
      clear hx
      have i1 : (0 : Int) ≤ k := by omega
      have i2 : (k : Int) < n := by omega
      have quiet : ¬ (x % 2 = 0 ∧ (runP (l.take k)).2 = 6) → Hid (partsF (l.take (k + 1)) = ((partsF (l.take k)).1, (partsF (l.take k)).2 ++ [x])) ∧ Hid ((partsF (l.take (k + 1))).2 = (l.take (k + 1)).drop f) := by
        intro hq
        have E : partsF (l.take (k + 1)) = ((partsF (l.take k)).1, (partsF (l.take k)).2 ++ [x]) := by
          rw [parts_take HX.out]
          unfold stepP
          rw [parts_row, if_neg hq]
        refine ⟨Lib.hid E, Lib.hid ?_⟩
        rw [E, hpf.out, List.take_add_one, HX.out, Option.toList_some, List.drop_append_of_le_length (by rw [List.length_take, HL.out]; omega)]
      have QU := Lib.hid quiet
      clear quiet
      by_cases hx1 : x % 2 = 1
      · have e1 : ((x : Int) % 2 == 1) = true := by rw [beq_iff_eq]; omega
        obtain ⟨E, R⟩ := QU.out (by omega)
        have R2 := hpr
        rw [show (partsF (l.take k)).1 = (partsF (l.take (k + 1))).1 by rw [E.out]] at R2
        clear hx1
        go_wp2_with fail
        go_roundw
        case rel => exact ⟨k + 1, f, by omega, by omega, by go_num, rfl, R, R2, hbel⟩
        case measure => simp [intOf]; omega
      have e1 : ((x : Int) % 2 == 1) = false := by rw [beq_eq_false_iff_ne]; omega
      have HX0 := Lib.hid (show x % 2 = 0 by omega)
      clear hx1
      obtain ⟨r, hr⟩ : ∃ r, Hid ((runP (l.take k)).2 = r) := ⟨_, Lib.hid rfl⟩
      by_cases h6 : r = 6
      · have e6 : ((r : Int) != 6) = false := by rw [bne_eq_false_iff_eq]; omega
        have hlen6 : 6 ≤ k - f := by
          have h1 := (runP_le (partsF (l.take k)).2).2
          rw [parts_row, hr.out, hpf.out, List.length_drop, List.length_take] at h1
          omega
        obtain ⟨vs, hvs, hown, hds⟩ := hpr
        have hlen : (partsF (l.take k)).1.length = vs.length := by rw [← hvs, List.length_map]
        have hvk : vs.length ≤ k := by have := parts_len (l.take k); rw [List.length_take] at this; omega
        rw [hlen] at hown
        obtain ⟨A3, c3, rfl, _, _⟩ := own_shape hown
        have HDS := Lib.hid hds
        have HVS := Lib.hid hvs
        have HOWN := Lib.hid hown
        have hszw := hbel.size
        have j1 : (0 : Int) ≤ f := by omega
        have j2 : (f : Int) ≤ k := by omega
        have j4 : (f : Int) ≤ c := by omega
        have j5 : ¬ c = f := by omega
        have E := Lib.hid (show partsF (l.take (k + 1)) = ((partsF (l.take k)).1 ++ [cutP (partsF (l.take k)).2], []) by
          rw [parts_take HX.out]
          unfold stepP
          rw [parts_row, hr.out, if_pos ⟨HX0.out, h6⟩])
        have R2 : Hid ((partsF (l.take (k + 1))).2 = (l.take (k + 1)).drop (k + 1)) := Lib.hid (by rw [E.out, List.drop_eq_nil_of_le (by rw [List.length_take]; omega)])
        have H6 := Lib.hid h6
        clear hds hvs hown hlen h6
        by_cases hgf : f < k - 6
        · obtain ⟨G, hG⟩ : ∃ G, Hid (G = k - 7) := ⟨_, Lib.hid rfl⟩
          have g1 : (f : Int) < (k : Int) - 6 := by omega
          have g2 : (k : Int) - 6 - 1 = (G : Int) := by have := hG.out; omega
          have g3 : ¬ (G : Int) < (f : Int) := by have := hG.out; omega
          have g4 : (f : Int) ≤ (G : Int) := by have := hG.out; omega
          have g5 : (G : Int) ≤ (c : Int) := by have := hG.out; omega
          have g6 : f ≤ G := by have := hG.out; omega
          have g7 : G ≤ n := by have := hG.out; omega
          have HCA := Lib.hid (show cutP (partsF (l.take k)).2 = (l.take G).drop f by rw [hpf.out]; exact cut_at (by rw [HL.out]; omega) hf G (by have := hG.out; omega))
          have hcut := ((h.below (hbel.mono hB)).take G).dropAt f
          have hcl : ((l.take G).drop f).length = G - f := by rw [List.length_drop, List.length_take, HL.out]; omega
          have HCUT := Lib.hid hcut
          have HCL := Lib.hid hcl
          clear hcut hcl
          have hbA := Lib.hid ((Below.refl wr.heap.size wr).alloc (Nat.le_refl _) (.cells #[.slice (some ⟨ba, oa + f, none⟩) (G - f) (c - f)] 27))
          have HOA := Lib.hid (own_off (X := fun _ => False) HOWN.out (.of_below hbA.out) (fun _ _ => id))
          have HSZ := Lib.hid (Nat.le_trans hszw hbA.out.size)
          go_wp2_with (first | (go_at_call 33; refine (ahead_any l n _ c k _ B hr0 HL.out hk hn hby).mono ?_; rintro e w' ⟨rfl, rfl⟩; rw [hr.out]) | (at_builtin; refine list_mv rfl _ _ 22 rfl 27 i0 (.slice none 0 0) 1 24 Try.underlying22 hi hz0 hz1 hz2 rfl (by decide) w.heap.size _ _ _ rfl HOA.out (some ⟨wr.heap.size, 0, none⟩) 1 1 [.slice (some ⟨ba, oa + f, none⟩) (G - f) (c - f)] rfl (fun h => by cases h) rfl (fun ad had => by injection had with had; subst had; exact cells_at _ _ _ _ rfl) (fun u hu => by simp at hu; subst hu; rfl) (by unfold maxLen; omega) (by omega) HSZ.out ?_; intro v3 w3 hown3 hgrow3 hmv3))
          have R := Pr.push (w1 := wr) (v := .slice A3 vs.length c3) (x := (l.take G).drop f) (A := some ⟨ba, oa + f, none⟩) (c := c - f) HDS.out HCUT.out (fun g hg => Nat.le_trans hB (HOWN.out.lt g hg).1) (Nat.le_trans hB hszw) hbA.out hgrow3 (by rw [HCL.out]; exact hown3)
          rw [HVS.out, ← HCA.out, show (partsF (l.take k)).1 ++ [cutP (partsF (l.take k)).2] = (partsF (l.take (k + 1))).1 by rw [E.out]] at R
          have R3 := (hbel.trans (hbA.out.mono hszw)).grown hgrow3 HSZ.out (fun g hg => (HOWN.out.lt g hg).1)
          clear hown3 hgrow3 hmv3 j5
          go_roundw
          case rel => exact ⟨k + 1, k + 1, by omega, by omega, by go_num, by go_num, R2, R, R3⟩
          case measure => simp [intOf]; omega
        · have g2 : (k : Int) - 6 = (f : Int) := by omega
          have g5 : (f : Int) ≤ (c : Int) := by omega
          have HCA := Lib.hid (show cutP (partsF (l.take k)).2 = (l.take f).drop f by rw [hpf.out]; exact cut_at (by rw [HL.out]; omega) hf f (by omega))
          clear hgf
          have hcut := (hr0.take f).dropAt f
          have hcl : ((l.take f).drop f).length = 0 := by rw [List.length_drop, List.length_take, HL.out]; omega
          have HCUT := Lib.hid hcut
          have HCL := Lib.hid hcl
          clear hcut hcl
          have hbA := Lib.hid ((Below.refl wr.heap.size wr).alloc (Nat.le_refl _) (.cells #[.slice (some ⟨ba, oa + f, none⟩) 0 (c - f)] 27))
          have HOA := Lib.hid (own_off (X := fun _ => False) HOWN.out (.of_below hbA.out) (fun _ _ => id))
          have HSZ := Lib.hid (Nat.le_trans hszw hbA.out.size)
          go_wp2_with (first | (go_at_call 33; refine (ahead_any l n _ c k _ B hr0 HL.out hk hn hby).mono ?_; rintro e w' ⟨rfl, rfl⟩; rw [hr.out]) | (at_builtin; refine list_mv rfl _ _ 22 rfl 27 i0 (.slice none 0 0) 1 24 Try.underlying22 hi hz0 hz1 hz2 rfl (by decide) w.heap.size _ _ _ rfl HOA.out (some ⟨wr.heap.size, 0, none⟩) 1 1 [.slice (some ⟨ba, oa + f, none⟩) 0 (c - f)] rfl (fun h => by cases h) rfl (fun ad had => by injection had with had; subst had; exact cells_at _ _ _ _ rfl) (fun u hu => by simp at hu; subst hu; rfl) (by unfold maxLen; omega) (by omega) HSZ.out ?_; intro v3 w3 hown3 hgrow3 hmv3))
          have R := Pr.push (w1 := wr) (v := .slice A3 vs.length c3) (x := (l.take f).drop f) (A := some ⟨ba, oa + f, none⟩) (c := c - f) HDS.out HCUT.out (fun g hg => Nat.le_trans hB (HOWN.out.lt g hg).1) (Nat.le_trans hB hszw) hbA.out hgrow3 (by rw [HCL.out]; exact hown3)
          rw [HVS.out, ← HCA.out, show (partsF (l.take k)).1 ++ [cutP (partsF (l.take k)).2] = (partsF (l.take (k + 1))).1 by rw [E.out]] at R
          have R3 := (hbel.trans (hbA.out.mono hszw)).grown hgrow3 HSZ.out (fun g hg => (HOWN.out.lt g hg).1)
          clear hown3 hgrow3 hmv3 j5
          go_roundw
          case rel => exact ⟨k + 1, k + 1, by omega, by omega, by go_num, by go_num, R2, R, R3⟩
          case measure => simp [intOf]; omega
      · have e6 : ((r : Int) != 6) = true := by rw [bne_iff_ne]; omega
        obtain ⟨E, R⟩ := QU.out (by rw [hr.out]; omega)
        have R2 := hpr
        rw [show (partsF (l.take k)).1 = (partsF (l.take (k + 1))).1 by rw [E.out]] at R2
        clear h6
        go_wp2_with (go_at_call 33; refine (ahead_any l n _ c k _ B hr0 HL.out hk hn hby).mono ?_; rintro e w' ⟨rfl, rfl⟩; rw [hr.out])
        go_roundw
        case rel => exact ⟨k + 1, f, by omega, by omega, by go_num, rfl, R, R2, hbel⟩
        case measure => simp [intOf]; omega
    · have he : k = n := by omega
      have e := List.take_of_length_le (l := l) (i := k) (by rw [HL.out]; omega)
      rw [e] at hpr
      obtain ⟨vs, hve, ho, hd⟩ := hpr
      obtain ⟨A3, c3, rfl, _, _⟩ := own_shape ho
      have HP := Lib.hid (show Pr w.heap.size B wr (.slice A3 (partsF l).1.length c3) (partsF l).1 from ⟨vs, hve, ho, hd⟩)
      clear e ho hd hve
      go_wp2_with fail
      go_ret
      exact ⟨_, rfl, HP.out, hbel⟩

set_option maxHeartbeats 2000000 in
theorem all_any (most : Nat) (l : List Nat) (n : Nat) (A : Option Addr) (c : Nat) (w : World) (h : Rd w w.heap.size A l) (hb : By l) (hl : l.length = n) (hnc : n ≤ c) (hn : n ≤ 137438953472) :
    Calls Try.prog 12 #[.int .i64 (most : Int), .slice A n c] w fun e w' => ∃ v, e = .returned v ∧ Tl w.heap.size w' 46 (fun _ => True) v (allP most l) ∧ Below w.heap.size w w' := by
  obtain ⟨i0, hi, hz0, hz1, hz2⟩ := info_parts rseg_info
  have HL := Lib.hid hl
  clear hl
  go_enter Try.func12, Try.ntmps12
  go_wp2_with fail
  have hb1 := (Below.refl w.heap.size w).alloc (Nat.le_refl _) (.cells #[] 46)
  have hown1 : (w.alloc (.cells #[] 46)).ownsRow w.heap.size 46 2 (.slice (some ⟨w.heap.size, 0, none⟩) 0 0) 0 [] := World.ownsRow_lit w #[] 0 (Nat.le_refl _) (by unfold maxLen; omega) rfl
  have HO1 := Lib.hid hown1
  have HB1 := Lib.hid hb1
  have h1 := h.below hb1
  have hbs := parts_by hb
  have hpl := parts_len l
  rw [HL.out] at hpl
  have hb1s := hb1.size
  clear hown1 hb1
  refine (parts_any l n A c _ w.heap.size hb1s h1 HL.out hb hnc hn).mono ?_
  rintro e w2 ⟨v2, rfl, hpr, hb2⟩
  have hB2 := HB1.out.trans (hb2.mono HB1.out.size)
  have HO2 := Lib.hid (own_off (X := fun _ => False) HO1.out (.of_below hb2) (fun _ _ => id))
  have hsb := hb2.size
  generalize hP : (partsF l).1 = ps at hpr hbs hpl
  obtain ⟨A3, c3, hv2, _, _⟩ : ∃ A c, v2 = .slice A ps.length c ∧ ps.length ≤ c ∧ c ≤ maxLen := by
    obtain ⟨vs, e, ho, _⟩ := hpr
    exact own_shape ho
  subst hv2
  have HPR := Lib.hid (hpr.lo hb1s)
  have HBS := Lib.hid hbs
  have HP := Lib.hid hP
  clear hP hpr hbs h1 hb2
  go_wp2_with fail
  go_loopw [5, 7] (fun v i wr => Below w.heap.size w wr ∧ ∃ (k : Nat) (pre : List Sg), k ≤ ps.length ∧ i = .int .i64 k ∧ Hid ((ps.take k).flatMap (tellP most) = pre) ∧ Tl w.heap.size wr 46 (fun _ => True) v pre ∧ Pr w.heap.size w.heap.size wr (.slice A3 ps.length c3) ps) (fun _ i _ => ps.length - (intOf i).toNat)
  case atStart => exact ⟨hB2, 0, [], Nat.zero_le _, rfl, Lib.hid rfl, ⟨[], rfl, HO2.out, fun _ h => by cases h⟩, HPR.out⟩
  case round =>
    obtain ⟨hbr, k, pre, hk, rfl, hpre, htl, hpr⟩ := hrel
    have hsz := hbr.size
    by_cases hlt : k < ps.length
    · obtain ⟨b3, o3, x, A4, c4, rfl, hx, q1, q2⟩ := (hpr.read (n := ps.length) hsz).at_ (k := k) hlt
      have hxs := HBS.out x (List.mem_of_getElem? hx)
      have HX := Lib.hid (show (ps.take (k + 1)).flatMap (tellP most) = pre ++ tellP most x by rw [told_take hx, hpre.out])
      have HXL := Lib.hid hxs
      have hTK : pre.length ≤ k := by
        rw [← hpre.out]
        refine Nat.le_trans (told_le most (ps.take k)) ?_
        rw [List.length_take]; omega
      have hkn : k ≤ 137438953472 := by omega
      have i1 : (0 : Int) ≤ k := by omega
      have i2 : (k : Int) < (ps.length : Int) := by omega
      obtain ⟨A7, c7, rfl, hc7, _⟩ := htl.shape
      have HTL := Lib.hid htl
      obtain ⟨vs, hvs, hown, hds⟩ := htl
      have HDS := Lib.hid hds
      have HVS := Lib.hid hvs
      have HOWN := Lib.hid hown
      have HPr := Lib.hid hpr
      clear hx hxs hds hvs hown hpr
      go_wp2_with fail
      refine (rtell_any most x x.length A4 c4 wr q2 HXL.out.1 rfl (by have := HXL.out.2; rw [HL.out] at this; omega)).mono ?_
      rintro e w4 ⟨hb4, ⟨hn0, rfl⟩ | ⟨y, A5, c5, hy, rfl, ho5⟩⟩
      · have R := HTL.out.below hb4
        have R2 := hbr.trans (hb4.mono hsz)
        have R3 := HPr.out.on hsz hb4
        have hx := HX.out
        rw [hn0, List.append_nil] at hx
        have RX := Lib.hid hx
        have hsz4 := R2.size
        clear hn0 hb4 hx
        go_wp2_with fail
        go_roundw
        case rel => exact ⟨R2.alloc R2.size _, k + 1, pre, by omega, by go_num, RX, R.below ((Below.refl _ _).alloc (Nat.le_refl _) _), R3.on hsz4 ((Below.refl _ _).alloc (Nat.le_refl _) _)⟩
        case measure => simp [intOf]; omega
      · have hA := (((Below.refl w4.heap.size w4).alloc (Nat.le_refl _) (.cells #[.int .i64 (y.1 : Nat), .slice A5 y.2.length c5] 46)).alloc (by simp) (.cells #[.int .i64 (y.1 : Nat), .slice A5 y.2.length c5] 46))
        have HA := Lib.hid hA
        have HO4 := Lib.hid (own_off (X := fun _ => False) HOWN.out (.of_below hb4) (fun _ _ => id))
        have HOA := Lib.hid (own_off (X := fun _ => False) HO4.out (.of_below hA) (fun _ _ => id))
        have R2 := hbr.trans (hb4.mono hsz)
        have R3 := (HPr.out.on hsz hb4).on R2.size hA
        have HR2 := Lib.hid (R2.trans (hA.mono R2.size))
        have HR3 := Lib.hid R3
        have HSZ := Lib.hid (Nat.le_trans R2.size hA.size)
        have HY := Lib.hid hy
        have HO5 := Lib.hid ho5
        have HB4 := Lib.hid hb4
        clear hA hb4 hy ho5 R2 R3
        go_wp2_with (at_builtin; refine list_mv rfl _ _ 31 rfl 46 i0 (.agg #[.int .i64 0, .slice none 0 0]) 2 32 Try.underlying31 hi hz0 hz1 hz2 rfl (by decide) w.heap.size _ _ _ rfl HOA.out (some ⟨w4.heap.size + 1, 0, none⟩) 1 1 [.int .i64 (y.1 : Nat), .slice A5 y.2.length c5] rfl (fun h => by cases h) rfl (fun ad had => by injection had with had; subst had; exact cells_at _ _ _ _ (by simp)) (fun u hu => by simp at hu; rcases hu with rfl | rfl <;> rfl) (by unfold maxLen; omega) (by omega) HSZ.out ?_; intro v6 w6 hown6 hgrow6 hmv6)
        have R := Tl.push (F := fun _ => True) (x := y) HVS.out (w1 := w4) (fun z hz => ⟨own_off (X := fun _ => False) (HDS.out z hz).1 (.of_below HB4.out) (fun _ _ => id), fun _ _ => trivial⟩) (own_lo HO5.out hsz) (fun _ _ => trivial) (fun g hg => own_blk HO4.out hg) (by decide) HA.out hgrow6 hown6
        have RX := HX.out
        rw [HY.out] at RX
        have HRX := Lib.hid RX
        have R4 := HR2.out.grown hgrow6 HSZ.out (fun g hg => (HOA.out.lt g hg).1)
        have R5 := HR3.out.off HSZ.out (.of_grown (X := fun i => (Value.slice A7 pre.length c7).ownBlock = some i) hgrow6 (fun _ h => h)) (fun g hg => by
          obtain ⟨ws, _, ho, _⟩ := HR3.out
          exact own_ne ho HOA.out (by decide) hg) (fun g hg h => by have := (HOA.out.lt g h).1; omega)
        clear hgrow6 hmv6 hown6 RX
        go_roundw
        case rel => exact ⟨R4, k + 1, _, by omega, by go_num, HRX, R, R5⟩
        case measure => simp [intOf]; omega
    · have he : k = ps.length := by omega
      have e := hpre.out
      rw [he, List.take_length] at e
      have E := Lib.hid (show pre = allP most l by unfold allP; rw [HP.out, e])
      clear hlt hk
      go_wp2_with fail
      go_ret
      refine ⟨_, rfl, ?_, hbr⟩
      rw [← E.out]
      exact htl

end Go.Proofs.Yteicednlgajpgaa
