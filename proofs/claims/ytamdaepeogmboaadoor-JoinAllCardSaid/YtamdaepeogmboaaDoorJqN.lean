
/-
  The program's New of layer 24, and what Feed calls beside. No condition.
-/
import Derived.Test.YtamdaepeogmboaaDoorJqK
import Derived.Test.YtamdaepeogmboaaDoorJoiH
import Derived.Test.YtamdaepeogmboaaDoorFrgT
import Derived.Deep.RegionHeld3
import Derived.Deep.OwnRows
namespace Go.Proofs.YtamdaepeogmboaaDoor
set_option maxRecDepth 4000
open Go.RowKit Go.Maps

theorem pright_any (n g : Int) (w : World) :
    Calls Tryd.prog 20 #[.int .i64 n, .int .i64 g] w fun e w' => e = .returned (.bool (decide (1 ≤ n) && decide (n ≤ g))) ∧ w = w' := by
  by_cases h : 1 ≤ n
  · have h' : decide (1 ≤ n) = true := by simp [h]
    go_enter Tryd.func20, Tryd.ntmps20
    go_wp2
    go_ret
    exact ⟨by rw [h']; simp, rfl⟩
  · have h' : decide (1 ≤ n) = false := by simp [h]
    go_enter Tryd.func20, Tryd.ntmps20
    go_wp2
    go_ret
    exact ⟨by simp, rfl⟩
theorem minOf_le {zs : List Int} : ∀ x ∈ zs, Lib.minOf zs ≤ x := by
  have key : ∀ (l : List Int) (a : Int), l.foldl min a ≤ a ∧ ∀ x ∈ l, l.foldl min a ≤ x := by
    intro l
    induction l with
    | nil => intro a; exact ⟨Int.le_refl _, fun x hx => by cases hx⟩
    | cons y l ih =>
      intro a
      obtain ⟨h1, h2⟩ := ih (min a y)
      refine ⟨?_, fun x hx => ?_⟩
      · show l.foldl min (min a y) ≤ a
        omega
      · show l.foldl min (min a y) ≤ x
        rcases List.mem_cons.1 hx with rfl | hx
        · omega
        · exact h2 x hx
  exact (key zs _).2
theorem minOf_mem {zs : List Int} (h : 0 < zs.length) : Lib.minOf zs ∈ zs := by
  have key : ∀ (l : List Int) (a : Int), l.foldl min a = a ∨ l.foldl min a ∈ l := by
    intro l
    induction l with
    | nil => intro a; exact .inl rfl
    | cons y l ih =>
      intro a
      have h0 : (y :: l).foldl min a = l.foldl min (min a y) := rfl
      rw [h0]
      rcases ih (min a y) with e | e
      · rw [e]
        rcases Int.le_total a y with h | h
        · exact .inl (Int.min_eq_left h)
        · exact .inr (by rw [Int.min_eq_right h]; exact List.mem_cons_self)
      · exact .inr (List.mem_cons_of_mem _ e)
  cases zs with
  | nil => simp at h
  | cons a l =>
    rcases key (a :: l) a with e | e
    · have e' : Lib.minOf (a :: l) = a := e
      rw [e']; exact List.mem_cons_self
    · exact e
theorem minOf_least {l : List Int} (h : 0 < l.length) : Lib.minOf (l.map (· + 1)) = jleast l + 1 := by
  have h1 := minOf_mem (zs := l.map (· + 1)) (by rw [List.length_map]; exact h)
  obtain ⟨x, hx, e⟩ := List.mem_map.1 h1
  have h2 := jleast_le hx
  have h3 := minOf_le (zs := l.map (· + 1)) (jleast l + 1) (List.mem_map.2 ⟨_, jleast_mem h, rfl⟩)
  omega
theorem pmin_any {w : World} {b : Nat} {j : Jn} {q : Jq} {ol : List Int} (h : Pw w b j q ol) (hl : 0 < j.last.length) (hm : j.last.length ≤ 1073741824) :
    Calls Tryd.prog 30 #[.slice (some ⟨q.lb, 0, none⟩) j.last.length j.last.length] w fun e w' => e = .returned (.int .i64 (jleast j.last + 1)) ∧ w' = w := by
  have hcon := Any.slices_Min_int Tryd.lays114 q.lb 0 j.last.length j.last.length (j.last.map (· + 1)) w hl (by rw [List.length_map]; exact Nat.le_refl _) (by omega) (fun i hi => by
    rw [List.length_map] at hi
    rw [cell_of_row w q.lb _ _ _ _ h.lk]
    simp [hi])
  rw [List.take_of_length_le (by rw [List.length_map]; exact Nat.le_refl _), minOf_least hl] at hcon
  exact hcon
set_option maxHeartbeats 4000000 in
/-- The pointer and the error's number. -/
theorem pnew_bad (s : Bool) (links room most : Int) (w : World) (h : jnewR links room most = false) :
    Calls Tryd.prog 8 #[.bool s, .int .i64 links, .int .i64 room, .int .i64 most] w fun e w' => e = .returned (.tuple #[.pointer none, .int .i64 1]) ∧ Below w.heap.size w w' := by
  have h1 := pright_any links 16
  have h2 := pright_any room 4096
  have h3 := pright_any most 1048576
  obtain ⟨b1, e1⟩ : ∃ b, (decide (1 ≤ links) && decide (links ≤ 16)) = b := ⟨_, rfl⟩
  obtain ⟨b2, e2⟩ : ∃ b, (decide (1 ≤ room) && decide (room ≤ 4096)) = b := ⟨_, rfl⟩
  obtain ⟨b3, e3⟩ : ∃ b, (decide (1 ≤ most) && decide (most ≤ 1048576)) = b := ⟨_, rfl⟩
  rw [e1] at h1
  rw [e2] at h2
  rw [e3] at h3
  have hb : (b1 && b2 && b3) = false := by
    rw [← e1, ← e2, ← e3]
    unfold jnewR at h
    rw [← h]
    simp [Bool.and_assoc]
  clear h e1 e2 e3
  cases b1 <;> cases b2 <;> cases b3 <;> first
    | (cases hb; done)
    | (go_enter Tryd.func8, Tryd.ntmps8
       go_wp2_with (first
         | (go_at_call 20; (with_reducible refine (h1 _).mono ?_); rintro e w1 ⟨rfl, rfl⟩; dsimp only)
         | (go_at_call 20; (with_reducible refine (h2 _).mono ?_); rintro e w1 ⟨rfl, rfl⟩; dsimp only)
         | (go_at_call 20; (with_reducible refine (h3 _).mono ?_); rintro e w1 ⟨rfl, rfl⟩; dsimp only))
       exact bodyPost_ret (results_tmp2 rfl _ _ _) rfl ⟨rfl, Below.refl _ _⟩)
theorem made_links (links : Nat) : madeCells #[Value.int .i64 0] links = lkv (List.replicate links (-1)) := by
  apply Array.ext'
  apply List.ext_getElem
  · simp [madeCells]
  · intro i h1 h2
    have e : i % 1 = 0 := Nat.mod_one i
    simp [madeCells, e]
/-- The joiner's box is made. -/
theorem pnew_end {w1 : World} {lb mb : Nat} (s : Bool) (links : Nat) (room most : Int) (h1 : w1.heap[lb]? = some (.cells (madeCells #[.int .i64 0] links) 3 (0, 0))) (h2 : w1.heap[mb]? = some (.map #[] 0)) :
    Pw (w1.alloc (.cells #[.int .i64 0, .int .i64 (frmod s : Int), .int .i64 room, .int .i64 most, .slice (some ⟨lb, 0, none⟩) links links, .int .i64 0, .map (some mb), .slice none 0 0, .slice none 0 0] 72 (0, 0))) w1.heap.size (jnew s links room most) ⟨lb, mb, 0, none, 0, 0, none, 0, 0, fun _ => True⟩ [] := by
  have hl : (jnew s links room most).last = List.replicate links (-1) := rfl
  have B : ∀ o, Below w1.heap.size w1 (w1.alloc o) := fun o => (Below.refl _ _).alloc (Nat.le_refl _) o
  refine ⟨?_, ?_, ?_, Oi.nil _, Srt.nil, World.ownsRow_nil _ _ _ _, rfl, fun e => by cases e⟩
  · have := heap_alloc_new w1 (.cells #[.int .i64 0, .int .i64 (frmod s : Int), .int .i64 room, .int .i64 most, .slice (some ⟨lb, 0, none⟩) links links, .int .i64 0, .map (some mb), .slice none 0 0, .slice none 0 0] 72 (0, 0))
    unfold Px
    rw [this, hl, List.length_replicate]
    rfl
  · rw [hl, ← made_links]
    exact ((B _).block _ (Array.getElem?_eq_some_iff.1 h1).1).trans h1
  · have h3 := ((B (.cells #[.int .i64 0, .int .i64 (frmod s : Int), .int .i64 room, .int .i64 most, .slice (some ⟨lb, 0, none⟩) links links, .int .i64 0, .map (some mb), .slice none 0 0, .slice none 0 0] 72 (0, 0))).block _ (Array.getElem?_eq_some_iff.1 h2).1).trans h2
    exact ⟨_, ⟨#[], 0, h3, ⟨by simp, Go.MapKept.stamped_empty 0, by simp⟩, Nat.le_refl _, rfl⟩, fun _ => rfl⟩
theorem pnew_fin {w w1 : World} {lb mb B : Nat} (s : Bool) (links : Nat) (room most : Int) (hb : Below w.heap.size w w1) (h1 : w1.heap[lb]? = some (.cells (madeCells #[.int .i64 0] links) 3 (0, 0))) (h2 : w1.heap[mb]? = some (.map #[] 0)) (g1 : w.heap.size ≤ lb) (g2 : w.heap.size ≤ mb) (hB : B = w1.heap.size) :
    ∃ b q, Ending.returned (.tuple #[.pointer (some ⟨B, 0, none⟩), .int .i64 0]) = .returned (.tuple #[.pointer (some ⟨b, 0, none⟩), .int .i64 0]) ∧ Pw (w1.alloc (.cells #[.int .i64 0, .int .i64 (frmod s : Int), .int .i64 room, .int .i64 most, .slice (some ⟨lb, 0, none⟩) links links, .int .i64 0, .map (some mb), .slice none 0 0, .slice none 0 0] 72 (0, 0))) b (jnew s links room most) q [] ∧ Below w.heap.size w (w1.alloc (.cells #[.int .i64 0, .int .i64 (frmod s : Int), .int .i64 room, .int .i64 most, .slice (some ⟨lb, 0, none⟩) links links, .int .i64 0, .map (some mb), .slice none 0 0, .slice none 0 0] 72 (0, 0))) ∧ (∀ i, q.own b i → w.heap.size ≤ i) ∧ q.mn = 0 ∧ ∀ i, q.fr i := by
  subst hB
  refine ⟨_, _, rfl, pnew_end s links room most h1 h2, hb.alloc hb.size _, ?_, rfl, fun _ => trivial⟩
  rintro i (rfl | rfl | rfl | e | e)
  · exact hb.size
  · exact g1
  · exact g2
  · cases e
  · cases e
theorem two_a (w : World) (o o' : Obj) : ((w.alloc o).alloc o').heap[w.heap.size]? = some o ∧ ((w.alloc o).alloc o').heap[w.heap.size + 1]? = some o' := by
  refine ⟨(((Below.refl _ _).alloc (B := (w.alloc o).heap.size) (Nat.le_refl _) o').block _ (by simp)).trans (heap_alloc_new w o), ?_⟩
  have := heap_alloc_new (w.alloc o) o'
  simpa using this
theorem al1 {w w2 : World} (h : Below w.heap.size w w2) (o : Obj) : Below w.heap.size w (w2.alloc o) := h.alloc h.size o
theorem al2 {w w2 : World} (h : Below w.heap.size w w2) (o o' : Obj) : Below w.heap.size w ((w2.alloc o).alloc o') := al1 (al1 h o) o'
theorem kept1 {w2 : World} {b : Nat} {o : Obj} (h : w2.heap[b]? = some o) (o' : Obj) : (w2.alloc o').heap[b]? = some o := (((Below.refl _ _).alloc (Nat.le_refl _) o').block _ (Array.getElem?_eq_some_iff.1 h).1).trans h
theorem lt1 (w : World) (o : Obj) : w.heap.size < (w.alloc o).drew.heap.size := by show w.heap.size < (w.alloc o).heap.size; simp
theorem lt2 (w : World) (o o' : Obj) : w.heap.size < ((w.alloc o).alloc o').drew.heap.size ∧ w.heap.size + 1 < ((w.alloc o).alloc o').drew.heap.size := by
  show w.heap.size < ((w.alloc o).alloc o').heap.size ∧ w.heap.size + 1 < ((w.alloc o).alloc o').heap.size
  simp only [World.size_alloc]
  omega
set_option maxHeartbeats 8000000 in
theorem pnew_any (s : Bool) (links : Nat) (room most : Int) (w : World) (hT : TabF w) (h1 : 0 < links) (h2 : links ≤ 16) (h3 : 1 ≤ room) (h4 : room ≤ 4096) (h5 : 1 ≤ most) (h6 : most ≤ 1048576) :
    Calls Tryd.prog 8 #[.bool s, .int .i64 (links : Int), .int .i64 room, .int .i64 most] w fun e w' => ∃ b q, e = .returned (.tuple #[.pointer (some ⟨b, 0, none⟩), .int .i64 0]) ∧ Pw w' b (jnew s links room most) q [] ∧ Below w.heap.size w w' ∧ (∀ i, q.own b i → w.heap.size ≤ i) ∧ q.mn = 0 ∧ ∀ i, q.fr i := by
  have r1 := pright_any (links : Int) 16
  have r2 := pright_any room 4096
  have r3 := pright_any most 1048576
  have d1 : (decide (1 ≤ (links : Int)) && decide ((links : Int) ≤ 16)) = true := by simp; omega
  have d2 : (decide (1 ≤ room) && decide (room ≤ 4096)) = true := by simp; omega
  have d3 : (decide (1 ≤ most) && decide (most ≤ 1048576)) = true := by simp; omega
  rw [d1] at r1
  rw [d2] at r2
  rw [d3] at r3
  have hmm := @run_makeMap Tryd.prog
  have hmk := run_make_row' (P := Tryd.prog) 28 3 (.int .i64 0) 8 Tryd.underlying28 int_info rfl .i64 .i64 links (by omega) (by omega)
  have HTT := Lib.hid hT
  clear hT d1 d2 d3 h1 h2 h3 h4 h5 h6
  go_enter Tryd.func8, Tryd.ntmps8
  go_upto_region 3 with (first
    | (go_at_call 20; (with_reducible refine (r1 _).mono ?_); rintro e w1 ⟨rfl, rfl⟩; dsimp only)
    | (go_at_call 20; (with_reducible refine (r2 _).mono ?_); rintro e w1 ⟨rfl, rfl⟩; dsimp only)
    | (go_at_call 20; (with_reducible refine (r3 _).mono ?_); rintro e w1 ⟨rfl, rfl⟩; dsimp only))
  go_region_held3 (fun _ => True) (trivial) (first
    | (go_at_call 21; (with_reducible refine (frmod_any s _ (HTT.out.below (Below.refl w.heap.size w).drew)).mono ?_); rintro e w2 ⟨rfl, hb⟩; have NB := Lib.hid ((Below.refl w.heap.size w).drew.trans hb); clear hb; dsimp only)
    | (go_at_call 21; (with_reducible refine (frmod_any s _ (HTT.out.below (al1 (Below.refl w.heap.size w) _).drew)).mono ?_); rintro e w2 ⟨rfl, hb⟩; have NB := Lib.hid ((al1 (Below.refl w.heap.size w) _).drew.trans (hb.mono (Nat.le_of_lt (lt1 _ _)))); have E1 := Lib.hid ((hb.block w.heap.size (lt1 _ _)).trans (heap_alloc_new w _)); clear hb; dsimp only)
    | (go_at_call 21; (with_reducible refine (frmod_any s _ (HTT.out.below (al2 (Below.refl w.heap.size w) _ _).drew)).mono ?_); rintro e w2 ⟨rfl, hb⟩; have NB := Lib.hid ((al2 (Below.refl w.heap.size w) _ _).drew.trans (hb.mono (Nat.le_of_lt (lt2 _ _ _).1))); have E1 := Lib.hid ((hb.block w.heap.size (lt2 _ _ _).1).trans (two_a w _ _).1); have E2 := Lib.hid ((hb.block (w.heap.size + 1) (lt2 _ _ _).2).trans (two_a w _ _).2); clear hb; dsimp only))
  all_goals
    go_wp2_with fail
    refine bodyPost_ret (results_tmp2 rfl _ _ _) rfl ?_
    first
      | exact pnew_fin s links room most (al2 NB.out _ _) (two_a _ _ _).1 (two_a _ _ _).2 NB.out.size (Nat.le_succ_of_le NB.out.size) (by simp)
      | exact pnew_fin s links room most (al2 NB.out _ _) (two_a _ _ _).2 (two_a _ _ _).1 (Nat.le_succ_of_le NB.out.size) NB.out.size (by simp)
      | exact pnew_fin s links room most (al1 NB.out _) (kept1 E1.out _) (heap_alloc_new _ _) (Nat.le_refl _) NB.out.size (by simp)
      | exact pnew_fin s links room most (al1 NB.out _) (heap_alloc_new _ _) (kept1 E1.out _) NB.out.size (Nat.le_refl _) (by simp)
      | exact pnew_fin s links room most NB.out E1.out E2.out (Nat.le_refl _) (Nat.le_succ _) rfl
      | exact pnew_fin s links room most NB.out E2.out E1.out (Nat.le_succ _) (Nat.le_refl _) rfl
end Go.Proofs.YtamdaepeogmboaaDoor
