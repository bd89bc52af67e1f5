
/-
  slices.BinarySearch and slices.Insert at a row of places in a block of its own (the shelf's contracts, laid by mklay.sh). No condition beyond: at most 2^40 places.
-/
import Derived.Test.YtamdaepeogmboaaDoorJqP
namespace Go.Proofs.YtamdaepeogmboaaDoor
set_option maxRecDepth 4000
open Go.RowKit Go.Maps

theorem Oi.getD {w : World} {g off : Nat} {l : List Int} (h : ∀ j x, l[j]? = some x → w.cell? ⟨g, off + j, none⟩ = some (.int .i64 x)) : ∀ j, j < l.length → w.cell? ⟨g, off + j, none⟩ = some (.int .i64 (l.getD j 0)) := fun j hj => by
  rw [h j _ (List.getElem?_eq_getElem hj), List.getD_eq_getElem?_getD, List.getElem?_eq_getElem hj]
  rfl
set_option maxHeartbeats 2000000 in
/-- Where a place belongs. -/
theorem pbs_any (A : Option Addr) (n c : Nat) (l : List Int) (x : Int) (w : World) (h : Oi w A n c l) (hs : l.Pairwise (· < ·)) (hn : n ≤ 1099511627776) :
    Calls Tryd.prog 43 #[.slice A n c, .int .i64 x] w fun e w' => ∃ ok, e = .returned (.tuple #[.int .i64 ((l.countP (· < x) : Nat) : Int), .bool ok]) ∧ Below w.heap.size w w' := by
  have hl := h.1
  rcases h.2.2.2 with ⟨rfl, h0⟩ | ⟨g, off, cur, rfl, k1, k2, k3, k4⟩
  · have hn0 : n = 0 := by have := h.2.1; omega
    subst hn0
    rw [List.eq_nil_of_length_eq_zero hl]
    clear h hl hs
    go_enter Tryd.func43, Tryd.ntmps43
    go_wp2_with fail
    refine wp_loop_rounds 1 ?_
    rw [rounds_succ]
    go_wp2_with fail
    exact bodyPost_ret (results_tmp2 rfl _ _ _) rfl ⟨_, rfl, Below.refl _ _⟩
  · have hc := Oi.getD (w := w) (g := g) (off := off) (l := l) fun j x hj => by rw [cell_of_row w g _ _ _ _ k1]; exact k4 j x hj
    have hle : (l.take n).Pairwise (· ≤ ·) := by
      rw [List.take_of_length_le (by omega)]
      exact hs.imp fun h => Int.le_of_lt h
    have hcon := Any.slices_BinarySearch_int Tryd.laysNm225 g off n c l x w (by omega) (by omega) hc hle
    rw [List.take_of_length_le (l := l) (i := n) (by omega)] at hcon
    refine Calls.mono hcon ?_
    rintro e w' ⟨rfl, m, rfl⟩
    exact ⟨_, rfl, below_drewN (Below.refl _ _) m⟩

theorem ins_get {l : List Int} {i : Nat} {x y : Int} {j : Nat} (hi : i ≤ l.length) (h : (l.take i ++ x :: l.drop i)[j]? = some y) : (j < i ∧ l[j]? = some y) ∨ (j = i ∧ y = x) ∨ (i < j ∧ l[j - 1]? = some y) := by
  have hl : (l.take i).length = i := by rw [List.length_take]; omega
  rcases Nat.lt_trichotomy j i with hj | hj | hj
  · rw [List.getElem?_append_left (by omega), List.getElem?_take, if_pos hj] at h
    exact .inl ⟨hj, h⟩
  · subst hj
    rw [List.getElem?_append_right (by omega), hl, Nat.sub_self] at h
    injection h with h
    exact .inr (.inl ⟨rfl, h.symm⟩)
  · rw [List.getElem?_append_right (by omega), hl, show j - i = (j - i - 1) + 1 by omega, List.getElem?_cons_succ, List.getElem?_drop] at h
    exact .inr (.inr ⟨hj, by rw [show j - 1 = i + (j - i - 1) by omega]; exact h⟩)
abbrev ivs (l : List Int) : List Value := l.map (Value.int .i64)
theorem ivs_get (l : List Int) (j : Nat) : (ivs l)[j]? = (l[j]?).map (Value.int .i64) := List.getElem?_map
theorem ivs_one (l : List Int) : ∀ v ∈ ivs l, v.oneCell' = true := fun v hv => by
  obtain ⟨x, _, rfl⟩ := List.mem_map.1 hv
  rfl
theorem ivs_some {l : List Int} {j : Nat} {v : Value} (h : (ivs l)[j]? = some v) : ∃ x, l[j]? = some x ∧ v = .int .i64 x := by
  rw [ivs_get] at h
  obtain ⟨x, h1, h2⟩ := Option.map_eq_some_iff.1 h
  exact ⟨x, h1, h2.symm⟩
set_option maxHeartbeats 2000000 in
/-- A place comes into the row. -/
theorem pins_any (A : Option Addr) (n c i z : Nat) (l : List Int) (x : Int) (w : World) (h : Oi w A n c l) (hi : i ≤ n) (hn : n ≤ 1099511627776) (hz : w.heap[z]? = some (.cells #[.int .i64 x] 3 (0, 0))) (hne : (Value.slice A n c).ownBlock ≠ some z) :
    Calls Tryd.prog 44 #[.slice A n c, .int .i64 (i : Int), .slice (some ⟨z, 0, none⟩) 1 1] w fun e w' => ∃ A' c', e = .returned (.slice A' (n + 1) c') ∧ Oi w' A' (n + 1) c' (l.take i ++ x :: l.drop i) ∧ Offs (fun g => (Value.slice A n c).ownBlock = some g) w w' ∧ ∀ g, (Value.slice A' (n + 1) c').ownBlock = some g → (Value.slice A n c).ownBlock = some g ∨ w.heap.size ≤ g := by
  have hl := h.1
  have hlen : (l.take i ++ x :: l.drop i).length = n + 1 := by rw [List.length_append, List.length_cons, List.length_take, List.length_drop]; omega
  have hvs : ∀ j v, ([Value.int .i64 x] : List Value)[j]? = some v → w.cell? ⟨z, 0 + j, none⟩ = some v := fun j v hj => by
    rw [cell_of_row w z _ _ _ _ hz]
    rcases j with _ | j
    · simpa using hj
    · simp at hj
  have h1v : ∀ v ∈ ([Value.int .i64 x] : List Value), v.oneCell' = true := fun v hv => by rw [List.mem_singleton] at hv; subst hv; rfl
  have hfz : ∀ {g : Nat} {cur : Array Value} (k : Nat), w.heap[g]? = some (.cells cur 3 (0, 0)) → w.frozen? ⟨g, k, none⟩ = false := fun k hg => frozen_of_row w _ k _ _ hg
  by_cases hroom : n + 1 ≤ c
  · -- there is room
    rcases h.2.2.2 with ⟨rfl, h0⟩ | ⟨g, off, cur, rfl, k1, k2, k3, k4⟩
    · omega
    · have hgz : z ≠ g := fun e => hne (by rw [e]; rfl)
      have hsp : ∀ j, j < n + 1 → (w.cell? ⟨g, off + j, none⟩).isSome = true := fun j hj => by
        rw [cell_of_row w g _ _ _ _ k1, Array.getElem?_eq_getElem (by omega)]
        rfl
      have hcs : ∀ j v, (ivs l)[j]? = some v → w.cell? ⟨g, off + j, none⟩ = some v := fun j v hj => by
        obtain ⟨y, hy, rfl⟩ := ivs_some hj
        rw [cell_of_row w g _ _ _ _ k1]
        exact k4 j y hy
      have own : ∀ g', (Value.slice (some ⟨g, off, none⟩) (n + 1) c).ownBlock = some g' → (Value.slice (some ⟨g, off, none⟩) n c).ownBlock = some g' := fun _ e => e
      by_cases hin : i < n
      · have hcon := Any2.slices_Insert_int_shift Tryd.laysNm221 g off n c i z 0 1 1 (ivs l) [.int .i64 x] w hin (by omega) hroom h.2.2.1 hgz (by rw [List.length_map]; exact hl) rfl hcs hsp (fun j _ => hfz _ k1) hvs (ivs_one l) h1v 3 3 1 cur.size (shape_cells hz) (shape_cells k1) (by omega) (hfz _ hz) (hfz _ hz)
        refine Calls.mono hcon ?_
        rintro e w' ⟨rfl, rfl⟩
        have d1 : w.drew.heap[g]? = some (.cells cur 3 (0, 0)) := k1
        obtain ⟨c1, e1, s1, g1⟩ := heap_setCells (ivs l |>.drop i) (off + (i + 1)) w.drew cur d1
        obtain ⟨c2, e2, s2, g2⟩ := heap_setCells [Value.int .i64 x] (off + i) _ c1 e1
        refine ⟨_, _, rfl, ⟨hlen, hroom, h.2.2.1, .inr ⟨g, off, c2, rfl, e2, by omega, by omega, fun j y hj => ?_⟩⟩, ((Offs.of_below (X := fun g' => (Value.slice (some ⟨g, off, none⟩) n c).ownBlock = some g') (Below.refl w.heap.size w).drew).trans (offs_setCells (X := fun g' => (Value.slice (some ⟨g, off, none⟩) n c).ownBlock = some g') rfl _ _ _) (fun _ h => h) (fun _ _ h => h)).trans (offs_setCells (X := fun g' => (Value.slice (some ⟨g, off, none⟩) n c).ownBlock = some g') rfl _ _ _) (fun _ h => h) (fun _ _ h => h), fun g' e => .inl (own g' e)⟩
        have hjl := (List.getElem?_eq_some_iff.1 hj).1
        rw [hlen] at hjl
        rw [g2]
        have hdl : ((ivs l).drop i).length = n - i := by rw [List.length_drop, List.length_map, hl]
        rcases ins_get (by omega) hj with ⟨a1, a2⟩ | ⟨rfl, rfl⟩ | ⟨a1, a2⟩
        · rw [if_neg (by omega), g1, if_neg (by omega)]
          exact k4 j y a2
        · rw [if_pos ⟨Nat.le_refl _, by simp, by omega⟩, Nat.sub_self]
          rfl
        · rw [if_neg (by simp; omega), g1, if_pos ⟨by omega, by rw [hdl]; omega, by omega⟩, List.getElem?_drop, ivs_get, show i + (off + j - (off + (i + 1))) = j - 1 by omega, a2]
          rfl
      · have hin' : i = n := by omega
        subst hin'
        have hcon := Any2.slices_Insert_int_end_room Tryd.laysNm221 g off i c z 0 1 1 [.int .i64 x] w (by omega) hroom h.2.2.1 rfl (fun j hj => by rw [Nat.add_assoc]; exact hsp _ (by omega)) (fun j _ => hfz _ k1) hvs h1v
        refine Calls.mono hcon ?_
        rintro e w' ⟨rfl, rfl⟩
        obtain ⟨c2, e2, s2, g2⟩ := heap_setCells [Value.int .i64 x] (off + i) w cur k1
        refine ⟨_, _, rfl, ⟨hlen, hroom, h.2.2.1, .inr ⟨g, off, c2, rfl, e2, by omega, by omega, fun j y hj => ?_⟩⟩, offs_setCells (X := fun g' => (Value.slice (some ⟨g, off, none⟩) i c).ownBlock = some g') rfl _ _ _, fun g' e => .inl (own g' e)⟩
        have hjl := (List.getElem?_eq_some_iff.1 hj).1
        rw [hlen] at hjl
        rw [g2]
        rcases ins_get (by omega) hj with ⟨a1, a2⟩ | ⟨rfl, rfl⟩ | ⟨a1, a2⟩
        · rw [if_neg (by omega)]
          exact k4 j y a2
        · rw [if_pos ⟨Nat.le_refl _, by simp, by omega⟩, Nat.sub_self]
          rfl
        · omega
  · -- a new row
    have hcap : n + 1 ≤ grownCap w (n + 1) c 3 := grownCap_ge _ _ _ _
    have hcapm : grownCap w (n + 1) c 3 ≤ 9223372036854775807 := grownCap_le_maxLen _ _ _ _ (by unfold maxLen; omega)
    by_cases hin : i < n
    · obtain ⟨g, off, cur, rfl, k1, k2, k3, k4⟩ := h.cells (by omega)
      have hcs : ∀ j v, (ivs l)[j]? = some v → w.cell? ⟨g, off + j, none⟩ = some v := fun j v hj => by
        obtain ⟨y, hy, rfl⟩ := ivs_some hj
        exact k4 j y hy
      have hcon := Any2.slices_Insert_int_grow Tryd.laysNm221 g off n c i z 0 1 1 (ivs l) [.int .i64 x] w hin (by omega) h.2.1 (by omega) (by omega) (by rw [List.length_map]; exact hl) rfl hcs hvs (ivs_one l) h1v
      refine Calls.mono hcon ?_
      rintro e w' ⟨rfl, rfl⟩
      generalize hcc : grownCap w (n + 1) c 3 = cc at hcap hcapm
      have hcc' : grownCap w (n + 1) c (Tryd.laysNm221_ren.t 3) = cc := hcc
      rw [hcc']
      obtain ⟨arr, harr⟩ : ∃ arr : Array Value, arr = ((ivs l).take i).toArray ++ Builtin.zeroCells (Value.int .i64 0).cells (n + 1 - i) ++ Builtin.zeroCells (Value.int .i64 0).cells (cc - (n + 1)) := ⟨_, rfl⟩
      have hsz : arr.size = cc := by
        rw [harr]
        simp [size_zeroCells, Value.cells]
        omega
      have hpre : ∀ j y, j < i → l[j]? = some y → arr[j]? = some (.int .i64 y) := fun j y hj hy => by
        have : ((ivs l).take i).toArray.size = i := by simp; omega
        rw [harr, Array.append_assoc, Array.getElem?_append_left (by omega)]
        simp [hj, hy]
      rw [← harr]
      have d1 : (w.alloc (.cells arr (Tryd.laysNm221_ren.t 3))).drew.heap[w.heap.size]? = some (.cells arr 3 (0, 0)) := heap_alloc_new w _
      obtain ⟨c1, e1, s1, g1⟩ := heap_setCells [Value.int .i64 x] i _ arr d1
      have d2 : ((w.alloc (.cells arr (Tryd.laysNm221_ren.t 3))).drew.setCells w.heap.size i [Value.int .i64 x]).drew.heap[w.heap.size]? = some (.cells c1 3 (0, 0)) := e1
      obtain ⟨c2, e2, s2, g2⟩ := heap_setCells ((ivs l).drop i) (i + 1) _ c1 d2
      have o1 : Offs (fun g' => g' = w.heap.size) w (w.alloc (.cells arr (Tryd.laysNm221_ren.t 3))).drew := .of_below ((Below.refl _ _).alloc (Nat.le_refl _) _).drew
      have o2 := o1.trans (offs_setCells (X := fun g' => g' = w.heap.size) rfl [Value.int .i64 x] i _) (fun _ h => h) (fun _ _ h => h)
      have o3 : Offs (fun g' => g' = w.heap.size) w ((w.alloc (.cells arr (Tryd.laysNm221_ren.t 3))).drew.setCells w.heap.size i [Value.int .i64 x]).drew := o2.trans (Offs.of_below (X := fun g' => g' = w.heap.size) (Below.refl _ _).drew) (fun _ h => h) (fun _ _ h => h)
      have o4 := o3.trans (offs_setCells (X := fun g' => g' = w.heap.size) rfl ((ivs l).drop i) (i + 1) _) (fun _ h => h) (fun _ _ h => h)
      refine ⟨_, _, rfl, ⟨hlen, hcap, hcapm, .inr ⟨w.heap.size, 0, c2, rfl, e2, by omega, by omega, fun j y hj => ?_⟩⟩, o4.more fun k hk e => by omega, fun g' e => .inr (Nat.le_of_eq (Option.some.inj e))⟩
      have hjl := (List.getElem?_eq_some_iff.1 hj).1
      rw [hlen] at hjl
      rw [Nat.zero_add, g2]
      have hdl : ((ivs l).drop i).length = n - i := by rw [List.length_drop, List.length_map, hl]
      rcases ins_get (by omega) hj with ⟨a1, a2⟩ | ⟨rfl, rfl⟩ | ⟨a1, a2⟩
      · rw [if_neg (by omega), g1, if_neg (by omega)]
        exact hpre j y a1 a2
      · rw [if_neg (by omega), g1, if_pos ⟨Nat.le_refl _, by simp, by omega⟩, Nat.sub_self]
        rfl
      · rw [if_pos ⟨by omega, by rw [hdl]; omega, by omega⟩, List.getElem?_drop, ivs_get, show i + (j - (i + 1)) = j - 1 by omega, a2]
        rfl
    · have hin' : i = n := by omega
      subst hin'
      have hcon := Any2.slices_Insert_int_end_grow Tryd.laysNm221 A i c z 0 1 1 (ivs l) [.int .i64 x] w (by omega) h.2.1 (by omega) (by omega) (by rw [List.length_map]; exact hl) rfl (fun e => by
        rcases h.2.2.2 with ⟨_, h0⟩ | ⟨g, off, cur, e2, _⟩
        · have := h.2.1; omega
        · rw [e] at e2; cases e2) (fun a ha j v hj => by
        obtain ⟨y, hy, rfl⟩ := ivs_some hj
        have hjl := (List.getElem?_eq_some_iff.1 hy).1
        obtain ⟨g, off, cur, e2, k1, k2, k3, k4⟩ := h.cells (by omega)
        rw [ha] at e2
        injection e2 with e2
        subst e2
        have u3 : w.cell? ((⟨g, off, none⟩ : Addr).add j) = w.cell? ⟨g, off + j, none⟩ := by
          by_cases h0 : j = 0
          · rw [h0]; simp [Addr.add]
          · simp [Addr.add, h0]
        rw [u3]
        exact k4 j y hy) hvs h1v
      refine Calls.mono hcon ?_
      rintro e w' ⟨rfl, rfl⟩
      generalize hcc : grownCap w (i + 1) c 3 = cc at hcap hcapm
      have hcc' : grownCap w (i + 1) c (Tryd.laysNm221_ren.t 3) = cc := hcc
      rw [hcc']
      obtain ⟨arr, harr⟩ : ∃ arr : Array Value, arr = (ivs l ++ [Value.int .i64 x]).toArray ++ Builtin.zeroCells (Value.int .i64 0).cells (cc - (i + 1)) := ⟨_, rfl⟩
      have hsz : arr.size = cc := by
        rw [harr]
        simp [size_zeroCells, Value.cells]
        omega
      rw [← harr]
      refine ⟨_, _, rfl, ⟨hlen, hcap, hcapm, .inr ⟨w.heap.size, 0, arr, rfl, heap_alloc_new w.drew _, by omega, by omega, fun j y hj => ?_⟩⟩, .of_below (((Below.refl w.heap.size w).drew).alloc (Nat.le_refl _) _), fun g' e => .inr (Nat.le_of_eq (Option.some.inj e))⟩
      have hjl := (List.getElem?_eq_some_iff.1 hj).1
      rw [hlen] at hjl
      have hsz2 : (ivs l ++ [Value.int .i64 x]).toArray.size = i + 1 := by simp; omega
      rw [Nat.zero_add, harr, Array.getElem?_append_left (by omega), List.getElem?_toArray]
      have hml : (ivs l).length = i := by rw [List.length_map]; exact hl
      rcases ins_get (by omega) hj with ⟨a1, a2⟩ | ⟨rfl, rfl⟩ | ⟨a1, a2⟩
      · rw [List.getElem?_append_left (by omega), ivs_get, a2]
        rfl
      · rw [List.getElem?_append_right (by omega), hml, Nat.sub_self]
        rfl
      · omega
end Go.Proofs.YtamdaepeogmboaaDoor
