
/-
  The program's joiner of layer 24 in memory: a row of places in a block of its own, pieces by places in a map, the joiner behind a pointer. No condition.
-/
import Derived.Test.YtamdaepeogmboaaDoorJqM
import Derived.Test.YtamdaepeogmboaaDoorJqL
import Derived.Test.YtamdaepeogmboaaDoorJoiO
import Derived.Maps.OwnSet
namespace Go.Proofs.YtamdaepeogmboaaDoor
set_option maxRecDepth 4000
open Go.RowKit Go.Maps

/-- Cells are laid one behind the other. -/
theorem heap_setCells {b : Nat} {T : TypeId} (vs : List Value) : ∀ (o : Nat) (w : World) (cur : Array Value), w.heap[b]? = some (.cells cur T (0, 0)) →
    ∃ cur', (w.setCells b o vs).heap[b]? = some (.cells cur' T (0, 0)) ∧ cur'.size = cur.size ∧ ∀ k, cur'[k]? = if o ≤ k ∧ k < o + vs.length ∧ k < cur.size then vs[k - o]? else cur[k]? := by
  induction vs with
  | nil =>
    intro o w cur h
    refine ⟨cur, h, rfl, fun k => ?_⟩
    rw [if_neg (by simp; omega)]
  | cons v r ih =>
    intro o w cur h
    have h1 := Go.heap_setCell_same w b o cur T v h
    obtain ⟨cur', g1, g2, g3⟩ := ih (o + 1) _ _ h1
    refine ⟨cur', g1, by rw [g2]; simp, fun k => ?_⟩
    rw [g3 k]
    by_cases hk : k = o
    · subst hk
      rw [if_neg (by omega)]
      by_cases hs : k < cur.size
      · rw [if_pos ⟨Nat.le_refl _, by simp, hs⟩]
        simp [hs]
      · rw [if_neg (by omega), Array.getElem?_eq_none (by simp; omega), Array.getElem?_eq_none (by omega)]
    · by_cases hin : o ≤ k ∧ k < o + (v :: r).length ∧ k < cur.size
      · rw [if_pos hin, if_pos (by simp at hin ⊢; omega)]
        rw [show k - o = (k - (o + 1)) + 1 by omega, List.getElem?_cons_succ]
      · rw [if_neg hin, if_neg (by simp at hin ⊢; omega)]
        rw [Array.getElem?_setIfInBounds_ne (Ne.symm hk)]
theorem offs_setCells {X : Nat → Prop} {b : Nat} (hb : X b) (vs : List Value) : ∀ (o : Nat) (w : World), Offs X w (w.setCells b o vs) := by
  induction vs with
  | nil => intro o w; exact Offs.refl X w
  | cons v r ih => intro o w; exact (Offs.set w b o v hb).trans (ih (o + 1) _) (fun _ h => h) (fun _ _ h => h)
theorem shape_cells {w : World} {b : Nat} {cur : Array Value} {T : TypeId} (h : w.heap[b]? = some (.cells cur T (0, 0))) : w.shape? b = some (T, cur.size) := by
  simp [World.shape?, h]

/-- A row of numbers in a block of its own: n of them from the address on, room for c. -/
def Oi (w : World) (A : Option Addr) (n c : Nat) (l : List Int) : Prop :=
  l.length = n ∧ n ≤ c ∧ c ≤ 9223372036854775807 ∧ ((A = none ∧ c = 0) ∨ ∃ g off cur, A = some ⟨g, off, none⟩ ∧ w.heap[g]? = some (.cells cur 3 (0, 0)) ∧ off + c ≤ cur.size ∧ 0 < cur.size ∧ ∀ j x, l[j]? = some x → cur[off + j]? = some (.int .i64 x))
section
variable {w w' : World} {A : Option Addr} {n c : Nat} {l : List Int}
theorem Oi.lt (h : Oi w A n c l) {g : Nat} (hg : (Value.slice A n c).ownBlock = some g) : g < w.heap.size := by
  obtain ⟨-, -, -, ⟨rfl, -⟩ | ⟨g', off, cur, rfl, h1, -⟩⟩ := h
  · cases hg
  · injection hg with hg
    subst hg
    exact (Array.getElem?_eq_some_iff.1 h1).1
theorem Oi.blk (h : Oi w A n c l) {g : Nat} (hg : (Value.slice A n c).ownBlock = some g) : ∃ cur, w.heap[g]? = some (.cells cur 3 (0, 0)) := by
  obtain ⟨-, -, -, ⟨rfl, -⟩ | ⟨g', off, cur, rfl, h1, -⟩⟩ := h
  · cases hg
  · injection hg with hg
    subst hg
    exact ⟨cur, h1⟩
theorem Oi.off {X : Nat → Prop} (h : Oi w A n c l) (ho : Offs X w w') (hX : ∀ g, (Value.slice A n c).ownBlock = some g → ¬ X g) : Oi w' A n c l := by
  refine ⟨h.1, h.2.1, h.2.2.1, ?_⟩
  rcases h.2.2.2 with h0 | ⟨g, off, cur, rfl, h1, h2⟩
  · exact .inl h0
  · exact .inr ⟨g, off, cur, rfl, (ho.block g (Array.getElem?_eq_some_iff.1 h1).1 (hX g rfl)).trans h1, h2⟩
/-- The first of them, the next ones. -/
theorem Oi.cells (h : Oi w A n c l) (hn : 0 < n) : ∃ g off cur, A = some ⟨g, off, none⟩ ∧ w.heap[g]? = some (.cells cur 3 (0, 0)) ∧ off + c ≤ cur.size ∧ 0 < cur.size ∧ ∀ j x, l[j]? = some x → w.cell? ⟨g, off + j, none⟩ = some (.int .i64 x) := by
  obtain ⟨h1, h2, h3, ⟨rfl, h4⟩ | ⟨g, off, cur, rfl, h4, h5, h6, h7⟩⟩ := h
  · omega
  · exact ⟨g, off, cur, rfl, h4, h5, h6, fun j x hx => by rw [cell_of_row w g _ _ _ _ h4]; exact h7 j x hx⟩
theorem Oi.nil (w : World) : Oi w none 0 0 [] := ⟨rfl, Nat.le_refl _, by omega, .inl ⟨rfl, rfl⟩⟩
end

/-- An address as a datum; a piece as one. -/
def adE : Option Addr → Option (DataW Unit)
  | none => some .nil
  | some ⟨b, o, none⟩ => some (.agg [.lit (.int .i64 (b : Int)), .lit (.int .i64 (o : Int))])
  | _ => none
theorem adE_inj {A B : Option Addr} {d : DataW Unit} (h : adE A = some d) (k : adE B = some d) : A = B := by
  unfold adE at h k
  split at h <;> split at k <;> first | rfl | (simp at h k; try (subst h; simp at k); try omega)
  all_goals (simp_all)
abbrev pvV (b e : Bool) (n : Int) (A : Option Addr) (l c : Nat) : Value := .agg #[.bool b, .bool e, .int .i64 n, .slice A l c]
def pcE : Value → Option (DataW Unit × List MemPlace)
  | .agg ⟨[.bool b, .bool e, .int .i64 n, .slice A l c]⟩ => (adE A).map fun d => (.agg [.lit (.bool b), .lit (.bool e), .lit (.int .i64 n), d, .lit (.int .i64 (l : Int)), .lit (.int .i64 (c : Int))], [])
  | _ => none
theorem pcE_inj {v : Value} {b e : Bool} {n : Int} {A : Option Addr} {l c : Nat} {d : DataW Unit} {ps qs : List MemPlace} (h : pcE (pvV b e n A l c) = some (d, ps)) (k : pcE v = some (d, qs)) : v = pvV b e n A l c := by
  unfold pcE at k
  split at k
  · obtain ⟨x, hx, ex⟩ := Option.map_eq_some_iff.1 h
    obtain ⟨y, hy, ey⟩ := Option.map_eq_some_iff.1 k
    injection ex with ex _
    injection ey with ey _
    rw [← ex] at ey
    simp at ey
    obtain ⟨rfl, rfl, rfl, rfl, e1, e2⟩ := ey
    rw [adE_inj hx hy, Int.ofNat_inj.1 e1, Int.ofNat_inj.1 e2]
  · cases k
/-- What a piece that waits reads as. -/
def pcD (b e : Bool) (n : Int) (d : DataW Unit) (l c : Nat) : DataW Unit := .agg [.lit (.bool b), .lit (.bool e), .lit (.int .i64 n), d, .lit (.int .i64 (l : Int)), .lit (.int .i64 (c : Int))]
theorem piece_zero (w : World) : (zeroValue 50).run Tryd.prog w = .ok (pvV false false 0 none 0 0) w := by kernel_rfl
theorem int_keyedJ : Keyed Tryd.prog 3 := int_keyed Tryd.underlying3
theorem place_wf {x : Int} (h0 : 0 ≤ x) (h1 : x ≤ 4611686018427387904) : (Lit.int .i64 x).wf = true := by
  simp [Lit.wf, IntKind.min, IntKind.max, IntKind.signed, IntKind.bits]
  omega
theorem place_ne {x y : Int} (h : x ≠ y) : (Lit.int .i64 x) ≠ (Lit.int .i64 y) := by
  intro e
  injection e with _ e
  exact h e

/-- Block b is the map of what waits: each piece at its place, its data cut; the data lie in blocks that F tells. -/
def Mq (F : Nat → Prop) (w : World) (b n : Nat) (most : Int) (wt : List (Int × Pc)) : Prop :=
  ∃ D, w.ownsMap Tryd.prog 3 pcE b n D ∧ ∀ x : Int, match jat wt x with
    | none => has D (.int .i64 x) = false
    | some p => ∃ A c d, adE A = some d ∧ has D (.int .i64 x) = true ∧ D.atKey (.int .i64 x) (pcD false false 0 .nil 0 0) = pcD p.b p.e p.n d (jcut most p.d).length c ∧ (jcut most p.d).length ≤ c ∧ RdF F w A (jcut most p.d)
section
variable {F G X : Nat → Prop} {w w' : World} {b n : Nat} {most : Int} {wt : List (Int × Pc)}
theorem Mq.lt (h : Mq F w b n most wt) : b < w.heap.size := by
  obtain ⟨D, h1, -⟩ := h
  exact World.ownsMap.lt h1
theorem Mq.notCells (h : Mq F w b n most wt) {cur : Array Value} {T : TypeId} {fr : Nat × Nat} : w.heap[b]? ≠ some (.cells cur T fr) := by
  obtain ⟨D, ⟨es, clock, h1, -⟩, -⟩ := h
  rw [h1]
  intro e
  cases e
theorem Mq.off (h : Mq F w b n most wt) (ho : Offs X w w') (hb : ¬ X b) (hF : ∀ i, F i → ¬ X i) : Mq F w' b n most wt := by
  obtain ⟨D, h1, h2⟩ := h
  have hlt := World.ownsMap.lt h1
  obtain ⟨es, clock, g1, g2⟩ := h1
  refine ⟨D, ⟨es, clock, (ho.block b hlt hb).trans g1, g2⟩, fun x => ?_⟩
  have h3 := h2 x
  revert h3
  cases jat wt x with
  | none => exact id
  | some p => exact fun ⟨A, c, d, k1, k2, k3, k4, k5⟩ => ⟨A, c, d, k1, k2, k3, k4, k5.keep (.of_offs ho hF)⟩
theorem Mq.mono (h : Mq F w b n most wt) (hF : ∀ i, i < w.heap.size → F i → G i) : Mq G w b n most wt := by
  obtain ⟨D, h1, h2⟩ := h
  refine ⟨D, h1, fun x => ?_⟩
  have h3 := h2 x
  revert h3
  cases jat wt x with
  | none => exact id
  | some p => exact fun ⟨A, c, d, k1, k2, k3, k4, k5⟩ => ⟨A, c, d, k1, k2, k3, k4, k5.mono hF⟩
/-- v, ok := m[x], where none came. -/
theorem Mq.look_none (h : Mq F w b n most wt) {x : Int} (h0 : 0 ≤ x) (h1 : x ≤ 4611686018427387904) (hx : jat wt x = none) : (Instr.lookup 69 (.map (some b)) (.int .i64 x) true).run Tryd.prog w = .ok (.tuple #[pvV false false 0 none 0 0, .bool false]) w := by
  obtain ⟨D, g1, g2⟩ := h
  have g3 := g2 x
  rw [hx] at g3
  have g3' : has D (.int .i64 x) = false := g3
  obtain ⟨v, ps, hrun, hv⟩ := World.ownsMap.look_ok g1 int_keyedJ (t := 69) Tryd.underlying69 (piece_zero w) (zd := pcD false false 0 .nil 0 0) (zp := []) rfl (keyOf_int_mk Tryd.underlying3 (place_wf h0 h1))
  rw [atKey_of_not_has g3'] at hv
  rw [g3'] at hrun
  have e : v = pvV false false 0 none 0 0 := pcE_inj (h := show pcE (pvV false false 0 none 0 0) = some (pcD false false 0 .nil 0 0, []) from rfl) hv
  rw [hrun, e]
/-- .. where a piece came. -/
theorem Mq.look_some (h : Mq F w b n most wt) {x : Int} (h0 : 0 ≤ x) (h1 : x ≤ 4611686018427387904) {p : Pc} (hx : jat wt x = some p) : ∃ A c, (∀ w', w'.heap[b]? = w.heap[b]? → (Instr.lookup 69 (.map (some b)) (.int .i64 x) true).run Tryd.prog w' = .ok (.tuple #[pvV p.b p.e p.n A (jcut most p.d).length c, .bool true]) w') ∧ (jcut most p.d).length ≤ c ∧ RdF F w A (jcut most p.d) := by
  obtain ⟨D, ⟨es, clock, e1, e2⟩, g2⟩ := h
  have g3 := g2 x
  rw [hx] at g3
  obtain ⟨A, c, d, k1, k2, k3, k4, k5⟩ := g3
  refine ⟨A, c, fun w' hw => ?_, k4, k5⟩
  have g1 : w'.ownsMap Tryd.prog 3 pcE b n D := ⟨es, clock, hw.trans e1, e2⟩
  obtain ⟨v, ps, hrun, hv⟩ := World.ownsMap.look_ok g1 int_keyedJ (t := 69) Tryd.underlying69 (piece_zero w') (zd := pcD false false 0 .nil 0 0) (zp := []) rfl (keyOf_int_mk Tryd.underlying3 (place_wf h0 h1))
  rw [k3] at hv
  rw [k2] at hrun
  have e : v = pvV p.b p.e p.n A (jcut most p.d).length c := pcE_inj (h := show pcE (pvV p.b p.e p.n A (jcut most p.d).length c) = some (pcD p.b p.e p.n d (jcut most p.d).length c, []) by simp [pcE, k1, pcD]) hv
  rw [hrun, e]
theorem ownBlock_len (A : Option Addr) (n c m d : Nat) : (Value.slice A n c).ownBlock = (Value.slice A m d).ownBlock := by cases A <;> rfl
theorem offs_turned (h : w.mapTurned w' b) : Offs (fun i => i = b) w w' := by
  obtain ⟨es, clock, es', clock', hb, rfl⟩ := h
  refine ⟨rfl, rfl, rfl, ?_, fun k hk hne => ?_⟩
  · simp [Go.ChangeMaps.setBlock]
  · exact Go.ChangeMaps.heap_setBlock_other hb _ (fun e => hne e)
theorem jat_jwo_same (wt : List (Int × Pc)) (x : Int) : jat (jwo wt x) x = none := by
  rw [jat_none_iff]
  intro p hp
  have := (List.mem_filter.1 hp).2
  simp at this
theorem jat_jwo_other {wt : List (Int × Pc)} {x y : Int} (h : y ≠ x) : jat (jwo wt x) y = jat wt y := by
  unfold jat jwo
  rw [List.find?_filter]
  congr 2
  funext z
  by_cases hz : z.1 = y
  · simp [hz, h]
  · simp [hz]
/-- delete(m, x). -/
theorem Mq.drop (h : Mq F w b n most wt) {x : Int} (h0 : 0 ≤ x) (h1 : x ≤ 4611686018427387904) (hF : ∀ i, F i → i ≠ b) (ty : TypeId) :
    ∃ w', (Builtin.delete_ #[69, 3] ty #[.map (some b), .int .i64 x]).run Tryd.prog w = .ok (.tuple #[]) w' ∧ Mq F w' b n most (jwo wt x) ∧ Offs (fun i => i = b) w w' := by
  obtain ⟨D, g1, g2⟩ := h
  obtain ⟨w', hrun, g3, g4⟩ := World.ownsMap.drop g1 int_keyedJ (t := 69) Tryd.underlying69 (keyOf_int_mk Tryd.underlying3 (place_wf h0 h1)) ty
  have ho := offs_turned g4
  refine ⟨w', hrun, ⟨_, g3, fun y => ?_⟩, ho⟩
  by_cases hy : y = x
  · subst hy
    rw [jat_jwo_same]
    exact has_del_same
  · rw [jat_jwo_other hy]
    have g5 := g2 y
    revert g5
    cases jat wt y with
    | none => intro g5; rw [has_del_other (place_ne hy)]; exact g5
    | some p => exact fun ⟨A, c, d, k1, k2, k3, k4, k5⟩ => ⟨A, c, d, k1, by rw [has_del_other (place_ne hy)]; exact k2, by rw [atKey_del_other (place_ne hy)]; exact k3, k4, k5.keep (.of_offs ho hF)⟩
theorem jat_snoc_same {wt : List (Int × Pc)} {x : Int} (h : jat wt x = none) (p : Pc) : jat (wt ++ [(x, p)]) x = some p := by
  unfold jat at h ⊢
  rw [Option.map_eq_none_iff] at h
  rw [List.find?_append, h]
  simp
theorem jat_snoc_other {wt : List (Int × Pc)} {x y : Int} (h : y ≠ x) (p : Pc) : jat (wt ++ [(x, p)]) y = jat wt y := by
  unfold jat
  rw [List.find?_append]
  have : List.find? (fun z => z.1 == y) [(x, p)] = none := by simp [Ne.symm h]
  rw [this]
  simp
/-- m[x] = v. -/
theorem Mq.store (h : Mq F w b n most wt) {x : Int} (h0 : 0 ≤ x) (h1 : x ≤ 4611686018427387904) (hx : jat wt x = none) (hF : ∀ i, F i → i ≠ b) (hn : n < 1099511627776) (p : Pc) {A : Option Addr} {c : Nat} (hc : (jcut most p.d).length ≤ c) (hr : RdF F w A (jcut most p.d)) (hA : A = none ∨ ∃ g o, A = some ⟨g, o, none⟩) :
    ∃ w', (Instr.mapUpdate 69 (.map (some b)) (.int .i64 x) (pvV p.b p.e p.n A (jcut most p.d).length c)).run Tryd.prog w = .ok () w' ∧ Mq F w' b (n + 1) most (wt ++ [(x, p)]) ∧ Offs (fun i => i = b) w w' := by
  obtain ⟨D, g1, g2⟩ := h
  obtain ⟨d, hd⟩ : ∃ d, adE A = some d := by
    rcases hA with rfl | ⟨g, o, rfl⟩
    · exact ⟨_, rfl⟩
    · exact ⟨_, rfl⟩
  obtain ⟨w', hrun, g3, g4⟩ := World.ownsMap.store g1 int_keyedJ (t := 69) Tryd.underlying69 (by unfold maxLen; omega) (keyOf_int_mk Tryd.underlying3 (place_wf h0 h1)) (val := pvV p.b p.e p.n A (jcut most p.d).length c) (d := pcD p.b p.e p.n d (jcut most p.d).length c) (ps := []) (by simp [pcE, hd, pcD])
  have ho := offs_turned g4
  have hm := World.ownsMap.isMap g1
  refine ⟨w', hrun, ⟨_, g3, fun y => ?_⟩, ho⟩
  by_cases hy : y = x
  · subst hy
    rw [jat_snoc_same hx]
    exact ⟨A, c, d, hd, has_put_same hm (by trivial) _, atKey_put_same hm (by trivial) _ _, hc, hr.keep (.of_offs ho hF)⟩
  · rw [jat_snoc_other hy]
    have g5 := g2 y
    revert g5
    cases jat wt y with
    | none => intro g5; rw [has_put_other (place_ne hy)]; exact g5
    | some q => exact fun ⟨A, c, d, k1, k2, k3, k4, k5⟩ => ⟨A, c, d, k1, by rw [has_put_other (place_ne hy)]; exact k2, by rw [atKey_put_other (place_ne hy)]; exact k3, k4, k5.keep (.of_offs ho hF)⟩
theorem Mq.made (F : Nat → Prop) (w : World) (most : Int) : Mq F (w.alloc (.map #[] 0)) w.heap.size 0 most [] := ⟨_, World.ownsMap_made _ _ _ _, fun _ => rfl⟩
end
end Go.Proofs.YtamdaepeogmboaaDoor
