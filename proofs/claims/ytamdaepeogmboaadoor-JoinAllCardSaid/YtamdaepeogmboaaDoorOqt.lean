
/-
  Own rows that hold no octets: what append makes of one holds none. No condition.
-/
import Derived.Test.YtamdaepeogmboaaDoorRowk
namespace Go.Proofs.YtamdaepeogmboaaDoor
set_option maxRecDepth 4000
open Go.RowKit

def Nu8 (u : Value) : Prop := ∀ x : Int, u ≠ .int .u8 x
/-- The row's block holds no octets. -/
def Qt (w : World) (v : Value) : Prop := ∀ g, v.ownBlock = some g → ∃ (cur : Array Value) (T : TypeId) (fr : Nat × Nat), w.heap[g]? = some (.cells cur T fr) ∧ ∀ (k : Nat) (x : Int), cur[k]? ≠ some (Value.int .u8 x)
theorem Qt.nil (w : World) : Qt w (.slice none 0 0) := fun g h => by cases h
theorem Qt.keep {F : Nat → Prop} {w w' : World} {v : Value} (h : Qt w v) (hk : Keeps F w w') (hF : ∀ g, v.ownBlock = some g → F g) : Qt w' v := fun g hg => by
  obtain ⟨cur, T, fr, h1, h2⟩ := h g hg
  exact ⟨cur, T, fr, (hk.block g (Array.getElem?_eq_some_iff.1 h1).1 (hF g hg)).trans h1, h2⟩
theorem Qt.below {w w' : World} {v : Value} (h : Qt w v) (hb : Below w.heap.size w w') : Qt w' v := h.keep (F := fun _ => True) (.of_below hb) fun _ _ => trivial
theorem zero_mem {z : Array Value} {n : Nat} {u : Value} (h : u ∈ Builtin.zeroCells z n) (hz : 0 < z.size) : u ∈ z := by
  unfold Builtin.zeroCells at h
  rw [Array.mem_map] at h
  obtain ⟨i, _, rfl⟩ := h
  have hl : i % z.size < z.size := Nat.mod_lt _ hz
  rw [getElem!_pos z (i % z.size) hl]
  exact Array.getElem_mem hl
theorem qt_new {w : World} {cur : Array Value} {T : TypeId} {n c : Nat} (h : ∀ u ∈ cur, Nu8 u) : Qt (w.drew.alloc (.cells cur T)) (.slice (some ⟨w.heap.size, 0, none⟩) n c) := fun g hg => by
  have hg' : some w.heap.size = some g := hg
  injection hg' with hg'
  subst hg'
  exact ⟨cur, T, (0, 0), heap_alloc_new w.drew _, fun k x e => h _ (Array.mem_of_getElem? e) x rfl⟩
/-- append(v, ys...): .. and there are no octets in the new row's block. -/
theorem run_rowq {α : Type} (H : Sh α) {P : Program} (w : World) (t ty e : TypeId) (i : TypeInfo) (z : Value) (bytes : Nat) (ht : P.underlying t = some (.slice e)) (hi : P.info? e = some i) (hz : i.zero = some z)
    (hsize : i.size = H.sz) (hby : i.bytes = bytes) (hzs : z.cells.size = H.sz) (hsz : 0 < H.sz) (F G : Nat → Prop) (base : Nat) (v : Value) (n : Nat) (xs : List α) (hown : Orw H e F base w v xs) (hn : xs.length = n)
    (A : Option Addr) (m c : Nat) (ys : List α) (hys : Rws H G w A ys) (hm : ys.length = m) (hG : ∀ b, b < w.heap.size → G b → F b ∧ v.ownBlock ≠ some b)
    (h63 : n + m ≤ maxLen) (hbytes : (n + m) * bytes ≤ 140737488355328) (hbase : base ≤ w.heap.size)
    (hq : Qt w v) (hS : ∀ F w x cs, H.S F w x cs → ∀ u ∈ cs, Nu8 u) (hz8 : ∀ u ∈ z.cells, Nu8 u) :
    ∃ v' w', (Builtin.append_ #[t, t] ty #[v, .slice A m c]).run P w = .ok v' w' ∧ Orw H e F base w' v' (xs ++ ys) ∧ w.grownBy w' v.ownBlock ∧ Mv w.heap.size v v' ∧ Qt w' v' := by
  obtain ⟨v', w', hrun, r1, r2, r3⟩ := run_rows H (P := P) w t ty e i z bytes ht hi hz hsize hby hzs hsz F G base v n xs hown hn A m c ys hys hm hG h63 hbytes hbase
  refine ⟨v', w', hrun, r1, r2, r3, ?_⟩
  obtain ⟨css, h1, h2, h3⟩ := hown
  obtain ⟨dss, k1, k2, k3⟩ := hys.cells
  have hall2 := Orw.all_len k1 k2
  have hn8 : ∀ u ∈ dss.flatten, Nu8 u := by
    intro u hu
    obtain ⟨cs, hcs, hu⟩ := List.mem_flatten.1 hu
    obtain ⟨k, hk⟩ := List.mem_iff_getElem?.1 hcs
    have hk' : k < ys.length := by have := (List.getElem?_eq_some_iff.1 hk).1; omega
    exact hS _ _ _ _ (k2 k _ cs (List.getElem?_eq_getElem hk') hk) u hu
  have hx8 : ∀ u ∈ css.flatten, Nu8 u := by
    intro u hu
    obtain ⟨cs, hcs, hu⟩ := List.mem_flatten.1 hu
    obtain ⟨k, hk⟩ := List.mem_iff_getElem?.1 hcs
    have hk' : k < xs.length := by have := (List.getElem?_eq_some_iff.1 hk).1; omega
    exact hS _ _ _ _ (h3 k _ cs (List.getElem?_eq_getElem hk') hk) u hu
  have hone : ∀ u ∈ dss.flatten, u.oneCell' = true := by
    intro u hu
    obtain ⟨cs, hcs, hu⟩ := List.mem_flatten.1 hu
    obtain ⟨k, hk⟩ := List.mem_iff_getElem?.1 hcs
    have hk' : k < ys.length := by have := (List.getElem?_eq_some_iff.1 hk).1; omega
    exact H.one (k2 k _ cs (List.getElem?_eq_getElem hk') hk) u hu
  have hl : dss.flatten.length = m * H.sz := by rw [flat_len hall2, k1, hm]
  have hz0 : 0 < z.cells.size := by omega
  subst hn
  rcases A with _ | ad
  · have hm0 : m = 0 := by
      rcases Nat.eq_zero_or_pos ys.length with h0 | h0
      · omega
      · obtain ⟨_, _, h, _⟩ := hys h0
        cases h
    subst hm0
    have hx : (Builtin.append_ #[t, t] ty #[v, .slice none 0 c]).run P w = .ok v w := by
      rcases h2.2 with ⟨rfl, h0⟩ | ⟨g, cap, cur, rfl, _, _, hnc, _⟩
      · simp [Builtin.append_, run_underlying ht, sizeOf, typeInfo, hi, Builtin.lenOf, Builtin.firstCells]
      · simp [Builtin.append_, run_underlying ht, sizeOf, typeInfo, hi, Builtin.lenOf, Builtin.firstCells, hnc, storeCells]
    rw [hx] at hrun
    injection hrun with e1 e2
    subst e1; subst e2
    exact hq
  · rcases h2.2 with ⟨rfl, h0⟩ | ⟨g, cap, cur, rfl, hbg, hg, hnc, hcm, hcs, htake⟩
    · by_cases hm0 : m = 0
      · subst hm0
        have hx : (Builtin.append_ #[t, t] ty #[.slice none 0 0, .slice (some ad) 0 c]).run P w = .ok (.slice none 0 0) w := by
          simp [Builtin.append_, run_underlying ht, sizeOf, typeInfo, hi, Builtin.lenOf, Builtin.firstCells, loadCells, loadCellsFrom]
        rw [hx] at hrun
        injection hrun with e1 e2
        subst e1; subst e2
        exact hq
      · have hx := run_append_nil (P := P) w t ty e i z ht hi hz ad m c dss.flatten (by rw [hsize]; exact hl) (k3 ad rfl) (by omega) (by simp only [maxLen] at h63; omega) (by rw [hby]; have hb := hbytes; rw [h0, Nat.zero_add] at hb; omega)
        rw [hx] at hrun
        injection hrun with e1 e2
        subst e1; subst e2
        refine qt_new fun u hu => ?_
        rcases Array.mem_append.1 hu with hu | hu
        · exact hn8 u (by simpa using hu)
        · exact hz8 u (zero_mem hu hz0)
    · by_cases hroom : xs.length + m ≤ cap
      · have hfit : xs.length * i.size + dss.flatten.length ≤ cur.size := by rw [hl, hcs, hsize, ← Nat.add_mul]; exact Nat.mul_le_mul_right _ hroom
        have hx := run_append_room (P := P) w t ty e i ht hi g xs.length cap cur hg ad m c dss.flatten (by rw [hsize]; exact hl) (k3 ad rfl) hone hroom hfit
        rw [hx] at hrun
        injection hrun with e1 e2
        subst e1; subst e2
        intro g' hg'
        have hg2 : some g = some g' := hg'
        injection hg2 with hg2
        subst hg2
        obtain ⟨cur', T', fr', q1, q2⟩ := hq g rfl
        rw [hg] at q1
        injection q1 with q1
        injection q1 with q1
        subst q1
        refine ⟨_, _, _, setRow_heap w g cur _ e _ hg, fun k x he => ?_⟩
        have hmem := Array.mem_of_getElem? he
        rw [List.mem_toArray, List.mem_append, List.mem_append] at hmem
        have hcur : Value.int .u8 x ∈ cur.toList → False := fun h => by
          obtain ⟨k', hk'⟩ := List.mem_iff_getElem?.1 h
          exact q2 k' x (by simpa using hk')
        rcases hmem with (h | h) | h
        · exact hcur (List.mem_of_mem_take h)
        · exact hn8 _ h x rfl
        · exact hcur (List.mem_of_mem_drop h)
      · have holds : ∀ j u, css.flatten[j]? = some u → w.cell? ((⟨g, 0, none⟩ : Addr).add j) = some u := h2.cells (g := g) rfl
        have hx := run_append_grow (P := P) w t ty e i z ht hi hz ⟨g, 0, none⟩ xs.length cap css.flatten (by rw [hsize]; exact h2.1) holds ad m c dss.flatten (by rw [hsize]; exact hl) (k3 ad rfl) (by omega) (by simp only [maxLen] at h63; omega) (growslice_fits (by omega) (by rw [hby]; exact hbytes))
        rw [hx] at hrun
        injection hrun with e1 e2
        subst e1; subst e2
        refine qt_new fun u hu => ?_
        rcases Array.mem_append.1 hu with hu | hu
        · rcases Array.mem_append.1 hu with hu | hu
          · exact hx8 u (by simpa using hu)
          · exact hn8 u (by simpa using hu)
        · exact hz8 u (zero_mem hu hz0)
/-- .. for the walk. -/
theorem list_rowq {α : Type} (H : Sh α) {P : Program} {w : World} {ops : Array Oper} {rest : List Oper} {o : Oper} {a : Act} {Q : Exit → Act → World → Prop} (hgd : o.guard = none) (s x : Operand) (t : TypeId)
    (ho : o.op = .call { callee := .builtin .append, args := #[s, x], argTypes := #[t, t] })
    (e : TypeId) (i : TypeInfo) (z : Value) (bytes : Nat) (ht : P.underlying t = some (.slice e)) (hi : P.info? e = some i) (hz : i.zero = some z)
    (hsize : i.size = H.sz) (hby : i.bytes = bytes) (hzs : z.cells.size = H.sz) (hsz : 0 < H.sz) (F G : Nat → Prop) (base : Nat) (v : Value) (n : Nat) (xs : List α) (hs : a.eval s = v) (hown : Orw H e F base w v xs) (hn : xs.length = n)
    (A : Option Addr) (m c : Nat) (ys : List α) (hx : a.eval x = .slice A m c) (hys : Rws H G w A ys) (hm : ys.length = m) (hG : ∀ b, b < w.heap.size → G b → F b ∧ v.ownBlock ≠ some b)
    (h63 : n + m ≤ maxLen) (hbytes : (n + m) * bytes ≤ 140737488355328) (hbase : base ≤ w.heap.size)
    (hq : Qt w v) (hS : ∀ F w x cs, H.S F w x cs → ∀ u ∈ cs, Nu8 u) (hz8 : ∀ u ∈ z.cells, Nu8 u)
    (h : ∀ v' w', Orw H e F base w' v' (xs ++ ys) → w.grownBy w' v.ownBlock → Mv w.heap.size v v' → Qt w' v' → wpList P ops Q rest (a.put o.dst v') w') :
    wpList P ops Q (o :: rest) a w := by
  refine wpList_plain hgd fun K hK => ?_
  obtain ⟨v', w', hrun, h2, h3, h4, h5⟩ := run_rowq H (P := P) w t o.type e i z bytes ht hi hz hsize hby hzs hsz F G base v n xs hown hn A m c ys hys hm hG h63 hbytes hbase hq hS hz8
  unfold Oper.wp execOp
  simp only [ho, resolve, invoke, builtin, Sem.run_bind, Sem.run_pure, Result.andThen_ok, List.map_toArray, List.map_cons, List.map_nil, hs, hx, hrun]
  exact hK _ _ (h v' w' h2 h3 h4 h5)
theorem shB_nu8 : ∀ F w x cs, shB.S F w x cs → ∀ u ∈ cs, Nu8 u := by
  rintro _ _ _ _ ⟨A, c, rfl, _⟩ u hu
  simp at hu
  subst hu
  intro x e
  cases e
end Go.Proofs.YtamdaepeogmboaaDoor
