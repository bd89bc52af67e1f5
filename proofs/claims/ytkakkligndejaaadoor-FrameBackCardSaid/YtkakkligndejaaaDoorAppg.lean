
/-
  append(x[:k:k], y...) on lists of bytes: a new row, whatever x is; the law for a step of a region whose order is open. A literal byte in a new block. No condition beyond: together at most 2^40 elements, y not empty.
-/
import Derived.Test.YtkakkligndejaaaDoorAppn
namespace Go.Proofs.YtkakkligndejaaaDoor
open Go.RowKit

theorem Rd.cellAdd {w : World} {B : Nat} {ad : Addr} {l : List Nat} (h : Rd w B (some ad) l) : ∀ j u, (bvs l)[j]? = some u → w.cell? (ad.add j) = some u := by
  intro j u hu
  rw [bvs, List.getElem?_map] at hu
  obtain ⟨x, hx, rfl⟩ := Option.map_eq_some_iff.1 hu
  have hpos : 0 < l.length := by have := (List.getElem?_eq_some_iff.1 hx).1; omega
  obtain ⟨b, off, he, _, hc⟩ := h hpos
  injection he with he
  subst he
  have := hc j x hx
  by_cases hj : j = 0
  · subst hj; simpa [Addr.add, bv] using this
  · simpa [Addr.add, hj, bv] using this

theorem run_appg {P : Program} (w : World) (t ty e : TypeId) (i : TypeInfo) (ht : P.underlying t = some (.slice e)) (hi : P.info? e = some i) (hz : i.zero = some (.int .u8 0)) (hs : i.size = 1) (hby : i.bytes = 1)
    (base : Nat) (ad : Addr) (k : Nat) (l1 : List Nat) (B : Nat) (h1 : Rd w B (some ad) l1) (hl1 : l1.length = k) (B2 : Nat) (A2 : Option Addr) (m c : Nat) (l2 : List Nat) (h2 : Rd w B2 A2 l2) (hl2 : l2.length = m) (hm : 0 < m)
    (hlen : k + m ≤ 1099511627776) (hbase : base ≤ w.heap.size) :
    ∃ c' w', (Builtin.append_ #[t, t] ty #[.slice (some ad) k k, .slice A2 m c]).run P w = .ok (.slice (some ⟨w.heap.size, 0, none⟩) (k + m) c') w' ∧ w'.ownsRow base e 1 (.slice (some ⟨w.heap.size, 0, none⟩) (k + m) c') (k + m) (bvs (l1 ++ l2)) ∧ w.grownBy w' none := by
  obtain ⟨b2, o2, rfl, _, _⟩ := h2 (by omega)
  have hr := run_append_grow (P := P) w t ty e i (.int .u8 0) ht hi hz ad k k (bvs l1) (by rw [bvs_len, hs]; omega) h1.cellAdd ⟨b2, o2, none⟩ m c (bvs l2) (by rw [bvs_len, hs]; omega) h2.cellAdd (by omega) (by omega) (by
    have := growslice_fits (need := k + m) (old := k) (bytes := 1) (by omega) (by omega)
    rw [hby]; exact this)
  have hge := grownCap_ge w (k + m) k e
  have hcm : grownCap w (k + m) k e ≤ maxLen := grownCap_le_maxLen w (k + m) k e (by unfold maxLen; omega)
  refine ⟨_, _, hr, ⟨by rw [bvs_len, List.length_append]; omega, .inr ⟨w.heap.size, _, _, rfl, hbase, heap_alloc_new w.drew _, hge, hcm, ?_, ?_⟩⟩, ⟨rfl, rfl, rfl, by simp, fun j hj _ => heap_alloc_old w.drew _ hj⟩⟩
  · have : (Value.cells (.int .u8 0)).size = 1 := rfl
    simp only [Array.size_append, List.size_toArray, size_zeroCells, bvs_len, this, hl1, hl2]
    omega
  · simp only [Array.toList_append, List.append_assoc]
    rw [← List.append_assoc, ← bvs_app, show (k + m) * 1 = (bvs (l1 ++ l2)).length by rw [bvs_len, List.length_append]; omega]
    exact List.take_left

/-- The same, x nil too. -/
theorem run_appo {P : Program} (w : World) (t ty e : TypeId) (i : TypeInfo) (ht : P.underlying t = some (.slice e)) (hi : P.info? e = some i) (hz : i.zero = some (.int .u8 0)) (hs : i.size = 1) (hby : i.bytes = 1)
    (base : Nat) (A : Option Addr) (k : Nat) (l1 : List Nat) (B : Nat) (h1 : Rd w B A l1) (hl1 : l1.length = k) (B2 : Nat) (A2 : Option Addr) (m c : Nat) (l2 : List Nat) (h2 : Rd w B2 A2 l2) (hl2 : l2.length = m) (hm : 0 < m)
    (hlen : k + m ≤ 1099511627776) (hbase : base ≤ w.heap.size) :
    ∃ A' c' w', (Builtin.append_ #[t, t] ty #[.slice A k k, .slice A2 m c]).run P w = .ok (.slice A' (k + m) c') w' ∧ w'.ownsRow base e 1 (.slice A' (k + m) c') (k + m) (bvs (l1 ++ l2)) ∧ w.grownBy w' none := by
  rcases A with _ | ad
  · have hk : k = 0 := by
      rcases Nat.eq_zero_or_pos k with h0 | h0
      · exact h0
      · obtain ⟨_, _, h, _⟩ := h1 (by omega)
        cases h
    subst hk
    obtain rfl : l1 = [] := List.eq_nil_of_length_eq_zero hl1
    obtain ⟨b2, o2, rfl, _, _⟩ := h2 (by omega)
    obtain ⟨v', w', h3, h4, h5, _⟩ := run_append_own (P := P) w base t ty e i (.int .u8 0) 1 1 ht hi hz hs hby rfl (by omega) (.slice none 0 0) 0 [] (World.ownsRow_nil w base e 1) ⟨b2, o2, none⟩ m c (bvs l2) (by rw [bvs_len]; omega) h2.cellAdd (bvs_one l2) (by unfold maxLen; omega) (by omega) hbase
    obtain ⟨A', c', rfl, _, _⟩ := own_form h4
    exact ⟨A', c', w', h3, h4, h5⟩
  · obtain ⟨c', w', h3, h4, h5⟩ := run_appg (P := P) w t ty e i ht hi hz hs hby base ad k l1 B h1 hl1 B2 A2 m c l2 h2 hl2 hm hlen hbase
    exact ⟨_, c', w', h3, h4, h5⟩

theorem step_appg {P : Program} (w : World) {ops : Array Oper} {o : Oper} {a : Act} {K : Act → World → Prop} {Q : Exit → Act → World → Prop} {E : Prop} (hw : Region.wanted o (yielded ops a.tmps) = true) (s x : Operand) (t : TypeId)
    (ho : o.op = .call { callee := .builtin .append, args := #[s, x], argTypes := #[t, t] })
    (e : TypeId) (i : TypeInfo) (ht : P.underlying t = some (.slice e)) (hi : P.info? e = some i) (hz : i.zero = some (.int .u8 0)) (hs1 : i.size = 1) (hby : i.bytes = 1)
    (base : Nat) (A : Option Addr) (k : Nat) (l1 : List Nat) (hs : a.eval s = .slice A k k) (B : Nat) (h1 : Rd w B A l1) (hl1 : l1.length = k) (B2 : Nat) (A2 : Option Addr) (m c : Nat) (l2 : List Nat) (hx : a.eval x = .slice A2 m c) (h2 : Rd w B2 A2 l2) (hl2 : l2.length = m) (hm : 0 < m)
    (hlen : k + m ≤ 1099511627776) (hbase : base ≤ w.heap.size)
    (h : ∀ A' c' w', w'.ownsRow base e 1 (.slice A' (k + m) c') (k + m) (bvs (l1 ++ l2)) → w.grownBy w' none → K (a.put o.dst (.slice A' (k + m) c')) w') :
    if Region.wanted o (yielded ops a.tmps) = true then Oper.wp P o a w K Q else E := by
  rw [if_pos hw]
  obtain ⟨A', c', w', hrun, h3, h4⟩ := run_appo (P := P) w t o.type e i ht hi hz hs1 hby base A k l1 B h1 hl1 B2 A2 m c l2 h2 hl2 hm hlen hbase
  unfold Oper.wp execOp
  simp only [ho, resolve, invoke, builtin, Sem.run_bind, Sem.run_pure, Result.andThen_ok, List.map_toArray, List.map_cons, List.map_nil, hs, hx, hrun]
  exact h A' c' w' h3 h4

/-- A slice of 16-bit numbers that came in: its cells. -/
def Rw (w : World) (B : Nat) (A : Option Addr) (n : Nat) : Prop := 0 < n → ∃ b off, A = some ⟨b, off, none⟩ ∧ b < B ∧ ∀ k, k < n → ∃ x : Nat, x < 65536 ∧ w.cell? ⟨b, off + k, none⟩ = some (.int .u16 (x : Int))
theorem Rw.below {w w' : World} {B : Nat} {A : Option Addr} {n : Nat} (h : Rw w B A n) (hb : Below B w w') : Rw w' B A n := by
  intro hn
  obtain ⟨b, off, rfl, hB, hc⟩ := h hn
  refine ⟨b, off, rfl, hB, fun k hk => ?_⟩
  obtain ⟨x, hx, hcx⟩ := hc k hk
  exact ⟨x, hx, (hb.cell (p := ⟨b, off + k, none⟩) hB).trans hcx⟩
theorem rowWords {w : World} {a : Option Addr} {len cap : Nat} {zs : List Int}
    (h : (a = none ∧ len = 0 ∧ cap = 0 ∧ zs = []) ∨ ∃ x, a = some x ∧ len ≤ cap ∧ cap ≤ maxLen ∧ zs.length = cap ∧ (∀ i, i < zs.length → w.cell? (x.add i) = some (.int .u16 (zs.getD i 0))) ∧ ∀ n ∈ zs, (Lit.int .u16 n).wf = true) :
    Rw w w.heap.size a len := by
  rcases h with ⟨rfl, rfl, rfl, rfl⟩ | ⟨x, rfl, hl, _, hz, hc, hw⟩
  · intro h; omega
  · intro hlen
    have h0 := hc 0 (by omega)
    obtain ⟨b, off, spot⟩ := x
    have hs : spot = none := by simpa [Addr.add] using World.cell?_spot h0
    subst hs
    refine ⟨b, off, rfl, by simpa [Addr.add] using block_lt h0, fun k hk => ?_⟩
    have hck := hc k (by omega)
    have hkz : k < zs.length := by omega
    rw [List.getD_eq_getElem?_getD, List.getElem?_eq_getElem hkz, Option.getD_some] at hck
    have hwf := hw _ (List.getElem_mem hkz)
    simp [Lit.wf, IntKind.min, IntKind.max, IntKind.signed, IntKind.bits] at hwf
    refine ⟨(zs[k]).toNat, by omega, ?_⟩
    rw [show (((zs[k]).toNat : Nat) : Int) = zs[k] from by omega, ← hck]
    by_cases h0 : k = 0
    · subst h0; simp [Addr.add]
    · simp [Addr.add, h0]

end Go.Proofs.YtkakkligndejaaaDoor
