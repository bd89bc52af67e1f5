
/-
  The calls of layer 12 as the laws' walks want them: results by name. No condition beyond: at most 2^30 octets and options.
-/
import Derived.Test.YtppblnpcbiochaaTlvL
import Derived.Test.YtppblnpcbiochaaTlvK
namespace Go.Proofs.Ytppblnpcbiochaa
open Go.RowKit

/-- append on rows behind a guard that is met. -/
theorem list_rows_w {α : Type} (H : Sh α) {P : Program} {w : World} {ops : Array Oper} {rest : List Oper} {o : Oper} {a : Act} {Q : Exit → Act → World → Prop} (hw : Region.wanted o (yielded ops a.tmps) = true) (s x : Operand) (t : TypeId)
    (ho : o.op = .call { callee := .builtin .append, args := #[s, x], argTypes := #[t, t] })
    (e : TypeId) (i : TypeInfo) (z : Value) (bytes : Nat) (ht : P.underlying t = some (.slice e)) (hi : P.info? e = some i) (hz : i.zero = some z)
    (hsize : i.size = H.sz) (hby : i.bytes = bytes) (hzs : z.cells.size = H.sz) (hsz : 0 < H.sz) (F G : Nat → Prop) (base : Nat) (v : Value) (n : Nat) (xs : List α) (hs : a.eval s = v) (hown : Orw H e F base w v xs) (hn : xs.length = n)
    (A : Option Addr) (m c : Nat) (ys : List α) (hx : a.eval x = .slice A m c) (hys : Rws H G w A ys) (hm : ys.length = m) (hG : ∀ b, b < w.heap.size → G b → F b ∧ v.ownBlock ≠ some b)
    (h63 : n + m ≤ maxLen) (hbytes : (n + m) * bytes ≤ 140737488355328) (hbase : base ≤ w.heap.size)
    (h : ∀ v' w', Orw H e F base w' v' (xs ++ ys) → w.grownBy w' v.ownBlock → Mv w.heap.size v v' → wpList P ops Q rest (a.put o.dst v') w') :
    wpList P ops Q (o :: rest) a w := by
  refine wpList_step fun K hK => ?_
  rw [if_pos hw]
  obtain ⟨v', w', hrun, h2, h3, h4⟩ := run_rows H (P := P) w t o.type e i z bytes ht hi hz hsize hby hzs hsz F G base v n xs hown hn A m c ys hys hm hG h63 hbytes hbase
  unfold Oper.wp execOp
  simp only [ho, resolve, invoke, builtin, Sem.run_bind, Sem.run_pure, Result.andThen_ok, List.map_toArray, List.map_cons, List.map_nil, hs, hx, hrun]
  exact hK _ _ (h v' w' h2 h3 h4)

theorem few_of {l : List (Nat × List Nat)} (h : fewB l = true) : l.length ≤ 60 ∧ datB l ≤ 1000 := by
  unfold fewB at h
  simpa using h
theorem few_v (l : List (Nat × List Nat)) (q : Bool) (hq : fewB l = q) (n c : Nat) (A : Option Addr) (F : Nat → Prop) (w : World) (h : Rws shO F w A l) (hl : l.length = n) (hn : n ≤ 140737488351232) (hd : ∀ x ∈ l, x.2.length ≤ 140737488351232) :
    Calls Try.prog 18 #[.slice A n c] w fun e w' => e = .returned (.bool q) ∧ Below w.heap.size w w' := hq ▸ few_any l n c A F w h hl hn 140737488351232 (Nat.le_refl _) hd
theorem oof_v (l : List (Nat × List Nat)) (n c : Nat) (A : Option Addr) (w : World) (h : Rws shO (fun _ => True) w A l) (hl : l.length = n) (hn : n ≤ 1073741824) :
    Calls Try.prog 21 #[.slice A n c] w fun e w' => ∃ A' c', e = .returned (.slice A' n c') ∧ Rws shO (fun _ => True) w' A' l ∧ Below w.heap.size w w' :=
  (oof_any l n c A _ w h (fun _ _ => trivial) hl hn).mono fun _ _ ⟨v, h1, h2, h3⟩ => by
    obtain ⟨A', c', rfl, _, _, hr⟩ := h2.slice
    rw [hl] at h1
    exact ⟨A', c', h1, hr.mono (fun _ _ _ => trivial), h3⟩
theorem oto_v (l : List (Nat × List Nat)) (n c : Nat) (A : Option Addr) (w : World) (h : Rws shO (fun _ => True) w A l) (hl : l.length = n) (hn : n ≤ 1073741824) :
    Calls Try.prog 26 #[.slice A n c] w fun e w' => ∃ A' c', e = .returned (.slice A' n c') ∧ Rws shO (fun _ => True) w' A' l ∧ Below w.heap.size w w' :=
  (oto_any l n c A _ w h (fun _ _ => trivial) hl hn).mono fun _ _ ⟨v, h1, h2, h3⟩ => by
    obtain ⟨A', c', rfl, _, _, hr⟩ := h2.slice
    rw [hl] at h1
    exact ⟨A', c', h1, hr.mono (fun _ _ _ => trivial), h3⟩
theorem orsame_v (a b : List (Nat × List Nat)) (q : Bool) (hq : decide (a = b) = q) (n m c d : Nat) (A B : Option Addr) (F G : Nat → Prop) (w : World) (ha : Rws shO F w A a) (hb : Rws shO G w B b) (hn : a.length = n) (hm : b.length = m) (hn1 : n ≤ 274877906944) (hd : datB a ≤ 1099511627776) :
    Calls Try.prog 25 #[.slice A n c, .slice B m d] w fun e w' => e = .returned (.bool q) ∧ Below w.heap.size w w' := hq ▸ orsame_any a b n m c d A B F G w ha hb hn hm hn1 hd
theorem errP_ok {l : List (Nat × List Nat)} (h : longB l = false) : errP l = 0 ∧ putA l = putB l := by unfold errP putA; rw [h]; exact ⟨rfl, rfl⟩
theorem errP_long {l : List (Nat × List Nat)} (h : longB l = true) : errP l = 3 ∧ putA l = [] := by unfold errP putA; rw [h]; exact ⟨rfl, rfl⟩
theorem putA_le (l : List (Nat × List Nat)) (n m : Nat) (hn : l.length ≤ n) (hm : datB l ≤ m) : (putA l).length ≤ 2 * n + m := by
  unfold putA
  split
  · simp
  · rw [put_len]; omega
end Go.Proofs.Ytppblnpcbiochaa
