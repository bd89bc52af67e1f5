
/-
  A map of texts in memory; what the program's names and Name answer. No condition beyond: a type below 2^16.
-/
import Derived.Test.YtldadfmcganejaaTagN
import Derived.Maps.OwnSet
namespace Go.Proofs.Ytldadfmcganejaa
set_option maxRecDepth 4000
open Go.RowKit Go.Maps

/-- A table of texts, the last one laid first. -/
abbrev Nt := List (Nat × ByteArray)
/-- How a text reads. -/
def strE : Value → Option (DataW Unit × List MemPlace)
  | .string s => some (.lit (.string s.data.toList), [])
  | _ => none
theorem strE_mk (s : ByteArray) : strE (.string s) = some (.lit (.string s.data.toList), []) := rfl
theorem strE_inv {v : Value} {s : ByteArray} {ps : List MemPlace} (h : strE v = some (.lit (.string s.data.toList), ps)) : v = .string s := by
  unfold strE at h
  split at h
  · rename_i r
    simp at h
    have e : r.data = s.data := h.1
    cases r; cases s
    dsimp only at e
    rw [e]
  · cases h
/-- What the map reads as. -/
def nmD : Nt → DataW Unit
  | [] => .map []
  | x :: r => (nmD r).put (.int .u16 (x.1 : Int)) (.lit (.string x.2.data.toList))
/-- The text of a type. -/
def nseek : Nt → Nat → ByteArray
  | [], _ => ⟨#[]⟩
  | x :: r, t => if x.1 = t then x.2 else nseek r t
theorem nmD_is (T : Nt) : IsMap (nmD T) := by
  induction T with
  | nil => exact isMap_empty
  | cons x r ih => exact ih.put _ _
theorem nkey_is (t : Nat) : WideAt.IsKeyLit (.int .u16 (t : Int)) := by trivial
theorem nkey_ne {s t : Nat} (h : s ≠ t) : (Lit.int .u16 (t : Int)) ≠ (Lit.int .u16 (s : Int)) := by
  intro e
  injection e with _ e
  omega
theorem nmD_at (T : Nt) (t : Nat) : (nmD T).atKey (.int .u16 (t : Int)) (.lit (.string [])) = .lit (.string (nseek T t).data.toList) := by
  induction T with
  | nil => rfl
  | cons x r ih =>
    unfold nmD
    by_cases h : x.1 = t
    · rw [← h, atKey_put_same (nmD_is r) (nkey_is _)]
      simp [nseek]
    · rw [atKey_put_other (nkey_ne h), ih]
      simp [nseek, h]
/-- Block b is such a map. -/
def Nb (w : World) (b : Nat) (T : Nt) : Prop := w.ownsMap Try.prog 24 strE b T.length (nmD T)
theorem Nb.made (w : World) : Nb (w.alloc (.map #[] 0)) w.heap.size [] := World.ownsMap_made _ _ _ _
theorem u16_keyed : Keyed Try.prog 24 := int_keyed Try.underlying24
theorem u16_wfG {t : Nat} (h : t < 65536) : (Lit.int .u16 (t : Int)).wf = true := by
  simp [Lit.wf, IntKind.min, IntKind.max, IntKind.signed, IntKind.bits]
  omega
theorem str_zero (w : World) : (zeroValue 9).run Try.prog w = .ok (.string ⟨#[]⟩) w := by kernel_rfl

/-- A map's literal is filled. -/
theorem wpList_nfill {w : World} {ops : Array Oper} {rest : List Oper} {o : Oper} {a : Act} {Q : Exit → Act → World → Prop}
    (hg : o.guard = none) (m x v : Operand) (hop : o.op = Op.insert 55 m x v) (b : Nat) (T : Nt) (hm : a.eval m = .map (some b)) (hown : Nb w b T) (hn : T.length < 1000)
    (t : Nat) (s : ByteArray) (ht : t < 65536) (hx : a.eval x = .int .u16 (t : Int)) (hv : a.eval v = .string s)
    (hK : ∀ w', Nb w' b ((t, s) :: T) → w.grownBy w' (some b) → wpList Try.prog ops Q rest (a.put o.dst undef) w') :
    wpList Try.prog ops Q (o :: rest) a w := by
  refine wpList_plain hg fun K' hK' => ?_
  obtain ⟨w', hrun, r1, r2⟩ := World.ownsMap.update hown u16_keyed Try.underlying55 (by unfold maxLen; omega) (keyOf_int_mk Try.underlying24 (u16_wfG ht)) (strE_mk s)
  unfold Oper.wp
  simp [execOp, hop, hm, hx, hv, hrun, Result.andThen]
  exact hK' _ _ (hK w' r1 r2)

/-- A type's text is looked up. -/
theorem wpList_nlook {w : World} {ops : Array Oper} {rest : List Oper} {o : Oper} {a : Act} {Q : Exit → Act → World → Prop}
    (hg : o.guard = none) (m x : Operand) (hop : o.op = Op.lookup 55 m x false) (b : Nat) (T : Nt) (hm : a.eval m = .map (some b)) (hown : Nb w b T)
    (t : Nat) (s : ByteArray) (ht : t < 65536) (hx : a.eval x = .int .u16 (t : Int)) (hs : nseek T t = s)
    (hK : wpList Try.prog ops Q rest (a.put o.dst (.string s)) w) :
    wpList Try.prog ops Q (o :: rest) a w := by
  refine wpList_plain hg fun K' hK' => ?_
  have hkey := keyOf_int_mk Try.underlying24 (u16_wfG ht)
  obtain ⟨v, ps, hrun, hv⟩ := World.ownsMap.lookup hown u16_keyed (t := 55) Try.underlying55 (str_zero w) (strE_mk ⟨#[]⟩) hkey
  rw [show (ByteArray.data ⟨#[]⟩).toList = [] from rfl, nmD_at, hs] at hv
  obtain rfl := strE_inv hv
  unfold Oper.wp
  simp [execOp, hop, hm, hx, hrun, Result.andThen]
  exact hK' _ _ hK

/-- The names, the last one first. -/
def tgtab : Nt := [(515, ⟨#[101, 114, 114, 111, 114]⟩), (514, ⟨#[110, 111, 45, 115, 121, 115, 116, 101, 109]⟩), (513, ⟨#[110, 111, 45, 115, 101, 114, 118, 105, 99, 101]⟩), (272, ⟨#[114, 101, 108, 97, 121]⟩), (261, ⟨#[118, 101, 110, 100, 111, 114]⟩), (260, ⟨#[99, 111, 111, 107, 105, 101]⟩), (259, ⟨#[117, 110, 105, 113, 117, 101]⟩), (258, ⟨#[110, 97, 109, 101]⟩), (257, ⟨#[115, 101, 114, 118, 105, 99, 101]⟩)]
theorem tgtab_seek (t : Nat) : nseek tgtab t = tgname t := by
  by_cases h : t ∈ [257, 258, 259, 260, 261, 272, 513, 514, 515]
  · simp only [List.mem_cons, List.not_mem_nil, or_false] at h
    rcases h with rfl | rfl | rfl | rfl | rfl | rfl | rfl | rfl | rfl <;> rfl
  · simp only [List.mem_cons, List.not_mem_nil, or_false, not_or] at h
    obtain ⟨h1, h2, h3, h4, h5, h6, h7, h8, h9⟩ := h
    simp [nseek, tgtab, tgname, h1, h2, h3, h4, h5, h6, h7, h8, h9, Ne.symm h1, Ne.symm h2, Ne.symm h3, Ne.symm h4, Ne.symm h5, Ne.symm h6, Ne.symm h7, Ne.symm h8, Ne.symm h9]

set_option maxHeartbeats 4000000 in
theorem tgnames_any (w : World) : Calls Try.prog 22 #[] w fun e w' => ∃ b, e = .returned (.map (some b)) ∧ Nb w' b tgtab ∧ Below w.heap.size w w' := by
  have M := Lib.hid (Nb.made w)
  have B := Lib.hid ((Below.refl w.heap.size w).alloc (Nat.le_refl _) (.map #[] 0))
  have hmm := @run_makeMap Try.prog
  go_enter Try.func22, Try.ntmps22
  go_wp2_with (first
    | (refine wpList_nfill rfl _ _ _ rfl w.heap.size _ rfl M.out (by decide) 257 ⟨#[115, 101, 114, 118, 105, 99, 101]⟩ (by decide) rfl rfl ?_; intro w1 hm1 hg1; replace B := Lib.hid (B.out.grown hg1 B.out.size (fun k hk => by injection hk with hk; omega)); replace M := Lib.hid hm1; clear hm1 hg1)
    | (refine wpList_nfill rfl _ _ _ rfl w.heap.size _ rfl M.out (by decide) 258 ⟨#[110, 97, 109, 101]⟩ (by decide) rfl rfl ?_; intro w1 hm1 hg1; replace B := Lib.hid (B.out.grown hg1 B.out.size (fun k hk => by injection hk with hk; omega)); replace M := Lib.hid hm1; clear hm1 hg1)
    | (refine wpList_nfill rfl _ _ _ rfl w.heap.size _ rfl M.out (by decide) 259 ⟨#[117, 110, 105, 113, 117, 101]⟩ (by decide) rfl rfl ?_; intro w1 hm1 hg1; replace B := Lib.hid (B.out.grown hg1 B.out.size (fun k hk => by injection hk with hk; omega)); replace M := Lib.hid hm1; clear hm1 hg1)
    | (refine wpList_nfill rfl _ _ _ rfl w.heap.size _ rfl M.out (by decide) 260 ⟨#[99, 111, 111, 107, 105, 101]⟩ (by decide) rfl rfl ?_; intro w1 hm1 hg1; replace B := Lib.hid (B.out.grown hg1 B.out.size (fun k hk => by injection hk with hk; omega)); replace M := Lib.hid hm1; clear hm1 hg1)
    | (refine wpList_nfill rfl _ _ _ rfl w.heap.size _ rfl M.out (by decide) 261 ⟨#[118, 101, 110, 100, 111, 114]⟩ (by decide) rfl rfl ?_; intro w1 hm1 hg1; replace B := Lib.hid (B.out.grown hg1 B.out.size (fun k hk => by injection hk with hk; omega)); replace M := Lib.hid hm1; clear hm1 hg1)
    | (refine wpList_nfill rfl _ _ _ rfl w.heap.size _ rfl M.out (by decide) 272 ⟨#[114, 101, 108, 97, 121]⟩ (by decide) rfl rfl ?_; intro w1 hm1 hg1; replace B := Lib.hid (B.out.grown hg1 B.out.size (fun k hk => by injection hk with hk; omega)); replace M := Lib.hid hm1; clear hm1 hg1)
    | (refine wpList_nfill rfl _ _ _ rfl w.heap.size _ rfl M.out (by decide) 513 ⟨#[110, 111, 45, 115, 101, 114, 118, 105, 99, 101]⟩ (by decide) rfl rfl ?_; intro w1 hm1 hg1; replace B := Lib.hid (B.out.grown hg1 B.out.size (fun k hk => by injection hk with hk; omega)); replace M := Lib.hid hm1; clear hm1 hg1)
    | (refine wpList_nfill rfl _ _ _ rfl w.heap.size _ rfl M.out (by decide) 514 ⟨#[110, 111, 45, 115, 121, 115, 116, 101, 109]⟩ (by decide) rfl rfl ?_; intro w1 hm1 hg1; replace B := Lib.hid (B.out.grown hg1 B.out.size (fun k hk => by injection hk with hk; omega)); replace M := Lib.hid hm1; clear hm1 hg1)
    | (refine wpList_nfill rfl _ _ _ rfl w.heap.size _ rfl M.out (by decide) 515 ⟨#[101, 114, 114, 111, 114]⟩ (by decide) rfl rfl ?_; intro w1 hm1 hg1; replace B := Lib.hid (B.out.grown hg1 B.out.size (fun k hk => by injection hk with hk; omega)); replace M := Lib.hid hm1; clear hm1 hg1))
  go_ret
  exact ⟨_, rfl, M.out, B.out⟩

set_option maxHeartbeats 2000000 in
theorem tgname_any (t : Nat) (ht : t < 65536) (w : World) (s : ByteArray) (hs : tgname t = s) :
    Calls Try.prog 17 #[.int .u16 (t : Int)] w fun e w' => e = .returned (.string s) ∧ Below w.heap.size w w' := by
  have HS := Lib.hid ((tgtab_seek t).trans hs)
  clear hs
  go_enter Try.func17, Try.ntmps17
  go_wp2_with (first
    | (go_at_call 22; (with_reducible refine (tgnames_any _).mono ?_); rintro e wn ⟨b, rfl, hm, hb⟩; have M := Lib.hid hm; have B := Lib.hid hb; clear hm hb)
    | (refine wpList_nlook rfl _ _ rfl _ _ rfl M.out t s ht rfl HS.out ?_))
  go_ret
  exact ⟨rfl, B.out⟩
end Go.Proofs.Ytldadfmcganejaa
