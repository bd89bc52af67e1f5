/-
  For every most and every list of chunks the Go function marlinelaw07.SyncFeeds returns true, and its arguments read afterwards as before. No condition.
-/
import Derived.Test.YteicednlgajpgaaRows
import Derived.Test.YteicednlgajpgaaSynFW
import Derived.WalkKit
import Derived.ProofKit
import Derived.OpenShut
import Derived.ShutString
import Derived.ChangeOld
import Derived.Below
import Derived.Deep.Matrix
import Derived.SizedLaws
namespace Go.Proofs.Yteicednlgajpgaa.syncFeeds
open Go.ChangeShapes Go.WideShapes Go.ChangeAt Go.RowKit Go.Deep
set_option linter.unusedVariables false

theorem own : ownKnob Try.prog.godebug = none := by kernel_rfl
theorem laidOut : laidOutB Try.prog = true := by kernel_rfl
theorem cells1 : Try.prog.cellsOf 27 = 1 := by kernel_rfl
theorem cells2 : Try.prog.cellsOf 5 = 1 := by kernel_rfl
theorem bytes1 : Try.prog.bytesOf 27 = 24 := by kernel_rfl
theorem bytes2 : Try.prog.bytesOf 5 = 1 := by kernel_rfl

theorem all_mem {H : Type} {P : Program} {e : TypeId} : ∀ {l : List (DataW H)} {d : DataW H}, d ∈ l → ∀ n ∈ d.weights P e, n ∈ DataW.weightsAll P e l
  | d' :: r, d, hd, n, hn => by
    simp only [DataW.weightsAll, List.mem_append]
    rcases List.mem_cons.1 hd with rfl | h
    · exact Or.inl hn
    · exact Or.inr (all_mem h n hn)

/-- What the walk is told of the slice of slices: what its elements read as. -/
def IsRows (w : World) (a : Option Addr) (len : Nat) (ls : List (List Nat)) : Prop :=
  ls.length = len ∧ len ≤ 140737488351232 ∧ (∀ x ∈ ls, By x) ∧ (∀ x ∈ ls, x.length ≤ 140737488351232) ∧ Rr w a ls

theorem walk (a0 : Int) (a1 : Option Addr) (len1 cap1 : Nat) (ls : List (List Nat)) (w : World) (w0 : (Lit.int .i64 a0).wf = true) (w1 : IsRows w a1 len1 ls) :
    Calls Try.prog 3 #[.int .i64 a0, .slice a1 len1 cap1] w fun e w' => e = .returned (.bool true) ∧ Below w.heap.size w w' := by
  obtain ⟨hl, hn2, hby, hs, hr⟩ := w1
  by_cases h4 : 1 ≤ a0 ∧ a0 ≤ 1048576 ∧ len1 ≤ 60 ∧ ls.flatten.length ≤ 900
  · obtain ⟨most, rfl⟩ : ∃ n : Nat, a0 = (n : Int) := ⟨a0.toNat, by omega⟩
    exact sfeeds_walk most (by omega) (by omega) ls len1 a1 cap1 w hr hby hl hs h4.2.2.1 h4.2.2.2
  · exact sfeeds_out a0 ls len1 a1 cap1 w hr hl hn2 hs h4

set_option maxRecDepth 100000 in
theorem lifted (os : Os) (started : os.Started) (H : Type) (enc : TypeId × Value → H) :
    ReturnsInHanded {} Try.checked os 3 .any (Rows.syncFeedsSpec.pre6 enc Try.prog Try.f3 Rows.syncFeedsRow.domain false) (Rows.syncFeedsSpec.post enc Try.prog Try.f3 false true false false) := by
  refine returnsInHanded_of_change_sized (C := Try.checked) own started (by kernel_rfl) Try.func3
    (ChangeSpec.witness6 (enc := enc) (C := Try.checked) false ⟨#[], #[.int .i64 0, .slice none 0 0], []⟩ 8 (by kernel_rfl) (by kernel_rfl) (by kernel_rfl) (by kernel_rfl)) ?_
  intro W base args ds gs before hval0 hW hcnd hsz0 _
  have hsz : (DataW.weightsEach Try.prog (Try.f3.params.toList ++ Rows.syncFeedsSpec.plain.varTypes Try.prog) (ds ++ gs)).all (· ≤ reachBytes) = true := hsz0
  clear hsz0
  have hval : ∀ (j : Nat) t v, Try.f3.params[j]? = some t → args[j]? = some v → Value.okWide Try.prog W .any base t v := hval0
  have hW' := hW
  obtain ⟨p, q, hA0, hV, rfl, hfz, hnd⟩ := hW
  have hA : DataW.TrodAll enc Try.prog W 0 (fun _ => true) true Try.f3.params.toList args.toList ds p := hA0
  rw [Try.params3] at hA hval hsz
  obtain ⟨v0, vs0, d0, ds0, p0, q0, hargs, rfl, rfl, h0, r0⟩ := trodAll_cons hA
  obtain ⟨v2, vs2, d2, ds2, p2, q2, rfl, rfl, rfl, h2, r2⟩ := trodAll_cons r0
  obtain ⟨rfl, rfl, rfl⟩ := trodAll_nil r2
  obtain rfl : args = #[v0, v2] := by cases args; simp_all
  obtain ⟨rfl, rfl⟩ := trodVars_none hV
  obtain ⟨a0, rfl, rfl, rfl, w0⟩ := open_int Try.underlying3 (hval 0 3 v0 rfl rfl) h0
  obtain ⟨a2, len2, cap2, rfl⟩ := okWide_slice Try.underlying22 (hval 1 22 v2 rfl rfl)
  have k2 := h2
  have lt2 : ∀ x ∈ p2, x.block < W.heap.size := by obtain ⟨m, hm⟩ := k2; exact DataW.trod_lt m _ _ _ hm
  obtain ⟨ls, w2⟩ : ∃ ls, IsRows W a2 len2 ls := by
    obtain ⟨fuel, hf⟩ := h2
    rcases open_int_rows Try.underlying22 Try.underlying27 Try.underlying5 cells1 cells2 hf with ⟨hcs, _⟩ | ⟨a, len, cap, AA, LL, CC, ZZ, hcs, _, hl, hm, hx, hrow⟩
    · simp [Value.cells] at hcs
      obtain ⟨rfl, rfl, rfl⟩ := hcs
      exact ⟨[], rfl, Nat.zero_le _, (fun _ h => by cases h), (fun _ h => by cases h), fun h => absurd h (by simp)⟩
    · simp [Value.cells] at hcs
      obtain ⟨rfl, rfl, rfl⟩ := hcs
      have hd : d2 = .slice ((List.range len2).map fun r => intRow .u8 (AA r) (LL r) (ZZ r)) ((List.range (cap2 - len2)).map fun j => intRow .u8 (AA (len2 + j)) (LL (len2 + j)) (ZZ (len2 + j))) := congrArg Prod.fst hx
      have hout := sized_slice hsz (j := 1) (t := 22) rfl (by rw [hd]; rfl) Try.underlying22
      rw [bytes1] at hout
      simp only [List.length_map, List.length_range] at hout
      have hr : reachBytes = 140737488351232 := rfl
      have each : ∀ r, r < len2 → ∃ l : List Nat, l.length = LL r ∧ By l ∧ Rd W W.heap.size (AA r) l ∧ l.length ≤ 140737488351232 := by
        intro r hr'
        obtain ⟨_, g1, g2, g3, g4, g5, g6⟩ := hrow r (by omega)
        obtain ⟨l, e1, e2, e3⟩ := rowBytes (w := W) (a := AA r) (len := LL r) (cap := CC r) (zs := ZZ r) (by
          cases hAr : AA r with
          | none =>
            have h0 := g5 hAr
            exact .inl ⟨rfl, by omega, h0, List.eq_nil_of_length_eq_zero (by omega)⟩
          | some x => exact .inr ⟨x, rfl, g1, g2, g3, fun i hi => (g6 x hAr).2 i (by omega), g4⟩)
        refine ⟨l, e1, e2, e3, ?_⟩
        rw [e1]
        cases hAr : AA r with
        | none => have h0 := g5 hAr; omega
        | some x =>
          have hmem : DataW.slice (lits (H := H) .u8 ((ZZ r).take (LL r))) (lits .u8 ((ZZ r).drop (LL r))) ∈ ((List.range len2).map fun r => intRow (H := H) .u8 (AA r) (LL r) (ZZ r)) :=
            List.mem_map.2 ⟨r, List.mem_range.2 hr', by simp only [intRow, hAr]⟩
          have := of_decide_eq_true (List.all_eq_true.1 hsz _ (DataW.weights_mem_each (j := 1) (t := 22) rfl rfl (((lits (H := H) .u8 ((ZZ r).take (LL r))).length + (lits (H := H) .u8 ((ZZ r).drop (LL r))).length) * Try.prog.bytesOf 5) (by
            rw [hd]
            simp only [DataW.weights, Try.underlying22, List.mem_cons, List.mem_append]
            exact Or.inr (Or.inl (all_mem hmem _ (by simp [DataW.weights, Try.underlying27]))))))
          rw [bytes2] at this
          simp only [lits, List.length_map, List.length_take, List.length_drop] at this
          omega
      obtain ⟨l, hl'⟩ := choose_lt each
      refine ⟨(List.range len2).map l, by simp, by omega, ?_, ?_, ?_⟩
      · intro x hx
        obtain ⟨r, hr', rfl⟩ := List.mem_map.1 hx
        exact (hl' r (List.mem_range.1 hr')).2.1
      · intro x hx
        obtain ⟨r, hr', rfl⟩ := List.mem_map.1 hx
        exact (hl' r (List.mem_range.1 hr')).2.2.2
      · intro hpos
        rw [List.length_map, List.length_range] at hpos
        obtain ⟨b, off, spot⟩ := a
        have h0 := (hrow 0 (by omega)).1
        have hs : spot = none := by simpa [Addr.add] using World.cell?_spot h0
        subst hs
        refine ⟨b, off, rfl, fun k x hx => ?_⟩
        rw [List.getElem?_map] at hx
        obtain ⟨r, hr', rfl⟩ := Option.map_eq_some_iff.1 hx
        have hkl : k < len2 := by have := (List.getElem?_eq_some_iff.1 hr').1; simpa using this
        rw [List.getElem?_range hkl] at hr'
        injection hr' with hr'
        subst hr'
        refine ⟨AA k, CC k, ?_, (hl' k hkl).2.2.1⟩
        have hc := (hrow k (by omega)).1
        rw [(hl' k hkl).1]
        by_cases h00 : k = 0
        · subst h00; simpa [Addr.add] using hc
        · simpa [Addr.add, h00] using hc
  clear hA0 hval0
  refine (walk a0 a2 len2 cap2 ls W w0 w2).mono fun e W' ⟨he, bel⟩ => ?_
  subst he
  exact ⟨_, rfl, _, _, _, [], _, [], hW', trodAll_mk1 (shut_bool Try.underlying4 _), (trodAll_cons_mk (shut_int Try.underlying3 w0) (trodAll_cons_mk (Below.trod laidOut (by kernel_rfl) (of_decide_eq_true (by kernel_rfl)) k2 bel lt2) trodAll_mk0)), rfl, bel.frame _, fun h => by cases h⟩

theorem over : Rows.syncFeedsRow.holds Try.pinned (OpenSpec.ofChange Rows.syncFeedsSpec) :=
  OpenClaim.holds_of_wide 3 Try.f3 rfl rfl rfl rfl rfl rfl rfl ⟨rfl, rfl, rfl, rfl, rfl⟩ rfl rfl rfl rfl rfl (by kernel_rfl) Try.func3 (by kernel_rfl)
    (of_decide_eq_true (by kernel_rfl)) (by unfold Func.isWrapper; first | (rw [if_pos (by decide +kernel)]; kernel_rfl) | (rw [if_neg (by decide +kernel)]; exact ⟨rfl, rfl⟩))
    (fun os started H enc _ => lifted os started H enc)

theorem proved : Rows.SyncFeedsSaid := over
#print axioms proved
end Go.Proofs.Yteicednlgajpgaa.syncFeeds
