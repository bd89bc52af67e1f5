/-
  For every config and any two lists of options the Go function marlinelaw14.OptsParts returns true. No condition.
-/
import Derived.Test.YtmilbkhkefbjkaaRows
import Derived.Test.YtmilbkhkefbjkaaOpsPW
import Derived.Test.YtmilbkhkefbjkaaTlvH
import Derived.WalkKit
import Derived.ProofKit
import Derived.OpenShut
import Derived.ShutString
import Derived.ChangeOld
import Derived.Below
import Derived.Deep.Fields
import Derived.SizedLaws
namespace Go.Proofs.Ytmilbkhkefbjkaa.optsParts
open Go.ChangeShapes Go.WideShapes Go.ChangeAt Go.RowKit Go.Deep
set_option linter.unusedVariables false

theorem own : ownKnob Try.prog.godebug = none := by kernel_rfl
theorem laidOut : laidOutB Try.prog = true := by kernel_rfl

theorem open_cf {H : Type} {enc : TypeId × Value → H} {w : World} {base : Nat} {spare : Nat → Bool} {held : Bool} {r : Reach} {b0 : Nat} {v : Value} {d : DataW H} {p : List MemPlace}
    (hv : Value.okWide Try.prog w r b0 55 v) (h : DataW.Trod enc Try.prog w base spare held 55 v d p) : ∃ c : Cf, v = c.val ∧ p = [] ∧ c.ok := by
  obtain ⟨cs, rfl, hsz⟩ := okWide_struct Try.underlying55 hv
  obtain ⟨l⟩ := cs
  have hC : Try.prog.cellsOf 55 = 7 := by kernel_rfl
  have c4 : Try.prog.cellsOf 4 = 1 := by kernel_rfl
  have c22 : Try.prog.cellsOf 53 = 1 := by kernel_rfl
  have c3 : Try.prog.cellsOf 3 = 1 := by kernel_rfl
  match l, hsz.trans hC with
  | [x0, x1, x2, x3, x4, x5, x6], _ =>
    obtain ⟨fuel, hf⟩ := h
    obtain ⟨xs, n, _, hx, _, hlen, hg⟩ := DataW.trod_struct Try.underlying55 hf
    match xs, hlen with
    | [y0, y1, y2, y3, y4, y5, y6], _ =>
      have g0 := hg 0 _ rfl
      have g1 := hg 1 _ rfl
      have g2 := hg 2 _ rfl
      have g3 := hg 3 _ rfl
      have g4 := hg 4 _ rfl
      have g5 := hg 5 _ rfl
      have g6 := hg 6 _ rfl
      simp [Value.cells, c4, c22, c3] at g0 g1 g2 g3 g4 g5 g6
      obtain ⟨b0, e0, rfl⟩ := DataW.trod_bool Try.underlying4 g0
      obtain ⟨b1, e1, rfl⟩ := DataW.trod_bool Try.underlying4 g1
      obtain ⟨b2, e2, rfl⟩ := DataW.trod_bool Try.underlying4 g2
      obtain ⟨b3, e3, rfl⟩ := DataW.trod_bool Try.underlying4 g3
      obtain ⟨b4, e4, rfl, s4⟩ := DataW.trod_int Try.underlying53 g4
      obtain ⟨b5, e5, rfl, s5⟩ := DataW.trod_int Try.underlying53 g5
      obtain ⟨b6, e6, rfl, s6⟩ := DataW.trod_int Try.underlying3 g6
      simp at e0 e1 e2 e3 e4 e5 e6
      subst e0 e1 e2 e3 e4 e5 e6
      have r4 := bounds_u32 s4
      have r5 := bounds_u32 s5
      have r6 := bounds_i64 s6
      simp only [Prod.mk.injEq] at hx
      refine ⟨⟨b0, b1, b2, b3, b4.toNat, b5.toNat, b6⟩, ?_, by simpa using hx.2, ⟨?_, ?_, r6.1, r6.2⟩⟩
      · show _ = Value.agg #[.bool b0, .bool b1, .bool b2, .bool b3, .int .u32 (b4.toNat : Int), .int .u32 (b5.toNat : Int), .int .i64 b6]
        rw [Int.toNat_of_nonneg r4.1, Int.toNat_of_nonneg r5.1]
      · show b4.toNat < _
        omega
      · show b5.toNat < _
        omega

theorem walk (a0 : Cf) (a1 : Option Addr) (len1 cap1 : Nat) (l1 : List (Nat × List Nat)) (a2 : Option Addr) (len2 cap2 : Nat) (l2 : List (Nat × List Nat)) (w : World) (w0 : a0.ok) (w1 : IsOpts w a1 len1 cap1 l1) (w2 : IsOpts w a2 len2 cap2 l2) :
    Calls Try.prog 7 #[a0.val, .slice a1 len1 cap1, .slice a2 len2 cap2] w fun e w' => e = .returned (.bool true) ∧ Below w.heap.size w w' := by
  obtain ⟨hl1, hc1, hn1, ho1, hd1, hr1⟩ := w1
  obtain ⟨hl2, hc2, hn2, ho2, hd2, hr2⟩ := w2
  by_cases h : fewB l1 = true ∧ fewB l2 = true
  · exact parts_walk a0 l1 a1 len1 cap1 l2 a2 len2 cap2 w hl1 hn1 ho1 hd1 hr1 hl2 hn2 ho2 hd2 hr2 h.1 h.2
  · exact parts_early a0 l1 a1 len1 cap1 l2 a2 len2 cap2 w hl1 hn1 hd1 hr1 hl2 hn2 hd2 hr2 h

set_option maxRecDepth 100000 in
theorem lifted (os : Os) (started : os.Started) (H : Type) (enc : TypeId × Value → H) :
    ReturnsInHanded {} Try.checked os 7 .any (Rows.optsPartsSpec.pre6 enc Try.prog Try.f7 Rows.optsPartsRow.domain false) (Rows.optsPartsSpec.post enc Try.prog Try.f7 false true false false) := by
  refine returnsInHanded_of_change_sized (C := Try.checked) own started (by kernel_rfl) Try.func7
    (ChangeSpec.witness6 (enc := enc) (C := Try.checked) false ⟨#[], #[(Cf.val ⟨false, false, false, false, 0, 0, 0⟩), .slice none 0 0, .slice none 0 0], []⟩ 8 (by kernel_rfl) (by kernel_rfl) (by kernel_rfl) (by kernel_rfl)) ?_
  intro W base args ds gs before hval0 hW hcnd hsz0 _
  have hsz : (DataW.weightsEach Try.prog (Try.f7.params.toList ++ Rows.optsPartsSpec.plain.varTypes Try.prog) (ds ++ gs)).all (· ≤ reachBytes) = true := hsz0
  clear hsz0
  have hval : ∀ (j : Nat) t v, Try.f7.params[j]? = some t → args[j]? = some v → Value.okWide Try.prog W .any base t v := hval0
  have hW' := hW
  obtain ⟨p, q, hA0, hV, rfl, hfz, hnd⟩ := hW
  have hA : DataW.TrodAll enc Try.prog W 0 (fun _ => true) true Try.f7.params.toList args.toList ds p := hA0
  rw [Try.params7] at hA hval hsz
  obtain ⟨v0, vs0, d0, ds0, p0, q0, hargs, rfl, rfl, h0, r0⟩ := trodAll_cons hA
  obtain ⟨v1, vs1, d1, ds1, p1, q1, rfl, rfl, rfl, h1, r1⟩ := trodAll_cons r0
  obtain ⟨v2, vs2, d2, ds2, p2, q2, rfl, rfl, rfl, h2, r2⟩ := trodAll_cons r1
  obtain ⟨rfl, rfl, rfl⟩ := trodAll_nil r2
  obtain rfl : args = #[v0, v1, v2] := by cases args; simp_all
  obtain ⟨rfl, rfl⟩ := trodVars_none hV
  have k0 := h0
  have lt0 : ∀ x ∈ p0, x.block < W.heap.size := by obtain ⟨m, hm⟩ := h0; exact DataW.trod_lt m _ _ _ hm
  have k1 := h1
  have lt1 : ∀ x ∈ p1, x.block < W.heap.size := by obtain ⟨m, hm⟩ := h1; exact DataW.trod_lt m _ _ _ hm
  have k2 := h2
  have lt2 : ∀ x ∈ p2, x.block < W.heap.size := by obtain ⟨m, hm⟩ := h2; exact DataW.trod_lt m _ _ _ hm
  obtain ⟨a0, rfl, rfl, w0⟩ := open_cf (hval 0 55 v0 rfl rfl) h0
  obtain ⟨a1, len1, cap1, l1, rfl, w1⟩ := open_opts (hval 1 23 v1 rfl rfl) h1 (fun n hn => of_decide_eq_true (List.all_eq_true.1 hsz _ (DataW.weights_mem_each (j := 1) (t := 23) rfl rfl n hn)))
  obtain ⟨a2, len2, cap2, l2, rfl, w2⟩ := open_opts (hval 2 23 v2 rfl rfl) h2 (fun n hn => of_decide_eq_true (List.all_eq_true.1 hsz _ (DataW.weights_mem_each (j := 2) (t := 23) rfl rfl n hn)))
  clear hA0 hval0
  refine (walk a0 a1 len1 cap1 l1 a2 len2 cap2 l2 W w0 w1 w2).mono fun e W' ⟨he, bel⟩ => ?_
  subst he
  exact ⟨_, rfl, _, _, _, [], _, [], hW', trodAll_mk1 (shut_bool Try.underlying4 _), (trodAll_cons_mk (Below.trod laidOut (by kernel_rfl) (of_decide_eq_true (by kernel_rfl)) k0 bel lt0) (trodAll_cons_mk (Below.trod laidOut (by kernel_rfl) (of_decide_eq_true (by kernel_rfl)) k1 bel lt1) (trodAll_cons_mk (Below.trod laidOut (by kernel_rfl) (of_decide_eq_true (by kernel_rfl)) k2 bel lt2) trodAll_mk0))), rfl, bel.frame _, fun h => by cases h⟩

theorem over : Rows.optsPartsRow.holds Try.pinned (OpenSpec.ofChange Rows.optsPartsSpec) :=
  OpenClaim.holds_of_wide 7 Try.f7 rfl rfl rfl rfl rfl rfl rfl ⟨rfl, rfl, rfl, rfl, rfl⟩ rfl rfl rfl rfl rfl (by kernel_rfl) Try.func7 (by kernel_rfl)
    (of_decide_eq_true (by kernel_rfl)) (by unfold Func.isWrapper; first | (rw [if_pos (by decide +kernel)]; kernel_rfl) | (rw [if_neg (by decide +kernel)]; exact ⟨rfl, rfl⟩))
    (fun os started H enc _ => lifted os started H enc)

theorem proved : Rows.OptsPartsSaid := over
#print axioms proved
end Go.Proofs.Ytmilbkhkefbjkaa.optsParts
