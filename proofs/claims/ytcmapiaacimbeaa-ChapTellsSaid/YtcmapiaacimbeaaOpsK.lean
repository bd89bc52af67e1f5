
/-
  A map of spans in memory; what known, sought and Size answer, and the document's Size. No condition beyond: a protocol below 2^16, a type below 256.
-/
import Derived.Test.YtcmapiaacimbeaaOpsM
import Derived.Test.YtcmapiaacimbeaaTlvS
import Derived.Maps.OwnSet
namespace Go.Proofs.Ytcmapiaacimbeaa
open Go.RowKit Go.Maps

/-- How a span reads. -/
def spanE : Value → Option (DataW Unit × List MemPlace)
  | .agg ⟨[.int .i64 a, .int .i64 b]⟩ => some (.agg [.lit (.int .i64 a), .lit (.int .i64 b)], [])
  | _ => none
abbrev spanV (a b : Int) : Value := .agg #[.int .i64 a, .int .i64 b]
abbrev spanD (a b : Int) : DataW Unit := .agg [.lit (.int .i64 a), .lit (.int .i64 b)]
theorem spanE_mk (a b : Int) : spanE (spanV a b) = some (spanD a b, []) := rfl
theorem spanE_inv {v : Value} {a b : Int} {ps : List MemPlace} (h : spanE v = some (spanD a b, ps)) : v = spanV a b := by
  unfold spanE at h
  split at h
  · simp at h
    rw [h.1.1, h.1.2]
  · cases h
/-- What the map reads as. -/
def mapD : Tab → DataW Unit
  | [] => .map []
  | x :: r => (mapD r).put (.int .u8 (x.1 : Int)) (spanD (x.2.1 : Int) (x.2.2 : Int))
theorem mapD_is (T : Tab) : IsMap (mapD T) := by
  induction T with
  | nil => exact isMap_empty
  | cons x r ih => exact ih.put _ _
theorem key_is (t : Nat) : WideAt.IsKeyLit (.int .u8 (t : Int)) := by trivial
theorem key_ne {s t : Nat} (h : s ≠ t) : (Lit.int .u8 (t : Int)) ≠ (Lit.int .u8 (s : Int)) := by
  intro e
  injection e with _ e
  omega
theorem mapD_has (T : Tab) (t : Nat) : has (mapD T) (.int .u8 (t : Int)) = (seekB T t).2.2 := by
  induction T with
  | nil => rfl
  | cons x r ih =>
    unfold mapD
    by_cases h : x.1 = t
    · rw [← h, has_put_same (mapD_is r) (key_is _)]
      simp [seekB]
    · rw [has_put_other (key_ne h), ih]
      simp [seekB, h]
theorem mapD_at (T : Tab) (t : Nat) : (mapD T).atKey (.int .u8 (t : Int)) (spanD 0 0) = spanD ((seekB T t).1 : Int) ((seekB T t).2.1 : Int) := by
  induction T with
  | nil => rfl
  | cons x r ih =>
    unfold mapD
    by_cases h : x.1 = t
    · rw [← h, atKey_put_same (mapD_is r) (key_is _)]
      simp [seekB]
    · rw [atKey_put_other (key_ne h), ih]
      simp [seekB, h]

/-- Block b is such a map. -/
def Mb (w : World) (b : Nat) (T : Tab) : Prop := w.ownsMap Try.prog 5 spanE b T.length (mapD T)
/-- A map's value, a nil one too. -/
def Mp (w : World) (m : Option Nat) (T : Tab) : Prop := (m = none ∧ T = []) ∨ ∃ b, m = some b ∧ Mb w b T
theorem Mb.below {w w' : World} {b : Nat} {T : Tab} {B : Nat} (h : Mb w b T) (hb : Below B w w') (hB : b < B) : Mb w' b T := by
  obtain ⟨es, clock, h1, r⟩ := h
  exact ⟨es, clock, (hb.block b hB).trans h1, r⟩
theorem Mb.lt {w : World} {b : Nat} {T : Tab} (h : Mb w b T) : b < w.heap.size := World.ownsMap.lt h
theorem Mp.below {w w' : World} {m : Option Nat} {T : Tab} (h : Mp w m T) (hb : Below w.heap.size w w') : Mp w' m T :=
  h.imp id fun ⟨b, e, hm⟩ => ⟨b, e, hm.below hb hm.lt⟩
theorem Mb.made (w : World) : Mb (w.alloc (.map #[] 0)) w.heap.size [] := World.ownsMap_made _ _ _ _

theorem byte_keyed : Keyed Try.prog 5 := int_keyed Try.underlying5
theorem byte_wf {t : Nat} (h : t < 256) : (Lit.int .u8 (t : Int)).wf = true := by
  simp [Lit.wf, IntKind.min, IntKind.max, IntKind.signed, IntKind.bits]
  omega
end Go.Proofs.Ytcmapiaacimbeaa
