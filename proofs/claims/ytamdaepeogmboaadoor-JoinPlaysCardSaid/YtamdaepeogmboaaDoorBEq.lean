
/-
  What bytes.Equal answers on two lists of bytes. No condition beyond: bytes below 256.
-/
import Derived.Test.YtamdaepeogmboaaDoorEq
import Derived.Lib.Bytes
import Derived.Laws.BytesArg
namespace Go.Proofs.YtamdaepeogmboaaDoor
open Go.RowKit

/-- A list of bytes as the numbers of a string. -/
def nums (l : List Nat) : List Int := l.map fun (x : Nat) => (x : Int)
theorem nums_eq {a b : List Nat} (ha : By a) (hb : By b) : (Lib.bytesOf (nums a) == Lib.bytesOf (nums b)) = decide (a = b) := by
  rw [Bool.eq_iff_iff, beq_iff_eq, decide_eq_true_iff]
  constructor
  · intro h
    have key : ∀ l : List Nat, By l → (Lib.bytesOf (nums l)).map UInt8.toNat = l := by
      intro l hl
      induction l with
      | nil => rfl
      | cons x t ih =>
        have hx : x < 256 := hl x (List.mem_cons_self ..)
        have := ih (fun y hy => hl y (List.mem_cons_of_mem _ hy))
        simp only [nums, Lib.bytesOf, List.map_cons, List.map_map] at this ⊢
        rw [this]
        congr 1
        simp
        omega
    rw [← key a ha, ← key b hb, h]
  · rintro rfl
    rfl
theorem conv_list {w : World} {B : Nat} {A : Option Addr} {l : List Nat} (h : Rd w B A l) (n c : Nat) (hl : l.length = n) : (convert 30 9 (.slice A n c)).run Tryd.prog w = .ok (.string (strOfNums (nums l))) w := by
  rcases Nat.eq_zero_or_pos n with hn | hn
  · subst hn
    obtain rfl : l = [] := List.eq_nil_of_length_eq_zero hl
    rw [run_convert_bytes_string w 30 9 5 A 0 c Tryd.underlying30 Tryd.underlying5 Tryd.underlying9]
    cases A <;> simp [Conv.bytesToString, loadCells]
    all_goals rfl
  · obtain ⟨b, off, rfl, _, hc⟩ := h (by omega)
    refine run_convert_bytes_arg w 30 5 Tryd.underlying30 Tryd.underlying5 b off n c (nums l) (by simp [nums, hl]) (fun i hi => ?_) 9 Tryd.underlying9
    rw [hc i _ (List.getElem?_eq_getElem (by omega))]
    simp [nums, List.getD, List.getElem?_eq_getElem (show i < l.length by omega)]

end Go.Proofs.YtamdaepeogmboaaDoor
