
/-
  The mathematics of layer 24: a joiner by which nothing came. No condition.
-/
import Derived.Test.YtamdaepeogmboaaDoorJoiN
namespace Go.Proofs.YtamdaepeogmboaaDoor
set_option maxRecDepth 4000

/-- A joiner by which nothing came. -/
def jnew (s : Bool) (links : Nat) (room most : Int) : Jn := ⟨s, room, most, List.replicate links (-1), [], 0, 0, [], []⟩
def jnewR (links room most : Int) : Bool := decide (1 ≤ links) && decide (links ≤ 16) && decide (1 ≤ room) && decide (room ≤ 4096) && decide (1 ≤ most) && decide (most ≤ 1048576)
theorem jnew_ok {s : Bool} {links : Nat} {room most : Int} (h1 : 0 < links) (h2 : links ≤ 16) (h3 : 1 ≤ most) (h4 : most ≤ 1048576) : Jok 0 (jnew s links room most) ∧ jstp (jnew s links room most) = none := by
  have hl : ∀ x ∈ (jnew s links room most).last, x = -1 := fun x hx => (List.mem_replicate.1 hx).2
  have hlen : (jnew s links room most).last.length = links := List.length_replicate
  have e1 : jleast (jnew s links room most).last = -1 := hl _ (jleast_mem (by omega))
  refine ⟨⟨Int.le_refl _, Int.le_refl _, .inl rfl, by show ((([] : List Nat).length : Nat) : Int) ≤ most; simp; omega, by show 0 ≤ most; omega, h4, (fun x hx => by cases hx), (fun x hx => by cases hx), Nat.zero_le _, fun x hx => by rw [hl x hx]; omega, by omega, by omega, by show ((([] : List Ev).length : Nat) : Int) ≤ 2 * 0; simp⟩, ?_⟩
  refine jstp_none rfl ?_
  unfold jend
  rw [e1]
  show (if (4611686018427387904 : Int) < -1 + 1 then (4611686018427387904 : Int) else -1 + 1) ≤ 0
  decide

end Go.Proofs.YtamdaepeogmboaaDoor
