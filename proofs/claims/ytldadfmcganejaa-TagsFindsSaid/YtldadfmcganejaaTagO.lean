
/-
  Tags as elements of a row: a type, and data, in two cells. No condition.
-/
import Derived.Test.YtldadfmcganejaaRowk
import Derived.Test.YtldadfmcganejaaCat
import Derived.Test.YtldadfmcganejaaTagM
namespace Go.Proofs.Ytldadfmcganejaa
set_option maxRecDepth 4000
open Go.RowKit

/-- Tags as elements. -/
def shG : Sh (Nat × List Nat) where
  sz := 2
  S F w x cs := ∃ A c, cs = [.int .u16 (x.1 : Int), .slice A x.2.length c] ∧ x.2.length ≤ c ∧ RdF F w A x.2
  len := by rintro _ _ _ _ ⟨A, c, rfl, _⟩; rfl
  one := by rintro _ _ _ _ ⟨A, c, rfl, _⟩ u hu; simp at hu; rcases hu with rfl | rfl <;> rfl
  keep := by rintro _ _ _ _ _ ⟨A, c, h1, h2, h3⟩ hk; exact ⟨A, c, h1, h2, h3.keep hk⟩
  mono := by rintro _ _ _ _ _ ⟨A, c, h1, h2, h3⟩ hF; exact ⟨A, c, h1, h2, h3.mono hF⟩

/-- A tag of a slice of tags. -/
theorem Rws.tag {F : Nat → Prop} {w : World} {A : Option Addr} {l : List (Nat × List Nat)} (h : Rws shG F w A l) {k : Nat} (hk : k < l.length) :
    ∃ b off o Ak ck, A = some ⟨b, off, none⟩ ∧ b < w.heap.size ∧ l[k]? = some o ∧ w.cell? ⟨b, off + k * 2, none⟩ = some (.int .u16 (o.1 : Int)) ∧ w.cell? ⟨b, off + k * 2 + 1, none⟩ = some (.slice Ak o.2.length ck) ∧ o.2.length ≤ ck ∧ RdF F w Ak o.2 := by
  obtain ⟨b, off, o, cs, h1, h2, h3, ⟨Ak, ck, rfl, h4, h5⟩, h6⟩ := h.at_ hk
  exact ⟨b, off, o, Ak, ck, h1, h2, h3, h6 0 _ rfl, h6 1 _ rfl, h4, h5⟩
/-- One tag in a new block. -/
theorem litg {F : Nat → Prop} (w : World) {T : TypeId} {A : Option Addr} {n c : Nat} {t : Nat} {l : List Nat} (hl : l.length = n) (hc : n ≤ c) (h : RdF F w A l) :
    Orw shG T F w.heap.size (w.alloc (.cells #[.int .u16 (t : Int), .slice A n c] T)) (.slice (some ⟨w.heap.size, 0, none⟩) 1 1) [(t, l)] := by
  subst hl
  refine Orw.lit w [[.int .u16 (t : Int), .slice A l.length c]] rfl (fun k x cs hx hk => ?_) (by simp)
  rcases k with _ | k
  · injection hx with hx
    injection hk with hk
    subst hx; subst hk
    exact ⟨A, c, rfl, hc, h⟩
  · simp at hx
theorem Rws.nilG {F : Nat → Prop} {w : World} {A : Option Addr} : Rws shG F w A [] := fun h => absurd h (by simp)
end Go.Proofs.Ytldadfmcganejaa
