
/-
  What Find answers, by what the list has. No condition beyond: lists of at most 2^38 options.
-/
import Derived.Test.YthcigbhjdocdnaaTlvV
namespace Go.Proofs.Ythcigbhjdocdnaa
open Go.RowKit

theorem find_succ {l : List (Nat × List Nat)} {p : Nat × List Nat → Bool} {k : Nat} {o : Nat × List Nat} (hk : l[k]? = some o) : (l.take (k + 1)).find? p = ((l.take k).find? p).or (if p o = true then some o else none) := by
  rw [List.take_add_one, hk, Option.toList_some, List.find?_append]
  congr 1
  cases h : p o <;> simp [h]
theorem ofind_none (l : List (Nat × List Nat)) (t : Nat) (n c : Nat) (A : Option Addr) (F : Nat → Prop) (w : World) (h : Rws shO F w A l) (hl : l.length = n) (hn : n ≤ 274877906944) (hd : datB l ≤ 68719476736) (hf : l.find? (fun o => decide (o.1 = t)) = none) :
    Calls Try.prog 18 #[.slice A n c, .int .u8 (t : Int)] w fun e w' => e = .returned (.tuple #[.agg #[.int .u8 0, .slice none 0 0], .bool false]) ∧ Below w.heap.size w w' :=
  (ofind_any l t n c A F w h hl hn hd).mono fun _ _ ⟨hb, h2⟩ => by
    rcases h2 with ⟨_, he⟩ | ⟨o, _, _, _, ho, _⟩
    · exact ⟨he, hb⟩
    · rw [hf] at ho; cases ho
theorem ofind_some (l : List (Nat × List Nat)) (o : Nat × List Nat) (t : Nat) (n c : Nat) (A : Option Addr) (F : Nat → Prop) (w : World) (h : Rws shO F w A l) (hl : l.length = n) (hn : n ≤ 274877906944) (hd : datB l ≤ 68719476736) (hf : l.find? (fun o => decide (o.1 = t)) = some o) (k : Nat) (hk : o.2.length = k) :
    Calls Try.prog 18 #[.slice A n c, .int .u8 (t : Int)] w fun e w' => ∃ A' c', e = .returned (.tuple #[.agg #[.int .u8 (t : Int), .slice A' k c'], .bool true]) ∧ w'.ownsRow w.heap.size 5 1 (.slice A' k c') k (bvs o.2) ∧ Below w.heap.size w w' :=
  (ofind_any l t n c A F w h hl hn hd).mono fun _ _ ⟨hb, h2⟩ => by
    rcases h2 with ⟨ho, _⟩ | ⟨o', A', c', m, ho, h3, h4, he, h5⟩
    · rw [hf] at ho; cases ho
    · rw [hf] at ho
      injection ho with ho
      subst ho
      obtain rfl : m = k := by rw [← h4, hk]
      exact ⟨A', c', he, h5, hb⟩
end Go.Proofs.Ythcigbhjdocdnaa
