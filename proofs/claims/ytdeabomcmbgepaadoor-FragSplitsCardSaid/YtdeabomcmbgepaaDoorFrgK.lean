
/-
  What Few of layer 23 answers. No condition beyond: lists of at most 2^47 pieces, each with at most 2^47 octets.
-/
import Derived.Test.YtdeabomcmbgepaaDoorFrgO
namespace Go.Proofs.YtdeabomcmbgepaaDoor
open Go.RowKit

/-- How many octets have pieces' data. -/
def frdat (l : List Pc) : Nat := (l.map fun x => x.d.length).sum
theorem frdat_at {l : List Pc} {k : Nat} {x : Pc} (h : l[k]? = some x) : frdat (l.take (k + 1)) = frdat (l.take k) + x.d.length := by
  unfold frdat
  rw [List.take_add_one, h]
  simp
theorem frdat_le {l : List Pc} {k : Nat} {x : Pc} (h : l[k]? = some x) : x.d.length ≤ frdat l := by
  have e : frdat l = frdat (l.take (k + 1)) + frdat (l.drop (k + 1)) := by
    unfold frdat
    rw [← List.sum_append, ← List.map_append, List.take_append_drop]
  rw [frdat_at h] at e
  omega
/-- Are pieces few? -/
def frfew (l : List Pc) : Bool := decide (l.length ≤ 60) && decide (frdat l ≤ 1000)

set_option maxHeartbeats 1000000 in
theorem frfew_any (l : List Pc) (n c : Nat) (A : Option Addr) (F : Nat → Prop) (w : World) (h : Rws shF F w A l) (hl : l.length = n) (hn : n ≤ 140737488351232) (M : Nat) (hM : M ≤ 140737488351232) (hd : ∀ x ∈ l, x.d.length ≤ M) :
    Calls Tryd.prog 15 #[.slice A n c] w fun e w' => e = .returned (.bool (frfew l)) ∧ Below w.heap.size w w' := by
  have HL := Lib.hid hl
  have HD := Lib.hid hd
  clear hl hd
  go_enter Tryd.func15, Tryd.ntmps15
  go_wp2_with fail
  go_loopw [3, 8] (fun s i wr => ∃ (k : Nat) (z : Int), k ≤ n ∧ i = .int .i64 k ∧ s = .int .i64 z ∧ Hid (k ≤ 60 → z = (frdat (l.take k) : Int) ∧ frdat (l.take k) ≤ k * M) ∧ Below w.heap.size w wr) (fun _ i _ => n - (intOf i).toNat)
  case atStart => exact ⟨0, 0, Nat.zero_le _, rfl, rfl, Lib.hid (fun _ => ⟨rfl, by simp [frdat]⟩), Below.refl _ _⟩
  case round =>
    obtain ⟨k, z, hk, rfl, rfl, hz, hbel⟩ := hrel
    by_cases hlt : k < n
    · obtain ⟨b, o, x, A3, c3, rfl, hb3, hx, h1, h2, h3, h4, h5, h6⟩ := (h.below hbel).pc (k := k) (by rw [HL.out]; exact hlt)
      have hxl := HD.out x (List.mem_of_getElem? hx)
      have HZ := Lib.hid (show k + 1 ≤ 60 → wrap64 (z + (x.d.length : Int)) = (frdat (l.take (k + 1)) : Int) ∧ frdat (l.take (k + 1)) ≤ (k + 1) * M from fun hk60 => by
        obtain ⟨e1, e2⟩ := hz.out (by omega)
        rw [frdat_at hx, e1]
        refine ⟨?_, by rw [Nat.add_mul]; omega⟩
        have hkM : k * M ≤ 60 * M := Nat.mul_le_mul_right _ (by omega)
        have e3 : wrap64 ((frdat (l.take k) : Int) + (x.d.length : Int)) = (frdat (l.take k) : Int) + (x.d.length : Int) := IntWalk.wrap64_in _ (by omega)
        rw [e3]
        omega)
      have R2 := Lib.hid (hbel.alloc hbel.size (.cells #[.bool x.b, .bool x.e, .int .i64 x.n, .slice A3 x.d.length c3] 24))
      have i1 : (0 : Int) ≤ k := by omega
      have i2 : (k : Int) < n := by omega
      clear hx h6 hxl
      go_wp2_with fail
      go_roundw
      case rel => exact ⟨k + 1, _, by omega, by go_num, rfl, HZ, R2.out⟩
      case measure => simp [intOf]; omega
    · have he : k = n := by omega
      subst he
      by_cases c1 : k ≤ 60
      · obtain ⟨e1, e2⟩ := hz.out c1
        rw [List.take_of_length_le (by rw [HL.out]; exact Nat.le_refl _)] at e1
        have j1 : (k : Int) ≤ 60 := by omega
        by_cases c2 : frdat l ≤ 1000
        · have j2 : z ≤ 1000 := by omega
          have E := Lib.hid (show frfew l = true by unfold frfew; rw [HL.out]; simp [c1, c2])
          clear e1 e2 c1 c2
          go_wp2_with fail
          go_ret
          exact ⟨by rw [E.out]; rfl, hbel⟩
        · have j2 : ¬ z ≤ 1000 := by omega
          have E := Lib.hid (show frfew l = false by unfold frfew; simp [c2])
          clear e1 e2 c1 c2
          go_wp2_with fail
          go_ret
          exact ⟨by rw [E.out]; rfl, hbel⟩
      · have j1 : ¬ (k : Int) ≤ 60 := by omega
        have E := Lib.hid (show frfew l = false by unfold frfew; rw [HL.out]; simp [c1])
        clear c1
        go_wp2_with fail
        go_ret
        exact ⟨by rw [E.out]; rfl, hbel⟩

end Go.Proofs.YtdeabomcmbgepaaDoor
