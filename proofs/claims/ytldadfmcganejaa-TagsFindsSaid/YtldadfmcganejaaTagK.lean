
/-
  What Few of layer 21 answers. No condition beyond: lists of at most 2^47 tags, each with at most 2^47 octets.
-/
import Derived.Test.YtldadfmcganejaaTagI
namespace Go.Proofs.Ytldadfmcganejaa
set_option maxRecDepth 4000
open Go.RowKit

/-- Are tags few? -/
def tgfew (l : List (Nat × List Nat)) : Bool := decide (l.length ≤ 60) && decide (tgdat l ≤ 1000)

set_option maxHeartbeats 1000000 in
theorem tgfew_any (l : List (Nat × List Nat)) (n c : Nat) (A : Option Addr) (F : Nat → Prop) (w : World) (h : Rws shG F w A l) (hl : l.length = n) (hn : n ≤ 140737488351232) (M : Nat) (hM : M ≤ 140737488351232) (hd : ∀ x ∈ l, x.2.length ≤ M) :
    Calls Try.prog 8 #[.slice A n c] w fun e w' => e = .returned (.bool (tgfew l)) ∧ Below w.heap.size w w' := by
  have HL := Lib.hid hl
  have HD := Lib.hid hd
  clear hl hd
  go_enter Try.func8, Try.ntmps8
  go_wp2_with fail
  go_loopw [3, 8] (fun s i wr => ∃ (k : Nat) (z : Int), k ≤ n ∧ i = .int .i64 k ∧ s = .int .i64 z ∧ Hid (k ≤ 60 → z = (tgdat (l.take k) : Int) ∧ tgdat (l.take k) ≤ k * M) ∧ Below w.heap.size w wr) (fun _ i _ => n - (intOf i).toNat)
  case atStart => exact ⟨0, 0, Nat.zero_le _, rfl, rfl, Lib.hid (fun _ => ⟨rfl, by simp [tgdat]⟩), Below.refl _ _⟩
  case round =>
    obtain ⟨k, z, hk, rfl, rfl, hz, hbel⟩ := hrel
    by_cases hlt : k < n
    · obtain ⟨b, o, x, A3, c3, rfl, hb3, hx, h3, h4, h5, h6⟩ := (h.below hbel).tag (k := k) (by rw [HL.out]; exact hlt)
      have hxl := HD.out x (List.mem_of_getElem? hx)
      have HZ := Lib.hid (show k + 1 ≤ 60 → wrap64 (z + (x.2.length : Int)) = (tgdat (l.take (k + 1)) : Int) ∧ tgdat (l.take (k + 1)) ≤ (k + 1) * M from fun hk60 => by
        obtain ⟨e1, e2⟩ := hz.out (by omega)
        rw [tgdat_at hx, e1]
        refine ⟨?_, by rw [Nat.add_mul]; omega⟩
        have hkM : k * M ≤ 60 * M := Nat.mul_le_mul_right _ (by omega)
        have e3 : wrap64 ((tgdat (l.take k) : Int) + (x.2.length : Int)) = (tgdat (l.take k) : Int) + (x.2.length : Int) := IntWalk.wrap64_in _ (by omega)
        rw [e3]
        omega)
      have R2 := Lib.hid (hbel.alloc hbel.size (.cells #[.int .u16 (x.1 : Int), .slice A3 x.2.length c3] 48))
      have i1 : (0 : Int) ≤ k := by omega
      have i2 : (k : Int) < n := by omega
      clear hx h6 hxl
      go_wp2_with fail
      go_roundw
      case rel => exact ⟨k + 1, _, by omega, by go_num, rfl, HZ, R2.out⟩
      case measure => simp [intOf]; omega
    · have he : k = n := by omega
      subst he
      by_cases c1 : k ≤ 60
      · obtain ⟨e1, e2⟩ := hz.out c1
        rw [List.take_of_length_le (by rw [HL.out]; exact Nat.le_refl _)] at e1
        have j1 : (k : Int) ≤ 60 := by omega
        by_cases c2 : tgdat l ≤ 1000
        · have j2 : z ≤ 1000 := by omega
          have E := Lib.hid (show tgfew l = true by unfold tgfew; rw [HL.out]; simp [c1, c2])
          clear e1 e2 c1 c2
          go_wp2_with fail
          go_ret
          exact ⟨by rw [E.out]; rfl, hbel⟩
        · have j2 : ¬ z ≤ 1000 := by omega
          have E := Lib.hid (show tgfew l = false by unfold tgfew; simp [c2])
          clear e1 e2 c1 c2
          go_wp2_with fail
          go_ret
          exact ⟨by rw [E.out]; rfl, hbel⟩
      · have j1 : ¬ (k : Int) ≤ 60 := by omega
        have E := Lib.hid (show tgfew l = false by unfold tgfew; rw [HL.out]; simp [c1])
        clear c1
        go_wp2_with fail
        go_ret
        exact ⟨by rw [E.out]; rfl, hbel⟩

end Go.Proofs.Ytldadfmcganejaa
