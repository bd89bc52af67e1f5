
/-
  What Few and speaks of layer 12 answer. No condition beyond: lists of at most 2^47 options, each with at most 2^47 octets.
-/
import Derived.Test.YthcigbhjdocdnaaTlvG
namespace Go.Proofs.Ythcigbhjdocdnaa
open Go.RowKit

/-- Are options few? -/
def fewB (l : List (Nat × List Nat)) : Bool := decide (l.length ≤ 60) && decide (datB l ≤ 1000)

set_option maxHeartbeats 1000000 in
theorem few_any (l : List (Nat × List Nat)) (n c : Nat) (A : Option Addr) (F : Nat → Prop) (w : World) (h : Rws shO F w A l) (hl : l.length = n) (hn : n ≤ 140737488351232) (M : Nat) (hM : M ≤ 140737488351232) (hd : ∀ x ∈ l, x.2.length ≤ M) :
    Calls Try.prog 8 #[.slice A n c] w fun e w' => e = .returned (.bool (fewB l)) ∧ Below w.heap.size w w' := by
  have HL := Lib.hid hl
  have HD := Lib.hid hd
  clear hl hd
  go_enter Try.func8, Try.ntmps8
  go_wp2_with fail
  go_loopw [3, 8] (fun s i wr => ∃ (k : Nat) (z : Int), k ≤ n ∧ i = .int .i64 k ∧ s = .int .i64 z ∧ Hid (k ≤ 60 → z = (datB (l.take k) : Int) ∧ datB (l.take k) ≤ k * M) ∧ Below w.heap.size w wr) (fun _ i _ => n - (intOf i).toNat)
  case atStart => exact ⟨0, 0, Nat.zero_le _, rfl, rfl, Lib.hid (fun _ => ⟨rfl, by simp [datB]⟩), Below.refl _ _⟩
  case round =>
    obtain ⟨k, z, hk, rfl, rfl, hz, hbel⟩ := hrel
    by_cases hlt : k < n
    · obtain ⟨b, o, x, A3, c3, rfl, hb3, hx, h3, h4, h5, h6⟩ := (h.below hbel).opt (k := k) (by rw [HL.out]; exact hlt)
      have hxl := HD.out x (List.mem_of_getElem? hx)
      have HZ := Lib.hid (show k + 1 ≤ 60 → wrap64 (z + (x.2.length : Int)) = (datB (l.take (k + 1)) : Int) ∧ datB (l.take (k + 1)) ≤ (k + 1) * M from fun hk60 => by
        obtain ⟨e1, e2⟩ := hz.out (by omega)
        rw [dat_at hx, e1]
        refine ⟨?_, by rw [Nat.add_mul]; omega⟩
        have hkM : k * M ≤ 60 * M := Nat.mul_le_mul_right _ (by omega)
        have e3 : wrap64 ((datB (l.take k) : Int) + (x.2.length : Int)) = (datB (l.take k) : Int) + (x.2.length : Int) := IntWalk.wrap64_in _ (by omega)
        rw [e3]
        omega)
      have R2 := Lib.hid (hbel.alloc hbel.size (.cells #[.int .u8 (x.1 : Int), .slice A3 x.2.length c3] 42))
      have i1 : (0 : Int) ≤ k := by omega
      have i2 : (k : Int) < n := by omega
      clear hx h6 hxl
      go_wp2_with fail
      go_roundw
      case rel => exact ⟨k + 1, _, by omega, by go_num, rfl, HZ, R2.out⟩
      case measure => simp [intOf]; omega
    · have he : k = n := by omega
      subst he
      by_cases c1 : k ≤ 60
      · obtain ⟨e1, e2⟩ := hz.out c1
        rw [List.take_of_length_le (by rw [HL.out]; exact Nat.le_refl _)] at e1
        have j1 : (k : Int) ≤ 60 := by omega
        by_cases c2 : datB l ≤ 1000
        · have j2 : z ≤ 1000 := by omega
          have E := Lib.hid (show fewB l = true by unfold fewB; rw [HL.out]; simp [c1, c2])
          clear e1 e2 c1 c2
          go_wp2_with fail
          go_ret
          exact ⟨by rw [E.out]; rfl, hbel⟩
        · have j2 : ¬ z ≤ 1000 := by omega
          have E := Lib.hid (show fewB l = false by unfold fewB; simp [c2])
          clear e1 e2 c1 c2
          go_wp2_with fail
          go_ret
          exact ⟨by rw [E.out]; rfl, hbel⟩
      · have j1 : ¬ (k : Int) ≤ 60 := by omega
        have E := Lib.hid (show fewB l = false by unfold fewB; rw [HL.out]; simp [c1])
        clear c1
        go_wp2_with fail
        go_ret
        exact ⟨by rw [E.out]; rfl, hbel⟩

set_option maxHeartbeats 1000000 in
theorem speaks12 (w : World) : Calls Try.prog 7 #[] w fun e w' => e = .returned (.bool true) ∧ Below w.heap.size w w' := by
  have hb1 := (Below.refl w.heap.size w).alloc (Nat.le_refl _) (.cells #[.int .u8 5, .int .u8 220] 5)
  have hr := Rd.lit_ w [5, 220]
  obtain ⟨w1, hw1⟩ : ∃ w1, w1 = w.alloc (.cells #[.int .u8 5, .int .u8 220] 5) := ⟨_, rfl⟩
  have hr1 : Rd w1 w1.heap.size (some ⟨w.heap.size, 0, none⟩) [5, 220] := by rw [hw1]; exact hr
  rw [← hw1] at hb1
  have h2 := lito (F := fun _ => True) w1 (T := 43) (t := 1) (n := 2) (c := 2) (l := [5, 220]) rfl (Nat.le_refl 2) (hr1.rdF (fun _ _ => trivial) (Nat.le_refl _))
  have HR2 := Lib.hid (show Rws shO (fun b => True ∨ w1.heap.size ≤ b) (w1.alloc (.cells #[.int .u8 1, .slice (some ⟨w.heap.size, 0, none⟩) 2 2] 43)) (some ⟨w1.heap.size, 0, none⟩) [(1, [5, 220])] from h2.read)
  have hb2 := hb1.alloc hb1.size (.cells #[.int .u8 1, .slice (some ⟨w.heap.size, 0, none⟩) 2 2] 43)
  have HB2 := Lib.hid hb2
  have HW1 := Lib.hid hw1
  have HS1 := Lib.hid (show w1.heap.size = w.heap.size + 1 by rw [hw1, World.size_alloc])
  clear hr hr1 hb1 h2 hb2 hw1
  go_enter Try.func7, Try.ntmps7
  go_wp2_with (go_at_call 10; rw [← HW1.out, ← HS1.out]; (with_reducible refine (oput_any [(1, [5, 220])] 1 1 _ _ _ HR2.out rfl (by omega) (by decide)).mono ?_); rintro e w3 ⟨A3, c3, k3, rfl, HN⟩; have hl3 : 4 = k3 := HN.1; subst hl3; rw [show ((errP [(1, [5, 220])] : Nat) : Int) = 0 from rfl]; have HN2 := Lib.hid HN; clear HN)
  have H3 := Lib.hid (show Rd w3 w3.heap.size A3 [1, 4, 5, 220] from HN2.out.2.2.1)
  have HB3 := Lib.hid (HB2.out.trans (HN2.out.2.2.2.mono HB2.out.size))
  have HL4 := Lib.hid (show Rd (w3.alloc (.cells #[.int .u8 1, .int .u8 4, .int .u8 5, .int .u8 220] 5)) (w3.alloc (.cells #[.int .u8 1, .int .u8 4, .int .u8 5, .int .u8 220] 5)).heap.size (some ⟨w3.heap.size, 0, none⟩) [1, 4, 5, 220] from Rd.lit_ w3 [1, 4, 5, 220])
  have hb4 := Lib.hid ((Below.refl w3.heap.size w3).alloc (Nat.le_refl _) (.cells #[.int .u8 1, .int .u8 4, .int .u8 5, .int .u8 220] 5))
  go_wp2_with (go_at_call 14; (with_reducible refine (equal_yes [1, 4, 5, 220] [1, 4, 5, 220] 4 4 _ _ _ _ _ (H3.out.on hb4.out) HL4.out rfl rfl (by omega) rfl).mono ?_); rintro e w5 ⟨rfl, hb5⟩)
  go_ret
  exact ⟨rfl, (HB3.out.trans (hb4.out.mono HB3.out.size)).trans (hb5.mono (Nat.le_trans HB3.out.size hb4.out.size))⟩
end Go.Proofs.Ythcigbhjdocdnaa
