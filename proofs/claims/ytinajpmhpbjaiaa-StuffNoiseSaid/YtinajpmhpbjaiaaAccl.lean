
/-
  The lists of octets of layer 3: what List, the document's List, and Of answer. No condition beyond: maps below 2^32, bytes below 256, lists of at most 2^40 elements.
-/
import Derived.Test.YtinajpmhpbjaiaaAccm
namespace Go.Proofs.Ytinajpmhpbjaiaa
open Go.RowKit

/-- The octets below k of a map. -/
def mapB (m k : Nat) : List Nat := (List.range k).filter (hasB m)
theorem mapB_yes {m k : Nat} (h : hasB m k = true) : mapB m (k + 1) = mapB m k ++ [k] := by simp [mapB, List.range_succ, h]
theorem mapB_no {m k : Nat} (h : hasB m k = false) : mapB m (k + 1) = mapB m k := by simp [mapB, List.range_succ, h]
theorem mapB_len (m k : Nat) : (mapB m k).length ≤ k := by
  have := List.length_filter_le (hasB m) (List.range k)
  simpa [mapB] using this
theorem mapB_32 (m k : Nat) (h : 32 ≤ k) : mapB m k = mapB m 32 := by
  induction k with
  | zero => omega
  | succ k ih =>
    rcases Nat.lt_or_ge k 32 with h1 | h1
    · have : k + 1 = 32 := by omega
      rw [this]
    · rw [mapB_no (by simp [hasB]; omega), ih h1]

set_option maxHeartbeats 400000 in
theorem list_any (m : Nat) (hm : m < 4294967296) (w : World) :
    Calls Try.prog 16 #[.int .u32 (m : Int)] w fun e w' => ∃ A c n, e = .returned (.slice A n c) ∧ n ≤ 32 ∧ New w w' A c n (mapB m 32) := by
  obtain ⟨i0, hi, hz0, hz1, hz2⟩ := info_parts byte_info
  go_enter Try.func16, Try.ntmps16
  go_wp2_with fail
  have hown1 : w.ownsRow w.heap.size 5 1 (.slice none 0 0) 0 (bvs (mapB m 0)) := ⟨rfl, .inl ⟨rfl, rfl⟩⟩
  go_loopw [3, 5] (fun v i wr => ∃ k q : Nat, k ≤ 32 ∧ i = .int .u8 k ∧ q ≤ k ∧ wr.ownsRow w.heap.size 5 1 v q (bvs (mapB m k)) ∧ Below w.heap.size w wr) (fun _ i _ => 32 - (intOf i).toNat)
  case atStart => exact ⟨0, 0, Nat.zero_le _, rfl, Nat.le_refl _, hown1, Below.refl _ _⟩
  case round =>
    obtain ⟨k, q, hk, rfl, hq, hown, hbel⟩ := hrel
    clear hown1
    by_cases hlt : k < 32
    · have i1 : (k : Int) < 32 := by omega
      obtain ⟨t, ht⟩ : ∃ t, Hid (hasB m k = t) := ⟨_, Lib.hid rfl⟩
      have hsz := hbel.size
      cases t
      · go_wp2_with (go_at_call 15; refine (has_any m k hm (by omega) _).mono ?_; rintro e w' ⟨rfl, rfl⟩; rw [ht.out])
        have R := hown
        rw [← mapB_no ht.out] at R
        go_roundw
        case rel => exact ⟨k + 1, q, by omega, by go_num, by omega, R, hbel⟩
        case measure => simp [intOf]; omega
      · go_wp2_with (first
          | (go_at_call 15; refine (has_any m k hm (by omega) _).mono ?_; rintro e w' ⟨rfl, rfl⟩; rw [ht.out])
          | (at_builtin; refine wpList_append_own _ rfl _ _ 23 rfl w.heap.size 5 i0 (.int .u8 0) 1 1 Try.underlying23 hi hz0 hz1 hz2 rfl (by decide) _ _ _ rfl (hown.alloc _) ⟨wr.heap.size, 0, none⟩ 1 1 [.int .u8 (k : Int)] rfl rfl (cell_one_new _ _ _) (fun x hx => by simp at hx; subst hx; rfl) (by unfold maxLen; omega) (by omega) (by simp; omega) ?_; intro v' w3 hown3 hgrow3 hnil3))
        have R := push_row hown3 (m := q + 1) rfl
        rw [← mapB_yes ht.out] at R
        have R2 := push_below hbel hown hgrow3
        go_roundw
        case rel => exact ⟨k + 1, q + 1, by omega, by go_num, by omega, R, R2⟩
        case measure => simp [intOf]; omega
    · go_wp2
      go_ret
      have he : k = 32 := by omega
      subst he
      obtain ⟨A', c', rfl, hN⟩ := New.mk hown hbel
      exact ⟨A', c', q, rfl, hq, hN⟩

/-- The map of a list's octets. -/
def orB (l : List Nat) : Nat := l.foldl (fun m c => if c < 32 then m ||| 2 ^ c else m) 0
theorem orB_snoc (l : List Nat) (c : Nat) : orB (l ++ [c]) = if c < 32 then orB l ||| 2 ^ c else orB l := by simp [orB]
theorem orB_lt (l : List Nat) : orB l < 4294967296 := by
  unfold orB
  suffices ∀ m, m < 4294967296 → l.foldl (fun m c => if c < 32 then m ||| 2 ^ c else m) m < 4294967296 from this 0 (by omega)
  induction l with
  | nil => intro m h; exact h
  | cons c t ih =>
    intro m h
    rw [List.foldl_cons]
    apply ih
    split
    · rename_i hc
      exact Nat.or_lt_two_pow (n := 32) h (Nat.pow_lt_pow_right (by omega) hc)
    · exact h
theorem or_cast (x y : Nat) (hx : x < 32) (hy : y < 4294967296) : bits .or .u32 (y : Int) (2 ^ x % 4294967296) = ((y ||| 2 ^ x : Nat) : Int) := by
  have h : (2 ^ x : Nat) < 4294967296 := Nat.pow_lt_pow_right (n := 32) (a := 2) (by omega) hx
  have e : ((2 : Int) ^ x % 4294967296) = ((2 ^ x : Nat) : Int) := by
    have c1 : ((2 : Int) ^ x) = ((2 ^ x : Nat) : Int) := by simp
    rw [c1]
    exact Int.emod_eq_of_lt (Int.natCast_nonneg _) (by omega)
  rw [e]
  exact u32_or_nat y (2 ^ x) hy h
theorem or_lt (x y : Nat) (hx : x < 32) (hy : y < 4294967296) : y ||| 2 ^ x < 4294967296 :=
  Nat.or_lt_two_pow (n := 32) hy (Nat.pow_lt_pow_right (by omega) hx)

end Go.Proofs.Ytinajpmhpbjaiaa
