
/-
  What bits.lowest, Run and Clean answer, over the words of Eq and Part (stage 1's texts Low, Run, Clean said the same over their own). No condition beyond: bytes below 256, lists of at most 2^40 elements.
-/
import Derived.Test.YtkakkligndejaaaDoorEq
import Derived.Test.YtkakkligndejaaaDoorPart
namespace Go.Proofs.YtkakkligndejaaaDoor
open Go.RowKit

set_option maxHeartbeats 400000 in
theorem lowest_any (x : Nat) (hx : x < 256) (w : World) :
    Calls Tryd.prog 60 #[.int .u8 (x : Int)] w fun e w' => e = .returned (.int .u8 ((x % 2 : Nat) : Int)) ∧ w = w' := by
  go_enter Tryd.func60, Tryd.ntmps60
  go_wp2
  go_ret
  have h := u8_and_nat x 1 hx (by omega)
  rw [nat_mask1] at h
  refine ⟨?_, rfl⟩
  rw [← h]
  rfl

/-- How many odd numbers a list begins with. -/
def lead : List Nat → Nat
  | [] => 0
  | b :: t => if b % 2 = 1 then lead t + 1 else 0
/-- The longest row of odd numbers. -/
def best : List Nat → Nat
  | [] => 0
  | b :: t => max (lead (b :: t)) (best t)
def stepR (s : Nat × Nat) (b : Nat) : Nat × Nat := if b % 2 = 1 then (max s.1 (s.2 + 1), s.2 + 1) else (s.1, 0)
def runP (l : List Nat) : Nat × Nat := l.foldl stepR (0, 0)

theorem lead_le (l : List Nat) : lead l ≤ l.length := by
  induction l with
  | nil => exact Nat.le_refl _
  | cons b t ih => simp only [lead, List.length_cons]; split <;> omega
theorem best_le (l : List Nat) : best l ≤ l.length := by
  induction l with
  | nil => exact Nat.le_refl _
  | cons b t ih => have := lead_le (b :: t); simp only [best, List.length_cons] at *; omega
theorem runP_snoc {l : List Nat} {k x : Nat} (h : l[k]? = some x) : runP (l.take (k + 1)) = stepR (runP (l.take k)) x := by
  rw [runP, List.take_add_one, h, List.foldl_append]; rfl
theorem lead_le_best (l : List Nat) : lead l ≤ best l := by
  cases l with
  | nil => exact Nat.le_refl _
  | cons b t => rw [best]; omega
theorem fold_best (l : List Nat) : ∀ m r : Nat, (l.foldl stepR (m, r)).1 = max m (max (if lead l = 0 then 0 else r + lead l) (best l)) := by
  induction l with
  | nil => intro m r; simp [lead, best]
  | cons b t ih =>
    intro m r
    rw [List.foldl_cons]
    by_cases hb : b % 2 = 1
    · rw [stepR, if_pos hb, ih]
      simp only [lead, best, if_pos hb]
      split <;> split <;> omega
    · rw [stepR, if_neg hb, ih]
      have hlb := lead_le_best t
      simp only [lead, best, if_neg hb]
      split <;> simp <;> omega
theorem runP_best (l : List Nat) : (runP l).1 = best l := by
  rw [runP, fold_best]
  cases l with
  | nil => simp [lead, best]
  | cons b t => simp only [best]; split <;> omega
theorem runP_le (l : List Nat) : (runP l).1 ≤ l.length ∧ (runP l).2 ≤ l.length := by
  refine ⟨by rw [runP_best]; exact best_le l, ?_⟩
  have : ∀ (l : List Nat) (s : Nat × Nat), (l.foldl stepR s).2 ≤ s.2 + l.length := by
    intro l
    induction l with
    | nil => intro s; exact Nat.le_refl _
    | cons b t ih =>
      intro s
      rw [List.foldl_cons]
      have := ih (stepR s b)
      have h2 : (stepR s b).2 ≤ s.2 + 1 := by unfold stepR; split <;> simp
      simp only [List.length_cons]; omega
  simpa [runP] using this l (0, 0)

theorem lowest_zero (x : Nat) (hx : x < 256) (h : x % 2 = 0) (w : World) :
    Calls Tryd.prog 60 #[.int .u8 (x : Int)] w fun e w' => e = .returned (.int .u8 0) ∧ w = w' :=
  (lowest_any x hx w).mono fun _ _ ⟨he, hw⟩ => ⟨by rw [he, h]; rfl, hw⟩
theorem lowest_one (x : Nat) (hx : x < 256) (h : x % 2 = 1) (w : World) :
    Calls Tryd.prog 60 #[.int .u8 (x : Int)] w fun e w' => e = .returned (.int .u8 1) ∧ w = w' :=
  (lowest_any x hx w).mono fun _ _ ⟨he, hw⟩ => ⟨by rw [he, h]; rfl, hw⟩

theorem ret_int {k : IntKind} {a b : Int} (h : a = b) : Ending.returned (.int k a) = .returned (.int k b) := by rw [h]

theorem max_int (a b : Nat) : Value.int .i64 (if (a : Int) < (b : Int) then (b : Int) else (a : Int)) = .int .i64 ((max a b : Nat) : Int) := by
  congr 1
  split <;> omega

def lows (l : List Nat) : List Nat := l.map (· % 2)
theorem lows_snoc {l : List Nat} {k x : Nat} (h : l[k]? = some x) : lows (l.take (k + 1)) = lows (l.take k) ++ [x % 2] := by
  rw [lows, List.take_add_one, h]; simp [lows]
theorem lows_len (l : List Nat) : (lows l).length = l.length := by simp [lows]

set_option maxHeartbeats 400000 in
theorem clean_any (l : List Nat) (A : Option Addr) (c : Nat) (w : World) (h : Rd w w.heap.size A l) (hb : By l) (hn : l.length ≤ 1099511627776) :
    Calls Tryd.prog 68 #[.slice A l.length c] w fun e w' => ∃ v, e = .returned v ∧ w'.ownsRow w.heap.size 5 1 v l.length (bvs (lows l)) ∧ Below w.heap.size w w' := by
  obtain ⟨i0, hi, hz0, hz1, hz2⟩ := info_parts byte_info
  go_enter Tryd.func68, Tryd.ntmps68
  go_wp2_with (at_make; refine wpList_make_full _ rfl _ _ 26 rfl w.heap.size 5 i0 (.int .u8 0) 1 Tryd.underlying26 hi hz0 hz1 .i64 .i64 _ _ l.length rfl rfl rfl rfl (by rw [hz2]; omega) (by unfold maxLen; omega) (Nat.le_refl _) ?_; intro w1 hown1 hgrow1)
  rw [← part_zero] at hown1
  have hb1 : Below w.heap.size w w1 := (Below.refl _ _).grown hgrow1 (Nat.le_refl _) (by simp)
  clear hgrow1 hi hz0 hz1 hz2
  go_loopw [11] (fun i wr => ∃ k : Nat, k ≤ l.length ∧ i = .int .i64 k ∧ wr.ownsRow w.heap.size 5 1 (.slice (some ⟨w.heap.size, 0, none⟩) l.length l.length) l.length (bvs (part (lows (l.take k)) l.length k)) ∧ Below w.heap.size w wr) (fun i _ => l.length - (intOf i).toNat)
  case atStart => exact ⟨0, Nat.zero_le _, rfl, hown1, hb1⟩
  case round =>
    obtain ⟨k, hk, rfl, hown, hbel⟩ := hrel
    by_cases hlt : k < l.length
    · obtain ⟨b, o, x, rfl, _, hx, hc⟩ := (h.below hbel).at_ hlt
      have hx256 := hb.get hx
      have hs := hown.stored k (.int .u8 ((x % 2 : Nat) : Int))
      rw [part_set (by simp [lows]; omega) hlt, ← lows_snoc hx, show ((x % 2 : Nat) : Int) = (x : Int) % 2 from by omega] at hs
      have HS := Lib.hid hs
      have hc0 := hown.cellAt k (by omega)
      have hf0 := hown.frozenAt k
      rw [bvs_get (x := (part (lows (l.take k)) l.length k)[k]'(by rw [part_len (by simp [lows]; omega) hk]; exact hlt)) _ _ (List.getElem?_eq_getElem _)] at hc0
      clear hx hs
      have i1 : (0 : Int) ≤ k := by omega
      have i2 : (k : Int) < l.length := by omega
      go_wp2_with (go_at_call 60; refine (lowest_any _ hx256 _).mono ?_; rintro e w' ⟨rfl, rfl⟩)
      go_roundw
      case rel => exact ⟨k + 1, by omega, by go_num, HS.out.1, hbel.setCell (Nat.le_refl _) _⟩
      case measure => simp [intOf]; omega
    · go_wp2
      go_ret
      have he : k = l.length := by omega
      subst he
      rw [part_full, List.take_of_length_le (Nat.le_refl _)] at hown
      exact ⟨_, rfl, hown, hbel⟩

theorem lows_by (l : List Nat) : By (lows l) := by
  intro x hx; simp only [lows, List.mem_map] at hx; obtain ⟨y, _, rfl⟩ := hx; omega
theorem clean_c (l : List Nat) (n : Nat) (A : Option Addr) (c : Nat) (w : World) (h : Rd w w.heap.size A l) (hb : By l) (hn : l.length = n) (hl : n ≤ 1099511627776) :
    Calls Tryd.prog 68 #[.slice A n c] w fun e w' => ∃ A' c', e = .returned (.slice A' n c') ∧ New w w' A' c' n (lows l) := by
  subst hn
  exact (clean_any l A c w h hb hl).mono fun _ _ ⟨v, he, ho, hbl⟩ => by obtain ⟨A', c', rfl, hN⟩ := New.mk ho hbl; exact ⟨A', c', he, hN⟩

end Go.Proofs.YtkakkligndejaaaDoor
