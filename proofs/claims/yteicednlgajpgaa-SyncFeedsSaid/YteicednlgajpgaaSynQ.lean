
/-
  Segments that lie in memory, read; the comparisons of two lists of segments answer yes where both read as the same list. No condition beyond: at most 2^38 segments, each of at most 2^40 octets.
-/
import Derived.Test.YteicednlgajpgaaSynF
namespace Go.Proofs.Yteicednlgajpgaa
open Go.RowKit

/-- The slice's address A leads to segments that read as l. -/
def Sr (w : World) (A : Option Addr) (l : List Sg) : Prop :=
  0 < l.length → ∃ b off, A = some ⟨b, off, none⟩ ∧ ∀ (k : Nat) (x : Sg), l[k]? = some x → w.cell? ⟨b, off + k * 2, none⟩ = some (.int .i64 (x.1 : Int)) ∧
    ∃ Ak ck, w.cell? ⟨b, off + k * 2 + 1, none⟩ = some (.slice Ak x.2.length ck) ∧ Rd w w.heap.size Ak x.2
theorem Sr.at_ {w : World} {A : Option Addr} {l : List Sg} (h : Sr w A l) {k : Nat} (hk : k < l.length) : ∃ b off x Ak ck, A = some ⟨b, off, none⟩ ∧ l[k]? = some x ∧ w.cell? ⟨b, off + k * 2, none⟩ = some (.int .i64 (x.1 : Int)) ∧
    w.cell? ⟨b, off + k * 2 + 1, none⟩ = some (.slice Ak x.2.length ck) ∧ Rd w w.heap.size Ak x.2 := by
  obtain ⟨b, off, e, hc⟩ := h (by omega)
  obtain ⟨h1, Ak, ck, h2, h3⟩ := hc k _ (List.getElem?_eq_getElem hk)
  exact ⟨b, off, l[k], Ak, ck, e, List.getElem?_eq_getElem hk, h1, h2, h3⟩
theorem Sr.take {w : World} {A : Option Addr} {l : List Sg} (h : Sr w A l) (n : Nat) : Sr w A (l.take n) := by
  intro hl
  rw [List.length_take] at hl
  obtain ⟨b, off, rfl, hc⟩ := h (by omega)
  refine ⟨b, off, rfl, fun k x hx => hc k x ?_⟩
  rw [List.getElem?_take] at hx
  split at hx
  · exact hx
  · cases hx
theorem Sr.on {w w' : World} {A : Option Addr} {l : List Sg} (h : Sr w A l) (hb : Below w.heap.size w w') : Sr w' A l := by
  intro hl
  obtain ⟨b, off, rfl, hc⟩ := h hl
  refine ⟨b, off, rfl, fun k x hx => ?_⟩
  obtain ⟨h1, Ak, ck, h2, h3⟩ := hc k x hx
  exact ⟨(hb.cell (block_lt h1)).trans h1, Ak, ck, (hb.cell (block_lt h2)).trans h2, (h3.below hb).more hb.size⟩
theorem Sr.drewN {w : World} {A : Option Addr} {l : List Sg} (h : Sr w A l) (n : Nat) : Sr (w.drewN n) A l := h

theorem Tl.read {B : Nat} {w : World} {T : TypeId} {F : Nat → Prop} {A : Option Addr} {n c : Nat} {l : List Sg} (h : Tl B w T F (.slice A n c) l) : Sr w A l := by
  intro hl
  obtain ⟨vs, e, hown, hd⟩ := h
  rcases hown.2 with ⟨_, h0⟩ | ⟨g, cap, cur, hv, _, _, _⟩
  · omega
  · injection hv with hA hn hc
    subst hA; subst hc
    rw [hn] at hown
    refine ⟨g, 0, rfl, fun k x hx => ?_⟩
    rw [← e, List.getElem?_map] at hx
    obtain ⟨y, hy, rfl⟩ := Option.map_eq_some_iff.1 hx
    obtain ⟨s1, s2⟩ := sgC_get hy
    have hk : k < vs.length := (List.getElem?_eq_some_iff.1 hy).1
    have hlen : l.length = vs.length := by rw [← e, List.length_map]
    obtain ⟨o1, _⟩ := hd y (List.mem_of_getElem? hy)
    obtain ⟨Ak, ck, hyk, _, _⟩ := own_form o1
    refine ⟨?_, Ak, ck, ?_, ?_⟩
    · have := hown.cellAt (k * 2) (by omega)
      rw [Nat.zero_add, this, Nat.mul_comm]
      exact s1
    · have := hown.cellAt (k * 2 + 1) (by omega)
      rw [Nat.zero_add, this, Nat.mul_comm, ← hyk]
      exact s2
    · rw [hyk] at o1
      exact Rd.own o1

theorem equal_q (a : List Nat) (A B : Option Addr) (c d : Nat) (w : World) (ha : Rd w w.heap.size A a) (hb : Rd w w.heap.size B a) (hn : a.length ≤ 1099511627776) :
    Calls Try.prog 17 #[.slice A a.length c, .slice B a.length d] w fun e w' => e = .returned (.bool true) ∧ ∃ n, w' = w.drewN n :=
  (equal_any a a A B c d w _ ha hb hn).mono fun _ _ ⟨he, hw⟩ => ⟨by rw [he]; simp, hw⟩

set_option maxHeartbeats 1000000 in
theorem same_yes (l : List Sg) (n : Nat) (A A2 : Option Addr) (c c2 : Nat) (w : World) (h : Sr w A l) (h2 : Sr w A2 l) (hl : l.length = n) (hn : n ≤ 274877906944) (hs : ∀ x ∈ l, x.2.length ≤ 1099511627776) :
    Calls Try.prog 14 #[.slice A n c, .slice A2 n c2] w fun e w' => e = .returned (.bool true) ∧ Below w.heap.size w w' := by
  have HL := Lib.hid hl
  have HS := Lib.hid hs
  clear hl hs
  go_enter Try.func14, Try.ntmps14
  go_wp2_with fail
  go_loopw [13] (fun i wr => ∃ k : Nat, k ≤ n ∧ i = .int .i64 k ∧ Below w.heap.size w wr) (fun i _ => n - (intOf i).toNat)
  case atStart => exact ⟨0, Nat.zero_le _, rfl, Below.refl _ _⟩
  case round =>
    obtain ⟨k, hk, rfl, hbel⟩ := hrel
    by_cases hlt : k < n
    · obtain ⟨b, o, x, A3, c3, rfl, hx, h3, h4, h5⟩ := (h.on hbel).at_ (k := k) (by rw [HL.out]; exact hlt)
      obtain ⟨b', o', x', A4, c4, rfl, hx', h6, h7, h8⟩ := (h2.on hbel).at_ (k := k) (by rw [HL.out]; exact hlt)
      rw [hx] at hx'
      injection hx' with hx'
      subst hx'
      have hlen := HS.out x (List.mem_of_getElem? hx)
      have H5 := Lib.hid h5
      have H8 := Lib.hid h8
      clear hx h5 h8
      have i1 : (0 : Int) ≤ k := by omega
      have i2 : (k : Int) < n := by omega
      go_wp2_with fail
      go_quiet (first | (go_at_call 17; exact Calls.quiet_of (equal_q x.2 _ _ _ _ _ H5.out H8.out hlen)))
      all_goals go_wp2_with fail
      go_roundw
      case rel => exact ⟨k + 1, by omega, by go_num, below_drewN hbel _⟩
      case measure => simp [intOf]; omega
    · have he : k = n := by omega
      subst he
      go_wp2
      go_ret
      exact ⟨rfl, hbel⟩

set_option maxHeartbeats 1000000 in
theorem Same_yes (l : List Sg) (n : Nat) (A A2 : Option Addr) (c c2 : Nat) (w : World) (h : Sr w A l) (h2 : Sr w A2 l) (hl : l.length = n) (hn : n ≤ 274877906944) (hs : ∀ x ∈ l, x.2.length ≤ 1099511627776) :
    Calls Try.prog 11 #[.slice A n c, .slice A2 n c2] w fun e w' => e = .returned (.bool true) ∧ Below w.heap.size w w' := by
  have HL := Lib.hid hl
  have HS := Lib.hid hs
  clear hl hs
  go_enter Try.func11, Try.ntmps11
  go_wp2_with fail
  go_loopw [13] (fun i wr => ∃ k : Nat, k ≤ n ∧ i = .int .i64 k ∧ Below w.heap.size w wr) (fun i _ => n - (intOf i).toNat)
  case atStart => exact ⟨0, Nat.zero_le _, rfl, Below.refl _ _⟩
  case round =>
    obtain ⟨k, hk, rfl, hbel⟩ := hrel
    by_cases hlt : k < n
    · obtain ⟨b, o, x, A3, c3, rfl, hx, h3, h4, h5⟩ := (h.on hbel).at_ (k := k) (by rw [HL.out]; exact hlt)
      obtain ⟨b', o', x', A4, c4, rfl, hx', h6, h7, h8⟩ := (h2.on hbel).at_ (k := k) (by rw [HL.out]; exact hlt)
      rw [hx] at hx'
      injection hx' with hx'
      subst hx'
      have hlen := HS.out x (List.mem_of_getElem? hx)
      have H5 := Lib.hid h5
      have H8 := Lib.hid h8
      clear hx h5 h8
      have i1 : (0 : Int) ≤ k := by omega
      have i2 : (k : Int) < n := by omega
      go_wp2_with fail
      go_quiet (first | (go_at_call 17; exact Calls.quiet_of (equal_q x.2 _ _ _ _ _ H5.out H8.out hlen)))
      all_goals go_wp2_with fail
      go_roundw
      case rel => exact ⟨k + 1, by omega, by go_num, below_drewN hbel _⟩
      case measure => simp [intOf]; omega
    · have he : k = n := by omega
      subst he
      go_wp2
      go_ret
      exact ⟨rfl, hbel⟩

end Go.Proofs.Yteicednlgajpgaa
