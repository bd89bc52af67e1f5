
/-
  NcpAddress' walk. No condition.
-/
import Derived.Test.YtdnnincdbenjfaaNcpB
import Derived.Test.YtdnnincdbenjfaaTlvV
namespace Go.Proofs.Ytdnnincdbenjfaa
open Go.RowKit
set_option linter.unusedVariables false

theorem num_a4 (v : Nat) (w : World) : Calls Try.prog 21 #[.int .u8 3, .int .u64 (v : Int), .int .i64 4] w fun e w' => ∃ A c, e = .returned (.agg #[.int .u8 3, .slice A 4 c]) ∧ 4 ≤ c ∧ Rd w' w'.heap.size A (numB v 4) ∧ Below w.heap.size w w' :=
  (num_any 3 v 4 (by omega) w).mono fun _ _ ⟨A, c, h1, h2, h3⟩ => ⟨A, c, h1, own_cap h2, Rd.own h2, h3⟩
theorem num_a8 (v : Nat) (w : World) : Calls Try.prog 21 #[.int .u8 1, .int .u64 (v : Int), .int .i64 8] w fun e w' => ∃ A c, e = .returned (.agg #[.int .u8 1, .slice A 8 c]) ∧ 8 ≤ c ∧ Rd w' w'.heap.size A (numB v 8) ∧ Below w.heap.size w w' :=
  (num_any 1 v 8 (by omega) w).mono fun _ _ ⟨A, c, h1, h2, h3⟩ => ⟨A, c, h1, own_cap h2, Rd.own h2, h3⟩
theorem addr_a4 (v : Nat) : addrB 32801 [(3, numB v 4)] = (v % 4294967296, true) := by
  have h : isA 32801 (3, numB v 4) = true := by
    unfold isA okO
    rw [show spanB (tabB 32801) 3 = (4, 4) by decide]
    simp [num_len]
  unfold addrB
  rw [List.find?_cons_of_pos h]
  show (valB (numB v 4), true) = _
  rw [num_valB v 4 (by omega)]
theorem addr_a8 (v : Nat) (hv : v < 18446744073709551616) : addrB 32855 [(1, numB v 8)] = (v, true) := by
  have h : isA 32855 (1, numB v 8) = true := by
    unfold isA okO
    rw [show spanB (tabB 32855) 1 = (8, 8) by decide]
    simp [num_len]
  unfold addrB
  rw [List.find?_cons_of_pos h]
  show (valB (numB v 8), true) = _
  rw [num_valB v 8 (by omega), Nat.mod_eq_of_lt hv]
theorem naddr_4 (v z : Nat) (hz : v % 4294967296 = z) (k : Nat) (A : Option Addr) (w : World) (h : Rws shO (fun _ => True) w A [(3, numB v 4)]) :
    Calls Try.prog 18 #[.int .u16 32801, .slice A 1 k] w fun e w' => e = .returned (.tuple #[.int .u64 (z : Int), .bool true]) ∧ Below w.heap.size w w' :=
  naddr_any 32801 [(3, numB v 4)] 1 k A _ w h (fun x hx => by simp at hx; subst hx; exact ⟨show 3 < 256 by decide, num_by v 4⟩) rfl (by omega) (fun x hx => by simp at hx; subst hx; show (numB v 4).length ≤ _; rw [num_len]; omega) z true (by rw [addr_a4, hz])
theorem naddr_8 (v : Nat) (hv : v < 18446744073709551616) (k : Nat) (A : Option Addr) (w : World) (h : Rws shO (fun _ => True) w A [(1, numB v 8)]) :
    Calls Try.prog 18 #[.int .u16 32855, .slice A 1 k] w fun e w' => e = .returned (.tuple #[.int .u64 (v : Int), .bool true]) ∧ Below w.heap.size w w' :=
  naddr_any 32855 [(1, numB v 8)] 1 k A _ w h (fun x hx => by simp at hx; subst hx; exact ⟨show 1 < 256 by decide, num_by v 8⟩) rfl (by omega) (fun x hx => by simp at hx; subst hx; show (numB v 8).length ≤ _; rw [num_len]; omega) v true (addr_a8 v hv)

set_option maxHeartbeats 4000000 in
theorem nadr_early (t v : Int) (l : List (Nat × List Nat)) (A : Option Addr) (n c : Nat) (w : World) (hL : l.length = n) (hn : n ≤ 140737488351232) (hD : ∀ x ∈ l, x.2.length ≤ 140737488351232) (hR : Rws shO (fun _ => True) w A l) (hf : fewB l = false) :
    Calls Try.prog 5 #[.int .u16 t, .slice A n c, .int .u64 v] w fun e w' => e = .returned (.bool true) ∧ Below w.heap.size w w' := by
  have HR := Lib.hid hR
  have HL := Lib.hid hL
  have HD := Lib.hid hD
  have HF := Lib.hid hf
  have B := Lib.hid (Below.refl w.heap.size w)
  clear hR hL hD hf
  go_enter Try.func5, Try.ntmps5
  go_wp2_with (first
    | (go_at_call 6; (with_reducible refine (speaks16 _).mono ?_); rintro e wn ⟨rfl, hb⟩; replace B := Lib.hid (B.out.trans (hb.mono B.out.size)); clear hb)
    | (go_at_call 17; (with_reducible refine (few_v l _ HF.out n c A _ _ (HR.out.below B.out) HL.out (by omega) HD.out).mono ?_); rintro e wn ⟨rfl, hb⟩; replace B := Lib.hid (B.out.trans (hb.mono B.out.size)); clear hb))
  go_ret
  exact ⟨rfl, B.out⟩

set_option maxHeartbeats 16000000 in
theorem nadr_walk (t : Nat) (t16 : t < 65536) (v : Nat) (hv : v < 18446744073709551616) (l : List (Nat × List Nat)) (A : Option Addr) (n c : Nat) (w : World) (hL : l.length = n) (hc : n ≤ c) (hn : n ≤ 140737488351232) (hO : ByO l) (hD : ∀ x ∈ l, x.2.length ≤ 140737488351232) (hR : Rws shO (fun _ => True) w A l) (hf : fewB l = true) :
    Calls Try.prog 5 #[.int .u16 (t : Int), .slice A n c, .int .u64 (v : Int)] w fun e w' => e = .returned (.bool true) ∧ Below w.heap.size w w' := by
  obtain ⟨f1, f2⟩ := few_of hf
  have n9 : n ≤ 60 := by rw [← hL]; exact f1
  have HE := Lib.hid (show ∀ x ∈ l, x.2.length ≤ 274877906944 from fun x hx => by
    obtain ⟨i, hi⟩ := List.mem_iff_getElem?.1 hx
    exact Nat.le_trans (Nat.le_trans (dat_le hi) f2) (by decide))
  have HR := Lib.hid hR
  have HL := Lib.hid hL
  have HD := Lib.hid hD
  have HO := Lib.hid hO
  have HF := Lib.hid hf
  have B := Lib.hid (Below.refl w.heap.size w)
  have wt : IntKind.i64.wrap (t : Int) = (t : Int) := IntWalk.i64_in _ (by omega)
  obtain ⟨x, r, hx⟩ : ∃ x r, Hid (addrB t l = (x, r)) := ⟨_, _, Lib.hid rfl⟩
  obtain ⟨z, hz⟩ : ∃ z, Hid (v % 4294967296 = z) := ⟨_, Lib.hid rfl⟩
  have ez : (v : Int) % 4294967296 = (z : Int) := by have := hz.out; omega
  have G1 := Lib.hid trivial
  clear hR hL hD hO hf f1 f2
  go_enter Try.func5, Try.ntmps5
  go_wp2_with (first
    | (go_at_call 6; (with_reducible refine (speaks16 _).mono ?_); rintro e wn ⟨rfl, hb⟩; replace B := Lib.hid (B.out.trans (hb.mono B.out.size)); clear hb)
    | (go_at_call 17; (with_reducible refine (few_v l _ HF.out n c A _ _ (HR.out.below B.out) HL.out (by omega) HD.out).mono ?_); rintro e wn ⟨rfl, hb⟩; replace B := Lib.hid (B.out.trans (hb.mono B.out.size)); clear hb)
    | (go_at_call 19; (with_reducible refine (oof_v l n c A _ (HR.out.below B.out) HL.out (by omega)).mono ?_); rintro e wn ⟨A3, c3, rfl, h3, hb⟩; replace B := Lib.hid (B.out.trans (hb.mono B.out.size)); have L := Lib.hid h3; clear h3 hb)
    | (go_at_call 18; have _g := L; clear _g; (with_reducible refine (naddr_any t l n c3 A3 _ _ L.out HO.out HL.out (by omega) HE.out x r hx.out).mono ?_); rintro e wn ⟨rfl, hb⟩; replace B := Lib.hid (B.out.trans (hb.mono B.out.size)); clear hb L)
    | (go_at_call 20; (with_reducible refine (nra_any t l n c A _ _ (HR.out.below B.out) HO.out HL.out (by omega) hc HE.out x r hx.out).mono ?_); rintro e wn ⟨rfl, hb⟩; replace B := Lib.hid (B.out.trans (hb.mono B.out.size)); clear hb)
    | (go_at_call 21; have _g := G1; clear _g; (with_reducible refine (num_a4 v _).mono ?_); rintro e wn ⟨A1, c1, rfl, hcap, h1, hb⟩; replace B := Lib.hid (B.out.trans (hb.mono B.out.size)); have R := Lib.hid (show Rws shO (fun _ => True) (wn.alloc (.cells #[.int .u8 3, .slice A1 4 c1] 57)) (some ⟨wn.heap.size, 0, none⟩) [(3, numB v 4)] from ((lito (F := fun _ => True) wn (T := 57) (t := 3) (n := 4) (c := c1) (l := numB v 4) (num_len v 4) hcap (h1.rdF (fun _ _ => trivial) (Nat.le_refl _))).read).mono (fun _ _ _ => trivial)); replace B := Lib.hid (B.out.alloc B.out.size (.cells #[.int .u8 3, .slice A1 4 c1] 57)); clear h1 hb G1 hcap)
    | (go_at_call 18; (with_reducible refine (naddr_4 v z hz.out 1 _ _ R.out).mono ?_); rintro e wn ⟨rfl, hb⟩; replace B := Lib.hid (B.out.trans (hb.mono B.out.size)); clear hb R; have G2 := Lib.hid trivial)
    | (go_at_call 21; have _g := G2; clear _g; (with_reducible refine (num_a8 v _).mono ?_); rintro e wn ⟨A1, c1, rfl, hcap, h1, hb⟩; replace B := Lib.hid (B.out.trans (hb.mono B.out.size)); have R := Lib.hid (show Rws shO (fun _ => True) (wn.alloc (.cells #[.int .u8 1, .slice A1 8 c1] 57)) (some ⟨wn.heap.size, 0, none⟩) [(1, numB v 8)] from ((lito (F := fun _ => True) wn (T := 57) (t := 1) (n := 8) (c := c1) (l := numB v 8) (num_len v 8) hcap (h1.rdF (fun _ _ => trivial) (Nat.le_refl _))).read).mono (fun _ _ _ => trivial)); replace B := Lib.hid (B.out.alloc B.out.size (.cells #[.int .u8 1, .slice A1 8 c1] 57)); clear h1 hb G2 hcap)
    | (go_at_call 18; (with_reducible refine (naddr_8 v hv 1 _ _ R.out).mono ?_); rintro e wn ⟨rfl, hb⟩; replace B := Lib.hid (B.out.trans (hb.mono B.out.size)); clear hb R))
  go_ret
  exact ⟨rfl, B.out⟩
end Go.Proofs.Ytdnnincdbenjfaa
