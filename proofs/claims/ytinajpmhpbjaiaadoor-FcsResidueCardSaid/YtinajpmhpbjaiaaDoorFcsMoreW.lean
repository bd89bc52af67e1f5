/-
  The walk of the statement FcsMore: it answers true for every list of octets, register and place. Condition: the tables hold what the start-up lays ('Tabs').
-/
import Derived.Test.YtinajpmhpbjaiaaDoorFcsU
namespace Go.Proofs.YtinajpmhpbjaiaaDoor
open Go.RowKit

theorem same_turn {P : Program} {f : Nat} {xs : Array Value} {w : World} {r : Ending} (h : Calls P f xs w fun e w' => e = r ∧ w = w') : Calls P f xs w fun e w' => e = r ∧ w' = w :=
  h.mono fun _ _ ⟨he, hw⟩ => ⟨he, hw.symm⟩

theorem rmore_any (wide : Bool) (r : Nat) (hr : r < 4294967296) (l : List Nat) (n : Nat) (A : Option Addr) (c : Nat) (w : World) (h : Rd w w.heap.size A l) (hb : By l) (hl : l.length = n) (hn : n ≤ 1099511627776) :
    Calls Tryd.prog 19 #[.bool wide, .int .u32 (r : Int), .slice A n c] w fun e w' => e = .returned (.int .u32 (reg (polyW wide) (r % topW wide) l : Int)) ∧ w = w' := by
  cases wide
  · exact rmore_narrow r hr l n A c w h hb hl hn
  · exact rmore_wide r hr l n A c w h hb hl hn

theorem more_v (wide : Bool) (r y : Nat) (l : List Nat) (hy : reg (polyW wide) (r % topW wide) l = y) (hr : r < 4294967296) (n : Nat) (A : Option Addr) (c : Nat) (w : World) (h : Rd w w.heap.size A l) (hb : By l) (hl : l.length = n) (hn : n ≤ 1099511627776) (hT : Tabs w) :
    Calls Tryd.prog 18 #[.bool wide, .int .u32 (r : Int), .slice A n c] w fun e w' => e = .returned (.int .u32 (y : Int)) ∧ w' = w := by
  subst hy
  exact same_turn (more_any wide r hr l n A c w h hb hl hn hT)
theorem rmore_v (wide : Bool) (r y : Nat) (l : List Nat) (hy : reg (polyW wide) (r % topW wide) l = y) (hr : r < 4294967296) (n : Nat) (A : Option Addr) (c : Nat) (w : World) (h : Rd w w.heap.size A l) (hb : By l) (hl : l.length = n) (hn : n ≤ 1099511627776) :
    Calls Tryd.prog 19 #[.bool wide, .int .u32 (r : Int), .slice A n c] w fun e w' => e = .returned (.int .u32 (y : Int)) ∧ w' = w := by
  subst hy
  exact same_turn (rmore_any wide r hr l n A c w h hb hl hn)

set_option maxHeartbeats 1000000 in
theorem more_long (wide : Bool) (r a : Int) (A : Option Addr) (n c : Nat) (w : World) (h : 400 < n) (hT : Tabs w) :
    Calls Tryd.prog 4 #[.slice A n c, .bool wide, .int .u32 r, .int .u16 a] w fun e w' => e = .returned (.bool true) ∧ Below w.heap.size w w' := by
  have h4 : (400 : Int) < (n : Int) := by omega
  go_enter Tryd.func4, Tryd.ntmps4
  go_wp2_with fail
  refine (speaks_any _ hT).mono ?_
  rintro e w1 ⟨rfl, hB1⟩
  go_wp2_with fail
  refine (speaks_any _ (hT.below hB1)).mono ?_
  rintro e w2 ⟨rfl, hb2⟩
  go_wp2_with fail
  go_ret
  exact ⟨rfl, hB1.trans (hb2.mono hB1.size)⟩

set_option maxHeartbeats 4000000 in
theorem more_walk (wide : Bool) (r : Nat) (hr : r < 4294967296) (a : Int) (l : List Nat) (A : Option Addr) (n c : Nat) (w : World) (ha : 0 ≤ a) (ha2 : a ≤ 65535) (hl : l.length = n) (hb : By l) (h : Rd w w.heap.size A l) (h4 : n ≤ 400) (hc : n ≤ c) (hT : Tabs w) :
    Calls Tryd.prog 4 #[.slice A n c, .bool wide, .int .u32 (r : Int), .int .u16 a] w fun e w' => e = .returned (.bool true) ∧ Below w.heap.size w w' := by
  have HL := Lib.hid hl
  have HB := Lib.hid hb
  have HR := Lib.hid h
  have Hr := Lib.hid hr
  clear hl hb h hr
  obtain ⟨k, hk, hkn⟩ : ∃ k : Nat, a % ((n : Int) + 1) = (k : Int) ∧ k ≤ n := by
    have h1 := Int.emod_nonneg a (b := (n : Int) + 1) (by omega)
    have h2 := Int.emod_lt_of_pos a (b := (n : Int) + 1) (by omega)
    exact ⟨(a % ((n : Int) + 1)).toNat, by omega, by omega⟩
  have k0 : (0 : Int) ≤ k := by omega
  have k1 : (k : Int) ≤ n := by omega
  have k2 : (k : Int) ≤ c := by omega
  have k3 : (n : Int) ≤ c := by omega
  have HK := Lib.hid (show k ≤ l.length by rw [HL.out]; exact hkn)
  have HC := Lib.hid (show l.length ≤ c by rw [HL.out]; exact hc)
  have HTk := Lib.hid (show (l.take k).length = k by rw [List.length_take, HL.out]; omega)
  have HDr := Lib.hid (show (l.drop k).length = n - k by rw [List.length_drop, HL.out])
  have hm : r % topW wide < topW wide := Nat.mod_lt _ (by have := top_ge wide; omega)
  obtain ⟨y, hy⟩ : ∃ y, Hid (reg (polyW wide) (r % topW wide) l = y) := ⟨_, Lib.hid rfl⟩
  obtain ⟨x, hx⟩ : ∃ x, Hid (reg (polyW wide) (r % topW wide) (l.take k) = x) := ⟨_, Lib.hid rfl⟩
  have hxt : x < topW wide := by rw [← hx.out]; exact regT_lt (HB.out.take k) hm
  have Hx := Lib.hid (topL wide hxt)
  have hxy : Hid (reg (polyW wide) (x % topW wide) (l.drop k) = y) := Lib.hid (by rw [Nat.mod_eq_of_lt hxt, ← hx.out, ← reg_app, List.take_append_drop, hy.out])
  clear hm hxt
  have hyy : ((y : Int) == (y : Int)) = true := by simp
  have HS := start_any wide
  cases wide
  all_goals
    go_enter Tryd.func4, Tryd.ntmps4
    go_wp2_with fail
    refine (speaks_any _ hT).mono ?_
    rintro e w1 ⟨rfl, hB1⟩
    go_wp2_with fail
    rw [hk]
    go_wp2_with fail
    refine (more_any _ r Hr.out l n _ _ _ ((HR.out.below hB1).more hB1.size) HB.out HL.out (by omega) (hT.below hB1)).mono ?_
    rintro e w2 ⟨rfl, rfl⟩
    rw [hy.out]
    go_wp2_with fail
    go_quiet (first
      | (go_at_call 19; (with_reducible exact Calls.quiet_of_same (rmore_v _ r y l hy.out Hr.out n A c _ ((HR.out.below (below_drewN hB1 _)).more (below_drewN hB1 _).size) HB.out HL.out (by omega))))
      | (go_at_call 18; (with_reducible exact Calls.quiet_of_same (more_v _ r x (l.take k) hx.out Hr.out k A c _ (part_take HR.out (below_drewN hB1 _) k) (HB.out.take k) HTk.out (by omega) (hT.below (below_drewN hB1 _)))))
      | (go_at_call 18; (with_reducible exact Calls.quiet_of_same (more_v _ x y (l.drop k) hxy.out Hx.out (n - k) _ (c - k) _ (part_drop HR.out (below_drewN hB1 _) HK.out HC.out) (HB.out.drop k) HDr.out (by omega) (hT.below (below_drewN hB1 _)))))
      | (go_at_call 20; (with_reducible exact Calls.quiet_of_same (same_turn (HS _)))))
    generalize (if c = k then A else Option.map (fun x => x.add k) A) = A'
    go_wp2_with fail
    go_ret
    exact ⟨rfl, below_drewN hB1 _⟩

end Go.Proofs.YtinajpmhpbjaiaaDoor
