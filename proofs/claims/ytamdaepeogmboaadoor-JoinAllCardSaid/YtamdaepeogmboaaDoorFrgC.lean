
/-
  What chunks of layer 23 hands back: an iterator that gives octets in chunks. Conditions: a most of at least 1; octets that lie below the blocks that a round may turn.
-/
import Derived.Test.YtamdaepeogmboaaDoorFrgG
import Derived.RangeFuncNested
import Derived.RangeFuncBound
import Derived.RangeFuncCalls
import Derived.RangeFuncLeaves
import Derived.RangeFuncBox
import Derived.Shelf.Abstract
import Derived.Shelf.RegionOpen
import Derived.OwnWalkIn
import Derived.TacticsInMore
import Derived.LoopNIn
import Derived.LoopIn
import Derived.Maps.AppendAt
namespace Go.Proofs.YtamdaepeogmboaaDoor
set_option maxRecDepth 4000
open Go.RowKit Go.Shelf
attribute [local go_sem] Oper.semAt_some

/-- A chunk: where it lies, its length, its capacity, its octets; they lie below block B of the world w. -/
abbrev Chk (w : World) (B : Nat) := { x : (Option Addr × Nat × Nat) × List Nat // Rd w B x.1.1 x.2 ∧ x.2.length = x.1.2.1 ∧ x.1.2.1 ≤ x.1.2.2 ∧ x.1.2.1 ≤ 274877906944 ∧ By x.2 }
def Chk.enc {w : World} {B : Nat} (x : Chk w B) : Array Value := #[.slice x.1.1.1 x.1.1.2.1 x.1.1.2.2]
def Chk.oct {w : World} {B : Nat} (x : Chk w B) : List Nat := x.1.2
/-- What a round keeps: the two boxes. -/
def Kp2 (d m : Nat) (W W' : World) : Prop := W.heap.size ≤ W'.heap.size ∧ ∀ k, (k = d ∨ k = m) → k < W.heap.size → W'.heap[k]? = W.heap[k]?
theorem Kp2.trans {d m : Nat} {A B C : World} (h : Kp2 d m A B) (k : Kp2 d m B C) : Kp2 d m A C := ⟨Nat.le_trans h.1 k.1, fun i hi hl => (k.2 i hi (Nat.lt_of_lt_of_le hl h.1)).trans (h.2 i hi hl)⟩

set_option maxHeartbeats 1000000 in
/-- The two values are boxed; the function value captures the boxes. -/
theorem frchunks_any (m : Int) (A : Option Addr) (n c : Nat) (w : World) :
    Calls Tryd.prog 33 #[.int .i64 m, .slice A n c] w fun e w' => e = .returned (.func (.func 45) #[] #[.pointer (some ⟨w.heap.size + 1, 0, none⟩), .pointer (some ⟨w.heap.size, 0, none⟩)]) ∧ w' = (w.alloc (.cells #[.int .i64 m] 3)).alloc (.cells #[.slice A n c] 30) := by
  go_enter Tryd.func33, Tryd.ntmps33
  go_wp2
  go_ret
  exact ⟨rfl, rfl⟩

set_option maxRecDepth 100000 in
set_option maxHeartbeats 4000000 in
theorem frchunks1_in (F : Fence) (n : Nat) (hF : F.fn 45) (hro : F.round = none) (hn : 1 ≤ n) (l Bd Bm B m : Nat) (w : World) (hm : 0 < m) (hm2 : m ≤ 9223372036854775807) (A : Option Addr) (N c : Nat) (d : List Nat) (hd : Rd w B A d) (hdl : d.length = N) (hdc : N ≤ c) (hN : N ≤ 274877906944) (hdb : By d) (J Jx : List (Chk w B) → World → Prop)
    (hY : ∀ pre x W, J pre W → pre.length < frcnt m N → YieldAt F (n - 1) Tryd.prog l (Chk.enc x) W fun e W' =>
      (e = .returned (.bool true) ∧ J (pre ++ [x]) W' ∧ Kp2 Bd Bm W W') ∨ (e = .returned (.bool false) ∧ Jx (pre ++ [x]) W'))
    (W : World) (hBd : Boxed W Bd 30 (.slice A N c)) (hBm : Boxed W Bm 3 (.int .i64 (m : Int))) (h0 : J [] W) :
    CallsIn F n Tryd.prog 45 #[.func (.yield l) #[] #[], .pointer (some ⟨Bd, 0, none⟩), .pointer (some ⟨Bm, 0, none⟩)] W fun e W' => (∃ v, e = .returned v) ∧
      ((∃ ys, ys.map Chk.oct = (List.range (frcnt m N)).map (frchk m d) ∧ J ys W') ∨ (∃ pre, True ∧ Jx pre W')) := by
  refine callsIn_of_wp Tryd.func45 rfl hF ?_ hro
  simp only [Tryd.ntmps45, List.size_toArray, List.length_cons, List.length_nil, Nat.reduceAdd, Nat.reduceSub, Array.replicate_succ, Array.replicate_zero, List.push_toArray, List.append_toArray, List.nil_append, List.cons_append]
  have hcd := hBd.cell
  gi_wp2
  gi_loopw [4] (fun v wr => ∃ (pre : List (Chk w B)) (A' : Option Addr) (c' r k : Nat), v = .slice A' r c' ∧ r ≤ c' ∧ Rd w B A' (d.drop (k * m)) ∧ (d.drop (k * m)).length = r ∧ k * m ≤ max N 1 - 1 ∧ r ≤ N ∧ pre.map Chk.oct = (List.range k).map (frchk m d) ∧ J pre wr ∧ Boxed wr Bd 30 (.slice A N c) ∧ Boxed wr Bm 3 (.int .i64 (m : Int)))
    (fun v _ => match v with | .slice _ r _ => r | _ => 0)
  case atStart =>
    exact ⟨[], A, c, N, 0, rfl, hdc, by simpa using hd, by simpa using hdl, by simp, Nat.le_refl _, rfl, h0, hBd, hBm⟩
  case round =>
    obtain ⟨pre, A', c', r, k, rfl, hrc, hrd, hrl, hk, hrN, hpre, hJ, bd, bm⟩ := hrel
    have hkl : pre.length = k := by have := congrArg List.length hpre; simpa using this
    have hdrop : r = N - k * m := by rw [← hrl, List.length_drop, hdl]
    have hcm := bm.cell
    by_cases hlt : m < r
    · have j1 : (m : Int) < (r : Int) := by omega
      have hcnt : k + 1 < frcnt m N := by
        have h2 : (k + 1) * m ≤ max N 1 - 1 := by rw [Nat.add_mul]; omega
        unfold frcnt
        have := (Nat.le_div_iff_mul_le hm).2 h2
        omega
      obtain ⟨x, hxe, hxo⟩ : ∃ x : Chk w B, x.enc = #[.slice A' m c'] ∧ x.oct = (d.drop (k * m)).take m := ⟨⟨((A', m, c'), (d.drop (k * m)).take m), ⟨hrd.take m, by show ((d.drop (k * m)).take m).length = m; rw [List.length_take, hrl]; omega, by show m ≤ c'; omega, by show m ≤ _; omega, (hdb.drop _).take m⟩⟩, rfl, rfl⟩
      obtain ⟨fn, tmps, assign, body, hy, hR⟩ := hY pre x wr hJ (by rw [hkl]; omega)
      rw [hxe] at hy
      have j2 : (0 : Int) ≤ (m : Int) := by omega
      have j3 : (m : Int) ≤ (c' : Int) := by omega
      have j4 : (m : Int) ≤ (r : Int) := by omega
      have hcut := hrd.cut (k := m) (c := c') (by rw [hrl]; omega) (by rw [hrl]; exact hrc)
      have hpre2 : (pre ++ [x]).map Chk.oct = (List.range (k + 1)).map (frchk m d) := by
        rw [List.map_append, hpre, List.range_succ, List.map_append, List.map_cons, List.map_nil, hxo]
        rfl
      have j5 : ¬ c' = m := by omega
      rw [if_neg j5] at hcut
      have HC := Lib.hid hcut
      have HP := Lib.hid hpre2
      have HB := Lib.hid (And.intro bd bm)
      have HR := Lib.hid (show (k + 1) * m ≤ max N 1 - 1 ∧ r - m ≤ N ∧ r - m ≤ c' - m ∧ (d.drop ((k + 1) * m)).length = r - m ∧ (d.drop (k * m)).drop m = d.drop ((k + 1) * m) from by
        refine ⟨by rw [Nat.add_mul]; omega, by omega, by omega, ?_, ?_⟩
        · rw [List.length_drop, hdl, Nat.add_mul]; omega
        · rw [List.drop_drop]; congr 1; rw [Nat.add_mul]; omega)
      clear hcut hpre2 bd bm hrd hrl hk hrN hpre hkl hdrop hcnt hxe hxo
      gi_wp2
      refine hR.mono ?_
      rintro e W3 (⟨rfl, hJ3, hk3⟩ | ⟨rfl, hJx3⟩)
      · have hcm3 : W3.cell? ⟨Bm, 0, none⟩ = some (.int .i64 (m : Int)) := (show Boxed W3 Bm 3 _ from (hk3.2 Bm (.inr rfl) HB.out.2.lt).trans HB.out.2).cell
        have bd3 : Hid (Boxed W3 Bd 30 (.slice A N c)) := Lib.hid ((hk3.2 Bd (.inl rfl) HB.out.1.lt).trans HB.out.1)
        have bm3 : Hid (Boxed W3 Bm 3 (.int .i64 (m : Int))) := Lib.hid ((hk3.2 Bm (.inr rfl) HB.out.2.lt).trans HB.out.2)
        gi_wp2
        go_roundw
        case rel =>
          have hc9 := HC.out
          rw [HR.out.2.2.2.2] at hc9
          exact ⟨pre ++ [x], _, _, _, k + 1, rfl, HR.out.2.2.1, hc9, HR.out.2.2.2.1, HR.out.1, HR.out.2.1, HP.out, hJ3, bd3.out, bm3.out⟩
        case measure => show r - m < r; omega
      · gi_wp2
        refine bodyPost_ret (results_none rfl _ _ _) rfl ?_
        exact ⟨⟨_, rfl⟩, .inr ⟨_, trivial, hJx3⟩⟩
    · have j1 : ¬ (m : Int) < (r : Int) := by omega
      have hcnt : frcnt m N = k + 1 := frcnt_at hk (by rw [Nat.add_mul]; omega)
      obtain ⟨x, hxe, hxo⟩ : ∃ x : Chk w B, x.enc = #[.slice A' r c'] ∧ x.oct = d.drop (k * m) := ⟨⟨((A', r, c'), d.drop (k * m)), ⟨hrd, hrl, hrc, by show r ≤ _; omega, hdb.drop _⟩⟩, rfl, rfl⟩
      obtain ⟨fn, tmps, assign, body, hy, hR⟩ := hY pre x wr hJ (by rw [hkl]; omega)
      rw [hxe] at hy
      have HP := Lib.hid (show (pre ++ [x]).map Chk.oct = (List.range (frcnt m N)).map (frchk m d) by
        rw [hcnt, List.map_append, hpre, List.range_succ, List.map_append, List.map_cons, List.map_nil, hxo]
        have e : frchk m d k = d.drop (k * m) := by unfold frchk; rw [List.take_of_length_le (by rw [hrl]; omega)]
        show _ ++ [d.drop (k * m)] = _ ++ [frchk m d k]
        rw [e])
      clear hcnt hrd hrl hk hrN hpre hkl hdrop bd bm hxe hxo
      gi_wp2
      refine hR.mono ?_
      rintro e W3 (⟨rfl, hJ3, hk3⟩ | ⟨rfl, hJx3⟩)
      · gi_wp2
        go_end0
        exact ⟨⟨_, rfl⟩, .inl ⟨_, HP.out, hJ3⟩⟩
      · gi_wp2
        go_end0
        exact ⟨⟨_, rfl⟩, .inr ⟨_, trivial, hJx3⟩⟩
end Go.Proofs.YtamdaepeogmboaaDoor
