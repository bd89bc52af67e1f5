
/-
  Control packets: what the calls of layer 13 and the document's own answer, first, Put. No condition beyond: octets below 256, data of at most 2^38 octets.
-/
import Derived.Test.YtcmapiaacimbeaaAppn
import Derived.Laws.BitsAll
import Derived.OwnWalk
namespace Go.Proofs.Ytcmapiaacimbeaa
open Go.RowKit

/-- How a packet is written. -/
def kputB (x y : Nat) (l : List Nat) : List Nat := [x, y, (l.length + 4) / 256, (l.length + 4) % 256] ++ l
/-- What Put answers: octets, and the error's number. -/
def kputA (x y : Nat) (l : List Nat) : List Nat := if l.length ≤ 65531 then kputB x y l else []
def kerrP (l : List Nat) : Nat := if l.length ≤ 65531 then 0 else 3
/-- How many octets has the packet that octets begin with; the error's number. -/
def kfirstB (l : List Nat) : Nat × Nat :=
  match l with
  | _ :: _ :: x :: y :: _ => if 256 * x + y < 4 then (0, 4) else if l.length < 256 * x + y then (0, 2) else (256 * x + y, 0)
  | _ => (0, 2)
/-- The packet that octets begin with, the error's number. -/
def kgetB (l : List Nat) : Nat × Nat × List Nat × Nat :=
  if (kfirstB l).2 = 0 then (l.headD 0, (l.drop 1).headD 0, (l.take (kfirstB l).1).drop 4, 0) else (0, 0, [], (kfirstB l).2)
/-- How many octets stand behind it. -/
def kpadB (l : List Nat) : Nat := if (kfirstB l).2 = 0 then l.length - (kfirstB l).1 else 0

theorem kput_len (x y : Nat) (l : List Nat) : (kputB x y l).length = l.length + 4 := by unfold kputB; simp
theorem kput_by {x y : Nat} {l : List Nat} (hx : x < 256) (hy : y < 256) (hb : By l) (hl : l.length ≤ 65531) : By (kputB x y l) := by
  refine By.app ?_ hb
  intro z hz
  simp at hz
  omega

theorem kfirst_short {l : List Nat} (h : l.length < 4) : kfirstB l = (0, 2) := by
  match l, h with
  | [], _ => rfl
  | [_], _ => rfl
  | [_, _], _ => rfl
  | [_, _, _], _ => rfl
  | _ :: _ :: _ :: _ :: _, h => simp at h; omega
theorem kfirst_at {l : List Nat} {x y n : Nat} (hx : l[2]? = some x) (hy : l[3]? = some y) (hn : l.length = n) : kfirstB l = if 256 * x + y < 4 then (0, 4) else if n < 256 * x + y then (0, 2) else (256 * x + y, 0) := by
  subst hn
  match l, hx, hy with
  | _ :: _ :: u :: v :: t, hx, hy =>
    have e1 : u = x := by simpa using hx
    have e2 : v = y := by simpa using hy
    subst e1; subst e2
    rfl
/-- A packet lies within its octets. -/
theorem kfirst_ok {l : List Nat} (h : (kfirstB l).2 = 0) : 4 ≤ (kfirstB l).1 ∧ (kfirstB l).1 ≤ l.length ∧ 4 ≤ l.length := by
  rcases Nat.lt_or_ge l.length 4 with h4 | h4
  · rw [kfirst_short h4] at h; simp at h
  · have e := kfirst_at (List.getElem?_eq_getElem (show 2 < l.length by omega)) (List.getElem?_eq_getElem (show 3 < l.length by omega)) rfl
    rw [e] at h ⊢
    split at h
    · simp at h
    · split at h
      · simp at h
      · rename_i h1 h2
        rw [if_neg h1, if_neg h2]
        exact ⟨by omega, by omega, h4⟩

theorem i64_or16 (x y : Nat) (hx : x < 256) (hy : y < 256) : bits .or .i64 ((x : Int) * 256) (y : Int) = ((256 * x + y : Nat) : Int) := by
  have h2 := Nat.two_pow_add_eq_or_of_lt (show y < 2 ^ 8 by omega) x
  have e : ((x : Int) * 256) = ((2 ^ 8 * x : Nat) : Int) := by simp; omega
  rw [e]
  show IntKind.i64.wrap ((BitVec.ofInt 64 ((2 ^ 8 * x : Nat) : Int) ||| BitVec.ofInt 64 (y : Int)).toNat : Int) = _
  rw [BitVec.toNat_or, ofInt_u64 _ (by omega), ofInt_u64 _ (by omega), ← h2, show 2 ^ 8 * x + y = 256 * x + y by omega]
  exact IntWalk.i64_in _ (by omega)

set_option maxHeartbeats 1000000 in
theorem kfirst_any (l : List Nat) (n c : Nat) (A : Option Addr) (w : World) (h : Rd w w.heap.size A l) (hb : By l) (hn : l.length = n) :
    Calls Try.prog 33 #[.slice A n c] w fun e w' => e = .returned (.tuple #[.int .i64 ((kfirstB l).1 : Int), .int .i64 ((kfirstB l).2 : Int)]) ∧ ∃ k, w' = w.drewN k := by
  by_cases h4 : n < 4
  · have E := Lib.hid (kfirst_short (by rw [hn]; exact h4))
    rw [E.out]
    have j1 : (n : Int) < 4 := by omega
    clear h hb hn
    go_enter Try.func33, Try.ntmps33
    go_wp2_with fail
    go_ret2
    exact ⟨rfl, 0, rfl⟩
  · obtain ⟨bb, oo, x, rfl, -, hx, hcx⟩ := h.at_ (k := 2) (by omega)
    obtain ⟨bb', oo', y, e, -, hy, hcy⟩ := h.at_ (k := 3) (by omega)
    injection e with e
    injection e with e1 e2
    subst e1; subst e2
    have hx2 := hb.get hx
    have hy2 := hb.get hy
    have E := Lib.hid (kfirst_at hx hy hn)
    have O := Lib.hid (i64_or16 x y hx2 hy2)
    have j1 : ¬ (n : Int) < 4 := by omega
    have j2 : (2 : Int) < n := by omega
    have j3 : (3 : Int) < n := by omega
    obtain ⟨z, hz⟩ : ∃ z, Hid (256 * x + y = z) := ⟨_, Lib.hid rfl⟩
    rw [hz.out] at O E
    rw [E.out]
    clear h hb hn hx hy
    by_cases z4 : z < 4
    · rw [if_pos z4]
      have k1 : (z : Int) < 4 := by omega
      go_enter Try.func33, Try.ntmps33
      go_wp2_with fail
      go_quiet (fail)
      all_goals
        rw [O.out]
        go_wp2_with fail
        go_ret2
        exact ⟨rfl, _, rfl⟩
    · rw [if_neg z4]
      have k1 : ¬ (z : Int) < 4 := by omega
      by_cases zn : n < z
      · rw [if_pos zn]
        have k2 : (n : Int) < (z : Int) := by omega
        go_enter Try.func33, Try.ntmps33
        go_wp2_with fail
        go_quiet (fail)
        all_goals
          rw [O.out]
          go_wp2_with fail
          go_ret2
          exact ⟨rfl, _, rfl⟩
      · rw [if_neg zn]
        have k2 : ¬ (n : Int) < (z : Int) := by omega
        go_enter Try.func33, Try.ntmps33
        go_wp2_with fail
        go_quiet (fail)
        all_goals
          rw [O.out]
          go_wp2_with fail
          go_ret2
          exact ⟨rfl, _, rfl⟩
theorem results_tmp4 {fn : Func} {t u v x : Tmp} (h : fn.results = #[.tmp t, .tmp u, .tmp v, .tmp x]) (tmps : Array Value) (P : Program) (w : World) :
    (results fn tmps).run P w = .ok (.tuple #[tmps.getD t undef, tmps.getD u undef, tmps.getD v undef, tmps.getD x undef]) w := by
  simp [results, h]
theorem results_tmp5 {fn : Func} {t u v x y : Tmp} (h : fn.results = #[.tmp t, .tmp u, .tmp v, .tmp x, .tmp y]) (tmps : Array Value) (P : Program) (w : World) :
    (results fn tmps).run P w = .ok (.tuple #[tmps.getD t undef, tmps.getD u undef, tmps.getD v undef, tmps.getD x undef, tmps.getD y undef]) w := by
  simp [results, h]

theorem kput_lit (x y k : Nat) (w : World) : Rd (w.alloc (.cells #[.int .u8 (x : Int), .int .u8 (y : Int), .int .u8 ((k : Int) / 256), .int .u8 ((k : Int) % 256)] 5)) (w.alloc (.cells #[.int .u8 (x : Int), .int .u8 (y : Int), .int .u8 ((k : Int) / 256), .int .u8 ((k : Int) % 256)] 5)).heap.size (some ⟨w.heap.size, 0, none⟩) [x, y, k / 256, k % 256] := by
  have := Rd.lit_ w [x, y, k / 256, k % 256]
  simpa [bvs, bv] using this

set_option maxHeartbeats 1000000 in
theorem cput_any (x y : Nat) (l : List Nat) (n c : Nat) (A : Option Addr) (w : World) (h : Rd w w.heap.size A l) (hl : l.length = n) :
    Calls Try.prog 22 #[.int .u8 (x : Int), .int .u8 (y : Int), .slice A n c] w fun e w' => ∃ A' c' k, e = .returned (.tuple #[.slice A' k c', .int .i64 (kerrP l : Int)]) ∧ New w w' A' c' k (kputA x y l) := by
  obtain ⟨i0, hi, hz0, hz1, hz2⟩ := info_parts byte_info
  have HR := Lib.hid h
  have HL := Lib.hid hl
  by_cases h5 : n ≤ 65531
  · have EP := Lib.hid (show kerrP l = 0 by unfold kerrP; rw [if_pos (by omega)])
    have EA := Lib.hid (show kputA x y l = kputB x y l by unfold kputA; rw [if_pos (by omega)])
    rw [EP.out, EA.out]
    obtain ⟨k, hk⟩ : ∃ k, n + 4 = k := ⟨_, rfl⟩
    have i1 : ¬ (65531 : Int) < (n : Int) := by omega
    have i2 : (4 : Int) + (n : Int) = (k : Int) := by omega
    have i3 : IntKind.i64.wrap (k : Int) = (k : Int) := IntWalk.i64_in _ (by omega)
    obtain ⟨w4, hmk, hown4, hg4⟩ := run_make_own (P := Try.prog) w w.heap.size 25 5 i0 (.int .u8 0) 1 Try.underlying25 hi hz0 hz1 .i64 .i64 k (by rw [hz2]; omega) (by unfold maxLen; omega) (Nat.le_refl _)
    have hbel4 := (Below.refl w.heap.size w).grown hg4 (Nat.le_refl _) (fun k hk => by cases hk)
    clear h hl EP EA
    go_enter Try.func22, Try.ntmps22
    go_wp2_with (at_builtin; first
      | (refine list_app rfl _ _ _ rfl _ i0 Try.underlying25 hi hz0 hz1 hz2 _ _ 0 [] rfl (own_below hown4 ((Below.refl _ _).alloc (Nat.le_refl _) _)) _ _ 4 _ [x, y, k / 256, k % 256] rfl (kput_lit x y k w4) rfl (by omega) (by rw [World.size_alloc]; exact Nat.le_succ_of_le hbel4.size) ?_; intro A6 c6 w6 ho6 hg6; have HB6 := Lib.hid ((hbel4.alloc hbel4.size _).grown hg6 (by rw [World.size_alloc]; exact Nat.le_succ_of_le hbel4.size) (fun g hg => (hown4.lt g hg).1)); clear hg6)
      | (refine list_app rfl _ _ _ rfl _ i0 Try.underlying25 hi hz0 hz1 hz2 _ _ (0 + 4) _ rfl ho6 w.heap.size _ n _ l rfl (HR.out.below HB6.out) HL.out (by omega) HB6.out.size ?_; intro A7 c7 w7 ho7 hg7; have HB7 := Lib.hid (HB6.out.grown hg7 HB6.out.size (fun g hg => (ho6.lt g hg).1)); clear hg7))
    go_ret2
    have e : bvs (kputB x y l) = bvs ([] ++ [x, y, k / 256, k % 256] ++ l) := by unfold kputB; rw [HL.out, hk]; rfl
    rw [← e] at ho7
    obtain ⟨A', c', e2, hN⟩ := New.mk ho7 HB7.out
    rw [e2]
    exact ⟨A', c', _, rfl, hN⟩
  · have EP := Lib.hid (show kerrP l = 3 by unfold kerrP; rw [if_neg (by omega)])
    have EA := Lib.hid (show kputA x y l = [] by unfold kputA; rw [if_neg (by omega)])
    rw [EP.out, EA.out]
    have i1 : (65531 : Int) < (n : Int) := by omega
    clear h hl EP EA
    go_enter Try.func22, Try.ntmps22
    go_wp2_with fail
    go_ret2
    exact ⟨none, 0, 0, rfl, rfl, World.ownsRow_nil _ _ _ _, Rd.nil, Below.refl _ _⟩

end Go.Proofs.Ytcmapiaacimbeaa
