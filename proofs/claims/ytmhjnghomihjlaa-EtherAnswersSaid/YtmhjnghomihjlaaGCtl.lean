/-
  Control packets: what the calls of layer 13 and the document's own answer, first, Put. No condition beyond: octets below 256, data of at most 2^38 octets. Control packets: the document's Put, both Get, the example; results by name. No condition beyond: octets below 256, data of at most 2^38 octets. Control packets: what is read of what is written; the calls as the laws' walks want them: results by name; the example. No condition beyond: octets below 256, data of at most 2^38 octets. What Get of layer 13 answers, with the blocks that its data lie in. No condition beyond: at most 2^38 octets. What the document's Get of layer 13 answers, with the blocks that its data lie in. No condition beyond: at most 2^38 octets.
-/
import Derived.Test.YtmhjnghomihjlaaGWord
import Derived.Laws.BitsAll
import Derived.OwnWalk
import Derived.WalkMore
import Derived.Test.YtmhjnghomihjlaaGOps
namespace Go.Proofs.Ytmhjnghomihjlaa
section
set_option maxRecDepth 4000
open Go.RowKit

/-- How a packet is written. -/
def kputB (x y : Nat) (l : List Nat) : List Nat := [x, y, (l.length + 4) / 256, (l.length + 4) % 256] ++ l
/-- What Put answers: octets, and the error's number. -/
def kputA (x y : Nat) (l : List Nat) : List Nat := if l.length ≤ 65531 then kputB x y l else []
def kerrP (l : List Nat) : Nat := if l.length ≤ 65531 then 0 else 3
/-- How many octets has the packet that octets begin with; the error's number. -/
def kfirstB (l : List Nat) : Nat × Nat :=
  match l with
  | _ :: _ :: x :: y :: _ => if 256 * x + y < 4 then (0, 4) else if l.length < 256 * x + y then (0, 2) else (256 * x + y, 0)
  | _ => (0, 2)
/-- The packet that octets begin with, the error's number. -/
def kgetB (l : List Nat) : Nat × Nat × List Nat × Nat :=
  if (kfirstB l).2 = 0 then (l.headD 0, (l.drop 1).headD 0, (l.take (kfirstB l).1).drop 4, 0) else (0, 0, [], (kfirstB l).2)
/-- How many octets stand behind it. -/
def kpadB (l : List Nat) : Nat := if (kfirstB l).2 = 0 then l.length - (kfirstB l).1 else 0

theorem kput_len (x y : Nat) (l : List Nat) : (kputB x y l).length = l.length + 4 := by unfold kputB; simp
theorem kput_by {x y : Nat} {l : List Nat} (hx : x < 256) (hy : y < 256) (hb : By l) (hl : l.length ≤ 65531) : By (kputB x y l) := by
  refine By.app ?_ hb
  intro z hz
  simp at hz
  omega

theorem kfirst_short {l : List Nat} (h : l.length < 4) : kfirstB l = (0, 2) := by
  match l, h with
  | [], _ => rfl
  | [_], _ => rfl
  | [_, _], _ => rfl
  | [_, _, _], _ => rfl
  | _ :: _ :: _ :: _ :: _, h => simp at h; omega
theorem kfirst_at {l : List Nat} {x y n : Nat} (hx : l[2]? = some x) (hy : l[3]? = some y) (hn : l.length = n) : kfirstB l = if 256 * x + y < 4 then (0, 4) else if n < 256 * x + y then (0, 2) else (256 * x + y, 0) := by
  subst hn
  match l, hx, hy with
  | _ :: _ :: u :: v :: t, hx, hy =>
    have e1 : u = x := by simpa using hx
    have e2 : v = y := by simpa using hy
    subst e1; subst e2
    rfl
/-- A packet lies within its octets. -/
theorem kfirst_ok {l : List Nat} (h : (kfirstB l).2 = 0) : 4 ≤ (kfirstB l).1 ∧ (kfirstB l).1 ≤ l.length ∧ 4 ≤ l.length := by
  rcases Nat.lt_or_ge l.length 4 with h4 | h4
  · rw [kfirst_short h4] at h; simp at h
  · have e := kfirst_at (List.getElem?_eq_getElem (show 2 < l.length by omega)) (List.getElem?_eq_getElem (show 3 < l.length by omega)) rfl
    rw [e] at h ⊢
    split at h
    · simp at h
    · split at h
      · simp at h
      · rename_i h1 h2
        rw [if_neg h1, if_neg h2]
        exact ⟨by omega, by omega, h4⟩

theorem i64_or16 (x y : Nat) (hx : x < 256) (hy : y < 256) : bits .or .i64 ((x : Int) * 256) (y : Int) = ((256 * x + y : Nat) : Int) := by
  have h2 := Nat.two_pow_add_eq_or_of_lt (show y < 2 ^ 8 by omega) x
  have e : ((x : Int) * 256) = ((2 ^ 8 * x : Nat) : Int) := by simp; omega
  rw [e]
  show IntKind.i64.wrap ((BitVec.ofInt 64 ((2 ^ 8 * x : Nat) : Int) ||| BitVec.ofInt 64 (y : Int)).toNat : Int) = _
  rw [BitVec.toNat_or, ofInt_u64 _ (by omega), ofInt_u64 _ (by omega), ← h2, show 2 ^ 8 * x + y = 256 * x + y by omega]
  exact IntWalk.i64_in _ (by omega)

theorem results_tmp4 {fn : Func} {t u v x : Tmp} (h : fn.results = #[.tmp t, .tmp u, .tmp v, .tmp x]) (tmps : Array Value) (P : Program) (w : World) :
    (results fn tmps).run P w = .ok (.tuple #[tmps.getD t undef, tmps.getD u undef, tmps.getD v undef, tmps.getD x undef]) w := by
  simp [results, h]
theorem results_tmp5 {fn : Func} {t u v x y : Tmp} (h : fn.results = #[.tmp t, .tmp u, .tmp v, .tmp x, .tmp y]) (tmps : Array Value) (P : Program) (w : World) :
    (results fn tmps).run P w = .ok (.tuple #[tmps.getD t undef, tmps.getD u undef, tmps.getD v undef, tmps.getD x undef, tmps.getD y undef]) w := by
  simp [results, h]

theorem kput_lit (x y k : Nat) (w : World) : Rd (w.alloc (.cells #[.int .u8 (x : Int), .int .u8 (y : Int), .int .u8 ((k : Int) / 256), .int .u8 ((k : Int) % 256)] 5)) (w.alloc (.cells #[.int .u8 (x : Int), .int .u8 (y : Int), .int .u8 ((k : Int) / 256), .int .u8 ((k : Int) % 256)] 5)).heap.size (some ⟨w.heap.size, 0, none⟩) [x, y, k / 256, k % 256] := by
  have := Rd.lit_ w [x, y, k / 256, k % 256]
  simpa [bvs, bv] using this

set_option maxHeartbeats 1000000 in
theorem cput_any (x y : Nat) (l : List Nat) (n c : Nat) (A : Option Addr) (w : World) (h : Rd w w.heap.size A l) (hl : l.length = n) :
    Calls Try.prog 67 #[.int .u8 (x : Int), .int .u8 (y : Int), .slice A n c] w fun e w' => ∃ A' c' k, e = .returned (.tuple #[.slice A' k c', .int .i64 (kerrP l : Int)]) ∧ New w w' A' c' k (kputA x y l) := by
  obtain ⟨i0, hi, hz0, hz1, hz2⟩ := info_parts byte_info
  have HR := Lib.hid h
  have HL := Lib.hid hl
  by_cases h5 : n ≤ 65531
  · have EP := Lib.hid (show kerrP l = 0 by unfold kerrP; rw [if_pos (by omega)])
    have EA := Lib.hid (show kputA x y l = kputB x y l by unfold kputA; rw [if_pos (by omega)])
    rw [EP.out, EA.out]
    obtain ⟨k, hk⟩ : ∃ k, n + 4 = k := ⟨_, rfl⟩
    have i1 : ¬ (65531 : Int) < (n : Int) := by omega
    have i2 : (4 : Int) + (n : Int) = (k : Int) := by omega
    have i3 : IntKind.i64.wrap (k : Int) = (k : Int) := IntWalk.i64_in _ (by omega)
    obtain ⟨w4, hmk, hown4, hg4⟩ := run_make_own (P := Try.prog) w w.heap.size 26 5 i0 (.int .u8 0) 1 Try.underlying26 hi hz0 hz1 .i64 .i64 k (by rw [hz2]; omega) (by unfold maxLen; omega) (Nat.le_refl _)
    have hbel4 := (Below.refl w.heap.size w).grown hg4 (Nat.le_refl _) (fun k hk => by cases hk)
    clear h hl EP EA
    go_enter Try.func67, Try.ntmps67
    go_wp2_with (at_builtin; first
      | (refine list_app rfl _ _ _ rfl _ i0 Try.underlying26 hi hz0 hz1 hz2 _ _ 0 [] rfl (own_below hown4 ((Below.refl _ _).alloc (Nat.le_refl _) _)) _ _ 4 _ [x, y, k / 256, k % 256] rfl (kput_lit x y k w4) rfl (by omega) (by rw [World.size_alloc]; exact Nat.le_succ_of_le hbel4.size) ?_; intro A6 c6 w6 ho6 hg6; have HB6 := Lib.hid ((hbel4.alloc hbel4.size _).grown hg6 (by rw [World.size_alloc]; exact Nat.le_succ_of_le hbel4.size) (fun g hg => (hown4.lt g hg).1)); clear hg6)
      | (refine list_app rfl _ _ _ rfl _ i0 Try.underlying26 hi hz0 hz1 hz2 _ _ (0 + 4) _ rfl ho6 w.heap.size _ n _ l rfl (HR.out.below HB6.out) HL.out (by omega) HB6.out.size ?_; intro A7 c7 w7 ho7 hg7; have HB7 := Lib.hid (HB6.out.grown hg7 HB6.out.size (fun g hg => (ho6.lt g hg).1)); clear hg7))
    go_ret2
    have e : bvs (kputB x y l) = bvs ([] ++ [x, y, k / 256, k % 256] ++ l) := by unfold kputB; rw [HL.out, hk]; rfl
    rw [← e] at ho7
    obtain ⟨A', c', e2, hN⟩ := New.mk ho7 HB7.out
    rw [e2]
    exact ⟨A', c', _, rfl, hN⟩
  · have EP := Lib.hid (show kerrP l = 3 by unfold kerrP; rw [if_neg (by omega)])
    have EA := Lib.hid (show kputA x y l = [] by unfold kputA; rw [if_neg (by omega)])
    rw [EP.out, EA.out]
    have i1 : (65531 : Int) < (n : Int) := by omega
    clear h hl EP EA
    go_enter Try.func67, Try.ntmps67
    go_wp2_with fail
    go_ret2
    exact ⟨none, 0, 0, rfl, rfl, World.ownsRow_nil _ _ _ _, Rd.nil, Below.refl _ _⟩
end

section
set_option maxRecDepth 4000
open Go.RowKit

theorem Rd.kcutAt {w : World} {B b o : Nat} {l : List Nat} (h : Rd w B (some ⟨b, o, none⟩) l) {f c : Nat} (hc : l.length ≤ c) : Rd w B (if c = f then some ⟨b, o, none⟩ else some ⟨b, o + f, none⟩) (l.drop f) := by
  intro hl
  rw [List.length_drop] at hl
  rw [if_neg (by omega)]
  obtain ⟨b', off, e, hb, hcell⟩ := h (by omega)
  injection e with e
  injection e with e1 e2
  subst e1; subst e2
  exact ⟨b, o + f, rfl, hb, fun k x hx => by rw [Nat.add_assoc]; exact hcell (f + k) x (by rw [← List.getElem?_drop]; exact hx)⟩

/-- What Get answers. -/
def KGetO (l : List Nat) (w : World) (e : Ending) (w' : World) : Prop :=
  ∃ A' c' k, e = .returned (.tuple #[.int .u8 ((kgetB l).1 : Int), .int .u8 ((kgetB l).2.1 : Int), .slice A' k c', .int .i64 ((kgetB l).2.2.2 : Int)]) ∧ (kgetB l).2.2.1.length = k ∧ k ≤ c' ∧ Rd w' w'.heap.size A' (kgetB l).2.2.1 ∧ Below w.heap.size w w'

/-- What Get's reading knows of the world it stands in. -/
structure KFC (w W : World) (a0 a1 : Addr) (x y : Nat) : Prop where
  bel : Below w.heap.size w W
  lt0 : a0.block < w.heap.size
  lt1 : a1.block < w.heap.size
  f0 : w.cell? a0 = some (.int .u8 (x : Int))
  f1 : w.cell? a1 = some (.int .u8 (y : Int))
section
variable {w W X W' : World} {a0 a1 : Addr} {x y : Nat}
theorem KFC.cells (h : KFC w W a0 a1 x y) : W.cell? a0 = some (.int .u8 (x : Int)) ∧ W.cell? a1 = some (.int .u8 (y : Int)) := ⟨(h.bel.cell h.lt0).trans h.f0, (h.bel.cell h.lt1).trans h.f1⟩
theorem KFC.step (h : KFC w W a0 a1 x y) (hb : Below X.heap.size X W') (hX : Below W.heap.size W X := by first | exact Below.refl _ _ | exact (Below.refl _ _).drew) : KFC w W' a0 a1 x y :=
  ⟨h.bel.trans ((hX.trans (hb.mono hX.size)).mono h.bel.size), h.lt0, h.lt1, h.f0, h.f1⟩
theorem KFC.drew (h : KFC w W a0 a1 x y) : KFC w W.drew a0 a1 x y := h.step (X := W) (Below.refl _ _).drew
end

theorem kget_bad {l : List Nat} {f e : Nat} (hf : kfirstB l = (f, e)) (he : ¬ e = 0) : kgetB l = (0, 0, [], e) := by
  unfold kgetB; rw [hf, if_neg he]
theorem kget_good {l : List Nat} {f x y : Nat} (hf : kfirstB l = (f, 0)) (hx : l[0]? = some x) (hy : l[1]? = some y) : kgetB l = (x, y, (l.take f).drop 4, 0) := by
  unfold kgetB; rw [hf, if_pos rfl]
  match l, hx, hy with
  | u :: v :: t, hx, hy =>
    have e1 : u = x := by simpa using hx
    have e2 : v = y := by simpa using hy
    subst e1; subst e2
    rfl

/-- What the document's Get answers. -/
def KRGetO (l : List Nat) (w : World) (e : Ending) (w' : World) : Prop :=
  ∃ A' c' k, e = .returned (.tuple #[.int .u8 ((kgetB l).1 : Int), .int .u8 ((kgetB l).2.1 : Int), .slice A' k c', .int .i64 (kpadB l : Int), .int .i64 ((kgetB l).2.2.2 : Int)]) ∧ (kgetB l).2.2.1.length = k ∧ k ≤ c' ∧ Rd w' w'.heap.size A' (kgetB l).2.2.1 ∧ Below w.heap.size w w'
theorem krgetO_bad {l : List Nat} {w w' : World} {f e : Nat} (hf : kfirstB l = (f, e)) (he : ¬ e = 0) (hb : Below w.heap.size w w') : KRGetO l w (.returned (.tuple #[.int .u8 0, .int .u8 0, .slice none 0 0, .int .i64 0, .int .i64 (e : Int)])) w' := by
  unfold KRGetO
  have h2 : kpadB l = 0 := by rw [kpadB, hf, if_neg he]
  rw [kget_bad hf he, h2]
  exact ⟨none, 0, 0, rfl, rfl, Nat.le_refl _, Rd.nil, hb⟩
end

section
set_option maxRecDepth 4000
open Go.RowKit

theorem kfirst_put (x y : Nat) (l t : List Nat) : kfirstB (kputB x y l ++ t) = (l.length + 4, 0) := by
  have e : 256 * ((l.length + 4) / 256) + (l.length + 4) % 256 = l.length + 4 := by omega
  have h := kfirst_at (l := kputB x y l ++ t) (x := (l.length + 4) / 256) (y := (l.length + 4) % 256) (n := l.length + 4 + t.length) (by simp [kputB]) (by simp [kputB]) (by rw [List.length_append, kput_len])
  rw [h, e, if_neg (by omega), if_neg (by omega)]
/-- A packet is read as it was written, whatever stands behind it. -/
theorem kget_put (x y : Nat) (l t : List Nat) : kgetB (kputB x y l ++ t) = (x, y, l, 0) := by
  rw [kget_good (kfirst_put x y l t) (x := x) (y := y) (by simp [kputB]) (by simp [kputB])]
  have e : ((kputB x y l ++ t).take (l.length + 4)).drop 4 = l := by
    rw [List.take_append_of_le_length (by rw [kput_len]; exact Nat.le_refl _), List.take_of_length_le (by rw [kput_len]; exact Nat.le_refl _)]
    rfl
  rw [e]
theorem kpad_put (x y : Nat) (l t : List Nat) : kpadB (kputB x y l ++ t) = t.length := by
  rw [kpadB, kfirst_put, if_pos rfl, List.length_append, kput_len]; omega
/-- A packet that is cut off. -/
theorem kfirst_cut (x y : Nat) (l : List Nat) (k : Nat) (hk : k < l.length + 4) : kfirstB ((kputB x y l).take k) = (0, 2) := by
  have hl : ((kputB x y l).take k).length = k := by rw [List.length_take, kput_len]; omega
  rcases Nat.lt_or_ge k 4 with h4 | h4
  · exact kfirst_short (by omega)
  · have e : 256 * ((l.length + 4) / 256) + (l.length + 4) % 256 = l.length + 4 := by omega
    have h := kfirst_at (l := (kputB x y l).take k) (x := (l.length + 4) / 256) (y := (l.length + 4) % 256) (n := k) (by rw [List.getElem?_take_of_lt (by omega)]; rfl) (by rw [List.getElem?_take_of_lt (by omega)]; rfl) hl
    rw [h, e, if_neg (by omega), if_pos hk]
theorem kget_cut (x y : Nat) (l : List Nat) (k : Nat) (hk : k < l.length + 4) : kgetB ((kputB x y l).take k) = (0, 0, [], 2) := kget_bad (kfirst_cut x y l k hk) (by decide)
theorem kpad_cut (x y : Nat) (l : List Nat) (k : Nat) (hk : k < l.length + 4) : kpadB ((kputB x y l).take k) = 0 := by rw [kpadB, kfirst_cut x y l k hk, if_neg (by decide)]
theorem kget_no {l : List Nat} {x y e : Nat} {d : List Nat} (h : kgetB l = (x, y, d, e)) (he : ¬ e = 0) : x = 0 ∧ y = 0 ∧ d = [] ∧ kpadB l = 0 := by
  unfold kgetB at h
  split at h
  · injection h with _ h
    injection h with _ h
    injection h with _ h
    exact absurd h.symm he
  · rename_i h2
    injection h with h3 h
    injection h with h4 h
    injection h with h5 h
    exact ⟨h3.symm, h4.symm, h5.symm, by rw [kpadB, if_neg h2]⟩
/-- What octets begin with is what is written of it. -/
theorem kput_get {l : List Nat} (hb : By l) {x y : Nat} {d : List Nat} (h : kgetB l = (x, y, d, 0)) : x < 256 ∧ y < 256 ∧ d.length ≤ 65531 ∧ kpadB l ≤ l.length ∧ kputB x y d = l.take (l.length - kpadB l) := by
  by_cases h2 : (kfirstB l).2 = 0
  · obtain ⟨f1, f2, f3⟩ := kfirst_ok h2
    obtain ⟨f, hf⟩ : ∃ f, (kfirstB l).1 = f := ⟨_, rfl⟩
    have hf2 : kfirstB l = (f, 0) := by rw [← hf, ← h2]
    rw [hf] at f1 f2
    match l, hb, f3 with
    | a :: b :: p :: q :: t, hb, f3 =>
      have hp : p < 256 := hb p (by simp)
      have hq : q < 256 := hb q (by simp)
      have ha : a < 256 := hb a (by simp)
      have hb1 : b < 256 := hb b (by simp)
      have hg := kget_good hf2 (x := a) (y := b) rfl rfl
      rw [hg] at h
      injection h with h3 h
      injection h with h4 h
      injection h with h5 h
      have h6 := kfirst_at (l := a :: b :: p :: q :: t) (x := p) (y := q) rfl rfl rfl
      rw [hf2] at h6
      have hfe : f = 256 * p + q := by
        split at h6
        · injection h6 with _ h7; exact absurd h7 (by decide)
        · split at h6
          · injection h6 with _ h7; exact absurd h7 (by decide)
          · injection h6
      have hpad : kpadB (a :: b :: p :: q :: t) = (a :: b :: p :: q :: t).length - f := by rw [kpadB, hf2, if_pos rfl]
      rw [hpad]
      obtain ⟨g, hg2⟩ : ∃ g, f = g + 4 := ⟨f - 4, by omega⟩
      have hd : d = t.take g := by rw [← h5, hg2]; rfl
      have hlen : (a :: b :: p :: q :: t).length = t.length + 4 := rfl
      rw [hlen] at f2 ⊢
      have hdl : d.length = g := by rw [hd, List.length_take]; omega
      refine ⟨by omega, by omega, by omega, by omega, ?_⟩
      have e1 : (d.length + 4) / 256 = p := by omega
      have e2 : (d.length + 4) % 256 = q := by omega
      have e3 : t.length + 4 - (t.length + 4 - f) = g + 4 := by omega
      unfold kputB
      rw [e1, e2, e3, hd, ← h3, ← h4]
      rfl
  · have := kget_bad (l := l) (f := (kfirstB l).1) (e := (kfirstB l).2) rfl h2
    rw [this] at h
    injection h with _ h
    injection h with _ h
    injection h with _ h
    exact absurd h h2

theorem kget_bytes {l : List Nat} (hb : By l) {x y e : Nat} {d : List Nat} (h : kgetB l = (x, y, d, e)) : By d ∧ d.length ≤ l.length := by
  unfold kgetB at h
  split at h
  · injection h with _ h
    injection h with _ h
    injection h with h _
    rw [← h]
    refine ⟨(hb.take _).drop _, ?_⟩
    rw [List.length_drop, List.length_take]; omega
  · injection h with _ h
    injection h with _ h
    injection h with h _
    rw [← h]
    exact ⟨By.nil, Nat.zero_le _⟩
theorem kerrP_ok {l : List Nat} (h : l.length ≤ 65531) : kerrP l = 0 := by unfold kerrP; rw [if_pos h]
theorem kputA_ok (x y : Nat) {l : List Nat} (h : l.length ≤ 65531) : kputA x y l = kputB x y l := by unfold kputA; rw [if_pos h]

theorem cput_v (x y : Nat) (l : List Nat) (q : Nat) (hq : kerrP l = q) (m : List Nat) (hm : kputA x y l = m) (k : Nat) (hk : m.length = k) (n c : Nat) (A : Option Addr) (w : World) (h : Rd w w.heap.size A l) (hl : l.length = n) :
    Calls Try.prog 67 #[.int .u8 (x : Int), .int .u8 (y : Int), .slice A n c] w fun e w' => ∃ A' c', e = .returned (.tuple #[.slice A' k c', .int .i64 (q : Int)]) ∧ Rd w' w'.heap.size A' m ∧ k ≤ c' ∧ Below w.heap.size w w' :=
  (cput_any x y l n c A w h hl).mono fun _ _ ⟨A', c', k', h1, h2⟩ => by
    rw [hq] at h1
    rw [hm] at h2
    obtain rfl : k = k' := by rw [← hk, h2.1]
    exact ⟨A', c', h1, h2.2.2.1, own_cap h2.2.1, h2.2.2.2⟩
theorem kput_nine (w : World) : Calls Try.prog 67 #[.int .u8 9, .int .u8 1, .slice none 0 0] w fun e w' => ∃ A' c', e = .returned (.tuple #[.slice A' 4 c', .int .i64 0]) ∧ Rd w' w'.heap.size A' [9, 1, 0, 4] ∧ 4 ≤ c' ∧ Below w.heap.size w w' :=
  cput_v 9 1 [] 0 rfl [9, 1, 0, 4] rfl 4 rfl 0 0 none w Rd.nil rfl
end

section
set_option maxRecDepth 4000
open Go.RowKit

/-- What Get answers: data in blocks of its own. -/
def KGetN (l : List Nat) (w : World) (e : Ending) (w' : World) : Prop :=
  ∃ A' c' k, e = .returned (.tuple #[.int .u8 ((kgetB l).1 : Int), .int .u8 ((kgetB l).2.1 : Int), .slice A' k c', .int .i64 ((kgetB l).2.2.2 : Int)]) ∧ (kgetB l).2.2.1.length = k ∧ k ≤ c' ∧ RdF (fun b => w.heap.size ≤ b) w' A' (kgetB l).2.2.1 ∧ Below w.heap.size w w'
end

section
set_option maxRecDepth 4000
open Go.RowKit

/-- What the document's Get answers. -/
def KRGetF (F : Nat → Prop) (l : List Nat) (w : World) (e : Ending) (w' : World) : Prop :=
  ∃ A' c' k, e = .returned (.tuple #[.int .u8 ((kgetB l).1 : Int), .int .u8 ((kgetB l).2.1 : Int), .slice A' k c', .int .i64 (kpadB l : Int), .int .i64 ((kgetB l).2.2.2 : Int)]) ∧ (kgetB l).2.2.1.length = k ∧ k ≤ c' ∧ RdF F w' A' (kgetB l).2.2.1 ∧ Below w.heap.size w w'
theorem krgetF_bad {F : Nat → Prop} {l : List Nat} {w w' : World} {f e : Nat} (hf : kfirstB l = (f, e)) (he : ¬ e = 0) (hb : Below w.heap.size w w') : KRGetF F l w (.returned (.tuple #[.int .u8 0, .int .u8 0, .slice none 0 0, .int .i64 0, .int .i64 (e : Int)])) w' := by
  unfold KRGetF
  have h2 : kpadB l = 0 := by rw [kpadB, hf, if_neg he]
  rw [kget_bad hf he, h2]
  exact ⟨none, 0, 0, rfl, rfl, Nat.le_refl _, RdF.nil, hb⟩
end
end Go.Proofs.Ytmhjnghomihjlaa
