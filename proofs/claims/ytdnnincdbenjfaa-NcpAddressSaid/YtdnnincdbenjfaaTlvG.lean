
/-
  What Get answers, the program's and the document's. No condition beyond: at most 2^30 octets.
-/
import Derived.Test.YtdnnincdbenjfaaTlvU
import Derived.Test.YtdnnincdbenjfaaCln
namespace Go.Proofs.Ytdnnincdbenjfaa
open Go.RowKit

theorem opt_info : (Try.prog.info? 57).map (fun i => (i.zero, i.size, i.bytes)) = some (some (.agg #[.int .u8 0, .slice none 0 0]), 2, 32) := by kernel_rfl
theorem ropt_info : (Try.prog.info? 77).map (fun i => (i.zero, i.size, i.bytes)) = some (some (.agg #[.int .u8 0, .slice none 0 0]), 2, 32) := by kernel_rfl

theorem Rd.cutAt {w : World} {B b o : Nat} {l : List Nat} (h : Rd w B (some ⟨b, o, none⟩) l) {f c : Nat} (hc : l.length ≤ c) : Rd w B (if c = f then some ⟨b, o, none⟩ else some ⟨b, o + f, none⟩) (l.drop f) := by
  intro hl
  rw [List.length_drop] at hl
  rw [if_neg (by omega)]
  obtain ⟨b', off, e, hb, hcell⟩ := h (by omega)
  injection e with e
  injection e with e1 e2
  subst e1; subst e2
  exact ⟨b, o + f, rfl, hb, fun k x hx => by rw [Nat.add_assoc]; exact hcell (f + k) x (by rw [← List.getElem?_drop]; exact hx)⟩

/-- The length of a slice. -/
def lenV : Value → Nat
  | .slice _ n _ => n
  | _ => 0

/-- What the row of options so far is: of the call's own, with data in blocks of F. -/
structure GC (T : TypeId) (F : Nat → Prop) (w W : World) (a0 : Addr) (x0 : Nat) (v : Value) (acc : List (Nat × List Nat)) : Prop where
  own : Orw shO T F w.heap.size W v acc
  bel : Below w.heap.size w W
  lt0 : a0.block < w.heap.size
  f0 : w.cell? a0 = some (.int .u8 (x0 : Int))
section
variable {T : TypeId} {F : Nat → Prop} {w W X W' : World} {a0 : Addr} {x0 : Nat} {v v' : Value} {acc acc' : List (Nat × List Nat)}
theorem GC.cell (h : GC T F w W a0 x0 v acc) : W.cell? a0 = some (.int .u8 (x0 : Int)) := (h.bel.cell h.lt0).trans h.f0
theorem GC.step (h : GC T F w W a0 x0 v acc) (hb : Below X.heap.size X W') (hX : Below W.heap.size W X := by first | exact Below.refl _ _ | exact (Below.refl _ _).drew) : GC T F w W' a0 x0 v acc := by
  have hb' : Below W.heap.size W W' := hX.trans (hb.mono hX.size)
  exact ⟨h.own.below hb', h.bel.trans (hb'.mono h.bel.size), h.lt0, h.f0⟩
theorem GC.drew (h : GC T F w W a0 x0 v acc) : GC T F w W.drew a0 x0 v acc := h.step (X := W) (Below.refl _ _).drew
theorem GC.far (h : GC T F w W a0 x0 v acc) : ∀ b, W.heap.size ≤ b → w.heap.size ≤ b ∧ v.ownBlock ≠ some b := fun _ hb => ⟨Nat.le_trans h.bel.size hb, fun e => Nat.lt_irrefl _ (Nat.lt_of_lt_of_le (h.own.lt e).2 hb)⟩
theorem GC.al (h : GC T F w W a0 x0 v acc) (o : Obj) : GC T F w (W.alloc o) a0 x0 v acc := h.step (X := W) ((Below.refl _ _).alloc (Nat.le_refl _) o)
theorem GC.push (h : GC T F w W a0 x0 v acc) (ho : Orw shO T F w.heap.size W' v' acc') (hg : W.grownBy W' v.ownBlock) : GC T F w W' a0 x0 v' acc' :=
  ⟨ho, h.bel.grown hg h.bel.size (fun _ hk => (h.own.lt hk).1), h.lt0, h.f0⟩
end

/-- What Get answers: a row of its own. -/
def GetO (T : TypeId) (F : Nat → Prop) (b : List Nat) (w : World) (e : Ending) (w' : World) : Prop :=
  ∃ v, e = .returned (.tuple #[v, .int .i64 ((getB b).2 : Int)]) ∧ Orw shO T F w.heap.size w' v (getB b).1 ∧ Below w.heap.size w w'

theorem getO_bad {T : TypeId} {F : Nat → Prop} {b r : List Nat} {acc : List (Nat × List Nat)} {w w' : World} (hg : getB b = addB acc (getB r)) (hr : r ≠ []) (hs : (stepB r).2 ≠ 0) (hb : Below w.heap.size w w') :
    GetO T F b w (.returned (.tuple #[.slice none 0 0, .int .i64 ((stepB r).2 : Int)])) w' := by
  have e : getB b = ([], (stepB r).2) := by
    rw [hg, get_bad hr hs]
    unfold addB
    rw [if_neg hs]
  exact ⟨_, by rw [e], by rw [e]; exact Orw.nil _ _ _ _ _, hb⟩
theorem getO_end {T : TypeId} {F : Nat → Prop} {b : List Nat} {acc : List (Nat × List Nat)} {v : Value} {w w' : World} (hg : getB b = addB acc (getB [])) (ho : Orw shO T F w.heap.size w' v acc) (hb : Below w.heap.size w w') :
    GetO T F b w (.returned (.tuple #[v, .int .i64 0])) w' := by
  have e : getB b = (acc, 0) := by
    rw [hg, get_nil]
    unfold addB
    rw [if_pos rfl, List.append_nil]
  exact ⟨_, by rw [e]; rfl, by rw [e]; exact ho, hb⟩

set_option maxHeartbeats 2000000 in
theorem oget_any (b : List Nat) (n c : Nat) (A : Option Addr) (w : World) (h : Rd w w.heap.size A b) (hb : By b) (hl : b.length = n) (hn : n ≤ 1073741824) (hc : n ≤ c) :
    Calls Try.prog 47 #[.slice A n c] w (GetO 57 (fun g => w.heap.size ≤ g) b w) := by
  obtain ⟨i0, hi, hz0, hz1, hz2⟩ := info_parts opt_info
  have H := Lib.hid h
  have HB := Lib.hid hb
  have HL := Lib.hid hl
  clear h hb hl
  go_enter Try.func47, Try.ntmps47
  go_wp2_with fail
  go_loopw [0, 4] (fun s v wr => ∃ (r : List Nat) (q cr : Nat) (Ar : Option Addr) (acc : List (Nat × List Nat)), s = .slice Ar q cr ∧ Hid (r.length = q) ∧ q ≤ cr ∧ Hid (Rd w w.heap.size Ar r) ∧ Hid (By r) ∧ 2 * acc.length + q ≤ n ∧ Hid (getB b = addB acc (getB r)) ∧ Orw shO 57 (fun g => w.heap.size ≤ g) w.heap.size wr v acc ∧ Below w.heap.size w wr) (fun s _ _ => lenV s)
  case atStart => exact ⟨b, n, c, A, [], rfl, HL, hc, H, HB, by simp, Lib.hid (add_nil _ (get_err b)).symm, Orw.nil _ _ _ _ _, Below.refl _ _⟩
  case round =>
    obtain ⟨r, q, cr, Ar, acc, rfl, hq, hqc, hr, hby, hacc, hg, hown, hbel⟩ := hrel
    by_cases hq0 : 0 < q
    · have HNE := Lib.hid (show r ≠ [] from fun e => by have := hq.out; rw [e] at this; simp at this; omega)
      have j1 : (0 : Int) < (q : Int) := by omega
      obtain ⟨e, he⟩ : ∃ e, Hid ((stepB r).1 = e) := ⟨_, Lib.hid rfl⟩
      obtain ⟨k, hk⟩ : ∃ k, Hid ((stepB r).2 = k) := ⟨_, Lib.hid rfl⟩
      by_cases hk0 : k = 0
      · subst hk0
        have h2 := step_ok hk.out
        rw [he.out, hq.out] at h2
        obtain ⟨h2a, h2b, -⟩ := h2
        obtain ⟨bb, oo, x0, rfl, hbb, hx0, hcx⟩ := hr.out.at_ (k := 0) (by rw [hq.out]; exact hq0)
        have C := Lib.hid (show GC 57 (fun g => w.heap.size ≤ g) w wr ⟨bb, oo, none⟩ x0 _ acc from ⟨hown, hbel, hbb, hcx⟩)
        have HX0 := Lib.hid (show r.headD 0 = x0 by cases r <;> simp_all)
        have f0 := C.out.cell
        clear hown hcx hx0
        go_wp2_with (go_at_call 56; (with_reducible refine (ofirst_any r q cr _ _ (hr.out.on hbel) hby.out hq.out (by omega) hq0).mono ?_); rintro e' w' ⟨rfl, rfl⟩; rw [he.out, hk.out])
        have hcl := Lib.hid (show Rd w w.heap.size (if cr = 2 then some ⟨bb, oo, none⟩ else some ⟨bb, oo + 2, none⟩) ((r.take e).drop 2) from (hr.out.take e).cutAt (by rw [List.length_take, hq.out]; omega))
        have hcl2 := Lib.hid (show ((r.take e).drop 2).length = e - 2 by rw [List.length_drop, List.length_take, hq.out]; omega)
        have j2 : (2 : Int) ≤ (e : Int) := by omega
        have j3 : (e : Int) ≤ (cr : Int) := by omega
        have j4 : (e : Int) ≤ (q : Int) := by omega
        have j5 : IntKind.i64.wrap (e : Int) = (e : Int) := IntWalk.i64_in _ (by omega)
        go_region_held3 (fun W => W.cell? ⟨bb, oo, none⟩ = some (.int .u8 (x0 : Int))) (first | exact C.out.cell | exact (C.out.al _).cell) (first
          | (go_at_call 46; (with_reducible refine (clone_any ((r.take e).drop 2) (e - 2) _ _ _ (hcl.out.below C.out.drew.bel |>.more C.out.drew.bel.size) hcl2.out (by omega)).mono ?_); rintro e' w5 ⟨A5, c5, rfl, HN⟩; have HF := Lib.hid ((RdF.own HN.2.1).mono (fun g _ hg => C.out.drew.far g hg)); have hcap := own_cap HN.2.1; have HL5 := Lib.hid HN.1; replace C := Lib.hid (C.out.drew.step HN.2.2.2); clear HN; dsimp only)
          | ((refine step_rows shO _ (by rfl) _ _ _ (by rfl) 57 i0 (.agg #[.int .u8 0, .slice none 0 0]) 32 Try.underlying34 hi hz0 hz1 hz2 rfl (by decide) (fun g => w.heap.size ≤ g) _ w.heap.size _ _ acc (by rfl) (C.out.al _).own rfl _ 1 1 _ (by rfl) (lito _ HL5.out hcap HF.out).read rfl (fun b _ hb => hb.elim id (C.out.far b)) (by unfold maxLen; omega) (by omega) (C.out.al _).bel.size ?_); intro v7 w7 ho7 hg7 hm7; replace C := Lib.hid ((C.out.al _).push ho7 hg7); clear ho7 hg7 hm7; dsimp only))
        clear f0 hcl
        generalize (if cr = 2 then some (⟨bb, oo, none⟩ : Addr) else some ⟨bb, oo + 2, none⟩) = A'
        have HQ2 := Lib.hid (show (r.drop e).length = q - e by rw [List.length_drop, hq.out])
        have HB2 := Lib.hid (hby.out.drop e)
        have HG2 := Lib.hid (show getB b = addB (acc ++ [(x0, (r.take e).drop 2)]) (getB (r.drop e)) by rw [hg.out, get_ok hk.out, he.out, HX0.out, add_add])
        have hacc2 : 2 * (acc ++ [(x0, (r.take e).drop 2)]).length + (q - e) ≤ n := by rw [List.length_append]; simp; omega
        have HR2 := hr.out.cutAt (f := e) (c := cr) (by rw [hq.out]; exact hqc)
        by_cases hce : cr = e
        · rw [if_pos hce] at HR2
          have HR3 := Lib.hid HR2
          clear HR2
          go_wp2_with fail
          go_roundw
          case rel => exact ⟨r.drop e, q - e, 0, _, _, rfl, HQ2, by omega, HR3, HB2, hacc2, HG2, C.out.own, C.out.bel⟩
          case measure => simp [lenV]; omega
        · rw [if_neg hce] at HR2
          have HR3 := Lib.hid HR2
          clear HR2
          go_wp2_with fail
          go_roundw
          case rel => exact ⟨r.drop e, q - e, cr - e, _, _, rfl, HQ2, by omega, HR3, HB2, hacc2, HG2, C.out.own, C.out.bel⟩
          case measure => simp [lenV]; omega
      · have hk1 : ((k : Int) != 0) = true := by rw [bne_iff_ne]; omega
        have G := Lib.hid (show ∀ w' : World, Below w.heap.size w w' → GetO 57 (fun g => w.heap.size ≤ g) b w (.returned (.tuple #[.slice none 0 0, .int .i64 (k : Int)])) w' from fun w' hb' => by rw [← hk.out]; exact getO_bad hg.out HNE.out (by rw [hk.out]; exact hk0) hb')
        clear hk0
        go_wp2_with (go_at_call 56; (with_reducible refine (ofirst_any r q cr _ _ (hr.out.on hbel) hby.out hq.out (by omega) hq0).mono ?_); rintro e' w' ⟨rfl, rfl⟩; rw [he.out, hk.out])
        go_ret2
        exact G.out _ hbel
    · have hr0 : r = [] := List.eq_nil_of_length_eq_zero (by rw [hq.out]; omega)
      subst hr0
      have j1 : ¬ (0 : Int) < (q : Int) := by omega
      go_wp2_with fail
      go_ret2
      exact getO_end hg.out hown hbel

theorem step_one {r : List Nat} (h : r.length = 1) : stepB r = (0, 2) := by
  match r, h with
  | [_], _ => rfl
theorem step_two {r : List Nat} {y n : Nat} (h : r[1]? = some y) (hn : r.length = n) : stepB r = if y < 2 then (0, 4) else if n < y then (0, 2) else (y, 0) := by
  subst hn
  match r, h with
  | _ :: z :: t, h =>
    have e : z = y := by simpa using h
    subst e
    rfl
theorem cut_eq (b : List Nat) (k e k2 z : Nat) (h2 : k + 2 = k2) (hz : e - 2 = z) : ((b.drop k).take e).drop 2 = (b.drop k2).take z := by
  subst h2; subst hz
  rw [List.drop_take, List.drop_drop]

set_option maxHeartbeats 2000000 in
theorem orget_any (b : List Nat) (n c : Nat) (A : Option Addr) (w : World) (h : Rd w w.heap.size A b) (hb : By b) (hl : b.length = n) (hn : n ≤ 1073741824) (hc : n ≤ c) :
    Calls Try.prog 48 #[.slice A n c] w (GetO 77 (fun _ => True) b w) := by
  obtain ⟨i0, hi, hz0, hz1, hz2⟩ := info_parts ropt_info
  have H := Lib.hid h
  have HB := Lib.hid hb
  have HL := Lib.hid hl
  clear h hb hl
  go_enter Try.func48, Try.ntmps48
  go_wp2_with fail
  go_loopw [4, 5] (fun v i wr => ∃ (k : Nat) (acc : List (Nat × List Nat)), i = .int .i64 k ∧ k ≤ n ∧ 2 * acc.length ≤ k ∧ Hid (getB b = addB acc (getB (b.drop k))) ∧ Orw shO 77 (fun _ => True) w.heap.size wr v acc ∧ Below w.heap.size w wr) (fun _ i _ => n - (intOf i).toNat)
  case atStart => exact ⟨0, [], rfl, Nat.zero_le _, Nat.le_refl _, Lib.hid (add_nil _ (get_err b)).symm, Orw.lit w [] rfl (fun k x cs hx => by simp at hx) (by simp), (Below.refl _ _).alloc (Nat.le_refl _) _⟩
  case round =>
    obtain ⟨k, acc, rfl, hkn, hacc, hg, hown, hbel⟩ := hrel
    by_cases hlt : k < n
    · have HNE := Lib.hid (show b.drop k ≠ [] from fun e => by have h1 := congrArg List.length e; rw [List.length_drop, HL.out] at h1; simp at h1; omega)
      have HD := Lib.hid (show (b.drop k).length = n - k by rw [List.length_drop, HL.out])
      obtain ⟨bb, oo, x0, rfl, hbb, hx0, hcx⟩ := H.out.at_ (k := k) (by rw [HL.out]; exact hlt)
      have HX0 := Lib.hid (show (b.drop k).headD 0 = x0 by rw [List.headD_eq_head?_getD, List.head?_drop, hx0]; rfl)
      have i1 : (0 : Int) ≤ k := by omega
      have i2 : (k : Int) < n := by omega
      clear hx0
      by_cases h1 : k + 1 < n
      · obtain ⟨bb', oo', e, e1, -, he, hce⟩ := H.out.at_ (k := k + 1) (by rw [HL.out]; exact h1)
        injection e1 with e1
        injection e1 with e1 e2
        subst e1; subst e2
        have HE := Lib.hid (show (b.drop k)[1]? = some e by rw [List.getElem?_drop]; exact he)
        have he256 := HB.out.get he
        have HS := Lib.hid (step_two HE.out HD.out)
        obtain ⟨k1, hk1⟩ : ∃ k1, k + 1 = k1 := ⟨_, rfl⟩
        have hce' := (hbel.cell (p := ⟨bb, oo + (k + 1), none⟩) hbb).trans hce
        rw [hk1] at hce'
        have i3 : (k : Int) + 1 = (k1 : Int) := by omega
        have i4 : IntKind.i64.wrap (k1 : Int) = (k1 : Int) := IntWalk.i64_in _ (by omega)
        have i5 : ¬ (n : Int) ≤ (k1 : Int) := by omega
        have i6 : (k1 : Int) < (n : Int) := by omega
        have i7 : (0 : Int) ≤ (k1 : Int) := by omega
        clear he hce
        by_cases h2 : e < 2
        · have j1 : (e : Int) < 2 := by omega
          have G := Lib.hid (show ∀ w' : World, Below w.heap.size w w' → GetO 77 (fun _ => True) b w (.returned (.tuple #[.slice none 0 0, .int .i64 (4 : Int)])) w' from fun w' hb' => by
            have hs : stepB (b.drop k) = (0, 4) := by rw [HS.out, if_pos h2]
            have := getO_bad (T := 77) (F := fun _ => True) hg.out HNE.out (by rw [hs]; decide) hb'
            rw [hs] at this
            exact this)
          clear h2
          go_wp2_with fail
          go_ret2
          exact G.out _ hbel
        · have j1 : ¬ (e : Int) < 2 := by omega
          obtain ⟨k3, hk3⟩ : ∃ k3, k + e = k3 := ⟨_, rfl⟩
          have i8 : (k : Int) + (e : Int) = (k3 : Int) := by omega
          have i9 : IntKind.i64.wrap (k3 : Int) = (k3 : Int) := IntWalk.i64_in _ (by omega)
          by_cases h3 : n < k3
          · have j2 : (n : Int) < (k3 : Int) := by omega
            have G := Lib.hid (show ∀ w' : World, Below w.heap.size w w' → GetO 77 (fun _ => True) b w (.returned (.tuple #[.slice none 0 0, .int .i64 (2 : Int)])) w' from fun w' hb' => by
              have hs : stepB (b.drop k) = (0, 2) := by rw [HS.out, if_neg h2, if_pos (by omega)]
              have := getO_bad (T := 77) (F := fun _ => True) hg.out HNE.out (by rw [hs]; decide) hb'
              rw [hs] at this
              exact this)
            clear h2 h3
            go_wp2_with fail
            go_ret2
            exact G.out _ hbel
          · have j2 : ¬ (n : Int) < (k3 : Int) := by omega
            have hs : stepB (b.drop k) = (e, 0) := by rw [HS.out, if_neg h2, if_neg (by omega)]
            obtain ⟨k2, hk2⟩ : ∃ k2, k + 2 = k2 := ⟨_, rfl⟩
            have j3 : (k : Int) + 2 = (k2 : Int) := by omega
            have j4 : IntKind.i64.wrap (k2 : Int) = (k2 : Int) := IntWalk.i64_in _ (by omega)
            have j5 : (0 : Int) ≤ (k2 : Int) := by omega
            have j6 : (k2 : Int) ≤ (k3 : Int) := by omega
            have j7 : (k3 : Int) ≤ (c : Int) := by omega
            have hk32 : k3 - k2 = e - 2 := by omega
            have HC := Lib.hid (cut_eq b k e k2 (e - 2) hk2 rfl)
            have HG2 := Lib.hid (show getB b = addB (acc ++ [(x0, ((b.drop k).take e).drop 2)]) (getB (b.drop k3)) by rw [hg.out, get_ok (by rw [hs]), hs, HX0.out, add_add, List.drop_drop, hk3])
            have HRD := Lib.hid (show Rd w w.heap.size (if c = k2 then some ⟨bb, oo, none⟩ else some ⟨bb, oo + k2, none⟩) (((b.drop k).take e).drop 2) by rw [HC.out]; exact (H.out.cutAt (by rw [HL.out]; exact hc)).take _)
            have HLN := Lib.hid (show (((b.drop k).take e).drop 2).length = e - 2 by rw [HC.out, List.length_take, List.length_drop, HL.out]; omega)
            have C := Lib.hid (show GC 77 (fun _ => True) w wr ⟨bb, oo + k, none⟩ x0 _ acc from ⟨hown, hbel, hbb, hcx⟩)
            have f0 := C.out.cell
            have hacc2 : 2 * (acc ++ [(x0, ((b.drop k).take e).drop 2)]).length ≤ k3 := by rw [List.length_append]; simp; omega
            clear hown hcx hs
            go_wp2_with fail
            go_region_held3 (fun W => W.cell? ⟨bb, oo + k, none⟩ = some (.int .u8 (x0 : Int))) (first | exact C.out.cell | exact (C.out.drew.al _).cell) (first
              | ((refine step_rows shO _ (by rfl) _ _ _ (by rfl) 77 i0 (.agg #[.int .u8 0, .slice none 0 0]) 32 Try.underlying23 hi hz0 hz1 hz2 rfl (by decide) (fun _ => True) _ w.heap.size _ _ acc (by rfl) (C.out.drew.al _).own rfl _ 1 1 _ (by rfl) (lito _ HLN.out (by omega) ((HRD.out.below C.out.drew.bel).rdF (F := fun g => g < w.heap.size) (fun b hb => hb) C.out.drew.bel.size)).read rfl (fun b _ hb => ⟨trivial, hb.elim (fun h e => absurd (C.out.own.lt e).1 (Nat.not_le.2 h)) (fun h => (C.out.drew.far b h).2)⟩) (by unfold maxLen; omega) (by omega) (C.out.drew.al _).bel.size ?_); intro v7 w7 ho7 hg7 hm7; replace C := Lib.hid ((C.out.drew.al _).push ho7 hg7); clear ho7 hg7 hm7; dsimp only))
            clear f0 HRD
            generalize (if c = k2 then some (⟨bb, oo, none⟩ : Addr) else some ⟨bb, oo + k2, none⟩) = A'
            go_wp2_with fail
            go_roundw
            case rel => exact ⟨k3, _, rfl, by omega, hacc2, HG2, C.out.own, C.out.bel⟩
            case measure => simp [intOf]; omega
      · have h2 : n = k + 1 := by omega
        have i3 : (k : Int) + 1 = (n : Int) := by omega
        have i4 : IntKind.i64.wrap (n : Int) = (n : Int) := IntWalk.i64_in _ (by omega)
        have G := Lib.hid (show ∀ w' : World, Below w.heap.size w w' → GetO 77 (fun _ => True) b w (.returned (.tuple #[.slice none 0 0, .int .i64 (2 : Int)])) w' from fun w' hb' => by
          have hs : stepB (b.drop k) = (0, 2) := step_one (by rw [HD.out]; omega)
          have := getO_bad (T := 77) (F := fun _ => True) hg.out HNE.out (by rw [hs]; decide) hb'
          rw [hs] at this
          exact this)
        clear h2 h1
        go_wp2_with fail
        go_ret2
        exact G.out _ hbel
    · have hr0 : b.drop k = [] := List.eq_nil_of_length_eq_zero (by rw [List.length_drop, HL.out]; omega)
      have HG0 := Lib.hid (show getB b = addB acc (getB []) by rw [hg.out, hr0])
      clear hr0
      go_wp2_with fail
      go_ret2
      exact getO_end HG0.out hown hbel
end Go.Proofs.Ytdnnincdbenjfaa
