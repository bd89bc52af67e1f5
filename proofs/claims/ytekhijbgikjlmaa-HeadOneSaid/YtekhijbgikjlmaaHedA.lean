
/-
  All headers of a protocol: what the calls of layer 10 and the document's own answer. No condition beyond: numbers below 2^16.
-/
import Derived.Test.YtekhijbgikjlmaaHedG
namespace Go.Proofs.Ytekhijbgikjlmaa
open Go.RowKit

/-- A protocol's headers that are led, or aren't. -/
def numB (c : Cf) (p : Nat) (led : Bool) : List (List Nat) := if (c.pfc && decide (p < 256)) = true then [wrB p led true, wrB p led false] else [wrB p led false]
/-- All headers of a protocol. -/
def allB (c : Cf) (p : Nat) : List (List Nat) := (if c.acfc = true then numB c p false else []) ++ numB c p true
theorem rows_info : (Try.prog.info? 26).map (fun i => (i.zero, i.size, i.bytes)) = some (some (.slice none 0 0), 1, 24) := by kernel_rfl

theorem lit1 {F : Nat → Prop} (w : World) {A : Option Addr} {n c : Nat} {l : List Nat} (hl : l.length = n) (hc : n ≤ c) (h : RdF F w A l) :
    Orw shB 26 F w.heap.size (w.alloc (.cells #[.slice A n c] 26)) (.slice (some ⟨w.heap.size, 0, none⟩) 1 1) [l] := by
  subst hl
  refine Orw.lit w [[.slice A l.length c]] rfl (fun k x cs hx hk => ?_) (by simp)
  rcases k with _ | k
  · injection hx with hx
    injection hk with hk
    subst hx; subst hk
    exact ⟨A, c, rfl, hc, h⟩
  · simp at hx
theorem lit2 {F : Nat → Prop} (w : World) {A A2 : Option Addr} {n c n2 c2 : Nat} {l l2 : List Nat} (hl : l.length = n) (hc : n ≤ c) (h : RdF F w A l) (hl2 : l2.length = n2) (hc2 : n2 ≤ c2) (h2 : RdF F w A2 l2) :
    Orw shB 26 F w.heap.size (w.alloc (.cells #[.slice A n c, .slice A2 n2 c2] 26)) (.slice (some ⟨w.heap.size, 0, none⟩) 2 2) [l, l2] := by
  subst hl; subst hl2
  refine Orw.lit w [[.slice A l.length c], [.slice A2 l2.length c2]] rfl (fun k x cs hx hk => ?_) (by simp)
  rcases k with _ | _ | k
  · injection hx with hx
    injection hk with hk
    subst hx; subst hk
    exact ⟨A, c, rfl, hc, h⟩
  · injection hx with hx
    injection hk with hk
    subst hx; subst hk
    exact ⟨A2, c2, rfl, hc2, h2⟩
  · simp at hx

set_option maxHeartbeats 1000000 in
theorem numbered_any (c : Cf) (p : Nat) (hp : p < 65536) (led : Bool) (w : World) :
    Calls Try.prog 21 #[c.val, .int .u16 (p : Int), .bool led] w fun e w' => ∃ A n cp, e = .returned (.slice A n cp) ∧ Rws shB (fun b => w.heap.size ≤ b) w' A (numB c p led) ∧ (numB c p led).length = n ∧ Below w.heap.size w w' := by
  obtain ⟨sy, wi, ac, pf, se, re, mr⟩ := c
  have hX : Bx (w.alloc (Cf.obj ⟨sy, wi, ac, pf, se, re, mr⟩ 28)) w.heap.size 28 ⟨sy, wi, ac, pf, se, re, mr⟩ := heap_alloc_new _ _
  have hB := Lib.hid ((Below.refl w.heap.size w).alloc (Nat.le_refl _) (Cf.obj ⟨sy, wi, ac, pf, se, re, mr⟩ 28))
  have HX := Lib.hid hX
  clear hX
  obtain ⟨q, hq⟩ : ∃ q, Hid (decide (p < 256) = q) := ⟨_, Lib.hid rfl⟩
  have E := Lib.hid (show numB ⟨sy, wi, ac, pf, se, re, mr⟩ p led = if (pf && q) = true then [wrB p led true, wrB p led false] else [wrB p led false] by rw [numB, hq.out])
  rw [E.out]
  clear E
  cases pf <;> cases q
  all_goals
    go_enter Try.func21, Try.ntmps21
    go_wp2_with (first
      | (go_at_call 18; first
          | ((with_reducible refine (write_any p hp led false _).mono ?_); rintro e w3 ⟨A3, n3, rfl, hl3, hr3, hb3⟩; have hB3 := hB.out.trans (hb3.mono hB.out.size); have hf := get_cell (HX.out.below hb3); obtain ⟨-, hf2⟩ := hf; replace hr3 := Lib.hid (hr3.mono (G := fun b => w.heap.size ≤ b) fun b _ hb => Nat.le_trans hB.out.size hb); clear hb3; have HL3 := Lib.hid hl3; clear hl3)
          | ((with_reducible refine (write_any p hp led true _).mono ?_); rintro e w4 ⟨A4, n4, rfl, hl4, hr4, hb4⟩; have hB4 := hB3.trans (hb4.mono hB3.size); replace hr3 := Lib.hid (hr3.out.keep (.of_below hb4)); replace hr4 := Lib.hid (hr4.mono (G := fun b => w.heap.size ≤ b) fun b _ hb => Nat.le_trans hB3.size hb); clear hb4; have HL4 := Lib.hid hl4; clear hl4))
      | (go_at_call 26; (with_reducible refine (short_v p _ hp hq.out _).mono ?_); rintro e w' ⟨rfl, rfl⟩))
    go_ret
    first
      | (have R := (lit2 _ HL4.out (Nat.le_refl _) hr4.out HL3.out (Nat.le_refl _) hr3.out).read.mono (G := fun b => w.heap.size ≤ b) (fun b _ hb => hb.elim id (Nat.le_trans hB4.size)); exact ⟨_, _, ⟨_, rfl⟩, R, rfl, hB4.alloc hB4.size _⟩)
      | (have R := (lit1 _ HL3.out (Nat.le_refl _) hr3.out).read.mono (G := fun b => w.heap.size ≤ b) (fun b _ hb => hb.elim id (Nat.le_trans hB3.size)); exact ⟨_, _, ⟨_, rfl⟩, R, rfl, hB3.alloc hB3.size _⟩)
theorem numB_len (c : Cf) (p : Nat) (led : Bool) : 1 ≤ (numB c p led).length ∧ (numB c p led).length ≤ 2 := by unfold numB; split <;> simp
theorem allB_len (c : Cf) (p : Nat) : 1 ≤ (allB c p).length ∧ (allB c p).length ≤ 4 := by
  have := numB_len c p true
  have := numB_len c p false
  unfold allB
  split <;> simp <;> omega
theorem cfull {w : World} {b : Nat} {t : TypeId} {c : Cf} (h : Bx w b t c) : w.cell? ⟨b, 0, none⟩ = some (.bool c.sync) ∧ w.cell? ⟨b, 1, none⟩ = some (.bool c.wide) ∧ w.cell? ⟨b, 2, none⟩ = some (.bool c.acfc) ∧ w.cell? ⟨b, 3, none⟩ = some (.bool c.pfc) ∧ w.cell? ⟨b, 4, none⟩ = some (.int .u32 (c.send : Int)) ∧ w.cell? ⟨b, 5, none⟩ = some (.int .u32 (c.recv : Int)) ∧ w.cell? ⟨b, 6, none⟩ = some (.int .i64 c.mru) := h.all

set_option maxHeartbeats 1000000 in
theorem hall_any (c : Cf) (p : Nat) (hp : p < 65536) (hR : rightB p = true) (w : World) :
    Calls Try.prog 13 #[c.val, .int .u16 (p : Int)] w fun e w' => ∃ A n cp, e = .returned (.slice A n cp) ∧ Rws shB (fun b => w.heap.size ≤ b) w' A (allB c p) ∧ (allB c p).length = n ∧ Below w.heap.size w w' := by
  obtain ⟨sy, wi, ac, pf, se, re, mr⟩ := c
  obtain ⟨i0, hi, hz0, hz1, hz2⟩ := info_parts rows_info
  have hX : Bx (w.alloc (Cf.obj ⟨sy, wi, ac, pf, se, re, mr⟩ 28)) w.heap.size 28 ⟨sy, wi, ac, pf, se, re, mr⟩ := heap_alloc_new _ _
  have hB := Lib.hid ((Below.refl w.heap.size w).alloc (Nat.le_refl _) (Cf.obj ⟨sy, wi, ac, pf, se, re, mr⟩ 28))
  have HX := Lib.hid hX
  clear hX
  have HR := Lib.hid hR
  clear hR
  cases ac
  · have E := Lib.hid (show allB ⟨sy, wi, false, pf, se, re, mr⟩ p = numB ⟨sy, wi, false, pf, se, re, mr⟩ p true from rfl)
    rw [E.out]
    clear E
    have hl2 := (numB_len ⟨sy, wi, false, pf, se, re, mr⟩ p true).2
    have HL2 := Lib.hid hl2
    clear hl2
    go_enter Try.func13, Try.ntmps13
    go_wp2_with (first
      | (go_at_call 20; (with_reducible refine (right_v p true hp HR.out _).mono ?_); rintro e w' ⟨rfl, rfl⟩; have hf := cfull HX.out; obtain ⟨f0, f1, f2, f3, f4, f5, f6⟩ := hf)
      | (go_at_call 21; (with_reducible refine (numbered_any ⟨sy, wi, false, pf, se, re, mr⟩ p hp true _).mono ?_); rintro e w3 ⟨A3, n3, c3, rfl, hr3, hl3, hb3⟩; have hB3 := hB.out.trans (hb3.mono hB.out.size); replace hr3 := Lib.hid (hr3.mono (G := fun b => w.heap.size ≤ b) fun b _ hb => Nat.le_trans hB.out.size hb); clear hb3; have hn3 : n3 ≤ 2 := hl3 ▸ HL2.out; have HL3 := Lib.hid hl3; clear hl3; clear f0 f1 f2 f3 f4 f5 f6)
      | (at_builtin; have _g := hr3.out; clear _g; refine list_rows shB rfl _ _ _ rfl 26 i0 (.slice none 0 0) 24 Try.underlying38 hi hz0 hz1 hz2 rfl (by decide) (fun b => w.heap.size ≤ b) (fun b => w.heap.size ≤ b) w.heap.size _ 0 [] rfl (Orw.nil _ _ _ _ _) rfl _ n3 _ _ rfl hr3.out HL3.out (fun b _ hb => ⟨hb, fun h => by cases h⟩) (by unfold maxLen; omega) (by omega) hB3.size ?_; intro v4 w4 ho4 hg4 hm4; have hB4 := hB3.grown hg4 hB3.size (fun k hk => by cases hk); clear hg4 hm4))
    obtain ⟨A, c, rfl, -, -, hr⟩ := ho4.slice
    go_ret
    rw [List.nil_append] at hr
    exact ⟨_, _, _, rfl, hr.mono (G := fun b => w.heap.size ≤ b) (fun b _ hb => hb.elim id id), rfl, hB4⟩
  · have E := Lib.hid (show allB ⟨sy, wi, true, pf, se, re, mr⟩ p = numB ⟨sy, wi, true, pf, se, re, mr⟩ p false ++ numB ⟨sy, wi, true, pf, se, re, mr⟩ p true from rfl)
    rw [E.out]
    clear E
    have HL2 := Lib.hid (numB_len ⟨sy, wi, true, pf, se, re, mr⟩ p true).2
    have HL1 := Lib.hid (numB_len ⟨sy, wi, true, pf, se, re, mr⟩ p false).2
    go_enter Try.func13, Try.ntmps13
    go_wp2_with (first
      | (go_at_call 20; (with_reducible refine (right_v p true hp HR.out _).mono ?_); rintro e w' ⟨rfl, rfl⟩; have hf := cfull HX.out; obtain ⟨f0, f1, f2, f3, f4, f5, f6⟩ := hf)
      | (go_at_call 21; (with_reducible refine (numbered_any ⟨sy, wi, true, pf, se, re, mr⟩ p hp false _).mono ?_); rintro e w3 ⟨A3, n3, c3, rfl, hr3, hl3, hb3⟩; have hB3 := hB.out.trans (hb3.mono hB.out.size); replace HX := Lib.hid (HX.out.below hb3); replace hr3 := Lib.hid (hr3.mono (G := fun b => w.heap.size ≤ b) fun b _ hb => Nat.le_trans hB.out.size hb); clear hb3; have hn3 : n3 ≤ 2 := hl3 ▸ HL1.out; have HL3 := Lib.hid hl3; clear hl3; clear f0 f1 f2 f3 f4 f5 f6)
      | (go_at_call 21; (with_reducible refine (numbered_any ⟨sy, wi, true, pf, se, re, mr⟩ p hp true _).mono ?_); rintro e w5 ⟨A5, n5, c5, rfl, hr5, hl5, hb5⟩; have hB5 := hB4.trans (hb5.mono hB4.size); replace hr5 := Lib.hid (hr5.mono (G := fun b => w.heap.size ≤ b ∧ v4.ownBlock ≠ some b) fun b _ hb => ⟨Nat.le_trans hB4.size hb, fun e => by have := (ho4.out.lt e).2; omega⟩); replace ho4 := Lib.hid (ho4.out.below hb5); clear hb5; have hn5 : n5 ≤ 2 := hl5 ▸ HL2.out; have HL5 := Lib.hid hl5; clear hl5; clear f0 f1 f2 f3 f4 f5 f6 hB4)
      | (at_builtin; have _g := hr5.out; clear _g; refine list_rows shB rfl _ _ _ rfl 26 i0 (.slice none 0 0) 24 Try.underlying38 hi hz0 hz1 hz2 rfl (by decide) (fun b => w.heap.size ≤ b) _ w.heap.size _ (0 + n3) _ rfl ho4.out (by rw [List.nil_append, Nat.zero_add]; exact HL3.out) _ n5 _ _ rfl hr5.out HL5.out (fun b _ hb => hb) (by unfold maxLen; omega) (by omega) hB5.size ?_; intro v6 w6 ho6 hg6 hm6; have hB6 := hB5.grown hg6 hB5.size (fun k hk => (ho4.out.lt hk).1); clear hg6 hm6)
      | (at_builtin; have _g := hr3.out; clear _g; refine list_rows shB rfl _ _ _ rfl 26 i0 (.slice none 0 0) 24 Try.underlying38 hi hz0 hz1 hz2 rfl (by decide) (fun b => w.heap.size ≤ b) (fun b => w.heap.size ≤ b) w.heap.size _ 0 [] rfl (Orw.nil _ _ _ _ _) rfl _ n3 _ _ rfl hr3.out HL3.out (fun b _ hb => ⟨hb, fun h => by cases h⟩) (by unfold maxLen; omega) (by omega) hB3.size ?_; intro v4 w4 ho4 hg4 hm4; have hB4 := hB3.grown hg4 hB3.size (fun k hk => by cases hk); replace HX := Lib.hid ((hg4.block _ HX.out.lt (by intro h; cases h)).trans HX.out); have hf := cfull HX.out; obtain ⟨f0, f1, f2, f3, f4, f5, f6⟩ := hf; replace ho4 := Lib.hid ho4; clear hg4 hm4 hr3 hB3))
    obtain ⟨A, c, rfl, -, -, hr⟩ := ho6.slice
    go_ret
    rw [List.nil_append] at hr
    exact ⟨_, _, _, rfl, hr.mono (G := fun b => w.heap.size ≤ b) (fun b _ hb => hb.elim id id), rfl, hB6⟩

/-- What the row so far is: of the call's own, behind block B. -/
structure Acc (wc w : World) (v : Value) (n : Nat) (ls : List (List Nat)) : Prop where
  own : Orw shB 26 (fun b => wc.heap.size ≤ b) wc.heap.size w v ls
  bel : Below wc.heap.size wc w
  len : ls.length = n
theorem Acc.on {wc w w' : World} {v : Value} {n : Nat} {ls : List (List Nat)} (h : Acc wc w v n ls) (hb : Below w.heap.size w w') : Acc wc w' v n ls := ⟨h.own.below hb, h.bel.trans (hb.mono h.bel.size), h.len⟩
theorem Acc.far {wc w : World} {v : Value} {n : Nat} {ls : List (List Nat)} (h : Acc wc w v n ls) : ∀ b, w.heap.size ≤ b → wc.heap.size ≤ b ∧ v.ownBlock ≠ some b := fun b hb => ⟨Nat.le_trans h.bel.size hb, fun e => by have := (h.own.lt e).2; omega⟩

theorem Acc.push {wc w w7 : World} {v v7 : Value} {n : Nat} {ls : List (List Nat)} {l : List Nat} {o : Obj} (h : Acc wc w v n ls) (ho : Orw shB 26 (fun b => wc.heap.size ≤ b) wc.heap.size w7 v7 (ls ++ [l])) (hg : (w.alloc o).grownBy w7 v.ownBlock) : Acc wc w7 v7 (n + 1) (ls ++ [l]) :=
  ⟨ho, (h.bel.alloc h.bel.size o).grown hg (h.bel.alloc h.bel.size o).size (fun k hk => (h.own.lt hk).1), by rw [List.length_append, h.len]; rfl⟩
theorem Acc.al {wc w : World} {v : Value} {n : Nat} {ls : List (List Nat)} (h : Acc wc w v n ls) (o : Obj) : Acc wc (w.alloc o) v n ls := h.on ((Below.refl _ _).alloc (Nat.le_refl _) _)
theorem lit_below {wk w5 : World} {o : Obj} (h : Below (wk.alloc o).heap.size (wk.alloc o) w5) : Below wk.heap.size wk w5 := ((Below.refl _ _).alloc (Nat.le_refl _) o).trans (h.mono (by simp))
theorem own_len {w : World} {base : Nat} {e : TypeId} {v : Value} {n : Nat} {l : List Nat} (h : w.ownsRow base e 1 v n (bvs l)) : l.length = n := by have := h.1; rw [bvs_len] at this; omega

set_option maxHeartbeats 2000000 in
theorem rhall_any (c : Cf) (p : Nat) (hp : p < 65536) (w : World) :
    Calls Try.prog 14 #[c.val, .int .i64 (p : Int)] w fun e w' => ∃ A n cp, e = .returned (.slice A n cp) ∧ Rws shB (fun b => w.heap.size ≤ b) w' A (allB c p) ∧ (allB c p).length = n ∧ Below w.heap.size w w' := by
  obtain ⟨sy, wi, ac, pf, se, re, mr⟩ := c
  obtain ⟨i0, hi, hz0, hz1, hz2⟩ := info_parts rows_info
  obtain ⟨i1, hi1, hy0, hy1, hy2⟩ := info_parts byte_info
  obtain ⟨q, hq⟩ : ∃ q, Hid (decide (p < 256) = q) := ⟨_, Lib.hid rfl⟩
  have hq1 : decide ((p : Int) < 256) = q := by rw [← hq.out, Bool.eq_iff_iff]; simp; omega
  obtain ⟨wc, hwc⟩ : ∃ wc, wc = w.alloc (Cf.obj ⟨sy, wi, ac, pf, se, re, mr⟩ 24) := ⟨_, rfl⟩
  have hs : wc.heap.size = w.heap.size + 1 := by rw [hwc, World.size_alloc]
  have hX : Bx wc w.heap.size 24 ⟨sy, wi, ac, pf, se, re, mr⟩ := by rw [hwc]; exact heap_alloc_new _ _
  have hB : Below w.heap.size w wc := by rw [hwc]; exact (Below.refl _ _).alloc (Nat.le_refl _) _
  have hA0 : Acc wc (wc.alloc (.cells #[] 26)) (.slice (some ⟨wc.heap.size, 0, none⟩) 0 0) 0 [] := ⟨Orw.lit wc [] rfl (fun k x cs hx => by simp at hx) (by simp), (Below.refl _ _).alloc (Nat.le_refl _) _, rfl⟩
  have hLit : ∀ wk : World, Rd (wk.alloc (.cells #[.int .u8 255, .int .u8 3] 5)) (wk.alloc (.cells #[.int .u8 255, .int .u8 3] 5)).heap.size (some ⟨wk.heap.size, 0, none⟩) [255, 3] := fun wk => Rd.lit_ wk [255, 3]
  have hOwn : ∀ wk : World, (wk.alloc (.cells #[.int .u8 255, .int .u8 3] 5)).ownsRow wk.heap.size 5 1 (.slice (some ⟨wk.heap.size, 0, none⟩) 2 2) 2 (bvs [255, 3]) := fun wk => World.ownsRow_lit wk #[.int .u8 255, .int .u8 3] 2 (Nat.le_refl _) (by unfold maxLen; omega) rfl
  have HO := Lib.hid hOwn
  clear hLit hOwn
  have E := Lib.hid (show allB ⟨sy, wi, ac, pf, se, re, mr⟩ p = (if ac = true then (if (pf && q) = true then [ledB false ++ putB p true, ledB false ++ putB p false] else [ledB false ++ putB p false]) else []) ++ (if (pf && q) = true then [ledB true ++ putB p true, ledB true ++ putB p false] else [ledB true ++ putB p false]) by rw [allB, numB, numB, hq.out]; rfl)
  rw [E.out]
  clear E
  have HX := Lib.hid hX
  have HB := Lib.hid hB
  have HS := Lib.hid hs
  have HW := Lib.hid hwc
  have C := Lib.hid hA0
  clear hX hB hs hwc hA0 hq
  cases ac <;> cases pf <;> cases q
  all_goals
    have hq2 := hq1
    clear hq1
    simp only [decide_eq_true_eq, decide_eq_false_iff_not] at hq2
    go_enter Try.func14, Try.ntmps14
    go_wp2_with fail
    obtain ⟨wk, hwk⟩ : ∃ wk, wk = wc.alloc (.cells #[] 26) := ⟨_, rfl⟩
    have hks : wc.heap.size + 1 = wk.heap.size := by rw [hwk, World.size_alloc]
    rw [← HS.out, ← HW.out, ← hwk]
    try rw [hks]
    rw [← hwk] at C
    clear hwk hks HS HW
    go_wp2_with (first
      | (go_at_call 19; first
          | ((with_reducible refine (rput_any p hp _ _).mono ?_); rintro e w5 ⟨A5, c5, n5, rfl, HN⟩; have hn5 : n5 ≤ 2 := HN.1 ▸ (putB_len p _).2; have HR := Lib.hid ((RdF.own HN.2.1).mono (fun b _ hb => C.out.far b hb)); have HL := Lib.hid HN.1; have hcap := own_cap HN.2.1; replace C := Lib.hid (C.out.on HN.2.2.2); clear HN)
          | ((with_reducible refine (rput_any p hp _ _).mono ?_); rintro e w5 ⟨A5, c5, n5, rfl, HN⟩; have hn5 : n5 ≤ 2 := HN.1 ▸ (putB_len p _).2; have ho5 := Lib.hid (own_below (HO.out _) HN.2.2.2); have hb5 := lit_below HN.2.2.2; replace HN := Lib.hid HN))
      | (at_builtin; have _g := ho5.out; clear _g; refine list_app rfl _ _ _ rfl _ i1 Try.underlying26 hi1 hy0 hy1 hy2 _ _ 2 [255, 3] rfl ho5.out _ _ n5 _ _ rfl HN.out.2.2.1 HN.out.1 (by omega) hb5.size ?_; intro A6 c6 w6 ho6 hg6; have hb6 := app_below hb5 (Nat.le_refl _) ho5.out hg6; have HR := Lib.hid ((RdF.own ho6).mono fun b _ hb => C.out.far b hb); have HL := Lib.hid (own_len ho6); have hcap := own_cap ho6; replace C := Lib.hid (C.out.on hb6); clear ho5 hb5 hg6 HN ho6 hb6)
      | (at_builtin; have _g := HR.out; clear _g; refine list_rows shB rfl _ _ _ rfl 26 i0 (.slice none 0 0) 24 Try.underlying38 hi hz0 hz1 hz2 rfl (by decide) (fun b => wc.heap.size ≤ b) _ wc.heap.size _ _ _ rfl (C.out.al _).own C.out.len _ 1 1 _ rfl (lit1 _ HL.out hcap HR.out).read rfl (fun b _ hb => hb.elim id (C.out.far b)) (by unfold maxLen; omega) (by omega) (C.out.al _).bel.size ?_; intro v7 w7 ho7 hg7 hm7; replace C := Lib.hid (C.out.push ho7 hg7); have hf := get_cell (HX.out.below C.out.bel); obtain ⟨hf1, hf2⟩ := hf; clear ho7 hg7 hm7 HR HL hcap))
    obtain ⟨A, c, rfl, -, -, hr⟩ := C.out.own.slice
    have hbe := HB.out.trans (C.out.bel.mono HB.out.size)
    go_ret
    exact ⟨_, _, ⟨_, rfl⟩, hr.mono (G := fun b => w.heap.size ≤ b) (fun b _ hb => Nat.le_trans HB.out.size (hb.elim id id)), rfl, hbe⟩
end Go.Proofs.Ytekhijbgikjlmaa
