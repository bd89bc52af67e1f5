
/-
  What the calls of layer 10 and the document's own answer for the header that octets begin with: Get; bytes.HasPrefix. No condition beyond: octets below 256, at most 2^40 of them.
-/
import Derived.Test.YtkakkligndejaaaDoorHed
import Derived.BigQuiet
namespace Go.Proofs.YtkakkligndejaaaDoor
open Go.RowKit

set_option maxHeartbeats 400000 in
theorem prefix_any (l m : List Nat) (n k : Nat) (A B : Option Addr) (c d : Nat) (w : World) (K : Nat) (ha : Rd w K A l) (hb : Rd w K B m) (hA : By l) (hB : By m) (hn : l.length = n) (hm : m.length = k) (hc : n ≤ c) :
    Calls Tryd.prog 64 #[.slice A n c, .slice B k d] w fun e w' => e = .returned (.bool (decide (l.take k = m))) ∧ w = w' := by
  by_cases h : k ≤ n
  · have h' : (k : Int) ≤ (n : Int) := by omega
    have h2 : k ≤ c := by omega
    have ht : (l.take k).length = k := by rw [List.length_take]; omega
    go_enter Tryd.func64, Tryd.ntmps64
    go_wp2_with (go_at_call 51; (with_reducible refine (bequal_any (l.take k) m k k _ _ _ _ _ K (ha.take k) hb (hA.take k) hB ht hm).mono ?_); rintro e w' ⟨rfl, rfl⟩)
    go_ret
    exact ⟨rfl, rfl⟩
  · have h' : ¬ (k : Int) ≤ (n : Int) := by omega
    have E : decide (l.take k = m) = false := by
      rw [decide_eq_false_iff_not]
      intro he
      have := congrArg List.length he
      rw [List.length_take] at this
      omega
    rw [E]
    go_enter Tryd.func64, Tryd.ntmps64
    go_wp2_with fail
    go_ret
    exact ⟨rfl, rfl⟩

theorem prefix_v (l m : List Nat) (n k : Nat) (A B : Option Addr) (c d : Nat) (w : World) (K : Nat) (q : Bool) (hq : decide (l.take k = m) = q) (ha : Rd w K A l) (hb : Rd w K B m) (hA : By l) (hB : By m) (hn : l.length = n) (hm : m.length = k) (hc : n ≤ c) :
    Calls Tryd.prog 64 #[.slice A n c, .slice B k d] w fun e w' => e = .returned (.bool q) ∧ w = w' := hq ▸ prefix_any l m n k A B c d w K ha hb hA hB hn hm hc

/-- A number's answer, behind k octets. -/
def haddB (k : Nat) (g : Nat × Nat × Nat) : Nat × Nat × Nat := if g.2.2 = 0 then (g.1, k + g.2.1, 0) else (0, 0, 7)
/-- The header that octets begin with. -/
def hgetB (c : Cf) (l : List Nat) : Nat × Nat × Nat := if l.take 2 = [255, 3] then haddB 2 (getB (l.drop 2) c.pfc) else if c.acfc = true then haddB 0 (getB l c.pfc) else (0, 0, 7)
theorem getB_le (l : List Nat) (s : Bool) : (getB l s).2.1 ≤ 2 := by
  match l with
  | [] => simp [getB]
  | [x] => simp only [getB]; repeat' split; all_goals simp
  | x :: y :: t => simp only [getB]; repeat' split; all_goals simp

theorem Rd.dropAt {w : World} {B b o : Nat} {l : List Nat} (h : Rd w B (some ⟨b, o, none⟩) l) (f : Nat) : Rd w B (some ⟨b, o + f, none⟩) (l.drop f) := by
  intro hl
  rw [List.length_drop] at hl
  obtain ⟨b', off, he, hb, hcell⟩ := h (by omega)
  injection he with he
  injection he with h1 h2 _
  subst h1; subst h2
  refine ⟨b, o + f, rfl, hb, fun j x hx => ?_⟩
  rw [Nat.add_assoc]
  exact hcell (f + j) x (by rw [← List.getElem?_drop]; exact hx)

theorem get_q (l : List Nat) (s : Bool) (g1 g2 g3 : Nat) (hg : getB l s = (g1, g2, g3)) (A : Option Addr) (n c : Nat) (w : World) (K : Nat) (h : Rd w K A l) (hb : By l) (hn : l.length = n) :
    Calls Tryd.prog 65 #[.slice A n c, .bool s] w fun e w' => e = .returned (.tuple #[.int .u16 (g1 : Int), .int .i64 (g2 : Int), .int .i64 (g3 : Int)]) ∧ ∃ k, w' = w.drewN k :=
  (get_any l s A n c w (fun hl => by
    obtain ⟨b, off, h1, _, h3⟩ := h hl
    exact ⟨b, off, h1, block_lt (h3 0 _ (List.getElem?_eq_getElem hl)), h3⟩) hb hn).mono fun _ _ ⟨he, k, hw⟩ => ⟨by rw [he, hg]; rfl, k, hw⟩
theorem rget_q (l : List Nat) (s : Bool) (g1 g2 g3 : Nat) (hg : getB l s = (g1, g2, g3)) (A : Option Addr) (n c : Nat) (w : World) (K : Nat) (h : Rd w K A l) (hb : By l) (hn : l.length = n) :
    Calls Tryd.prog 54 #[.slice A n c, .bool s] w fun e w' => e = .returned (.tuple #[.int .i64 (g1 : Int), .int .i64 (g2 : Int), .int .i64 (g3 : Int)]) ∧ ∃ k, w' = w.drewN k :=
  (rget_any l s A n c w (fun hl => by
    obtain ⟨b, off, h1, _, h3⟩ := h hl
    exact ⟨b, off, h1, block_lt (h3 0 _ (List.getElem?_eq_getElem hl)), h3⟩) hb hn).mono fun _ _ ⟨he, k, hw⟩ => ⟨by rw [he, hg]; rfl, k, hw⟩

set_option maxHeartbeats 1000000 in
theorem hget_any (c : Cf) (l : List Nat) (A : Option Addr) (n cp : Nat) (w : World) (h : Rd w w.heap.size A l) (hb : By l) (hn : l.length = n) (hc : n ≤ cp) (hm : n ≤ 1099511627776) :
    Calls Tryd.prog 52 #[c.val, .slice A n cp] w fun e w' => e = .returned (getV (hgetB c l)) ∧ Below w.heap.size w w' := by
  have HR := Lib.hid ((h.alloc (Nat.le_refl _) (c.obj 29)).alloc (by simp) (.cells #[.int .u8 255, .int .u8 3] 5))
  have HL : Rd ((w.alloc (c.obj 29)).alloc (.cells #[.int .u8 255, .int .u8 3] 5)) ((w.alloc (c.obj 29)).alloc (.cells #[.int .u8 255, .int .u8 3] 5)).heap.size (some ⟨w.heap.size + 1, 0, none⟩) [255, 3] := by
    have := Rd.lit_ (w.alloc (c.obj 29)) [255, 3]
    rw [show (w.alloc (c.obj 29)).heap.size = w.heap.size + 1 by simp] at this
    exact this
  replace HL := Lib.hid HL
  have hB := Lib.hid (((Below.refl w.heap.size w).alloc (Nat.le_refl _) (c.obj 29)).alloc (by simp) (.cells #[.int .u8 255, .int .u8 3] 5))
  have hsz : w.heap.size ≤ ((w.alloc (c.obj 29)).alloc (.cells #[.int .u8 255, .int .u8 3] 5)).heap.size := by simp; omega
  replace hsz := Lib.hid hsz
  have h2by : By [255, 3] := by intro x hx; simp at hx; omega
  by_cases hp : l.take 2 = [255, 3]
  · obtain ⟨t, rfl⟩ : ∃ t, l = 255 :: 3 :: t := by
      match l, hp with
      | [], h => simp at h
      | [x], h => simp at h
      | x :: y :: t, h => simp at h; exact ⟨t, by rw [h.1, h.2]⟩
    obtain ⟨b, off, rfl, -, -⟩ := h (by simp)
    obtain ⟨g1, g2, g3, hg⟩ : ∃ g1 g2 g3, Hid (getB t c.pfc = (g1, g2, g3)) := ⟨_, _, _, Lib.hid rfl⟩
    have hg2 : g2 ≤ 2 := by have := getB_le t c.pfc; rw [hg.out] at this; exact this
    have E := Lib.hid (show hgetB c (255 :: 3 :: t) = if g3 = 0 then (g1, 2 + g2, 0) else (0, 0, 7) by
      have e : (255 :: 3 :: t).drop 2 = t := rfl
      rw [hgetB, if_pos (by rfl), e, hg.out, haddB])
    rw [E.out]
    have HT : Hid (By t) := Lib.hid (fun x hx => hb x (by simp [hx]))
    have HN : Hid (t.length = n - 2) := Lib.hid (by rw [← hn]; simp)
    have hn2 : 2 ≤ n := by rw [← hn]; simp
    have hc2 : 2 ≤ cp := by omega
    have HB := Lib.hid hb
    have HLn := Lib.hid hn
    clear hb hn h E hp
    have hq : decide ((255 :: 3 :: t).take 2 = [255, 3]) = true := by simp
    have HQ := Lib.hid hq
    clear hq
    by_cases hcc : cp = 2
    · obtain rfl : n = 2 := by omega
      obtain rfl : t = [] := List.eq_nil_of_length_eq_zero (by have := HN.out; omega)
      have hc0 : (2 : Nat) ≤ 2 := Nat.le_refl _
      subst hcc
      go_enter Tryd.func52, Tryd.ntmps52
      go_wp2_with (go_at_call 64; have _g := HL.out; clear _g; refine (prefix_v [255, 3] [255, 3] 2 2 _ _ _ _ _ _ true HQ.out (HR.out.more hsz.out) HL.out HB.out h2by HLn.out rfl hc).mono ?_; rintro e w' ⟨rfl, rfl⟩)
      go_quiet (first | (go_at_call 65; exact Calls.quiet_of (get_q [] c.pfc g1 g2 g3 hg.out _ 0 _ _ 0 Rd.nil HT.out rfl)))
      all_goals
        by_cases h3 : g3 = 0
        · subst h3
          go_wp2_with fail
          go_ret3
          exact ⟨by simp [getV], below_drewN hB.out _⟩
        · have h3' : ((g3 : Int) != 0) = true := by rw [bne_iff_ne]; omega
          go_wp2_with fail
          go_ret3
          exact ⟨by simp [getV], below_drewN hB.out _⟩
    · have HD := Lib.hid (show Rd ((w.alloc (c.obj 29)).alloc (.cells #[.int .u8 255, .int .u8 3] 5)) ((w.alloc (c.obj 29)).alloc (.cells #[.int .u8 255, .int .u8 3] 5)).heap.size (some ⟨b, off + 2, none⟩) t from (HR.out.more hsz.out).dropAt 2)
      go_enter Tryd.func52, Tryd.ntmps52
      go_wp2_with (go_at_call 64; have _g := HL.out; clear _g; refine (prefix_v (255 :: 3 :: t) [255, 3] n 2 _ _ _ _ _ _ true HQ.out (HR.out.more hsz.out) HL.out HB.out h2by HLn.out rfl hc).mono ?_; rintro e w' ⟨rfl, rfl⟩)
      go_quiet (first | (go_at_call 65; exact Calls.quiet_of (get_q t c.pfc g1 g2 g3 hg.out _ (n - 2) _ _ _ (HD.out.drewN _) HT.out HN.out)))
      all_goals
        by_cases h3 : g3 = 0
        · subst h3
          go_wp2_with fail
          go_ret3
          exact ⟨by simp [getV], below_drewN hB.out _⟩
        · have h3' : ((g3 : Int) != 0) = true := by rw [bne_iff_ne]; omega
          go_wp2_with fail
          go_ret3
          exact ⟨by simp [getV], below_drewN hB.out _⟩
  · have HQ := Lib.hid (show decide (l.take 2 = [255, 3]) = false by simpa using hp)
    have HB := Lib.hid hb
    have HLn := Lib.hid hn
    obtain ⟨sy, wi, ac, pf, se, re, mr⟩ := c
    cases ac
    · have E := Lib.hid (show hgetB ⟨sy, wi, false, pf, se, re, mr⟩ l = (0, 0, 7) by rw [hgetB, if_neg hp]; rfl)
      rw [E.out]
      clear hb hn h E hp
      go_enter Tryd.func52, Tryd.ntmps52
      go_wp2_with (go_at_call 64; have _g := HL.out; clear _g; refine (prefix_v l [255, 3] n 2 _ _ _ _ _ _ false HQ.out (HR.out.more hsz.out) HL.out HB.out h2by HLn.out rfl hc).mono ?_; rintro e w' ⟨rfl, rfl⟩)
      go_ret3
      exact ⟨rfl, hB.out⟩
    · obtain ⟨g1, g2, g3, hg⟩ : ∃ g1 g2 g3, Hid (getB l pf = (g1, g2, g3)) := ⟨_, _, _, Lib.hid rfl⟩
      have hg2 : g2 ≤ 2 := by have := getB_le l pf; rw [hg.out] at this; exact this
      have E := Lib.hid (show hgetB ⟨sy, wi, true, pf, se, re, mr⟩ l = if g3 = 0 then (g1, g2, 0) else (0, 0, 7) by
        rw [hgetB, if_neg hp]
        show haddB 0 (getB l pf) = _
        rw [hg.out, haddB, Nat.zero_add])
      rw [E.out]
      clear hb hn h E hp
      go_enter Tryd.func52, Tryd.ntmps52
      go_wp2_with (go_at_call 64; have _g := HL.out; clear _g; refine (prefix_v l [255, 3] n 2 _ _ _ _ _ _ false HQ.out (HR.out.more hsz.out) HL.out HB.out h2by HLn.out rfl hc).mono ?_; rintro e w' ⟨rfl, rfl⟩)
      go_quiet (first | (go_at_call 65; exact Calls.quiet_of (get_q l pf g1 g2 g3 hg.out _ n _ _ _ ((HR.out.more hsz.out).drewN _) HB.out HLn.out)))
      all_goals
        by_cases h3 : g3 = 0
        · subst h3
          go_wp2_with fail
          go_ret3
          exact ⟨by simp [getV], below_drewN hB.out _⟩
        · have h3' : ((g3 : Int) != 0) = true := by rw [bne_iff_ne]; omega
          go_wp2_with fail
          go_ret3
          exact ⟨by simp [getV], below_drewN hB.out _⟩

theorem take2_cases (l : List Nat) : (l.length < 2 ∧ ¬ l.take 2 = [255, 3]) ∨ ∃ x y t, l = x :: y :: t ∧ (l.take 2 = [255, 3] ↔ x = 255 ∧ y = 3) := by
  match l with
  | [] => left; simp
  | [x] => left; simp
  | x :: y :: t => right; exact ⟨x, y, t, rfl, by simp⟩

set_option maxHeartbeats 2000000 in
theorem rhget_any (c : Cf) (l : List Nat) (A : Option Addr) (n cp : Nat) (w : World) (h : Rd w w.heap.size A l) (hb : By l) (hn : l.length = n) (hc : n ≤ cp) (hm : n ≤ 1099511627776) :
    Calls Tryd.prog 36 #[c.val, .slice A n cp] w fun e w' => e = .returned (rgetV (hgetB c l)) ∧ Below w.heap.size w w' := by
  have HR := Lib.hid (h.alloc (Nat.le_refl _) (c.obj 24))
  have hB := Lib.hid ((Below.refl w.heap.size w).alloc (Nat.le_refl _) (c.obj 24))
  have HB := Lib.hid hb
  have HLn := Lib.hid hn
  obtain ⟨sy, wi, ac, pf, se, re, mr⟩ := c
  rcases take2_cases l with ⟨h2, hp⟩ | ⟨x, y, t, rfl, hp⟩
  · have h2' : ¬ (2 : Int) ≤ (n : Int) := by omega
    cases ac
    · have E := Lib.hid (show hgetB ⟨sy, wi, false, pf, se, re, mr⟩ l = (0, 0, 7) by rw [hgetB, if_neg hp]; rfl)
      rw [E.out]
      clear hb hn h E hp
      go_enter Tryd.func36, Tryd.ntmps36
      go_wp2_with fail
      go_ret3
      exact ⟨rfl, hB.out⟩
    · obtain ⟨g1, g2, g3, hg⟩ : ∃ g1 g2 g3, Hid (getB l pf = (g1, g2, g3)) := ⟨_, _, _, Lib.hid rfl⟩
      have hg2 : g2 ≤ 2 := by have := getB_le l pf; rw [hg.out] at this; exact this
      have E := Lib.hid (show hgetB ⟨sy, wi, true, pf, se, re, mr⟩ l = if g3 = 0 then (g1, g2, 0) else (0, 0, 7) by
        rw [hgetB, if_neg hp]
        show haddB 0 (getB l pf) = _
        rw [hg.out, haddB, Nat.zero_add])
      rw [E.out]
      clear hb hn h E hp
      go_enter Tryd.func36, Tryd.ntmps36
      go_wp2_with fail
      go_quiet (first | (go_at_call 54; exact Calls.quiet_of (rget_q l pf g1 g2 g3 hg.out _ n _ _ _ (HR.out.drewN _) HB.out HLn.out)))
      all_goals
        by_cases h3 : g3 = 0
        · subst h3
          go_wp2_with fail
          go_ret3
          exact ⟨by simp [rgetV], below_drewN hB.out _⟩
        · have h3' : ((g3 : Int) != 0) = true := by rw [bne_iff_ne]; omega
          go_wp2_with fail
          go_ret3
          exact ⟨by simp [rgetV], below_drewN hB.out _⟩
  · have h2 : (2 : Int) ≤ (n : Int) := by rw [← hn]; simp; omega
    have i0 : (0 : Int) < (n : Int) := by omega
    have i1 : (1 : Int) < (n : Int) := by omega
    obtain ⟨b, off, rfl, k0, k1⟩ := HR.out.two
    by_cases hxy : x = 255 ∧ y = 3
    · obtain ⟨rfl, rfl⟩ := hxy
      obtain ⟨g1, g2, g3, hg⟩ : ∃ g1 g2 g3, Hid (getB t pf = (g1, g2, g3)) := ⟨_, _, _, Lib.hid rfl⟩
      have hg2 : g2 ≤ 2 := by have := getB_le t pf; rw [hg.out] at this; exact this
      have E := Lib.hid (show hgetB ⟨sy, wi, ac, pf, se, re, mr⟩ (255 :: 3 :: t) = if g3 = 0 then (g1, 2 + g2, 0) else (0, 0, 7) by
        have e : (255 :: 3 :: t).drop 2 = t := rfl
        rw [hgetB, if_pos (by rfl), e]
        show haddB 2 (getB t pf) = _
        rw [hg.out, haddB])
      rw [E.out]
      have HT : Hid (By t) := Lib.hid (fun x hx => hb x (by simp [hx]))
      have HN : Hid (t.length = n - 2) := Lib.hid (by rw [← hn]; simp)
      have hn2 : 2 ≤ n := by rw [← hn]; simp
      have hc2 : 2 ≤ cp := by omega
      clear hb hn h E hp
      by_cases hcc : cp = 2
      · obtain rfl : n = 2 := by omega
        obtain rfl : t = [] := List.eq_nil_of_length_eq_zero (by have := HN.out; omega)
        have hc0 : (2 : Nat) ≤ 2 := Nat.le_refl _
        subst hcc
        go_enter Tryd.func36, Tryd.ntmps36
        go_wp2_with fail
        go_quiet (first | (go_at_call 54; exact Calls.quiet_of (rget_q [] pf g1 g2 g3 hg.out _ 0 _ _ 0 Rd.nil HT.out rfl)))
        all_goals
          by_cases h3 : g3 = 0
          · subst h3
            go_wp2_with fail
            go_ret3
            exact ⟨by simp [rgetV], below_drewN hB.out _⟩
          · have h3' : ((g3 : Int) != 0) = true := by rw [bne_iff_ne]; omega
            go_wp2_with fail
            go_ret3
            exact ⟨by simp [rgetV], below_drewN hB.out _⟩
      · have HD := Lib.hid (show Rd (w.alloc (Cf.obj ⟨sy, wi, ac, pf, se, re, mr⟩ 24)) w.heap.size (some ⟨b, off + 2, none⟩) t from HR.out.dropAt 2)
        go_enter Tryd.func36, Tryd.ntmps36
        go_wp2_with fail
        go_quiet (first | (go_at_call 54; exact Calls.quiet_of (rget_q t pf g1 g2 g3 hg.out _ (n - 2) _ _ _ (HD.out.drewN _) HT.out HN.out)))
        all_goals
          by_cases h3 : g3 = 0
          · subst h3
            go_wp2_with fail
            go_ret3
            exact ⟨by simp [rgetV], below_drewN hB.out _⟩
          · have h3' : ((g3 : Int) != 0) = true := by rw [bne_iff_ne]; omega
            go_wp2_with fail
            go_ret3
            exact ⟨by simp [rgetV], below_drewN hB.out _⟩
    · have hp' : ¬ (x :: y :: t).take 2 = [255, 3] := fun h => hxy (hp.1 h)
      obtain ⟨q1, hq1⟩ : ∃ q, Hid (((x : Int) == 255) = q) := ⟨_, Lib.hid rfl⟩
      obtain ⟨q2, hq2⟩ : ∃ q, Hid (((y : Int) == 3) = q) := ⟨_, Lib.hid rfl⟩
      have hq : (q1 && q2) = false := by
        rw [← hq1.out, ← hq2.out]
        rw [Bool.and_eq_false_iff, beq_eq_false_iff_ne, beq_eq_false_iff_ne]
        omega
      have e1 := hq1.out
      have e2 := hq2.out
      clear hq1 hq2
      cases ac
      · have E := Lib.hid (show hgetB ⟨sy, wi, false, pf, se, re, mr⟩ (x :: y :: t) = (0, 0, 7) by rw [hgetB, if_neg hp']; rfl)
        rw [E.out]
        clear hb hn h E hp hp' hxy
        cases q1 <;> cases q2 <;> first | (simp at hq; done) | skip
        all_goals
          clear hq
          go_enter Tryd.func36, Tryd.ntmps36
          go_wp2_with fail
          go_ret3
          exact ⟨rfl, hB.out⟩
      · obtain ⟨g1, g2, g3, hg⟩ : ∃ g1 g2 g3, Hid (getB (x :: y :: t) pf = (g1, g2, g3)) := ⟨_, _, _, Lib.hid rfl⟩
        have hg2 : g2 ≤ 2 := by have := getB_le (x :: y :: t) pf; rw [hg.out] at this; exact this
        have E := Lib.hid (show hgetB ⟨sy, wi, true, pf, se, re, mr⟩ (x :: y :: t) = if g3 = 0 then (g1, g2, 0) else (0, 0, 7) by
          rw [hgetB, if_neg hp']
          show haddB 0 (getB (x :: y :: t) pf) = _
          rw [hg.out, haddB, Nat.zero_add])
        rw [E.out]
        clear hb hn h E hp hp' hxy
        cases q1 <;> cases q2 <;> first | (simp at hq; done) | skip
        all_goals
          clear hq
          go_enter Tryd.func36, Tryd.ntmps36
          go_wp2_with fail
          go_quiet (first | (go_at_call 54; exact Calls.quiet_of (rget_q (x :: y :: t) pf g1 g2 g3 hg.out _ n _ _ _ (HR.out.drewN _) HB.out HLn.out)))
          all_goals
            by_cases h3 : g3 = 0
            · subst h3
              go_wp2_with fail
              go_ret3
              exact ⟨by simp [rgetV], below_drewN hB.out _⟩
            · have h3' : ((g3 : Int) != 0) = true := by rw [bne_iff_ne]; omega
              go_wp2_with fail
              go_ret3
              exact ⟨by simp [rgetV], below_drewN hB.out _⟩
end Go.Proofs.YtkakkligndejaaaDoor
