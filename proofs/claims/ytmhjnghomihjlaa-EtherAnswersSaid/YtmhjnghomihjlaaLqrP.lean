
/-
  What the program's calls of layer 19 answer: bare, counted, rise, Lost, Put. No condition beyond: packets that Go may have.
-/
import Derived.Test.YtmhjnghomihjlaaGMat
import Derived.OwnWalk
import Derived.Laws.MakeOwn
import Derived.Deep.RegionHeld3
namespace Go.Proofs.Ytmhjnghomihjlaa
set_option maxRecDepth 4000
open Go.RowKit
set_option linter.unusedVariables false

set_option maxHeartbeats 1000000 in
theorem lbare_any (p : Pk) (q : Pl) (w : World) (h : Pw w p q) (r : Bool) (hr : bareP p = r) :
    Calls Try.prog 105 #[p.val q] w fun e w' => e = .returned (.bool r) ∧ Below w.heap.size w w' := by
  have e0 := h.lo
  have e1 := h.l1
  have e2 := h.l2
  have e3 := h.ld
  have E := Lib.hid (show r = (decide (p.code = 0) && decide (p.id = 0) && decide (p.sub = 0) && decide (p.magic = 0) && decide (q.no = 0) && decide (q.n1 = 0) && decide (q.n2 = 0) && decide (q.nd = 0)) by rw [← hr, bareP, e0, e1, e2, e3])
  clear h e0 e1 e2 e3 hr
  go_enter Try.func105, Try.ntmps105
  go_wp2_with fail
  all_goals
    go_ret
    refine ⟨?_, (Below.refl _ _).alloc (Nat.le_refl _) _⟩
    show Ending.returned (.bool _) = _
    have W' := E.out
    clear E
    congr 2
    rw [W']
    (try simp_all) <;> (first | (intros; omega) | (rw [Bool.eq_iff_iff]; simp) | skip)

theorem lcount_any (p : Pk) (q : Pl) (w : World) (r : Bool) (hr : decide (q.nn = 12) = r) :
    Calls Try.prog 106 #[p.val q] w fun e w' => e = .returned (.bool r) ∧ Below w.heap.size w w' := by
  subst hr
  go_enter Try.func106, Try.ntmps106
  go_wp2_with fail
  all_goals
    go_ret
    refine ⟨?_, (Below.refl _ _).alloc (Nat.le_refl _) _⟩
    show Ending.returned (Value.bool ((q.nn : Int) == 12)) = _
    congr 2
    rw [Bool.eq_iff_iff]
    simp
    omega

/-- By how much a number went up. -/
def riseB (x y : Nat) : Nat := (y + (4294967296 - x)) % 4294967296
theorem rise_wrap {x y : Nat} (hx : x < 4294967296) : ((y : Int) - (x : Int)) % 4294967296 = (riseB x y : Int) := by
  unfold riseB
  omega

/-- Two packets in blocks of a call's own. -/
structure TwB (T : TypeId) (w W : World) (p o : Pk) (q r : Pl) : Prop where
  bel : Below w.heap.size w W
  x1 : Px W w.heap.size T p q
  x2 : Px W (w.heap.size + 1) T o r
  p1 : Pw W p q
  p2 : Pw W o r
section
variable {T : TypeId} {w W X W' : World} {p o : Pk} {q r : Pl}
theorem TwB.made (T : TypeId) (w : World) (p o : Pk) (q r : Pl) (hp : Pw w p q) (ho : Pw w o r) : TwB T w ((w.alloc (p.obj q T)).alloc (o.obj r T)) p o q r := by
  have e1 : (w.alloc (p.obj q T)).heap.size = w.heap.size + 1 := World.size_alloc _ _
  have hb := belowP_two w (p.obj q T) (o.obj r T)
  refine ⟨hb, heap_alloc2_old w _ _, ?_, hp.on hb, ho.on hb⟩
  have := px_new (w.alloc (p.obj q T)) T o r
  rw [e1] at this
  exact this
theorem TwB.step (h : TwB T w W p o q r) (hb : Below X.heap.size X W') (hX : Below W.heap.size W X := by first | exact Below.refl _ _ | exact (Below.refl _ _).drew) : TwB T w W' p o q r :=
  have hh := hX.trans (hb.mono hX.size)
  ⟨h.bel.trans (hh.mono h.bel.size), h.x1.below hh, h.x2.below hh, h.p1.on hh, h.p2.on hh⟩
theorem TwB.drew (h : TwB T w W p o q r) : TwB T w W.drew p o q r := h.step (X := W) (Below.refl _ _).drew
theorem TwB.flat (h : TwB T w W p o q r) : W.cell? ⟨w.heap.size, 0, none⟩ = some (.int .u16 (p.proto : Int)) ∧ W.cell? ⟨w.heap.size, 1, none⟩ = some (.int .u8 (p.code : Int)) ∧ W.cell? ⟨w.heap.size, 2, none⟩ = some (.int .u8 (p.id : Int)) ∧ W.cell? ⟨w.heap.size, 3, none⟩ = some (.slice q.ao q.no q.co) ∧ W.cell? ⟨w.heap.size, 4, none⟩ = some (.int .u16 (p.sub : Int)) ∧ W.cell? ⟨w.heap.size, 5, none⟩ = some (.int .u32 (p.magic : Int)) ∧ W.cell? ⟨w.heap.size, 6, none⟩ = some (.slice q.a1 q.n1 q.c1) ∧ W.cell? ⟨w.heap.size, 7, none⟩ = some (.slice q.a2 q.n2 q.c2) ∧ W.cell? ⟨w.heap.size, 8, none⟩ = some (.slice q.ad q.nd q.cd) ∧ W.cell? ⟨w.heap.size, 9, none⟩ = some (.slice q.an q.nn q.cn) ∧ W.cell? ⟨w.heap.size + 1, 0, none⟩ = some (.int .u16 (o.proto : Int)) ∧ W.cell? ⟨w.heap.size + 1, 1, none⟩ = some (.int .u8 (o.code : Int)) ∧ W.cell? ⟨w.heap.size + 1, 2, none⟩ = some (.int .u8 (o.id : Int)) ∧ W.cell? ⟨w.heap.size + 1, 3, none⟩ = some (.slice r.ao r.no r.co) ∧ W.cell? ⟨w.heap.size + 1, 4, none⟩ = some (.int .u16 (o.sub : Int)) ∧ W.cell? ⟨w.heap.size + 1, 5, none⟩ = some (.int .u32 (o.magic : Int)) ∧ W.cell? ⟨w.heap.size + 1, 6, none⟩ = some (.slice r.a1 r.n1 r.c1) ∧ W.cell? ⟨w.heap.size + 1, 7, none⟩ = some (.slice r.a2 r.n2 r.c2) ∧ W.cell? ⟨w.heap.size + 1, 8, none⟩ = some (.slice r.ad r.nd r.cd) ∧ W.cell? ⟨w.heap.size + 1, 9, none⟩ = some (.slice r.an r.nn r.cn) := by
  obtain ⟨x0, x1, x2, x3, x4, x5, x6, x7, x8, x9⟩ := h.x1.all
  exact ⟨x0, x1, x2, x3, x4, x5, x6, x7, x8, x9, h.x2.all⟩
end

theorem loss_rise {a b : List Nat} {x2 y2 x5 y5 : Nat} (h1 : a[2]? = some x2) (h2 : b[2]? = some y2) (h3 : a[5]? = some x5) (h4 : b[5]? = some y5) (k1 : x2 < 4294967296) (k2 : y2 < 4294967296) (k3 : x5 < 4294967296) (k4 : y5 < 4294967296) :
    IntKind.u32.wrap ((riseB x2 y2 : Int) - (riseB x5 y5 : Int)) = (lossB a b : Int) := by
  rw [show IntKind.u32.wrap ((riseB x2 y2 : Int) - (riseB x5 y5 : Int)) = ((riseB x2 y2 : Int) - (riseB x5 y5 : Int)) % 4294967296 from rfl]
  unfold lossB riseB
  rw [List.getD_eq_getElem?_getD, List.getD_eq_getElem?_getD, List.getD_eq_getElem?_getD, List.getD_eq_getElem?_getD, h1, h2, h3, h4]
  simp only [Option.getD_some]
  omega


set_option maxHeartbeats 4000000 in
theorem qput_kind (p : Pk) (q : Pl) (w : World) (h : p.proto ≠ 49189) :
    Calls Try.prog 104 #[p.val q] w fun e w' => PutR w [] 0 8 e w' := by
  have t1 : ((p.proto : Int) != 49189) = true := by rw [bne_iff_ne]; omega
  clear h
  go_enter Try.func104, Try.ntmps104
  go_wp2_with fail
  go_ret2
  exact PutR.mk none 0 rfl Rd.nil (Nat.le_refl _) ((Below.refl _ _).alloc (Nat.le_refl _) _)

set_option maxHeartbeats 4000000 in
theorem qput_field (p : Pk) (q : Pl) (w : World) (hp : Pw w p q) (h : p.proto = 49189) (hb : bareP p = false) :
    Calls Try.prog 104 #[p.val q] w fun e w' => PutR w [] 0 9 e w' := by
  have t1 : ((p.proto : Int) != 49189) = false := by rw [bne_eq_false_iff_eq]; omega
  have C := Lib.hid (BxC.made 37 w p q)
  have H := Lib.hid hp
  have HB := Lib.hid hb
  clear h hb hp
  go_enter Try.func104, Try.ntmps104
  go_wp2_with (first
    | (go_at_call 105; (with_reducible refine (lbare_any p q _ (H.out.on C.out.bel) false HB.out).mono ?_); rintro e wn ⟨rfl, hb⟩; replace C := Lib.hid (C.out.step hb); clear hb))
  go_ret2
  exact PutR.mk none 0 rfl Rd.nil (Nat.le_refl _) C.out.bel

set_option maxHeartbeats 4000000 in
theorem qput_range (p : Pk) (q : Pl) (w : World) (hp : Pw w p q) (h : p.proto = 49189) (hb : bareP p = true) (hn : q.nn ≠ 12) :
    Calls Try.prog 104 #[p.val q] w fun e w' => PutR w [] 0 5 e w' := by
  have t1 : ((p.proto : Int) != 49189) = false := by rw [bne_eq_false_iff_eq]; omega
  have C := Lib.hid (BxC.made 37 w p q)
  have H := Lib.hid hp
  have HB := Lib.hid hb
  have HN := Lib.hid (decide_eq_false hn)
  clear h hb hp hn
  go_enter Try.func104, Try.ntmps104
  go_wp2_with (first
    | (go_at_call 105; (with_reducible refine (lbare_any p q _ (H.out.on C.out.bel) true HB.out).mono ?_); rintro e wn ⟨rfl, hb⟩; replace C := Lib.hid (C.out.step hb); clear hb; obtain ⟨x0, x1, x2, x3, x4, x5, x6, x7, x8, x9⟩ := C.out.cf.all)
    | (go_at_call 106; (with_reducible refine (lcount_any p q _ false HN.out).mono ?_); rintro e wn ⟨rfl, hb⟩; replace C := Lib.hid (C.out.step hb); clear hb))
  go_ret2
  exact PutR.mk none 0 rfl Rd.nil (Nat.le_refl _) C.out.bel

/-- A number's octets in a new block, as the walk shows it. -/
abbrev octO (x : Nat) : Obj := .cells #[.int .u8 ((x : Int) / 16777216), .int .u8 ((x : Int) / 65536 % 256), .int .u8 ((x : Int) / 256 % 256), .int .u8 ((x : Int) % 256)] 5
theorem oct_lit (x : Nat) (hx : x < 4294967296) (w : World) : Rd (w.alloc (octO x)) (w.alloc (octO x)).heap.size (some ⟨w.heap.size, 0, none⟩) (numB x 4) := by
  have h := Rd.lit_ w (numB x 4)
  have e : (Obj.cells (bvs (numB x 4)).toArray 5) = octO x := by
    rw [num4, Nat.mod_eq_of_lt (show x / 16777216 < 256 by omega)]
    simp [bvs, bv]
  rw [e] at h
  exact h

set_option maxHeartbeats 8000000 in
theorem qput_ok (p : Pk) (q : Pl) (w : World) (hp : Pw w p q) (h : p.proto = 49189) (hb : bareP p = true) (hn : q.nn = 12) (h32 : N32 p.nums) :
    Calls Try.prog 104 #[p.val q] w fun e w' => PutR w (octN p.nums) 48 0 e w' := by
  obtain ⟨i0, hi, hz0, hz1, hz2⟩ := info_parts byte_info
  have t1 : ((p.proto : Int) != 49189) = false := by rw [bne_eq_false_iff_eq]; omega
  have C := Lib.hid (BxC.made 37 w p q)
  have H := Lib.hid hp
  have HB := Lib.hid hb
  have HN := Lib.hid (decide_eq_true hn)
  have HL := Lib.hid (hp.ln.trans hn)
  have H32 := Lib.hid h32
  have HQ := Lib.hid hn
  clear h hb hp h32 hn
  go_enter Try.func104, Try.ntmps104
  go_wp2_with (first
    | (go_at_call 105; (with_reducible refine (lbare_any p q _ (H.out.on C.out.bel) true HB.out).mono ?_); rintro e wn ⟨rfl, hb⟩; replace C := Lib.hid (C.out.step hb); clear hb; obtain ⟨x0, x1, x2, x3, x4, x5, x6, x7, x8, x9⟩ := C.out.cf.all)
    | (go_at_call 106; (with_reducible refine (lcount_any p q _ true HN.out).mono ?_); rintro e wn ⟨rfl, hb⟩; replace C := Lib.hid (C.out.step hb); clear hb; obtain ⟨w4, hmk, hown4, hg4⟩ := run_make_own (P := Try.prog) wn wn.heap.size 26 5 i0 (.int .u8 0) 1 Try.underlying26 hi hz0 hz1 .i64 .i64 48 (by rw [hz2]; omega) (by unfold maxLen; omega) (Nat.le_refl _); rw [show ((48 : Nat) : Int) = 48 from rfl] at hmk; clear x0 x1 x2 x3 x4 x5 x6 x7 x8 x9; have HB4 := Lib.hid ((Below.refl wn.heap.size wn).grown hg4 (Nat.le_refl _) (fun k hk => by cases hk)); obtain ⟨x0, x1, x2, x3, x4, x5, x6, x7, x8, x9⟩ := (C.out.step HB4.out).cf.all; clear hg4))
  obtain ⟨wb, hwb⟩ : ∃ wb, wb = wn := ⟨_, rfl⟩
  rw [← hwb] at C HB4 hown4 ⊢
  clear hwb hmk x0 x1 x2 x3 x4 x5 x6 x7 x8 x9
  have HP := Lib.hid (H.out.on C.out.bel)
  clear H
  go_loopw [23, 4] (fun i v wr => ∃ k : Nat, k ≤ 12 ∧ i = .int .i64 k ∧ ∃ A c, v = .slice A (4 * k : Nat) c ∧ wr.ownsRow wb.heap.size 5 1 (.slice A (4 * k : Nat) c) (4 * k) (bvs (octN (p.nums.take k))) ∧ Hid (Below wb.heap.size wb wr)) (fun i _ _ => 12 - (intOf i).toNat)
  case atStart => exact ⟨0, by omega, rfl, _, _, rfl, hown4, HB4⟩
  case round =>
    obtain ⟨k, hk, rfl, A, c, rfl, hown, hbel⟩ := hrel
    by_cases hlt : k < 12
    · obtain ⟨b1, o1, x, e1, hx, c1⟩ := (HP.out.rn.below hbel.out).num (k := k) (by rw [HL.out]; exact hlt)
      have hx2 := H32.out _ (List.mem_of_getElem? hx)
      rw [e1]
      have i1 : (0 : Int) ≤ (k : Int) := by omega
      have i2 : (k : Int) < (q.nn : Int) := by rw [HQ.out]; omega
      have OW := Lib.hid hown
      have BA := Lib.hid ((Below.refl wr.heap.size wr).alloc (Nat.le_refl _) (octO x))
      have RL := Lib.hid (oct_lit x hx2 wr)
      have E := Lib.hid (octN_take hx)
      clear hown hx
      go_wp2_with (at_builtin; refine list_app rfl _ _ _ rfl _ i0 Try.underlying26 hi hz0 hz1 hz2 _ _ (4 * k) _ rfl (own_below OW.out BA.out) _ _ 4 _ (numB x 4) rfl RL.out (num_len x 4) (by omega) (Nat.le_trans hbel.out.size BA.out.size) ?_; intro A6 c6 w6 ho6 hg6; rw [← E.out] at ho6; have HO := Lib.hid ho6; have HB6 := Lib.hid ((hbel.out.trans (BA.out.mono hbel.out.size)).grown hg6 (Nat.le_trans hbel.out.size BA.out.size) (fun g hg => (OW.out.lt g hg).1)); clear hg6 ho6)
      go_roundw
      case rel => exact ⟨k + 1, by omega, by go_num, A6, c6, by rw [show 4 * (k + 1) = 4 * k + 4 by omega], by rw [show 4 * (k + 1) = 4 * k + 4 by omega]; exact HO.out, HB6⟩
      case measure => simp [intOf]; omega
    · have he : k = 12 := by omega
      subst he
      rw [List.take_of_length_le (by rw [HL.out]; exact Nat.le_refl _)] at hown
      have i2 : ¬ (12 : Int) < (q.nn : Int) := by rw [HQ.out]; omega
      have OW := Lib.hid hown
      clear hown
      go_wp2_with fail
      go_ret2
      exact PutR.mk A c rfl (Rd.own OW.out) (own_cap OW.out) ((C.out.step hbel.out).bel)

theorem qput_any (p : Pk) (q : Pl) (w : World) (hp : Pw w p q) (h32 : N32 p.nums) (m : List Nat) (k : Nat) (hm : lqputB p = (m, k)) (n : Nat) (hn : m.length = n) :
    Calls Try.prog 104 #[p.val q] w fun e w' => PutR w m n k e w' := by
  subst hn
  unfold lqputB at hm
  by_cases h1 : p.proto = 49189
  · rw [if_pos h1] at hm
    cases h2 : bareP p
    · rw [if_neg (by rw [h2]; decide)] at hm
      injection hm with e1 e2
      subst e1; subst e2
      exact qput_field p q w hp h1 h2
    · rw [if_pos h2] at hm
      by_cases h3 : p.nums.length = 12
      · rw [if_pos h3] at hm
        injection hm with e1 e2
        subst e1; subst e2
        rw [octN_len, h3]
        exact qput_ok p q w hp h1 h2 (by rw [← hp.ln, h3]) h32
      · rw [if_neg h3] at hm
        injection hm with e1 e2
        subst e1; subst e2
        exact qput_range p q w hp h1 h2 (by rw [← hp.ln]; exact h3)
  · rw [if_neg h1] at hm
    injection hm with e1 e2
    subst e1; subst e2
    exact qput_kind p q w h1
end Go.Proofs.Ytmhjnghomihjlaa
