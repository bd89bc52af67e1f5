
/-
  Headers of frames: what the calls of layer 10 and the document's own answer, Put, Get, All. No condition beyond: numbers below 2^16, octets below 256.
-/
import Derived.Test.YtkakkligndejaaaDoorPro
import Derived.Test.YtkakkligndejaaaDoorCfgS
import Derived.Test.YtkakkligndejaaaDoorBEq
import Derived.Test.YtkakkligndejaaaDoorRowk
import Derived.Test.YtkakkligndejaaaDoorAppg
import Derived.Deep.RegionHeld3
import Derived.Laws.CopyOwn
namespace Go.Proofs.YtkakkligndejaaaDoor
open Go.RowKit

/-- A list that a call handed back: it lies in new blocks, and nothing that was there has turned. -/
def Got (w w' : World) (A : Option Addr) (n : Nat) (l : List Nat) : Prop := l.length = n ∧ RdF (fun b => w.heap.size ≤ b) w' A l ∧ Below w.heap.size w w'
theorem New.got {w w' : World} {A : Option Addr} {c n : Nat} {l : List Nat} (h : New w w' A c n l) : Got w w' A n l := ⟨h.1, RdF.own h.2.1, h.2.2.2⟩

theorem putB_len (p : Nat) (s : Bool) : 1 ≤ (putB p s).length ∧ (putB p s).length ≤ 2 := by unfold putB; split <;> simp
theorem putB_by {p : Nat} (hp : p < 65536) (s : Bool) : By (putB p s) := by
  unfold putB
  split
  · rename_i h
    intro x hx
    simp only [List.mem_singleton] at hx
    omega
  · intro x hx
    simp only [List.mem_cons, List.not_mem_nil, or_false] at hx
    rcases hx with rfl | rfl <;> omega

/-- What stands ahead of the number. -/
def ledB (led : Bool) : List Nat := if led then [255, 3] else []
/-- A header, led or not, its number short or not. -/
def wrB (p : Nat) (led short : Bool) : List Nat := ledB led ++ putB p short


/-- Part of a row of bytes. -/
theorem rd_row {w : World} {g : Nat} {t : TypeId} {cur : List Nat} (h : w.heap[g]? = some (.cells (bvs cur).toArray t (0, 0))) (off : Nat) (l : List Nat) (hl : ∀ k x, l[k]? = some x → cur[off + k]? = some x) {F : Nat → Prop} (hF : F g) : RdF F w (some ⟨g, off, none⟩) l := by
  intro _
  refine ⟨g, off, rfl, (Array.getElem?_eq_some_iff.1 h).1, hF, fun k x hx => ?_⟩
  rw [cell_of_row w g _ _ _ _ h]
  have := bvs_get cur (off + k) x (hl k x hx)
  simpa using this
theorem splice_bvs (a m : List Nat) (k : Nat) : splice (bvs a) k (bvs m) = bvs (splice a k m) := by simp [splice, bvs]
theorem u8_size : (Tryd.prog.info? 5).map (·.size) = some 1 := by kernel_rfl
theorem put_n (p : Nat) (hp : p < 65536) (s : Bool) (z : Nat) (hz : (putB p s).length = z) (w : World) :
    Calls Tryd.prog 57 #[.int .u16 (p : Int), .bool s] w fun e w' => ∃ A c, e = .returned (.slice A z c) ∧ New w w' A c z (putB p s) :=
  (put_any p hp s w).mono fun _ _ ⟨A, c, n, he, hn⟩ => by
    obtain rfl : n = z := hn.1.symm.trans hz
    exact ⟨A, c, he, hn⟩

theorem wr_sub (m : List Nat) (led : Bool) (h : m.length = 1 ∨ m.length = 2) (k x : Nat) (hx : (ledB led ++ m)[k]? = some x) : (splice [255, 3, 0, 0] 2 m)[(if led = true then 0 else 2) + k]? = some x := by
  match m, h with
  | [], h => simp at h
  | [y], _ =>
    cases led
    · rcases k with _ | k <;> simp_all [splice, ledB]
    · rcases k with _ | _ | _ | k <;> simp_all [splice, ledB]
  | [y, z], _ =>
    cases led
    · rcases k with _ | _ | k <;> simp_all [splice, ledB]
    · rcases k with _ | _ | _ | _ | k <;> simp_all [splice, ledB]
  | _ :: _ :: _ :: _, h => simp at h

set_option maxHeartbeats 1000000 in
theorem write_any (p : Nat) (hp : p < 65536) (led short : Bool) (w : World) :
    Calls Tryd.prog 42 #[.int .u16 (p : Int), .bool led, .bool short] w fun e w' => ∃ A n, e = .returned (.slice A n n) ∧ Got w w' A n (wrB p led short) := by
  obtain ⟨m, hm⟩ : ∃ m, Hid (putB p short = m) := ⟨_, Lib.hid rfl⟩
  have hlen := putB_len p short
  rw [hm.out] at hlen
  have hz : m.length = 1 ∨ m.length = 2 := by omega
  clear hlen
  rcases hz with hz | hz
  all_goals
    have HZ := Lib.hid hz
    have HN := Lib.hid ((congrArg List.length hm.out).trans hz)
    clear hz
    go_enter Tryd.func42, Tryd.ntmps42
    go_wp2_with fail
    refine at_world (fun W => Hid (W.heap[w.heap.size]? = some (.cells (bvs [255, 3, 0, 0]).toArray 77 (0, 0))) ∧ Hid (Below w.heap.size w W)) ⟨Lib.hid (heap_alloc_new _ _), Lib.hid ((Below.refl _ _).alloc (Nat.le_refl _) _)⟩ ?_
    rintro W ⟨HG, HB⟩
    have HX := Lib.hid (Nat.lt_irrefl 0)
    go_region_held3 (fun _ => True) (trivial) (first
      | (refine step_copy_splice rfl _ _ _ _ rfl _ Tryd.underlying26 u8_size _ _ _ _ _ _ rfl rfl w.heap.size 2 (bvs [255, 3, 0, 0]) _ HG.out (bvs m) (by rw [bvs_len, HZ.out]; rfl) (fun _ => ⟨rfl, _, rfl, HR.out.cellAdd⟩) (by rw [bvs_len, HZ.out]; decide) (bvs_one m) w.heap.size w HB.out (Nat.le_refl _) ?_; intro w4 hg4 hb4; rw [bvs_len, HZ.out]; dsimp only)
      | (go_at_call 57; (with_reducible refine (put_n p hp short _ HN.out _).mono ?_); rintro e w3 ⟨A, c, rfl, -, -, HR, hb⟩; rw [hm.out] at HR; obtain ⟨b2, o2, rfl, -, -⟩ := HR (by rw [HZ.out]; decide); replace HR := Lib.hid HR; replace HG := Lib.hid ((hb.block _ (Array.getElem?_eq_some_iff.1 HG.out).1).trans HG.out); replace HB := Lib.hid (HB.out.drew.trans (hb.mono HB.out.drew.size)); clear hb; dsimp only))
    rw [splice_bvs] at hg4
    have HW := hg4.out
    clear hg4 HX
    first | rw [show IntKind.i64.wrap 3 = 3 from by decide] | rw [show IntKind.i64.wrap 4 = 4 from by decide]
    cases led
    all_goals
      go_wp2_with fail
      go_ret
      refine ⟨_, _, rfl, ?_, rd_row HW _ _ ?_ (Nat.le_refl _), hb4⟩
      · simp [wrB, ledB, hm.out, HZ.out]
      · intro k x hx
        rw [wrB, hm.out] at hx
        exact wr_sub m _ (by first | exact .inl HZ.out | exact .inr HZ.out) k x hx
theorem write_v (p : Nat) (hp : p < 65536) (y : Int) (hy : y = (p : Int)) (led short : Bool) (w : World) :
    Calls Tryd.prog 42 #[.int .u16 y, .bool led, .bool short] w fun e w' => ∃ A n, e = .returned (.slice A n n) ∧ Got w w' A n (wrB p led short) := hy ▸ write_any p hp led short w

/-- A config's header of a protocol. -/
def hputB (c : Cf) (p : Nat) : List Nat := wrB p (!c.acfc || decide (p = 49185)) (c.pfc && !decide (p = 49185))
theorem ledB_len (b : Bool) : (ledB b).length ≤ 2 := by cases b <;> simp [ledB]
theorem wrB_len (p : Nat) (a b : Bool) : 1 ≤ (wrB p a b).length ∧ (wrB p a b).length ≤ 4 := by
  have := putB_len p b
  have := ledB_len a
  rw [wrB, List.length_append]
  omega
theorem ledB_by (b : Bool) : By (ledB b) := by
  intro x hx
  cases b <;> simp [ledB] at hx
  omega
theorem wrB_by {p : Nat} (hp : p < 65536) (a b : Bool) : By (wrB p a b) := (ledB_by a).app (putB_by hp b)

set_option maxHeartbeats 1000000 in
theorem hput_any (c : Cf) (p : Nat) (hp : p < 65536) (w : World) :
    Calls Tryd.prog 23 #[c.val, .int .u16 (p : Int)] w fun e w' => ∃ A n, e = .returned (.slice A n n) ∧ Got w w' A n (hputB c p) := by
  by_cases h : p = 49185
  · subst h
    have E := Lib.hid (show hputB c 49185 = wrB 49185 true false by simp [hputB])
    rw [E.out]
    go_enter Tryd.func23, Tryd.ntmps23
    go_wp2_with (go_at_call 42; (with_reducible refine (write_v 49185 (by decide) _ (by omega) true false _).mono ?_); rintro e w' ⟨A, n, rfl, h1, h2, h3⟩)
    go_ret
    exact ⟨_, _, rfl, h1, h2.mono (fun b _ hb => by rw [World.size_alloc] at hb; omega), ((Below.refl w.heap.size w).alloc (Nat.le_refl _) _).trans (h3.mono (by simp))⟩
  · have E := Lib.hid (show hputB c p = wrB p (!c.acfc) c.pfc by simp [hputB, h])
    have h' : ((p : Int) == 49185) = false := by simp; omega
    rw [E.out]
    go_enter Tryd.func23, Tryd.ntmps23
    go_wp2_with (go_at_call 42; (with_reducible refine (write_any p hp _ _ _).mono ?_); rintro e w' ⟨A, n, rfl, h1, h2, h3⟩)
    go_ret
    exact ⟨_, _, rfl, h1, h2.mono (fun b _ hb => by rw [World.size_alloc] at hb; omega), ((Below.refl w.heap.size w).alloc (Nat.le_refl _) _).trans (h3.mono (by simp))⟩

theorem rput_v (p : Nat) (hp : p < 65536) (y : Int) (hy : y = (p : Int)) (s : Bool) (w : World) :
    Calls Tryd.prog 43 #[.int .i64 y, .bool s] w fun e w' => ∃ A c n, e = .returned (.slice A n c) ∧ New w w' A c n (putB p s) := hy ▸ rput_any p hp s w
theorem New.own' {w w' : World} {A : Option Addr} {c n : Nat} {l : List Nat} (h : New w w' A c n l) : w'.ownsRow w.heap.size 5 1 (.slice A n c) n (bvs l) := h.2.1

theorem get_cell {w : World} {b : Nat} {t : TypeId} {c : Cf} (h : Bx w b t c) : w.cell? ⟨b, 2, none⟩ = some (.bool c.acfc) ∧ w.cell? ⟨b, 3, none⟩ = some (.bool c.pfc) := ⟨h.all.2.2.1, h.all.2.2.2.1⟩
theorem New.base {w w1 w' : World} {A : Option Addr} {c n : Nat} {l : List Nat} (h : w'.ownsRow w1.heap.size 5 1 (.slice A n c) n (bvs l)) (h0 : w.heap.size ≤ w1.heap.size) (hb : Below w.heap.size w w') : New w w' A c n l :=
  ⟨by have := h.1; rw [bvs_len] at this; omega, own_lo h h0, Rd.own h, hb⟩

set_option maxHeartbeats 1000000 in
theorem rhput_any (c : Cf) (p : Nat) (hp : p < 65536) (w : World) :
    Calls Tryd.prog 24 #[c.val, .int .i64 (p : Int)] w fun e w' => ∃ A c' n, e = .returned (.slice A n c') ∧ New w w' A c' n (hputB c p) := by
  obtain ⟨sy, wi, ac, pf, se, re, mr⟩ := c
  obtain ⟨q, hq⟩ : ∃ q, Hid (decide (p = 49185) = q) := ⟨_, Lib.hid rfl⟩
  have hq1 : ((p : Int) == 49185) = q := by rw [← hq.out, Bool.eq_iff_iff]; simp; omega
  have hq2 : ((p : Int) != 49185) = !q := by rw [bne, hq1]
  have E := Lib.hid (show hputB ⟨sy, wi, ac, pf, se, re, mr⟩ p = ledB (!ac || q) ++ putB p (pf && !q) by rw [hputB, wrB, hq.out])
  rw [E.out]
  have hpl := putB_len p (pf && !q)
  clear hq E
  obtain ⟨i0, hi, hz0, hz1, hz2⟩ := info_parts byte_info
  obtain ⟨wc, hwc⟩ : ∃ wc, wc = w.alloc (Cf.obj ⟨sy, wi, ac, pf, se, re, mr⟩ 24) := ⟨_, rfl⟩
  have hs : wc.heap.size = w.heap.size + 1 := by rw [hwc, World.size_alloc]
  have hX : Bx wc w.heap.size 24 ⟨sy, wi, ac, pf, se, re, mr⟩ := by rw [hwc]; exact heap_alloc_new _ _
  have hB : Below w.heap.size w wc := by rw [hwc]; exact (Below.refl _ _).alloc (Nat.le_refl _) _
  have hO : (wc.alloc (.cells #[] 5)).ownsRow wc.heap.size 5 1 (.slice (some ⟨wc.heap.size, 0, none⟩) 0 0) 0 (bvs []) := World.ownsRow_lit _ #[] 0 (Nat.le_refl _) (by unfold maxLen; omega) rfl
  have hC : Below wc.heap.size wc (wc.alloc (.cells #[] 5)) := (Below.refl _ _).alloc (Nat.le_refl _) _
  have hL : Rd ((wc.alloc (.cells #[] 5)).alloc (.cells #[.int .u8 255, .int .u8 3] 5)) ((wc.alloc (.cells #[] 5)).alloc (.cells #[.int .u8 255, .int .u8 3] 5)).heap.size (some ⟨wc.heap.size + 1, 0, none⟩) [255, 3] := by
    have := Rd.lit_ (wc.alloc (.cells #[] 5)) [255, 3]
    rw [show (wc.alloc (.cells #[] 5)).heap.size = wc.heap.size + 1 by simp] at this
    exact this
  cases ac <;> cases pf <;> cases q
  all_goals
    have HO := Lib.hid hO
    have HX := Lib.hid hX
    have HB := Lib.hid hB
    have HC := Lib.hid hC
    have HS := Lib.hid hs
    have HW := Lib.hid hwc
    have HL := Lib.hid hL
    have HP := Lib.hid hpl
    clear hO hX hB hC hs hwc hL hpl
    go_enter Tryd.func24, Tryd.ntmps24
    go_wp2_with (first
      | (at_builtin; have _g := HW.out; clear _g; rw [show w.heap.size + 1 = wc.heap.size from HS.out.symm, ← HW.out]; refine list_app rfl _ _ _ rfl _ i0 Tryd.underlying26 hi hz0 hz1 hz2 wc.heap.size _ 0 [] rfl (own_below HO.out ((Below.refl _ _).alloc (Nat.le_refl _) _)) _ _ 2 2 [255, 3] rfl HL.out rfl (by omega) (by simp; omega) ?_; intro A4 c4 w4 ho4 hg4; have hB4 := app_below (HC.out.alloc HC.out.size _) (Nat.le_refl _) (own_below HO.out ((Below.refl _ _).alloc (Nat.le_refl _) _)) hg4; have hf := get_cell (HX.out.below hB4); clear HW hg4; obtain ⟨hf1, hf2⟩ := hf)
      | (go_at_call 43; first
          | (have _g := HW.out; clear _g; rw [show w.heap.size + 1 = wc.heap.size from HS.out.symm, ← HW.out]; clear HW; (with_reducible refine (rput_any p hp _ _).mono ?_); rintro e w5 ⟨A5, c5, n5, rfl, HN⟩; have hn5 : n5 ≤ 2 := HN.1 ▸ (putB_len p _).2; have ho5 := own_below HO.out HN.2.2.2; have hB5 := HC.out.trans (HN.2.2.2.mono HC.out.size); replace HN := Lib.hid HN)
          | ((with_reducible refine (rput_any p hp _ _).mono ?_); rintro e w5 ⟨A5, c5, n5, rfl, HN⟩; have hn5 : n5 ≤ 2 := HN.1 ▸ (putB_len p _).2; have ho5 := own_below ho4 HN.2.2.2; have hB5 := hB4.trans (HN.2.2.2.mono hB4.size); clear hB4 ho4; replace HN := Lib.hid HN))
      | (at_builtin; have _g := HN.out; clear _g; (refine list_app rfl _ _ _ rfl _ i0 Tryd.underlying26 hi hz0 hz1 hz2 wc.heap.size _ _ _ rfl ho5 _ _ n5 _ _ rfl HN.out.2.2.1 HN.out.1 (by omega) hB5.size ?_; intro A6 c6 w6 ho6 hg6; have hB6 := app_below hB5 (Nat.le_refl _) ho5 hg6; clear hg6)))
    go_ret
    exact ⟨_, _, _, rfl, New.base (w1 := wc) (by first | exact ho6 | simpa [ledB] using ho6) HB.out.size (HB.out.trans (hB6.mono HB.out.size))⟩
end Go.Proofs.YtkakkligndejaaaDoor
