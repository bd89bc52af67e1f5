
/-
  The walk of the statement HeadBack. No condition beyond: numbers that Go's types have.
-/
import Derived.Test.YtekhijbgikjlmaaHedT
namespace Go.Proofs.Ytekhijbgikjlmaa
open Go.RowKit

/-! Lists alone. -/
theorem getB_ok {l : List Nat} {s : Bool} {g1 g2 : Nat} (hb : By l) (h : getB l s = (g1, g2, 0)) :
    rightB g1 = true ∧ g2 ≤ l.length ∧ ((g2 = 2 ∧ putB g1 false = l.take 2) ∨ (g2 = 1 ∧ s = true ∧ putB g1 true = l.take 1)) := by
  match l, hb, h with
  | [], _, h => simp [getB] at h
  | x :: t, hb, h =>
    have hx := hb x (by simp)
    by_cases ho : x % 2 = 1
    · rw [getB_odd t s ho] at h
      split at h
      · rename_i hs
        simp only [Prod.mk.injEq] at h
        obtain ⟨rfl, rfl, _⟩ := h
        refine ⟨by rw [right_odd x hx ho]; simp [hs.2], by simp, .inr ⟨rfl, hs.1, by simp [putB, hx]⟩⟩
      · simp at h
    · match t, hb, h with
      | [], hb, h => simp [getB, ho] at h
      | y :: t, hb, h =>
        have hy := hb y (by simp)
        rw [getB, if_neg ho] at h
        split at h
        · rename_i hr
          simp only [Prod.mk.injEq] at h
          obtain ⟨rfl, rfl, _⟩ := h
          refine ⟨hr, by simp, .inl ⟨rfl, ?_⟩⟩
          simp [putB]
          omega
        · simp at h
theorem putB_get (p : Nat) (s m : Bool) (l : List Nat) (hr : rightB p = true) (hsm : s = true → m = true) : getB (putB p s ++ l) m = (p, (putB p s).length, 0) := by
  have h := hr
  simp [rightB] at h
  by_cases hc : s = true ∧ p < 256
  · rw [putB, if_pos hc]
    rw [List.singleton_append, getB_odd l m h.1, if_pos ⟨hsm hc.1, h.2.2⟩]
    rfl
  · rw [putB, if_neg hc]
    show getB (p / 256 :: p % 256 :: l) m = _
    rw [getB, if_neg (by omega), show 256 * (p / 256) + p % 256 = p by omega, if_pos hr]
    rfl
theorem put_head (p : Nat) (s : Bool) (hr : rightB p = true) : ∃ x t, putB p s = x :: t ∧ x ≠ 255 := by
  have h := hr
  simp [rightB] at h
  unfold putB
  split
  · exact ⟨_, _, rfl, by omega⟩
  · exact ⟨_, _, rfl, by omega⟩
/-- A header is read as it was written. -/
theorem hget_put (c x : Cf) (p : Nat) (l : List Nat) (hr : rightB p = true) (hA : c.acfc = true → x.acfc = true) (hP : c.pfc = true → x.pfc = true) : hgetB x (hputB c p ++ l) = (p, (hputB c p).length, 0) := by
  unfold hputB wrB
  generalize hs : (c.pfc && !decide (p = 49185)) = s
  have hsx : s = true → x.pfc = true := fun h => hP (by rw [h] at hs; simp at hs; exact hs.1)
  cases hl : (!c.acfc || decide (p = 49185))
  · have hx : x.acfc = true := hA (by simp at hl; exact hl.1)
    obtain ⟨y, t, hy, hn⟩ := put_head p s hr
    have hne : ¬ (ledB false ++ putB p s ++ l).take 2 = [255, 3] := by
      rw [hy]
      intro h
      have := congrArg List.head? h
      simp [ledB] at this
      exact hn this
    rw [hgetB, if_neg hne, if_pos hx]
    have e : ledB false ++ putB p s ++ l = putB p s ++ l := rfl
    rw [e, putB_get p s x.pfc l hr hsx, haddB]
    simp [ledB]
  · have e : (ledB true ++ putB p s ++ l).take 2 = [255, 3] := rfl
    have e2 : (ledB true ++ putB p s ++ l).drop 2 = putB p s ++ l := rfl
    rw [hgetB, if_pos e, e2, putB_get p s x.pfc l hr hsx, haddB]
    simp [ledB]
    omega

theorem hback_long (c : Cf) (p : Int) (A : Option Addr) (n cp : Nat) (a b : Bool) (w : World) (h : 100 < n) :
    Calls Try.prog 4 #[c.val, .int .u16 p, .slice A n cp, .bool a, .bool b] w fun e w' => e = .returned (.bool true) ∧ Below w.heap.size w w' := by
  have h4 : (100 : Int) < (n : Int) := by omega
  go_enter Try.func4, Try.ntmps4
  go_wp2_with fail
  refine (speaks10_any _).mono ?_
  rintro e w1 ⟨rfl, hb1⟩
  have hB1 := ((Below.refl w.heap.size w).alloc (Nat.le_refl _) (c.obj 24)).trans (hb1.mono (by simp))
  clear hb1
  go_wp2_with fail
  refine (speaks10_any _).mono ?_
  rintro e w2 ⟨rfl, hb2⟩
  go_wp2_with fail
  go_ret
  exact ⟨rfl, hB1.trans (hb2.mono hB1.size)⟩

/-- A config in a block, in a world behind w0. -/
structure One (w0 W : World) (b : Nat) (t : TypeId) (c : Cf) : Prop where
  x : Bx W b t c
  bel : Below w0.heap.size w0 W
section
variable {w0 W W' X : World} {b : Nat} {t : TypeId} {c : Cf}
theorem One.step (h : One w0 W b t c) (hb : Below W.heap.size W W') : One w0 W' b t c := ⟨h.x.below hb, h.bel.trans (hb.mono h.bel.size)⟩
theorem One.drew (h : One w0 W b t c) : One w0 W.drew b t c := ⟨h.x, h.bel.drew⟩
theorem One.al (h : One w0 W b t c) (o : Obj) : One w0 (W.alloc o) b t c := h.step ((Below.refl _ _).alloc (Nat.le_refl _) _)
end

theorem Bx.new (w : World) (t : TypeId) (c : Cf) : Bx (w.alloc (c.obj t)) w.heap.size t c := heap_alloc_new _ _
theorem Bx.al {w : World} {b : Nat} {t : TypeId} {c : Cf} (h : Bx w b t c) (o : Obj) : Bx (w.alloc o) b t c := h.below ((Below.refl _ _).alloc (Nat.le_refl _) _)
/-- Two configs in one block. -/
structure TwoC (w0 W : World) (g : Nat) (x0 x1 : Cf) : Prop where
  c0 : W.cell? ⟨g, 0, none⟩ = some (.bool x0.sync) ∧ W.cell? ⟨g, 1, none⟩ = some (.bool x0.wide) ∧ W.cell? ⟨g, 2, none⟩ = some (.bool x0.acfc) ∧ W.cell? ⟨g, 3, none⟩ = some (.bool x0.pfc) ∧ W.cell? ⟨g, 4, none⟩ = some (.int .u32 (x0.send : Int)) ∧ W.cell? ⟨g, 5, none⟩ = some (.int .u32 (x0.recv : Int)) ∧ W.cell? ⟨g, 6, none⟩ = some (.int .i64 x0.mru)
  c1 : W.cell? ⟨g, 7, none⟩ = some (.bool x1.sync) ∧ W.cell? ⟨g, 8, none⟩ = some (.bool x1.wide) ∧ W.cell? ⟨g, 9, none⟩ = some (.bool x1.acfc) ∧ W.cell? ⟨g, 10, none⟩ = some (.bool x1.pfc) ∧ W.cell? ⟨g, 11, none⟩ = some (.int .u32 (x1.send : Int)) ∧ W.cell? ⟨g, 12, none⟩ = some (.int .u32 (x1.recv : Int)) ∧ W.cell? ⟨g, 13, none⟩ = some (.int .i64 x1.mru)
  lt : g < W.heap.size
  bel : Below w0.heap.size w0 W
theorem TwoC.of {w0 : World} (w2 : World) (o : Obj) (t : TypeId) (x0 x1 : Cf) (g : Nat) (hg : w2.heap.size + 1 = g) (hb : Below w0.heap.size w0 w2) : TwoC w0 ((w2.alloc o).alloc (.cells #[.bool x0.sync, .bool x0.wide, .bool x0.acfc, .bool x0.pfc, .int .u32 (x0.send : Int), .int .u32 (x0.recv : Int), .int .i64 x0.mru, .bool x1.sync, .bool x1.wide, .bool x1.acfc, .bool x1.pfc, .int .u32 (x1.send : Int), .int .u32 (x1.recv : Int), .int .i64 x1.mru] t)) g x0 x1 := by
  subst hg
  have e : ∀ j, ((w2.alloc o).alloc (.cells #[.bool x0.sync, .bool x0.wide, .bool x0.acfc, .bool x0.pfc, .int .u32 (x0.send : Int), .int .u32 (x0.recv : Int), .int .i64 x0.mru, .bool x1.sync, .bool x1.wide, .bool x1.acfc, .bool x1.pfc, .int .u32 (x1.send : Int), .int .u32 (x1.recv : Int), .int .i64 x1.mru] t)).cell? ⟨w2.heap.size + 1, j, none⟩ = (#[.bool x0.sync, .bool x0.wide, .bool x0.acfc, .bool x0.pfc, .int .u32 (x0.send : Int), .int .u32 (x0.recv : Int), .int .i64 x0.mru, .bool x1.sync, .bool x1.wide, .bool x1.acfc, .bool x1.pfc, .int .u32 (x1.send : Int), .int .u32 (x1.recv : Int), .int .i64 x1.mru] : Array Value)[j]? := fun j => by
    rw [World.cell?_alloc_at _ _ _ _ (by simp)]
  refine ⟨?_, ?_, by simp, (hb.alloc hb.size _).alloc (by have := hb.size; simp; omega) _⟩
  all_goals refine ⟨?_, ?_, ?_, ?_, ?_, ?_, ?_⟩
  all_goals (rw [e]; rfl)
theorem TwoC.step {w0 W W' : World} {g : Nat} {x0 x1 : Cf} (h : TwoC w0 W g x0 x1) (hb : Below W.heap.size W W') : TwoC w0 W' g x0 x1 := by
  have k : ∀ j, W'.cell? ⟨g, j, none⟩ = W.cell? ⟨g, j, none⟩ := fun j => hb.cell (p := ⟨g, j, none⟩) h.lt
  refine ⟨?_, ?_, Nat.lt_of_lt_of_le h.lt hb.size, h.bel.trans (hb.mono h.bel.size)⟩
  · simp only [k]; exact h.c0
  · simp only [k]; exact h.c1

set_option maxHeartbeats 40000000 in
theorem hback_walk (c : Cf) (p : Nat) (hp : p < 65536) (l : List Nat) (A : Option Addr) (n cp : Nat) (a b : Bool) (w : World) (hl : l.length = n) (hb : By l) (h : Rd w w.heap.size A l) (h4 : n ≤ 100) :
    Calls Try.prog 4 #[c.val, .int .u16 (p : Int), .slice A n cp, .bool a, .bool b] w fun e w' => e = .returned (.bool true) ∧ Below w.heap.size w w' := by
  have HL := Lib.hid hl
  have HB := Lib.hid hb
  have HR := Lib.hid h
  clear hl hb h
  have h4' : ¬ (100 : Int) < (n : Int) := by omega
  obtain ⟨r, hr⟩ : ∃ r, Hid (rightB p = r) := ⟨_, Lib.hid rfl⟩
  obtain ⟨sy, wi, ac, pf, se, re, mr⟩ := c
  cases r
  · go_enter Try.func4, Try.ntmps4
    go_wp2_with fail
    refine (speaks10_any _).mono ?_
    rintro e w1 ⟨rfl, hb1⟩
    have hB1 := ((Below.refl w.heap.size w).alloc (Nat.le_refl _) (Cf.obj ⟨sy, wi, ac, pf, se, re, mr⟩ 24)).trans (hb1.mono (by simp))
    clear hb1
    go_wp2_with fail
    refine (rright_v p false hp hr.out _).mono ?_
    rintro e w8 ⟨rfl, rfl⟩
    go_wp2_with fail
    refine (speaks10_any _).mono ?_
    rintro e w2 ⟨rfl, hb2⟩
    go_wp2_with fail
    go_ret
    exact ⟨rfl, hB1.trans (hb2.mono hB1.size)⟩
  obtain ⟨wl, hwl⟩ : ∃ wl, Hid (hputB ⟨sy, wi, ac, pf, se, re, mr⟩ p = wl) := ⟨_, Lib.hid rfl⟩
  obtain ⟨qa, hqa⟩ : ∃ q, Hid (ac = q) := ⟨_, Lib.hid rfl⟩
  obtain ⟨qp, hqp⟩ : ∃ q, Hid (pf = q) := ⟨_, Lib.hid rfl⟩
  have HG : Hid (∀ x : Cf, (qa = true → x.acfc = true) → (qp = true → x.pfc = true) → hgetB x (wl ++ l) = (p, wl.length, 0)) := Lib.hid (fun x h1 h2 => by
    rw [← hwl.out]; exact hget_put _ x p l hr.out (fun h => h1 (hqa.out.symm.trans h)) (fun h => h2 (hqp.out.symm.trans h)))
  have HWB : Hid (By wl) := Lib.hid (by rw [← hwl.out]; exact wrB_by hp _ _)
  have HWL : Hid (1 ≤ wl.length ∧ wl.length ≤ 4) := Lib.hid (by rw [← hwl.out]; exact wrB_len p _ _)
  obtain ⟨i0, hi, hz0, hz1, hz2⟩ := info_parts byte_info
  have ha3 : ac = true ∨ (ac = false ∧ a = true) ∨ (ac = false ∧ a = false) := by cases ac <;> cases a <;> simp
  have hb3 : pf = true ∨ (pf = false ∧ b = true) ∨ (pf = false ∧ b = false) := by cases pf <;> cases b <;> simp
  rcases ha3 with rfl | ⟨rfl, rfl⟩ | ⟨rfl, rfl⟩ <;> rcases hb3 with rfl | ⟨rfl, rfl⟩ | ⟨rfl, rfl⟩
  all_goals
    go_enter Try.func4, Try.ntmps4
    go_wp2_with fail
    refine (speaks10_any _).mono ?_
    rintro e w1 ⟨rfl, hb1⟩
    have C : One w w1 w.heap.size 24 ⟨sy, wi, _, _, se, re, mr⟩ := ⟨(hb1.block _ (by simp)).trans (heap_alloc_new _ _), ((Below.refl w.heap.size w).alloc (Nat.le_refl _) _).trans (hb1.mono (by simp))⟩
    clear hb1
    go_wp2_with fail
    refine (rright_v p true hp hr.out _).mono ?_
    rintro e w8 ⟨rfl, rfl⟩
    obtain ⟨u0, u1, u2, u3, u4, u5, u6⟩ := cfull C.x
    go_wp2_with fail
    clear u0 u1 u2 u3 u4 u5 u6
    refine (hput_any ⟨sy, wi, _, _, se, re, mr⟩ p hp _).mono ?_
    rintro e w2 ⟨A2, n2, rfl, hl2, hr2, hb2⟩
    rw [hwl.out] at hl2 hr2
    replace C := C.step hb2
    clear hb2
    have HL2 := Lib.hid hl2
    have HR2 := Lib.hid (hr2.mono (G := fun _ => True) fun _ _ _ => trivial)
    have hn2 := HWL.out
    rw [hl2] at hn2
    clear hl2 hr2
    obtain ⟨u0, u1, u2, u3, u4, u5, u6⟩ := cfull C.x
    have n0 : w.heap.size < w2.heap.size := C.x.lt
    have n1 : ¬ w.heap.size = w2.heap.size := by omega
    go_wp2_with fail
    clear u0 u1 u2 u3 u4 u5 u6 n0 n1
    obtain ⟨g, hg⟩ : ∃ g, Hid (w2.heap.size + 1 = g) := ⟨_, Lib.hid rfl⟩
    rw [hg.out]
    refine at_world (fun W => ∃ x0 x1 : Cf, Hid (TwoC w W g x0 x1) ∧ Hid (RdF (fun _ => True) W A2 wl) ∧ Hid (hgetB x0 (wl ++ l) = (p, n2, 0)) ∧ Hid (hgetB x1 (wl ++ l) = (p, n2, 0))) ⟨⟨sy, wi, _, _, se, re, mr⟩, ⟨sy, wi, _, _, se, re, mr⟩, Lib.hid (TwoC.of w2 _ _ ⟨sy, wi, _, _, se, re, mr⟩ ⟨sy, wi, _, _, se, re, mr⟩ g hg.out C.bel), Lib.hid (HR2.out.keep (.of_below (((Below.refl _ _).alloc (Nat.le_refl _) _).alloc (by simp) _))), ?_, ?_⟩ ?_
    iterate 2 (· exact Lib.hid (HL2.out ▸ HG.out _ (by first | exact fun _ => rfl | exact fun h => absurd (hqa.out.trans h) (by decide)) (by first | exact fun _ => rfl | exact fun h => absurd (hqp.out.trans h) (by decide))))
    rintro W ⟨x0, x1, X, HR3, G0, G1⟩
    clear HG C HR2 hg hwl
    go_loopw [52] (fun i wr => ∃ k : Nat, k ≤ 2 ∧ i = .int .i64 k ∧ Below W.heap.size W wr) (fun i _ => 2 - (intOf i).toNat)
    case atStart => exact ⟨0, Nat.zero_le _, rfl, Below.refl _ _⟩
    case round =>
      obtain ⟨k, hk, rfl, hbel⟩ := hrel
      have hk3 : k = 0 ∨ k = 1 ∨ k = 2 := by omega
      have Y := Lib.hid (X.out.step hbel)
      have HR4 := Lib.hid (HR3.out.keep (.of_below hbel))
      rcases hk3 with rfl | rfl | rfl
      · obtain ⟨u0, u1, u2, u3, u4, u5, u6⟩ := Y.out.c0
        have hglt := Y.out.lt
        go_wp2_with fail
        clear u0 u1 u2 u3 u4 u5 u6 hglt
        have hz4 := Lib.hid (Bx.new wr 24 x0)
        have hb4 := Lib.hid (Y.out.bel.alloc Y.out.bel.size (x0.obj 24))
        have hr4 := Lib.hid (HR4.out.keep (.of_below ((Below.refl wr.heap.size wr).alloc (Nat.le_refl _) (x0.obj 24))))
        obtain ⟨g4, hg4⟩ : ∃ g4, Hid (wr.heap.size = g4) := ⟨_, Lib.hid rfl⟩
        rw [hg4.out] at hz4 ⊢
        refine at_world (fun W => Hid (Bx W g4 24 x0) ∧ Hid (Below w.heap.size w W) ∧ Hid (Below wr.heap.size wr W) ∧ Hid (RdF (fun _ => True) W A2 wl)) ⟨hz4, hb4, Lib.hid ((Below.refl wr.heap.size wr).alloc (Nat.le_refl _) _), hr4⟩ ?_
        clear hz4 hb4 hr4 HR4 Y hg4
        rintro W4 ⟨Z, HB4, HB5, HR5⟩
        have HBg := Lib.hid Z.out.lt
        have hown0 : (W4.drew.alloc (.cells #[] 5)).ownsRow W4.heap.size 5 1 (.slice (some ⟨W4.heap.size, 0, none⟩) 0 0) 0 (bvs []) := World.ownsRow_lit W4.drew #[] 0 (Nat.le_refl _) (by unfold maxLen; omega) rfl
        have hB0 : Below W4.heap.size W4 (W4.drew.alloc (.cells #[] 5)) := (Below.refl _ _).drew.alloc (Nat.le_refl _) _
        have hO := Lib.hid hown0
        have hB0 := Lib.hid hB0
        clear hown0
        obtain ⟨u0, u1, u2, u3, u4, u5, u6⟩ := cfull Z.out
        go_region_held3 (fun W => W.cell? ⟨g4, 0, none⟩ = some (.bool x0.sync) ∧ W.cell? ⟨g4, 1, none⟩ = some (.bool x0.wide) ∧ W.cell? ⟨g4, 2, none⟩ = some (.bool x0.acfc) ∧ W.cell? ⟨g4, 3, none⟩ = some (.bool x0.pfc) ∧ W.cell? ⟨g4, 4, none⟩ = some (.int .u32 (x0.send : Int)) ∧ W.cell? ⟨g4, 5, none⟩ = some (.int .u32 (x0.recv : Int)) ∧ W.cell? ⟨g4, 6, none⟩ = some (.int .i64 x0.mru)) (first | exact cfull Z.out | exact cfull (Z.out.al _)) (first
          | (have _g := hO.out; clear _g; (refine step_app _ (by rfl) _ _ _ (by rfl) _ i0 Try.underlying26 hi hz0 hz1 hz2 _ _ 0 [] (by rfl) hO.out _ _ n2 _ wl (by rfl) (HR5.out.keep (.of_below hB0.out)).rd HL2.out (by omega) hB0.out.size ?_); intro A6 c6 w6 ho6 hg6; rw [List.nil_append, Nat.zero_add] at ho6; rw [Nat.zero_add]; have hB6 := Lib.hid (app_below hB0.out (Nat.le_refl _) hO.out hg6); replace Z := Lib.hid (Z.out.below hB6.out); replace HB4 := Lib.hid (HB4.out.trans (hB6.out.mono HB4.out.size)); have ho6 := Lib.hid ho6; clear hg6 hB0 hO)
          | (have _g := ho6.out; clear _g; ((refine step_app _ (by rfl) _ _ _ (by rfl) _ i0 Try.underlying26 hi hz0 hz1 hz2 _ _ n2 wl (by rfl) ho6.out _ _ n _ l (by rfl) ((HR.out.below HB4.out).more HB4.out.size) HL.out (by omega) hB6.out.size ?_); intro A7 c7 w7 ho7 hg7; have hB7 := Lib.hid (app_below hB6.out (Nat.le_refl _) ho6.out hg7); replace Z : Hid (Bx w7 g4 24 x0) := Lib.hid ((hg7.block _ Z.out.lt (by intro e; have := (ho6.out.lt _ e.symm).1; have := HBg.out; omega)).trans Z.out); have ho7 := Lib.hid ho7; clear hg7 ho6))
          | (go_at_call 7; (with_reducible refine (hget_b x0 (wl ++ l) p n2 0 G0.out A7 (n2 + n) c7 _ (Rd.own ho7.out) (HWB.out.app HB.out) (own_len ho7.out) (own_cap ho7.out) (by omega)).mono ?_); rintro e w8 ⟨rfl, hb8⟩; have hB8 := hB7.out.trans (hb8.mono hB7.out.size); replace Z := Lib.hid (Z.out.below hb8); clear hb8 ho7 hB7; dsimp only))
        clear u0 u1 u2 u3 u4 u5 u6
        have pp : ((p : Int) != (p : Int)) = false := by simp
        have nn : ((n2 : Int) != (n2 : Int)) = false := by simp
        have hbb := Lib.hid (HB5.out.trans (hB8.mono HB5.out.size))
        clear hB8 Z HB4 HB5 HR5
        go_wp2_with fail
        go_roundw
        case rel => exact ⟨1, by omega, by go_num, hbel.trans (hbb.out.mono hbel.size)⟩
        case measure => simp [intOf]
      · obtain ⟨u0, u1, u2, u3, u4, u5, u6⟩ := Y.out.c1
        have hglt := Y.out.lt
        go_wp2_with fail
        clear u0 u1 u2 u3 u4 u5 u6 hglt
        have hz4 := Lib.hid (Bx.new wr 24 x1)
        have hb4 := Lib.hid (Y.out.bel.alloc Y.out.bel.size (x1.obj 24))
        have hr4 := Lib.hid (HR4.out.keep (.of_below ((Below.refl wr.heap.size wr).alloc (Nat.le_refl _) (x1.obj 24))))
        obtain ⟨g4, hg4⟩ : ∃ g4, Hid (wr.heap.size = g4) := ⟨_, Lib.hid rfl⟩
        rw [hg4.out] at hz4 ⊢
        refine at_world (fun W => Hid (Bx W g4 24 x1) ∧ Hid (Below w.heap.size w W) ∧ Hid (Below wr.heap.size wr W) ∧ Hid (RdF (fun _ => True) W A2 wl)) ⟨hz4, hb4, Lib.hid ((Below.refl wr.heap.size wr).alloc (Nat.le_refl _) _), hr4⟩ ?_
        clear hz4 hb4 hr4 HR4 Y hg4
        rintro W4 ⟨Z, HB4, HB5, HR5⟩
        have HBg := Lib.hid Z.out.lt
        have hown0 : (W4.drew.alloc (.cells #[] 5)).ownsRow W4.heap.size 5 1 (.slice (some ⟨W4.heap.size, 0, none⟩) 0 0) 0 (bvs []) := World.ownsRow_lit W4.drew #[] 0 (Nat.le_refl _) (by unfold maxLen; omega) rfl
        have hB0 : Below W4.heap.size W4 (W4.drew.alloc (.cells #[] 5)) := (Below.refl _ _).drew.alloc (Nat.le_refl _) _
        have hO := Lib.hid hown0
        have hB0 := Lib.hid hB0
        clear hown0
        obtain ⟨u0, u1, u2, u3, u4, u5, u6⟩ := cfull Z.out
        go_region_held3 (fun W => W.cell? ⟨g4, 0, none⟩ = some (.bool x1.sync) ∧ W.cell? ⟨g4, 1, none⟩ = some (.bool x1.wide) ∧ W.cell? ⟨g4, 2, none⟩ = some (.bool x1.acfc) ∧ W.cell? ⟨g4, 3, none⟩ = some (.bool x1.pfc) ∧ W.cell? ⟨g4, 4, none⟩ = some (.int .u32 (x1.send : Int)) ∧ W.cell? ⟨g4, 5, none⟩ = some (.int .u32 (x1.recv : Int)) ∧ W.cell? ⟨g4, 6, none⟩ = some (.int .i64 x1.mru)) (first | exact cfull Z.out | exact cfull (Z.out.al _)) (first
          | (have _g := hO.out; clear _g; (refine step_app _ (by rfl) _ _ _ (by rfl) _ i0 Try.underlying26 hi hz0 hz1 hz2 _ _ 0 [] (by rfl) hO.out _ _ n2 _ wl (by rfl) (HR5.out.keep (.of_below hB0.out)).rd HL2.out (by omega) hB0.out.size ?_); intro A6 c6 w6 ho6 hg6; rw [List.nil_append, Nat.zero_add] at ho6; rw [Nat.zero_add]; have hB6 := Lib.hid (app_below hB0.out (Nat.le_refl _) hO.out hg6); replace Z := Lib.hid (Z.out.below hB6.out); replace HB4 := Lib.hid (HB4.out.trans (hB6.out.mono HB4.out.size)); have ho6 := Lib.hid ho6; clear hg6 hB0 hO)
          | (have _g := ho6.out; clear _g; ((refine step_app _ (by rfl) _ _ _ (by rfl) _ i0 Try.underlying26 hi hz0 hz1 hz2 _ _ n2 wl (by rfl) ho6.out _ _ n _ l (by rfl) ((HR.out.below HB4.out).more HB4.out.size) HL.out (by omega) hB6.out.size ?_); intro A7 c7 w7 ho7 hg7; have hB7 := Lib.hid (app_below hB6.out (Nat.le_refl _) ho6.out hg7); replace Z : Hid (Bx w7 g4 24 x1) := Lib.hid ((hg7.block _ Z.out.lt (by intro e; have := (ho6.out.lt _ e.symm).1; have := HBg.out; omega)).trans Z.out); have ho7 := Lib.hid ho7; clear hg7 ho6))
          | (go_at_call 7; (with_reducible refine (hget_b x1 (wl ++ l) p n2 0 G1.out A7 (n2 + n) c7 _ (Rd.own ho7.out) (HWB.out.app HB.out) (own_len ho7.out) (own_cap ho7.out) (by omega)).mono ?_); rintro e w8 ⟨rfl, hb8⟩; have hB8 := hB7.out.trans (hb8.mono hB7.out.size); replace Z := Lib.hid (Z.out.below hb8); clear hb8 ho7 hB7; dsimp only))
        clear u0 u1 u2 u3 u4 u5 u6
        have pp : ((p : Int) != (p : Int)) = false := by simp
        have nn : ((n2 : Int) != (n2 : Int)) = false := by simp
        have hbb := Lib.hid (HB5.out.trans (hB8.mono HB5.out.size))
        clear hB8 Z HB4 HB5 HR5
        go_wp2_with fail
        go_roundw
        case rel => exact ⟨2, by omega, by go_num, hbel.trans (hbb.out.mono hbel.size)⟩
        case measure => simp [intOf]
      · go_wp2_with fail
        go_ret
        exact ⟨by simp; omega, X.out.bel.trans (hbel.mono X.out.bel.size)⟩
end Go.Proofs.Ytekhijbgikjlmaa
