/-
  What the document's Feed answers of a lane that there is not, or a number that is none. No condition. What the document's New of layer 24 answers. No condition.
-/
import Derived.Test.YtamdaepeogmboaaDoorJoiU
import Derived.Test.YtamdaepeogmboaaDoorJoiH
namespace Go.Proofs.YtamdaepeogmboaaDoor
section
set_option maxRecDepth 4000
open Go.RowKit

theorem jf_start (w : World) (j : Jn) (q : Jp) (p : Pc) (A : Option Addr) (n c : Nat) : Below w.heap.size w (((w.alloc (j.obj q)).alloc (.cells #[.bool p.b, .bool p.e, .int .i64 p.n, .slice A n c] 37)).alloc (jn0.obj jp0)) ∧ Jx (((w.alloc (j.obj q)).alloc (.cells #[.bool p.b, .bool p.e, .int .i64 p.n, .slice A n c] 37)).alloc (jn0.obj jp0)) w.heap.size j q ∧ Jx (((w.alloc (j.obj q)).alloc (.cells #[.bool p.b, .bool p.e, .int .i64 p.n, .slice A n c] 37)).alloc (jn0.obj jp0)) (w.heap.size + 2) jn0 jp0 ∧ FrX (((w.alloc (j.obj q)).alloc (.cells #[.bool p.b, .bool p.e, .int .i64 p.n, .slice A n c] 37)).alloc (jn0.obj jp0)) (w.heap.size + 1) 37 p.b p.e p.n A n c := by
  refine ⟨(((Below.refl _ _).alloc (Nat.le_refl _) _).alloc (by simp) _).alloc (by simp only [World.size_alloc]; omega) _, ((Jx.new _ _ _).on ((Below.refl _ _).alloc (Nat.le_refl _) _)).on ((Below.refl _ _).alloc (Nat.le_refl _) _), ?_, ?_⟩
  · have := Jx.new ((w.alloc (j.obj q)).alloc (.cells #[.bool p.b, .bool p.e, .int .i64 p.n, .slice A n c] 37)) jn0 jp0
    simpa using this
  · have := (FrX.new (w.alloc (j.obj q)) 37 p.b p.e p.n A n c).on ((Below.refl _ _).alloc (Nat.le_refl _) (jn0.obj jp0))
    simpa using this

set_option maxHeartbeats 2000000 in
theorem jfeed_arg (j : Jn) (q : Jp) (k : Int) (p : Pc) (A : Option Addr) (n c : Nat) (w : World) (hk : k < 0 ∨ (q.ln : Int) ≤ k) :
    Calls Tryd.prog 14 #[j.val q, .int .i64 k, fV p.b p.e p.n A n c] w fun e w' => e = .returned (.tuple #[j.val q, .slice none 0 0, .int .i64 1]) ∧ Below w.heap.size w w' := by
  have C := Lib.hid (jf_start w j q p A n c)
  have WAYS : k < 0 ∨ (¬ k < 0 ∧ (q.ln : Int) ≤ k) := by omega
  clear hk
  go_enter Tryd.func14, Tryd.ntmps14
  go_upto_region 1 with fail
  refine at_worldJ (fun W => Hid (Below w.heap.size w W ∧ Jx W w.heap.size j q ∧ Jx W (w.heap.size + 2) jn0 jp0 ∧ FrX W (w.heap.size + 1) 37 p.b p.e p.n A n c)) C ?_
  clear C
  rintro W C
  rcases WAYS with t1 | ⟨t1, t2⟩
  all_goals
    have y0 := C.out.2.1.c0
    have r0 := C.out.2.2.1.fz 0
    have v0 := C.out.2.2.1.c0
    have y1 := C.out.2.1.c1
    have r1 := C.out.2.2.1.fz 1
    have v1 := C.out.2.2.1.c1
    have y2 := C.out.2.1.c2
    have r2 := C.out.2.2.1.fz 2
    have v2 := C.out.2.2.1.c2
    have y3 := C.out.2.1.c3
    have r3 := C.out.2.2.1.fz 3
    have v3 := C.out.2.2.1.c3
    have y4 := C.out.2.1.c4
    have r4 := C.out.2.2.1.fz 4
    have v4 := C.out.2.2.1.c4
    have y5 := C.out.2.1.c5
    have r5 := C.out.2.2.1.fz 5
    have v5 := C.out.2.2.1.c5
    have y6 := C.out.2.1.c6
    have r6 := C.out.2.2.1.fz 6
    have v6 := C.out.2.2.1.c6
    have y7 := C.out.2.1.c7
    have r7 := C.out.2.2.1.fz 7
    have v7 := C.out.2.2.1.c7
    have y8 := C.out.2.1.c8
    have r8 := C.out.2.2.1.fz 8
    have v8 := C.out.2.2.1.c8
    go_wp2_with fail
    have p1 := put9_jx C.out.2.2.1 j q
    have p5 := put9_below (b := w.heap.size + 2) C.out.1 (Nat.le_add_right _ _) j q
    refine bodyPost_ret (v := .tuple #[j.val q, .slice none 0 0, .int .i64 1]) ?_ rfl ⟨rfl, p5⟩
    exact jres2 rfl _ _ _ _ (w.heap.size + 2) 33 _ _ _ rfl rfl rfl p1 Tryd.underlying33 (by kernel_rfl)

set_option maxHeartbeats 2000000 in
theorem jfeed_num (j : Jn) (q : Jp) (k : Nat) (p : Pc) (A : Option Addr) (n c : Nat) (w : World) (hk : k < q.ln) (hp : p.n < 0 ∨ (frmod j.sh : Int) ≤ p.n) :
    Calls Tryd.prog 14 #[j.val q, .int .i64 (k : Int), fV p.b p.e p.n A n c] w fun e w' => e = .returned (.tuple #[j.val q, .slice none 0 0, .int .i64 5]) ∧ Below w.heap.size w w' := by
  have C := Lib.hid (jf_start w j q p A n c)
  have k3 : ¬ (k : Int) < 0 := by omega
  have k4 : ¬ (q.ln : Int) ≤ (k : Int) := by omega
  obtain ⟨mo, hmo⟩ : ∃ M, Hid (frmod j.sh = M) := ⟨_, Lib.hid rfl⟩
  have hmod := fun W => jmod_any j.sh W
  rw [hmo.out] at hmod hp
  have WAYS : p.n < 0 ∨ (¬ p.n < 0 ∧ (mo : Int) ≤ p.n) := by omega
  clear hk hp
  go_enter Tryd.func14, Tryd.ntmps14
  go_upto_region 1 with fail
  refine at_worldJ (fun W => Hid (Below w.heap.size w W ∧ Jx W w.heap.size j q ∧ Jx W (w.heap.size + 2) jn0 jp0 ∧ FrX W (w.heap.size + 1) 37 p.b p.e p.n A n c)) C ?_
  clear C
  rintro W C
  rcases WAYS with t1 | ⟨t1, t2⟩
  all_goals
    have y0 := C.out.2.1.c0
    have r0 := C.out.2.2.1.fz 0
    have v0 := C.out.2.2.1.c0
    have y1 := C.out.2.1.c1
    have r1 := C.out.2.2.1.fz 1
    have v1 := C.out.2.2.1.c1
    have y2 := C.out.2.1.c2
    have r2 := C.out.2.2.1.fz 2
    have v2 := C.out.2.2.1.c2
    have y3 := C.out.2.1.c3
    have r3 := C.out.2.2.1.fz 3
    have v3 := C.out.2.2.1.c3
    have y4 := C.out.2.1.c4
    have r4 := C.out.2.2.1.fz 4
    have v4 := C.out.2.2.1.c4
    have y5 := C.out.2.1.c5
    have r5 := C.out.2.2.1.fz 5
    have v5 := C.out.2.2.1.c5
    have y6 := C.out.2.1.c6
    have r6 := C.out.2.2.1.fz 6
    have v6 := C.out.2.2.1.c6
    have y7 := C.out.2.1.c7
    have r7 := C.out.2.2.1.fz 7
    have v7 := C.out.2.2.1.c7
    have y8 := C.out.2.1.c8
    have r8 := C.out.2.2.1.fz 8
    have v8 := C.out.2.2.1.c8
    have x2 := C.out.2.2.2.c2
    go_wp2_with (go_at_call 26; (with_reducible refine (hmod _).mono ?_); rintro r w3 ⟨rfl, rfl⟩)
    have p1 := put9_jx C.out.2.2.1 j q
    have p5 := put9_below (b := w.heap.size + 2) C.out.1 (Nat.le_add_right _ _) j q
    refine bodyPost_ret (v := .tuple #[j.val q, .slice none 0 0, .int .i64 5]) ?_ rfl ⟨rfl, p5⟩
    exact jres2 rfl _ _ _ _ (w.heap.size + 2) 33 _ _ _ rfl rfl rfl p1 Tryd.underlying33 (by kernel_rfl)
end

section
set_option maxRecDepth 4000
open Go.RowKit

theorem Orw.anyK {T : TypeId} {F : Nat → Prop} {B : Nat} {w w' : World} {v : Value} {xs : List Int} (h : Orw shI T F B w v xs) (hk : Keeps (fun b => v.ownBlock = some b) w w') : Orw shI T F B w' v xs := by
  obtain ⟨css, e1, e2, e3⟩ := h
  have h2 : Orw shI T (fun _ => False) B w v xs := ⟨css, e1, e2, e3⟩
  obtain ⟨css', g1, g2, g3⟩ := h2.keep (hk.less fun _ _ h => h.elim False.elim id)
  exact ⟨css', g1, g2, g3⟩
theorem Orw.anyN {T : TypeId} {F G : Nat → Prop} {B : Nat} {w : World} {v : Value} {xs : List Int} (h : Orw shI T F B w v xs) : Orw shI T G B w v xs := by
  obtain ⟨css, e1, e2, e3⟩ := h
  exact ⟨css, e1, e2, e3⟩
theorem liti {F : Nat → Prop} (w : World) {T : TypeId} (x : Int) : Orw shI T F w.heap.size (w.alloc (.cells #[.int .i64 x] T)) (.slice (some ⟨w.heap.size, 0, none⟩) 1 1) [x] := by
  refine Orw.lit w [[.int .i64 x]] rfl (fun k y cs hx hk => ?_) (by simp)
  rcases k with _ | k
  · injection hx with hx
    injection hk with hk
    subst hx; subst hk
    rfl
  · simp at hx
/-- What New knows: the lanes' row so far, the joiner's box, the answer's. -/
structure JK (w W : World) (s : Bool) (room most : Int) (i : Nat) (A : Option Addr) (c : Nat) : Prop where
  bel : Below w.heap.size w W
  box : Jx W (w.heap.size + 1) ⟨s, room, most, List.replicate i (-1), [], 0, 0, [], []⟩ ⟨A, i, c, none, 0, 0, none, 0, 0, none, 0, 0⟩
  res : Jx W w.heap.size jn0 jp0
  own : Orw shI 3 (fun _ => True) (w.heap.size + 2) W (.slice A i c) (List.replicate i (-1))
theorem JK.push {w W w' : World} {s : Bool} {room most : Int} {i : Nat} {A : Option Addr} {c : Nat} (h : JK w W s room most i A c) {v' : Value} (ho : Orw shI 3 (fun _ => True) (w.heap.size + 2) w' v' (List.replicate i (-1) ++ [-1])) (hg : (W.alloc (.cells #[.int .i64 (-1)] 3)).grownBy w' (Value.slice A i c).ownBlock) :
    ∃ A' c', v' = .slice A' (i + 1) c' ∧ Jx w' (w.heap.size + 1) ⟨s, room, most, List.replicate i (-1), [], 0, 0, [], []⟩ ⟨A, i, c, none, 0, 0, none, 0, 0, none, 0, 0⟩ ∧ JK w (w'.setCell ⟨w.heap.size + 1, 3, none⟩ (.slice A' (i + 1) c')) s room most (i + 1) A' c' := by
  obtain ⟨A', c', hv, -, -⟩ := ho.shape
  rw [List.length_append, List.length_replicate, List.length_singleton] at hv
  subst hv
  have h1 := (Below.refl W.heap.size W).alloc (Nat.le_refl _) (.cells #[.int .i64 (-1)] 3)
  have hO : Offs (fun b => w.heap.size + 2 ≤ b) W w' := (Offs.of_below (X := fun b => w.heap.size + 2 ≤ b) h1).trans (.of_grown hg fun g hg => (h.own.lt hg).1) (fun _ h => h) (fun _ _ h => h)
  have hb := h.box.off hO (by omega)
  have hr := h.res.off hO (by omega)
  have he : List.replicate i (-1 : Int) ++ [-1] = List.replicate (i + 1) (-1) := by rw [List.replicate_succ']
  rw [he] at ho
  refine ⟨A', c', rfl, hb, ?_, ?_, hr.other _ (by omega), ?_⟩
  · exact (h.bel.trans (hO.below (B := w.heap.size) (fun b hb h => by omega) (Nat.le_trans (Nat.le_succ _) (Nat.le_of_lt h.box.lt)))).setCell (p := ⟨w.heap.size + 1, 3, none⟩) (Nat.le_succ _) _
  · exact hb.s3 A' (i + 1) c' _
  · refine (ho.mono (G := fun _ => True) fun _ _ _ => trivial).anyK (w' := _) (.of_offs (Offs.set (X := fun b => b = w.heap.size + 1) _ _ 3 _ rfl) fun b hb e => ?_)
    have := (ho.lt hb).1
    omega

theorem jnew_ways {links room most : Int} (h : jnewR links room most = false) :
    links < 1 ∨ (¬ links < 1 ∧ 16 < links) ∨ (¬ links < 1 ∧ ¬ 16 < links ∧ room < 1) ∨ (¬ links < 1 ∧ ¬ 16 < links ∧ ¬ room < 1 ∧ 4096 < room) ∨ (¬ links < 1 ∧ ¬ 16 < links ∧ ¬ room < 1 ∧ ¬ 4096 < room ∧ most < 1) ∨ (¬ links < 1 ∧ ¬ 16 < links ∧ ¬ room < 1 ∧ ¬ 4096 < room ∧ ¬ most < 1 ∧ 1048576 < most) := by
  simp only [jnewR, Bool.and_eq_false_iff, decide_eq_false_iff_not] at h
  omega
set_option maxHeartbeats 2000000 in
theorem jnew_bad (s : Bool) (links room most : Int) (w : World) (h : jnewR links room most = false) :
    Calls Tryd.prog 9 #[.bool s, .int .i64 links, .int .i64 room, .int .i64 most] w fun e w' => e = .returned (.tuple #[jn0.val jp0, .int .i64 1]) ∧ Below w.heap.size w w' := by
  have C := Lib.hid (And.intro ((Below.refl w.heap.size w).alloc (Nat.le_refl _) (jn0.obj jp0)) (Jx.new w jn0 jp0))
  have WAYS := jnew_ways h
  clear h
  go_enter Tryd.func9, Tryd.ntmps9
  go_upto_region 1 with fail
  refine at_worldJ (fun W => Hid (Below w.heap.size w W ∧ Jx W w.heap.size jn0 jp0)) C ?_
  clear C
  rintro W C
  rcases WAYS with t1 | ⟨t1, t2⟩ | ⟨t1, t2, t3⟩ | ⟨t1, t2, t3, t4⟩ | ⟨t1, t2, t3, t4, t5⟩ | ⟨t1, t2, t3, t4, t5, t6⟩
  all_goals
    have r0 := C.out.2.fz 0
    have v0 := C.out.2.c0
    have r1 := C.out.2.fz 1
    have v1 := C.out.2.c1
    have r2 := C.out.2.fz 2
    have v2 := C.out.2.c2
    have r3 := C.out.2.fz 3
    have v3 := C.out.2.c3
    have r4 := C.out.2.fz 4
    have v4 := C.out.2.c4
    have r5 := C.out.2.fz 5
    have v5 := C.out.2.c5
    have r6 := C.out.2.fz 6
    have v6 := C.out.2.c6
    have r7 := C.out.2.fz 7
    have v7 := C.out.2.c7
    have r8 := C.out.2.fz 8
    have v8 := C.out.2.c8
    go_wp2_with fail
    have p1 := put9_jx C.out.2 jn0 jp0
    refine bodyPost_ret (v := .tuple #[jn0.val jp0, .int .i64 1]) ?_ rfl ⟨rfl, put9_below C.out.1 (Nat.le_refl _) jn0 jp0⟩
    exact jo_res rfl _ _ _ w.heap.size 33 _ _ _ rfl rfl p1 Tryd.underlying33 (by kernel_rfl)

set_option maxHeartbeats 2000000 in
theorem jnew_any (s : Bool) (links : Nat) (room most : Int) (w : World) (h1 : 0 < links) (h2 : links ≤ 16) (h3 : 1 ≤ room) (h4 : room ≤ 4096) (h5 : 1 ≤ most) (h6 : most ≤ 1048576) :
    Calls Tryd.prog 9 #[.bool s, .int .i64 (links : Int), .int .i64 room, .int .i64 most] w fun e w' => ∃ q', e = .returned (.tuple #[(jnew s links room most).val q', .int .i64 0]) ∧ Jr (fun b => w.heap.size ≤ b) w' (jnew s links room most) q' ∧ Below w.heap.size w w' := by
  obtain ⟨i0, hi, hz0, hz1, hz2⟩ := info_parts int_info
  have t1 : ¬ (links : Int) < 1 := by omega
  have t2 : ¬ (16 : Int) < (links : Int) := by omega
  have t3 : ¬ room < 1 := by omega
  have t4 : ¬ (4096 : Int) < room := by omega
  have t5 : ¬ most < 1 := by omega
  have t6 : ¬ (1048576 : Int) < most := by omega
  have H2 := Lib.hid h2
  have C : Hid (JK w ((w.alloc (jn0.obj jp0)).alloc (.cells #[.bool s, .int .i64 room, .int .i64 most, .slice none 0 0, .slice none 0 0, .int .i64 0, .int .i64 0, .slice none 0 0, .slice none 0 0] 33)) s room most 0 none 0) := by
    refine Lib.hid ⟨((Below.refl _ _).alloc (Nat.le_refl _) _).alloc (by simp) _, ?_, (Jx.new w jn0 jp0).on ((Below.refl _ _).alloc (Nat.le_refl _) _), Orw.nil _ _ _ _ _⟩
    have := Jx.new (w.alloc (jn0.obj jp0)) ⟨s, room, most, [], [], 0, 0, [], []⟩ ⟨none, 0, 0, none, 0, 0, none, 0, 0, none, 0, 0⟩
    simpa using this
  clear h1 h2 h3 h4 h5 h6
  go_enter Tryd.func9, Tryd.ntmps9
  go_upto_region 4 with fail
  refine at_worldJ (fun W => Hid (JK w W s room most 0 none 0)) C ?_
  clear C t1 t2 t3 t4 t5 t6
  rintro W C
  go_wp2_with fail
  go_loopw [11] (fun v wr => ∃ (i : Nat) (A : Option Addr) (c : Nat), i ≤ links ∧ v = .int .i64 (i : Int) ∧ Hid (JK w wr s room most i A c)) (fun v _ => links - (intOf v).toNat)
  case atStart => exact ⟨0, none, 0, Nat.zero_le _, rfl, C⟩
  case round =>
    clear C
    obtain ⟨i, A, c, hil, rfl, C⟩ := hrel
    have y3 := C.out.box.c3
    have f3 := C.out.box.fz 3
    by_cases hlt : i < links
    · have i1 : (i : Int) < (links : Int) := by omega
      have hl16 := H2.out
      go_wp2_with (at_builtin; refine list_rows shI rfl _ _ _ rfl 3 i0 (.int .i64 0) 8 Tryd.underlying28 hi hz0 hz1 hz2 rfl (by decide) (fun _ => True) _ (w.heap.size + 2) _ i (List.replicate i (-1)) rfl (C.out.own.below ((Below.refl _ _).alloc (Nat.le_refl _) _)) List.length_replicate _ 1 1 [-1] rfl (liti (F := fun b => wr.heap.size ≤ b) wr (-1)).read rfl (fun b _ hf => ⟨trivial, fun e => absurd (C.out.own.lt e).2 (Nat.not_lt.2 (hf.elim id id))⟩) (by unfold maxLen; omega) (by omega) (by have := C.out.box.lt; simp; omega) ?_; (intro v7 w7 ho7 hg7 hm7; obtain ⟨A7, c7, hv, hx, D⟩ := C.out.push ho7 hg7; subst hv; replace D := Lib.hid D; have y3' := hx.c3; have f3' := hx.fz 3; clear ho7 hg7 hm7))
      go_roundw
      case rel => exact ⟨i + 1, A7, c7, by omega, by go_num, D⟩
      case measure => simp [intOf]; omega
    · have he : i = links := by omega
      subst he
      clear y3 f3
      have y0 := C.out.box.c0
      have r0 := C.out.res.fz 0
      have v0 := C.out.res.c0
      have y1 := C.out.box.c1
      have r1 := C.out.res.fz 1
      have v1 := C.out.res.c1
      have y2 := C.out.box.c2
      have r2 := C.out.res.fz 2
      have v2 := C.out.res.c2
      have y3 := C.out.box.c3
      have r3 := C.out.res.fz 3
      have v3 := C.out.res.c3
      have y4 := C.out.box.c4
      have r4 := C.out.res.fz 4
      have v4 := C.out.res.c4
      have y5 := C.out.box.c5
      have r5 := C.out.res.fz 5
      have v5 := C.out.res.c5
      have y6 := C.out.box.c6
      have r6 := C.out.res.fz 6
      have v6 := C.out.res.c6
      have y7 := C.out.box.c7
      have r7 := C.out.res.fz 7
      have v7 := C.out.res.c7
      have y8 := C.out.box.c8
      have r8 := C.out.res.fz 8
      have v8 := C.out.res.c8
      go_wp2_with fail
      rw [show jnew s i room most = ⟨s, room, most, List.replicate i (-1), [], 0, 0, [], []⟩ from rfl]
      have p1 := put9_jx C.out.res ⟨s, room, most, List.replicate i (-1), [], 0, 0, [], []⟩ ⟨A, i, c, none, 0, 0, none, 0, 0, none, 0, 0⟩
      have hO := put9_offs (X := fun b => b = w.heap.size) wr w.heap.size rfl ⟨s, room, most, List.replicate i (-1), [], 0, 0, [], []⟩ ⟨A, i, c, none, 0, 0, none, 0, 0, none, 0, 0⟩
      have p2 : Rws shI (fun b => w.heap.size ≤ b) (put9 wr w.heap.size ⟨s, room, most, List.replicate i (-1), [], 0, 0, [], []⟩ ⟨A, i, c, none, 0, 0, none, 0, 0, none, 0, 0⟩) A (List.replicate i (-1)) :=
        ((C.out.own.anyN (G := fun _ => False)).read.keep (.of_offs hO fun b hb e => by have := hb.resolve_left id; omega)).mono fun _ _ hb => hb.elim False.elim (fun h => by omega)
      have p3 : Jr (fun b => w.heap.size ≤ b) (put9 wr w.heap.size ⟨s, room, most, List.replicate i (-1), [], 0, 0, [], []⟩ ⟨A, i, c, none, 0, 0, none, 0, 0, none, 0, 0⟩) ⟨s, room, most, List.replicate i (-1), [], 0, 0, [], []⟩ ⟨A, i, c, none, 0, 0, none, 0, 0, none, 0, 0⟩ := ⟨List.length_replicate, p2, rfl, Rws.nil, rfl, Nat.le_refl _, RdF.nil, rfl, Rws.nil⟩
      have p5 := put9_below C.out.bel (Nat.le_refl _) ⟨s, room, most, List.replicate i (-1), [], 0, 0, [], []⟩ ⟨A, i, c, none, 0, 0, none, 0, 0, none, 0, 0⟩
      refine bodyPost_ret (v := .tuple #[Jn.val ⟨s, room, most, List.replicate i (-1), [], 0, 0, [], []⟩ ⟨A, i, c, none, 0, 0, none, 0, 0, none, 0, 0⟩, .int .i64 0]) ?_ rfl ⟨⟨A, i, c, none, 0, 0, none, 0, 0, none, 0, 0⟩, rfl, p3, p5⟩
      exact jo_res rfl _ _ _ w.heap.size 33 _ _ _ rfl rfl p1 Tryd.underlying33 (by kernel_rfl)
end
end Go.Proofs.YtamdaepeogmboaaDoor
