
/-
  What the document's lack answers: places lack. Conditions: sizes below 2^30, places that are no more than 2^62.
-/
import Derived.Test.YtamdaepeogmboaaDoorJoiC
import Derived.Deep.CutRange
import Derived.Deep.RegionHeld3
import Derived.BigQuiet
namespace Go.Proofs.YtamdaepeogmboaaDoor
set_option maxRecDepth 4000
open Go.RowKit

/-- One event in a new block. -/
theorem litv {F : Nat → Prop} (w : World) {T : TypeId} (x : Ev) {A : Option Addr} {n c : Nat} (hl : x.d.length = n) (hc : n ≤ c) (h : RdF F w A x.d) :
    Orw shEv T F w.heap.size (w.alloc (.cells #[.int .i64 x.k, .slice A n c, .int .i64 x.f, .int .i64 x.m] T)) (.slice (some ⟨w.heap.size, 0, none⟩) 1 1) [x] := by
  subst hl
  refine Orw.lit w [[.int .i64 x.k, .slice A x.d.length c, .int .i64 x.f, .int .i64 x.m]] rfl (fun k y cs hx hk => ?_) (by simp)
  rcases k with _ | k
  · injection hx with hx
    injection hk with hk
    subst hx; subst hk
    exact ⟨A, c, rfl, hc, h⟩
  · simp at hx
theorem JC.litv {G F : Nat → Prop} {k r B : Nat} {w W : World} {q0 : Jp} {jb : Jn} {qb : Jp} {j : Jn} {q : Jp} (h : JC G F k r B w W q0 jb qb j q) {T : TypeId} {x : Ev} {A : Option Addr} {n c : Nat} (hl : x.d.length = n) (hc : n ≤ c) (hr : RdF (fun b => F b ∧ q.tv.ownBlock ≠ some b) W A x.d) :
    Rws shEv (fun b => F b ∧ q.tv.ownBlock ≠ some b) (W.alloc (.cells #[.int .i64 x.k, .slice A n c, .int .i64 x.f, .int .i64 x.m] T)) (some ⟨W.heap.size, 0, none⟩) [x] :=
  (Go.Proofs.YtamdaepeogmboaaDoor.litv W x hl hc hr).read.mono fun _ _ hb => hb.elim id fun hb => h.fresh _ hb

set_option maxHeartbeats 4000000 in
theorem jlack_any (j : Jn) (q : Jp) (e : Int) (G : Nat → Prop) (B : Nat) (w : World) (h : Jw G B w j q) (hB : B ≤ w.heap.size) (hn : q.tn ≤ 1073741824) (n0 : 0 ≤ j.next) (n1 : j.next ≤ 4611686018427387904) (e0 : 0 ≤ e) (e1 : e ≤ 4611686018427387904) :
    Calls Tryd.prog 23 #[j.val q, .int .i64 e] w (JA G B w q (jlack j e)) := by
  obtain ⟨i0, hi, hz0, hz1, hz2⟩ := info_parts rev_info
  have HT := Lib.hid hn
  have HB := Lib.hid hB
  obtain ⟨M, hM⟩ : ∃ M, Hid (frmod j.sh = M) := ⟨_, Lib.hid rfl⟩
  have hmod := fun W => jmod_any j.sh W
  rw [hM.out] at hmod
  have m0 : ¬ M = 0 := by rw [← hM.out]; exact Nat.pos_iff_ne_zero.1 (frmod_pos _)
  obtain ⟨rm, hrm⟩ : ∃ rm, Hid (j.next.tmod (M : Int) = rm) := ⟨_, Lib.hid rfl⟩
  have d2 := hrm.out
  obtain ⟨x, hx⟩ : ∃ x, Hid ((⟨1, [], rm, e - j.next⟩ : Ev) = x) := ⟨_, Lib.hid rfl⟩
  have wr1 : IntKind.i64.wrap (e - j.next) = e - j.next := IntWalk.i64_in _ (by omega)
  have wr2 : wrap64 (e - j.next) = e - j.next := IntWalk.wrap64_in _ (by omega)
  obtain ⟨F, C⟩ := JC.start2 h
  replace C := Lib.hid C
  clear h hn hB n0 n1 e0 e1
  go_enter Tryd.func23, Tryd.ntmps23
  go_upto_region 1 with fail
  refine at_worldJ (fun W => Hid (JC G F 2 1 B w W q j q j q)) C ?_
  clear C
  rintro W C
  refine wp_region_held_drew (S := (fun W' => W'.cell? ⟨w.heap.size, 5, none⟩ = some (.int .i64 j.next) ∧ W'.cell? ⟨w.heap.size, 0, none⟩ = some (.bool j.sh))) (by kernel_rfl) (by exact ⟨C.out.box.c5, C.out.box.c0⟩) (fun _ => ?_)
  refine at_worldJ (fun W => Hid (JC G F 2 1 B w W q j q j q)) (Lib.hid C.out.drew) ?_
  clear C
  rintro W C
  refine wpAnyH_take (i := 0) (oi := ?ol1) (v := ?vl1) ?hil1 (by kernel_rfl) (by kernel_rfl) (by kernel_rfl) ?hql1 (Or.inl ⟨?hwl1, ?hyl1⟩) (by exact ⟨C.out.box.c5, C.out.box.c0⟩) ?restl1
  case hil1 => (simp only [List.getElem?_toArray, List.getElem?_cons_zero]; rfl)
  case hwl1 => (rfl)
  case hql1 => (exact fun _ _ _ h => h)
  case hyl1 => (intro w' hSw; obtain ⟨s5, s0⟩ := hSw; go_simp; (try with_reducible rfl))
  try simp only [Act.put, List.setIfInBounds_toArray, List.set_cons_zero, List.set_cons_succ]
  refine wpAnyH_take (i := 2) (oi := ?ol2) (v := ?vl2) ?hil2 (by kernel_rfl) (by kernel_rfl) (by kernel_rfl) ?hql2 (Or.inl ⟨?hwl2, ?hyl2⟩) (by exact ⟨C.out.box.c5, C.out.box.c0⟩) ?restl2
  case hil2 => (simp only [List.getElem?_toArray, List.getElem?_cons_succ, List.getElem?_cons_zero]; rfl)
  case hwl2 => (rfl)
  case hql2 => (exact fun _ _ _ h => h)
  case hyl2 => (intro w' hSw; obtain ⟨s5, s0⟩ := hSw; go_simp; (try with_reducible rfl))
  try simp only [Act.put, List.setIfInBounds_toArray, List.set_cons_zero, List.set_cons_succ]
  refine wpAnyH_take (i := 3) (oi := ?ol3) (v := ?vl3) ?hil3 (by kernel_rfl) (by kernel_rfl) (by kernel_rfl) ?hql3 (Or.inl ⟨?hwl3, ?hyl3⟩) (by exact ⟨C.out.box.c5, C.out.box.c0⟩) ?restl3
  case hil3 => (simp only [List.getElem?_toArray, List.getElem?_cons_succ, List.getElem?_cons_zero]; rfl)
  case hwl3 => (rfl)
  case hql3 => (exact fun _ _ _ h => h)
  case hyl3 => (intro w' hSw; obtain ⟨s5, s0⟩ := hSw; go_simp; (try with_reducible rfl))
  try simp only [Act.put, List.setIfInBounds_toArray, List.set_cons_zero, List.set_cons_succ]
  refine wpAnyH_take (i := 4) (oi := ?ol4) (v := ?vl4) ?hil4 (by kernel_rfl) (by kernel_rfl) (by kernel_rfl) ?hql4 (Or.inl ⟨?hwl4, ?hyl4⟩) (by exact ⟨C.out.box.c5, C.out.box.c0⟩) ?restl4
  case hil4 => (simp only [List.getElem?_toArray, List.getElem?_cons_succ, List.getElem?_cons_zero]; rfl)
  case hwl4 => (rfl)
  case hql4 => (exact fun _ _ _ h => h)
  case hyl4 => (intro w' hSw; obtain ⟨s5, s0⟩ := hSw; go_simp; (try with_reducible rfl))
  try simp only [Act.put, List.setIfInBounds_toArray, List.set_cons_zero, List.set_cons_succ]
  refine wpAnyH_take (i := 5) (oi := ?ol5) (v := ?vl5) ?hil5 (by kernel_rfl) (by kernel_rfl) (by kernel_rfl) ?hql5 (Or.inl ⟨?hwl5, ?hyl5⟩) (by exact ⟨C.out.box.c5, C.out.box.c0⟩) ?restl5
  case hil5 => (simp only [List.getElem?_toArray, List.getElem?_cons_succ, List.getElem?_cons_zero]; rfl)
  case hwl5 => (rfl)
  case hql5 => (exact fun _ _ _ h => h)
  case hyl5 => (intro w' hSw; obtain ⟨s5, s0⟩ := hSw; go_simp; (try with_reducible rfl))
  try simp only [Act.put, List.setIfInBounds_toArray, List.set_cons_zero, List.set_cons_succ]
  refine wpAnyH_take (i := 8) (oi := ?ol6) (v := ?vl6) ?hil6 (by kernel_rfl) (by kernel_rfl) (by kernel_rfl) ?hql6 (Or.inl ⟨?hwl6, ?hyl6⟩) (by exact ⟨C.out.box.c5, C.out.box.c0⟩) ?restl6
  case hil6 => (simp only [List.getElem?_toArray, List.getElem?_cons_succ, List.getElem?_cons_zero]; rfl)
  case hwl6 => (rfl)
  case hql6 => (exact fun _ _ _ h => h)
  case hyl6 => (intro w' hSw; obtain ⟨s5, s0⟩ := hSw; go_simp; (try with_reducible rfl))
  try simp only [Act.put, List.setIfInBounds_toArray, List.set_cons_zero, List.set_cons_succ]
  refine wpAnyH_take (i := 9) (oi := ?ol7) (v := ?vl7) ?hil7 (by kernel_rfl) (by kernel_rfl) (by kernel_rfl) ?hql7 (Or.inl ⟨?hwl7, ?hyl7⟩) (by exact ⟨C.out.box.c5, C.out.box.c0⟩) ?restl7
  case hil7 => (simp only [List.getElem?_toArray, List.getElem?_cons_succ, List.getElem?_cons_zero]; rfl)
  case hwl7 => (rfl)
  case hql7 => (exact fun _ _ _ h => h)
  case hyl7 => (intro w' hSw; obtain ⟨s5, s0⟩ := hSw; go_simp; (try with_reducible rfl))
  try simp only [Act.put, List.setIfInBounds_toArray, List.set_cons_zero, List.set_cons_succ]
  refine wpAnyH_take (i := 10) (oi := ?ol8) (v := ?vl8) ?hil8 (by kernel_rfl) (by kernel_rfl) (by kernel_rfl) ?hql8 (Or.inl ⟨?hwl8, ?hyl8⟩) (by exact ⟨C.out.box.c5, C.out.box.c0⟩) ?restl8
  case hil8 => (simp only [List.getElem?_toArray, List.getElem?_cons_succ, List.getElem?_cons_zero]; rfl)
  case hwl8 => (rfl)
  case hql8 => (exact fun _ _ _ h => h)
  case hyl8 => (intro w' hSw; obtain ⟨s5, s0⟩ := hSw; go_simp; (try with_reducible rfl))
  try simp only [Act.put, List.setIfInBounds_toArray, List.set_cons_zero, List.set_cons_succ]
  refine wpAnyH_take (i := 11) (oi := ?ol9) (v := ?vl9) ?hil9 (by kernel_rfl) (by kernel_rfl) (by kernel_rfl) ?hql9 (Or.inl ⟨?hwl9, ?hyl9⟩) (by exact ⟨C.out.box.c5, C.out.box.c0⟩) ?restl9
  case hil9 => (simp only [List.getElem?_toArray, List.getElem?_cons_succ, List.getElem?_cons_zero]; rfl)
  case hwl9 => (rfl)
  case hql9 => (exact fun _ _ _ h => h)
  case hyl9 => (intro w' hSw; obtain ⟨s5, s0⟩ := hSw; go_simp; (try with_reducible rfl))
  try simp only [Act.put, List.setIfInBounds_toArray, List.set_cons_zero, List.set_cons_succ]
  refine wpAnyH_ready (rs := [1, 6]) (by kernel_rfl) (by simp) ?_
  refine (AllReadyH.cons (o := ?ol11) ?hil11 (fun K hK => ?stl11) (AllReadyH.cons (o := ?ol10) ?hil10 (fun K hK => ?stl10) AllReadyH.nil))
  case hil11 => (simp only [List.getElem?_toArray, List.getElem?_cons_succ, List.getElem?_cons_zero]; rfl)
  case hil10 => (simp only [List.getElem?_toArray, List.getElem?_cons_succ, List.getElem?_cons_zero]; rfl)
  case stl11 =>
    have x9 := C.out.box.c8
    go_simp
    refine hK.out _ _ (by exact ⟨C.out.box.c5, C.out.box.c0⟩) (fun _ => ?_)
    clear hK K
    try simp only [Act.put, List.setIfInBounds_toArray, List.set_cons_zero, List.set_cons_succ]
    clear x9
    refine wpAnyH_ready (rs := [6]) (by kernel_rfl) (by simp) ?_
    refine (AllReadyH.cons (o := ?ol12) ?hil12 (fun K hK => ?stl12) AllReadyH.nil)
    case hil12 => (simp only [List.getElem?_toArray, List.getElem?_cons_succ, List.getElem?_cons_zero]; rfl)
    case stl12 =>
      go_simp
      go_at_call 26
      (with_reducible refine (hmod _).mono ?_)
      rintro r w3 ⟨rfl, rfl⟩
      dsimp only
      refine hK.out _ _ (by exact ⟨C.out.box.c5, C.out.box.c0⟩) (fun _ => ?_)
      clear hK K
      try simp only [Act.put, List.setIfInBounds_toArray, List.set_cons_zero, List.set_cons_succ]
      refine wpAnyH_take (i := 7) (oi := ?ol13) (v := ?vl13) ?hil13 (by kernel_rfl) (by kernel_rfl) (by kernel_rfl) ?hql13 (Or.inl ⟨?hwl13, ?hyl13⟩) (by exact ⟨C.out.box.c5, C.out.box.c0⟩) ?restl13
      case hil13 => (simp only [List.getElem?_toArray, List.getElem?_cons_succ, List.getElem?_cons_zero]; rfl)
      case hwl13 => (rfl)
      case hql13 => (exact fun _ _ _ h => h)
      case hyl13 => (intro w' hSw; obtain ⟨s5, s0⟩ := hSw; go_simp; (try with_reducible rfl))
      try simp only [Act.put, List.setIfInBounds_toArray, List.set_cons_zero, List.set_cons_succ]
      refine wpAnyH_take (i := 12) (oi := ?ol14) (v := ?vl14) ?hil14 (by kernel_rfl) (by kernel_rfl) (by kernel_rfl) ?hql14 (Or.inl ⟨?hwl14, ?hyl14⟩) (by exact ⟨C.out.box.c5, C.out.box.c0⟩) ?restl14
      case hil14 => (simp only [List.getElem?_toArray, List.getElem?_cons_succ, List.getElem?_cons_zero]; rfl)
      case hwl14 => (rfl)
      case hql14 => (exact fun _ _ _ h => h)
      case hyl14 => (intro w' hSw; obtain ⟨s5, s0⟩ := hSw; go_simp; (try with_reducible rfl))
      try simp only [Act.put, List.setIfInBounds_toArray, List.set_cons_zero, List.set_cons_succ]
      refine wpAnyH_ready (rs := [13]) (by kernel_rfl) (by simp) ?_
      refine (AllReadyH.cons (o := ?ol15) ?hil15 (fun K hK => ?stl15) AllReadyH.nil)
      case hil15 => (simp only [List.getElem?_toArray, List.getElem?_cons_succ, List.getElem?_cons_zero]; rfl)
      case stl15 =>
        go_simp
        refine hK.out _ _ (by exact ⟨(C.out.al _).box.c5, (C.out.al _).box.c0⟩) (fun _ => ?_)
        clear hK K
        try simp only [Act.put, List.setIfInBounds_toArray, List.set_cons_zero, List.set_cons_succ]
        obtain ⟨z, hz⟩ : ∃ z, W.heap.size = z := ⟨_, rfl⟩
        rw [hz]
        refine at_worldJ (fun W => Hid (JC G F 2 1 B w W q j q j q) ∧ Hid (Rws shEv (fun b => F b ∧ q.tv.ownBlock ≠ some b) W (some ⟨z, 0, none⟩) [x])) ⟨Lib.hid (C.out.al _), Lib.hid (hz ▸ hx.out ▸ C.out.litv (x := ⟨1, [], rm, e - j.next⟩) rfl (Nat.le_refl _) RdF.nil)⟩ ?_
        clear C hz
        rintro W ⟨C, FB⟩
        refine wpAnyH_ready (rs := [14]) (by kernel_rfl) (by simp) ?_
        refine (AllReadyH.cons (o := ?ol16) ?hil16 (fun K hK => ?stl16) AllReadyH.nil)
        case hil16 => (simp only [List.getElem?_toArray, List.getElem?_cons_succ, List.getElem?_cons_zero]; rfl)
        case stl16 =>
          refine step_rows shEv _ (by rfl) _ _ _ (by rfl) 76 i0 (.agg #[.int .i64 0, .slice none 0 0, .int .i64 0, .int .i64 0]) 48 Tryd.underlying31 hi hz0 hz1 hz2 rfl (by decide) F _ B _ q.tn j.told (by rfl) C.out.jw.ot C.out.jw.t1 _ 1 1 [x] (by rfl) FB.out rfl (fun b _ hb => hb) (by unfold maxLen; have := HT.out; omega) (by have := HT.out; omega) (Nat.le_trans HB.out C.out.off.size) ?_
          intro v7 w7 ho7 hg7 hm7
          obtain ⟨A7, c7, Q⟩ := C.out.push ho7 hg7 hm7 (by omega) (by omega)
          obtain ⟨hv, Q⟩ := Q
          subst hv
          have Q := And.intro trivial Q
          refine hK.out _ _ (by exact ⟨Q.2.box.c5, Q.2.box.c0⟩) (fun _ => ?_)
          clear hK K
          try simp only [Act.put, List.setIfInBounds_toArray, List.set_cons_zero, List.set_cons_succ]
          have D := Lib.hid Q.2
          clear Q ho7 hg7 hm7 C FB
          refine wpAnyH_take (i := 15) (oi := ?ol17) (v := ?vl17) ?hil17 (by kernel_rfl) (by kernel_rfl) (by kernel_rfl) ?hql17 (Or.inl ⟨?hwl17, ?hyl17⟩) (by exact ⟨D.out.box.c5, D.out.box.c0⟩) ?restl17
          case hil17 => (simp only [List.getElem?_toArray, List.getElem?_cons_succ, List.getElem?_cons_zero]; rfl)
          case hwl17 => (rfl)
          case hql17 => (exact fun _ _ _ h => h)
          case hyl17 => (intro w' hSw; obtain ⟨s5, s0⟩ := hSw; go_simp; (try with_reducible rfl))
          try simp only [Act.put, List.setIfInBounds_toArray, List.set_cons_zero, List.set_cons_succ]
          refine wpAnyH_ready (rs := [16]) (by kernel_rfl) (by simp) ?_
          refine (AllReadyH.cons (o := ?ol18) ?hil18 (fun K hK => ?stl18) AllReadyH.nil)
          case hil18 => (simp only [List.getElem?_toArray, List.getElem?_cons_succ, List.getElem?_cons_zero]; rfl)
          case stl18 =>
            have u9 := D.out.box.c8
            have z9 := D.out.box.fz 8
            go_simp
            refine hK.out _ _ (by exact ⟨(D.out.s8 (by omega) (by omega)).box.c5, (D.out.s8 (by omega) (by omega)).box.c0⟩) (fun _ => ?_)
            clear hK K
            try simp only [Act.put, List.setIfInBounds_toArray, List.set_cons_zero, List.set_cons_succ]
            clear u9 z9
            have C := Lib.hid (D.out.s8 (by omega) (by omega))
            clear D
            refine wpAnyH_done (by kernel_rfl) ?_ _
            refine at_worldJ (fun W => Hid (JC G F 2 1 B w W q { j with told := j.told ++ [x] } { q with ta := A7, tn := q.tn + 1, tc := c7 } { j with told := j.told ++ [x] } { q with ta := A7, tn := q.tn + 1, tc := c7 })) C ?_
            clear C
            rintro W C
            have D := Lib.hid (((C.out.s5 (by omega) (by omega) e).s6 (by omega) (by omega) 2).s7n (by omega) (by omega))
            have y5 := C.out.box.c5
            have y6 := C.out.box.c6
            have y7 := C.out.box.c7
            have f5 := C.out.box.fz 5
            have f6 := C.out.box.fz 6
            have f7 := C.out.box.fz 7
            go_upto_region 5 with fail
            refine at_worldJ (fun W => Hid (JC G F 2 1 B w W q { j with told := j.told ++ [x], next := e, mode := 2, data := [] } { q with da := none, dn := 0, dc := 0, ta := A7, tn := q.tn + 1, tc := c7 } { j with told := j.told ++ [x], next := e, mode := 2, data := [] } { q with da := none, dn := 0, dc := 0, ta := A7, tn := q.tn + 1, tc := c7 })) D ?_
            clear C D y5 y6 y7 f5 f6 f7
            rintro W D
            have y0 := D.out.box.c0
            have r0 := D.out.res.fz 0
            have v0 := D.out.res.c0
            have y1 := D.out.box.c1
            have r1 := D.out.res.fz 1
            have v1 := D.out.res.c1
            have y2 := D.out.box.c2
            have r2 := D.out.res.fz 2
            have v2 := D.out.res.c2
            have y3 := D.out.box.c3
            have r3 := D.out.res.fz 3
            have v3 := D.out.res.c3
            have y4 := D.out.box.c4
            have r4 := D.out.res.fz 4
            have v4 := D.out.res.c4
            have y5 := D.out.box.c5
            have r5 := D.out.res.fz 5
            have v5 := D.out.res.c5
            have y6 := D.out.box.c6
            have r6 := D.out.res.fz 6
            have v6 := D.out.res.c6
            have y7 := D.out.box.c7
            have r7 := D.out.res.fz 7
            have v7 := D.out.res.c7
            have y8 := D.out.box.c8
            have r8 := D.out.res.fz 8
            have v8 := D.out.res.c8
            go_wp2_with fail
            obtain ⟨p1, p2, p3, p4⟩ := D.out.put (by omega)
            refine bodyPost_ret (v := (jlack j e).val { q with da := none, dn := 0, dc := 0, ta := A7, tn := q.tn + 1, tc := c7 }) ?_ rfl ⟨_, rfl, ?_, p3, p4⟩
            · exact results_cell_row rfl _ _ (w.heap.size + 1) 33 _ _ _ rfl p1 Tryd.underlying33 rfl (by kernel_rfl)
            · rw [show jlack j e = { j with told := j.told ++ [x], next := e, mode := 2, data := [] } by rw [← hx.out, ← hrm.out, ← hM.out]; rfl]
              exact p2
  case stl10 =>
    go_simp
    go_at_call 26
    (with_reducible refine (hmod _).mono ?_)
    rintro r w3 ⟨rfl, rfl⟩
    dsimp only
    refine hK.out _ _ (by exact ⟨C.out.box.c5, C.out.box.c0⟩) (fun _ => ?_)
    clear hK K
    try simp only [Act.put, List.setIfInBounds_toArray, List.set_cons_zero, List.set_cons_succ]
    refine wpAnyH_take (i := 7) (oi := ?ol19) (v := ?vl19) ?hil19 (by kernel_rfl) (by kernel_rfl) (by kernel_rfl) ?hql19 (Or.inl ⟨?hwl19, ?hyl19⟩) (by exact ⟨C.out.box.c5, C.out.box.c0⟩) ?restl19
    case hil19 => (simp only [List.getElem?_toArray, List.getElem?_cons_succ, List.getElem?_cons_zero]; rfl)
    case hwl19 => (rfl)
    case hql19 => (exact fun _ _ _ h => h)
    case hyl19 => (intro w' hSw; obtain ⟨s5, s0⟩ := hSw; go_simp; (try with_reducible rfl))
    try simp only [Act.put, List.setIfInBounds_toArray, List.set_cons_zero, List.set_cons_succ]
    refine wpAnyH_take (i := 12) (oi := ?ol20) (v := ?vl20) ?hil20 (by kernel_rfl) (by kernel_rfl) (by kernel_rfl) ?hql20 (Or.inl ⟨?hwl20, ?hyl20⟩) (by exact ⟨C.out.box.c5, C.out.box.c0⟩) ?restl20
    case hil20 => (simp only [List.getElem?_toArray, List.getElem?_cons_succ, List.getElem?_cons_zero]; rfl)
    case hwl20 => (rfl)
    case hql20 => (exact fun _ _ _ h => h)
    case hyl20 => (intro w' hSw; obtain ⟨s5, s0⟩ := hSw; go_simp; (try with_reducible rfl))
    try simp only [Act.put, List.setIfInBounds_toArray, List.set_cons_zero, List.set_cons_succ]
    refine wpAnyH_ready (rs := [1, 13]) (by kernel_rfl) (by simp) ?_
    refine (AllReadyH.cons (o := ?ol22) ?hil22 (fun K hK => ?stl22) (AllReadyH.cons (o := ?ol21) ?hil21 (fun K hK => ?stl21) AllReadyH.nil))
    case hil22 => (simp only [List.getElem?_toArray, List.getElem?_cons_succ, List.getElem?_cons_zero]; rfl)
    case hil21 => (simp only [List.getElem?_toArray, List.getElem?_cons_succ, List.getElem?_cons_zero]; rfl)
    case stl22 =>
      have x9 := C.out.box.c8
      go_simp
      refine hK.out _ _ (by exact ⟨C.out.box.c5, C.out.box.c0⟩) (fun _ => ?_)
      clear hK K
      try simp only [Act.put, List.setIfInBounds_toArray, List.set_cons_zero, List.set_cons_succ]
      clear x9
      refine wpAnyH_ready (rs := [13]) (by kernel_rfl) (by simp) ?_
      refine (AllReadyH.cons (o := ?ol23) ?hil23 (fun K hK => ?stl23) AllReadyH.nil)
      case hil23 => (simp only [List.getElem?_toArray, List.getElem?_cons_succ, List.getElem?_cons_zero]; rfl)
      case stl23 =>
        go_simp
        refine hK.out _ _ (by exact ⟨(C.out.al _).box.c5, (C.out.al _).box.c0⟩) (fun _ => ?_)
        clear hK K
        try simp only [Act.put, List.setIfInBounds_toArray, List.set_cons_zero, List.set_cons_succ]
        obtain ⟨z, hz⟩ : ∃ z, W.heap.size = z := ⟨_, rfl⟩
        rw [hz]
        refine at_worldJ (fun W => Hid (JC G F 2 1 B w W q j q j q) ∧ Hid (Rws shEv (fun b => F b ∧ q.tv.ownBlock ≠ some b) W (some ⟨z, 0, none⟩) [x])) ⟨Lib.hid (C.out.al _), Lib.hid (hz ▸ hx.out ▸ C.out.litv (x := ⟨1, [], rm, e - j.next⟩) rfl (Nat.le_refl _) RdF.nil)⟩ ?_
        clear C hz
        rintro W ⟨C, FB⟩
        refine wpAnyH_ready (rs := [14]) (by kernel_rfl) (by simp) ?_
        refine (AllReadyH.cons (o := ?ol24) ?hil24 (fun K hK => ?stl24) AllReadyH.nil)
        case hil24 => (simp only [List.getElem?_toArray, List.getElem?_cons_succ, List.getElem?_cons_zero]; rfl)
        case stl24 =>
          refine step_rows shEv _ (by rfl) _ _ _ (by rfl) 76 i0 (.agg #[.int .i64 0, .slice none 0 0, .int .i64 0, .int .i64 0]) 48 Tryd.underlying31 hi hz0 hz1 hz2 rfl (by decide) F _ B _ q.tn j.told (by rfl) C.out.jw.ot C.out.jw.t1 _ 1 1 [x] (by rfl) FB.out rfl (fun b _ hb => hb) (by unfold maxLen; have := HT.out; omega) (by have := HT.out; omega) (Nat.le_trans HB.out C.out.off.size) ?_
          intro v7 w7 ho7 hg7 hm7
          obtain ⟨A7, c7, Q⟩ := C.out.push ho7 hg7 hm7 (by omega) (by omega)
          obtain ⟨hv, Q⟩ := Q
          subst hv
          have Q := And.intro trivial Q
          refine hK.out _ _ (by exact ⟨Q.2.box.c5, Q.2.box.c0⟩) (fun _ => ?_)
          clear hK K
          try simp only [Act.put, List.setIfInBounds_toArray, List.set_cons_zero, List.set_cons_succ]
          have D := Lib.hid Q.2
          clear Q ho7 hg7 hm7 C FB
          refine wpAnyH_take (i := 15) (oi := ?ol25) (v := ?vl25) ?hil25 (by kernel_rfl) (by kernel_rfl) (by kernel_rfl) ?hql25 (Or.inl ⟨?hwl25, ?hyl25⟩) (by exact ⟨D.out.box.c5, D.out.box.c0⟩) ?restl25
          case hil25 => (simp only [List.getElem?_toArray, List.getElem?_cons_succ, List.getElem?_cons_zero]; rfl)
          case hwl25 => (rfl)
          case hql25 => (exact fun _ _ _ h => h)
          case hyl25 => (intro w' hSw; obtain ⟨s5, s0⟩ := hSw; go_simp; (try with_reducible rfl))
          try simp only [Act.put, List.setIfInBounds_toArray, List.set_cons_zero, List.set_cons_succ]
          refine wpAnyH_ready (rs := [16]) (by kernel_rfl) (by simp) ?_
          refine (AllReadyH.cons (o := ?ol26) ?hil26 (fun K hK => ?stl26) AllReadyH.nil)
          case hil26 => (simp only [List.getElem?_toArray, List.getElem?_cons_succ, List.getElem?_cons_zero]; rfl)
          case stl26 =>
            have u9 := D.out.box.c8
            have z9 := D.out.box.fz 8
            go_simp
            refine hK.out _ _ (by exact ⟨(D.out.s8 (by omega) (by omega)).box.c5, (D.out.s8 (by omega) (by omega)).box.c0⟩) (fun _ => ?_)
            clear hK K
            try simp only [Act.put, List.setIfInBounds_toArray, List.set_cons_zero, List.set_cons_succ]
            clear u9 z9
            have C := Lib.hid (D.out.s8 (by omega) (by omega))
            clear D
            refine wpAnyH_done (by kernel_rfl) ?_ _
            refine at_worldJ (fun W => Hid (JC G F 2 1 B w W q { j with told := j.told ++ [x] } { q with ta := A7, tn := q.tn + 1, tc := c7 } { j with told := j.told ++ [x] } { q with ta := A7, tn := q.tn + 1, tc := c7 })) C ?_
            clear C
            rintro W C
            have D := Lib.hid (((C.out.s5 (by omega) (by omega) e).s6 (by omega) (by omega) 2).s7n (by omega) (by omega))
            have y5 := C.out.box.c5
            have y6 := C.out.box.c6
            have y7 := C.out.box.c7
            have f5 := C.out.box.fz 5
            have f6 := C.out.box.fz 6
            have f7 := C.out.box.fz 7
            go_upto_region 5 with fail
            refine at_worldJ (fun W => Hid (JC G F 2 1 B w W q { j with told := j.told ++ [x], next := e, mode := 2, data := [] } { q with da := none, dn := 0, dc := 0, ta := A7, tn := q.tn + 1, tc := c7 } { j with told := j.told ++ [x], next := e, mode := 2, data := [] } { q with da := none, dn := 0, dc := 0, ta := A7, tn := q.tn + 1, tc := c7 })) D ?_
            clear C D y5 y6 y7 f5 f6 f7
            rintro W D
            have y0 := D.out.box.c0
            have r0 := D.out.res.fz 0
            have v0 := D.out.res.c0
            have y1 := D.out.box.c1
            have r1 := D.out.res.fz 1
            have v1 := D.out.res.c1
            have y2 := D.out.box.c2
            have r2 := D.out.res.fz 2
            have v2 := D.out.res.c2
            have y3 := D.out.box.c3
            have r3 := D.out.res.fz 3
            have v3 := D.out.res.c3
            have y4 := D.out.box.c4
            have r4 := D.out.res.fz 4
            have v4 := D.out.res.c4
            have y5 := D.out.box.c5
            have r5 := D.out.res.fz 5
            have v5 := D.out.res.c5
            have y6 := D.out.box.c6
            have r6 := D.out.res.fz 6
            have v6 := D.out.res.c6
            have y7 := D.out.box.c7
            have r7 := D.out.res.fz 7
            have v7 := D.out.res.c7
            have y8 := D.out.box.c8
            have r8 := D.out.res.fz 8
            have v8 := D.out.res.c8
            go_wp2_with fail
            obtain ⟨p1, p2, p3, p4⟩ := D.out.put (by omega)
            refine bodyPost_ret (v := (jlack j e).val { q with da := none, dn := 0, dc := 0, ta := A7, tn := q.tn + 1, tc := c7 }) ?_ rfl ⟨_, rfl, ?_, p3, p4⟩
            · exact results_cell_row rfl _ _ (w.heap.size + 1) 33 _ _ _ rfl p1 Tryd.underlying33 rfl (by kernel_rfl)
            · rw [show jlack j e = { j with told := j.told ++ [x], next := e, mode := 2, data := [] } by rw [← hx.out, ← hrm.out, ← hM.out]; rfl]
              exact p2
    case stl21 =>
      go_simp
      refine hK.out _ _ (by exact ⟨(C.out.al _).box.c5, (C.out.al _).box.c0⟩) (fun _ => ?_)
      clear hK K
      try simp only [Act.put, List.setIfInBounds_toArray, List.set_cons_zero, List.set_cons_succ]
      obtain ⟨z, hz⟩ : ∃ z, W.heap.size = z := ⟨_, rfl⟩
      rw [hz]
      refine at_worldJ (fun W => Hid (JC G F 2 1 B w W q j q j q) ∧ Hid (Rws shEv (fun b => F b ∧ q.tv.ownBlock ≠ some b) W (some ⟨z, 0, none⟩) [x])) ⟨Lib.hid (C.out.al _), Lib.hid (hz ▸ hx.out ▸ C.out.litv (x := ⟨1, [], rm, e - j.next⟩) rfl (Nat.le_refl _) RdF.nil)⟩ ?_
      clear C hz
      rintro W ⟨C, FB⟩
      refine wpAnyH_ready (rs := [1]) (by kernel_rfl) (by simp) ?_
      refine (AllReadyH.cons (o := ?ol27) ?hil27 (fun K hK => ?stl27) AllReadyH.nil)
      case hil27 => (simp only [List.getElem?_toArray, List.getElem?_cons_succ, List.getElem?_cons_zero]; rfl)
      case stl27 =>
        have x9 := C.out.box.c8
        go_simp
        refine hK.out _ _ (by exact ⟨C.out.box.c5, C.out.box.c0⟩) (fun _ => ?_)
        clear hK K
        try simp only [Act.put, List.setIfInBounds_toArray, List.set_cons_zero, List.set_cons_succ]
        clear x9
        refine wpAnyH_ready (rs := [14]) (by kernel_rfl) (by simp) ?_
        refine (AllReadyH.cons (o := ?ol28) ?hil28 (fun K hK => ?stl28) AllReadyH.nil)
        case hil28 => (simp only [List.getElem?_toArray, List.getElem?_cons_succ, List.getElem?_cons_zero]; rfl)
        case stl28 =>
          refine step_rows shEv _ (by rfl) _ _ _ (by rfl) 76 i0 (.agg #[.int .i64 0, .slice none 0 0, .int .i64 0, .int .i64 0]) 48 Tryd.underlying31 hi hz0 hz1 hz2 rfl (by decide) F _ B _ q.tn j.told (by rfl) C.out.jw.ot C.out.jw.t1 _ 1 1 [x] (by rfl) FB.out rfl (fun b _ hb => hb) (by unfold maxLen; have := HT.out; omega) (by have := HT.out; omega) (Nat.le_trans HB.out C.out.off.size) ?_
          intro v7 w7 ho7 hg7 hm7
          obtain ⟨A7, c7, Q⟩ := C.out.push ho7 hg7 hm7 (by omega) (by omega)
          obtain ⟨hv, Q⟩ := Q
          subst hv
          have Q := And.intro trivial Q
          refine hK.out _ _ (by exact ⟨Q.2.box.c5, Q.2.box.c0⟩) (fun _ => ?_)
          clear hK K
          try simp only [Act.put, List.setIfInBounds_toArray, List.set_cons_zero, List.set_cons_succ]
          have D := Lib.hid Q.2
          clear Q ho7 hg7 hm7 C FB
          refine wpAnyH_take (i := 15) (oi := ?ol29) (v := ?vl29) ?hil29 (by kernel_rfl) (by kernel_rfl) (by kernel_rfl) ?hql29 (Or.inl ⟨?hwl29, ?hyl29⟩) (by exact ⟨D.out.box.c5, D.out.box.c0⟩) ?restl29
          case hil29 => (simp only [List.getElem?_toArray, List.getElem?_cons_succ, List.getElem?_cons_zero]; rfl)
          case hwl29 => (rfl)
          case hql29 => (exact fun _ _ _ h => h)
          case hyl29 => (intro w' hSw; obtain ⟨s5, s0⟩ := hSw; go_simp; (try with_reducible rfl))
          try simp only [Act.put, List.setIfInBounds_toArray, List.set_cons_zero, List.set_cons_succ]
          refine wpAnyH_ready (rs := [16]) (by kernel_rfl) (by simp) ?_
          refine (AllReadyH.cons (o := ?ol30) ?hil30 (fun K hK => ?stl30) AllReadyH.nil)
          case hil30 => (simp only [List.getElem?_toArray, List.getElem?_cons_succ, List.getElem?_cons_zero]; rfl)
          case stl30 =>
            have u9 := D.out.box.c8
            have z9 := D.out.box.fz 8
            go_simp
            refine hK.out _ _ (by exact ⟨(D.out.s8 (by omega) (by omega)).box.c5, (D.out.s8 (by omega) (by omega)).box.c0⟩) (fun _ => ?_)
            clear hK K
            try simp only [Act.put, List.setIfInBounds_toArray, List.set_cons_zero, List.set_cons_succ]
            clear u9 z9
            have C := Lib.hid (D.out.s8 (by omega) (by omega))
            clear D
            refine wpAnyH_done (by kernel_rfl) ?_ _
            refine at_worldJ (fun W => Hid (JC G F 2 1 B w W q { j with told := j.told ++ [x] } { q with ta := A7, tn := q.tn + 1, tc := c7 } { j with told := j.told ++ [x] } { q with ta := A7, tn := q.tn + 1, tc := c7 })) C ?_
            clear C
            rintro W C
            have D := Lib.hid (((C.out.s5 (by omega) (by omega) e).s6 (by omega) (by omega) 2).s7n (by omega) (by omega))
            have y5 := C.out.box.c5
            have y6 := C.out.box.c6
            have y7 := C.out.box.c7
            have f5 := C.out.box.fz 5
            have f6 := C.out.box.fz 6
            have f7 := C.out.box.fz 7
            go_upto_region 5 with fail
            refine at_worldJ (fun W => Hid (JC G F 2 1 B w W q { j with told := j.told ++ [x], next := e, mode := 2, data := [] } { q with da := none, dn := 0, dc := 0, ta := A7, tn := q.tn + 1, tc := c7 } { j with told := j.told ++ [x], next := e, mode := 2, data := [] } { q with da := none, dn := 0, dc := 0, ta := A7, tn := q.tn + 1, tc := c7 })) D ?_
            clear C D y5 y6 y7 f5 f6 f7
            rintro W D
            have y0 := D.out.box.c0
            have r0 := D.out.res.fz 0
            have v0 := D.out.res.c0
            have y1 := D.out.box.c1
            have r1 := D.out.res.fz 1
            have v1 := D.out.res.c1
            have y2 := D.out.box.c2
            have r2 := D.out.res.fz 2
            have v2 := D.out.res.c2
            have y3 := D.out.box.c3
            have r3 := D.out.res.fz 3
            have v3 := D.out.res.c3
            have y4 := D.out.box.c4
            have r4 := D.out.res.fz 4
            have v4 := D.out.res.c4
            have y5 := D.out.box.c5
            have r5 := D.out.res.fz 5
            have v5 := D.out.res.c5
            have y6 := D.out.box.c6
            have r6 := D.out.res.fz 6
            have v6 := D.out.res.c6
            have y7 := D.out.box.c7
            have r7 := D.out.res.fz 7
            have v7 := D.out.res.c7
            have y8 := D.out.box.c8
            have r8 := D.out.res.fz 8
            have v8 := D.out.res.c8
            go_wp2_with fail
            obtain ⟨p1, p2, p3, p4⟩ := D.out.put (by omega)
            refine bodyPost_ret (v := (jlack j e).val { q with da := none, dn := 0, dc := 0, ta := A7, tn := q.tn + 1, tc := c7 }) ?_ rfl ⟨_, rfl, ?_, p3, p4⟩
            · exact results_cell_row rfl _ _ (w.heap.size + 1) 33 _ _ _ rfl p1 Tryd.underlying33 rfl (by kernel_rfl)
            · rw [show jlack j e = { j with told := j.told ++ [x], next := e, mode := 2, data := [] } by rw [← hx.out, ← hrm.out, ← hM.out]; rfl]
              exact p2
end Go.Proofs.YtamdaepeogmboaaDoor
