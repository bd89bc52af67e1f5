
/-
  The program's add of layer 24, walked. No condition beyond: sizes below 2^30.
-/
import Derived.Test.YtamdaepeogmboaaDoorJqA
import Derived.Deep.RegionLaw
namespace Go.Proofs.YtamdaepeogmboaaDoor
set_option maxRecDepth 4000
open Go.RowKit Go.Maps

theorem byte_infoJ : (Tryd.prog.info? 5).map (fun i => (i.zero, i.size, i.bytes)) = some (some (.int .u8 0), 1, 1) := by kernel_rfl
/-- What stands behind its two boxes. -/
structure AdC (w W : World) (g : Nat) (pb pe : Bool) (pn : Int) (A : Option Addr) (n c : Nat) : Prop where
  bel : Below g w W
  pc : FrX W g 50 pb pe pn A n c
  ev : EvX W (g + 1) 0 none 0 0 0 0
theorem AdC.start (w : World) (pb pe : Bool) (pn : Int) (A : Option Addr) (n c : Nat) : AdC w ((w.alloc (.cells #[.bool pb, .bool pe, .int .i64 pn, .slice A n c] 50)).alloc (.cells #[.int .i64 0, .slice none 0 0, .int .i64 0, .int .i64 0] 59)) w.heap.size pb pe pn A n c := by
  refine ⟨((Below.refl _ _).alloc (Nat.le_refl _) _).alloc (by simp) _, (FrX.new w 50 pb pe pn A n c).on ((Below.refl _ _).alloc (Nat.le_refl _) _), ?_⟩
  have := EvX.new (w.alloc (.cells #[.bool pb, .bool pe, .int .i64 pn, .slice A n c] 50)) 0 none 0 0 0 0
  simpa using this

set_option maxHeartbeats 2000000 in
/-- It is not within a packet. -/
theorem padd_out (b : Nat) (j : Jn) (q : Jq) (ol : List Int) (pb pe : Bool) (pn : Int) (A : Option Addr) (n c : Nat) (w : World) (h : Pw w b j q ol) (hm : j.mode ≠ 1) :
    Calls Tryd.prog 47 #[.pointer (some ⟨b, 0, none⟩), pvV pb pe pn A n c] w fun e w' => e = .returned (.tuple #[evV 0 none 0 0 0 0, .bool false]) ∧ Below w.heap.size w w' := by
  have C := Lib.hid (AdC.start w pb pe pn A n c)
  have H := Lib.hid h
  clear h
  go_enter Tryd.func47, Tryd.ntmps47
  go_upto_region 1 with fail
  refine at_worldJ (fun W => Hid (AdC w W w.heap.size pb pe pn A n c)) C ?_
  clear C
  intro W C
  have c0 := (H.out.below C.out.bel).px.c0
  have x0 := C.out.ev.c0; have x1 := C.out.ev.c1; have x2 := C.out.ev.c2; have x3 := C.out.ev.c3
  have z0 := C.out.ev.fz 0; have z1 := C.out.ev.fz 1; have z2 := C.out.ev.fz 2; have z3 := C.out.ev.fz 3
  have hne : (j.mode != 1) = true := by simp [hm]
  clear hm
  go_wp2_with fail
  have hg := C.out.ev.put 0 none 0 0 0 0
  have hO : Offs (fun i => i = w.heap.size + 1) W _ := jput4_offs W (w.heap.size + 1) (.int .i64 0) (.slice none 0 0) (.int .i64 0) (.int .i64 0)
  refine bodyPost_ret (v := .tuple #[evV 0 none 0 0 0 0, .bool false]) ?_ rfl ⟨rfl, ?_⟩
  · exact results_row_tmpJ rfl _ _ _ (w.heap.size + 1) 59 _ _ _ rfl rfl hg Tryd.underlying59 (by kernel_rfl)
  · exact C.out.bel.trans (hO.below (fun k hk e => by omega) C.out.bel.size)
/-- An append as one step of a region that draws, where its run is known. -/
theorem step_append_runJ {P : Program} {ops : Array Oper} {o : Oper} {a : Act} {w : World} {K : Act → World → Prop} {Q : Exit → Act → World → Prop} {E : Prop}
    (hg : o.guard = none) (d x : Operand) (dT sT : TypeId) (hop : o.op = Op.call { callee := Callee.builtin Builtin.append, args := #[d, x], argTypes := #[dT, sT] })
    (v u : Value) (hd : a.eval d = v) (hx : a.eval x = u) {v' : Value} {w' : World} (hr : (Builtin.append_ #[dT, sT] o.type #[v, u]).run P w = .ok v' w') (hK : K (a.put o.dst v') w') :
    if Region.wanted o (yielded ops a.tmps) = true then Oper.wp P o a w K Q else E := by
  have hw : Region.wanted o (yielded ops a.tmps) = true := by simp [Region.wanted, hg]
  rw [if_pos hw]
  unfold Oper.wp
  simp [execOp, hop, resolve, invoke, builtin, hd, hx, hr, Result.andThen]
  exact hK
/-- append(j.data, d...). -/
theorem Pw.app {W : World} {b : Nat} {j : Jn} {q : Jq} {ol : List Int} {F : Nat → Prop} {A : Option Addr} {d : List Nat} {n N c : Nat} (h : Pw W b j q ol) (hd : RdF F W A d) (hn : d.length = n) (h1 : q.dn ≤ 1073741824) (h2 : n ≤ 1073741824) (hN : q.dn + n = N) (ty : TypeId) :
    ∃ v' w', (Builtin.append_ #[30, 30] ty #[.slice q.da q.dn q.dc, .slice A n c]).run Tryd.prog W = .ok v' w' ∧ w'.ownsRow 0 5 1 v' N (bvs j.data ++ bvs d) ∧ W.grownBy w' q.dv.ownBlock ∧ Mv W.heap.size q.dv v' := by
  subst hN
  obtain ⟨i0, hi, hz0, hz1, hz2⟩ := info_parts byte_infoJ
  exact run_mv W 30 ty 5 i0 (.int .u8 0) 1 1 Tryd.underlying30 hi hz0 hz1 hz2 rfl (by decide) 0 q.dv q.dn (bvs j.data) h.dt A n c (bvs d) (fun e => by
    rcases Nat.eq_zero_or_pos n with h0 | h0
    · exact h0
    · obtain ⟨x, y, e2, -⟩ := hd (by omega)
      rw [e] at e2; cases e2) (by simp [bvs, hn]) (rd_news hd.rd) (fun u hu => by
    simp only [bvs, List.mem_map] at hu
    obtain ⟨y, _, rfl⟩ := hu
    rfl) (by unfold maxLen; omega) (by omega) (Nat.zero_le _)
/-- The result's block turns: all else stays. -/
theorem ad_end {w w3 : World} {b : Nat} {q q2 : Jq} {k : Jn} {ol : List Int} (hk : Pw w3 b k q2 ol) (hs : Ps b q w q2 w3) {g : Nat} (hg : w.heap.size ≤ g) (hn : ¬ q2.own b g) {x y z : Int} {A : Option Addr} {n c : Nat} (ev : EvX w3 g x A n c y z) (x' : Int) (A' : Option Addr) (n' c' : Nat) (y' z' : Int) :
    Pw ((((w3.setCell ⟨g, 0, none⟩ (.int .i64 x')).setCell ⟨g, 1, none⟩ (.slice A' n' c')).setCell ⟨g, 2, none⟩ (.int .i64 y')).setCell ⟨g, 3, none⟩ (.int .i64 z')) b k q2 ol ∧ Ps b q w q2 ((((w3.setCell ⟨g, 0, none⟩ (.int .i64 x')).setCell ⟨g, 1, none⟩ (.slice A' n' c')).setCell ⟨g, 2, none⟩ (.int .i64 y')).setCell ⟨g, 3, none⟩ (.int .i64 z')) ∧
    (∀ (B : Option Addr) (d : List Nat) (F : Nat → Prop), (∀ i, F i → ¬ q2.own b i) → RdF F w3 B d → RdF F ((((w3.setCell ⟨g, 0, none⟩ (.int .i64 x')).setCell ⟨g, 1, none⟩ (.slice A' n' c')).setCell ⟨g, 2, none⟩ (.int .i64 y')).setCell ⟨g, 3, none⟩ (.int .i64 z')) B d) ∧
    EvX ((((w3.setCell ⟨g, 0, none⟩ (.int .i64 x')).setCell ⟨g, 1, none⟩ (.slice A' n' c')).setCell ⟨g, 2, none⟩ (.int .i64 y')).setCell ⟨g, 3, none⟩ (.int .i64 z')) g x' A' n' c' y' z' := by
  have hO := jput4_offs w3 g (.int .i64 x') (.slice A' n' c') (.int .i64 y') (.int .i64 z')
  exact ⟨hk.scratch hO hn ev evx_none8, hs.scratch hO hg, fun B d F _ hd => ((hd.not ev evx_none8).keep (.of_offs hO fun _ h => h.2)).mono fun _ _ h => h.1, ev.put _ _ _ _ _ _⟩
theorem jgrow_long {j : Jn} {e : Bool} {d : List Nat} (h : j.most < (d.length : Int)) : jgrow j e d = { j with told := j.told ++ [⟨3, [], 0, 0⟩], mode := 2, data := [] } := if_pos h
theorem jgrow_whole {j : Jn} {e : Bool} {d : List Nat} (h : ¬ j.most < (d.length : Int)) (he : e = true) : jgrow j e d = { j with told := j.told ++ [⟨0, d, 0, 0⟩], mode := 0, data := [] } := by
  unfold jgrow; rw [if_neg h, if_pos he]
theorem jgrow_on {j : Jn} {e : Bool} {d : List Nat} (h : ¬ j.most < (d.length : Int)) (he : e = false) : jgrow j e d = { j with mode := 1, data := d } := by
  unfold jgrow; rw [if_neg h, if_neg (by rw [he]; decide)]

/-- The joiner, and the two boxes. -/
structure AdD (w X : World) (b : Nat) (j : Jn) (q q1 : Jq) (ol : List Int) (g : Nat) (pb pe : Bool) (pn : Int) (A : Option Addr) (n c : Nat) : Prop where
  pc : FrX X g 50 pb pe pn A n c
  ev : EvX X (g + 1) 0 none 0 0 0 0
  pw : Pw X b j q1 ol
  ps : Ps b q w q1 X
  n0 : ¬ q1.own b g
  n1 : ¬ q1.own b (g + 1)
section
variable {w X X' : World} {b : Nat} {j j' : Jn} {q q1 q2 : Jq} {ol ol' : List Int} {g : Nat} {pb pe : Bool} {pn : Int} {A : Option Addr} {n c : Nat}
theorem AdD.below (h : AdD w X b j q q1 ol g pb pe pn A n c) (hb : Below X.heap.size X X') : AdD w X' b j q q1 ol g pb pe pn A n c :=
  ⟨h.pc.on hb, (hb.block _ h.ev.lt).trans h.ev, h.pw.below hb, h.ps.below hb, h.n0, h.n1⟩
theorem AdD.drew (h : AdD w X b j q q1 ol g pb pe pn A n c) : AdD w X.drew b j q q1 ol g pb pe pn A n c := h.below (Below.refl _ _).drew
theorem AdD.call (h : AdD w X b j q q1 ol g pb pe pn A n c) (k1 : Pw X' b j' q2 ol') (k2 : Ps b q1 X q2 X') : AdD w X' b j' q q2 ol' g pb pe pn A n c :=
  ⟨h.pc.offJ k2.off h.n0, h.ev.off k2.off h.n1, k1, h.ps.trans k2, k2.out h.pc.lt h.n0, k2.out h.ev.lt h.n1⟩
end
set_option maxHeartbeats 4000000 in
/-- It is within a packet. -/
theorem padd_in (b : Nat) (j : Jn) (q : Jq) (ol : List Int) (pb pe : Bool) (pn : Int) (d : List Nat) (A : Option Addr) (n c : Nat) (w : World) (h : Pw w b j q ol) (hm : j.mode = 1) (hd : RdF (fun i => ¬ q.own b i) w A d) (hn : d.length = n) (h1 : q.dn ≤ 1073741824) (h2 : n ≤ 1073741824) :
    Calls Tryd.prog 47 #[.pointer (some ⟨b, 0, none⟩), pvV pb pe pn A n c] w fun e w' => ∃ q', Pw w' b (jgrow j pe (j.data ++ d)) q' ol ∧ Ps b q w q' w' ∧ q'.mn = q.mn ∧ q'.fr = q.fr ∧ Ado (Fo b q w q') w' j.told (jgrow j pe (j.data ++ d)).told e := by
  obtain ⟨N, hN⟩ : ∃ N, q.dn + n = N := ⟨_, rfl⟩
  have hNl : (j.data ++ d).length = N := by rw [List.length_append, h.dl, hn, hN]
  have C := Lib.hid (AdC.start w pb pe pn A n c)
  have H := Lib.hid h
  have HD := Lib.hid hd
  have HM := Lib.hid hm
  have HL := Lib.hid hNl
  clear h hd hNl
  go_enter Tryd.func47, Tryd.ntmps47
  go_upto_region 1 with fail
  refine at_worldJ (fun W => Hid (AdC w W w.heap.size pb pe pn A n c)) C ?_
  clear C
  intro W C
  have HW := H.out.below C.out.bel
  obtain ⟨v', w1, hrun, g1, g2, g3⟩ := (HW.below (Below.refl _ _).drew).app (c := c) ((HD.out.keep (.of_below C.out.bel)).keep (.of_below (Below.refl _ _).drew)) hn h1 h2 hN 30
  obtain ⟨A1, c1, rfl, k1, k2, k3⟩ := (HW.below (Below.refl _ _).drew).grow g1 g2 g3 hn hN
  have x0 := HW.px.c0; have x8 := HW.px.c8; have p3 := C.out.pc.c3
  have y8 := k1.c8; have z8 := k1.fz 8
  have hne : (j.mode != 1) = false := by simp [hm]
  have D0 : AdD w W.drew b j q q ol w.heap.size pb pe pn A n c := AdD.drew ⟨C.out.pc, C.out.ev, HW, .of_below C.out.bel, H.out.new (Nat.le_refl _), H.out.new (Nat.le_succ _)⟩
  have D := Lib.hid (D0.call k2 k3)
  have HRUN := Lib.hid hrun
  clear HW g1 g2 g3 k1 k2 k3 hrun D0
  go_wp2_with fail
  go_region_law (refine step_append_runJ rfl _ _ 30 30 rfl (.slice q.da q.dn q.dc) (.slice A n c) (by simp [Act.eval]) (by simp [Act.eval]) HRUN.out ?_)
  all_goals
    clear x0 x8 p3 y8 z8 HRUN hne
    refine at_worldJ (fun X => Hid (AdD w X b { j with data := j.data ++ d } q { q with da := A1, dn := N, dc := c1 } ol w.heap.size pb pe pn A n c)) D ?_
    clear D
    intro X D
    have HP := D.out.pw.px
    have x3 := HP.c3; have x8 := HP.c8
    have e1 := D.out.pc.c1
    have WAYS : j.most < (N : Int) ∨ (¬ j.most < (N : Int) ∧ pe = true) ∨ (¬ j.most < (N : Int) ∧ pe = false) := by
      by_cases h : j.most < (N : Int)
      · exact .inl h
      · cases pe
        · exact .inr (.inr ⟨h, rfl⟩)
        · exact .inr (.inl ⟨h, rfl⟩)
    rcases WAYS with hl | ⟨hl, he⟩ | ⟨hl, he⟩
    · -- it is too long
      have E := Lib.hid (jgrow_long (j := j) (e := pe) (d := j.data ++ d) (by rw [HL.out]; exact hl))
      clear HP
      go_wp2_with fail
      go_region
      all_goals
        clear x3 x8
        go_wp2_with (go_at_call 46; refine (pturn_any b _ _ ol 2 _ D.out.drew.pw).mono ?_; rintro e w3 ⟨rfl, k1, k2, -⟩; replace D := Lib.hid (D.out.drew.call k1 k2); clear k1 k2; have v0 := D.out.ev.c0; have v1 := D.out.ev.c1; have v2 := D.out.ev.c2; have v3 := D.out.ev.c3; have f0 := D.out.ev.fz 0; have f1 := D.out.ev.fz 1; have f2 := D.out.ev.fz 2; have f3 := D.out.ev.fz 3)
        obtain ⟨r1, r2, r3, r4⟩ := ad_end D.out.pw D.out.ps (Nat.le_succ _) D.out.n1 D.out.ev 3 none 0 0 0 0
        rw [E.out]
        refine bodyPost_ret (v := .tuple #[evV 3 none 0 0 0 0, .bool true]) ?_ rfl ⟨_, r1.told _, r2, rfl, rfl, .inr ⟨⟨3, [], 0, 0⟩, none, 0, rfl, rfl, Nat.le_refl _, RdF.nil⟩⟩
        exact results_row_tmpJ rfl _ _ _ (w.heap.size + 1) 59 _ _ _ rfl rfl r4 Tryd.underlying59 (by kernel_rfl)
    · -- it is whole
      have E := Lib.hid (jgrow_whole (j := j) (e := pe) (d := j.data ++ d) (by rw [HL.out]; exact hl) he)
      have e2 : X.cell? ⟨w.heap.size, 1, none⟩ = some (.bool true) := by rw [← he]; exact e1
      clear HP e1
      go_wp2_with fail
      go_region
      all_goals
        go_upto_region 9 with fail
        have hz2 : w.heap.size + 2 ≤ X.heap.size := D.out.ev.lt
        have D2 := Lib.hid (show AdD w (X.alloc (.cells #[.int .i64 0, .slice A1 N c1, .int .i64 0, .int .i64 0] 59 (0, 0))).drew b { j with data := j.data ++ d } q { q with da := A1, dn := N, dc := c1 } ol w.heap.size pb pe pn A n c ∧ EvX (X.alloc (.cells #[.int .i64 0, .slice A1 N c1, .int .i64 0, .int .i64 0] 59 (0, 0))).drew X.heap.size 0 A1 N c1 0 0 ∧ ¬ Jq.own b { q with da := A1, dn := N, dc := c1 } X.heap.size ∧ w.heap.size + 2 ≤ X.heap.size from ⟨(D.out.below (X' := X.alloc (.cells #[.int .i64 0, .slice A1 N c1, .int .i64 0, .int .i64 0] 59 (0, 0))) ((Below.refl _ _).alloc (Nat.le_refl _) _)).drew, EvX.new X 0 A1 N c1 0 0, D.out.pw.new (Nat.le_refl _), hz2⟩)
        generalize X.heap.size = z at D2
        refine at_worldJ (fun X => Hid (AdD w X b { j with data := j.data ++ d } q { q with da := A1, dn := N, dc := c1 } ol w.heap.size pb pe pn A n c ∧ EvX X z 0 A1 N c1 0 0 ∧ ¬ Jq.own b { q with da := A1, dn := N, dc := c1 } z ∧ w.heap.size + 2 ≤ z)) D2 ?_
        clear D x3 x8 e2 D2 hz2
        intro Y D
        go_wp2_with (go_at_call 46; refine (pturn_any b _ _ ol 0 _ D.out.1.pw).mono ?_; rintro e w3 ⟨rfl, k1, k2, k3⟩; have DD := Lib.hid (And.intro (D.out.1.call k1 k2) (And.intro (D.out.2.1.off k2.off D.out.2.2.1) (D.out.1.pw.data.keep (.of_offs k3 fun _ h => h.1.2)))); clear k1 k2 k3; have v0 := DD.out.1.ev.c0; have v1 := DD.out.1.ev.c1; have v2 := DD.out.1.ev.c2; have v3 := DD.out.1.ev.c3; have f0 := DD.out.1.ev.fz 0; have f1 := DD.out.1.ev.fz 1; have f2 := DD.out.1.ev.fz 2; have f3 := DD.out.1.ev.fz 3; have u0 := DD.out.2.1.c0; have u1 := DD.out.2.1.c1; have u2 := DD.out.2.1.c2; have u3 := DD.out.2.1.c3)
        obtain ⟨r1, r2, r3, r4⟩ := ad_end DD.out.1.pw DD.out.1.ps (Nat.le_succ _) DD.out.1.n1 DD.out.1.ev 0 A1 N c1 0 0
        rw [E.out]
        have HL' := HL.out
        refine bodyPost_ret (v := .tuple #[evV 0 A1 N c1 0 0, .bool true]) ?_ rfl ⟨_, r1.told _, r2, rfl, rfl, .inr ⟨⟨0, j.data ++ d, 0, 0⟩, A1, c1, rfl, ?_, ?_, r3 _ _ _ (fun _ h => h.1) (DD.out.2.2.mono (G := Fo b q w { q with da := none, dn := 0, dc := 0 }) fun _ _ h => ⟨h.1.1, D.out.1.ps.own _ h.2⟩)⟩⟩
        · exact results_row_tmpJ rfl _ _ _ (w.heap.size + 1) 59 _ _ _ rfl rfl r4 Tryd.underlying59 (by kernel_rfl)
        · show _ = Ending.returned (.tuple #[evV 0 A1 (j.data ++ d).length c1 0 0, .bool true])
          rw [HL']
        · show (j.data ++ d).length ≤ c1
          rw [HL']
          exact D.out.1.pw.dcap
    · -- it goes on
      have E := Lib.hid (jgrow_on (j := j) (e := pe) (d := j.data ++ d) (by rw [HL.out]; exact hl) he)
      have e2 : X.cell? ⟨w.heap.size, 1, none⟩ = some (.bool false) := by rw [← he]; exact e1
      clear HP e1
      go_wp2_with fail
      go_region
      all_goals
        go_upto_region 11 with fail
        refine at_worldJ (fun X => Hid (AdD w X b { j with data := j.data ++ d } q { q with da := A1, dn := N, dc := c1 } ol w.heap.size pb pe pn A n c)) (Lib.hid D.out.drew) ?_
        clear D x3 x8 e2
        intro Y D
        have v0 := D.out.ev.c0; have v1 := D.out.ev.c1; have v2 := D.out.ev.c2; have v3 := D.out.ev.c3; have f0 := D.out.ev.fz 0; have f1 := D.out.ev.fz 1; have f2 := D.out.ev.fz 2; have f3 := D.out.ev.fz 3
        go_wp2_with fail
        obtain ⟨r1, r2, r3, r4⟩ := ad_end D.out.pw D.out.ps (Nat.le_succ _) D.out.n1 D.out.ev 0 none 0 0 0 0
        rw [E.out]
        refine bodyPost_ret (v := .tuple #[evV 0 none 0 0 0 0, .bool false]) ?_ rfl ⟨_, ?_, r2, rfl, rfl, .inl ⟨rfl, rfl⟩⟩
        · exact results_row_tmpJ rfl _ _ _ (w.heap.size + 1) 59 _ _ _ rfl rfl r4 Tryd.underlying59 (by kernel_rfl)
        · have e3 : ({ j with mode := 1, data := j.data ++ d } : Jn) = { j with data := j.data ++ d } := by rw [← HM.out]
          rw [e3]
          exact r1
end Go.Proofs.YtamdaepeogmboaaDoor
