
/-
  JoinPlays, walked. No condition beyond what the law's arguments are.
-/
import Derived.Test.YtamdaepeogmboaaDoorGJpe
import Derived.Test.YtamdaepeogmboaaDoorJoiF
namespace Go.Proofs.YtamdaepeogmboaaDoor
set_option maxRecDepth 8000
open Go.RowKit Go.Maps

set_option maxHeartbeats 16000000 in
theorem joinPlays_any (a0 a1 a2 : Int) (a : Option Addr) (len cap : Nat) (l : List (Int × Pc)) (w : World) (hl : IsActs w a len cap l) (hT : TabF w) :
    Calls Tryd.prog 3 #[.int .i64 a0, .int .i64 a1, .int .i64 a2, .slice a len cap] w fun e w' => e = .returned (.bool true) ∧ Below w.heap.size w w' := by
  have HT := Lib.hid hT
  have HL := Lib.hid hl
  clear hT hl
  by_cases hlen : 60 < len
  · have h2 : (60 : Int) < (len : Int) := by omega
    go_enter Tryd.func3, Tryd.ntmps3
    go_wp2_with (first
      | (go_at_call 7; (with_reducible refine (jspeaks w HT.out).mono ?_); rintro e w2 ⟨rfl, hb⟩; replace hb := Lib.hid hb; dsimp only)
      | (go_at_call 7; (with_reducible refine (jspeaks _ (HT.out.below hb.out)).mono ?_); rintro e w3 ⟨rfl, hb3⟩; replace hb3 := Lib.hid hb3; dsimp only))
    go_ret
    exact ⟨rfl, hb.out.trans (hb3.out.mono hb.out.size)⟩
  have h2 : ¬ (60 : Int) < (len : Int) := by omega
  cases hR : jnewR a0 a1 a2
  · have HR := Lib.hid hR
    clear hR
    go_enter Tryd.func3, Tryd.ntmps3
    go_wp2_with (first
      | (go_at_call 7; (with_reducible refine (jspeaks w HT.out).mono ?_); rintro e w2 ⟨rfl, hb⟩; replace hb := Lib.hid hb; dsimp only)
      | (go_at_call 8; (with_reducible refine (pnew_bad true a0 a1 a2 _ HR.out).mono ?_); rintro e w3 ⟨rfl, hb3⟩; replace hb3 := Lib.hid hb3; dsimp only)
      | (go_at_call 9; (with_reducible refine (jnew_bad true a0 a1 a2 _ HR.out).mono ?_); rintro e w4 ⟨rfl, hb4⟩; replace hb4 := Lib.hid hb4; dsimp only))
    go_ret
    have o1 := (hb.out.trans (hb3.out.mono hb.out.size))
    have o2 := o1.trans (hb4.out.mono o1.size)
    exact ⟨rfl, o2.alloc o2.size _⟩
  · have RB : (0 < a0 ∧ a0 ≤ 16) ∧ (1 ≤ a1 ∧ a1 ≤ 4096) ∧ (1 ≤ a2 ∧ a2 ≤ 1048576) := by
      unfold jnewR at hR
      simp at hR
      omega
    obtain ⟨N, rfl⟩ : ∃ N : Nat, a0 = (N : Int) := ⟨a0.toNat, by omega⟩
    have NB := Lib.hid (show 0 < N ∧ N ≤ 16 ∧ (1 ≤ a1 ∧ a1 ≤ 4096) ∧ (1 ≤ a2 ∧ a2 ≤ 1048576) by omega)
    have HLEN := Lib.hid (show len ≤ 60 by omega)
    clear RB hR hlen
    go_enter Tryd.func3, Tryd.ntmps3
    go_upto_region 5 with (first
      | (go_at_call 7; (with_reducible refine (jspeaks w HT.out).mono ?_); rintro e w2 ⟨rfl, hb⟩; replace hb := Lib.hid hb; dsimp only)
      | (go_at_call 8; (with_reducible refine (pnew_any true N a1 a2 _ (HT.out.below hb.out) NB.out.1 NB.out.2.1 NB.out.2.2.1.1 NB.out.2.2.1.2 NB.out.2.2.2.1 NB.out.2.2.2.2).mono ?_); rintro e w3 ⟨b, q, rfl, k1, k2, k3, k4, k5⟩; have C := Lib.hid (show LwC w b 0 (jnew true N a1 a2) q [] w3 ∧ q.mn = 0 from ⟨⟨hb.out.trans (k2.mono hb.out.size), k1, fun i hi => Nat.le_trans hb.out.size (k3 i hi), (jnew_ok NB.out.1 NB.out.2.1 NB.out.2.2.2.1 NB.out.2.2.2.2).1, jnew_mo _ _ _ _, (jnew_ok NB.out.1 NB.out.2.1 NB.out.2.2.2.1 NB.out.2.2.2.2).2, k5⟩, k4⟩); clear k1 k2 k3 k4 k5; dsimp only)
      | (go_at_call 9; (with_reducible refine (jnew_any true N a1 a2 _ NB.out.1 NB.out.2.1 NB.out.2.2.1.1 NB.out.2.2.1.2 NB.out.2.2.2.1 NB.out.2.2.2.2).mono ?_); rintro e w4 ⟨qd, rfl, k1, k2⟩; have D := Lib.hid (show PlC w b w4.heap.size 0 (jnew true N a1 a2) q [] qd (w4.alloc ((jnew true N a1 a2).obj qd)) from PlC.made C.out.1 k2 k1); clear k1 k2; dsimp only))
    have Q0 := Lib.hid C.out.2
    refine at_worldJ (fun W => Hid (PlC w b w4.heap.size 0 (jnew true N a1 a2) q [] qd W)) D ?_
    clear C D hb
    generalize w4.heap.size = g
    have NA := Lib.hid (show (jnew true N a1 a2).sh = true ∧ (jnew true N a1 a2).room = a1 ∧ (jnew true N a1 a2).last.length = N ∧ (jnew true N a1 a2).wait.length ≤ 4096 from ⟨rfl, rfl, List.length_replicate, Nat.zero_le _⟩)
    generalize jnew true N a1 a2 = J0 at NA
    intro W0 C
    go_wp2_with fail
    go_loopw [55] (fun i wr => ∃ (k : Nat) (j : Jn) (q : Jq) (ol : List Int) (qd : Jp), k ≤ len ∧ i = .int .i64 (k : Int) ∧ Hid (PlC w b g ((k : Int) * 4096) j q ol qd wr) ∧ Hid (q.mn ≤ k ∧ j.sh = true ∧ j.room = a1 ∧ j.last.length = N ∧ j.wait.length ≤ 4096)) (fun i _ => len - (intOf i).toNat)
    case atStart => exact ⟨0, J0, q, [], qd, Nat.zero_le _, rfl, Lib.hid (by simpa using C.out), Lib.hid ⟨by rw [Q0.out]; exact Nat.zero_le _, NA.out⟩⟩
    case round =>
      clear C NA Q0
      obtain ⟨k, j, q, ol, qd, hk, rfl, C, D⟩ := hrel
      by_cases hlt : k < len
      · obtain ⟨ba, off, ⟨lk, p⟩, Ak, ck, rfl, hba, hx, y0, y1, y2, y3, y4, hck, hrd⟩ := HL.out.rd.cm (k := k) (by rw [HL.out.nl]; exact hlt)
        have up : ∀ {o : Nat} {v : Value}, w.cell? ⟨ba, o, none⟩ = some v → wr.cell? ⟨ba, o, none⟩ = some v := fun h => (C.out.lw.bel.cell (p := ⟨ba, _, none⟩) hba).trans h
        have z0 := up y0; have z1 := up y1; have z2 := up y2; have z3 := up y3; have z4 := up y4
        have i1 : (k : Int) < (len : Int) := by omega
        have i2 : ((k : Int)).toNat = k := by omega
        have i3 : (0 : Int) ≤ (k : Int) := by omega
        have wrk : IntKind.i64.wrap ((k : Int) + 1) = ((k + 1 : Nat) : Int) := by rw [IntKind.wrap_i64]; have := HLEN.out; omega
        have RD := Lib.hid (show RdF (fun _ => True) w Ak p.d from hrd)
        obtain ⟨dn, hdn⟩ : ∃ n, p.d.length = n := ⟨_, rfl⟩
        rw [hdn] at z4
        have CK := Lib.hid (show dn ≤ ck by rw [← hdn]; exact hck)
        have DN := Lib.hid hdn
        clear y0 y1 y2 y3 y4 up hrd hck hdn
        go_upto_region 12 with fail
        refine at_worldJ (fun W => Hid (PlA w b g wr.heap.size ((k : Int) * 4096) j q ol j qd lk p Ak dn ck W)) (Lib.hid (C.out.act lk p Ak dn ck)) ?_
        clear C z0 z1 z2 z3 z4
        generalize wr.heap.size = g2
        intro W C
        have y4 := C.out.ac.c4
        by_cases hdn : 60 < dn
        · have h3 : (60 : Int) < (dn : Int) := by omega
          go_wp2_with fail
          go_ret
          exact ⟨rfl, C.out.lw.bel⟩
        · have h3 : ¬ (60 : Int) < (dn : Int) := by omega
          have y0 := C.out.ac.c0
          have KB4 := Lib.hid (show ((k : Int) * 4096) ≤ 268435456 ∧ ((k : Int) * 4096) ≤ 68719476736 ∧ ((k : Int) * 4096) ≤ 1152921504606846976 by have := HLEN.out; omega)
          by_cases hfl : 100 ≤ lk
          · -- a flush
            have x0 := C.out.jx.c0; have x1 := C.out.jx.c1; have x2 := C.out.jx.c2; have x3 := C.out.jx.c3; have x4 := C.out.jx.c4; have x5 := C.out.jx.c5; have x6 := C.out.jx.c6; have x7 := C.out.jx.c7; have x8 := C.out.jx.c8
            have FO := Lib.hid (C.out.lw.ok.told.over2 (k := 0) (jstp_told C.out.lw.st) (Int.le_refl _) KB4.out.2.2)
            have FK := Lib.hid (jover_keep 0 { j with told := [] })
            have FW := Lib.hid (jflush_none C.out.lw.ok C.out.lw.st KB4.out.2.2).1
            go_upto_region 17 with (go_at_call 10; (with_reducible refine (jflush_any (fun i => ¬ q.own b i ∧ i ≠ g) j qd ((k : Int) * 4096) _ C.out.jr C.out.lw.ok C.out.lw.st KB4.out.1).mono ?_); rintro e w5 ⟨qd5, rfl, k1, k2⟩; have D5 := Lib.hid (C.out.put k2 k1); have X5 := C.out.jx.on k2; have r0 := X5.c0; have r1 := X5.c1; have r2 := X5.c2; have r3 := X5.c3; have r4 := X5.c4; have r5 := X5.c5; have r6 := X5.c6; have r7 := X5.c7; have r8 := X5.c8; have z0 := X5.fz 0; have z1 := X5.fz 1; have z2 := X5.fz 2; have z3 := X5.fz 3; have z4 := X5.fz 4; have z5 := X5.fz 5; have z6 := X5.fz 6; have z7 := X5.fz 7; have z8 := X5.fz 8; clear k1 k2 X5; dsimp only)
            clear x0 x1 x2 x3 x4 x5 x6 x7 x8 r0 r1 r2 r3 r4 r5 r6 r7 r8 z0 z1 z2 z3 z4 z5 z6 z7 z8 y0 y4
            refine at_worldJ (fun W => Hid (PlA w b g g2 ((k : Int) * 4096) j q ol (jflush j) qd5 lk p Ak dn ck W)) D5 ?_
            clear D5 C
            intro W6 C
            have TB := Lib.hid (show qd5.tn ≤ 1073741824 by rw [← C.out.jr.t1]; have h1 : ((jflush j).told.length : Int) ≤ 2 * (jflush j).next := FO.out.1.td; have h2 : (jflush j).next ≤ _ := FO.out.1.n1; have := KB4.out.1; omega)
            go_wp2_with (first
              | (go_at_call 13; (with_reducible refine (pflush_any b j q ol _ _ C.out.lw.pw C.out.lw.ok C.out.lw.mo C.out.lw.st KB4.out.2.1 C.out.lw.fr).mono ?_); rintro e w7 ⟨v7, rfl, q7, ol7, A7, n7, c7, rfl, k1, k2, k3, k4, k5, k6, k7⟩; have en : n7 = qd5.tn := by rw [← k1]; exact C.out.jr.t1
                 subst en; have E := Lib.hid (C.out.prog k4 k5 FO.out.1 C.out.lw.mo.flush FO.out.2.1 k7); have R7 := Lib.hid (k3.mono (G := fun _ => True) fun _ _ _ => trivial); have Q7 := Lib.hid k6; clear k1 k2 k3 k4 k5 k6 k7; dsimp only)
              | (go_at_call 12; (with_reducible refine (jto_any (jflush j).told qd5.tn c7 A7 (fun _ => True) _ R7.out (fun _ _ => trivial) E.out.jr.t1 TB.out).mono ?_); rintro e w8 ⟨v8, rfl, ho8, hb8⟩; obtain ⟨A8, c8, hv8, -, -, hr8⟩ := ho8.slice; rw [E.out.jr.t1] at hv8; subst hv8; have R8 := Lib.hid hr8; have E8 := Lib.hid (E.out.below hb8); clear ho8 hb8 hr8; dsimp only)
              | (go_at_call 11; (with_reducible refine (jsame_yes (jflush j).told qd5.tn c8 qd5.tc A8 qd5.ta _ _ _ R8.out E8.out.jr.rt E8.out.jr.t1 (by have := TB.out; omega)).mono ?_); rintro e w9 ⟨rfl, hb9⟩; have E9 := Lib.hid (E8.out.below hb9); clear hb9; dsimp only))
            exact ⟨⟨k + 1, jflush j, q7, ol7, qd5, by omega, by rw [show ((k + 1 : Nat) : Int) = (k : Int) + 1 from by omega], Lib.hid (show PlC w b g (((k + 1 : Nat) : Int) * 4096) (jflush j) q7 ol7 qd5 w9 from ⟨⟨E9.out.lw.bel, E9.out.lw.pw, E9.out.lw.own, E9.out.lw.ok.up (by omega), E9.out.lw.mo, E9.out.lw.st, E9.out.lw.fr⟩, E9.out.jx, E9.out.jr, E9.out.ng, E9.out.gl⟩), Lib.hid ⟨Nat.le_trans Q7.out (Nat.succ_le_succ D.out.1), FK.out.1.trans D.out.2.1, FK.out.2.1.trans D.out.2.2.1, by rw [show (jflush j).last = j.last from FK.out.2.2.2]; exact D.out.2.2.2.1, by rw [FW.out]; exact Nat.zero_le _⟩⟩, by show len - ((k : Int) + 1).toNat < len - ((k : Int)).toNat; omega⟩
          · -- a piece
            have um := Lib.hid (show qd.wn ≤ 4096 by rw [← C.out.jr.w1]; exact D.out.2.2.2.2)
            have WN := Lib.hid C.out.jr.w1
            have LN := Lib.hid C.out.jr.l1
            have x0 := C.out.jx.c0; have x1 := C.out.jx.c1; have x2 := C.out.jx.c2; have x3 := C.out.jx.c3; have x4 := C.out.jx.c4; have x5 := C.out.jx.c5; have x6 := C.out.jx.c6; have x7 := C.out.jx.c7; have x8 := C.out.jx.c8
            have y1 := C.out.ac.c1; have y2 := C.out.ac.c2; have y3 := C.out.ac.c3
            have WAYS : (lk < 0 ∨ (N : Int) ≤ lk) ∨ ((¬ lk < 0 ∧ ¬ (N : Int) ≤ lk) ∧ (p.n < 0 ∨ (4096 : Int) ≤ p.n)) ∨ ((¬ lk < 0 ∧ ¬ (N : Int) ≤ lk) ∧ 0 ≤ p.n ∧ p.n < 4096) := by omega
            rcases WAYS with g1 | ⟨⟨g1, g2'⟩, g3⟩ | ⟨⟨g1, g2'⟩, g3, g4⟩
            · have AR := Lib.hid (show lk < 0 ∨ (j.last.length : Int) ≤ lk by rw [D.out.2.2.2.1]; exact g1)
              clear g1
              go_upto_region 21 with (go_at_call 14; (with_reducible refine (jfeed_arg j qd lk p Ak dn ck _ (by rw [← LN.out]; exact AR.out)).mono ?_); rintro e w5 ⟨rfl, k2⟩; have D5 := Lib.hid (C.out.same k2); have X5 := C.out.jx.on k2; have r0 := X5.c0; have r1 := X5.c1; have r2 := X5.c2; have r3 := X5.c3; have r4 := X5.c4; have r5 := X5.c5; have r6 := X5.c6; have r7 := X5.c7; have r8 := X5.c8; have z0 := X5.fz 0; have z1 := X5.fz 1; have z2 := X5.fz 2; have z3 := X5.fz 3; have z4 := X5.fz 4; have z5 := X5.fz 5; have z6 := X5.fz 6; have z7 := X5.fz 7; have z8 := X5.fz 8; clear X5; dsimp only; clear k2)
              clear x0 x1 x2 x3 x4 x5 x6 x7 x8 r0 r1 r2 r3 r4 r5 r6 r7 r8 z0 z1 z2 z3 z4 z5 z6 z7 z8 y0 y1 y2 y3 y4
              refine at_worldJ (fun W => Hid (PlA w b g g2 ((k : Int) * 4096) j q ol j qd lk p Ak dn ck W)) D5 ?_
              clear D5 C
              intro W6 C
              have y0 := C.out.ac.c0; have y1 := C.out.ac.c1; have y2 := C.out.ac.c2; have y3 := C.out.ac.c3; have y4 := C.out.ac.c4
              have hk1 := fun W q ol => pkept_any b j q ol W
              rw [WN.out] at hk1
              go_upto_region 22 with (go_at_call 15; (with_reducible refine (pfeed_arg b j q ol lk p Ak dn ck _ C.out.lw.pw AR.out).mono ?_); rintro e w7 ⟨rfl, hb7⟩; have E := Lib.hid (C.out.below hb7); clear hb7; dsimp only)
              clear y0 y1 y2 y3 y4 C
              refine at_worldJ (fun W => Hid (PlA w b g g2 ((k : Int) * 4096) j q ol j qd lk p Ak dn ck W)) E ?_
              clear E
              intro W7 E
              have s7 := E.out.jx.c4
              have s7d := E.out.drew.jx.c4
              have nz : ¬ (qd.wn : Int) < 0 := by omega
              go_region_held3 (fun W => W.cell? ⟨g, 4, none⟩ = some (.slice qd.wa qd.wn qd.wc)) (first | with_reducible exact s7 | with_reducible exact s7d | with_reducible exact s8 | with_reducible exact s9) (first
                | (go_at_call 12; (with_reducible refine (jto_any [] 0 0 none (fun _ => True) _ Rws.nil (fun _ _ => trivial) rfl (Nat.zero_le _)).mono ?_); rintro e w8 ⟨v8, rfl, ho8, hb8⟩; obtain ⟨A8, c8, hv8, -, -, hr8⟩ := ho8.slice; replace hv8 : v8 = .slice A8 0 c8 := hv8; subst hv8; have R8 := Lib.hid hr8; have E8 := Lib.hid (E.out.drew.below hb8); have s8 := E8.out.jx.c4; clear ho8 hb8 hr8; dsimp only)
                | (go_at_call 11; (with_reducible refine (jsame_yes [] 0 c8 0 A8 none _ (fun _ => True) _ R8.out Rws.nil rfl (by omega)).mono ?_); rintro e w9 ⟨rfl, hb9⟩; have E9 := Lib.hid (E8.out.below hb9); have s9 := E9.out.jx.c4; clear hb9; dsimp only)
                | (go_at_call 16; (with_reducible refine (hk1 _ _ _ E9.out.lw.pw).mono ?_); rintro e wa ⟨rfl, hwa⟩; subst wa; dsimp only))
              clear s7 s7d s8 s9 nz hk1
              go_wp2_with fail
              exact ⟨⟨k + 1, j, q, ol, qd, by omega, by rw [show ((k + 1 : Nat) : Int) = (k : Int) + 1 from by omega], Lib.hid (show PlC w b g (((k + 1 : Nat) : Int) * 4096) j q ol qd w9 from ⟨⟨E9.out.lw.bel, E9.out.lw.pw, E9.out.lw.own, E9.out.lw.ok.up (by omega), E9.out.lw.mo, E9.out.lw.st, E9.out.lw.fr⟩, E9.out.jx, E9.out.jr, E9.out.ng, E9.out.gl⟩), Lib.hid ⟨Nat.le_trans D.out.1 (Nat.le_succ _), D.out.2⟩⟩, by show len - ((k : Int) + 1).toNat < len - ((k : Int)).toNat; omega⟩
            · obtain ⟨kk, rfl⟩ : ∃ kk : Nat, lk = (kk : Int) := ⟨lk.toNat, by omega⟩
              have KB := Lib.hid (show kk < j.last.length by rw [D.out.2.2.2.1]; omega)
              have PN := Lib.hid (show p.n < 0 ∨ (frmod j.sh : Int) ≤ p.n by rw [D.out.2.1]; exact g3)
              clear g3
              go_upto_region 21 with (go_at_call 14; (with_reducible refine (jfeed_num j qd kk p Ak dn ck _ (by rw [← LN.out]; exact KB.out) PN.out).mono ?_); rintro e w5 ⟨rfl, k2⟩; have D5 := Lib.hid (C.out.same k2); have X5 := C.out.jx.on k2; have r0 := X5.c0; have r1 := X5.c1; have r2 := X5.c2; have r3 := X5.c3; have r4 := X5.c4; have r5 := X5.c5; have r6 := X5.c6; have r7 := X5.c7; have r8 := X5.c8; have z0 := X5.fz 0; have z1 := X5.fz 1; have z2 := X5.fz 2; have z3 := X5.fz 3; have z4 := X5.fz 4; have z5 := X5.fz 5; have z6 := X5.fz 6; have z7 := X5.fz 7; have z8 := X5.fz 8; clear X5; dsimp only; clear k2)
              clear x0 x1 x2 x3 x4 x5 x6 x7 x8 r0 r1 r2 r3 r4 r5 r6 r7 r8 z0 z1 z2 z3 z4 z5 z6 z7 z8 y0 y1 y2 y3 y4
              refine at_worldJ (fun W => Hid (PlA w b g g2 ((k : Int) * 4096) j q ol j qd (kk : Int) p Ak dn ck W)) D5 ?_
              clear D5 C
              intro W6 C
              have y0 := C.out.ac.c0; have y1 := C.out.ac.c1; have y2 := C.out.ac.c2; have y3 := C.out.ac.c3; have y4 := C.out.ac.c4
              have hk1 := fun W q ol => pkept_any b j q ol W
              rw [WN.out] at hk1
              go_upto_region 22 with (go_at_call 15; (with_reducible refine (pfeed_num b j q ol kk p Ak dn ck _ C.out.lw.pw KB.out PN.out).mono ?_); rintro e w7 ⟨rfl, hb7⟩; have E := Lib.hid (C.out.below hb7); clear hb7; dsimp only)
              clear y0 y1 y2 y3 y4 C
              refine at_worldJ (fun W => Hid (PlA w b g g2 ((k : Int) * 4096) j q ol j qd (kk : Int) p Ak dn ck W)) E ?_
              clear E
              intro W7 E
              have s7 := E.out.jx.c4
              have s7d := E.out.drew.jx.c4
              have nz : ¬ (qd.wn : Int) < 0 := by omega
              go_region_held3 (fun W => W.cell? ⟨g, 4, none⟩ = some (.slice qd.wa qd.wn qd.wc)) (first | with_reducible exact s7 | with_reducible exact s7d | with_reducible exact s8 | with_reducible exact s9) (first
                | (go_at_call 12; (with_reducible refine (jto_any [] 0 0 none (fun _ => True) _ Rws.nil (fun _ _ => trivial) rfl (Nat.zero_le _)).mono ?_); rintro e w8 ⟨v8, rfl, ho8, hb8⟩; obtain ⟨A8, c8, hv8, -, -, hr8⟩ := ho8.slice; replace hv8 : v8 = .slice A8 0 c8 := hv8; subst hv8; have R8 := Lib.hid hr8; have E8 := Lib.hid (E.out.drew.below hb8); have s8 := E8.out.jx.c4; clear ho8 hb8 hr8; dsimp only)
                | (go_at_call 11; (with_reducible refine (jsame_yes [] 0 c8 0 A8 none _ (fun _ => True) _ R8.out Rws.nil rfl (by omega)).mono ?_); rintro e w9 ⟨rfl, hb9⟩; have E9 := Lib.hid (E8.out.below hb9); have s9 := E9.out.jx.c4; clear hb9; dsimp only)
                | (go_at_call 16; (with_reducible refine (hk1 _ _ _ E9.out.lw.pw).mono ?_); rintro e wa ⟨rfl, hwa⟩; subst wa; dsimp only))
              clear s7 s7d s8 s9 nz hk1
              go_wp2_with fail
              exact ⟨⟨k + 1, j, q, ol, qd, by omega, by rw [show ((k + 1 : Nat) : Int) = (k : Int) + 1 from by omega], Lib.hid (show PlC w b g (((k + 1 : Nat) : Int) * 4096) j q ol qd w9 from ⟨⟨E9.out.lw.bel, E9.out.lw.pw, E9.out.lw.own, E9.out.lw.ok.up (by omega), E9.out.lw.mo, E9.out.lw.st, E9.out.lw.fr⟩, E9.out.jx, E9.out.jr, E9.out.ng, E9.out.gl⟩), Lib.hid ⟨Nat.le_trans D.out.1 (Nat.le_succ _), D.out.2⟩⟩, by show len - ((k : Int) + 1).toNat < len - ((k : Int)).toNat; omega⟩
            · obtain ⟨kk, rfl⟩ : ∃ kk : Nat, lk = (kk : Int) := ⟨lk.toNat, by omega⟩
              have KB := Lib.hid (show kk < j.last.length by rw [D.out.2.2.2.1]; omega)
              have PN := Lib.hid (show 0 ≤ p.n ∧ p.n < (frmod j.sh : Int) by rw [D.out.2.1]; exact ⟨g3, g4⟩)
              have MS : (frmod j.sh : Int) = 4096 := by rw [D.out.2.1]; rfl
              have MB := Lib.hid (show (k : Int) * 4096 + (frmod j.sh : Int) ≤ 268435456 ∧ (k : Int) * 4096 + (frmod j.sh : Int) = ((k + 1 : Nat) : Int) * 4096 by rw [MS]; have := HLEN.out; omega)
              have RO := Lib.hid (show 0 ≤ j.room by rw [D.out.2.2.1]; have := NB.out; omega)
              have DB := Lib.hid (show dn ≤ 1073741824 by omega)
              have WB := Lib.hid (show j.wait.length < 1073741824 by have := D.out.2.2.2.2; omega)
              have QB := Lib.hid (show q.mn < 1099511627776 by have := D.out.1; have := HLEN.out; omega)
              have FR := Lib.hid (jfeed_room C.out.lw.ok KB.out (p := p) (by rw [DN.out]; exact DB.out) WB.out RO.out (by have := MB.out.1; omega))
              have FK := Lib.hid (jfeed_keep j kk p)
              clear g3 g4 MS
              go_upto_region 21 with (go_at_call 14; (with_reducible refine (jfeed_any (fun i => ¬ q.own b i ∧ i ≠ g) j qd ((k : Int) * 4096) kk p Ak dn ck _ C.out.jr (C.out.rd RD.out) DN.out CK.out C.out.lw.ok MB.out.1 RO.out KB.out PN.out.1 PN.out.2 DB.out WB.out).mono ?_); rintro e w5 ⟨qd5, rfl, k1, k2⟩; have D5 := Lib.hid (C.out.put (k := jfeed j kk p) k2 k1); clear k1; have X5 := C.out.jx.on k2; have r0 := X5.c0; have r1 := X5.c1; have r2 := X5.c2; have r3 := X5.c3; have r4 := X5.c4; have r5 := X5.c5; have r6 := X5.c6; have r7 := X5.c7; have r8 := X5.c8; have z0 := X5.fz 0; have z1 := X5.fz 1; have z2 := X5.fz 2; have z3 := X5.fz 3; have z4 := X5.fz 4; have z5 := X5.fz 5; have z6 := X5.fz 6; have z7 := X5.fz 7; have z8 := X5.fz 8; clear X5; dsimp only; clear k2)
              clear x0 x1 x2 x3 x4 x5 x6 x7 x8 r0 r1 r2 r3 r4 r5 r6 r7 r8 z0 z1 z2 z3 z4 z5 z6 z7 z8 y0 y1 y2 y3 y4
              refine at_worldJ (fun W => Hid (PlA w b g g2 ((k : Int) * 4096) j q ol (jfeed j kk p) qd5 (kk : Int) p Ak dn ck W)) D5 ?_
              clear D5 C
              intro W6 C
              have y0 := C.out.ac.c0; have y1 := C.out.ac.c1; have y2 := C.out.ac.c2; have y3 := C.out.ac.c3; have y4 := C.out.ac.c4
              have TB := Lib.hid (show qd5.tn ≤ 1073741824 by rw [← C.out.jr.t1]; have h1 : ((jfeed j kk p).told.length : Int) ≤ 2 * (jfeed j kk p).next := FR.out.1.td; have h2 : (jfeed j kk p).next ≤ _ := FR.out.1.n1; have := MB.out.1; omega)
              have hk1 := fun W q ol => pkept_any b (jfeed j kk p) q ol W
              rw [C.out.jr.w1] at hk1
              go_upto_region 22 with (go_at_call 15; (with_reducible refine (pfeed_any b j q ol _ _ kk p Ak dn ck _ C.out.lw.pw ((C.out.rd RD.out).mono fun _ _ h => h.1) DN.out CK.out C.out.lw.ok C.out.lw.mo rfl (by have := MB.out.1; omega) RO.out KB.out PN.out.1 PN.out.2 DB.out WB.out QB.out C.out.lw.fr).mono ?_); rintro e w7 ⟨v7, rfl, q7, ol7, A7, n7, c7, rfl, k1, k2, k3, k4, k5, k6, k7⟩; have en : n7 = qd5.tn := k1.symm.trans C.out.jr.t1; subst en; have E := Lib.hid (C.out.prog k4 k5 FR.out.1 (C.out.lw.mo.feed C.out.lw.ok KB.out PN.out.1 PN.out.2) FR.out.2.1 k7); have R7 := Lib.hid (k3.mono (G := fun _ => True) fun _ _ _ => trivial); have Q7 := Lib.hid k6; clear k1 k2 k3 k4 k5 k6 k7; dsimp only)
              clear y0 y1 y2 y3 y4 C
              refine at_worldJ (fun W => Hid (PlA w b g g2 ((k : Int) * 4096 + (frmod j.sh : Int)) (jfeed j kk p) q7 ol7 (jfeed j kk p) qd5 (kk : Int) p Ak dn ck W ∧ Rws shEv (fun _ => True) W A7 (jfeed j kk p).told ∧ Rws shEv (fun _ => True) W.drew A7 (jfeed j kk p).told)) (Lib.hid ⟨E.out, R7.out, R7.out.below (Below.refl _ _).drew⟩) ?_
              clear E R7
              intro W7 EE
              have E := Lib.hid EE.out.1
              have R7 := Lib.hid EE.out.2.2
              clear EE
              have s7 := E.out.jx.c4
              have s7d := E.out.drew.jx.c4
              have nz : ¬ (qd5.wn : Int) < 0 := by omega
              go_region_held3 (fun W => W.cell? ⟨g, 4, none⟩ = some (.slice qd5.wa qd5.wn qd5.wc)) (first | with_reducible exact s7 | with_reducible exact s7d | with_reducible exact s8 | with_reducible exact s9) (first
                | (go_at_call 12; (with_reducible refine (jto_any (jfeed j kk p).told qd5.tn c7 A7 (fun _ => True) _ R7.out (fun _ _ => trivial) E.out.jr.t1 TB.out).mono ?_); rintro e w8 ⟨v8, rfl, ho8, hb8⟩; obtain ⟨A8, c8, hv8, -, -, hr8⟩ := ho8.slice; rw [E.out.jr.t1] at hv8; subst hv8; have R8 := Lib.hid hr8; have E8 := Lib.hid (E.out.drew.below hb8); have s8 := E8.out.jx.c4; clear ho8 hb8 hr8; dsimp only)
                | (go_at_call 11; (with_reducible refine (jsame_yes (jfeed j kk p).told qd5.tn c8 qd5.tc A8 qd5.ta _ _ _ R8.out E8.out.jr.rt E8.out.jr.t1 (by have := TB.out; omega)).mono ?_); rintro e w9 ⟨rfl, hb9⟩; have E9 := Lib.hid (E8.out.below hb9); have s9 := E9.out.jx.c4; clear hb9; dsimp only)
                | (go_at_call 16; (with_reducible refine (hk1 _ _ _ E9.out.lw.pw).mono ?_); rintro e wa ⟨rfl, hwa⟩; subst wa; dsimp only))
              clear s7 s7d s8 s9 nz hk1
              go_wp2_with fail
              exact ⟨⟨k + 1, jfeed j kk p, q7, ol7, qd5, by omega, by rw [show ((k + 1 : Nat) : Int) = (k : Int) + 1 from by omega], Lib.hid (show PlC w b g (((k + 1 : Nat) : Int) * 4096) (jfeed j kk p) q7 ol7 qd5 w9 from ⟨⟨E9.out.lw.bel, E9.out.lw.pw, E9.out.lw.own, E9.out.lw.ok.up (Int.le_of_eq MB.out.2), E9.out.lw.mo, E9.out.lw.st, E9.out.lw.fr⟩, E9.out.jx, E9.out.jr, E9.out.ng, E9.out.gl⟩), Lib.hid ⟨Nat.le_trans Q7.out (Nat.succ_le_succ D.out.1), FK.out.1.trans D.out.2.1, FK.out.2.1.trans D.out.2.2.1, FK.out.2.2.2.trans D.out.2.2.2.1, by have h := FR.out.2.2.1; rw [D.out.2.2.1] at h; have := NB.out; omega⟩⟩, by show len - ((k : Int) + 1).toNat < len - ((k : Int)).toNat; omega⟩
      · have i1 : ¬ (k : Int) < (len : Int) := by omega
        have E := Lib.hid C.out.lw.bel
        clear C
        go_wp2_with fail
        go_ret
        exact ⟨rfl, E.out⟩
end Go.Proofs.YtamdaepeogmboaaDoor
