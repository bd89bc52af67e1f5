
/-
  JoinSome, walked. No condition beyond what the law's arguments are.
-/
import Derived.Test.YtamdaepeogmboaaDoorJsoC
import Derived.Test.YtamdaepeogmboaaDoorRwsH
import Derived.Deep.RegionHeld3
import Derived.Deep.QuietTactic
import Derived.BigQuiet
namespace Go.Proofs.YtamdaepeogmboaaDoor
set_option maxRecDepth 8000
open Go.RowKit Go.Maps

/-- Which pieces come. -/
def jcm (lost : List Bool) (g : Nat) : Bool := if 0 < lost.length then !(lost.getD ((g + 1) % lost.length) false) else true
theorem tmod_nat (a b : Nat) : ((a : Int)).tmod (b : Int) = ((a % b : Nat) : Int) := by
  rw [Int.tmod_eq_emod_of_nonneg (by omega)]
  rfl
theorem SoC.more {w W : World} {b : Nat} {M M' : Int} {j : Jn} {q : Jq} {ol : List Int} {gv wv : Value} {G : List Ev} {U : List (List Nat)} (h : SoC w b M j q ol gv G wv U W) (hM : M ≤ M') : SoC w b M' j q ol gv G wv U W :=
  ⟨⟨h.lw.bel, h.lw.pw, h.lw.own, h.lw.ok.up hM, h.lw.mo, h.lw.st, h.lw.fr⟩, h.gr, h.gq, h.gn, h.wr, h.wq, h.wn, h.ne⟩
theorem so_start (s : Bool) (N : Nat) (h0 : 0 < N) (h1 : N ≤ 16) {w w2 w3 : World} {b : Nat} {q : Jq} (hb : Below w.heap.size w w2) (k1 : Pw w3 b (jnew s N 4096 100) q []) (k2 : Below w2.heap.size w2 w3) (k3 : ∀ i, q.own b i → w2.heap.size ≤ i) (k5 : ∀ i, q.fr i) : SoC w b (((0 : Nat) : Int) * (frmod s : Int)) (jnew s N 4096 100) q [] (.slice none 0 0) [] (.slice none 0 0) [] w3 := by
  rw [show ((0 : Nat) : Int) * (frmod s : Int) = 0 from by simp]
  have h := jnew_ok (s := s) (links := N) (room := 4096) (most := 100) h0 h1 (by decide) (by decide)
  exact ⟨⟨hb.trans (k2.mono hb.size), k1, fun i hi => Nat.le_trans hb.size (k3 i hi), h.1, jnew_mo _ _ _ _, h.2, k5⟩, Orw.nil _ _ _ _ _, Qt.nil _, (fun i e => by cases e), Orw.nil _ _ _ _ _, Qt.nil _, (fun i e => by cases e), fun i e => by cases e⟩

theorem litb {F : Nat → Prop} (w : World) {T : TypeId} (x : List Nat) {A : Option Addr} {n c : Nat} (hl : x.length = n) (hc : n ≤ c) (h : RdF F w A x) :
    Orw shB T F w.heap.size (w.alloc (.cells #[.slice A n c] T)) (.slice (some ⟨w.heap.size, 0, none⟩) 1 1) [x] := by
  subst hl
  refine Orw.lit w [[.slice A x.length c]] rfl (fun k y cs hx hk => ?_) (by simp)
  rcases k with _ | k
  · injection hx with hx
    injection hk with hk
    subst hx; subst hk
    exact ⟨A, c, rfl, hc, h⟩
  · simp at hx
theorem jsW_len {cm : Nat → Bool} {ds : List (List Nat)} : ∀ i, (jsW cm ds i).length ≤ i
  | 0 => Nat.le_refl _
  | i + 1 => by
    have h := jsW_len (cm := cm) (ds := ds) i
    rw [jsW_succ, List.length_append]
    split
    · show _ + 1 ≤ _; omega
    · show _ + 0 ≤ _; omega
theorem jsW_60 {cm : Nat → Bool} {ds : List (List Nat)} (h : ∀ d ∈ ds, d.length ≤ 60) {P : Nat} {x : List Nat} (hx : x ∈ jsW cm ds P) : x.length ≤ 60 := by
  unfold jsW at hx
  obtain ⟨l, hl, hx⟩ := List.mem_flatten.1 hx
  obtain ⟨i, _, rfl⟩ := List.mem_map.1 hl
  split at hx
  · rw [List.mem_singleton.1 hx]; exact js_getD h i
  · cases hx
theorem jwh_le (t : List Ev) : (jwh t).length ≤ t.length := List.length_filterMap_le _ _
theorem cell_lt {w : World} {b o : Nat} {v : Value} (h : w.cell? ⟨b, o, none⟩ = some v) : b < w.heap.size := block_lt h
/-- An event in a block. -/
def EwX (w : World) (g : Nat) (k : Int) (A : Option Addr) (n c : Nat) (f m : Int) : Prop := w.heap[g]? = some (.cells #[.int .i64 k, .slice A n c, .int .i64 f, .int .i64 m] 59 (0, 0))
section
variable {w : World} {g : Nat} {k f m : Int} {A : Option Addr} {n c : Nat}
theorem EwX.c0 (h : EwX w g k A n c f m) : w.cell? ⟨g, 0, none⟩ = some (.int .i64 k) := by rw [cell_of_row w g _ _ _ _ h]; rfl
theorem EwX.c1 (h : EwX w g k A n c f m) : w.cell? ⟨g, 1, none⟩ = some (.slice A n c) := by rw [cell_of_row w g _ _ _ _ h]; rfl
theorem EwX.c3 (h : EwX w g k A n c f m) : w.cell? ⟨g, 3, none⟩ = some (.int .i64 m) := by rw [cell_of_row w g _ _ _ _ h]; rfl
end
theorem ev_z8 : ∀ u ∈ (Value.agg #[.int .i64 0, .slice none 0 0, .int .i64 0, .int .i64 0]).cells, Nu8 u := by
  intro u hu
  simp [Value.cells] at hu
  rcases hu with rfl | rfl | rfl <;> intro x e <;> cases e
theorem sl_z8 : ∀ u ∈ (Value.slice none 0 0).cells, Nu8 u := by
  intro u hu
  simp [Value.cells] at hu
  subst hu
  intro x e
  cases e
theorem sl_info : (Tryd.prog.info? 30).map (fun i => (i.zero, i.size, i.bytes)) = some (some (.slice none 0 0), 1, 24) := by kernel_rfl
set_option maxHeartbeats 16000000 in
theorem joinSome_any (s two : Bool) (a2 a3 a4 : Option Addr) (len2 cap2 len3 cap3 len4 cap4 : Nat) (l2 : List (List Nat)) (l3 : List Nat) (l4 : List Bool) (w : World) (h2 : IsRwsB w a2 len2 cap2 l2) (h3 : l3.length = len3 ∧ By l3 ∧ Rd w w.heap.size a3 l3) (h4 : IsBos w a4 len4 cap4 l4) (hT : TabF w) :
    Calls Tryd.prog 5 #[.bool s, .bool two, .slice a2 len2 cap2, .slice a3 len3 cap3, .slice a4 len4 cap4] w fun e w' => e = .returned (.bool true) ∧ Below w.heap.size w w' := by
  obtain ⟨i0, hi0, hz0, hz1, hz2⟩ := info_parts jev_info
  obtain ⟨i9, hi9, hz90, hz91, hz92⟩ := info_parts sl_info
  have HT := Lib.hid hT
  have HP := Lib.hid h2
  have HD := Lib.hid h3
  have HL := Lib.hid h4
  clear hT h2 h3 h4
  by_cases hb2 : 20 < len2
  · have i2 : (20 : Int) < (len2 : Int) := by omega
    clear hb2
    go_enter Tryd.func5, Tryd.ntmps5
    go_wp2_with (first
      | (go_at_call 7; (with_reducible refine (jspeaks w HT.out).mono ?_); rintro e w2 ⟨rfl, hb⟩; replace hb := Lib.hid hb; dsimp only)
      | (go_at_call 7; (with_reducible refine (jspeaks _ (HT.out.below hb.out)).mono ?_); rintro e w3 ⟨rfl, hb3⟩; replace hb3 := Lib.hid hb3; dsimp only))
    go_ret
    exact ⟨rfl, hb.out.trans (hb3.out.mono hb.out.size)⟩
  have i2 : ¬ (20 : Int) < (len2 : Int) := by omega
  by_cases hb3 : 100 < len3
  · have i3 : (100 : Int) < (len3 : Int) := by omega
    clear hb2 hb3
    go_enter Tryd.func5, Tryd.ntmps5
    go_wp2_with (first
      | (go_at_call 7; (with_reducible refine (jspeaks w HT.out).mono ?_); rintro e w2 ⟨rfl, hb⟩; replace hb := Lib.hid hb; dsimp only)
      | (go_at_call 7; (with_reducible refine (jspeaks _ (HT.out.below hb.out)).mono ?_); rintro e w3 ⟨rfl, hb3⟩; replace hb3 := Lib.hid hb3; dsimp only))
    go_ret
    exact ⟨rfl, hb.out.trans (hb3.out.mono hb.out.size)⟩
  have i3 : ¬ (100 : Int) < (len3 : Int) := by omega
  by_cases hb4 : 300 < len4
  · have i4 : (300 : Int) < (len4 : Int) := by omega
    clear hb2 hb3 hb4
    go_enter Tryd.func5, Tryd.ntmps5
    go_wp2_with (first
      | (go_at_call 7; (with_reducible refine (jspeaks w HT.out).mono ?_); rintro e w2 ⟨rfl, hb⟩; replace hb := Lib.hid hb; dsimp only)
      | (go_at_call 7; (with_reducible refine (jspeaks _ (HT.out.below hb.out)).mono ?_); rintro e w3 ⟨rfl, hb3⟩; replace hb3 := Lib.hid hb3; dsimp only))
    go_ret
    exact ⟨rfl, hb.out.trans (hb3.out.mono hb.out.size)⟩
  have i4 : ¬ (300 : Int) < (len4 : Int) := by omega
  obtain ⟨ds, rest, hls, hds, hrest⟩ := js_pre l2
  have DS := Lib.hid (show ds.length ≤ len2 ∧ len2 ≤ 20 ∧ (∀ d ∈ ds, d.length ≤ 60) ∧ l2.length = len2 ∧ (∀ i, i < ds.length → l2[i]? = some (ds.getD i [])) ∧ (ds.length = len2 ∧ ds = l2 ∨ ∃ x, l2[ds.length]? = some x ∧ 60 < x.length) by
    have hn := HP.out.nl
    refine ⟨by rw [hls, List.length_append] at hn; omega, by omega, hds, hn, fun i hi => ?_, ?_⟩
    · rw [hls, List.getElem?_append_left hi, List.getElem?_eq_getElem hi]
      simp [List.getD, hi]
    · rcases hrest with e | ⟨x, r, e, h⟩
      · exact .inl ⟨by rw [← hn, hls, e, List.append_nil], by rw [hls, e, List.append_nil]⟩
      · exact .inr ⟨x, by rw [hls, e, List.getElem?_append_right (Nat.le_refl _), Nat.sub_self]; rfl, h⟩)
  clear hls hds hrest hb2 hb3 hb4
  obtain ⟨cm, hcm⟩ : ∃ cm, Hid (jcm l4 = cm) := ⟨_, Lib.hid rfl⟩
  cases two
  · skip
    have hnew := fun W (h : TabF W) => pnew_any s 1 4096 100 W h (by decide) (by decide) (by decide) (by decide) (by decide) (by decide)
    rw [show ((1 : Nat) : Int) = 1 from rfl] at hnew
    go_enter Tryd.func5, Tryd.ntmps5
    go_wp2_with (first
      | (go_at_call 7; (with_reducible refine (jspeaks w HT.out).mono ?_); rintro e w2 ⟨rfl, hb⟩; replace hb := Lib.hid hb; dsimp only)
      | (go_at_call 8; (with_reducible refine (hnew _ (HT.out.below hb.out)).mono ?_); rintro e w3 ⟨b, q, rfl, k1, k2, k3, k4, k5⟩; have C := Lib.hid (so_start s 1 (by decide) (by decide) hb.out k1 k2 k3 k5); have Q0 := Lib.hid k4; clear k1 k2 k3 k4 k5; dsimp only))
    clear hnew i2 i3 i4 hb
    have S0 := Lib.hid (Jso.start (s := s) (ds := ds) (P := ds.length) (n := 1) (cm := cm))
    generalize jnew s 1 4096 100 = J0 at C S0
    go_loopw [14, 15, 16, 17, 65] (fun wv gv nv kv iv wr => ∃ (i : Nat) (gg : Nat) (j : Jn) (q : Jq) (ol : List Int) (G : List Ev), i ≤ ds.length ∧ iv = .int .i64 (i : Int) ∧ nv = .int .i64 (gg : Int) ∧ kv = .int .i64 (gg : Int) ∧ Hid (gg = jsF ds i) ∧ Hid (SoC w b ((gg : Int) * (frmod s : Int)) j q ol gv G wv (jsW cm ds i) wr) ∧ Hid (Jso s ds ds.length 1 cm gg G j) ∧ Hid (q.mn ≤ gg ∧ G.length ≤ 2400 * gg)) (fun _ _ _ _ i _ => len2 - (intOf i).toNat)
    case atStart => exact ⟨0, 0, J0, q, [], [], Nat.zero_le _, rfl, rfl, rfl, Lib.hid rfl, C, S0, Lib.hid ⟨by rw [Q0.out]; exact Nat.le_refl _, Nat.le_refl _⟩⟩
    case round =>
      clear C S0 Q0
      obtain ⟨i, gg, j, q, ol, G, hi, rfl, rfl, rfl, GG, C, S, D⟩ := hrel
      by_cases hlt : i < ds.length
      · have hlt2 : i < len2 := by have := DS.out; omega
        obtain ⟨bp, op, x, Ak, ck, rfl, hbp, hx, y0, hck, hrd⟩ := HP.out.rd.rw_ (k := i) (by have := DS.out; omega)
        have z0 := (C.out.lw.bel.cell (p := ⟨bp, _, none⟩) hbp).trans y0
        obtain ⟨dn, hdn⟩ : ∃ n, x.length = n := ⟨_, rfl⟩
        rw [hdn] at z0
        have DN := Lib.hid hdn
        have CK := Lib.hid (show dn ≤ ck by rw [← hdn]; exact hck)
        have RX := Lib.hid (hrd.keep (.of_below C.out.lw.bel))
        have RW0 := Lib.hid (hrd.mono (G := fun i => i < w.heap.size) fun _ h _ => h)
        have BX := Lib.hid (HP.out.by_ x (List.mem_of_getElem? hx))
        have HX := Lib.hid hx
        have i1 : (i : Int) < (len2 : Int) := by have := DS.out; omega
        have i5 : ((i : Int)).toNat = i := by omega
        have i6 : (0 : Int) ≤ (i : Int) := by omega
        have EX := Lib.hid (show ds.getD i [] = x by have h := DS.out.2.2.2.2.1 i hlt; rw [hx] at h; injection h with h; exact h.symm)
        have D60 := Lib.hid (show dn ≤ 60 by rw [← hdn, ← EX.out]; exact js_getD DS.out.2.2.1 i)
        have i7 : ¬ (60 : Int) < (dn : Int) := by have := D60.out; omega
        have F12 := Lib.hid (show jsF ds (i + 1) ≤ 1200 from jsF_1200 DS.out.2.2.1 (by have := DS.out; omega) hlt)
        have HI := Lib.hid hlt
        obtain ⟨q5, hq5⟩ : ∃ q5, i % 5 = q5 := ⟨_, rfl⟩
        obtain ⟨r5, hr5⟩ : ∃ r5, 1 + q5 = r5 := ⟨_, rfl⟩
        have t5 : (i : Int).tmod 5 = (q5 : Int) := by rw [show (i : Int).tmod 5 = ((i % 5 : Nat) : Int) from tmod_nat i 5, hq5]
        have e5 : IntKind.i64.wrap (1 + (q5 : Int)) = (r5 : Int) := by rw [IntKind.wrap_i64]; omega
        have SPL := fun W (h : TabF W) (hr : Rd W W.heap.size Ak x) => jsplit s ds i x dn ck Ak W EX.out hr BX.out DN.out D60.out CK.out h F12.out
        rw [← GG.out, hq5, hr5] at SPL
        obtain ⟨z, hz⟩ : ∃ z, Hid (frcnt r5 dn = z) := ⟨_, Lib.hid rfl⟩
        rw [hz.out] at SPL
        have LZ := Lib.hid (show (jsL s ds i).length = z by rw [jsL_len, EX.out, DN.out, hq5, hr5]; exact hz.out)
        obtain ⟨g2, hg2⟩ : ∃ g2, Hid (jsF ds (i + 1) = g2) := ⟨_, Lib.hid rfl⟩
        rw [hg2.out] at SPL
        have wrk : IntKind.i64.wrap ((i : Int) + 1) = ((i + 1 : Nat) : Int) := by rw [IntKind.wrap_i64]; have := DS.out; omega
        clear y0 hck hrd hx hdn hlt hr5 hq5
        go_wp2_with (go_at_call 19; (with_reducible refine (SPL _ (HT.out.below C.out.lw.bel) RX.out.rd).mono ?_); rintro e w5 ⟨A5, c5, rfl, k1, k2, k3⟩; have C5 := Lib.hid (C.out.below k3); have PC := Lib.hid (C.out.pcs k2); clear k1 k2 k3; dsimp only)
        clear i7 t5 e5 SPL
        go_loopw [15, 17, 23, 89] (fun gv kv av tv wr => ∃ (t g : Nat) (j : Jn) (q : Jq) (ol : List Int) (G : List Ev), t ≤ z ∧ tv = .int .i64 (t : Int) ∧ kv = .int .i64 (g : Int) ∧ av = .bool (((jsG cm ds i).take t).all id) ∧ Hid (g = jsF ds i + t) ∧ Hid (SoC w b ((g : Int) * (frmod s : Int)) j q ol gv G u14 (jsW cm ds i) wr) ∧ Hid (Pcs b q gv wr A5 (jsL s ds i)) ∧ Hid (Jso s ds ds.length 1 cm g G j) ∧ Hid (q.mn ≤ g ∧ G.length ≤ 2400 * g)) (fun _ _ _ tv _ => z - (intOf tv).toNat)
        case atStart => exact ⟨0, gg, j, q, ol, G, Nat.zero_le _, rfl, rfl, rfl, Lib.hid GG.out, C5, PC, S, D⟩
        case round =>
          have RW := Lib.hid (show RdF (fun i => i < w.heap.size) w Ak x from RW0.out)
          clear C C5 PC S D z0 RX RW0
          obtain ⟨t, g, j, q, ol, G, ht, rfl, rfl, rfl, HG, C, PC, S, D⟩ := hrel
          by_cases hlt : t < z
          · obtain ⟨ba, oa, y, Ay, cy, rfl, hba, hy, v0, v1, v2, v3, hcy, hry⟩ := Rws.pc PC.out (k := t) (by rw [LZ.out]; exact hlt)
            obtain ⟨m, hm⟩ : ∃ n, y.d.length = n := ⟨_, rfl⟩
            rw [hm] at v3
            have HM := Lib.hid hm
            have CY := Lib.hid (show m ≤ cy by rw [← hm]; exact hcy)
            have RY := Lib.hid (show RdF (fun i => ¬ q.own b i) wr Ay y.d from hry.mono fun _ _ h => h.1)
            have HY := Lib.hid (show (jsX s ds ds.length)[g]? = some y by rw [HG.out, jsX_at HI.out (by rw [← jsL_len (s := s), LZ.out]; exact hlt)]; exact hy)
            have M60 := Lib.hid (show m ≤ 60 by rw [← hm]; exact jsL_dat DS.out.2.2.1 hy)
            have F20 := Lib.hid (show jsF ds ds.length ≤ 1200 from jsF_1200 DS.out.2.2.1 (by have := DS.out; omega) (Nat.le_refl _))
            have GL := Lib.hid (show g < 1200 by have h := (List.getElem?_eq_some_iff.1 HY.out).1; rw [jsX_len] at h; have := F20.out; omega)
            have ALL := Lib.hid (jsG_step (cm := cm) (ds := ds) (i := i) (k := t) (by rw [← jsL_len (s := s), LZ.out]; exact hlt))
            rw [← HG.out] at ALL
            have j1 : (t : Int) < (z : Int) := by omega
            have j5 : ((t : Int)).toNat = t := by omega
            have j6 : (0 : Int) ≤ (t : Int) := by omega
            obtain ⟨g1, hg1⟩ : ∃ g1, g + 1 = g1 := ⟨_, rfl⟩
            have wg : IntKind.i64.wrap ((g : Int) + 1) = (g1 : Int) := by rw [IntKind.wrap_i64]; have := GL.out; omega
            have wt : IntKind.i64.wrap ((t : Int) + 1) = ((t + 1 : Nat) : Int) := by rw [IntKind.wrap_i64]; have := LZ.out; have h := HG.out; have := GL.out; omega
            have G1 := Lib.hid hg1
            have HZ := Lib.hid hlt
            clear hm hcy hry hy hg1 hlt
            go_upto_region 25 with fail
            refine at_worldJ (fun W => Hid (SoC w b ((g : Int) * (frmod s : Int)) j q ol u15 G u14 (jsW cm ds i) W ∧ Pcs b q u15 W (some ⟨ba, oa, none⟩) (jsL s ds i) ∧ FrX W wr.heap.size 50 y.b y.e y.n Ay m cy ∧ RdF (fun i => ¬ q.own b i) W Ay y.d)) (Lib.hid ⟨C.out.below ((Below.refl _ _).alloc (Nat.le_refl _) _), Pcs.below PC.out ((Below.refl _ _).alloc (Nat.le_refl _) _), FrX.new _ _ _ _ _ _ _ _, RY.out.keep (.of_below ((Below.refl _ _).alloc (Nat.le_refl _) _))⟩) ?_
            clear C PC RY v0 v1 v2 v3
            generalize wr.heap.size = gb
            intro W C
            have LW : len4 = 0 ∨ (0 < len4 ∧ l4.getD (g1 % len4) false = true) ∨ (0 < len4 ∧ l4.getD (g1 % len4) false = false) := by
              rcases Nat.eq_zero_or_pos len4 with h | h
              · exact .inl h
              · cases l4.getD (g1 % len4) false
                · exact .inr (.inr ⟨h, rfl⟩)
                · exact .inr (.inl ⟨h, rfl⟩)
            have CM := Lib.hid (show cm g = if 0 < len4 then !(l4.getD (g1 % len4) false) else true by rw [← hcm.out, ← G1.out, ← HL.out.nl]; rfl)
            rcases LW with lw1 | ⟨lw1, lw2⟩ | ⟨lw1, lw2⟩
            · have m4 : ¬ (0 : Int) < (len4 : Int) := by omega
              have CG := Lib.hid (show cm g = true by rw [CM.out, if_neg (by omega)])
              clear lw1
              rcases Nat.eq_zero_or_pos len3 with d0 | d0
              · skip
                have SF0 := fun k hk => so_feed C.out.1 S.out CG.out (show 0 < 1 by decide) HY.out F20.out k hk Ay m cy HM.out M60.out CY.out C.out.2.2.2 D.out.1
                have SF := SF0 0 (by decide)
                have n3 : ¬ (0 : Int) < (len3 : Int) := by omega
                rw [show ((0 : Nat) : Int) = 0 from rfl] at SF
                clear d0
                clear SF0
                have x0 := C.out.2.2.1.c0; have x1 := C.out.2.2.1.c1; have x2 := C.out.2.2.1.c2; have x3c := C.out.2.2.1.c3
                go_wp2_with (first
                  | (go_at_call 15; (with_reducible refine SF.mono ?_); rintro e w7 ⟨J, A7, m7, c7, q7, ol7, rfl, k1, k2, k3, k4, k5, k6, k7⟩; have C7 := Lib.hid k1; have P7 := Lib.hid (Pcs.step C.out.2.1 k2); have S7 := Lib.hid k3; have T7 := Lib.hid (show J.told.length = m7 ∧ m7 ≤ 2400 ∧ q7.mn ≤ g + 1 from ⟨k4, k5, k7⟩); have R7 := Lib.hid k6; clear k1 k2 k3 k4 k5 k6 k7; dsimp only)
                  | (at_builtin; refine list_rowq shEv rfl _ _ 44 rfl 59 i0 (.agg #[.int .i64 0, .slice none 0 0, .int .i64 0, .int .i64 0]) 48 Tryd.underlying44 hi0 hz0 hz1 hz2 rfl (by decide) (fun i => ¬ q7.own b i) (fun i => ¬ q7.own b i ∧ u15.ownBlock ≠ some i) w.heap.size u15 _ G rfl C7.out.gr rfl A7 m7 c7 J.told rfl R7.out T7.out.1 (fun _ _ h => h) (by have := T7.out.2.1; have := D.out.2; have := GL.out; unfold maxLen; omega) (by have := T7.out.2.1; have := D.out.2; have := GL.out; omega) C7.out.lw.bel.size C7.out.gq shEv_nu8 ev_z8 ?_; intro v8 w8 ho hg hm hq; have C8 := Lib.hid (C7.out.got ho hg hm hq); have P8 := Lib.hid (Pcs.got P7.out hg hm); clear ho hg hm hq; dsimp only))
                exact ⟨⟨t + 1, g1, J, q7, ol7, G ++ J.told, HZ.out, by rw [show ((t + 1 : Nat) : Int) = (t : Int) + 1 from by omega], rfl, by rw [ALL.out, CG.out, Bool.and_true], Lib.hid (by rw [← G1.out, HG.out]; rfl), Lib.hid (by rw [← G1.out]; exact C8.out), P8, Lib.hid (by rw [← G1.out]; exact S7.out), Lib.hid ⟨by rw [← G1.out]; exact T7.out.2.2, by have h1 := T7.out; have h2 := D.out.2; have h3 := G1.out; rw [List.length_append, h1.1]; omega⟩⟩, by show z - ((t : Int) + 1).toNat < z - ((t : Int)).toNat; have := HZ.out; omega⟩
              · skip
                have SF0 := fun k hk => so_feed C.out.1 S.out CG.out (show 0 < 1 by decide) HY.out F20.out k hk Ay m cy HM.out M60.out CY.out C.out.2.2.2 D.out.1
                obtain ⟨bd, od, rfl, hbd, hcd⟩ := HD.out.2.2 (by rw [HD.out.1]; exact d0)
                obtain ⟨r3, hr3⟩ : ∃ r, g1 % len3 = r := ⟨_, rfl⟩
                have r3l : r3 < len3 := by rw [← hr3]; exact Nat.mod_lt _ d0
                obtain ⟨x3, hx3⟩ : ∃ x, l3[r3]? = some x := ⟨_, List.getElem?_eq_getElem (by rw [HD.out.1]; exact r3l)⟩
                have x3b : x3 < 256 := HD.out.2.1 x3 (List.mem_of_getElem? hx3)
                have z3 := (C.out.1.lw.bel.cell (p := ⟨bd, _, none⟩) hbd).trans (hcd r3 x3 hx3)
                have t3 : (g1 : Int).tmod (len3 : Int) = (r3 : Int) := by rw [tmod_nat, hr3]
                have n3 : ¬ (len3 : Int) = 0 := by omega
                have m3 : (0 : Int) < (len3 : Int) := by omega
                have p3 : (0 : Int) ≤ (r3 : Int) := by omega
                have q3 : (r3 : Int) < (len3 : Int) := by omega
                have s3 : ((r3 : Int)).toNat = r3 := by omega
                obtain ⟨tt, htt⟩ : ∃ tt, x3 % 1 = tt := ⟨_, rfl⟩
                have u3 : (x3 : Int).tmod 1 = (tt : Int) := by rw [show (x3 : Int).tmod 1 = ((x3 % 1 : Nat) : Int) from tmod_nat x3 1, htt]
                have SF := SF0 tt (by omega)
                have w3' : IntKind.i64.wrap (x3 : Int) = (x3 : Int) := IntWalk.i64_in _ (by omega)
                clear hcd hbd hr3 r3l hx3 x3b htt d0
                clear SF0
                have x0 := C.out.2.2.1.c0; have x1 := C.out.2.2.1.c1; have x2 := C.out.2.2.1.c2; have x3c := C.out.2.2.1.c3
                go_wp2_with (first
                  | (go_at_call 15; (with_reducible refine SF.mono ?_); rintro e w7 ⟨J, A7, m7, c7, q7, ol7, rfl, k1, k2, k3, k4, k5, k6, k7⟩; have C7 := Lib.hid k1; have P7 := Lib.hid (Pcs.step C.out.2.1 k2); have S7 := Lib.hid k3; have T7 := Lib.hid (show J.told.length = m7 ∧ m7 ≤ 2400 ∧ q7.mn ≤ g + 1 from ⟨k4, k5, k7⟩); have R7 := Lib.hid k6; clear k1 k2 k3 k4 k5 k6 k7; dsimp only)
                  | (at_builtin; refine list_rowq shEv rfl _ _ 44 rfl 59 i0 (.agg #[.int .i64 0, .slice none 0 0, .int .i64 0, .int .i64 0]) 48 Tryd.underlying44 hi0 hz0 hz1 hz2 rfl (by decide) (fun i => ¬ q7.own b i) (fun i => ¬ q7.own b i ∧ u15.ownBlock ≠ some i) w.heap.size u15 _ G rfl C7.out.gr rfl A7 m7 c7 J.told rfl R7.out T7.out.1 (fun _ _ h => h) (by have := T7.out.2.1; have := D.out.2; have := GL.out; unfold maxLen; omega) (by have := T7.out.2.1; have := D.out.2; have := GL.out; omega) C7.out.lw.bel.size C7.out.gq shEv_nu8 ev_z8 ?_; intro v8 w8 ho hg hm hq; have C8 := Lib.hid (C7.out.got ho hg hm hq); have P8 := Lib.hid (Pcs.got P7.out hg hm); clear ho hg hm hq; dsimp only))
                exact ⟨⟨t + 1, g1, J, q7, ol7, G ++ J.told, HZ.out, by rw [show ((t + 1 : Nat) : Int) = (t : Int) + 1 from by omega], rfl, by rw [ALL.out, CG.out, Bool.and_true], Lib.hid (by rw [← G1.out, HG.out]; rfl), Lib.hid (by rw [← G1.out]; exact C8.out), P8, Lib.hid (by rw [← G1.out]; exact S7.out), Lib.hid ⟨by rw [← G1.out]; exact T7.out.2.2, by have h1 := T7.out; have h2 := D.out.2; have h3 := G1.out; rw [List.length_append, h1.1]; omega⟩⟩, by show z - ((t : Int) + 1).toNat < z - ((t : Int)).toNat; have := HZ.out; omega⟩
            · have CG := Lib.hid (show cm g = false by rw [CM.out, if_pos lw1, lw2]; rfl)
              obtain ⟨r4, hr4⟩ : ∃ r, g1 % len4 = r := ⟨_, rfl⟩
              have r4l : r4 < len4 := by rw [← hr4]; exact Nat.mod_lt _ lw1
              rw [hr4] at lw2
              obtain ⟨bl, o4, xb, rfl, hbl, hxb, y4⟩ := HL.out.rd.bo (k := r4) (by rw [HL.out.nl]; exact r4l)
              have exb : xb = true := by rw [List.getD_eq_getElem?_getD, hxb] at lw2; exact lw2
              subst exb
              have z4 := (C.out.1.lw.bel.cell (p := ⟨bl, _, none⟩) hbl).trans y4
              have t4 : (g1 : Int).tmod (len4 : Int) = (r4 : Int) := by rw [tmod_nat, hr4]
              have n4 : ¬ (len4 : Int) = 0 := by omega
              have m4 : (0 : Int) < (len4 : Int) := by omega
              have p4 : (0 : Int) ≤ (r4 : Int) := by omega
              have q4 : (r4 : Int) < (len4 : Int) := by omega
              have s4 : ((r4 : Int)).toNat = r4 := by omega
              clear y4 hxb hbl lw1 lw2 r4l hr4
              go_wp2_with fail
              exact ⟨⟨t + 1, g1, j, q, ol, G, HZ.out, by rw [show ((t + 1 : Nat) : Int) = (t : Int) + 1 from by omega], rfl, by rw [ALL.out, CG.out, Bool.and_false], Lib.hid (by rw [← G1.out, HG.out]; rfl), Lib.hid (by rw [← G1.out]; exact C.out.1.more (by have := (js_mb s GL.out).2; omega)), Lib.hid C.out.2.1, Lib.hid (by rw [← G1.out]; exact S.out.lost CG.out), Lib.hid ⟨by have := D.out.1; have := G1.out; omega, by have := D.out.2; have := G1.out; omega⟩⟩, by show z - ((t : Int) + 1).toNat < z - ((t : Int)).toNat; have := HZ.out; omega⟩
            · have CG := Lib.hid (show cm g = true by rw [CM.out, if_pos lw1, lw2]; rfl)
              obtain ⟨r4, hr4⟩ : ∃ r, g1 % len4 = r := ⟨_, rfl⟩
              have r4l : r4 < len4 := by rw [← hr4]; exact Nat.mod_lt _ lw1
              rw [hr4] at lw2
              obtain ⟨bl, o4, xb, rfl, hbl, hxb, y4⟩ := HL.out.rd.bo (k := r4) (by rw [HL.out.nl]; exact r4l)
              have exb : xb = false := by rw [List.getD_eq_getElem?_getD, hxb] at lw2; exact lw2
              subst exb
              have z4 := (C.out.1.lw.bel.cell (p := ⟨bl, _, none⟩) hbl).trans y4
              have t4 : (g1 : Int).tmod (len4 : Int) = (r4 : Int) := by rw [tmod_nat, hr4]
              have n4 : ¬ (len4 : Int) = 0 := by omega
              have m4 : (0 : Int) < (len4 : Int) := by omega
              have p4 : (0 : Int) ≤ (r4 : Int) := by omega
              have q4 : (r4 : Int) < (len4 : Int) := by omega
              have s4 : ((r4 : Int)).toNat = r4 := by omega
              clear y4 hxb hbl lw1 lw2 r4l hr4
              rcases Nat.eq_zero_or_pos len3 with d0 | d0
              · skip
                have SF0 := fun k hk => so_feed C.out.1 S.out CG.out (show 0 < 1 by decide) HY.out F20.out k hk Ay m cy HM.out M60.out CY.out C.out.2.2.2 D.out.1
                have SF := SF0 0 (by decide)
                have n3 : ¬ (0 : Int) < (len3 : Int) := by omega
                rw [show ((0 : Nat) : Int) = 0 from rfl] at SF
                clear d0
                clear SF0
                have x0 := C.out.2.2.1.c0; have x1 := C.out.2.2.1.c1; have x2 := C.out.2.2.1.c2; have x3c := C.out.2.2.1.c3
                go_wp2_with (first
                  | (go_at_call 15; (with_reducible refine SF.mono ?_); rintro e w7 ⟨J, A7, m7, c7, q7, ol7, rfl, k1, k2, k3, k4, k5, k6, k7⟩; have C7 := Lib.hid k1; have P7 := Lib.hid (Pcs.step C.out.2.1 k2); have S7 := Lib.hid k3; have T7 := Lib.hid (show J.told.length = m7 ∧ m7 ≤ 2400 ∧ q7.mn ≤ g + 1 from ⟨k4, k5, k7⟩); have R7 := Lib.hid k6; clear k1 k2 k3 k4 k5 k6 k7; dsimp only)
                  | (at_builtin; refine list_rowq shEv rfl _ _ 44 rfl 59 i0 (.agg #[.int .i64 0, .slice none 0 0, .int .i64 0, .int .i64 0]) 48 Tryd.underlying44 hi0 hz0 hz1 hz2 rfl (by decide) (fun i => ¬ q7.own b i) (fun i => ¬ q7.own b i ∧ u15.ownBlock ≠ some i) w.heap.size u15 _ G rfl C7.out.gr rfl A7 m7 c7 J.told rfl R7.out T7.out.1 (fun _ _ h => h) (by have := T7.out.2.1; have := D.out.2; have := GL.out; unfold maxLen; omega) (by have := T7.out.2.1; have := D.out.2; have := GL.out; omega) C7.out.lw.bel.size C7.out.gq shEv_nu8 ev_z8 ?_; intro v8 w8 ho hg hm hq; have C8 := Lib.hid (C7.out.got ho hg hm hq); have P8 := Lib.hid (Pcs.got P7.out hg hm); clear ho hg hm hq; dsimp only))
                exact ⟨⟨t + 1, g1, J, q7, ol7, G ++ J.told, HZ.out, by rw [show ((t + 1 : Nat) : Int) = (t : Int) + 1 from by omega], rfl, by rw [ALL.out, CG.out, Bool.and_true], Lib.hid (by rw [← G1.out, HG.out]; rfl), Lib.hid (by rw [← G1.out]; exact C8.out), P8, Lib.hid (by rw [← G1.out]; exact S7.out), Lib.hid ⟨by rw [← G1.out]; exact T7.out.2.2, by have h1 := T7.out; have h2 := D.out.2; have h3 := G1.out; rw [List.length_append, h1.1]; omega⟩⟩, by show z - ((t : Int) + 1).toNat < z - ((t : Int)).toNat; have := HZ.out; omega⟩
              · skip
                have SF0 := fun k hk => so_feed C.out.1 S.out CG.out (show 0 < 1 by decide) HY.out F20.out k hk Ay m cy HM.out M60.out CY.out C.out.2.2.2 D.out.1
                obtain ⟨bd, od, rfl, hbd, hcd⟩ := HD.out.2.2 (by rw [HD.out.1]; exact d0)
                obtain ⟨r3, hr3⟩ : ∃ r, g1 % len3 = r := ⟨_, rfl⟩
                have r3l : r3 < len3 := by rw [← hr3]; exact Nat.mod_lt _ d0
                obtain ⟨x3, hx3⟩ : ∃ x, l3[r3]? = some x := ⟨_, List.getElem?_eq_getElem (by rw [HD.out.1]; exact r3l)⟩
                have x3b : x3 < 256 := HD.out.2.1 x3 (List.mem_of_getElem? hx3)
                have z3 := (C.out.1.lw.bel.cell (p := ⟨bd, _, none⟩) hbd).trans (hcd r3 x3 hx3)
                have t3 : (g1 : Int).tmod (len3 : Int) = (r3 : Int) := by rw [tmod_nat, hr3]
                have n3 : ¬ (len3 : Int) = 0 := by omega
                have m3 : (0 : Int) < (len3 : Int) := by omega
                have p3 : (0 : Int) ≤ (r3 : Int) := by omega
                have q3 : (r3 : Int) < (len3 : Int) := by omega
                have s3 : ((r3 : Int)).toNat = r3 := by omega
                obtain ⟨tt, htt⟩ : ∃ tt, x3 % 1 = tt := ⟨_, rfl⟩
                have u3 : (x3 : Int).tmod 1 = (tt : Int) := by rw [show (x3 : Int).tmod 1 = ((x3 % 1 : Nat) : Int) from tmod_nat x3 1, htt]
                have SF := SF0 tt (by omega)
                have w3' : IntKind.i64.wrap (x3 : Int) = (x3 : Int) := IntWalk.i64_in _ (by omega)
                clear hcd hbd hr3 r3l hx3 x3b htt d0
                clear SF0
                have x0 := C.out.2.2.1.c0; have x1 := C.out.2.2.1.c1; have x2 := C.out.2.2.1.c2; have x3c := C.out.2.2.1.c3
                go_wp2_with (first
                  | (go_at_call 15; (with_reducible refine SF.mono ?_); rintro e w7 ⟨J, A7, m7, c7, q7, ol7, rfl, k1, k2, k3, k4, k5, k6, k7⟩; have C7 := Lib.hid k1; have P7 := Lib.hid (Pcs.step C.out.2.1 k2); have S7 := Lib.hid k3; have T7 := Lib.hid (show J.told.length = m7 ∧ m7 ≤ 2400 ∧ q7.mn ≤ g + 1 from ⟨k4, k5, k7⟩); have R7 := Lib.hid k6; clear k1 k2 k3 k4 k5 k6 k7; dsimp only)
                  | (at_builtin; refine list_rowq shEv rfl _ _ 44 rfl 59 i0 (.agg #[.int .i64 0, .slice none 0 0, .int .i64 0, .int .i64 0]) 48 Tryd.underlying44 hi0 hz0 hz1 hz2 rfl (by decide) (fun i => ¬ q7.own b i) (fun i => ¬ q7.own b i ∧ u15.ownBlock ≠ some i) w.heap.size u15 _ G rfl C7.out.gr rfl A7 m7 c7 J.told rfl R7.out T7.out.1 (fun _ _ h => h) (by have := T7.out.2.1; have := D.out.2; have := GL.out; unfold maxLen; omega) (by have := T7.out.2.1; have := D.out.2; have := GL.out; omega) C7.out.lw.bel.size C7.out.gq shEv_nu8 ev_z8 ?_; intro v8 w8 ho hg hm hq; have C8 := Lib.hid (C7.out.got ho hg hm hq); have P8 := Lib.hid (Pcs.got P7.out hg hm); clear ho hg hm hq; dsimp only))
                exact ⟨⟨t + 1, g1, J, q7, ol7, G ++ J.told, HZ.out, by rw [show ((t + 1 : Nat) : Int) = (t : Int) + 1 from by omega], rfl, by rw [ALL.out, CG.out, Bool.and_true], Lib.hid (by rw [← G1.out, HG.out]; rfl), Lib.hid (by rw [← G1.out]; exact C8.out), P8, Lib.hid (by rw [← G1.out]; exact S7.out), Lib.hid ⟨by rw [← G1.out]; exact T7.out.2.2, by have h1 := T7.out; have h2 := D.out.2; have h3 := G1.out; rw [List.length_append, h1.1]; omega⟩⟩, by show z - ((t : Int) + 1).toNat < z - ((t : Int)).toNat; have := HZ.out; omega⟩
          · have j1 : ¬ (t : Int) < (z : Int) := by omega
            have he : t = z := by omega
            have EG : g2 = g := by rw [HG.out, ← hg2.out, he, ← LZ.out, jsL_len]; rfl
            subst EG
            have FULL := Lib.hid (show (jsG cm ds i).take t = jsG cm ds i from List.take_of_length_le (by rw [jsG_len, ← jsL_len (s := s), LZ.out, he]; exact Nat.le_refl _))
            obtain ⟨B, hB⟩ : ∃ B, ((jsG cm ds i).take t).all id = B := ⟨_, rfl⟩
            rw [hB]
            have HB := Lib.hid (show (jsG cm ds i).all id = B by rw [← hB, FULL.out])
            have EN := Lib.hid (show u15 = u15 from rfl)
            clear hB he FULL EN
            have W1 := Lib.hid (jsW_succ (cm := cm) (ds := ds) i)
            rw [HB.out, EX.out] at W1
            cases B
            · go_wp2_with fail
              exact ⟨⟨i + 1, g2, j, q, ol, G, HI.out, by rw [show ((i + 1 : Nat) : Int) = (i : Int) + 1 from by omega], rfl, rfl, Lib.hid hg2.out.symm, Lib.hid (by rw [W1.out]; exact (List.append_nil _).symm ▸ C.out), S, D⟩, by show len2 - ((i : Int) + 1).toNat < len2 - ((i : Int)).toNat; have := HI.out; have := DS.out.1; omega⟩
            · have RX := Lib.hid (show RdF (fun i => i < w.heap.size) wr Ak x from RW.out.keep (.of_below C.out.lw.bel))
              have C2 := Lib.hid (C.out.below (W' := wr.alloc (.cells #[.slice Ak dn ck] 30)) ((Below.refl _ _).alloc (Nat.le_refl _) _))
              have LR := Lib.hid ((litb wr (T := 30) x DN.out CK.out RX.out).read)
              have UL := Lib.hid (show (jsW cm ds i).length ≤ 20 by have h := jsW_len (cm := cm) (ds := ds) i; have := HI.out; have := DS.out; omega)
              have WS := Lib.hid (show ∀ g, u14.ownBlock = some g → w.heap.size ≤ g ∧ g < wr.heap.size from fun g e => C.out.wr.lt e)
              go_wp2_with (at_builtin; refine list_rowq shB rfl _ _ 53 rfl 30 i9 (.slice none 0 0) 24 Tryd.underlying53 hi9 hz90 hz91 hz92 rfl (by decide) (fun i => ¬ q.own b i) (fun i => i < w.heap.size ∨ wr.heap.size ≤ i) w.heap.size u14 _ (jsW cm ds i) rfl C2.out.wr rfl _ 1 1 [x] rfl LR.out rfl (fun i _ h => h.elim (fun h => ⟨fun e => absurd h (Nat.not_lt.2 (C.out.lw.own i e)), fun e => absurd h (Nat.not_lt.2 (WS.out i e).1)⟩) (fun h => ⟨C.out.lw.pw.new h, fun e => absurd (WS.out i e).2 (Nat.not_lt.2 h)⟩)) (by have := UL.out; unfold maxLen; omega) (by have := UL.out; omega) C2.out.lw.bel.size C2.out.wq shB_nu8 sl_z8 ?_; intro v8 w8 ho hg hm hq; have C8 := Lib.hid (C2.out.want ho hg hm hq); clear ho hg hm hq; dsimp only)
              exact ⟨⟨i + 1, g2, j, q, ol, G, HI.out, by rw [show ((i + 1 : Nat) : Int) = (i : Int) + 1 from by omega], rfl, rfl, Lib.hid hg2.out.symm, Lib.hid (by rw [W1.out]; exact C8.out), S, D⟩, by show len2 - ((i : Int) + 1).toNat < len2 - ((i : Int)).toNat; have := HI.out; have := DS.out.1; omega⟩
      · have he : i = ds.length := by omega
        rcases DS.out.2.2.2.2.2 with hend | hlong
        · have i1 : ¬ (i : Int) < (len2 : Int) := by omega
          subst he
          obtain rfl : gg = jsF ds ds.length := GG.out
          have LD := Lib.hid (show ds.length ≤ 20 by have := DS.out; omega)
          have F20 := Lib.hid (show jsF ds ds.length ≤ 1200 from jsF_1200 DS.out.2.2.1 LD.out (Nat.le_refl _))
          have SFL := so_flush C.out S.out (show 0 < 1 by decide) DS.out.2.2.1 LD.out
          obtain ⟨AW, cW, hv, hwc, -, hwr⟩ := C.out.wr.slice
          subst hv
          obtain ⟨Wn, hWn⟩ : ∃ Wn, Hid (jsW cm ds ds.length = Wn) := ⟨_, Lib.hid rfl⟩
          rw [hWn.out] at SFL
          rw [hWn.out] at hwr C hwc ⊢
          obtain ⟨nw, hnw⟩ : ∃ n, Wn.length = n := ⟨_, rfl⟩
          rw [hnw] at SFL C hwc ⊢
          have NW := Lib.hid hnw
          clear hnw hwc hend GG hwr
          go_upto_region 40 with (first
            | (go_at_call 13; (with_reducible refine SFL.mono ?_); rintro e w7 ⟨J, A7, m7, c7, q7, ol7, rfl, k1, k2, k3, k4, k5, k6, k7⟩; have C7 := Lib.hid k1; have E7 := Lib.hid k7; have T7 := Lib.hid (show J.told.length = m7 ∧ m7 ≤ 2400 from ⟨k3, k4⟩); have R7 := Lib.hid k5; clear k1 k2 k3 k4 k5 k6 k7; dsimp only)
            | (at_builtin; refine list_rowq shEv rfl _ _ 44 rfl 59 i0 (.agg #[.int .i64 0, .slice none 0 0, .int .i64 0, .int .i64 0]) 48 Tryd.underlying44 hi0 hz0 hz1 hz2 rfl (by decide) (fun i => ¬ q7.own b i) (fun i => ¬ q7.own b i ∧ u15.ownBlock ≠ some i) w.heap.size u15 _ G rfl C7.out.gr rfl A7 m7 c7 J.told rfl R7.out T7.out.1 (fun _ _ h => h) (by have := T7.out.2; have := D.out.2; have := F20.out; unfold maxLen; omega) (by have := T7.out.2; have := D.out.2; have := F20.out; omega) C7.out.lw.bel.size C7.out.gq shEv_nu8 ev_z8 ?_; intro v8 w8 ho hg hm hq; have C8 := Lib.hid (C7.out.got ho hg hm hq); clear ho hg hm hq; obtain ⟨A8, c8, hv8, -, -, hr8⟩ := C8.out.gr.slice; subst hv8; dsimp only))
          obtain ⟨E, hE⟩ : ∃ E, G ++ J.told = E := ⟨_, rfl⟩
          rw [hE] at C8 E7
          obtain ⟨ne, hne⟩ : ∃ n, E.length = n := ⟨_, rfl⟩
          have RE := Lib.hid (show Rws shEv (fun _ => True) w8 A8 E from C8.out.gr.read.mono fun _ _ _ => trivial)
          have RW := Lib.hid (show Rws shB (fun _ => True) w8 AW Wn from C8.out.wr.read.mono fun _ _ _ => trivial)
          have BE := Lib.hid C8.out.lw.bel
          rw [show G.length + J.told.length = ne from by rw [← List.length_append, hE, hne]]
          have NE := Lib.hid hne
          have EB := Lib.hid (show E.length ≤ 3000000 by rw [← hE, List.length_append, T7.out.1]; have := T7.out.2; have := D.out.2; have := F20.out; omega)
          have E60 := Lib.hid (show ∀ x ∈ Wn, x.length ≤ 1099511627776 from fun x hx => by rw [← hWn.out] at hx; have := jsW_60 DS.out.2.2.1 hx; omega)
          clear C8 C7 R7 T7 SFL C S D hne hE
          go_wp2_with fail
          go_loopw [29, 145] (fun av iv wr => ∃ (k at_ : Nat), k ≤ ne ∧ iv = .int .i64 (k : Int) ∧ av = .int .i64 (at_ : Int) ∧ Hid (at_ = (jwh (E.take k)).length) ∧ Hid (Below w8.heap.size w8 wr)) (fun _ iv _ => ne - (intOf iv).toNat)
          case atStart => exact ⟨0, 0, Nat.zero_le _, rfl, rfl, Lib.hid rfl, Lib.hid (Below.refl _ _)⟩
          case round =>
            obtain ⟨k, at_, hk, rfl, rfl, HA, B⟩ := hrel
            by_cases hlt : k < ne
            · obtain ⟨be, oe, y, Ay, cy, rfl, hbe, hy, v0, v1, v2, v3, hcy, hry⟩ := (RE.out.below B.out).ev (k := k) (by rw [NE.out]; exact hlt)
              obtain ⟨yk, yd, yf, ym⟩ := y
              dsimp only at v0 v1 v2 v3 hcy hry
              obtain ⟨m, hm⟩ : ∃ n, yd.length = n := ⟨_, rfl⟩
              rw [hm] at v1
              have HM := Lib.hid hm
              have RY := Lib.hid hry.rd
              have KY := Lib.hid (E7.out.2 _ (List.mem_of_getElem? hy))
              have ST := Lib.hid (jwh_step hy)
              have AT := Lib.hid (show yk = 0 → Wn[at_]? = some yd from fun e => by have h := jwh_at hy e; rw [E7.out.1, ← HA.out] at h; exact h)
              have j1 : (k : Int) < (ne : Int) := by omega
              have j5 : ((k : Int)).toNat = k := by omega
              have j6 : (0 : Int) ≤ (k : Int) := by omega
              have HK := Lib.hid hlt
              have AB := Lib.hid (show at_ ≤ 2000000000 by rw [HA.out]; have h1 := jwh_le (E.take k); rw [List.length_take] at h1; have := EB.out; have := NE.out; omega)
              have KB := Lib.hid (show ne ≤ 1000000000 by have := EB.out; have := NE.out; omega)
              have wk : IntKind.i64.wrap ((k : Int) + 1) = ((k + 1 : Nat) : Int) := by rw [IntKind.wrap_i64]; have := KB.out; omega
              have wa : IntKind.i64.wrap ((at_ : Int) + 1) = ((at_ + 1 : Nat) : Int) := by rw [IntKind.wrap_i64]; have := AB.out; omega
              clear hm hcy hry hy hlt
              go_upto_region 44 with fail
              refine at_worldJ (fun W => Hid (Below w8.heap.size w8 W ∧ EwX W wr.heap.size yk Ay m cy yf ym ∧ Rd W W.heap.size Ay yd)) (Lib.hid ⟨B.out.alloc B.out.size _, heap_alloc_new wr _, RY.out.on ((Below.refl _ _).alloc (Nat.le_refl _) _)⟩) ?_
              clear B RY v0 v1 v2 v3
              generalize wr.heap.size = gb
              intro W C
              have e0 := C.out.2.1.c0; have e1 := C.out.2.1.c1; have e3 := C.out.2.1.c3
              have WAYS : yk = 0 ∨ yk = 1 ∨ (yk ≠ 0 ∧ yk ≠ 1 ∧ yk ≠ 3) := by have := KY.out.2; dsimp only at this; omega
              rcases WAYS with rfl | rfl | ⟨y0, y1, y3⟩
              · obtain ⟨bw, ow, x2, Aw2, cw2, hAW, hbw, hx2, v4, -, hrw⟩ := RW.out.rw_ (k := at_) (by have h := (List.getElem?_eq_some_iff.1 (AT.out rfl)).1; exact h)
                subst hAW
                obtain rfl : x2 = yd := by have h := AT.out rfl; rw [hx2] at h; injection h
                rw [HM.out] at v4
                have e4 := (C.out.1.cell (p := ⟨bw, _, none⟩) hbw).trans v4
                have RQ := Lib.hid ((hrw.keep (.of_below C.out.1)).rd)
                have an : at_ < nw := by have h := (List.getElem?_eq_some_iff.1 (AT.out rfl)).1; have := NW.out; omega
                have n1 : ¬ (nw : Int) ≤ (at_ : Int) := by omega
                have n2 : (at_ : Int) < (nw : Int) := by omega
                have n3 : (0 : Int) ≤ (at_ : Int) := by omega
                have n4 : ((at_ : Int)).toNat = at_ := by omega
                have MM := Lib.hid (show m ≤ 1099511627776 by rw [← HM.out]; exact E60.out _ (List.mem_of_getElem? (AT.out rfl)))
                clear v4 hx2 hbw hrw an
                go_upto_region 47 with fail
                have BD := Lib.hid ((Below.refl W.heap.size W).drew)
                have e1d := (BD.out.cell (p := ⟨gb, _, none⟩) (cell_lt e1)).trans e1; have e4d := (BD.out.cell (p := ⟨bw, _, none⟩) (cell_lt e4)).trans e4
                go_region_held3 (fun W => W.cell? ⟨gb, 1, none⟩ = some (.slice Ay m cy) ∧ W.cell? ⟨bw, ow + at_, none⟩ = some (.slice Aw2 m cw2)) (first | with_reducible exact ⟨e1, e4⟩ | with_reducible exact ⟨e1d, e4d⟩ | with_reducible exact ⟨e1z, e4z⟩) (first
                  | (go_at_call 18; (with_reducible refine (equal_yes x2 x2 m m _ _ _ _ _ (C.out.2.2.on (Below.refl _ _).drew) (RQ.out.on (Below.refl _ _).drew) HM.out HM.out MM.out rfl).mono ?_); rintro e w9 ⟨rfl, hb9⟩; have B9 := Lib.hid (((Below.refl W.heap.size W).drew).trans hb9); have e1z := (B9.out.cell (p := ⟨gb, _, none⟩) (cell_lt e1)).trans e1; have e4z := (B9.out.cell (p := ⟨bw, _, none⟩) (cell_lt e4)).trans e4; clear hb9; dsimp only))
                go_wp2_with fail
                exact ⟨⟨k + 1, at_ + 1, HK.out, by rw [show ((k + 1 : Nat) : Int) = (k : Int) + 1 from by omega], by rw [show ((at_ + 1 : Nat) : Int) = (at_ : Int) + 1 from by omega], Lib.hid (by rw [ST.out, List.length_append, ← HA.out]; rfl), Lib.hid (C.out.1.trans (B9.out.mono C.out.1.size))⟩, by show ne - ((k : Int) + 1).toNat < ne - ((k : Int)).toNat; have := HK.out; omega⟩
              · have y3 : ¬ ym < 1 := by have := KY.out.1 rfl; dsimp only at this; omega
                go_wp2_with fail
                exact ⟨⟨k + 1, at_, HK.out, by rw [show ((k + 1 : Nat) : Int) = (k : Int) + 1 from by omega], rfl, Lib.hid (by rw [ST.out, List.length_append, ← HA.out]; rfl), Lib.hid C.out.1⟩, by show ne - ((k : Int) + 1).toNat < ne - ((k : Int)).toNat; have := HK.out; omega⟩
              · have z1 : (yk == 1) = false := beq_eq_false_iff_ne.2 y1
                have z3 : (yk == 3) = false := beq_eq_false_iff_ne.2 y3
                have z0 : (yk == 0) = false := beq_eq_false_iff_ne.2 y0
                go_wp2_with fail
                exact ⟨⟨k + 1, at_, HK.out, by rw [show ((k + 1 : Nat) : Int) = (k : Int) + 1 from by omega], rfl, Lib.hid (by rw [ST.out, List.length_append, ← HA.out]; dsimp only; rw [if_neg y0]; rfl), Lib.hid C.out.1⟩, by show ne - ((k : Int) + 1).toNat < ne - ((k : Int)).toNat; have := HK.out; omega⟩
            · have j1 : ¬ (k : Int) < (ne : Int) := by omega
              have ee : at_ = nw := by rw [HA.out, ← NW.out, List.take_of_length_le (by rw [NE.out]; omega), E7.out.1]
              subst ee
              have BF := Lib.hid (BE.out.trans (B.out.mono BE.out.size))
              go_wp2_with fail
              go_ret
              exact ⟨by simp, BF.out⟩
        · have hlt2 : i < len2 := by obtain ⟨x, h1, h2⟩ := hlong; have := (List.getElem?_eq_some_iff.1 h1).1; have := DS.out; omega
          obtain ⟨bp, op, x, Ak, ck, rfl, hbp, hx, y0, hck, hrd⟩ := HP.out.rd.rw_ (k := i) (by have := DS.out; omega)
          have z0 := (C.out.lw.bel.cell (p := ⟨bp, _, none⟩) hbp).trans y0
          obtain ⟨dn, hdn⟩ : ∃ n, x.length = n := ⟨_, rfl⟩
          rw [hdn] at z0
          have DN := Lib.hid hdn
          have CK := Lib.hid (show dn ≤ ck by rw [← hdn]; exact hck)
          have RX := Lib.hid (hrd.keep (.of_below C.out.lw.bel))
          have RW0 := Lib.hid (hrd.mono (G := fun i => i < w.heap.size) fun _ h _ => h)
          have BX := Lib.hid (HP.out.by_ x (List.mem_of_getElem? hx))
          have HX := Lib.hid hx
          have i1 : (i : Int) < (len2 : Int) := by have := DS.out; omega
          have i5 : ((i : Int)).toNat = i := by omega
          have i6 : (0 : Int) ≤ (i : Int) := by omega
          have i7 : (60 : Int) < (dn : Int) := by obtain ⟨x', h1, h2⟩ := hlong; rw [← he, hx] at h1; injection h1 with h1; subst h1; omega
          have B := Lib.hid C.out.lw.bel
          clear y0 hck hrd hx hdn hlong he C S D
          go_wp2_with fail
          go_ret
          exact ⟨rfl, B.out⟩
  · skip
    have hnew := fun W (h : TabF W) => pnew_any s 2 4096 100 W h (by decide) (by decide) (by decide) (by decide) (by decide) (by decide)
    rw [show ((2 : Nat) : Int) = 2 from rfl] at hnew
    go_enter Tryd.func5, Tryd.ntmps5
    go_wp2_with (first
      | (go_at_call 7; (with_reducible refine (jspeaks w HT.out).mono ?_); rintro e w2 ⟨rfl, hb⟩; replace hb := Lib.hid hb; dsimp only)
      | (go_at_call 8; (with_reducible refine (hnew _ (HT.out.below hb.out)).mono ?_); rintro e w3 ⟨b, q, rfl, k1, k2, k3, k4, k5⟩; have C := Lib.hid (so_start s 2 (by decide) (by decide) hb.out k1 k2 k3 k5); have Q0 := Lib.hid k4; clear k1 k2 k3 k4 k5; dsimp only))
    clear hnew i2 i3 i4 hb
    have S0 := Lib.hid (Jso.start (s := s) (ds := ds) (P := ds.length) (n := 2) (cm := cm))
    generalize jnew s 2 4096 100 = J0 at C S0
    go_loopw [14, 15, 16, 17, 65] (fun wv gv nv kv iv wr => ∃ (i : Nat) (gg : Nat) (j : Jn) (q : Jq) (ol : List Int) (G : List Ev), i ≤ ds.length ∧ iv = .int .i64 (i : Int) ∧ nv = .int .i64 (gg : Int) ∧ kv = .int .i64 (gg : Int) ∧ Hid (gg = jsF ds i) ∧ Hid (SoC w b ((gg : Int) * (frmod s : Int)) j q ol gv G wv (jsW cm ds i) wr) ∧ Hid (Jso s ds ds.length 2 cm gg G j) ∧ Hid (q.mn ≤ gg ∧ G.length ≤ 2400 * gg)) (fun _ _ _ _ i _ => len2 - (intOf i).toNat)
    case atStart => exact ⟨0, 0, J0, q, [], [], Nat.zero_le _, rfl, rfl, rfl, Lib.hid rfl, C, S0, Lib.hid ⟨by rw [Q0.out]; exact Nat.le_refl _, Nat.le_refl _⟩⟩
    case round =>
      clear C S0 Q0
      obtain ⟨i, gg, j, q, ol, G, hi, rfl, rfl, rfl, GG, C, S, D⟩ := hrel
      by_cases hlt : i < ds.length
      · have hlt2 : i < len2 := by have := DS.out; omega
        obtain ⟨bp, op, x, Ak, ck, rfl, hbp, hx, y0, hck, hrd⟩ := HP.out.rd.rw_ (k := i) (by have := DS.out; omega)
        have z0 := (C.out.lw.bel.cell (p := ⟨bp, _, none⟩) hbp).trans y0
        obtain ⟨dn, hdn⟩ : ∃ n, x.length = n := ⟨_, rfl⟩
        rw [hdn] at z0
        have DN := Lib.hid hdn
        have CK := Lib.hid (show dn ≤ ck by rw [← hdn]; exact hck)
        have RX := Lib.hid (hrd.keep (.of_below C.out.lw.bel))
        have RW0 := Lib.hid (hrd.mono (G := fun i => i < w.heap.size) fun _ h _ => h)
        have BX := Lib.hid (HP.out.by_ x (List.mem_of_getElem? hx))
        have HX := Lib.hid hx
        have i1 : (i : Int) < (len2 : Int) := by have := DS.out; omega
        have i5 : ((i : Int)).toNat = i := by omega
        have i6 : (0 : Int) ≤ (i : Int) := by omega
        have EX := Lib.hid (show ds.getD i [] = x by have h := DS.out.2.2.2.2.1 i hlt; rw [hx] at h; injection h with h; exact h.symm)
        have D60 := Lib.hid (show dn ≤ 60 by rw [← hdn, ← EX.out]; exact js_getD DS.out.2.2.1 i)
        have i7 : ¬ (60 : Int) < (dn : Int) := by have := D60.out; omega
        have F12 := Lib.hid (show jsF ds (i + 1) ≤ 1200 from jsF_1200 DS.out.2.2.1 (by have := DS.out; omega) hlt)
        have HI := Lib.hid hlt
        obtain ⟨q5, hq5⟩ : ∃ q5, i % 5 = q5 := ⟨_, rfl⟩
        obtain ⟨r5, hr5⟩ : ∃ r5, 1 + q5 = r5 := ⟨_, rfl⟩
        have t5 : (i : Int).tmod 5 = (q5 : Int) := by rw [show (i : Int).tmod 5 = ((i % 5 : Nat) : Int) from tmod_nat i 5, hq5]
        have e5 : IntKind.i64.wrap (1 + (q5 : Int)) = (r5 : Int) := by rw [IntKind.wrap_i64]; omega
        have SPL := fun W (h : TabF W) (hr : Rd W W.heap.size Ak x) => jsplit s ds i x dn ck Ak W EX.out hr BX.out DN.out D60.out CK.out h F12.out
        rw [← GG.out, hq5, hr5] at SPL
        obtain ⟨z, hz⟩ : ∃ z, Hid (frcnt r5 dn = z) := ⟨_, Lib.hid rfl⟩
        rw [hz.out] at SPL
        have LZ := Lib.hid (show (jsL s ds i).length = z by rw [jsL_len, EX.out, DN.out, hq5, hr5]; exact hz.out)
        obtain ⟨g2, hg2⟩ : ∃ g2, Hid (jsF ds (i + 1) = g2) := ⟨_, Lib.hid rfl⟩
        rw [hg2.out] at SPL
        have wrk : IntKind.i64.wrap ((i : Int) + 1) = ((i + 1 : Nat) : Int) := by rw [IntKind.wrap_i64]; have := DS.out; omega
        clear y0 hck hrd hx hdn hlt hr5 hq5
        go_wp2_with (go_at_call 19; (with_reducible refine (SPL _ (HT.out.below C.out.lw.bel) RX.out.rd).mono ?_); rintro e w5 ⟨A5, c5, rfl, k1, k2, k3⟩; have C5 := Lib.hid (C.out.below k3); have PC := Lib.hid (C.out.pcs k2); clear k1 k2 k3; dsimp only)
        clear i7 t5 e5 SPL
        go_loopw [15, 17, 23, 89] (fun gv kv av tv wr => ∃ (t g : Nat) (j : Jn) (q : Jq) (ol : List Int) (G : List Ev), t ≤ z ∧ tv = .int .i64 (t : Int) ∧ kv = .int .i64 (g : Int) ∧ av = .bool (((jsG cm ds i).take t).all id) ∧ Hid (g = jsF ds i + t) ∧ Hid (SoC w b ((g : Int) * (frmod s : Int)) j q ol gv G u14 (jsW cm ds i) wr) ∧ Hid (Pcs b q gv wr A5 (jsL s ds i)) ∧ Hid (Jso s ds ds.length 2 cm g G j) ∧ Hid (q.mn ≤ g ∧ G.length ≤ 2400 * g)) (fun _ _ _ tv _ => z - (intOf tv).toNat)
        case atStart => exact ⟨0, gg, j, q, ol, G, Nat.zero_le _, rfl, rfl, rfl, Lib.hid GG.out, C5, PC, S, D⟩
        case round =>
          have RW := Lib.hid (show RdF (fun i => i < w.heap.size) w Ak x from RW0.out)
          clear C C5 PC S D z0 RX RW0
          obtain ⟨t, g, j, q, ol, G, ht, rfl, rfl, rfl, HG, C, PC, S, D⟩ := hrel
          by_cases hlt : t < z
          · obtain ⟨ba, oa, y, Ay, cy, rfl, hba, hy, v0, v1, v2, v3, hcy, hry⟩ := Rws.pc PC.out (k := t) (by rw [LZ.out]; exact hlt)
            obtain ⟨m, hm⟩ : ∃ n, y.d.length = n := ⟨_, rfl⟩
            rw [hm] at v3
            have HM := Lib.hid hm
            have CY := Lib.hid (show m ≤ cy by rw [← hm]; exact hcy)
            have RY := Lib.hid (show RdF (fun i => ¬ q.own b i) wr Ay y.d from hry.mono fun _ _ h => h.1)
            have HY := Lib.hid (show (jsX s ds ds.length)[g]? = some y by rw [HG.out, jsX_at HI.out (by rw [← jsL_len (s := s), LZ.out]; exact hlt)]; exact hy)
            have M60 := Lib.hid (show m ≤ 60 by rw [← hm]; exact jsL_dat DS.out.2.2.1 hy)
            have F20 := Lib.hid (show jsF ds ds.length ≤ 1200 from jsF_1200 DS.out.2.2.1 (by have := DS.out; omega) (Nat.le_refl _))
            have GL := Lib.hid (show g < 1200 by have h := (List.getElem?_eq_some_iff.1 HY.out).1; rw [jsX_len] at h; have := F20.out; omega)
            have ALL := Lib.hid (jsG_step (cm := cm) (ds := ds) (i := i) (k := t) (by rw [← jsL_len (s := s), LZ.out]; exact hlt))
            rw [← HG.out] at ALL
            have j1 : (t : Int) < (z : Int) := by omega
            have j5 : ((t : Int)).toNat = t := by omega
            have j6 : (0 : Int) ≤ (t : Int) := by omega
            obtain ⟨g1, hg1⟩ : ∃ g1, g + 1 = g1 := ⟨_, rfl⟩
            have wg : IntKind.i64.wrap ((g : Int) + 1) = (g1 : Int) := by rw [IntKind.wrap_i64]; have := GL.out; omega
            have wt : IntKind.i64.wrap ((t : Int) + 1) = ((t + 1 : Nat) : Int) := by rw [IntKind.wrap_i64]; have := LZ.out; have h := HG.out; have := GL.out; omega
            have G1 := Lib.hid hg1
            have HZ := Lib.hid hlt
            clear hm hcy hry hy hg1 hlt
            go_upto_region 25 with fail
            refine at_worldJ (fun W => Hid (SoC w b ((g : Int) * (frmod s : Int)) j q ol u15 G u14 (jsW cm ds i) W ∧ Pcs b q u15 W (some ⟨ba, oa, none⟩) (jsL s ds i) ∧ FrX W wr.heap.size 50 y.b y.e y.n Ay m cy ∧ RdF (fun i => ¬ q.own b i) W Ay y.d)) (Lib.hid ⟨C.out.below ((Below.refl _ _).alloc (Nat.le_refl _) _), Pcs.below PC.out ((Below.refl _ _).alloc (Nat.le_refl _) _), FrX.new _ _ _ _ _ _ _ _, RY.out.keep (.of_below ((Below.refl _ _).alloc (Nat.le_refl _) _))⟩) ?_
            clear C PC RY v0 v1 v2 v3
            generalize wr.heap.size = gb
            intro W C
            have LW : len4 = 0 ∨ (0 < len4 ∧ l4.getD (g1 % len4) false = true) ∨ (0 < len4 ∧ l4.getD (g1 % len4) false = false) := by
              rcases Nat.eq_zero_or_pos len4 with h | h
              · exact .inl h
              · cases l4.getD (g1 % len4) false
                · exact .inr (.inr ⟨h, rfl⟩)
                · exact .inr (.inl ⟨h, rfl⟩)
            have CM := Lib.hid (show cm g = if 0 < len4 then !(l4.getD (g1 % len4) false) else true by rw [← hcm.out, ← G1.out, ← HL.out.nl]; rfl)
            rcases LW with lw1 | ⟨lw1, lw2⟩ | ⟨lw1, lw2⟩
            · have m4 : ¬ (0 : Int) < (len4 : Int) := by omega
              have CG := Lib.hid (show cm g = true by rw [CM.out, if_neg (by omega)])
              clear lw1
              rcases Nat.eq_zero_or_pos len3 with d0 | d0
              · skip
                have SF0 := fun k hk => so_feed C.out.1 S.out CG.out (show 0 < 2 by decide) HY.out F20.out k hk Ay m cy HM.out M60.out CY.out C.out.2.2.2 D.out.1
                have SF := SF0 0 (by decide)
                have n3 : ¬ (0 : Int) < (len3 : Int) := by omega
                rw [show ((0 : Nat) : Int) = 0 from rfl] at SF
                clear d0
                clear SF0
                have x0 := C.out.2.2.1.c0; have x1 := C.out.2.2.1.c1; have x2 := C.out.2.2.1.c2; have x3c := C.out.2.2.1.c3
                go_wp2_with (first
                  | (go_at_call 15; (with_reducible refine SF.mono ?_); rintro e w7 ⟨J, A7, m7, c7, q7, ol7, rfl, k1, k2, k3, k4, k5, k6, k7⟩; have C7 := Lib.hid k1; have P7 := Lib.hid (Pcs.step C.out.2.1 k2); have S7 := Lib.hid k3; have T7 := Lib.hid (show J.told.length = m7 ∧ m7 ≤ 2400 ∧ q7.mn ≤ g + 1 from ⟨k4, k5, k7⟩); have R7 := Lib.hid k6; clear k1 k2 k3 k4 k5 k6 k7; dsimp only)
                  | (at_builtin; refine list_rowq shEv rfl _ _ 44 rfl 59 i0 (.agg #[.int .i64 0, .slice none 0 0, .int .i64 0, .int .i64 0]) 48 Tryd.underlying44 hi0 hz0 hz1 hz2 rfl (by decide) (fun i => ¬ q7.own b i) (fun i => ¬ q7.own b i ∧ u15.ownBlock ≠ some i) w.heap.size u15 _ G rfl C7.out.gr rfl A7 m7 c7 J.told rfl R7.out T7.out.1 (fun _ _ h => h) (by have := T7.out.2.1; have := D.out.2; have := GL.out; unfold maxLen; omega) (by have := T7.out.2.1; have := D.out.2; have := GL.out; omega) C7.out.lw.bel.size C7.out.gq shEv_nu8 ev_z8 ?_; intro v8 w8 ho hg hm hq; have C8 := Lib.hid (C7.out.got ho hg hm hq); have P8 := Lib.hid (Pcs.got P7.out hg hm); clear ho hg hm hq; dsimp only))
                exact ⟨⟨t + 1, g1, J, q7, ol7, G ++ J.told, HZ.out, by rw [show ((t + 1 : Nat) : Int) = (t : Int) + 1 from by omega], rfl, by rw [ALL.out, CG.out, Bool.and_true], Lib.hid (by rw [← G1.out, HG.out]; rfl), Lib.hid (by rw [← G1.out]; exact C8.out), P8, Lib.hid (by rw [← G1.out]; exact S7.out), Lib.hid ⟨by rw [← G1.out]; exact T7.out.2.2, by have h1 := T7.out; have h2 := D.out.2; have h3 := G1.out; rw [List.length_append, h1.1]; omega⟩⟩, by show z - ((t : Int) + 1).toNat < z - ((t : Int)).toNat; have := HZ.out; omega⟩
              · skip
                have SF0 := fun k hk => so_feed C.out.1 S.out CG.out (show 0 < 2 by decide) HY.out F20.out k hk Ay m cy HM.out M60.out CY.out C.out.2.2.2 D.out.1
                obtain ⟨bd, od, rfl, hbd, hcd⟩ := HD.out.2.2 (by rw [HD.out.1]; exact d0)
                obtain ⟨r3, hr3⟩ : ∃ r, g1 % len3 = r := ⟨_, rfl⟩
                have r3l : r3 < len3 := by rw [← hr3]; exact Nat.mod_lt _ d0
                obtain ⟨x3, hx3⟩ : ∃ x, l3[r3]? = some x := ⟨_, List.getElem?_eq_getElem (by rw [HD.out.1]; exact r3l)⟩
                have x3b : x3 < 256 := HD.out.2.1 x3 (List.mem_of_getElem? hx3)
                have z3 := (C.out.1.lw.bel.cell (p := ⟨bd, _, none⟩) hbd).trans (hcd r3 x3 hx3)
                have t3 : (g1 : Int).tmod (len3 : Int) = (r3 : Int) := by rw [tmod_nat, hr3]
                have n3 : ¬ (len3 : Int) = 0 := by omega
                have m3 : (0 : Int) < (len3 : Int) := by omega
                have p3 : (0 : Int) ≤ (r3 : Int) := by omega
                have q3 : (r3 : Int) < (len3 : Int) := by omega
                have s3 : ((r3 : Int)).toNat = r3 := by omega
                obtain ⟨tt, htt⟩ : ∃ tt, x3 % 2 = tt := ⟨_, rfl⟩
                have u3 : (x3 : Int).tmod 2 = (tt : Int) := by rw [show (x3 : Int).tmod 2 = ((x3 % 2 : Nat) : Int) from tmod_nat x3 2, htt]
                have SF := SF0 tt (by omega)
                have w3' : IntKind.i64.wrap (x3 : Int) = (x3 : Int) := IntWalk.i64_in _ (by omega)
                clear hcd hbd hr3 r3l hx3 x3b htt d0
                clear SF0
                have x0 := C.out.2.2.1.c0; have x1 := C.out.2.2.1.c1; have x2 := C.out.2.2.1.c2; have x3c := C.out.2.2.1.c3
                go_wp2_with (first
                  | (go_at_call 15; (with_reducible refine SF.mono ?_); rintro e w7 ⟨J, A7, m7, c7, q7, ol7, rfl, k1, k2, k3, k4, k5, k6, k7⟩; have C7 := Lib.hid k1; have P7 := Lib.hid (Pcs.step C.out.2.1 k2); have S7 := Lib.hid k3; have T7 := Lib.hid (show J.told.length = m7 ∧ m7 ≤ 2400 ∧ q7.mn ≤ g + 1 from ⟨k4, k5, k7⟩); have R7 := Lib.hid k6; clear k1 k2 k3 k4 k5 k6 k7; dsimp only)
                  | (at_builtin; refine list_rowq shEv rfl _ _ 44 rfl 59 i0 (.agg #[.int .i64 0, .slice none 0 0, .int .i64 0, .int .i64 0]) 48 Tryd.underlying44 hi0 hz0 hz1 hz2 rfl (by decide) (fun i => ¬ q7.own b i) (fun i => ¬ q7.own b i ∧ u15.ownBlock ≠ some i) w.heap.size u15 _ G rfl C7.out.gr rfl A7 m7 c7 J.told rfl R7.out T7.out.1 (fun _ _ h => h) (by have := T7.out.2.1; have := D.out.2; have := GL.out; unfold maxLen; omega) (by have := T7.out.2.1; have := D.out.2; have := GL.out; omega) C7.out.lw.bel.size C7.out.gq shEv_nu8 ev_z8 ?_; intro v8 w8 ho hg hm hq; have C8 := Lib.hid (C7.out.got ho hg hm hq); have P8 := Lib.hid (Pcs.got P7.out hg hm); clear ho hg hm hq; dsimp only))
                exact ⟨⟨t + 1, g1, J, q7, ol7, G ++ J.told, HZ.out, by rw [show ((t + 1 : Nat) : Int) = (t : Int) + 1 from by omega], rfl, by rw [ALL.out, CG.out, Bool.and_true], Lib.hid (by rw [← G1.out, HG.out]; rfl), Lib.hid (by rw [← G1.out]; exact C8.out), P8, Lib.hid (by rw [← G1.out]; exact S7.out), Lib.hid ⟨by rw [← G1.out]; exact T7.out.2.2, by have h1 := T7.out; have h2 := D.out.2; have h3 := G1.out; rw [List.length_append, h1.1]; omega⟩⟩, by show z - ((t : Int) + 1).toNat < z - ((t : Int)).toNat; have := HZ.out; omega⟩
            · have CG := Lib.hid (show cm g = false by rw [CM.out, if_pos lw1, lw2]; rfl)
              obtain ⟨r4, hr4⟩ : ∃ r, g1 % len4 = r := ⟨_, rfl⟩
              have r4l : r4 < len4 := by rw [← hr4]; exact Nat.mod_lt _ lw1
              rw [hr4] at lw2
              obtain ⟨bl, o4, xb, rfl, hbl, hxb, y4⟩ := HL.out.rd.bo (k := r4) (by rw [HL.out.nl]; exact r4l)
              have exb : xb = true := by rw [List.getD_eq_getElem?_getD, hxb] at lw2; exact lw2
              subst exb
              have z4 := (C.out.1.lw.bel.cell (p := ⟨bl, _, none⟩) hbl).trans y4
              have t4 : (g1 : Int).tmod (len4 : Int) = (r4 : Int) := by rw [tmod_nat, hr4]
              have n4 : ¬ (len4 : Int) = 0 := by omega
              have m4 : (0 : Int) < (len4 : Int) := by omega
              have p4 : (0 : Int) ≤ (r4 : Int) := by omega
              have q4 : (r4 : Int) < (len4 : Int) := by omega
              have s4 : ((r4 : Int)).toNat = r4 := by omega
              clear y4 hxb hbl lw1 lw2 r4l hr4
              go_wp2_with fail
              exact ⟨⟨t + 1, g1, j, q, ol, G, HZ.out, by rw [show ((t + 1 : Nat) : Int) = (t : Int) + 1 from by omega], rfl, by rw [ALL.out, CG.out, Bool.and_false], Lib.hid (by rw [← G1.out, HG.out]; rfl), Lib.hid (by rw [← G1.out]; exact C.out.1.more (by have := (js_mb s GL.out).2; omega)), Lib.hid C.out.2.1, Lib.hid (by rw [← G1.out]; exact S.out.lost CG.out), Lib.hid ⟨by have := D.out.1; have := G1.out; omega, by have := D.out.2; have := G1.out; omega⟩⟩, by show z - ((t : Int) + 1).toNat < z - ((t : Int)).toNat; have := HZ.out; omega⟩
            · have CG := Lib.hid (show cm g = true by rw [CM.out, if_pos lw1, lw2]; rfl)
              obtain ⟨r4, hr4⟩ : ∃ r, g1 % len4 = r := ⟨_, rfl⟩
              have r4l : r4 < len4 := by rw [← hr4]; exact Nat.mod_lt _ lw1
              rw [hr4] at lw2
              obtain ⟨bl, o4, xb, rfl, hbl, hxb, y4⟩ := HL.out.rd.bo (k := r4) (by rw [HL.out.nl]; exact r4l)
              have exb : xb = false := by rw [List.getD_eq_getElem?_getD, hxb] at lw2; exact lw2
              subst exb
              have z4 := (C.out.1.lw.bel.cell (p := ⟨bl, _, none⟩) hbl).trans y4
              have t4 : (g1 : Int).tmod (len4 : Int) = (r4 : Int) := by rw [tmod_nat, hr4]
              have n4 : ¬ (len4 : Int) = 0 := by omega
              have m4 : (0 : Int) < (len4 : Int) := by omega
              have p4 : (0 : Int) ≤ (r4 : Int) := by omega
              have q4 : (r4 : Int) < (len4 : Int) := by omega
              have s4 : ((r4 : Int)).toNat = r4 := by omega
              clear y4 hxb hbl lw1 lw2 r4l hr4
              rcases Nat.eq_zero_or_pos len3 with d0 | d0
              · skip
                have SF0 := fun k hk => so_feed C.out.1 S.out CG.out (show 0 < 2 by decide) HY.out F20.out k hk Ay m cy HM.out M60.out CY.out C.out.2.2.2 D.out.1
                have SF := SF0 0 (by decide)
                have n3 : ¬ (0 : Int) < (len3 : Int) := by omega
                rw [show ((0 : Nat) : Int) = 0 from rfl] at SF
                clear d0
                clear SF0
                have x0 := C.out.2.2.1.c0; have x1 := C.out.2.2.1.c1; have x2 := C.out.2.2.1.c2; have x3c := C.out.2.2.1.c3
                go_wp2_with (first
                  | (go_at_call 15; (with_reducible refine SF.mono ?_); rintro e w7 ⟨J, A7, m7, c7, q7, ol7, rfl, k1, k2, k3, k4, k5, k6, k7⟩; have C7 := Lib.hid k1; have P7 := Lib.hid (Pcs.step C.out.2.1 k2); have S7 := Lib.hid k3; have T7 := Lib.hid (show J.told.length = m7 ∧ m7 ≤ 2400 ∧ q7.mn ≤ g + 1 from ⟨k4, k5, k7⟩); have R7 := Lib.hid k6; clear k1 k2 k3 k4 k5 k6 k7; dsimp only)
                  | (at_builtin; refine list_rowq shEv rfl _ _ 44 rfl 59 i0 (.agg #[.int .i64 0, .slice none 0 0, .int .i64 0, .int .i64 0]) 48 Tryd.underlying44 hi0 hz0 hz1 hz2 rfl (by decide) (fun i => ¬ q7.own b i) (fun i => ¬ q7.own b i ∧ u15.ownBlock ≠ some i) w.heap.size u15 _ G rfl C7.out.gr rfl A7 m7 c7 J.told rfl R7.out T7.out.1 (fun _ _ h => h) (by have := T7.out.2.1; have := D.out.2; have := GL.out; unfold maxLen; omega) (by have := T7.out.2.1; have := D.out.2; have := GL.out; omega) C7.out.lw.bel.size C7.out.gq shEv_nu8 ev_z8 ?_; intro v8 w8 ho hg hm hq; have C8 := Lib.hid (C7.out.got ho hg hm hq); have P8 := Lib.hid (Pcs.got P7.out hg hm); clear ho hg hm hq; dsimp only))
                exact ⟨⟨t + 1, g1, J, q7, ol7, G ++ J.told, HZ.out, by rw [show ((t + 1 : Nat) : Int) = (t : Int) + 1 from by omega], rfl, by rw [ALL.out, CG.out, Bool.and_true], Lib.hid (by rw [← G1.out, HG.out]; rfl), Lib.hid (by rw [← G1.out]; exact C8.out), P8, Lib.hid (by rw [← G1.out]; exact S7.out), Lib.hid ⟨by rw [← G1.out]; exact T7.out.2.2, by have h1 := T7.out; have h2 := D.out.2; have h3 := G1.out; rw [List.length_append, h1.1]; omega⟩⟩, by show z - ((t : Int) + 1).toNat < z - ((t : Int)).toNat; have := HZ.out; omega⟩
              · skip
                have SF0 := fun k hk => so_feed C.out.1 S.out CG.out (show 0 < 2 by decide) HY.out F20.out k hk Ay m cy HM.out M60.out CY.out C.out.2.2.2 D.out.1
                obtain ⟨bd, od, rfl, hbd, hcd⟩ := HD.out.2.2 (by rw [HD.out.1]; exact d0)
                obtain ⟨r3, hr3⟩ : ∃ r, g1 % len3 = r := ⟨_, rfl⟩
                have r3l : r3 < len3 := by rw [← hr3]; exact Nat.mod_lt _ d0
                obtain ⟨x3, hx3⟩ : ∃ x, l3[r3]? = some x := ⟨_, List.getElem?_eq_getElem (by rw [HD.out.1]; exact r3l)⟩
                have x3b : x3 < 256 := HD.out.2.1 x3 (List.mem_of_getElem? hx3)
                have z3 := (C.out.1.lw.bel.cell (p := ⟨bd, _, none⟩) hbd).trans (hcd r3 x3 hx3)
                have t3 : (g1 : Int).tmod (len3 : Int) = (r3 : Int) := by rw [tmod_nat, hr3]
                have n3 : ¬ (len3 : Int) = 0 := by omega
                have m3 : (0 : Int) < (len3 : Int) := by omega
                have p3 : (0 : Int) ≤ (r3 : Int) := by omega
                have q3 : (r3 : Int) < (len3 : Int) := by omega
                have s3 : ((r3 : Int)).toNat = r3 := by omega
                obtain ⟨tt, htt⟩ : ∃ tt, x3 % 2 = tt := ⟨_, rfl⟩
                have u3 : (x3 : Int).tmod 2 = (tt : Int) := by rw [show (x3 : Int).tmod 2 = ((x3 % 2 : Nat) : Int) from tmod_nat x3 2, htt]
                have SF := SF0 tt (by omega)
                have w3' : IntKind.i64.wrap (x3 : Int) = (x3 : Int) := IntWalk.i64_in _ (by omega)
                clear hcd hbd hr3 r3l hx3 x3b htt d0
                clear SF0
                have x0 := C.out.2.2.1.c0; have x1 := C.out.2.2.1.c1; have x2 := C.out.2.2.1.c2; have x3c := C.out.2.2.1.c3
                go_wp2_with (first
                  | (go_at_call 15; (with_reducible refine SF.mono ?_); rintro e w7 ⟨J, A7, m7, c7, q7, ol7, rfl, k1, k2, k3, k4, k5, k6, k7⟩; have C7 := Lib.hid k1; have P7 := Lib.hid (Pcs.step C.out.2.1 k2); have S7 := Lib.hid k3; have T7 := Lib.hid (show J.told.length = m7 ∧ m7 ≤ 2400 ∧ q7.mn ≤ g + 1 from ⟨k4, k5, k7⟩); have R7 := Lib.hid k6; clear k1 k2 k3 k4 k5 k6 k7; dsimp only)
                  | (at_builtin; refine list_rowq shEv rfl _ _ 44 rfl 59 i0 (.agg #[.int .i64 0, .slice none 0 0, .int .i64 0, .int .i64 0]) 48 Tryd.underlying44 hi0 hz0 hz1 hz2 rfl (by decide) (fun i => ¬ q7.own b i) (fun i => ¬ q7.own b i ∧ u15.ownBlock ≠ some i) w.heap.size u15 _ G rfl C7.out.gr rfl A7 m7 c7 J.told rfl R7.out T7.out.1 (fun _ _ h => h) (by have := T7.out.2.1; have := D.out.2; have := GL.out; unfold maxLen; omega) (by have := T7.out.2.1; have := D.out.2; have := GL.out; omega) C7.out.lw.bel.size C7.out.gq shEv_nu8 ev_z8 ?_; intro v8 w8 ho hg hm hq; have C8 := Lib.hid (C7.out.got ho hg hm hq); have P8 := Lib.hid (Pcs.got P7.out hg hm); clear ho hg hm hq; dsimp only))
                exact ⟨⟨t + 1, g1, J, q7, ol7, G ++ J.told, HZ.out, by rw [show ((t + 1 : Nat) : Int) = (t : Int) + 1 from by omega], rfl, by rw [ALL.out, CG.out, Bool.and_true], Lib.hid (by rw [← G1.out, HG.out]; rfl), Lib.hid (by rw [← G1.out]; exact C8.out), P8, Lib.hid (by rw [← G1.out]; exact S7.out), Lib.hid ⟨by rw [← G1.out]; exact T7.out.2.2, by have h1 := T7.out; have h2 := D.out.2; have h3 := G1.out; rw [List.length_append, h1.1]; omega⟩⟩, by show z - ((t : Int) + 1).toNat < z - ((t : Int)).toNat; have := HZ.out; omega⟩
          · have j1 : ¬ (t : Int) < (z : Int) := by omega
            have he : t = z := by omega
            have EG : g2 = g := by rw [HG.out, ← hg2.out, he, ← LZ.out, jsL_len]; rfl
            subst EG
            have FULL := Lib.hid (show (jsG cm ds i).take t = jsG cm ds i from List.take_of_length_le (by rw [jsG_len, ← jsL_len (s := s), LZ.out, he]; exact Nat.le_refl _))
            obtain ⟨B, hB⟩ : ∃ B, ((jsG cm ds i).take t).all id = B := ⟨_, rfl⟩
            rw [hB]
            have HB := Lib.hid (show (jsG cm ds i).all id = B by rw [← hB, FULL.out])
            have EN := Lib.hid (show u15 = u15 from rfl)
            clear hB he FULL EN
            have W1 := Lib.hid (jsW_succ (cm := cm) (ds := ds) i)
            rw [HB.out, EX.out] at W1
            cases B
            · go_wp2_with fail
              exact ⟨⟨i + 1, g2, j, q, ol, G, HI.out, by rw [show ((i + 1 : Nat) : Int) = (i : Int) + 1 from by omega], rfl, rfl, Lib.hid hg2.out.symm, Lib.hid (by rw [W1.out]; exact (List.append_nil _).symm ▸ C.out), S, D⟩, by show len2 - ((i : Int) + 1).toNat < len2 - ((i : Int)).toNat; have := HI.out; have := DS.out.1; omega⟩
            · have RX := Lib.hid (show RdF (fun i => i < w.heap.size) wr Ak x from RW.out.keep (.of_below C.out.lw.bel))
              have C2 := Lib.hid (C.out.below (W' := wr.alloc (.cells #[.slice Ak dn ck] 30)) ((Below.refl _ _).alloc (Nat.le_refl _) _))
              have LR := Lib.hid ((litb wr (T := 30) x DN.out CK.out RX.out).read)
              have UL := Lib.hid (show (jsW cm ds i).length ≤ 20 by have h := jsW_len (cm := cm) (ds := ds) i; have := HI.out; have := DS.out; omega)
              have WS := Lib.hid (show ∀ g, u14.ownBlock = some g → w.heap.size ≤ g ∧ g < wr.heap.size from fun g e => C.out.wr.lt e)
              go_wp2_with (at_builtin; refine list_rowq shB rfl _ _ 53 rfl 30 i9 (.slice none 0 0) 24 Tryd.underlying53 hi9 hz90 hz91 hz92 rfl (by decide) (fun i => ¬ q.own b i) (fun i => i < w.heap.size ∨ wr.heap.size ≤ i) w.heap.size u14 _ (jsW cm ds i) rfl C2.out.wr rfl _ 1 1 [x] rfl LR.out rfl (fun i _ h => h.elim (fun h => ⟨fun e => absurd h (Nat.not_lt.2 (C.out.lw.own i e)), fun e => absurd h (Nat.not_lt.2 (WS.out i e).1)⟩) (fun h => ⟨C.out.lw.pw.new h, fun e => absurd (WS.out i e).2 (Nat.not_lt.2 h)⟩)) (by have := UL.out; unfold maxLen; omega) (by have := UL.out; omega) C2.out.lw.bel.size C2.out.wq shB_nu8 sl_z8 ?_; intro v8 w8 ho hg hm hq; have C8 := Lib.hid (C2.out.want ho hg hm hq); clear ho hg hm hq; dsimp only)
              exact ⟨⟨i + 1, g2, j, q, ol, G, HI.out, by rw [show ((i + 1 : Nat) : Int) = (i : Int) + 1 from by omega], rfl, rfl, Lib.hid hg2.out.symm, Lib.hid (by rw [W1.out]; exact C8.out), S, D⟩, by show len2 - ((i : Int) + 1).toNat < len2 - ((i : Int)).toNat; have := HI.out; have := DS.out.1; omega⟩
      · have he : i = ds.length := by omega
        rcases DS.out.2.2.2.2.2 with hend | hlong
        · have i1 : ¬ (i : Int) < (len2 : Int) := by omega
          subst he
          obtain rfl : gg = jsF ds ds.length := GG.out
          have LD := Lib.hid (show ds.length ≤ 20 by have := DS.out; omega)
          have F20 := Lib.hid (show jsF ds ds.length ≤ 1200 from jsF_1200 DS.out.2.2.1 LD.out (Nat.le_refl _))
          have SFL := so_flush C.out S.out (show 0 < 2 by decide) DS.out.2.2.1 LD.out
          obtain ⟨AW, cW, hv, hwc, -, hwr⟩ := C.out.wr.slice
          subst hv
          obtain ⟨Wn, hWn⟩ : ∃ Wn, Hid (jsW cm ds ds.length = Wn) := ⟨_, Lib.hid rfl⟩
          rw [hWn.out] at SFL
          rw [hWn.out] at hwr C hwc ⊢
          obtain ⟨nw, hnw⟩ : ∃ n, Wn.length = n := ⟨_, rfl⟩
          rw [hnw] at SFL C hwc ⊢
          have NW := Lib.hid hnw
          clear hnw hwc hend GG hwr
          go_upto_region 40 with (first
            | (go_at_call 13; (with_reducible refine SFL.mono ?_); rintro e w7 ⟨J, A7, m7, c7, q7, ol7, rfl, k1, k2, k3, k4, k5, k6, k7⟩; have C7 := Lib.hid k1; have E7 := Lib.hid k7; have T7 := Lib.hid (show J.told.length = m7 ∧ m7 ≤ 2400 from ⟨k3, k4⟩); have R7 := Lib.hid k5; clear k1 k2 k3 k4 k5 k6 k7; dsimp only)
            | (at_builtin; refine list_rowq shEv rfl _ _ 44 rfl 59 i0 (.agg #[.int .i64 0, .slice none 0 0, .int .i64 0, .int .i64 0]) 48 Tryd.underlying44 hi0 hz0 hz1 hz2 rfl (by decide) (fun i => ¬ q7.own b i) (fun i => ¬ q7.own b i ∧ u15.ownBlock ≠ some i) w.heap.size u15 _ G rfl C7.out.gr rfl A7 m7 c7 J.told rfl R7.out T7.out.1 (fun _ _ h => h) (by have := T7.out.2; have := D.out.2; have := F20.out; unfold maxLen; omega) (by have := T7.out.2; have := D.out.2; have := F20.out; omega) C7.out.lw.bel.size C7.out.gq shEv_nu8 ev_z8 ?_; intro v8 w8 ho hg hm hq; have C8 := Lib.hid (C7.out.got ho hg hm hq); clear ho hg hm hq; obtain ⟨A8, c8, hv8, -, -, hr8⟩ := C8.out.gr.slice; subst hv8; dsimp only))
          obtain ⟨E, hE⟩ : ∃ E, G ++ J.told = E := ⟨_, rfl⟩
          rw [hE] at C8 E7
          obtain ⟨ne, hne⟩ : ∃ n, E.length = n := ⟨_, rfl⟩
          have RE := Lib.hid (show Rws shEv (fun _ => True) w8 A8 E from C8.out.gr.read.mono fun _ _ _ => trivial)
          have RW := Lib.hid (show Rws shB (fun _ => True) w8 AW Wn from C8.out.wr.read.mono fun _ _ _ => trivial)
          have BE := Lib.hid C8.out.lw.bel
          rw [show G.length + J.told.length = ne from by rw [← List.length_append, hE, hne]]
          have NE := Lib.hid hne
          have EB := Lib.hid (show E.length ≤ 3000000 by rw [← hE, List.length_append, T7.out.1]; have := T7.out.2; have := D.out.2; have := F20.out; omega)
          have E60 := Lib.hid (show ∀ x ∈ Wn, x.length ≤ 1099511627776 from fun x hx => by rw [← hWn.out] at hx; have := jsW_60 DS.out.2.2.1 hx; omega)
          clear C8 C7 R7 T7 SFL C S D hne hE
          go_wp2_with fail
          go_loopw [29, 145] (fun av iv wr => ∃ (k at_ : Nat), k ≤ ne ∧ iv = .int .i64 (k : Int) ∧ av = .int .i64 (at_ : Int) ∧ Hid (at_ = (jwh (E.take k)).length) ∧ Hid (Below w8.heap.size w8 wr)) (fun _ iv _ => ne - (intOf iv).toNat)
          case atStart => exact ⟨0, 0, Nat.zero_le _, rfl, rfl, Lib.hid rfl, Lib.hid (Below.refl _ _)⟩
          case round =>
            obtain ⟨k, at_, hk, rfl, rfl, HA, B⟩ := hrel
            by_cases hlt : k < ne
            · obtain ⟨be, oe, y, Ay, cy, rfl, hbe, hy, v0, v1, v2, v3, hcy, hry⟩ := (RE.out.below B.out).ev (k := k) (by rw [NE.out]; exact hlt)
              obtain ⟨yk, yd, yf, ym⟩ := y
              dsimp only at v0 v1 v2 v3 hcy hry
              obtain ⟨m, hm⟩ : ∃ n, yd.length = n := ⟨_, rfl⟩
              rw [hm] at v1
              have HM := Lib.hid hm
              have RY := Lib.hid hry.rd
              have KY := Lib.hid (E7.out.2 _ (List.mem_of_getElem? hy))
              have ST := Lib.hid (jwh_step hy)
              have AT := Lib.hid (show yk = 0 → Wn[at_]? = some yd from fun e => by have h := jwh_at hy e; rw [E7.out.1, ← HA.out] at h; exact h)
              have j1 : (k : Int) < (ne : Int) := by omega
              have j5 : ((k : Int)).toNat = k := by omega
              have j6 : (0 : Int) ≤ (k : Int) := by omega
              have HK := Lib.hid hlt
              have AB := Lib.hid (show at_ ≤ 2000000000 by rw [HA.out]; have h1 := jwh_le (E.take k); rw [List.length_take] at h1; have := EB.out; have := NE.out; omega)
              have KB := Lib.hid (show ne ≤ 1000000000 by have := EB.out; have := NE.out; omega)
              have wk : IntKind.i64.wrap ((k : Int) + 1) = ((k + 1 : Nat) : Int) := by rw [IntKind.wrap_i64]; have := KB.out; omega
              have wa : IntKind.i64.wrap ((at_ : Int) + 1) = ((at_ + 1 : Nat) : Int) := by rw [IntKind.wrap_i64]; have := AB.out; omega
              clear hm hcy hry hy hlt
              go_upto_region 44 with fail
              refine at_worldJ (fun W => Hid (Below w8.heap.size w8 W ∧ EwX W wr.heap.size yk Ay m cy yf ym ∧ Rd W W.heap.size Ay yd)) (Lib.hid ⟨B.out.alloc B.out.size _, heap_alloc_new wr _, RY.out.on ((Below.refl _ _).alloc (Nat.le_refl _) _)⟩) ?_
              clear B RY v0 v1 v2 v3
              generalize wr.heap.size = gb
              intro W C
              have e0 := C.out.2.1.c0; have e1 := C.out.2.1.c1; have e3 := C.out.2.1.c3
              have WAYS : yk = 0 ∨ yk = 1 ∨ (yk ≠ 0 ∧ yk ≠ 1 ∧ yk ≠ 3) := by have := KY.out.2; dsimp only at this; omega
              rcases WAYS with rfl | rfl | ⟨y0, y1, y3⟩
              · obtain ⟨bw, ow, x2, Aw2, cw2, hAW, hbw, hx2, v4, -, hrw⟩ := RW.out.rw_ (k := at_) (by have h := (List.getElem?_eq_some_iff.1 (AT.out rfl)).1; exact h)
                subst hAW
                obtain rfl : x2 = yd := by have h := AT.out rfl; rw [hx2] at h; injection h
                rw [HM.out] at v4
                have e4 := (C.out.1.cell (p := ⟨bw, _, none⟩) hbw).trans v4
                have RQ := Lib.hid ((hrw.keep (.of_below C.out.1)).rd)
                have an : at_ < nw := by have h := (List.getElem?_eq_some_iff.1 (AT.out rfl)).1; have := NW.out; omega
                have n1 : ¬ (nw : Int) ≤ (at_ : Int) := by omega
                have n2 : (at_ : Int) < (nw : Int) := by omega
                have n3 : (0 : Int) ≤ (at_ : Int) := by omega
                have n4 : ((at_ : Int)).toNat = at_ := by omega
                have MM := Lib.hid (show m ≤ 1099511627776 by rw [← HM.out]; exact E60.out _ (List.mem_of_getElem? (AT.out rfl)))
                clear v4 hx2 hbw hrw an
                go_upto_region 47 with fail
                have BD := Lib.hid ((Below.refl W.heap.size W).drew)
                have e1d := (BD.out.cell (p := ⟨gb, _, none⟩) (cell_lt e1)).trans e1; have e4d := (BD.out.cell (p := ⟨bw, _, none⟩) (cell_lt e4)).trans e4
                go_region_held3 (fun W => W.cell? ⟨gb, 1, none⟩ = some (.slice Ay m cy) ∧ W.cell? ⟨bw, ow + at_, none⟩ = some (.slice Aw2 m cw2)) (first | with_reducible exact ⟨e1, e4⟩ | with_reducible exact ⟨e1d, e4d⟩ | with_reducible exact ⟨e1z, e4z⟩) (first
                  | (go_at_call 18; (with_reducible refine (equal_yes x2 x2 m m _ _ _ _ _ (C.out.2.2.on (Below.refl _ _).drew) (RQ.out.on (Below.refl _ _).drew) HM.out HM.out MM.out rfl).mono ?_); rintro e w9 ⟨rfl, hb9⟩; have B9 := Lib.hid (((Below.refl W.heap.size W).drew).trans hb9); have e1z := (B9.out.cell (p := ⟨gb, _, none⟩) (cell_lt e1)).trans e1; have e4z := (B9.out.cell (p := ⟨bw, _, none⟩) (cell_lt e4)).trans e4; clear hb9; dsimp only))
                go_wp2_with fail
                exact ⟨⟨k + 1, at_ + 1, HK.out, by rw [show ((k + 1 : Nat) : Int) = (k : Int) + 1 from by omega], by rw [show ((at_ + 1 : Nat) : Int) = (at_ : Int) + 1 from by omega], Lib.hid (by rw [ST.out, List.length_append, ← HA.out]; rfl), Lib.hid (C.out.1.trans (B9.out.mono C.out.1.size))⟩, by show ne - ((k : Int) + 1).toNat < ne - ((k : Int)).toNat; have := HK.out; omega⟩
              · have y3 : ¬ ym < 1 := by have := KY.out.1 rfl; dsimp only at this; omega
                go_wp2_with fail
                exact ⟨⟨k + 1, at_, HK.out, by rw [show ((k + 1 : Nat) : Int) = (k : Int) + 1 from by omega], rfl, Lib.hid (by rw [ST.out, List.length_append, ← HA.out]; rfl), Lib.hid C.out.1⟩, by show ne - ((k : Int) + 1).toNat < ne - ((k : Int)).toNat; have := HK.out; omega⟩
              · have z1 : (yk == 1) = false := beq_eq_false_iff_ne.2 y1
                have z3 : (yk == 3) = false := beq_eq_false_iff_ne.2 y3
                have z0 : (yk == 0) = false := beq_eq_false_iff_ne.2 y0
                go_wp2_with fail
                exact ⟨⟨k + 1, at_, HK.out, by rw [show ((k + 1 : Nat) : Int) = (k : Int) + 1 from by omega], rfl, Lib.hid (by rw [ST.out, List.length_append, ← HA.out]; dsimp only; rw [if_neg y0]; rfl), Lib.hid C.out.1⟩, by show ne - ((k : Int) + 1).toNat < ne - ((k : Int)).toNat; have := HK.out; omega⟩
            · have j1 : ¬ (k : Int) < (ne : Int) := by omega
              have ee : at_ = nw := by rw [HA.out, ← NW.out, List.take_of_length_le (by rw [NE.out]; omega), E7.out.1]
              subst ee
              have BF := Lib.hid (BE.out.trans (B.out.mono BE.out.size))
              go_wp2_with fail
              go_ret
              exact ⟨by simp, BF.out⟩
        · have hlt2 : i < len2 := by obtain ⟨x, h1, h2⟩ := hlong; have := (List.getElem?_eq_some_iff.1 h1).1; have := DS.out; omega
          obtain ⟨bp, op, x, Ak, ck, rfl, hbp, hx, y0, hck, hrd⟩ := HP.out.rd.rw_ (k := i) (by have := DS.out; omega)
          have z0 := (C.out.lw.bel.cell (p := ⟨bp, _, none⟩) hbp).trans y0
          obtain ⟨dn, hdn⟩ : ∃ n, x.length = n := ⟨_, rfl⟩
          rw [hdn] at z0
          have DN := Lib.hid hdn
          have CK := Lib.hid (show dn ≤ ck by rw [← hdn]; exact hck)
          have RX := Lib.hid (hrd.keep (.of_below C.out.lw.bel))
          have RW0 := Lib.hid (hrd.mono (G := fun i => i < w.heap.size) fun _ h _ => h)
          have BX := Lib.hid (HP.out.by_ x (List.mem_of_getElem? hx))
          have HX := Lib.hid hx
          have i1 : (i : Int) < (len2 : Int) := by have := DS.out; omega
          have i5 : ((i : Int)).toNat = i := by omega
          have i6 : (0 : Int) ≤ (i : Int) := by omega
          have i7 : (60 : Int) < (dn : Int) := by obtain ⟨x', h1, h2⟩ := hlong; rw [← he, hx] at h1; injection h1 with h1; subst h1; omega
          have B := Lib.hid C.out.lw.bel
          clear y0 hck hrd hx hdn hlong he C S D
          go_wp2_with fail
          go_ret
          exact ⟨rfl, B.out⟩
end Go.Proofs.YtamdaepeogmboaaDoor
