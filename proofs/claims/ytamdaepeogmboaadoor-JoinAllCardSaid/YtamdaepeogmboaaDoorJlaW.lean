
/-
  JoinAll, walked. No condition beyond what the law's arguments are.
-/
import Derived.Test.YtamdaepeogmboaaDoorGJla
namespace Go.Proofs.YtamdaepeogmboaaDoor
set_option maxRecDepth 4000
open Go.RowKit Go.Maps

theorem js_find (n a i : Nat) (h : i < n) : ∃ t, t < n ∧ (a + t) % n = i := by
  refine ⟨(i + n - a % n) % n, Nat.mod_lt _ (by omega), ?_⟩
  have h1 : a % n < n := Nat.mod_lt _ (by omega)
  rw [Nat.add_mod_mod, ← Nat.mod_add_mod, show a % n + (i + n - a % n) = i + n by omega, Nat.add_mod_right, Nat.mod_eq_of_lt h]
theorem jsX_dat {s : Bool} {ds : List (List Nat)} (h : ∀ d ∈ ds, d.length ≤ 60) {P g : Nat} {x : Pc} (hx : (jsX s ds P)[g]? = some x) : x.d.length ≤ 60 := by
  obtain ⟨l, hl, hx⟩ := List.mem_flatten.1 (List.mem_of_getElem? hx)
  obtain ⟨i, _, rfl⟩ := List.mem_map.1 hl
  obtain ⟨t, ht⟩ := List.mem_iff_getElem?.1 hx
  exact jsL_dat h ht
theorem FrX.on_ {w w' : World} {g : Nat} {T : TypeId} {b e : Bool} {x : Int} {A : Option Addr} {n c : Nat} (h : w.heap[g]? = some (.cells #[.bool b, .bool e, .int .i64 x, .slice A n c] T)) (hb : Below w.heap.size w w') : FrX w' g T b e x A n c := FrX.on h hb
theorem FrX.all4 {w w' : World} {g : Nat} {T : TypeId} {b e : Bool} {x : Int} {A : Option Addr} {n c : Nat} (h : FrX w g T b e x A n c) (hb : Below w.heap.size w w') : w'.cell? ⟨g, 0, none⟩ = some (.bool b) ∧ w'.cell? ⟨g, 1, none⟩ = some (.bool e) ∧ w'.cell? ⟨g, 2, none⟩ = some (.int .i64 x) ∧ w'.cell? ⟨g, 3, none⟩ = some (.slice A n c) := ⟨(h.on hb).c0, (h.on hb).c1, (h.on hb).c2, (h.on hb).c3⟩
theorem FrX.past {w w' : World} {g b0 : Nat} {T : TypeId} {b e : Bool} {x : Int} {A : Option Addr} {n c : Nat} {q q' : Jq} (h : FrX w g T b e x A n c) (hS : Ps b0 q w q' w') (hn : ¬ q.own b0 g) : FrX w' g T b e x A n c := (hS.keeps.block g h.lt hn).trans h
theorem cell_lt {w : World} {b o : Nat} {v : Value} (h : w.cell? ⟨b, o, none⟩ = some v) : b < w.heap.size := block_lt h
/-- An event in a block. -/
def EwX (w : World) (g : Nat) (k : Int) (A : Option Addr) (n c : Nat) (f m : Int) : Prop := w.heap[g]? = some (.cells #[.int .i64 k, .slice A n c, .int .i64 f, .int .i64 m] 59 (0, 0))
section
variable {w : World} {g : Nat} {k f m : Int} {A : Option Addr} {n c : Nat}
theorem EwX.c0 (h : EwX w g k A n c f m) : w.cell? ⟨g, 0, none⟩ = some (.int .i64 k) := by rw [cell_of_row w g _ _ _ _ h]; rfl
theorem EwX.c1 (h : EwX w g k A n c f m) : w.cell? ⟨g, 1, none⟩ = some (.slice A n c) := by rw [cell_of_row w g _ _ _ _ h]; rfl
theorem EwX.c3 (h : EwX w g k A n c f m) : w.cell? ⟨g, 3, none⟩ = some (.int .i64 m) := by rw [cell_of_row w g _ _ _ _ h]; rfl
end
theorem js_mb2 (s : Bool) {k : Nat} (hk : k ≤ 1200) : (k : Int) * (frmod s : Int) ≤ 68719476736 := by
  cases s
  · show (k : Int) * 16777216 ≤ _
    omega
  · show (k : Int) * 4096 ≤ _
    omega
theorem ev_z8' : ∀ u ∈ (Value.agg #[.int .i64 0, .slice none 0 0, .int .i64 0, .int .i64 0]).cells, Nu8 u := by
  intro u hu
  simp [Value.cells] at hu
  rcases hu with rfl | rfl | rfl <;> intro x e <;> cases e
theorem so_startA (s : Bool) (N : Nat) (h0 : 0 < N) (h1 : N ≤ 16) {w w2 w3 : World} {b : Nat} {q : Jq} (hb : Below w.heap.size w w2) (k1 : Pw w3 b (jnew s N 4096 100) q []) (k2 : Below w2.heap.size w2 w3) (k3 : ∀ i, q.own b i → w2.heap.size ≤ i) (k5 : ∀ i, q.fr i) : SoC w b (((0 : Nat) : Int) * (frmod s : Int)) (jnew s N 4096 100) q [] (.slice none 0 0) [] (.slice none 0 0) [] w3 := by
  rw [show ((0 : Nat) : Int) * (frmod s : Int) = 0 from by simp]
  have h := jnew_ok (s := s) (links := N) (room := 4096) (most := 100) h0 h1 (by decide) (by decide)
  exact ⟨⟨hb.trans (k2.mono hb.size), k1, fun i hi => Nat.le_trans hb.size (k3 i hi), h.1, jnew_mo _ _ _ _, h.2, k5⟩, Orw.nil _ _ _ _ _, Qt.nil _, (fun i e => by cases e), Orw.nil _ _ _ _ _, Qt.nil _, (fun i e => by cases e), fun i e => by cases e⟩

set_option maxHeartbeats 16000000 in
theorem joinAll_any (s : Bool) (a1 : Int) (hl0 : 0 ≤ a1 ∧ a1 ≤ 255) (a2 a3 a4 : Option Addr) (len2 cap2 len3 cap3 len4 cap4 : Nat) (l2 : List (List Nat)) (l3 l4 : List Nat) (w : World) (h2 : IsRwsB w a2 len2 cap2 l2) (h3 : l3.length = len3 ∧ By l3 ∧ Rd w w.heap.size a3 l3) (h4 : l4.length = len4 ∧ By l4 ∧ Rd w w.heap.size a4 l4) (hT : TabF w) :
    Calls Tryd.prog 4 #[.bool s, .int .u8 a1, .slice a2 len2 cap2, .slice a3 len3 cap3, .slice a4 len4 cap4] w fun e w' => e = .returned (.bool true) ∧ Below w.heap.size w w' := by
  obtain ⟨i0, hi0, hz0, hz1, hz2⟩ := info_parts jev_info
  have HT := Lib.hid hT
  have HP := Lib.hid h2
  have HD := Lib.hid h3
  have HU := Lib.hid h4
  clear hT h2 h3 h4
  by_cases hb2 : 20 < len2
  · have i2 : (20 : Int) < (len2 : Int) := by omega
    clear hb2
    go_enter Tryd.func4, Tryd.ntmps4
    go_wp2_with (first
      | (go_at_call 7; (with_reducible refine (jspeaks w HT.out).mono ?_); rintro e w2 ⟨rfl, hb⟩; replace hb := Lib.hid hb; dsimp only)
      | (go_at_call 7; (with_reducible refine (jspeaks _ (HT.out.below hb.out)).mono ?_); rintro e w3 ⟨rfl, hb3⟩; replace hb3 := Lib.hid hb3; dsimp only))
    go_ret
    exact ⟨rfl, hb.out.trans (hb3.out.mono hb.out.size)⟩
  have i2 : ¬ (20 : Int) < (len2 : Int) := by omega
  by_cases hb3 : 100 < len3
  · have i3 : (100 : Int) < (len3 : Int) := by omega
    clear hb2 hb3
    go_enter Tryd.func4, Tryd.ntmps4
    go_wp2_with (first
      | (go_at_call 7; (with_reducible refine (jspeaks w HT.out).mono ?_); rintro e w2 ⟨rfl, hb⟩; replace hb := Lib.hid hb; dsimp only)
      | (go_at_call 7; (with_reducible refine (jspeaks _ (HT.out.below hb.out)).mono ?_); rintro e w3 ⟨rfl, hb3⟩; replace hb3 := Lib.hid hb3; dsimp only))
    go_ret
    exact ⟨rfl, hb.out.trans (hb3.out.mono hb.out.size)⟩
  have i3 : ¬ (100 : Int) < (len3 : Int) := by omega
  by_cases hb4 : 100 < len4
  · have i4 : (100 : Int) < (len4 : Int) := by omega
    clear hb2 hb3 hb4
    go_enter Tryd.func4, Tryd.ntmps4
    go_wp2_with (first
      | (go_at_call 7; (with_reducible refine (jspeaks w HT.out).mono ?_); rintro e w2 ⟨rfl, hb⟩; replace hb := Lib.hid hb; dsimp only)
      | (go_at_call 7; (with_reducible refine (jspeaks _ (HT.out.below hb.out)).mono ?_); rintro e w3 ⟨rfl, hb3⟩; replace hb3 := Lib.hid hb3; dsimp only))
    go_ret
    exact ⟨rfl, hb.out.trans (hb3.out.mono hb.out.size)⟩
  have i4 : ¬ (100 : Int) < (len4 : Int) := by omega
  obtain ⟨ds, rest, hls, hds, hrest⟩ := js_pre l2
  have DS := Lib.hid (show ds.length ≤ len2 ∧ len2 ≤ 20 ∧ (∀ d ∈ ds, d.length ≤ 60) ∧ l2.length = len2 ∧ (∀ i, i < ds.length → l2[i]? = some (ds.getD i [])) ∧ (ds.length = len2 ∧ ds = l2 ∨ ∃ x, l2[ds.length]? = some x ∧ 60 < x.length) by
    have hn := HP.out.nl
    refine ⟨by rw [hls, List.length_append] at hn; omega, by omega, hds, hn, fun i hi => ?_, ?_⟩
    · rw [hls, List.getElem?_append_left hi, List.getElem?_eq_getElem hi]
      simp [List.getD, hi]
    · rcases hrest with e | ⟨x, r, e, h⟩
      · exact .inl ⟨by rw [← hn, hls, e, List.append_nil], by rw [hls, e, List.append_nil]⟩
      · exact .inr ⟨x, by rw [hls, e, List.getElem?_append_right (Nat.le_refl _), Nat.sub_self]; rfl, h⟩)
  clear hls hds hrest hb2 hb3 hb4
  obtain ⟨r1, hr1⟩ : ∃ r : Nat, a1.tmod 8 = (r : Int) ∧ r < 8 := ⟨(a1.tmod 8).toNat, by rw [Int.tmod_eq_emod_of_nonneg hl0.1]; omega, by rw [Int.tmod_eq_emod_of_nonneg hl0.1]; omega⟩
  have t1 := hr1.1
  obtain ⟨n, hn⟩ : ∃ n : Nat, n = 1 + r1 := ⟨_, rfl⟩
  have NB := Lib.hid (show 0 < n ∧ n ≤ 8 by omega)
  have e1 : IntKind.i64.wrap (1 + (r1 : Int)) = (n : Int) := by rw [IntKind.wrap_i64]; omega
  have u1 : IntKind.i64.wrap a1 = a1 := IntWalk.i64_in _ (by omega)
  clear hr1 hn hl0
  go_enter Tryd.func4, Tryd.ntmps4
  go_wp2_with (go_at_call 7; (with_reducible refine (jspeaks w HT.out).mono ?_); rintro e w2 ⟨rfl, hb⟩; replace hb := Lib.hid hb; dsimp only)
  clear i2 i3 i4
  go_loopw [50] (fun iv wr => ∃ i : Nat, i ≤ ds.length ∧ iv = .int .i64 (i : Int) ∧ Hid (Below w.heap.size w wr)) (fun i _ => len2 - (intOf i).toNat)
  case atStart => exact ⟨0, Nat.zero_le _, rfl, hb⟩
  case round =>
    clear hb
    obtain ⟨i, hi, rfl, B⟩ := hrel
    by_cases hlt : i < ds.length
    · have hlt2 : i < len2 := by have := DS.out; omega
      obtain ⟨bp, op, x, Ak, ck, rfl, hbp, hx, y0, hck, hrd⟩ := HP.out.rd.rw_ (k := i) (by have := DS.out; omega)
      have z0 := (B.out.cell (p := ⟨bp, _, none⟩) hbp).trans y0
      obtain ⟨dn, hdn⟩ : ∃ n, x.length = n := ⟨_, rfl⟩
      rw [hdn] at z0
      have i1 : (i : Int) < (len2 : Int) := by have := DS.out; omega
      have i5 : ((i : Int)).toNat = i := by omega
      have i6 : (0 : Int) ≤ (i : Int) := by omega
      have i7 : ¬ (60 : Int) < (dn : Int) := by
        have h := DS.out.2.2.2.2.1 i hlt
        rw [hx] at h
        injection h with h
        have := js_getD DS.out.2.2.1 i
        rw [← h] at this
        omega
      have wrk : IntKind.i64.wrap ((i : Int) + 1) = ((i + 1 : Nat) : Int) := by rw [IntKind.wrap_i64]; have := DS.out; omega
      have HI := Lib.hid hlt
      clear y0 hck hrd hx hdn hlt
      go_wp2_with fail
      exact ⟨⟨i + 1, HI.out, by rw [show ((i + 1 : Nat) : Int) = (i : Int) + 1 from by omega], B⟩, by show len2 - ((i : Int) + 1).toNat < len2 - ((i : Int)).toNat; have := HI.out; have := DS.out.1; omega⟩
    · have he : i = ds.length := by omega
      rcases DS.out.2.2.2.2.2 with hend | hlong
      · have i1 : ¬ (i : Int) < (len2 : Int) := by omega
        subst he
        obtain ⟨ED, EL⟩ := hend
        subst EL
        have D2 := Lib.hid (show (∀ d ∈ ds, d.length ≤ 60) ∧ ds.length ≤ 20 ∧ ds.length = len2 from ⟨DS.out.2.2.1, by have := DS.out; omega, ED⟩)
        have F20 := Lib.hid (show jsF ds ds.length ≤ 1200 from jsF_1200 D2.out.1 D2.out.2.1 (Nat.le_refl _))
        clear DS hi hlt ED
        obtain ⟨lane, hlane⟩ : ∃ f, Hid (jlane l3 n = f) := ⟨_, Lib.hid rfl⟩
        have LL := Lib.hid (show ∀ g, lane g < n from fun g => by rw [← hlane.out]; exact jlane_lt l3 NB.out.1 g)
        have DL := fun W (hB : Below w.heap.size w W) => jdealt_any s n NB.out.1 NB.out.2 a2 a3 len2 cap2 len3 cap3 ds l3 W ⟨HP.out.nl, HP.out.nc, HP.out.by_, HP.out.rd.below hB⟩ ⟨HD.out.1, HD.out.2.1, HD.out.2.2.on hB⟩ D2.out.1 D2.out.2.1 (HT.out.below hB)
        rw [hlane.out] at DL
        go_upto_region 14 with (first
          | (go_at_call 17; (with_reducible refine (DL _ B.out).mono ?_); rintro e w3 ⟨g, vs, mA, mn, mc, rfl, k1, k2⟩; have L3 := Lib.hid k1; have B3 := Lib.hid (B.out.trans (k2.mono B.out.size)); have BS := Lib.hid B.out.size; clear k1 k2; dsimp only)
          | (go_at_call 8; (with_reducible refine (pnew_any s n 4096 100 _ (HT.out.below B3.out) NB.out.1 (by have := NB.out; omega) (by decide) (by decide) (by decide) (by decide)).mono ?_); rintro e w4 ⟨b, q, rfl, k1, k2, k3, k4, k5⟩; have C := Lib.hid (so_startA s n NB.out.1 (by have := NB.out; omega) B3.out k1 k2 k3 k5); have L := Lib.hid (L3.out.lac (w := w) BS.out k2 k3); have Q0 := Lib.hid k4; clear k1 k2 k3 k4 k5; dsimp only))
        have S0 := Lib.hid (Jla.start (s := s) (ds := ds) (n := n) (lane := lane) LL.out)
        have J0L := Lib.hid (jlf_deal (n := n) (lane := lane) LL.out (jsF ds ds.length))
        have J0N := Lib.hid (jdl_len (n := n) (lane := lane) (jsF ds ds.length))
        generalize jnew s n 4096 100 = J0 at C S0
        obtain ⟨rem0, hrem0⟩ : ∃ r, jdl n lane (jsF ds ds.length) = r := ⟨_, rfl⟩
        rw [hrem0] at S0 J0L J0N L
        clear DL L3 BS B3 B t1 e1 u1 hrem0
        go_wp2_with fail
        go_loopw [20, 89] (fun lv iv wr => ∃ (i lf : Nat), i ≤ n ∧ iv = .int .i64 (i : Int) ∧ lv = .int .i64 (lf : Int) ∧ Hid (lf = jlf (rem0.take i)) ∧ Hid (SoC w b (((0 : Nat) : Int) * (frmod s : Int)) J0 q [] (.slice none 0 0) [] (.slice none 0 0) [] wr) ∧ Hid (LaC w b q (.slice none 0 0) g (jll s ds rem0) wr)) (fun _ iv _ => n - (intOf iv).toNat)
        case atStart => exact ⟨0, 0, Nat.zero_le _, rfl, rfl, Lib.hid rfl, C, L⟩
        case round =>
          clear C L
          obtain ⟨i, lf, hi, rfl, rfl, HF, C, L⟩ := hrel
          by_cases hlt : i < n
          · obtain ⟨r, hr⟩ : ∃ r, rem0[i]? = some r := ⟨_, List.getElem?_eq_getElem (by rw [J0N.out]; exact hlt)⟩
            obtain ⟨A, c, y0, -⟩ := L.out.at_ (i := i) (l := r.map fun g => (jsX s ds ds.length).getD g pc0) (by unfold jll; rw [List.getElem?_map, hr]; rfl)
            rw [List.length_map] at y0
            obtain ⟨rl, hrl⟩ : ∃ m, r.length = m := ⟨_, rfl⟩
            rw [hrl] at y0
            have TK := Lib.hid (show jlf (rem0.take (i + 1)) = lf + rl by rw [jlf_take hr, ← HF.out, hrl])
            have TB := Lib.hid (show lf + rl ≤ 1200 by rw [← TK.out]; have h1 := jlf_le (i := i + 1) (rem := rem0); have := J0L.out; have := F20.out; omega)
            have HI := Lib.hid hlt
            have i1 : (i : Int) < (n : Int) := by omega
            have i5 : ((i : Int)).toNat = i := by omega
            have i6 : (0 : Int) ≤ (i : Int) := by omega
            have wrl : IntKind.i64.wrap ((lf : Int) + (rl : Int)) = ((lf + rl : Nat) : Int) := by rw [IntKind.wrap_i64]; have := TB.out; omega
            have wri : IntKind.i64.wrap ((i : Int) + 1) = ((i + 1 : Nat) : Int) := by rw [IntKind.wrap_i64]; have := NB.out; omega
            clear hr hrl hlt
            go_wp2_with fail
            exact ⟨⟨i + 1, lf + rl, HI.out, by rw [show ((i + 1 : Nat) : Int) = (i : Int) + 1 from by omega], by rw [show ((lf + rl : Nat) : Int) = (lf : Int) + (rl : Int) from by omega], Lib.hid TK.out.symm, C, L⟩, by show n - ((i : Int) + 1).toNat < n - ((i : Int)).toNat; have := HI.out; omega⟩
          · have i1 : ¬ (i : Int) < (n : Int) := by omega
            have EF : lf = jsF ds ds.length := by rw [HF.out, List.take_of_length_le (by rw [J0N.out]; omega)]; exact J0L.out
            have HF2 := Lib.hid (show lf = jlf rem0 by rw [EF]; exact J0L.out.symm)
            have HE := Lib.hid EF
            clear HF EF hi hlt
            go_wp2_with fail
            go_loopw [19, 20, 23] (fun gv lv kv wr => ∃ (k lf : Nat) (rem : List (List Nat)) (j : Jn) (q : Jq) (ol : List Int) (G : List Ev), lv = .int .i64 (lf : Int) ∧ kv = .int .i64 (k : Int) ∧ Hid (lf = jlf rem) ∧ Hid (SoC w b ((k : Int) * (frmod s : Int)) j q ol gv G (.slice none 0 0) [] wr) ∧ Hid (LaC w b q gv g (jll s ds rem) wr) ∧ Hid (Jla s ds n lane rem k G j) ∧ Hid (q.mn ≤ k ∧ G.length ≤ 2400 * k ∧ k + lf = jsF ds ds.length)) (fun _ lv _ _ => (intOf lv).toNat)
            case atStart => exact ⟨0, lf, rem0, J0, q, [], [], rfl, rfl, HF2, C, L, S0, Lib.hid ⟨by rw [Q0.out]; exact Nat.le_refl _, Nat.le_refl _, by rw [Nat.zero_add]; exact HE.out⟩⟩
            case round =>
              clear C L S0 HF2 HE Q0
              obtain ⟨k, lf, rem, j, q, ol, G, rfl, rfl, HF, C, L, S, D⟩ := hrel
              by_cases hlt : 0 < lf
              · have KB := Lib.hid (show k < 1200 by have := D.out.2.2; have := F20.out; omega)
                have LB := Lib.hid (show lf ≤ 1200 by have := D.out.2.2; have := F20.out; omega)
                obtain ⟨i9, g9, r9, hr9⟩ := jlf_pos (rem := rem) (by rw [← HF.out]; exact hlt)
                have i9n : i9 < n := by have := (List.getElem?_eq_some_iff.1 hr9).1; rwa [S.out.rm.len] at this
                have i1 : (0 : Int) < (lf : Int) := by omega
                have wrk : IntKind.i64.wrap ((k : Int) + 1) = ((k + 1 : Nat) : Int) := by rw [IntKind.wrap_i64]; have := KB.out; omega
                have wrl : IntKind.i64.wrap ((lf : Int) - 1) = ((lf - 1 : Nat) : Int) := by rw [IntKind.wrap_i64]; have := LB.out; omega
                have HP0 := Lib.hid hlt
                clear hlt
                rcases Nat.eq_zero_or_pos len4 with d0 | d0
                · have n3 : ¬ (0 : Int) < (len4 : Int) := by omega
                  obtain ⟨t0, ht0⟩ := js_find n k i9 i9n
                  clear d0
                  go_wp2_with fail
                  go_loopw [24] (fun av wr => ∃ (u : Nat), u ≤ t0 ∧ av = .int .i64 ((k + u : Nat) : Int) ∧ Hid (SoC w b ((k : Int) * (frmod s : Int)) j q ol u19 G (.slice none 0 0) [] wr) ∧ Hid (LaC w b q u19 g (jll s ds rem) wr)) (fun av _ => k + t0 - (intOf av).toNat)
                  case atStart => exact ⟨0, Nat.zero_le _, by simp, C, L⟩
                  case round =>
                    clear C L
                    obtain ⟨u, hu, rfl, C, L⟩ := hrel
                    obtain ⟨au, hau⟩ : ∃ au, k + u = au := ⟨_, rfl⟩
                    rw [hau]
                    obtain ⟨ix, hix⟩ : ∃ ix, au % n = ix := ⟨_, rfl⟩
                    have ixn : ix < n := by rw [← hix]; exact Nat.mod_lt _ NB.out.1
                    have tx : (au : Int).tmod (n : Int) = (ix : Int) := by rw [tmod_nat', hix]
                    have n0 : ¬ (n : Int) = 0 := by have := NB.out; omega
                    have x1 : (0 : Int) ≤ (ix : Int) := by omega
                    have x2 : (ix : Int) < (n : Int) := by omega
                    have x3' : ((ix : Int)).toNat = ix := by omega
                    have AB := Lib.hid (show au ≤ 1000000 by rw [← hau]; have := KB.out; have := ht0.1; have := NB.out; omega)
                    obtain ⟨rx, hrx⟩ : ∃ r, rem[ix]? = some r := ⟨_, List.getElem?_eq_getElem (by rw [S.out.rm.len]; exact ixn)⟩
                    cases rx with
                    | nil =>
                      obtain ⟨A, c, y0, -⟩ := L.out.at_ (i := ix) (l := []) (by unfold jll; rw [List.getElem?_map, hrx]; rfl)
                      have hut : u < t0 := by
                        rcases Nat.eq_or_lt_of_le hu with e | e
                        · exfalso
                          rw [e] at hau
                          rw [hau, hix] at ht0
                          rw [ht0.2, hr9] at hrx
                          cases hrx
                        · exact e
                      have wau : IntKind.i64.wrap ((au : Int) + 1) = ((au + 1 : Nat) : Int) := by rw [IntKind.wrap_i64]; have := AB.out; omega
                      have HT0 := Lib.hid hut
                      have HA := Lib.hid hau
                      clear hut hau hrx hix
                      go_wp2_with fail
                      exact ⟨⟨u + 1, HT0.out, by rw [← HA.out]; rfl, C, L⟩, by show k + t0 - ((au : Int) + 1).toNat < k + t0 - ((au : Int)).toNat; have := HT0.out; have := HA.out; omega⟩
                    | cons gx r =>
                      have gxl : gx < jsF ds ds.length := (S.out.rm.mem ix _ hrx gx (List.mem_cons_self ..)).1
                      obtain ⟨xp, hxp⟩ : ∃ x, (jsX s ds ds.length)[gx]? = some x := ⟨_, List.getElem?_eq_getElem (by rw [jsX_len]; exact gxl)⟩
                      obtain ⟨lp, hlp⟩ : ∃ lp, (r.map fun g => (jsX s ds ds.length).getD g pc0) = lp := ⟨_, rfl⟩
                      have hll : (jll s ds rem)[ix]? = some (xp :: lp) := by unfold jll; rw [List.getElem?_map, hrx, ← hlp]; simp [List.getD, hxp]
                      have hset : (jll s ds rem).set ix lp = jll s ds (rem.set ix r) := by unfold jll; rw [List.map_set, hlp]
                      obtain ⟨ba, oa, c, Ax, cx, y0, hc, v0, v1, v2, v3, hcx, hrd, fz, POP⟩ := L.out.pop hll
                      obtain ⟨m, hm⟩ : ∃ n, xp.d.length = n := ⟨_, rfl⟩
                      rw [hm] at v3
                      obtain ⟨nl, hnl⟩ : ∃ n, lp.length = n := ⟨_, rfl⟩
                      rw [hnl] at y0 hc POP
                      obtain ⟨N1, hN1⟩ : ∃ N, nl + 1 = N := ⟨_, rfl⟩
                      rw [hN1] at y0 hc
                      have HM := Lib.hid hm
                      have CX := Lib.hid (show m ≤ cx by rw [← hm]; exact hcx)
                      have M60 := Lib.hid (show m ≤ 60 by rw [← hm]; exact jsX_dat D2.out.1 hxp)
                      have RX := Lib.hid hrd
                      have HXP := Lib.hid hxp
                      have HRX := Lib.hid hrx
                      have SET := Lib.hid hset
                      have PP := Lib.hid POP
                      have s1 : ¬ (N1 : Int) = 0 := by omega
                      have s2 : ((N1 : Int) == 0) = false := beq_eq_false_iff_ne.2 s1
                      have s4 : (0 : Int) < (N1 : Int) := by omega
                      have s5 : (1 : Int) ≤ (N1 : Int) := by omega
                      have s6 : (N1 : Int) ≤ (c : Int) := by omega
                      have s7 : 1 ≤ N1 := by omega
                      have s8 : N1 ≤ c := hc
                      have HN1 := Lib.hid hN1
                      have HA := Lib.hid hau
                      clear hm hcx hrd hxp hrx hset POP hnl hN1 hll hlp gxl hix hau hc
                      go_upto_region 30 with fail
                      refine at_worldJ (fun W => Hid (SoC w b ((k : Int) * (frmod s : Int)) j q ol u19 G (.slice none 0 0) [] W ∧ LaC w b q u19 g (jll s ds rem) W ∧ FrX W wr.heap.size 50 xp.b xp.e xp.n Ax m cx ∧ RdF (fun i => ¬ q.own b i ∧ i ≠ g) W Ax xp.d ∧ Below wr.heap.size wr W)) (Lib.hid ⟨C.out.below ((Below.refl _ _).alloc (Nat.le_refl _) _), L.out.below ((Below.refl _ _).alloc (Nat.le_refl _) _), FrX.new _ _ _ _ _ _ _ _, RX.out.keep (.of_below ((Below.refl _ _).alloc (Nat.le_refl _) _)), (Below.refl _ _).alloc (Nat.le_refl _) _⟩) ?_
                      have GLT := Lib.hid L.out.lt
                      have GN := Lib.hid (show ¬ q.own b wr.heap.size from C.out.lw.pw.new (Nat.le_refl _))
                      clear C L RX v0 v1 v2 v3
                      have hgb : wr.heap.size = wr.heap.size := rfl
                      intro W C
                      have y1 := (C.out.2.2.2.2.cell (p := ⟨g, _, none⟩) GLT.out).trans y0
                      have f1 : W.frozen? ⟨g, ix, none⟩ = false := by obtain ⟨vs', h1, _⟩ := C.out.2.1.ex; exact frozen_of_row W g ix _ _ h1
                      clear y0 fz hgb
                      go_region
                      all_goals
                        have en : N1 - 1 = nl := by have := HN1.out; omega
                        rw [en]
                        have hA' : ((if c = 1 then some (⟨ba, oa, none⟩ : Addr) else some ⟨ba, oa + 4, none⟩) = some ⟨ba, oa, none⟩ ∧ c - 1 = 0) ∨ (if c = 1 then some (⟨ba, oa, none⟩ : Addr) else some ⟨ba, oa + 4, none⟩) = some ⟨ba, oa + 4, none⟩ := by
                          by_cases e : c = 1
                          · exact .inl ⟨if_pos e, by omega⟩
                          · exact .inr (if_neg e)
                        have HS := Lib.hid (Offs.set (X := fun i => i = g) W g ix (.slice (if c = 1 then some (⟨ba, oa, none⟩ : Addr) else some ⟨ba, oa + 4, none⟩) nl (c - 1)) rfl)
                        have LN := Lib.hid (PP.out W C.out.2.2.2.2 _ hA')
                        rw [SET.out] at LN
                        refine at_worldJ (fun W' => Hid (SoC w b ((k : Int) * (frmod s : Int)) j q ol u19 G (.slice none 0 0) [] W' ∧ LaC w b q u19 g (jll s ds (rem.set ix r)) W' ∧ FrX W' wr.heap.size 50 xp.b xp.e xp.n Ax m cx ∧ RdF (fun i => ¬ q.own b i) W' Ax xp.d)) (Lib.hid ⟨(C.out.1.store C.out.2.1 ix _).drew, LN.out.below (Below.refl _ _).drew, FrX.on_ ((HS.out.block _ C.out.2.2.1.lt (fun e => by have := GLT.out; omega)).trans C.out.2.2.1) (Below.refl _ _).drew, ((C.out.2.2.2.1.keep (.of_offs HS.out fun i hi e => hi.2 e)).mono fun _ _ h => h.1).keep (.of_below (Below.refl _ _).drew)⟩) ?_
                        clear C LN HS hA' y1 f1 PP SET en s1 s2 s4 s5 s6 s7 s8
                        generalize wr.heap.size = gb at GN ⊢
                        intro X C
                        have n0n : ¬ n = 0 := by have := NB.out; omega
                        have n0z : ((n : Int) == 0) = false := beq_eq_false_iff_ne.2 n0
                        have n0d : decide ((n : Int) = 0) = false := decide_eq_false n0
                        have SFA := so_feedA C.out.1.drew S.out NB.out.1 HRX.out HXP.out F20.out KB.out Ax m cx HM.out M60.out CX.out (C.out.2.2.2.keep (.of_below (Below.refl _ _).drew)) D.out.1
                        have y0 := C.out.2.2.1.c0; have y1 := C.out.2.2.1.c1; have y2 := C.out.2.2.1.c2; have y3 := C.out.2.2.1.c3
                        go_upto_region 32 with fail
                        go_region_held3 (fun W => W.cell? ⟨gb, 0, none⟩ = some (.bool xp.b) ∧ W.cell? ⟨gb, 1, none⟩ = some (.bool xp.e) ∧ W.cell? ⟨gb, 2, none⟩ = some (.int .i64 xp.n) ∧ W.cell? ⟨gb, 3, none⟩ = some (.slice Ax m cx)) (first | with_reducible exact ⟨y0, y1, y2, y3⟩ | with_reducible exact C.out.2.2.1.all4 (Below.refl _ _).drew | with_reducible exact X7.out.all4 (Below.refl _ _) | with_reducible exact X7.out.all4 (Below.refl _ _).drew) (first
                          | (go_at_call 15; (with_reducible refine SFA.mono ?_); rintro e w7 ⟨J, A7, m7, c7, q7, ol7, rfl, k1, k2, k3, k4, k5, k6, k7⟩; have C7 := Lib.hid k1; have X7 := Lib.hid ((FrX.on C.out.2.2.1 (Below.refl _ _).drew).past k2 GN.out); have L7 := Lib.hid ((C.out.2.1.below (Below.refl _ _).drew).step k2); have S7 := Lib.hid k3; have T7 := Lib.hid (show J.told.length = m7 ∧ m7 ≤ 2400 ∧ q7.mn ≤ k + 1 from ⟨k4, k5, k7⟩); have R7 := Lib.hid k6; clear k1 k2 k3 k4 k5 k6 k7; dsimp only))
                        clear y0 y1 y2 y3 SFA C
                        go_wp2_with (at_builtin; refine list_rowq shEv rfl _ _ 44 rfl 59 i0 (.agg #[.int .i64 0, .slice none 0 0, .int .i64 0, .int .i64 0]) 48 Tryd.underlying44 hi0 hz0 hz1 hz2 rfl (by decide) (fun i => ¬ q7.own b i) (fun i => ¬ q7.own b i ∧ u19.ownBlock ≠ some i) w.heap.size u19 _ G rfl C7.out.gr rfl A7 m7 c7 J.told rfl R7.out T7.out.1 (fun _ _ h => h) (by have := T7.out.2.1; have := D.out.2.1; have := KB.out; unfold maxLen; omega) (by have := T7.out.2.1; have := D.out.2.1; have := KB.out; omega) C7.out.lw.bel.size C7.out.gq shEv_nu8 ev_z8' ?_; intro v8 w8 ho hg hm hq; have C8 := Lib.hid (C7.out.got ho hg hm hq); have L8 := Lib.hid (L7.out.got hg hm); clear ho hg hm hq; dsimp only)
                        have FS := Lib.hid (jlf_set HRX.out)
                        refine ⟨⟨k + 1, lf - 1, rem.set ix r, J, q7, ol7, G ++ J.told, rfl, by rw [show ((k + 1 : Nat) : Int) = (k : Int) + 1 from by omega], Lib.hid (by have := FS.out; have := HF.out; omega), C8, L8, S7, Lib.hid ⟨T7.out.2.2, by rw [List.length_append, T7.out.1]; have := T7.out.2.1; have := D.out.2.1; omega, by have := D.out.2.2; have := HP0.out; omega⟩⟩, ?_⟩
                        show ((lf - 1 : Nat) : Int).toNat < ((lf : Nat) : Int).toNat
                        have := HP0.out
                        omega
                · obtain ⟨bd, od, rfl, hbd, hcd⟩ := HU.out.2.2 (by rw [HU.out.1]; exact d0)
                  obtain ⟨r3, hr3⟩ : ∃ r, k % len4 = r := ⟨_, rfl⟩
                  have r3l : r3 < len4 := by rw [← hr3]; exact Nat.mod_lt _ d0
                  obtain ⟨x3, hx3⟩ : ∃ x, l4[r3]? = some x := ⟨_, List.getElem?_eq_getElem (by rw [HU.out.1]; exact r3l)⟩
                  have x3b : x3 < 256 := HU.out.2.1 x3 (List.mem_of_getElem? hx3)
                  have z3 := (C.out.lw.bel.cell (p := ⟨bd, _, none⟩) hbd).trans (hcd r3 x3 hx3)
                  have t3 : (k : Int).tmod (len4 : Int) = (r3 : Int) := by rw [tmod_nat', hr3]
                  have n3 : ¬ (len4 : Int) = 0 := by omega
                  have m3 : (0 : Int) < (len4 : Int) := by omega
                  have p3 : (0 : Int) ≤ (r3 : Int) := by omega
                  have q3 : (r3 : Int) < (len4 : Int) := by omega
                  have s3 : ((r3 : Int)).toNat = r3 := by omega
                  have w3' : IntKind.i64.wrap (x3 : Int) = (x3 : Int) := IntWalk.i64_in _ (by omega)
                  obtain ⟨t0, ht0⟩ := js_find n (k + x3) i9 i9n
                  have w4' : IntKind.i64.wrap ((k : Int) + (x3 : Int)) = ((k + x3 : Nat) : Int) := by rw [IntKind.wrap_i64]; have := KB.out; omega
                  have X3 := Lib.hid x3b
                  clear hcd hbd hr3 r3l hx3 x3b d0
                  go_wp2_with fail
                  go_loopw [24] (fun av wr => ∃ (u : Nat), u ≤ t0 ∧ av = .int .i64 (((k + x3) + u : Nat) : Int) ∧ Hid (SoC w b ((k : Int) * (frmod s : Int)) j q ol u19 G (.slice none 0 0) [] wr) ∧ Hid (LaC w b q u19 g (jll s ds rem) wr)) (fun av _ => (k + x3) + t0 - (intOf av).toNat)
                  case atStart => exact ⟨0, Nat.zero_le _, by simp, C, L⟩
                  case round =>
                    clear C L
                    obtain ⟨u, hu, rfl, C, L⟩ := hrel
                    obtain ⟨au, hau⟩ : ∃ au, (k + x3) + u = au := ⟨_, rfl⟩
                    rw [hau]
                    obtain ⟨ix, hix⟩ : ∃ ix, au % n = ix := ⟨_, rfl⟩
                    have ixn : ix < n := by rw [← hix]; exact Nat.mod_lt _ NB.out.1
                    have tx : (au : Int).tmod (n : Int) = (ix : Int) := by rw [tmod_nat', hix]
                    have n0 : ¬ (n : Int) = 0 := by have := NB.out; omega
                    have x1 : (0 : Int) ≤ (ix : Int) := by omega
                    have x2 : (ix : Int) < (n : Int) := by omega
                    have x3' : ((ix : Int)).toNat = ix := by omega
                    have AB := Lib.hid (show au ≤ 1000000 by rw [← hau]; have := KB.out; have := X3.out; have := ht0.1; have := NB.out; omega)
                    obtain ⟨rx, hrx⟩ : ∃ r, rem[ix]? = some r := ⟨_, List.getElem?_eq_getElem (by rw [S.out.rm.len]; exact ixn)⟩
                    cases rx with
                    | nil =>
                      obtain ⟨A, c, y0, -⟩ := L.out.at_ (i := ix) (l := []) (by unfold jll; rw [List.getElem?_map, hrx]; rfl)
                      have hut : u < t0 := by
                        rcases Nat.eq_or_lt_of_le hu with e | e
                        · exfalso
                          rw [e] at hau
                          rw [hau, hix] at ht0
                          rw [ht0.2, hr9] at hrx
                          cases hrx
                        · exact e
                      have wau : IntKind.i64.wrap ((au : Int) + 1) = ((au + 1 : Nat) : Int) := by rw [IntKind.wrap_i64]; have := AB.out; omega
                      have HT0 := Lib.hid hut
                      have HA := Lib.hid hau
                      clear hut hau hrx hix
                      go_wp2_with fail
                      exact ⟨⟨u + 1, HT0.out, by rw [← HA.out]; rfl, C, L⟩, by show (k + x3) + t0 - ((au : Int) + 1).toNat < (k + x3) + t0 - ((au : Int)).toNat; have := HT0.out; have := HA.out; omega⟩
                    | cons gx r =>
                      have gxl : gx < jsF ds ds.length := (S.out.rm.mem ix _ hrx gx (List.mem_cons_self ..)).1
                      obtain ⟨xp, hxp⟩ : ∃ x, (jsX s ds ds.length)[gx]? = some x := ⟨_, List.getElem?_eq_getElem (by rw [jsX_len]; exact gxl)⟩
                      obtain ⟨lp, hlp⟩ : ∃ lp, (r.map fun g => (jsX s ds ds.length).getD g pc0) = lp := ⟨_, rfl⟩
                      have hll : (jll s ds rem)[ix]? = some (xp :: lp) := by unfold jll; rw [List.getElem?_map, hrx, ← hlp]; simp [List.getD, hxp]
                      have hset : (jll s ds rem).set ix lp = jll s ds (rem.set ix r) := by unfold jll; rw [List.map_set, hlp]
                      obtain ⟨ba, oa, c, Ax, cx, y0, hc, v0, v1, v2, v3, hcx, hrd, fz, POP⟩ := L.out.pop hll
                      obtain ⟨m, hm⟩ : ∃ n, xp.d.length = n := ⟨_, rfl⟩
                      rw [hm] at v3
                      obtain ⟨nl, hnl⟩ : ∃ n, lp.length = n := ⟨_, rfl⟩
                      rw [hnl] at y0 hc POP
                      obtain ⟨N1, hN1⟩ : ∃ N, nl + 1 = N := ⟨_, rfl⟩
                      rw [hN1] at y0 hc
                      have HM := Lib.hid hm
                      have CX := Lib.hid (show m ≤ cx by rw [← hm]; exact hcx)
                      have M60 := Lib.hid (show m ≤ 60 by rw [← hm]; exact jsX_dat D2.out.1 hxp)
                      have RX := Lib.hid hrd
                      have HXP := Lib.hid hxp
                      have HRX := Lib.hid hrx
                      have SET := Lib.hid hset
                      have PP := Lib.hid POP
                      have s1 : ¬ (N1 : Int) = 0 := by omega
                      have s2 : ((N1 : Int) == 0) = false := beq_eq_false_iff_ne.2 s1
                      have s4 : (0 : Int) < (N1 : Int) := by omega
                      have s5 : (1 : Int) ≤ (N1 : Int) := by omega
                      have s6 : (N1 : Int) ≤ (c : Int) := by omega
                      have s7 : 1 ≤ N1 := by omega
                      have s8 : N1 ≤ c := hc
                      have HN1 := Lib.hid hN1
                      have HA := Lib.hid hau
                      clear hm hcx hrd hxp hrx hset POP hnl hN1 hll hlp gxl hix hau hc
                      go_upto_region 30 with fail
                      refine at_worldJ (fun W => Hid (SoC w b ((k : Int) * (frmod s : Int)) j q ol u19 G (.slice none 0 0) [] W ∧ LaC w b q u19 g (jll s ds rem) W ∧ FrX W wr.heap.size 50 xp.b xp.e xp.n Ax m cx ∧ RdF (fun i => ¬ q.own b i ∧ i ≠ g) W Ax xp.d ∧ Below wr.heap.size wr W)) (Lib.hid ⟨C.out.below ((Below.refl _ _).alloc (Nat.le_refl _) _), L.out.below ((Below.refl _ _).alloc (Nat.le_refl _) _), FrX.new _ _ _ _ _ _ _ _, RX.out.keep (.of_below ((Below.refl _ _).alloc (Nat.le_refl _) _)), (Below.refl _ _).alloc (Nat.le_refl _) _⟩) ?_
                      have GLT := Lib.hid L.out.lt
                      have GN := Lib.hid (show ¬ q.own b wr.heap.size from C.out.lw.pw.new (Nat.le_refl _))
                      clear C L RX v0 v1 v2 v3
                      have hgb : wr.heap.size = wr.heap.size := rfl
                      intro W C
                      have y1 := (C.out.2.2.2.2.cell (p := ⟨g, _, none⟩) GLT.out).trans y0
                      have f1 : W.frozen? ⟨g, ix, none⟩ = false := by obtain ⟨vs', h1, _⟩ := C.out.2.1.ex; exact frozen_of_row W g ix _ _ h1
                      clear y0 fz hgb
                      go_region
                      all_goals
                        have en : N1 - 1 = nl := by have := HN1.out; omega
                        rw [en]
                        have hA' : ((if c = 1 then some (⟨ba, oa, none⟩ : Addr) else some ⟨ba, oa + 4, none⟩) = some ⟨ba, oa, none⟩ ∧ c - 1 = 0) ∨ (if c = 1 then some (⟨ba, oa, none⟩ : Addr) else some ⟨ba, oa + 4, none⟩) = some ⟨ba, oa + 4, none⟩ := by
                          by_cases e : c = 1
                          · exact .inl ⟨if_pos e, by omega⟩
                          · exact .inr (if_neg e)
                        have HS := Lib.hid (Offs.set (X := fun i => i = g) W g ix (.slice (if c = 1 then some (⟨ba, oa, none⟩ : Addr) else some ⟨ba, oa + 4, none⟩) nl (c - 1)) rfl)
                        have LN := Lib.hid (PP.out W C.out.2.2.2.2 _ hA')
                        rw [SET.out] at LN
                        refine at_worldJ (fun W' => Hid (SoC w b ((k : Int) * (frmod s : Int)) j q ol u19 G (.slice none 0 0) [] W' ∧ LaC w b q u19 g (jll s ds (rem.set ix r)) W' ∧ FrX W' wr.heap.size 50 xp.b xp.e xp.n Ax m cx ∧ RdF (fun i => ¬ q.own b i) W' Ax xp.d)) (Lib.hid ⟨(C.out.1.store C.out.2.1 ix _).drew, LN.out.below (Below.refl _ _).drew, FrX.on_ ((HS.out.block _ C.out.2.2.1.lt (fun e => by have := GLT.out; omega)).trans C.out.2.2.1) (Below.refl _ _).drew, ((C.out.2.2.2.1.keep (.of_offs HS.out fun i hi e => hi.2 e)).mono fun _ _ h => h.1).keep (.of_below (Below.refl _ _).drew)⟩) ?_
                        clear C LN HS hA' y1 f1 PP SET en s1 s2 s4 s5 s6 s7 s8
                        generalize wr.heap.size = gb at GN ⊢
                        intro X C
                        have n0n : ¬ n = 0 := by have := NB.out; omega
                        have n0z : ((n : Int) == 0) = false := beq_eq_false_iff_ne.2 n0
                        have n0d : decide ((n : Int) = 0) = false := decide_eq_false n0
                        have SFA := so_feedA C.out.1.drew S.out NB.out.1 HRX.out HXP.out F20.out KB.out Ax m cx HM.out M60.out CX.out (C.out.2.2.2.keep (.of_below (Below.refl _ _).drew)) D.out.1
                        have y0 := C.out.2.2.1.c0; have y1 := C.out.2.2.1.c1; have y2 := C.out.2.2.1.c2; have y3 := C.out.2.2.1.c3
                        go_upto_region 32 with fail
                        go_region_held3 (fun W => W.cell? ⟨gb, 0, none⟩ = some (.bool xp.b) ∧ W.cell? ⟨gb, 1, none⟩ = some (.bool xp.e) ∧ W.cell? ⟨gb, 2, none⟩ = some (.int .i64 xp.n) ∧ W.cell? ⟨gb, 3, none⟩ = some (.slice Ax m cx)) (first | with_reducible exact ⟨y0, y1, y2, y3⟩ | with_reducible exact C.out.2.2.1.all4 (Below.refl _ _).drew | with_reducible exact X7.out.all4 (Below.refl _ _) | with_reducible exact X7.out.all4 (Below.refl _ _).drew) (first
                          | (go_at_call 15; (with_reducible refine SFA.mono ?_); rintro e w7 ⟨J, A7, m7, c7, q7, ol7, rfl, k1, k2, k3, k4, k5, k6, k7⟩; have C7 := Lib.hid k1; have X7 := Lib.hid ((FrX.on C.out.2.2.1 (Below.refl _ _).drew).past k2 GN.out); have L7 := Lib.hid ((C.out.2.1.below (Below.refl _ _).drew).step k2); have S7 := Lib.hid k3; have T7 := Lib.hid (show J.told.length = m7 ∧ m7 ≤ 2400 ∧ q7.mn ≤ k + 1 from ⟨k4, k5, k7⟩); have R7 := Lib.hid k6; clear k1 k2 k3 k4 k5 k6 k7; dsimp only))
                        clear y0 y1 y2 y3 SFA C
                        go_wp2_with (at_builtin; refine list_rowq shEv rfl _ _ 44 rfl 59 i0 (.agg #[.int .i64 0, .slice none 0 0, .int .i64 0, .int .i64 0]) 48 Tryd.underlying44 hi0 hz0 hz1 hz2 rfl (by decide) (fun i => ¬ q7.own b i) (fun i => ¬ q7.own b i ∧ u19.ownBlock ≠ some i) w.heap.size u19 _ G rfl C7.out.gr rfl A7 m7 c7 J.told rfl R7.out T7.out.1 (fun _ _ h => h) (by have := T7.out.2.1; have := D.out.2.1; have := KB.out; unfold maxLen; omega) (by have := T7.out.2.1; have := D.out.2.1; have := KB.out; omega) C7.out.lw.bel.size C7.out.gq shEv_nu8 ev_z8' ?_; intro v8 w8 ho hg hm hq; have C8 := Lib.hid (C7.out.got ho hg hm hq); have L8 := Lib.hid (L7.out.got hg hm); clear ho hg hm hq; dsimp only)
                        have FS := Lib.hid (jlf_set HRX.out)
                        refine ⟨⟨k + 1, lf - 1, rem.set ix r, J, q7, ol7, G ++ J.told, rfl, by rw [show ((k + 1 : Nat) : Int) = (k : Int) + 1 from by omega], Lib.hid (by have := FS.out; have := HF.out; omega), C8, L8, S7, Lib.hid ⟨T7.out.2.2, by rw [List.length_append, T7.out.1]; have := T7.out.2.1; have := D.out.2.1; omega, by have := D.out.2.2; have := HP0.out; omega⟩⟩, ?_⟩
                        show ((lf - 1 : Nat) : Int).toNat < ((lf : Nat) : Int).toNat
                        have := HP0.out
                        omega
              · have i1 : ¬ (0 : Int) < (lf : Int) := by omega
                have HZ := Lib.hid (show jlf rem = 0 by rw [← HF.out]; omega)
                clear hlt
                have DN := Lib.hid (S.out.done HZ.out D2.out.1)
                have KM := Lib.hid (js_mb2 s (k := k) (by have := D.out.2.2; have := F20.out; omega))
                have SFL := so_flushA C.out KM.out DN.out.1
                obtain ⟨A8, c8, hv8, -, -, -⟩ := C.out.gr.slice
                subst hv8
                have NG := Lib.hid (show G.length = len2 by rw [DN.out.2, List.length_map]; exact D2.out.2.2)
                rw [NG.out] at SFL
                rw [NG.out]
                clear S HF L D HZ C KM
                go_wp2_with (first
                  | (go_at_call 13; (with_reducible refine SFL.mono ?_); rintro e w7 ⟨J, A7, c7, q7, ol7, rfl, k1, k2⟩; have C7 := Lib.hid k1; have HK := pkept_any b J q7 ol7 w7 k1.lw.pw; rw [k2, show ((0 : Nat) : Int) = 0 from rfl] at HK; clear k1 k2; dsimp only)
                  | (go_at_call 16; (with_reducible refine HK.mono ?_); rintro e w9 ⟨rfl, hw9⟩; subst w9; dsimp only))
                have RE := Lib.hid (show Rws shEv (fun _ => True) w7 A8 G from C7.out.gr.read.mono fun _ _ _ => trivial)
                have BE := Lib.hid C7.out.lw.bel
                have L20 := Lib.hid (show len2 ≤ 20 by have := D2.out; omega)
                clear SFL HK C7
                go_wp2_with fail
                go_loopw [180] (fun iv wr => ∃ k : Nat, k ≤ len2 ∧ iv = .int .i64 (k : Int) ∧ Hid (Below w7.heap.size w7 wr)) (fun iv _ => len2 - (intOf iv).toNat)
                case atStart => exact ⟨0, Nat.zero_le _, rfl, Lib.hid (Below.refl _ _)⟩
                case round =>
                  obtain ⟨k, hk, rfl, B⟩ := hrel
                  by_cases hlt : k < len2
                  · obtain ⟨be, oe, y, Ay, cy, rfl, hbe, hy, v0, v1, v2, v3, hcy, hry⟩ := (RE.out.below B.out).ev (k := k) (by rw [NG.out]; exact hlt)
                    obtain ⟨bp, op, x, Ak, ck, rfl, hbp, hx, y0, hck, hrd⟩ := HP.out.rd.rw_ (k := k) (by have := D2.out; omega)
                    obtain rfl : y = ⟨0, x, 0, 0⟩ := by rw [DN.out.2, List.getElem?_map, hx] at hy; injection hy with hy; exact hy.symm
                    dsimp only at v0 v1 v2 v3 hcy hry
                    obtain ⟨m, hm⟩ : ∃ n, x.length = n := ⟨_, rfl⟩
                    rw [hm] at v1 y0
                    have BW := Lib.hid (BE.out.trans (B.out.mono BE.out.size))
                    have z0 := (BW.out.cell (p := ⟨bp, _, none⟩) hbp).trans y0
                    have HM := Lib.hid hm
                    have MM := Lib.hid (show m ≤ 1099511627776 by rw [← hm]; have := D2.out.1 x (List.mem_of_getElem? hx); omega)
                    have RY := Lib.hid hry.rd
                    have RX := Lib.hid (show Rd wr wr.heap.size Ak x from (hrd.keep (.of_below BW.out)).rd)
                    have j1 : (k : Int) < (len2 : Int) := by omega
                    have j5 : ((k : Int)).toNat = k := by omega
                    have j6 : (0 : Int) ≤ (k : Int) := by omega
                    have HK := Lib.hid hlt
                    have wk : IntKind.i64.wrap ((k : Int) + 1) = ((k + 1 : Nat) : Int) := by rw [IntKind.wrap_i64]; have := L20.out; omega
                    have HB := Lib.hid (show bp < wr.heap.size from Nat.lt_of_lt_of_le hbp BW.out.size)
                    clear hm hcy hry hy hlt hx hrd hck y0 hbp hbe
                    go_upto_region 41 with fail
                    refine at_worldJ (fun W => Hid (Below w7.heap.size w7 W ∧ EwX W wr.heap.size 0 Ay m cy 0 0 ∧ Rd W W.heap.size Ay x ∧ W.cell? ⟨bp, op + k, none⟩ = some (.slice Ak m ck) ∧ Rd W W.heap.size Ak x)) (Lib.hid ⟨B.out.alloc B.out.size _, heap_alloc_new wr _, RY.out.on ((Below.refl _ _).alloc (Nat.le_refl _) _), ((((Below.refl _ _).alloc (Nat.le_refl _) _)).cell (p := ⟨bp, _, none⟩) HB.out).trans z0, RX.out.on ((Below.refl _ _).alloc (Nat.le_refl _) _)⟩) ?_
                    clear B RY RX v0 v1 v2 v3 z0 BW
                    generalize wr.heap.size = gb
                    intro W C
                    have e0 := C.out.2.1.c0; have e1 := C.out.2.1.c1
                    have e4 := C.out.2.2.2.1
                    have BD := Lib.hid ((Below.refl W.heap.size W).drew)
                    have e0d := (BD.out.cell (p := ⟨gb, _, none⟩) (cell_lt e0)).trans e0; have e1d := (BD.out.cell (p := ⟨gb, _, none⟩) (cell_lt e1)).trans e1; have e4d := (BD.out.cell (p := ⟨bp, _, none⟩) (cell_lt e4)).trans e4
                    go_region_held3 (fun W => W.cell? ⟨gb, 0, none⟩ = some (.int .i64 0) ∧ W.cell? ⟨gb, 1, none⟩ = some (.slice Ay m cy) ∧ W.cell? ⟨bp, op + k, none⟩ = some (.slice Ak m ck)) (first | with_reducible exact ⟨e0, e1, e4⟩ | with_reducible exact ⟨e0d, e1d, e4d⟩ | with_reducible exact ⟨e0z, e1z, e4z⟩) (first
                      | (go_at_call 18; (with_reducible refine (equal_yes x x m m _ _ _ _ _ (C.out.2.2.1.on (Below.refl _ _).drew) (C.out.2.2.2.2.on (Below.refl _ _).drew) HM.out HM.out MM.out rfl).mono ?_); rintro e w9 ⟨rfl, hb9⟩; have B9 := Lib.hid (((Below.refl W.heap.size W).drew).trans hb9); have e0z := (B9.out.cell (p := ⟨gb, _, none⟩) (cell_lt e0)).trans e0; have e1z := (B9.out.cell (p := ⟨gb, _, none⟩) (cell_lt e1)).trans e1; have e4z := (B9.out.cell (p := ⟨bp, _, none⟩) (cell_lt e4)).trans e4; clear hb9; dsimp only))
                    go_wp2_with fail
                    exact ⟨⟨k + 1, HK.out, by rw [show ((k + 1 : Nat) : Int) = (k : Int) + 1 from by omega], Lib.hid (C.out.1.trans (B9.out.mono C.out.1.size))⟩, by show len2 - ((k : Int) + 1).toNat < len2 - ((k : Int)).toNat; have := HK.out; omega⟩
                  · have j1 : ¬ (k : Int) < (len2 : Int) := by omega
                    have BF := Lib.hid (BE.out.trans (B.out.mono BE.out.size))
                    go_wp2_with fail
                    go_ret
                    exact ⟨rfl, BF.out⟩
      · have hlt2 : i < len2 := by obtain ⟨x, h1, h2⟩ := hlong; have := (List.getElem?_eq_some_iff.1 h1).1; have := DS.out; omega
        obtain ⟨bp, op, x, Ak, ck, rfl, hbp, hx, y0, hck, hrd⟩ := HP.out.rd.rw_ (k := i) (by have := DS.out; omega)
        have z0 := (B.out.cell (p := ⟨bp, _, none⟩) hbp).trans y0
        obtain ⟨dn, hdn⟩ : ∃ n, x.length = n := ⟨_, rfl⟩
        rw [hdn] at z0
        have i1 : (i : Int) < (len2 : Int) := by have := DS.out; omega
        have i5 : ((i : Int)).toNat = i := by omega
        have i6 : (0 : Int) ≤ (i : Int) := by omega
        have i7 : (60 : Int) < (dn : Int) := by obtain ⟨x', h1, h2⟩ := hlong; rw [← he, hx] at h1; injection h1 with h1; subst h1; omega
        clear y0 hck hrd hx hdn hlong he
        go_wp2_with fail
        go_ret
        exact ⟨rfl, B.out⟩
end Go.Proofs.YtamdaepeogmboaaDoor
