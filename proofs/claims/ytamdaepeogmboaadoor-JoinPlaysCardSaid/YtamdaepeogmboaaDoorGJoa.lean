/-
  What the document's least, first, at and without answer. No condition beyond: sizes below 2^30. What the document's at and without answer. No condition beyond: sizes below 2^30. What the document's without answers. No condition beyond: sizes below 2^30.
-/
import Derived.Test.YtamdaepeogmboaaDoorJoiO
import Derived.Deep.CutRange
import Derived.Laws.ResultCell
namespace Go.Proofs.YtamdaepeogmboaaDoor
section
open Go.RowKit

set_option maxHeartbeats 1000000 in
theorem jleast_any (l : List Int) (n c : Nat) (A : Option Addr) (F : Nat → Prop) (w : World) (h : Rws shI F w A l) (hl : l.length = n) (h0 : 0 < n) (hn : n ≤ 1073741824) :
    Calls Tryd.prog 39 #[.slice A n c] w fun e w' => e = .returned (.int .i64 (jleast l)) ∧ w = w' := by
  obtain ⟨b, o, x, rfl, hb, hx, hc⟩ := h.int (k := 0) (by omega)
  rw [Nat.add_zero] at hc
  have HL := Lib.hid hl
  have HX := Lib.hid (show jleast (l.take 1) = x by rw [List.take_add_one, hx]; rfl)
  have HR := Lib.hid h
  have j0 : (0 : Int) < (n : Int) := by omega
  clear hl h hx
  go_enter Tryd.func39, Tryd.ntmps39
  go_wp2_with fail
  clear hc j0
  go_loopw [3, 4] (fun v i wr => ∃ k : Nat, 0 < k ∧ k ≤ n ∧ i = .int .i64 (k : Int) ∧ v = .int .i64 (jleast (l.take k)) ∧ wr = w) (fun _ i _ => n - (intOf i).toNat)
  case atStart => exact ⟨1, by omega, by omega, rfl, by rw [HX.out], rfl⟩
  case round =>
    obtain ⟨k, hk0, hkn, rfl, rfl, rfl⟩ := hrel
    by_cases hlt : k < n
    · obtain ⟨b', o', y, hA, hb', hy, hc⟩ := HR.out.int (k := k) (by rw [HL.out]; exact hlt)
      injection hA with hA
      injection hA with hA1 hA2
      subst hA1; subst hA2
      have HT := Lib.hid (jleast_take hy hk0)
      obtain ⟨v, hv⟩ : ∃ v, jleast (l.take k) = v := ⟨_, rfl⟩
      rw [hv] at HT ⊢
      have i1 : (0 : Int) ≤ (k : Int) := by omega
      have i2 : (k : Int) < (n : Int) := by omega
      clear hv hy
      by_cases hc1 : y < v
      all_goals
        go_wp2_with fail
        go_roundw
        case rel => exact ⟨k + 1, by omega, by omega, by go_num, by rw [HT.out]; simp [hc1], (by simp)⟩
        case measure => simp [intOf]; omega
    · have he : k = n := by omega
      subst he
      rw [List.take_of_length_le (by rw [HL.out]; exact Nat.le_refl _)]
      go_wp2_with fail
      go_ret
      exact ⟨rfl, rfl⟩

set_option maxHeartbeats 1000000 in
theorem jfirst_any (j : Jn) (q : Jp) (F : Nat → Prop) (w : World) (h : Rws shC F w q.wa j.wait) (hl : j.wait.length = q.wn) (hn : q.wn ≤ 1073741824) :
    Calls Tryd.prog 24 #[j.val q] w fun e w' => e = .returned (.int .i64 (jfirst j.wait)) ∧ Below w.heap.size w w' := by
  have HL := Lib.hid hl
  have HN := Lib.hid hn
  have C : Hid (Below w.heap.size w (w.alloc (j.obj q)) ∧ Jx (w.alloc (j.obj q)) w.heap.size j q ∧ Rws shC F (w.alloc (j.obj q)) q.wa j.wait) := Lib.hid ⟨(Below.refl _ _).alloc (Nat.le_refl _) _, Jx.new _ _ _, h.below ((Below.refl _ _).alloc (Nat.le_refl _) _)⟩
  clear hl h hn
  go_enter Tryd.func24, Tryd.ntmps24
  go_upto_region 1 with fail
  with_reducible refine at_worldJ (fun W => Hid (Below w.heap.size w W ∧ Jx W w.heap.size j q ∧ Rws shC F W q.wa j.wait)) C ?_
  clear C
  rintro w1 C
  have y4 := C.out.2.1.c4
  go_wp2_with fail
  go_loopw [3, 4] (fun v i wr => ∃ k : Nat, k ≤ q.wn ∧ i = .int .i64 (k : Int) ∧ v = .int .i64 (jfirst (j.wait.take k)) ∧ wr = w1) (fun _ i _ => q.wn - (intOf i).toNat)
  case atStart => exact ⟨0, by omega, rfl, by simp [jfirst], rfl⟩
  case round =>
    obtain ⟨k, hkn, rfl, rfl, rfl⟩ := hrel
    by_cases hlt : k < q.wn
    · obtain ⟨b, o, y, Ak, ck, hA, hb', hy, hc, -⟩ := C.out.2.2.cm (k := k) (by rw [HL.out]; exact hlt)
      rw [hA] at y4
      have HT := Lib.hid (jfirst_take hy)
      obtain ⟨v, hv⟩ : ∃ v, jfirst (j.wait.take k) = v := ⟨_, rfl⟩
      rw [hv] at HT ⊢
      have i1 : (0 : Int) ≤ (k : Int) := by omega
      have i2 : (k : Int) < (q.wn : Int) := by omega
      have hn9 := HN.out
      clear hv hy
      obtain ⟨p, pc⟩ := y
      dsimp only at hc HT
      by_cases hc1 : p < v
      all_goals
        go_wp2_with fail
        go_roundw
        case rel => exact ⟨k + 1, by omega, by go_num, by rw [HT.out]; simp [hc1], (by simp)⟩
        case measure => simp [intOf]; omega
    · have he : k = q.wn := by omega
      rw [he, List.take_of_length_le (by rw [HL.out]; exact Nat.le_refl _)]
      go_wp2_with fail
      go_ret
      exact ⟨rfl, C.out.1⟩
end

section
open Go.RowKit

theorem jo_res {fn : Func} {p u : Tmp} {ty : TypeId} (h : fn.results = #[.cell p ty, .tmp u]) (tmps : Array Value) (v : Value) (w : World) (g : Nat) (t : TypeId) (cs : Array Value) (fr : Nat × Nat) (fs : Array Field)
    (hp : tmps.getD p undef = .pointer (some ⟨g, 0, none⟩)) (hv : tmps.getD u undef = v) (hg : w.heap[g]? = some (.cells cs t fr))
    (hu : Tryd.prog.underlying ty = some (.struct fs)) (hi : (Tryd.prog.info? ty).map (·.size) = some cs.size) :
    (results fn tmps).run Tryd.prog w = .ok (.tuple #[.agg cs, v]) w := by
  have hp' : tmps[p]?.getD undef = .pointer (some ⟨g, 0, none⟩) := by simpa using hp
  have hv' : tmps[u]?.getD undef = v := by simpa using hv
  rw [results_cell_tmp h]
  simp [hp', hv', asAddr, run_loadVar_row w g t ty cs fr _ hg hu rfl hi, Result.andThen]
theorem jput4_below {w W : World} {g : Nat} (h : Below w.heap.size w W) (hg : w.heap.size ≤ g) (a b c d : Value) : Below w.heap.size w ((((W.setCell ⟨g, 0, none⟩ a).setCell ⟨g, 1, none⟩ b).setCell ⟨g, 2, none⟩ c).setCell ⟨g, 3, none⟩ d) :=
  (((h.setCell (p := ⟨g, 0, none⟩) hg _).setCell (p := ⟨g, 1, none⟩) hg _).setCell (p := ⟨g, 2, none⟩) hg _).setCell (p := ⟨g, 3, none⟩) hg _
theorem jput4_keeps {F : Nat → Prop} (W : World) (g : Nat) (hF : ¬ F g) (a b c d : Value) : Keeps F W ((((W.setCell ⟨g, 0, none⟩ a).setCell ⟨g, 1, none⟩ b).setCell ⟨g, 2, none⟩ c).setCell ⟨g, 3, none⟩ d) := by
  have st : ∀ (V : World) (k : Nat) (u : Value), Offs (fun b => b = g) W V → Offs (fun b => b = g) W (V.setCell ⟨g, k, none⟩ u) := fun V k u h => h.trans (Offs.set (X := fun b => b = g) V g k u rfl) (fun _ h => h) (fun _ _ h => h)
  exact Keeps.of_offs (st _ _ _ (st _ _ _ (st _ _ _ (st _ _ _ (Offs.refl _ W))))) fun b hb e => hF (e ▸ hb)

/-- What at answers. -/
def JaA (F : Nat → Prop) (w : World) (r : Pc) (m : Nat) (ok : Bool) (e : Ending) (w' : World) : Prop := ∃ A c, e = .returned (.tuple #[fV r.b r.e r.n A m c, .bool ok]) ∧ m ≤ c ∧ RdF F w' A r.d ∧ Below w.heap.size w w'
theorem JaA.mk {F : Nat → Prop} {w w' : World} {r : Pc} {m : Nat} {ok : Bool} (A : Option Addr) (c : Nat) (h1 : m ≤ c) (h2 : RdF F w' A r.d) (h3 : Below w.heap.size w w') : JaA F w r m ok (.returned (.tuple #[fV r.b r.e r.n A m c, .bool ok])) w' := ⟨A, c, rfl, h1, h2, h3⟩

set_option maxHeartbeats 2000000 in
theorem jat_any (j : Jn) (q : Jp) (x : Int) (F : Nat → Prop) (w : World) (h : Rws shC F w q.wa j.wait) (hl : j.wait.length = q.wn) (hn : q.wn ≤ 1073741824) (r : Pc) (m : Nat) (ok : Bool) (hr : (jat j.wait x).getD pc0 = r) (hk : (jat j.wait x).isSome = ok) (hm : r.d.length = m) :
    Calls Tryd.prog 27 #[j.val q, .int .i64 x] w (JaA F w r m ok) := by
  have HL := Lib.hid hl
  have HN := Lib.hid hn
  have HR := Lib.hid hr
  have HK := Lib.hid hk
  have HM := Lib.hid hm
  have hb2 : Below w.heap.size w ((w.alloc (j.obj q)).alloc (.cells #[.bool false, .bool false, .int .i64 0, .slice none 0 0] 37)) := ((Below.refl _ _).alloc (Nat.le_refl _) _).alloc (by simp) _
  have C : Hid (Below w.heap.size w ((w.alloc (j.obj q)).alloc (.cells #[.bool false, .bool false, .int .i64 0, .slice none 0 0] 37)) ∧ Jx ((w.alloc (j.obj q)).alloc (.cells #[.bool false, .bool false, .int .i64 0, .slice none 0 0] 37)) w.heap.size j q ∧ Rws shC (fun b => F b ∧ b < w.heap.size) ((w.alloc (j.obj q)).alloc (.cells #[.bool false, .bool false, .int .i64 0, .slice none 0 0] 37)) q.wa j.wait ∧ FrX ((w.alloc (j.obj q)).alloc (.cells #[.bool false, .bool false, .int .i64 0, .slice none 0 0] 37)) (w.heap.size + 1) 37 false false 0 none 0 0) :=
    Lib.hid ⟨hb2, (Jx.new _ _ _).on ((Below.refl _ _).alloc (Nat.le_refl _) _), (h.mono fun b hb hf => ⟨hf, hb⟩).below hb2, by have := FrX.new (w.alloc (j.obj q)) 37 false false 0 none 0 0; simpa using this⟩
  clear hl h hn hb2 hr hk hm
  go_enter Tryd.func27, Tryd.ntmps27
  go_upto_region 1 with fail
  with_reducible refine at_worldJ (fun W => Hid (Below w.heap.size w W ∧ Jx W w.heap.size j q ∧ Rws shC (fun b => F b ∧ b < w.heap.size) W q.wa j.wait ∧ FrX W (w.heap.size + 1) 37 false false 0 none 0 0)) C ?_
  clear C
  rintro w1 C
  have y4 := C.out.2.1.c4
  have z0 := C.out.2.2.2.fz 0
  have z1 := C.out.2.2.2.fz 1
  have z2 := C.out.2.2.2.fz 2
  have z3 := C.out.2.2.2.fz 3
  have x0 := C.out.2.2.2.c0
  have x1 := C.out.2.2.2.c1
  have x2 := C.out.2.2.2.c2
  have x3 := C.out.2.2.2.c3
  have B9 := Lib.hid (jput4_below C.out.1 (g := w.heap.size + 1) (by omega))
  go_wp2_with fail
  go_loopw [6] (fun i wr => ∃ k : Nat, k ≤ q.wn ∧ i = .int .i64 (k : Int) ∧ Hid (∀ i < k, ∀ y, j.wait[i]? = some y → (y.1 == x) = false) ∧ wr = w1) (fun i _ => q.wn - (intOf i).toNat)
  case atStart => exact ⟨0, by omega, rfl, Lib.hid (fun i hi => absurd hi (Nat.not_lt_zero _)), by simp⟩
  case round =>
    obtain ⟨k, hkn, rfl, hno, rfl⟩ := hrel
    by_cases hlt : k < q.wn
    · obtain ⟨b, o, y, Ak, ck, hA, hb', hy, h0, h1, h2, h3, h4, h5, h6⟩ := C.out.2.2.1.cm (k := k) (by rw [HL.out]; exact hlt)
      rw [hA] at y4
      have i1 : (0 : Int) ≤ (k : Int) := by omega
      have i2 : (k : Int) < (q.wn : Int) := by omega
      have hn9 := HN.out
      by_cases hc1 : (y.1 == x) = true
      · have E := Lib.hid (jat_some hno.out hy hc1)
        have hr := HR.out
        have hk := HK.out
        rw [E.out] at hr hk
        have e1 : y.2 = r := hr
        have e2 : true = ok := hk
        subst e1 e2
        have hm := HM.out
        rw [hm] at h4 h5
        have K := Lib.hid ((h6.keep (jput4_keeps wr (w.heap.size + 1) (fun e => absurd e.2 (by omega)) (.bool y.2.b) (.bool y.2.e) (.int .i64 y.2.n) (.slice Ak m ck))).mono fun b _ hb => hb.1)
        obtain ⟨p, pc⟩ := y
        dsimp only at h0 h1 h2 h3 h4 hc1 K
        clear hy hr hk h6 E
        go_wp2_with fail
        refine bodyPost_ret (v := .tuple #[fV pc.b pc.e pc.n Ak m ck, .bool true]) ?_ rfl (JaA.mk Ak ck h5 K.out (B9.out _ _ _ _))
        exact jo_res rfl _ _ _ (w.heap.size + 1) 37 _ _ _ rfl rfl (C.out.2.2.2.put pc.b pc.e pc.n Ak m ck) Tryd.underlying37 (by kernel_rfl)
      · have hc2 : (y.1 == x) = false := by simpa using hc1
        have NO := Lib.hid (show ∀ i < k + 1, ∀ y, j.wait[i]? = some y → (y.1 == x) = false from fun i hi z hz => by
          rcases Nat.lt_or_ge i k with h | h
          · exact hno.out i h z hz
          · have e : i = k := by omega
            subst e
            rw [hy] at hz
            injection hz with hz
            subst hz
            exact hc2)
        obtain ⟨p, pc⟩ := y
        dsimp only at h0 hc2
        clear hy h6 h1 h2 h3 h4 hc1
        go_wp2_with fail
        go_roundw
        case rel => exact ⟨k + 1, by omega, by go_num, NO, (by simp)⟩
        case measure => simp [intOf]; omega
    · have he : k = q.wn := by omega
      have E := Lib.hid (jat_none (l := j.wait) (x := x) (fun i hi => hno.out i (by rw [HL.out] at hi; omega)))
      have hr := HR.out
      have hk := HK.out
      rw [E.out] at hr hk
      have e1 : pc0 = r := hr
      have e2 : false = ok := hk
      subst e1 e2
      have hm : 0 = m := HM.out
      subst hm
      rw [he]
      clear hr hk
      go_wp2_with fail
      refine bodyPost_ret (v := .tuple #[fV false false 0 none 0 0, .bool false]) ?_ rfl (JaA.mk none 0 (Nat.le_refl _) RdF.nil (B9.out _ _ _ _))
      exact jo_res rfl _ _ _ (w.heap.size + 1) 37 _ _ _ rfl rfl (C.out.2.2.2.put false false 0 none 0 0) Tryd.underlying37 (by kernel_rfl)
end

section
open Go.RowKit

/-- One piece at its place in a new block. -/
theorem litc {F : Nat → Prop} (w : World) {T : TypeId} {A : Option Addr} {n c : Nat} {b e : Bool} {p x : Int} {l : List Nat} (hl : l.length = n) (hc : n ≤ c) (h : RdF F w A l) :
    Orw shC T F w.heap.size (w.alloc (.cells #[.int .i64 p, .bool b, .bool e, .int .i64 x, .slice A n c] T)) (.slice (some ⟨w.heap.size, 0, none⟩) 1 1) [(p, ⟨b, e, x, l⟩)] := by
  subst hl
  refine Orw.lit w [[.int .i64 p, .bool b, .bool e, .int .i64 x, .slice A l.length c]] rfl (fun k y cs hx hk => ?_) (by simp)
  rcases k with _ | k
  · injection hx with hx
    injection hk with hk
    subst hx; subst hk
    exact ⟨A, c, rfl, hc, h⟩
  · simp at hx
theorem litc0 {F : Nat → Prop} (w : World) {T : TypeId} : Orw shC T F w.heap.size (w.alloc (.cells #[] T)) (.slice (some ⟨w.heap.size, 0, none⟩) 0 0) [] :=
  Orw.lit w [] rfl (fun k x cs hx _ => by simp at hx) (by simp)

set_option maxHeartbeats 2000000 in
theorem jwo_any (l : List (Int × Pc)) (x : Int) (n c : Nat) (A : Option Addr) (F : Nat → Prop) (w : World) (h : Rws shC F w A l) (hF : ∀ b, w.heap.size ≤ b → F b) (hl : l.length = n) (hn : n ≤ 1073741824) :
    Calls Tryd.prog 37 #[.slice A n c, .int .i64 x] w fun e w' => ∃ v, e = .returned v ∧ Orw shC 81 F w.heap.size w' v (jwo l x) ∧ Below w.heap.size w w' := by
  obtain ⟨i0, hi, hz0, hz1, hz2⟩ := info_parts rcm_info
  have HL := Lib.hid hl
  have HF := Lib.hid hF
  have HR := Lib.hid (h.mono (G := fun b => F b ∧ b < w.heap.size) fun b hb hf => ⟨hf, hb⟩)
  have O0 := Lib.hid (litc0 (F := F) w (T := 81))
  have B0 := Lib.hid ((Below.refl w.heap.size w).alloc (Nat.le_refl _) (.cells #[] 81))
  clear hl hF h
  go_enter Tryd.func37, Tryd.ntmps37
  go_wp2_with fail
  go_loopw [5, 6] (fun v i wr => ∃ k : Nat, k ≤ n ∧ i = .int .i64 k ∧ Orw shC 81 F w.heap.size wr v (jwo (l.take k) x) ∧ Below w.heap.size w wr) (fun _ i _ => n - (intOf i).toNat)
  case atStart => exact ⟨0, Nat.zero_le _, rfl, O0.out, B0.out⟩
  case round =>
    obtain ⟨k, hk, rfl, hown, hbel⟩ := hrel
    by_cases hlt : k < n
    · obtain ⟨b, o, y, A3, c3, rfl, hb3, hy, h1, h2, h3, h4, h5, h6, h7⟩ := (HR.out.below hbel).cm (k := k) (by rw [HL.out]; exact hlt)
      have HT := Lib.hid (jwo_take x hy)
      obtain ⟨u, hu⟩ : ∃ u, Hid ((jwo (l.take k) x).length = u ∧ u ≤ k) := ⟨_, Lib.hid ⟨rfl, Nat.le_trans (jwo_len _ _) (by rw [List.length_take]; omega)⟩⟩
      have i1 : (0 : Int) ≤ k := by omega
      have i2 : (k : Int) < n := by omega
      obtain ⟨p, pc⟩ := y
      dsimp only at h1 h2 h3 h4 h5 h6 h7 HT
      clear hy
      by_cases hc1 : (p != x) = true
      · obtain ⟨wk, hwk⟩ : ∃ wk, wk = wr.alloc (.cells #[.int .i64 p, .bool pc.b, .bool pc.e, .int .i64 pc.n, .slice A3 pc.d.length c3] 81) := ⟨_, rfl⟩
        have HT2 := Lib.hid (show jwo (l.take (k + 1)) x = jwo (l.take k) x ++ [(p, pc)] by rw [HT.out, if_pos hc1])
        have LC := Lib.hid (show Orw shC 81 (fun b => F b ∧ b < w.heap.size) wr.heap.size wk (.slice (some ⟨wr.heap.size, 0, none⟩) 1 1) [(p, pc)] by rw [hwk]; exact litc wr rfl h6 h7)
        have hbe : Below wr.heap.size wr wk := by rw [hwk]; exact (Below.refl _ _).alloc (Nat.le_refl _) _
        have HWK := Lib.hid hwk
        have OW := Lib.hid (hown.below hbe)
        have OW0 := Lib.hid hown
        have BE := Lib.hid (hbel.trans (hbe.mono hbel.size))
        have BE0 := Lib.hid hbel
        have hnu := hu.out.2
        clear hwk h7 hown hbel hbe HT
        go_wp2_with (at_builtin; rw [← HWK.out]; refine list_rows shC rfl _ _ _ rfl 81 i0 (.agg #[.int .i64 0, .bool false, .bool false, .int .i64 0, .slice none 0 0]) 48 Tryd.underlying29 hi hz0 hz1 hz2 rfl (by decide) F _ w.heap.size _ u (jwo (l.take k) x) rfl OW.out hu.out.1 _ 1 1 [(p, pc)] rfl LC.out.read rfl (fun b _ hb => hb.elim (fun h => ⟨h.1, fun e => absurd (OW.out.lt e).1 (Nat.not_le.2 h.2)⟩) (fun h => ⟨HF.out b (Nat.le_trans BE0.out.size h), fun e => Nat.lt_irrefl _ (Nat.lt_of_lt_of_le (OW0.out.lt e).2 h)⟩)) (by unfold maxLen; omega) (by omega) BE.out.size ?_; intro v7 w7 ho7 hg7 hm7; have R2 := BE.out.grown hg7 BE.out.size (fun g hg => (OW.out.lt hg).1); clear hg7 hm7)
        have R1 : Orw shC 81 F w.heap.size w7 v7 (jwo (l.take (k + 1)) x) := by rw [HT2.out]; exact ho7
        clear ho7
        go_roundw
        case rel => exact ⟨k + 1, by omega, by go_num, R1, R2⟩
        case measure => simp [intOf]; omega
      · have HT2 := Lib.hid (show jwo (l.take (k + 1)) x = jwo (l.take k) x by rw [HT.out, if_neg hc1])
        have hc2 : (p != x) = false := by simpa using hc1
        clear h7 HT h2 h3 h4 h5 h6 hc1
        go_wp2_with fail
        go_roundw
        case rel => exact ⟨k + 1, by omega, by go_num, by rw [HT2.out]; exact hown, hbel⟩
        case measure => simp [intOf]; omega
    · have he : k = n := by omega
      subst he
      rw [List.take_of_length_le (by rw [HL.out]; exact Nat.le_refl _)] at hown
      go_wp2_with fail
      go_ret
      exact ⟨_, rfl, hown, hbel⟩
end
end Go.Proofs.YtamdaepeogmboaaDoor
