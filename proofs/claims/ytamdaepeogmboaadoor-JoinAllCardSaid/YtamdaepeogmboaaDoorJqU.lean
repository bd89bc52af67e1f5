
/-
  The program's take of layer 24: what becomes of a piece. No condition beyond: sizes below 2^30. (mkjqu.py writes this.)
-/
import Derived.Test.YtamdaepeogmboaaDoorJqT
namespace Go.Proofs.YtamdaepeogmboaaDoor
set_option maxRecDepth 4000
open Go.RowKit Go.Maps

/-- What take knows of the world it stands in. -/
structure TkC (w : World) (b : Nat) (q0 : Jq) (j : Jn) (q : Jq) (ol : List Int) (g : Nat) (pb pe : Bool) (pn : Int) (A : Option Addr) (n c : Nat) (d : List Nat) (v : Value) (xs : List Ev) (W : World) : Prop where
  pc : FrX W g 50 pb pe pn A n c
  n0 : ¬ q.own b g
  gl : w.heap.size ≤ g
  pw : Pw W b j q ol
  ps : Ps b q0 w q W
  mn : q.mn = q0.mn
  fr : q.fr = q0.fr
  rd : RdF (fun i => ¬ q.own b i ∧ q.fr i) W A d
  out : Out b q0 w q W v xs
  lo : ∀ i, q.fr i → i < w.heap.size
  ng : v.ownBlock ≠ some g
section
variable {w W W' : World} {b : Nat} {j j' : Jn} {q0 q q' : Jq} {ol ol' : List Int} {g : Nat} {pb pe : Bool} {pn : Int} {A : Option Addr} {n c : Nat} {d : List Nat} {v v' : Value} {xs ys : List Ev}
theorem TkC.call (h : TkC w b q0 j q ol g pb pe pn A n c d v xs W) (k1 : Pw W' b j' q' ol') (k2 : Ps b q W q' W') (k3 : q'.mn = q.mn) (k4 : q'.fr = q.fr) : TkC w b q0 j' q' ol' g pb pe pn A n c d v xs W' :=
  ⟨h.pc.offJ k2.off h.n0, k2.out h.pc.lt h.n0, h.gl, k1, h.ps.trans k2, k3.trans h.mn, k4.trans h.fr, by rw [k4]; exact k2.rdf h.rd, h.out.step k2, by rw [k4]; exact h.lo, h.ng⟩
theorem TkC.below (h : TkC w b q0 j q ol g pb pe pn A n c d v xs W) (hb : Below W.heap.size W W') : TkC w b q0 j q ol g pb pe pn A n c d v xs W' :=
  h.call (h.pw.below hb) (.of_below hb) rfl rfl
theorem TkC.app (h : TkC w b q0 j q ol g pb pe pn A n c d v xs W) (ho : Orw shEv 59 (Fo b q0 w q) w.heap.size W' v' ys) (hg : W.grownBy W' v.ownBlock) (hm : Mv W.heap.size v v') : TkC w b q0 j q ol g pb pe pn A n c d v' ys W' := by
  obtain ⟨k1, k2, k3, k4⟩ := h.out.app h.pw h.ps h.lo ho hg hm
  refine ⟨h.pc.offJ k4 h.ng, h.n0, h.gl, k2, k3, h.mn, h.fr, h.rd.keep (.of_offs k4 fun i hi e => ?_), k1, h.lo, fun e => (hm g e).elim h.ng fun e => absurd h.pc.lt (Nat.not_lt.2 e)⟩
  have := (h.out.row.lt e).1
  have := h.lo i hi.2
  omega
theorem TkC.told (h : TkC w b q0 j q ol g pb pe pn A n c d v xs W) (t : List Ev) : TkC w b q0 { j with told := t } q ol g pb pe pn A n c d v xs W :=
  ⟨h.pc, h.n0, h.gl, h.pw.told t, h.ps, h.mn, h.fr, h.rd, h.out, h.lo, h.ng⟩
end
/-- What take answers. -/
def Tke (b : Nat) (q : Jq) (w : World) (ol : List Int) (k : Jn) (T : List Ev) (e : Ending) (w' : World) : Prop :=
  ∃ q' A n c, e = .returned (.slice A n c) ∧ T.length = n ∧ n ≤ c ∧ Rws shEv (Fo b q w q') w' A T ∧ Pw w' b k q' ol ∧ Ps b q w q' w' ∧ q'.mn = q.mn ∧ q'.fr = q.fr
theorem TkC.done {w W : World} {b : Nat} {j : Jn} {q0 q : Jq} {ol : List Int} {g : Nat} {pb pe : Bool} {pn : Int} {A : Option Addr} {n c : Nat} {d : List Nat} {v : Value} {xs : List Ev} (h : TkC w b q0 j q ol g pb pe pn A n c d v xs W) {k : Jn} (hk : ∃ t, k = { j with told := t }) : Tke b q0 w ol k xs (.returned v) W := by
  obtain ⟨t, rfl⟩ := hk
  obtain ⟨D, e, hv, hc⟩ := h.out.shape
  subst hv
  exact ⟨q, D, _, e, rfl, rfl, hc, h.out.read, h.pw.told t, h.ps, h.mn, h.fr⟩

/-- add, where it is within a packet, in one form. -/
theorem padd_one (b : Nat) (j : Jn) (q : Jq) (ol : List Int) (pb pe : Bool) (pn : Int) (d : List Nat) (A : Option Addr) (n c : Nat) (w : World) (h : Pw w b j q ol) (hm : j.mode = 1) (hd : RdF (fun i => ¬ q.own b i) w A d) (hn : d.length = n) (h1 : q.dn ≤ 1073741824) (h2 : n ≤ 1073741824) :
    Calls Tryd.prog 47 #[.pointer (some ⟨b, 0, none⟩), pvV pb pe pn A n c] w fun e w' => ∃ q' x D m cd ok, e = .returned (.tuple #[evV x.k D m cd x.f x.m, .bool ok]) ∧ Pw w' b (jgrow j pe (j.data ++ d)) q' ol ∧ Ps b q w q' w' ∧ q'.mn = q.mn ∧ q'.fr = q.fr ∧
      ((ok = false ∧ (jgrow j pe (j.data ++ d)).told = j.told) ∨ (ok = true ∧ (jgrow j pe (j.data ++ d)).told = j.told ++ [x] ∧ x.d.length = m ∧ m ≤ cd ∧ RdF (Fo b q w q') w' D x.d)) := by
  refine (padd_in b j q ol pb pe pn d A n c w h hm hd hn h1 h2).mono ?_
  rintro e w' ⟨q', k1, k2, k3, k4, k5 | ⟨x, D, cd, k5, k6, k7, k8⟩⟩
  · exact ⟨q', ⟨0, [], 0, 0⟩, none, 0, 0, false, k5.2, k1, k2, k3, k4, .inl ⟨rfl, k5.1⟩⟩
  · exact ⟨q', x, D, _, cd, true, k6, k1, k2, k3, k4, .inr ⟨rfl, k5, rfl, k7, k8⟩⟩
theorem jgrow_md (j : Jn) (m : Int) (l : List Nat) (e : Bool) (d : List Nat) : jgrow { j with mode := m, data := l } e d = jgrow j e d := by unfold jgrow; split; rfl; split <;> rfl
theorem jtk_a (j : Jn) (x : Int) (t : List Ev) (e : Bool) (d : List Nat) : ∃ u, ({ jgrow ({ j with next := x, told := t } : Jn) e d with next := j.next } : Jn) = { jgrow j e d with told := u } := by
  unfold jgrow
  split
  · exact ⟨_, rfl⟩
  · split
    · exact ⟨_, rfl⟩
    · exact ⟨_, rfl⟩
theorem jtk_b {j : Jn} {x : Int} {t tt : List Ev} {e : Bool} {d : List Nat} (h0 : j.told = []) (h : (jgrow j e d).told = j.told ++ tt) : (jgrow ({ j with next := x, told := t } : Jn) e d).told = t ++ tt := by
  rw [h0] at h
  unfold jgrow at h ⊢
  split at h
  · next hc =>
    rw [if_pos hc]
    have h' : j.told ++ [⟨3, [], 0, 0⟩] = [] ++ tt := h
    rw [h0] at h'
    show t ++ _ = t ++ tt
    rw [← List.nil_append tt, ← h']; rfl
  · next hc =>
    rw [if_neg hc]
    split at h
    · next he =>
      rw [if_pos he]
      have h' : j.told ++ [⟨0, d, 0, 0⟩] = [] ++ tt := h
      rw [h0] at h'
      show t ++ _ = t ++ tt
      rw [← List.nil_append tt, ← h']; rfl
    · next he =>
      rw [if_neg he]
      have h' : j.told = [] ++ tt := h
      rw [h0] at h'
      show t = t ++ tt
      rw [← List.nil_append tt, ← h', List.append_nil]
set_option maxHeartbeats 8000000 in
theorem ptake_any (b : Nat) (j : Jn) (q : Jq) (ol : List Int) (pb pe : Bool) (pn x : Int) (d : List Nat) (A : Option Addr) (n c : Nat) (w : World) (h : Pw w b j q ol) (ht : j.told = []) (hx : x.tmod (frmod j.sh : Int) = pn) (hd : RdF (fun i => ¬ q.own b i ∧ q.fr i) w A d) (hn : d.length = n) (h1 : q.dn ≤ 1073741824) (h2 : n ≤ 1073741824)
    (hmo : j.mode = 0 ∨ j.mode = 1 ∨ j.mode = 2) (hdm : j.mode ≠ 1 → j.data = []) (lo : ∀ i, q.fr i → i < w.heap.size) :
    Calls Tryd.prog 41 #[.pointer (some ⟨b, 0, none⟩), pvV pb pe pn A n c] w (Tke b q w ol { jthr { j with next := x } ⟨pb, pe, pn, d⟩ with next := j.next } (jthr { j with next := x } ⟨pb, pe, pn, d⟩).told) := by
  obtain ⟨i0, hi, hz0, hz1, hz2⟩ := info_parts jev_info
  obtain ⟨K, hK⟩ : ∃ K, Hid (K = { jthr { j with next := x } ⟨pb, pe, pn, d⟩ with next := j.next }) := ⟨_, Lib.hid rfl⟩
  obtain ⟨TT, hTT⟩ : ∃ TT, Hid (TT = (jthr { j with next := x } ⟨pb, pe, pn, d⟩).told) := ⟨_, Lib.hid rfl⟩
  rw [← hK.out, ← hTT.out]
  have C0 := Lib.hid (show TkC w b q j q ol w.heap.size pb pe pn A n c d (.slice none 0 0) [] (w.alloc (.cells #[.bool pb, .bool pe, .int .i64 pn, .slice A n c] 50)) from
    ⟨FrX.new _ _ _ _ _ _ _ _, h.new (Nat.le_refl _), Nat.le_refl _, h.below ((Below.refl _ _).alloc (Nat.le_refl _) _), .of_below ((Below.refl _ _).alloc (Nat.le_refl _) _), rfl, rfl, hd.keep (.of_below ((Below.refl _ _).alloc (Nat.le_refl _) _)), .nil _ _ _ _ _, lo, fun e => by cases e⟩)
  have HD := Lib.hid hdm
  have HT := Lib.hid ht
  have HX := Lib.hid hx
  clear h hd lo hdm ht hx
  have WAYS : (pb = true ∧ j.mode = 1) ∨ (pb = true ∧ j.mode = 0) ∨ (pb = true ∧ j.mode = 2) ∨ (pb = false ∧ j.mode = 0) ∨ (pb = false ∧ j.mode = 1) ∨ (pb = false ∧ j.mode = 2) := by
    cases pb
    · rcases hmo with h | h | h
      · exact .inr (.inr (.inr (.inl ⟨rfl, h⟩)))
      · exact .inr (.inr (.inr (.inr (.inl ⟨rfl, h⟩))))
      · exact .inr (.inr (.inr (.inr (.inr ⟨rfl, h⟩))))
    · rcases hmo with h | h | h
      · exact .inr (.inl ⟨rfl, h⟩)
      · exact .inl ⟨rfl, h⟩
      · exact .inr (.inr (.inl ⟨rfl, h⟩))
  clear hmo
  go_enter Tryd.func41, Tryd.ntmps41
  go_upto_region 2 with fail
  refine at_worldJ (fun W => Hid (TkC w b q j q ol w.heap.size pb pe pn A n c d (.slice none 0 0) [] W)) C0 ?_
  clear C0
  intro W C
  rcases WAYS with ⟨rfl, hm⟩ | ⟨rfl, hm⟩ | ⟨rfl, hm⟩ | ⟨rfl, hm⟩ | ⟨rfl, hm⟩ | ⟨rfl, hm⟩
  · -- begins: true; mode 1
    have c0 : W.cell? ⟨b, 0, none⟩ = some (.int .i64 1) := by rw [C.out.pw.px.c0, hm]
    have p0 := C.out.pc.c0; have p1 := C.out.pc.c1; have p2 := C.out.pc.c2; have p3 := C.out.pc.c3
    have EK : K = { jgrow ({ j with next := x, told := [⟨2, [], pn, 0⟩] } : Jn) pe ([] ++ d) with next := j.next } ∧ TT = (jgrow ({ j with next := x, told := [⟨2, [], pn, 0⟩] } : Jn) pe ([] ++ d)).told := by
      have e1 : jthr { j with next := x } ⟨true, pe, pn, d⟩ = jgrow ({ j with next := x, told := [⟨2, [], pn, 0⟩] } : Jn) pe ([] ++ d) := by
        have ht := HT.out
        unfold jthr
        rw [if_neg (by rintro ⟨h, _⟩; cases h), if_pos rfl]
        unfold jbad
        rw [if_pos (by simp [hm])]
        have hx : x.tmod (frmod j.sh : Int) = pn := HX.out
        simp [ht, hx]
      rw [hK.out, hTT.out, e1]
      exact ⟨rfl, rfl⟩
    replace EK := Lib.hid EK
    have HM := Lib.hid hm
    clear hm
    have LT := Lib.hid (show Rws shEv (fun i => Fo b q w q i ∧ (Value.slice none 0 0).ownBlock ≠ some i) (W.alloc (.cells #[.int .i64 2, .slice none 0 0, .int .i64 pn, .int .i64 0] 59)) (some ⟨W.heap.size, 0, none⟩) [⟨2, [], pn, 0⟩] from C.out.out.lit C.out.pw C.out.ps ⟨2, [], pn, 0⟩ (A := none) (n := 0) (c := 0) rfl (Nat.le_refl _) RdF.nil)
    go_upto_region 9 with (first
      | (at_builtin; refine list_rows shEv rfl _ _ 44 rfl 59 i0 (.agg #[.int .i64 0, .slice none 0 0, .int .i64 0, .int .i64 0]) 48 Tryd.underlying44 hi hz0 hz1 hz2 rfl (by decide) (Fo b q w q) (fun i => Fo b q w q i ∧ (Value.slice none 0 0).ownBlock ≠ some i) w.heap.size (Value.slice none 0 0) 0 [] rfl (C.out.below ((Below.refl _ _).alloc (Nat.le_refl _) _)).out.row rfl _ 1 1 [⟨2, [], pn, 0⟩] rfl LT.out rfl (fun _ _ h => h) (by unfold maxLen; omega) (by omega) (Nat.le_trans C.out.ps.off.size (by simp)) ?_; intro v7 w7 ho7 hg7 hm7; have C1 := Lib.hid ((C.out.below ((Below.refl _ _).alloc (Nat.le_refl _) _)).app ho7 hg7 hm7); clear ho7 hg7 hm7; have y0 := C1.out.pc.c0; have u0 := C1.out.pw.px.c0; rw [HM.out] at u0)
      | (go_at_call 46; (with_reducible refine (pturn_any b _ _ ol 1 _ C1.out.pw).mono ?_); rintro e w3 ⟨rfl, k1, k2, -⟩; have C2 := Lib.hid (C1.out.call k1 k2 rfl rfl); clear k1 k2; have z0 := C2.out.pc.c0; have z1 := C2.out.pc.c1; have z2 := C2.out.pc.c2; have z3 := C2.out.pc.c3; dsimp only)
      | (go_at_call 47; (with_reducible refine (padd_one b _ _ ol _ pe pn d A n c _ C2.out.pw rfl (C2.out.rd.mono fun _ _ h => h.1) hn (Nat.zero_le _) h2).mono ?_); rintro e w4 ⟨q4, xe, D4, m4, cd4, ok, rfl, k1, k2, k3, k4, k5⟩; have C4 := Lib.hid (C2.out.call k1 k2 k3 k4); have R4 := Lib.hid k5; have S4 := Lib.hid k2; clear k1 k2 k3 k4 k5; dsimp only))
    have FN : ∃ u, K = { (jgrow ({ j with mode := 1, data := [] } : Jn) pe (({ j with mode := 1, data := [] } : Jn).data ++ d)) with told := u } := by
      rw [jgrow_md]
      rw [EK.out.1]
      exact jtk_a _ _ _ _ _
    have T1 : ∀ tt, (jgrow ({ j with mode := 1, data := [] } : Jn) pe (({ j with mode := 1, data := [] } : Jn).data ++ d)).told = j.told ++ tt → TT = [⟨2, [], pn, 0⟩] ++ tt := fun tt ht => by
      rw [jgrow_md] at ht
      rw [EK.out.2]
      exact jtk_b HT.out ht
    have F := Lib.hid (And.intro FN T1)
    clear FN T1 EK
    cases ok
    · replace R4 := Lib.hid (R4.out.elim (fun h => h.2) (fun h => by cases h.1))
      replace C4 := Lib.hid (C4.out.below ((Below.refl _ _).alloc (Nat.le_refl _) (.cells #[.int .i64 xe.k, .slice D4 m4 cd4, .int .i64 xe.f, .int .i64 xe.m] 59 (0, 0))))
      go_wp2_with fail
      go_ret
      rw [F.out.2 [] (by rw [List.append_nil]; exact R4.out), List.append_nil]
      exact C4.out.done F.out.1
    · replace R4 := Lib.hid (show _ ∧ _ ∧ _ ∧ _ from R4.out.elim (fun h => by cases h.1) (fun h => h.2))
      have B4 : Below w4.heap.size w4 (w4.alloc (.cells #[.int .i64 xe.k, .slice D4 m4 cd4, .int .i64 xe.f, .int .i64 xe.m] 59 (0, 0))) := (Below.refl _ _).alloc (Nat.le_refl _) _
      have RX : RdF (fun i => Fo b q w q4 i ∧ v7.ownBlock ≠ some i) w4 D4 xe.d := R4.out.2.2.2.mono fun i hi hf => ⟨⟨hf.1, hf.2.elim (C2.out.ps.own i) fun e => .inr (Nat.le_trans C2.out.ps.off.size e)⟩, fun e => hf.2.elim (C2.out.out.fr i e) fun e2 => absurd (C2.out.out.row.lt e).2 (Nat.not_lt.2 e2)⟩
      have CE := Lib.hid (C4.out.below B4)
      have EX := Lib.hid (EvX.new w4 xe.k D4 m4 cd4 xe.f xe.m)
      have RR := Lib.hid (RX.keep (.of_below B4))
      have Z4 := Lib.hid (show w4.heap.size < (w4.alloc (.cells #[.int .i64 xe.k, .slice D4 m4 cd4, .int .i64 xe.f, .int .i64 xe.m] 59 (0, 0))).heap.size by simp)
      clear B4 RX
      generalize hz : w4.heap.size = z at EX Z4 ⊢
      refine at_worldJ (fun X => Hid (TkC w b q (jgrow ({ j with mode := 1, data := [] } : Jn) pe (({ j with mode := 1, data := [] } : Jn).data ++ d)) q4 ol w.heap.size true pe pn A n c d v7 [⟨2, [], pn, 0⟩] X ∧ EvX X z xe.k D4 m4 cd4 xe.f xe.m ∧ RdF (fun i => Fo b q w q4 i ∧ v7.ownBlock ≠ some i) X D4 xe.d)) (Lib.hid ⟨CE.out, EX.out, RR.out⟩) ?_
      clear CE EX RR Z4 C4 hz
      intro X C4
      have x0 := C4.out.2.1.c0; have x1 := C4.out.2.1.c1; have x2 := C4.out.2.1.c2; have x3 := C4.out.2.1.c3
      have LX := Lib.hid (C4.out.1.out.lit C4.out.1.pw C4.out.1.ps xe R4.out.2.1 R4.out.2.2.1 C4.out.2.2)
      replace C4 := Lib.hid C4.out.1
      go_wp2_with (at_builtin; refine list_rows shEv rfl _ _ 44 rfl 59 i0 (.agg #[.int .i64 0, .slice none 0 0, .int .i64 0, .int .i64 0]) 48 Tryd.underlying44 hi hz0 hz1 hz2 rfl (by decide) (Fo b q w q4) (fun i => Fo b q w q4 i ∧ v7.ownBlock ≠ some i) w.heap.size v7 1 [⟨2, [], pn, 0⟩] rfl (C4.out.below ((Below.refl _ _).alloc (Nat.le_refl _) _)).out.row rfl _ 1 1 [xe] rfl LX.out rfl (fun _ _ h => h) (by unfold maxLen; omega) (by omega) (Nat.le_trans C4.out.ps.off.size (by simp)) ?_; intro v8 w8 ho7 hg7 hm7; have C5 := Lib.hid ((C4.out.below ((Below.refl _ _).alloc (Nat.le_refl _) _)).app ho7 hg7 hm7); clear ho7 hg7 hm7)
      go_ret
      rw [F.out.2 [xe] R4.out.1]
      exact C5.out.done F.out.1
  · -- begins: true; mode 0
    have c0 : W.cell? ⟨b, 0, none⟩ = some (.int .i64 0) := by rw [C.out.pw.px.c0, hm]
    have p0 := C.out.pc.c0; have p1 := C.out.pc.c1; have p2 := C.out.pc.c2; have p3 := C.out.pc.c3
    have EK : K = { jgrow ({ j with next := x, told := [] } : Jn) pe ([] ++ d) with next := j.next } ∧ TT = (jgrow ({ j with next := x, told := [] } : Jn) pe ([] ++ d)).told := by
      have e1 : jthr { j with next := x } ⟨true, pe, pn, d⟩ = jgrow ({ j with next := x, told := [] } : Jn) pe ([] ++ d) := by
        have ht := HT.out
        unfold jthr
        rw [if_neg (by rintro ⟨h, _⟩; cases h), if_pos rfl]
        unfold jbad
        rw [if_neg (by simp [hm])]
        simp [ht]
      rw [hK.out, hTT.out, e1]
      exact ⟨rfl, rfl⟩
    replace EK := Lib.hid EK
    have HM := Lib.hid hm
    clear hm
    go_upto_region 9 with (first
      | (go_at_call 46; (with_reducible refine (pturn_any b _ _ ol 1 _ C.out.pw).mono ?_); rintro e w3 ⟨rfl, k1, k2, -⟩; have C2 := Lib.hid (C.out.call k1 k2 rfl rfl); clear k1 k2; have z0 := C2.out.pc.c0; have z1 := C2.out.pc.c1; have z2 := C2.out.pc.c2; have z3 := C2.out.pc.c3; dsimp only)
      | (go_at_call 47; (with_reducible refine (padd_one b _ _ ol _ pe pn d A n c _ C2.out.pw rfl (C2.out.rd.mono fun _ _ h => h.1) hn (Nat.zero_le _) h2).mono ?_); rintro e w4 ⟨q4, xe, D4, m4, cd4, ok, rfl, k1, k2, k3, k4, k5⟩; have C4 := Lib.hid (C2.out.call k1 k2 k3 k4); have R4 := Lib.hid k5; have S4 := Lib.hid k2; clear k1 k2 k3 k4 k5; dsimp only))
    have FN : ∃ u, K = { (jgrow ({ j with mode := 1, data := [] } : Jn) pe (({ j with mode := 1, data := [] } : Jn).data ++ d)) with told := u } := by
      rw [jgrow_md]
      rw [EK.out.1]
      exact jtk_a _ _ _ _ _
    have T1 : ∀ tt, (jgrow ({ j with mode := 1, data := [] } : Jn) pe (({ j with mode := 1, data := [] } : Jn).data ++ d)).told = j.told ++ tt → TT = [] ++ tt := fun tt ht => by
      rw [jgrow_md] at ht
      rw [EK.out.2]
      exact jtk_b HT.out ht
    have F := Lib.hid (And.intro FN T1)
    clear FN T1 EK
    cases ok
    · replace R4 := Lib.hid (R4.out.elim (fun h => h.2) (fun h => by cases h.1))
      replace C4 := Lib.hid (C4.out.below ((Below.refl _ _).alloc (Nat.le_refl _) (.cells #[.int .i64 xe.k, .slice D4 m4 cd4, .int .i64 xe.f, .int .i64 xe.m] 59 (0, 0))))
      go_wp2_with fail
      go_ret
      rw [F.out.2 [] (by rw [List.append_nil]; exact R4.out), List.append_nil]
      exact C4.out.done F.out.1
    · replace R4 := Lib.hid (show _ ∧ _ ∧ _ ∧ _ from R4.out.elim (fun h => by cases h.1) (fun h => h.2))
      have B4 : Below w4.heap.size w4 (w4.alloc (.cells #[.int .i64 xe.k, .slice D4 m4 cd4, .int .i64 xe.f, .int .i64 xe.m] 59 (0, 0))) := (Below.refl _ _).alloc (Nat.le_refl _) _
      have RX : RdF (fun i => Fo b q w q4 i ∧ (Value.slice none 0 0).ownBlock ≠ some i) w4 D4 xe.d := R4.out.2.2.2.mono fun i hi hf => ⟨⟨hf.1, hf.2.elim (C2.out.ps.own i) fun e => .inr (Nat.le_trans C2.out.ps.off.size e)⟩, fun e => hf.2.elim (C2.out.out.fr i e) fun e2 => absurd (C2.out.out.row.lt e).2 (Nat.not_lt.2 e2)⟩
      have CE := Lib.hid (C4.out.below B4)
      have EX := Lib.hid (EvX.new w4 xe.k D4 m4 cd4 xe.f xe.m)
      have RR := Lib.hid (RX.keep (.of_below B4))
      have Z4 := Lib.hid (show w4.heap.size < (w4.alloc (.cells #[.int .i64 xe.k, .slice D4 m4 cd4, .int .i64 xe.f, .int .i64 xe.m] 59 (0, 0))).heap.size by simp)
      clear B4 RX
      generalize hz : w4.heap.size = z at EX Z4 ⊢
      refine at_worldJ (fun X => Hid (TkC w b q (jgrow ({ j with mode := 1, data := [] } : Jn) pe (({ j with mode := 1, data := [] } : Jn).data ++ d)) q4 ol w.heap.size true pe pn A n c d (Value.slice none 0 0) [] X ∧ EvX X z xe.k D4 m4 cd4 xe.f xe.m ∧ RdF (fun i => Fo b q w q4 i ∧ (Value.slice none 0 0).ownBlock ≠ some i) X D4 xe.d)) (Lib.hid ⟨CE.out, EX.out, RR.out⟩) ?_
      clear CE EX RR Z4 C4 hz
      intro X C4
      have x0 := C4.out.2.1.c0; have x1 := C4.out.2.1.c1; have x2 := C4.out.2.1.c2; have x3 := C4.out.2.1.c3
      have LX := Lib.hid (C4.out.1.out.lit C4.out.1.pw C4.out.1.ps xe R4.out.2.1 R4.out.2.2.1 C4.out.2.2)
      replace C4 := Lib.hid C4.out.1
      go_wp2_with (at_builtin; refine list_rows shEv rfl _ _ 44 rfl 59 i0 (.agg #[.int .i64 0, .slice none 0 0, .int .i64 0, .int .i64 0]) 48 Tryd.underlying44 hi hz0 hz1 hz2 rfl (by decide) (Fo b q w q4) (fun i => Fo b q w q4 i ∧ (Value.slice none 0 0).ownBlock ≠ some i) w.heap.size (Value.slice none 0 0) 0 [] rfl (C4.out.below ((Below.refl _ _).alloc (Nat.le_refl _) _)).out.row rfl _ 1 1 [xe] rfl LX.out rfl (fun _ _ h => h) (by unfold maxLen; omega) (by omega) (Nat.le_trans C4.out.ps.off.size (by simp)) ?_; intro v8 w8 ho7 hg7 hm7; have C5 := Lib.hid ((C4.out.below ((Below.refl _ _).alloc (Nat.le_refl _) _)).app ho7 hg7 hm7); clear ho7 hg7 hm7)
      go_ret
      rw [F.out.2 [xe] R4.out.1]
      exact C5.out.done F.out.1
  · -- begins: true; mode 2
    have c0 : W.cell? ⟨b, 0, none⟩ = some (.int .i64 2) := by rw [C.out.pw.px.c0, hm]
    have p0 := C.out.pc.c0; have p1 := C.out.pc.c1; have p2 := C.out.pc.c2; have p3 := C.out.pc.c3
    have EK : K = { jgrow ({ j with next := x, told := [] } : Jn) pe ([] ++ d) with next := j.next } ∧ TT = (jgrow ({ j with next := x, told := [] } : Jn) pe ([] ++ d)).told := by
      have e1 : jthr { j with next := x } ⟨true, pe, pn, d⟩ = jgrow ({ j with next := x, told := [] } : Jn) pe ([] ++ d) := by
        have ht := HT.out
        unfold jthr
        rw [if_neg (by rintro ⟨h, _⟩; cases h), if_pos rfl]
        unfold jbad
        rw [if_neg (by simp [hm])]
        simp [ht]
      rw [hK.out, hTT.out, e1]
      exact ⟨rfl, rfl⟩
    replace EK := Lib.hid EK
    have HM := Lib.hid hm
    clear hm
    go_upto_region 9 with (first
      | (go_at_call 46; (with_reducible refine (pturn_any b _ _ ol 1 _ C.out.pw).mono ?_); rintro e w3 ⟨rfl, k1, k2, -⟩; have C2 := Lib.hid (C.out.call k1 k2 rfl rfl); clear k1 k2; have z0 := C2.out.pc.c0; have z1 := C2.out.pc.c1; have z2 := C2.out.pc.c2; have z3 := C2.out.pc.c3; dsimp only)
      | (go_at_call 47; (with_reducible refine (padd_one b _ _ ol _ pe pn d A n c _ C2.out.pw rfl (C2.out.rd.mono fun _ _ h => h.1) hn (Nat.zero_le _) h2).mono ?_); rintro e w4 ⟨q4, xe, D4, m4, cd4, ok, rfl, k1, k2, k3, k4, k5⟩; have C4 := Lib.hid (C2.out.call k1 k2 k3 k4); have R4 := Lib.hid k5; have S4 := Lib.hid k2; clear k1 k2 k3 k4 k5; dsimp only))
    have FN : ∃ u, K = { (jgrow ({ j with mode := 1, data := [] } : Jn) pe (({ j with mode := 1, data := [] } : Jn).data ++ d)) with told := u } := by
      rw [jgrow_md]
      rw [EK.out.1]
      exact jtk_a _ _ _ _ _
    have T1 : ∀ tt, (jgrow ({ j with mode := 1, data := [] } : Jn) pe (({ j with mode := 1, data := [] } : Jn).data ++ d)).told = j.told ++ tt → TT = [] ++ tt := fun tt ht => by
      rw [jgrow_md] at ht
      rw [EK.out.2]
      exact jtk_b HT.out ht
    have F := Lib.hid (And.intro FN T1)
    clear FN T1 EK
    cases ok
    · replace R4 := Lib.hid (R4.out.elim (fun h => h.2) (fun h => by cases h.1))
      replace C4 := Lib.hid (C4.out.below ((Below.refl _ _).alloc (Nat.le_refl _) (.cells #[.int .i64 xe.k, .slice D4 m4 cd4, .int .i64 xe.f, .int .i64 xe.m] 59 (0, 0))))
      go_wp2_with fail
      go_ret
      rw [F.out.2 [] (by rw [List.append_nil]; exact R4.out), List.append_nil]
      exact C4.out.done F.out.1
    · replace R4 := Lib.hid (show _ ∧ _ ∧ _ ∧ _ from R4.out.elim (fun h => by cases h.1) (fun h => h.2))
      have B4 : Below w4.heap.size w4 (w4.alloc (.cells #[.int .i64 xe.k, .slice D4 m4 cd4, .int .i64 xe.f, .int .i64 xe.m] 59 (0, 0))) := (Below.refl _ _).alloc (Nat.le_refl _) _
      have RX : RdF (fun i => Fo b q w q4 i ∧ (Value.slice none 0 0).ownBlock ≠ some i) w4 D4 xe.d := R4.out.2.2.2.mono fun i hi hf => ⟨⟨hf.1, hf.2.elim (C2.out.ps.own i) fun e => .inr (Nat.le_trans C2.out.ps.off.size e)⟩, fun e => hf.2.elim (C2.out.out.fr i e) fun e2 => absurd (C2.out.out.row.lt e).2 (Nat.not_lt.2 e2)⟩
      have CE := Lib.hid (C4.out.below B4)
      have EX := Lib.hid (EvX.new w4 xe.k D4 m4 cd4 xe.f xe.m)
      have RR := Lib.hid (RX.keep (.of_below B4))
      have Z4 := Lib.hid (show w4.heap.size < (w4.alloc (.cells #[.int .i64 xe.k, .slice D4 m4 cd4, .int .i64 xe.f, .int .i64 xe.m] 59 (0, 0))).heap.size by simp)
      clear B4 RX
      generalize hz : w4.heap.size = z at EX Z4 ⊢
      refine at_worldJ (fun X => Hid (TkC w b q (jgrow ({ j with mode := 1, data := [] } : Jn) pe (({ j with mode := 1, data := [] } : Jn).data ++ d)) q4 ol w.heap.size true pe pn A n c d (Value.slice none 0 0) [] X ∧ EvX X z xe.k D4 m4 cd4 xe.f xe.m ∧ RdF (fun i => Fo b q w q4 i ∧ (Value.slice none 0 0).ownBlock ≠ some i) X D4 xe.d)) (Lib.hid ⟨CE.out, EX.out, RR.out⟩) ?_
      clear CE EX RR Z4 C4 hz
      intro X C4
      have x0 := C4.out.2.1.c0; have x1 := C4.out.2.1.c1; have x2 := C4.out.2.1.c2; have x3 := C4.out.2.1.c3
      have LX := Lib.hid (C4.out.1.out.lit C4.out.1.pw C4.out.1.ps xe R4.out.2.1 R4.out.2.2.1 C4.out.2.2)
      replace C4 := Lib.hid C4.out.1
      go_wp2_with (at_builtin; refine list_rows shEv rfl _ _ 44 rfl 59 i0 (.agg #[.int .i64 0, .slice none 0 0, .int .i64 0, .int .i64 0]) 48 Tryd.underlying44 hi hz0 hz1 hz2 rfl (by decide) (Fo b q w q4) (fun i => Fo b q w q4 i ∧ (Value.slice none 0 0).ownBlock ≠ some i) w.heap.size (Value.slice none 0 0) 0 [] rfl (C4.out.below ((Below.refl _ _).alloc (Nat.le_refl _) _)).out.row rfl _ 1 1 [xe] rfl LX.out rfl (fun _ _ h => h) (by unfold maxLen; omega) (by omega) (Nat.le_trans C4.out.ps.off.size (by simp)) ?_; intro v8 w8 ho7 hg7 hm7; have C5 := Lib.hid ((C4.out.below ((Below.refl _ _).alloc (Nat.le_refl _) _)).app ho7 hg7 hm7); clear ho7 hg7 hm7)
      go_ret
      rw [F.out.2 [xe] R4.out.1]
      exact C5.out.done F.out.1
  · -- begins: false; mode 0
    have c0 : W.cell? ⟨b, 0, none⟩ = some (.int .i64 0) := by rw [C.out.pw.px.c0, hm]
    have p0 := C.out.pc.c0; have p1 := C.out.pc.c1; have p2 := C.out.pc.c2; have p3 := C.out.pc.c3
    have EK : K = { j with mode := 2, told := [⟨2, [], pn, 0⟩] } ∧ TT = [⟨2, [], pn, 0⟩] := by
      have e1 : jthr { j with next := x } ⟨false, pe, pn, d⟩ = { j with next := x, mode := 2, told := [⟨2, [], pn, 0⟩] } := by
        have ht := HT.out
        unfold jthr
        rw [if_pos ⟨rfl, by show j.mode ≠ 1; omega⟩]
        unfold jbad
        rw [if_pos (by simp [hm])]
        have hx : x.tmod (frmod j.sh : Int) = pn := HX.out
        simp [ht, hx]
      rw [hK.out, hTT.out, e1]
      exact ⟨rfl, rfl⟩
    replace EK := Lib.hid EK
    have HM := Lib.hid hm
    clear hm
    have LT := Lib.hid (show Rws shEv (fun i => Fo b q w q i ∧ (Value.slice none 0 0).ownBlock ≠ some i) (W.alloc (.cells #[.int .i64 2, .slice none 0 0, .int .i64 pn, .int .i64 0] 59)) (some ⟨W.heap.size, 0, none⟩) [⟨2, [], pn, 0⟩] from C.out.out.lit C.out.pw C.out.ps ⟨2, [], pn, 0⟩ (A := none) (n := 0) (c := 0) rfl (Nat.le_refl _) RdF.nil)
    go_upto_region 9 with (first
      | (at_builtin; refine list_rows shEv rfl _ _ 44 rfl 59 i0 (.agg #[.int .i64 0, .slice none 0 0, .int .i64 0, .int .i64 0]) 48 Tryd.underlying44 hi hz0 hz1 hz2 rfl (by decide) (Fo b q w q) (fun i => Fo b q w q i ∧ (Value.slice none 0 0).ownBlock ≠ some i) w.heap.size (Value.slice none 0 0) 0 [] rfl (C.out.below ((Below.refl _ _).alloc (Nat.le_refl _) _)).out.row rfl _ 1 1 [⟨2, [], pn, 0⟩] rfl LT.out rfl (fun _ _ h => h) (by unfold maxLen; omega) (by omega) (Nat.le_trans C.out.ps.off.size (by simp)) ?_; intro v7 w7 ho7 hg7 hm7; have C1 := Lib.hid ((C.out.below ((Below.refl _ _).alloc (Nat.le_refl _) _)).app ho7 hg7 hm7); clear ho7 hg7 hm7; have y0 := C1.out.pc.c0; have u0 := C1.out.pw.px.c0; rw [HM.out] at u0)
      | (go_at_call 46; (with_reducible refine (pturn_any b _ _ ol 2 _ C1.out.pw).mono ?_); rintro e w3 ⟨rfl, k1, k2, -⟩; have C2 := Lib.hid (C1.out.call k1 k2 rfl rfl); clear k1 k2; have z0 := C2.out.pc.c0; have z1 := C2.out.pc.c1; have z2 := C2.out.pc.c2; have z3 := C2.out.pc.c3; dsimp only)
      | (go_at_call 47; (with_reducible refine (padd_out b _ _ ol _ pe pn A n c _ C2.out.pw (show (2 : Int) ≠ 1 by decide)).mono ?_); rintro e w4 ⟨rfl, k1⟩; have C4 := Lib.hid (C2.out.below k1); clear k1; dsimp only))
    replace C4 := Lib.hid (C4.out.below ((Below.refl _ _).alloc (Nat.le_refl _) (.cells #[.int .i64 0, .slice none 0 0, .int .i64 0, .int .i64 0] 59 (0, 0))))
    go_wp2_with fail
    go_ret
    rw [EK.out.1, EK.out.2]
    exact C4.out.done ⟨_, by rw [HD.out (by rw [HM.out]; decide)]⟩
  · -- begins: false; mode 1
    have c0 : W.cell? ⟨b, 0, none⟩ = some (.int .i64 1) := by rw [C.out.pw.px.c0, hm]
    have p0 := C.out.pc.c0; have p1 := C.out.pc.c1; have p2 := C.out.pc.c2; have p3 := C.out.pc.c3
    have EK : K = { jgrow ({ j with next := x, told := [] } : Jn) pe (j.data ++ d) with next := j.next } ∧ TT = (jgrow ({ j with next := x, told := [] } : Jn) pe (j.data ++ d)).told := by
      have e1 : jthr { j with next := x } ⟨false, pe, pn, d⟩ = jgrow ({ j with next := x, told := [] } : Jn) pe (j.data ++ d) := by
        have ht := HT.out
        unfold jthr
        rw [if_neg (by rintro ⟨_, h⟩; exact h hm), if_neg Bool.false_ne_true]
        unfold jbad
        rw [if_neg (by simp [hm])]
        simp [ht]
      rw [hK.out, hTT.out, e1]
      exact ⟨rfl, rfl⟩
    replace EK := Lib.hid EK
    have HM := Lib.hid hm
    clear hm
    go_upto_region 9 with (first
      | (go_at_call 47; (with_reducible refine (padd_one b _ _ ol _ pe pn d A n c _ C.out.pw HM.out (C.out.rd.mono fun _ _ h => h.1) hn h1 h2).mono ?_); rintro e w4 ⟨q4, xe, D4, m4, cd4, ok, rfl, k1, k2, k3, k4, k5⟩; have C4 := Lib.hid (C.out.call k1 k2 k3 k4); have R4 := Lib.hid k5; have S4 := Lib.hid k2; clear k1 k2 k3 k4 k5; dsimp only))
    have FN : ∃ u, K = { (jgrow (j : Jn) pe ((j : Jn).data ++ d)) with told := u } := by
      rw [EK.out.1]
      exact jtk_a _ _ _ _ _
    have T1 : ∀ tt, (jgrow (j : Jn) pe ((j : Jn).data ++ d)).told = j.told ++ tt → TT = [] ++ tt := fun tt ht => by
      rw [EK.out.2]
      exact jtk_b HT.out ht
    have F := Lib.hid (And.intro FN T1)
    clear FN T1 EK
    cases ok
    · replace R4 := Lib.hid (R4.out.elim (fun h => h.2) (fun h => by cases h.1))
      replace C4 := Lib.hid (C4.out.below ((Below.refl _ _).alloc (Nat.le_refl _) (.cells #[.int .i64 xe.k, .slice D4 m4 cd4, .int .i64 xe.f, .int .i64 xe.m] 59 (0, 0))))
      go_wp2_with fail
      go_ret
      rw [F.out.2 [] (by rw [List.append_nil]; exact R4.out), List.append_nil]
      exact C4.out.done F.out.1
    · replace R4 := Lib.hid (show _ ∧ _ ∧ _ ∧ _ from R4.out.elim (fun h => by cases h.1) (fun h => h.2))
      have B4 : Below w4.heap.size w4 (w4.alloc (.cells #[.int .i64 xe.k, .slice D4 m4 cd4, .int .i64 xe.f, .int .i64 xe.m] 59 (0, 0))) := (Below.refl _ _).alloc (Nat.le_refl _) _
      have RX : RdF (fun i => Fo b q w q4 i ∧ (Value.slice none 0 0).ownBlock ≠ some i) w4 D4 xe.d := R4.out.2.2.2.mono fun i hi hf => ⟨⟨hf.1, hf.2.elim (C.out.ps.own i) fun e => .inr (Nat.le_trans C.out.ps.off.size e)⟩, fun e => hf.2.elim (C.out.out.fr i e) fun e2 => absurd (C.out.out.row.lt e).2 (Nat.not_lt.2 e2)⟩
      have CE := Lib.hid (C4.out.below B4)
      have EX := Lib.hid (EvX.new w4 xe.k D4 m4 cd4 xe.f xe.m)
      have RR := Lib.hid (RX.keep (.of_below B4))
      have Z4 := Lib.hid (show w4.heap.size < (w4.alloc (.cells #[.int .i64 xe.k, .slice D4 m4 cd4, .int .i64 xe.f, .int .i64 xe.m] 59 (0, 0))).heap.size by simp)
      clear B4 RX
      generalize hz : w4.heap.size = z at EX Z4 ⊢
      refine at_worldJ (fun X => Hid (TkC w b q (jgrow (j : Jn) pe ((j : Jn).data ++ d)) q4 ol w.heap.size false pe pn A n c d (Value.slice none 0 0) [] X ∧ EvX X z xe.k D4 m4 cd4 xe.f xe.m ∧ RdF (fun i => Fo b q w q4 i ∧ (Value.slice none 0 0).ownBlock ≠ some i) X D4 xe.d)) (Lib.hid ⟨CE.out, EX.out, RR.out⟩) ?_
      clear CE EX RR Z4 C4 hz
      intro X C4
      have x0 := C4.out.2.1.c0; have x1 := C4.out.2.1.c1; have x2 := C4.out.2.1.c2; have x3 := C4.out.2.1.c3
      have LX := Lib.hid (C4.out.1.out.lit C4.out.1.pw C4.out.1.ps xe R4.out.2.1 R4.out.2.2.1 C4.out.2.2)
      replace C4 := Lib.hid C4.out.1
      go_wp2_with (at_builtin; refine list_rows shEv rfl _ _ 44 rfl 59 i0 (.agg #[.int .i64 0, .slice none 0 0, .int .i64 0, .int .i64 0]) 48 Tryd.underlying44 hi hz0 hz1 hz2 rfl (by decide) (Fo b q w q4) (fun i => Fo b q w q4 i ∧ (Value.slice none 0 0).ownBlock ≠ some i) w.heap.size (Value.slice none 0 0) 0 [] rfl (C4.out.below ((Below.refl _ _).alloc (Nat.le_refl _) _)).out.row rfl _ 1 1 [xe] rfl LX.out rfl (fun _ _ h => h) (by unfold maxLen; omega) (by omega) (Nat.le_trans C4.out.ps.off.size (by simp)) ?_; intro v8 w8 ho7 hg7 hm7; have C5 := Lib.hid ((C4.out.below ((Below.refl _ _).alloc (Nat.le_refl _) _)).app ho7 hg7 hm7); clear ho7 hg7 hm7)
      go_ret
      rw [F.out.2 [xe] R4.out.1]
      exact C5.out.done F.out.1
  · -- begins: false; mode 2
    have c0 : W.cell? ⟨b, 0, none⟩ = some (.int .i64 2) := by rw [C.out.pw.px.c0, hm]
    have p0 := C.out.pc.c0; have p1 := C.out.pc.c1; have p2 := C.out.pc.c2; have p3 := C.out.pc.c3
    have EK : K = { j with mode := 2, told := [] } ∧ TT = [] := by
      have e1 : jthr { j with next := x } ⟨false, pe, pn, d⟩ = { j with next := x, mode := 2, told := [] } := by
        have ht := HT.out
        unfold jthr
        rw [if_pos ⟨rfl, by show j.mode ≠ 1; omega⟩]
        unfold jbad
        rw [if_neg (by simp [hm])]
        simp [ht]
      rw [hK.out, hTT.out, e1]
      exact ⟨rfl, rfl⟩
    replace EK := Lib.hid EK
    have HM := Lib.hid hm
    clear hm
    go_upto_region 9 with (first
      | (go_at_call 47; (with_reducible refine (padd_out b _ _ ol _ pe pn A n c _ C.out.pw (by rw [HM.out]; decide)).mono ?_); rintro e w4 ⟨rfl, k1⟩; have C4 := Lib.hid (C.out.below k1); clear k1; dsimp only))
    replace C4 := Lib.hid (C4.out.below ((Below.refl _ _).alloc (Nat.le_refl _) (.cells #[.int .i64 0, .slice none 0 0, .int .i64 0, .int .i64 0] 59 (0, 0))))
    go_wp2_with fail
    go_ret
    rw [EK.out.1, EK.out.2]
    exact C4.out.done ⟨_, by rw [← HM.out]⟩
end Go.Proofs.YtamdaepeogmboaaDoor
