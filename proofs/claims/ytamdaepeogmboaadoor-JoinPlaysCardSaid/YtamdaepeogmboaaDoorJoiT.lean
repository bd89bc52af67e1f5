
/-
  What the document's through answers: a piece is gone through. Condition: sizes below 2^30.
-/
import Derived.Test.YtamdaepeogmboaaDoorJoiL
import Derived.Test.YtamdaepeogmboaaDoorAppn
namespace Go.Proofs.YtamdaepeogmboaaDoor
open Go.RowKit

theorem JC.push_rd {G F : Nat → Prop} {k r B : Nat} {w W w' : World} {q0 : Jp} {jb : Jn} {qb : Jp} {j : Jn} {q : Jp} {v' : Value} {A : Option Addr} {l : List Nat} (_ : JC G F k r B w W q0 jb qb j q) (hg : W.grownBy w' q.tv.ownBlock) (hm : Mv W.heap.size q.tv v') (hr : RdF (fun b => F b ∧ q.tv.ownBlock ≠ some b) W A l) : RdF (fun b => F b ∧ v'.ownBlock ≠ some b) w' A l :=
  ((hr.mono (G := fun b => (F b ∧ q.tv.ownBlock ≠ some b) ∧ b < W.heap.size) fun _ hb hf => ⟨hf, hb⟩).keep (.of_grown hg fun _ hb => hb.1.2)).mono fun b _ hb => ⟨hb.1.1, fun e => by
    rcases hm b e with h | h
    · exact hb.1.2 h
    · exact absurd hb.2 (Nat.not_lt.2 h)⟩

/-- What through knows: the joiner, the piece's box, its data. -/
structure JT (G F : Nat → Prop) (B : Nat) (w W : World) (q0 : Jp) (p : Pc) (A : Option Addr) (n c : Nat) (jb : Jn) (qb : Jp) (j : Jn) (q : Jp) : Prop where
  jc : JC G F 3 2 B w W q0 jb qb j q
  pc : FrX W (w.heap.size + 1) 37 p.b p.e p.n A n c
  pd : RdF (fun b => F b ∧ q.tv.ownBlock ≠ some b) W A p.d
section
variable {G F : Nat → Prop} {B : Nat} {w W W' : World} {q0 : Jp} {p : Pc} {A : Option Addr} {n c : Nat} {jb : Jn} {qb : Jp} {j : Jn} {q : Jp}
theorem JT.step (h : JT G F B w W q0 p A n c jb qb j q) (hb : Below W.heap.size W W') : JT G F B w W' q0 p A n c jb qb j q := ⟨h.jc.step hb, h.pc.on hb, h.pd.keep (.of_below hb)⟩
theorem JT.al (h : JT G F B w W q0 p A n c jb qb j q) (o : Obj) : JT G F B w (W.alloc o) q0 p A n c jb qb j q := h.step ((Below.refl _ _).alloc (Nat.le_refl _) o)
theorem JT.drew (h : JT G F B w W q0 p A n c jb qb j q) : JT G F B w W.drew q0 p A n c jb qb j q := h.step (Below.refl _ _).drew
theorem JT.pcs (h : JT G F B w W q0 p A n c jb qb j q) (o : Nat) (u : Value) : FrX (W.setCell ⟨w.heap.size, o, none⟩ u) (w.heap.size + 1) 37 p.b p.e p.n A n c :=
  (Below.heap_setCell _ _ _ _ (by intro e; have e' : w.heap.size + 1 = w.heap.size := e; omega)).trans h.pc
theorem JT.pds (h : JT G F B w W q0 p A n c jb qb j q) (o : Nat) (u : Value) : RdF (fun b => F b ∧ q.tv.ownBlock ≠ some b) (W.setCell ⟨w.heap.size, o, none⟩ u) A p.d :=
  h.pd.keep (.of_offs (Offs.set (X := fun b => b = w.heap.size) W _ o _ rfl) fun b hb e => by subst e; exact h.jc.av 0 (by omega) hb.1)
theorem JT.s6 (h : JT G F B w W q0 p A n c jb qb j q) (u : Int) : JT G F B w (W.setCell ⟨w.heap.size, 6, none⟩ (.int .i64 u)) q0 p A n c { jb with mode := u } qb { j with mode := u } q := ⟨h.jc.s6 (by omega) (by omega) u, h.pcs _ _, h.pds _ _⟩
theorem JT.s7 (h : JT G F B w W q0 p A n c jb qb j q) (D : Option Addr) (m d : Nat) (l : List Nat) (h1 : l.length = m) (h2 : m ≤ d) (h3 : RdF (fun b => F b ∧ q.tv.ownBlock ≠ some b) W D l) : JT G F B w (W.setCell ⟨w.heap.size, 7, none⟩ (.slice D m d)) q0 p A n c { jb with data := l } { qb with da := D, dn := m, dc := d } { j with data := l } { q with da := D, dn := m, dc := d } := ⟨h.jc.s7 (by omega) (by omega) D m d l h1 h2 h3, h.pcs _ _, h.pds _ _⟩
theorem JT.s7n (h : JT G F B w W q0 p A n c jb qb j q) : JT G F B w (W.setCell ⟨w.heap.size, 7, none⟩ (.slice none 0 0)) q0 p A n c { jb with data := [] } { qb with da := none, dn := 0, dc := 0 } { j with data := [] } { q with da := none, dn := 0, dc := 0 } := h.s7 none 0 0 [] rfl (Nat.le_refl _) RdF.nil
theorem JT.push (h : JT G F B w W q0 p A n c jb qb j q) {v' : Value} {w' : World} {x : Ev} (ho : Orw shEv 76 F B w' v' (j.told ++ [x])) (hg : W.grownBy w' q.tv.ownBlock) (hm : Mv W.heap.size q.tv v') :
    ∃ A' c', v' = .slice A' (q.tn + 1) c' ∧ JT G F B w w' q0 p A n c jb qb { j with told := j.told ++ [x] } { q with ta := A', tn := q.tn + 1, tc := c' } := by
  obtain ⟨A', c', hv, h1⟩ := h.jc.push ho hg hm (by omega) (by omega)
  have h2 := h.jc.push_rd hg hm h.pd
  subst hv
  have hO : Offs (fun b => q.tv.ownBlock = some b) W w' := .of_grown hg fun _ h => h
  exact ⟨A', c', rfl, h1, (hO.block _ h.pc.lt (h.jc.ne (i := 1) (by omega))).trans h.pc, h2⟩
theorem JT.s8 {l : List Ev} {D : Option Addr} {m d : Nat} (h : JT G F B w W q0 p A n c jb qb { j with told := l } { q with ta := D, tn := m, tc := d }) : JT G F B w (W.setCell ⟨w.heap.size, 8, none⟩ (.slice D m d)) q0 p A n c { jb with told := l } { qb with ta := D, tn := m, tc := d } { j with told := l } { q with ta := D, tn := m, tc := d } := ⟨h.jc.s8 (by omega) (by omega), h.pcs _ _, h.pds _ _⟩
theorem JT.lit (h : JT G F B w W q0 p A n c jb qb j q) {T : TypeId} {x : Ev} {D : Option Addr} {m d : Nat} (hl : x.d.length = m) (hc : m ≤ d) (hr : RdF (fun b => F b ∧ q.tv.ownBlock ≠ some b) W D x.d) : Rws shEv (fun b => F b ∧ q.tv.ownBlock ≠ some b) (W.alloc (.cells #[.int .i64 x.k, .slice D m d, .int .i64 x.f, .int .i64 x.m] T)) (some ⟨W.heap.size, 0, none⟩) [x] := h.jc.litv hl hc hr
end
theorem own_newJ (w : World) : (w.alloc (.cells #[] 5)).ownsRow w.heap.size 5 1 (.slice (some ⟨w.heap.size, 0, none⟩) 0 0) 0 (bvs []) :=
  World.ownsRow_lit (base := w.heap.size) (e := 5) (size := 1) w #[] 0 (Nat.le_refl _) (by unfold maxLen; omega) rfl

set_option maxHeartbeats 8000000 in
theorem jthr_any (j : Jn) (q : Jp) (p : Pc) (A : Option Addr) (n c : Nat) (G : Nat → Prop) (B : Nat) (w : World) (h : Jw G B w j q) (hp : RdF (fun b => G b ∧ q.tv.ownBlock ≠ some b) w A p.d) (hn : p.d.length = n) (hB : B ≤ w.heap.size) (ht : q.tn ≤ 1073741824) (hd : q.dn ≤ 1073741824) (hn2 : n ≤ 1073741824) (hmo : j.mode = 0 ∨ j.mode = 1 ∨ j.mode = 2) :
    Calls Tryd.prog 38 #[j.val q, fV p.b p.e p.n A n c] w (JA G B w q (jthr j p)) := by
  obtain ⟨i0, hi, hz0, hz1, hz2⟩ := info_parts rev_info
  obtain ⟨u0, ui, uz0, uz1, uz2⟩ := info_parts byte_info
  have HN := Lib.hid hn
  have HN2 := Lib.hid hn2
  have HT := Lib.hid (show j.told.length ≤ 1073741824 by rw [h.t1]; exact ht)
  have HDD := Lib.hid (show j.data.length ≤ 1073741824 by rw [h.d1]; exact hd)
  have HB := Lib.hid hB
  obtain ⟨M, hM⟩ : ∃ M, Hid (frmod j.sh = M) := ⟨_, Lib.hid rfl⟩
  have hmod := fun W => jmod_any j.sh W
  rw [hM.out] at hmod
  have m0 : ¬ M = 0 := by rw [← hM.out]; exact Nat.pos_iff_ne_zero.1 (frmod_pos _)
  obtain ⟨rm, hrm⟩ : ∃ rm, Hid (j.next.tmod (M : Int) = rm) := ⟨_, Lib.hid rfl⟩
  have d2 := hrm.out
  obtain ⟨W1, hW1⟩ : ∃ W1, W1 = ((w.alloc (j.obj q)).alloc (.cells #[.bool p.b, .bool p.e, .int .i64 p.n, .slice A n c] 37)).alloc (jn0.obj jp0) := ⟨_, rfl⟩
  have hb1 : Below w.heap.size w W1 := by rw [hW1]; exact (((Below.refl _ _).alloc (Nat.le_refl _) _).alloc (by simp) _).alloc (by simp only [World.size_alloc]; omega) _
  obtain ⟨F, C⟩ := (show ∃ F, JT G F B w W1 q p A n c j q j q from ⟨_, JC.start h hb1 (by rw [hW1]; exact ((Jx.new _ _ _).on ((Below.refl _ _).alloc (Nat.le_refl _) _)).on ((Below.refl _ _).alloc (Nat.le_refl _) _)) (by rw [hW1]; have := Jx.new ((w.alloc (j.obj q)).alloc (.cells #[.bool p.b, .bool p.e, .int .i64 p.n, .slice A n c] 37)) jn0 jp0; simpa using this) (by rw [hW1]; simp),
    (by rw [hW1]; have := (FrX.new (w.alloc (j.obj q)) 37 p.b p.e p.n A n c).on ((Below.refl _ _).alloc (Nat.le_refl _) (jn0.obj jp0)); simpa using this),
    (hp.mono (G := fun b => ((b < w.heap.size ∧ G b) ∨ w.heap.size + 3 ≤ b) ∧ q.tv.ownBlock ≠ some b) fun _ hb hf => ⟨.inl ⟨hb, hf.1⟩, hf.2⟩).keep (.of_below hb1)⟩)
  replace C := Lib.hid C
  rw [hW1] at C
  obtain ⟨x2, hx2⟩ : ∃ x, Hid ((⟨2, [], rm, 0⟩ : Ev) = x) := ⟨_, Lib.hid rfl⟩
  obtain ⟨x3, hx3⟩ : ∃ x, Hid ((⟨3, [], 0, 0⟩ : Ev) = x) := ⟨_, Lib.hid rfl⟩
  have HMO := Lib.hid hmo
  clear h hp hn hn2 ht hd hB hmo hb1 hW1 W1
  go_enter Tryd.func38, Tryd.ntmps38
  go_upto_region 1 with fail
  refine at_worldJ (fun W => Hid (JT G F B w W q p A n c j q j q)) C ?_
  clear C
  rintro W C
  have y0 := C.out.jc.box.c0
  have y5 := C.out.jc.box.c5
  go_region_held3 (fun W' => W'.cell? ⟨w.heap.size, 5, none⟩ = some (.int .i64 j.next) ∧ W'.cell? ⟨w.heap.size, 0, none⟩ = some (.bool j.sh)) (first | with_reducible exact ⟨y5, y0⟩ | with_reducible exact ⟨C.out.drew.jc.box.c5, C.out.drew.jc.box.c0⟩) (first | (go_at_call 26; (with_reducible refine (hmod _).mono ?_); rintro r w3 ⟨rfl, rfl⟩; dsimp only))
  refine at_worldJ (fun W => Hid (JT G F B w W q p A n c j q j q)) (by first | exact C | exact Lib.hid C.out.drew) ?_
  clear C y0 y5 m0 d2 hmod
  rintro W C
  have WAYS : (p.b = true ∧ j.mode = 1) ∨ (p.b = true ∧ j.mode ≠ 1) ∨ (p.b = false ∧ j.mode = 1) ∨ (p.b = false ∧ j.mode = 0) ∨ (p.b = false ∧ j.mode = 2) := by
    rcases HMO.out with h | h | h <;> cases p.b <;> simp [h]
  rcases WAYS with hway | hway | hway | hway | hway
  · -- b1 m1
    obtain ⟨hb0, hm0⟩ := hway
    have HJB := Lib.hid (show jbad j p = { j with told := j.told ++ [x2] } by unfold jbad; rw [if_pos (.inl ⟨hb0, hm0⟩)]; rw [← hx2.out, ← hrm.out, ← hM.out])
    have p0 := C.out.pc.c0
    have y6 := C.out.jc.box.c6
    rw [hb0] at p0
    rw [hm0] at y6
    have HB0 := Lib.hid hb0
    have HM9 := Lib.hid hm0
    clear hb0 hm0
    have HTJ := HT
    have y8 := C.out.jc.box.c8
    have f8 := C.out.jc.box.fz 8
    go_upto_region 3 with fail
    have HTN := Lib.hid (show _ ≤ 1073741825 from Nat.le_trans (Nat.le_of_eq C.out.jc.jw.t1.symm) (Nat.le_trans HTJ.out (by decide)))
    go_upto_region 4 with (at_builtin; go_loud (refine list_rows shEv rfl _ _ _ rfl 76 i0 (.agg #[.int .i64 0, .slice none 0 0, .int .i64 0, .int .i64 0]) 48 Tryd.underlying31 hi hz0 hz1 hz2 rfl (by decide) F _ B _ _ _ rfl (C.out.al _).jc.jw.ot C.out.jc.jw.t1 _ 1 1 [x2] rfl (by rw [← hx2.out]; exact C.out.lit (x := ⟨2, [], rm, 0⟩) rfl (Nat.le_refl _) RdF.nil) rfl (fun b _ hb => hb) (by unfold maxLen; have := HTN.out; omega) (by have := HTN.out; omega) (Nat.le_trans HB.out (C.out.al _).jc.off.size) ?_); intro v7 w7 ho7 hg7 hm7; obtain ⟨A7, c7, hv, Q⟩ := (C.out.al _).push ho7 hg7 hm7; subst hv; have D := Lib.hid Q; clear Q ho7 hg7 hm7; clear y8 f8; have y8 := D.out.jc.box.c8; have f8 := D.out.jc.box.fz 8)
    refine at_worldJ (fun W => ∃ q1, Hid (JT G F B w W q p A n c { j with told := j.told ++ [x2] } q1 { j with told := j.told ++ [x2] } q1)) ⟨_, Lib.hid D.out.s8⟩ ?_
    clear C D p0 y6 y8 f8 HTJ
    rintro W ⟨q1, C⟩
    obtain ⟨j1, hj1⟩ : ∃ j1, Hid ({ j with told := j.told ++ [x2] } = j1) := ⟨_, Lib.hid rfl⟩
    rw [hj1.out] at C HJB
    have HTJ := Lib.hid (show j1.told.length ≤ 1073741825 by rw [← hj1.out]; show (j.told ++ [x2]).length ≤ _; rw [List.length_append]; exact Nat.succ_le_succ HT.out)
    have HMJ := Lib.hid (show j1.mode = j.mode by rw [← hj1.out])
    have HDJ := Lib.hid (show j1.data = j.data by rw [← hj1.out])
    clear hj1
    have p0 := C.out.pc.c0
    have y6 := C.out.jc.box.c6
    have f6 := C.out.jc.box.fz 6
    rw [HB0.out] at p0
    rw [HMJ.out] at y6
    rw [HM9.out] at y6
    have HTHR := Lib.hid (show jthr j p = jgrow j1 p.e p.d by unfold jthr; rw [if_neg (by rw [HB0.out]; rintro ⟨h, _⟩; cases h), HJB.out, if_pos HB0.out]; rfl)
    have y7 := C.out.jc.box.c7
    have f7 := C.out.jc.box.fz 7
    go_upto_region 10 with fail
    refine at_worldJ (fun W => ∃ q2, Hid (JT G F B w W q p A n c { j1 with data := [], mode := 1 } q2 { j1 with data := [], mode := 1 } q2)) ⟨_, Lib.hid (C.out.s7n.s6 1)⟩ ?_
    clear C p0 y6 f6 y7 f7
    rintro W ⟨q2, C⟩
    obtain ⟨d0, hd0⟩ : ∃ d0 : List Nat, Hid ([] = d0) := ⟨_, Lib.hid rfl⟩
    rw [hd0.out] at C
    replace HTHR := Lib.hid (show jthr j p = jgrow j1 p.e (d0 ++ p.d) by rw [HTHR.out, ← hd0.out]; rfl)
    have HD0 := Lib.hid (show d0.length ≤ 1073741824 by rw [← hd0.out]; exact Nat.zero_le _)
    obtain ⟨m, hm⟩ : ∃ m, Hid (q2.dn = m) := ⟨_, Lib.hid rfl⟩
    have HM0 := Lib.hid (show d0.length = m by rw [← hm.out]; exact C.out.jc.jw.d1)
    obtain ⟨u, hu⟩ : ∃ u, m + n = u := ⟨_, rfl⟩
    have HU := Lib.hid (show (d0 ++ p.d).length = u by rw [List.length_append, HM0.out, HN.out]; exact hu)
    go_cut [] from 50 to 57 (fun wx => ∃ q3, Hid (JT G F B w wx q p A n c { j1 with data := d0 ++ p.d, mode := 1 } q3 { j1 with data := d0 ++ p.d, mode := 1 } q3) ∧ Hid (q3.dn = u))
    case first =>
      refine wp_region_held_drew (S := (fun W' => W'.cell? ⟨w.heap.size + 1, 3, none⟩ = some (.slice A n c))) (by kernel_rfl) (by exact C.out.pc.c3) (fun _ => ?_)
      refine at_worldJ (fun W => Hid (JT G F B w W q p A n c { j1 with data := d0, mode := 1 } q2 { j1 with data := d0, mode := 1 } q2)) (Lib.hid C.out.drew) ?_
      clear C
      rintro Wd C
      refine wpAnyH_take (i := 1) (oi := ?ota1) (v := ?vta1) ?hita1 (by kernel_rfl) (by kernel_rfl) (by kernel_rfl) ?hqta1 (Or.inl ⟨?hwta1, ?hyta1⟩) (by exact C.out.pc.c3) ?restta1
      case hita1 => (simp only [List.getElem?_toArray, List.getElem?_cons_succ, List.getElem?_cons_zero]; rfl)
      case hwta1 => (rfl)
      case hqta1 => (exact fun _ _ _ h => h)
      case hyta1 => (intro w' hSw; have s3 := hSw; go_simp; (try with_reducible rfl))
      try simp only [Act.put, List.setIfInBounds_toArray, List.set_cons_zero, List.set_cons_succ]
      refine wpAnyH_take (i := 4) (oi := ?ota2) (v := ?vta2) ?hita2 (by kernel_rfl) (by kernel_rfl) (by kernel_rfl) ?hqta2 (Or.inl ⟨?hwta2, ?hyta2⟩) (by exact C.out.pc.c3) ?restta2
      case hita2 => (simp only [List.getElem?_toArray, List.getElem?_cons_succ, List.getElem?_cons_zero]; rfl)
      case hwta2 => (rfl)
      case hqta2 => (exact fun _ _ _ h => h)
      case hyta2 => (intro w' hSw; have s3 := hSw; go_simp; (try with_reducible rfl))
      try simp only [Act.put, List.setIfInBounds_toArray, List.set_cons_zero, List.set_cons_succ]
      refine wpAnyH_take (i := 5) (oi := ?ota3) (v := ?vta3) ?hita3 (by kernel_rfl) (by kernel_rfl) (by kernel_rfl) ?hqta3 (Or.inl ⟨?hwta3, ?hyta3⟩) (by exact C.out.pc.c3) ?restta3
      case hita3 => (simp only [List.getElem?_toArray, List.getElem?_cons_succ, List.getElem?_cons_zero]; rfl)
      case hwta3 => (rfl)
      case hqta3 => (exact fun _ _ _ h => h)
      case hyta3 => (intro w' hSw; have s3 := hSw; go_simp; (try with_reducible rfl))
      try simp only [Act.put, List.setIfInBounds_toArray, List.set_cons_zero, List.set_cons_succ]
      refine wpAnyH_ready (rs := [0, 2]) (by kernel_rfl) (by simp) ?_
      refine (AllReadyH.cons (o := ?ota5) ?hita5 (fun K hK => ?stta5) (AllReadyH.cons (o := ?ota4) ?hita4 (fun K hK => ?stta4) AllReadyH.nil))
      case hita5 => (simp only [List.getElem?_toArray, List.getElem?_cons_zero]; rfl)
      case hita4 => (simp only [List.getElem?_toArray, List.getElem?_cons_succ, List.getElem?_cons_zero]; rfl)
      case stta5 =>
        go_simp
        refine hK.out _ _ (by exact (C.out.al _).pc.c3) (fun _ => ?_)
        clear hK K
        try simp only [Act.put, List.setIfInBounds_toArray, List.set_cons_zero, List.set_cons_succ]
        obtain ⟨z, hz⟩ : ∃ z, Wd.heap.size = z := ⟨_, rfl⟩
        have BR0 := Lib.hid ((Below.refl Wd.heap.size Wd).alloc (Nat.le_refl _) (.cells #[] 5))
        have OW0 := Lib.hid (own_newJ Wd)
        rw [hz] at OW0 BR0
        rw [hz]
        refine at_worldJ (fun W => Hid (Below z Wd W) ∧ Hid (W.ownsRow z 5 1 (.slice (some ⟨z, 0, none⟩) 0 0) 0 (bvs []))) ⟨BR0, OW0⟩ ?_
        clear BR0 OW0
        rintro W ⟨BR, OW⟩
        rw [← hz] at BR
        refine wpAnyH_ready (rs := [2]) (by kernel_rfl) (by simp) ?_
        refine (AllReadyH.cons (o := ?ota6) ?hita6 (fun K hK => ?stta6) AllReadyH.nil)
        case hita6 => (simp only [List.getElem?_toArray, List.getElem?_cons_succ, List.getElem?_cons_zero]; rfl)
        case stta6 =>
          have x9 := (C.out.step BR.out).jc.box.c7
          rw [hm.out] at x9
          go_simp
          refine hK.out _ _ (by exact (C.out.step BR.out).pc.c3) (fun _ => ?_)
          clear hK K
          try simp only [Act.put, List.setIfInBounds_toArray, List.set_cons_zero, List.set_cons_succ]
          clear x9
          refine wpAnyH_ready (rs := [3]) (by kernel_rfl) (by simp) ?_
          refine (AllReadyH.cons (o := ?ota7) ?hita7 (fun K hK => ?stta7) AllReadyH.nil)
          case hita7 => (simp only [List.getElem?_toArray, List.getElem?_cons_succ, List.getElem?_cons_zero]; rfl)
          case stta7 =>
            refine step_app _ (by rfl) _ _ _ (by rfl) _ u0 Tryd.underlying30 ui uz0 uz1 uz2 z _ 0 [] (by rfl) OW.out _ _ m _ d0 (by rfl) ((C.out.step BR.out).jc.jw.rd).rd HM0.out (by have := HD0.out; have := HM0.out; omega) (by have := BR.out.size; omega) ?_
            intro A8 c8 w8 ho8 hg8
            rw [Nat.zero_add] at ho8 ⊢
            have BR' := Lib.hid (app_below BR.out (by omega) OW.out hg8)
            refine hK.out _ _ (by exact (C.out.step BR'.out).pc.c3) (fun _ => ?_)
            clear hK K
            try simp only [Act.put, List.setIfInBounds_toArray, List.set_cons_zero, List.set_cons_succ]
            replace BR := BR'
            clear OW BR'
            have OW := Lib.hid ho8
            clear ho8 hg8
            refine wpAnyH_ready (rs := [6]) (by kernel_rfl) (by simp) ?_
            refine (AllReadyH.cons (o := ?ota8) ?hita8 (fun K hK => ?stta8) AllReadyH.nil)
            case hita8 => (simp only [List.getElem?_toArray, List.getElem?_cons_succ, List.getElem?_cons_zero]; rfl)
            case stta8 =>
              refine step_app _ (by rfl) _ _ _ (by rfl) _ u0 Tryd.underlying30 ui uz0 uz1 uz2 z _ m d0 (by rfl) OW.out _ _ n _ p.d (by rfl) ((C.out.step BR.out).pd).rd HN.out (by have := HD0.out; have := HM0.out; have := HN2.out; omega) (by have := BR.out.size; omega) ?_
              intro A9 c9 w9 ho9 hg9
              rw [hu] at ho9 ⊢
              have BR' := Lib.hid (app_below BR.out (by omega) OW.out hg9)
              refine hK.out _ _ (by exact (C.out.step BR'.out).pc.c3) (fun _ => ?_)
              clear hK K
              try simp only [Act.put, List.setIfInBounds_toArray, List.set_cons_zero, List.set_cons_succ]
              replace BR := BR'
              clear OW BR'
              have OW := Lib.hid ho9
              clear ho9 hg9
              have RN := Lib.hid (show RdF (fun b => F b ∧ q2.tv.ownBlock ≠ some b) w9 A9 (d0 ++ p.d) from (RdF.own OW.out).mono fun b _ hb => C.out.jc.fresh b (by omega))
              have KN := Lib.hid (own_cap OW.out)
              have C3 := Lib.hid ((C.out.step BR.out).s7 A9 u c9 (d0 ++ p.d) HU.out KN.out RN.out)
              refine wpAnyH_take (i := 7) (oi := ?ota9) (v := ?vta9) ?hita9 (by kernel_rfl) (by kernel_rfl) (by kernel_rfl) ?hqta9 (Or.inl ⟨?hwta9, ?hyta9⟩) (by exact (C.out.step BR.out).pc.c3) ?restta9
              case hita9 => (simp only [List.getElem?_toArray, List.getElem?_cons_succ, List.getElem?_cons_zero]; rfl)
              case hwta9 => (rfl)
              case hqta9 => (exact fun _ _ _ h => h)
              case hyta9 => (intro w' hSw; have s3 := hSw; go_simp; (try with_reducible rfl))
              try simp only [Act.put, List.setIfInBounds_toArray, List.set_cons_zero, List.set_cons_succ]
              refine wpAnyH_ready (rs := [8]) (by kernel_rfl) (by simp) ?_
              refine (AllReadyH.cons (o := ?ota10) ?hita10 (fun K hK => ?stta10) AllReadyH.nil)
              case hita10 => (simp only [List.getElem?_toArray, List.getElem?_cons_succ, List.getElem?_cons_zero]; rfl)
              case stta10 =>
                have u9 := (C.out.step BR.out).jc.box.c7
                have z9 := (C.out.step BR.out).jc.box.fz 7
                go_simp
                refine hK.out _ _ (by exact C3.out.pc.c3) (fun _ => ?_)
                clear hK K
                try simp only [Act.put, List.setIfInBounds_toArray, List.set_cons_zero, List.set_cons_succ]
                clear u9 z9
                refine wpAnyH_done (by kernel_rfl) ?_ _
                (try go_wp2_with fail)
                go_meet
                exact ⟨_, C3, Lib.hid rfl⟩
      case stta4 =>
        have x9 := C.out.jc.box.c7
        rw [hm.out] at x9
        go_simp
        refine hK.out _ _ (by exact C.out.pc.c3) (fun _ => ?_)
        clear hK K
        try simp only [Act.put, List.setIfInBounds_toArray, List.set_cons_zero, List.set_cons_succ]
        clear x9
        refine wpAnyH_ready (rs := [0]) (by kernel_rfl) (by simp) ?_
        refine (AllReadyH.cons (o := ?ota11) ?hita11 (fun K hK => ?stta11) AllReadyH.nil)
        case hita11 => (simp only [List.getElem?_toArray, List.getElem?_cons_zero]; rfl)
        case stta11 =>
          go_simp
          refine hK.out _ _ (by exact (C.out.al _).pc.c3) (fun _ => ?_)
          clear hK K
          try simp only [Act.put, List.setIfInBounds_toArray, List.set_cons_zero, List.set_cons_succ]
          obtain ⟨z, hz⟩ : ∃ z, Wd.heap.size = z := ⟨_, rfl⟩
          have BR0 := Lib.hid ((Below.refl Wd.heap.size Wd).alloc (Nat.le_refl _) (.cells #[] 5))
          have OW0 := Lib.hid (own_newJ Wd)
          rw [hz] at OW0 BR0
          rw [hz]
          refine at_worldJ (fun W => Hid (Below z Wd W) ∧ Hid (W.ownsRow z 5 1 (.slice (some ⟨z, 0, none⟩) 0 0) 0 (bvs []))) ⟨BR0, OW0⟩ ?_
          clear BR0 OW0
          rintro W ⟨BR, OW⟩
          rw [← hz] at BR
          refine wpAnyH_ready (rs := [3]) (by kernel_rfl) (by simp) ?_
          refine (AllReadyH.cons (o := ?ota12) ?hita12 (fun K hK => ?stta12) AllReadyH.nil)
          case hita12 => (simp only [List.getElem?_toArray, List.getElem?_cons_succ, List.getElem?_cons_zero]; rfl)
          case stta12 =>
            refine step_app _ (by rfl) _ _ _ (by rfl) _ u0 Tryd.underlying30 ui uz0 uz1 uz2 z _ 0 [] (by rfl) OW.out _ _ m _ d0 (by rfl) ((C.out.step BR.out).jc.jw.rd).rd HM0.out (by have := HD0.out; have := HM0.out; omega) (by have := BR.out.size; omega) ?_
            intro A8 c8 w8 ho8 hg8
            rw [Nat.zero_add] at ho8 ⊢
            have BR' := Lib.hid (app_below BR.out (by omega) OW.out hg8)
            refine hK.out _ _ (by exact (C.out.step BR'.out).pc.c3) (fun _ => ?_)
            clear hK K
            try simp only [Act.put, List.setIfInBounds_toArray, List.set_cons_zero, List.set_cons_succ]
            replace BR := BR'
            clear OW BR'
            have OW := Lib.hid ho8
            clear ho8 hg8
            refine wpAnyH_ready (rs := [6]) (by kernel_rfl) (by simp) ?_
            refine (AllReadyH.cons (o := ?ota13) ?hita13 (fun K hK => ?stta13) AllReadyH.nil)
            case hita13 => (simp only [List.getElem?_toArray, List.getElem?_cons_succ, List.getElem?_cons_zero]; rfl)
            case stta13 =>
              refine step_app _ (by rfl) _ _ _ (by rfl) _ u0 Tryd.underlying30 ui uz0 uz1 uz2 z _ m d0 (by rfl) OW.out _ _ n _ p.d (by rfl) ((C.out.step BR.out).pd).rd HN.out (by have := HD0.out; have := HM0.out; have := HN2.out; omega) (by have := BR.out.size; omega) ?_
              intro A9 c9 w9 ho9 hg9
              rw [hu] at ho9 ⊢
              have BR' := Lib.hid (app_below BR.out (by omega) OW.out hg9)
              refine hK.out _ _ (by exact (C.out.step BR'.out).pc.c3) (fun _ => ?_)
              clear hK K
              try simp only [Act.put, List.setIfInBounds_toArray, List.set_cons_zero, List.set_cons_succ]
              replace BR := BR'
              clear OW BR'
              have OW := Lib.hid ho9
              clear ho9 hg9
              have RN := Lib.hid (show RdF (fun b => F b ∧ q2.tv.ownBlock ≠ some b) w9 A9 (d0 ++ p.d) from (RdF.own OW.out).mono fun b _ hb => C.out.jc.fresh b (by omega))
              have KN := Lib.hid (own_cap OW.out)
              have C3 := Lib.hid ((C.out.step BR.out).s7 A9 u c9 (d0 ++ p.d) HU.out KN.out RN.out)
              refine wpAnyH_take (i := 7) (oi := ?ota14) (v := ?vta14) ?hita14 (by kernel_rfl) (by kernel_rfl) (by kernel_rfl) ?hqta14 (Or.inl ⟨?hwta14, ?hyta14⟩) (by exact (C.out.step BR.out).pc.c3) ?restta14
              case hita14 => (simp only [List.getElem?_toArray, List.getElem?_cons_succ, List.getElem?_cons_zero]; rfl)
              case hwta14 => (rfl)
              case hqta14 => (exact fun _ _ _ h => h)
              case hyta14 => (intro w' hSw; have s3 := hSw; go_simp; (try with_reducible rfl))
              try simp only [Act.put, List.setIfInBounds_toArray, List.set_cons_zero, List.set_cons_succ]
              refine wpAnyH_ready (rs := [8]) (by kernel_rfl) (by simp) ?_
              refine (AllReadyH.cons (o := ?ota15) ?hita15 (fun K hK => ?stta15) AllReadyH.nil)
              case hita15 => (simp only [List.getElem?_toArray, List.getElem?_cons_succ, List.getElem?_cons_zero]; rfl)
              case stta15 =>
                have u9 := (C.out.step BR.out).jc.box.c7
                have z9 := (C.out.step BR.out).jc.box.fz 7
                go_simp
                refine hK.out _ _ (by exact C3.out.pc.c3) (fun _ => ?_)
                clear hK K
                try simp only [Act.put, List.setIfInBounds_toArray, List.set_cons_zero, List.set_cons_succ]
                clear u9 z9
                refine wpAnyH_done (by kernel_rfl) ?_ _
                (try go_wp2_with fail)
                go_meet
                exact ⟨_, C3, Lib.hid rfl⟩
    case rest =>
      clear C HM0 hm
      obtain ⟨q3, C, hq3⟩ := hcut
      have y7 := C.out.jc.box.c7
      rw [hq3.out] at y7
      have y2 := C.out.jc.box.c2
      by_cases hlong : j1.most < (u : Int)
      · have HG := Lib.hid (show jthr j p = { j1 with told := j1.told ++ [x3], mode := 2, data := [] } by rw [HTHR.out]; unfold jgrow; rw [if_pos (by rw [HU.out]; exact hlong), hx3.out])
        have y8 := C.out.jc.box.c8
        have f8 := C.out.jc.box.fz 8
        go_upto_region 12 with fail
        have HTN := Lib.hid (show _ ≤ 1073741825 from Nat.le_trans (Nat.le_of_eq C.out.jc.jw.t1.symm) (Nat.le_trans HTJ.out (by decide)))
        go_upto_region 13 with (at_builtin; go_loud (refine list_rows shEv rfl _ _ _ rfl 76 i0 (.agg #[.int .i64 0, .slice none 0 0, .int .i64 0, .int .i64 0]) 48 Tryd.underlying31 hi hz0 hz1 hz2 rfl (by decide) F _ B _ _ _ rfl (C.out.al _).jc.jw.ot C.out.jc.jw.t1 _ 1 1 [x3] rfl (by rw [← hx3.out]; exact C.out.lit (x := ⟨3, [], 0, 0⟩) rfl (Nat.le_refl _) RdF.nil) rfl (fun b _ hb => hb) (by unfold maxLen; have := HTN.out; omega) (by have := HTN.out; omega) (Nat.le_trans HB.out (C.out.al _).jc.off.size) ?_); intro v7 w7 ho7 hg7 hm7; obtain ⟨A7, c7, hv, Q⟩ := (C.out.al _).push ho7 hg7 hm7; subst hv; have D := Lib.hid Q; clear Q ho7 hg7 hm7; clear y8 f8; have y8 := D.out.jc.box.c8; have f8 := D.out.jc.box.fz 8)
        have E := Lib.hid D.out.s8
        clear y7 y2 y8 f8
        refine at_worldJ (fun W => ∃ q4, Hid (JT G F B w W q p A n c { j1 with data := d0 ++ p.d, mode := 1, told := j1.told ++ [x3] } q4 { j1 with data := d0 ++ p.d, mode := 1, told := j1.told ++ [x3] } q4)) ⟨_, E⟩ ?_
        clear C D E
        rintro W ⟨q4, C⟩
        have y6 := C.out.jc.box.c6
        have f6 := C.out.jc.box.fz 6
        have y7 := C.out.jc.box.c7
        have f7 := C.out.jc.box.fz 7
        go_upto_region 15 with fail
        refine at_worldJ (fun W => ∃ q5, Hid (JT G F B w W q p A n c { j1 with told := j1.told ++ [x3], mode := 2, data := [] } q5 { j1 with told := j1.told ++ [x3], mode := 2, data := [] } q5)) ⟨_, Lib.hid (C.out.s6 2).s7n⟩ ?_
        clear C y6 f6 y7 f7
        rintro W ⟨q5, D⟩
        have y0 := D.out.jc.box.c0
        have r0 := D.out.jc.res.fz 0
        have v0 := D.out.jc.res.c0
        have y1 := D.out.jc.box.c1
        have r1 := D.out.jc.res.fz 1
        have v1 := D.out.jc.res.c1
        have y2 := D.out.jc.box.c2
        have r2 := D.out.jc.res.fz 2
        have v2 := D.out.jc.res.c2
        have y3 := D.out.jc.box.c3
        have r3 := D.out.jc.res.fz 3
        have v3 := D.out.jc.res.c3
        have y4 := D.out.jc.box.c4
        have r4 := D.out.jc.res.fz 4
        have v4 := D.out.jc.res.c4
        have y5 := D.out.jc.box.c5
        have r5 := D.out.jc.res.fz 5
        have v5 := D.out.jc.res.c5
        have y6 := D.out.jc.box.c6
        have r6 := D.out.jc.res.fz 6
        have v6 := D.out.jc.res.c6
        have y7 := D.out.jc.box.c7
        have r7 := D.out.jc.res.fz 7
        have v7 := D.out.jc.res.c7
        have y8 := D.out.jc.box.c8
        have r8 := D.out.jc.res.fz 8
        have v8 := D.out.jc.res.c8
        go_wp2_with fail
        rw [HG.out]
        obtain ⟨p1, p2, p3, p4⟩ := D.out.jc.put (by omega)
        refine bodyPost_ret (v := Jn.val _ _) ?_ rfl ⟨_, rfl, ?_, p3, p4⟩
        · exact results_cell_row rfl _ _ (w.heap.size + 2) 33 _ _ _ rfl p1 Tryd.underlying33 rfl (by kernel_rfl)
        · exact p2
      · have p1 := C.out.pc.c1
        cases hpe : p.e
        · have HG := Lib.hid (show jthr j p = { j1 with data := d0 ++ p.d, mode := 1 } by rw [HTHR.out]; unfold jgrow; rw [if_neg (by rw [HU.out]; exact hlong), if_neg (by rw [hpe]; decide)])
          rw [hpe] at p1
          go_upto_region 20 with fail
          clear y7 y2 p1
          have y0 := C.out.jc.box.c0
          have r0 := C.out.jc.res.fz 0
          have v0 := C.out.jc.res.c0
          have y1 := C.out.jc.box.c1
          have r1 := C.out.jc.res.fz 1
          have v1 := C.out.jc.res.c1
          have y2 := C.out.jc.box.c2
          have r2 := C.out.jc.res.fz 2
          have v2 := C.out.jc.res.c2
          have y3 := C.out.jc.box.c3
          have r3 := C.out.jc.res.fz 3
          have v3 := C.out.jc.res.c3
          have y4 := C.out.jc.box.c4
          have r4 := C.out.jc.res.fz 4
          have v4 := C.out.jc.res.c4
          have y5 := C.out.jc.box.c5
          have r5 := C.out.jc.res.fz 5
          have v5 := C.out.jc.res.c5
          have y6 := C.out.jc.box.c6
          have r6 := C.out.jc.res.fz 6
          have v6 := C.out.jc.res.c6
          have y7 := C.out.jc.box.c7
          have r7 := C.out.jc.res.fz 7
          have v7 := C.out.jc.res.c7
          have y8 := C.out.jc.box.c8
          have r8 := C.out.jc.res.fz 8
          have v8 := C.out.jc.res.c8
          go_wp2_with fail
          rw [HG.out]
          obtain ⟨p1, p2, p3, p4⟩ := C.out.jc.put (by omega)
          refine bodyPost_ret (v := Jn.val _ _) ?_ rfl ⟨_, rfl, ?_, p3, p4⟩
          · exact results_cell_row rfl _ _ (w.heap.size + 2) 33 _ _ _ rfl p1 Tryd.underlying33 rfl (by kernel_rfl)
          · exact p2
        · have HG := Lib.hid (show jthr j p = { j1 with told := j1.told ++ [⟨0, d0 ++ p.d, 0, 0⟩], mode := 0, data := [] } by rw [HTHR.out]; unfold jgrow; rw [if_neg (by rw [HU.out]; exact hlong), if_pos hpe])
          rw [hpe] at p1
          have y8 := C.out.jc.box.c8
          have f8 := C.out.jc.box.fz 8
          go_upto_region 17 with fail
          have HTN := Lib.hid (show _ ≤ 1073741825 from Nat.le_trans (Nat.le_of_eq C.out.jc.jw.t1.symm) (Nat.le_trans HTJ.out (by decide)))
          go_upto_region 18 with (at_builtin; go_loud (refine list_rows shEv rfl _ _ _ rfl 76 i0 (.agg #[.int .i64 0, .slice none 0 0, .int .i64 0, .int .i64 0]) 48 Tryd.underlying31 hi hz0 hz1 hz2 rfl (by decide) F _ B _ _ _ rfl (C.out.al _).jc.jw.ot C.out.jc.jw.t1 _ 1 1 [⟨0, d0 ++ p.d, 0, 0⟩] rfl (C.out.lit (x := ⟨0, d0 ++ p.d, 0, 0⟩) HU.out (by rw [← hq3.out]; exact C.out.jc.jw.d2) C.out.jc.jw.rd) rfl (fun b _ hb => hb) (by unfold maxLen; have := HTN.out; omega) (by have := HTN.out; omega) (Nat.le_trans HB.out (C.out.al _).jc.off.size) ?_); intro v7 w7 ho7 hg7 hm7; obtain ⟨A7, c7, hv, Q⟩ := (C.out.al _).push ho7 hg7 hm7; subst hv; have D := Lib.hid Q; clear Q ho7 hg7 hm7; clear y8 f8; have y8 := D.out.jc.box.c8; have f8 := D.out.jc.box.fz 8)
          have E := Lib.hid D.out.s8
          clear y7 y2 y8 f8 p1
          refine at_worldJ (fun W => ∃ q4, Hid (JT G F B w W q p A n c { j1 with data := d0 ++ p.d, mode := 1, told := j1.told ++ [⟨0, d0 ++ p.d, 0, 0⟩] } q4 { j1 with data := d0 ++ p.d, mode := 1, told := j1.told ++ [⟨0, d0 ++ p.d, 0, 0⟩] } q4)) ⟨_, E⟩ ?_
          clear C D E
          rintro W ⟨q4, C⟩
          have y6 := C.out.jc.box.c6
          have f6 := C.out.jc.box.fz 6
          have y7 := C.out.jc.box.c7
          have f7 := C.out.jc.box.fz 7
          go_upto_region 20 with fail
          refine at_worldJ (fun W => ∃ q5, Hid (JT G F B w W q p A n c { j1 with told := j1.told ++ [⟨0, d0 ++ p.d, 0, 0⟩], mode := 0, data := [] } q5 { j1 with told := j1.told ++ [⟨0, d0 ++ p.d, 0, 0⟩], mode := 0, data := [] } q5)) ⟨_, Lib.hid (C.out.s6 0).s7n⟩ ?_
          clear C y6 f6 y7 f7
          rintro W ⟨q5, D⟩
          have y0 := D.out.jc.box.c0
          have r0 := D.out.jc.res.fz 0
          have v0 := D.out.jc.res.c0
          have y1 := D.out.jc.box.c1
          have r1 := D.out.jc.res.fz 1
          have v1 := D.out.jc.res.c1
          have y2 := D.out.jc.box.c2
          have r2 := D.out.jc.res.fz 2
          have v2 := D.out.jc.res.c2
          have y3 := D.out.jc.box.c3
          have r3 := D.out.jc.res.fz 3
          have v3 := D.out.jc.res.c3
          have y4 := D.out.jc.box.c4
          have r4 := D.out.jc.res.fz 4
          have v4 := D.out.jc.res.c4
          have y5 := D.out.jc.box.c5
          have r5 := D.out.jc.res.fz 5
          have v5 := D.out.jc.res.c5
          have y6 := D.out.jc.box.c6
          have r6 := D.out.jc.res.fz 6
          have v6 := D.out.jc.res.c6
          have y7 := D.out.jc.box.c7
          have r7 := D.out.jc.res.fz 7
          have v7 := D.out.jc.res.c7
          have y8 := D.out.jc.box.c8
          have r8 := D.out.jc.res.fz 8
          have v8 := D.out.jc.res.c8
          go_wp2_with fail
          rw [HG.out]
          obtain ⟨p1, p2, p3, p4⟩ := D.out.jc.put (by omega)
          refine bodyPost_ret (v := Jn.val _ _) ?_ rfl ⟨_, rfl, ?_, p3, p4⟩
          · exact results_cell_row rfl _ _ (w.heap.size + 2) 33 _ _ _ rfl p1 Tryd.underlying33 rfl (by kernel_rfl)
          · exact p2
  · -- b1 mx
    obtain ⟨hb0, hm0⟩ := hway
    have HJB := Lib.hid (show jbad j p = j by unfold jbad; rw [if_neg (by rintro (⟨_, h⟩ | ⟨h, _⟩); exact hm0 h; rw [hb0] at h; cases h)])
    have p0 := C.out.pc.c0
    have y6 := C.out.jc.box.c6
    rw [hb0] at p0
    have hne : (j.mode == 1) = false := by rw [beq_eq_false_iff_ne]; exact hm0
    have hne2 : (j.mode != 1) = true := by rw [bne_iff_ne]; exact hm0
    have HB0 := Lib.hid hb0
    have HM9 := Lib.hid hm0
    clear hb0 hm0
    go_upto_region 4 with fail
    clear p0 y6
    refine at_worldJ (fun W => ∃ q1, Hid (JT G F B w W q p A n c j q1 j q1)) ⟨_, C⟩ ?_
    clear C
    rintro W ⟨q1, C⟩
    obtain ⟨j1, hj1⟩ : ∃ j1, Hid (j = j1) := ⟨_, Lib.hid rfl⟩
    have HTJ := Lib.hid (show j1.told.length ≤ 1073741825 by rw [← hj1.out]; exact Nat.le_succ_of_le HT.out)
    have HMJ := Lib.hid (show j1.mode = j.mode by rw [← hj1.out])
    have HDJ := Lib.hid (show j1.data = j.data by rw [← hj1.out])
    replace C := Lib.hid (show JT G F B w W q p A n c j1 q1 j1 q1 by have := C.out; rwa [hj1.out] at this)
    replace HJB := Lib.hid (show jbad j p = j1 by rw [HJB.out, hj1.out])
    clear hj1
    have p0 := C.out.pc.c0
    have y6 := C.out.jc.box.c6
    have f6 := C.out.jc.box.fz 6
    rw [HB0.out] at p0
    rw [HMJ.out] at y6
    have HTHR := Lib.hid (show jthr j p = jgrow j1 p.e p.d by unfold jthr; rw [if_neg (by rw [HB0.out]; rintro ⟨h, _⟩; cases h), HJB.out, if_pos HB0.out]; rfl)
    have y7 := C.out.jc.box.c7
    have f7 := C.out.jc.box.fz 7
    go_upto_region 10 with fail
    refine at_worldJ (fun W => ∃ q2, Hid (JT G F B w W q p A n c { j1 with data := [], mode := 1 } q2 { j1 with data := [], mode := 1 } q2)) ⟨_, Lib.hid (C.out.s7n.s6 1)⟩ ?_
    clear C p0 y6 f6 y7 f7
    rintro W ⟨q2, C⟩
    obtain ⟨d0, hd0⟩ : ∃ d0 : List Nat, Hid ([] = d0) := ⟨_, Lib.hid rfl⟩
    rw [hd0.out] at C
    replace HTHR := Lib.hid (show jthr j p = jgrow j1 p.e (d0 ++ p.d) by rw [HTHR.out, ← hd0.out]; rfl)
    have HD0 := Lib.hid (show d0.length ≤ 1073741824 by rw [← hd0.out]; exact Nat.zero_le _)
    obtain ⟨m, hm⟩ : ∃ m, Hid (q2.dn = m) := ⟨_, Lib.hid rfl⟩
    have HM0 := Lib.hid (show d0.length = m by rw [← hm.out]; exact C.out.jc.jw.d1)
    obtain ⟨u, hu⟩ : ∃ u, m + n = u := ⟨_, rfl⟩
    have HU := Lib.hid (show (d0 ++ p.d).length = u by rw [List.length_append, HM0.out, HN.out]; exact hu)
    go_cut [] from 50 to 57 (fun wx => ∃ q3, Hid (JT G F B w wx q p A n c { j1 with data := d0 ++ p.d, mode := 1 } q3 { j1 with data := d0 ++ p.d, mode := 1 } q3) ∧ Hid (q3.dn = u))
    case first =>
      refine wp_region_held_drew (S := (fun W' => W'.cell? ⟨w.heap.size + 1, 3, none⟩ = some (.slice A n c))) (by kernel_rfl) (by exact C.out.pc.c3) (fun _ => ?_)
      refine at_worldJ (fun W => Hid (JT G F B w W q p A n c { j1 with data := d0, mode := 1 } q2 { j1 with data := d0, mode := 1 } q2)) (Lib.hid C.out.drew) ?_
      clear C
      rintro Wd C
      refine wpAnyH_take (i := 1) (oi := ?otb1) (v := ?vtb1) ?hitb1 (by kernel_rfl) (by kernel_rfl) (by kernel_rfl) ?hqtb1 (Or.inl ⟨?hwtb1, ?hytb1⟩) (by exact C.out.pc.c3) ?resttb1
      case hitb1 => (simp only [List.getElem?_toArray, List.getElem?_cons_succ, List.getElem?_cons_zero]; rfl)
      case hwtb1 => (rfl)
      case hqtb1 => (exact fun _ _ _ h => h)
      case hytb1 => (intro w' hSw; have s3 := hSw; go_simp; (try with_reducible rfl))
      try simp only [Act.put, List.setIfInBounds_toArray, List.set_cons_zero, List.set_cons_succ]
      refine wpAnyH_take (i := 4) (oi := ?otb2) (v := ?vtb2) ?hitb2 (by kernel_rfl) (by kernel_rfl) (by kernel_rfl) ?hqtb2 (Or.inl ⟨?hwtb2, ?hytb2⟩) (by exact C.out.pc.c3) ?resttb2
      case hitb2 => (simp only [List.getElem?_toArray, List.getElem?_cons_succ, List.getElem?_cons_zero]; rfl)
      case hwtb2 => (rfl)
      case hqtb2 => (exact fun _ _ _ h => h)
      case hytb2 => (intro w' hSw; have s3 := hSw; go_simp; (try with_reducible rfl))
      try simp only [Act.put, List.setIfInBounds_toArray, List.set_cons_zero, List.set_cons_succ]
      refine wpAnyH_take (i := 5) (oi := ?otb3) (v := ?vtb3) ?hitb3 (by kernel_rfl) (by kernel_rfl) (by kernel_rfl) ?hqtb3 (Or.inl ⟨?hwtb3, ?hytb3⟩) (by exact C.out.pc.c3) ?resttb3
      case hitb3 => (simp only [List.getElem?_toArray, List.getElem?_cons_succ, List.getElem?_cons_zero]; rfl)
      case hwtb3 => (rfl)
      case hqtb3 => (exact fun _ _ _ h => h)
      case hytb3 => (intro w' hSw; have s3 := hSw; go_simp; (try with_reducible rfl))
      try simp only [Act.put, List.setIfInBounds_toArray, List.set_cons_zero, List.set_cons_succ]
      refine wpAnyH_ready (rs := [0, 2]) (by kernel_rfl) (by simp) ?_
      refine (AllReadyH.cons (o := ?otb5) ?hitb5 (fun K hK => ?sttb5) (AllReadyH.cons (o := ?otb4) ?hitb4 (fun K hK => ?sttb4) AllReadyH.nil))
      case hitb5 => (simp only [List.getElem?_toArray, List.getElem?_cons_zero]; rfl)
      case hitb4 => (simp only [List.getElem?_toArray, List.getElem?_cons_succ, List.getElem?_cons_zero]; rfl)
      case sttb5 =>
        go_simp
        refine hK.out _ _ (by exact (C.out.al _).pc.c3) (fun _ => ?_)
        clear hK K
        try simp only [Act.put, List.setIfInBounds_toArray, List.set_cons_zero, List.set_cons_succ]
        obtain ⟨z, hz⟩ : ∃ z, Wd.heap.size = z := ⟨_, rfl⟩
        have BR0 := Lib.hid ((Below.refl Wd.heap.size Wd).alloc (Nat.le_refl _) (.cells #[] 5))
        have OW0 := Lib.hid (own_newJ Wd)
        rw [hz] at OW0 BR0
        rw [hz]
        refine at_worldJ (fun W => Hid (Below z Wd W) ∧ Hid (W.ownsRow z 5 1 (.slice (some ⟨z, 0, none⟩) 0 0) 0 (bvs []))) ⟨BR0, OW0⟩ ?_
        clear BR0 OW0
        rintro W ⟨BR, OW⟩
        rw [← hz] at BR
        refine wpAnyH_ready (rs := [2]) (by kernel_rfl) (by simp) ?_
        refine (AllReadyH.cons (o := ?otb6) ?hitb6 (fun K hK => ?sttb6) AllReadyH.nil)
        case hitb6 => (simp only [List.getElem?_toArray, List.getElem?_cons_succ, List.getElem?_cons_zero]; rfl)
        case sttb6 =>
          have x9 := (C.out.step BR.out).jc.box.c7
          rw [hm.out] at x9
          go_simp
          refine hK.out _ _ (by exact (C.out.step BR.out).pc.c3) (fun _ => ?_)
          clear hK K
          try simp only [Act.put, List.setIfInBounds_toArray, List.set_cons_zero, List.set_cons_succ]
          clear x9
          refine wpAnyH_ready (rs := [3]) (by kernel_rfl) (by simp) ?_
          refine (AllReadyH.cons (o := ?otb7) ?hitb7 (fun K hK => ?sttb7) AllReadyH.nil)
          case hitb7 => (simp only [List.getElem?_toArray, List.getElem?_cons_succ, List.getElem?_cons_zero]; rfl)
          case sttb7 =>
            refine step_app _ (by rfl) _ _ _ (by rfl) _ u0 Tryd.underlying30 ui uz0 uz1 uz2 z _ 0 [] (by rfl) OW.out _ _ m _ d0 (by rfl) ((C.out.step BR.out).jc.jw.rd).rd HM0.out (by have := HD0.out; have := HM0.out; omega) (by have := BR.out.size; omega) ?_
            intro A8 c8 w8 ho8 hg8
            rw [Nat.zero_add] at ho8 ⊢
            have BR' := Lib.hid (app_below BR.out (by omega) OW.out hg8)
            refine hK.out _ _ (by exact (C.out.step BR'.out).pc.c3) (fun _ => ?_)
            clear hK K
            try simp only [Act.put, List.setIfInBounds_toArray, List.set_cons_zero, List.set_cons_succ]
            replace BR := BR'
            clear OW BR'
            have OW := Lib.hid ho8
            clear ho8 hg8
            refine wpAnyH_ready (rs := [6]) (by kernel_rfl) (by simp) ?_
            refine (AllReadyH.cons (o := ?otb8) ?hitb8 (fun K hK => ?sttb8) AllReadyH.nil)
            case hitb8 => (simp only [List.getElem?_toArray, List.getElem?_cons_succ, List.getElem?_cons_zero]; rfl)
            case sttb8 =>
              refine step_app _ (by rfl) _ _ _ (by rfl) _ u0 Tryd.underlying30 ui uz0 uz1 uz2 z _ m d0 (by rfl) OW.out _ _ n _ p.d (by rfl) ((C.out.step BR.out).pd).rd HN.out (by have := HD0.out; have := HM0.out; have := HN2.out; omega) (by have := BR.out.size; omega) ?_
              intro A9 c9 w9 ho9 hg9
              rw [hu] at ho9 ⊢
              have BR' := Lib.hid (app_below BR.out (by omega) OW.out hg9)
              refine hK.out _ _ (by exact (C.out.step BR'.out).pc.c3) (fun _ => ?_)
              clear hK K
              try simp only [Act.put, List.setIfInBounds_toArray, List.set_cons_zero, List.set_cons_succ]
              replace BR := BR'
              clear OW BR'
              have OW := Lib.hid ho9
              clear ho9 hg9
              have RN := Lib.hid (show RdF (fun b => F b ∧ q2.tv.ownBlock ≠ some b) w9 A9 (d0 ++ p.d) from (RdF.own OW.out).mono fun b _ hb => C.out.jc.fresh b (by omega))
              have KN := Lib.hid (own_cap OW.out)
              have C3 := Lib.hid ((C.out.step BR.out).s7 A9 u c9 (d0 ++ p.d) HU.out KN.out RN.out)
              refine wpAnyH_take (i := 7) (oi := ?otb9) (v := ?vtb9) ?hitb9 (by kernel_rfl) (by kernel_rfl) (by kernel_rfl) ?hqtb9 (Or.inl ⟨?hwtb9, ?hytb9⟩) (by exact (C.out.step BR.out).pc.c3) ?resttb9
              case hitb9 => (simp only [List.getElem?_toArray, List.getElem?_cons_succ, List.getElem?_cons_zero]; rfl)
              case hwtb9 => (rfl)
              case hqtb9 => (exact fun _ _ _ h => h)
              case hytb9 => (intro w' hSw; have s3 := hSw; go_simp; (try with_reducible rfl))
              try simp only [Act.put, List.setIfInBounds_toArray, List.set_cons_zero, List.set_cons_succ]
              refine wpAnyH_ready (rs := [8]) (by kernel_rfl) (by simp) ?_
              refine (AllReadyH.cons (o := ?otb10) ?hitb10 (fun K hK => ?sttb10) AllReadyH.nil)
              case hitb10 => (simp only [List.getElem?_toArray, List.getElem?_cons_succ, List.getElem?_cons_zero]; rfl)
              case sttb10 =>
                have u9 := (C.out.step BR.out).jc.box.c7
                have z9 := (C.out.step BR.out).jc.box.fz 7
                go_simp
                refine hK.out _ _ (by exact C3.out.pc.c3) (fun _ => ?_)
                clear hK K
                try simp only [Act.put, List.setIfInBounds_toArray, List.set_cons_zero, List.set_cons_succ]
                clear u9 z9
                refine wpAnyH_done (by kernel_rfl) ?_ _
                (try go_wp2_with fail)
                go_meet
                exact ⟨_, C3, Lib.hid rfl⟩
      case sttb4 =>
        have x9 := C.out.jc.box.c7
        rw [hm.out] at x9
        go_simp
        refine hK.out _ _ (by exact C.out.pc.c3) (fun _ => ?_)
        clear hK K
        try simp only [Act.put, List.setIfInBounds_toArray, List.set_cons_zero, List.set_cons_succ]
        clear x9
        refine wpAnyH_ready (rs := [0]) (by kernel_rfl) (by simp) ?_
        refine (AllReadyH.cons (o := ?otb11) ?hitb11 (fun K hK => ?sttb11) AllReadyH.nil)
        case hitb11 => (simp only [List.getElem?_toArray, List.getElem?_cons_zero]; rfl)
        case sttb11 =>
          go_simp
          refine hK.out _ _ (by exact (C.out.al _).pc.c3) (fun _ => ?_)
          clear hK K
          try simp only [Act.put, List.setIfInBounds_toArray, List.set_cons_zero, List.set_cons_succ]
          obtain ⟨z, hz⟩ : ∃ z, Wd.heap.size = z := ⟨_, rfl⟩
          have BR0 := Lib.hid ((Below.refl Wd.heap.size Wd).alloc (Nat.le_refl _) (.cells #[] 5))
          have OW0 := Lib.hid (own_newJ Wd)
          rw [hz] at OW0 BR0
          rw [hz]
          refine at_worldJ (fun W => Hid (Below z Wd W) ∧ Hid (W.ownsRow z 5 1 (.slice (some ⟨z, 0, none⟩) 0 0) 0 (bvs []))) ⟨BR0, OW0⟩ ?_
          clear BR0 OW0
          rintro W ⟨BR, OW⟩
          rw [← hz] at BR
          refine wpAnyH_ready (rs := [3]) (by kernel_rfl) (by simp) ?_
          refine (AllReadyH.cons (o := ?otb12) ?hitb12 (fun K hK => ?sttb12) AllReadyH.nil)
          case hitb12 => (simp only [List.getElem?_toArray, List.getElem?_cons_succ, List.getElem?_cons_zero]; rfl)
          case sttb12 =>
            refine step_app _ (by rfl) _ _ _ (by rfl) _ u0 Tryd.underlying30 ui uz0 uz1 uz2 z _ 0 [] (by rfl) OW.out _ _ m _ d0 (by rfl) ((C.out.step BR.out).jc.jw.rd).rd HM0.out (by have := HD0.out; have := HM0.out; omega) (by have := BR.out.size; omega) ?_
            intro A8 c8 w8 ho8 hg8
            rw [Nat.zero_add] at ho8 ⊢
            have BR' := Lib.hid (app_below BR.out (by omega) OW.out hg8)
            refine hK.out _ _ (by exact (C.out.step BR'.out).pc.c3) (fun _ => ?_)
            clear hK K
            try simp only [Act.put, List.setIfInBounds_toArray, List.set_cons_zero, List.set_cons_succ]
            replace BR := BR'
            clear OW BR'
            have OW := Lib.hid ho8
            clear ho8 hg8
            refine wpAnyH_ready (rs := [6]) (by kernel_rfl) (by simp) ?_
            refine (AllReadyH.cons (o := ?otb13) ?hitb13 (fun K hK => ?sttb13) AllReadyH.nil)
            case hitb13 => (simp only [List.getElem?_toArray, List.getElem?_cons_succ, List.getElem?_cons_zero]; rfl)
            case sttb13 =>
              refine step_app _ (by rfl) _ _ _ (by rfl) _ u0 Tryd.underlying30 ui uz0 uz1 uz2 z _ m d0 (by rfl) OW.out _ _ n _ p.d (by rfl) ((C.out.step BR.out).pd).rd HN.out (by have := HD0.out; have := HM0.out; have := HN2.out; omega) (by have := BR.out.size; omega) ?_
              intro A9 c9 w9 ho9 hg9
              rw [hu] at ho9 ⊢
              have BR' := Lib.hid (app_below BR.out (by omega) OW.out hg9)
              refine hK.out _ _ (by exact (C.out.step BR'.out).pc.c3) (fun _ => ?_)
              clear hK K
              try simp only [Act.put, List.setIfInBounds_toArray, List.set_cons_zero, List.set_cons_succ]
              replace BR := BR'
              clear OW BR'
              have OW := Lib.hid ho9
              clear ho9 hg9
              have RN := Lib.hid (show RdF (fun b => F b ∧ q2.tv.ownBlock ≠ some b) w9 A9 (d0 ++ p.d) from (RdF.own OW.out).mono fun b _ hb => C.out.jc.fresh b (by omega))
              have KN := Lib.hid (own_cap OW.out)
              have C3 := Lib.hid ((C.out.step BR.out).s7 A9 u c9 (d0 ++ p.d) HU.out KN.out RN.out)
              refine wpAnyH_take (i := 7) (oi := ?otb14) (v := ?vtb14) ?hitb14 (by kernel_rfl) (by kernel_rfl) (by kernel_rfl) ?hqtb14 (Or.inl ⟨?hwtb14, ?hytb14⟩) (by exact (C.out.step BR.out).pc.c3) ?resttb14
              case hitb14 => (simp only [List.getElem?_toArray, List.getElem?_cons_succ, List.getElem?_cons_zero]; rfl)
              case hwtb14 => (rfl)
              case hqtb14 => (exact fun _ _ _ h => h)
              case hytb14 => (intro w' hSw; have s3 := hSw; go_simp; (try with_reducible rfl))
              try simp only [Act.put, List.setIfInBounds_toArray, List.set_cons_zero, List.set_cons_succ]
              refine wpAnyH_ready (rs := [8]) (by kernel_rfl) (by simp) ?_
              refine (AllReadyH.cons (o := ?otb15) ?hitb15 (fun K hK => ?sttb15) AllReadyH.nil)
              case hitb15 => (simp only [List.getElem?_toArray, List.getElem?_cons_succ, List.getElem?_cons_zero]; rfl)
              case sttb15 =>
                have u9 := (C.out.step BR.out).jc.box.c7
                have z9 := (C.out.step BR.out).jc.box.fz 7
                go_simp
                refine hK.out _ _ (by exact C3.out.pc.c3) (fun _ => ?_)
                clear hK K
                try simp only [Act.put, List.setIfInBounds_toArray, List.set_cons_zero, List.set_cons_succ]
                clear u9 z9
                refine wpAnyH_done (by kernel_rfl) ?_ _
                (try go_wp2_with fail)
                go_meet
                exact ⟨_, C3, Lib.hid rfl⟩
    case rest =>
      clear C HM0 hm
      obtain ⟨q3, C, hq3⟩ := hcut
      have y7 := C.out.jc.box.c7
      rw [hq3.out] at y7
      have y2 := C.out.jc.box.c2
      by_cases hlong : j1.most < (u : Int)
      · have HG := Lib.hid (show jthr j p = { j1 with told := j1.told ++ [x3], mode := 2, data := [] } by rw [HTHR.out]; unfold jgrow; rw [if_pos (by rw [HU.out]; exact hlong), hx3.out])
        have y8 := C.out.jc.box.c8
        have f8 := C.out.jc.box.fz 8
        go_upto_region 12 with fail
        have HTN := Lib.hid (show _ ≤ 1073741825 from Nat.le_trans (Nat.le_of_eq C.out.jc.jw.t1.symm) (Nat.le_trans HTJ.out (by decide)))
        go_upto_region 13 with (at_builtin; go_loud (refine list_rows shEv rfl _ _ _ rfl 76 i0 (.agg #[.int .i64 0, .slice none 0 0, .int .i64 0, .int .i64 0]) 48 Tryd.underlying31 hi hz0 hz1 hz2 rfl (by decide) F _ B _ _ _ rfl (C.out.al _).jc.jw.ot C.out.jc.jw.t1 _ 1 1 [x3] rfl (by rw [← hx3.out]; exact C.out.lit (x := ⟨3, [], 0, 0⟩) rfl (Nat.le_refl _) RdF.nil) rfl (fun b _ hb => hb) (by unfold maxLen; have := HTN.out; omega) (by have := HTN.out; omega) (Nat.le_trans HB.out (C.out.al _).jc.off.size) ?_); intro v7 w7 ho7 hg7 hm7; obtain ⟨A7, c7, hv, Q⟩ := (C.out.al _).push ho7 hg7 hm7; subst hv; have D := Lib.hid Q; clear Q ho7 hg7 hm7; clear y8 f8; have y8 := D.out.jc.box.c8; have f8 := D.out.jc.box.fz 8)
        have E := Lib.hid D.out.s8
        clear y7 y2 y8 f8
        refine at_worldJ (fun W => ∃ q4, Hid (JT G F B w W q p A n c { j1 with data := d0 ++ p.d, mode := 1, told := j1.told ++ [x3] } q4 { j1 with data := d0 ++ p.d, mode := 1, told := j1.told ++ [x3] } q4)) ⟨_, E⟩ ?_
        clear C D E
        rintro W ⟨q4, C⟩
        have y6 := C.out.jc.box.c6
        have f6 := C.out.jc.box.fz 6
        have y7 := C.out.jc.box.c7
        have f7 := C.out.jc.box.fz 7
        go_upto_region 15 with fail
        refine at_worldJ (fun W => ∃ q5, Hid (JT G F B w W q p A n c { j1 with told := j1.told ++ [x3], mode := 2, data := [] } q5 { j1 with told := j1.told ++ [x3], mode := 2, data := [] } q5)) ⟨_, Lib.hid (C.out.s6 2).s7n⟩ ?_
        clear C y6 f6 y7 f7
        rintro W ⟨q5, D⟩
        have y0 := D.out.jc.box.c0
        have r0 := D.out.jc.res.fz 0
        have v0 := D.out.jc.res.c0
        have y1 := D.out.jc.box.c1
        have r1 := D.out.jc.res.fz 1
        have v1 := D.out.jc.res.c1
        have y2 := D.out.jc.box.c2
        have r2 := D.out.jc.res.fz 2
        have v2 := D.out.jc.res.c2
        have y3 := D.out.jc.box.c3
        have r3 := D.out.jc.res.fz 3
        have v3 := D.out.jc.res.c3
        have y4 := D.out.jc.box.c4
        have r4 := D.out.jc.res.fz 4
        have v4 := D.out.jc.res.c4
        have y5 := D.out.jc.box.c5
        have r5 := D.out.jc.res.fz 5
        have v5 := D.out.jc.res.c5
        have y6 := D.out.jc.box.c6
        have r6 := D.out.jc.res.fz 6
        have v6 := D.out.jc.res.c6
        have y7 := D.out.jc.box.c7
        have r7 := D.out.jc.res.fz 7
        have v7 := D.out.jc.res.c7
        have y8 := D.out.jc.box.c8
        have r8 := D.out.jc.res.fz 8
        have v8 := D.out.jc.res.c8
        go_wp2_with fail
        rw [HG.out]
        obtain ⟨p1, p2, p3, p4⟩ := D.out.jc.put (by omega)
        refine bodyPost_ret (v := Jn.val _ _) ?_ rfl ⟨_, rfl, ?_, p3, p4⟩
        · exact results_cell_row rfl _ _ (w.heap.size + 2) 33 _ _ _ rfl p1 Tryd.underlying33 rfl (by kernel_rfl)
        · exact p2
      · have p1 := C.out.pc.c1
        cases hpe : p.e
        · have HG := Lib.hid (show jthr j p = { j1 with data := d0 ++ p.d, mode := 1 } by rw [HTHR.out]; unfold jgrow; rw [if_neg (by rw [HU.out]; exact hlong), if_neg (by rw [hpe]; decide)])
          rw [hpe] at p1
          go_upto_region 20 with fail
          clear y7 y2 p1
          have y0 := C.out.jc.box.c0
          have r0 := C.out.jc.res.fz 0
          have v0 := C.out.jc.res.c0
          have y1 := C.out.jc.box.c1
          have r1 := C.out.jc.res.fz 1
          have v1 := C.out.jc.res.c1
          have y2 := C.out.jc.box.c2
          have r2 := C.out.jc.res.fz 2
          have v2 := C.out.jc.res.c2
          have y3 := C.out.jc.box.c3
          have r3 := C.out.jc.res.fz 3
          have v3 := C.out.jc.res.c3
          have y4 := C.out.jc.box.c4
          have r4 := C.out.jc.res.fz 4
          have v4 := C.out.jc.res.c4
          have y5 := C.out.jc.box.c5
          have r5 := C.out.jc.res.fz 5
          have v5 := C.out.jc.res.c5
          have y6 := C.out.jc.box.c6
          have r6 := C.out.jc.res.fz 6
          have v6 := C.out.jc.res.c6
          have y7 := C.out.jc.box.c7
          have r7 := C.out.jc.res.fz 7
          have v7 := C.out.jc.res.c7
          have y8 := C.out.jc.box.c8
          have r8 := C.out.jc.res.fz 8
          have v8 := C.out.jc.res.c8
          go_wp2_with fail
          rw [HG.out]
          obtain ⟨p1, p2, p3, p4⟩ := C.out.jc.put (by omega)
          refine bodyPost_ret (v := Jn.val _ _) ?_ rfl ⟨_, rfl, ?_, p3, p4⟩
          · exact results_cell_row rfl _ _ (w.heap.size + 2) 33 _ _ _ rfl p1 Tryd.underlying33 rfl (by kernel_rfl)
          · exact p2
        · have HG := Lib.hid (show jthr j p = { j1 with told := j1.told ++ [⟨0, d0 ++ p.d, 0, 0⟩], mode := 0, data := [] } by rw [HTHR.out]; unfold jgrow; rw [if_neg (by rw [HU.out]; exact hlong), if_pos hpe])
          rw [hpe] at p1
          have y8 := C.out.jc.box.c8
          have f8 := C.out.jc.box.fz 8
          go_upto_region 17 with fail
          have HTN := Lib.hid (show _ ≤ 1073741825 from Nat.le_trans (Nat.le_of_eq C.out.jc.jw.t1.symm) (Nat.le_trans HTJ.out (by decide)))
          go_upto_region 18 with (at_builtin; go_loud (refine list_rows shEv rfl _ _ _ rfl 76 i0 (.agg #[.int .i64 0, .slice none 0 0, .int .i64 0, .int .i64 0]) 48 Tryd.underlying31 hi hz0 hz1 hz2 rfl (by decide) F _ B _ _ _ rfl (C.out.al _).jc.jw.ot C.out.jc.jw.t1 _ 1 1 [⟨0, d0 ++ p.d, 0, 0⟩] rfl (C.out.lit (x := ⟨0, d0 ++ p.d, 0, 0⟩) HU.out (by rw [← hq3.out]; exact C.out.jc.jw.d2) C.out.jc.jw.rd) rfl (fun b _ hb => hb) (by unfold maxLen; have := HTN.out; omega) (by have := HTN.out; omega) (Nat.le_trans HB.out (C.out.al _).jc.off.size) ?_); intro v7 w7 ho7 hg7 hm7; obtain ⟨A7, c7, hv, Q⟩ := (C.out.al _).push ho7 hg7 hm7; subst hv; have D := Lib.hid Q; clear Q ho7 hg7 hm7; clear y8 f8; have y8 := D.out.jc.box.c8; have f8 := D.out.jc.box.fz 8)
          have E := Lib.hid D.out.s8
          clear y7 y2 y8 f8 p1
          refine at_worldJ (fun W => ∃ q4, Hid (JT G F B w W q p A n c { j1 with data := d0 ++ p.d, mode := 1, told := j1.told ++ [⟨0, d0 ++ p.d, 0, 0⟩] } q4 { j1 with data := d0 ++ p.d, mode := 1, told := j1.told ++ [⟨0, d0 ++ p.d, 0, 0⟩] } q4)) ⟨_, E⟩ ?_
          clear C D E
          rintro W ⟨q4, C⟩
          have y6 := C.out.jc.box.c6
          have f6 := C.out.jc.box.fz 6
          have y7 := C.out.jc.box.c7
          have f7 := C.out.jc.box.fz 7
          go_upto_region 20 with fail
          refine at_worldJ (fun W => ∃ q5, Hid (JT G F B w W q p A n c { j1 with told := j1.told ++ [⟨0, d0 ++ p.d, 0, 0⟩], mode := 0, data := [] } q5 { j1 with told := j1.told ++ [⟨0, d0 ++ p.d, 0, 0⟩], mode := 0, data := [] } q5)) ⟨_, Lib.hid (C.out.s6 0).s7n⟩ ?_
          clear C y6 f6 y7 f7
          rintro W ⟨q5, D⟩
          have y0 := D.out.jc.box.c0
          have r0 := D.out.jc.res.fz 0
          have v0 := D.out.jc.res.c0
          have y1 := D.out.jc.box.c1
          have r1 := D.out.jc.res.fz 1
          have v1 := D.out.jc.res.c1
          have y2 := D.out.jc.box.c2
          have r2 := D.out.jc.res.fz 2
          have v2 := D.out.jc.res.c2
          have y3 := D.out.jc.box.c3
          have r3 := D.out.jc.res.fz 3
          have v3 := D.out.jc.res.c3
          have y4 := D.out.jc.box.c4
          have r4 := D.out.jc.res.fz 4
          have v4 := D.out.jc.res.c4
          have y5 := D.out.jc.box.c5
          have r5 := D.out.jc.res.fz 5
          have v5 := D.out.jc.res.c5
          have y6 := D.out.jc.box.c6
          have r6 := D.out.jc.res.fz 6
          have v6 := D.out.jc.res.c6
          have y7 := D.out.jc.box.c7
          have r7 := D.out.jc.res.fz 7
          have v7 := D.out.jc.res.c7
          have y8 := D.out.jc.box.c8
          have r8 := D.out.jc.res.fz 8
          have v8 := D.out.jc.res.c8
          go_wp2_with fail
          rw [HG.out]
          obtain ⟨p1, p2, p3, p4⟩ := D.out.jc.put (by omega)
          refine bodyPost_ret (v := Jn.val _ _) ?_ rfl ⟨_, rfl, ?_, p3, p4⟩
          · exact results_cell_row rfl _ _ (w.heap.size + 2) 33 _ _ _ rfl p1 Tryd.underlying33 rfl (by kernel_rfl)
          · exact p2
  · -- b0 m1
    obtain ⟨hb0, hm0⟩ := hway
    have HJB := Lib.hid (show jbad j p = j by unfold jbad; rw [if_neg (by rintro (⟨h, _⟩ | ⟨_, h⟩); (rw [hb0] at h; cases h); (rw [hm0] at h; cases h))])
    have p0 := C.out.pc.c0
    have y6 := C.out.jc.box.c6
    rw [hb0] at p0
    rw [hm0] at y6
    have HB0 := Lib.hid hb0
    have HM9 := Lib.hid hm0
    clear hb0 hm0
    go_upto_region 4 with fail
    clear p0 y6
    refine at_worldJ (fun W => ∃ q1, Hid (JT G F B w W q p A n c j q1 j q1)) ⟨_, C⟩ ?_
    clear C
    rintro W ⟨q1, C⟩
    obtain ⟨j1, hj1⟩ : ∃ j1, Hid (j = j1) := ⟨_, Lib.hid rfl⟩
    have HTJ := Lib.hid (show j1.told.length ≤ 1073741825 by rw [← hj1.out]; exact Nat.le_succ_of_le HT.out)
    have HMJ := Lib.hid (show j1.mode = j.mode by rw [← hj1.out])
    have HDJ := Lib.hid (show j1.data = j.data by rw [← hj1.out])
    replace C := Lib.hid (show JT G F B w W q p A n c j1 q1 j1 q1 by have := C.out; rwa [hj1.out] at this)
    replace HJB := Lib.hid (show jbad j p = j1 by rw [HJB.out, hj1.out])
    clear hj1
    have p0 := C.out.pc.c0
    have y6 := C.out.jc.box.c6
    have f6 := C.out.jc.box.fz 6
    rw [HB0.out] at p0
    rw [HMJ.out] at y6
    rw [HM9.out] at y6
    have HTHR := Lib.hid (show jthr j p = jgrow j1 p.e (j1.data ++ p.d) by unfold jthr; rw [if_neg (by rw [HM9.out]; rintro ⟨_, h⟩; exact h rfl), HJB.out, if_neg (by rw [HB0.out]; decide), HDJ.out])
    go_upto_region 10 with fail
    refine at_worldJ (fun W => ∃ q2, Hid (JT G F B w W q p A n c { j1 with mode := 1 } q2 { j1 with mode := 1 } q2)) ⟨_, Lib.hid (C.out.s6 1)⟩ ?_
    clear C p0 y6 f6
    rintro W ⟨q2, C⟩
    obtain ⟨d0, hd0⟩ : ∃ d0 : List Nat, Hid (j1.data = d0) := ⟨_, Lib.hid rfl⟩
    replace C := Lib.hid (show JT G F B w W q p A n c { j1 with data := d0, mode := 1 } q2 { j1 with data := d0, mode := 1 } q2 by rw [← hd0.out]; exact C.out)
    rw [hd0.out] at HTHR
    have HD0 := Lib.hid (show d0.length ≤ 1073741824 by rw [← hd0.out, HDJ.out]; exact HDD.out)
    obtain ⟨m, hm⟩ : ∃ m, Hid (q2.dn = m) := ⟨_, Lib.hid rfl⟩
    have HM0 := Lib.hid (show d0.length = m by rw [← hm.out]; exact C.out.jc.jw.d1)
    obtain ⟨u, hu⟩ : ∃ u, m + n = u := ⟨_, rfl⟩
    have HU := Lib.hid (show (d0 ++ p.d).length = u by rw [List.length_append, HM0.out, HN.out]; exact hu)
    go_cut [] from 50 to 57 (fun wx => ∃ q3, Hid (JT G F B w wx q p A n c { j1 with data := d0 ++ p.d, mode := 1 } q3 { j1 with data := d0 ++ p.d, mode := 1 } q3) ∧ Hid (q3.dn = u))
    case first =>
      refine wp_region_held_drew (S := (fun W' => W'.cell? ⟨w.heap.size + 1, 3, none⟩ = some (.slice A n c))) (by kernel_rfl) (by exact C.out.pc.c3) (fun _ => ?_)
      refine at_worldJ (fun W => Hid (JT G F B w W q p A n c { j1 with data := d0, mode := 1 } q2 { j1 with data := d0, mode := 1 } q2)) (Lib.hid C.out.drew) ?_
      clear C
      rintro Wd C
      refine wpAnyH_take (i := 1) (oi := ?otc1) (v := ?vtc1) ?hitc1 (by kernel_rfl) (by kernel_rfl) (by kernel_rfl) ?hqtc1 (Or.inl ⟨?hwtc1, ?hytc1⟩) (by exact C.out.pc.c3) ?resttc1
      case hitc1 => (simp only [List.getElem?_toArray, List.getElem?_cons_succ, List.getElem?_cons_zero]; rfl)
      case hwtc1 => (rfl)
      case hqtc1 => (exact fun _ _ _ h => h)
      case hytc1 => (intro w' hSw; have s3 := hSw; go_simp; (try with_reducible rfl))
      try simp only [Act.put, List.setIfInBounds_toArray, List.set_cons_zero, List.set_cons_succ]
      refine wpAnyH_take (i := 4) (oi := ?otc2) (v := ?vtc2) ?hitc2 (by kernel_rfl) (by kernel_rfl) (by kernel_rfl) ?hqtc2 (Or.inl ⟨?hwtc2, ?hytc2⟩) (by exact C.out.pc.c3) ?resttc2
      case hitc2 => (simp only [List.getElem?_toArray, List.getElem?_cons_succ, List.getElem?_cons_zero]; rfl)
      case hwtc2 => (rfl)
      case hqtc2 => (exact fun _ _ _ h => h)
      case hytc2 => (intro w' hSw; have s3 := hSw; go_simp; (try with_reducible rfl))
      try simp only [Act.put, List.setIfInBounds_toArray, List.set_cons_zero, List.set_cons_succ]
      refine wpAnyH_take (i := 5) (oi := ?otc3) (v := ?vtc3) ?hitc3 (by kernel_rfl) (by kernel_rfl) (by kernel_rfl) ?hqtc3 (Or.inl ⟨?hwtc3, ?hytc3⟩) (by exact C.out.pc.c3) ?resttc3
      case hitc3 => (simp only [List.getElem?_toArray, List.getElem?_cons_succ, List.getElem?_cons_zero]; rfl)
      case hwtc3 => (rfl)
      case hqtc3 => (exact fun _ _ _ h => h)
      case hytc3 => (intro w' hSw; have s3 := hSw; go_simp; (try with_reducible rfl))
      try simp only [Act.put, List.setIfInBounds_toArray, List.set_cons_zero, List.set_cons_succ]
      refine wpAnyH_ready (rs := [0, 2]) (by kernel_rfl) (by simp) ?_
      refine (AllReadyH.cons (o := ?otc5) ?hitc5 (fun K hK => ?sttc5) (AllReadyH.cons (o := ?otc4) ?hitc4 (fun K hK => ?sttc4) AllReadyH.nil))
      case hitc5 => (simp only [List.getElem?_toArray, List.getElem?_cons_zero]; rfl)
      case hitc4 => (simp only [List.getElem?_toArray, List.getElem?_cons_succ, List.getElem?_cons_zero]; rfl)
      case sttc5 =>
        go_simp
        refine hK.out _ _ (by exact (C.out.al _).pc.c3) (fun _ => ?_)
        clear hK K
        try simp only [Act.put, List.setIfInBounds_toArray, List.set_cons_zero, List.set_cons_succ]
        obtain ⟨z, hz⟩ : ∃ z, Wd.heap.size = z := ⟨_, rfl⟩
        have BR0 := Lib.hid ((Below.refl Wd.heap.size Wd).alloc (Nat.le_refl _) (.cells #[] 5))
        have OW0 := Lib.hid (own_newJ Wd)
        rw [hz] at OW0 BR0
        rw [hz]
        refine at_worldJ (fun W => Hid (Below z Wd W) ∧ Hid (W.ownsRow z 5 1 (.slice (some ⟨z, 0, none⟩) 0 0) 0 (bvs []))) ⟨BR0, OW0⟩ ?_
        clear BR0 OW0
        rintro W ⟨BR, OW⟩
        rw [← hz] at BR
        refine wpAnyH_ready (rs := [2]) (by kernel_rfl) (by simp) ?_
        refine (AllReadyH.cons (o := ?otc6) ?hitc6 (fun K hK => ?sttc6) AllReadyH.nil)
        case hitc6 => (simp only [List.getElem?_toArray, List.getElem?_cons_succ, List.getElem?_cons_zero]; rfl)
        case sttc6 =>
          have x9 := (C.out.step BR.out).jc.box.c7
          rw [hm.out] at x9
          go_simp
          refine hK.out _ _ (by exact (C.out.step BR.out).pc.c3) (fun _ => ?_)
          clear hK K
          try simp only [Act.put, List.setIfInBounds_toArray, List.set_cons_zero, List.set_cons_succ]
          clear x9
          refine wpAnyH_ready (rs := [3]) (by kernel_rfl) (by simp) ?_
          refine (AllReadyH.cons (o := ?otc7) ?hitc7 (fun K hK => ?sttc7) AllReadyH.nil)
          case hitc7 => (simp only [List.getElem?_toArray, List.getElem?_cons_succ, List.getElem?_cons_zero]; rfl)
          case sttc7 =>
            refine step_app _ (by rfl) _ _ _ (by rfl) _ u0 Tryd.underlying30 ui uz0 uz1 uz2 z _ 0 [] (by rfl) OW.out _ _ m _ d0 (by rfl) ((C.out.step BR.out).jc.jw.rd).rd HM0.out (by have := HD0.out; have := HM0.out; omega) (by have := BR.out.size; omega) ?_
            intro A8 c8 w8 ho8 hg8
            rw [Nat.zero_add] at ho8 ⊢
            have BR' := Lib.hid (app_below BR.out (by omega) OW.out hg8)
            refine hK.out _ _ (by exact (C.out.step BR'.out).pc.c3) (fun _ => ?_)
            clear hK K
            try simp only [Act.put, List.setIfInBounds_toArray, List.set_cons_zero, List.set_cons_succ]
            replace BR := BR'
            clear OW BR'
            have OW := Lib.hid ho8
            clear ho8 hg8
            refine wpAnyH_ready (rs := [6]) (by kernel_rfl) (by simp) ?_
            refine (AllReadyH.cons (o := ?otc8) ?hitc8 (fun K hK => ?sttc8) AllReadyH.nil)
            case hitc8 => (simp only [List.getElem?_toArray, List.getElem?_cons_succ, List.getElem?_cons_zero]; rfl)
            case sttc8 =>
              refine step_app _ (by rfl) _ _ _ (by rfl) _ u0 Tryd.underlying30 ui uz0 uz1 uz2 z _ m d0 (by rfl) OW.out _ _ n _ p.d (by rfl) ((C.out.step BR.out).pd).rd HN.out (by have := HD0.out; have := HM0.out; have := HN2.out; omega) (by have := BR.out.size; omega) ?_
              intro A9 c9 w9 ho9 hg9
              rw [hu] at ho9 ⊢
              have BR' := Lib.hid (app_below BR.out (by omega) OW.out hg9)
              refine hK.out _ _ (by exact (C.out.step BR'.out).pc.c3) (fun _ => ?_)
              clear hK K
              try simp only [Act.put, List.setIfInBounds_toArray, List.set_cons_zero, List.set_cons_succ]
              replace BR := BR'
              clear OW BR'
              have OW := Lib.hid ho9
              clear ho9 hg9
              have RN := Lib.hid (show RdF (fun b => F b ∧ q2.tv.ownBlock ≠ some b) w9 A9 (d0 ++ p.d) from (RdF.own OW.out).mono fun b _ hb => C.out.jc.fresh b (by omega))
              have KN := Lib.hid (own_cap OW.out)
              have C3 := Lib.hid ((C.out.step BR.out).s7 A9 u c9 (d0 ++ p.d) HU.out KN.out RN.out)
              refine wpAnyH_take (i := 7) (oi := ?otc9) (v := ?vtc9) ?hitc9 (by kernel_rfl) (by kernel_rfl) (by kernel_rfl) ?hqtc9 (Or.inl ⟨?hwtc9, ?hytc9⟩) (by exact (C.out.step BR.out).pc.c3) ?resttc9
              case hitc9 => (simp only [List.getElem?_toArray, List.getElem?_cons_succ, List.getElem?_cons_zero]; rfl)
              case hwtc9 => (rfl)
              case hqtc9 => (exact fun _ _ _ h => h)
              case hytc9 => (intro w' hSw; have s3 := hSw; go_simp; (try with_reducible rfl))
              try simp only [Act.put, List.setIfInBounds_toArray, List.set_cons_zero, List.set_cons_succ]
              refine wpAnyH_ready (rs := [8]) (by kernel_rfl) (by simp) ?_
              refine (AllReadyH.cons (o := ?otc10) ?hitc10 (fun K hK => ?sttc10) AllReadyH.nil)
              case hitc10 => (simp only [List.getElem?_toArray, List.getElem?_cons_succ, List.getElem?_cons_zero]; rfl)
              case sttc10 =>
                have u9 := (C.out.step BR.out).jc.box.c7
                have z9 := (C.out.step BR.out).jc.box.fz 7
                go_simp
                refine hK.out _ _ (by exact C3.out.pc.c3) (fun _ => ?_)
                clear hK K
                try simp only [Act.put, List.setIfInBounds_toArray, List.set_cons_zero, List.set_cons_succ]
                clear u9 z9
                refine wpAnyH_done (by kernel_rfl) ?_ _
                (try go_wp2_with fail)
                go_meet
                exact ⟨_, C3, Lib.hid rfl⟩
      case sttc4 =>
        have x9 := C.out.jc.box.c7
        rw [hm.out] at x9
        go_simp
        refine hK.out _ _ (by exact C.out.pc.c3) (fun _ => ?_)
        clear hK K
        try simp only [Act.put, List.setIfInBounds_toArray, List.set_cons_zero, List.set_cons_succ]
        clear x9
        refine wpAnyH_ready (rs := [0]) (by kernel_rfl) (by simp) ?_
        refine (AllReadyH.cons (o := ?otc11) ?hitc11 (fun K hK => ?sttc11) AllReadyH.nil)
        case hitc11 => (simp only [List.getElem?_toArray, List.getElem?_cons_zero]; rfl)
        case sttc11 =>
          go_simp
          refine hK.out _ _ (by exact (C.out.al _).pc.c3) (fun _ => ?_)
          clear hK K
          try simp only [Act.put, List.setIfInBounds_toArray, List.set_cons_zero, List.set_cons_succ]
          obtain ⟨z, hz⟩ : ∃ z, Wd.heap.size = z := ⟨_, rfl⟩
          have BR0 := Lib.hid ((Below.refl Wd.heap.size Wd).alloc (Nat.le_refl _) (.cells #[] 5))
          have OW0 := Lib.hid (own_newJ Wd)
          rw [hz] at OW0 BR0
          rw [hz]
          refine at_worldJ (fun W => Hid (Below z Wd W) ∧ Hid (W.ownsRow z 5 1 (.slice (some ⟨z, 0, none⟩) 0 0) 0 (bvs []))) ⟨BR0, OW0⟩ ?_
          clear BR0 OW0
          rintro W ⟨BR, OW⟩
          rw [← hz] at BR
          refine wpAnyH_ready (rs := [3]) (by kernel_rfl) (by simp) ?_
          refine (AllReadyH.cons (o := ?otc12) ?hitc12 (fun K hK => ?sttc12) AllReadyH.nil)
          case hitc12 => (simp only [List.getElem?_toArray, List.getElem?_cons_succ, List.getElem?_cons_zero]; rfl)
          case sttc12 =>
            refine step_app _ (by rfl) _ _ _ (by rfl) _ u0 Tryd.underlying30 ui uz0 uz1 uz2 z _ 0 [] (by rfl) OW.out _ _ m _ d0 (by rfl) ((C.out.step BR.out).jc.jw.rd).rd HM0.out (by have := HD0.out; have := HM0.out; omega) (by have := BR.out.size; omega) ?_
            intro A8 c8 w8 ho8 hg8
            rw [Nat.zero_add] at ho8 ⊢
            have BR' := Lib.hid (app_below BR.out (by omega) OW.out hg8)
            refine hK.out _ _ (by exact (C.out.step BR'.out).pc.c3) (fun _ => ?_)
            clear hK K
            try simp only [Act.put, List.setIfInBounds_toArray, List.set_cons_zero, List.set_cons_succ]
            replace BR := BR'
            clear OW BR'
            have OW := Lib.hid ho8
            clear ho8 hg8
            refine wpAnyH_ready (rs := [6]) (by kernel_rfl) (by simp) ?_
            refine (AllReadyH.cons (o := ?otc13) ?hitc13 (fun K hK => ?sttc13) AllReadyH.nil)
            case hitc13 => (simp only [List.getElem?_toArray, List.getElem?_cons_succ, List.getElem?_cons_zero]; rfl)
            case sttc13 =>
              refine step_app _ (by rfl) _ _ _ (by rfl) _ u0 Tryd.underlying30 ui uz0 uz1 uz2 z _ m d0 (by rfl) OW.out _ _ n _ p.d (by rfl) ((C.out.step BR.out).pd).rd HN.out (by have := HD0.out; have := HM0.out; have := HN2.out; omega) (by have := BR.out.size; omega) ?_
              intro A9 c9 w9 ho9 hg9
              rw [hu] at ho9 ⊢
              have BR' := Lib.hid (app_below BR.out (by omega) OW.out hg9)
              refine hK.out _ _ (by exact (C.out.step BR'.out).pc.c3) (fun _ => ?_)
              clear hK K
              try simp only [Act.put, List.setIfInBounds_toArray, List.set_cons_zero, List.set_cons_succ]
              replace BR := BR'
              clear OW BR'
              have OW := Lib.hid ho9
              clear ho9 hg9
              have RN := Lib.hid (show RdF (fun b => F b ∧ q2.tv.ownBlock ≠ some b) w9 A9 (d0 ++ p.d) from (RdF.own OW.out).mono fun b _ hb => C.out.jc.fresh b (by omega))
              have KN := Lib.hid (own_cap OW.out)
              have C3 := Lib.hid ((C.out.step BR.out).s7 A9 u c9 (d0 ++ p.d) HU.out KN.out RN.out)
              refine wpAnyH_take (i := 7) (oi := ?otc14) (v := ?vtc14) ?hitc14 (by kernel_rfl) (by kernel_rfl) (by kernel_rfl) ?hqtc14 (Or.inl ⟨?hwtc14, ?hytc14⟩) (by exact (C.out.step BR.out).pc.c3) ?resttc14
              case hitc14 => (simp only [List.getElem?_toArray, List.getElem?_cons_succ, List.getElem?_cons_zero]; rfl)
              case hwtc14 => (rfl)
              case hqtc14 => (exact fun _ _ _ h => h)
              case hytc14 => (intro w' hSw; have s3 := hSw; go_simp; (try with_reducible rfl))
              try simp only [Act.put, List.setIfInBounds_toArray, List.set_cons_zero, List.set_cons_succ]
              refine wpAnyH_ready (rs := [8]) (by kernel_rfl) (by simp) ?_
              refine (AllReadyH.cons (o := ?otc15) ?hitc15 (fun K hK => ?sttc15) AllReadyH.nil)
              case hitc15 => (simp only [List.getElem?_toArray, List.getElem?_cons_succ, List.getElem?_cons_zero]; rfl)
              case sttc15 =>
                have u9 := (C.out.step BR.out).jc.box.c7
                have z9 := (C.out.step BR.out).jc.box.fz 7
                go_simp
                refine hK.out _ _ (by exact C3.out.pc.c3) (fun _ => ?_)
                clear hK K
                try simp only [Act.put, List.setIfInBounds_toArray, List.set_cons_zero, List.set_cons_succ]
                clear u9 z9
                refine wpAnyH_done (by kernel_rfl) ?_ _
                (try go_wp2_with fail)
                go_meet
                exact ⟨_, C3, Lib.hid rfl⟩
    case rest =>
      clear C HM0 hm
      obtain ⟨q3, C, hq3⟩ := hcut
      have y7 := C.out.jc.box.c7
      rw [hq3.out] at y7
      have y2 := C.out.jc.box.c2
      by_cases hlong : j1.most < (u : Int)
      · have HG := Lib.hid (show jthr j p = { j1 with told := j1.told ++ [x3], mode := 2, data := [] } by rw [HTHR.out]; unfold jgrow; rw [if_pos (by rw [HU.out]; exact hlong), hx3.out])
        have y8 := C.out.jc.box.c8
        have f8 := C.out.jc.box.fz 8
        go_upto_region 12 with fail
        have HTN := Lib.hid (show _ ≤ 1073741825 from Nat.le_trans (Nat.le_of_eq C.out.jc.jw.t1.symm) (Nat.le_trans HTJ.out (by decide)))
        go_upto_region 13 with (at_builtin; go_loud (refine list_rows shEv rfl _ _ _ rfl 76 i0 (.agg #[.int .i64 0, .slice none 0 0, .int .i64 0, .int .i64 0]) 48 Tryd.underlying31 hi hz0 hz1 hz2 rfl (by decide) F _ B _ _ _ rfl (C.out.al _).jc.jw.ot C.out.jc.jw.t1 _ 1 1 [x3] rfl (by rw [← hx3.out]; exact C.out.lit (x := ⟨3, [], 0, 0⟩) rfl (Nat.le_refl _) RdF.nil) rfl (fun b _ hb => hb) (by unfold maxLen; have := HTN.out; omega) (by have := HTN.out; omega) (Nat.le_trans HB.out (C.out.al _).jc.off.size) ?_); intro v7 w7 ho7 hg7 hm7; obtain ⟨A7, c7, hv, Q⟩ := (C.out.al _).push ho7 hg7 hm7; subst hv; have D := Lib.hid Q; clear Q ho7 hg7 hm7; clear y8 f8; have y8 := D.out.jc.box.c8; have f8 := D.out.jc.box.fz 8)
        have E := Lib.hid D.out.s8
        clear y7 y2 y8 f8
        refine at_worldJ (fun W => ∃ q4, Hid (JT G F B w W q p A n c { j1 with data := d0 ++ p.d, mode := 1, told := j1.told ++ [x3] } q4 { j1 with data := d0 ++ p.d, mode := 1, told := j1.told ++ [x3] } q4)) ⟨_, E⟩ ?_
        clear C D E
        rintro W ⟨q4, C⟩
        have y6 := C.out.jc.box.c6
        have f6 := C.out.jc.box.fz 6
        have y7 := C.out.jc.box.c7
        have f7 := C.out.jc.box.fz 7
        go_upto_region 15 with fail
        refine at_worldJ (fun W => ∃ q5, Hid (JT G F B w W q p A n c { j1 with told := j1.told ++ [x3], mode := 2, data := [] } q5 { j1 with told := j1.told ++ [x3], mode := 2, data := [] } q5)) ⟨_, Lib.hid (C.out.s6 2).s7n⟩ ?_
        clear C y6 f6 y7 f7
        rintro W ⟨q5, D⟩
        have y0 := D.out.jc.box.c0
        have r0 := D.out.jc.res.fz 0
        have v0 := D.out.jc.res.c0
        have y1 := D.out.jc.box.c1
        have r1 := D.out.jc.res.fz 1
        have v1 := D.out.jc.res.c1
        have y2 := D.out.jc.box.c2
        have r2 := D.out.jc.res.fz 2
        have v2 := D.out.jc.res.c2
        have y3 := D.out.jc.box.c3
        have r3 := D.out.jc.res.fz 3
        have v3 := D.out.jc.res.c3
        have y4 := D.out.jc.box.c4
        have r4 := D.out.jc.res.fz 4
        have v4 := D.out.jc.res.c4
        have y5 := D.out.jc.box.c5
        have r5 := D.out.jc.res.fz 5
        have v5 := D.out.jc.res.c5
        have y6 := D.out.jc.box.c6
        have r6 := D.out.jc.res.fz 6
        have v6 := D.out.jc.res.c6
        have y7 := D.out.jc.box.c7
        have r7 := D.out.jc.res.fz 7
        have v7 := D.out.jc.res.c7
        have y8 := D.out.jc.box.c8
        have r8 := D.out.jc.res.fz 8
        have v8 := D.out.jc.res.c8
        go_wp2_with fail
        rw [HG.out]
        obtain ⟨p1, p2, p3, p4⟩ := D.out.jc.put (by omega)
        refine bodyPost_ret (v := Jn.val _ _) ?_ rfl ⟨_, rfl, ?_, p3, p4⟩
        · exact results_cell_row rfl _ _ (w.heap.size + 2) 33 _ _ _ rfl p1 Tryd.underlying33 rfl (by kernel_rfl)
        · exact p2
      · have p1 := C.out.pc.c1
        cases hpe : p.e
        · have HG := Lib.hid (show jthr j p = { j1 with data := d0 ++ p.d, mode := 1 } by rw [HTHR.out]; unfold jgrow; rw [if_neg (by rw [HU.out]; exact hlong), if_neg (by rw [hpe]; decide)])
          rw [hpe] at p1
          go_upto_region 20 with fail
          clear y7 y2 p1
          have y0 := C.out.jc.box.c0
          have r0 := C.out.jc.res.fz 0
          have v0 := C.out.jc.res.c0
          have y1 := C.out.jc.box.c1
          have r1 := C.out.jc.res.fz 1
          have v1 := C.out.jc.res.c1
          have y2 := C.out.jc.box.c2
          have r2 := C.out.jc.res.fz 2
          have v2 := C.out.jc.res.c2
          have y3 := C.out.jc.box.c3
          have r3 := C.out.jc.res.fz 3
          have v3 := C.out.jc.res.c3
          have y4 := C.out.jc.box.c4
          have r4 := C.out.jc.res.fz 4
          have v4 := C.out.jc.res.c4
          have y5 := C.out.jc.box.c5
          have r5 := C.out.jc.res.fz 5
          have v5 := C.out.jc.res.c5
          have y6 := C.out.jc.box.c6
          have r6 := C.out.jc.res.fz 6
          have v6 := C.out.jc.res.c6
          have y7 := C.out.jc.box.c7
          have r7 := C.out.jc.res.fz 7
          have v7 := C.out.jc.res.c7
          have y8 := C.out.jc.box.c8
          have r8 := C.out.jc.res.fz 8
          have v8 := C.out.jc.res.c8
          go_wp2_with fail
          rw [HG.out]
          obtain ⟨p1, p2, p3, p4⟩ := C.out.jc.put (by omega)
          refine bodyPost_ret (v := Jn.val _ _) ?_ rfl ⟨_, rfl, ?_, p3, p4⟩
          · exact results_cell_row rfl _ _ (w.heap.size + 2) 33 _ _ _ rfl p1 Tryd.underlying33 rfl (by kernel_rfl)
          · exact p2
        · have HG := Lib.hid (show jthr j p = { j1 with told := j1.told ++ [⟨0, d0 ++ p.d, 0, 0⟩], mode := 0, data := [] } by rw [HTHR.out]; unfold jgrow; rw [if_neg (by rw [HU.out]; exact hlong), if_pos hpe])
          rw [hpe] at p1
          have y8 := C.out.jc.box.c8
          have f8 := C.out.jc.box.fz 8
          go_upto_region 17 with fail
          have HTN := Lib.hid (show _ ≤ 1073741825 from Nat.le_trans (Nat.le_of_eq C.out.jc.jw.t1.symm) (Nat.le_trans HTJ.out (by decide)))
          go_upto_region 18 with (at_builtin; go_loud (refine list_rows shEv rfl _ _ _ rfl 76 i0 (.agg #[.int .i64 0, .slice none 0 0, .int .i64 0, .int .i64 0]) 48 Tryd.underlying31 hi hz0 hz1 hz2 rfl (by decide) F _ B _ _ _ rfl (C.out.al _).jc.jw.ot C.out.jc.jw.t1 _ 1 1 [⟨0, d0 ++ p.d, 0, 0⟩] rfl (C.out.lit (x := ⟨0, d0 ++ p.d, 0, 0⟩) HU.out (by rw [← hq3.out]; exact C.out.jc.jw.d2) C.out.jc.jw.rd) rfl (fun b _ hb => hb) (by unfold maxLen; have := HTN.out; omega) (by have := HTN.out; omega) (Nat.le_trans HB.out (C.out.al _).jc.off.size) ?_); intro v7 w7 ho7 hg7 hm7; obtain ⟨A7, c7, hv, Q⟩ := (C.out.al _).push ho7 hg7 hm7; subst hv; have D := Lib.hid Q; clear Q ho7 hg7 hm7; clear y8 f8; have y8 := D.out.jc.box.c8; have f8 := D.out.jc.box.fz 8)
          have E := Lib.hid D.out.s8
          clear y7 y2 y8 f8 p1
          refine at_worldJ (fun W => ∃ q4, Hid (JT G F B w W q p A n c { j1 with data := d0 ++ p.d, mode := 1, told := j1.told ++ [⟨0, d0 ++ p.d, 0, 0⟩] } q4 { j1 with data := d0 ++ p.d, mode := 1, told := j1.told ++ [⟨0, d0 ++ p.d, 0, 0⟩] } q4)) ⟨_, E⟩ ?_
          clear C D E
          rintro W ⟨q4, C⟩
          have y6 := C.out.jc.box.c6
          have f6 := C.out.jc.box.fz 6
          have y7 := C.out.jc.box.c7
          have f7 := C.out.jc.box.fz 7
          go_upto_region 20 with fail
          refine at_worldJ (fun W => ∃ q5, Hid (JT G F B w W q p A n c { j1 with told := j1.told ++ [⟨0, d0 ++ p.d, 0, 0⟩], mode := 0, data := [] } q5 { j1 with told := j1.told ++ [⟨0, d0 ++ p.d, 0, 0⟩], mode := 0, data := [] } q5)) ⟨_, Lib.hid (C.out.s6 0).s7n⟩ ?_
          clear C y6 f6 y7 f7
          rintro W ⟨q5, D⟩
          have y0 := D.out.jc.box.c0
          have r0 := D.out.jc.res.fz 0
          have v0 := D.out.jc.res.c0
          have y1 := D.out.jc.box.c1
          have r1 := D.out.jc.res.fz 1
          have v1 := D.out.jc.res.c1
          have y2 := D.out.jc.box.c2
          have r2 := D.out.jc.res.fz 2
          have v2 := D.out.jc.res.c2
          have y3 := D.out.jc.box.c3
          have r3 := D.out.jc.res.fz 3
          have v3 := D.out.jc.res.c3
          have y4 := D.out.jc.box.c4
          have r4 := D.out.jc.res.fz 4
          have v4 := D.out.jc.res.c4
          have y5 := D.out.jc.box.c5
          have r5 := D.out.jc.res.fz 5
          have v5 := D.out.jc.res.c5
          have y6 := D.out.jc.box.c6
          have r6 := D.out.jc.res.fz 6
          have v6 := D.out.jc.res.c6
          have y7 := D.out.jc.box.c7
          have r7 := D.out.jc.res.fz 7
          have v7 := D.out.jc.res.c7
          have y8 := D.out.jc.box.c8
          have r8 := D.out.jc.res.fz 8
          have v8 := D.out.jc.res.c8
          go_wp2_with fail
          rw [HG.out]
          obtain ⟨p1, p2, p3, p4⟩ := D.out.jc.put (by omega)
          refine bodyPost_ret (v := Jn.val _ _) ?_ rfl ⟨_, rfl, ?_, p3, p4⟩
          · exact results_cell_row rfl _ _ (w.heap.size + 2) 33 _ _ _ rfl p1 Tryd.underlying33 rfl (by kernel_rfl)
          · exact p2
  · -- b0 m0
    obtain ⟨hb0, hm0⟩ := hway
    have HJB := Lib.hid (show jbad j p = { j with told := j.told ++ [x2] } by unfold jbad; rw [if_pos (.inr ⟨hb0, hm0⟩)]; rw [← hx2.out, ← hrm.out, ← hM.out])
    have p0 := C.out.pc.c0
    have y6 := C.out.jc.box.c6
    rw [hb0] at p0
    rw [hm0] at y6
    have HB0 := Lib.hid hb0
    have HM9 := Lib.hid hm0
    clear hb0 hm0
    have HTJ := HT
    have y8 := C.out.jc.box.c8
    have f8 := C.out.jc.box.fz 8
    go_upto_region 3 with fail
    have HTN := Lib.hid (show _ ≤ 1073741825 from Nat.le_trans (Nat.le_of_eq C.out.jc.jw.t1.symm) (Nat.le_trans HTJ.out (by decide)))
    go_upto_region 4 with (at_builtin; go_loud (refine list_rows shEv rfl _ _ _ rfl 76 i0 (.agg #[.int .i64 0, .slice none 0 0, .int .i64 0, .int .i64 0]) 48 Tryd.underlying31 hi hz0 hz1 hz2 rfl (by decide) F _ B _ _ _ rfl (C.out.al _).jc.jw.ot C.out.jc.jw.t1 _ 1 1 [x2] rfl (by rw [← hx2.out]; exact C.out.lit (x := ⟨2, [], rm, 0⟩) rfl (Nat.le_refl _) RdF.nil) rfl (fun b _ hb => hb) (by unfold maxLen; have := HTN.out; omega) (by have := HTN.out; omega) (Nat.le_trans HB.out (C.out.al _).jc.off.size) ?_); intro v7 w7 ho7 hg7 hm7; obtain ⟨A7, c7, hv, Q⟩ := (C.out.al _).push ho7 hg7 hm7; subst hv; have D := Lib.hid Q; clear Q ho7 hg7 hm7; clear y8 f8; have y8 := D.out.jc.box.c8; have f8 := D.out.jc.box.fz 8)
    refine at_worldJ (fun W => ∃ q1, Hid (JT G F B w W q p A n c { j with told := j.told ++ [x2] } q1 { j with told := j.told ++ [x2] } q1)) ⟨_, Lib.hid D.out.s8⟩ ?_
    clear C D p0 y6 y8 f8 HTJ
    rintro W ⟨q1, C⟩
    obtain ⟨j1, hj1⟩ : ∃ j1, Hid ({ j with told := j.told ++ [x2] } = j1) := ⟨_, Lib.hid rfl⟩
    rw [hj1.out] at C HJB
    have HTJ := Lib.hid (show j1.told.length ≤ 1073741825 by rw [← hj1.out]; show (j.told ++ [x2]).length ≤ _; rw [List.length_append]; exact Nat.succ_le_succ HT.out)
    have HMJ := Lib.hid (show j1.mode = j.mode by rw [← hj1.out])
    have HDJ := Lib.hid (show j1.data = j.data by rw [← hj1.out])
    clear hj1
    have p0 := C.out.pc.c0
    have y6 := C.out.jc.box.c6
    have f6 := C.out.jc.box.fz 6
    rw [HB0.out] at p0
    rw [HMJ.out] at y6
    rw [HM9.out] at y6
    have HTHR := Lib.hid (show jthr j p = { j1 with mode := 2 } by unfold jthr; rw [if_pos ⟨HB0.out, by rw [HM9.out]; decide⟩, HJB.out])
    go_upto_region 6 with fail
    have D := Lib.hid (C.out.s6 2)
    refine at_worldJ (fun W => Hid (JT G F B w W q p A n c { j1 with mode := 2 } q1 { j1 with mode := 2 } q1)) D ?_
    clear C D p0 y6 f6
    rintro W D
    have y0 := D.out.jc.box.c0
    have r0 := D.out.jc.res.fz 0
    have v0 := D.out.jc.res.c0
    have y1 := D.out.jc.box.c1
    have r1 := D.out.jc.res.fz 1
    have v1 := D.out.jc.res.c1
    have y2 := D.out.jc.box.c2
    have r2 := D.out.jc.res.fz 2
    have v2 := D.out.jc.res.c2
    have y3 := D.out.jc.box.c3
    have r3 := D.out.jc.res.fz 3
    have v3 := D.out.jc.res.c3
    have y4 := D.out.jc.box.c4
    have r4 := D.out.jc.res.fz 4
    have v4 := D.out.jc.res.c4
    have y5 := D.out.jc.box.c5
    have r5 := D.out.jc.res.fz 5
    have v5 := D.out.jc.res.c5
    have y6 := D.out.jc.box.c6
    have r6 := D.out.jc.res.fz 6
    have v6 := D.out.jc.res.c6
    have y7 := D.out.jc.box.c7
    have r7 := D.out.jc.res.fz 7
    have v7 := D.out.jc.res.c7
    have y8 := D.out.jc.box.c8
    have r8 := D.out.jc.res.fz 8
    have v8 := D.out.jc.res.c8
    go_wp2_with fail
    rw [HTHR.out]
    obtain ⟨p1, p2, p3, p4⟩ := D.out.jc.put (by omega)
    refine bodyPost_ret (v := Jn.val _ _) ?_ rfl ⟨_, rfl, ?_, p3, p4⟩
    · exact results_cell_row rfl _ _ (w.heap.size + 2) 33 _ _ _ rfl p1 Tryd.underlying33 rfl (by kernel_rfl)
    · exact p2
  · -- b0 m2
    obtain ⟨hb0, hm0⟩ := hway
    have HJB := Lib.hid (show jbad j p = j by unfold jbad; rw [if_neg (by rintro (⟨h, _⟩ | ⟨_, h⟩); (rw [hb0] at h; cases h); (rw [hm0] at h; cases h))])
    have p0 := C.out.pc.c0
    have y6 := C.out.jc.box.c6
    rw [hb0] at p0
    rw [hm0] at y6
    have HB0 := Lib.hid hb0
    have HM9 := Lib.hid hm0
    clear hb0 hm0
    go_upto_region 4 with fail
    clear p0 y6
    refine at_worldJ (fun W => ∃ q1, Hid (JT G F B w W q p A n c j q1 j q1)) ⟨_, C⟩ ?_
    clear C
    rintro W ⟨q1, C⟩
    obtain ⟨j1, hj1⟩ : ∃ j1, Hid (j = j1) := ⟨_, Lib.hid rfl⟩
    have HTJ := Lib.hid (show j1.told.length ≤ 1073741825 by rw [← hj1.out]; exact Nat.le_succ_of_le HT.out)
    have HMJ := Lib.hid (show j1.mode = j.mode by rw [← hj1.out])
    have HDJ := Lib.hid (show j1.data = j.data by rw [← hj1.out])
    replace C := Lib.hid (show JT G F B w W q p A n c j1 q1 j1 q1 by have := C.out; rwa [hj1.out] at this)
    replace HJB := Lib.hid (show jbad j p = j1 by rw [HJB.out, hj1.out])
    clear hj1
    have p0 := C.out.pc.c0
    have y6 := C.out.jc.box.c6
    have f6 := C.out.jc.box.fz 6
    rw [HB0.out] at p0
    rw [HMJ.out] at y6
    rw [HM9.out] at y6
    have HTHR := Lib.hid (show jthr j p = { j1 with mode := 2 } by unfold jthr; rw [if_pos ⟨HB0.out, by rw [HM9.out]; decide⟩, HJB.out])
    go_upto_region 6 with fail
    have D := Lib.hid (C.out.s6 2)
    refine at_worldJ (fun W => Hid (JT G F B w W q p A n c { j1 with mode := 2 } q1 { j1 with mode := 2 } q1)) D ?_
    clear C D p0 y6 f6
    rintro W D
    have y0 := D.out.jc.box.c0
    have r0 := D.out.jc.res.fz 0
    have v0 := D.out.jc.res.c0
    have y1 := D.out.jc.box.c1
    have r1 := D.out.jc.res.fz 1
    have v1 := D.out.jc.res.c1
    have y2 := D.out.jc.box.c2
    have r2 := D.out.jc.res.fz 2
    have v2 := D.out.jc.res.c2
    have y3 := D.out.jc.box.c3
    have r3 := D.out.jc.res.fz 3
    have v3 := D.out.jc.res.c3
    have y4 := D.out.jc.box.c4
    have r4 := D.out.jc.res.fz 4
    have v4 := D.out.jc.res.c4
    have y5 := D.out.jc.box.c5
    have r5 := D.out.jc.res.fz 5
    have v5 := D.out.jc.res.c5
    have y6 := D.out.jc.box.c6
    have r6 := D.out.jc.res.fz 6
    have v6 := D.out.jc.res.c6
    have y7 := D.out.jc.box.c7
    have r7 := D.out.jc.res.fz 7
    have v7 := D.out.jc.res.c7
    have y8 := D.out.jc.box.c8
    have r8 := D.out.jc.res.fz 8
    have v8 := D.out.jc.res.c8
    go_wp2_with fail
    rw [HTHR.out]
    obtain ⟨p1, p2, p3, p4⟩ := D.out.jc.put (by omega)
    refine bodyPost_ret (v := Jn.val _ _) ?_ rfl ⟨_, rfl, ?_, p3, p4⟩
    · exact results_cell_row rfl _ _ (w.heap.size + 2) 33 _ _ _ rfl p1 Tryd.underlying33 rfl (by kernel_rfl)
    · exact p2
end Go.Proofs.YtamdaepeogmboaaDoor
