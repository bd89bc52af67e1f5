
/-
  What the document's own Get of layer 23 answers. No condition beyond: at most 2^38 octets.
-/
import Derived.Test.YtdeabomcmbgepaaDoorFrgD
import Derived.BigQuiet
namespace Go.Proofs.YtdeabomcmbgepaaDoor
open Go.RowKit

/-- The number so far, k octets read. -/
def frgn (l : List Nat) (k : Nat) : Nat := ((l.drop 1).take (k - 1)).foldl (fun n c => n * 256 + c) (l.headD 0 % 64)
theorem frgn_one (l : List Nat) : frgn l 1 = l.headD 0 % 64 := by simp [frgn]
theorem frgn_snoc {l : List Nat} {k x : Nat} (hk : 1 ≤ k) (hx : l[k]? = some x) : frgn l (k + 1) = frgn l k * 256 + x := by
  unfold frgn
  have e : (l.drop 1)[k - 1]? = some x := by rw [List.getElem?_drop, show 1 + (k - 1) = k by omega]; exact hx
  rw [show k + 1 - 1 = (k - 1) + 1 by omega, List.take_add_one, e, Option.toList_some, List.foldl_append]
  rfl
theorem frgn_all (s : Bool) {l : List Nat} (hl : frsz s ≤ l.length) (h : frbad s (l.headD 0) = false) : frgn l (frsz s) = frn s l := by
  cases s
  · match l, hl with
    | x :: y :: z :: u :: t, _ =>
      simp [frbad] at h
      simp [frgn, frn, frsz, h]
    | [_, _, _], h => simp [frsz] at h
    | [_, _], h => simp [frsz] at h
    | [_], h => simp [frsz] at h
    | [], h => simp [frsz] at h
  · match l, hl with
    | x :: y :: t, _ => simp [frgn, frn, frsz]
    | [_], h => simp [frsz] at h
    | [], h => simp [frsz] at h
theorem frgn_lt {l : List Nat} (hb : By l) : ∀ k, k ≤ 4 → 1 ≤ k → frgn l k < 64 * 256 ^ (k - 1) := by
  intro k
  induction k with
  | zero => intro _ h; omega
  | succ k ih =>
    intro hk _
    by_cases h0 : k = 0
    · subst h0
      rw [frgn_one]
      simp
      omega
    · have h1 := ih (by omega) (by omega)
      rcases Nat.lt_or_ge k l.length with hl | hl
      · rw [frgn_snoc (by omega) (List.getElem?_eq_getElem hl), show k + 1 - 1 = (k - 1) + 1 by omega, Nat.pow_succ]
        have h2 := hb _ (List.getElem_mem hl)
        omega
      · have e : frgn l (k + 1) = frgn l k := by
          unfold frgn
          rw [List.take_of_length_le (by rw [List.length_drop]; omega), List.take_of_length_le (by rw [List.length_drop]; omega)]
        rw [e, show k + 1 - 1 = (k - 1) + 1 by omega, Nat.pow_succ]
        omega

/-- What Get knows: the answer's block, the octets. -/
structure FrH (w W : World) (g : Nat) (A : Option Addr) (l : List Nat) : Prop where
  bel : Below w.heap.size w W
  low : w.heap.size ≤ g
  box : FrX W g 24 false false 0 none 0 0
  rd : Rd W W.heap.size A l
theorem FrH.step {w W W' : World} {g : Nat} {A : Option Addr} {l : List Nat} (h : FrH w W g A l) (hb : Below W.heap.size W W') : FrH w W' g A l := ⟨h.bel.trans (hb.mono h.bel.size), h.low, h.box.on hb, h.rd.on hb⟩

/-- What Get answers: the piece p, its data of m octets where the octets lie, the error's number. -/
def FrA (w : World) (p : Pc) (m k : Nat) (r : Ending) (w' : World) : Prop := ∃ A' c', r = .returned (.tuple #[fV p.b p.e p.n A' m c', .int .i64 (k : Int)]) ∧ m ≤ c' ∧ Rd w' w'.heap.size A' p.d ∧ Below w.heap.size w w'
theorem FrA.mk {w w' : World} {p : Pc} {m k : Nat} (A' : Option Addr) (c' : Nat) (h1 : m ≤ c') (h2 : Rd w' w'.heap.size A' p.d) (h3 : Below w.heap.size w w') : FrA w p m k (.returned (.tuple #[fV p.b p.e p.n A' m c', .int .i64 (k : Int)])) w' := ⟨A', c', rfl, h1, h2, h3⟩

theorem FrX.drewX {w : World} {g : Nat} {T : TypeId} {b e : Bool} {x : Int} {A : Option Addr} {n c : Nat} (h : FrX w g T b e x A n c) : FrX w.drew g T b e x A n c := h
theorem frh_cell {w W : World} {g g8 : Nat} {A : Option Addr} {l : List Nat} {b e : Bool} {x : Int} {D : Option Addr} {m c : Nat} (h : FrH w W g A l) (h8 : FrX W g8 24 b e x D m c) (hg : g < g8) (j : Nat) (u : Value) :
    FrH w (W.setCell ⟨g8, j, none⟩ u) g A l := by
  have ho := Offs.set (X := fun i => i = g8) W g8 j u rfl
  refine ⟨?_, h.low, ?_, ?_⟩
  · exact h.bel.setCell (p := ⟨g8, j, none⟩) (Nat.le_trans h.low (Nat.le_of_lt hg)) _
  · exact (ho.block g h.box.lt (by omega)).trans h.box
  · intro hl
    obtain ⟨b', o', e', hb', hc'⟩ := h.rd hl
    have hne : b' ≠ g8 := by
      intro e9
      subst e9
      have hx := hc' 0 _ (List.getElem?_eq_getElem hl)
      rw [cell_of_row W b' _ _ _ _ h8] at hx
      rw [Nat.add_zero] at hx
      match o', hx with
      | 0, hx => cases hx
      | 1, hx => cases hx
      | 2, hx => cases hx
      | 3, hx => cases hx
      | o' + 4, hx => simp at hx
    refine ⟨b', o', e', Nat.lt_of_lt_of_le hb' ho.size, fun k x hx => ?_⟩
    have hK : Keeps (fun i => i ≠ g8) W (W.setCell ⟨g8, j, none⟩ u) := Keeps.of_offs ho (fun _ h => h)
    exact (hK.cell hb' hne _).trans (hc' k x hx)
theorem frh_set {w W : World} {g g8 : Nat} {A : Option Addr} {l : List Nat} {b e : Bool} {x : Int} {D : Option Addr} {m c : Nat} (h : FrH w W g A l) (h8 : FrX W g8 24 b e x D m c) (hg : g < g8) (u : Int) :
    FrH w (W.setCell ⟨g8, 2, none⟩ (.int .i64 u)) g A l ∧ FrX (W.setCell ⟨g8, 2, none⟩ (.int .i64 u)) g8 24 b e u D m c := ⟨frh_cell h h8 hg 2 _, h8.s2 u⟩
theorem frh_rd {w W : World} {g b o n k x : Nat} {l : List Nat} (h : FrH w W g (some ⟨b, o, none⟩) l) (_ : l.length = n) (hx : l[k]? = some x) : b < W.heap.size ∧ W.cell? ⟨b, o + k, none⟩ = some (.int .u8 (x : Int)) := by
  obtain ⟨b', o', e', hb', hc'⟩ := h.rd (by have := (List.getElem?_eq_some_iff.1 hx).1; omega)
  injection e' with e'
  injection e' with e1 e2
  subst e1; subst e2
  exact ⟨hb', hc' k x hx⟩

theorem frh_putrd {w W : World} {g : Nat} {A D : Option Addr} {l d : List Nat} (h : FrH w W g A l) (hr : Rd W W.heap.size D d) (a b c e : Value) : Rd ((((W.setCell ⟨g, 0, none⟩ a).setCell ⟨g, 1, none⟩ b).setCell ⟨g, 2, none⟩ c).setCell ⟨g, 3, none⟩ e) ((((W.setCell ⟨g, 0, none⟩ a).setCell ⟨g, 1, none⟩ b).setCell ⟨g, 2, none⟩ c).setCell ⟨g, 3, none⟩ e).heap.size D d := by
  intro hl
  obtain ⟨b', o', e', hb', hc'⟩ := hr hl
  have hne : b' ≠ g := by
    intro e9
    subst e9
    have hx := hc' 0 _ (List.getElem?_eq_getElem hl)
    rw [cell_of_row W b' _ _ _ _ h.box] at hx
    rw [Nat.add_zero] at hx
    match o', hx with
    | 0, hx => cases hx
    | 1, hx => cases hx
    | 2, hx => cases hx
    | 3, hx => cases hx
    | o' + 4, hx => simp at hx
  have hK := put4_keeps W g a b c e
  exact ⟨b', o', e', Nat.lt_of_lt_of_le hb' hK.size, fun k x hx => (hK.cell hb' hne _).trans (hc' k x hx)⟩

set_option maxHeartbeats 2000000 in
theorem frrget_any (s : Bool) (l : List Nat) (p : Pc) (k : Nat) (hg : frget s l = (p, k)) (m : Nat) (hm : p.d.length = m) (n c : Nat) (A : Option Addr) (w : World) (h : Rd w w.heap.size A l) (hb : By l) (hl : l.length = n) (hn : n ≤ 274877906944) (hc : n ≤ c) :
    Calls Tryd.prog 12 #[.bool s, .slice A n c] w (FrA w p m k) := by
  obtain ⟨z, hz⟩ : ∃ z, Hid (frsz s = z) := ⟨_, Lib.hid rfl⟩
  have hz4 : z ≤ 4 := by rw [← hz.out]; cases s <;> simp [frsz]
  have hz0 : 0 < z := by rw [← hz.out]; cases s <;> simp [frsz]
  have C : Hid (FrH w (w.alloc (.cells #[.bool false, .bool false, .int .i64 0, .slice none 0 0] 24)) w.heap.size A l) := Lib.hid ⟨(Below.refl _ _).alloc (Nat.le_refl _) _, Nat.le_refl _, FrX.new _ _ _ _ _ _ _ _, h.on ((Below.refl _ _).alloc (Nat.le_refl _) _)⟩
  have HG := Lib.hid hg
  have HL := Lib.hid hl
  have HB := Lib.hid hb
  have HM := Lib.hid hm
  have HC := Lib.hid hc
  have HN := Lib.hid hn
  clear h hg hl hb hm hc hn
  go_enter Tryd.func12, Tryd.ntmps12
  go_upto_region 1 with fail
  with_reducible refine at_worldF (fun W => Hid (FrH w W w.heap.size A l)) C ?_
  clear C
  rintro w3 C
  have p0 := C.out.box.c0
  have p1 := C.out.box.c1
  have p2 := C.out.box.c2
  have p3 := C.out.box.c3
  have q0 := C.out.box.fz 0
  have q1 := C.out.box.fz 1
  have q2 := C.out.box.fz 2
  have q3 := C.out.box.fz 3
  by_cases c1 : n < z
  · have E := Lib.hid (show frget s l = (pc0, 2) by unfold frget; rw [HL.out, hz.out, if_pos c1])
    rw [HG.out] at E
    obtain ⟨rfl, rfl⟩ := Prod.mk.inj E.out
    have hm0 : m = 0 := by rw [← HM.out]; rfl
    subst hm0
    cases s
    all_goals
      have hz' := hz.out
      simp [frsz] at hz'
      subst hz'
      have j1 : (n : Int) < (_ : Nat) := Int.ofNat_lt.2 c1
      clear c1
      go_wp2_with fail
      refine bodyPost_ret (v := .tuple #[fV false false 0 none 0 0, .int .i64 2]) ?_ rfl (FrA.mk none 0 (Nat.le_refl _) Rd.nil (frput_below C.out.bel (Nat.le_refl _) _ _ _ _))
      exact fr_res rfl _ _ _ w.heap.size 24 _ _ _ rfl rfl (C.out.box.put false false 0 none 0 0) Tryd.underlying24 (by kernel_rfl)
  · have hz2 : z ≤ n := by omega
    obtain ⟨bb, o, x, rfl, hbb, hx, hcx⟩ := C.out.rd.at_ (k := 0) (by rw [HL.out]; omega)
    have hx256 := HB.out.get hx
    have hhd : l.headD 0 = x := by cases l with
      | nil => simp at hx
      | cons a t => simpa using hx
    have j2 : 0 < n := by omega
    rw [Nat.add_zero] at hcx
    obtain ⟨y, hy⟩ : ∃ y, Hid (x % 64 = y ∧ y < 64) := ⟨_, Lib.hid ⟨rfl, Nat.mod_lt _ (by omega)⟩⟩
    have hy1 : (x : Int).tmod 64 = (y : Int) := by exact frd_rem x 64 y hy.out.1
    cases hbad : frbad s x
    · have E := Lib.hid (show frget s l = (⟨decide (128 ≤ x), decide (x / 64 % 2 = 1), (frn s l : Int), l.drop z⟩, 0) by unfold frget; rw [HL.out, hz.out, if_neg c1, hhd, hbad]; rfl)
      rw [HG.out] at E
      obtain ⟨rfl, rfl⟩ := Prod.mk.inj E.out
      have HNN := Lib.hid (show frgn l z = frn s l by rw [← hz.out]; exact frgn_all s (by rw [HL.out, hz.out]; exact hz2) (by rw [hhd]; exact hbad))
      have hmm : m = n - z := by have := HM.out; rw [← this]; show (l.drop z).length = _; rw [List.length_drop, HL.out]
      have HMM := Lib.hid hmm
      have HDr := Lib.hid (show (l.drop z).length = n - z by rw [List.length_drop, HL.out])
      have hzc : z ≤ c := by have := HC.out; omega
      have hnc := HC.out
      have HZL := Lib.hid (show z ≤ l.length by rw [HL.out]; exact hz2)
      have HLC := Lib.hid (show l.length ≤ c by rw [HL.out]; exact hnc)
      have H1 := Lib.hid (show frgn l 1 = y by rw [frgn_one, hhd]; exact hy.out.1)
      have hx64 : (x : Int) / 64 = ((x / 64 : Nat) : Int) := by omega
      obtain ⟨x6, hx6⟩ : ∃ x6, Hid (x / 64 = x6 ∧ x6 < 4) := ⟨_, Lib.hid ⟨rfl, by omega⟩⟩
      rw [hx6.out.1] at hx64
      have e64 : IntKind.u8.wrap (x6 : Int) = (x6 : Int) := frd_u8 x6 (Nat.lt_trans hx6.out.2 (by decide))
      obtain ⟨x7, hx7⟩ : ∃ x7, Hid (x6 % 2 = x7) := ⟨_, Lib.hid rfl⟩
      have f64 : (x6 : Int).tmod 2 = (x7 : Int) := frd_rem x6 2 x7 hx7.out
      have ge : decide ((128 : Int) ≤ (x : Int)) = decide (128 ≤ x) := by rw [Bool.eq_iff_iff]; simp; omega
      have eq1 : ((x7 : Int) == 1) = decide (x / 64 % 2 = 1) := by rw [hx6.out.1, hx7.out, Bool.eq_iff_iff]; simp; omega
      obtain ⟨tb, htb⟩ : ∃ tb, Hid (decide (128 ≤ x) = tb) := ⟨_, Lib.hid rfl⟩
      obtain ⟨te, hte⟩ : ∃ te, Hid (decide (x / 64 % 2 = 1) = te) := ⟨_, Lib.hid rfl⟩
      rw [htb.out] at ge HG HM ⊢
      rw [hte.out] at eq1 HG HM ⊢
      have HH := Lib.hid hhd
      have HBAD := Lib.hid hbad
      clear hmm hx hhd hbad E
      cases s
      · have hz' := hz.out
        simp [frsz] at hz'
        subst hz'
        have j1 : ¬ (n : Int) < 4 := by omega
        have j3 : ((y : Int) != 0) = false := by have h1 := HBAD.out; have h2 := hy.out.1; rw [bne_eq_false_iff_eq]; simp [frbad] at h1; omega
        clear c1
        go_upto_region 9 with fail
        have C0 := C
        replace C := Lib.hid (C.out.step ((Below.refl _ _).drew))
        replace hcx : w3.drew.cell? ⟨bb, o, none⟩ = some (.int .u8 (x : Int)) := hcx
        go_region_held3 (fun W => W.cell? ⟨bb, o, none⟩ = some (.int .u8 (x : Int))) (first | with_reducible exact hcx | exact (((Below.refl _ _).alloc (Nat.le_refl _) _).cell (p := ⟨bb, o, none⟩) hbb).trans hcx) (fail)
        go_upto_region 10 with fail
        with_reducible refine at_worldF (fun W => Hid (FrH w W w.heap.size (some ⟨bb, o, none⟩) l ∧ FrX W w3.heap.size 24 tb te 0 none 0 0)) (Lib.hid ⟨C0.out.step (((Below.refl _ _).alloc (Nat.le_refl _) _).drew), (FrX.new w3 _ _ _ _ _ _ _).drewX⟩) ?_
        have HG8 := Lib.hid (show w.heap.size < w3.heap.size from C0.out.box.lt)
        clear C C0 hcx p0 p1 p2 p3 q0 q1 q2 q3 hbb
        obtain ⟨g8, hg8⟩ : ∃ g8, g8 = w3.heap.size := ⟨_, rfl⟩
        rw [← hg8] at HG8 ⊢
        clear hg8
        rintro w4 C
        have z2 := C.out.2.c2
        have zf := C.out.2.fz 2
        have C5 := Lib.hid (frh_set C.out.1 C.out.2 HG8.out (y : Int))
        clear C
        go_wp2_with fail
        with_reducible refine at_worldF (fun W => Hid (FrH w W w.heap.size (some ⟨bb, o, none⟩) l ∧ FrX W g8 24 tb te (y : Int) none 0 0)) C5 ?_
        clear C5 z2 zf w4
        rintro w4 C4
        go_loopw [9] (fun i wr => ∃ k u : Nat, 1 ≤ k ∧ k ≤ 4 ∧ i = .int .i64 k ∧ Hid (frgn l k = u) ∧ Hid (FrH w wr w.heap.size (some ⟨bb, o, none⟩) l ∧ FrX wr g8 24 tb te (u : Int) none 0 0)) (fun i _ => 4 - (intOf i).toNat)
        case atStart => exact ⟨1, y, Nat.le_refl _, by omega, rfl, H1, C4⟩
        case round =>
          obtain ⟨k, u, hk1, hk, rfl, hu, CR⟩ := hrel
          by_cases hlt : k < 4
          · have hul : u < 4294967296 := by
              have h1 := frgn_lt HB.out k (by omega) hk1
              rw [hu.out] at h1
              exact Nat.lt_of_lt_of_le h1 (Nat.le_trans (Nat.mul_le_mul_left 64 (Nat.pow_le_pow_right (by omega) (show k - 1 ≤ 3 by omega))) (by decide))
            obtain ⟨b', o', x', e', hbb', hx', hcx'⟩ := CR.out.1.rd.at_ (k := k) (by rw [HL.out]; omega)
            injection e' with e'
            injection e' with e1 e2
            subst e1; subst e2
            have hx256' := HB.out.get hx'
            have z2 := CR.out.2.c2
            have zf := CR.out.2.fz 2
            have i1 : (0 : Int) ≤ k := by omega
            have i2 : (k : Int) < n := by omega
            have i3 : (k : Int) < 4 := by omega
            have HS := Lib.hid (show frgn l (k + 1) = u * 256 + x' by rw [frgn_snoc hk1 hx', hu.out])
            obtain ⟨u1, hu1⟩ : ∃ u1, Hid (u * 256 = u1) := ⟨_, Lib.hid rfl⟩
            have m1 : IntKind.i64.wrap ((u : Int) * 256) = (u1 : Int) := by rw [← hu1.out, Int.natCast_mul]; exact IntWalk.i64_in _ (by omega)
            have m0 : IntKind.i64.wrap (x' : Int) = (x' : Int) := IntWalk.i64_in _ (by omega)
            obtain ⟨u2, hu2⟩ : ∃ u2, Hid (u * 256 + x' = u2) := ⟨_, Lib.hid rfl⟩
            have m2 : IntKind.i64.wrap ((u1 : Int) + (x' : Int)) = (u2 : Int) := by rw [← hu2.out, hu1.out, Int.natCast_add]; exact IntWalk.i64_in _ (by have := hu1.out; omega)
            rw [hu2.out] at HS
            have cs := frh_set CR.out.1 CR.out.2 HG8.out (u2 : Int)
            have CS := Lib.hid (And.intro (cs.1.step ((Below.refl _ _).drew)) cs.2.drewX)
            clear cs
            have hcd : wr.drew.cell? ⟨bb, o + k, none⟩ = some (.int .u8 (x' : Int)) := hcx'
            have hcs := (frh_rd CS.out.1 HL.out hx').2
            have z2d : wr.drew.cell? ⟨g8, 2, none⟩ = some (.int .i64 (u : Int)) := z2
            have zfd : wr.drew.frozen? ⟨g8, 2, none⟩ = false := zf
            clear hx' hul CR
            go_upto_region 14 with fail
            go_region
            go_wp2_with fail
            go_roundw
            case rel => exact ⟨k + 1, u2, by omega, by omega, by go_num, HS, CS⟩
            case measure => simp [intOf]; omega
          · have he : k = 4 := by omega
            subst he
            have HUN := Lib.hid (show u = frn false l by rw [← hu.out]; exact HNN.out)
            have CC := Lib.hid (fun v => frh_cell CR.out.1 CR.out.2 HG8.out 3 v)
            have CX := Lib.hid (fun (D : Option Addr) (a b : Nat) => CR.out.2.s3 D a b)
            have z3 := CR.out.2.c3
            have zf := CR.out.2.fz 3
            clear hu
            have i3 : (4 : Int) ≤ n := by omega
            have i4 : (4 : Int) ≤ c := by omega
            go_upto_region 16 with fail
            with_reducible refine at_worldF (fun W => Hid (FrH w W w.heap.size (some ⟨bb, o, none⟩) l ∧ FrX W g8 24 tb te (u : Int) (if c = 4 then (some (⟨bb, o, none⟩ : Addr)) else some ⟨bb, o + 4, none⟩) (n - 4) (c - 4))) (Lib.hid ⟨CC.out _, CX.out _ _ _⟩) ?_
            clear CC CX z3 zf CR wr
            rintro w5 CE
            have RC := Lib.hid (CE.out.1.rd.cutF HZL.out HLC.out)
            obtain ⟨A6, hA6⟩ : ∃ A6, (if c = 4 then (some (⟨bb, o, none⟩ : Addr)) else some ⟨bb, o + 4, none⟩) = A6 := ⟨_, rfl⟩
            rw [hA6] at RC CE ⊢
            clear hA6
            have p0 := CE.out.1.box.c0
            have p1 := CE.out.1.box.c1
            have p2 := CE.out.1.box.c2
            have p3 := CE.out.1.box.c3
            have q0 := CE.out.1.box.fz 0
            have q1 := CE.out.1.box.fz 1
            have q2 := CE.out.1.box.fz 2
            have q3 := CE.out.1.box.fz 3
            have y0 := CE.out.2.c0
            have y1 := CE.out.2.c1
            have y2 := CE.out.2.c2
            have y3 := CE.out.2.c3
            go_wp2_with fail
            refine bodyPost_ret (v := .tuple #[fV tb te (u : Int) A6 (n - 4) (c - 4), .int .i64 0]) ?_ rfl ?_
            · exact fr_res rfl _ _ _ w.heap.size 24 _ _ _ rfl rfl (CE.out.1.box.put tb te (u : Int) A6 (n - 4) (c - 4)) Tryd.underlying24 (by kernel_rfl)
            · have hmm := HMM.out
              subst hmm
              rw [htb.out, hte.out, ← HUN.out]
              exact FrA.mk A6 (c - 4) (by omega) (frh_putrd CE.out.1 RC.out _ _ _ _) (frput_below CE.out.1.bel (Nat.le_refl _) _ _ _ _)
      · have hz' := hz.out
        simp [frsz] at hz'
        subst hz'
        have j1 : ¬ (n : Int) < 2 := by omega
        have j3 : ¬ (15 : Int) < (y : Int) := by have h1 := HBAD.out; have h2 := hy.out.1; simp [frbad] at h1; omega
        clear c1
        go_upto_region 9 with fail
        have C0 := C
        replace C := Lib.hid (C.out.step ((Below.refl _ _).drew))
        replace hcx : w3.drew.cell? ⟨bb, o, none⟩ = some (.int .u8 (x : Int)) := hcx
        go_region_held3 (fun W => W.cell? ⟨bb, o, none⟩ = some (.int .u8 (x : Int))) (first | with_reducible exact hcx | exact (((Below.refl _ _).alloc (Nat.le_refl _) _).cell (p := ⟨bb, o, none⟩) hbb).trans hcx) (fail)
        go_upto_region 10 with fail
        with_reducible refine at_worldF (fun W => Hid (FrH w W w.heap.size (some ⟨bb, o, none⟩) l ∧ FrX W w3.heap.size 24 tb te 0 none 0 0)) (Lib.hid ⟨C0.out.step (((Below.refl _ _).alloc (Nat.le_refl _) _).drew), (FrX.new w3 _ _ _ _ _ _ _).drewX⟩) ?_
        have HG8 := Lib.hid (show w.heap.size < w3.heap.size from C0.out.box.lt)
        clear C C0 hcx p0 p1 p2 p3 q0 q1 q2 q3 hbb
        obtain ⟨g8, hg8⟩ : ∃ g8, g8 = w3.heap.size := ⟨_, rfl⟩
        rw [← hg8] at HG8 ⊢
        clear hg8
        rintro w4 C
        have z2 := C.out.2.c2
        have zf := C.out.2.fz 2
        have C5 := Lib.hid (frh_set C.out.1 C.out.2 HG8.out (y : Int))
        clear C
        go_wp2_with fail
        with_reducible refine at_worldF (fun W => Hid (FrH w W w.heap.size (some ⟨bb, o, none⟩) l ∧ FrX W g8 24 tb te (y : Int) none 0 0)) C5 ?_
        clear C5 z2 zf w4
        rintro w4 C4
        go_loopw [9] (fun i wr => ∃ k u : Nat, 1 ≤ k ∧ k ≤ 2 ∧ i = .int .i64 k ∧ Hid (frgn l k = u) ∧ Hid (FrH w wr w.heap.size (some ⟨bb, o, none⟩) l ∧ FrX wr g8 24 tb te (u : Int) none 0 0)) (fun i _ => 2 - (intOf i).toNat)
        case atStart => exact ⟨1, y, Nat.le_refl _, by omega, rfl, H1, C4⟩
        case round =>
          obtain ⟨k, u, hk1, hk, rfl, hu, CR⟩ := hrel
          by_cases hlt : k < 2
          · have hul : u < 4294967296 := by
              have h1 := frgn_lt HB.out k (by omega) hk1
              rw [hu.out] at h1
              exact Nat.lt_of_lt_of_le h1 (Nat.le_trans (Nat.mul_le_mul_left 64 (Nat.pow_le_pow_right (by omega) (show k - 1 ≤ 3 by omega))) (by decide))
            obtain ⟨b', o', x', e', hbb', hx', hcx'⟩ := CR.out.1.rd.at_ (k := k) (by rw [HL.out]; omega)
            injection e' with e'
            injection e' with e1 e2
            subst e1; subst e2
            have hx256' := HB.out.get hx'
            have z2 := CR.out.2.c2
            have zf := CR.out.2.fz 2
            have i1 : (0 : Int) ≤ k := by omega
            have i2 : (k : Int) < n := by omega
            have i3 : (k : Int) < 2 := by omega
            have HS := Lib.hid (show frgn l (k + 1) = u * 256 + x' by rw [frgn_snoc hk1 hx', hu.out])
            obtain ⟨u1, hu1⟩ : ∃ u1, Hid (u * 256 = u1) := ⟨_, Lib.hid rfl⟩
            have m1 : IntKind.i64.wrap ((u : Int) * 256) = (u1 : Int) := by rw [← hu1.out, Int.natCast_mul]; exact IntWalk.i64_in _ (by omega)
            have m0 : IntKind.i64.wrap (x' : Int) = (x' : Int) := IntWalk.i64_in _ (by omega)
            obtain ⟨u2, hu2⟩ : ∃ u2, Hid (u * 256 + x' = u2) := ⟨_, Lib.hid rfl⟩
            have m2 : IntKind.i64.wrap ((u1 : Int) + (x' : Int)) = (u2 : Int) := by rw [← hu2.out, hu1.out, Int.natCast_add]; exact IntWalk.i64_in _ (by have := hu1.out; omega)
            rw [hu2.out] at HS
            have cs := frh_set CR.out.1 CR.out.2 HG8.out (u2 : Int)
            have CS := Lib.hid (And.intro (cs.1.step ((Below.refl _ _).drew)) cs.2.drewX)
            clear cs
            have hcd : wr.drew.cell? ⟨bb, o + k, none⟩ = some (.int .u8 (x' : Int)) := hcx'
            have hcs := (frh_rd CS.out.1 HL.out hx').2
            have z2d : wr.drew.cell? ⟨g8, 2, none⟩ = some (.int .i64 (u : Int)) := z2
            have zfd : wr.drew.frozen? ⟨g8, 2, none⟩ = false := zf
            clear hx' hul CR
            go_upto_region 14 with fail
            go_region
            go_wp2_with fail
            go_roundw
            case rel => exact ⟨k + 1, u2, by omega, by omega, by go_num, HS, CS⟩
            case measure => simp [intOf]; omega
          · have he : k = 2 := by omega
            subst he
            have HUN := Lib.hid (show u = frn true l by rw [← hu.out]; exact HNN.out)
            have CC := Lib.hid (fun v => frh_cell CR.out.1 CR.out.2 HG8.out 3 v)
            have CX := Lib.hid (fun (D : Option Addr) (a b : Nat) => CR.out.2.s3 D a b)
            have z3 := CR.out.2.c3
            have zf := CR.out.2.fz 3
            clear hu
            have i3 : (2 : Int) ≤ n := by omega
            have i4 : (2 : Int) ≤ c := by omega
            go_upto_region 16 with fail
            with_reducible refine at_worldF (fun W => Hid (FrH w W w.heap.size (some ⟨bb, o, none⟩) l ∧ FrX W g8 24 tb te (u : Int) (if c = 2 then (some (⟨bb, o, none⟩ : Addr)) else some ⟨bb, o + 2, none⟩) (n - 2) (c - 2))) (Lib.hid ⟨CC.out _, CX.out _ _ _⟩) ?_
            clear CC CX z3 zf CR wr
            rintro w5 CE
            have RC := Lib.hid (CE.out.1.rd.cutF HZL.out HLC.out)
            obtain ⟨A6, hA6⟩ : ∃ A6, (if c = 2 then (some (⟨bb, o, none⟩ : Addr)) else some ⟨bb, o + 2, none⟩) = A6 := ⟨_, rfl⟩
            rw [hA6] at RC CE ⊢
            clear hA6
            have p0 := CE.out.1.box.c0
            have p1 := CE.out.1.box.c1
            have p2 := CE.out.1.box.c2
            have p3 := CE.out.1.box.c3
            have q0 := CE.out.1.box.fz 0
            have q1 := CE.out.1.box.fz 1
            have q2 := CE.out.1.box.fz 2
            have q3 := CE.out.1.box.fz 3
            have y0 := CE.out.2.c0
            have y1 := CE.out.2.c1
            have y2 := CE.out.2.c2
            have y3 := CE.out.2.c3
            go_wp2_with fail
            refine bodyPost_ret (v := .tuple #[fV tb te (u : Int) A6 (n - 2) (c - 2), .int .i64 0]) ?_ rfl ?_
            · exact fr_res rfl _ _ _ w.heap.size 24 _ _ _ rfl rfl (CE.out.1.box.put tb te (u : Int) A6 (n - 2) (c - 2)) Tryd.underlying24 (by kernel_rfl)
            · have hmm := HMM.out
              subst hmm
              rw [htb.out, hte.out, ← HUN.out]
              exact FrA.mk A6 (c - 2) (by omega) (frh_putrd CE.out.1 RC.out _ _ _ _) (frput_below CE.out.1.bel (Nat.le_refl _) _ _ _ _)
    · have E := Lib.hid (show frget s l = (pc0, 4) by unfold frget; rw [HL.out, hz.out, if_neg c1, hhd, if_pos hbad])
      rw [HG.out] at E
      obtain ⟨rfl, rfl⟩ := Prod.mk.inj E.out
      have hm0 : m = 0 := by rw [← HM.out]; rfl
      subst hm0
      cases s
      · have hz' := hz.out
        simp [frsz] at hz'
        subst hz'
        have j1 : ¬ (n : Int) < 4 := by omega
        have j3 : ((y : Int) != 0) = true := by rw [bne_iff_ne, ← hy.out.1]; simp [frbad] at hbad; omega
        clear c1 hx hhd hbad
        go_wp2_with fail
        refine bodyPost_ret (v := .tuple #[fV false false 0 none 0 0, .int .i64 4]) ?_ rfl (FrA.mk none 0 (Nat.le_refl _) Rd.nil (frput_below C.out.bel (Nat.le_refl _) _ _ _ _))
        exact fr_res rfl _ _ _ w.heap.size 24 _ _ _ rfl rfl (C.out.box.put false false 0 none 0 0) Tryd.underlying24 (by kernel_rfl)
      · have hz' := hz.out
        simp [frsz] at hz'
        subst hz'
        have j1 : ¬ (n : Int) < 2 := by omega
        have j3 : (15 : Int) < (y : Int) := by rw [← hy.out.1]; simp [frbad] at hbad; omega
        clear c1 hx hhd hbad
        go_wp2_with fail
        refine bodyPost_ret (v := .tuple #[fV false false 0 none 0 0, .int .i64 4]) ?_ rfl (FrA.mk none 0 (Nat.le_refl _) Rd.nil (frput_below C.out.bel (Nat.le_refl _) _ _ _ _))
        exact fr_res rfl _ _ _ w.heap.size 24 _ _ _ rfl rfl (C.out.box.put false false 0 none 0 0) Tryd.underlying24 (by kernel_rfl)
end Go.Proofs.YtdeabomcmbgepaaDoor
