
/-
  JoinRoom, walked. No condition beyond what the law's arguments are.
-/
import Derived.Test.YtamdaepeogmboaaDoorGJqe
import Derived.Test.YtamdaepeogmboaaDoorGAct
namespace Go.Proofs.YtamdaepeogmboaaDoor
set_option maxRecDepth 4000
open Go.RowKit Go.Maps

/-- What the laws know of the program's joiner: it lies in blocks of the law's own. -/
structure LwC (w : World) (b : Nat) (M : Int) (j : Jn) (q : Jq) (ol : List Int) (W : World) : Prop where
  bel : Below w.heap.size w W
  pw : Pw W b j q ol
  own : ∀ i, q.own b i → w.heap.size ≤ i
  ok : Jok M j
  mo : Jmo j
  st : jstp j = none
  fr : ∀ i, q.fr i
section
variable {w W W' : World} {b : Nat} {M M' : Int} {j k : Jn} {q q' : Jq} {ol ol' : List Int}
theorem LwC.below (h : LwC w b M j q ol W) (hb : Below W.heap.size W W') : LwC w b M j q ol W' := ⟨h.bel.trans (hb.mono h.bel.size), h.pw.below hb, h.own, h.ok, h.mo, h.st, h.fr⟩
theorem Ps.bel {w : World} (h : Ps b q W q' W') (hb : Below w.heap.size w W) (ho : ∀ i, q.own b i → w.heap.size ≤ i) : Below w.heap.size w W' ∧ ∀ i, q'.own b i → w.heap.size ≤ i :=
  ⟨hb.trans (h.off.below (fun i hi e => absurd hi (Nat.not_lt.2 (ho i e))) hb.size), fun i hi => (h.own i hi).elim (ho i) fun e => Nat.le_trans hb.size e⟩
theorem LwC.step (h : LwC w b M j q ol W) (hP : Pw W' b k q' ol') (hS : Ps b q W q' W') (hok : Jok M' k) (hmo : Jmo k) (hst : jstp k = none) (hfr : ∀ i, q'.fr i) : LwC w b M' k q' ol' W' :=
  ⟨(hS.bel h.bel h.own).1, hP, (hS.bel h.bel h.own).2, hok, hmo, hst, hfr⟩
/-- What lay before the law began is not the joiner's. -/
theorem LwC.rd (h : LwC w b M j q ol W) {A : Option Addr} {l : List Nat} (hr : RdF (fun _ => True) w A l) : RdF (fun i => ¬ q.own b i) W A l :=
  ((hr.mono (G := fun i => i < w.heap.size) fun _ hi _ => hi).keep (.of_below h.bel)).mono fun i _ hi e => absurd hi (Nat.not_lt.2 (h.own i e))
end
/-- An act in a block. -/
def AcX (w : World) (g : Nat) (lk : Int) (p : Pc) (A : Option Addr) (n c : Nat) : Prop := w.heap[g]? = some (.cells #[.int .i64 lk, .bool p.b, .bool p.e, .int .i64 p.n, .slice A n c] 39 (0, 0))
section
variable {w w' : World} {g : Nat} {lk : Int} {p : Pc} {A : Option Addr} {n c : Nat}
theorem AcX.c0 (h : AcX w g lk p A n c) : w.cell? ⟨g, 0, none⟩ = some (.int .i64 lk) := by rw [cell_of_row w g _ _ _ _ h]; rfl
theorem AcX.c1 (h : AcX w g lk p A n c) : w.cell? ⟨g, 1, none⟩ = some (.bool p.b) := by rw [cell_of_row w g _ _ _ _ h]; rfl
theorem AcX.c2 (h : AcX w g lk p A n c) : w.cell? ⟨g, 2, none⟩ = some (.bool p.e) := by rw [cell_of_row w g _ _ _ _ h]; rfl
theorem AcX.c3 (h : AcX w g lk p A n c) : w.cell? ⟨g, 3, none⟩ = some (.int .i64 p.n) := by rw [cell_of_row w g _ _ _ _ h]; rfl
theorem AcX.c4 (h : AcX w g lk p A n c) : w.cell? ⟨g, 4, none⟩ = some (.slice A n c) := by rw [cell_of_row w g _ _ _ _ h]; rfl
theorem AcX.off {X : Nat → Prop} (h : AcX w g lk p A n c) (ho : Offs X w w') (hX : ¬ X g) : AcX w' g lk p A n c := (ho.block g (Array.getElem?_eq_some_iff.1 h).1 hX).trans h
end
set_option maxHeartbeats 16000000 in
theorem joinRoom_any (a0 a1 : Int) (a : Option Addr) (len cap : Nat) (l : List (Int × Pc)) (w : World) (h0 : 0 ≤ a0 ∧ a0 ≤ 255) (h1 : 0 ≤ a1 ∧ a1 ≤ 255) (hl : IsActs w a len cap l) (hT : TabF w) :
    Calls Tryd.prog 6 #[.int .u8 a0, .int .u8 a1, .slice a len cap] w fun e w' => e = .returned (.bool true) ∧ Below w.heap.size w w' := by
  have HT := Lib.hid hT
  have HL := Lib.hid hl
  clear hT hl
  by_cases hlen : 60 < len
  · have h2 : (60 : Int) < (len : Int) := by omega
    go_enter Tryd.func6, Tryd.ntmps6
    go_wp2_with (first
      | (go_at_call 7; (with_reducible refine (jspeaks w HT.out).mono ?_); rintro e w2 ⟨rfl, hb⟩; replace hb := Lib.hid hb; dsimp only)
      | (go_at_call 7; (with_reducible refine (jspeaks _ (HT.out.below hb.out)).mono ?_); rintro e w3 ⟨rfl, hb3⟩; replace hb3 := Lib.hid hb3; dsimp only))
    go_ret
    exact ⟨rfl, hb.out.trans (hb3.out.mono hb.out.size)⟩
  · obtain ⟨r0, hr0⟩ : ∃ r : Nat, a0.tmod 16 = (r : Int) ∧ r < 16 := ⟨(a0.tmod 16).toNat, by rw [Int.tmod_eq_emod_of_nonneg h0.1]; omega, by rw [Int.tmod_eq_emod_of_nonneg h0.1]; omega⟩
    obtain ⟨r1, hr1⟩ : ∃ r : Nat, a1.tmod 8 = (r : Int) ∧ r < 8 := ⟨(a1.tmod 8).toNat, by rw [Int.tmod_eq_emod_of_nonneg h1.1]; omega, by rw [Int.tmod_eq_emod_of_nonneg h1.1]; omega⟩
    have t0 := hr0.1
    have t1 := hr1.1
    have h2 : ¬ (60 : Int) < (len : Int) := by omega
    obtain ⟨N, hN⟩ : ∃ N : Nat, N = 1 + r0 := ⟨_, rfl⟩
    obtain ⟨m, hm⟩ : ∃ m : Nat, m = 1 + r1 := ⟨_, rfl⟩
    have NB := Lib.hid (show 0 < N ∧ N ≤ 16 ∧ 0 < m ∧ m ≤ 8 by omega)
    have e0 : IntKind.i64.wrap (1 + (r0 : Int)) = (N : Int) := by rw [IntKind.wrap_i64]; omega
    have e1 : IntKind.i64.wrap (1 + (r1 : Int)) = (m : Int) := by rw [IntKind.wrap_i64]; omega
    have u0 : IntKind.i64.wrap a0 = a0 := IntWalk.i64_in _ (by omega)
    have u1 : IntKind.i64.wrap a1 = a1 := IntWalk.i64_in _ (by omega)
    have HLEN := Lib.hid (show len ≤ 60 by omega)
    clear hr0 hr1 hN hm h0 h1 hlen
    go_enter Tryd.func6, Tryd.ntmps6
    go_wp2_with (first
      | (go_at_call 7; (with_reducible refine (jspeaks w HT.out).mono ?_); rintro e w2 ⟨rfl, hb⟩; replace hb := Lib.hid hb; dsimp only)
      | (go_at_call 8; (with_reducible refine (pnew_any false N (m : Int) 50 _ (HT.out.below hb.out) NB.out.1 NB.out.2.1 (by have := NB.out; omega) (by have := NB.out; omega) (by decide) (by decide)).mono ?_); rintro e w3 ⟨b, q, rfl, k1, k2, k3, k4, k5⟩; have C := Lib.hid (show LwC w b 0 (jnew false N (m : Int) 50) q [] w3 ∧ q.mn = 0 from ⟨⟨hb.out.trans (k2.mono hb.out.size), k1, fun i hi => Nat.le_trans hb.out.size (k3 i hi), (jnew_ok NB.out.1 NB.out.2.1 (by decide) (by decide)).1, jnew_mo _ _ _ _, (jnew_ok NB.out.1 NB.out.2.1 (by decide) (by decide)).2, k5⟩, k4⟩); clear k1 k2 k3 k4 k5; dsimp only))
    have NA := Lib.hid (show (jnew false N (m : Int) 50).sh = false ∧ (jnew false N (m : Int) 50).room = (m : Int) ∧ (jnew false N (m : Int) 50).last.length = N ∧ (jnew false N (m : Int) 50).wait.length ≤ m from ⟨rfl, rfl, List.length_replicate, Nat.zero_le _⟩)
    generalize jnew false N (m : Int) 50 = J0 at C NA
    clear t0 t1 e0 e1 u0 u1 hb
    go_loopw [47] (fun i wr => ∃ (k : Nat) (j : Jn) (q : Jq) (ol : List Int), k ≤ len ∧ i = .int .i64 (k : Int) ∧ Hid (LwC w b ((k : Int) * 16777216) j q ol wr) ∧ Hid (q.mn ≤ k ∧ j.sh = false ∧ j.room = (m : Int) ∧ j.last.length = N ∧ j.wait.length ≤ m)) (fun i _ => len - (intOf i).toNat)
    case atStart => exact ⟨0, J0, q, [], Nat.zero_le _, rfl, Lib.hid (by simpa using C.out.1), Lib.hid ⟨by rw [C.out.2]; exact Nat.zero_le _, NA.out⟩⟩
    case round =>
      clear C NA
      obtain ⟨k, j, q, ol, hk, rfl, C, D⟩ := hrel
      by_cases hlt : k < len
      · obtain ⟨ba, off, ⟨lk, p⟩, Ak, ck, rfl, hba, hx, y0, y1, y2, y3, y4, hck, hrd⟩ := HL.out.rd.cm (k := k) (by rw [HL.out.nl]; exact hlt)
        have up : ∀ {o : Nat} {v : Value}, w.cell? ⟨ba, o, none⟩ = some v → wr.cell? ⟨ba, o, none⟩ = some v := fun h => (C.out.bel.cell (p := ⟨ba, _, none⟩) hba).trans h
        have z0 := up y0; have z1 := up y1; have z2 := up y2; have z3 := up y3; have z4 := up y4
        have i1 : (k : Int) < (len : Int) := by omega
        have i2 : ((k : Int)).toNat = k := by omega
        have i3 : (0 : Int) ≤ (k : Int) := by omega
        have wrk : IntKind.i64.wrap ((k : Int) + 1) = ((k + 1 : Nat) : Int) := by rw [IntKind.wrap_i64]; have := HLEN.out; omega
        have RD := Lib.hid (show RdF (fun _ => True) w Ak p.d from hrd)
        obtain ⟨dn, hdn⟩ : ∃ n, p.d.length = n := ⟨_, rfl⟩
        rw [hdn] at z4
        have CK := Lib.hid (show dn ≤ ck by rw [← hdn]; exact hck)
        have DN := Lib.hid hdn
        clear y0 y1 y2 y3 y4 up hrd hck hdn
        go_upto_region 10 with fail
        refine at_worldJ (fun W => Hid (LwC w b ((k : Int) * 16777216) j q ol W ∧ AcX W wr.heap.size lk p Ak dn ck ∧ ¬ q.own b wr.heap.size)) (Lib.hid ⟨C.out.below ((Below.refl _ _).alloc (Nat.le_refl _) _), heap_alloc_new wr _, C.out.pw.new (Nat.le_refl _)⟩) ?_
        clear C z0 z1 z2 z3 z4
        generalize wr.heap.size = g
        intro W C
        have y4 := C.out.2.1.c4
        by_cases hdn : 60 < dn
        · have h3 : (60 : Int) < (dn : Int) := by omega
          go_wp2_with fail
          go_ret
          exact ⟨rfl, C.out.1.bel⟩
        · have h3 : ¬ (60 : Int) < (dn : Int) := by omega
          have y0 := C.out.2.1.c0; have y1 := C.out.2.1.c1; have y2 := C.out.2.1.c2; have y3 := C.out.2.1.c3
          obtain ⟨u, hu⟩ : ∃ u, Hid (j.wait.length = u) := ⟨_, Lib.hid rfl⟩
          have hk1 := fun W => pkept_any b j q ol W
          rw [hu.out] at hk1
          have um := Lib.hid (show u ≤ m by rw [← hu.out]; exact D.out.2.2.2.2)
          have hum : ¬ (m : Int) < (u : Int) := by have := um.out; omega
          have wru : IntKind.i64.wrap ((u : Int) + 1) = (u : Int) + 1 := IntWalk.i64_in _ (by have := um.out; have := NB.out; omega)
          have huu : ¬ (u : Int) + 1 < (u : Int) := by omega
          have WAYS : lk < 0 ∨ (¬ lk < 0 ∧ (N : Int) ≤ lk) ∨ ((¬ lk < 0 ∧ ¬ (N : Int) ≤ lk) ∧ (p.n < 0 ∨ (16777216 : Int) ≤ p.n)) ∨ ((¬ lk < 0 ∧ ¬ (N : Int) ≤ lk) ∧ 0 ≤ p.n ∧ p.n < 16777216) := by omega
          rcases WAYS with g1 | ⟨g1, g2⟩ | ⟨⟨g1, g2⟩, g3⟩ | ⟨⟨g1, g2⟩, g3, g4⟩
          · have AR := Lib.hid (show lk < 0 ∨ (j.last.length : Int) ≤ lk from .inl g1)
            go_wp2_with (first
              | (go_at_call 15; (with_reducible refine (pfeed_arg b j q ol lk p Ak dn ck _ C.out.1.pw AR.out).mono ?_); rintro e w5 ⟨rfl, hb5⟩; have C2 := Lib.hid (C.out.1.below hb5); have x0 := (C.out.2.1.off (X := fun _ => False) (.of_below hb5) id).c0; clear hb5; dsimp only)
              | (go_at_call 16; (with_reducible refine (hk1 _ C.out.1.pw).mono ?_); rintro e w9 ⟨rfl, hw9⟩; subst w9; dsimp only)
              | (go_at_call 16; (with_reducible refine (hk1 _ C2.out.pw).mono ?_); rintro e w9 ⟨rfl, hw9⟩; subst w9; dsimp only))
            exact ⟨⟨k + 1, j, q, ol, by omega, by rw [show ((k + 1 : Nat) : Int) = (k : Int) + 1 from by omega], Lib.hid ⟨C2.out.bel, C2.out.pw, C2.out.own, C2.out.ok.up (by omega), C2.out.mo, C2.out.st, C2.out.fr⟩, Lib.hid ⟨Nat.le_succ_of_le D.out.1, D.out.2⟩⟩, by show len - ((k : Int) + 1).toNat < len - ((k : Int)).toNat; omega⟩
          · have AR := Lib.hid (show lk < 0 ∨ (j.last.length : Int) ≤ lk from .inr (by rw [D.out.2.2.2.1]; exact g2))
            go_wp2_with (first
              | (go_at_call 15; (with_reducible refine (pfeed_arg b j q ol lk p Ak dn ck _ C.out.1.pw AR.out).mono ?_); rintro e w5 ⟨rfl, hb5⟩; have C2 := Lib.hid (C.out.1.below hb5); have x0 := (C.out.2.1.off (X := fun _ => False) (.of_below hb5) id).c0; clear hb5; dsimp only)
              | (go_at_call 16; (with_reducible refine (hk1 _ C.out.1.pw).mono ?_); rintro e w9 ⟨rfl, hw9⟩; subst w9; dsimp only)
              | (go_at_call 16; (with_reducible refine (hk1 _ C2.out.pw).mono ?_); rintro e w9 ⟨rfl, hw9⟩; subst w9; dsimp only))
            exact ⟨⟨k + 1, j, q, ol, by omega, by rw [show ((k + 1 : Nat) : Int) = (k : Int) + 1 from by omega], Lib.hid ⟨C2.out.bel, C2.out.pw, C2.out.own, C2.out.ok.up (by omega), C2.out.mo, C2.out.st, C2.out.fr⟩, Lib.hid ⟨Nat.le_succ_of_le D.out.1, D.out.2⟩⟩, by show len - ((k : Int) + 1).toNat < len - ((k : Int)).toNat; omega⟩
          · obtain ⟨kk, rfl⟩ : ∃ kk : Nat, lk = (kk : Int) := ⟨lk.toNat, by omega⟩
            have KB := Lib.hid (show kk < j.last.length by rw [D.out.2.2.2.1]; omega)
            have PN := Lib.hid (show p.n < 0 ∨ (frmod j.sh : Int) ≤ p.n by rw [D.out.2.1]; exact g3)
            clear g3
            go_wp2_with (first
              | (go_at_call 15; (with_reducible refine (pfeed_num b j q ol kk p Ak dn ck _ C.out.1.pw KB.out PN.out).mono ?_); rintro e w5 ⟨rfl, hb5⟩; have C2 := Lib.hid (C.out.1.below hb5); have x0 := (C.out.2.1.off (X := fun _ => False) (.of_below hb5) id).c0; clear hb5; dsimp only)
              | (go_at_call 16; (with_reducible refine (hk1 _ C.out.1.pw).mono ?_); rintro e w9 ⟨rfl, hw9⟩; subst w9; dsimp only)
              | (go_at_call 16; (with_reducible refine (hk1 _ C2.out.pw).mono ?_); rintro e w9 ⟨rfl, hw9⟩; subst w9; dsimp only))
            exact ⟨⟨k + 1, j, q, ol, by omega, by rw [show ((k + 1 : Nat) : Int) = (k : Int) + 1 from by omega], Lib.hid ⟨C2.out.bel, C2.out.pw, C2.out.own, C2.out.ok.up (by omega), C2.out.mo, C2.out.st, C2.out.fr⟩, Lib.hid ⟨Nat.le_succ_of_le D.out.1, D.out.2⟩⟩, by show len - ((k : Int) + 1).toNat < len - ((k : Int)).toNat; omega⟩
          · obtain ⟨kk, rfl⟩ : ∃ kk : Nat, lk = (kk : Int) := ⟨lk.toNat, by omega⟩
            have KB := Lib.hid (show kk < j.last.length by rw [D.out.2.2.2.1]; omega)
            have PN := Lib.hid (show 0 ≤ p.n ∧ p.n < (frmod j.sh : Int) by rw [D.out.2.1]; exact ⟨g3, g4⟩)
            have MS : (frmod j.sh : Int) = 16777216 := by rw [D.out.2.1]; rfl
            have MB := Lib.hid (show (k : Int) * 16777216 + (frmod j.sh : Int) ≤ 68719476736 ∧ (k : Int) * 16777216 + (frmod j.sh : Int) = ((k + 1 : Nat) : Int) * 16777216 by rw [MS]; have := HLEN.out; omega)
            have RO := Lib.hid (show 0 ≤ j.room by rw [D.out.2.2.1]; omega)
            have DB := Lib.hid (show dn ≤ 1073741824 by omega)
            have WB := Lib.hid (show j.wait.length < 1073741824 by have := D.out.2.2.2.2; have := NB.out; omega)
            have QB := Lib.hid (show q.mn < 1099511627776 by have := D.out.1; have := HLEN.out; omega)
            have FR := Lib.hid (jfeed_room C.out.1.ok KB.out (p := p) (by rw [DN.out]; exact DB.out) WB.out RO.out (by have := MB.out.1; omega))
            have FK := Lib.hid (jfeed_keep j kk p)
            obtain ⟨u2, hu2⟩ : ∃ u, Hid ((jfeed j kk p).wait.length = u) := ⟨_, Lib.hid rfl⟩
            have U2 := Lib.hid (show u2 ≤ m ∧ u2 ≤ u + 1 by
              have a1 := FR.out.2.2.1
              have a2 := FR.out.2.2.2
              rw [hu2.out, D.out.2.2.1] at a1
              rw [hu2.out, hu.out] at a2
              omega)
            have hk3 := fun W q ol => pkept_any b (jfeed j kk p) q ol W
            rw [hu2.out] at hk3
            have hum2 : ¬ (m : Int) < (u2 : Int) := by have := U2.out; omega
            have huu2 : ¬ (u : Int) + 1 < (u2 : Int) := by have := U2.out; omega
            clear g3 g4 MS
            go_wp2_with (first
              | (go_at_call 15; (with_reducible refine (pfeed_any b j q ol _ _ kk p Ak dn ck _ C.out.1.pw (C.out.1.rd RD.out) DN.out CK.out C.out.1.ok C.out.1.mo rfl MB.out.1 RO.out KB.out PN.out.1 PN.out.2 DB.out WB.out QB.out C.out.1.fr).mono ?_); rintro e w5 ⟨v5, rfl, q5, ol5, A5, n5, c5, rfl, k1, k2, k3, k4, k5, k6, k7⟩; have C2 := Lib.hid (C.out.1.step k4 k5 FR.out.1 (C.out.1.mo.feed C.out.1.ok KB.out PN.out.1 PN.out.2) FR.out.2.1 k7); have Q5 := Lib.hid k6; have x0 := (C.out.2.1.off k5.off C.out.2.2).c0; clear k1 k2 k3 k4 k5 k6 k7; dsimp only)
              | (go_at_call 16; (with_reducible refine (hk1 _ C.out.1.pw).mono ?_); rintro e w9 ⟨rfl, hw9⟩; subst w9; dsimp only)
              | (go_at_call 16; (with_reducible refine (hk3 _ _ _ C2.out.pw).mono ?_); rintro e w9 ⟨rfl, hw9⟩; subst w9; dsimp only))
            exact ⟨⟨k + 1, jfeed j kk p, q5, ol5, by omega, by rw [show ((k + 1 : Nat) : Int) = (k : Int) + 1 from by omega], Lib.hid ⟨C2.out.bel, C2.out.pw, C2.out.own, C2.out.ok.up (Int.le_of_eq MB.out.2), C2.out.mo, C2.out.st, C2.out.fr⟩, Lib.hid ⟨Nat.le_trans Q5.out (Nat.succ_le_succ D.out.1), FK.out.1.trans D.out.2.1, FK.out.2.1.trans D.out.2.2.1, FK.out.2.2.2.trans D.out.2.2.2.1, by rw [hu2.out]; exact U2.out.1⟩⟩, by show len - ((k : Int) + 1).toNat < len - ((k : Int)).toNat; omega⟩
      · have i1 : ¬ (k : Int) < (len : Int) := by omega
        have MB : (k : Int) * 16777216 ≤ 68719476736 := by have := HLEN.out; omega
        have MB2 : (k : Int) * 16777216 ≤ 1152921504606846976 := by omega
        have FO := Lib.hid (C.out.ok.told.over2 (k := 0) (jstp_told C.out.st) (Int.le_refl _) MB2)
        have FN := Lib.hid (jflush_none C.out.ok C.out.st MB2)
        have FN2 := Lib.hid (show (jflush (jflush j)).told.length = 0 by rw [FN.out.2]; rfl)
        have MB3 := Lib.hid MB
        have hk2 := fun W q ol => pkept_any b (jflush j) q ol W
        rw [FN.out.1] at hk2
        have hk3 : ∀ W q ol, Pw W b (jflush j) q ol → Calls Tryd.prog 16 #[.pointer (some ⟨b, 0, none⟩)] W fun e w' => e = .returned (.int .i64 0) ∧ w' = W := hk2
        clear hk2 MB MB2
        go_wp2_with (first
          | (go_at_call 13; (with_reducible refine (pflush_any b j q ol _ _ C.out.pw C.out.ok C.out.mo C.out.st MB3.out C.out.fr).mono ?_); rintro e w5 ⟨v5, rfl, q5, ol5, A5, n5, c5, rfl, k1, k2, k3, k4, k5, k6, k7⟩; have C2 := Lib.hid (C.out.step k4 k5 FO.out.1 C.out.mo.flush FO.out.2.1 k7); clear k1 k2 k3 k4 k5 k6 k7; dsimp only)
          | (go_at_call 16; (with_reducible refine (hk3 _ _ _ C2.out.pw).mono ?_); rintro e w9 ⟨rfl, hw9⟩; subst w9; dsimp only)
          | (go_at_call 13; (with_reducible refine (pflush_any b (jflush j) q5 ol5 _ _ C2.out.pw C2.out.ok C2.out.mo C2.out.st MB3.out C2.out.fr).mono ?_); rintro e w6 ⟨v6, rfl, q6, ol6, A6, n6, c6, rfl, k1, k2, k3, k4, k5, k6, k7⟩; rw [FN2.out] at k1; subst k1; have E := Lib.hid (k5.bel C2.out.bel C2.out.own); clear k2 k3 k4 k5 k6 k7; dsimp only))
        go_ret
        exact ⟨rfl, E.out.1⟩
end Go.Proofs.YtamdaepeogmboaaDoor
