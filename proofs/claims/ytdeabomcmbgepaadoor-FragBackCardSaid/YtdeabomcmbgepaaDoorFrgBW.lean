
/-
  The walk of the statement FragBack: it answers true for every piece and all octets. Condition: the shapes stand as the start-up lays them ('TabF').
-/
import Derived.Test.YtdeabomcmbgepaaDoorFrgTW
namespace Go.Proofs.YtdeabomcmbgepaaDoor
set_option maxRecDepth 4000
open Go.RowKit

set_option maxHeartbeats 2000000 in
theorem frback_long (s b e : Bool) (x : Int) (A : Option Addr) (n c : Nat) (l : List Nat) (B : Option Addr) (m d : Nat) (k : List Nat) (w : World) (h : Rd w w.heap.size A l) (h' : Rd w w.heap.size B k) (hlong : 1000 < n ∨ 1000 < m) (hT : TabF w) :
    Calls Tryd.prog 4 #[.bool s, fV b e x A n c, .slice B m d] w fun r w' => r = .returned (.bool true) ∧ Below w.heap.size w w' := by
  have C := Lib.hid (FrW.start h h' hT b e x n c)
  by_cases c1 : 1000 < n
  · have j1 : (1000 : Int) < n := by omega
    clear h h' hT hlong c1
    go_enter Tryd.func4, Tryd.ntmps4
    go_wp2_with (go_at_call 8; (with_reducible refine (frspeaks _ C.out.tab).mono ?_); rintro r w2 ⟨rfl, hb⟩; replace C := Lib.hid (C.out.step hb); clear hb; have y3 := C.out.box.c3)
    go_ret
    exact ⟨rfl, C.out.bel⟩
  · have j1 : ¬ (1000 : Int) < n := by omega
    have j2 : (1000 : Int) < m := by omega
    clear h h' hT hlong c1
    go_enter Tryd.func4, Tryd.ntmps4
    go_wp2_with (go_at_call 8; (with_reducible refine (frspeaks _ C.out.tab).mono ?_); rintro r w2 ⟨rfl, hb⟩; replace C := Lib.hid (C.out.step hb); clear hb; have y3 := C.out.box.c3)
    go_ret
    exact ⟨rfl, C.out.bel⟩

set_option maxHeartbeats 4000000 in
theorem frback_walk (s b e : Bool) (x : Int) (A : Option Addr) (n c : Nat) (l : List Nat) (B : Option Addr) (m d : Nat) (k : List Nat) (w : World) (hp : IsPc w b e x A n c l) (hk : k.length = m) (hmd : m ≤ d) (hkb : By k) (h' : Rd w w.heap.size B k) (hT : TabF w) :
    Calls Tryd.prog 4 #[.bool s, fV b e x A n c, .slice B m d] w fun r w' => r = .returned (.bool true) ∧ Below w.heap.size w w' := by
  by_cases hlong : 1000 < n ∨ 1000 < m
  · exact frback_long s b e x A n c l B m d k w hp.rd h' hlong hT
  have j1 : ¬ (1000 : Int) < n := by omega
  have j2 : ¬ (1000 : Int) < m := by omega
  have C := Lib.hid (FrW.start hp.rd h' hT b e x n c)
  obtain ⟨z, hz⟩ : ∃ z, Hid ((frputA s ⟨b, e, x, l⟩).length = z) := ⟨_, Lib.hid rfl⟩
  obtain ⟨p, v, hg⟩ : ∃ p v, Hid (frget s k = (p, v)) := ⟨_, _, Lib.hid rfl⟩
  obtain ⟨u, hu⟩ : ∃ u, Hid (p.d.length = u) := ⟨_, Lib.hid rfl⟩
  have HL := Lib.hid hp.nl
  have HK := Lib.hid hk
  have HN := Lib.hid (show n ≤ 1000 by omega)
  have HM := Lib.hid (show m ≤ 1000 by omega)
  have HC := Lib.hid hp.nc
  have HB := Lib.hid hp.by_
  have HKB := Lib.hid hkb
  have HMD := Lib.hid hmd
  cases hr : frright s x
  · have HQ := Lib.hid (show frputE s ⟨b, e, x, l⟩ = 5 by unfold frputE; rw [hr]; rfl)
    have hz0 : z = 0 := by rw [← hz.out]; unfold frputA; rw [hr]; rfl
    subst hz0
    clear hp hk hmd hkb h' hT hlong hr
    go_enter Tryd.func4, Tryd.ntmps4
    go_upto_region 3 with (go_at_call 8; (with_reducible refine (frspeaks _ C.out.tab).mono ?_); rintro r w2 ⟨rfl, hb⟩; replace C := Lib.hid (C.out.step hb); clear hb; have y3 := C.out.box.c3)
    have y0 := C.out.box.c0
    have y1 := C.out.box.c1
    have y2 := C.out.box.c2
    go_upto_region 10 with (go_at_call 9; (with_reducible refine (frput_any s b e x A l n c _ C.out.ra HL.out (Nat.le_trans HN.out (by decide)) C.out.tab 0 5 hz.out HQ.out).mono ?_); rintro r w3 ⟨A1, c1, rfl, HN1⟩; replace C := Lib.hid (C.out.step HN1.2.2.2); clear HN1 y0 y1 y2 y3)
    have CT := C
    clear C
    with_reducible refine at_worldF (fun W => Hid (FrW w W w.heap.size b e x A n c l B k)) CT ?_
    clear CT
    rintro w8 C
    go_upto_region 11 with (go_at_call 11; (with_reducible refine (frget_any s k p v hg.out u hu.out m d B _ C.out.rb HKB.out HK.out (Nat.le_trans HM.out (by decide)) HMD.out C.out.tab).mono ?_); rintro r w9 ⟨A3, c3, rfl, HN3⟩; replace C := Lib.hid (C.out.step HN3.2.2.2); have R3 := Lib.hid HN3.2.2.1; have K3 := Lib.hid (own_cap HN3.2.1); clear HN3)
    with_reducible refine at_worldF (fun W => Hid (FrW w W w.heap.size b e x A n c l B k) ∧ Hid (Rd W W.heap.size A3 p.d) ∧ Hid (FrX W w9.heap.size 29 p.b p.e p.n A3 u c3)) ⟨Lib.hid (C.out.al _), Lib.hid (R3.out.on ((Below.refl _ _).alloc (Nat.le_refl _) _)), Lib.hid (FrX.new _ _ _ _ _ _ _ _)⟩ ?_
    clear C R3
    generalize w9.heap.size = g11
    rintro w10 ⟨C, R3, X11⟩
    have x0 := X11.out.c0
    have x1 := X11.out.c1
    have x2 := X11.out.c2
    have x3 := X11.out.c3
    by_cases hv : v = 0
    · obtain ⟨hr9, he9⟩ := frget_put s k HKB.out (by rw [hg.out]; exact hv)
      rw [hg.out] at hr9 he9
      have E9 := Lib.hid (show frputA s p = k by unfold frputA; rw [if_pos hr9]; exact he9)
      have E8 := Lib.hid (show frputE s p = 0 by unfold frputE; rw [if_pos hr9])
      have E7 := Lib.hid (show (frputA s ⟨p.b, p.e, p.n, p.d⟩).length = m by show (frputA s p).length = m; rw [E9.out, HK.out])
      have U := Lib.hid (show u ≤ 274877906944 by have h1 := frget_le s k; rw [hg.out] at h1; have h2 := hu.out; have h3 := HK.out; have h4 := HM.out; dsimp only at h1; omega)
      subst hv
      clear hr9 he9
      go_wp2_with (first
        | (go_at_call 9; (with_reducible refine (frput_any s p.b p.e p.n A3 p.d u c3 _ R3.out hu.out U.out C.out.tab m 0 E7.out E8.out).mono ?_); rintro r w11 ⟨A5, c5, rfl, HN5⟩; replace C := Lib.hid (C.out.step HN5.2.2.2); have R5 := Lib.hid HN5.2.2.1; clear HN5)
        | (go_at_call 13; (with_reducible refine (equal_yes (frputA s ⟨p.b, p.e, p.n, p.d⟩) k m m _ _ _ _ _ R5.out C.out.rb E7.out HK.out (Nat.le_trans HM.out (by decide)) E9.out).mono ?_); rintro r w12 ⟨rfl, hb12⟩))
      go_ret
      exact ⟨rfl, C.out.bel.trans (hb12.mono C.out.bel.size)⟩
    · have hp0 := frget_err s k (by rw [hg.out]; exact hv)
      rw [hg.out] at hp0
      have hp1 : p = pc0 := hp0
      subst hp1
      have hu0 : u = 0 := by rw [← hu.out]; rfl
      subst hu0
      have j9 : ((v : Int) != 0) = true := by rw [bne_iff_ne]; omega
      clear hv hp0
      go_wp2_with fail
      go_ret
      exact ⟨rfl, C.out.bel⟩
  · have HQ := Lib.hid (show frputE s ⟨b, e, x, l⟩ = 0 by unfold frputE; rw [hr]; rfl)
    have HG1 := Lib.hid (show frget s (frputA s ⟨b, e, x, l⟩) = (⟨b, e, x, l⟩, 0) by unfold frputA; rw [if_pos hr]; exact frput_get s ⟨b, e, x, l⟩ hr)
    have HZ := Lib.hid (show z ≤ 274877906944 by have h1 := frputA_le s ⟨b, e, x, l⟩; rw [hz.out] at h1; have h2 := hp.nl; have h3 : (Pc.mk b e x l).d.length = l.length := rfl; omega)
    have HBY := Lib.hid (show By (frputA s ⟨b, e, x, l⟩) by
      obtain ⟨h0, h1⟩ := frright_iff.1 hr
      unfold frputA
      rw [if_pos hr]
      exact By.app (frhead_by s b e _ (show x.toNat < frmod s by omega)) hp.by_)
    have HPB := Lib.hid (show ByF [(⟨b, e, x, l⟩ : Pc)] from fun y hy => by
      rw [List.mem_singleton] at hy
      subst hy
      exact hp.by_)
    clear hp hk hmd hkb h' hT hlong hr
    go_enter Tryd.func4, Tryd.ntmps4
    go_upto_region 3 with (go_at_call 8; (with_reducible refine (frspeaks _ C.out.tab).mono ?_); rintro r w2 ⟨rfl, hb⟩; replace C := Lib.hid (C.out.step hb); clear hb; have y3 := C.out.box.c3)
    have y0 := C.out.box.c0
    have y1 := C.out.box.c1
    have y2 := C.out.box.c2
    go_upto_region 6 with (first
      | (go_at_call 9; (with_reducible refine (frput_any s b e x A l n c _ C.out.ra HL.out (Nat.le_trans HN.out (by decide)) C.out.tab z 0 hz.out HQ.out).mono ?_); rintro r w3 ⟨A1, c1, rfl, HN1⟩; replace C := Lib.hid (C.out.step HN1.2.2.2); have R1 := Lib.hid HN1.2.2.1; have K1 := Lib.hid (own_cap HN1.2.1); clear HN1 y0 y1 y2 y3)
      | (go_at_call 11; (with_reducible refine (frget_any s (frputA s ⟨b, e, x, l⟩) ⟨b, e, x, l⟩ 0 HG1.out n HL.out z c1 A1 _ R1.out HBY.out hz.out HZ.out K1.out C.out.tab).mono ?_); rintro r w4 ⟨A2, c2, rfl, HN2⟩; replace C := Lib.hid (C.out.step HN2.2.2.2); have R2 := Lib.hid HN2.2.2.1; have K2 := Lib.hid (own_cap HN2.2.1); clear HN2))
    with_reducible refine at_worldF (fun W => Hid (FrW w W w.heap.size b e x A n c l B k) ∧ Hid (Rd W W.heap.size A2 l) ∧ Hid (FrX W w4.heap.size 29 b e x A2 n c2)) ⟨Lib.hid (C.out.al _), Lib.hid (R2.out.on ((Below.refl _ _).alloc (Nat.le_refl _) _)), Lib.hid (FrX.new _ _ _ _ _ _ _ _)⟩ ?_
    clear C R1 R2
    generalize w4.heap.size = g9
    rintro w5 ⟨C, R2, X9⟩
    have L := Lib.hid (fr_lits w5 24 24 (b := b) (e := e) (x := x) (b' := b) (e' := e) (x' := x) R2.out C.out.ra HL.out HL.out K2.out HC.out)
    have y0 := C.out.box.c0
    have y1 := C.out.box.c1
    have y2 := C.out.box.c2
    have y3 := C.out.box.c3
    have x0 := X9.out.c0
    have x1 := X9.out.c1
    have x2 := X9.out.c2
    have x3 := X9.out.c3
    have l1 := X9.out.lt
    have l2 := C.out.box.lt
    go_upto_region 10 with (go_at_call 14; (with_reducible refine (frsame_any [⟨b, e, x, l⟩] [⟨b, e, x, l⟩] 1 1 1 1 _ _ _ _ _ L.out.1 L.out.2.1 HPB.out HPB.out rfl rfl (by omega) true (decide_eq_true rfl)).mono ?_); rintro r w6 ⟨rfl, hb6⟩; have CT := Lib.hid (C.out.step (L.out.2.2.trans (hb6.mono L.out.2.2.size))); clear hb6 C X9 y0 y1 y2 y3 x0 x1 x2 x3 l1 l2 L)
    with_reducible refine at_worldF (fun W => Hid (FrW w W w.heap.size b e x A n c l B k)) CT ?_
    clear CT
    rintro w8 C
    go_upto_region 11 with (go_at_call 11; (with_reducible refine (frget_any s k p v hg.out u hu.out m d B _ C.out.rb HKB.out HK.out (Nat.le_trans HM.out (by decide)) HMD.out C.out.tab).mono ?_); rintro r w9 ⟨A3, c3, rfl, HN3⟩; replace C := Lib.hid (C.out.step HN3.2.2.2); have R3 := Lib.hid HN3.2.2.1; have K3 := Lib.hid (own_cap HN3.2.1); clear HN3)
    with_reducible refine at_worldF (fun W => Hid (FrW w W w.heap.size b e x A n c l B k) ∧ Hid (Rd W W.heap.size A3 p.d) ∧ Hid (FrX W w9.heap.size 29 p.b p.e p.n A3 u c3)) ⟨Lib.hid (C.out.al _), Lib.hid (R3.out.on ((Below.refl _ _).alloc (Nat.le_refl _) _)), Lib.hid (FrX.new _ _ _ _ _ _ _ _)⟩ ?_
    clear C R3
    generalize w9.heap.size = g11
    rintro w10 ⟨C, R3, X11⟩
    have x0 := X11.out.c0
    have x1 := X11.out.c1
    have x2 := X11.out.c2
    have x3 := X11.out.c3
    by_cases hv : v = 0
    · obtain ⟨hr9, he9⟩ := frget_put s k HKB.out (by rw [hg.out]; exact hv)
      rw [hg.out] at hr9 he9
      have E9 := Lib.hid (show frputA s p = k by unfold frputA; rw [if_pos hr9]; exact he9)
      have E8 := Lib.hid (show frputE s p = 0 by unfold frputE; rw [if_pos hr9])
      have E7 := Lib.hid (show (frputA s ⟨p.b, p.e, p.n, p.d⟩).length = m by show (frputA s p).length = m; rw [E9.out, HK.out])
      have U := Lib.hid (show u ≤ 274877906944 by have h1 := frget_le s k; rw [hg.out] at h1; have h2 := hu.out; have h3 := HK.out; have h4 := HM.out; dsimp only at h1; omega)
      subst hv
      clear hr9 he9
      go_wp2_with (first
        | (go_at_call 9; (with_reducible refine (frput_any s p.b p.e p.n A3 p.d u c3 _ R3.out hu.out U.out C.out.tab m 0 E7.out E8.out).mono ?_); rintro r w11 ⟨A5, c5, rfl, HN5⟩; replace C := Lib.hid (C.out.step HN5.2.2.2); have R5 := Lib.hid HN5.2.2.1; clear HN5)
        | (go_at_call 13; (with_reducible refine (equal_yes (frputA s ⟨p.b, p.e, p.n, p.d⟩) k m m _ _ _ _ _ R5.out C.out.rb E7.out HK.out (Nat.le_trans HM.out (by decide)) E9.out).mono ?_); rintro r w12 ⟨rfl, hb12⟩))
      go_ret
      exact ⟨rfl, C.out.bel.trans (hb12.mono C.out.bel.size)⟩
    · have hp0 := frget_err s k (by rw [hg.out]; exact hv)
      rw [hg.out] at hp0
      have hp1 : p = pc0 := hp0
      subst hp1
      have hu0 : u = 0 := by rw [← hu.out]; rfl
      subst hu0
      have j9 : ((v : Int) != 0) = true := by rw [bne_iff_ne]; omega
      clear hv hp0
      go_wp2_with fail
      go_ret
      exact ⟨rfl, C.out.bel⟩
end Go.Proofs.YtdeabomcmbgepaaDoor
