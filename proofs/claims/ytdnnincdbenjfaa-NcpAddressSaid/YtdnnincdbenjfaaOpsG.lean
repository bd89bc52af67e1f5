
/-
  What Put and Get answer, and the document's. No condition beyond: lists of at most 2^36 options and octets, at most 2^30 octets read.
-/
import Derived.Test.YtdnnincdbenjfaaOpsC
namespace Go.Proofs.Ytdnnincdbenjfaa
open Go.RowKit

/-- What Put answers. -/
def putO (p : Nat) (l : List (Nat × List Nat)) : List Nat × Nat := if okL (tabB p) l then (putB l, 0) else ([], 4)
/-- What Get answers. -/
def getO (p : Nat) (b : List Nat) : List (Nat × List Nat) × Nat := if (getB b).2 = 0 then (if okL (tabB p) (getB b).1 then ((getB b).1, 0) else ([], 4)) else ([], (getB b).2)
theorem okL_short {p : Nat} {l : List (Nat × List Nat)} (h : okL (tabB p) l = true) : longB l = false := by
  unfold longB
  rw [Bool.eq_false_iff]
  intro hl
  obtain ⟨o, ho, hlo⟩ := List.any_eq_true.1 hl
  have h1 := (okO_yes (List.all_eq_true.1 h o ho)).2
  have h2 := (span_le p o.1).2
  simp at hlo
  omega

set_option maxHeartbeats 2000000 in
theorem pput_any (p : Nat) (l : List (Nat × List Nat)) (m : List Nat) (q : Nat) (hm : putO p l = (m, q)) (k : Nat) (hk : m.length = k) (n c : Nat) (A : Option Addr) (F : Nat → Prop) (w : World) (h : Rws shO F w A l) (ho : ByO l) (hl : l.length = n) (hn : n ≤ 68719476736) (hd : datB l ≤ 68719476736) :
    Calls Try.prog 25 #[.int .u16 (p : Int), .slice A n c] w fun e w' => ∃ A' c', e = .returned (.tuple #[.slice A' k c', .int .i64 (q : Int)]) ∧ Rd w' w'.heap.size A' m ∧ k ≤ c' ∧ Below w.heap.size w w' := by
  have B := Lib.hid (Below.refl w.heap.size w)
  have HR := Lib.hid h
  have HL := Lib.hid hl
  have HO := Lib.hid ho
  clear h hl ho
  cases hq : okL (tabB p) l
  · have HQ := Lib.hid hq
    rw [putO, hq, if_neg (by decide)] at hm
    obtain ⟨rfl, rfl⟩ := Prod.mk.inj hm
    obtain rfl : 0 = k := hk
    clear hm hq hd
    go_enter Try.func25, Try.ntmps25
    go_wp2_with (first
    | (go_at_call 42; (with_reducible refine (wrong_any p _).mono ?_); rintro e wn ⟨g, rfl, hw, hb⟩; replace B := Lib.hid (B.out.trans (hb.mono B.out.size)); have V := Lib.hid hw; clear hw hb)
    | (go_at_call 41; (with_reducible refine (any_wrong _ l n c A F g _ (HR.out.below B.out) HO.out HL.out (by omega) V.out _ HQ.out).mono ?_); rintro e wn ⟨rfl, hb⟩; replace B := Lib.hid (B.out.trans (hb.mono B.out.size)); clear hb))
    go_ret2
    exact ⟨none, 0, rfl, Rd.nil, Nat.le_refl _, B.out⟩
  · have HQ := Lib.hid hq
    have EP := Lib.hid (errP_ok (okL_short hq))
    rw [putO, hq, if_pos rfl] at hm
    obtain ⟨rfl, rfl⟩ := Prod.mk.inj hm
    have HK := Lib.hid hk
    have HD := Lib.hid hd
    clear hm hq hk hd
    go_enter Try.func25, Try.ntmps25
    go_wp2_with (first
    | (go_at_call 42; (with_reducible refine (wrong_any p _).mono ?_); rintro e wn ⟨g, rfl, hw, hb⟩; replace B := Lib.hid (B.out.trans (hb.mono B.out.size)); have V := Lib.hid hw; clear hw hb)
    | (go_at_call 41; (with_reducible refine (any_wrong _ l n c A F g _ (HR.out.below B.out) HO.out HL.out (by omega) V.out _ HQ.out).mono ?_); rintro e wn ⟨rfl, hb⟩; replace B := Lib.hid (B.out.trans (hb.mono B.out.size)); clear hb)
    | (go_at_call 43; (with_reducible refine (oput_v l _ EP.out.1 _ EP.out.2 _ HK.out n c A F _ (HR.out.below B.out) HL.out (by omega) HD.out).mono ?_); rintro e wn ⟨A5, c5, rfl, h5, h5c, hb⟩; replace B := Lib.hid (B.out.trans (hb.mono B.out.size)); have X := Lib.hid h5; clear h5 hb))
    go_ret2
    exact ⟨_, _, rfl, X.out, h5c, B.out⟩

set_option maxHeartbeats 2000000 in
theorem prput_any (p : Nat) (l : List (Nat × List Nat)) (m : List Nat) (q : Nat) (hm : putO p l = (m, q)) (k : Nat) (hk : m.length = k) (n c : Nat) (A : Option Addr) (F : Nat → Prop) (w : World) (h : Rws shO F w A l) (hl : l.length = n) (hn : n ≤ 68719476736) (hd : datB l ≤ 68719476736) :
    Calls Try.prog 27 #[.int .i64 (p : Int), .slice A n c] w fun e w' => ∃ A' c', e = .returned (.tuple #[.slice A' k c', .int .i64 (q : Int)]) ∧ Rd w' w'.heap.size A' m ∧ k ≤ c' ∧ Below w.heap.size w w' := by
  have B := Lib.hid (Below.refl w.heap.size w)
  have HR := Lib.hid h
  have HL := Lib.hid hl
  clear h hl
  cases hq : okL (tabB p) l
  · have HQ := Lib.hid hq
    rw [putO, hq, if_neg (by decide)] at hm
    obtain ⟨rfl, rfl⟩ := Prod.mk.inj hm
    obtain rfl : 0 = k := hk
    clear hm hq hd
    go_enter Try.func27, Try.ntmps27
    go_wp2_with (first
    | (go_at_call 39; (with_reducible refine (orright_any p l n c A F _ (HR.out.below B.out) HL.out (by omega) _ HQ.out).mono ?_); rintro e wn ⟨rfl, hb⟩; replace B := Lib.hid (B.out.trans (hb.mono B.out.size)); clear hb))
    go_ret2
    exact ⟨none, 0, rfl, Rd.nil, Nat.le_refl _, B.out⟩
  · have HQ := Lib.hid hq
    have EP := Lib.hid (errP_ok (okL_short hq))
    rw [putO, hq, if_pos rfl] at hm
    obtain ⟨rfl, rfl⟩ := Prod.mk.inj hm
    have HK := Lib.hid hk
    have HD := Lib.hid hd
    clear hm hq hk hd
    go_enter Try.func27, Try.ntmps27
    go_wp2_with (first
    | (go_at_call 39; (with_reducible refine (orright_any p l n c A F _ (HR.out.below B.out) HL.out (by omega) _ HQ.out).mono ?_); rintro e wn ⟨rfl, hb⟩; replace B := Lib.hid (B.out.trans (hb.mono B.out.size)); clear hb)
    | (go_at_call 44; (with_reducible refine (orput_v l _ EP.out.1 _ EP.out.2 _ HK.out n c A F _ (HR.out.below B.out) HL.out (by omega) HD.out).mono ?_); rintro e wn ⟨A5, c5, rfl, h5, h5c, hb⟩; replace B := Lib.hid (B.out.trans (hb.mono B.out.size)); have X := Lib.hid h5; clear h5 hb))
    go_ret2
    exact ⟨_, _, rfl, X.out, h5c, B.out⟩

set_option maxHeartbeats 2000000 in
theorem pget_any (p : Nat) (b : List Nat) (m : List (Nat × List Nat)) (q : Nat) (hm : getO p b = (m, q)) (k : Nat) (hk : m.length = k) (nb c : Nat) (A : Option Addr) (w : World) (h : Rd w w.heap.size A b) (hb : By b) (hl : b.length = nb) (hn : nb ≤ 1073741824) (hc : nb ≤ c) :
    Calls Try.prog 30 #[.int .u16 (p : Int), .slice A nb c] w fun e w' => ∃ A' c', e = .returned (.tuple #[.slice A' k c', .int .i64 (q : Int)]) ∧ Rws shO (fun _ => True) w' A' m ∧ Below w.heap.size w w' := by
  have B := Lib.hid (Below.refl w.heap.size w)
  have HR := Lib.hid h
  have HL := Lib.hid hl
  have HB := Lib.hid hb
  obtain ⟨l, e, hg⟩ : ∃ l e, getB b = (l, e) := ⟨_, _, rfl⟩
  have HG := Lib.hid hg
  obtain ⟨n, hn2⟩ : ∃ n, l.length = n := ⟨_, rfl⟩
  have HN := Lib.hid hn2
  have hlen := get_len b hb
  rw [hg] at hlen
  dsimp only at hlen
  have hn3 : n ≤ 1073741824 := by omega
  clear h hl hb hlen
  by_cases he : e = 0
  · subst he
    have HO := Lib.hid (show ByO l by have := (put_get b HB.out (by rw [hg])).2.2; rw [hg] at this; exact this)
    cases hq : okL (tabB p) l
    · have HQ := Lib.hid hq
      rw [getO, hg] at hm
      dsimp only at hm
      rw [if_pos rfl, hq, if_neg (by decide)] at hm
      obtain ⟨rfl, rfl⟩ := Prod.mk.inj hm
      obtain rfl : 0 = k := hk
      clear hm hq hg hn2
      go_enter Try.func30, Try.ntmps30
      go_wp2_with (first
      | (go_at_call 47; (with_reducible refine (oget_v b l _ HG.out nb c A _ (HR.out.on B.out) HB.out HL.out (by omega) hc).mono ?_); rintro e wn ⟨A7, c7, rfl, h7, hb⟩; replace B := Lib.hid (B.out.trans (hb.mono B.out.size)); have Y := Lib.hid (h7.read.mono (G := fun _ => True) (fun _ _ _ => trivial)); rw [HN.out]; clear h7 hb)
      | (go_at_call 42; (with_reducible refine (wrong_any p _).mono ?_); rintro e wn ⟨g, rfl, hw, hb⟩; replace B := Lib.hid (B.out.trans (hb.mono B.out.size)); replace Y := Lib.hid (Y.out.below hb); have V := Lib.hid hw; clear hw hb)
      | (go_at_call 41; (with_reducible refine (any_wrong _ l n c7 A7 _ g _ Y.out HO.out HN.out (by omega) V.out _ HQ.out).mono ?_); rintro e wn ⟨rfl, hb⟩; replace B := Lib.hid (B.out.trans (hb.mono B.out.size)); replace Y := Lib.hid (Y.out.below hb); clear hb))
      go_ret2
      exact ⟨none, 0, rfl, Rws.nilO, B.out⟩
    · have HQ := Lib.hid hq
      rw [getO, hg] at hm
      dsimp only at hm
      rw [if_pos rfl, hq, if_pos rfl] at hm
      obtain ⟨rfl, rfl⟩ := Prod.mk.inj hm
      obtain rfl : n = k := hn2.symm.trans hk
      clear hm hq hk hg hn2
      go_enter Try.func30, Try.ntmps30
      go_wp2_with (first
      | (go_at_call 47; (with_reducible refine (oget_v b l _ HG.out nb c A _ (HR.out.on B.out) HB.out HL.out (by omega) hc).mono ?_); rintro e wn ⟨A7, c7, rfl, h7, hb⟩; replace B := Lib.hid (B.out.trans (hb.mono B.out.size)); have Y := Lib.hid (h7.read.mono (G := fun _ => True) (fun _ _ _ => trivial)); rw [HN.out]; clear h7 hb)
      | (go_at_call 42; (with_reducible refine (wrong_any p _).mono ?_); rintro e wn ⟨g, rfl, hw, hb⟩; replace B := Lib.hid (B.out.trans (hb.mono B.out.size)); replace Y := Lib.hid (Y.out.below hb); have V := Lib.hid hw; clear hw hb)
      | (go_at_call 41; (with_reducible refine (any_wrong _ l n c7 A7 _ g _ Y.out HO.out HN.out (by omega) V.out _ HQ.out).mono ?_); rintro e wn ⟨rfl, hb⟩; replace B := Lib.hid (B.out.trans (hb.mono B.out.size)); replace Y := Lib.hid (Y.out.below hb); clear hb))
      go_ret2
      exact ⟨A7, c7, rfl, Y.out, B.out⟩
  · have i1 : ((e : Int) != 0) = true := by rw [bne_iff_ne]; omega
    rw [getO, hg] at hm
    dsimp only at hm
    rw [if_neg he] at hm
    obtain ⟨rfl, rfl⟩ := Prod.mk.inj hm
    obtain rfl : 0 = k := hk
    clear hm he hg hn2
    go_enter Try.func30, Try.ntmps30
    go_wp2_with (first
    | (go_at_call 47; (with_reducible refine (oget_v b l _ HG.out nb c A _ (HR.out.on B.out) HB.out HL.out (by omega) hc).mono ?_); rintro e wn ⟨A7, c7, rfl, h7, hb⟩; replace B := Lib.hid (B.out.trans (hb.mono B.out.size)); have Y := Lib.hid (h7.read.mono (G := fun _ => True) (fun _ _ _ => trivial)); rw [HN.out]; clear h7 hb))
    go_ret2
    exact ⟨none, 0, rfl, Rws.nilO, B.out⟩

set_option maxHeartbeats 2000000 in
theorem prget_any (p : Nat) (b : List Nat) (m : List (Nat × List Nat)) (q : Nat) (hm : getO p b = (m, q)) (k : Nat) (hk : m.length = k) (nb c : Nat) (A : Option Addr) (w : World) (h : Rd w w.heap.size A b) (hb : By b) (hl : b.length = nb) (hn : nb ≤ 1073741824) (hc : nb ≤ c) :
    Calls Try.prog 32 #[.int .i64 (p : Int), .slice A nb c] w fun e w' => ∃ A' c', e = .returned (.tuple #[.slice A' k c', .int .i64 (q : Int)]) ∧ Rws shO (fun _ => True) w' A' m ∧ Below w.heap.size w w' := by
  have B := Lib.hid (Below.refl w.heap.size w)
  have HR := Lib.hid h
  have HL := Lib.hid hl
  have HB := Lib.hid hb
  obtain ⟨l, e, hg⟩ : ∃ l e, getB b = (l, e) := ⟨_, _, rfl⟩
  have HG := Lib.hid hg
  obtain ⟨n, hn2⟩ : ∃ n, l.length = n := ⟨_, rfl⟩
  have HN := Lib.hid hn2
  have hlen := get_len b hb
  rw [hg] at hlen
  dsimp only at hlen
  have hn3 : n ≤ 1073741824 := by omega
  clear h hl hb hlen
  by_cases he : e = 0
  · subst he
    have HO := Lib.hid (show ByO l by have := (put_get b HB.out (by rw [hg])).2.2; rw [hg] at this; exact this)
    cases hq : okL (tabB p) l
    · have HQ := Lib.hid hq
      rw [getO, hg] at hm
      dsimp only at hm
      rw [if_pos rfl, hq, if_neg (by decide)] at hm
      obtain ⟨rfl, rfl⟩ := Prod.mk.inj hm
      obtain rfl : 0 = k := hk
      clear hm hq hg hn2 HO
      go_enter Try.func32, Try.ntmps32
      go_wp2_with (first
      | (go_at_call 48; (with_reducible refine (orget_v b l _ HG.out nb c A _ (HR.out.on B.out) HB.out HL.out (by omega) hc).mono ?_); rintro e wn ⟨A7, c7, rfl, h7, hb⟩; replace B := Lib.hid (B.out.trans (hb.mono B.out.size)); have Y := Lib.hid h7; rw [HN.out]; clear h7 hb)
      | (go_at_call 39; (with_reducible refine (orright_any p l n c7 A7 _ _ Y.out HN.out (by omega) _ HQ.out).mono ?_); rintro e wn ⟨rfl, hb⟩; replace B := Lib.hid (B.out.trans (hb.mono B.out.size)); replace Y := Lib.hid (Y.out.below hb); clear hb))
      go_ret2
      exact ⟨none, 0, rfl, Rws.nilO, B.out⟩
    · have HQ := Lib.hid hq
      rw [getO, hg] at hm
      dsimp only at hm
      rw [if_pos rfl, hq, if_pos rfl] at hm
      obtain ⟨rfl, rfl⟩ := Prod.mk.inj hm
      obtain rfl : n = k := hn2.symm.trans hk
      clear hm hq hk hg hn2 HO
      go_enter Try.func32, Try.ntmps32
      go_wp2_with (first
      | (go_at_call 48; (with_reducible refine (orget_v b l _ HG.out nb c A _ (HR.out.on B.out) HB.out HL.out (by omega) hc).mono ?_); rintro e wn ⟨A7, c7, rfl, h7, hb⟩; replace B := Lib.hid (B.out.trans (hb.mono B.out.size)); have Y := Lib.hid h7; rw [HN.out]; clear h7 hb)
      | (go_at_call 39; (with_reducible refine (orright_any p l n c7 A7 _ _ Y.out HN.out (by omega) _ HQ.out).mono ?_); rintro e wn ⟨rfl, hb⟩; replace B := Lib.hid (B.out.trans (hb.mono B.out.size)); replace Y := Lib.hid (Y.out.below hb); clear hb))
      go_ret2
      exact ⟨A7, c7, rfl, Y.out, B.out⟩
  · have i1 : ((e : Int) != 0) = true := by rw [bne_iff_ne]; omega
    rw [getO, hg] at hm
    dsimp only at hm
    rw [if_neg he] at hm
    obtain ⟨rfl, rfl⟩ := Prod.mk.inj hm
    obtain rfl : 0 = k := hk
    clear hm he hg hn2
    go_enter Try.func32, Try.ntmps32
    go_wp2_with (first
    | (go_at_call 48; (with_reducible refine (orget_v b l _ HG.out nb c A _ (HR.out.on B.out) HB.out HL.out (by omega) hc).mono ?_); rintro e wn ⟨A7, c7, rfl, h7, hb⟩; replace B := Lib.hid (B.out.trans (hb.mono B.out.size)); have Y := Lib.hid h7; rw [HN.out]; clear h7 hb))
    go_ret2
    exact ⟨none, 0, rfl, Rws.nilO, B.out⟩

end Go.Proofs.Ytdnnincdbenjfaa
