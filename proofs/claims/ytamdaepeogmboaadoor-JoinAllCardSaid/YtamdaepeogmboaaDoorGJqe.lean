/-
  The program's Feed, Flush and Kept of layer 24. No condition beyond: places up to 2^36, sizes below 2^30. The program's Feed of layer 24: its loop, and what is known in it. No condition beyond: places up to 2^36, sizes below 2^30. The program's Feed of layer 24, walked. No condition beyond: places up to 2^36, sizes below 2^30. What the program's Feed of layer 24 answers where the link or the number is none. No condition. The example of layer 24's document: the program answers it. Condition: the headers' shapes stand as the start-up lays them. What the laws of layer 24 carry from call to call. No condition beyond: places up to 2^36.
-/
import Derived.Test.YtamdaepeogmboaaDoorJqH
import Derived.Test.YtamdaepeogmboaaDoorJqN
import Derived.Deep.RegionHeld3
import Derived.Deep.QuietTactic
import Derived.BigQuiet
import Derived.Test.YtamdaepeogmboaaDoorEq
namespace Go.Proofs.YtamdaepeogmboaaDoor
section
set_option maxRecDepth 4000
open Go.RowKit Go.Maps

/-- What a call tells lies where the caller may read it. -/
theorem Fo.up {b : Nat} {q0 q1 q2 : Jq} {w0 w1 : World} (h : Ps b q0 w0 q1 w1) {i : Nat} (hi : Fo b q1 w1 q2 i) : Fo b q0 w0 q2 i := ⟨hi.1, hi.2.elim (h.own i) fun e => .inr (Nat.le_trans h.off.size e)⟩
theorem Jok.told {M : Int} {j : Jn} (h : Jok M j) : Jok M { j with told := [] } := ⟨h.n0, h.n1, h.mo, h.da, h.m0, h.m1, h.pl, h.pg, h.wl, h.la, h.l0, h.l1, by have := h.n0; show (([] : List Ev).length : Int) ≤ 2 * j.next; simp; omega⟩
theorem Jmo.told {j : Jn} (h : Jmo j) (t : List Ev) : Jmo { j with told := t } := ⟨h.nm, h.dm⟩
set_option maxHeartbeats 1000000 in
theorem pkept_any (b : Nat) (j : Jn) (q : Jq) (ol : List Int) (w : World) (h : Pw w b j q ol) :
    Calls Tryd.prog 16 #[.pointer (some ⟨b, 0, none⟩)] w fun e w' => e = .returned (.int .i64 ((j.wait.length : Nat) : Int)) ∧ w' = w := by
  have c7 := h.px.c7
  have e : q.on = j.wait.length := by rw [← h.od.1]; exact h.sr.len
  rw [e] at c7
  clear h e
  go_enter Tryd.func16, Tryd.ntmps16
  go_wp2_with fail
  go_ret
  exact ⟨rfl, rfl⟩
/-- What Flush answers, and Feed beside the error's number. -/
def Pfe (b : Nat) (q : Jq) (w : World) (k : Jn) (v : Value) (w' : World) : Prop :=
  ∃ q' ol' A n c, v = .slice A n c ∧ k.told.length = n ∧ n ≤ c ∧ Rws shEv (Fo b q w q') w' A k.told ∧ Pw w' b k q' ol' ∧ Ps b q w q' w' ∧ q'.mn ≤ q.mn + 1 ∧ ∀ i, q'.fr i
/-- The last place. -/
theorem Srt.last {ol : List Int} {wt : List (Int × Pc)} {e : Int} (h : Srt ol wt) (n : Nat) (hn : ol.length = n + 1) (he : ol[n]? = some e) : (∀ x ∈ wt, x.1 ≤ e) ∧ ∃ x ∈ wt, x.1 = e := by
  have hm : e ∈ ol := List.mem_of_getElem? he
  obtain ⟨p, hp⟩ := h.mem.1 hm
  refine ⟨fun x hx => ?_, ⟨_, hp, rfl⟩⟩
  have hx' : x.1 ∈ ol := h.mem.2 ⟨x.2, hx⟩
  obtain ⟨i, hi⟩ := List.mem_iff_getElem?.1 hx'
  have hil := (List.getElem?_eq_some_iff.1 hi).1
  rcases Nat.lt_or_ge i n with h1 | h1
  · obtain ⟨g1, g2⟩ := List.getElem?_eq_some_iff.1 hi
    obtain ⟨g3, g4⟩ := List.getElem?_eq_some_iff.1 he
    have := List.pairwise_iff_getElem.1 h.so i n g1 g3 h1
    omega
  · have : i = n := by omega
    subst this
    rw [hi] at he
    injection he with he
    omega
set_option maxHeartbeats 4000000 in
theorem pflush_any (b : Nat) (j : Jn) (q : Jq) (ol : List Int) (M : Int) (w : World) (h : Pw w b j q ol) (hok : Jok M j) (hmo : Jmo j) (hst : jstp j = none) (hM : M ≤ 68719476736) (hfr : ∀ i, q.fr i) :
    Calls Tryd.prog 13 #[.pointer (some ⟨b, 0, none⟩)] w fun e w' => ∃ v, e = .returned v ∧ Pfe b q w (jflush j) v w' := by
  have h0 := h.told []
  have ok0 := hok.told
  have st0 := jstp_told (t := []) hst
  rcases Nat.eq_zero_or_pos q.on with hz | hz
  · have c7 := h.px.c7
    rw [hz] at c7
    have hw : j.wait = [] := List.eq_nil_of_length_eq_zero (by rw [← h.sr.len, h.od.1, hz])
    have ej : jflush j = { j with told := [] } := jover_stop (by show ¬ (0 : Int) < ((j.wait).length : Int); rw [hw]; decide)
    have F := Lib.hid (show Pfe b q w (jflush j) (.slice none 0 0) w from ⟨q, ol, none, 0, 0, rfl, by rw [ej]; rfl, Nat.le_refl _, by rw [ej]; exact Rws.nil, by rw [ej]; exact h0, .refl _ _ _, Nat.le_succ _, hfr⟩)
    clear h h0 hok ok0 st0 hst hmo hw ej
    go_enter Tryd.func13, Tryd.ntmps13
    go_wp2_with fail
    go_ret
    exact ⟨_, rfl, F.out⟩
  · obtain ⟨m, hm⟩ : ∃ m, q.on = m + 1 := ⟨q.on - 1, by omega⟩
    have hlen : ol.length = m + 1 := by rw [h.od.1, hm]
    obtain ⟨e, he⟩ : ∃ e, ol[m]? = some e := ⟨_, List.getElem?_eq_getElem (by omega)⟩
    obtain ⟨l1, x, hx, l2⟩ := h.sr.last m hlen he
    have heM : e ≤ M := by have := (hok.pl x hx).1; omega
    obtain ⟨g, off, cur, eo, k1, k2, k3, k4⟩ := h.od.cells hz
    have cx := k4 m e he
    have c7 := h.px.c7
    rw [eo] at c7
    obtain ⟨N, hN⟩ : ∃ N, q.on = N := ⟨_, rfl⟩
    rw [hN] at c7 hm
    have wr : IntKind.i64.wrap ((N : Int) - 1) = (m : Int) := by rw [IntKind.wrap_i64]; have := h.od.2.2.1; have := h.od.2.1; omega
    have fin : ∀ k, Pr e { j with told := [] } k → k = jflush j := fun k hk => by
      have hend := jstp_none_end st0
      have hf := (ok0.first2 st0 (by show 0 < j.wait.length; exact List.length_pos_of_mem hx) (by omega)).1
      rw [jend_min] at hend
      have e1 := hk.flush ok0 (by omega) (by have hf' : j.next < jfirst j.wait := hf; have hend' : min (jleast j.last + 1) (jfirst j.wait) ≤ j.next := hend; show jleast j.last + 1 ≤ j.next; omega) l1 (.inl ⟨x, hx, l2⟩)
      rw [e1, jrun_stop st0]
      rfl
    have FIN := Lib.hid fin
    have H := Lib.hid (show Pw w.drew b { j with told := [] } q ol from h0.below (Below.refl _ _).drew)
    have OK := Lib.hid ok0
    have MO := Lib.hid (hmo.told [])
    have b1 : (m : Int) < (N : Int) := by omega
    have b0 : (0 : Int) ≤ (m : Int) := by omega
    have b2 : ((m : Int)).toNat = m := by omega
    have hz2 : ¬ (N : Int) = 0 := by omega
    have hz3 : ¬ N = 0 := by omega
    clear h h0 hok ok0 st0 hst hmo k1 k2 k3 k4 fin l1 hx l2 hlen he hm hN
    go_enter Tryd.func13, Tryd.ntmps13
    go_wp2_with fail
    go_region_with (go_at_call 25; (with_reducible refine (ppass_any b { j with told := [] } q ol e M _ H.out rfl OK.out MO.out hM heM).mono ?_); rintro r w3 ⟨k, q3, ol3, A3, n3, c3, p1, rfl, p2, p3, p4, p5, p6, p7, p8⟩; have Z := Lib.hid (show _ ∧ _ ∧ _ ∧ _ ∧ _ ∧ _ ∧ _ ∧ _ from ⟨p1, p2, p3, p4, p5, p6, p7, p8⟩); clear p1 p2 p3 p4 p5 p6 p7 p8; dsimp only)
    all_goals
      go_wp2_with fail
      go_ret
      obtain ⟨p1, p2, p3, p4, p5, p6, p7, p8⟩ := Z.out
      have ek := FIN.out k p1
      subst ek
      exact ⟨_, rfl, q3, ol3, A3, n3, c3, rfl, p2, p3, p4.read, p5, (Ps.of_below (Below.refl _ _).drew).trans p6, by omega, by rw [p8]; exact hfr⟩
end

section
set_option maxRecDepth 4000
open Go.RowKit Go.Maps

theorem Jmo.came {M : Int} {j : Jn} (h : Jmo j) (hok : Jok M j) {k : Nat} (hk : k < j.last.length) {p : Pc} (h0 : 0 ≤ p.n) (h1 : p.n < (frmod j.sh : Int)) : Jmo (jcame j k p) := by
  obtain ⟨y, hy⟩ : ∃ y, j.last[k]? = some y := ⟨_, List.getElem?_eq_getElem hk⟩
  have hyb := (hok.la y (List.mem_of_getElem? hy)).1
  have eg : j.last.getD k (-1) = y := by rw [List.getD_eq_getElem?_getD, hy]; rfl
  have hp := frmod_pos j.sh
  have hnum : (jlast j k p).tmod (frmod j.sh : Int) = p.n := by
    unfold jlast
    rw [eg]
    have := (jplc_ge hp (y + 1) p.n).1
    rw [Int.tmod_eq_emod_of_nonneg (by omega)]
    exact jplc_num h0 h1
  refine ⟨fun z hz => ?_, h.dm⟩
  have hz' : z ∈ (if jat j.wait (jlast j k p) = none ∧ j.next ≤ jlast j k p then j.wait ++ [(jlast j k p, p)] else j.wait) := hz
  split at hz'
  · rcases List.mem_append.1 hz' with hz' | hz'
    · exact h.nm z hz'
    · rw [List.mem_singleton] at hz'
      subst hz'
      exact hnum
  · exact h.nm z hz'
/-- The place that is next, behind a pointer. -/
def pnxt (w : World) (b : Nat) : Int := match w.cell? ⟨b, 5, none⟩ with
  | some (.int _ x) => x
  | _ => 0
theorem Px.nxt {w : World} {b : Nat} {j : Jn} {q : Jq} (h : Px w b j q) : pnxt w b = j.next := by unfold pnxt; rw [h.c5]
/-- What Feed knows in its loop. -/
structure PfC (w5 : World) (b : Nat) (q5 : Jq) (J0 : Jn) (room M : Int) (j : Jn) (q : Jq) (ol : List Int) (v : Value) (W : World) : Prop where
  pw : Pw W b j q ol
  ps : Ps b q5 w5 q W
  out : Out b q5 w5 q W v j.told
  mn : q.mn = q5.mn
  fr : q.fr = q5.fr
  lo : ∀ i, q.fr i → i < w5.heap.size
  ov : jover room J0 = jover room j
  ok : Jok M j
  mo : Jmo j
  st : jstp j = none
  rm : j.room = room
section
variable {w5 W W7 W8 : World} {b : Nat} {q5 q q7 : Jq} {J0 j : Jn} {room M : Int} {ol : List Int} {v v8 : Value}
theorem PfC.below (h : PfC w5 b q5 J0 room M j q ol v W) (hb : Below W.heap.size W W7) : PfC w5 b q5 J0 room M j q ol v W7 := ⟨h.pw.below hb, h.ps.below hb, h.out.below hb, h.mn, h.fr, h.lo, h.ov, h.ok, h.mo, h.st, h.rm⟩
/-- More wait than there is room for: what comes of a round. -/
theorem PfC.next (h : PfC w5 b q5 J0 room M j q ol v W) (hr : 0 ≤ room) (hM : M ≤ 68719476736) (hw : room < (j.wait.length : Int)) {k : Jn} (hk : Pr (jfirst j.wait) { j with told := [] } k) :
    Jok M { k with told := j.told ++ k.told } ∧ Jok M k ∧ Jmo { k with told := j.told ++ k.told } ∧ jstp { k with told := j.told ++ k.told } = none ∧ jover room J0 = jover room { k with told := j.told ++ k.told } ∧ j.next < k.next ∧ k.room = room := by
  have h1 := hk.pre j.told
  have e0 : ({ ({ j with told := [] } : Jn) with told := j.told ++ ({ j with told := [] } : Jn).told } : Jn) = j := by simp
  rw [e0] at h1
  have hM' : M ≤ 1152921504606846976 := by omega
  have e1 := h1.first h.ok hM' h.st (by omega)
  have hu := jush_some (k := room) (j := j) hw
  have h2 := h.ok.ush2 h.st hr hM' hu
  rw [← e1] at h2 hu
  have hko := hk.ok h.ok.told hM' (by
    have := (h.ok.first2 h.st (by omega) hM').2
    exact this)
  refine ⟨h2.1, hko, ?_, h2.2.1, h.ov.trans (jover_ush h2.1 h2.2.1 hr hM' hu), h2.2.2, ?_⟩
  · exact (hk.mo (h.mo.told [])).told _
  · have e2 : ({ k with told := j.told ++ k.told } : Jn).room = j.room := by rw [e1]; exact (jrun_same _).room
    exact (show k.room = j.room from e2).trans h.rm
theorem PfC.round (h : PfC w5 b q5 J0 room M j q ol v W) (hr : 0 ≤ room) (hM : M ≤ 68719476736) (hw : room < (j.wait.length : Int)) {k : Jn} {ol7 : List Int} (hk : Pr (jfirst j.wait) { j with told := [] } k)
    (hP : Pw W7 b k q7 ol7) (hS : Ps b q W q7 W7) (mn : q7.mn = q.mn) (fr : q7.fr = q.fr) (ho : Orw shEv 59 (Fo b q5 w5 q7) w5.heap.size W8 v8 (j.told ++ k.told)) (hg : W7.grownBy W8 v.ownBlock) (hm : Mv W7.heap.size v v8) :
    PfC w5 b q5 J0 room M { k with told := j.told ++ k.told } q7 ol7 v8 W8 := by
  obtain ⟨a1, -, a2, a3, a4, -, a5⟩ := h.next hr hM hw hk
  have hs := h.ps.trans hS
  have lo : ∀ i, q7.fr i → i < w5.heap.size := by rw [fr]; exact h.lo
  obtain ⟨k1, k2, k3, -⟩ := (h.out.step hS).app hP hs lo ho hg hm
  exact ⟨k2.told _, k3, k1, mn.trans h.mn, fr.trans h.fr, lo, a4, a1, a2, a3, a5⟩
theorem PfC.done (h : PfC w5 b q5 J0 room M j q ol v W) {q0 : Jq} {w0 : World} (hw : ¬ room < (j.wait.length : Int)) (hS : Ps b q0 w0 q5 w5) (mn : q5.mn ≤ q0.mn + 1) : Pfe b q0 w0 (jover room J0) v W := by
  rw [h.ov, jover_stop hw]
  obtain ⟨A, c, hv, hc⟩ := h.out.shape
  subst hv
  exact ⟨{ q with fr := fun _ => True }, ol, A, _, c, rfl, rfl, hc, h.out.read.mono fun _ _ hi => Fo.up hS hi, h.pw.refit fun _ _ _ => trivial, (hS.trans h.ps).refit q0.fr (fun _ => True), by show q.mn ≤ _; rw [h.mn]; exact mn, fun _ => trivial⟩
end
end

section
set_option maxRecDepth 4000
open Go.RowKit Go.Maps

/-- keep, in one form. -/
theorem pkeep_any (b : Nat) (j : Jn) (q : Jq) (ol : List Int) (x : Int) (p : Pc) (A : Option Addr) (n c : Nat) (w : World) (h : Pw w b j q ol) (h0 : 0 ≤ x) (h1 : x ≤ 1152921504606846976) (hp : RdF (fun _ => True) w A p.d) (hn : p.d.length = n) (hnc : n ≤ c) (hn1 : n ≤ 1073741824) (m0 : 0 ≤ j.most) (m1 : j.most ≤ 1048576) (hmn : q.mn < 1099511627776) (hfr : ∀ i, q.fr i) (hol : q.on ≤ 1099511627776) :
    Calls Tryd.prog 28 #[.pointer (some ⟨b, 0, none⟩), .int .i64 x, pvV p.b p.e p.n A n c] w fun e w' => ∃ q' ol', e = .returned (.tuple #[]) ∧ Pw w' b { j with wait := if jat j.wait x = none ∧ j.next ≤ x then j.wait ++ [(x, p)] else j.wait } q' ol' ∧ Ps b q w q' w' ∧ q'.mn ≤ q.mn + 1 ∧ ∀ i, q'.fr i := by
  by_cases hx : jat j.wait x = none ∧ j.next ≤ x
  · refine (pkeep_put b j q ol x p A n c w h h0 h1 hx hp hn hnc hn1 m0 m1 hmn hfr hol).mono ?_
    rintro e w' ⟨q', ol', rfl, k1, k2, k3, k4⟩
    exact ⟨q', ol', rfl, by rw [if_pos hx]; exact k1, k2, Nat.le_of_eq k3, by rw [k4]; exact hfr⟩
  · refine (pkeep_not b j q ol x p A n c w h h0 h1 hx).mono ?_
    rintro e w' ⟨rfl, k1⟩
    exact ⟨q, ol, rfl, by rw [if_neg hx]; exact h.below k1, .of_below k1, Nat.le_succ _, hfr⟩

theorem pplace_l (b : Nat) (j : Jn) (q : Jq) (ol : List Int) (k : Nat) (p : Pc) (w : World) (h : Pw w b j q ol) (hk : k < j.last.length) (h0 : 0 ≤ p.n) (h1 : p.n < (frmod j.sh : Int)) (la : ∀ x ∈ j.last, -1 ≤ x ∧ x ≤ 1152921504606846976) :
    Calls Tryd.prog 29 #[.pointer (some ⟨b, 0, none⟩), .int .i64 (k : Int), .int .i64 p.n] w fun e w' => e = .returned (.int .i64 (jlast j k p)) ∧ Pw w' b { j with last := j.last.set k (jlast j k p) } q ol ∧ Ps b q w q w' := by
  unfold jlast
  exact pplace_any b j q ol k p.n w h hk h0 h1 la
set_option maxHeartbeats 16000000 in
theorem pfeed_any (b : Nat) (j : Jn) (q : Jq) (ol : List Int) (M0 M : Int) (k : Nat) (p : Pc) (A : Option Addr) (n c : Nat) (w : World) (h : Pw w b j q ol) (hp : RdF (fun i => ¬ q.own b i) w A p.d) (hn : p.d.length = n) (hnc : n ≤ c) (hok : Jok M0 j) (hmo : Jmo j) (hM0 : M0 + (frmod j.sh : Int) = M) (hM : M ≤ 68719476736) (hro : 0 ≤ j.room) (hk : k < j.last.length) (h0 : 0 ≤ p.n) (h1 : p.n < (frmod j.sh : Int)) (hpn : n ≤ 1073741824) (hw : j.wait.length < 1073741824) (hmn : q.mn < 1099511627776) (hfr : ∀ i, q.fr i) :
    Calls Tryd.prog 15 #[.pointer (some ⟨b, 0, none⟩), .int .i64 (k : Int), pvV p.b p.e p.n A n c] w fun e w' => ∃ v, e = .returned (.tuple #[v, .int .i64 0]) ∧ Pfe b q w (jfeed j k p) v w' := by
  obtain ⟨i0, hi, hz0, hz1, hz2⟩ := info_parts jev_info
  obtain ⟨mo, hmo1⟩ : ∃ m, Hid (frmod j.sh = m) := ⟨_, Lib.hid rfl⟩
  obtain ⟨ln, hln⟩ : ∃ m, Hid (j.last.length = m) := ⟨_, Lib.hid rfl⟩
  obtain ⟨J, hJ⟩ : ∃ J, Hid (jcame j k p = J) := ⟨_, Lib.hid rfl⟩
  have HOK1 := Lib.hid (show Jok M J by rw [← hJ.out, ← hM0]; exact hok.came hk (by omega) hw)
  have HMO1 := Lib.hid (show Jmo J by rw [← hJ.out]; exact hmo.came hok hk h0 h1)
  have HJ0 := Lib.hid (show J.told = [] ∧ J.room = j.room ∧ jfeed j k p = jover j.room (jrun J) by rw [← hJ.out]; exact ⟨rfl, rfl, rfl⟩)
  have XB := Lib.hid (show 0 ≤ jlast j k p ∧ jlast j k p ≤ 1152921504606846976 by
    obtain ⟨y, hy⟩ : ∃ y, j.last[k]? = some y := ⟨_, List.getElem?_eq_getElem hk⟩
    have hyb := hok.la y (List.mem_of_getElem? hy)
    have eg : j.last.getD k (-1) = y := by rw [List.getD_eq_getElem?_getD, hy]; rfl
    have := jplc_ge (frmod_pos j.sh) (j.last.getD k (-1) + 1) p.n
    unfold jlast
    rw [eg] at this ⊢
    omega)
  have LA := Lib.hid (show ∀ x ∈ j.last, -1 ≤ x ∧ x ≤ 1152921504606846976 from fun x hx => by have := hok.la x hx; omega)
  have LN := Lib.hid (show 0 < j.last.length ∧ j.last.length ≤ 1073741824 from ⟨hok.l0, hok.l1⟩)
  have ON := Lib.hid (show q.on ≤ 1099511627776 by rw [← h.od.1, h.sr.len]; omega)
  have MB := Lib.hid (And.intro hok.m0 hok.m1)
  have HN := Lib.hid hn
  have HMN := Lib.hid hmn
  have HF := Lib.hid hfr
  have HK := Lib.hid hk
  have HN0 := Lib.hid h0
  have HN1 := Lib.hid h1
  have HNC := Lib.hid hnc
  have HPN := Lib.hid hpn
  have t1 : ¬ (k : Int) < 0 := by omega
  have t2 : ¬ (ln : Int) ≤ (k : Int) := by rw [← hln.out]; omega
  have t3 : ¬ p.n < 0 := by omega
  have t4 : ¬ (mo : Int) ≤ p.n := by rw [← hmo1.out]; omega
  have t5 : decide (p.n < 0) = false := by simp; omega
  have t6 : decide ((mo : Int) ≤ p.n) = false := by simp; omega
  have C := Lib.hid (show FrX (w.alloc (.cells #[.bool p.b, .bool p.e, .int .i64 p.n, .slice A n c] 50)) w.heap.size 50 p.b p.e p.n A n c ∧ Below w.heap.size w (w.alloc (.cells #[.bool p.b, .bool p.e, .int .i64 p.n, .slice A n c] 50)) from ⟨FrX.new _ _ _ _ _ _ _ _, (Below.refl _ _).alloc (Nat.le_refl _) _⟩)
  have H := Lib.hid h
  have HP := Lib.hid hp
  have HRO := Lib.hid hro
  clear h hp hn hok hmo hM0 hk h0 h1 hnc hpn hw hmn hfr hro
  go_enter Tryd.func15, Tryd.ntmps15
  go_upto_region 1 with fail
  refine at_worldJ (fun W => Hid (FrX W w.heap.size 50 p.b p.e p.n A n c ∧ Below w.heap.size w W)) C ?_
  clear C
  intro W C
  have HW := Lib.hid (H.out.below C.out.2)
  have c1 := HW.out.px.c1; have c4 := HW.out.px.c4
  rw [hmo1.out] at c1
  rw [hln.out] at c4
  have x0 := C.out.1.c0; have x1 := C.out.1.c1; have x2 := C.out.1.c2; have x3 := C.out.1.c3
  go_wp2_with fail
  go_quiet (fail)
  go_upto_region 5 with fail
  clear t1 t2 t3 t4 t5 t6 c1 c4
  refine at_worldJ (fun W => Hid (FrX W w.heap.size 50 p.b p.e p.n A n c ∧ Below w.heap.size w W)) (Lib.hid ⟨C.out.1.on (below_drewN (Below.refl _ _) _), below_drewN C.out.2 _⟩) ?_
  clear C HW x0 x1 x2 x3
  intro W C
  have HX := Lib.hid (H.out.below C.out.2)
  have D := Lib.hid (show FrX W.drew w.heap.size 50 p.b p.e p.n A n c ∧ Pw W.drew b j q ol ∧ Ps b q w q W.drew ∧ ¬ q.own b w.heap.size from ⟨C.out.1, HX.out.below (Below.refl _ _).drew, .of_below (C.out.2.trans (Below.refl _ _).drew), H.out.new (Nat.le_refl _)⟩)
  go_region_held3 (fun W => W.cell? ⟨w.heap.size, 0, none⟩ = some (.bool p.b) ∧ W.cell? ⟨w.heap.size, 1, none⟩ = some (.bool p.e) ∧ W.cell? ⟨w.heap.size, 2, none⟩ = some (.int .i64 p.n) ∧ W.cell? ⟨w.heap.size, 3, none⟩ = some (.slice A n c)) (first | with_reducible exact ⟨E.out.2.2.2.2.c0, E.out.2.2.2.2.c1, E.out.2.2.2.2.c2, E.out.2.2.2.2.c3⟩ | with_reducible exact ⟨D.out.1.c0, D.out.1.c1, D.out.1.c2, D.out.1.c3⟩ | with_reducible exact ⟨C.out.1.c0, C.out.1.c1, C.out.1.c2, C.out.1.c3⟩) (first
    | (go_at_call 29; (with_reducible refine (pplace_l b j q ol k p _ D.out.2.1 HK.out HN0.out HN1.out LA.out).mono ?_); rintro e w3 ⟨rfl, k1, k2⟩; replace D := Lib.hid (show FrX w3 w.heap.size 50 p.b p.e p.n A n c ∧ Pw w3 b { j with last := j.last.set k (jlast j k p) } q ol ∧ Ps b q w q w3 ∧ ¬ q.own b w.heap.size from ⟨D.out.1.offJ k2.off D.out.2.2.2, k1, D.out.2.2.1.trans k2, D.out.2.2.2⟩); clear k1 k2; dsimp only)
    | (go_at_call 28; (with_reducible refine (pkeep_any b { j with last := j.last.set k (jlast j k p) } q ol (jlast j k p) p A n c _ D.out.2.1 XB.out.1 XB.out.2 ((D.out.2.2.1.rd HP.out).mono fun _ _ _ => trivial) HN.out HNC.out HPN.out MB.out.1 MB.out.2 HMN.out HF.out ON.out).mono ?_); rintro e w4 ⟨q5, ol5, rfl, k1, k2, k3, k4⟩; have E := Lib.hid (show Pw w4 b J q5 ol5 ∧ Ps b q w q5 w4 ∧ q5.mn ≤ q.mn + 1 ∧ (∀ i, q5.fr i) ∧ FrX w4 w.heap.size 50 p.b p.e p.n A n c from ⟨by rw [← hJ.out]; exact k1.told [], D.out.2.2.1.trans k2, k3, k4, D.out.1.offJ k2.off D.out.2.2.2⟩); clear k1 k2 k3 k4; dsimp only))
  all_goals
    clear D C HX H HP
    have P5 := Lib.hid (show Pw w4 b J { q5 with fr := fun i => i < w4.heap.size } ol5 from E.out.1.refit fun i hi _ => hi)
    have S5 := Lib.hid (show Ps b q w { q5 with fr := fun i => i < w4.heap.size } w4 from (E.out.2.1).refit q.fr _)
    have M5 := Lib.hid E.out.2.2.1
    have L5 := Lib.hid (And.intro HOK1.out.l0 HOK1.out.l1)
    have E5 := Lib.hid (show jleast J.last + 1 ≤ M by have := (HOK1.out.la _ (jleast_mem HOK1.out.l0)).2; omega)
    have c4 := P5.out.px.c4
    obtain ⟨Q5, hQ5⟩ : ∃ Q, Hid ({ q5 with fr := fun i => i < w4.heap.size } = Q) := ⟨_, Lib.hid rfl⟩
    have HQ := Lib.hid (show Q5.mn ≤ q.mn + 1 ∧ ∀ i, Q5.fr i → i < w4.heap.size by rw [← hQ5.out]; exact ⟨M5.out, fun _ h => h⟩)
    rw [hQ5.out] at P5 S5 c4
    clear E M5 hQ5
    go_wp2_with (first
      | (go_at_call 30; (with_reducible refine (pmin_any P5.out L5.out.1 L5.out.2).mono ?_); rintro e w5 ⟨rfl, hw5⟩; subst w5; dsimp only)
      | (go_at_call 25; (with_reducible refine (ppass_any b J Q5 ol5 (jleast J.last + 1) M _ P5.out HJ0.out.1 HOK1.out HMO1.out hM E5.out).mono ?_); rintro r w6 ⟨k6, q6, ol6, A6, n6, c6, p1, rfl, p2, p3, p4, p5, p6, p7, p8⟩; have Z := Lib.hid (show _ ∧ _ ∧ _ ∧ _ ∧ _ ∧ _ from ⟨p1, p4, p5, p6, p7, p8⟩); clear p1 p2 p3 p4 p5 p6 p7 p8; dsimp only))
    clear c4
    have MB6 : M ≤ 1152921504606846976 := by omega
    have ER := Lib.hid (Z.out.1.run HOK1.out MB6 rfl)
    have RUN := Lib.hid (HOK1.out.run)
    have C6 := Lib.hid (show PfC w4 b Q5 (jrun J) j.room M k6 q6 ol6 (.slice A6 n6 c6) w6 by
      refine ⟨Z.out.2.2.1, Z.out.2.2.2.1, Z.out.2.1, Z.out.2.2.2.2.1, Z.out.2.2.2.2.2, by rw [Z.out.2.2.2.2.2]; exact HQ.out.2, by rw [ER.out], by rw [ER.out]; exact RUN.out.1, Z.out.1.mo HMO1.out, by rw [ER.out]; exact RUN.out.2, ?_⟩
      rw [ER.out, (jrun_same J).room]
      exact HJ0.out.2.1)
    clear Z ER RUN P5
    go_loopw [8] (fun v wr => ∃ j1 q1 ol1, Hid (PfC w4 b Q5 (jrun J) j.room M j1 q1 ol1 v wr)) (fun _ wr => (M - pnxt wr b).toNat)
    case atStart => exact ⟨k6, q6, ol6, C6⟩
    case round =>
      clear C6
      obtain ⟨j1, q1, ol1, C⟩ := hrel
      have NX := Lib.hid (C.out.pw.px.nxt)
      have c7 := C.out.pw.px.c7; have c2 := C.out.pw.px.c2
      rw [C.out.rm] at c2
      have WL := Lib.hid (show q1.on = j1.wait.length by rw [← C.out.pw.od.1]; exact C.out.pw.sr.len)
      by_cases hlt : j.room < (q1.on : Int)
      · have hw1 : j.room < (j1.wait.length : Int) := by rw [← WL.out]; exact hlt
        have HW1 := Lib.hid hw1
        have hz : 0 < q1.on := by have := HRO.out; omega
        obtain ⟨g, off, cur, eo, k1, k2, k3, k4⟩ := C.out.pw.od.cells hz
        obtain ⟨x, r, hol⟩ : ∃ x r, ol1 = x :: r := by
          cases ol1 with
          | nil => exact absurd C.out.pw.od.1 (by simp; omega)
          | cons x r => exact ⟨x, r, rfl⟩
        have HFI := Lib.hid (show jfirst j1.wait = x ∧ x ≤ M by
          have hs := C.out.pw.sr
          rw [hol] at hs
          obtain ⟨pp, hpp⟩ := hs.mem.1 List.mem_cons_self
          have := (C.out.ok.pl _ hpp).1
          exact ⟨hs.first (by show x < _; have h' : x < M := this; omega), by have h' : x < M := this; omega⟩)
        have cx : wr.cell? ⟨g, off, none⟩ = some (.int .i64 x) := by simpa using k4 0 x (by rw [hol]; rfl)
        rw [eo] at c7
        have HC0 := Lib.hid (C.out.pw.told [])
        have OK1 := Lib.hid C.out.ok.told
        have MO1 := Lib.hid (C.out.mo.told [])
        have TD := Lib.hid (show j1.told.length ≤ 137438953472 by have := C.out.ok.td; have := C.out.ok.n1; omega)
        clear hw1 k1 k2 k3 k4 hol
        go_wp2_with fail
        go_region
        all_goals
          replace C := Lib.hid (C.out.below (Below.refl _ _).drew)
          replace HC0 := Lib.hid (HC0.out.below (Below.refl _ _).drew)
          go_wp2_with (first
            | (go_at_call 25; (with_reducible refine (ppass_any b { j1 with told := [] } q1 ol1 x M _ HC0.out rfl OK1.out MO1.out hM HFI.out.2).mono ?_); rintro r7 w7 ⟨k7, q7, ol7, A7, n7, c7', p1, rfl, p2, p3, p4, p5, p6, p7, p8⟩; have Z := Lib.hid (show Pr (jfirst j1.wait) { j1 with told := [] } k7 ∧ k7.told.length = n7 ∧ _ ∧ _ ∧ _ ∧ _ ∧ _ from ⟨by rw [HFI.out.1]; exact p1, p2, p4, p5, p6, p7, p8⟩); clear p1 p2 p3 p4 p5 p6 p7 p8; have NXT := Lib.hid (C.out.next HRO.out hM HW1.out Z.out.1); have KT := Lib.hid (show n7 ≤ 137438953472 by rw [← Z.out.2.1]; have := NXT.out.2.1.td; have := NXT.out.2.1.n1; omega); have O7 := Lib.hid (C.out.out.step Z.out.2.2.2.2.1); have G7 := Lib.hid (Z.out.2.2.1.read.mono (G := fun i => Fo b Q5 w4 q7 i ∧ u8.ownBlock ≠ some i) fun i _ hf => ⟨Fo.up C.out.ps hf, fun e => hf.2.elim (C.out.out.fr i e) fun e2 => absurd (C.out.out.row.lt e).2 (Nat.not_lt.2 e2)⟩); dsimp only)
            | (at_builtin; refine list_rows shEv rfl _ _ 44 rfl 59 i0 (.agg #[.int .i64 0, .slice none 0 0, .int .i64 0, .int .i64 0]) 48 Tryd.underlying44 hi hz0 hz1 hz2 rfl (by decide) (Fo b Q5 w4 q7) (fun i => Fo b Q5 w4 q7 i ∧ u8.ownBlock ≠ some i) w4.heap.size u8 j1.told.length j1.told rfl O7.out.row rfl _ n7 c7' _ rfl G7.out Z.out.2.1 (fun _ _ h => h) (by unfold maxLen; have := TD.out; have := KT.out; omega) (by have := TD.out; have := KT.out; omega) (Nat.le_trans C.out.ps.off.size Z.out.2.2.2.2.1.off.size) ?_; intro v8 w8 ho8 hg8 hm8; have N := Lib.hid (C.out.round HRO.out hM HW1.out Z.out.1 Z.out.2.2.2.1 Z.out.2.2.2.2.1 Z.out.2.2.2.2.2.1 Z.out.2.2.2.2.2.2 ho8 hg8 hm8); clear ho8 hg8 hm8))
          go_roundw
          case rel => exact ⟨_, q7, ol7, N⟩
          case measure =>
            rw [NX.out, N.out.pw.px.nxt]
            have a1 := NXT.out.2.2.2.2.2.1
            have a2 := N.out.ok.n1
            have a3 : ({ k7 with told := j1.told ++ k7.told } : Jn).next = k7.next := rfl
            rw [a3] at a2 ⊢
            omega
      · have F := Lib.hid (C.out.done (by rw [← WL.out]; exact hlt) S5.out HQ.out.1)
        have F2 := Lib.hid (show Pfe b q w (jfeed j k p) u8 wr.drew by
          rw [HJ0.out.2.2]
          obtain ⟨q', ol', A', n', c', g1, g2, g3, g4, g5, g6, g7, g8⟩ := F.out
          exact ⟨q', ol', A', n', c', g1, g2, g3, g4.below (Below.refl _ _).drew, g5.below (Below.refl _ _).drew, g6.below (Below.refl _ _).drew, g7, g8⟩)
        clear C F
        go_wp2_with fail
        go_region
        all_goals
          go_wp2_with fail
          exact bodyPost_ret (results_tmp2 rfl _ _ _) rfl ⟨_, rfl, F2.out⟩
end

section
set_option maxRecDepth 4000
open Go.RowKit Go.Maps

set_option maxHeartbeats 4000000 in
theorem pfeed_arg (b : Nat) (j : Jn) (q : Jq) (ol : List Int) (k : Int) (p : Pc) (A : Option Addr) (n c : Nat) (w : World) (h : Pw w b j q ol) (hk : k < 0 ∨ (j.last.length : Int) ≤ k) :
    Calls Tryd.prog 15 #[.pointer (some ⟨b, 0, none⟩), .int .i64 k, pvV p.b p.e p.n A n c] w fun e w' => e = .returned (.tuple #[.slice none 0 0, .int .i64 1]) ∧ Below w.heap.size w w' := by
  obtain ⟨ln, hln⟩ : ∃ m, Hid (j.last.length = m) := ⟨_, Lib.hid rfl⟩
  rw [hln.out] at hk
  have B := Lib.hid (show Below w.heap.size w (w.alloc (.cells #[.bool p.b, .bool p.e, .int .i64 p.n, .slice A n c] 50)) from (Below.refl _ _).alloc (Nat.le_refl _) _)
  have WAYS : k < 0 ∨ (¬ k < 0 ∧ (ln : Int) ≤ k) := by omega
  have H := Lib.hid h
  clear h hk
  go_enter Tryd.func15, Tryd.ntmps15
  go_upto_region 1 with fail
  refine at_worldJ (fun W => Hid (Below w.heap.size w W)) B ?_
  clear B
  intro W B
  have c4 := (H.out.below B.out).px.c4
  rw [hln.out] at c4
  rcases WAYS with t1 | ⟨t1, t2⟩
  · go_wp2_with fail
    exact bodyPost_ret (results_tmp2 rfl _ _ _) rfl ⟨rfl, B.out⟩
  · go_wp2_with fail
    exact bodyPost_ret (results_tmp2 rfl _ _ _) rfl ⟨rfl, B.out⟩
set_option maxHeartbeats 4000000 in
theorem pfeed_num (b : Nat) (j : Jn) (q : Jq) (ol : List Int) (k : Nat) (p : Pc) (A : Option Addr) (n c : Nat) (w : World) (h : Pw w b j q ol) (hk : k < j.last.length) (hp : p.n < 0 ∨ (frmod j.sh : Int) ≤ p.n) :
    Calls Tryd.prog 15 #[.pointer (some ⟨b, 0, none⟩), .int .i64 (k : Int), pvV p.b p.e p.n A n c] w fun e w' => e = .returned (.tuple #[.slice none 0 0, .int .i64 5]) ∧ Below w.heap.size w w' := by
  obtain ⟨mo, hmo1⟩ : ∃ m, Hid (frmod j.sh = m) := ⟨_, Lib.hid rfl⟩
  obtain ⟨ln, hln⟩ : ∃ m, Hid (j.last.length = m) := ⟨_, Lib.hid rfl⟩
  rw [hmo1.out] at hp
  have C := Lib.hid (show FrX (w.alloc (.cells #[.bool p.b, .bool p.e, .int .i64 p.n, .slice A n c] 50)) w.heap.size 50 p.b p.e p.n A n c ∧ Below w.heap.size w (w.alloc (.cells #[.bool p.b, .bool p.e, .int .i64 p.n, .slice A n c] 50)) from ⟨FrX.new _ _ _ _ _ _ _ _, (Below.refl _ _).alloc (Nat.le_refl _) _⟩)
  have WAYS : p.n < 0 ∨ (¬ p.n < 0 ∧ (mo : Int) ≤ p.n) := by omega
  have t1 : ¬ (k : Int) < 0 := by omega
  have t2 : ¬ (ln : Int) ≤ (k : Int) := by rw [← hln.out]; omega
  have H := Lib.hid h
  clear h hk hp
  go_enter Tryd.func15, Tryd.ntmps15
  go_upto_region 1 with fail
  refine at_worldJ (fun W => Hid (FrX W w.heap.size 50 p.b p.e p.n A n c ∧ Below w.heap.size w W)) C ?_
  clear C
  intro W C
  have c1 := (H.out.below C.out.2).px.c1; have c4 := (H.out.below C.out.2).px.c4
  rw [hmo1.out] at c1
  rw [hln.out] at c4
  have x2 := C.out.1.c2
  rcases WAYS with t3 | ⟨t3, t4⟩
  · have t5 : decide (p.n < 0) = true := by simp; exact t3
    go_wp2_with fail
    go_quiet (fail)
    go_wp2_with fail
    exact bodyPost_ret (results_tmp2 rfl _ _ _) rfl ⟨rfl, below_drewN C.out.2 _⟩
  · have t5 : decide (p.n < 0) = false := by simp; omega
    have t6 : decide ((mo : Int) ≤ p.n) = true := by simp; exact t4
    go_wp2_with fail
    go_quiet (fail)
    go_wp2_with fail
    exact bodyPost_ret (results_tmp2 rfl _ _ _) rfl ⟨rfl, below_drewN C.out.2 _⟩
end

section
set_option maxRecDepth 4000
open Go.RowKit Go.Maps

def sp0 : Jn := jnew true 2 4 100
def sp1 : Jn := { sp0 with last := [-1, 1], wait := [(1, ⟨false, true, 1, [2]⟩)] }
theorem sp_feed1 : jfeed sp0 1 ⟨false, true, 1, [2]⟩ = sp1 := by
  have e : jcame sp0 1 ⟨false, true, 1, [2]⟩ = sp1 := by rfl
  show jover 4 (jrun (jcame sp0 1 ⟨false, true, 1, [2]⟩)) = sp1
  rw [e, jrun_stop (j := sp1) (by rfl), jover_stop (by decide)]
def sp2 : Jn := ⟨true, 4, 100, [0, 1], [], 2, 0, [], [⟨0, [1, 2], 0, 0⟩]⟩
theorem sp_feed2 : jfeed sp1 0 ⟨true, false, 0, [1]⟩ = sp2 := by
  have e : jcame sp1 0 ⟨true, false, 0, [1]⟩ = { sp1 with last := [0, 1], wait := [(1, ⟨false, true, 1, [2]⟩), (0, ⟨true, false, 0, [1]⟩)] } := by rfl
  have e2 : jrun { sp1 with last := [0, 1], wait := [(1, ⟨false, true, 1, [2]⟩), (0, ⟨true, false, 0, [1]⟩)] } = sp2 := by
    rw [jrun_of (n := 2) (by rfl)]
    rfl
  show jover 4 (jrun (jcame sp1 0 ⟨true, false, 0, [1]⟩)) = sp2
  rw [e, e2, jover_stop (by decide)]
/-- The number of a link as Go has it. -/
theorem sp_call1 (b : Nat) (q : Jq) (ol : List Int) (A : Option Addr) (w : World) (h : Pw w b sp0 q ol) (hp : RdF (fun i => ¬ q.own b i) w A [2]) (hmn : q.mn < 1099511627776) (hfr : ∀ i, q.fr i) :
    Calls Tryd.prog 15 #[.pointer (some ⟨b, 0, none⟩), .int .i64 1, pvV false true 1 A 1 1] w fun e w' => ∃ q' ol' D c, e = .returned (.tuple #[.slice D 0 c, .int .i64 0]) ∧ Pw w' b sp1 q' ol' ∧ Ps b q w q' w' ∧ q'.mn ≤ q.mn + 1 ∧ ∀ i, q'.fr i := by
  have hc := pfeed_any b sp0 q ol 0 4096 1 ⟨false, true, 1, [2]⟩ A 1 1 w h hp rfl (Nat.le_refl _) (jnew_ok (s := true) (links := 2) (room := 4) (most := 100) (by decide) (by decide) (by decide) (by decide)).1 ⟨fun y hy => (by cases hy), fun _ => rfl⟩ rfl (by decide) (by decide) (by decide) (by decide) (by decide) (by decide) (by decide) hmn hfr
  refine Calls.mono hc ?_
  rintro e w' ⟨v, rfl, q', ol', D, n, c, rfl, k1, k2, k3, k4, k5, k6, k7⟩
  rw [sp_feed1] at k1 k3 k4
  subst k1
  exact ⟨q', ol', D, c, rfl, k4, k5, k6, k7⟩
theorem sp1_ok : Jok 4096 sp1 := by
  have h := (jnew_ok (s := true) (links := 2) (room := 4) (most := 100) (by decide) (by decide) (by decide) (by decide)).1
  have h2 := h.came (k := 1) (by decide) (p := ⟨false, true, 1, [2]⟩) (by decide) (by decide)
  exact h2
theorem sp_call2 (b : Nat) (q : Jq) (ol : List Int) (A : Option Addr) (w : World) (h : Pw w b sp1 q ol) (hp : RdF (fun i => ¬ q.own b i) w A [1]) (hmn : q.mn < 1099511627776) (hfr : ∀ i, q.fr i) :
    Calls Tryd.prog 15 #[.pointer (some ⟨b, 0, none⟩), .int .i64 0, pvV true false 0 A 1 1] w fun e w' => ∃ q' g off c E m, e = .returned (.tuple #[.slice (some ⟨g, off, none⟩) 1 c, .int .i64 0]) ∧ Ps b q w q' w' ∧ w'.cell? ⟨g, off, none⟩ = some (.int .i64 0) ∧ w'.cell? ⟨g, off + 1, none⟩ = some (.slice E 2 m) ∧ Rd w' w'.heap.size E [1, 2] := by
  have hc := pfeed_any b sp1 q ol 4096 8192 0 ⟨true, false, 0, [1]⟩ A 1 1 w h hp rfl (Nat.le_refl _) sp1_ok ⟨fun y hy => (by rw [List.mem_singleton.1 hy]; rfl), fun _ => rfl⟩ rfl (by decide) (by decide) (by decide) (by decide) (by decide) (by decide) (by decide) hmn hfr
  refine Calls.mono hc ?_
  rintro e w' ⟨v, rfl, q', ol', D, n, c, rfl, k1, k2, k3, k4, k5, k6, k7⟩
  rw [sp_feed2] at k1 k3 k4
  subst k1
  obtain ⟨g, off, x, E, m, rfl, g2, g3, g4, g5, g6, g7, g8, g9⟩ := k3.ev (k := 0) (by decide)
  injection g3 with g3
  subst g3
  exact ⟨q', g, off, c, E, m, rfl, k5, by simpa using g4, by simpa using g5, g9.rd⟩
set_option maxHeartbeats 4000000 in
theorem jspeaks (w : World) (hT : TabF w) : Calls Tryd.prog 7 #[] w fun e w' => e = .returned (.bool true) ∧ Below w.heap.size w w' := by
  have hnew := pnew_any true 2 4 100 w hT (by decide) (by decide) (by decide) (by decide) (by decide) (by decide)
  rw [show ((2 : Nat) : Int) = 2 from rfl] at hnew
  clear hT
  go_enter Tryd.func7, Tryd.ntmps7
  go_wp2_with (first
    | (go_at_call 8; (with_reducible refine hnew.mono ?_); rintro e w1 ⟨b, q, rfl, k1, k2, k3, k4, k5⟩; have C := Lib.hid (show Pw w1 b sp0 q [] ∧ Below w.heap.size w w1 ∧ (∀ i, q.own b i → w.heap.size ≤ i) ∧ q.mn = 0 ∧ ∀ i, q.fr i from ⟨k1, k2, k3, k4, k5⟩); have L1 := Lib.hid (show RdF (fun i => ¬ q.own b i) (w1.alloc (.cells #[.int .u8 2] 5)) (some ⟨w1.heap.size, 0, none⟩) [2] from fun _ => ⟨w1.heap.size, 0, rfl, by simp, k1.new (Nat.le_refl _), fun k x hx => by rw [cell_of_row _ _ _ _ _ _ (heap_alloc_new w1 _)]; rcases k with _ | k <;> simp at hx; subst hx; rfl⟩); clear k1 k2 k3 k4 k5 hnew; dsimp only)
    | (go_at_call 15; (with_reducible refine (sp_call1 b q [] _ _ (C.out.1.below ((Below.refl _ _).alloc (Nat.le_refl _) _)) L1.out (by rw [C.out.2.2.2.1]; decide) C.out.2.2.2.2).mono ?_); rintro e w2 ⟨q2, ol2, D2, c2, rfl, k1, k2, k3, k4⟩; have C2 := Lib.hid (show Pw w2 b sp1 q2 ol2 ∧ Ps b q w1 q2 w2 ∧ q2.mn ≤ 1 ∧ ∀ i, q2.fr i from ⟨k1, (Ps.of_below ((Below.refl _ _).alloc (Nat.le_refl _) _)).trans k2, by rw [C.out.2.2.2.1] at k3; exact k3, k4⟩); have L2 := Lib.hid (show RdF (fun i => ¬ q2.own b i) (w2.alloc (.cells #[.int .u8 1] 5)) (some ⟨w2.heap.size, 0, none⟩) [1] from fun _ => ⟨w2.heap.size, 0, rfl, by simp, k1.new (Nat.le_refl _), fun k x hx => by rw [cell_of_row _ _ _ _ _ _ (heap_alloc_new w2 _)]; rcases k with _ | k <;> simp at hx; subst hx; rfl⟩); clear k1 k2 k3 k4 L1; dsimp only)
    | (go_at_call 15; (with_reducible refine (sp_call2 b q2 ol2 _ _ (C2.out.1.below ((Below.refl _ _).alloc (Nat.le_refl _) _)) L2.out (by have := C2.out.2.2.1; omega) C2.out.2.2.2).mono ?_); rintro e w3 ⟨q3, g3, o3, c3, E3, m3, rfl, k1, x0, x1, k2⟩; have C3 := Lib.hid (show Ps b q w1 q3 w3 from C2.out.2.1.trans ((Ps.of_below ((Below.refl _ _).alloc (Nat.le_refl _) _)).trans k1)); have R3 := Lib.hid (show Rd (w3.alloc (.cells #[.int .u8 1, .int .u8 2] 5)) (w3.alloc (.cells #[.int .u8 1, .int .u8 2] 5)).heap.size E3 [1, 2] from (k2.below ((Below.refl _ _).alloc (Nat.le_refl _) _)).more (by simp)); have R4 := Lib.hid (show Rd (w3.alloc (.cells #[.int .u8 1, .int .u8 2] 5)) (w3.alloc (.cells #[.int .u8 1, .int .u8 2] 5)).heap.size (some ⟨w3.heap.size, 0, none⟩) [1, 2] from fun _ => ⟨w3.heap.size, 0, rfl, by simp, fun k x hx => by rw [cell_of_row _ _ _ _ _ _ (heap_alloc_new w3 _)]; rcases k with _ | _ | k <;> simp at hx <;> subst hx <;> rfl⟩); clear k1 k2 L2; dsimp only)
    | (go_at_call 18; (with_reducible refine (equal_yes [1, 2] [1, 2] 2 2 _ _ _ _ _ R3.out R4.out rfl rfl (by decide) rfl).mono ?_); rintro e w4 ⟨rfl, hb⟩; have B4 := Lib.hid hb; clear hb; dsimp only))
  go_ret
  refine ⟨rfl, ?_⟩
  have o1 : Below w.heap.size w w3 := ⟨(C3.out.off.os).trans C.out.2.1.os, (C3.out.off.tape).trans C.out.2.1.tape, (C3.out.off.output).trans C.out.2.1.output, Nat.le_trans C.out.2.1.size C3.out.off.size, fun i hi => (C3.out.off.block i (Nat.lt_of_lt_of_le hi C.out.2.1.size) (fun e => absurd hi (Nat.not_lt.2 (C.out.2.2.1 i e)))).trans (C.out.2.1.block i hi)⟩
  exact (o1.alloc o1.size _).trans (B4.out.mono (o1.alloc o1.size _).size)
end

section
set_option maxRecDepth 4000
open Go.RowKit Go.Maps

theorem Jok.up {M M' : Int} {j : Jn} (h : Jok M j) (hM : M ≤ M') : Jok M' j := ⟨h.n0, Int.le_trans h.n1 hM, h.mo, h.da, h.m0, h.m1, fun x hx => ⟨Int.lt_of_lt_of_le (h.pl x hx).1 hM, (h.pl x hx).2⟩, h.pg, h.wl, fun x hx => ⟨(h.la x hx).1, Int.lt_of_lt_of_le (h.la x hx).2 hM⟩, h.l0, h.l1, h.td⟩
theorem Jmo.stp {j k : Jn} (h : Jmo j) (hk : jstp j = some k) : Jmo k := by
  cases hp : jat j.wait j.next with
  | some p =>
    rw [jstp_thr hp] at hk
    injection hk with hk
    subst hk
    exact h.thr _ _ _
  | none =>
    by_cases he : jend j ≤ j.next
    · rw [jstp_none hp he] at hk; cases hk
    · rw [jstp_lack hp he] at hk
      injection hk with hk
      subst hk
      exact h.lack _
theorem Jmo.jit {j : Jn} (h : Jmo j) (n : Nat) : Jmo (Go.Proofs.YtamdaepeogmboaaDoor.jit n j) := by
  induction n generalizing j with
  | zero => exact h
  | succ n ih =>
    cases hj : jstp j with
    | none => rw [jit_stop hj]; exact h
    | some k =>
      have e : Go.Proofs.YtamdaepeogmboaaDoor.jit (n + 1) j = Go.Proofs.YtamdaepeogmboaaDoor.jit n k := by simp [Go.Proofs.YtamdaepeogmboaaDoor.jit, hj]
      rw [e]
      exact ih (h.stp hj)
theorem Jmo.run {j : Jn} (h : Jmo j) : Jmo (jrun j) := by
  unfold jrun
  split
  · exact h.jit _
  · exact h
theorem Jmo.ush {k : Int} {j m : Jn} (h : Jmo j) (hm : jush k j = some m) : Jmo m := by
  unfold jush at hm
  split at hm
  · injection hm with hm
    subst hm
    exact (h.lack _).run
  · cases hm
theorem Jmo.ut {k : Int} {j : Jn} (h : Jmo j) (n : Nat) : Jmo (jut k n j) := by
  induction n generalizing j with
  | zero => exact h
  | succ n ih =>
    cases hj : jush k j with
    | none => rw [jut_stop hj]; exact h
    | some m => rw [jut_next hj]; exact ih (h.ush hj)
theorem Jmo.over {k : Int} {j : Jn} (h : Jmo j) : Jmo (jover k j) := by
  unfold jover
  split
  · exact h.ut _
  · exact h
theorem Jmo.feed {M : Int} {j : Jn} (h : Jmo j) (hok : Jok M j) {k : Nat} (hk : k < j.last.length) {p : Pc} (h0 : 0 ≤ p.n) (h1 : p.n < (frmod j.sh : Int)) : Jmo (jfeed j k p) := (h.came hok hk h0 h1).run.over
theorem Jmo.flush {j : Jn} (h : Jmo j) : Jmo (jflush j) := (h.told []).over
theorem pjush_same {k : Int} {j m : Jn} (h : jush k j = some m) : Jsame m j := by
  unfold jush at h
  split at h
  · injection h with h
    subst h
    exact (jrun_same _).trans ⟨rfl, rfl, rfl, rfl⟩
  · cases h
theorem pjut_same (k : Int) (n : Nat) (j : Jn) : Jsame (jut k n j) j := by
  induction n generalizing j with
  | zero => exact .refl _
  | succ n ih =>
    cases hj : jush k j with
    | none => rw [jut_stop hj]; exact .refl _
    | some m => rw [jut_next hj]; exact (ih m).trans (pjush_same hj)
theorem jover_keep (k : Int) (j : Jn) : (jover k j).sh = j.sh ∧ (jover k j).room = j.room ∧ (jover k j).most = j.most ∧ (jover k j).last = j.last := by
  have key : ∀ (n : Nat) (j : Jn), Jsame (jut k n j) j := fun n j => pjut_same k n j
  unfold jover
  split
  · have := key (Classical.choose ‹_›) j
    exact ⟨this.sh, this.room, this.most, this.last⟩
  · exact ⟨rfl, rfl, rfl, rfl⟩
theorem jfeed_keep (j : Jn) (k : Nat) (p : Pc) : (jfeed j k p).sh = j.sh ∧ (jfeed j k p).room = j.room ∧ (jfeed j k p).most = j.most ∧ (jfeed j k p).last.length = j.last.length := by
  have h := jover_keep j.room (jrun (jcame j k p))
  have h2 := jrun_same (jcame j k p)
  refine ⟨h.1.trans h2.sh, h.2.1.trans h2.room, h.2.2.1.trans h2.most, ?_⟩
  rw [show (jfeed j k p).last = (jover j.room (jrun (jcame j k p))).last from rfl, h.2.2.2, h2.last]
  exact List.length_set
theorem jnew_mo (s : Bool) (links : Nat) (room most : Int) : Jmo (jnew s links room most) := ⟨fun y hy => (by cases hy), fun _ => rfl⟩
end
end Go.Proofs.YtamdaepeogmboaaDoor
