
/-
  The program's Feed, Flush and Kept of layer 24. No condition beyond: places up to 2^36, sizes below 2^30.
-/
import Derived.Test.YtamdaepeogmboaaDoorJqH
import Derived.Test.YtamdaepeogmboaaDoorJqN
namespace Go.Proofs.YtamdaepeogmboaaDoor
set_option maxRecDepth 4000
open Go.RowKit Go.Maps

/-- What a call tells lies where the caller may read it. -/
theorem Fo.up {b : Nat} {q0 q1 q2 : Jq} {w0 w1 : World} (h : Ps b q0 w0 q1 w1) {i : Nat} (hi : Fo b q1 w1 q2 i) : Fo b q0 w0 q2 i := ⟨hi.1, hi.2.elim (h.own i) fun e => .inr (Nat.le_trans h.off.size e)⟩
theorem Jok.told {M : Int} {j : Jn} (h : Jok M j) : Jok M { j with told := [] } := ⟨h.n0, h.n1, h.mo, h.da, h.m0, h.m1, h.pl, h.pg, h.wl, h.la, h.l0, h.l1, by have := h.n0; show (([] : List Ev).length : Int) ≤ 2 * j.next; simp; omega⟩
theorem Jmo.told {j : Jn} (h : Jmo j) (t : List Ev) : Jmo { j with told := t } := ⟨h.nm, h.dm⟩
set_option maxHeartbeats 1000000 in
theorem pkept_any (b : Nat) (j : Jn) (q : Jq) (ol : List Int) (w : World) (h : Pw w b j q ol) :
    Calls Tryd.prog 16 #[.pointer (some ⟨b, 0, none⟩)] w fun e w' => e = .returned (.int .i64 ((j.wait.length : Nat) : Int)) ∧ w' = w := by
  have c7 := h.px.c7
  have e : q.on = j.wait.length := by rw [← h.od.1]; exact h.sr.len
  rw [e] at c7
  clear h e
  go_enter Tryd.func16, Tryd.ntmps16
  go_wp2_with fail
  go_ret
  exact ⟨rfl, rfl⟩
/-- What Flush answers, and Feed beside the error's number. -/
def Pfe (b : Nat) (q : Jq) (w : World) (k : Jn) (v : Value) (w' : World) : Prop :=
  ∃ q' ol' A n c, v = .slice A n c ∧ k.told.length = n ∧ n ≤ c ∧ Rws shEv (Fo b q w q') w' A k.told ∧ Pw w' b k q' ol' ∧ Ps b q w q' w' ∧ q'.mn ≤ q.mn + 1 ∧ ∀ i, q'.fr i
/-- The last place. -/
theorem Srt.last {ol : List Int} {wt : List (Int × Pc)} {e : Int} (h : Srt ol wt) (n : Nat) (hn : ol.length = n + 1) (he : ol[n]? = some e) : (∀ x ∈ wt, x.1 ≤ e) ∧ ∃ x ∈ wt, x.1 = e := by
  have hm : e ∈ ol := List.mem_of_getElem? he
  obtain ⟨p, hp⟩ := h.mem.1 hm
  refine ⟨fun x hx => ?_, ⟨_, hp, rfl⟩⟩
  have hx' : x.1 ∈ ol := h.mem.2 ⟨x.2, hx⟩
  obtain ⟨i, hi⟩ := List.mem_iff_getElem?.1 hx'
  have hil := (List.getElem?_eq_some_iff.1 hi).1
  rcases Nat.lt_or_ge i n with h1 | h1
  · obtain ⟨g1, g2⟩ := List.getElem?_eq_some_iff.1 hi
    obtain ⟨g3, g4⟩ := List.getElem?_eq_some_iff.1 he
    have := List.pairwise_iff_getElem.1 h.so i n g1 g3 h1
    omega
  · have : i = n := by omega
    subst this
    rw [hi] at he
    injection he with he
    omega
set_option maxHeartbeats 4000000 in
theorem pflush_any (b : Nat) (j : Jn) (q : Jq) (ol : List Int) (M : Int) (w : World) (h : Pw w b j q ol) (hok : Jok M j) (hmo : Jmo j) (hst : jstp j = none) (hM : M ≤ 68719476736) (hfr : ∀ i, q.fr i) :
    Calls Tryd.prog 13 #[.pointer (some ⟨b, 0, none⟩)] w fun e w' => ∃ v, e = .returned v ∧ Pfe b q w (jflush j) v w' := by
  have h0 := h.told []
  have ok0 := hok.told
  have st0 := jstp_told (t := []) hst
  rcases Nat.eq_zero_or_pos q.on with hz | hz
  · have c7 := h.px.c7
    rw [hz] at c7
    have hw : j.wait = [] := List.eq_nil_of_length_eq_zero (by rw [← h.sr.len, h.od.1, hz])
    have ej : jflush j = { j with told := [] } := jover_stop (by show ¬ (0 : Int) < ((j.wait).length : Int); rw [hw]; decide)
    have F := Lib.hid (show Pfe b q w (jflush j) (.slice none 0 0) w from ⟨q, ol, none, 0, 0, rfl, by rw [ej]; rfl, Nat.le_refl _, by rw [ej]; exact Rws.nil, by rw [ej]; exact h0, .refl _ _ _, Nat.le_succ _, hfr⟩)
    clear h h0 hok ok0 st0 hst hmo hw ej
    go_enter Tryd.func13, Tryd.ntmps13
    go_wp2_with fail
    go_ret
    exact ⟨_, rfl, F.out⟩
  · obtain ⟨m, hm⟩ : ∃ m, q.on = m + 1 := ⟨q.on - 1, by omega⟩
    have hlen : ol.length = m + 1 := by rw [h.od.1, hm]
    obtain ⟨e, he⟩ : ∃ e, ol[m]? = some e := ⟨_, List.getElem?_eq_getElem (by omega)⟩
    obtain ⟨l1, x, hx, l2⟩ := h.sr.last m hlen he
    have heM : e ≤ M := by have := (hok.pl x hx).1; omega
    obtain ⟨g, off, cur, eo, k1, k2, k3, k4⟩ := h.od.cells hz
    have cx := k4 m e he
    have c7 := h.px.c7
    rw [eo] at c7
    obtain ⟨N, hN⟩ : ∃ N, q.on = N := ⟨_, rfl⟩
    rw [hN] at c7 hm
    have wr : IntKind.i64.wrap ((N : Int) - 1) = (m : Int) := by rw [IntKind.wrap_i64]; have := h.od.2.2.1; have := h.od.2.1; omega
    have fin : ∀ k, Pr e { j with told := [] } k → k = jflush j := fun k hk => by
      have hend := jstp_none_end st0
      have hf := (ok0.first2 st0 (by show 0 < j.wait.length; exact List.length_pos_of_mem hx) (by omega)).1
      rw [jend_min] at hend
      have e1 := hk.flush ok0 (by omega) (by have hf' : j.next < jfirst j.wait := hf; have hend' : min (jleast j.last + 1) (jfirst j.wait) ≤ j.next := hend; show jleast j.last + 1 ≤ j.next; omega) l1 (.inl ⟨x, hx, l2⟩)
      rw [e1, jrun_stop st0]
      rfl
    have FIN := Lib.hid fin
    have H := Lib.hid (show Pw w.drew b { j with told := [] } q ol from h0.below (Below.refl _ _).drew)
    have OK := Lib.hid ok0
    have MO := Lib.hid (hmo.told [])
    have b1 : (m : Int) < (N : Int) := by omega
    have b0 : (0 : Int) ≤ (m : Int) := by omega
    have b2 : ((m : Int)).toNat = m := by omega
    have hz2 : ¬ (N : Int) = 0 := by omega
    have hz3 : ¬ N = 0 := by omega
    clear h h0 hok ok0 st0 hst hmo k1 k2 k3 k4 fin l1 hx l2 hlen he hm hN
    go_enter Tryd.func13, Tryd.ntmps13
    go_wp2_with fail
    go_region_with (go_at_call 25; (with_reducible refine (ppass_any b { j with told := [] } q ol e M _ H.out rfl OK.out MO.out hM heM).mono ?_); rintro r w3 ⟨k, q3, ol3, A3, n3, c3, p1, rfl, p2, p3, p4, p5, p6, p7, p8⟩; have Z := Lib.hid (show _ ∧ _ ∧ _ ∧ _ ∧ _ ∧ _ ∧ _ ∧ _ from ⟨p1, p2, p3, p4, p5, p6, p7, p8⟩); clear p1 p2 p3 p4 p5 p6 p7 p8; dsimp only)
    all_goals
      go_wp2_with fail
      go_ret
      obtain ⟨p1, p2, p3, p4, p5, p6, p7, p8⟩ := Z.out
      have ek := FIN.out k p1
      subst ek
      exact ⟨_, rfl, q3, ol3, A3, n3, c3, rfl, p2, p3, p4.read, p5, (Ps.of_below (Below.refl _ _).drew).trans p6, by omega, by rw [p8]; exact hfr⟩
end Go.Proofs.YtamdaepeogmboaaDoor
