
/-
  What JoinSome's and JoinAll's loops know: the joiner, the events got, the packets wanted. Condition: the shapes stand as the start-up lays them.
-/
import Derived.Test.YtamdaepeogmboaaDoorJqRW
import Derived.Test.YtamdaepeogmboaaDoorJsoM
import Derived.Test.YtamdaepeogmboaaDoorOqt
import Derived.Test.YtamdaepeogmboaaDoorFrgY
namespace Go.Proofs.YtamdaepeogmboaaDoor
set_option maxRecDepth 4000
open Go.RowKit Go.Maps

theorem shEv_nu8 : ∀ F w x cs, shEv.S F w x cs → ∀ u ∈ cs, Nu8 u := by
  rintro _ _ _ _ ⟨A, c, rfl, _⟩ u hu
  simp at hu
  rcases hu with rfl | rfl | rfl | rfl <;> intro x e <;> cases e
/-- A row of events lies outside a block without octets, but for its own. -/
theorem Orw.ev_off {T : TypeId} {F : Nat → Prop} {B : Nat} {w : World} {v u : Value} {xs : List Ev} (h : Orw shEv T F B w v xs) (hq : Qt w u) : Orw shEv T (fun i => F i ∧ u.ownBlock ≠ some i) B w v xs := by
  obtain ⟨css, h1, h2, h3⟩ := h
  refine ⟨css, h1, h2, fun k x cs hx hc => ?_⟩
  obtain ⟨A, c, e1, e2, e3⟩ := h3 k x cs hx hc
  refine ⟨A, c, e1, e2, ?_⟩
  cases hu : u.ownBlock with
  | none => exact e3.mono fun i _ hi => ⟨⟨hi.1, fun e => by cases e⟩, hi.2⟩
  | some g =>
    obtain ⟨cur, T', fr, q1, q2⟩ := hq g hu
    exact (e3.not q1 q2).mono fun i _ hi => ⟨⟨hi.1.1, fun e => by injection e with e; exact hi.2 e.symm⟩, hi.1.2⟩
theorem Orw.rw_off {T : TypeId} {F : Nat → Prop} {B : Nat} {w : World} {v u : Value} {xs : List (List Nat)} (h : Orw shB T F B w v xs) (hq : Qt w u) : Orw shB T (fun i => F i ∧ u.ownBlock ≠ some i) B w v xs := by
  obtain ⟨css, h1, h2, h3⟩ := h
  refine ⟨css, h1, h2, fun k x cs hx hc => ?_⟩
  obtain ⟨A, c, e1, e2, e3⟩ := h3 k x cs hx hc
  refine ⟨A, c, e1, e2, ?_⟩
  cases hu : u.ownBlock with
  | none => exact e3.mono fun i _ hi => ⟨⟨hi.1, fun e => by cases e⟩, hi.2⟩
  | some g =>
    obtain ⟨cur, T', fr, q1, q2⟩ := hq g hu
    exact (e3.not q1 q2).mono fun i _ hi => ⟨⟨hi.1.1, fun e => by injection e with e; exact hi.2 e.symm⟩, hi.1.2⟩
structure SoC (w : World) (b : Nat) (M : Int) (j : Jn) (q : Jq) (ol : List Int) (gv : Value) (G : List Ev) (wv : Value) (U : List (List Nat)) (W : World) : Prop where
  lw : LwC w b M j q ol W
  gr : Orw shEv 59 (fun i => ¬ q.own b i) w.heap.size W gv G
  gq : Qt W gv
  gn : ∀ i, gv.ownBlock = some i → ¬ q.own b i
  wr : Orw shB 30 (fun i => ¬ q.own b i) w.heap.size W wv U
  wq : Qt W wv
  wn : ∀ i, wv.ownBlock = some i → ¬ q.own b i
  ne : ∀ i, gv.ownBlock = some i → wv.ownBlock ≠ some i
section
variable {w W W' : World} {b : Nat} {M M' : Int} {j k : Jn} {q q' : Jq} {ol ol' : List Int} {gv wv v' : Value} {G G' : List Ev} {U U' : List (List Nat)}
theorem SoC.step (h : SoC w b M j q ol gv G wv U W) (hP : Pw W' b k q' ol') (hS : Ps b q W q' W') (hok : Jok M' k) (hmo : Jmo k) (hst : jstp k = none) (hfr : ∀ i, q'.fr i) : SoC w b M' k q' ol' gv G wv U W' :=
  ⟨h.lw.step hP hS hok hmo hst hfr, hS.orw h.gr h.gn, h.gq.keep hS.keeps h.gn, fun i hi => hS.out (h.gr.lt hi).2 (h.gn i hi), hS.orw h.wr h.wn, h.wq.keep hS.keeps h.wn, fun i hi => hS.out (h.wr.lt hi).2 (h.wn i hi), h.ne⟩
theorem SoC.below (h : SoC w b M j q ol gv G wv U W) (hb : Below W.heap.size W W') : SoC w b M j q ol gv G wv U W' := ⟨h.lw.below hb, h.gr.below hb, h.gq.below hb, h.gn, h.wr.below hb, h.wq.below hb, h.wn, h.ne⟩
theorem SoC.drew (h : SoC w b M j q ol gv G wv U W) : SoC w b M j q ol gv G wv U W.drew := h.below (Below.refl _ _).drew
/-- The joiner's blocks are not the row's. -/
theorem LwC.grow (h : LwC w b M j q ol W) {v : Value} (hg : W.grownBy W' v.ownBlock) (hq : Qt W v) (hn : ∀ i, v.ownBlock = some i → ¬ q.own b i) (hlo : ∀ i, v.ownBlock = some i → w.heap.size ≤ i) : LwC w b M j q ol W' := by
  have hO : Offs (fun i => v.ownBlock = some i) W W' := .of_grown hg fun _ h => h
  refine ⟨h.bel.grown hg h.bel.size hlo, h.pw.apart hO hn ?_, h.own, h.ok, h.mo, h.st, h.fr⟩
  cases hu : v.ownBlock with
  | none => exact h.pw.mp.mono fun i _ hi => ⟨hi, fun e => by cases e⟩
  | some g =>
    obtain ⟨cur, T', fr, q1, q2⟩ := hq g hu
    exact (h.pw.mp.not q1 q2).mono fun i _ hi => ⟨hi.1, fun e => by injection e with e; exact hi.2 e.symm⟩
/-- The events' row grows. -/
theorem SoC.got (h : SoC w b M j q ol gv G wv U W) (ho : Orw shEv 59 (fun i => ¬ q.own b i) w.heap.size W' v' G') (hg : W.grownBy W' gv.ownBlock) (hm : Mv W.heap.size gv v') (hq : Qt W' v') : SoC w b M j q ol v' G' wv U W' := by
  have hO : Offs (fun i => gv.ownBlock = some i) W W' := .of_grown hg fun _ h => h
  refine ⟨h.lw.grow hg h.gq h.gn fun i hi => (h.gr.lt hi).1, ho, hq, fun i hi => (hm i hi).elim (h.gn i) fun e => h.lw.pw.new e, ((h.wr.rw_off h.gq).keep (.of_offs hO fun i hf e => hf.elim (fun hl => hl.2 e) fun hl => h.ne i e hl)).mono fun _ _ hi => hi.1, h.wq.keep (F := fun i => gv.ownBlock ≠ some i) (.of_offs hO fun i hf e => hf e) fun i hi e => h.ne i e hi, h.wn, fun i hi => (hm i hi).elim (h.ne i) fun e hw => absurd (h.wr.lt hw).2 (Nat.not_lt.2 e)⟩
/-- The packets' row grows. -/
theorem SoC.want (h : SoC w b M j q ol gv G wv U W) (ho : Orw shB 30 (fun i => ¬ q.own b i) w.heap.size W' v' U') (hg : W.grownBy W' wv.ownBlock) (hm : Mv W.heap.size wv v') (hq : Qt W' v') : SoC w b M j q ol gv G v' U' W' := by
  have hO : Offs (fun i => wv.ownBlock = some i) W W' := .of_grown hg fun _ h => h
  refine ⟨h.lw.grow hg h.wq h.wn fun i hi => (h.wr.lt hi).1, ((h.gr.ev_off h.wq).keep (.of_offs hO fun i hf e => hf.elim (fun hl => hl.2 e) fun hl => h.ne i hl e)).mono fun i _ hi => hi.1, h.gq.keep (F := fun i => wv.ownBlock ≠ some i) (.of_offs hO fun i hf e => hf e) fun i hi => h.ne i hi, h.gn, ho, hq, fun i hi => (hm i hi).elim (h.wn i) fun e => h.lw.pw.new e, fun i hi e => (hm i e).elim (h.ne i hi) fun e2 => absurd (h.gr.lt hi).2 (Nat.not_lt.2 e2)⟩
/-- Pieces that wait to be fed: neither in the joiner's blocks nor in the events'. -/
def Pcs (b : Nat) (q : Jq) (gv : Value) (W : World) (A : Option Addr) (l : List Pc) : Prop := Rws shF (fun i => ¬ q.own b i ∧ gv.ownBlock ≠ some i) W A l
theorem Pcs.below {A : Option Addr} {l : List Pc} (h : Pcs b q gv W A l) (hb : Below W.heap.size W W') : Pcs b q gv W' A l := Rws.below h hb
theorem Pcs.step {A : Option Addr} {l : List Pc} (h : Pcs b q gv W A l) (hS : Ps b q W q' W') : Pcs b q' gv W' A l :=
  ((Rws.mono h (G := fun i => (¬ q.own b i ∧ gv.ownBlock ≠ some i) ∧ i < W.heap.size) fun _ hi hn => ⟨hn, hi⟩).keep (hS.keeps.less fun _ _ h => h.1.1)).mono fun _ _ h1 => ⟨hS.out h1.2 h1.1.1, h1.1.2⟩
theorem Pcs.got {A : Option Addr} {l : List Pc} (h : Pcs b q gv W A l) (hg : W.grownBy W' gv.ownBlock) (hm : Mv W.heap.size gv v') : Pcs b q v' W' A l :=
  ((Rws.mono h (G := fun i => (¬ q.own b i ∧ gv.ownBlock ≠ some i) ∧ i < W.heap.size) fun _ hi hn => ⟨hn, hi⟩).keep (.of_grown hg fun _ hi e => hi.1.2 e)).mono fun _ _ h1 => ⟨h1.1.1, fun e => (hm _ e).elim h1.1.2 fun e2 => absurd h1.2 (Nat.not_lt.2 e2)⟩
theorem SoC.pcs (h : SoC w b M j q ol gv G wv U W) {A : Option Addr} {l : List Pc} (hr : Rws shF (fun i => W.heap.size ≤ i) W' A l) : Pcs b q gv W' A l :=
  hr.mono fun _ _ hi => ⟨h.lw.pw.new hi, fun e => absurd (h.gr.lt e).2 (Nat.not_lt.2 hi)⟩
/-- What a call told. -/
theorem SoC.told (h : SoC w b M j q ol gv G wv U W) {A : Option Addr} {l : List Ev} (hr : Rws shEv (Fo b q W q') W' A l) : Rws shEv (fun i => ¬ q'.own b i ∧ gv.ownBlock ≠ some i) W' A l :=
  hr.mono fun _ _ hi => ⟨hi.1, fun e => hi.2.elim (h.gn _ e) fun e2 => absurd (h.gr.lt e).2 (Nat.not_lt.2 e2)⟩
theorem SoC.up (h : SoC w b M j q ol gv G wv U W) (e : M = M') : SoC w b M' j q ol gv G wv U W := by rw [← e]; exact h
end
/-- Split of a packet. -/
theorem jsplit (s : Bool) (ds : List (List Nat)) (i : Nat) (d : List Nat) (n c : Nat) (A : Option Addr) (w : World) (he : ds.getD i [] = d) (h : Rd w w.heap.size A d) (hb : By d) (hl : d.length = n) (hn : n ≤ 60) (hc : n ≤ c) (hT : TabF w) (hF : jsF ds (i + 1) ≤ 1200) :
    Calls Tryd.prog 19 #[.bool s, .int .i64 (jsF ds i : Int), .int .i64 ((1 + i % 5 : Nat) : Int), .slice A n c] w fun e w' => ∃ A' c', e = .returned (.tuple #[.slice A' (frcnt (1 + i % 5) n) c', .int .i64 (jsF ds (i + 1) : Int), .int .i64 0]) ∧ frcnt (1 + i % 5) n ≤ c' ∧ Rws shF (fun b => w.heap.size ≤ b) w' A' (jsL s ds i) ∧ Below w.heap.size w w' := by
  subst he
  have h1 : jsF ds i ≤ jsF ds (i + 1) := jsF_le (Nat.le_succ i)
  have h2 := js_mod s
  have hE : frsplE s (jsF ds i : Int) ((1 + i % 5 : Nat) : Int) = 0 := by
    unfold frsplE
    rw [if_neg (by omega), frright_iff.2 ⟨by omega, by omega⟩]
    rfl
  have hA : frsplA s (jsF ds i : Int) ((1 + i % 5 : Nat) : Int) (ds.getD i []) = jsL s ds i := by unfold frsplA; rw [if_pos hE]; rfl
  have hN : frsplN s (jsF ds i : Int) ((1 + i % 5 : Nat) : Int) (ds.getD i []) = jsF ds (i + 1) := by
    unfold frsplN
    rw [if_pos hE]
    show (jsF ds i + frcnt (1 + i % 5) (ds.getD i []).length) % frmod s = _
    exact Nat.mod_eq_of_lt (show jsF ds (i + 1) < frmod s by omega)
  have hz : (frsplA s (jsF ds i : Int) ((1 + i % 5 : Nat) : Int) (ds.getD i [])).length = frcnt (1 + i % 5) n := by rw [hA, jsL_len, hl]
  refine (frsplit_any s (jsF ds i : Int) ((1 + i % 5 : Nat) : Int) (by omega) (ds.getD i []) n c A w h hb hl (by omega) hc hT 0 _ _ hE hz hN).mono ?_
  rintro e w' ⟨A', c', rfl, h3, h4⟩
  rw [hA] at h3
  obtain ⟨A2, c2, h5, h6, _, h7⟩ := h3.slice
  injection h5 with h8 h9 h10
  subst h8; subst h10
  rw [jsL_len, hl] at h6
  exact ⟨A', c', rfl, h6, h7.mono fun b _ hb => hb.elim id id, h4⟩
/-- A piece is fed. -/
theorem so_feed {w W : World} {b : Nat} {j : Jn} {q : Jq} {ol : List Int} {gv wv : Value} {G : List Ev} {U : List (List Nat)} {s : Bool} {ds : List (List Nat)} {P n : Nat} {cm : Nat → Bool} {g : Nat} (C : SoC w b ((g : Int) * (frmod s : Int)) j q ol gv G wv U W) (S : Jso s ds P n cm g G j) (hg : cm g = true) (hn : 0 < n) {x : Pc} (hx : (jsX s ds P)[g]? = some x) (hF : jsF ds P ≤ 1200) (k : Nat) (hk : k < n) (A : Option Addr) (dn dc : Nat) (hd : x.d.length = dn) (hd2 : dn ≤ 60) (hdc : dn ≤ dc) (hr : RdF (fun i => ¬ q.own b i) W A x.d) (hmn : q.mn ≤ g) :
    Calls Tryd.prog 15 #[.pointer (some ⟨b, 0, none⟩), .int .i64 (k : Int), pvV x.b x.e x.n A dn dc] W fun e W' => ∃ J A' m c' q' ol', e = .returned (.tuple #[.slice A' m c', .int .i64 0]) ∧ SoC w b (((g + 1 : Nat) : Int) * (frmod s : Int)) J q' ol' gv G wv U W' ∧ Ps b q W q' W' ∧ Jso s ds P n cm (g + 1) (G ++ J.told) J ∧ J.told.length = m ∧ m ≤ 2400 ∧ Rws shEv (fun i => ¬ q'.own b i ∧ gv.ownBlock ≠ some i) W' A' J.told ∧ q'.mn ≤ g + 1 := by
  have hgl : g < jsF ds P := by have := (List.getElem?_eq_some_iff.1 hx).1; rwa [jsX_len] at this
  have hmod := js_mod s
  have hnum := jsX_num (by omega) hx
  have hM := js_mb s (show g < 1200 by omega)
  have hs := S.sh
  have hroom := S.room
  have hwt := S.wt
  have hln := S.ln
  have h0 : 0 ≤ x.n := by omega
  have h1 : x.n < (frmod j.sh : Int) := by rw [hs]; omega
  have FR := jfeed_room C.lw.ok (k := k) (by rw [hln]; exact hk) (p := x) (by omega) (by omega) (by rw [hroom]; omega) (by rw [hs]; have := hM.1; omega)
  have S2 := S.feed hg hn hk hx hnum (by omega) (by omega)
  rw [hs, hM.2] at FR
  have hf := pfeed_any b j q ol ((g : Int) * (frmod s : Int)) _ k x A dn dc W C.lw.pw hr hd hdc C.lw.ok C.lw.mo rfl (by rw [hs]; exact hM.1) (by rw [hroom]; omega) (by rw [hln]; exact hk) h0 h1 (by omega) (by omega) (by omega) C.lw.fr
  refine hf.mono ?_
  rintro e W' ⟨v5, rfl, q5, ol5, A5, n5, c5, rfl, k1, k2, k3, k4, k5, k6, k7⟩
  refine ⟨jfeed j k x, A5, n5, c5, q5, ol5, rfl, C.step k4 k5 FR.1 (C.lw.mo.feed C.lw.ok (by rw [hln]; exact hk) h0 h1) FR.2.1 k7, k5, S2, k1, ?_, C.told k3, by omega⟩
  have a1 : ((jfeed j k x).told.length : Int) ≤ 2 * (jfeed j k x).next := FR.1.td
  have a2 := S2.next
  omega
/-- The flush behind all packets. -/
theorem so_flush {w W : World} {b : Nat} {j : Jn} {q : Jq} {ol : List Int} {gv wv : Value} {G : List Ev} {U : List (List Nat)} {s : Bool} {ds : List (List Nat)} {n : Nat} {cm : Nat → Bool} (C : SoC w b ((jsF ds ds.length : Int) * (frmod s : Int)) j q ol gv G wv U W) (S : Jso s ds ds.length n cm (jsF ds ds.length) G j) (hn : 0 < n) (hd : ∀ d ∈ ds, d.length ≤ 60) (hl : ds.length ≤ 20) :
    Calls Tryd.prog 13 #[.pointer (some ⟨b, 0, none⟩)] W fun e W' => ∃ J A' m c' q' ol', e = .returned (.slice A' m c') ∧ SoC w b ((jsF ds ds.length : Int) * (frmod s : Int)) J q' ol' gv G wv U W' ∧ Ps b q W q' W' ∧ J.told.length = m ∧ m ≤ 2400 ∧ Rws shEv (fun i => ¬ q'.own b i ∧ gv.ownBlock ≠ some i) W' A' J.told ∧ J.wait = [] ∧ jwh (G ++ J.told) = jsW cm ds ds.length ∧ ∀ e ∈ G ++ J.told, (e.k = 1 → 1 ≤ e.m) ∧ e.k ≠ 3 := by
  have hF := jsF_1200 hd hl (Nat.le_refl _)
  have hM := js_mc s hF
  obtain ⟨D1, D2, D3, D4⟩ := S.done hn C.lw.st hd (by omega)
  have FO := C.lw.ok.told.over2 (k := 0) (jstp_told C.lw.st) (Int.le_refl _) (by omega)
  refine (pflush_any b j q ol _ W C.lw.pw C.lw.ok C.lw.mo C.lw.st hM C.lw.fr).mono ?_
  rintro e W' ⟨v5, rfl, q5, ol5, A5, n5, c5, rfl, k1, k2, k3, k4, k5, k6, k7⟩
  refine ⟨jflush j, A5, n5, c5, q5, ol5, rfl, C.step k4 k5 FO.1 C.lw.mo.flush FO.2.1 k7, k5, k1, ?_, C.told k3, D1, D3, D4⟩
  have a1 : ((jflush j).told.length : Int) ≤ 2 * (jflush j).next := FO.1.td
  omega
end Go.Proofs.YtamdaepeogmboaaDoor
