
/-
  What Split of layer 23 answers: the walk. Conditions: a most of at least 1, a first that is a number, at most 2000 octets; the shapes stand as the start-up lays them ('TabF').
-/
import Derived.Test.YtamdaepeogmboaaDoorFrgS
namespace Go.Proofs.YtamdaepeogmboaaDoor
set_option maxRecDepth 4000
open Go.RowKit Go.Shelf
attribute [local go_sem] Oper.semAt_some

theorem results_tmp3F {fn : Func} {u v x : Tmp} (h : fn.results = #[.tmp u, .tmp v, .tmp x]) (tmps : Array Value) (a b c : Value) (w : World) (hu : tmps.getD u undef = a) (hv : tmps.getD v undef = b) (hx : tmps.getD x undef = c) :
    (results fn tmps).run Tryd.prog w = .ok (.tuple #[a, b, c]) w := by
  subst hu hv hx
  simp [results, h]
theorem boxed_off {W : World} {B k : Nat} {t : TypeId} {u : Value} (h : Boxed W B t u) (hk : B ≠ k) (j : Nat) (x : Value) : Boxed (W.setCell ⟨k, j, none⟩ x) B t u :=
  ((Offs.set (X := fun i => i = k) W k j x rfl).block B h.lt hk).trans h
/-- The first begins, the last ends. -/
theorem frsplit_marks {w W : World} {s : Bool} {f m g n c0 k k1 : Nat} {l : List Nat} (h : Orw shF 50 (fun b => w.heap.size ≤ b) w.heap.size W (.slice (some ⟨g, 0, none⟩) k c0) (frrow s f ((List.range (frcnt m n)).map (frchk m l)))) (hlen : (frrow s f ((List.range (frcnt m n)).map (frchk m l))).length = k) (hl : l.length = n) (hk : frcnt m n = k) (hk1 : k1 + 1 = k) (hk0 : 0 < k) :
    (W.cell? ⟨g, 0, none⟩ = some (.bool false) ∧ W.frozen? ⟨g, 0, none⟩ = false) ∧ ((W.setCell ⟨g, 0, none⟩ (.bool true)).cell? ⟨g, k1 * 4 + 1, none⟩ = some (.bool false) ∧ (W.setCell ⟨g, 0, none⟩ (.bool true)).frozen? ⟨g, k1 * 4 + 1, none⟩ = false) ∧
    Orw shF 50 (fun b => w.heap.size ≤ b) w.heap.size ((W.setCell ⟨g, 0, none⟩ (.bool true)).setCell ⟨g, k1 * 4 + 1, none⟩ (.bool true)) (.slice (some ⟨g, 0, none⟩) k c0) (frpcs s f m l) := by
  obtain ⟨L, hL⟩ : ∃ L, (List.range (frcnt m n)).map (frchk m l) = L := ⟨_, rfl⟩
  have hLl : L.length = k := by rw [← hL, List.length_map, List.length_range, hk]
  have at_ : ∀ i, i < k → (frrow s f L)[i]? = some ⟨false, false, (frnum s f i : Int), frchk m l i⟩ := fun i hi => by
    unfold frrow
    rw [List.getElem?_mapIdx, ← hL, List.getElem?_map, List.getElem?_range (by omega)]
    rfl
  have hall := frrow_all s f m l
  rw [hl, hL, hk] at hall
  rw [hL] at h hlen
  -- the first
  have p0 := at_ 0 hk0
  obtain ⟨cs0, hown⟩ := h.own
  rw [hlen] at hown
  obtain ⟨b, off, p, _, _, e, _, hp, hc0, _⟩ := h.read.pc (k := 0) (by omega)
  injection e with e
  injection e with e1 e2
  subst e1; subst e2
  rw [p0] at hp
  injection hp with hp
  subst hp
  have h1 := h.setF_b p0 true
  rw [Nat.zero_mul, Nat.add_zero] at h1 hc0
  -- the last
  have p1 : ∃ y, ((frrow s f L).set 0 ⟨true, false, (frnum s f 0 : Int), frchk m l 0⟩)[k1]? = some ⟨y, false, (frnum s f k1 : Int), frchk m l k1⟩ ∧ y = decide (k1 = 0) := by
    by_cases hz : k1 = 0
    · subst hz
      exact ⟨true, by rw [List.getElem?_set_self (by omega)], rfl⟩
    · exact ⟨false, by rw [List.getElem?_set_ne (by omega)]; exact at_ k1 (by omega), (decide_eq_false hz).symm⟩
  obtain ⟨y, p1, hy⟩ := p1
  obtain ⟨cs1, hown1⟩ := h1.own
  rw [List.length_set, hlen] at hown1
  obtain ⟨b, off, p, _, _, e, _, hp, _, hc1, _⟩ := h1.read.pc (k := k1) (by rw [List.length_set]; omega)
  injection e with e
  injection e with e1 e2
  subst e1; subst e2
  rw [p1] at hp
  injection hp with hp
  subst hp
  rw [Nat.zero_add] at hc1
  have h2 := h1.setF_e p1 true
  refine ⟨⟨hc0, hown.frozenAt 0⟩, ⟨hc1, hown1.frozenAt _⟩, ?_⟩
  rw [← hall, show k - 1 = k1 by omega, ← hy]
  exact h2
theorem fri_end {w W W' : World} {s : Bool} {q m f nm : Nat} {A : Option Addr} {n c : Nat} {v : Value} {L : List (List Nat)} {d : List Nat} (h : FrM w W s q m A n c v v (frrow s f L ++ [⟨false, false, (nm : Int), d⟩]) (((nm + 1) % frmod s : Nat) : Int) W') (hnm : frnum s f L.length = nm) (hT : TabF w) : FrI w s f w.heap.size q (q + 1) (q + 2) (q + 3) m A n c (L ++ [d]) W' := by
  subst hnm
  refine FrM.fin (v := v) (W := W) ?_ hT
  rw [frrow_snoc]
  rw [show frnum s f (L ++ [d]).length = (frnum s f L.length + 1) % frmod s by unfold frnum; rw [List.length_append, List.length_singleton, Nat.mod_add_mod, Nat.add_assoc]]
  exact h
theorem fr_lit1 {w0 : World} (w : World) (B : Nat) (T : TypeId) {b e : Bool} {x : Int} {A : Option Addr} {n c : Nat} {l : List Nat} (hN : New w0 w A c n l) (hB : w0.heap.size = B := by rfl) :
    Rws shF (fun i => B ≤ i) (w.alloc (.cells #[.bool b, .bool e, .int .i64 x, .slice A n c] T)) (some ⟨w.heap.size, 0, none⟩) [⟨b, e, x, l⟩] := by
  subst hB
  have h := (litf (F := fun i => w0.heap.size ≤ i) w (T := T) (b := b) (e := e) (x := x) hN.1 (own_cap hN.2.1) (RdF.own hN.2.1)).read
  exact h.mono fun i _ hi => hi.elim id (fun h9 => Nat.le_trans hN.2.2.2.size h9)
theorem boxed_below {W W' : World} {B : Nat} {t : TypeId} {v : Value} (h : Boxed W B t v) (hg : W.grownBy W' none) : Boxed W' B t v := h.kept hg (by simp)
theorem fri_start {w w5 : World} {s : Bool} {g k : Nat} (ho : w5.ownsRow w.heap.size 50 4 (.slice (some ⟨g, 0, none⟩) 0 k) 0 []) (hb : Below w.heap.size w w5) (hs : Boxed w5 w.heap.size 4 (.bool s)) (hT : TabF w5) (f m : Nat) (A : Option Addr) (n c : Nat) (hf : f < frmod s := by assumption) :
    FrI w s f w.heap.size w5.heap.size (w5.heap.size + 1) (w5.heap.size + 2) (w5.heap.size + 3) m A n c [] ((((w5.alloc (.cells #[.slice (some ⟨g, 0, none⟩) 0 k] 57)).alloc (.cells #[.int .i64 (f : Int)] 3)).alloc (.cells #[.int .i64 (m : Int)] 3)).alloc (.cells #[.slice A n c] 30)) := by
  have e1 : (w5.alloc (.cells #[.slice (some ⟨g, 0, none⟩) 0 k] 57)).heap.size = w5.heap.size + 1 := World.size_alloc _ _
  have b1 := (Below.refl w5.heap.size w5).alloc (Nat.le_refl _) (.cells #[.slice (some ⟨g, 0, none⟩) 0 k] 57)
  have b2 := b1.alloc b1.size (.cells #[.int .i64 (f : Int)] 3)
  have b3 := b2.alloc b2.size (.cells #[.int .i64 (m : Int)] 3)
  have b4 := b3.alloc b3.size (.cells #[.slice A n c] 30)
  refine ⟨⟨_, (((Boxed.new w5 57 _).alloc _).alloc _).alloc _, (Orw.made ho).below b4⟩, ?_, hs.alloc _ |>.alloc _ |>.alloc _ |>.alloc _, ?_, ?_, hT.below b4, hb.trans (b4.mono hb.size)⟩
  · have h := ((Boxed.new (w5.alloc (.cells #[.slice (some ⟨g, 0, none⟩) 0 k] 57)) 3 (.int .i64 (f : Int))).alloc (.cells #[.int .i64 (m : Int)] 3)).alloc (.cells #[.slice A n c] 30)
    rw [e1] at h
    rw [show frnum s f ([] : List (List Nat)).length = f by unfold frnum; rw [List.length_nil, Nat.add_zero, Nat.mod_eq_of_lt hf]]
    exact h
  · have h := Boxed.new (((w5.alloc (.cells #[.slice (some ⟨g, 0, none⟩) 0 k] 57)).alloc (.cells #[.int .i64 (f : Int)] 3)).alloc (.cells #[.int .i64 (m : Int)] 3)) 30 (.slice A n c)
    rw [World.size_alloc, World.size_alloc, e1] at h
    exact h
  · have h := (Boxed.new ((w5.alloc (.cells #[.slice (some ⟨g, 0, none⟩) 0 k] 57)).alloc (.cells #[.int .i64 (f : Int)] 3)) 3 (.int .i64 (m : Int))).alloc (.cells #[.slice A n c] 30)
    rw [World.size_alloc, e1] at h
    exact h

set_option maxRecDepth 100000 in
set_option maxHeartbeats 4000000 in
theorem frsplit_ok (s : Bool) (f m : Nat) (hf : f < frmod s) (hm : 0 < m) (hm2 : m ≤ 9223372036854775807) (l : List Nat) (n c : Nat) (A : Option Addr) (w : World) (h : Rd w w.heap.size A l) (hb : By l) (hl : l.length = n) (hn : n ≤ 2000) (hc : n ≤ c) (hT : TabF w) (k : Nat) (hk : frcnt m n = k) :
    Calls Tryd.prog 19 #[.bool s, .int .i64 (f : Int), .int .i64 (m : Int), .slice A n c] w fun e w' => ∃ A' c', e = .returned (.tuple #[.slice A' k c', .int .i64 (frnum s f k : Int), .int .i64 0]) ∧ Orw shF 50 (fun b => w.heap.size ≤ b) w.heap.size w' (.slice A' k c') (frpcs s f m l) ∧ Below w.heap.size w w' := by
  have HK := Lib.hid hk
  have hk0 : 0 < k := by rw [← hk]; exact Nat.succ_pos _
  have hk2 : k ≤ 2000 := by
    rw [← hk]
    by_cases hz : n = 0
    · subst hz; simp [frcnt]
    · exact Nat.le_trans (frcnt_le m n (by omega)) hn
  have HFR := Lib.hid (show frright s (f : Int) = true from frright_iff.2 ⟨by omega, by omega⟩)
  obtain ⟨y, hy⟩ : ∃ y, Hid (frmod s = y) := ⟨_, Lib.hid rfl⟩
  have hyv : y = 4096 ∨ y = 16777216 := by rw [← hy.out]; cases s <;> simp [frmod]
  have hmod := fun W hW => frmod_any s W hW
  rw [hy.out] at hmod
  have j1 : ¬ (m : Int) < 1 := by omega
  obtain ⟨y2, hy2⟩ : ∃ y2, Hid (y / 2 = y2) := ⟨_, Lib.hid rfl⟩
  have j3 : wrap64 ((y : Int) / 2) = (y2 : Int) := by rw [← hy2.out, Int.natCast_ediv]; exact IntWalk.wrap64_in _ (by omega)
  have j2 : ¬ (y2 : Int) < (k : Int) := by have := hy2.out; omega
  obtain ⟨i0, hi, hz0, hz1, hz2⟩ := info_parts fr_info
  obtain ⟨w1, hw1⟩ : ∃ w1, w1 = w.alloc (.cells #[.bool s] 4) := ⟨_, rfl⟩
  have hb1 : Below w.heap.size w w1 := by rw [hw1]; exact (Below.refl _ _).alloc (Nat.le_refl _) _
  have bs1 : Boxed w1 w.heap.size 4 (.bool s) := by rw [hw1]; exact Boxed.new _ _ _
  have C : Hid (Below w.heap.size w w1 ∧ Boxed w1 w.heap.size 4 (.bool s) ∧ TabF w1) := Lib.hid ⟨hb1, bs1, hT.below hb1⟩
  have HW1 := Lib.hid hw1
  have hcs := bs1.cell
  have step : ∀ W W', Below w.heap.size w W ∧ Boxed W w.heap.size 4 (.bool s) ∧ TabF W → Below W.heap.size W W' → Below w.heap.size w W' ∧ Boxed W' w.heap.size 4 (.bool s) ∧ TabF W' := fun W W' h hb => ⟨h.1.trans (hb.mono h.1.size), (hb.block _ h.2.1.lt).trans h.2.1, h.2.2.below hb⟩
  have STEP := Lib.hid step
  clear hw1 hb1 bs1 step hyv hk
  refine (callsIn_wide (n := 3)).1 ?_
  refine callsIn_of_wp_marks Tryd.func19 rfl trivial ?_ rfl
  simp only [Tryd.ntmps19, List.size_toArray, List.length_cons, List.length_nil, Nat.reduceAdd, Nat.reduceSub, Array.replicate_succ, Array.replicate_zero, List.push_toArray, List.append_toArray, List.nil_append, List.cons_append]
  gi_wp2_with (first
    | (refine ⟨trivial, ?_⟩; gi_at_call 31; rw [← HW1.out]; refine (callsIn_wide.2 (frright_any s (f : Int) _ C.out.2.2)).mono ?_; rintro e w2 ⟨rfl, hb2⟩; rw [HFR.out]; replace C := Lib.hid (STEP.out _ _ C.out hb2); clear hb2 hcs; have hcs := C.out.2.1.cell)
    | (refine ⟨trivial, ?_⟩; gi_at_call 32; refine (callsIn_wide.2 (frcnt_any m n c A hm hm2 (by omega) _)).mono ?_; rintro e w3 ⟨rfl, rfl⟩; rw [HK.out])
    | (refine ⟨trivial, ?_⟩; gi_at_call 21; refine (callsIn_wide.2 (hmod _ C.out.2.2)).mono ?_; rintro e w4 ⟨rfl, hb4⟩; replace C := Lib.hid (STEP.out _ _ C.out hb4); clear hb4 hcs; have hcs := C.out.2.1.cell; obtain ⟨w5, hmk, hown5, hg5⟩ := run_make_own (P := Tryd.prog) w4 w.heap.size 57 50 i0 (.agg #[.bool false, .bool false, .int .i64 0, .slice none 0 0]) 4 Tryd.underlying57 hi hz0 hz1 .i64 .i64 k (by rw [hz2]; omega) (by unfold maxLen; omega) C.out.1.size)
    | (refine ⟨trivial, ?_⟩; gi_at_call 33; refine (callsIn_wide.2 (frchunks_any _ _ _ _ _)).mono ?_; rintro e w6 ⟨rfl, rfl⟩))
  have FI := fri_start hown5 (C.out.1.grown hg5 C.out.1.size (fun k hk => by cases hk)) (boxed_below C.out.2.1 hg5) (C.out.2.2.below ((Below.refl _ _).grown hg5 (Nat.le_refl _) (fun k hk => by cases hk))) f m A n c
  have HG5 := Lib.hid hg5.size
  clear hmk hown5 hg5 hcs
  obtain ⟨W0, hW0⟩ : ∃ W0, W0 = (((w5.alloc (.cells #[.slice (some ⟨w4.heap.size, 0, none⟩) 0 k] 57)).alloc (.cells #[.int .i64 (f : Int)] 3)).alloc (.cells #[.int .i64 (m : Int)] 3)).alloc (.cells #[.slice A n c] 30) := ⟨_, rfl⟩
  rw [← hW0] at FI
  rw [← hW0]
  have hsz0 : W0.heap.size = w5.heap.size + 4 := by rw [hW0]; simp
  have hbs : w.heap.size < w5.heap.size := Nat.lt_of_lt_of_le C.out.2.1.lt HG5.out
  generalize hq : w5.heap.size = q at FI hsz0 hbs ⊢
  clear hW0
  have HR := Lib.hid h
  have HBY := Lib.hid hb
  have HL := Lib.hid hl
  refine wpIn_rangeFunc_ownG (α := Chk w w.heap.size) rfl (by omega) (gf := 45) (lb := #[.pointer (some ⟨q + 3, 0, none⟩), .pointer (some ⟨q + 2, 0, none⟩)]) rfl trivial (enters_of Tryd.func45 (by kernel_rfl) rfl)
    (frchunks_stops Fence.wide _ trivial rfl (by omega) (q + 3) (q + 2) w.heap.size m w W0 hm hm2 A n c l h hl hc (by omega) hb FI.bd FI.bm) Kp2.trans (fun W l o o' h1 h2 _ _ => kp2_put (B := W0.heap.size) (by omega) (by omega) W l o o' h1 h2) (Below.refl _ _) (fun _ => rfl)
    (fun pre W => FrI w s f w.heap.size q (q + 1) (q + 2) (q + 3) m A n c (pre.map Chk.oct) W)
    (fun _ _ _ => False)
    (fun pre W W' row hs hg hr => hs.turn (by omega) hg hr)
    (fun _ _ _ _ _ hs _ _ => hs)
    FI ?a1 ?assign ?body ?done ?stop
  case assign =>
    intro l x W K hK
    dsimp only [Chk.enc]
    gi_wp2
    exact hK
  case stop =>
    rintro D c pre W _ _ h _
    exact h.elim
  case body =>
    rintro l' pre ⟨⟨⟨Ax, nx, cx⟩, dx⟩, hx1, hx2, hx3, hx4, hx5⟩ W hI hlt
    dsimp only at hx1 hx2 hx3 hx4 hx5 ⊢
    obtain ⟨v, hM⟩ := hI.mid hbs
    obtain ⟨A0, c0, hv0, _, _⟩ := hM.ow.shape
    obtain ⟨kk, hkk0⟩ : ∃ kk, (frrow s f (pre.map Chk.oct)).length = kk := ⟨_, rfl⟩
    have hkk := Lib.hid hkk0
    have hkk9 : kk ≤ 2000 := by
      have h1 : (frrow s f (pre.map Chk.oct)).length = pre.length := by rw [frrow_len, List.length_map]
      have h2 := HK.out
      omega
    rw [hkk0] at hv0
    subst hv0
    obtain ⟨nm, hnm⟩ : ∃ nm, frnum s f (pre.map Chk.oct).length = nm := ⟨_, rfl⟩
    rw [hnm] at hM
    have HNE := Lib.hid hnm
    have HNM := Lib.hid (show nm < frmod s by rw [← hnm]; exact Nat.mod_lt _ (frmod_pos s))
    clear hnm
    have hrx := Lib.hid (show Rd W.drew W.drew.heap.size Ax dx from (hx1.below hI.bel).more hI.bel.size)
    have M0 := Lib.hid hM
    have MM := Lib.hid hM.drew
    have hco := MM.out.bo.cell
    have hcn := MM.out.bn.cell
    have hmx : Tryd.prog.follows .mixedOrders = true := by kernel_rfl
    replace hI := Lib.hid hI
    clear hM hkk0
    gi_wp2
    -- REGION
    refine wpIn_region_any hmx ?_
    change wpAnyIn _ _ _ _ _ _ _ _ _ (World.drew _)
    refine wpAnyIn_ready (rs := [0, 1, 2]) (by kernel_rfl) (by simp) ?_
    refine AllReadyIn.cons rfl (fun K hK => ?_) ?_
    · go_simp
      refine hK _ _ ?_
      clear hK K
      refine wpAnyIn_ready (rs := [1, 2]) (by kernel_rfl) (by simp) ?_
      refine AllReadyIn.cons rfl (fun K hK => ?_) ?_
      · go_simp
        refine hK _ _ ?_
        clear hK K
        refine wpAnyIn_ready (rs := [2]) (by kernel_rfl) (by simp) ?_
        refine AllReadyIn.cons rfl (fun K hK => ?_) ?_
        · go_simp
          refine hK _ _ ?_
          clear hK K
          refine wpAnyIn_ready (rs := [3]) (by kernel_rfl) (by simp) ?_
          refine AllReadyIn.cons rfl (fun K hK => ?_) ?_
          · go_simp
            refine ⟨trivial, ?_⟩
            gi_at_call 34
            refine (CallsIn.inRound l' (callsIn_wide.2 (clone_any dx nx Ax cx _ hrx.out hx2 hx4))).mono ?_
            rintro e w7 ⟨A7, c7, rfl, HN7⟩
            have hn7 := Lib.hid HN7
            replace MM := Lib.hid (MM.out.step HN7.2.2.2)
            clear HN7 hco hcn
            have hco := MM.out.bo.cell
            have hcn := MM.out.bn.cell
            refine hK _ _ ?_
            clear hK K
            refine wpAnyIn_ready (rs := [4]) (by kernel_rfl) (by simp) ?_
            refine AllReadyIn.cons rfl (fun K hK => ?_) ?_
            · go_simp
              refine hK _ _ ?_
              clear hK K
              refine wpAnyIn_ready (rs := [5]) (by kernel_rfl) (by simp) ?_
              refine AllReadyIn.cons rfl (fun K hK => ?_) ?_
              · go_simp
                refine hK _ _ ?_
                clear hK K
                have LR := Lib.hid (fr_lit1 w7 W.heap.size 50 (b := false) (e := false) (x := (nm : Int)) hn7.out)
                replace MM := Lib.hid (MM.out.al (.cells #[.bool false, .bool false, .int .i64 (nm : Int), .slice A7 nx c7] 50))
                clear hco hcn
                have hco := MM.out.bo.cell
                have hcn := MM.out.bn.cell
                refine wpAnyIn_ready (rs := [6]) (by kernel_rfl) (by simp) ?_
                refine AllReadyIn.cons rfl (fun K hK => ?_) ?_
                · refine step_rows_in shF _ rfl (.tmp 38) (.tmp 43) 57 rfl 50 i0 (.agg #[.bool false, .bool false, .int .i64 0, .slice none 0 0]) 40 Tryd.underlying57 hi hz0 hz1 hz2 rfl (by decide) (fun b => w.heap.size ≤ b) (fun b => W.heap.size ≤ b) w.heap.size _ kk _ rfl MM.out.ow hkk.out (some ⟨w7.heap.size, 0, none⟩) 1 1 [⟨false, false, (nm : Int), dx⟩] rfl LR.out rfl (fun b _ hb => ⟨Nat.le_trans hI.out.bel.size hb, fun e => absurd ((M0.out.ow.lt e).2) (Nat.not_lt.2 hb)⟩) (by unfold maxLen; omega) (by omega) MM.out.bel.size ?_
                  intro v8 w8 ho8 hg8 _
                  obtain ⟨A8, c8, hv8, _, _⟩ := ho8.shape
                  rw [List.length_append, hkk.out, List.length_singleton] at hv8
                  subst hv8
                  replace MM := Lib.hid (MM.out.app ho8 hg8)
                  clear ho8 hg8 hco hcn
                  have hco := MM.out.bo.cell
                  have hfo := MM.out.bo.frozen
                  refine hK _ _ ?_
                  clear hK K
                  refine wpAnyIn_ready (rs := [7]) (by kernel_rfl) (by simp) ?_
                  refine AllReadyIn.cons rfl (fun K hK => ?_) ?_
                  · go_simp
                    refine hK _ _ ?_
                    clear hK K
                    replace MM := Lib.hid MM.out.setO
                    refine wpAnyIn_done (by kernel_rfl) ?_ _
                    clear hco hfo
                    have hcn := MM.out.bn.cell
                    have hcs := MM.out.bs.cell
                    gi_wp2_with (refine ⟨trivial, ?_⟩; gi_at_call 35; refine (CallsIn.inRound l' (callsIn_wide.2 (frbeh_any s nm HNM.out _ (hT.below MM.out.bel)))).mono ?_; rintro e w10 ⟨rfl, hb10⟩; replace MM := Lib.hid (MM.out.step hb10); clear hb10 hcn hcs; have hcn := MM.out.bn.cell; have hfn := MM.out.bn.frozen)
                    have M9 := MM.out.setN (((nm + 1) % frmod s : Nat) : Int)
                    refine ⟨M9.ko.from _, M9.kp hI.out.bd hI.out.bm, ?_⟩
                    dsimp only
                    rw [List.map_append]
                    exact fri_end M9 HNE.out hT
                  exact AllReadyIn.nil
                exact AllReadyIn.nil
              exact AllReadyIn.nil
            exact AllReadyIn.nil
          exact AllReadyIn.nil
        exact AllReadyIn.nil
      refine AllReadyIn.cons rfl (fun K hK => ?_) ?_
      · go_simp
        refine hK _ _ ?_
        clear hK K
        refine wpAnyIn_ready (rs := [1, 3]) (by kernel_rfl) (by simp) ?_
        refine AllReadyIn.cons rfl (fun K hK => ?_) ?_
        · go_simp
          refine hK _ _ ?_
          clear hK K
          refine wpAnyIn_ready (rs := [3]) (by kernel_rfl) (by simp) ?_
          refine AllReadyIn.cons rfl (fun K hK => ?_) ?_
          · go_simp
            refine ⟨trivial, ?_⟩
            gi_at_call 34
            refine (CallsIn.inRound l' (callsIn_wide.2 (clone_any dx nx Ax cx _ hrx.out hx2 hx4))).mono ?_
            rintro e w7 ⟨A7, c7, rfl, HN7⟩
            have hn7 := Lib.hid HN7
            replace MM := Lib.hid (MM.out.step HN7.2.2.2)
            clear HN7 hco hcn
            have hco := MM.out.bo.cell
            have hcn := MM.out.bn.cell
            refine hK _ _ ?_
            clear hK K
            refine wpAnyIn_ready (rs := [4]) (by kernel_rfl) (by simp) ?_
            refine AllReadyIn.cons rfl (fun K hK => ?_) ?_
            · go_simp
              refine hK _ _ ?_
              clear hK K
              refine wpAnyIn_ready (rs := [5]) (by kernel_rfl) (by simp) ?_
              refine AllReadyIn.cons rfl (fun K hK => ?_) ?_
              · go_simp
                refine hK _ _ ?_
                clear hK K
                have LR := Lib.hid (fr_lit1 w7 W.heap.size 50 (b := false) (e := false) (x := (nm : Int)) hn7.out)
                replace MM := Lib.hid (MM.out.al (.cells #[.bool false, .bool false, .int .i64 (nm : Int), .slice A7 nx c7] 50))
                clear hco hcn
                have hco := MM.out.bo.cell
                have hcn := MM.out.bn.cell
                refine wpAnyIn_ready (rs := [6]) (by kernel_rfl) (by simp) ?_
                refine AllReadyIn.cons rfl (fun K hK => ?_) ?_
                · refine step_rows_in shF _ rfl (.tmp 38) (.tmp 43) 57 rfl 50 i0 (.agg #[.bool false, .bool false, .int .i64 0, .slice none 0 0]) 40 Tryd.underlying57 hi hz0 hz1 hz2 rfl (by decide) (fun b => w.heap.size ≤ b) (fun b => W.heap.size ≤ b) w.heap.size _ kk _ rfl MM.out.ow hkk.out (some ⟨w7.heap.size, 0, none⟩) 1 1 [⟨false, false, (nm : Int), dx⟩] rfl LR.out rfl (fun b _ hb => ⟨Nat.le_trans hI.out.bel.size hb, fun e => absurd ((M0.out.ow.lt e).2) (Nat.not_lt.2 hb)⟩) (by unfold maxLen; omega) (by omega) MM.out.bel.size ?_
                  intro v8 w8 ho8 hg8 _
                  obtain ⟨A8, c8, hv8, _, _⟩ := ho8.shape
                  rw [List.length_append, hkk.out, List.length_singleton] at hv8
                  subst hv8
                  replace MM := Lib.hid (MM.out.app ho8 hg8)
                  clear ho8 hg8 hco hcn
                  have hco := MM.out.bo.cell
                  have hfo := MM.out.bo.frozen
                  refine hK _ _ ?_
                  clear hK K
                  refine wpAnyIn_ready (rs := [7]) (by kernel_rfl) (by simp) ?_
                  refine AllReadyIn.cons rfl (fun K hK => ?_) ?_
                  · go_simp
                    refine hK _ _ ?_
                    clear hK K
                    replace MM := Lib.hid MM.out.setO
                    refine wpAnyIn_done (by kernel_rfl) ?_ _
                    clear hco hfo
                    have hcn := MM.out.bn.cell
                    have hcs := MM.out.bs.cell
                    gi_wp2_with (refine ⟨trivial, ?_⟩; gi_at_call 35; refine (CallsIn.inRound l' (callsIn_wide.2 (frbeh_any s nm HNM.out _ (hT.below MM.out.bel)))).mono ?_; rintro e w10 ⟨rfl, hb10⟩; replace MM := Lib.hid (MM.out.step hb10); clear hb10 hcn hcs; have hcn := MM.out.bn.cell; have hfn := MM.out.bn.frozen)
                    have M9 := MM.out.setN (((nm + 1) % frmod s : Nat) : Int)
                    refine ⟨M9.ko.from _, M9.kp hI.out.bd hI.out.bm, ?_⟩
                    dsimp only
                    rw [List.map_append]
                    exact fri_end M9 HNE.out hT
                  exact AllReadyIn.nil
                exact AllReadyIn.nil
              exact AllReadyIn.nil
            exact AllReadyIn.nil
          exact AllReadyIn.nil
        refine AllReadyIn.cons rfl (fun K hK => ?_) ?_
        · go_simp
          refine ⟨trivial, ?_⟩
          gi_at_call 34
          refine (CallsIn.inRound l' (callsIn_wide.2 (clone_any dx nx Ax cx _ hrx.out hx2 hx4))).mono ?_
          rintro e w7 ⟨A7, c7, rfl, HN7⟩
          have hn7 := Lib.hid HN7
          replace MM := Lib.hid (MM.out.step HN7.2.2.2)
          clear HN7 hco hcn
          have hco := MM.out.bo.cell
          have hcn := MM.out.bn.cell
          refine hK _ _ ?_
          clear hK K
          refine wpAnyIn_ready (rs := [1]) (by kernel_rfl) (by simp) ?_
          refine AllReadyIn.cons rfl (fun K hK => ?_) ?_
          · go_simp
            refine hK _ _ ?_
            clear hK K
            refine wpAnyIn_ready (rs := [4]) (by kernel_rfl) (by simp) ?_
            refine AllReadyIn.cons rfl (fun K hK => ?_) ?_
            · go_simp
              refine hK _ _ ?_
              clear hK K
              refine wpAnyIn_ready (rs := [5]) (by kernel_rfl) (by simp) ?_
              refine AllReadyIn.cons rfl (fun K hK => ?_) ?_
              · go_simp
                refine hK _ _ ?_
                clear hK K
                have LR := Lib.hid (fr_lit1 w7 W.heap.size 50 (b := false) (e := false) (x := (nm : Int)) hn7.out)
                replace MM := Lib.hid (MM.out.al (.cells #[.bool false, .bool false, .int .i64 (nm : Int), .slice A7 nx c7] 50))
                clear hco hcn
                have hco := MM.out.bo.cell
                have hcn := MM.out.bn.cell
                refine wpAnyIn_ready (rs := [6]) (by kernel_rfl) (by simp) ?_
                refine AllReadyIn.cons rfl (fun K hK => ?_) ?_
                · refine step_rows_in shF _ rfl (.tmp 38) (.tmp 43) 57 rfl 50 i0 (.agg #[.bool false, .bool false, .int .i64 0, .slice none 0 0]) 40 Tryd.underlying57 hi hz0 hz1 hz2 rfl (by decide) (fun b => w.heap.size ≤ b) (fun b => W.heap.size ≤ b) w.heap.size _ kk _ rfl MM.out.ow hkk.out (some ⟨w7.heap.size, 0, none⟩) 1 1 [⟨false, false, (nm : Int), dx⟩] rfl LR.out rfl (fun b _ hb => ⟨Nat.le_trans hI.out.bel.size hb, fun e => absurd ((M0.out.ow.lt e).2) (Nat.not_lt.2 hb)⟩) (by unfold maxLen; omega) (by omega) MM.out.bel.size ?_
                  intro v8 w8 ho8 hg8 _
                  obtain ⟨A8, c8, hv8, _, _⟩ := ho8.shape
                  rw [List.length_append, hkk.out, List.length_singleton] at hv8
                  subst hv8
                  replace MM := Lib.hid (MM.out.app ho8 hg8)
                  clear ho8 hg8 hco hcn
                  have hco := MM.out.bo.cell
                  have hfo := MM.out.bo.frozen
                  refine hK _ _ ?_
                  clear hK K
                  refine wpAnyIn_ready (rs := [7]) (by kernel_rfl) (by simp) ?_
                  refine AllReadyIn.cons rfl (fun K hK => ?_) ?_
                  · go_simp
                    refine hK _ _ ?_
                    clear hK K
                    replace MM := Lib.hid MM.out.setO
                    refine wpAnyIn_done (by kernel_rfl) ?_ _
                    clear hco hfo
                    have hcn := MM.out.bn.cell
                    have hcs := MM.out.bs.cell
                    gi_wp2_with (refine ⟨trivial, ?_⟩; gi_at_call 35; refine (CallsIn.inRound l' (callsIn_wide.2 (frbeh_any s nm HNM.out _ (hT.below MM.out.bel)))).mono ?_; rintro e w10 ⟨rfl, hb10⟩; replace MM := Lib.hid (MM.out.step hb10); clear hb10 hcn hcs; have hcn := MM.out.bn.cell; have hfn := MM.out.bn.frozen)
                    have M9 := MM.out.setN (((nm + 1) % frmod s : Nat) : Int)
                    refine ⟨M9.ko.from _, M9.kp hI.out.bd hI.out.bm, ?_⟩
                    dsimp only
                    rw [List.map_append]
                    exact fri_end M9 HNE.out hT
                  exact AllReadyIn.nil
                exact AllReadyIn.nil
              exact AllReadyIn.nil
            exact AllReadyIn.nil
          exact AllReadyIn.nil
        exact AllReadyIn.nil
      exact AllReadyIn.nil
    refine AllReadyIn.cons rfl (fun K hK => ?_) ?_
    · go_simp
      refine hK _ _ ?_
      clear hK K
      refine wpAnyIn_ready (rs := [0, 2]) (by kernel_rfl) (by simp) ?_
      refine AllReadyIn.cons rfl (fun K hK => ?_) ?_
      · go_simp
        refine hK _ _ ?_
        clear hK K
        refine wpAnyIn_ready (rs := [2]) (by kernel_rfl) (by simp) ?_
        refine AllReadyIn.cons rfl (fun K hK => ?_) ?_
        · go_simp
          refine hK _ _ ?_
          clear hK K
          refine wpAnyIn_ready (rs := [3]) (by kernel_rfl) (by simp) ?_
          refine AllReadyIn.cons rfl (fun K hK => ?_) ?_
          · go_simp
            refine ⟨trivial, ?_⟩
            gi_at_call 34
            refine (CallsIn.inRound l' (callsIn_wide.2 (clone_any dx nx Ax cx _ hrx.out hx2 hx4))).mono ?_
            rintro e w7 ⟨A7, c7, rfl, HN7⟩
            have hn7 := Lib.hid HN7
            replace MM := Lib.hid (MM.out.step HN7.2.2.2)
            clear HN7 hco hcn
            have hco := MM.out.bo.cell
            have hcn := MM.out.bn.cell
            refine hK _ _ ?_
            clear hK K
            refine wpAnyIn_ready (rs := [4]) (by kernel_rfl) (by simp) ?_
            refine AllReadyIn.cons rfl (fun K hK => ?_) ?_
            · go_simp
              refine hK _ _ ?_
              clear hK K
              refine wpAnyIn_ready (rs := [5]) (by kernel_rfl) (by simp) ?_
              refine AllReadyIn.cons rfl (fun K hK => ?_) ?_
              · go_simp
                refine hK _ _ ?_
                clear hK K
                have LR := Lib.hid (fr_lit1 w7 W.heap.size 50 (b := false) (e := false) (x := (nm : Int)) hn7.out)
                replace MM := Lib.hid (MM.out.al (.cells #[.bool false, .bool false, .int .i64 (nm : Int), .slice A7 nx c7] 50))
                clear hco hcn
                have hco := MM.out.bo.cell
                have hcn := MM.out.bn.cell
                refine wpAnyIn_ready (rs := [6]) (by kernel_rfl) (by simp) ?_
                refine AllReadyIn.cons rfl (fun K hK => ?_) ?_
                · refine step_rows_in shF _ rfl (.tmp 38) (.tmp 43) 57 rfl 50 i0 (.agg #[.bool false, .bool false, .int .i64 0, .slice none 0 0]) 40 Tryd.underlying57 hi hz0 hz1 hz2 rfl (by decide) (fun b => w.heap.size ≤ b) (fun b => W.heap.size ≤ b) w.heap.size _ kk _ rfl MM.out.ow hkk.out (some ⟨w7.heap.size, 0, none⟩) 1 1 [⟨false, false, (nm : Int), dx⟩] rfl LR.out rfl (fun b _ hb => ⟨Nat.le_trans hI.out.bel.size hb, fun e => absurd ((M0.out.ow.lt e).2) (Nat.not_lt.2 hb)⟩) (by unfold maxLen; omega) (by omega) MM.out.bel.size ?_
                  intro v8 w8 ho8 hg8 _
                  obtain ⟨A8, c8, hv8, _, _⟩ := ho8.shape
                  rw [List.length_append, hkk.out, List.length_singleton] at hv8
                  subst hv8
                  replace MM := Lib.hid (MM.out.app ho8 hg8)
                  clear ho8 hg8 hco hcn
                  have hco := MM.out.bo.cell
                  have hfo := MM.out.bo.frozen
                  refine hK _ _ ?_
                  clear hK K
                  refine wpAnyIn_ready (rs := [7]) (by kernel_rfl) (by simp) ?_
                  refine AllReadyIn.cons rfl (fun K hK => ?_) ?_
                  · go_simp
                    refine hK _ _ ?_
                    clear hK K
                    replace MM := Lib.hid MM.out.setO
                    refine wpAnyIn_done (by kernel_rfl) ?_ _
                    clear hco hfo
                    have hcn := MM.out.bn.cell
                    have hcs := MM.out.bs.cell
                    gi_wp2_with (refine ⟨trivial, ?_⟩; gi_at_call 35; refine (CallsIn.inRound l' (callsIn_wide.2 (frbeh_any s nm HNM.out _ (hT.below MM.out.bel)))).mono ?_; rintro e w10 ⟨rfl, hb10⟩; replace MM := Lib.hid (MM.out.step hb10); clear hb10 hcn hcs; have hcn := MM.out.bn.cell; have hfn := MM.out.bn.frozen)
                    have M9 := MM.out.setN (((nm + 1) % frmod s : Nat) : Int)
                    refine ⟨M9.ko.from _, M9.kp hI.out.bd hI.out.bm, ?_⟩
                    dsimp only
                    rw [List.map_append]
                    exact fri_end M9 HNE.out hT
                  exact AllReadyIn.nil
                exact AllReadyIn.nil
              exact AllReadyIn.nil
            exact AllReadyIn.nil
          exact AllReadyIn.nil
        exact AllReadyIn.nil
      refine AllReadyIn.cons rfl (fun K hK => ?_) ?_
      · go_simp
        refine hK _ _ ?_
        clear hK K
        refine wpAnyIn_ready (rs := [0, 3]) (by kernel_rfl) (by simp) ?_
        refine AllReadyIn.cons rfl (fun K hK => ?_) ?_
        · go_simp
          refine hK _ _ ?_
          clear hK K
          refine wpAnyIn_ready (rs := [3]) (by kernel_rfl) (by simp) ?_
          refine AllReadyIn.cons rfl (fun K hK => ?_) ?_
          · go_simp
            refine ⟨trivial, ?_⟩
            gi_at_call 34
            refine (CallsIn.inRound l' (callsIn_wide.2 (clone_any dx nx Ax cx _ hrx.out hx2 hx4))).mono ?_
            rintro e w7 ⟨A7, c7, rfl, HN7⟩
            have hn7 := Lib.hid HN7
            replace MM := Lib.hid (MM.out.step HN7.2.2.2)
            clear HN7 hco hcn
            have hco := MM.out.bo.cell
            have hcn := MM.out.bn.cell
            refine hK _ _ ?_
            clear hK K
            refine wpAnyIn_ready (rs := [4]) (by kernel_rfl) (by simp) ?_
            refine AllReadyIn.cons rfl (fun K hK => ?_) ?_
            · go_simp
              refine hK _ _ ?_
              clear hK K
              refine wpAnyIn_ready (rs := [5]) (by kernel_rfl) (by simp) ?_
              refine AllReadyIn.cons rfl (fun K hK => ?_) ?_
              · go_simp
                refine hK _ _ ?_
                clear hK K
                have LR := Lib.hid (fr_lit1 w7 W.heap.size 50 (b := false) (e := false) (x := (nm : Int)) hn7.out)
                replace MM := Lib.hid (MM.out.al (.cells #[.bool false, .bool false, .int .i64 (nm : Int), .slice A7 nx c7] 50))
                clear hco hcn
                have hco := MM.out.bo.cell
                have hcn := MM.out.bn.cell
                refine wpAnyIn_ready (rs := [6]) (by kernel_rfl) (by simp) ?_
                refine AllReadyIn.cons rfl (fun K hK => ?_) ?_
                · refine step_rows_in shF _ rfl (.tmp 38) (.tmp 43) 57 rfl 50 i0 (.agg #[.bool false, .bool false, .int .i64 0, .slice none 0 0]) 40 Tryd.underlying57 hi hz0 hz1 hz2 rfl (by decide) (fun b => w.heap.size ≤ b) (fun b => W.heap.size ≤ b) w.heap.size _ kk _ rfl MM.out.ow hkk.out (some ⟨w7.heap.size, 0, none⟩) 1 1 [⟨false, false, (nm : Int), dx⟩] rfl LR.out rfl (fun b _ hb => ⟨Nat.le_trans hI.out.bel.size hb, fun e => absurd ((M0.out.ow.lt e).2) (Nat.not_lt.2 hb)⟩) (by unfold maxLen; omega) (by omega) MM.out.bel.size ?_
                  intro v8 w8 ho8 hg8 _
                  obtain ⟨A8, c8, hv8, _, _⟩ := ho8.shape
                  rw [List.length_append, hkk.out, List.length_singleton] at hv8
                  subst hv8
                  replace MM := Lib.hid (MM.out.app ho8 hg8)
                  clear ho8 hg8 hco hcn
                  have hco := MM.out.bo.cell
                  have hfo := MM.out.bo.frozen
                  refine hK _ _ ?_
                  clear hK K
                  refine wpAnyIn_ready (rs := [7]) (by kernel_rfl) (by simp) ?_
                  refine AllReadyIn.cons rfl (fun K hK => ?_) ?_
                  · go_simp
                    refine hK _ _ ?_
                    clear hK K
                    replace MM := Lib.hid MM.out.setO
                    refine wpAnyIn_done (by kernel_rfl) ?_ _
                    clear hco hfo
                    have hcn := MM.out.bn.cell
                    have hcs := MM.out.bs.cell
                    gi_wp2_with (refine ⟨trivial, ?_⟩; gi_at_call 35; refine (CallsIn.inRound l' (callsIn_wide.2 (frbeh_any s nm HNM.out _ (hT.below MM.out.bel)))).mono ?_; rintro e w10 ⟨rfl, hb10⟩; replace MM := Lib.hid (MM.out.step hb10); clear hb10 hcn hcs; have hcn := MM.out.bn.cell; have hfn := MM.out.bn.frozen)
                    have M9 := MM.out.setN (((nm + 1) % frmod s : Nat) : Int)
                    refine ⟨M9.ko.from _, M9.kp hI.out.bd hI.out.bm, ?_⟩
                    dsimp only
                    rw [List.map_append]
                    exact fri_end M9 HNE.out hT
                  exact AllReadyIn.nil
                exact AllReadyIn.nil
              exact AllReadyIn.nil
            exact AllReadyIn.nil
          exact AllReadyIn.nil
        refine AllReadyIn.cons rfl (fun K hK => ?_) ?_
        · go_simp
          refine ⟨trivial, ?_⟩
          gi_at_call 34
          refine (CallsIn.inRound l' (callsIn_wide.2 (clone_any dx nx Ax cx _ hrx.out hx2 hx4))).mono ?_
          rintro e w7 ⟨A7, c7, rfl, HN7⟩
          have hn7 := Lib.hid HN7
          replace MM := Lib.hid (MM.out.step HN7.2.2.2)
          clear HN7 hco hcn
          have hco := MM.out.bo.cell
          have hcn := MM.out.bn.cell
          refine hK _ _ ?_
          clear hK K
          refine wpAnyIn_ready (rs := [0, 4]) (by kernel_rfl) (by simp) ?_
          refine AllReadyIn.cons rfl (fun K hK => ?_) ?_
          · go_simp
            refine hK _ _ ?_
            clear hK K
            refine wpAnyIn_ready (rs := [4]) (by kernel_rfl) (by simp) ?_
            refine AllReadyIn.cons rfl (fun K hK => ?_) ?_
            · go_simp
              refine hK _ _ ?_
              clear hK K
              refine wpAnyIn_ready (rs := [5]) (by kernel_rfl) (by simp) ?_
              refine AllReadyIn.cons rfl (fun K hK => ?_) ?_
              · go_simp
                refine hK _ _ ?_
                clear hK K
                have LR := Lib.hid (fr_lit1 w7 W.heap.size 50 (b := false) (e := false) (x := (nm : Int)) hn7.out)
                replace MM := Lib.hid (MM.out.al (.cells #[.bool false, .bool false, .int .i64 (nm : Int), .slice A7 nx c7] 50))
                clear hco hcn
                have hco := MM.out.bo.cell
                have hcn := MM.out.bn.cell
                refine wpAnyIn_ready (rs := [6]) (by kernel_rfl) (by simp) ?_
                refine AllReadyIn.cons rfl (fun K hK => ?_) ?_
                · refine step_rows_in shF _ rfl (.tmp 38) (.tmp 43) 57 rfl 50 i0 (.agg #[.bool false, .bool false, .int .i64 0, .slice none 0 0]) 40 Tryd.underlying57 hi hz0 hz1 hz2 rfl (by decide) (fun b => w.heap.size ≤ b) (fun b => W.heap.size ≤ b) w.heap.size _ kk _ rfl MM.out.ow hkk.out (some ⟨w7.heap.size, 0, none⟩) 1 1 [⟨false, false, (nm : Int), dx⟩] rfl LR.out rfl (fun b _ hb => ⟨Nat.le_trans hI.out.bel.size hb, fun e => absurd ((M0.out.ow.lt e).2) (Nat.not_lt.2 hb)⟩) (by unfold maxLen; omega) (by omega) MM.out.bel.size ?_
                  intro v8 w8 ho8 hg8 _
                  obtain ⟨A8, c8, hv8, _, _⟩ := ho8.shape
                  rw [List.length_append, hkk.out, List.length_singleton] at hv8
                  subst hv8
                  replace MM := Lib.hid (MM.out.app ho8 hg8)
                  clear ho8 hg8 hco hcn
                  have hco := MM.out.bo.cell
                  have hfo := MM.out.bo.frozen
                  refine hK _ _ ?_
                  clear hK K
                  refine wpAnyIn_ready (rs := [7]) (by kernel_rfl) (by simp) ?_
                  refine AllReadyIn.cons rfl (fun K hK => ?_) ?_
                  · go_simp
                    refine hK _ _ ?_
                    clear hK K
                    replace MM := Lib.hid MM.out.setO
                    refine wpAnyIn_done (by kernel_rfl) ?_ _
                    clear hco hfo
                    have hcn := MM.out.bn.cell
                    have hcs := MM.out.bs.cell
                    gi_wp2_with (refine ⟨trivial, ?_⟩; gi_at_call 35; refine (CallsIn.inRound l' (callsIn_wide.2 (frbeh_any s nm HNM.out _ (hT.below MM.out.bel)))).mono ?_; rintro e w10 ⟨rfl, hb10⟩; replace MM := Lib.hid (MM.out.step hb10); clear hb10 hcn hcs; have hcn := MM.out.bn.cell; have hfn := MM.out.bn.frozen)
                    have M9 := MM.out.setN (((nm + 1) % frmod s : Nat) : Int)
                    refine ⟨M9.ko.from _, M9.kp hI.out.bd hI.out.bm, ?_⟩
                    dsimp only
                    rw [List.map_append]
                    exact fri_end M9 HNE.out hT
                  exact AllReadyIn.nil
                exact AllReadyIn.nil
              exact AllReadyIn.nil
            exact AllReadyIn.nil
          refine AllReadyIn.cons rfl (fun K hK => ?_) ?_
          · go_simp
            refine hK _ _ ?_
            clear hK K
            refine wpAnyIn_ready (rs := [0, 5]) (by kernel_rfl) (by simp) ?_
            refine AllReadyIn.cons rfl (fun K hK => ?_) ?_
            · go_simp
              refine hK _ _ ?_
              clear hK K
              refine wpAnyIn_ready (rs := [5]) (by kernel_rfl) (by simp) ?_
              refine AllReadyIn.cons rfl (fun K hK => ?_) ?_
              · go_simp
                refine hK _ _ ?_
                clear hK K
                have LR := Lib.hid (fr_lit1 w7 W.heap.size 50 (b := false) (e := false) (x := (nm : Int)) hn7.out)
                replace MM := Lib.hid (MM.out.al (.cells #[.bool false, .bool false, .int .i64 (nm : Int), .slice A7 nx c7] 50))
                clear hco hcn
                have hco := MM.out.bo.cell
                have hcn := MM.out.bn.cell
                refine wpAnyIn_ready (rs := [6]) (by kernel_rfl) (by simp) ?_
                refine AllReadyIn.cons rfl (fun K hK => ?_) ?_
                · refine step_rows_in shF _ rfl (.tmp 38) (.tmp 43) 57 rfl 50 i0 (.agg #[.bool false, .bool false, .int .i64 0, .slice none 0 0]) 40 Tryd.underlying57 hi hz0 hz1 hz2 rfl (by decide) (fun b => w.heap.size ≤ b) (fun b => W.heap.size ≤ b) w.heap.size _ kk _ rfl MM.out.ow hkk.out (some ⟨w7.heap.size, 0, none⟩) 1 1 [⟨false, false, (nm : Int), dx⟩] rfl LR.out rfl (fun b _ hb => ⟨Nat.le_trans hI.out.bel.size hb, fun e => absurd ((M0.out.ow.lt e).2) (Nat.not_lt.2 hb)⟩) (by unfold maxLen; omega) (by omega) MM.out.bel.size ?_
                  intro v8 w8 ho8 hg8 _
                  obtain ⟨A8, c8, hv8, _, _⟩ := ho8.shape
                  rw [List.length_append, hkk.out, List.length_singleton] at hv8
                  subst hv8
                  replace MM := Lib.hid (MM.out.app ho8 hg8)
                  clear ho8 hg8 hco hcn
                  have hco := MM.out.bo.cell
                  have hfo := MM.out.bo.frozen
                  refine hK _ _ ?_
                  clear hK K
                  refine wpAnyIn_ready (rs := [7]) (by kernel_rfl) (by simp) ?_
                  refine AllReadyIn.cons rfl (fun K hK => ?_) ?_
                  · go_simp
                    refine hK _ _ ?_
                    clear hK K
                    replace MM := Lib.hid MM.out.setO
                    refine wpAnyIn_done (by kernel_rfl) ?_ _
                    clear hco hfo
                    have hcn := MM.out.bn.cell
                    have hcs := MM.out.bs.cell
                    gi_wp2_with (refine ⟨trivial, ?_⟩; gi_at_call 35; refine (CallsIn.inRound l' (callsIn_wide.2 (frbeh_any s nm HNM.out _ (hT.below MM.out.bel)))).mono ?_; rintro e w10 ⟨rfl, hb10⟩; replace MM := Lib.hid (MM.out.step hb10); clear hb10 hcn hcs; have hcn := MM.out.bn.cell; have hfn := MM.out.bn.frozen)
                    have M9 := MM.out.setN (((nm + 1) % frmod s : Nat) : Int)
                    refine ⟨M9.ko.from _, M9.kp hI.out.bd hI.out.bm, ?_⟩
                    dsimp only
                    rw [List.map_append]
                    exact fri_end M9 HNE.out hT
                  exact AllReadyIn.nil
                exact AllReadyIn.nil
              exact AllReadyIn.nil
            refine AllReadyIn.cons rfl (fun K hK => ?_) ?_
            · go_simp
              refine hK _ _ ?_
              clear hK K
              have LR := Lib.hid (fr_lit1 w7 W.heap.size 50 (b := false) (e := false) (x := (nm : Int)) hn7.out)
              replace MM := Lib.hid (MM.out.al (.cells #[.bool false, .bool false, .int .i64 (nm : Int), .slice A7 nx c7] 50))
              clear hco hcn
              have hco := MM.out.bo.cell
              have hcn := MM.out.bn.cell
              refine wpAnyIn_ready (rs := [0]) (by kernel_rfl) (by simp) ?_
              refine AllReadyIn.cons rfl (fun K hK => ?_) ?_
              · go_simp
                refine hK _ _ ?_
                clear hK K
                refine wpAnyIn_ready (rs := [6]) (by kernel_rfl) (by simp) ?_
                refine AllReadyIn.cons rfl (fun K hK => ?_) ?_
                · refine step_rows_in shF _ rfl (.tmp 38) (.tmp 43) 57 rfl 50 i0 (.agg #[.bool false, .bool false, .int .i64 0, .slice none 0 0]) 40 Tryd.underlying57 hi hz0 hz1 hz2 rfl (by decide) (fun b => w.heap.size ≤ b) (fun b => W.heap.size ≤ b) w.heap.size _ kk _ rfl MM.out.ow hkk.out (some ⟨w7.heap.size, 0, none⟩) 1 1 [⟨false, false, (nm : Int), dx⟩] rfl LR.out rfl (fun b _ hb => ⟨Nat.le_trans hI.out.bel.size hb, fun e => absurd ((M0.out.ow.lt e).2) (Nat.not_lt.2 hb)⟩) (by unfold maxLen; omega) (by omega) MM.out.bel.size ?_
                  intro v8 w8 ho8 hg8 _
                  obtain ⟨A8, c8, hv8, _, _⟩ := ho8.shape
                  rw [List.length_append, hkk.out, List.length_singleton] at hv8
                  subst hv8
                  replace MM := Lib.hid (MM.out.app ho8 hg8)
                  clear ho8 hg8 hco hcn
                  have hco := MM.out.bo.cell
                  have hfo := MM.out.bo.frozen
                  refine hK _ _ ?_
                  clear hK K
                  refine wpAnyIn_ready (rs := [7]) (by kernel_rfl) (by simp) ?_
                  refine AllReadyIn.cons rfl (fun K hK => ?_) ?_
                  · go_simp
                    refine hK _ _ ?_
                    clear hK K
                    replace MM := Lib.hid MM.out.setO
                    refine wpAnyIn_done (by kernel_rfl) ?_ _
                    clear hco hfo
                    have hcn := MM.out.bn.cell
                    have hcs := MM.out.bs.cell
                    gi_wp2_with (refine ⟨trivial, ?_⟩; gi_at_call 35; refine (CallsIn.inRound l' (callsIn_wide.2 (frbeh_any s nm HNM.out _ (hT.below MM.out.bel)))).mono ?_; rintro e w10 ⟨rfl, hb10⟩; replace MM := Lib.hid (MM.out.step hb10); clear hb10 hcn hcs; have hcn := MM.out.bn.cell; have hfn := MM.out.bn.frozen)
                    have M9 := MM.out.setN (((nm + 1) % frmod s : Nat) : Int)
                    refine ⟨M9.ko.from _, M9.kp hI.out.bd hI.out.bm, ?_⟩
                    dsimp only
                    rw [List.map_append]
                    exact fri_end M9 HNE.out hT
                  exact AllReadyIn.nil
                exact AllReadyIn.nil
              exact AllReadyIn.nil
            exact AllReadyIn.nil
          exact AllReadyIn.nil
        exact AllReadyIn.nil
      exact AllReadyIn.nil
    refine AllReadyIn.cons rfl (fun K hK => ?_) ?_
    · go_simp
      refine hK _ _ ?_
      clear hK K
      refine wpAnyIn_ready (rs := [0, 1, 3]) (by kernel_rfl) (by simp) ?_
      refine AllReadyIn.cons rfl (fun K hK => ?_) ?_
      · go_simp
        refine hK _ _ ?_
        clear hK K
        refine wpAnyIn_ready (rs := [1, 3]) (by kernel_rfl) (by simp) ?_
        refine AllReadyIn.cons rfl (fun K hK => ?_) ?_
        · go_simp
          refine hK _ _ ?_
          clear hK K
          refine wpAnyIn_ready (rs := [3]) (by kernel_rfl) (by simp) ?_
          refine AllReadyIn.cons rfl (fun K hK => ?_) ?_
          · go_simp
            refine ⟨trivial, ?_⟩
            gi_at_call 34
            refine (CallsIn.inRound l' (callsIn_wide.2 (clone_any dx nx Ax cx _ hrx.out hx2 hx4))).mono ?_
            rintro e w7 ⟨A7, c7, rfl, HN7⟩
            have hn7 := Lib.hid HN7
            replace MM := Lib.hid (MM.out.step HN7.2.2.2)
            clear HN7 hco hcn
            have hco := MM.out.bo.cell
            have hcn := MM.out.bn.cell
            refine hK _ _ ?_
            clear hK K
            refine wpAnyIn_ready (rs := [4]) (by kernel_rfl) (by simp) ?_
            refine AllReadyIn.cons rfl (fun K hK => ?_) ?_
            · go_simp
              refine hK _ _ ?_
              clear hK K
              refine wpAnyIn_ready (rs := [5]) (by kernel_rfl) (by simp) ?_
              refine AllReadyIn.cons rfl (fun K hK => ?_) ?_
              · go_simp
                refine hK _ _ ?_
                clear hK K
                have LR := Lib.hid (fr_lit1 w7 W.heap.size 50 (b := false) (e := false) (x := (nm : Int)) hn7.out)
                replace MM := Lib.hid (MM.out.al (.cells #[.bool false, .bool false, .int .i64 (nm : Int), .slice A7 nx c7] 50))
                clear hco hcn
                have hco := MM.out.bo.cell
                have hcn := MM.out.bn.cell
                refine wpAnyIn_ready (rs := [6]) (by kernel_rfl) (by simp) ?_
                refine AllReadyIn.cons rfl (fun K hK => ?_) ?_
                · refine step_rows_in shF _ rfl (.tmp 38) (.tmp 43) 57 rfl 50 i0 (.agg #[.bool false, .bool false, .int .i64 0, .slice none 0 0]) 40 Tryd.underlying57 hi hz0 hz1 hz2 rfl (by decide) (fun b => w.heap.size ≤ b) (fun b => W.heap.size ≤ b) w.heap.size _ kk _ rfl MM.out.ow hkk.out (some ⟨w7.heap.size, 0, none⟩) 1 1 [⟨false, false, (nm : Int), dx⟩] rfl LR.out rfl (fun b _ hb => ⟨Nat.le_trans hI.out.bel.size hb, fun e => absurd ((M0.out.ow.lt e).2) (Nat.not_lt.2 hb)⟩) (by unfold maxLen; omega) (by omega) MM.out.bel.size ?_
                  intro v8 w8 ho8 hg8 _
                  obtain ⟨A8, c8, hv8, _, _⟩ := ho8.shape
                  rw [List.length_append, hkk.out, List.length_singleton] at hv8
                  subst hv8
                  replace MM := Lib.hid (MM.out.app ho8 hg8)
                  clear ho8 hg8 hco hcn
                  have hco := MM.out.bo.cell
                  have hfo := MM.out.bo.frozen
                  refine hK _ _ ?_
                  clear hK K
                  refine wpAnyIn_ready (rs := [7]) (by kernel_rfl) (by simp) ?_
                  refine AllReadyIn.cons rfl (fun K hK => ?_) ?_
                  · go_simp
                    refine hK _ _ ?_
                    clear hK K
                    replace MM := Lib.hid MM.out.setO
                    refine wpAnyIn_done (by kernel_rfl) ?_ _
                    clear hco hfo
                    have hcn := MM.out.bn.cell
                    have hcs := MM.out.bs.cell
                    gi_wp2_with (refine ⟨trivial, ?_⟩; gi_at_call 35; refine (CallsIn.inRound l' (callsIn_wide.2 (frbeh_any s nm HNM.out _ (hT.below MM.out.bel)))).mono ?_; rintro e w10 ⟨rfl, hb10⟩; replace MM := Lib.hid (MM.out.step hb10); clear hb10 hcn hcs; have hcn := MM.out.bn.cell; have hfn := MM.out.bn.frozen)
                    have M9 := MM.out.setN (((nm + 1) % frmod s : Nat) : Int)
                    refine ⟨M9.ko.from _, M9.kp hI.out.bd hI.out.bm, ?_⟩
                    dsimp only
                    rw [List.map_append]
                    exact fri_end M9 HNE.out hT
                  exact AllReadyIn.nil
                exact AllReadyIn.nil
              exact AllReadyIn.nil
            exact AllReadyIn.nil
          exact AllReadyIn.nil
        refine AllReadyIn.cons rfl (fun K hK => ?_) ?_
        · go_simp
          refine ⟨trivial, ?_⟩
          gi_at_call 34
          refine (CallsIn.inRound l' (callsIn_wide.2 (clone_any dx nx Ax cx _ hrx.out hx2 hx4))).mono ?_
          rintro e w7 ⟨A7, c7, rfl, HN7⟩
          have hn7 := Lib.hid HN7
          replace MM := Lib.hid (MM.out.step HN7.2.2.2)
          clear HN7 hco hcn
          have hco := MM.out.bo.cell
          have hcn := MM.out.bn.cell
          refine hK _ _ ?_
          clear hK K
          refine wpAnyIn_ready (rs := [1]) (by kernel_rfl) (by simp) ?_
          refine AllReadyIn.cons rfl (fun K hK => ?_) ?_
          · go_simp
            refine hK _ _ ?_
            clear hK K
            refine wpAnyIn_ready (rs := [4]) (by kernel_rfl) (by simp) ?_
            refine AllReadyIn.cons rfl (fun K hK => ?_) ?_
            · go_simp
              refine hK _ _ ?_
              clear hK K
              refine wpAnyIn_ready (rs := [5]) (by kernel_rfl) (by simp) ?_
              refine AllReadyIn.cons rfl (fun K hK => ?_) ?_
              · go_simp
                refine hK _ _ ?_
                clear hK K
                have LR := Lib.hid (fr_lit1 w7 W.heap.size 50 (b := false) (e := false) (x := (nm : Int)) hn7.out)
                replace MM := Lib.hid (MM.out.al (.cells #[.bool false, .bool false, .int .i64 (nm : Int), .slice A7 nx c7] 50))
                clear hco hcn
                have hco := MM.out.bo.cell
                have hcn := MM.out.bn.cell
                refine wpAnyIn_ready (rs := [6]) (by kernel_rfl) (by simp) ?_
                refine AllReadyIn.cons rfl (fun K hK => ?_) ?_
                · refine step_rows_in shF _ rfl (.tmp 38) (.tmp 43) 57 rfl 50 i0 (.agg #[.bool false, .bool false, .int .i64 0, .slice none 0 0]) 40 Tryd.underlying57 hi hz0 hz1 hz2 rfl (by decide) (fun b => w.heap.size ≤ b) (fun b => W.heap.size ≤ b) w.heap.size _ kk _ rfl MM.out.ow hkk.out (some ⟨w7.heap.size, 0, none⟩) 1 1 [⟨false, false, (nm : Int), dx⟩] rfl LR.out rfl (fun b _ hb => ⟨Nat.le_trans hI.out.bel.size hb, fun e => absurd ((M0.out.ow.lt e).2) (Nat.not_lt.2 hb)⟩) (by unfold maxLen; omega) (by omega) MM.out.bel.size ?_
                  intro v8 w8 ho8 hg8 _
                  obtain ⟨A8, c8, hv8, _, _⟩ := ho8.shape
                  rw [List.length_append, hkk.out, List.length_singleton] at hv8
                  subst hv8
                  replace MM := Lib.hid (MM.out.app ho8 hg8)
                  clear ho8 hg8 hco hcn
                  have hco := MM.out.bo.cell
                  have hfo := MM.out.bo.frozen
                  refine hK _ _ ?_
                  clear hK K
                  refine wpAnyIn_ready (rs := [7]) (by kernel_rfl) (by simp) ?_
                  refine AllReadyIn.cons rfl (fun K hK => ?_) ?_
                  · go_simp
                    refine hK _ _ ?_
                    clear hK K
                    replace MM := Lib.hid MM.out.setO
                    refine wpAnyIn_done (by kernel_rfl) ?_ _
                    clear hco hfo
                    have hcn := MM.out.bn.cell
                    have hcs := MM.out.bs.cell
                    gi_wp2_with (refine ⟨trivial, ?_⟩; gi_at_call 35; refine (CallsIn.inRound l' (callsIn_wide.2 (frbeh_any s nm HNM.out _ (hT.below MM.out.bel)))).mono ?_; rintro e w10 ⟨rfl, hb10⟩; replace MM := Lib.hid (MM.out.step hb10); clear hb10 hcn hcs; have hcn := MM.out.bn.cell; have hfn := MM.out.bn.frozen)
                    have M9 := MM.out.setN (((nm + 1) % frmod s : Nat) : Int)
                    refine ⟨M9.ko.from _, M9.kp hI.out.bd hI.out.bm, ?_⟩
                    dsimp only
                    rw [List.map_append]
                    exact fri_end M9 HNE.out hT
                  exact AllReadyIn.nil
                exact AllReadyIn.nil
              exact AllReadyIn.nil
            exact AllReadyIn.nil
          exact AllReadyIn.nil
        exact AllReadyIn.nil
      refine AllReadyIn.cons rfl (fun K hK => ?_) ?_
      · go_simp
        refine hK _ _ ?_
        clear hK K
        refine wpAnyIn_ready (rs := [0, 3]) (by kernel_rfl) (by simp) ?_
        refine AllReadyIn.cons rfl (fun K hK => ?_) ?_
        · go_simp
          refine hK _ _ ?_
          clear hK K
          refine wpAnyIn_ready (rs := [3]) (by kernel_rfl) (by simp) ?_
          refine AllReadyIn.cons rfl (fun K hK => ?_) ?_
          · go_simp
            refine ⟨trivial, ?_⟩
            gi_at_call 34
            refine (CallsIn.inRound l' (callsIn_wide.2 (clone_any dx nx Ax cx _ hrx.out hx2 hx4))).mono ?_
            rintro e w7 ⟨A7, c7, rfl, HN7⟩
            have hn7 := Lib.hid HN7
            replace MM := Lib.hid (MM.out.step HN7.2.2.2)
            clear HN7 hco hcn
            have hco := MM.out.bo.cell
            have hcn := MM.out.bn.cell
            refine hK _ _ ?_
            clear hK K
            refine wpAnyIn_ready (rs := [4]) (by kernel_rfl) (by simp) ?_
            refine AllReadyIn.cons rfl (fun K hK => ?_) ?_
            · go_simp
              refine hK _ _ ?_
              clear hK K
              refine wpAnyIn_ready (rs := [5]) (by kernel_rfl) (by simp) ?_
              refine AllReadyIn.cons rfl (fun K hK => ?_) ?_
              · go_simp
                refine hK _ _ ?_
                clear hK K
                have LR := Lib.hid (fr_lit1 w7 W.heap.size 50 (b := false) (e := false) (x := (nm : Int)) hn7.out)
                replace MM := Lib.hid (MM.out.al (.cells #[.bool false, .bool false, .int .i64 (nm : Int), .slice A7 nx c7] 50))
                clear hco hcn
                have hco := MM.out.bo.cell
                have hcn := MM.out.bn.cell
                refine wpAnyIn_ready (rs := [6]) (by kernel_rfl) (by simp) ?_
                refine AllReadyIn.cons rfl (fun K hK => ?_) ?_
                · refine step_rows_in shF _ rfl (.tmp 38) (.tmp 43) 57 rfl 50 i0 (.agg #[.bool false, .bool false, .int .i64 0, .slice none 0 0]) 40 Tryd.underlying57 hi hz0 hz1 hz2 rfl (by decide) (fun b => w.heap.size ≤ b) (fun b => W.heap.size ≤ b) w.heap.size _ kk _ rfl MM.out.ow hkk.out (some ⟨w7.heap.size, 0, none⟩) 1 1 [⟨false, false, (nm : Int), dx⟩] rfl LR.out rfl (fun b _ hb => ⟨Nat.le_trans hI.out.bel.size hb, fun e => absurd ((M0.out.ow.lt e).2) (Nat.not_lt.2 hb)⟩) (by unfold maxLen; omega) (by omega) MM.out.bel.size ?_
                  intro v8 w8 ho8 hg8 _
                  obtain ⟨A8, c8, hv8, _, _⟩ := ho8.shape
                  rw [List.length_append, hkk.out, List.length_singleton] at hv8
                  subst hv8
                  replace MM := Lib.hid (MM.out.app ho8 hg8)
                  clear ho8 hg8 hco hcn
                  have hco := MM.out.bo.cell
                  have hfo := MM.out.bo.frozen
                  refine hK _ _ ?_
                  clear hK K
                  refine wpAnyIn_ready (rs := [7]) (by kernel_rfl) (by simp) ?_
                  refine AllReadyIn.cons rfl (fun K hK => ?_) ?_
                  · go_simp
                    refine hK _ _ ?_
                    clear hK K
                    replace MM := Lib.hid MM.out.setO
                    refine wpAnyIn_done (by kernel_rfl) ?_ _
                    clear hco hfo
                    have hcn := MM.out.bn.cell
                    have hcs := MM.out.bs.cell
                    gi_wp2_with (refine ⟨trivial, ?_⟩; gi_at_call 35; refine (CallsIn.inRound l' (callsIn_wide.2 (frbeh_any s nm HNM.out _ (hT.below MM.out.bel)))).mono ?_; rintro e w10 ⟨rfl, hb10⟩; replace MM := Lib.hid (MM.out.step hb10); clear hb10 hcn hcs; have hcn := MM.out.bn.cell; have hfn := MM.out.bn.frozen)
                    have M9 := MM.out.setN (((nm + 1) % frmod s : Nat) : Int)
                    refine ⟨M9.ko.from _, M9.kp hI.out.bd hI.out.bm, ?_⟩
                    dsimp only
                    rw [List.map_append]
                    exact fri_end M9 HNE.out hT
                  exact AllReadyIn.nil
                exact AllReadyIn.nil
              exact AllReadyIn.nil
            exact AllReadyIn.nil
          exact AllReadyIn.nil
        refine AllReadyIn.cons rfl (fun K hK => ?_) ?_
        · go_simp
          refine ⟨trivial, ?_⟩
          gi_at_call 34
          refine (CallsIn.inRound l' (callsIn_wide.2 (clone_any dx nx Ax cx _ hrx.out hx2 hx4))).mono ?_
          rintro e w7 ⟨A7, c7, rfl, HN7⟩
          have hn7 := Lib.hid HN7
          replace MM := Lib.hid (MM.out.step HN7.2.2.2)
          clear HN7 hco hcn
          have hco := MM.out.bo.cell
          have hcn := MM.out.bn.cell
          refine hK _ _ ?_
          clear hK K
          refine wpAnyIn_ready (rs := [0, 4]) (by kernel_rfl) (by simp) ?_
          refine AllReadyIn.cons rfl (fun K hK => ?_) ?_
          · go_simp
            refine hK _ _ ?_
            clear hK K
            refine wpAnyIn_ready (rs := [4]) (by kernel_rfl) (by simp) ?_
            refine AllReadyIn.cons rfl (fun K hK => ?_) ?_
            · go_simp
              refine hK _ _ ?_
              clear hK K
              refine wpAnyIn_ready (rs := [5]) (by kernel_rfl) (by simp) ?_
              refine AllReadyIn.cons rfl (fun K hK => ?_) ?_
              · go_simp
                refine hK _ _ ?_
                clear hK K
                have LR := Lib.hid (fr_lit1 w7 W.heap.size 50 (b := false) (e := false) (x := (nm : Int)) hn7.out)
                replace MM := Lib.hid (MM.out.al (.cells #[.bool false, .bool false, .int .i64 (nm : Int), .slice A7 nx c7] 50))
                clear hco hcn
                have hco := MM.out.bo.cell
                have hcn := MM.out.bn.cell
                refine wpAnyIn_ready (rs := [6]) (by kernel_rfl) (by simp) ?_
                refine AllReadyIn.cons rfl (fun K hK => ?_) ?_
                · refine step_rows_in shF _ rfl (.tmp 38) (.tmp 43) 57 rfl 50 i0 (.agg #[.bool false, .bool false, .int .i64 0, .slice none 0 0]) 40 Tryd.underlying57 hi hz0 hz1 hz2 rfl (by decide) (fun b => w.heap.size ≤ b) (fun b => W.heap.size ≤ b) w.heap.size _ kk _ rfl MM.out.ow hkk.out (some ⟨w7.heap.size, 0, none⟩) 1 1 [⟨false, false, (nm : Int), dx⟩] rfl LR.out rfl (fun b _ hb => ⟨Nat.le_trans hI.out.bel.size hb, fun e => absurd ((M0.out.ow.lt e).2) (Nat.not_lt.2 hb)⟩) (by unfold maxLen; omega) (by omega) MM.out.bel.size ?_
                  intro v8 w8 ho8 hg8 _
                  obtain ⟨A8, c8, hv8, _, _⟩ := ho8.shape
                  rw [List.length_append, hkk.out, List.length_singleton] at hv8
                  subst hv8
                  replace MM := Lib.hid (MM.out.app ho8 hg8)
                  clear ho8 hg8 hco hcn
                  have hco := MM.out.bo.cell
                  have hfo := MM.out.bo.frozen
                  refine hK _ _ ?_
                  clear hK K
                  refine wpAnyIn_ready (rs := [7]) (by kernel_rfl) (by simp) ?_
                  refine AllReadyIn.cons rfl (fun K hK => ?_) ?_
                  · go_simp
                    refine hK _ _ ?_
                    clear hK K
                    replace MM := Lib.hid MM.out.setO
                    refine wpAnyIn_done (by kernel_rfl) ?_ _
                    clear hco hfo
                    have hcn := MM.out.bn.cell
                    have hcs := MM.out.bs.cell
                    gi_wp2_with (refine ⟨trivial, ?_⟩; gi_at_call 35; refine (CallsIn.inRound l' (callsIn_wide.2 (frbeh_any s nm HNM.out _ (hT.below MM.out.bel)))).mono ?_; rintro e w10 ⟨rfl, hb10⟩; replace MM := Lib.hid (MM.out.step hb10); clear hb10 hcn hcs; have hcn := MM.out.bn.cell; have hfn := MM.out.bn.frozen)
                    have M9 := MM.out.setN (((nm + 1) % frmod s : Nat) : Int)
                    refine ⟨M9.ko.from _, M9.kp hI.out.bd hI.out.bm, ?_⟩
                    dsimp only
                    rw [List.map_append]
                    exact fri_end M9 HNE.out hT
                  exact AllReadyIn.nil
                exact AllReadyIn.nil
              exact AllReadyIn.nil
            exact AllReadyIn.nil
          refine AllReadyIn.cons rfl (fun K hK => ?_) ?_
          · go_simp
            refine hK _ _ ?_
            clear hK K
            refine wpAnyIn_ready (rs := [0, 5]) (by kernel_rfl) (by simp) ?_
            refine AllReadyIn.cons rfl (fun K hK => ?_) ?_
            · go_simp
              refine hK _ _ ?_
              clear hK K
              refine wpAnyIn_ready (rs := [5]) (by kernel_rfl) (by simp) ?_
              refine AllReadyIn.cons rfl (fun K hK => ?_) ?_
              · go_simp
                refine hK _ _ ?_
                clear hK K
                have LR := Lib.hid (fr_lit1 w7 W.heap.size 50 (b := false) (e := false) (x := (nm : Int)) hn7.out)
                replace MM := Lib.hid (MM.out.al (.cells #[.bool false, .bool false, .int .i64 (nm : Int), .slice A7 nx c7] 50))
                clear hco hcn
                have hco := MM.out.bo.cell
                have hcn := MM.out.bn.cell
                refine wpAnyIn_ready (rs := [6]) (by kernel_rfl) (by simp) ?_
                refine AllReadyIn.cons rfl (fun K hK => ?_) ?_
                · refine step_rows_in shF _ rfl (.tmp 38) (.tmp 43) 57 rfl 50 i0 (.agg #[.bool false, .bool false, .int .i64 0, .slice none 0 0]) 40 Tryd.underlying57 hi hz0 hz1 hz2 rfl (by decide) (fun b => w.heap.size ≤ b) (fun b => W.heap.size ≤ b) w.heap.size _ kk _ rfl MM.out.ow hkk.out (some ⟨w7.heap.size, 0, none⟩) 1 1 [⟨false, false, (nm : Int), dx⟩] rfl LR.out rfl (fun b _ hb => ⟨Nat.le_trans hI.out.bel.size hb, fun e => absurd ((M0.out.ow.lt e).2) (Nat.not_lt.2 hb)⟩) (by unfold maxLen; omega) (by omega) MM.out.bel.size ?_
                  intro v8 w8 ho8 hg8 _
                  obtain ⟨A8, c8, hv8, _, _⟩ := ho8.shape
                  rw [List.length_append, hkk.out, List.length_singleton] at hv8
                  subst hv8
                  replace MM := Lib.hid (MM.out.app ho8 hg8)
                  clear ho8 hg8 hco hcn
                  have hco := MM.out.bo.cell
                  have hfo := MM.out.bo.frozen
                  refine hK _ _ ?_
                  clear hK K
                  refine wpAnyIn_ready (rs := [7]) (by kernel_rfl) (by simp) ?_
                  refine AllReadyIn.cons rfl (fun K hK => ?_) ?_
                  · go_simp
                    refine hK _ _ ?_
                    clear hK K
                    replace MM := Lib.hid MM.out.setO
                    refine wpAnyIn_done (by kernel_rfl) ?_ _
                    clear hco hfo
                    have hcn := MM.out.bn.cell
                    have hcs := MM.out.bs.cell
                    gi_wp2_with (refine ⟨trivial, ?_⟩; gi_at_call 35; refine (CallsIn.inRound l' (callsIn_wide.2 (frbeh_any s nm HNM.out _ (hT.below MM.out.bel)))).mono ?_; rintro e w10 ⟨rfl, hb10⟩; replace MM := Lib.hid (MM.out.step hb10); clear hb10 hcn hcs; have hcn := MM.out.bn.cell; have hfn := MM.out.bn.frozen)
                    have M9 := MM.out.setN (((nm + 1) % frmod s : Nat) : Int)
                    refine ⟨M9.ko.from _, M9.kp hI.out.bd hI.out.bm, ?_⟩
                    dsimp only
                    rw [List.map_append]
                    exact fri_end M9 HNE.out hT
                  exact AllReadyIn.nil
                exact AllReadyIn.nil
              exact AllReadyIn.nil
            refine AllReadyIn.cons rfl (fun K hK => ?_) ?_
            · go_simp
              refine hK _ _ ?_
              clear hK K
              have LR := Lib.hid (fr_lit1 w7 W.heap.size 50 (b := false) (e := false) (x := (nm : Int)) hn7.out)
              replace MM := Lib.hid (MM.out.al (.cells #[.bool false, .bool false, .int .i64 (nm : Int), .slice A7 nx c7] 50))
              clear hco hcn
              have hco := MM.out.bo.cell
              have hcn := MM.out.bn.cell
              refine wpAnyIn_ready (rs := [0]) (by kernel_rfl) (by simp) ?_
              refine AllReadyIn.cons rfl (fun K hK => ?_) ?_
              · go_simp
                refine hK _ _ ?_
                clear hK K
                refine wpAnyIn_ready (rs := [6]) (by kernel_rfl) (by simp) ?_
                refine AllReadyIn.cons rfl (fun K hK => ?_) ?_
                · refine step_rows_in shF _ rfl (.tmp 38) (.tmp 43) 57 rfl 50 i0 (.agg #[.bool false, .bool false, .int .i64 0, .slice none 0 0]) 40 Tryd.underlying57 hi hz0 hz1 hz2 rfl (by decide) (fun b => w.heap.size ≤ b) (fun b => W.heap.size ≤ b) w.heap.size _ kk _ rfl MM.out.ow hkk.out (some ⟨w7.heap.size, 0, none⟩) 1 1 [⟨false, false, (nm : Int), dx⟩] rfl LR.out rfl (fun b _ hb => ⟨Nat.le_trans hI.out.bel.size hb, fun e => absurd ((M0.out.ow.lt e).2) (Nat.not_lt.2 hb)⟩) (by unfold maxLen; omega) (by omega) MM.out.bel.size ?_
                  intro v8 w8 ho8 hg8 _
                  obtain ⟨A8, c8, hv8, _, _⟩ := ho8.shape
                  rw [List.length_append, hkk.out, List.length_singleton] at hv8
                  subst hv8
                  replace MM := Lib.hid (MM.out.app ho8 hg8)
                  clear ho8 hg8 hco hcn
                  have hco := MM.out.bo.cell
                  have hfo := MM.out.bo.frozen
                  refine hK _ _ ?_
                  clear hK K
                  refine wpAnyIn_ready (rs := [7]) (by kernel_rfl) (by simp) ?_
                  refine AllReadyIn.cons rfl (fun K hK => ?_) ?_
                  · go_simp
                    refine hK _ _ ?_
                    clear hK K
                    replace MM := Lib.hid MM.out.setO
                    refine wpAnyIn_done (by kernel_rfl) ?_ _
                    clear hco hfo
                    have hcn := MM.out.bn.cell
                    have hcs := MM.out.bs.cell
                    gi_wp2_with (refine ⟨trivial, ?_⟩; gi_at_call 35; refine (CallsIn.inRound l' (callsIn_wide.2 (frbeh_any s nm HNM.out _ (hT.below MM.out.bel)))).mono ?_; rintro e w10 ⟨rfl, hb10⟩; replace MM := Lib.hid (MM.out.step hb10); clear hb10 hcn hcs; have hcn := MM.out.bn.cell; have hfn := MM.out.bn.frozen)
                    have M9 := MM.out.setN (((nm + 1) % frmod s : Nat) : Int)
                    refine ⟨M9.ko.from _, M9.kp hI.out.bd hI.out.bm, ?_⟩
                    dsimp only
                    rw [List.map_append]
                    exact fri_end M9 HNE.out hT
                  exact AllReadyIn.nil
                exact AllReadyIn.nil
              exact AllReadyIn.nil
            exact AllReadyIn.nil
          exact AllReadyIn.nil
        exact AllReadyIn.nil
      refine AllReadyIn.cons rfl (fun K hK => ?_) ?_
      · go_simp
        refine ⟨trivial, ?_⟩
        gi_at_call 34
        refine (CallsIn.inRound l' (callsIn_wide.2 (clone_any dx nx Ax cx _ hrx.out hx2 hx4))).mono ?_
        rintro e w7 ⟨A7, c7, rfl, HN7⟩
        have hn7 := Lib.hid HN7
        replace MM := Lib.hid (MM.out.step HN7.2.2.2)
        clear HN7 hco hcn
        have hco := MM.out.bo.cell
        have hcn := MM.out.bn.cell
        refine hK _ _ ?_
        clear hK K
        refine wpAnyIn_ready (rs := [0, 1]) (by kernel_rfl) (by simp) ?_
        refine AllReadyIn.cons rfl (fun K hK => ?_) ?_
        · go_simp
          refine hK _ _ ?_
          clear hK K
          refine wpAnyIn_ready (rs := [1]) (by kernel_rfl) (by simp) ?_
          refine AllReadyIn.cons rfl (fun K hK => ?_) ?_
          · go_simp
            refine hK _ _ ?_
            clear hK K
            refine wpAnyIn_ready (rs := [4]) (by kernel_rfl) (by simp) ?_
            refine AllReadyIn.cons rfl (fun K hK => ?_) ?_
            · go_simp
              refine hK _ _ ?_
              clear hK K
              refine wpAnyIn_ready (rs := [5]) (by kernel_rfl) (by simp) ?_
              refine AllReadyIn.cons rfl (fun K hK => ?_) ?_
              · go_simp
                refine hK _ _ ?_
                clear hK K
                have LR := Lib.hid (fr_lit1 w7 W.heap.size 50 (b := false) (e := false) (x := (nm : Int)) hn7.out)
                replace MM := Lib.hid (MM.out.al (.cells #[.bool false, .bool false, .int .i64 (nm : Int), .slice A7 nx c7] 50))
                clear hco hcn
                have hco := MM.out.bo.cell
                have hcn := MM.out.bn.cell
                refine wpAnyIn_ready (rs := [6]) (by kernel_rfl) (by simp) ?_
                refine AllReadyIn.cons rfl (fun K hK => ?_) ?_
                · refine step_rows_in shF _ rfl (.tmp 38) (.tmp 43) 57 rfl 50 i0 (.agg #[.bool false, .bool false, .int .i64 0, .slice none 0 0]) 40 Tryd.underlying57 hi hz0 hz1 hz2 rfl (by decide) (fun b => w.heap.size ≤ b) (fun b => W.heap.size ≤ b) w.heap.size _ kk _ rfl MM.out.ow hkk.out (some ⟨w7.heap.size, 0, none⟩) 1 1 [⟨false, false, (nm : Int), dx⟩] rfl LR.out rfl (fun b _ hb => ⟨Nat.le_trans hI.out.bel.size hb, fun e => absurd ((M0.out.ow.lt e).2) (Nat.not_lt.2 hb)⟩) (by unfold maxLen; omega) (by omega) MM.out.bel.size ?_
                  intro v8 w8 ho8 hg8 _
                  obtain ⟨A8, c8, hv8, _, _⟩ := ho8.shape
                  rw [List.length_append, hkk.out, List.length_singleton] at hv8
                  subst hv8
                  replace MM := Lib.hid (MM.out.app ho8 hg8)
                  clear ho8 hg8 hco hcn
                  have hco := MM.out.bo.cell
                  have hfo := MM.out.bo.frozen
                  refine hK _ _ ?_
                  clear hK K
                  refine wpAnyIn_ready (rs := [7]) (by kernel_rfl) (by simp) ?_
                  refine AllReadyIn.cons rfl (fun K hK => ?_) ?_
                  · go_simp
                    refine hK _ _ ?_
                    clear hK K
                    replace MM := Lib.hid MM.out.setO
                    refine wpAnyIn_done (by kernel_rfl) ?_ _
                    clear hco hfo
                    have hcn := MM.out.bn.cell
                    have hcs := MM.out.bs.cell
                    gi_wp2_with (refine ⟨trivial, ?_⟩; gi_at_call 35; refine (CallsIn.inRound l' (callsIn_wide.2 (frbeh_any s nm HNM.out _ (hT.below MM.out.bel)))).mono ?_; rintro e w10 ⟨rfl, hb10⟩; replace MM := Lib.hid (MM.out.step hb10); clear hb10 hcn hcs; have hcn := MM.out.bn.cell; have hfn := MM.out.bn.frozen)
                    have M9 := MM.out.setN (((nm + 1) % frmod s : Nat) : Int)
                    refine ⟨M9.ko.from _, M9.kp hI.out.bd hI.out.bm, ?_⟩
                    dsimp only
                    rw [List.map_append]
                    exact fri_end M9 HNE.out hT
                  exact AllReadyIn.nil
                exact AllReadyIn.nil
              exact AllReadyIn.nil
            exact AllReadyIn.nil
          exact AllReadyIn.nil
        refine AllReadyIn.cons rfl (fun K hK => ?_) ?_
        · go_simp
          refine hK _ _ ?_
          clear hK K
          refine wpAnyIn_ready (rs := [0, 4]) (by kernel_rfl) (by simp) ?_
          refine AllReadyIn.cons rfl (fun K hK => ?_) ?_
          · go_simp
            refine hK _ _ ?_
            clear hK K
            refine wpAnyIn_ready (rs := [4]) (by kernel_rfl) (by simp) ?_
            refine AllReadyIn.cons rfl (fun K hK => ?_) ?_
            · go_simp
              refine hK _ _ ?_
              clear hK K
              refine wpAnyIn_ready (rs := [5]) (by kernel_rfl) (by simp) ?_
              refine AllReadyIn.cons rfl (fun K hK => ?_) ?_
              · go_simp
                refine hK _ _ ?_
                clear hK K
                have LR := Lib.hid (fr_lit1 w7 W.heap.size 50 (b := false) (e := false) (x := (nm : Int)) hn7.out)
                replace MM := Lib.hid (MM.out.al (.cells #[.bool false, .bool false, .int .i64 (nm : Int), .slice A7 nx c7] 50))
                clear hco hcn
                have hco := MM.out.bo.cell
                have hcn := MM.out.bn.cell
                refine wpAnyIn_ready (rs := [6]) (by kernel_rfl) (by simp) ?_
                refine AllReadyIn.cons rfl (fun K hK => ?_) ?_
                · refine step_rows_in shF _ rfl (.tmp 38) (.tmp 43) 57 rfl 50 i0 (.agg #[.bool false, .bool false, .int .i64 0, .slice none 0 0]) 40 Tryd.underlying57 hi hz0 hz1 hz2 rfl (by decide) (fun b => w.heap.size ≤ b) (fun b => W.heap.size ≤ b) w.heap.size _ kk _ rfl MM.out.ow hkk.out (some ⟨w7.heap.size, 0, none⟩) 1 1 [⟨false, false, (nm : Int), dx⟩] rfl LR.out rfl (fun b _ hb => ⟨Nat.le_trans hI.out.bel.size hb, fun e => absurd ((M0.out.ow.lt e).2) (Nat.not_lt.2 hb)⟩) (by unfold maxLen; omega) (by omega) MM.out.bel.size ?_
                  intro v8 w8 ho8 hg8 _
                  obtain ⟨A8, c8, hv8, _, _⟩ := ho8.shape
                  rw [List.length_append, hkk.out, List.length_singleton] at hv8
                  subst hv8
                  replace MM := Lib.hid (MM.out.app ho8 hg8)
                  clear ho8 hg8 hco hcn
                  have hco := MM.out.bo.cell
                  have hfo := MM.out.bo.frozen
                  refine hK _ _ ?_
                  clear hK K
                  refine wpAnyIn_ready (rs := [7]) (by kernel_rfl) (by simp) ?_
                  refine AllReadyIn.cons rfl (fun K hK => ?_) ?_
                  · go_simp
                    refine hK _ _ ?_
                    clear hK K
                    replace MM := Lib.hid MM.out.setO
                    refine wpAnyIn_done (by kernel_rfl) ?_ _
                    clear hco hfo
                    have hcn := MM.out.bn.cell
                    have hcs := MM.out.bs.cell
                    gi_wp2_with (refine ⟨trivial, ?_⟩; gi_at_call 35; refine (CallsIn.inRound l' (callsIn_wide.2 (frbeh_any s nm HNM.out _ (hT.below MM.out.bel)))).mono ?_; rintro e w10 ⟨rfl, hb10⟩; replace MM := Lib.hid (MM.out.step hb10); clear hb10 hcn hcs; have hcn := MM.out.bn.cell; have hfn := MM.out.bn.frozen)
                    have M9 := MM.out.setN (((nm + 1) % frmod s : Nat) : Int)
                    refine ⟨M9.ko.from _, M9.kp hI.out.bd hI.out.bm, ?_⟩
                    dsimp only
                    rw [List.map_append]
                    exact fri_end M9 HNE.out hT
                  exact AllReadyIn.nil
                exact AllReadyIn.nil
              exact AllReadyIn.nil
            exact AllReadyIn.nil
          refine AllReadyIn.cons rfl (fun K hK => ?_) ?_
          · go_simp
            refine hK _ _ ?_
            clear hK K
            refine wpAnyIn_ready (rs := [0, 5]) (by kernel_rfl) (by simp) ?_
            refine AllReadyIn.cons rfl (fun K hK => ?_) ?_
            · go_simp
              refine hK _ _ ?_
              clear hK K
              refine wpAnyIn_ready (rs := [5]) (by kernel_rfl) (by simp) ?_
              refine AllReadyIn.cons rfl (fun K hK => ?_) ?_
              · go_simp
                refine hK _ _ ?_
                clear hK K
                have LR := Lib.hid (fr_lit1 w7 W.heap.size 50 (b := false) (e := false) (x := (nm : Int)) hn7.out)
                replace MM := Lib.hid (MM.out.al (.cells #[.bool false, .bool false, .int .i64 (nm : Int), .slice A7 nx c7] 50))
                clear hco hcn
                have hco := MM.out.bo.cell
                have hcn := MM.out.bn.cell
                refine wpAnyIn_ready (rs := [6]) (by kernel_rfl) (by simp) ?_
                refine AllReadyIn.cons rfl (fun K hK => ?_) ?_
                · refine step_rows_in shF _ rfl (.tmp 38) (.tmp 43) 57 rfl 50 i0 (.agg #[.bool false, .bool false, .int .i64 0, .slice none 0 0]) 40 Tryd.underlying57 hi hz0 hz1 hz2 rfl (by decide) (fun b => w.heap.size ≤ b) (fun b => W.heap.size ≤ b) w.heap.size _ kk _ rfl MM.out.ow hkk.out (some ⟨w7.heap.size, 0, none⟩) 1 1 [⟨false, false, (nm : Int), dx⟩] rfl LR.out rfl (fun b _ hb => ⟨Nat.le_trans hI.out.bel.size hb, fun e => absurd ((M0.out.ow.lt e).2) (Nat.not_lt.2 hb)⟩) (by unfold maxLen; omega) (by omega) MM.out.bel.size ?_
                  intro v8 w8 ho8 hg8 _
                  obtain ⟨A8, c8, hv8, _, _⟩ := ho8.shape
                  rw [List.length_append, hkk.out, List.length_singleton] at hv8
                  subst hv8
                  replace MM := Lib.hid (MM.out.app ho8 hg8)
                  clear ho8 hg8 hco hcn
                  have hco := MM.out.bo.cell
                  have hfo := MM.out.bo.frozen
                  refine hK _ _ ?_
                  clear hK K
                  refine wpAnyIn_ready (rs := [7]) (by kernel_rfl) (by simp) ?_
                  refine AllReadyIn.cons rfl (fun K hK => ?_) ?_
                  · go_simp
                    refine hK _ _ ?_
                    clear hK K
                    replace MM := Lib.hid MM.out.setO
                    refine wpAnyIn_done (by kernel_rfl) ?_ _
                    clear hco hfo
                    have hcn := MM.out.bn.cell
                    have hcs := MM.out.bs.cell
                    gi_wp2_with (refine ⟨trivial, ?_⟩; gi_at_call 35; refine (CallsIn.inRound l' (callsIn_wide.2 (frbeh_any s nm HNM.out _ (hT.below MM.out.bel)))).mono ?_; rintro e w10 ⟨rfl, hb10⟩; replace MM := Lib.hid (MM.out.step hb10); clear hb10 hcn hcs; have hcn := MM.out.bn.cell; have hfn := MM.out.bn.frozen)
                    have M9 := MM.out.setN (((nm + 1) % frmod s : Nat) : Int)
                    refine ⟨M9.ko.from _, M9.kp hI.out.bd hI.out.bm, ?_⟩
                    dsimp only
                    rw [List.map_append]
                    exact fri_end M9 HNE.out hT
                  exact AllReadyIn.nil
                exact AllReadyIn.nil
              exact AllReadyIn.nil
            refine AllReadyIn.cons rfl (fun K hK => ?_) ?_
            · go_simp
              refine hK _ _ ?_
              clear hK K
              have LR := Lib.hid (fr_lit1 w7 W.heap.size 50 (b := false) (e := false) (x := (nm : Int)) hn7.out)
              replace MM := Lib.hid (MM.out.al (.cells #[.bool false, .bool false, .int .i64 (nm : Int), .slice A7 nx c7] 50))
              clear hco hcn
              have hco := MM.out.bo.cell
              have hcn := MM.out.bn.cell
              refine wpAnyIn_ready (rs := [0]) (by kernel_rfl) (by simp) ?_
              refine AllReadyIn.cons rfl (fun K hK => ?_) ?_
              · go_simp
                refine hK _ _ ?_
                clear hK K
                refine wpAnyIn_ready (rs := [6]) (by kernel_rfl) (by simp) ?_
                refine AllReadyIn.cons rfl (fun K hK => ?_) ?_
                · refine step_rows_in shF _ rfl (.tmp 38) (.tmp 43) 57 rfl 50 i0 (.agg #[.bool false, .bool false, .int .i64 0, .slice none 0 0]) 40 Tryd.underlying57 hi hz0 hz1 hz2 rfl (by decide) (fun b => w.heap.size ≤ b) (fun b => W.heap.size ≤ b) w.heap.size _ kk _ rfl MM.out.ow hkk.out (some ⟨w7.heap.size, 0, none⟩) 1 1 [⟨false, false, (nm : Int), dx⟩] rfl LR.out rfl (fun b _ hb => ⟨Nat.le_trans hI.out.bel.size hb, fun e => absurd ((M0.out.ow.lt e).2) (Nat.not_lt.2 hb)⟩) (by unfold maxLen; omega) (by omega) MM.out.bel.size ?_
                  intro v8 w8 ho8 hg8 _
                  obtain ⟨A8, c8, hv8, _, _⟩ := ho8.shape
                  rw [List.length_append, hkk.out, List.length_singleton] at hv8
                  subst hv8
                  replace MM := Lib.hid (MM.out.app ho8 hg8)
                  clear ho8 hg8 hco hcn
                  have hco := MM.out.bo.cell
                  have hfo := MM.out.bo.frozen
                  refine hK _ _ ?_
                  clear hK K
                  refine wpAnyIn_ready (rs := [7]) (by kernel_rfl) (by simp) ?_
                  refine AllReadyIn.cons rfl (fun K hK => ?_) ?_
                  · go_simp
                    refine hK _ _ ?_
                    clear hK K
                    replace MM := Lib.hid MM.out.setO
                    refine wpAnyIn_done (by kernel_rfl) ?_ _
                    clear hco hfo
                    have hcn := MM.out.bn.cell
                    have hcs := MM.out.bs.cell
                    gi_wp2_with (refine ⟨trivial, ?_⟩; gi_at_call 35; refine (CallsIn.inRound l' (callsIn_wide.2 (frbeh_any s nm HNM.out _ (hT.below MM.out.bel)))).mono ?_; rintro e w10 ⟨rfl, hb10⟩; replace MM := Lib.hid (MM.out.step hb10); clear hb10 hcn hcs; have hcn := MM.out.bn.cell; have hfn := MM.out.bn.frozen)
                    have M9 := MM.out.setN (((nm + 1) % frmod s : Nat) : Int)
                    refine ⟨M9.ko.from _, M9.kp hI.out.bd hI.out.bm, ?_⟩
                    dsimp only
                    rw [List.map_append]
                    exact fri_end M9 HNE.out hT
                  exact AllReadyIn.nil
                exact AllReadyIn.nil
              exact AllReadyIn.nil
            exact AllReadyIn.nil
          exact AllReadyIn.nil
        exact AllReadyIn.nil
      exact AllReadyIn.nil
    exact AllReadyIn.nil
  case done =>
    rintro D ys W hD hys hI hK
    obtain ⟨v, hM⟩ := hI.mid hbs
    rw [hys] at hM
    have hlen : (frrow s f ((List.range (frcnt m n)).map (frchk m l))).length = k := by rw [frrow_len, List.length_map, List.length_range, HK.out]
    obtain ⟨cs0, hown⟩ := hM.ow.own
    obtain ⟨g, c0, hv0⟩ := own_some hown (by rw [hlen]; exact hk0)
    rw [hlen] at hv0 hown
    subst hv0
    obtain ⟨k1, hk1, hk1k⟩ : ∃ k1 : Nat, k1 + 1 = k ∧ (k : Int) - 1 = (k1 : Int) := ⟨k - 1, by omega, by omega⟩
    obtain ⟨⟨m0, m1⟩, ⟨m2, m3⟩, O2⟩ := frsplit_marks (l := l) (m := m) hM.ow hlen hl HK.out hk1 hk0
    rw [List.length_map, List.length_range, HK.out] at hM
    obtain ⟨nm, hnm⟩ : ∃ nm, frnum s f k = nm := ⟨_, rfl⟩
    rw [hnm] at hM
    have qg : q ≠ g := fun e => (hM.bo.not_row (by decide) hown) (by rw [e]; rfl)
    have qg1 : q + 1 ≠ g := fun e => (hM.bn.not_row (by decide) hown) (by rw [e]; rfl)
    have x1 := boxed_off hM.bo qg 0 (.bool true)
    have x2 := boxed_off x1 qg (k1 * 4 + 1) (.bool true)
    have y1 := boxed_off hM.bn qg1 0 (.bool true)
    have y2 := boxed_off y1 qg1 (k1 * 4 + 1) (.bool true)
    have cq0 := hM.bo.cell
    have cq1 := x1.cell
    have cq2 := x2.cell
    have cn2 := y2.cell
    have hgw : w.heap.size ≤ g := (hM.ow.lt rfl).1
    have hB2 := Lib.hid ((hM.bel.setCell (p := ⟨g, 0, none⟩) hgw (.bool true)).setCell (p := ⟨g, k1 * 4 + 1, none⟩) hgw (.bool true))
    have hK2 := ((KeepsOthers.setCell W ⟨g, 0, none⟩ (.bool true)).trans (KeepsOthers.setCell _ ⟨g, k1 * 4 + 1, none⟩ (.bool true))).same D _ hK rfl
    have HK2 := Lib.hid hK2
    have O2' := Lib.hid O2
    have HNM := Lib.hid hnm
    have k1k : (k1 : Int) < (k : Int) := by omega
    have hmx : Tryd.prog.follows .mixedOrders = true := by kernel_rfl
    have HDW := Lib.hid (show w.heap.size ≤ D by omega)
    clear x1 x2 y1 y2 hM hK hK2 O2 hown hlen hI hys hnm hD
    gi_wp2
    refine at_worldF (fun V => V.cell? ⟨q, 0, none⟩ = some (.slice (some ⟨g, 0, none⟩) k c0) ∧ V.cell? ⟨q + 1, 0, none⟩ = some (.int .i64 (nm : Int)) ∧ Hid (V.heap[D]? = some (.deferred (some []))) ∧ Hid (Orw shF 50 (fun b => w.heap.size ≤ b) w.heap.size V (.slice (some ⟨g, 0, none⟩) k c0) (frpcs s f m l)) ∧ Hid (Below w.heap.size w V)) ⟨cq2, cn2, HK2, O2', hB2⟩ ?_
    clear cq0 cq1 cq2 cn2 HK2 O2' hB2 m0 m1 m2 m3
    rintro V ⟨cq, cn, HD, HO, HB⟩
    gi_region
    all_goals gi_wp2
    have hKD := HD.out
    have hKd : V.drew.heap[D]? = some (.deferred (some [])) := hKD
    refine ⟨by simp, .inl ⟨_, _, rfl, run_takeDeferred hKd, ?_⟩⟩
    refine ⟨_, results_tmp3F rfl _ _ _ _ _ rfl rfl rfl, some ⟨g, 0, none⟩, c0, ?_, ?_, ?_⟩
    · rw [HNM.out]; rfl
    · exact (HO.out.below ((Below.refl _ _).drew)).cells_ (grownBy_putObj' _ D (.deferred none)) (fun r e => by cases e; exact ⟨_, hKd, rfl⟩)
    · exact HB.out.drew.trans (belowK_b (w := w) (Nat.le_refl _) V.drew D _ _ HDW.out hKd rfl rfl)
end Go.Proofs.YtamdaepeogmboaaDoor
