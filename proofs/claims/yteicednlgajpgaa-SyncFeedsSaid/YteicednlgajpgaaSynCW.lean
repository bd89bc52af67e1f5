
/-
  The walk of the statement SyncCuts: it answers true for every most and list of chunks, and writes nothing that was there. No condition beyond: no chunk of more than 2^47 bits.
-/
import Derived.Test.YteicednlgajpgaaSynWW
namespace Go.Proofs.Yteicednlgajpgaa
open Go.RowKit

theorem Df.grown {B base : Nat} {w w' : World} {b most : Nat} {V1 V2 v1 : Value} {s : St} {e : TypeId} {sz n : Nat} {xs : List Value} (h : Df B w b most V1 V2 s) (h1 : w.ownsRow base e sz v1 n xs) (hg : w.grownBy w' v1.ownBlock) (he : e ≠ 43) (hV1 : ∀ g, V1.ownBlock = some g → v1.ownBlock ≠ some g) (hV2 : ∀ g, V2.ownBlock = some g → v1.ownBlock ≠ some g) : Df B w' b most V1 V2 s :=
  h.off (X := fun i => v1.ownBlock = some i) (.of_grown hg (fun _ h => h)) (fun h0 => h.cells.own_ne h1 he h0) hV1 hV2
theorem Tl.grown8 {B base : Nat} {w w' : World} {T : TypeId} {F : Nat → Prop} {v v1 : Value} {l : List Sg} {sz n : Nat} {xs : List Value} (h : Tl B w T F v l) (h1 : w.ownsRow base 5 sz v1 n xs) (hg : w.grownBy w' v1.ownBlock) (hT : T ≠ 5) (hF : ∀ g, F g → v1.ownBlock ≠ some g) : Tl B w' T F v l := by
  obtain ⟨ys, hys⟩ := h.own
  exact h.off (X := fun i => v1.ownBlock = some i) (.of_grown hg (fun _ h => h)) (fun g hg' => own_ne hys h1 hT hg') (fun g cur hc hF' => ⟨hF g hF', hF'⟩)
theorem Tl.sameT {B base : Nat} {w w' : World} {T : TypeId} {F : Nat → Prop} {v v1 : Value} {l : List Sg} {sz n : Nat} {xs : List Value} (h : Tl B w T F v l) (h1 : w.ownsRow base T sz v1 n xs) (hg : w.grownBy w' v1.ownBlock) (hT : 5 ≠ T) (hne : ∀ g, v.ownBlock = some g → v1.ownBlock ≠ some g) : Tl B w' T F v l := by
  refine h.off (X := fun i => v1.ownBlock = some i) (.of_grown hg (fun _ h => h)) hne (fun g cur hc hF => ⟨fun hv => ?_, hF⟩)
  obtain ⟨c2, h2⟩ := own_blk h1 hv
  rw [hc] at h2
  injection h2 with h2
  injection h2 with _ h2
  exact hT h2
/-- The blocks in which the octets told lie, said otherwise. -/
theorem Tl.turn {B : Nat} {w : World} {T : TypeId} {F F' : Nat → Prop} {v : Value} {l : List Sg} (h : Tl B w T F v l) (hF : ∀ g, g < w.heap.size → F g → F' g) : Tl B w T F' v l :=
  h.off (Offs.refl (fun _ => False) w) (fun _ _ => id) (fun g _ hc hg => ⟨id, hF g (Array.getElem?_eq_some_iff.1 hc).1 hg⟩)

theorem flat_bound (ls : List (List Nat)) (M : Nat) (h : ∀ x ∈ ls, x.length ≤ M) : ls.flatten.length ≤ ls.length * M := by
  induction ls with
  | nil => simp
  | cons a t ih =>
    rw [List.flatten_cons, List.length_append, List.length_cons, Nat.succ_mul]
    have h1 := h a (by simp)
    have h2 := ih (fun x hx => h x (by simp [hx]))
    omega

def RightR (a : Int) (n : Nat) (ls : List (List Nat)) (e : Ending) : Prop := ∃ t : Bool, e = .returned (.bool t) ∧ (t = true → 1 ≤ a ∧ a ≤ 1048576 ∧ n ≤ 60 ∧ ls.flatten.length ≤ 900)

set_option maxHeartbeats 2000000 in
theorem right_any (a : Int) (ls : List (List Nat)) (n : Nat) (A : Option Addr) (c : Nat) (w : World) (h : Rr w A ls) (hl : ls.length = n) (hn2 : n ≤ 140737488351232) (hs : ∀ x ∈ ls, x.length ≤ 140737488351232) :
    Calls Try.prog 8 #[.int .i64 a, .slice A n c] w fun e w' => RightR a n ls e ∧ w = w' := by
  have HL := Lib.hid hl
  have HS := Lib.hid hs
  clear hl hs
  by_cases hn : n ≤ 60
  · have hb : ∀ k, (ls.take k).flatten.length ≤ 8444249301073920 := by
      intro k
      have h1 := flat_bound ls 140737488351232 HS.out
      have h2 := flat_le ls k
      rw [HL.out] at h1
      have : n * 140737488351232 ≤ 60 * 140737488351232 := Nat.mul_le_mul_right _ hn
      omega
    have HB := Lib.hid hb
    clear hb
    go_enter Try.func8, Try.ntmps8
    go_wp2_with fail
    go_loopw [5, 10] (fun s i wr => w = wr ∧ ∃ k q : Nat, k ≤ n ∧ i = .int .i64 k ∧ s = .int .i64 q ∧ Hid ((ls.take k).flatten.length = q)) (fun _ i _ => n - (intOf i).toNat)
    case atStart => exact ⟨rfl, 0, 0, Nat.zero_le _, rfl, rfl, Lib.hid rfl⟩
    case round =>
      obtain ⟨rfl, k, q, hk, rfl, rfl, hq⟩ := hrel
      have hq1 : q ≤ 8444249301073920 := by rw [← hq.out]; exact HB.out k
      by_cases hlt : k < n
      · obtain ⟨b, o, x, A3, c3, rfl, hx, h3, h5⟩ := h.at_ (k := k) (by rw [HL.out]; exact hlt)
        have hx1 := HS.out x (List.mem_of_getElem? hx)
        have HQ := Lib.hid (show (ls.take (k + 1)).flatten.length = q + x.length by rw [flat_take hx, List.length_append, hq.out])
        clear hx h5
        have i1 : (0 : Int) ≤ k := by omega
        have i2 : (k : Int) < n := by omega
        go_wp2_with fail
        go_roundw
        case rel => exact ⟨trivial, k + 1, q + x.length, by omega, by go_num, by go_num, HQ⟩
        case measure => simp [intOf]; omega
      · have HQ := Lib.hid (show ls.flatten.length = q by rw [← hq.out, List.take_of_length_le (by rw [HL.out]; omega)])
        have i3 : (n : Int) ≤ 60 := by omega
        clear hq
        by_cases h1 : 1 ≤ a
        · by_cases h2 : a ≤ 1048576
          · by_cases h4 : q ≤ 900
            · have h4' : (q : Int) ≤ 900 := by omega
              go_wp2_with fail
              go_ret
              exact ⟨⟨true, rfl, fun _ => ⟨h1, h2, hn, by rw [HQ.out]; exact h4⟩⟩, rfl⟩
            · have h4' : ¬ (q : Int) ≤ 900 := by omega
              go_wp2_with fail
              go_ret
              exact ⟨⟨_, rfl, fun h => by simp at h⟩, rfl⟩
          · go_wp2_with fail
            go_ret
            exact ⟨⟨_, rfl, fun h => by simp at h⟩, rfl⟩
        · go_wp2_with fail
          go_ret
          exact ⟨⟨_, rfl, fun h => by simp at h⟩, rfl⟩
  · have i3 : ¬ (n : Int) ≤ 60 := by omega
    go_enter Try.func8, Try.ntmps8
    go_wp2_with fail
    go_loopw [5, 10] (fun s i wr => w = wr ∧ ∃ (k : Nat) (q : Int), k ≤ n ∧ i = .int .i64 k ∧ s = .int .i64 q) (fun _ i _ => n - (intOf i).toNat)
    case atStart => exact ⟨rfl, 0, 0, Nat.zero_le _, rfl, rfl⟩
    case round =>
      obtain ⟨rfl, k, q, hk, rfl, rfl⟩ := hrel
      by_cases hlt : k < n
      · obtain ⟨b, o, x, A3, c3, rfl, hx, h3, h5⟩ := h.at_ (k := k) (by rw [HL.out]; exact hlt)
        clear hx h5
        have i1 : (0 : Int) ≤ k := by omega
        have i2 : (k : Int) < n := by omega
        go_wp2_with fail
        go_roundw
        case rel => exact ⟨trivial, k + 1, _, by omega, by go_num, rfl⟩
        case measure => simp [intOf]; omega
      · by_cases h1 : 1 ≤ a
        · by_cases h2 : a ≤ 1048576
          · go_wp2_with fail
            go_ret
            exact ⟨⟨_, rfl, fun h => by simp at h⟩, rfl⟩
          · go_wp2_with fail
            go_ret
            exact ⟨⟨_, rfl, fun h => by simp at h⟩, rfl⟩
        · go_wp2_with fail
          go_ret
          exact ⟨⟨_, rfl, fun h => by simp at h⟩, rfl⟩

set_option maxHeartbeats 2000000 in
theorem scuts_out (a : Int) (ls : List (List Nat)) (n : Nat) (A : Option Addr) (c : Nat) (w : World) (h : Rr w A ls) (hl : ls.length = n) (hn2 : n ≤ 140737488351232) (hs : ∀ x ∈ ls, x.length ≤ 140737488351232) (hno : ¬ (1 ≤ a ∧ a ≤ 1048576 ∧ n ≤ 60 ∧ ls.flatten.length ≤ 900)) :
    Calls Try.prog 4 #[.int .i64 a, .slice A n c] w fun e w' => e = .returned (.bool true) ∧ Below w.heap.size w w' := by
  have HL := Lib.hid hl
  have HS := Lib.hid hs
  have HN := Lib.hid hno
  clear hl hs hno
  go_enter Try.func4, Try.ntmps4
  go_wp2_with fail
  refine (speaks7_any _).mono ?_
  rintro e w1 ⟨rfl, hB1⟩
  go_wp2_with fail
  refine (right_any a ls n A c w1 (h.on hB1) HL.out hn2 HS.out).mono ?_
  rintro e w2 ⟨⟨t, rfl, ht⟩, rfl⟩
  cases t
  · go_wp2_with fail
    refine (speaks7_any _).mono ?_
    rintro e w2 ⟨rfl, hb2⟩
    go_wp2_with fail
    go_ret
    exact ⟨rfl, hB1.trans (hb2.mono hB1.size)⟩
  · exact absurd (ht rfl) HN.out

theorem Rr.old {w w' : World} {A : Option Addr} {ls : List (List Nat)} (h : Rr w A ls) (hb : Below w.heap.size w w') {k : Nat} (hk : k < ls.length) : ∃ b off x Ak ck, A = some ⟨b, off, none⟩ ∧ ls[k]? = some x ∧ w'.cell? ⟨b, off + k, none⟩ = some (.slice Ak x.length ck) ∧ Rd w w.heap.size Ak x := by
  obtain ⟨b, off, x, Ak, ck, e, hx, h1, h2⟩ := h.at_ hk
  exact ⟨b, off, x, Ak, ck, e, hx, (hb.cell (block_lt h1)).trans h1, h2⟩
/-- Behind some chunks: what the deframers hold, all bits so far, what was told. -/
structure Cu (B : Nat) (w : World) (ba bb bc most : Nat) (U1 U2 av xv : Value) (l : List Nat) (q : Nat) : Prop where
  da : Df B w ba most U1 U2 (run most St.start l).1
  db : Df B w bb most (.slice none 0 0) (.slice none 0 0) St.start
  dc : Df B w bc most (.slice none 0 0) (.slice none 0 0) St.start
  al : w.ownsRow B 5 1 av q (bvs l)
  nv : ∀ g, av.ownBlock = some g → U1.ownBlock ≠ some g ∧ U2.ownBlock ≠ some g
  tl : Tl B w 38 (fun g => (U1.ownBlock ≠ some g ∧ U2.ownBlock ≠ some g) ∧ av.ownBlock ≠ some g) xv (run most St.start l).2

/-- Behind some bits, one by one. -/
structure Cb (B N : Nat) (w : World) (bb bc most : Nat) (U1 U2 av xv yv : Value) (l : List Nat) (q j : Nat) : Prop where
  db : Df B w bb most U1 U2 (run most St.start (l.take j)).1
  dc : Df B w bc most (.slice none 0 0) (.slice none 0 0) St.start
  al : w.ownsRow B 5 1 av q (bvs l)
  nv : ∀ g, av.ownBlock = some g → U1.ownBlock ≠ some g ∧ U2.ownBlock ≠ some g
  hv1 : ∀ g, U1.ownBlock = some g → N ≤ g
  hv2 : ∀ g, U2.ownBlock = some g → N ≤ g
  tx : Tl B w 38 (fun g => g < N) xv (run most St.start l).2
  ty : Tl B w 38 (fun g => U1.ownBlock ≠ some g ∧ U2.ownBlock ≠ some g) yv (run most St.start (l.take j)).2
  hy : ∀ g, yv.ownBlock = some g → N ≤ g
  sz : N ≤ w.heap.size

theorem nil_ne {c k : Nat} {P : Nat → Prop} : ∀ g, (Value.slice none c k).ownBlock = some g → P g := fun g hg => by cases hg

set_option maxHeartbeats 8000000 in
theorem scuts_walk (most : Nat) (hm1 : 1 ≤ most) (hm2 : most ≤ 1048576) (ls : List (List Nat)) (n : Nat) (A : Option Addr) (c : Nat) (w : World) (h : Rr w A ls) (hby : ∀ x ∈ ls, By x) (hl : ls.length = n) (hs : ∀ x ∈ ls, x.length ≤ 140737488351232) (hn : n ≤ 60) (hf : ls.flatten.length ≤ 900) :
    Calls Try.prog 4 #[.int .i64 (most : Int), .slice A n c] w fun e w' => e = .returned (.bool true) ∧ Below w.heap.size w w' := by
  obtain ⟨i0, hi, hz0, hz1, hz2⟩ := info_parts byte_info
  obtain ⟨i9, hi9, hz90, hz91, hz92⟩ := info_parts seg_info
  have HL := Lib.hid hl
  have HS := Lib.hid hs
  have HBY := Lib.hid hby
  have HFL := Lib.hid (fun k => Nat.le_trans (flat_le ls k) hf)
  have HF := Lib.hid hf
  clear hl hs hby hf
  go_enter Try.func4, Try.ntmps4
  go_wp2_with fail
  refine (speaks7_any _).mono ?_
  rintro e w1 ⟨rfl, hB1⟩
  go_wp2_with fail
  refine (right_any (most : Int) ls n A c w1 (h.on hB1) HL.out (by omega) HS.out).mono ?_
  rintro e w2 ⟨⟨t, rfl, ht⟩, rfl⟩
  cases t
  · go_wp2_with fail
    refine (speaks7_any _).mono ?_
    rintro e w2 ⟨rfl, hb2⟩
    go_wp2_with fail
    go_ret
    exact ⟨rfl, hB1.trans (hb2.mono hB1.size)⟩
  · clear ht
    go_wp2_with fail
    refine (new_any most _).mono ?_
    rintro e w2 ⟨ba, rfl, hba, hba2, hDa, hb2⟩
    have hB2 := hB1.trans (hb2.mono hB1.size)
    have hda2 := hDa w.heap.size hB1.size
    clear hDa hb2
    go_wp2_with fail
    refine (new_any most _).mono ?_
    rintro e w3 ⟨bb, rfl, hbb, hbb2, hDb, hb3⟩
    have hB3 := hB2.trans (hb3.mono hB2.size)
    have hda3 := hda2.below hb3
    have hdb3 := hDb w.heap.size hB2.size
    clear hDb hb3 hda2
    go_wp2_with fail
    refine (new_any most _).mono ?_
    rintro e w4 ⟨bc, rfl, hbc, hbc2, hDc, hb4⟩
    have hB4 := hB3.trans (hb4.mono hB3.size)
    have hCu : Cu w.heap.size w4 ba bb bc most (.slice none 0 0) (.slice none 0 0) (.slice none 0 0) (.slice none 0 0) [] 0 :=
      ⟨hda3.below hb4, hdb3.below hb4, hDc w.heap.size hB3.size, World.ownsRow_nil _ _ _ _, nil_ne, Tl.nil _ _ _ _⟩
    have hab : ba ≠ bb := by omega
    have hac : ba ≠ bc := by omega
    have hbc' : bb ≠ bc := by omega
    clear hDc hb4 hda3 hdb3 hB1 hB2 hB3 hba hbb hbc hba2 hbb2 hbc2
    go_wp2_with fail
    go_loopw [8, 9, 41] (fun av xv i wr => Below w.heap.size w wr ∧ ∃ (k q : Nat) (U1 U2 : Value), k ≤ n ∧ i = .int .i64 k ∧ Cu w.heap.size wr ba bb bc most U1 U2 av xv (ls.take k).flatten q) (fun _ _ i _ => n - (intOf i).toNat)
    case atStart => exact ⟨hB4, 0, 0, _, _, Nat.zero_le _, rfl, hCu⟩
    case round =>
      clear hCu hB4
      obtain ⟨hbel, k, q, U1, U2, hk, rfl, hcu⟩ := hrel
      by_cases hlt : k < n
      · obtain ⟨b0, o0, x, Ax, cx, rfl, hx, q1, q2⟩ := h.old hbel (k := k) (by rw [HL.out]; exact hlt)
        have hbx := HBY.out x (List.mem_of_getElem? hx)
        have hft := flat_take hx
        have hle := HFL.out (k + 1)
        rw [hft] at hle
        have HFT := Lib.hid hft
        have HBX := Lib.hid hbx
        have hq := hcu.al.1
        rw [bvs_len] at hq
        have j1 : (0 : Int) ≤ k := by omega
        have j2 : (k : Int) < n := by omega
        have HQ2 := Lib.hid q2
        have hxl : x.length ≤ 900 := by rw [List.length_append] at hle; omega
        have hql : q + x.length ≤ 900 := by rw [List.length_append] at hle; omega
        generalize (ls.take k).flatten = pre at hcu hle hq HFT
        have hpl : pre.length ≤ 900 := by omega
        have htot : (run most St.start pre).1.tot ≤ 900 := by
          have := run_tot (most := most) pre (s := St.start)
          have h0 : St.start.tot = 0 := rfl
          omega
        have hrx := Lib.hid ((HQ2.out.below hbel).more hbel.size)
        clear hx hft hbx q2
        go_wp2_with fail
        refine (feed_any hcu.da hbel.size (by omega) x x.length Ax cx rfl HBX.out (by omega) hrx.out).mono ?_
        rintro e w1' ⟨X1, X2, v1, rfl, hF⟩
        have hB1' := hbel.trans ((hF.below_ hcu.da hbel.size))
        have hdb1 := hcu.db.fed hcu.da hF.off (fun h => hab h.symm) nil_ne nil_ne
        have hdc1 := hcu.dc.fed hcu.da hF.off (fun h => hac h.symm) nil_ne nil_ne
        have hal1 := own_fed hcu.al hcu.da hF.off hcu.nv
        have hnv1 : ∀ g, u8.ownBlock = some g → X1.ownBlock ≠ some g ∧ X2.ownBlock ≠ some g := fun g hg => ⟨fun hv => (hF.mv1 g hv).elim (hcu.nv g hg).1 (fun h => by have := (hcu.al.lt g hg).2; omega), fun hv => (hF.mv2 g hv).elim (hcu.nv g hg).2 (fun h => by have := (hcu.al.lt g hg).2; omega)⟩
        have htl1 := ((hcu.tl.turn (F' := fun g => (U1.ownBlock ≠ some g ∧ U2.ownBlock ≠ some g) ∧ (X1.ownBlock ≠ some g ∧ X2.ownBlock ≠ some g) ∧ u8.ownBlock ≠ some g) (fun g hg h => ⟨h.1, ⟨fun hv => (hF.mv1 g hv).elim h.1.1 (fun h => by omega), fun hv => (hF.mv2 g hv).elim h.1.2 (fun h => by omega)⟩, h.2⟩)).fed (by decide) (by decide) hcu.da hF.off (fun g h => h.1)).mono (F' := fun g => (X1.ownBlock ≠ some g ∧ X2.ownBlock ≠ some g) ∧ u8.ownBlock ≠ some g) (fun g h => h.2)
        have htv1 := hF.tl.mono (F' := fun g => (X1.ownBlock ≠ some g ∧ X2.ownBlock ≠ some g) ∧ u8.ownBlock ≠ some g) (fun g h => ⟨h.2, fun hv => h.1.elim (fun h0 => (hcu.nv g hv).1 h0) (fun h0 => by have := (hcu.al.lt g hv).2; omega)⟩)
        have hda1 := hF.df
        have hsx : (run most (run most St.start pre).1 x).2.length ≤ 900 := Nat.le_trans (run_told _) hxl
        have hsp : (run most St.start pre).2.length ≤ 900 := Nat.le_trans (run_told _) hpl
        have HR1 := Lib.hid (run_app1 most St.start pre x)
        have HR2 := Lib.hid (run_app2 most St.start pre x)
        generalize hTP : (run most St.start pre).2 = tp at htl1 hsp HR2
        generalize hTX : (run most (run most St.start pre).1 x).2 = tx at htv1 hsx HR2
        obtain ⟨A5, c5, rfl, _, _⟩ := htv1.shape
        obtain ⟨vs, hvs, hown, hds⟩ := htl1
        obtain ⟨us, hus, hown2, hds2⟩ := htv1
        have HVS := Lib.hid hvs
        have HUS := Lib.hid hus
        have HOWN := Lib.hid hown
        have HOWN2 := Lib.hid hown2
        have HDS := Lib.hid hds
        have HDS2 := Lib.hid hds2
        have HUL := Lib.hid (show (sgC us).length = tx.length * 2 by rw [sgC_len, ← hus, List.length_map])
        have HDA := Lib.hid hda1
        have HDB := Lib.hid hdb1
        have HDC := Lib.hid hdc1
        have HAL := Lib.hid hal1
        have HNV := Lib.hid hnv1
        have hszw := hB1'.size
        have HBW := Lib.hid hB1'
        clear hTP hTX hF hcu hvs hus hown hown2 hds hds2 hda1 hdb1 hdc1 hal1 hnv1 hB1'
        go_wp2_with (first
          | (at_builtin; have _g := hszw; clear _g; refine list_mv rfl _ _ 28 rfl 38 i9 (.agg #[.int .i64 0, .slice none 0 0]) 2 32 Try.underlying28 hi9 hz90 hz91 hz92 rfl (by decide) w.heap.size _ _ _ rfl HOWN.out A5 tx.length c5 (sgC us) rfl (own_zero HOWN2.out) HUL.out (own_news HOWN2.out) (sgC_one (fun y hy => (HDS2.out y hy).1)) (by unfold maxLen; omega) (by omega) hszw ?_; intro v2 w2' hown3 hgrow3 hmv3; have HTL := Lib.hid (Tl.join HVS.out HUS.out HDS.out HDS2.out (fun g hg => own_blk HOWN.out hg) (by decide) hgrow3 hown3); have HDA2 := Lib.hid (HDA.out.grown HOWN.out hgrow3 (by decide) (fun g hg => own_ne HDA.out.own1 HOWN.out (by decide) hg) (fun g hg => own_ne HDA.out.own2 HOWN.out (by decide) hg)); have HDB2 := Lib.hid (HDB.out.grown HOWN.out hgrow3 (by decide) nil_ne nil_ne); have HDC2 := Lib.hid (HDC.out.grown HOWN.out hgrow3 (by decide) nil_ne nil_ne); have HAL2 := Lib.hid (own_off HAL.out (.of_grown (X := fun i => u9.ownBlock = some i) hgrow3 (fun _ h => h)) (fun g hg => own_ne HAL.out HOWN.out (by decide) hg)); have hB2' := HBW.out.grown hgrow3 hszw (fun g hg => (HOWN.out.lt g hg).1); have HB2 := Lib.hid hB2'; have HSZ2 := Lib.hid hB2'.size; have HRX := Lib.hid (HQ2.out.below hB2'); clear hown3 hgrow3 hmv3 hB2' hszw)
          | (at_builtin; refine list_mv rfl _ _ 27 rfl 5 i0 (.int .u8 0) 1 1 Try.underlying27 hi hz0 hz1 hz2 rfl (by decide) w.heap.size _ _ _ rfl HAL2.out Ax x.length cx (bvs x) rfl (rd_nil HRX.out) (by rw [bvs_len]; omega) (rd_news HRX.out) (bvs_one x) (by unfold maxLen; omega) (by omega) HSZ2.out ?_; intro v3 w3' hown4 hgrow4 hmv4))
        have hsz2 := HB2.out.size
        have R : Cu w.heap.size w3' ba bb bc most X1 X2 v3 v2 (pre ++ x) (q + x.length) := by
          refine ⟨?_, HDB2.out.grown HAL2.out hgrow4 (by decide) nil_ne nil_ne, HDC2.out.grown HAL2.out hgrow4 (by decide) nil_ne nil_ne, by rw [bvs_app]; exact hown4, ?_, ?_⟩
          · rw [HR1.out]
            exact HDA2.out.grown HAL2.out hgrow4 (by decide) (fun g hg h => (HNV.out g h).1 hg) (fun g hg h => (HNV.out g h).2 hg)
          · exact fun g hg => (hmv4 g hg).elim (HNV.out g) (fun h => ⟨fun hv => by have := (HDA2.out.own1.lt g hv).2; omega, fun hv => by have := (HDA2.out.own2.lt g hv).2; omega⟩)
          · rw [HR2.out]
            exact ((HTL.out.turn (F' := fun g => u8.ownBlock ≠ some g ∧ (X1.ownBlock ≠ some g ∧ X2.ownBlock ≠ some g) ∧ v3.ownBlock ≠ some g) (fun g hg h => ⟨h.2, h.1, fun hv => (hmv4 g hv).elim h.2 (fun h0 => by omega)⟩)).grown8 HAL2.out hgrow4 (by decide) (fun g h => h.1)).mono (fun g h => h.2)
        rw [← HFT.out] at R
        have R2 := HB2.out.grown hgrow4 HSZ2.out (fun g hg => (HAL2.out.lt g hg).1)
        clear hgrow4 hmv4 hown4
        go_roundw
        case rel => exact ⟨R2, k + 1, _, X1, X2, by omega, by go_num, R⟩
        case measure => simp [intOf]; omega
      · have he : k = n := by omega
        subst he
        have HLL := Lib.hid (show (ls.take k).flatten = ls.flatten by rw [List.take_of_length_le (by rw [HL.out]; exact Nat.le_refl _)])
        rw [HLL.out] at hcu
        have hfl := HF.out
        have HBF := Lib.hid (show By ls.flatten by
          intro y hy
          obtain ⟨x, hx, hy⟩ := List.mem_flatten.1 hy
          exact HBY.out x hx y hy)
        generalize ls.flatten = L at hcu hfl HBF
        have hq := hcu.al.1
        rw [bvs_len] at hq
        have hq' : q ≤ 900 := by omega
        have HQ := Lib.hid (show L.length = q by omega)
        obtain ⟨Aa, ca, rfl, hqc, hcam⟩ := own_form hcu.al
        have HXLT := Lib.hid (fun g hg => (hcu.tl.lt (g := g) hg).2)
        have hCb : Cb w.heap.size wr.heap.size wr bb bc most (.slice none 0 0) (.slice none 0 0) (.slice Aa q ca) u9 (.slice none 0 0) L q 0 :=
          ⟨hcu.db, hcu.dc, hcu.al, (fun g _ => ⟨(fun h => by cases h), (fun h => by cases h)⟩), nil_ne, nil_ne, hcu.tl.turn (fun g hg _ => hg), Tl.nil _ _ _ _, nil_ne, Nat.le_refl _⟩
        clear hcu hq hlt hk
        generalize wr.heap.size = N at hCb HXLT
        go_wp2_with fail
        go_loopw [10, 56] (fun yv i wx => Below w.heap.size w wx ∧ ∃ (j : Nat) (U1 U2 : Value), j ≤ q ∧ i = .int .i64 j ∧ Cb w.heap.size N wx bb bc most U1 U2 (.slice Aa q ca) u9 yv L q j) (fun _ i _ => q - (intOf i).toNat)
        case atStart => exact ⟨hbel, 0, _, _, Nat.zero_le _, rfl, hCb⟩
        case round =>
          clear hCb
          obtain ⟨hbx, j, Y1, Y2, hj, rfl, hcb⟩ := hrel
          by_cases hlt : j < q
          · obtain ⟨ga, cap', hAa⟩ := own_some hcb.al (by omega)
            injection hAa with hAa _ hcc
            subst hAa
            subst hcc
            have hjL : j < L.length := by rw [HQ.out]; exact hlt
            obtain ⟨x, hx⟩ : ∃ x, L[j]? = some x := ⟨_, List.getElem?_eq_getElem hjL⟩
            have hx256 := HBF.out.get hx
            have hcell : wr.cell? ⟨ga, j, none⟩ = some (.int .u8 (x : Int)) := by
              have h1 := hcb.al.cellAt j (by omega)
              rw [h1]
              exact bvs_get L j x hx
            have HT := Lib.hid (run_take (most := most) (s := St.start) hx)
            have hglt : ga < wr.heap.size := (hcb.al.lt ga rfl).2
            have htot : (run most St.start (L.take j)).1.tot ≤ 900 := by
              have := run_tot (most := most) (L.take j) (s := St.start)
              have h0 : St.start.tot = 0 := rfl
              rw [List.length_take] at this
              omega
            have HFE := Lib.hid (feed_any (w := wr) hcb.db hbx.size (by omega) [x] 1 (some ⟨ga, j, none⟩) (ca - j) rfl (by intro y hy; rw [List.mem_singleton] at hy; omega) (by omega) (fun _ => ⟨ga, j, rfl, hglt, fun k y hk => by
              match k, hk with
              | 0, hk => injection hk with hk; subst hk; exact hcell
              | k + 1, hk => simp at hk⟩))
            have j1 : (0 : Int) ≤ j := by omega
            have j2 : (j : Int) < q := by omega
            have j3 : (j : Int) ≤ (j : Int) + 1 := by omega
            have j4 : (j : Int) + 1 ≤ (ca : Int) := by omega
            have j5 : ¬ ca = j := by omega
            clear hx hcell
            go_wp2_with fail
            refine HFE.out.mono ?_
            rintro e w5 ⟨X1, X2, v5, rfl, hF⟩
            have hB5 := hbx.trans (hF.below_ hcb.db hbx.size)
            have hdc5 := hcb.dc.fed hcb.db hF.off (fun h => hbc' h.symm) nil_ne nil_ne
            have hal5 := own_fed hcb.al hcb.db hF.off hcb.nv
            have hnv5 : ∀ g, (Value.slice (some ⟨ga, 0, none⟩) q ca).ownBlock = some g → X1.ownBlock ≠ some g ∧ X2.ownBlock ≠ some g := fun g hg => ⟨fun hv => (hF.mv1 g hv).elim (hcb.nv g hg).1 (fun h => by have := (hcb.al.lt g hg).2; omega), fun hv => (hF.mv2 g hv).elim (hcb.nv g hg).2 (fun h => by have := (hcb.al.lt g hg).2; omega)⟩
            have hhv1 : ∀ g, X1.ownBlock = some g → N ≤ g := fun g hg => (hF.mv1 g hg).elim (hcb.hv1 g) (fun h => Nat.le_trans hcb.sz h)
            have hhv2 : ∀ g, X2.ownBlock = some g → N ≤ g := fun g hg => (hF.mv2 g hg).elim (hcb.hv2 g) (fun h => Nat.le_trans hcb.sz h)
            have htx5 := hcb.tx.fed (by decide) (by decide) hcb.db hF.off (fun g hg => ⟨(fun hv => by have := hcb.hv1 g hv; omega), (fun hv => by have := hcb.hv2 g hv; omega)⟩)
            have hty5 := hcb.ty.fed_mv (by decide) (by decide) hcb.db hF.off (fun g h => h) hF.mv1 hF.mv2
            have htv5 := hF.tl.mono (F' := fun g => X1.ownBlock ≠ some g ∧ X2.ownBlock ≠ some g) (fun g h => h.2)
            have hdb5 := hF.df
            have hsz5 : N ≤ w5.heap.size := Nat.le_trans hcb.sz hF.off.size
            have hhy := hcb.hy
            rw [run_one] at hdb5 htv5
            have hsp : (run most St.start (L.take j)).2.length ≤ 900 := Nat.le_trans (run_told _) (by rw [List.length_take]; omega)
            have hsx : (stp most (run most St.start (L.take j)).1 x).2.length ≤ 1 := by
              rw [stp_told]
              split
              · exact Nat.zero_le _
              split
              · exact tell_len _ _
              · exact Nat.zero_le _
            have hHT := HT.out
            generalize (run most St.start (L.take j)).2 = tp at hty5 hsp hHT
            generalize (stp most (run most St.start (L.take j)).1 x).2 = tx at htv5 hsx hHT
            obtain ⟨A5, c5, rfl, _, _⟩ := htv5.shape
            obtain ⟨vs, hvs, hown, hds⟩ := hty5
            obtain ⟨us, hus, hown2, hds2⟩ := htv5
            have HVS := Lib.hid hvs
            have HUS := Lib.hid hus
            have HOWN := Lib.hid hown
            have HOWN2 := Lib.hid hown2
            have HDS := Lib.hid hds
            have HDS2 := Lib.hid hds2
            have HUL := Lib.hid (show (sgC us).length = tx.length * 2 by rw [sgC_len, ← hus, List.length_map])
            have HDB := Lib.hid hdb5
            have HDC := Lib.hid hdc5
            have HAL := Lib.hid hal5
            have HNV := Lib.hid hnv5
            have HHV1 := Lib.hid hhv1
            have HHV2 := Lib.hid hhv2
            have HHY := Lib.hid hhy
            have HTX := Lib.hid htx5
            have HTT := Lib.hid hHT
            have hszw := hB5.size
            have HBW := Lib.hid hB5
            clear hF hcb hvs hus hown hown2 hds hds2 hdb5 hdc5 hal5 hnv5 hhv1 hhv2 hhy htx5 hHT hB5 HFE
            go_wp2_with (at_builtin; refine list_mv rfl _ _ 28 rfl 38 i9 (.agg #[.int .i64 0, .slice none 0 0]) 2 32 Try.underlying28 hi9 hz90 hz91 hz92 rfl (by decide) w.heap.size _ _ _ rfl HOWN.out A5 tx.length c5 (sgC us) rfl (own_zero HOWN2.out) HUL.out (own_news HOWN2.out) (sgC_one (fun y hy => (HDS2.out y hy).1)) (by unfold maxLen; omega) (by omega) hszw ?_; intro v6 w6 hown6 hgrow6 hmv6)
            have R2 := HBW.out.grown hgrow6 hszw (fun g hg => (HOWN.out.lt g hg).1)
            have hsz6 := hgrow6.size
            have R : Cb w.heap.size N w6 bb bc most X1 X2 (.slice (some ⟨ga, 0, none⟩) q ca) u9 v6 L q (j + 1) := by
              refine ⟨?_, HDC.out.grown HOWN.out hgrow6 (by decide) nil_ne nil_ne, own_off HAL.out (.of_grown (X := fun i => u10.ownBlock = some i) hgrow6 (fun _ h => h)) (fun g hg => own_ne HAL.out HOWN.out (by decide) hg), HNV.out, HHV1.out, HHV2.out, ?_, ?_, ?_, Nat.le_trans hsz5 hsz6⟩
              · rw [HTT.out]
                exact HDB.out.grown HOWN.out hgrow6 (by decide) (fun g hg => own_ne HDB.out.own1 HOWN.out (by decide) hg) (fun g hg => own_ne HDB.out.own2 HOWN.out (by decide) hg)
              · exact HTX.out.sameT HOWN.out hgrow6 (by decide) (fun g hg hy => by have := HXLT.out g hg; have := HHY.out g hy; omega)
              · rw [HTT.out]
                exact Tl.join HVS.out HUS.out HDS.out HDS2.out (fun g hg => own_blk HOWN.out hg) (by decide) hgrow6 hown6
              · exact fun g hg => (hmv6 g hg).elim (HHY.out g) (fun h => Nat.le_trans hsz5 h)
            clear hgrow6 hmv6 hown6
            go_roundw
            case rel => exact ⟨R2, j + 1, X1, X2, by omega, by go_num, R⟩
            case measure => simp [intOf]; omega
          · have he : j = q := by omega
            subst he
            have ht := List.take_of_length_le (l := L) (i := j) (by rw [HQ.out]; exact Nat.le_refl _)
            have hty := hcb.ty
            rw [ht] at hty
            have htx := hcb.tx
            have hdc := hcb.dc
            have hal := hcb.al
            generalize hTT : (run most St.start L).2 = told at htx hty
            have HTT := Lib.hid hTT
            obtain ⟨Ax, cx, rfl, _, _⟩ := htx.shape
            obtain ⟨Ay, cy, rfl, _, _⟩ := hty.shape
            have hrL := Rd.own hal
            clear hcb hTT ht
            have hok : told.length ≤ 900 ∧ ∀ y ∈ told, y.2.length ≤ 1099511627776 := by
              rw [← HTT.out]
              exact ⟨Nat.le_trans (run_told _) hfl, fun y hy => by have := (run_ok _ (ok_start most) y hy).2.1; omega⟩
            have hsx := htx.read (n := told.length)
            have hsy0 := hty.read (n := told.length)
            go_wp2_with fail
            refine (same_yes told told.length Ax Ay cx cy wr hsx hsy0 rfl (by omega) hok.2).mono ?_
            rintro e w6 ⟨rfl, hb6⟩
            have hB6 := hbx.trans (hb6.mono hbx.size)
            have hdc6 := hdc.below hb6
            have hty6 := hty.below hb6
            have hrL6 := hrL.on hb6
            clear hsx hsy0 htx hty hdc hal hrL hb6
            go_wp2_with fail
            refine (feed_any hdc6 hB6.size (by omega) L j Aa ca HQ.out HBF.out (by show 0 + j ≤ _; omega) hrL6).mono ?_
            rintro e w7 ⟨Z1, Z2, v7, rfl, hF⟩
            have hB7 := hB6.trans (hF.below_ hdc6 hB6.size)
            have hsy := (hty6.fed (by decide) (by decide) hdc6 hF.off (fun g _ => ⟨(fun h => by cases h), (fun h => by cases h)⟩)).read (n := told.length)
            have htz := hF.tl
            rw [HTT.out] at htz
            obtain ⟨Az, cz, rfl, _, _⟩ := htz.shape
            have hsz := htz.read (n := told.length)
            clear hF hty6 htz hdc6
            go_wp2_with fail
            refine (same_yes told told.length Ay Az cy cz w7 hsy hsz rfl (by omega) hok.2).mono ?_
            rintro e w9 ⟨rfl, hb9⟩
            have hB9 := hB7.trans (hb9.mono hB7.size)
            go_wp2_with fail
            go_ret
            exact ⟨rfl, hB9⟩

end Go.Proofs.Yteicednlgajpgaa
