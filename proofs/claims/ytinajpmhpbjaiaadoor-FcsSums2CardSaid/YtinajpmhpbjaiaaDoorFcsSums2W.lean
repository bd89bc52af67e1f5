/-
  The walk of the statement FcsSums2: it answers true for every two lists of octets. Condition: the tables hold what the start-up lays ('Tabs').
-/
import Derived.Test.YtinajpmhpbjaiaaDoorFcsMoreW
namespace Go.Proofs.YtinajpmhpbjaiaaDoor
open Go.RowKit

/-- The first n of two lists, by exclusive or. -/
def zx (la lb : List Nat) (n : Nat) : List Nat := List.zipWith (· ^^^ ·) (la.take n) (lb.take n)
theorem zx_len {la lb : List Nat} {n : Nat} (ha : n ≤ la.length) (hb : n ≤ lb.length) : (zx la lb n).length = n := by
  simp [zx, List.length_zipWith, List.length_take]; omega
theorem zx_snoc {la lb : List Nat} {k x y : Nat} (ha : la[k]? = some x) (hb : lb[k]? = some y) : zx la lb (k + 1) = zx la lb k ++ [x ^^^ y] := by
  have h1 : k < la.length := (List.getElem?_eq_some_iff.1 ha).1
  have h2 : k < lb.length := (List.getElem?_eq_some_iff.1 hb).1
  unfold zx
  rw [List.take_add_one, List.take_add_one, ha, hb, Option.toList_some, Option.toList_some, List.zipWith_append (by simp [List.length_take]; omega)]
  rfl
theorem zx_by {la lb : List Nat} {n : Nat} (ha : By la) (hb : By lb) : By (zx la lb n) := by
  intro v hv
  obtain ⟨i, hi, rfl⟩ := List.mem_iff_getElem.1 hv
  unfold zx at hi ⊢
  rw [List.getElem_zipWith]
  exact Nat.xor_lt_two_pow (n := 8) (ha _ (List.mem_of_mem_take (List.getElem_mem _))) (hb _ (List.mem_of_mem_take (List.getElem_mem _)))
theorem zeros_by (n : Nat) : By (List.replicate n 0) := by
  intro x hx
  rw [List.eq_of_mem_replicate hx]
  omega
theorem own_other {w : World} {base n g : Nat} {xs : List Value} {a : Addr} {u : Value} (h : w.ownsRow base 5 1 (.slice (some ⟨g, 0, none⟩) n n) n xs) (hne : g ≠ a.block) : (w.setCell a u).ownsRow base 5 1 (.slice (some ⟨g, 0, none⟩) n n) n xs := by
  refine ⟨h.1, ?_⟩
  rcases h.2 with h0 | ⟨g', cap, cur, hv, hg, hh, hr⟩
  · exact .inl h0
  · injection hv with h1 h2 h3
    injection h1 with h1
    injection h1 with h1
    subst h1
    exact .inr ⟨g, cap, cur, by rw [h3], hg, (Below.heap_setCell _ _ _ _ hne).trans hh, hr⟩
theorem part_zeros (n : Nat) : part [] n 0 = List.replicate n 0 := by simp [part]
theorem u8_xor_cast (x y : Nat) (hx : x < 256) (hy : y < 256) : bits .xor .u8 (x : Int) (y : Int) = ((x ^^^ y : Nat) : Int) := u8_xor_nat x y hx hy
theorem sum_v (wide : Bool) (y : Nat) (l : List Nat) (hy : sumW wide l = y) (n : Nat) (A : Option Addr) (c : Nat) (w : World) (h : Rd w w.heap.size A l) (hb : By l) (hl : l.length = n) (hn : n ≤ 1099511627776) (hT : Tabs w) :
    Calls Tryd.prog 10 #[.bool wide, .slice A n c] w fun e w' => e = .returned (.int .u32 (y : Int)) ∧ w' = w := by
  subst hy
  exact same_turn (sum_any wide l n A c w h hb hl hn hT)
/-- Two rows that are made one behind the other. -/
theorem two_rows {W w : World} {n : Nat} (hB : Below W.heap.size W w) (hn : n ≤ 1099511627776) :
    let w2 := ((w.alloc (.cells (bvs (part [] n 0)).toArray 5)).alloc (.cells (bvs (part [] n 0)).toArray 5)).drew
    w2.ownsRow W.heap.size 5 1 (.slice (some ⟨w.heap.size, 0, none⟩) n n) n (bvs (part [] n 0)) ∧
    w2.ownsRow W.heap.size 5 1 (.slice (some ⟨w.heap.size + 1, 0, none⟩) n n) n (bvs (part [] n 0)) ∧ Below W.heap.size W w2 := by
  have hl : (bvs (part [] n 0)).toArray.size = n * 1 := by simp [bvs_len, part]
  have h1 : (w.alloc (.cells (bvs (part [] n 0)).toArray 5)).ownsRow W.heap.size 5 1 (.slice (some ⟨w.heap.size, 0, none⟩) n n) n (bvs (part [] n 0)) :=
    World.ownsRow_lit w _ n hB.size (by unfold maxLen; omega) hl
  have hs : W.heap.size ≤ (w.alloc (.cells (bvs (part [] n 0)).toArray 5)).heap.size := by have := hB.size; simp; omega
  have h2 := World.ownsRow_lit (base := W.heap.size) (e := 5) (size := 1) (w.alloc (.cells (bvs (part [] n 0)).toArray 5)) (bvs (part [] n 0)).toArray n hs (by unfold maxLen; omega) hl
  rw [show (w.alloc (.cells (bvs (part [] n 0)).toArray 5)).heap.size = w.heap.size + 1 from by simp] at h2
  exact ⟨h1.alloc _, h2, ((hB.alloc hB.size _).alloc hs _).drew⟩

/-- 'make([]byte, n)': the law for a region whose order is open. -/
theorem make_run (n : Nat) (hn : n ≤ 1099511627776) (w : World) : (Instr.makeSlice 22 (.int .i64 (n : Int)) (.int .i64 (n : Int))).run Tryd.prog w = .ok (.slice (some ⟨w.heap.size, 0, none⟩) n n) (w.alloc (.cells (bvs (part [] n 0)).toArray 5)) := by
  obtain ⟨i0, hi, hz0, hz1, hz2⟩ := info_parts byte_info
  have hr := run_make (P := Tryd.prog) w 22 5 i0 (.int .u8 0) Tryd.underlying22 hi hz0 .i64 .i64 n n (by omega) (Int.le_refl _) (by rw [hz2]; omega) (by omega)
  simp only [Int.toNat_natCast, hz1] at hr
  rw [part_zero]
  exact hr

set_option maxHeartbeats 4000000 in
theorem sums2_walk (wide : Bool) (la lb : List Nat) (A B : Option Addr) (na ca nb cb : Nat) (w : World) (hla : la.length = na) (hba : By la) (ha : Rd w w.heap.size A la) (hlb : lb.length = nb) (hbb : By lb) (hb : Rd w w.heap.size B lb)
    (h4 : na ≤ 400) (h5 : nb ≤ 400) (hca : na ≤ ca) (hcb : nb ≤ cb) (hT : Tabs w) (n : Nat) (hn : n ≤ na) (hn2 : n ≤ nb) (hmin : (nb < na ∧ n = nb) ∨ (¬ nb < na ∧ n = na)) :
    Calls Tryd.prog 7 #[.slice A na ca, .slice B nb cb, .bool wide] w fun e w' => e = .returned (.bool true) ∧ Below w.heap.size w w' := by
  have HLA := Lib.hid hla
  have HBA := Lib.hid hba
  have HRA := Lib.hid ha
  have HLB := Lib.hid hlb
  have HBB := Lib.hid hbb
  have HRB := Lib.hid hb
  clear hla hba ha hlb hbb hb
  have n1 : ¬ (400 : Int) < (na : Int) := by omega
  have n2 : ¬ (400 : Int) < (nb : Int) := by omega
  rcases hmin with ⟨hmn, rfl⟩ | ⟨hmn, rfl⟩
  all_goals
    go_enter Tryd.func7, Tryd.ntmps7
    go_wp2_with fail
    refine (speaks_any _ hT).mono ?_
    rintro e w1 ⟨rfl, hB1⟩
    go_wp2_with fail
    have hmk := make_run n (by omega)
    go_region
  · have hrows := two_rows hB1 (show n ≤ 1099511627776 by omega)
    dsimp only at hrows
    have hsz := hB1.size
    generalize ((w1.alloc (.cells (bvs (part [] n 0)).toArray 5)).alloc (.cells (bvs (part [] n 0)).toArray 5)).drew = w2 at hrows ⊢
    obtain ⟨hr1, hr2, hB2⟩ := hrows
    clear hmk hB1
    go_wp2_with fail
    go_loopw [34] (fun i wr => ∃ k : Nat, k ≤ n ∧ i = .int .i64 k ∧ wr.ownsRow w.heap.size 5 1 (.slice (some ⟨w1.heap.size + 1, 0, none⟩) n n) n (bvs (part (zx la lb k) n k)) ∧ wr.ownsRow w.heap.size 5 1 (.slice (some ⟨w1.heap.size, 0, none⟩) n n) n (bvs (part [] n 0)) ∧ Below w.heap.size w wr) (fun i _ => n - (intOf i).toNat)
    case atStart => exact ⟨0, Nat.zero_le _, rfl, hr2, hr1, hB2⟩
    case round =>
      obtain ⟨k, hk, rfl, hown, hzer, hbel⟩ := hrel
      clear hr1 hr2 hB2
      by_cases hlt : k < n
      · obtain ⟨ba, oa, x, rfl, hba, hx, hcx⟩ := (HRA.out.below hbel).at_ (k := k) (by rw [HLA.out]; omega)
        obtain ⟨b2, ob, y, rfl, hb2, hy, hcy⟩ := (HRB.out.below hbel).at_ (k := k) (by rw [HLB.out]; omega)
        have hx256 := HBA.out.get hx
        have hy256 := HBB.out.get hy
        have hst := hown.stored k (.int .u8 ((x ^^^ y : Nat) : Int))
        rw [part_set (by rw [zx_len (by rw [HLA.out]; omega) (by rw [HLB.out]; omega)]) hlt, ← zx_snoc hx hy, ← u8_xor_cast x y hx256 hy256] at hst
        have HST := Lib.hid hst
        have hc0 := hown.cellAt k (by omega)
        have hf0 := hown.frozenAt k
        rw [bvs_get (x := (part (zx la lb k) n k)[k]'(by rw [part_len (by rw [zx_len (by rw [HLA.out]; omega) (by rw [HLB.out]; omega)]) hk]; exact hlt)) _ _ (List.getElem?_eq_getElem _)] at hc0
        have HZK := Lib.hid (own_other (a := ⟨w1.heap.size + 1, k, none⟩) (u := .int .u8 (bits .xor .u8 (x : Int) (y : Int))) hzer (by simp))
        clear hst hx hy
        have i1 : (0 : Int) ≤ k := by omega
        have i2 : (k : Int) < n := by omega
        have i3 : (k : Int) < na := by omega
        go_wp2_with fail
        go_region
        go_wp2_with fail
        go_roundw
        case rel => exact ⟨k + 1, by omega, by go_num, HST.out.1, HZK.out, (hbel.setCell (by show w.heap.size ≤ w1.heap.size + 1; omega) _).drew⟩
        case measure => simp [intOf]; omega
      · have he : k = n := by omega
        subst he
        rw [part_full] at hown
        rw [part_zeros] at hzer
        have hrb := Rd.own hown
        have hrz := Rd.own hzer
        have HTA := Lib.hid (show (la.take k).length = k by rw [List.length_take, HLA.out]; omega)
        have HTB := Lib.hid (show (lb.take k).length = k by rw [List.length_take, HLB.out]; omega)
        have HZL := Lib.hid (zx_len (la := la) (lb := lb) (n := k) (by rw [HLA.out]; omega) (by rw [HLB.out]; omega))
        have HZB := Lib.hid (zx_by (n := k) HBA.out HBB.out)
        have HZZ := Lib.hid (zeros_by k)
        have HZR := Lib.hid (List.length_replicate (n := k) (a := (0 : Nat)))
        have E := sums2 wide (la.take k) (lb.take k) k HTA.out HTB.out
        have l1 := topL wide (sumW_lt (wide := wide) (HBA.out.take k))
        have l2 := topL wide (sumW_lt (wide := wide) (HBB.out.take k))
        have l3 := topL wide (sumW_lt (wide := wide) HZB.out)
        obtain ⟨xa, hxa⟩ : ∃ x, Hid (sumW wide (la.take k) = x) := ⟨_, Lib.hid rfl⟩
        obtain ⟨xb, hxb⟩ : ∃ x, Hid (sumW wide (lb.take k) = x) := ⟨_, Lib.hid rfl⟩
        obtain ⟨xc, hxc⟩ : ∃ x, Hid (sumW wide (zx la lb k) = x) := ⟨_, Lib.hid rfl⟩
        obtain ⟨xz, hxz⟩ : ∃ x, Hid (sumW wide (List.replicate k 0) = x) := ⟨_, Lib.hid rfl⟩
        have E' : sumW wide (la.take k) ^^^ sumW wide (lb.take k) ^^^ sumW wide (zx la lb k) = sumW wide (List.replicate k 0) := E
        rw [hxa.out, hxb.out, hxc.out, hxz.out] at E'
        rw [hxa.out] at l1
        rw [hxb.out] at l2
        rw [hxc.out] at l3
        have HE := Lib.hid (show (bits .xor .u32 (bits .xor .u32 (xa : Int) (xb : Int)) (xc : Int) == (xz : Int)) = true by
          rw [xor_u32 xa xb l1 l2, xor_u32 _ xc (Nat.xor_lt_two_pow (n := 32) l1 l2) l3, E']; simp)
        have hkb : k ≤ 400 := by omega
        have k0 : (0 : Int) ≤ k := by omega
        have k1 : (k : Int) ≤ ca := by omega
        have k2 : (k : Int) ≤ cb := by omega
        clear E E' l1 l2 l3 hlt hk hown hzer hn hn2 hmn
        go_wp2_with fail
        go_quiet (first
          | (go_at_call 10; (with_reducible exact Calls.quiet_of_same (sum_v wide xa (la.take k) hxa.out k A ca _ (part_take HRA.out (below_drewN hbel _) k) (HBA.out.take k) HTA.out (by omega) (hT.below (below_drewN hbel _)))))
          | (go_at_call 10; (with_reducible exact Calls.quiet_of_same (sum_v wide xb (lb.take k) hxb.out k B cb _ (part_take HRB.out (below_drewN hbel _) k) (HBB.out.take k) HTB.out (by omega) (hT.below (below_drewN hbel _)))))
          | (go_at_call 10; (with_reducible exact Calls.quiet_of_same (sum_v wide xc (zx la lb k) hxc.out k _ k _ (hrb.drewN _) HZB.out HZL.out (by omega) (hT.below (below_drewN hbel _)))))
          | (go_at_call 10; (with_reducible exact Calls.quiet_of_same (sum_v wide xz (List.replicate k 0) hxz.out k _ k _ (hrz.drewN _) HZZ.out HZR.out (by omega) (hT.below (below_drewN hbel _))))))
        go_wp2_with fail
        go_ret
        exact ⟨congrArg (fun b => Ending.returned (Value.bool b)) HE.out, below_drewN hbel _⟩
  · have hrows := two_rows hB1 (show n ≤ 1099511627776 by omega)
    dsimp only at hrows
    have hsz := hB1.size
    generalize ((w1.alloc (.cells (bvs (part [] n 0)).toArray 5)).alloc (.cells (bvs (part [] n 0)).toArray 5)).drew = w2 at hrows ⊢
    obtain ⟨hr1, hr2, hB2⟩ := hrows
    clear hmk hB1
    go_wp2_with fail
    go_loopw [34] (fun i wr => ∃ k : Nat, k ≤ n ∧ i = .int .i64 k ∧ wr.ownsRow w.heap.size 5 1 (.slice (some ⟨w1.heap.size, 0, none⟩) n n) n (bvs (part (zx la lb k) n k)) ∧ wr.ownsRow w.heap.size 5 1 (.slice (some ⟨w1.heap.size + 1, 0, none⟩) n n) n (bvs (part [] n 0)) ∧ Below w.heap.size w wr) (fun i _ => n - (intOf i).toNat)
    case atStart => exact ⟨0, Nat.zero_le _, rfl, hr1, hr2, hB2⟩
    case round =>
      obtain ⟨k, hk, rfl, hown, hzer, hbel⟩ := hrel
      clear hr1 hr2 hB2
      by_cases hlt : k < n
      · obtain ⟨ba, oa, x, rfl, hba, hx, hcx⟩ := (HRA.out.below hbel).at_ (k := k) (by rw [HLA.out]; omega)
        obtain ⟨b2, ob, y, rfl, hb2, hy, hcy⟩ := (HRB.out.below hbel).at_ (k := k) (by rw [HLB.out]; omega)
        have hx256 := HBA.out.get hx
        have hy256 := HBB.out.get hy
        have hst := hown.stored k (.int .u8 ((x ^^^ y : Nat) : Int))
        rw [part_set (by rw [zx_len (by rw [HLA.out]; omega) (by rw [HLB.out]; omega)]) hlt, ← zx_snoc hx hy, ← u8_xor_cast x y hx256 hy256] at hst
        have HST := Lib.hid hst
        have hc0 := hown.cellAt k (by omega)
        have hf0 := hown.frozenAt k
        rw [bvs_get (x := (part (zx la lb k) n k)[k]'(by rw [part_len (by rw [zx_len (by rw [HLA.out]; omega) (by rw [HLB.out]; omega)]) hk]; exact hlt)) _ _ (List.getElem?_eq_getElem _)] at hc0
        have HZK := Lib.hid (own_other (a := ⟨w1.heap.size, k, none⟩) (u := .int .u8 (bits .xor .u8 (x : Int) (y : Int))) hzer (by simp))
        clear hst hx hy
        have i1 : (0 : Int) ≤ k := by omega
        have i2 : (k : Int) < n := by omega
        have i3 : (k : Int) < na := by omega
        go_wp2_with fail
        go_region
        go_wp2_with fail
        go_roundw
        case rel => exact ⟨k + 1, by omega, by go_num, HST.out.1, HZK.out, (hbel.setCell (by show w.heap.size ≤ w1.heap.size; omega) _).drew⟩
        case measure => simp [intOf]; omega
      · have he : k = n := by omega
        subst he
        rw [part_full] at hown
        rw [part_zeros] at hzer
        have hrb := Rd.own hown
        have hrz := Rd.own hzer
        have HTA := Lib.hid (show (la.take k).length = k by rw [List.length_take, HLA.out]; omega)
        have HTB := Lib.hid (show (lb.take k).length = k by rw [List.length_take, HLB.out]; omega)
        have HZL := Lib.hid (zx_len (la := la) (lb := lb) (n := k) (by rw [HLA.out]; omega) (by rw [HLB.out]; omega))
        have HZB := Lib.hid (zx_by (n := k) HBA.out HBB.out)
        have HZZ := Lib.hid (zeros_by k)
        have HZR := Lib.hid (List.length_replicate (n := k) (a := (0 : Nat)))
        have E := sums2 wide (la.take k) (lb.take k) k HTA.out HTB.out
        have l1 := topL wide (sumW_lt (wide := wide) (HBA.out.take k))
        have l2 := topL wide (sumW_lt (wide := wide) (HBB.out.take k))
        have l3 := topL wide (sumW_lt (wide := wide) HZB.out)
        obtain ⟨xa, hxa⟩ : ∃ x, Hid (sumW wide (la.take k) = x) := ⟨_, Lib.hid rfl⟩
        obtain ⟨xb, hxb⟩ : ∃ x, Hid (sumW wide (lb.take k) = x) := ⟨_, Lib.hid rfl⟩
        obtain ⟨xc, hxc⟩ : ∃ x, Hid (sumW wide (zx la lb k) = x) := ⟨_, Lib.hid rfl⟩
        obtain ⟨xz, hxz⟩ : ∃ x, Hid (sumW wide (List.replicate k 0) = x) := ⟨_, Lib.hid rfl⟩
        have E' : sumW wide (la.take k) ^^^ sumW wide (lb.take k) ^^^ sumW wide (zx la lb k) = sumW wide (List.replicate k 0) := E
        rw [hxa.out, hxb.out, hxc.out, hxz.out] at E'
        rw [hxa.out] at l1
        rw [hxb.out] at l2
        rw [hxc.out] at l3
        have HE := Lib.hid (show (bits .xor .u32 (bits .xor .u32 (xa : Int) (xb : Int)) (xc : Int) == (xz : Int)) = true by
          rw [xor_u32 xa xb l1 l2, xor_u32 _ xc (Nat.xor_lt_two_pow (n := 32) l1 l2) l3, E']; simp)
        have hkb : k ≤ 400 := by omega
        have k0 : (0 : Int) ≤ k := by omega
        have k1 : (k : Int) ≤ ca := by omega
        have k2 : (k : Int) ≤ cb := by omega
        clear E E' l1 l2 l3 hlt hk hown hzer hn hn2 hmn
        go_wp2_with fail
        go_quiet (first
          | (go_at_call 10; (with_reducible exact Calls.quiet_of_same (sum_v wide xa (la.take k) hxa.out k A ca _ (part_take HRA.out (below_drewN hbel _) k) (HBA.out.take k) HTA.out (by omega) (hT.below (below_drewN hbel _)))))
          | (go_at_call 10; (with_reducible exact Calls.quiet_of_same (sum_v wide xb (lb.take k) hxb.out k B cb _ (part_take HRB.out (below_drewN hbel _) k) (HBB.out.take k) HTB.out (by omega) (hT.below (below_drewN hbel _)))))
          | (go_at_call 10; (with_reducible exact Calls.quiet_of_same (sum_v wide xc (zx la lb k) hxc.out k _ k _ (hrb.drewN _) HZB.out HZL.out (by omega) (hT.below (below_drewN hbel _)))))
          | (go_at_call 10; (with_reducible exact Calls.quiet_of_same (sum_v wide xz (List.replicate k 0) hxz.out k _ k _ (hrz.drewN _) HZZ.out HZR.out (by omega) (hT.below (below_drewN hbel _))))))
        go_wp2_with fail
        go_ret
        exact ⟨congrArg (fun b => Ending.returned (Value.bool b)) HE.out, below_drewN hbel _⟩
  · have hrows := two_rows hB1 (show n ≤ 1099511627776 by omega)
    dsimp only at hrows
    have hsz := hB1.size
    generalize ((w1.alloc (.cells (bvs (part [] n 0)).toArray 5)).alloc (.cells (bvs (part [] n 0)).toArray 5)).drew = w2 at hrows ⊢
    obtain ⟨hr1, hr2, hB2⟩ := hrows
    clear hmk hB1
    go_wp2_with fail
    go_loopw [34] (fun i wr => ∃ k : Nat, k ≤ n ∧ i = .int .i64 k ∧ wr.ownsRow w.heap.size 5 1 (.slice (some ⟨w1.heap.size + 1, 0, none⟩) n n) n (bvs (part (zx la lb k) n k)) ∧ wr.ownsRow w.heap.size 5 1 (.slice (some ⟨w1.heap.size, 0, none⟩) n n) n (bvs (part [] n 0)) ∧ Below w.heap.size w wr) (fun i _ => n - (intOf i).toNat)
    case atStart => exact ⟨0, Nat.zero_le _, rfl, hr2, hr1, hB2⟩
    case round =>
      obtain ⟨k, hk, rfl, hown, hzer, hbel⟩ := hrel
      clear hr1 hr2 hB2
      by_cases hlt : k < n
      · obtain ⟨ba, oa, x, rfl, hba, hx, hcx⟩ := (HRA.out.below hbel).at_ (k := k) (by rw [HLA.out]; omega)
        obtain ⟨b2, ob, y, rfl, hb2, hy, hcy⟩ := (HRB.out.below hbel).at_ (k := k) (by rw [HLB.out]; omega)
        have hx256 := HBA.out.get hx
        have hy256 := HBB.out.get hy
        have hst := hown.stored k (.int .u8 ((x ^^^ y : Nat) : Int))
        rw [part_set (by rw [zx_len (by rw [HLA.out]; omega) (by rw [HLB.out]; omega)]) hlt, ← zx_snoc hx hy, ← u8_xor_cast x y hx256 hy256] at hst
        have HST := Lib.hid hst
        have hc0 := hown.cellAt k (by omega)
        have hf0 := hown.frozenAt k
        rw [bvs_get (x := (part (zx la lb k) n k)[k]'(by rw [part_len (by rw [zx_len (by rw [HLA.out]; omega) (by rw [HLB.out]; omega)]) hk]; exact hlt)) _ _ (List.getElem?_eq_getElem _)] at hc0
        have HZK := Lib.hid (own_other (a := ⟨w1.heap.size + 1, k, none⟩) (u := .int .u8 (bits .xor .u8 (x : Int) (y : Int))) hzer (by simp))
        clear hst hx hy
        have i1 : (0 : Int) ≤ k := by omega
        have i2 : (k : Int) < n := by omega
        have i3 : (k : Int) < nb := by omega
        go_wp2_with fail
        go_region
        go_wp2_with fail
        go_roundw
        case rel => exact ⟨k + 1, by omega, by go_num, HST.out.1, HZK.out, (hbel.setCell (by show w.heap.size ≤ w1.heap.size + 1; omega) _).drew⟩
        case measure => simp [intOf]; omega
      · have he : k = n := by omega
        subst he
        rw [part_full] at hown
        rw [part_zeros] at hzer
        have hrb := Rd.own hown
        have hrz := Rd.own hzer
        have HTA := Lib.hid (show (la.take k).length = k by rw [List.length_take, HLA.out]; omega)
        have HTB := Lib.hid (show (lb.take k).length = k by rw [List.length_take, HLB.out]; omega)
        have HZL := Lib.hid (zx_len (la := la) (lb := lb) (n := k) (by rw [HLA.out]; omega) (by rw [HLB.out]; omega))
        have HZB := Lib.hid (zx_by (n := k) HBA.out HBB.out)
        have HZZ := Lib.hid (zeros_by k)
        have HZR := Lib.hid (List.length_replicate (n := k) (a := (0 : Nat)))
        have E := sums2 wide (la.take k) (lb.take k) k HTA.out HTB.out
        have l1 := topL wide (sumW_lt (wide := wide) (HBA.out.take k))
        have l2 := topL wide (sumW_lt (wide := wide) (HBB.out.take k))
        have l3 := topL wide (sumW_lt (wide := wide) HZB.out)
        obtain ⟨xa, hxa⟩ : ∃ x, Hid (sumW wide (la.take k) = x) := ⟨_, Lib.hid rfl⟩
        obtain ⟨xb, hxb⟩ : ∃ x, Hid (sumW wide (lb.take k) = x) := ⟨_, Lib.hid rfl⟩
        obtain ⟨xc, hxc⟩ : ∃ x, Hid (sumW wide (zx la lb k) = x) := ⟨_, Lib.hid rfl⟩
        obtain ⟨xz, hxz⟩ : ∃ x, Hid (sumW wide (List.replicate k 0) = x) := ⟨_, Lib.hid rfl⟩
        have E' : sumW wide (la.take k) ^^^ sumW wide (lb.take k) ^^^ sumW wide (zx la lb k) = sumW wide (List.replicate k 0) := E
        rw [hxa.out, hxb.out, hxc.out, hxz.out] at E'
        rw [hxa.out] at l1
        rw [hxb.out] at l2
        rw [hxc.out] at l3
        have HE := Lib.hid (show (bits .xor .u32 (bits .xor .u32 (xa : Int) (xb : Int)) (xc : Int) == (xz : Int)) = true by
          rw [xor_u32 xa xb l1 l2, xor_u32 _ xc (Nat.xor_lt_two_pow (n := 32) l1 l2) l3, E']; simp)
        have hkb : k ≤ 400 := by omega
        have k0 : (0 : Int) ≤ k := by omega
        have k1 : (k : Int) ≤ ca := by omega
        have k2 : (k : Int) ≤ cb := by omega
        clear E E' l1 l2 l3 hlt hk hown hzer hn hn2 hmn
        go_wp2_with fail
        go_quiet (first
          | (go_at_call 10; (with_reducible exact Calls.quiet_of_same (sum_v wide xa (la.take k) hxa.out k A ca _ (part_take HRA.out (below_drewN hbel _) k) (HBA.out.take k) HTA.out (by omega) (hT.below (below_drewN hbel _)))))
          | (go_at_call 10; (with_reducible exact Calls.quiet_of_same (sum_v wide xb (lb.take k) hxb.out k B cb _ (part_take HRB.out (below_drewN hbel _) k) (HBB.out.take k) HTB.out (by omega) (hT.below (below_drewN hbel _)))))
          | (go_at_call 10; (with_reducible exact Calls.quiet_of_same (sum_v wide xc (zx la lb k) hxc.out k _ k _ (hrb.drewN _) HZB.out HZL.out (by omega) (hT.below (below_drewN hbel _)))))
          | (go_at_call 10; (with_reducible exact Calls.quiet_of_same (sum_v wide xz (List.replicate k 0) hxz.out k _ k _ (hrz.drewN _) HZZ.out HZR.out (by omega) (hT.below (below_drewN hbel _))))))
        go_wp2_with fail
        go_ret
        exact ⟨congrArg (fun b => Ending.returned (Value.bool b)) HE.out, below_drewN hbel _⟩
  · have hrows := two_rows hB1 (show n ≤ 1099511627776 by omega)
    dsimp only at hrows
    have hsz := hB1.size
    generalize ((w1.alloc (.cells (bvs (part [] n 0)).toArray 5)).alloc (.cells (bvs (part [] n 0)).toArray 5)).drew = w2 at hrows ⊢
    obtain ⟨hr1, hr2, hB2⟩ := hrows
    clear hmk hB1
    go_wp2_with fail
    go_loopw [34] (fun i wr => ∃ k : Nat, k ≤ n ∧ i = .int .i64 k ∧ wr.ownsRow w.heap.size 5 1 (.slice (some ⟨w1.heap.size, 0, none⟩) n n) n (bvs (part (zx la lb k) n k)) ∧ wr.ownsRow w.heap.size 5 1 (.slice (some ⟨w1.heap.size + 1, 0, none⟩) n n) n (bvs (part [] n 0)) ∧ Below w.heap.size w wr) (fun i _ => n - (intOf i).toNat)
    case atStart => exact ⟨0, Nat.zero_le _, rfl, hr1, hr2, hB2⟩
    case round =>
      obtain ⟨k, hk, rfl, hown, hzer, hbel⟩ := hrel
      clear hr1 hr2 hB2
      by_cases hlt : k < n
      · obtain ⟨ba, oa, x, rfl, hba, hx, hcx⟩ := (HRA.out.below hbel).at_ (k := k) (by rw [HLA.out]; omega)
        obtain ⟨b2, ob, y, rfl, hb2, hy, hcy⟩ := (HRB.out.below hbel).at_ (k := k) (by rw [HLB.out]; omega)
        have hx256 := HBA.out.get hx
        have hy256 := HBB.out.get hy
        have hst := hown.stored k (.int .u8 ((x ^^^ y : Nat) : Int))
        rw [part_set (by rw [zx_len (by rw [HLA.out]; omega) (by rw [HLB.out]; omega)]) hlt, ← zx_snoc hx hy, ← u8_xor_cast x y hx256 hy256] at hst
        have HST := Lib.hid hst
        have hc0 := hown.cellAt k (by omega)
        have hf0 := hown.frozenAt k
        rw [bvs_get (x := (part (zx la lb k) n k)[k]'(by rw [part_len (by rw [zx_len (by rw [HLA.out]; omega) (by rw [HLB.out]; omega)]) hk]; exact hlt)) _ _ (List.getElem?_eq_getElem _)] at hc0
        have HZK := Lib.hid (own_other (a := ⟨w1.heap.size, k, none⟩) (u := .int .u8 (bits .xor .u8 (x : Int) (y : Int))) hzer (by simp))
        clear hst hx hy
        have i1 : (0 : Int) ≤ k := by omega
        have i2 : (k : Int) < n := by omega
        have i3 : (k : Int) < nb := by omega
        go_wp2_with fail
        go_region
        go_wp2_with fail
        go_roundw
        case rel => exact ⟨k + 1, by omega, by go_num, HST.out.1, HZK.out, (hbel.setCell (by show w.heap.size ≤ w1.heap.size; omega) _).drew⟩
        case measure => simp [intOf]; omega
      · have he : k = n := by omega
        subst he
        rw [part_full] at hown
        rw [part_zeros] at hzer
        have hrb := Rd.own hown
        have hrz := Rd.own hzer
        have HTA := Lib.hid (show (la.take k).length = k by rw [List.length_take, HLA.out]; omega)
        have HTB := Lib.hid (show (lb.take k).length = k by rw [List.length_take, HLB.out]; omega)
        have HZL := Lib.hid (zx_len (la := la) (lb := lb) (n := k) (by rw [HLA.out]; omega) (by rw [HLB.out]; omega))
        have HZB := Lib.hid (zx_by (n := k) HBA.out HBB.out)
        have HZZ := Lib.hid (zeros_by k)
        have HZR := Lib.hid (List.length_replicate (n := k) (a := (0 : Nat)))
        have E := sums2 wide (la.take k) (lb.take k) k HTA.out HTB.out
        have l1 := topL wide (sumW_lt (wide := wide) (HBA.out.take k))
        have l2 := topL wide (sumW_lt (wide := wide) (HBB.out.take k))
        have l3 := topL wide (sumW_lt (wide := wide) HZB.out)
        obtain ⟨xa, hxa⟩ : ∃ x, Hid (sumW wide (la.take k) = x) := ⟨_, Lib.hid rfl⟩
        obtain ⟨xb, hxb⟩ : ∃ x, Hid (sumW wide (lb.take k) = x) := ⟨_, Lib.hid rfl⟩
        obtain ⟨xc, hxc⟩ : ∃ x, Hid (sumW wide (zx la lb k) = x) := ⟨_, Lib.hid rfl⟩
        obtain ⟨xz, hxz⟩ : ∃ x, Hid (sumW wide (List.replicate k 0) = x) := ⟨_, Lib.hid rfl⟩
        have E' : sumW wide (la.take k) ^^^ sumW wide (lb.take k) ^^^ sumW wide (zx la lb k) = sumW wide (List.replicate k 0) := E
        rw [hxa.out, hxb.out, hxc.out, hxz.out] at E'
        rw [hxa.out] at l1
        rw [hxb.out] at l2
        rw [hxc.out] at l3
        have HE := Lib.hid (show (bits .xor .u32 (bits .xor .u32 (xa : Int) (xb : Int)) (xc : Int) == (xz : Int)) = true by
          rw [xor_u32 xa xb l1 l2, xor_u32 _ xc (Nat.xor_lt_two_pow (n := 32) l1 l2) l3, E']; simp)
        have hkb : k ≤ 400 := by omega
        have k0 : (0 : Int) ≤ k := by omega
        have k1 : (k : Int) ≤ ca := by omega
        have k2 : (k : Int) ≤ cb := by omega
        clear E E' l1 l2 l3 hlt hk hown hzer hn hn2 hmn
        go_wp2_with fail
        go_quiet (first
          | (go_at_call 10; (with_reducible exact Calls.quiet_of_same (sum_v wide xa (la.take k) hxa.out k A ca _ (part_take HRA.out (below_drewN hbel _) k) (HBA.out.take k) HTA.out (by omega) (hT.below (below_drewN hbel _)))))
          | (go_at_call 10; (with_reducible exact Calls.quiet_of_same (sum_v wide xb (lb.take k) hxb.out k B cb _ (part_take HRB.out (below_drewN hbel _) k) (HBB.out.take k) HTB.out (by omega) (hT.below (below_drewN hbel _)))))
          | (go_at_call 10; (with_reducible exact Calls.quiet_of_same (sum_v wide xc (zx la lb k) hxc.out k _ k _ (hrb.drewN _) HZB.out HZL.out (by omega) (hT.below (below_drewN hbel _)))))
          | (go_at_call 10; (with_reducible exact Calls.quiet_of_same (sum_v wide xz (List.replicate k 0) hxz.out k _ k _ (hrz.drewN _) HZZ.out HZR.out (by omega) (hT.below (below_drewN hbel _))))))
        go_wp2_with fail
        go_ret
        exact ⟨congrArg (fun b => Ending.returned (Value.bool b)) HE.out, below_drewN hbel _⟩

set_option maxHeartbeats 1000000 in
theorem sums2_long (wide : Bool) (A B : Option Addr) (na ca nb cb : Nat) (w : World) (h : 400 < na ∨ 400 < nb) (hT : Tabs w) :
    Calls Tryd.prog 7 #[.slice A na ca, .slice B nb cb, .bool wide] w fun e w' => e = .returned (.bool true) ∧ Below w.heap.size w w' := by
  by_cases h1 : 400 < na
  · have n1 : (400 : Int) < (na : Int) := by omega
    clear h
    go_enter Tryd.func7, Tryd.ntmps7
    go_wp2_with fail
    refine (speaks_any _ hT).mono ?_
    rintro e w1 ⟨rfl, hB1⟩
    go_wp2_with fail
    refine (speaks_any _ (hT.below hB1)).mono ?_
    rintro e w2 ⟨rfl, hb2⟩
    go_wp2_with fail
    go_ret
    exact ⟨rfl, hB1.trans (hb2.mono hB1.size)⟩
  · have n1 : ¬ (400 : Int) < (na : Int) := by omega
    have n2 : (400 : Int) < (nb : Int) := by omega
    clear h
    go_enter Tryd.func7, Tryd.ntmps7
    go_wp2_with fail
    refine (speaks_any _ hT).mono ?_
    rintro e w1 ⟨rfl, hB1⟩
    go_wp2_with fail
    refine (speaks_any _ (hT.below hB1)).mono ?_
    rintro e w2 ⟨rfl, hb2⟩
    go_wp2_with fail
    go_ret
    exact ⟨rfl, hB1.trans (hb2.mono hB1.size)⟩

end Go.Proofs.YtinajpmhpbjaiaaDoor
