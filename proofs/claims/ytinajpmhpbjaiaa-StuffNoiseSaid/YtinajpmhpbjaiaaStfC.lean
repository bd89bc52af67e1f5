
/-
  What Unstuff answers, and what it calls of the library: bytes.IndexByte, bytes.Clone, slices.DeleteFunc with a closure. No condition beyond: maps below 2^32, bytes below 256, lists of at most 2^38 elements.
-/
import Derived.Test.YtinajpmhpbjaiaaStfB
import Derived.Test.YtinajpmhpbjaiaaBEq
import Derived.Test.YtinajpmhpbjaiaaAppn
import Derived.Lib.IndexLaws
import Derived.Lib.BytesEntry
import Derived.Lib.SliceRun
import Derived.Laws.Externs
namespace Go.Proofs.Ytinajpmhpbjaiaa
open Go.RowKit

theorem bytes_get (l : List Nat) (k : Nat) : (Lib.bytesOf (nums l))[k]? = l[k]?.map fun x => UInt8.ofNat x := by
  simp only [Lib.bytesOf, nums, List.map_map, List.getElem?_map]
  rfl
theorem byte_126 {x : Nat} (h : x < 256) (e : UInt8.ofNat x = 126) : x = 126 := by
  have := congrArg UInt8.toNat e
  simp at this
  omega
/-- What the search for a flag gives. -/
def idxF (l : List Nat) : Int := Lib.indexByte (Lib.bytesOf (nums l)) 126
theorem idx_yes {l : List Nat} (h : flagIn l = true) : 0 ≤ idxF l := by
  have hm : 126 ∈ l := by unfold flagIn at h; simpa using h
  obtain ⟨k, hk⟩ := List.getElem?_of_mem hm
  have h1 := Lib.indexByte_ge (Lib.bytesOf (nums l)) 126
  unfold idxF
  by_cases h2 : Lib.indexByte (Lib.bytesOf (nums l)) 126 < 0
  · have h3 : Lib.indexByte (Lib.bytesOf (nums l)) 126 = -1 := by omega
    have := Lib.indexByte_none h3 k
    rw [bytes_get, hk] at this
    exact absurd rfl this
  · omega
theorem idx_no {l : List Nat} (hb : By l) (h : flagIn l = false) : idxF l = -1 := by
  have hm : 126 ∉ l := by unfold flagIn at h; simpa using h
  have h1 := Lib.indexByte_ge (Lib.bytesOf (nums l)) 126
  unfold idxF
  by_cases h2 : Lib.indexByte (Lib.bytesOf (nums l)) 126 < 0
  · omega
  · obtain ⟨o, ho⟩ : ∃ o : Nat, Lib.indexByte (Lib.bytesOf (nums l)) 126 = (o : Int) := ⟨(Lib.indexByte (Lib.bytesOf (nums l)) 126).toNat, by omega⟩
    have h3 := (Lib.indexByte_some ho).1
    rw [bytes_get] at h3
    obtain ⟨x, hx, e⟩ := Option.map_eq_some_iff.1 h3
    have := byte_126 (hb.get hx) e
    subst this
    exact absurd (List.mem_of_getElem? hx) hm

theorem run_idx {w : World} {B : Nat} {A : Option Addr} {l : List Nat} (h : Rd w B A l) (n c : Nat) (hl : l.length = n) : (Extern.BytealgIndexByte.indexByte #[.slice A n c, .int .u8 126]).run Try.prog w = .ok (.int .i64 (idxF l)) w := by
  rcases Nat.eq_zero_or_pos n with hn | hn
  · subst hn
    obtain rfl : l = [] := List.eq_nil_of_length_eq_zero hl
    cases A <;> rfl
  · obtain ⟨b, off, rfl, _, hc⟩ := h (by omega)
    exact Lib.run_indexByteSlice w b off n c (nums l) (by simp [nums, hl]) (fun i hi => by
      rw [hc i _ (List.getElem?_eq_getElem (by omega))]
      simp [nums, List.getD, List.getElem?_eq_getElem (show i < l.length by omega)]) 126

set_option maxHeartbeats 400000 in
theorem index_any (l : List Nat) (n : Nat) (A : Option Addr) (c : Nat) (w : World) (B : Nat) (h : Rd w B A l) (hl : l.length = n) :
    Calls Try.prog 17 #[.slice A n c, .int .u8 126] w fun e w' => e = .returned (.int .i64 (idxF l)) ∧ w = w' := by
  have H := run_idx h n c hl
  go_enter Try.func17, Try.ntmps17
  go_wp2
  rw [run_callFunc_extern Try.func26 (by kernel_rfl) (by kernel_rfl) (by kernel_rfl) (e := Extern.BytealgIndexByte.indexByte) (by kernel_rfl), H]
  simp only [Result.andThen]
  rw [Oper.upon_value]
  go_wp2
  go_ret
  exact ⟨rfl, rfl⟩

set_option maxHeartbeats 400000 in
/-- bytes.Clone: a copy of the call's own; of nil: nil. -/
theorem clone_any (l : List Nat) (n : Nat) (A : Option Addr) (c : Nat) (w : World) (h : Rd w w.heap.size A l) (hl : l.length = n) (hn : n ≤ 274877906944) :
    Calls Try.prog 28 #[.slice A n c] w fun e w' => ∃ A' c', e = .returned (.slice A' n c') ∧ New w w' A' c' n l := by
  obtain ⟨i0, hi, hz0, hz1, hz2⟩ := info_parts byte_info
  have q22 : ∀ (w : World) (a : Option Addr) (n c n' c' : Nat), (binOp .eql 23 (.slice a n c) (.slice none n' c')).run Try.prog w = .ok (.bool a.isNone) w := fun w a n c n' c' => Lib.run_eql_slice_nil w _ _ a n c n' c' Try.underlying23
  rcases A with _ | a
  · have hnil : n = 0 := by
      rcases Nat.eq_zero_or_pos n with h0 | h0
      · exact h0
      · obtain ⟨_, _, h, _⟩ := h (by omega)
        cases h
    subst hnil
    obtain rfl : l = [] := List.eq_nil_of_length_eq_zero hl
    go_enter Try.func28, Try.ntmps28
    go_wp2
    go_ret
    exact ⟨none, 0, rfl, rfl, ⟨rfl, .inl ⟨rfl, rfl⟩⟩, Rd.nil, Below.refl _ _⟩
  · have HR := Lib.hid h
    have HL := Lib.hid hl
    clear h hl
    go_enter Try.func28, Try.ntmps28
    have hown1 : (w.alloc (.cells #[] 5)).ownsRow w.heap.size 5 1 (.slice (some ⟨w.heap.size, 0, none⟩) 0 0) 0 (bvs []) := World.ownsRow_lit w #[] 0 (Nat.le_refl _) (by unfold maxLen; omega) rfl
    go_wp2_with (at_builtin; refine list_app rfl _ _ 23 rfl 5 i0 Try.underlying23 hi hz0 hz1 hz2 w.heap.size _ 0 [] rfl hown1 w.heap.size (some a) n c l rfl (HR.out.alloc (Nat.le_refl _) _) HL.out (by omega) (by simp) ?_; intro A' c' w3 hown3 hgrow3)
    go_ret
    have hb1 : Below w.heap.size w (w.alloc (.cells #[] 5)) := (Below.refl _ _).alloc (Nat.le_refl _) _
    have hb3 : Below w.heap.size w w3 := hb1.grown hgrow3 (by simp) (fun k hk => (hown1.lt k hk).1)
    rw [Nat.zero_add] at hown3
    obtain ⟨A2, c2, e, hN⟩ := New.mk hown3 hb3
    injection e with e1 e2 e3
    subst e1; subst e3
    exact ⟨_, _, rfl, hN⟩

/-- The closure that a map's octets are picked by. -/
def Pick (m : Nat) (g : Nat) (w : World) : Prop := w.cell? ⟨g, 0, none⟩ = some (.int .u32 (m : Int))
theorem Pick.below {m g : Nat} {w w' : World} {B : Nat} (h : Pick m g w) (hB : g < B) (hb : Below B w w') : Pick m g w' := (hb.cell (p := ⟨g, 0, none⟩) hB).trans h

set_option maxHeartbeats 400000 in
theorem pick_any (m : Nat) (hm : m < 4294967296) (x : Nat) (hx : x < 256) (g : Nat) (w : World) (h : Pick m g w) :
    Calls Try.prog 20 #[.int .u8 (x : Int), .pointer (some ⟨g, 0, none⟩)] w fun e w' => e = .returned (.bool (hasB m x)) ∧ w = w' := by
  unfold Pick at h
  go_enter Try.func20, Try.ntmps20
  go_wp2_with (go_at_call 15; refine (has_any m x hm hx _).mono ?_; rintro e w' ⟨rfl, rfl⟩)
  go_ret
  exact ⟨rfl, rfl⟩

/-- The function value that Unstuff makes. -/
abbrev fvP (g : Nat) : Value := .func (.func 20) #[] #[.pointer (some ⟨g, 0, none⟩)]
/-- What the search ahead tells. -/
def First (m : Nat) (l : List Nat) (n : Nat) (w : World) (e : Ending) (w' : World) : Prop :=
  w = w' ∧ ((leftB m l = l ∧ e = .returned (.int .i64 (-1))) ∨ ∃ k x : Nat, k < n ∧ e = .returned (.int .i64 k) ∧ leftB m (l.take k) = l.take k ∧ l[k]? = some x ∧ hasB m x = true)

set_option maxHeartbeats 400000 in
theorem ifn_any (m : Nat) (hm : m < 4294967296) (l : List Nat) (n : Nat) (A : Option Addr) (c g : Nat) (w : World) (B : Nat) (h : Rd w B A l) (hb : By l) (hl : l.length = n) (hn : n ≤ 274877906944) (hp : Pick m g w) :
    Calls Try.prog 30 #[.slice A n c, fvP g] w (First m l n w) := by
  have HL := Lib.hid hl
  clear hl
  go_enter Try.func30, Try.ntmps30
  go_wp2_with fail
  go_loop [8] (fun i => ∃ k : Nat, k ≤ n ∧ i = .int .i64 k ∧ Hid (leftB m (l.take k) = l.take k)) (fun i => n - (intOf i).toNat)
  case atStart => exact ⟨0, Nat.zero_le _, rfl, Lib.hid rfl⟩
  case round =>
    obtain ⟨k, hk, rfl, hf⟩ := hrel
    by_cases hlt : k < n
    · obtain ⟨b, o, x, rfl, hbb, hx, hc⟩ := h.at_ (k := k) (by rw [HL.out]; exact hlt)
      have hx256 := hb.get hx
      have HX := Lib.hid hx
      clear hx
      have i1 : (0 : Int) ≤ k := by omega
      have i2 : (k : Int) < n := by omega
      obtain ⟨t, ht⟩ : ∃ t, Hid (hasB m x = t) := ⟨_, Lib.hid rfl⟩
      cases t
      · have R := Lib.hid (show leftB m (l.take (k + 1)) = l.take (k + 1) by
          rw [leftB_take HX.out, ht.out, hf.out, List.take_add_one, HX.out]
          rfl)
        go_wp2_with (go_at_call 20; refine (pick_any m hm x hx256 g _ hp).mono ?_; rintro e w' ⟨rfl, rfl⟩; rw [ht.out])
        go_round
        case rel => exact ⟨k + 1, by omega, by go_num, R⟩
        case measure => simp [intOf]; omega
      · go_wp2_with (go_at_call 20; refine (pick_any m hm x hx256 g _ hp).mono ?_; rintro e w' ⟨rfl, rfl⟩; rw [ht.out])
        go_ret
        exact ⟨rfl, .inr ⟨k, x, hlt, rfl, hf.out, HX.out, ht.out⟩⟩
    · go_wp2
      go_ret
      have he : k = n := by omega
      rw [he, List.take_of_length_le (by rw [HL.out]; omega)] at hf
      exact ⟨rfl, .inl ⟨hf.out, rfl⟩⟩

/-- What the library's DeleteFunc leaves of an own row. -/
def Dels (m : Nat) (l : List Nat) (n base : Nat) (w : World) (e : Ending) (w' : World) : Prop :=
  ∃ A' c' k, e = .returned (.slice A' k c') ∧ k ≤ n ∧ (leftB m l).length = k ∧ Rd w' w'.heap.size A' (leftB m l) ∧ Below base w w'

theorem set_take {xs : List Nat} {i x : Nat} (h : i < xs.length) : (xs.set i x).take (i + 1) = xs.take i ++ [x] := by
  rw [List.take_add_one, List.getElem?_set_self h, List.take_set_of_le (Nat.le_refl _)]
  rfl
theorem set_drop {xs : List Nat} {i j x : Nat} (h : i < j) : (xs.set i x).drop j = xs.drop j := List.drop_set_of_lt h
theorem bvs_set (xs : List Nat) (i x : Nat) : (bvs xs).set i (.int .u8 (x : Int)) = bvs (xs.set i x) := by
  unfold bvs
  rw [List.map_set]
  rfl

theorem below_setCells {W w : World} {B q : Nat} (hq : B ≤ q) : ∀ (vs : List Value) (o : Nat), Below B W w → Below B W (w.setCells q o vs) := by
  intro vs
  induction vs generalizing w with
  | nil => intro o h; exact h
  | cons v t ih => intro o h; exact ih (o + 1) (h.setCell hq v)

set_option maxHeartbeats 1000000 in
theorem del_any (m : Nat) (hm : m < 4294967296) (l : List Nat) (n : Nat) (A : Option Addr) (c g base : Nat) (w : World) (h : w.ownsRow base 5 1 (.slice A n c) n (bvs l)) (hb : By l) (hn : n ≤ 274877906944) (hp : Pick m g w) (hg : g < base) :
    Calls Try.prog 27 #[.slice A n c, fvP g] w (Dels m l n base w) := by
  have hl : l.length = n := by have := h.1; rw [bvs_len] at this; omega
  have hr := Rd.own h
  have hcap := own_cap h
  have HI := ifn_any m hm l n A c g w _ hr hb hl hn hp
  rcases h.2 with ⟨hv, h0⟩ | ⟨q, cap, cur, hv, hbq, hgq, hnc, hmax, _⟩
  · injection hv with e1 _ e3
    subst e1; subst e3; subst h0
    obtain rfl : l = [] := List.eq_nil_of_length_eq_zero hl
    clear h hr
    go_enter Try.func27, Try.ntmps27
    go_wp2_with fail
    refine HI.mono ?_
    rintro e w' ⟨rfl, ⟨-, rfl⟩ | ⟨k, x, hk, -⟩⟩
    · go_wp2_with fail
      go_ret
      exact ⟨none, 0, 0, rfl, Nat.le_refl _, rfl, Rd.nil, Below.refl _ _⟩
    · exact absurd hk (Nat.not_lt_zero _)
  · injection hv with e1 _ e3
    subst e1; subst e3
    have HH := Lib.hid h
    have HRR := Lib.hid hr
    have HL := Lib.hid hl
    have HG := Lib.hid hgq
    clear h hr hl hgq
    go_enter Try.func27, Try.ntmps27
    go_wp2_with fail
    refine HI.mono ?_
    rintro e w' ⟨rfl, ⟨hall, rfl⟩ | ⟨k0, x0, hk0, rfl, hk1, hk2, hk3⟩⟩
    · have HA := Lib.hid hall
      clear hall
      go_wp2_with fail
      go_ret
      exact ⟨_, _, n, rfl, Nat.le_refl _, by rw [HA.out]; exact HL.out, by rw [HA.out]; exact HRR.out, Below.refl _ _⟩
    · have K1 := Lib.hid hk1
      have K2 := Lib.hid (show leftB m (l.take (k0 + 1)) = l.take k0 by rw [leftB_take hk2, hk3, hk1, if_pos rfl, List.append_nil])
      clear hk1 hk2 hk3
      have hne : ((k0 : Int) == -1) = false := by simp
      have hstart : HH.out.1 = HH.out.1 := rfl
      clear hstart
      go_wp2_with fail
      go_loopw [5, 6] (fun s5 s6 wr => ∃ i j : Nat, ∃ xs : List Nat, i < j ∧ j ≤ n ∧ s5 = .int .i64 i ∧ s6 = .int .i64 j ∧ wr.ownsRow base 5 1 (.slice (some ⟨q, 0, none⟩) n c) n (bvs xs) ∧ Hid (leftB m (l.take j) = xs.take i) ∧ Hid (xs.drop j = l.drop j) ∧ Below base w wr) (fun _ s6 _ => n - (intOf s6).toNat)
      case atStart => exact ⟨k0, k0 + 1, l, by omega, by omega, rfl, by go_num, HH.out, K2, Lib.hid rfl, Below.refl _ _⟩
      case round =>
        obtain ⟨i, j, xs, hij, hj, rfl, rfl, hown, hI1, hI2, hbel⟩ := hrel
        have hxl : xs.length = n := by have := hown.1; rw [bvs_len] at this; omega
        have HXL := Lib.hid hxl
        by_cases hlt : j < n
        · obtain ⟨x, hx⟩ : ∃ x, l[j]? = some x := ⟨_, List.getElem?_eq_getElem (by rw [HL.out]; exact hlt)⟩
          have hx256 := hb.get hx
          have hxx : xs[j]? = some x := by
            have e1 : xs[j]? = (xs.drop j)[0]? := by rw [List.getElem?_drop, Nat.add_zero]
            rw [e1, hI2.out, List.getElem?_drop, Nat.add_zero, hx]
          have hcj := hown.cellAt j (by omega)
          rw [bvs_get xs j x hxx] at hcj
          have hD := Lib.hid (show xs.drop (j + 1) = l.drop (j + 1) by rw [← List.drop_drop, ← List.drop_drop, hI2.out])
          have HX := Lib.hid hx
          have HP := hp.below hg hbel
          clear hx hxx hxl
          have i1 : (0 : Int) ≤ j := by omega
          have i2 : (j : Int) < n := by omega
          obtain ⟨t, ht⟩ : ∃ t, Hid (hasB m x = t) := ⟨_, Lib.hid rfl⟩
          cases t
          · have hst := hown.stored i (.int .u8 (x : Int))
            rw [bvs_set] at hst
            have HST := Lib.hid hst
            have hci := hown.cellAt i (by omega)
            have hfi := hown.frozenAt i
            rw [bvs_get (x := xs[i]'(by rw [HXL.out]; omega)) _ _ (List.getElem?_eq_getElem _)] at hci
            have hI3 := Lib.hid (show leftB m (l.take (j + 1)) = (xs.set i x).take (i + 1) by
              rw [leftB_take HX.out, ht.out, hI1.out, set_take (by rw [HXL.out]; omega)]
              rfl)
            have hI4 := Lib.hid (show (xs.set i x).drop (j + 1) = l.drop (j + 1) by rw [set_drop (by omega)]; exact hD.out)
            clear hst
            have i3 : (0 : Int) ≤ i := by omega
            have i4 : (i : Int) < n := by omega
            go_wp2_with (go_at_call 20; refine (pick_any m hm x hx256 g _ HP).mono ?_; rintro e w' ⟨rfl, rfl⟩; rw [ht.out])
            go_roundw
            case rel => exact ⟨i + 1, j + 1, xs.set i x, by omega, by omega, by go_num, by go_num, HST.out.1, hI3, hI4, hbel.setCell hbq _⟩
            case measure => simp [intOf]; omega
          · have hI3 := Lib.hid (show leftB m (l.take (j + 1)) = xs.take i by
              rw [leftB_take HX.out, ht.out, hI1.out]
              exact List.append_nil _)
            go_wp2_with (go_at_call 20; refine (pick_any m hm x hx256 g _ HP).mono ?_; rintro e w' ⟨rfl, rfl⟩; rw [ht.out])
            go_roundw
            case rel => exact ⟨i, j + 1, xs, by omega, by omega, rfl, by go_num, hown, hI3, hD, hbel⟩
            case measure => simp [intOf]; omega
        · have hjn : j = n := by omega
          have hin : i < n := by omega
          have hin2 : ¬ c = i := by omega
          rw [hjn, List.take_of_length_le (by rw [HL.out]; omega)] at hI1
          have hcl : ∀ ty, (Builtin.clear_ #[23] ty #[.slice (some ⟨q, i, none⟩) (n - i) (c - i)]).run Try.prog wr = .ok (.tuple #[]) (wr.setCells q i (List.replicate (n - i) (.int .u8 0))) :=
            fun ty => Lib.run_clear_slice wr _ _ ty _ Try.underlying23 Try.zeroValue5 rfl rfl q i _ _ (by omega) (fun t ht => by rw [hown.cellAt (i + t) (by omega), bvs_get (x := xs[i + t]'(by omega)) _ _ (List.getElem?_eq_getElem _)]; rfl) (fun t ht => hown.frozenAt (i + t))
          go_wp2_with fail
          go_ret
          have hk : ∀ b o : Nat, (b = q → o < i) → (wr.setCells q i (List.replicate (n - i) (.int .u8 0))).cell? ⟨b, o, none⟩ = wr.cell? ⟨b, o, none⟩ := fun b o h => World.cell?_setCells_out q _ i wr ⟨b, o, none⟩ (fun h1 _ => .inl (h h1))
          have hlen : (xs.take i).length = i := by rw [List.length_take, hxl]; omega
          refine ⟨_, c, i, rfl, by omega, by rw [hI1.out]; exact hlen, ?_, below_setCells hbq _ _ hbel⟩
          rw [hI1.out]
          intro _
          refine ⟨q, 0, rfl, ?_, fun k x hx => ?_⟩
          · have := hbel.size
            have h1 := (hown.lt q rfl).2
            have h2 := (below_setCells hbq (List.replicate (n - i) (.int .u8 0)) i (Below.refl base wr)).size
            omega
          · have hki : k < i := by
              have := (List.getElem?_eq_some_iff.1 hx).1
              omega
            rw [Nat.zero_add, hk q k (fun _ => hki), hown.cellAt k (by omega)]
            refine bvs_get _ _ _ ?_
            rw [List.getElem?_take_of_lt hki] at hx
            exact hx

set_option maxHeartbeats 400000 in
theorem without_any (m : Nat) (hm : m < 4294967296) (l : List Nat) (n : Nat) (A : Option Addr) (c g : Nat) (w : World) (h : Rd w w.heap.size A l) (hb : By l) (hl : l.length = n) (hn : n ≤ 274877906944) (hp : Pick m g w) (hg : g < w.heap.size) :
    Calls Try.prog 19 #[.slice A n c, fvP g] w (Dels m l n w.heap.size w) := by
  have HC := clone_any l n A c w h hl hn
  go_enter Try.func19, Try.ntmps19
  go_wp2_with fail
  refine HC.mono ?_
  rintro e w1 ⟨A1, c1, rfl, -, hown1, -, hb1⟩
  have hP1 := hp.below hg hb1
  go_wp2_with fail
  refine (del_any m hm l n A1 c1 g w.heap.size w1 hown1 hb hn hP1 hg).mono ?_
  rintro e w2 ⟨A2, c2, k2, rfl, hk2, hl2, hr2, hb2⟩
  have HL2 := Lib.hid hl2
  clear hl2
  go_wp2_with fail
  go_ret
  exact ⟨A2, c2, k2, rfl, hk2, HL2.out, hr2, hb1.trans hb2⟩

set_option maxHeartbeats 400000 in
theorem unst_any (m : Nat) (hm : m < 4294967296) (l : List Nat) (n : Nat) (A : Option Addr) (c : Nat) (w : World) (h : Rd w w.heap.size A l) (hb : By l) (hl : l.length = n) (hn : n ≤ 274877906944) :
    Calls Try.prog 9 #[.int .u32 (m : Int), .slice A n c] w (Unst m l n w) := by
  have hIdx := fun (w2 : World) (hr : Rd w2 w.heap.size A l) => index_any l n A c w2 _ hr hl
  have HB := leftB_by (m := m) hb
  have HL := Lib.hid hl
  have h1 : Rd (w.alloc (.cells #[.int .u32 (m : Int)] 22)) w.heap.size A l := h.alloc (Nat.le_refl _) _
  have hb1 : Below w.heap.size w (w.alloc (.cells #[.int .u32 (m : Int)] 22)) := (Below.refl _ _).alloc (Nat.le_refl _) _
  have hp1 : Pick m w.heap.size (w.alloc (.cells #[.int .u32 (m : Int)] 22)) := by
    unfold Pick
    rw [World.cell?_alloc_at _ _ _ _ rfl]
    rfl
  clear hl h
  rcases hf : flagIn l
  · have hi := idx_no hb hf
    have HF := Lib.hid hf
    clear hf
    go_enter Try.func9, Try.ntmps9
    go_wp2_with (go_at_call 17; with_reducible refine (hIdx _ h1).mono ?_; rintro e w' ⟨rfl, rfl⟩; rw [hi])
    refine (without_any m hm l n A c w.heap.size _ (h1.more (by simp)) hb HL.out hn hp1 (by simp)).mono ?_
    rintro e w2 ⟨A2, c2, k2, rfl, hk2, hl2, hr2, hb2⟩
    have HL2 := Lib.hid hl2
    have HB2 : Below w.heap.size w w2 := hb1.trans (hb2.mono (by simp))
    clear hl2 hb2
    go_wp2_with fail
    refine (read_any (leftB m l) k2 A2 c2 w2 hr2 HB HL2.out (by omega)).mono ?_
    rintro e w3 (⟨hs, rfl, hb3⟩ | ⟨hs, A3, c3, k3, rfl, hk3, hl3, -, hr3, hb3⟩)
    · have HS := Lib.hid hs
      have HB3 := HB2.trans (hb3.mono HB2.size)
      clear hs hb3
      go_wp2_with fail
      go_ret2
      refine ⟨none, 0, 0, ?_, Nat.zero_le _, ?_, ?_, HB3⟩
      · rw [unst_abort HF.out HS.out]; rfl
      · rw [unst_abort HF.out HS.out]; rfl
      · rw [unst_abort HF.out HS.out]; exact Rd.nil
    · have HS := Lib.hid hs
      have HL3 := Lib.hid hl3
      have HB3 := HB2.trans (hb3.mono HB2.size)
      clear hs hb3 hl3
      go_wp2_with fail
      go_ret2
      refine ⟨A3, c3, k3, ?_, by omega, ?_, ?_, HB3⟩
      · rw [unst_ok HF.out HS.out]; rfl
      · rw [unst_ok HF.out HS.out]; exact HL3.out
      · rw [unst_ok HF.out HS.out]; exact hr3
  · have hi := idx_yes hf
    have HF := Lib.hid hf
    clear hf
    obtain ⟨v, hv⟩ : ∃ v, Hid (v = idxF l) := ⟨_, Lib.hid rfl⟩
    rw [← hv.out] at hi
    go_enter Try.func9, Try.ntmps9
    go_wp2_with (go_at_call 17; with_reducible refine (hIdx _ h1).mono ?_; rintro e w' ⟨rfl, rfl⟩; rw [← hv.out])
    go_ret2
    refine ⟨none, 0, 0, ?_, Nat.zero_le _, ?_, ?_, hb1⟩
    · rw [unst_flag HF.out]; rfl
    · rw [unst_flag HF.out]; rfl
    · rw [unst_flag HF.out]; exact Rd.nil

set_option maxHeartbeats 400000 in
theorem speaks4_any (w : World) : Calls Try.prog 8 #[] w fun e w' => e = .returned (.bool true) ∧ Below w.heap.size w w' := by
  have hby : By [126, 17] := by intro x hx; simp at hx; omega
  go_enter Try.func8, Try.ntmps8
  go_wp2_with fail
  refine (stuff_any 131072 (by omega) [126, 17] 2 _ _ _ (Rd.lit_ w [126, 17]) hby rfl (by omega)).mono ?_
  rintro e w1 ⟨A1, c1, n1, rfl, hl1, -, hr1, hb1⟩
  have HL1 := Lib.hid hl1
  have hn1 : n1 ≤ 4 := by rw [← hl1]; exact esc_le 131072 [126, 17]
  have hB1 : Below w.heap.size w w1 := ((Below.refl w.heap.size w).alloc (Nat.le_refl _) _).trans (hb1.mono (by simp))
  clear hl1 hb1
  go_wp2_with fail
  refine (equal_yes (esc 131072 [126, 17]) [125, 94, 125, 49] n1 4 _ _ _ _ _ ((hr1.alloc (Nat.le_refl _) _).more (by simp)) (Rd.lit_ w1 [125, 94, 125, 49]) HL1.out rfl (by omega) (by decide)).mono ?_
  rintro e w2 ⟨rfl, hb2⟩
  have hB2 := (hB1.alloc hB1.size _).trans (hb2.mono (B' := w.heap.size) (by have := hB1.size; simp; omega))
  clear hb2 hB1 hr1
  go_wp2_with fail
  go_ret
  exact ⟨rfl, hB2⟩

end Go.Proofs.Ytinajpmhpbjaiaa
