
/-
  What the document's Address answers. No condition beyond: lists of at most 2^38 options, data of at most 2^38 octets.
-/
import Derived.Test.YtdnnincdbenjfaaNcpA
namespace Go.Proofs.Ytdnnincdbenjfaa
open Go.RowKit
set_option linter.unusedVariables false

/-- One option of a row, a row of its own. -/
theorem Rws.cut1 {F : Nat → Prop} {w : World} {b o : Nat} {l : List (Nat × List Nat)} {k : Nat} {x : Nat × List Nat} (h : Rws shO F w (some ⟨b, o, none⟩) l) (hx : l[k]? = some x) : Rws shO F w (some ⟨b, o + k * 2, none⟩) [x] := by
  obtain ⟨b', off, e, hb, hF, hc⟩ := h (by have := (List.getElem?_eq_some_iff.1 hx).1; omega)
  injection e with e
  injection e with e1 e2
  subst e1; subst e2
  obtain ⟨cs, h1, h2⟩ := hc k x hx
  refine fun _ => ⟨b, o + k * 2, rfl, hb, hF, fun i y hi => ?_⟩
  match i, hi with
  | 0, hi =>
    injection hi with hi
    subst hi
    refine ⟨cs, h1, fun j u hj => ?_⟩
    have := h2 j u hj
    rw [show o + k * 2 + (0 * shO.sz + j) = o + (k * shO.sz + j) by show o + k * 2 + (0 * 2 + j) = o + (k * 2 + j); omega]
    exact this
  | i + 1, hi => simp at hi
theorem okL_single {T : Tab} {x : Nat × List Nat} {q : Bool} (h : okO T x = q) : okL T [x] = q := by unfold okL; simp [h]

set_option maxHeartbeats 16000000 in
theorem nra_ip (t : Nat) (ht : t = 32801) (l : List (Nat × List Nat)) (n c : Nat) (A : Option Addr) (F : Nat → Prop) (w : World) (hr : Rws shO F w A l) (ho : ByO l) (hl : l.length = n) (hn : n ≤ 274877906944) (hc : n ≤ c) (hd : ∀ x ∈ l, x.2.length ≤ 274877906944) (v : Nat) (r : Bool) (hv : addrB t l = (v, r)) :
    Calls Try.prog 20 #[.int .i64 (t : Int), .slice A n c] w fun e w' => e = .returned (.tuple #[.int .u64 (v : Int), .bool r]) ∧ Below w.heap.size w w' := by
  have HV := Lib.hid hv
  have HR := Lib.hid hr
  have HL := Lib.hid hl
  have HO := Lib.hid ho
  have HD := Lib.hid hd
  have q1 : ((t : Int) == 32801) = true := by simp; omega
  have q2 : ((t : Int) == 32855) = false := by simp; omega
  have HT := Lib.hid ht
  clear hr ho hl hv hd ht
  go_enter Try.func20, Try.ntmps20
  go_wp2_with fail
  go_loopw [6] (fun i wr => ∃ k : Nat, k ≤ n ∧ i = .int .i64 k ∧ Hid ((l.take k).find? (isA t) = none) ∧ Below w.heap.size w wr) (fun i _ => n - (intOf i).toNat)
  case atStart => exact ⟨0, Nat.zero_le _, rfl, Lib.hid (by simp), Below.refl _ _⟩
  case round =>
    obtain ⟨k, hk, rfl, hf, hbel⟩ := hrel
    by_cases hlt : k < n
    · have RB := Lib.hid (HR.out.below hbel)
      obtain ⟨b, o, x, A3, c3, rfl, hb3, hx, h3, h4, h5, h6⟩ := RB.out.opt (k := k) (by rw [HL.out]; exact hlt)
      have HX := Lib.hid hx
      have HB := Lib.hid ((HO.out x (List.mem_of_getElem? hx)).2)
      have HS := HD.out x (List.mem_of_getElem? hx)
      have H6 := Lib.hid h6.rd
      have i1 : (0 : Int) ≤ k := by omega
      have i2 : (k : Int) < n := by omega
      have i3 : (k : Int) + 1 ≤ c := by omega
      have i4 : ¬ c = k := by omega
      have i5 : IntKind.i64.wrap ((k : Int) + 1) = (k : Int) + 1 := IntWalk.i64_in _ (by omega)
      have i6 : (k : Int) ≤ (k : Int) + 1 := by omega
      have i7 : (0 : Int) ≤ (k : Int) + 1 := by omega
      have BE := Lib.hid hbel
      clear hx h6 hbel
      by_cases hx3 : x.1 = 3
      · have j3 : ((x.1 : Int) == 3) = true := by simp; omega
        have HX3 := Lib.hid hx3
        clear hx3
        obtain ⟨q, hq⟩ : ∃ q, Hid (okO (tabB t) x = q) := ⟨_, Lib.hid rfl⟩
        have RC := Lib.hid (RB.out.cut1 HX.out)
        cases q
        · have R := Lib.hid (find_more hf.out HX.out (show isA t x = false by unfold isA; rw [hq.out]; simp))
          clear hf
          go_wp2_with (first
            | (go_at_call 39; (with_reducible refine (orright_any t [x] 1 _ _ _ _ RC.out rfl (by omega) false (okL_single hq.out)).mono ?_); rintro e wn ⟨rfl, hb⟩; replace BE := Lib.hid (BE.out.trans (hb.mono BE.out.size)); clear hb))
          go_roundw
          case rel => exact ⟨k + 1, by omega, by go_num, R, BE.out⟩
          case measure => simp [intOf]; omega
        · have E := Lib.hid (find_here hf.out HX.out (show isA t x = true by unfold isA; rw [hq.out, HT.out, HX3.out]; rfl))
          have e := HV.out
          unfold addrB at e
          rw [E.out] at e
          obtain ⟨e1, rfl⟩ := Prod.mk.inj e
          have HE := Lib.hid e1
          clear hf e e1
          go_wp2_with (first
            | (go_at_call 39; (with_reducible refine (orright_any t [x] 1 _ _ _ _ RC.out rfl (by omega) true (okL_single hq.out)).mono ?_); rintro e wn ⟨rfl, hb⟩; have h3 := (hb.cell (p := ⟨b, o + k * 2, none⟩) hb3).trans h3; have h4 := (hb.cell (p := ⟨b, o + k * 2 + 1, none⟩) hb3).trans h4; have hb3 := Nat.lt_of_lt_of_le hb3 hb.size; replace H6 := Lib.hid (H6.out.ons hb); replace BE := Lib.hid (BE.out.trans (hb.mono BE.out.size)); clear hb)
            | (go_at_call 40; (with_reducible refine (rvalue_any _ x.2 x.2.length c3 A3 _ H6.out HB.out rfl HS v HE.out).mono ?_); rintro e wn ⟨rfl, hb⟩; replace BE := Lib.hid (BE.out.trans (hb.mono BE.out.size)); clear hb))
          go_ret2
          exact ⟨rfl, BE.out⟩
      · have j3 : ((x.1 : Int) == 3) = false := by simp; omega
        have HX3 := Lib.hid hx3
        clear hx3
        have R := Lib.hid (find_more hf.out HX.out (show isA t x = false by have h1 := HT.out; have h2 := HX3.out; unfold isA; simp; omega))
        clear hf
        go_wp2_with fail
        go_roundw
        case rel => exact ⟨k + 1, by omega, by go_num, R, BE.out⟩
        case measure => simp [intOf]; omega
    · have he : k = n := by omega
      subst he
      have E := hf.out
      rw [List.take_of_length_le (by rw [HL.out]; exact Nat.le_refl _)] at E
      have e := HV.out
      unfold addrB at e
      rw [E] at e
      obtain ⟨rfl, rfl⟩ := Prod.mk.inj e
      clear e E
      go_wp2_with fail
      go_ret2
      exact ⟨rfl, hbel⟩

set_option maxHeartbeats 16000000 in
theorem nra_ip6 (t : Nat) (ht : t = 32855) (l : List (Nat × List Nat)) (n c : Nat) (A : Option Addr) (F : Nat → Prop) (w : World) (hr : Rws shO F w A l) (ho : ByO l) (hl : l.length = n) (hn : n ≤ 274877906944) (hc : n ≤ c) (hd : ∀ x ∈ l, x.2.length ≤ 274877906944) (v : Nat) (r : Bool) (hv : addrB t l = (v, r)) :
    Calls Try.prog 20 #[.int .i64 (t : Int), .slice A n c] w fun e w' => e = .returned (.tuple #[.int .u64 (v : Int), .bool r]) ∧ Below w.heap.size w w' := by
  have HV := Lib.hid hv
  have HR := Lib.hid hr
  have HL := Lib.hid hl
  have HO := Lib.hid ho
  have HD := Lib.hid hd
  have q1 : ((t : Int) == 32801) = false := by simp; omega
  have q2 : ((t : Int) == 32855) = true := by simp; omega
  have HT := Lib.hid ht
  clear hr ho hl hv hd ht
  go_enter Try.func20, Try.ntmps20
  go_wp2_with fail
  go_loopw [6] (fun i wr => ∃ k : Nat, k ≤ n ∧ i = .int .i64 k ∧ Hid ((l.take k).find? (isA t) = none) ∧ Below w.heap.size w wr) (fun i _ => n - (intOf i).toNat)
  case atStart => exact ⟨0, Nat.zero_le _, rfl, Lib.hid (by simp), Below.refl _ _⟩
  case round =>
    obtain ⟨k, hk, rfl, hf, hbel⟩ := hrel
    by_cases hlt : k < n
    · have RB := Lib.hid (HR.out.below hbel)
      obtain ⟨b, o, x, A3, c3, rfl, hb3, hx, h3, h4, h5, h6⟩ := RB.out.opt (k := k) (by rw [HL.out]; exact hlt)
      have HX := Lib.hid hx
      have HB := Lib.hid ((HO.out x (List.mem_of_getElem? hx)).2)
      have HS := HD.out x (List.mem_of_getElem? hx)
      have H6 := Lib.hid h6.rd
      have i1 : (0 : Int) ≤ k := by omega
      have i2 : (k : Int) < n := by omega
      have i3 : (k : Int) + 1 ≤ c := by omega
      have i4 : ¬ c = k := by omega
      have i5 : IntKind.i64.wrap ((k : Int) + 1) = (k : Int) + 1 := IntWalk.i64_in _ (by omega)
      have i6 : (k : Int) ≤ (k : Int) + 1 := by omega
      have i7 : (0 : Int) ≤ (k : Int) + 1 := by omega
      have BE := Lib.hid hbel
      clear hx h6 hbel
      by_cases hx3 : x.1 = 1
      · have j3 : ((x.1 : Int) == 1) = true := by simp; omega
        have HX3 := Lib.hid hx3
        clear hx3
        obtain ⟨q, hq⟩ : ∃ q, Hid (okO (tabB t) x = q) := ⟨_, Lib.hid rfl⟩
        have RC := Lib.hid (RB.out.cut1 HX.out)
        cases q
        · have R := Lib.hid (find_more hf.out HX.out (show isA t x = false by unfold isA; rw [hq.out]; simp))
          clear hf
          go_wp2_with (first
            | (go_at_call 39; (with_reducible refine (orright_any t [x] 1 _ _ _ _ RC.out rfl (by omega) false (okL_single hq.out)).mono ?_); rintro e wn ⟨rfl, hb⟩; replace BE := Lib.hid (BE.out.trans (hb.mono BE.out.size)); clear hb))
          go_roundw
          case rel => exact ⟨k + 1, by omega, by go_num, R, BE.out⟩
          case measure => simp [intOf]; omega
        · have E := Lib.hid (find_here hf.out HX.out (show isA t x = true by unfold isA; rw [hq.out, HT.out, HX3.out]; rfl))
          have e := HV.out
          unfold addrB at e
          rw [E.out] at e
          obtain ⟨e1, rfl⟩ := Prod.mk.inj e
          have HE := Lib.hid e1
          clear hf e e1
          go_wp2_with (first
            | (go_at_call 39; (with_reducible refine (orright_any t [x] 1 _ _ _ _ RC.out rfl (by omega) true (okL_single hq.out)).mono ?_); rintro e wn ⟨rfl, hb⟩; have h3 := (hb.cell (p := ⟨b, o + k * 2, none⟩) hb3).trans h3; have h4 := (hb.cell (p := ⟨b, o + k * 2 + 1, none⟩) hb3).trans h4; have hb3 := Nat.lt_of_lt_of_le hb3 hb.size; replace H6 := Lib.hid (H6.out.ons hb); replace BE := Lib.hid (BE.out.trans (hb.mono BE.out.size)); clear hb)
            | (go_at_call 40; (with_reducible refine (rvalue_any _ x.2 x.2.length c3 A3 _ H6.out HB.out rfl HS v HE.out).mono ?_); rintro e wn ⟨rfl, hb⟩; replace BE := Lib.hid (BE.out.trans (hb.mono BE.out.size)); clear hb))
          go_ret2
          exact ⟨rfl, BE.out⟩
      · have j3 : ((x.1 : Int) == 1) = false := by simp; omega
        have HX3 := Lib.hid hx3
        clear hx3
        have R := Lib.hid (find_more hf.out HX.out (show isA t x = false by have h1 := HT.out; have h2 := HX3.out; unfold isA; simp; omega))
        clear hf
        go_wp2_with fail
        go_roundw
        case rel => exact ⟨k + 1, by omega, by go_num, R, BE.out⟩
        case measure => simp [intOf]; omega
    · have he : k = n := by omega
      subst he
      have E := hf.out
      rw [List.take_of_length_le (by rw [HL.out]; exact Nat.le_refl _)] at E
      have e := HV.out
      unfold addrB at e
      rw [E] at e
      obtain ⟨rfl, rfl⟩ := Prod.mk.inj e
      clear e E
      go_wp2_with fail
      go_ret2
      exact ⟨rfl, hbel⟩

set_option maxHeartbeats 16000000 in
theorem nra_no (t : Nat) (ht : ¬ t = 32801 ∧ ¬ t = 32855) (l : List (Nat × List Nat)) (n c : Nat) (A : Option Addr) (F : Nat → Prop) (w : World) (hr : Rws shO F w A l) (ho : ByO l) (hl : l.length = n) (hn : n ≤ 274877906944) (hc : n ≤ c) (hd : ∀ x ∈ l, x.2.length ≤ 274877906944) (v : Nat) (r : Bool) (hv : addrB t l = (v, r)) :
    Calls Try.prog 20 #[.int .i64 (t : Int), .slice A n c] w fun e w' => e = .returned (.tuple #[.int .u64 (v : Int), .bool r]) ∧ Below w.heap.size w w' := by
  have HV := Lib.hid hv
  have HR := Lib.hid hr
  have HL := Lib.hid hl
  have HO := Lib.hid ho
  have HD := Lib.hid hd
  have q1 : ((t : Int) == 32801) = false := by simp; omega
  have q2 : ((t : Int) == 32855) = false := by simp; omega
  have HT := Lib.hid ht
  clear hr ho hl hv hd ht
  go_enter Try.func20, Try.ntmps20
  go_wp2_with fail
  go_loopw [6] (fun i wr => ∃ k : Nat, k ≤ n ∧ i = .int .i64 k ∧ Hid ((l.take k).find? (isA t) = none) ∧ Below w.heap.size w wr) (fun i _ => n - (intOf i).toNat)
  case atStart => exact ⟨0, Nat.zero_le _, rfl, Lib.hid (by simp), Below.refl _ _⟩
  case round =>
    obtain ⟨k, hk, rfl, hf, hbel⟩ := hrel
    by_cases hlt : k < n
    · have RB := Lib.hid (HR.out.below hbel)
      obtain ⟨b, o, x, A3, c3, rfl, hb3, hx, h3, h4, h5, h6⟩ := RB.out.opt (k := k) (by rw [HL.out]; exact hlt)
      have HX := Lib.hid hx
      have HB := Lib.hid ((HO.out x (List.mem_of_getElem? hx)).2)
      have HS := HD.out x (List.mem_of_getElem? hx)
      have H6 := Lib.hid h6.rd
      have i1 : (0 : Int) ≤ k := by omega
      have i2 : (k : Int) < n := by omega
      have i3 : (k : Int) + 1 ≤ c := by omega
      have i4 : ¬ c = k := by omega
      have i5 : IntKind.i64.wrap ((k : Int) + 1) = (k : Int) + 1 := IntWalk.i64_in _ (by omega)
      have i6 : (k : Int) ≤ (k : Int) + 1 := by omega
      have i7 : (0 : Int) ≤ (k : Int) + 1 := by omega
      have BE := Lib.hid hbel
      clear hx h6 hbel
      have HX3 := Lib.hid trivial
      have R := Lib.hid (find_more hf.out HX.out (show isA t x = false by have h1 := HT.out; have h2 := HX3.out; unfold isA; simp; omega))
      clear hf
      go_wp2_with fail
      go_roundw
      case rel => exact ⟨k + 1, by omega, by go_num, R, BE.out⟩
      case measure => simp [intOf]; omega
    · have he : k = n := by omega
      subst he
      have E := hf.out
      rw [List.take_of_length_le (by rw [HL.out]; exact Nat.le_refl _)] at E
      have e := HV.out
      unfold addrB at e
      rw [E] at e
      obtain ⟨rfl, rfl⟩ := Prod.mk.inj e
      clear e E
      go_wp2_with fail
      go_ret2
      exact ⟨rfl, hbel⟩

theorem nra_any (t : Nat) (l : List (Nat × List Nat)) (n c : Nat) (A : Option Addr) (F : Nat → Prop) (w : World) (hr : Rws shO F w A l) (ho : ByO l) (hl : l.length = n) (hn : n ≤ 274877906944) (hc : n ≤ c) (hd : ∀ x ∈ l, x.2.length ≤ 274877906944) (v : Nat) (r : Bool) (hv : addrB t l = (v, r)) :
    Calls Try.prog 20 #[.int .i64 (t : Int), .slice A n c] w fun e w' => e = .returned (.tuple #[.int .u64 (v : Int), .bool r]) ∧ Below w.heap.size w w' := by
  by_cases h1 : t = 32801
  · exact nra_ip t h1 l n c A F w hr ho hl hn hc hd v r hv
  by_cases h2 : t = 32855
  · exact nra_ip6 t h2 l n c A F w hr ho hl hn hc hd v r hv
  exact nra_no t ⟨h1, h2⟩ l n c A F w hr ho hl hn hc hd v r hv
end Go.Proofs.Ytdnnincdbenjfaa
