
/-
  What the program's Address answers, with its closure and the library's search by it. No condition beyond: types below 256, lists of at most 2^38 options, data of at most 2^38 octets.
-/
import Derived.Test.YtdnnincdbenjfaaNcpP
import Derived.Test.YtdnnincdbenjfaaOpsC
import Derived.Test.YtdnnincdbenjfaaOpsV
import Derived.Deep.CutRange
import Derived.Deep.RegionHeld3
namespace Go.Proofs.Ytdnnincdbenjfaa
open Go.RowKit
set_option linter.unusedVariables false

/-- What the closure asks: the type, and that the option may be. -/
def askA (t k : Nat) (o : Nat × List Nat) : Bool := decide (o.1 = k) && okO (tabB t) o
theorem isA_ip (o : Nat × List Nat) : isA 32801 o = askA 32801 3 o := by unfold isA askA; simp
theorem isA_ip6 (o : Nat × List Nat) : isA 32855 o = askA 32855 1 o := by unfold isA askA; simp
theorem isA_no {t : Nat} (h1 : ¬ t = 32801) (h2 : ¬ t = 32855) (o : Nat × List Nat) : isA t o = false := by unfold isA; simp [h1, h2]
theorem find_here {f : Nat × List Nat → Bool} {l : List (Nat × List Nat)} {k : Nat} {x : Nat × List Nat} (h : (l.take k).find? f = none) (hx : l[k]? = some x) (hf : f x = true) : l.find? f = some x := by
  have hk := (List.getElem?_eq_some_iff.1 hx).1
  have e : l = l.take k ++ x :: l.drop (k + 1) := by
    have e1 : l.drop k = x :: l.drop (k + 1) := by
      rw [List.drop_eq_getElem_cons hk, (List.getElem?_eq_some_iff.1 hx).2]
    rw [← e1, List.take_append_drop]
  rw [e, List.find?_append, h, Option.none_or, List.find?_cons_of_pos hf]
theorem find_more {f : Nat × List Nat → Bool} {l : List (Nat × List Nat)} {k : Nat} {x : Nat × List Nat} (h : (l.take k).find? f = none) (hx : l[k]? = some x) (hf : f x = false) : (l.take (k + 1)).find? f = none := by
  rw [List.take_add_one, hx, Option.toList_some, List.find?_append, h, Option.none_or]
  simp [hf]

/-- The closure's cells: the type that is sought, and the protocol. -/
def Ak (w : World) (g h k t : Nat) : Prop := g < w.heap.size ∧ h < w.heap.size ∧ w.cell? ⟨g, 0, none⟩ = some (.int .u8 (k : Int)) ∧ w.cell? ⟨h, 0, none⟩ = some (.int .u16 (t : Int))
theorem Ak.below {w w' : World} {g h k t : Nat} (a : Ak w g h k t) (hb : Below w.heap.size w w') : Ak w' g h k t :=
  ⟨Nat.lt_of_lt_of_le a.1 hb.size, Nat.lt_of_lt_of_le a.2.1 hb.size, (hb.cell (p := ⟨g, 0, none⟩) a.1).trans a.2.2.1, (hb.cell (p := ⟨h, 0, none⟩) a.2.1).trans a.2.2.2⟩
/-- The function value that Address makes. -/
abbrev fvA (g h : Nat) : Value := .func (.func 36) #[] #[.pointer (some ⟨g, 0, none⟩), .pointer (some ⟨h, 0, none⟩)]

set_option maxHeartbeats 2000000 in
theorem addr1_any (t k : Nat) (o : Nat × List Nat) (ht : o.1 < 256) (n c : Nat) (A : Option Addr) (g h : Nat) (w : World) (ha : Ak w g h k t) (hl : o.2.length = n) (q : Bool) (hq : askA t k o = q) :
    Calls Try.prog 36 #[.agg #[.int .u8 (o.1 : Int), .slice A n c], .pointer (some ⟨g, 0, none⟩), .pointer (some ⟨h, 0, none⟩)] w fun e w' => e = .returned (.bool q) ∧ Below w.heap.size w w' := by
  have HL := Lib.hid hl
  have C := Lib.hid (BoC.made w 57 o.1 A n c)
  obtain ⟨k0, k1, k2, k3⟩ := ha.below C.out.bel
  have hsz : w.heap.size < (w.alloc (.cells #[.int .u8 (o.1 : Int), .slice A n c] 57)).heap.size := C.out.lt
  by_cases h1 : o.1 = k
  · have j1 : ((o.1 : Int) == (k : Int)) = true := by simp; omega
    obtain ⟨r, hr⟩ : ∃ r, okO (tabB t) o = r := ⟨_, rfl⟩
    have HR := Lib.hid hr
    obtain rfl : r = q := by rw [← hq, askA, hr, decide_eq_true h1]; rfl
    obtain ⟨c0, c1⟩ := C.out.cells
    clear ha hq hr h1 hl
    go_enter Try.func36, Try.ntmps36
    go_wp2_with (go_at_call 37; (with_reducible refine (oright_any t o ht n c A _ HL.out r HR.out).mono ?_); rintro e wn ⟨rfl, hb⟩; replace C := Lib.hid (C.out.step hb); clear hb)
    go_ret
    exact ⟨rfl, C.out.bel⟩
  · have j1 : ((o.1 : Int) == (k : Int)) = false := by simp; omega
    obtain rfl : false = q := by rw [← hq, askA, decide_eq_false h1]; rfl
    obtain ⟨c0, c1⟩ := C.out.cells
    clear ha hq h1 hl
    go_enter Try.func36, Try.ntmps36
    go_wp2_with fail
    go_ret
    exact ⟨rfl, C.out.bel⟩

set_option maxHeartbeats 2000000 in
theorem afind_any (t s : Nat) (l : List (Nat × List Nat)) (n c : Nat) (A : Option Addr) (F : Nat → Prop) (g h : Nat) (w : World) (hr : Rws shO F w A l) (ho : ∀ x ∈ l, x.1 < 256) (hl : l.length = n) (hn : n ≤ 274877906944) (ha : Ak w g h s t) :
    Calls Try.prog 35 #[.slice A n c, fvA g h] w fun e w' => ∃ z : Int, e = .returned (.int .i64 z) ∧ Below w.heap.size w w' ∧ Hid (z = -1 ∧ l.find? (askA t s) = none ∨ ∃ i x, z = (i : Nat) ∧ i < n ∧ l[i]? = some x ∧ l.find? (askA t s) = some x) := by
  have HL := Lib.hid hl
  have HO := Lib.hid ho
  have HR := Lib.hid hr
  have HW := Lib.hid ha
  clear hl ho hr ha
  go_enter Try.func35, Try.ntmps35
  go_wp2_with fail
  go_loopw [8] (fun i wr => ∃ k : Nat, k ≤ n ∧ i = .int .i64 k ∧ Hid ((l.take k).find? (askA t s) = none) ∧ Below w.heap.size w wr) (fun i _ => n - (intOf i).toNat)
  case atStart => exact ⟨0, Nat.zero_le _, rfl, Lib.hid (by simp), Below.refl _ _⟩
  case round =>
    obtain ⟨k, hk, rfl, hf, hbel⟩ := hrel
    by_cases hlt : k < n
    · obtain ⟨b, o, x, A3, c3, rfl, hb3, hx, h3, h4, h5, h6⟩ := (HR.out.below hbel).opt (k := k) (by rw [HL.out]; exact hlt)
      have hx1 := HO.out x (List.mem_of_getElem? hx)
      have HX := Lib.hid hx
      have i1 : (0 : Int) ≤ k := by omega
      have i2 : (k : Int) < n := by omega
      obtain ⟨q, hq⟩ : ∃ q, Hid (askA t s x = q) := ⟨_, Lib.hid rfl⟩
      have BE := Lib.hid hbel
      clear hx h6 hbel
      cases q
      · have R := Lib.hid (find_more hf.out HX.out hq.out)
        go_wp2_with (go_at_call 36; (with_reducible refine (addr1_any t s x hx1 _ c3 A3 g h _ (HW.out.below BE.out) rfl _ hq.out).mono ?_); rintro e wn ⟨rfl, hb⟩; replace BE := Lib.hid (BE.out.trans (hb.mono BE.out.size)); clear hb)
        go_roundw
        case rel => exact ⟨k + 1, by omega, by go_num, R, BE.out⟩
        case measure => simp [intOf]; omega
      · have E := Lib.hid (find_here hf.out HX.out hq.out)
        go_wp2_with (go_at_call 36; (with_reducible refine (addr1_any t s x hx1 _ c3 A3 g h _ (HW.out.below BE.out) rfl _ hq.out).mono ?_); rintro e wn ⟨rfl, hb⟩; replace BE := Lib.hid (BE.out.trans (hb.mono BE.out.size)); clear hb)
        go_ret
        exact ⟨_, rfl, BE.out, Lib.hid (.inr ⟨k, x, rfl, hlt, HX.out, E.out⟩)⟩
    · have he : k = n := by omega
      subst he
      have E := hf.out
      rw [List.take_of_length_le (by rw [HL.out]; exact Nat.le_refl _)] at E
      have HE := Lib.hid E
      clear E
      go_wp2_with fail
      go_ret
      exact ⟨_, rfl, hbel, Lib.hid (.inl ⟨rfl, HE.out⟩)⟩

theorem addr_ip {t : Nat} {l : List (Nat × List Nat)} {s : Nat} (h : t = 32801 ∧ s = 3 ∨ t = 32855 ∧ s = 1) : addrB t l = (l.find? (askA t s)).elim (0, false) fun o => (valB o.2, true) := by
  rcases h with ⟨rfl, rfl⟩ | ⟨rfl, rfl⟩
  · unfold addrB; rw [show isA 32801 = askA 32801 3 from funext isA_ip]
  · unfold addrB; rw [show isA 32855 = askA 32855 1 from funext isA_ip6]
theorem addr_no {t : Nat} (l : List (Nat × List Nat)) (h1 : ¬ t = 32801) (h2 : ¬ t = 32855) : addrB t l = (0, false) := by
  unfold addrB
  rw [show isA t = fun _ => false from funext (isA_no h1 h2)]
  have : l.find? (fun _ => false) = none := by simp
  rw [this]; rfl

/-- What Address knows of the world it stands in: its closure's cells. -/
theorem ak_made (w : World) (t s : Nat) : Ak ((w.alloc (.cells #[.int .u16 (t : Int)] 22)).alloc (.cells #[.int .u8 (s : Int)] 5)) (w.heap.size + 1) w.heap.size s t := by
  have h1 : (w.alloc (.cells #[.int .u16 (t : Int)] 22)).heap.size = w.heap.size + 1 := World.size_alloc ..
  refine ⟨by rw [World.size_alloc, h1]; omega, by rw [World.size_alloc, h1]; omega, ?_, ?_⟩
  · rw [← h1, cell_of_row _ _ 0 _ _ _ (heap_alloc_new _ _)]; rfl
  · rw [((Below.refl _ _).alloc (Nat.le_refl _) _).cell (p := ⟨w.heap.size, 0, none⟩) (show w.heap.size < _ by rw [h1]; omega), cell_of_row _ _ 0 _ _ _ (heap_alloc_new _ _)]; rfl

set_option maxHeartbeats 8000000 in
theorem naddr_ip (t : Nat) (ht : t = 32801) (l : List (Nat × List Nat)) (n c : Nat) (A : Option Addr) (F : Nat → Prop) (w : World) (hr : Rws shO F w A l) (ho : ByO l) (hl : l.length = n) (hn : n ≤ 274877906944) (hd : ∀ x ∈ l, x.2.length ≤ 274877906944) (v : Nat) (r : Bool) (hv : addrB t l = (v, r)) :
    Calls Try.prog 18 #[.int .u16 (t : Int), .slice A n c] w fun e w' => e = .returned (.tuple #[.int .u64 (v : Int), .bool r]) ∧ Below w.heap.size w w' := by
  have K := Lib.hid (ak_made w t 3)
  have B := Lib.hid (((Below.refl w.heap.size w).alloc (Nat.le_refl _) (.cells #[.int .u16 (t : Int)] 22)).alloc (by rw [World.size_alloc]; omega) (.cells #[.int .u8 ((3 : Nat) : Int)] 5))
  have HV := Lib.hid (show (l.find? (askA t 3)).elim (0, false) (fun o => (valB o.2, true)) = (v, r) by rw [← hv]; exact (addr_ip (by omega)).symm)
  have HR := Lib.hid hr
  have HL := Lib.hid hl
  have HO := Lib.hid ho
  have HD := Lib.hid hd
  have HO1 := Lib.hid (show ∀ x ∈ l, x.1 < 256 from fun x hx => (ho x hx).1)
  have j1 : ((t : Int) == 32801) = true := by simp; omega
  clear ht hr ho hl hv hd
  go_enter Try.func18, Try.ntmps18
  go_upto_region 8 with fail
  refine at_worldP (fun W => Hid (Below w.heap.size w W) ∧ Hid (Ak W (w.heap.size + 1) w.heap.size 3 t)) ⟨B, K⟩ ?_
  clear B K
  rintro wm ⟨B, K⟩
  go_upto_region 9 with (first
    | (go_at_call 35; (with_reducible refine (afind_any t 3 l n c A F _ _ _ (HR.out.below B.out) HO1.out HL.out hn K.out).mono ?_); rintro e wn ⟨z, rfl, hb, hz⟩; replace B := Lib.hid (B.out.trans (hb.mono B.out.size)); clear hb))
  rcases hz.out with ⟨rfl, hz2⟩ | ⟨i, x, rfl, hi, hx, hz2⟩
  · have E := HV.out
    rw [hz2] at E
    obtain ⟨rfl, rfl⟩ := Prod.mk.inj E
    clear hz2 hz E
    go_wp2_with fail
    go_ret2
    exact ⟨rfl, B.out⟩
  · have E := HV.out
    rw [hz2] at E
    obtain ⟨e1, rfl⟩ := Prod.mk.inj E
    have HE := Lib.hid e1
    obtain ⟨b, o, x', A3, c3, rfl, hb3, hx', h3, h4, h5, h6⟩ := (HR.out.below B.out).opt (k := i) (by rw [HL.out]; exact hi)
    obtain rfl : x = x' := Option.some.inj (hx.symm.trans hx')
    have HB := Lib.hid ((HO.out x (List.mem_of_getElem? hx)).2)
    have HS := HD.out x (List.mem_of_getElem? hx)
    have H6 := Lib.hid h6.rd
    have i0 : ¬ (i : Int) < 0 := by omega
    have i1 : (0 : Int) ≤ i := by omega
    have i2 : (i : Int) < n := by omega
    clear hz2 hz E e1 hx hx' h6
    go_wp2_with (first
      | (go_at_call 38; (with_reducible refine (value_any _ x.2 x.2.length c3 A3 _ H6.out HB.out rfl HS v HE.out).mono ?_); rintro e wn ⟨rfl, hb⟩; replace B := Lib.hid (B.out.trans (hb.mono B.out.size)); clear hb))
    go_ret2
    exact ⟨rfl, B.out⟩

set_option maxHeartbeats 8000000 in
theorem naddr_ip6 (t : Nat) (ht : t = 32855) (l : List (Nat × List Nat)) (n c : Nat) (A : Option Addr) (F : Nat → Prop) (w : World) (hr : Rws shO F w A l) (ho : ByO l) (hl : l.length = n) (hn : n ≤ 274877906944) (hd : ∀ x ∈ l, x.2.length ≤ 274877906944) (v : Nat) (r : Bool) (hv : addrB t l = (v, r)) :
    Calls Try.prog 18 #[.int .u16 (t : Int), .slice A n c] w fun e w' => e = .returned (.tuple #[.int .u64 (v : Int), .bool r]) ∧ Below w.heap.size w w' := by
  have K := Lib.hid (ak_made w t 1)
  have B := Lib.hid (((Below.refl w.heap.size w).alloc (Nat.le_refl _) (.cells #[.int .u16 (t : Int)] 22)).alloc (by rw [World.size_alloc]; omega) (.cells #[.int .u8 ((1 : Nat) : Int)] 5))
  have HV := Lib.hid (show (l.find? (askA t 1)).elim (0, false) (fun o => (valB o.2, true)) = (v, r) by rw [← hv]; exact (addr_ip (by omega)).symm)
  have HR := Lib.hid hr
  have HL := Lib.hid hl
  have HO := Lib.hid ho
  have HD := Lib.hid hd
  have HO1 := Lib.hid (show ∀ x ∈ l, x.1 < 256 from fun x hx => (ho x hx).1)
  have j1 : ((t : Int) == 32801) = false := by simp; omega
  have j2 : ((t : Int) == 32855) = true := by simp; omega
  clear ht hr ho hl hv hd
  go_enter Try.func18, Try.ntmps18
  go_upto_region 8 with fail
  refine at_worldP (fun W => Hid (Below w.heap.size w W) ∧ Hid (Ak W (w.heap.size + 1) w.heap.size 1 t)) ⟨B, K⟩ ?_
  clear B K
  rintro wm ⟨B, K⟩
  go_upto_region 9 with (first
    | (go_at_call 35; (with_reducible refine (afind_any t 1 l n c A F _ _ _ (HR.out.below B.out) HO1.out HL.out hn K.out).mono ?_); rintro e wn ⟨z, rfl, hb, hz⟩; replace B := Lib.hid (B.out.trans (hb.mono B.out.size)); clear hb))
  rcases hz.out with ⟨rfl, hz2⟩ | ⟨i, x, rfl, hi, hx, hz2⟩
  · have E := HV.out
    rw [hz2] at E
    obtain ⟨rfl, rfl⟩ := Prod.mk.inj E
    clear hz2 hz E
    go_wp2_with fail
    go_ret2
    exact ⟨rfl, B.out⟩
  · have E := HV.out
    rw [hz2] at E
    obtain ⟨e1, rfl⟩ := Prod.mk.inj E
    have HE := Lib.hid e1
    obtain ⟨b, o, x', A3, c3, rfl, hb3, hx', h3, h4, h5, h6⟩ := (HR.out.below B.out).opt (k := i) (by rw [HL.out]; exact hi)
    obtain rfl : x = x' := Option.some.inj (hx.symm.trans hx')
    have HB := Lib.hid ((HO.out x (List.mem_of_getElem? hx)).2)
    have HS := HD.out x (List.mem_of_getElem? hx)
    have H6 := Lib.hid h6.rd
    have i0 : ¬ (i : Int) < 0 := by omega
    have i1 : (0 : Int) ≤ i := by omega
    have i2 : (i : Int) < n := by omega
    clear hz2 hz E e1 hx hx' h6
    go_wp2_with (first
      | (go_at_call 38; (with_reducible refine (value_any _ x.2 x.2.length c3 A3 _ H6.out HB.out rfl HS v HE.out).mono ?_); rintro e wn ⟨rfl, hb⟩; replace B := Lib.hid (B.out.trans (hb.mono B.out.size)); clear hb))
    go_ret2
    exact ⟨rfl, B.out⟩

theorem naddr_any (t : Nat) (l : List (Nat × List Nat)) (n c : Nat) (A : Option Addr) (F : Nat → Prop) (w : World) (hr : Rws shO F w A l) (ho : ByO l) (hl : l.length = n) (hn : n ≤ 274877906944) (hd : ∀ x ∈ l, x.2.length ≤ 274877906944) (v : Nat) (r : Bool) (hv : addrB t l = (v, r)) :
    Calls Try.prog 18 #[.int .u16 (t : Int), .slice A n c] w fun e w' => e = .returned (.tuple #[.int .u64 (v : Int), .bool r]) ∧ Below w.heap.size w w' := by
  by_cases h1 : t = 32801
  · exact naddr_ip t h1 l n c A F w hr ho hl hn hd v r hv
  by_cases h2 : t = 32855
  · exact naddr_ip6 t h2 l n c A F w hr ho hl hn hd v r hv
  rw [addr_no l h1 h2] at hv
  obtain ⟨rfl, rfl⟩ := Prod.mk.inj hv
  have j1 : ((t : Int) == 32801) = false := by simp; omega
  have j2 : ((t : Int) == 32855) = false := by simp; omega
  have B := Lib.hid (((Below.refl w.heap.size w).alloc (Nat.le_refl _) (.cells #[.int .u16 (t : Int)] 22)).alloc (by rw [World.size_alloc]; omega) (.cells #[.int .u8 0] 5))
  clear h1 h2 hr ho hl hv hd
  go_enter Try.func18, Try.ntmps18
  go_wp2_with fail
  go_ret2
  exact ⟨rfl, B.out⟩
end Go.Proofs.Ytdnnincdbenjfaa
