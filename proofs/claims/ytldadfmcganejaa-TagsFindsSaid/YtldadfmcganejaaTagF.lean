
/-
  What the program's Find answers, with its closure and the library's search by it. No condition beyond: lists of at most 2^38 tags, data of at most 2^38 octets.
-/
import Derived.Test.YtldadfmcganejaaTagP
namespace Go.Proofs.Ytldadfmcganejaa
set_option maxRecDepth 4000
open Go.RowKit

/-- Has a tag the type? -/
def tgask (t : Nat) (o : Nat × List Nat) : Bool := o.1 == t
theorem tgfind_at {l : List (Nat × List Nat)} {f : Nat × List Nat → Bool} {k : Nat} {x : Nat × List Nat} (h : (l.take k).find? f = none) (hx : l[k]? = some x) (hf : f x = true) : l.find? f = some x := by
  have hk := (List.getElem?_eq_some_iff.1 hx).1
  have e : l = l.take k ++ x :: l.drop (k + 1) := by
    have e1 : l.drop k = x :: l.drop (k + 1) := by
      rw [List.drop_eq_getElem_cons hk, (List.getElem?_eq_some_iff.1 hx).2]
    rw [← e1, List.take_append_drop]
  rw [e, List.find?_append, h, Option.none_or, List.find?_cons_of_pos hf]
theorem tgfind_more {l : List (Nat × List Nat)} {f : Nat × List Nat → Bool} {k : Nat} {x : Nat × List Nat} (h : (l.take k).find? f = none) (hx : l[k]? = some x) (hf : f x = false) : (l.take (k + 1)).find? f = none := by
  rw [List.take_add_one, hx, Option.toList_some, List.find?_append, h, Option.none_or]
  simp [hf]

/-- The closure's cell: the type that is sought. -/
def Tk (w : World) (g t : Nat) : Prop := g < w.heap.size ∧ w.cell? ⟨g, 0, none⟩ = some (.int .u16 (t : Int))
theorem Tk.below {w w' : World} {g t : Nat} (a : Tk w g t) (hb : Below w.heap.size w w') : Tk w' g t :=
  ⟨Nat.lt_of_lt_of_le a.1 hb.size, (hb.cell (p := ⟨g, 0, none⟩) a.1).trans a.2⟩
/-- The function value that Find makes. -/
abbrev fvT (g : Nat) : Value := .func (.func 24) #[] #[.pointer (some ⟨g, 0, none⟩)]

set_option maxHeartbeats 1000000 in
theorem tgfind1_any (t : Nat) (o : Nat × List Nat) (n c : Nat) (A : Option Addr) (g : Nat) (w : World) (ha : Tk w g t) (q : Bool) (hq : tgask t o = q) :
    Calls Try.prog 24 #[.agg #[.int .u16 (o.1 : Int), .slice A n c], .pointer (some ⟨g, 0, none⟩)] w fun e w' => e = .returned (.bool q) ∧ Below w.heap.size w w' := by
  have hb := (Below.refl w.heap.size w).alloc (Nat.le_refl _) (.cells #[.int .u16 (o.1 : Int), .slice A n c] 50)
  obtain ⟨k1, k2⟩ := ha.below hb
  have k3 := ha.1
  have B := Lib.hid hb
  clear hb
  by_cases h1 : o.1 = t
  · have j1 : ((o.1 : Int) == (t : Int)) = true := by rw [beq_iff_eq]; omega
    obtain rfl : true = q := by rw [← hq, tgask, h1]; simp
    clear ha hq h1
    go_enter Try.func24, Try.ntmps24
    go_wp2_with fail
    go_ret
    exact ⟨rfl, B.out⟩
  · have j1 : ((o.1 : Int) == (t : Int)) = false := by rw [beq_eq_false_iff_ne]; omega
    obtain rfl : false = q := by rw [← hq, tgask]; exact (beq_eq_false_iff_ne.2 h1).symm
    clear ha hq h1
    go_enter Try.func24, Try.ntmps24
    go_wp2_with fail
    go_ret
    exact ⟨rfl, B.out⟩

set_option maxHeartbeats 2000000 in
theorem tgidx_any (t : Nat) (l : List (Nat × List Nat)) (n c : Nat) (A : Option Addr) (F : Nat → Prop) (g : Nat) (w : World) (hr : Rws shG F w A l) (hl : l.length = n) (hn : n ≤ 274877906944) (ha : Tk w g t) :
    Calls Try.prog 23 #[.slice A n c, fvT g] w fun e w' => ∃ z : Int, e = .returned (.int .i64 z) ∧ Below w.heap.size w w' ∧ Hid (z = -1 ∧ l.find? (tgask t) = none ∨ ∃ i x, z = (i : Nat) ∧ i < n ∧ l[i]? = some x ∧ l.find? (tgask t) = some x) := by
  have HL := Lib.hid hl
  have HR := Lib.hid hr
  have HW := Lib.hid ha
  clear hl hr ha
  go_enter Try.func23, Try.ntmps23
  go_wp2_with fail
  go_loopw [8] (fun i wr => ∃ k : Nat, k ≤ n ∧ i = .int .i64 k ∧ Hid ((l.take k).find? (tgask t) = none) ∧ Below w.heap.size w wr) (fun i _ => n - (intOf i).toNat)
  case atStart => exact ⟨0, Nat.zero_le _, rfl, Lib.hid (by simp), Below.refl _ _⟩
  case round =>
    obtain ⟨k, hk, rfl, hf, hbel⟩ := hrel
    by_cases hlt : k < n
    · obtain ⟨b, o, x, A3, c3, rfl, hb3, hx, h3, h4, h5, h6⟩ := (HR.out.below hbel).tag (k := k) (by rw [HL.out]; exact hlt)
      have HX := Lib.hid hx
      have i1 : (0 : Int) ≤ k := by omega
      have i2 : (k : Int) < n := by omega
      obtain ⟨q, hq⟩ : ∃ q, Hid (tgask t x = q) := ⟨_, Lib.hid rfl⟩
      have BE := Lib.hid hbel
      clear hx h6 hbel
      cases q
      · have R := Lib.hid (tgfind_more hf.out HX.out hq.out)
        go_wp2_with (go_at_call 24; (with_reducible refine (tgfind1_any t x _ c3 A3 g _ (HW.out.below BE.out) _ hq.out).mono ?_); rintro e wn ⟨rfl, hb⟩; replace BE := Lib.hid (BE.out.trans (hb.mono BE.out.size)); clear hb)
        go_roundw
        case rel => exact ⟨k + 1, by omega, by go_num, R, BE.out⟩
        case measure => simp [intOf]; omega
      · have E := Lib.hid (tgfind_at hf.out HX.out hq.out)
        go_wp2_with (go_at_call 24; (with_reducible refine (tgfind1_any t x _ c3 A3 g _ (HW.out.below BE.out) _ hq.out).mono ?_); rintro e wn ⟨rfl, hb⟩; replace BE := Lib.hid (BE.out.trans (hb.mono BE.out.size)); clear hb)
        go_ret
        exact ⟨_, rfl, BE.out, Lib.hid (.inr ⟨k, x, rfl, hlt, HX.out, E.out⟩)⟩
    · have he : k = n := by omega
      subst he
      have E := hf.out
      rw [List.take_of_length_le (by rw [HL.out]; exact Nat.le_refl _)] at E
      have HE := Lib.hid E
      clear E
      go_wp2_with fail
      go_ret
      exact ⟨_, rfl, hbel, Lib.hid (.inl ⟨rfl, HE.out⟩)⟩

theorem tk_made (w : World) (t : Nat) : Tk (w.alloc (.cells #[.int .u16 (t : Int)] 24)) w.heap.size t := by
  refine ⟨by rw [World.size_alloc]; omega, ?_⟩
  rw [cell_of_row _ _ 0 _ _ _ (heap_alloc_new _ _)]; rfl
/-- What Find answers. -/
def FndG (l : List (Nat × List Nat)) (t : Nat) (w : World) (e : Ending) (w' : World) : Prop :=
  (l.find? (tgask t) = none ∧ e = .returned (.tuple #[.slice none 0 0, .bool false]) ∧ Below w.heap.size w w') ∨
    ∃ o A c, l.find? (tgask t) = some o ∧ e = .returned (.tuple #[.slice A o.2.length c, .bool true]) ∧ New w w' A c o.2.length o.2

set_option maxHeartbeats 8000000 in
theorem tgfind_any (t : Nat) (l : List (Nat × List Nat)) (n c : Nat) (A : Option Addr) (F : Nat → Prop) (w : World) (hr : Rws shG F w A l) (hl : l.length = n) (hn : n ≤ 274877906944) (hd : ∀ x ∈ l, x.2.length ≤ 274877906944) :
    Calls Try.prog 19 #[.slice A n c, .int .u16 (t : Int)] w (FndG l t w) := by
  have K := Lib.hid (tk_made w t)
  have B := Lib.hid ((Below.refl w.heap.size w).alloc (Nat.le_refl _) (.cells #[.int .u16 (t : Int)] 24))
  have HR := Lib.hid hr
  have HL := Lib.hid hl
  have HD := Lib.hid hd
  clear hr hl hd
  go_enter Try.func19, Try.ntmps19
  go_upto_region 1 with fail
  refine at_worldG (fun W => Hid (Below w.heap.size w W) ∧ Hid (Tk W w.heap.size t)) ⟨B, K⟩ ?_
  clear B K
  rintro wm ⟨B, K⟩
  go_upto_region 2 with (first
    | (go_at_call 23; (with_reducible refine (tgidx_any t l n c A F _ _ (HR.out.below B.out) HL.out hn K.out).mono ?_); rintro e wn ⟨z, rfl, hb, hz⟩; replace B := Lib.hid (B.out.trans (hb.mono B.out.size)); clear hb))
  rcases hz.out with ⟨rfl, hz2⟩ | ⟨i, x, rfl, hi, hx, hz2⟩
  · have E := Lib.hid hz2
    clear hz2 hz
    go_wp2_with fail
    go_ret2
    exact .inl ⟨E.out, rfl, B.out⟩
  · have E := Lib.hid hz2
    obtain ⟨b, o, x', A3, c3, rfl, hb3, hx', h3, h4, h5, h6⟩ := (HR.out.below B.out).tag (k := i) (by rw [HL.out]; exact hi)
    obtain rfl : x = x' := Option.some.inj (hx.symm.trans hx')
    have HS := HD.out x (List.mem_of_getElem? hx)
    have H6 := Lib.hid h6.rd
    have i0 : ¬ (i : Int) < 0 := by omega
    have i1 : (0 : Int) ≤ i := by omega
    have i2 : (i : Int) < n := by omega
    clear hz2 hz hx hx' h6
    go_wp2_with (first
      | (go_at_call 25; (with_reducible refine (clone_any x.2 x.2.length A3 c3 _ H6.out rfl HS).mono ?_); rintro e wk ⟨A5, c5, rfl, hN⟩))
    go_ret2
    exact .inr ⟨x, A5, c5, E.out, rfl, own_lo hN.2.1 B.out.size |> fun ho => ⟨hN.1, ho, hN.2.2.1, B.out.trans (hN.2.2.2.mono B.out.size)⟩⟩
end Go.Proofs.Ytldadfmcganejaa
