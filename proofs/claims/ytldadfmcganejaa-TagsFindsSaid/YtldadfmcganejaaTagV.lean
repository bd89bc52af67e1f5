
/-
  The calls of layer 21 as the laws' walks want them: results by name; speaks. No condition beyond: at most 2^30 octets and tags.
-/
import Derived.Test.YtldadfmcganejaaTagQ
import Derived.Test.YtldadfmcganejaaTagF
import Derived.Test.YtldadfmcganejaaTagZ
import Derived.Test.YtldadfmcganejaaTagS
import Derived.Test.YtldadfmcganejaaTagK
import Derived.Test.YtldadfmcganejaaTagL
namespace Go.Proofs.Ytldadfmcganejaa
set_option maxRecDepth 4000
open Go.RowKit

theorem tgfew_of {l : List (Nat × List Nat)} (h : tgfew l = true) : l.length ≤ 60 ∧ tgdat l ≤ 1000 := by
  unfold tgfew at h
  simpa using h
theorem tgdat_le {l : List (Nat × List Nat)} {x : Nat × List Nat} (hx : x ∈ l) : x.2.length ≤ tgdat l := by
  obtain ⟨k, hk⟩ := List.mem_iff_getElem?.1 hx
  have h1 := tgdat_at hk
  have h2 := tgdat_take l (k + 1)
  omega
theorem tgfew_v (l : List (Nat × List Nat)) (q : Bool) (hq : tgfew l = q) (n c : Nat) (A : Option Addr) (F : Nat → Prop) (w : World) (h : Rws shG F w A l) (hl : l.length = n) (hn : n ≤ 140737488351232) (hd : ∀ x ∈ l, x.2.length ≤ 140737488351232) :
    Calls Try.prog 8 #[.slice A n c] w fun e w' => e = .returned (.bool q) ∧ Below w.heap.size w w' := hq ▸ tgfew_any l n c A F w h hl hn 140737488351232 (Nat.le_refl _) hd
theorem tgof_v (l : List (Nat × List Nat)) (n c : Nat) (A : Option Addr) (w : World) (h : Rws shG (fun _ => True) w A l) (hl : l.length = n) (hn : n ≤ 1073741824) :
    Calls Try.prog 10 #[.slice A n c] w fun e w' => ∃ A' c', e = .returned (.slice A' n c') ∧ Rws shG (fun _ => True) w' A' l ∧ Below w.heap.size w w' :=
  (tgof_any l n c A _ w h (fun _ _ => trivial) hl hn).mono fun _ _ ⟨v, h1, h2, h3⟩ => by
    obtain ⟨A', c', rfl, _, _, hr⟩ := h2.slice
    rw [hl] at h1
    exact ⟨A', c', h1, hr.mono (fun _ _ _ => trivial), h3⟩
theorem tgto_v (l : List (Nat × List Nat)) (n c : Nat) (A : Option Addr) (w : World) (h : Rws shG (fun _ => True) w A l) (hl : l.length = n) (hn : n ≤ 1073741824) :
    Calls Try.prog 16 #[.slice A n c] w fun e w' => ∃ A' c', e = .returned (.slice A' n c') ∧ Rws shG (fun _ => True) w' A' l ∧ Below w.heap.size w w' :=
  (tgto_any l n c A _ w h (fun _ _ => trivial) hl hn).mono fun _ _ ⟨v, h1, h2, h3⟩ => by
    obtain ⟨A', c', rfl, _, _, hr⟩ := h2.slice
    rw [hl] at h1
    exact ⟨A', c', h1, hr.mono (fun _ _ _ => trivial), h3⟩
theorem tgput_v (l : List (Nat × List Nat)) (q : Nat) (hq : tgerr l = q) (m : List Nat) (hm : tgputA l = m) (k : Nat) (hk : m.length = k) (n c : Nat) (A : Option Addr) (F : Nat → Prop) (w : World) (h : Rws shG F w A l) (hl : l.length = n) (hn : n ≤ 137438953472) (hd : tgdat l ≤ 68719476736) (hG : ByG l) :
    Calls Try.prog 9 #[.slice A n c] w fun e w' => ∃ A' c', e = .returned (.tuple #[.slice A' k c', .int .i64 (q : Int)]) ∧ Rd w' w'.heap.size A' m ∧ k ≤ c' ∧ Below w.heap.size w w' :=
  (tgput_any l n c A F w h hl hn hd (fun o ho => (hG o ho).1)).mono fun _ _ ⟨A', c', k', h1, h2⟩ => by
    rw [hq] at h1
    rw [hm] at h2
    obtain rfl : k = k' := by rw [← hk, h2.1]
    exact ⟨A', c', h1, h2.2.2.1, own_cap h2.2.1, h2.2.2.2⟩
theorem tgrput_v (l : List (Nat × List Nat)) (q : Nat) (hq : tgerr l = q) (m : List Nat) (hm : tgputA l = m) (k : Nat) (hk : m.length = k) (n c : Nat) (A : Option Addr) (F : Nat → Prop) (w : World) (h : Rws shG F w A l) (hl : l.length = n) (hn : n ≤ 137438953472) (hd : tgdat l ≤ 68719476736) (hG : ByG l) :
    Calls Try.prog 11 #[.slice A n c] w fun e w' => ∃ A' c', e = .returned (.tuple #[.slice A' k c', .int .i64 (q : Int)]) ∧ Rd w' w'.heap.size A' m ∧ k ≤ c' ∧ Below w.heap.size w w' :=
  (tgrput_any l n c A F w h hl hn hd (fun o ho => (hG o ho).1)).mono fun _ _ ⟨A', c', k', h1, h2⟩ => by
    rw [hq] at h1
    rw [hm] at h2
    obtain rfl : k = k' := by rw [← hk, h2.1]
    exact ⟨A', c', h1, h2.2.2.1, own_cap h2.2.1, h2.2.2.2⟩
theorem tgget_v (b : List Nat) (l : List (Nat × List Nat)) (q k : Nat) (hg : tgget b = (l, q, k)) (m : Nat) (hm : l.length = m) (n c : Nat) (A : Option Addr) (w : World) (h : Rd w w.heap.size A b) (hb : By b) (hl : b.length = n) (hn : n ≤ 1073741824) (hc : n ≤ c) :
    Calls Try.prog 12 #[.slice A n c] w fun e w' => ∃ A' c', e = .returned (.tuple #[.slice A' m c', .int .i64 (q : Int), .int .i64 (k : Int)]) ∧ Rws shG (fun _ => True) w' A' l ∧ Below w.heap.size w w' :=
  (tgget_any b n c A w h hb hl hn hc).mono fun _ _ ⟨v, h1, h2, h3⟩ => by
    rw [hg] at h1 h2
    obtain ⟨A', c', rfl, _, _, hr⟩ := h2.slice
    rw [hm] at h1
    exact ⟨A', c', h1, hr.mono (fun _ _ _ => trivial), h3⟩
theorem tgrget_v (b : List Nat) (l : List (Nat × List Nat)) (q k : Nat) (hg : tgget b = (l, q, k)) (m : Nat) (hm : l.length = m) (n c : Nat) (A : Option Addr) (w : World) (h : Rd w w.heap.size A b) (hb : By b) (hl : b.length = n) (hn : n ≤ 1073741824) (hc : n ≤ c) :
    Calls Try.prog 13 #[.slice A n c] w fun e w' => ∃ A' c', e = .returned (.tuple #[.slice A' m c', .int .i64 (q : Int), .int .i64 (k : Int)]) ∧ Rws shG (fun _ => True) w' A' l ∧ Below w.heap.size w w' :=
  (tgrget_any b n c A w h hb hl hn hc).mono fun _ _ ⟨v, h1, h2, h3⟩ => by
    rw [hg] at h1 h2
    obtain ⟨A', c', rfl, _, _, hr⟩ := h2.slice
    rw [hm] at h1
    exact ⟨A', c', h1, hr.mono (fun _ _ _ => trivial), h3⟩
theorem tgsame_v (a b : List (Nat × List Nat)) (q : Bool) (hq : decide (a = b) = q) (n m c d : Nat) (A B : Option Addr) (F G : Nat → Prop) (w : World) (ha : Rws shG F w A a) (hb : Rws shG G w B b) (hA : ByG a) (hB : ByG b) (hn : a.length = n) (hm : b.length = m) (hn1 : n ≤ 274877906944) :
    Calls Try.prog 15 #[.slice A n c, .slice B m d] w fun e w' => e = .returned (.bool q) ∧ Below w.heap.size w w' := hq ▸ tgsame_any a b n m c d A B F G w ha hb hA hB hn hm hn1
theorem tgget_byG (b : List Nat) (hb : By b) {l : List (Nat × List Nat)} {q k : Nat} (hg : tgget b = (l, q, k)) : ByG l := by
  by_cases h : k = 0
  · have := (tgput_get b hb (by rw [hg]; exact h)).2.2.1
    rw [hg] at this
    exact this
  · have := (tgget_err b (by rw [hg]; exact h)).1
    rw [hg] at this
    dsimp only at this
    rw [this]
    exact fun _ h => (List.not_mem_nil h).elim
theorem tgputA_ok {l : List (Nat × List Nat)} (h : tgerr l = 0) : tgputA l = tgput l := by unfold tgputA; rw [if_pos h]
theorem tgputA_bad {l : List (Nat × List Nat)} {q : Nat} (h : tgerr l = q) (hq : q ≠ 0) : tgputA l = [] := by unfold tgputA; rw [if_neg (by rw [h]; exact hq)]
theorem tgputA_le (l : List (Nat × List Nat)) (n m : Nat) (hn : l.length ≤ n) (hm : tgdat l ≤ m) : (tgputA l).length ≤ 4 * n + m := by
  unfold tgputA
  split
  · rw [tgput_len]; omega
  · simp
theorem Rws.takeG {F : Nat → Prop} {w : World} {A : Option Addr} {l : List (Nat × List Nat)} (h : Rws shG F w A l) (j : Nat) : Rws shG F w A (l.take j) := fun hl => by
  rw [List.length_take] at hl
  obtain ⟨b, off, h1, h2, h3, h4⟩ := h (by omega)
  refine ⟨b, off, h1, h2, h3, fun k x hx => h4 k x ?_⟩
  rw [List.getElem?_take] at hx
  split at hx
  · exact hx
  · cases hx

theorem tgname_257 (w : World) : Calls Try.prog 17 #[.int .u16 257] w fun e w' => e = .returned (.string ⟨#[115, 101, 114, 118, 105, 99, 101]⟩) ∧ Below w.heap.size w w' := tgname_any 257 (by omega) w _ rfl

set_option maxHeartbeats 2000000 in
theorem speaks21 (w : World) : Calls Try.prog 7 #[] w fun e w' => e = .returned (.bool true) ∧ Below w.heap.size w w' := by
  have h2 := litg (F := fun _ => True) w (T := 50) (A := none) (t := 257) (n := 0) (c := 0) (l := []) rfl (Nat.le_refl 0) RdF.nil
  have HR2 := Lib.hid (show Rws shG (fun b => True ∨ w.heap.size ≤ b) (w.alloc (.cells #[.int .u16 257, .slice none 0 0] 50)) (some ⟨w.heap.size, 0, none⟩) [(257, [])] from h2.read)
  have hb2 := (Below.refl w.heap.size w).alloc (Nat.le_refl _) (.cells #[.int .u16 257, .slice none 0 0] 50)
  have B := Lib.hid hb2
  have HG := Lib.hid (show ByG [(257, [])] from fun o ho => by rcases List.mem_singleton.1 ho with rfl; exact ⟨by decide, By.nil⟩)
  clear h2 hb2
  go_enter Try.func7, Try.ntmps7
  go_wp2_with (go_at_call 9; (with_reducible refine (tgput_v [(257, [])] 0 rfl [1, 1, 0, 0] (by decide) 4 rfl 1 1 _ _ _ HR2.out rfl (by omega) (by decide) HG.out).mono ?_); rintro e w3 ⟨A3, c3, rfl, h3, h3c, hb⟩; have B3 := Lib.hid (B.out.trans (hb.mono B.out.size)); have H3 := Lib.hid h3; clear h3 h3c hb)
  have HL4 := Lib.hid (show Rd (w3.alloc (.cells #[.int .u8 1, .int .u8 1, .int .u8 0, .int .u8 0] 5)) (w3.alloc (.cells #[.int .u8 1, .int .u8 1, .int .u8 0, .int .u8 0] 5)).heap.size (some ⟨w3.heap.size, 0, none⟩) [1, 1, 0, 0] from Rd.lit_ w3 [1, 1, 0, 0])
  have hb4 := Lib.hid ((Below.refl w3.heap.size w3).alloc (Nat.le_refl _) (.cells #[.int .u8 1, .int .u8 1, .int .u8 0, .int .u8 0] 5))
  go_wp2_with (first
    | (go_at_call 14; (with_reducible refine (equal_yes [1, 1, 0, 0] [1, 1, 0, 0] 4 4 _ _ _ _ _ (H3.out.on hb4.out) HL4.out rfl rfl (by omega) rfl).mono ?_); rintro e w5 ⟨rfl, hb⟩; have B5 := Lib.hid ((B3.out.trans (hb4.out.mono B3.out.size)).trans (hb.mono (Nat.le_trans B3.out.size hb4.out.size))); clear hb)
    | (go_at_call 17; (with_reducible refine (tgname_257 _).mono ?_); rintro e w6 ⟨rfl, hb⟩; replace B5 := Lib.hid (B5.out.trans (hb.mono B5.out.size)); clear hb))
  go_ret
  exact ⟨rfl, B5.out⟩
end Go.Proofs.Ytldadfmcganejaa
