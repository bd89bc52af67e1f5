
/-
  Control packets: what is read of what is written; the calls as the laws' walks want them: results by name; the example. No condition beyond: octets below 256, data of at most 2^38 octets.
-/
import Derived.Test.YtcmapiaacimbeaaCtlG
namespace Go.Proofs.Ytcmapiaacimbeaa
open Go.RowKit

theorem kfirst_put (x y : Nat) (l t : List Nat) : kfirstB (kputB x y l ++ t) = (l.length + 4, 0) := by
  have e : 256 * ((l.length + 4) / 256) + (l.length + 4) % 256 = l.length + 4 := by omega
  have h := kfirst_at (l := kputB x y l ++ t) (x := (l.length + 4) / 256) (y := (l.length + 4) % 256) (n := l.length + 4 + t.length) (by simp [kputB]) (by simp [kputB]) (by rw [List.length_append, kput_len])
  rw [h, e, if_neg (by omega), if_neg (by omega)]
/-- A packet is read as it was written, whatever stands behind it. -/
theorem kget_put (x y : Nat) (l t : List Nat) : kgetB (kputB x y l ++ t) = (x, y, l, 0) := by
  rw [kget_good (kfirst_put x y l t) (x := x) (y := y) (by simp [kputB]) (by simp [kputB])]
  have e : ((kputB x y l ++ t).take (l.length + 4)).drop 4 = l := by
    rw [List.take_append_of_le_length (by rw [kput_len]; exact Nat.le_refl _), List.take_of_length_le (by rw [kput_len]; exact Nat.le_refl _)]
    rfl
  rw [e]
theorem kpad_put (x y : Nat) (l t : List Nat) : kpadB (kputB x y l ++ t) = t.length := by
  rw [kpadB, kfirst_put, if_pos rfl, List.length_append, kput_len]; omega
/-- A packet that is cut off. -/
theorem kfirst_cut (x y : Nat) (l : List Nat) (k : Nat) (hk : k < l.length + 4) : kfirstB ((kputB x y l).take k) = (0, 2) := by
  have hl : ((kputB x y l).take k).length = k := by rw [List.length_take, kput_len]; omega
  rcases Nat.lt_or_ge k 4 with h4 | h4
  · exact kfirst_short (by omega)
  · have e : 256 * ((l.length + 4) / 256) + (l.length + 4) % 256 = l.length + 4 := by omega
    have h := kfirst_at (l := (kputB x y l).take k) (x := (l.length + 4) / 256) (y := (l.length + 4) % 256) (n := k) (by rw [List.getElem?_take_of_lt (by omega)]; rfl) (by rw [List.getElem?_take_of_lt (by omega)]; rfl) hl
    rw [h, e, if_neg (by omega), if_pos hk]
theorem kget_cut (x y : Nat) (l : List Nat) (k : Nat) (hk : k < l.length + 4) : kgetB ((kputB x y l).take k) = (0, 0, [], 2) := kget_bad (kfirst_cut x y l k hk) (by decide)
theorem kpad_cut (x y : Nat) (l : List Nat) (k : Nat) (hk : k < l.length + 4) : kpadB ((kputB x y l).take k) = 0 := by rw [kpadB, kfirst_cut x y l k hk, if_neg (by decide)]
theorem kget_no {l : List Nat} {x y e : Nat} {d : List Nat} (h : kgetB l = (x, y, d, e)) (he : ¬ e = 0) : x = 0 ∧ y = 0 ∧ d = [] ∧ kpadB l = 0 := by
  unfold kgetB at h
  split at h
  · injection h with _ h
    injection h with _ h
    injection h with _ h
    exact absurd h.symm he
  · rename_i h2
    injection h with h3 h
    injection h with h4 h
    injection h with h5 h
    exact ⟨h3.symm, h4.symm, h5.symm, by rw [kpadB, if_neg h2]⟩
/-- What octets begin with is what is written of it. -/
theorem kput_get {l : List Nat} (hb : By l) {x y : Nat} {d : List Nat} (h : kgetB l = (x, y, d, 0)) : x < 256 ∧ y < 256 ∧ d.length ≤ 65531 ∧ kpadB l ≤ l.length ∧ kputB x y d = l.take (l.length - kpadB l) := by
  by_cases h2 : (kfirstB l).2 = 0
  · obtain ⟨f1, f2, f3⟩ := kfirst_ok h2
    obtain ⟨f, hf⟩ : ∃ f, (kfirstB l).1 = f := ⟨_, rfl⟩
    have hf2 : kfirstB l = (f, 0) := by rw [← hf, ← h2]
    rw [hf] at f1 f2
    match l, hb, f3 with
    | a :: b :: p :: q :: t, hb, f3 =>
      have hp : p < 256 := hb p (by simp)
      have hq : q < 256 := hb q (by simp)
      have ha : a < 256 := hb a (by simp)
      have hb1 : b < 256 := hb b (by simp)
      have hg := kget_good hf2 (x := a) (y := b) rfl rfl
      rw [hg] at h
      injection h with h3 h
      injection h with h4 h
      injection h with h5 h
      have h6 := kfirst_at (l := a :: b :: p :: q :: t) (x := p) (y := q) rfl rfl rfl
      rw [hf2] at h6
      have hfe : f = 256 * p + q := by
        split at h6
        · injection h6 with _ h7; exact absurd h7 (by decide)
        · split at h6
          · injection h6 with _ h7; exact absurd h7 (by decide)
          · injection h6
      have hpad : kpadB (a :: b :: p :: q :: t) = (a :: b :: p :: q :: t).length - f := by rw [kpadB, hf2, if_pos rfl]
      rw [hpad]
      obtain ⟨g, hg2⟩ : ∃ g, f = g + 4 := ⟨f - 4, by omega⟩
      have hd : d = t.take g := by rw [← h5, hg2]; rfl
      have hlen : (a :: b :: p :: q :: t).length = t.length + 4 := rfl
      rw [hlen] at f2 ⊢
      have hdl : d.length = g := by rw [hd, List.length_take]; omega
      refine ⟨by omega, by omega, by omega, by omega, ?_⟩
      have e1 : (d.length + 4) / 256 = p := by omega
      have e2 : (d.length + 4) % 256 = q := by omega
      have e3 : t.length + 4 - (t.length + 4 - f) = g + 4 := by omega
      unfold kputB
      rw [e1, e2, e3, hd, ← h3, ← h4]
      rfl
  · have := kget_bad (l := l) (f := (kfirstB l).1) (e := (kfirstB l).2) rfl h2
    rw [this] at h
    injection h with _ h
    injection h with _ h
    injection h with _ h
    exact absurd h h2

theorem kget_bytes {l : List Nat} (hb : By l) {x y e : Nat} {d : List Nat} (h : kgetB l = (x, y, d, e)) : By d ∧ d.length ≤ l.length := by
  unfold kgetB at h
  split at h
  · injection h with _ h
    injection h with _ h
    injection h with h _
    rw [← h]
    refine ⟨(hb.take _).drop _, ?_⟩
    rw [List.length_drop, List.length_take]; omega
  · injection h with _ h
    injection h with _ h
    injection h with h _
    rw [← h]
    exact ⟨By.nil, Nat.zero_le _⟩
theorem kerrP_ok {l : List Nat} (h : l.length ≤ 65531) : kerrP l = 0 := by unfold kerrP; rw [if_pos h]
theorem kputA_ok (x y : Nat) {l : List Nat} (h : l.length ≤ 65531) : kputA x y l = kputB x y l := by unfold kputA; rw [if_pos h]

theorem cput_v (x y : Nat) (l : List Nat) (q : Nat) (hq : kerrP l = q) (m : List Nat) (hm : kputA x y l = m) (k : Nat) (hk : m.length = k) (n c : Nat) (A : Option Addr) (w : World) (h : Rd w w.heap.size A l) (hl : l.length = n) :
    Calls Try.prog 22 #[.int .u8 (x : Int), .int .u8 (y : Int), .slice A n c] w fun e w' => ∃ A' c', e = .returned (.tuple #[.slice A' k c', .int .i64 (q : Int)]) ∧ Rd w' w'.heap.size A' m ∧ k ≤ c' ∧ Below w.heap.size w w' :=
  (cput_any x y l n c A w h hl).mono fun _ _ ⟨A', c', k', h1, h2⟩ => by
    rw [hq] at h1
    rw [hm] at h2
    obtain rfl : k = k' := by rw [← hk, h2.1]
    exact ⟨A', c', h1, h2.2.2.1, own_cap h2.2.1, h2.2.2.2⟩
theorem krput_v (x y : Nat) (l : List Nat) (q : Nat) (hq : kerrP l = q) (m : List Nat) (hm : kputA x y l = m) (k : Nat) (hk : m.length = k) (n c : Nat) (A : Option Addr) (w : World) (h : Rd w w.heap.size A l) (hl : l.length = n) (hn : n ≤ 274877906944) :
    Calls Try.prog 24 #[.int .u8 (x : Int), .int .u8 (y : Int), .slice A n c] w fun e w' => ∃ A' c', e = .returned (.tuple #[.slice A' k c', .int .i64 (q : Int)]) ∧ Rd w' w'.heap.size A' m ∧ k ≤ c' ∧ Below w.heap.size w w' :=
  (krput_any x y l n c A w h hl hn).mono fun _ _ ⟨A', c', k', h1, h2⟩ => by
    rw [hq] at h1
    rw [hm] at h2
    obtain rfl : k = k' := by rw [← hk, h2.1]
    exact ⟨A', c', h1, h2.2.2.1, own_cap h2.2.1, h2.2.2.2⟩
theorem cget_v (l : List Nat) (x y : Nat) (d : List Nat) (q : Nat) (hg : kgetB l = (x, y, d, q)) (k : Nat) (hk : d.length = k) (n c : Nat) (A : Option Addr) (w : World) (h : Rd w w.heap.size A l) (hb : By l) (hl : l.length = n) (hn : n ≤ 274877906944) (hc : n ≤ c) :
    Calls Try.prog 25 #[.slice A n c] w fun e w' => ∃ A' c', e = .returned (.tuple #[.int .u8 (x : Int), .int .u8 (y : Int), .slice A' k c', .int .i64 (q : Int)]) ∧ k ≤ c' ∧ Rd w' w'.heap.size A' d ∧ Below w.heap.size w w' :=
  (cget_any l n c A w h hb hl hn hc).mono fun _ _ ⟨A', c', k', h1, h2, h3, h4, h5⟩ => by
    rw [hg] at h1 h2 h4
    obtain rfl : k = k' := by rw [← hk, h2]
    exact ⟨A', c', h1, h3, h4, h5⟩
theorem krget_v (l : List Nat) (x y : Nat) (d : List Nat) (q : Nat) (hg : kgetB l = (x, y, d, q)) (k : Nat) (hk : d.length = k) (p : Nat) (hp : kpadB l = p) (n c : Nat) (A : Option Addr) (w : World) (h : Rd w w.heap.size A l) (hb : By l) (hl : l.length = n) (hn : n ≤ 274877906944) (hc : n ≤ c) :
    Calls Try.prog 28 #[.slice A n c] w fun e w' => ∃ A' c', e = .returned (.tuple #[.int .u8 (x : Int), .int .u8 (y : Int), .slice A' k c', .int .i64 (p : Int), .int .i64 (q : Int)]) ∧ k ≤ c' ∧ Rd w' w'.heap.size A' d ∧ Below w.heap.size w w' :=
  (krget_any l n c A w h hb hl hn hc).mono fun _ _ ⟨A', c', k', h1, h2, h3, h4, h5⟩ => by
    rw [hg] at h1 h2 h4
    rw [hp] at h1
    obtain rfl : k = k' := by rw [← hk, h2]
    exact ⟨A', c', h1, h3, h4, h5⟩

theorem kput_nine (w : World) : Calls Try.prog 22 #[.int .u8 9, .int .u8 1, .slice none 0 0] w fun e w' => ∃ A' c', e = .returned (.tuple #[.slice A' 4 c', .int .i64 0]) ∧ Rd w' w'.heap.size A' [9, 1, 0, 4] ∧ 4 ≤ c' ∧ Below w.heap.size w w' :=
  cput_v 9 1 [] 0 rfl [9, 1, 0, 4] rfl 4 rfl 0 0 none w Rd.nil rfl

end Go.Proofs.Ytcmapiaacimbeaa
