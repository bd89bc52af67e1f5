
/-
  What the program's written and Put of layer 15 answer. No condition beyond: packets that Go may have, at most 2^30 elements in each slice.
-/
import Derived.Test.YtmhjnghomihjlaaGreatLcpA
import Derived.Test.YtmhjnghomihjlaaGreatGPkt
namespace Go.Proofs.YtmhjnghomihjlaaGreat
set_option maxRecDepth 4000
open Go.RowKit

theorem pput_lcp (l : List (Nat × List Nat)) (m : List Nat) (q : Nat) (hm : putO 49185 l = (m, q)) (k : Nat) (hk : m.length = k) (n c : Nat) (A : Option Addr) (F : Nat → Prop) (w : World) (h : Rws shO F w A l) (ho : ByO l) (hl : l.length = n) (hn : n ≤ 68719476736) (hd : datB l ≤ 68719476736) :
    Calls Tryz.prog 120 #[.int .u16 49185, .slice A n c] w fun e w' => ∃ A' c', e = .returned (.tuple #[.slice A' k c', .int .i64 (q : Int)]) ∧ Rd w' w'.heap.size A' m ∧ k ≤ c' ∧ Below w.heap.size w w' :=
  pput_any 49185 l m q hm k hk n c A F w h ho hl hn hd

theorem loct_2 (v : Nat) (w : World) : Calls Tryz.prog 121 #[.int .u64 (v : Int), .int .i64 2] w fun e w' => ∃ A c, e = .returned (.slice A 2 c) ∧ 2 ≤ c ∧ Rd w' w'.heap.size A (numB v 2) ∧ Below w.heap.size w w' := loct_any v 2 (by decide) 2 rfl w
theorem loct_4 (v : Nat) (w : World) : Calls Tryz.prog 121 #[.int .u64 (v : Int), .int .i64 4] w fun e w' => ∃ A c, e = .returned (.slice A 4 c) ∧ 4 ≤ c ∧ Rd w' w'.heap.size A (numB v 4) ∧ Below w.heap.size w w' := loct_any v 4 (by decide) 4 rfl w

set_option maxHeartbeats 4000000 in
theorem lwr_opts (p : Pk) (q : Pl) (w : World) (h : Pw w p q) (hok : p.ok) (hs : p.sm) (hc : hasL p.code = 1) (m : List Nat) (k : Nat) (hm : wrL p = (m, k)) (n : Nat) (hn : m.length = n) :
    Calls Tryz.prog 113 #[p.val q] w fun e w' => ∃ A c, e = .returned (.tuple #[.slice A n c, .int .i64 (k : Int)]) ∧ Rd w' w'.heap.size A m ∧ n ≤ c ∧ Below w.heap.size w w' := by
  have C := Lib.hid (BxC.made 40 w p q)
  have H := Lib.hid h
  have HC := Lib.hid hc
  have HM := Lib.hid (show putO 49185 p.opts = (m, k) by rw [← hm, wrL, if_pos hc])
  have HN := Lib.hid hn
  have HO := Lib.hid hok.opts
  have HD := Lib.hid (Nat.le_trans hs.d (by decide) : datB p.opts ≤ 68719476736)
  have s1 : q.no ≤ 68719476736 := by rw [← h.lo]; exact Nat.le_trans hs.o (by decide)
  clear h hc hm hn hok hs
  go_enter Tryz.func113, Tryz.ntmps113
  go_wp2_with (first
    | (go_at_call 108; (with_reducible refine (lhas_v p.code _ HC.out _).mono ?_); rintro e wn ⟨rfl, hb⟩; replace C := Lib.hid (C.out.step hb); clear hb; obtain ⟨x0, x1, x2, x3, x4, x5, x6, x7, x8, x9⟩ := C.out.cf.all)
    | (go_at_call 120; (with_reducible refine (pput_lcp p.opts m k HM.out n HN.out q.no q.co q.ao _ _ (H.out.on C.out.bel).ro HO.out H.out.lo s1 HD.out).mono ?_); rintro e wn ⟨A4, c4, rfl, h4, h4c, hb⟩; replace C := Lib.hid (C.out.step hb); have X := Lib.hid h4; have K := Lib.hid h4c; clear h4 h4c hb))
  go_ret2
  exact ⟨_, _, rfl, X.out, K.out, C.out.bel⟩

set_option maxHeartbeats 4000000 in
theorem lwr_data (p : Pk) (q : Pl) (w : World) (h : Pw w p q) (hc : hasL p.code = 0) (m : List Nat) (k : Nat) (hm : wrL p = (m, k)) (n : Nat) (hn : m.length = n) :
    Calls Tryz.prog 113 #[p.val q] w fun e w' => ∃ A c, e = .returned (.tuple #[.slice A n c, .int .i64 (k : Int)]) ∧ Rd w' w'.heap.size A m ∧ n ≤ c ∧ Below w.heap.size w w' := by
  have C := Lib.hid (BxC.made 40 w p q)
  have H := Lib.hid h
  have HC := Lib.hid hc
  obtain ⟨rfl, rfl⟩ : p.data = m ∧ 0 = k := by
    rw [wrL, hc] at hm
    exact ⟨(Prod.mk.inj hm).1, (Prod.mk.inj hm).2⟩
  obtain rfl : q.nd = n := h.ld.symm.trans hn
  clear h hc hm hn
  go_enter Tryz.func113, Tryz.ntmps113
  go_wp2_with (first
    | (go_at_call 108; (with_reducible refine (lhas_v p.code _ HC.out _).mono ?_); rintro e wn ⟨rfl, hb⟩; replace C := Lib.hid (C.out.step hb); clear hb; obtain ⟨x0, x1, x2, x3, x4, x5, x6, x7, x8, x9⟩ := C.out.cf.all))
  go_ret2
  exact ⟨_, _, rfl, (H.out.on C.out.bel).rd, H.out.kd, C.out.bel⟩

set_option maxHeartbeats 8000000 in
theorem lwr_sub (p : Pk) (q : Pl) (w : World) (h : Pw w p q) (hok : p.ok) (hs : p.sm) (hc : hasL p.code = 2) (m : List Nat) (k : Nat) (hm : wrL p = (m, k)) (n : Nat) (hn : m.length = n) :
    Calls Tryz.prog 113 #[p.val q] w fun e w' => ∃ A c, e = .returned (.tuple #[.slice A n c, .int .i64 (k : Int)]) ∧ Rd w' w'.heap.size A m ∧ n ≤ c ∧ Below w.heap.size w w' := by
  have C := Lib.hid (BxC.made 40 w p q)
  have H := Lib.hid h
  have HC := Lib.hid hc
  obtain ⟨hm1, rfl⟩ : numB p.sub 2 ++ p.data = m ∧ 0 = k := by
    rw [wrL, hc] at hm
    exact ⟨(Prod.mk.inj hm).1, (Prod.mk.inj hm).2⟩
  have FL := Lib.hid (show [numB p.sub 2, p.data].flatten = m by rw [← hm1]; simp)
  have LN := Lib.hid (show [numB p.sub 2, p.data].flatten.length = n by rw [FL.out, hn])
  have LE := Lib.hid (show [numB p.sub 2, p.data].flatten.length ≤ 1099511627776 by have := hs.nd; simp [num_len]; omega)
  have i1 : IntKind.u64.wrap (p.sub : Int) = (p.sub : Int) := by have := hok.sub; rw [IntKind.wrap_u64]; omega
  clear h hc hm hn hm1 hok hs
  go_enter Tryz.func113, Tryz.ntmps113
  go_wp2_with (first
    | (go_at_call 108; (with_reducible refine (lhas_v p.code _ HC.out _).mono ?_); rintro e wm ⟨rfl, hb⟩; replace C := Lib.hid (C.out.step hb); clear hb; obtain ⟨x0, x1, x2, x3, x4, x5, x6, x7, x8, x9⟩ := C.out.cf.all))
  clear x0 x1 x2 x3 x5 x6 x7 x9
  go_region_held3 (fun W => W.cell? ⟨w.heap.size, 4, none⟩ = some (.int .u16 (p.sub : Int)) ∧ W.cell? ⟨w.heap.size, 8, none⟩ = some (.slice q.ad q.nd q.cd)) (first | (with_reducible exact C.out.c48) | (with_reducible exact (C.out.step (Below.refl _ _).drew).c48) | (with_reducible exact (C.out.step ((Below.refl wn.heap.size wn).alloc (Nat.le_refl _) _)).c48)) (first
    | (go_at_call 121; (with_reducible refine (loct_2 p.sub _).mono ?_); rintro e wn ⟨A1, c1, rfl, hc1, h1, hb⟩; replace C := Lib.hid (C.out.step hb); have R := Lib.hid h1; clear h1 hb; dsimp only)
    | (go_at_call 22; (with_reducible refine (concat_2 (numB p.sub 2) p.data m _ 2 _ (rr_two wn A1 q.ad (numB p.sub 2) p.data 2 q.nd c1 q.cd _ R.out (H.out.on C.out.bel).rd (num_len _ _) H.out.ld) LE.out FL.out n LN.out).mono ?_); rintro e wk ⟨A2, c2, rfl, h2, hc2, hb⟩; replace C := Lib.hid (C.out.step hb ((Below.refl wn.heap.size wn).alloc (Nat.le_refl _) _)); clear R; have R := Lib.hid h2; have K := Lib.hid hc2; clear h2 hc2 hb; dsimp only))
  all_goals
    go_wp2_with fail
    go_ret2
    exact ⟨_, _, rfl, R.out, K.out, C.out.bel⟩


set_option maxHeartbeats 8000000 in
theorem lwr_magic (p : Pk) (q : Pl) (w : World) (h : Pw w p q) (hok : p.ok) (hs : p.sm) (hc : hasL p.code = 3) (m : List Nat) (k : Nat) (hm : wrL p = (m, k)) (n : Nat) (hn : m.length = n) :
    Calls Tryz.prog 113 #[p.val q] w fun e w' => ∃ A c, e = .returned (.tuple #[.slice A n c, .int .i64 (k : Int)]) ∧ Rd w' w'.heap.size A m ∧ n ≤ c ∧ Below w.heap.size w w' := by
  have C := Lib.hid (BxC.made 40 w p q)
  have H := Lib.hid h
  have HC := Lib.hid hc
  obtain ⟨hm1, rfl⟩ : numB p.magic 4 ++ p.data = m ∧ 0 = k := by
    rw [wrL, hc] at hm
    exact ⟨(Prod.mk.inj hm).1, (Prod.mk.inj hm).2⟩
  have FL := Lib.hid (show [numB p.magic 4, p.data].flatten = m by rw [← hm1]; simp)
  have LN := Lib.hid (show [numB p.magic 4, p.data].flatten.length = n by rw [FL.out, hn])
  have LE := Lib.hid (show [numB p.magic 4, p.data].flatten.length ≤ 1099511627776 by have := hs.nd; simp [num_len]; omega)
  have i1 : IntKind.u64.wrap (p.magic : Int) = (p.magic : Int) := by have := hok.magic; rw [IntKind.wrap_u64]; omega
  clear h hc hm hn hm1 hok hs
  go_enter Tryz.func113, Tryz.ntmps113
  go_wp2_with (first
    | (go_at_call 108; (with_reducible refine (lhas_v p.code _ HC.out _).mono ?_); rintro e wm ⟨rfl, hb⟩; replace C := Lib.hid (C.out.step hb); clear hb; obtain ⟨x0, x1, x2, x3, x4, x5, x6, x7, x8, x9⟩ := C.out.cf.all))
  clear x0 x1 x2 x3 x4 x6 x7 x9
  go_region_held3 (fun W => W.cell? ⟨w.heap.size, 5, none⟩ = some (.int .u32 (p.magic : Int)) ∧ W.cell? ⟨w.heap.size, 8, none⟩ = some (.slice q.ad q.nd q.cd)) (first | (with_reducible exact C.out.c58) | (with_reducible exact (C.out.step (Below.refl _ _).drew).c58) | (with_reducible exact (C.out.step ((Below.refl wn.heap.size wn).alloc (Nat.le_refl _) _)).c58)) (first
    | (go_at_call 121; (with_reducible refine (loct_4 p.magic _).mono ?_); rintro e wn ⟨A1, c1, rfl, hc1, h1, hb⟩; replace C := Lib.hid (C.out.step hb); have R := Lib.hid h1; clear h1 hb; dsimp only)
    | (go_at_call 22; (with_reducible refine (concat_2 (numB p.magic 4) p.data m _ 2 _ (rr_two wn A1 q.ad (numB p.magic 4) p.data 4 q.nd c1 q.cd _ R.out (H.out.on C.out.bel).rd (num_len _ _) H.out.ld) LE.out FL.out n LN.out).mono ?_); rintro e wk ⟨A2, c2, rfl, h2, hc2, hb⟩; replace C := Lib.hid (C.out.step hb ((Below.refl wn.heap.size wn).alloc (Nat.le_refl _) _)); clear R; have R := Lib.hid h2; have K := Lib.hid hc2; clear h2 hc2 hb; dsimp only))
  all_goals
    go_wp2_with fail
    go_ret2
    exact ⟨_, _, rfl, R.out, K.out, C.out.bel⟩

end Go.Proofs.YtmhjnghomihjlaaGreat
