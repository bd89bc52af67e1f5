
/-
  PapTells' walk. No condition.
-/
import Derived.Test.YtbagdaidhnegaaaPapM
import Derived.Test.YtbagdaidhnegaaaPapR
import Derived.Test.YtbagdaidhnegaaaPapS
import Derived.Test.YtbagdaidhnegaaaPktH
import Derived.Deep.CutRange
import Derived.Deep.RegionHeld3
namespace Go.Proofs.Ytbagdaidhnegaaa
open Go.RowKit
set_option linter.unusedVariables false


set_option maxHeartbeats 4000000 in
theorem atell_early (p : Pk) (q : Pl) (A1 : Option Addr) (n1 c1 : Nat) (w : World) (h : IsPk w p q) (hh : ¬ (fewP p = true ∧ n1 ≤ 600)) :
    Calls Try.prog 3 #[p.val q, .slice A1 n1 c1] w fun e w' => e = .returned (.bool true) ∧ Below w.heap.size w w' := by
  have C := Lib.hid (BxC.made 28 w p q)
  have H := Lib.hid h.pw
  have hno := h.no
  have HD := Lib.hid h.od
  cases hf : fewP p
  · have HF := Lib.hid hf
    clear hf hh h
    go_enter Try.func3, Try.ntmps3
    go_wp2_with (first
      | (go_at_call 6; (with_reducible refine (speaks17 _).mono ?_); rintro e wn ⟨rfl, hb⟩; replace C := Lib.hid (C.out.step hb); clear hb; (try clear x0 x1 x2 x3 x4 x5 x6 x7 x8 x9); obtain ⟨x0, x1, x2, x3, x4, x5, x6, x7, x8, x9⟩ := C.out.cf.all)
      | (go_at_call 7; (with_reducible refine (few15_any p q _ (H.out.on C.out.bel) hno HD.out _ HF.out).mono ?_); rintro e wn ⟨rfl, hb⟩; replace C := Lib.hid (C.out.step hb); clear hb; (try clear x0 x1 x2 x3 x4 x5 x6 x7 x8 x9); obtain ⟨x0, x1, x2, x3, x4, x5, x6, x7, x8, x9⟩ := C.out.cf.all))
    go_ret
    exact ⟨rfl, C.out.bel⟩
  · have j1 : (600 : Int) < (n1 : Int) := by
      have : ¬ n1 ≤ 600 := fun h1 => hh ⟨hf, h1⟩
      omega
    have HF := Lib.hid hf
    clear hf hh h
    go_enter Try.func3, Try.ntmps3
    go_wp2_with (first
      | (go_at_call 6; (with_reducible refine (speaks17 _).mono ?_); rintro e wn ⟨rfl, hb⟩; replace C := Lib.hid (C.out.step hb); clear hb; (try clear x0 x1 x2 x3 x4 x5 x6 x7 x8 x9); obtain ⟨x0, x1, x2, x3, x4, x5, x6, x7, x8, x9⟩ := C.out.cf.all)
      | (go_at_call 7; (with_reducible refine (few15_any p q _ (H.out.on C.out.bel) hno HD.out _ HF.out).mono ?_); rintro e wn ⟨rfl, hb⟩; replace C := Lib.hid (C.out.step hb); clear hb; (try clear x0 x1 x2 x3 x4 x5 x6 x7 x8 x9); obtain ⟨x0, x1, x2, x3, x4, x5, x6, x7, x8, x9⟩ := C.out.cf.all))
    go_ret
    exact ⟨rfl, C.out.bel⟩

set_option maxRecDepth 2000 in
set_option maxHeartbeats 40000000 in
theorem atell_walk (p : Pk) (q : Pl) (b : List Nat) (A1 : Option Addr) (n1 c1 : Nat) (w : World) (h : IsPk w p q) (hR : Rd w w.heap.size A1 b) (hB : By b) (hL : b.length = n1) (hc1 : n1 ≤ c1) (hf : fewP p = true) (h1 : n1 ≤ 600) :
    Calls Try.prog 3 #[p.val q, .slice A1 n1 c1] w fun e w' => e = .returned (.bool true) ∧ Below w.heap.size w w' := by
  have C := Lib.hid (BxC.made 28 w p q)
  have H := Lib.hid h.pw
  have hno := h.no
  have HD := Lib.hid h.od
  have HK := Lib.hid h.ok
  have HF := Lib.hid hf
  have HS := Lib.hid (fewP_sm hf)
  have HR := Lib.hid hR
  have HB := Lib.hid hB
  have HL := Lib.hid hL
  have hno2 : q.no ≤ 1073741824 := by rw [← h.pw.lo]; exact (fewP_sm hf).o
  have j1 : ¬ (600 : Int) < (n1 : Int) := by omega
  obtain ⟨m, k, hm⟩ : ∃ m k, Hid (aputB p = (m, k)) := ⟨_, _, Lib.hid rfl⟩
  obtain ⟨n, hn⟩ : ∃ n, Hid (m.length = n) := ⟨_, Lib.hid rfl⟩
  have n9 : n ≤ 2000 := by rw [← hn.out]; exact aput_len hm.out hf
  obtain ⟨y, k2, hy⟩ : ∃ y k2, Hid (agetB b = (y, k2)) := ⟨_, _, Lib.hid rfl⟩
  have HY := Lib.hid (aget_ok hB hy.out (by omega)).2
  clear h hR hB hL hf
  go_enter Try.func3, Try.ntmps3
  go_wp2_with (first
    | (go_at_call 6; (with_reducible refine (speaks17 _).mono ?_); rintro e wn ⟨rfl, hb⟩; replace C := Lib.hid (C.out.step hb); clear hb; (try clear x0 x1 x2 x3 x4 x5 x6 x7 x8 x9); obtain ⟨x0, x1, x2, x3, x4, x5, x6, x7, x8, x9⟩ := C.out.cf.all)
    | (go_at_call 7; (with_reducible refine (few15_any p q _ (H.out.on C.out.bel) hno HD.out _ HF.out).mono ?_); rintro e wn ⟨rfl, hb⟩; replace C := Lib.hid (C.out.step hb); clear hb; (try clear x0 x1 x2 x3 x4 x5 x6 x7 x8 x9); obtain ⟨x0, x1, x2, x3, x4, x5, x6, x7, x8, x9⟩ := C.out.cf.all)
    | (go_at_call 9; (with_reducible refine (of15_any p q _ (H.out.on C.out.bel) hno2).mono ?_); rintro e wn ⟨r, rfl, hp, hb⟩; have P := Lib.hid hp; replace C := Lib.hid (C.out.step hb); clear hp hb; clear x0 x1 x2 x3 x4 x5 x6 x7 x8 x9; obtain ⟨x0, x1, x2, x3, x4, x5, x6, x7, x8, x9⟩ := C.out.cf.all)
    | (go_at_call 8; (with_reducible refine (aput_any p r _ P.out HS.out m k hm.out n hn.out).mono ?_); rintro e wn ⟨A5, c5, rfl, h5, h5c, hb⟩; replace C := Lib.hid (C.out.step hb); have X5 := Lib.hid h5; clear h5 h5c hb P; clear x0 x1 x2 x3 x4 x5 x6 x7 x8 x9; obtain ⟨x0, x1, x2, x3, x4, x5, x6, x7, x8, x9⟩ := C.out.cf.all)
    | (go_at_call 10; (with_reducible refine (arp_any p q _ (H.out.on C.out.bel) HS.out m k hm.out n hn.out).mono ?_); rintro e wn ⟨A6, c6, rfl, h6, h6c, hb⟩; replace C := Lib.hid (C.out.step hb); replace X5 := Lib.hid (X5.out.ons hb); have X6 := Lib.hid h6; clear h6 h6c hb; clear x0 x1 x2 x3 x4 x5 x6 x7 x8 x9)
    | (go_at_call 11; (with_reducible refine (aget_any b n1 c1 A1 _ (HR.out.ons C.out.bel) HB.out HL.out (by omega) hc1 y k2 hy.out).mono ?_); rintro e w9 ⟨q1, rfl, hp1, hb⟩; have ba := (Below.refl w9.heap.size w9).alloc (Nat.le_refl _) (y.obj q1 36); have P1 := Lib.hid (hp1.pw.on ba); have XX1 := Lib.hid (px_new w9 36 y q1); replace X5 := Lib.hid ((X5.out.ons hb).ons ba); replace X6 := Lib.hid ((X6.out.ons hb).ons ba); replace C := Lib.hid ((C.out.step hb).step ba); clear hp1 hb ba)
    | (go_at_call 12; (with_reducible refine (arg_any b n1 c1 A1 _ (HR.out.ons C.out.bel) HB.out HL.out (by omega) hc1 y k2 hy.out).mono ?_); rintro e w11 ⟨q2, rfl, hp2, hb⟩; have ba := (Below.refl w11.heap.size w11).alloc (Nat.le_refl _) (y.obj q2 28); have Z := Lib.hid (show TeL w (w11.alloc (y.obj q2 28)) w9.heap.size w11.heap.size y q1 q2 A5 A6 m from ⟨((C.out.step hb).step ba).bel, (XX1.out.below hb).below ba, px_new w11 28 y q2, (P1.out.on hb).on ba, hp2.on ba, (X5.out.ons hb).ons ba, (X6.out.ons hb).ons ba⟩); clear hp2 hb ba P1 XX1 X5 X6 C))
  obtain ⟨x0, x1, x2, x3, x4, x5, x6, x7, x8, x9, y0, y1, y2, y3, y4, y5, y6, y7, y8, y9⟩ := Z.out.flat
  go_region_held3 (fun W => W.cell? ⟨w9.heap.size, 0, none⟩ = some (.int .u16 (y.proto : Int)) ∧ W.cell? ⟨w9.heap.size, 1, none⟩ = some (.int .u8 (y.code : Int)) ∧ W.cell? ⟨w9.heap.size, 2, none⟩ = some (.int .u8 (y.id : Int)) ∧ W.cell? ⟨w9.heap.size, 3, none⟩ = some (.slice q1.ao q1.no q1.co) ∧ W.cell? ⟨w9.heap.size, 4, none⟩ = some (.int .u16 (y.sub : Int)) ∧ W.cell? ⟨w9.heap.size, 5, none⟩ = some (.int .u32 (y.magic : Int)) ∧ W.cell? ⟨w9.heap.size, 6, none⟩ = some (.slice q1.a1 q1.n1 q1.c1) ∧ W.cell? ⟨w9.heap.size, 7, none⟩ = some (.slice q1.a2 q1.n2 q1.c2) ∧ W.cell? ⟨w9.heap.size, 8, none⟩ = some (.slice q1.ad q1.nd q1.cd) ∧ W.cell? ⟨w9.heap.size, 9, none⟩ = some (.slice q1.an q1.nn q1.cn) ∧ W.cell? ⟨w11.heap.size, 0, none⟩ = some (.int .u16 (y.proto : Int)) ∧ W.cell? ⟨w11.heap.size, 1, none⟩ = some (.int .u8 (y.code : Int)) ∧ W.cell? ⟨w11.heap.size, 2, none⟩ = some (.int .u8 (y.id : Int)) ∧ W.cell? ⟨w11.heap.size, 3, none⟩ = some (.slice q2.ao q2.no q2.co) ∧ W.cell? ⟨w11.heap.size, 4, none⟩ = some (.int .u16 (y.sub : Int)) ∧ W.cell? ⟨w11.heap.size, 5, none⟩ = some (.int .u32 (y.magic : Int)) ∧ W.cell? ⟨w11.heap.size, 6, none⟩ = some (.slice q2.a1 q2.n1 q2.c1) ∧ W.cell? ⟨w11.heap.size, 7, none⟩ = some (.slice q2.a2 q2.n2 q2.c2) ∧ W.cell? ⟨w11.heap.size, 8, none⟩ = some (.slice q2.ad q2.nd q2.cd) ∧ W.cell? ⟨w11.heap.size, 9, none⟩ = some (.slice q2.an q2.nn q2.cn)) (first | (with_reducible exact Z.out.flat) | (with_reducible exact Z.out.drew.flat)) (first
    | (go_at_call 13; (first | (with_reducible refine (equal_yes m m n n _ _ _ _ _ Z.out.ra Z.out.rb hn.out hn.out (by omega) rfl).mono ?_) | (with_reducible refine (equal_yes m m n n _ _ _ _ _ Z.out.drew.ra Z.out.drew.rb hn.out hn.out (by omega) rfl).mono ?_)); rintro e wn ⟨rfl, hb⟩; replace Z := Lib.hid (Z.out.step hb); clear hb; dsimp only)
    | (go_at_call 15; (first | (with_reducible refine (to15_any y q1 _ Z.out.p1 (by rw [← Z.out.p1.lo]; exact HY.out.o)).mono ?_) | (with_reducible refine (to15_any y q1 _ Z.out.drew.p1 (by rw [← Z.out.p1.lo]; exact HY.out.o)).mono ?_)); rintro e wn ⟨q3, rfl, hp3, hb⟩; replace Z := Lib.hid (Z.out.step hb); have P3 := Lib.hid hp3; clear hp3 hb; dsimp only)
    | (go_at_call 14; (with_reducible refine (psame_yes y q3 q2 _ P3.out Z.out.p2 HY.out).mono ?_); rintro e wn ⟨rfl, hb⟩; replace Z := Lib.hid (Z.out.step hb); clear hb P3; dsimp only))
  all_goals go_wp2_with fail
  all_goals
    go_ret
    exact ⟨rfl, Z.out.bel⟩
end Go.Proofs.Ytbagdaidhnegaaa
