
/-
  NcpTells' walk. No condition.
-/
import Derived.Test.YtdnnincdbenjfaaNcpR
import Derived.Test.YtdnnincdbenjfaaNcpS
import Derived.Test.YtdnnincdbenjfaaPktH
import Derived.Deep.CutRange
import Derived.Deep.RegionHeld3
namespace Go.Proofs.Ytdnnincdbenjfaa
open Go.RowKit
set_option linter.unusedVariables false


set_option maxHeartbeats 4000000 in
theorem ntell_early (p : Pk) (q : Pl) (t : Int) (A1 : Option Addr) (n1 c1 : Nat) (w : World) (h : IsPk w p q) (hh : ¬ (fewP p = true ∧ n1 ≤ 600)) :
    Calls Try.prog 3 #[p.val q, .int .u16 t, .slice A1 n1 c1] w fun e w' => e = .returned (.bool true) ∧ Below w.heap.size w w' := by
  have C := Lib.hid (BxC.made 28 w p q)
  have H := Lib.hid h.pw
  have hno := h.no
  have HD := Lib.hid h.od
  cases hf : fewP p
  · have HF := Lib.hid hf
    clear hf hh h
    go_enter Try.func3, Try.ntmps3
    go_wp2_with (first
    | (go_at_call 6; (with_reducible refine (speaks16 _).mono ?_); rintro e wn ⟨rfl, hb⟩; replace C := Lib.hid (C.out.step hb); clear hb; (try clear x0 x1 x2 x3 x4 x5 x6 x7 x8 x9); obtain ⟨x0, x1, x2, x3, x4, x5, x6, x7, x8, x9⟩ := C.out.cf.all)
    | (go_at_call 7; (with_reducible refine (few15_any p q _ (H.out.on C.out.bel) hno HD.out _ HF.out).mono ?_); rintro e wn ⟨rfl, hb⟩; replace C := Lib.hid (C.out.step hb); clear hb; (try clear x0 x1 x2 x3 x4 x5 x6 x7 x8 x9); obtain ⟨x0, x1, x2, x3, x4, x5, x6, x7, x8, x9⟩ := C.out.cf.all))
    go_ret
    exact ⟨rfl, C.out.bel⟩
  · have j1 : (600 : Int) < (n1 : Int) := by
      have : ¬ n1 ≤ 600 := fun h1 => hh ⟨hf, h1⟩
      omega
    have HF := Lib.hid hf
    clear hf hh h
    go_enter Try.func3, Try.ntmps3
    go_wp2_with (first
    | (go_at_call 6; (with_reducible refine (speaks16 _).mono ?_); rintro e wn ⟨rfl, hb⟩; replace C := Lib.hid (C.out.step hb); clear hb; (try clear x0 x1 x2 x3 x4 x5 x6 x7 x8 x9); obtain ⟨x0, x1, x2, x3, x4, x5, x6, x7, x8, x9⟩ := C.out.cf.all)
    | (go_at_call 7; (with_reducible refine (few15_any p q _ (H.out.on C.out.bel) hno HD.out _ HF.out).mono ?_); rintro e wn ⟨rfl, hb⟩; replace C := Lib.hid (C.out.step hb); clear hb; (try clear x0 x1 x2 x3 x4 x5 x6 x7 x8 x9); obtain ⟨x0, x1, x2, x3, x4, x5, x6, x7, x8, x9⟩ := C.out.cf.all))
    go_ret
    exact ⟨rfl, C.out.bel⟩

set_option maxRecDepth 4000 in
set_option maxHeartbeats 40000000 in
theorem ntell_a (p : Pk) (q : Pl) (t : Nat) (ht : t = 32801) (t16 : t < 65536) (b : List Nat) (A1 : Option Addr) (n1 c1 : Nat) (w : World) (h : IsPk w p q) (hR : Rd w w.heap.size A1 b) (hB : By b) (hL : b.length = n1) (hc1 : n1 ≤ c1) (hf : fewP p = true) (h1 : n1 ≤ 600) :
    Calls Try.prog 3 #[p.val q, .int .u16 (t : Int), .slice A1 n1 c1] w fun e w' => e = .returned (.bool true) ∧ Below w.heap.size w w' := by
  have C := Lib.hid (BxC.made 28 w p q)
  have H := Lib.hid h.pw
  have hno := h.no
  have HD := Lib.hid h.od
  have HK := Lib.hid h.ok
  have HF := Lib.hid hf
  have HS := Lib.hid (fewP_sm hf)
  have HR := Lib.hid hR
  have HB := Lib.hid hB
  have HL := Lib.hid hL
  have hno2 : q.no ≤ 1073741824 := by rw [← h.pw.lo]; exact (fewP_sm hf).o
  have j1 : ¬ (600 : Int) < (n1 : Int) := by omega
  have wt : IntKind.i64.wrap (t : Int) = (t : Int) := IntWalk.i64_in _ (by omega)
  have q1' : ((t : Int) == 32801) = true := by simp; omega
  have HI := Lib.hid (show decide (t = 32801 ∨ t = 32855) = true by simp [ht])
  obtain ⟨m, k, hm⟩ : ∃ m k, Hid (nputB p = (m, k)) := ⟨_, _, Lib.hid rfl⟩
  obtain ⟨n, hn⟩ : ∃ n, Hid (m.length = n) := ⟨_, Lib.hid rfl⟩
  have n9 : n ≤ 2000 := by rw [← hn.out]; exact nput_len hm.out hf
  obtain ⟨y, k2, hy⟩ : ∃ y k2, Hid (ngetB t b = (y, k2)) := ⟨_, _, Lib.hid rfl⟩
  have HY := Lib.hid (nget_ok t16 hB hy.out (by omega)).2
  clear h hR hB hL hf ht
  go_enter Try.func3, Try.ntmps3
  go_upto_region 7 with (first
    | (go_at_call 6; (with_reducible refine (speaks16 _).mono ?_); rintro e wn ⟨rfl, hb⟩; replace C := Lib.hid (C.out.step hb); clear hb; (try clear x0 x1 x2 x3 x4 x5 x6 x7 x8 x9); obtain ⟨x0, x1, x2, x3, x4, x5, x6, x7, x8, x9⟩ := C.out.cf.all)
    | (go_at_call 7; (with_reducible refine (few15_any p q _ (H.out.on C.out.bel) hno HD.out _ HF.out).mono ?_); rintro e wn ⟨rfl, hb⟩; replace C := Lib.hid (C.out.step hb); clear hb; (try clear x0 x1 x2 x3 x4 x5 x6 x7 x8 x9); obtain ⟨x0, x1, x2, x3, x4, x5, x6, x7, x8, x9⟩ := C.out.cf.all)
    | (go_at_call 9; (with_reducible refine (of15_any p q _ (H.out.on C.out.bel) hno2).mono ?_); rintro e wn ⟨r, rfl, hp, hb⟩; have P := Lib.hid hp; replace C := Lib.hid (C.out.step hb); clear hp hb; clear x0 x1 x2 x3 x4 x5 x6 x7 x8 x9; obtain ⟨x0, x1, x2, x3, x4, x5, x6, x7, x8, x9⟩ := C.out.cf.all)
    | (go_at_call 8; (with_reducible refine (nput_any p r _ P.out HK.out HS.out m k hm.out n hn.out).mono ?_); rintro e wn ⟨A5, c5, rfl, h5, h5c, hb⟩; replace C := Lib.hid (C.out.step hb); have X5 := Lib.hid h5; clear h5 h5c hb P; clear x0 x1 x2 x3 x4 x5 x6 x7 x8 x9; obtain ⟨x0, x1, x2, x3, x4, x5, x6, x7, x8, x9⟩ := C.out.cf.all)
    | (go_at_call 10; (with_reducible refine (nrp_any p q _ (H.out.on C.out.bel) HK.out HS.out m k hm.out n hn.out).mono ?_); rintro e wn ⟨A6, c6, rfl, h6, h6c, hb⟩; replace C := Lib.hid (C.out.step hb); replace X5 := Lib.hid (X5.out.ons hb); have X6 := Lib.hid h6; clear h6 h6c hb; clear x0 x1 x2 x3 x4 x5 x6 x7 x8 x9)
    | (go_at_call 11; (with_reducible refine (nget_any t b n1 c1 A1 _ (HR.out.ons C.out.bel) HB.out HL.out (by omega) hc1 y k2 hy.out).mono ?_); rintro e w9 ⟨q1, rfl, hp1, hb⟩; have ba := (Below.refl w9.heap.size w9).alloc (Nat.le_refl _) (y.obj q1 36); have P1 := Lib.hid (hp1.pw.on ba); have XX1 := Lib.hid (px_new w9 36 y q1); replace X5 := Lib.hid ((X5.out.ons hb).ons ba); replace X6 := Lib.hid ((X6.out.ons hb).ons ba); replace C := Lib.hid ((C.out.step hb).step ba); clear hp1 hb ba)
    | (go_at_call 12; (with_reducible refine (nrg_any t b n1 c1 A1 _ (HR.out.ons C.out.bel) HB.out HL.out (by omega) hc1 y k2 hy.out).mono ?_); rintro e w11 ⟨q2, rfl, hp2, hb⟩; have ba := (Below.refl w11.heap.size w11).alloc (Nat.le_refl _) (y.obj q2 28); have Z := Lib.hid (show TeL w (w11.alloc (y.obj q2 28)) w9.heap.size w11.heap.size y q1 q2 A5 A6 m from ⟨((C.out.step hb).step ba).bel, (XX1.out.below hb).below ba, px_new w11 28 y q2, (P1.out.on hb).on ba, hp2.on ba, (X5.out.ons hb).ons ba, (X6.out.ons hb).ons ba⟩); clear hp2 hb ba P1 XX1 X5 X6 C))
  refine wp_region_held_drew (S := (fun W => W.cell? ⟨w9.heap.size, 0, none⟩ = some (.int .u16 (y.proto : Int)) ∧ W.cell? ⟨w9.heap.size, 1, none⟩ = some (.int .u8 (y.code : Int)) ∧ W.cell? ⟨w9.heap.size, 2, none⟩ = some (.int .u8 (y.id : Int)) ∧ W.cell? ⟨w9.heap.size, 3, none⟩ = some (.slice q1.ao q1.no q1.co) ∧ W.cell? ⟨w9.heap.size, 4, none⟩ = some (.int .u16 (y.sub : Int)) ∧ W.cell? ⟨w9.heap.size, 5, none⟩ = some (.int .u32 (y.magic : Int)) ∧ W.cell? ⟨w9.heap.size, 6, none⟩ = some (.slice q1.a1 q1.n1 q1.c1) ∧ W.cell? ⟨w9.heap.size, 7, none⟩ = some (.slice q1.a2 q1.n2 q1.c2) ∧ W.cell? ⟨w9.heap.size, 8, none⟩ = some (.slice q1.ad q1.nd q1.cd) ∧ W.cell? ⟨w9.heap.size, 9, none⟩ = some (.slice q1.an q1.nn q1.cn) ∧ W.cell? ⟨w11.heap.size, 0, none⟩ = some (.int .u16 (y.proto : Int)) ∧ W.cell? ⟨w11.heap.size, 1, none⟩ = some (.int .u8 (y.code : Int)) ∧ W.cell? ⟨w11.heap.size, 2, none⟩ = some (.int .u8 (y.id : Int)) ∧ W.cell? ⟨w11.heap.size, 3, none⟩ = some (.slice q2.ao q2.no q2.co) ∧ W.cell? ⟨w11.heap.size, 4, none⟩ = some (.int .u16 (y.sub : Int)) ∧ W.cell? ⟨w11.heap.size, 5, none⟩ = some (.int .u32 (y.magic : Int)) ∧ W.cell? ⟨w11.heap.size, 6, none⟩ = some (.slice q2.a1 q2.n1 q2.c1) ∧ W.cell? ⟨w11.heap.size, 7, none⟩ = some (.slice q2.a2 q2.n2 q2.c2) ∧ W.cell? ⟨w11.heap.size, 8, none⟩ = some (.slice q2.ad q2.nd q2.cd) ∧ W.cell? ⟨w11.heap.size, 9, none⟩ = some (.slice q2.an q2.nn q2.cn))) (by kernel_rfl) (by (first | (with_reducible exact Z.out.flat) | (with_reducible exact Z.out.drew.flat))) (fun _ => ?_)
  refine wpAnyH_take (i := 0) (oi := ?o0) (v := ?v0) ?hi0 (by kernel_rfl) (by kernel_rfl) (by kernel_rfl) ?hq0 (Or.inl ⟨?hw0, ?hy0⟩) (by (first | (with_reducible exact Z.out.flat) | (with_reducible exact Z.out.drew.flat))) ?rest0
  case hi0 => (simp only [List.getElem?_toArray, List.getElem?_cons_zero]; rfl)
  case hw0 => (rfl)
  case hq0 => (exact fun _ _ _ h => h)
  case hy0 => (intro w hSw; (try dsimp only at hSw); go_simp; (try with_reducible rfl))
  try simp only [Act.put, List.setIfInBounds_toArray, List.set_cons_zero, List.set_cons_succ]
  refine wpAnyH_take (i := 1) (oi := ?o1) (v := ?v1) ?hi1 (by kernel_rfl) (by kernel_rfl) (by kernel_rfl) ?hq1 (Or.inl ⟨?hw1, ?hy1⟩) (by (first | (with_reducible exact Z.out.flat) | (with_reducible exact Z.out.drew.flat))) ?rest1
  case hi1 => (simp only [List.getElem?_toArray, List.getElem?_cons_succ, List.getElem?_cons_zero]; rfl)
  case hw1 => (rfl)
  case hq1 => (exact fun _ _ _ h => h)
  case hy1 => (intro w hSw; (try dsimp only at hSw); go_simp; (try with_reducible rfl))
  try simp only [Act.put, List.setIfInBounds_toArray, List.set_cons_zero, List.set_cons_succ]
  refine wpAnyH_take (i := 2) (oi := ?o2) (v := ?v2) ?hi2 (by kernel_rfl) (by kernel_rfl) (by kernel_rfl) ?hq2 (Or.inl ⟨?hw2, ?hy2⟩) (by (first | (with_reducible exact Z.out.flat) | (with_reducible exact Z.out.drew.flat))) ?rest2
  case hi2 => (simp only [List.getElem?_toArray, List.getElem?_cons_succ, List.getElem?_cons_zero]; rfl)
  case hw2 => (rfl)
  case hq2 => (exact fun _ _ _ h => h)
  case hy2 => (intro w hSw; (try dsimp only at hSw); go_simp; (try with_reducible rfl))
  try simp only [Act.put, List.setIfInBounds_toArray, List.set_cons_zero, List.set_cons_succ]
  refine wpAnyH_take (i := 3) (oi := ?o3) (v := ?v3) ?hi3 (by kernel_rfl) (by kernel_rfl) (by kernel_rfl) ?hq3 (Or.inl ⟨?hw3, ?hy3⟩) (by (first | (with_reducible exact Z.out.flat) | (with_reducible exact Z.out.drew.flat))) ?rest3
  case hi3 => (simp only [List.getElem?_toArray, List.getElem?_cons_succ, List.getElem?_cons_zero]; rfl)
  case hw3 => (rfl)
  case hq3 => (exact fun _ _ _ h => h)
  case hy3 => (intro w hSw; (try dsimp only at hSw); go_simp; (try with_reducible rfl))
  try simp only [Act.put, List.setIfInBounds_toArray, List.set_cons_zero, List.set_cons_succ]
  refine wpAnyH_take (i := 4) (oi := ?o4) (v := ?v4) ?hi4 (by kernel_rfl) (by kernel_rfl) (by kernel_rfl) ?hq4 (Or.inl ⟨?hw4, ?hy4⟩) (by (first | (with_reducible exact Z.out.flat) | (with_reducible exact Z.out.drew.flat))) ?rest4
  case hi4 => (simp only [List.getElem?_toArray, List.getElem?_cons_succ, List.getElem?_cons_zero]; rfl)
  case hw4 => (rfl)
  case hq4 => (exact fun _ _ _ h => h)
  case hy4 => (intro w hSw; (try dsimp only at hSw); go_simp; (try with_reducible rfl))
  try simp only [Act.put, List.setIfInBounds_toArray, List.set_cons_zero, List.set_cons_succ]
  refine wpAnyH_take (i := 5) (oi := ?o5) (v := ?v5) ?hi5 (by kernel_rfl) (by kernel_rfl) (by kernel_rfl) ?hq5 (Or.inl ⟨?hw5, ?hy5⟩) (by (first | (with_reducible exact Z.out.flat) | (with_reducible exact Z.out.drew.flat))) ?rest5
  case hi5 => (simp only [List.getElem?_toArray, List.getElem?_cons_succ, List.getElem?_cons_zero]; rfl)
  case hw5 => (rfl)
  case hq5 => (exact fun _ _ _ h => h)
  case hy5 => (intro w hSw; (try dsimp only at hSw); go_simp; (try with_reducible rfl))
  try simp only [Act.put, List.setIfInBounds_toArray, List.set_cons_zero, List.set_cons_succ]
  refine wpAnyH_ready (rs := [6]) (by kernel_rfl) (by simp) ?_
  refine AllReadyH.cons (o := ?o6) ?hi6 (fun K hK => ?st6) AllReadyH.nil
  case hi6 => (simp only [List.getElem?_toArray, List.getElem?_cons_succ, List.getElem?_cons_zero]; rfl)
  go_simp
  go_at_call 13; (first | (with_reducible refine (equal_yes m m n n _ _ _ _ _ Z.out.ra Z.out.rb hn.out hn.out (by omega) rfl).mono ?_) | (with_reducible refine (equal_yes m m n n _ _ _ _ _ Z.out.drew.ra Z.out.drew.rb hn.out hn.out (by omega) rfl).mono ?_)); rintro e wn ⟨rfl, hb⟩; replace Z := Lib.hid (Z.out.step hb); clear hb; dsimp only
  refine hK.out _ _ (by (first | (with_reducible exact Z.out.flat) | (with_reducible exact Z.out.drew.flat))) (fun _ => ?_)
  clear hK K
  try simp only [Act.put, List.setIfInBounds_toArray, List.set_cons_zero, List.set_cons_succ]
  refine wpAnyH_take (i := 7) (oi := ?o7) (v := ?v7) ?hi7 (by kernel_rfl) (by kernel_rfl) (by kernel_rfl) ?hq7 (Or.inl ⟨?hw7, ?hy7⟩) (by (first | (with_reducible exact Z.out.flat) | (with_reducible exact Z.out.drew.flat))) ?rest7
  case hi7 => (simp only [List.getElem?_toArray, List.getElem?_cons_succ, List.getElem?_cons_zero]; rfl)
  case hw7 => (rfl)
  case hq7 => (exact fun _ _ _ h => h)
  case hy7 => (intro w hSw; (try dsimp only at hSw); go_simp; (try with_reducible rfl))
  try simp only [Act.put, List.setIfInBounds_toArray, List.set_cons_zero, List.set_cons_succ]
  refine wpAnyH_take (i := 8) (oi := ?o8) (v := ?v8) ?hi8 (by kernel_rfl) (by kernel_rfl) (by kernel_rfl) ?hq8 (Or.inl ⟨?hw8, ?hy8⟩) (by (first | (with_reducible exact Z.out.flat) | (with_reducible exact Z.out.drew.flat))) ?rest8
  case hi8 => (simp only [List.getElem?_toArray, List.getElem?_cons_succ, List.getElem?_cons_zero]; rfl)
  case hw8 => (rfl)
  case hq8 => (exact fun _ _ _ h => h)
  case hy8 => (intro w hSw; (try dsimp only at hSw); go_simp; (try with_reducible rfl))
  try simp only [Act.put, List.setIfInBounds_toArray, List.set_cons_zero, List.set_cons_succ]
  refine wpAnyH_take (i := 9) (oi := ?o9) (v := ?v9) ?hi9 (by kernel_rfl) (by kernel_rfl) (by kernel_rfl) ?hq9 (Or.inl ⟨?hw9, ?hy9⟩) (by (first | (with_reducible exact Z.out.flat) | (with_reducible exact Z.out.drew.flat))) ?rest9
  case hi9 => (simp only [List.getElem?_toArray, List.getElem?_cons_succ, List.getElem?_cons_zero]; rfl)
  case hw9 => (rfl)
  case hq9 => (exact fun _ _ _ h => h)
  case hy9 => (intro w hSw; (try dsimp only at hSw); go_simp; (try with_reducible rfl))
  try simp only [Act.put, List.setIfInBounds_toArray, List.set_cons_zero, List.set_cons_succ]
  refine wpAnyH_take (i := 10) (oi := ?o10) (v := ?v10) ?hi10 (by kernel_rfl) (by kernel_rfl) (by kernel_rfl) ?hq10 (Or.inl ⟨?hw10, ?hy10⟩) (by (first | (with_reducible exact Z.out.flat) | (with_reducible exact Z.out.drew.flat))) ?rest10
  case hi10 => (simp only [List.getElem?_toArray, List.getElem?_cons_succ, List.getElem?_cons_zero]; rfl)
  case hw10 => (rfl)
  case hq10 => (exact fun _ _ _ h => h)
  case hy10 => (intro w hSw; (try dsimp only at hSw); go_simp; (try with_reducible rfl))
  try simp only [Act.put, List.setIfInBounds_toArray, List.set_cons_zero, List.set_cons_succ]
  refine wpAnyH_take (i := 11) (oi := ?o11) (v := ?v11) ?hi11 (by kernel_rfl) (by kernel_rfl) (by kernel_rfl) ?hq11 (Or.inl ⟨?hw11, ?hy11⟩) (by (first | (with_reducible exact Z.out.flat) | (with_reducible exact Z.out.drew.flat))) ?rest11
  case hi11 => (simp only [List.getElem?_toArray, List.getElem?_cons_succ, List.getElem?_cons_zero]; rfl)
  case hw11 => (rfl)
  case hq11 => (exact fun _ _ _ h => h)
  case hy11 => (intro w hSw; (try dsimp only at hSw); go_simp; (try with_reducible rfl))
  try simp only [Act.put, List.setIfInBounds_toArray, List.set_cons_zero, List.set_cons_succ]
  refine wpAnyH_take (i := 12) (oi := ?o12) (v := ?v12) ?hi12 (by kernel_rfl) (by kernel_rfl) (by kernel_rfl) ?hq12 (Or.inl ⟨?hw12, ?hy12⟩) (by (first | (with_reducible exact Z.out.flat) | (with_reducible exact Z.out.drew.flat))) ?rest12
  case hi12 => (simp only [List.getElem?_toArray, List.getElem?_cons_succ, List.getElem?_cons_zero]; rfl)
  case hw12 => (rfl)
  case hq12 => (exact fun _ _ _ h => h)
  case hy12 => (intro w hSw; (try dsimp only at hSw); go_simp; (try with_reducible rfl))
  try simp only [Act.put, List.setIfInBounds_toArray, List.set_cons_zero, List.set_cons_succ]
  refine wpAnyH_take (i := 13) (oi := ?o13) (v := ?v13) ?hi13 (by kernel_rfl) (by kernel_rfl) (by kernel_rfl) ?hq13 (Or.inl ⟨?hw13, ?hy13⟩) (by (first | (with_reducible exact Z.out.flat) | (with_reducible exact Z.out.drew.flat))) ?rest13
  case hi13 => (simp only [List.getElem?_toArray, List.getElem?_cons_succ, List.getElem?_cons_zero]; rfl)
  case hw13 => (rfl)
  case hq13 => (exact fun _ _ _ h => h)
  case hy13 => (intro w hSw; (try dsimp only at hSw); go_simp; (try with_reducible rfl))
  try simp only [Act.put, List.setIfInBounds_toArray, List.set_cons_zero, List.set_cons_succ]
  refine wpAnyH_take (i := 14) (oi := ?o14) (v := ?v14) ?hi14 (by kernel_rfl) (by kernel_rfl) (by kernel_rfl) ?hq14 (Or.inl ⟨?hw14, ?hy14⟩) (by (first | (with_reducible exact Z.out.flat) | (with_reducible exact Z.out.drew.flat))) ?rest14
  case hi14 => (simp only [List.getElem?_toArray, List.getElem?_cons_succ, List.getElem?_cons_zero]; rfl)
  case hw14 => (rfl)
  case hq14 => (exact fun _ _ _ h => h)
  case hy14 => (intro w hSw; (try dsimp only at hSw); go_simp; (try with_reducible rfl))
  try simp only [Act.put, List.setIfInBounds_toArray, List.set_cons_zero, List.set_cons_succ]
  refine wpAnyH_take (i := 16) (oi := ?o16) (v := ?v16) ?hi16 (by kernel_rfl) (by kernel_rfl) (by kernel_rfl) ?hq16 (Or.inl ⟨?hw16, ?hy16⟩) (by (first | (with_reducible exact Z.out.flat) | (with_reducible exact Z.out.drew.flat))) ?rest16
  case hi16 => (simp only [List.getElem?_toArray, List.getElem?_cons_succ, List.getElem?_cons_zero]; rfl)
  case hw16 => (rfl)
  case hq16 => (exact fun _ _ _ h => h)
  case hy16 => (intro w hSw; (try dsimp only at hSw); go_simp; (try with_reducible rfl))
  try simp only [Act.put, List.setIfInBounds_toArray, List.set_cons_zero, List.set_cons_succ]
  refine wpAnyH_ready (rs := [15]) (by kernel_rfl) (by simp) ?_
  refine AllReadyH.cons (o := ?o15) ?hi15 (fun K hK => ?st15) AllReadyH.nil
  case hi15 => (simp only [List.getElem?_toArray, List.getElem?_cons_succ, List.getElem?_cons_zero]; rfl)
  go_simp
  go_at_call 15; (first | (with_reducible refine (to15_any y q1 _ Z.out.p1 (by rw [← Z.out.p1.lo]; exact HY.out.o)).mono ?_) | (with_reducible refine (to15_any y q1 _ Z.out.drew.p1 (by rw [← Z.out.p1.lo]; exact HY.out.o)).mono ?_)); rintro e wn ⟨q3, rfl, hp3, hb⟩; replace Z := Lib.hid (Z.out.step hb); have P3 := Lib.hid hp3; clear hp3 hb; dsimp only
  refine hK.out _ _ (by (first | (with_reducible exact Z.out.flat) | (with_reducible exact Z.out.drew.flat))) (fun _ => ?_)
  clear hK K
  try simp only [Act.put, List.setIfInBounds_toArray, List.set_cons_zero, List.set_cons_succ]
  refine wpAnyH_ready (rs := [17]) (by kernel_rfl) (by simp) ?_
  refine AllReadyH.cons (o := ?o17) ?hi17 (fun K hK => ?st17) AllReadyH.nil
  case hi17 => (simp only [List.getElem?_toArray, List.getElem?_cons_succ, List.getElem?_cons_zero]; rfl)
  go_simp
  go_at_call 14; (with_reducible refine (psame_yes y q3 q2 _ P3.out Z.out.p2 HY.out).mono ?_); rintro e wn ⟨rfl, hb⟩; replace Z := Lib.hid (Z.out.step hb); clear hb P3; dsimp only
  refine hK.out _ _ (by (first | (with_reducible exact Z.out.flat) | (with_reducible exact Z.out.drew.flat))) (fun _ => ?_)
  clear hK K
  try simp only [Act.put, List.setIfInBounds_toArray, List.set_cons_zero, List.set_cons_succ]
  refine wpAnyH_take (i := 18) (oi := ?o18) (v := ?v18) ?hi18 (by kernel_rfl) (by kernel_rfl) (by kernel_rfl) ?hq18 (Or.inl ⟨?hw18, ?hy18⟩) (by (first | (with_reducible exact Z.out.flat) | (with_reducible exact Z.out.drew.flat))) ?rest18
  case hi18 => (simp only [List.getElem?_toArray, List.getElem?_cons_succ, List.getElem?_cons_zero]; rfl)
  case hw18 => (rfl)
  case hq18 => (exact fun _ _ _ h => h)
  case hy18 => (intro w hSw; (try dsimp only at hSw); go_simp; (try with_reducible rfl))
  try simp only [Act.put, List.setIfInBounds_toArray, List.set_cons_zero, List.set_cons_succ]
  refine wpAnyH_take (i := 19) (oi := ?o19) (v := ?v19) ?hi19 (by kernel_rfl) (by kernel_rfl) (by kernel_rfl) ?hq19 (Or.inl ⟨?hw19, ?hy19⟩) (by (first | (with_reducible exact Z.out.flat) | (with_reducible exact Z.out.drew.flat))) ?rest19
  case hi19 => (simp only [List.getElem?_toArray, List.getElem?_cons_succ, List.getElem?_cons_zero]; rfl)
  case hw19 => (rfl)
  case hq19 => (exact fun _ _ _ h => h)
  case hy19 => (intro w hSw; (try dsimp only at hSw); go_simp; (try with_reducible rfl))
  try simp only [Act.put, List.setIfInBounds_toArray, List.set_cons_zero, List.set_cons_succ]
  refine wpAnyH_take (i := 20) (oi := ?o20) (v := ?v20) ?hi20 (by kernel_rfl) (by kernel_rfl) (by kernel_rfl) ?hq20 (Or.inl ⟨?hw20, ?hy20⟩) (by (first | (with_reducible exact Z.out.flat) | (with_reducible exact Z.out.drew.flat))) ?rest20
  case hi20 => (simp only [List.getElem?_toArray, List.getElem?_cons_succ, List.getElem?_cons_zero]; rfl)
  case hw20 => (rfl)
  case hq20 => (exact fun _ _ _ h => h)
  case hy20 => (intro w hSw; (try dsimp only at hSw); go_simp; (try with_reducible rfl))
  try simp only [Act.put, List.setIfInBounds_toArray, List.set_cons_zero, List.set_cons_succ]
  refine wpAnyH_take (i := 22) (oi := ?o22) (v := ?v22) ?hi22 (by kernel_rfl) (by kernel_rfl) (by kernel_rfl) ?hq22 (Or.inl ⟨?hw22, ?hy22⟩) (by (first | (with_reducible exact Z.out.flat) | (with_reducible exact Z.out.drew.flat))) ?rest22
  case hi22 => (simp only [List.getElem?_toArray, List.getElem?_cons_succ, List.getElem?_cons_zero]; rfl)
  case hw22 => (rfl)
  case hq22 => (exact fun _ _ _ h => h)
  case hy22 => (intro w hSw; (try dsimp only at hSw); go_simp; (try with_reducible rfl))
  try simp only [Act.put, List.setIfInBounds_toArray, List.set_cons_zero, List.set_cons_succ]
  refine wpAnyH_take (i := 23) (oi := ?o23) (v := ?v23) ?hi23 (by kernel_rfl) (by kernel_rfl) (by kernel_rfl) ?hq23 (Or.inl ⟨?hw23, ?hy23⟩) (by (first | (with_reducible exact Z.out.flat) | (with_reducible exact Z.out.drew.flat))) ?rest23
  case hi23 => (simp only [List.getElem?_toArray, List.getElem?_cons_succ, List.getElem?_cons_zero]; rfl)
  case hw23 => (rfl)
  case hq23 => (exact fun _ _ _ h => h)
  case hy23 => (intro w hSw; (try dsimp only at hSw); go_simp; (try with_reducible rfl))
  try simp only [Act.put, List.setIfInBounds_toArray, List.set_cons_zero, List.set_cons_succ]
  refine wpAnyH_ready (rs := [21]) (by kernel_rfl) (by simp) ?_
  refine AllReadyH.cons (o := ?o21) ?hi21 (fun K hK => ?st21) AllReadyH.nil
  case hi21 => (simp only [List.getElem?_toArray, List.getElem?_cons_succ, List.getElem?_cons_zero]; rfl)
  go_simp
  go_at_call 16; (with_reducible refine (nis_any t _ HI.out _).mono ?_); rintro e wn ⟨rfl, hb⟩; replace Z := Lib.hid (Z.out.step hb); clear hb; dsimp only
  refine hK.out _ _ (by (first | (with_reducible exact Z.out.flat) | (with_reducible exact Z.out.drew.flat))) (fun _ => ?_)
  clear hK K
  try simp only [Act.put, List.setIfInBounds_toArray, List.set_cons_zero, List.set_cons_succ]
  refine wpAnyH_take (i := 24) (oi := ?o24) (v := ?v24) ?hi24 (by kernel_rfl) (by kernel_rfl) (by kernel_rfl) ?hq24 (Or.inl ⟨?hw24, ?hy24⟩) (by (first | (with_reducible exact Z.out.flat) | (with_reducible exact Z.out.drew.flat))) ?rest24
  case hi24 => (simp only [List.getElem?_toArray, List.getElem?_cons_succ, List.getElem?_cons_zero]; rfl)
  case hw24 => (rfl)
  case hq24 => (exact fun _ _ _ h => h)
  case hy24 => (intro w hSw; (try dsimp only at hSw); go_simp; (try with_reducible rfl))
  try simp only [Act.put, List.setIfInBounds_toArray, List.set_cons_zero, List.set_cons_succ]
  refine wpAnyH_take (i := 25) (oi := ?o25) (v := undef) ?hi25 (by kernel_rfl) (by kernel_rfl) (by kernel_rfl) ?hq25 (Or.inr ⟨?hw25, rfl⟩) (by (first | (with_reducible exact Z.out.flat) | (with_reducible exact Z.out.drew.flat))) ?rest25
  case hi25 => (simp only [List.getElem?_toArray, List.getElem?_cons_succ, List.getElem?_cons_zero]; rfl)
  case hq25 => (exact fun _ _ _ h => h)
  case hw25 => (rfl)
  try simp only [Act.put, List.setIfInBounds_toArray, List.set_cons_zero, List.set_cons_succ]
  refine wpAnyH_take (i := 26) (oi := ?o26) (v := undef) ?hi26 (by kernel_rfl) (by kernel_rfl) (by kernel_rfl) ?hq26 (Or.inr ⟨?hw26, rfl⟩) (by (first | (with_reducible exact Z.out.flat) | (with_reducible exact Z.out.drew.flat))) ?rest26
  case hi26 => (simp only [List.getElem?_toArray, List.getElem?_cons_succ, List.getElem?_cons_zero]; rfl)
  case hq26 => (exact fun _ _ _ h => h)
  case hw26 => (rfl)
  try simp only [Act.put, List.setIfInBounds_toArray, List.set_cons_zero, List.set_cons_succ]
  refine wpAnyH_take (i := 27) (oi := ?o27) (v := ?v27) ?hi27 (by kernel_rfl) (by kernel_rfl) (by kernel_rfl) ?hq27 (Or.inl ⟨?hw27, ?hy27⟩) (by (first | (with_reducible exact Z.out.flat) | (with_reducible exact Z.out.drew.flat))) ?rest27
  case hi27 => (simp only [List.getElem?_toArray, List.getElem?_cons_succ, List.getElem?_cons_zero]; rfl)
  case hw27 => (rfl)
  case hq27 => (exact fun _ _ _ h => h)
  case hy27 => (intro w hSw; (try dsimp only at hSw); go_simp; (try with_reducible rfl))
  try simp only [Act.put, List.setIfInBounds_toArray, List.set_cons_zero, List.set_cons_succ]
  refine wpAnyH_take (i := 28) (oi := ?o28) (v := ?v28) ?hi28 (by kernel_rfl) (by kernel_rfl) (by kernel_rfl) ?hq28 (Or.inl ⟨?hw28, ?hy28⟩) (by (first | (with_reducible exact Z.out.flat) | (with_reducible exact Z.out.drew.flat))) ?rest28
  case hi28 => (simp only [List.getElem?_toArray, List.getElem?_cons_succ, List.getElem?_cons_zero]; rfl)
  case hw28 => (rfl)
  case hq28 => (exact fun _ _ _ h => h)
  case hy28 => (intro w hSw; (try dsimp only at hSw); go_simp; (try with_reducible rfl))
  try simp only [Act.put, List.setIfInBounds_toArray, List.set_cons_zero, List.set_cons_succ]
  refine wpAnyH_take (i := 29) (oi := ?o29) (v := ?v29) ?hi29 (by kernel_rfl) (by kernel_rfl) (by kernel_rfl) ?hq29 (Or.inl ⟨?hw29, ?hy29⟩) (by (first | (with_reducible exact Z.out.flat) | (with_reducible exact Z.out.drew.flat))) ?rest29
  case hi29 => (simp only [List.getElem?_toArray, List.getElem?_cons_succ, List.getElem?_cons_zero]; rfl)
  case hw29 => (rfl)
  case hq29 => (exact fun _ _ _ h => h)
  case hy29 => (intro w hSw; (try dsimp only at hSw); go_simp; (try with_reducible rfl))
  try simp only [Act.put, List.setIfInBounds_toArray, List.set_cons_zero, List.set_cons_succ]
  refine wpAnyH_take (i := 30) (oi := ?o30) (v := ?v30) ?hi30 (by kernel_rfl) (by kernel_rfl) (by kernel_rfl) ?hq30 (Or.inl ⟨?hw30, ?hy30⟩) (by (first | (with_reducible exact Z.out.flat) | (with_reducible exact Z.out.drew.flat))) ?rest30
  case hi30 => (simp only [List.getElem?_toArray, List.getElem?_cons_succ, List.getElem?_cons_zero]; rfl)
  case hw30 => (rfl)
  case hq30 => (exact fun _ _ _ h => h)
  case hy30 => (intro w hSw; (try dsimp only at hSw); go_simp; (try with_reducible rfl))
  try simp only [Act.put, List.setIfInBounds_toArray, List.set_cons_zero, List.set_cons_succ]
  refine wpAnyH_done (by kernel_rfl) ?_ _
  go_wp2_with fail
  go_ret
  exact ⟨rfl, Z.out.bel⟩

set_option maxRecDepth 4000 in
set_option maxHeartbeats 40000000 in
theorem ntell_b (p : Pk) (q : Pl) (t : Nat) (ht : t = 32855) (t16 : t < 65536) (b : List Nat) (A1 : Option Addr) (n1 c1 : Nat) (w : World) (h : IsPk w p q) (hR : Rd w w.heap.size A1 b) (hB : By b) (hL : b.length = n1) (hc1 : n1 ≤ c1) (hf : fewP p = true) (h1 : n1 ≤ 600) :
    Calls Try.prog 3 #[p.val q, .int .u16 (t : Int), .slice A1 n1 c1] w fun e w' => e = .returned (.bool true) ∧ Below w.heap.size w w' := by
  have C := Lib.hid (BxC.made 28 w p q)
  have H := Lib.hid h.pw
  have hno := h.no
  have HD := Lib.hid h.od
  have HK := Lib.hid h.ok
  have HF := Lib.hid hf
  have HS := Lib.hid (fewP_sm hf)
  have HR := Lib.hid hR
  have HB := Lib.hid hB
  have HL := Lib.hid hL
  have hno2 : q.no ≤ 1073741824 := by rw [← h.pw.lo]; exact (fewP_sm hf).o
  have j1 : ¬ (600 : Int) < (n1 : Int) := by omega
  have wt : IntKind.i64.wrap (t : Int) = (t : Int) := IntWalk.i64_in _ (by omega)
  have q1' : ((t : Int) == 32801) = false := by simp; omega
  have q2' : ((t : Int) == 32855) = true := by simp; omega
  have HI := Lib.hid (show decide (t = 32801 ∨ t = 32855) = true by simp [ht])
  obtain ⟨m, k, hm⟩ : ∃ m k, Hid (nputB p = (m, k)) := ⟨_, _, Lib.hid rfl⟩
  obtain ⟨n, hn⟩ : ∃ n, Hid (m.length = n) := ⟨_, Lib.hid rfl⟩
  have n9 : n ≤ 2000 := by rw [← hn.out]; exact nput_len hm.out hf
  obtain ⟨y, k2, hy⟩ : ∃ y k2, Hid (ngetB t b = (y, k2)) := ⟨_, _, Lib.hid rfl⟩
  have HY := Lib.hid (nget_ok t16 hB hy.out (by omega)).2
  clear h hR hB hL hf ht
  go_enter Try.func3, Try.ntmps3
  go_upto_region 7 with (first
    | (go_at_call 6; (with_reducible refine (speaks16 _).mono ?_); rintro e wn ⟨rfl, hb⟩; replace C := Lib.hid (C.out.step hb); clear hb; (try clear x0 x1 x2 x3 x4 x5 x6 x7 x8 x9); obtain ⟨x0, x1, x2, x3, x4, x5, x6, x7, x8, x9⟩ := C.out.cf.all)
    | (go_at_call 7; (with_reducible refine (few15_any p q _ (H.out.on C.out.bel) hno HD.out _ HF.out).mono ?_); rintro e wn ⟨rfl, hb⟩; replace C := Lib.hid (C.out.step hb); clear hb; (try clear x0 x1 x2 x3 x4 x5 x6 x7 x8 x9); obtain ⟨x0, x1, x2, x3, x4, x5, x6, x7, x8, x9⟩ := C.out.cf.all)
    | (go_at_call 9; (with_reducible refine (of15_any p q _ (H.out.on C.out.bel) hno2).mono ?_); rintro e wn ⟨r, rfl, hp, hb⟩; have P := Lib.hid hp; replace C := Lib.hid (C.out.step hb); clear hp hb; clear x0 x1 x2 x3 x4 x5 x6 x7 x8 x9; obtain ⟨x0, x1, x2, x3, x4, x5, x6, x7, x8, x9⟩ := C.out.cf.all)
    | (go_at_call 8; (with_reducible refine (nput_any p r _ P.out HK.out HS.out m k hm.out n hn.out).mono ?_); rintro e wn ⟨A5, c5, rfl, h5, h5c, hb⟩; replace C := Lib.hid (C.out.step hb); have X5 := Lib.hid h5; clear h5 h5c hb P; clear x0 x1 x2 x3 x4 x5 x6 x7 x8 x9; obtain ⟨x0, x1, x2, x3, x4, x5, x6, x7, x8, x9⟩ := C.out.cf.all)
    | (go_at_call 10; (with_reducible refine (nrp_any p q _ (H.out.on C.out.bel) HK.out HS.out m k hm.out n hn.out).mono ?_); rintro e wn ⟨A6, c6, rfl, h6, h6c, hb⟩; replace C := Lib.hid (C.out.step hb); replace X5 := Lib.hid (X5.out.ons hb); have X6 := Lib.hid h6; clear h6 h6c hb; clear x0 x1 x2 x3 x4 x5 x6 x7 x8 x9)
    | (go_at_call 11; (with_reducible refine (nget_any t b n1 c1 A1 _ (HR.out.ons C.out.bel) HB.out HL.out (by omega) hc1 y k2 hy.out).mono ?_); rintro e w9 ⟨q1, rfl, hp1, hb⟩; have ba := (Below.refl w9.heap.size w9).alloc (Nat.le_refl _) (y.obj q1 36); have P1 := Lib.hid (hp1.pw.on ba); have XX1 := Lib.hid (px_new w9 36 y q1); replace X5 := Lib.hid ((X5.out.ons hb).ons ba); replace X6 := Lib.hid ((X6.out.ons hb).ons ba); replace C := Lib.hid ((C.out.step hb).step ba); clear hp1 hb ba)
    | (go_at_call 12; (with_reducible refine (nrg_any t b n1 c1 A1 _ (HR.out.ons C.out.bel) HB.out HL.out (by omega) hc1 y k2 hy.out).mono ?_); rintro e w11 ⟨q2, rfl, hp2, hb⟩; have ba := (Below.refl w11.heap.size w11).alloc (Nat.le_refl _) (y.obj q2 28); have Z := Lib.hid (show TeL w (w11.alloc (y.obj q2 28)) w9.heap.size w11.heap.size y q1 q2 A5 A6 m from ⟨((C.out.step hb).step ba).bel, (XX1.out.below hb).below ba, px_new w11 28 y q2, (P1.out.on hb).on ba, hp2.on ba, (X5.out.ons hb).ons ba, (X6.out.ons hb).ons ba⟩); clear hp2 hb ba P1 XX1 X5 X6 C))
  refine wp_region_held_drew (S := (fun W => W.cell? ⟨w9.heap.size, 0, none⟩ = some (.int .u16 (y.proto : Int)) ∧ W.cell? ⟨w9.heap.size, 1, none⟩ = some (.int .u8 (y.code : Int)) ∧ W.cell? ⟨w9.heap.size, 2, none⟩ = some (.int .u8 (y.id : Int)) ∧ W.cell? ⟨w9.heap.size, 3, none⟩ = some (.slice q1.ao q1.no q1.co) ∧ W.cell? ⟨w9.heap.size, 4, none⟩ = some (.int .u16 (y.sub : Int)) ∧ W.cell? ⟨w9.heap.size, 5, none⟩ = some (.int .u32 (y.magic : Int)) ∧ W.cell? ⟨w9.heap.size, 6, none⟩ = some (.slice q1.a1 q1.n1 q1.c1) ∧ W.cell? ⟨w9.heap.size, 7, none⟩ = some (.slice q1.a2 q1.n2 q1.c2) ∧ W.cell? ⟨w9.heap.size, 8, none⟩ = some (.slice q1.ad q1.nd q1.cd) ∧ W.cell? ⟨w9.heap.size, 9, none⟩ = some (.slice q1.an q1.nn q1.cn) ∧ W.cell? ⟨w11.heap.size, 0, none⟩ = some (.int .u16 (y.proto : Int)) ∧ W.cell? ⟨w11.heap.size, 1, none⟩ = some (.int .u8 (y.code : Int)) ∧ W.cell? ⟨w11.heap.size, 2, none⟩ = some (.int .u8 (y.id : Int)) ∧ W.cell? ⟨w11.heap.size, 3, none⟩ = some (.slice q2.ao q2.no q2.co) ∧ W.cell? ⟨w11.heap.size, 4, none⟩ = some (.int .u16 (y.sub : Int)) ∧ W.cell? ⟨w11.heap.size, 5, none⟩ = some (.int .u32 (y.magic : Int)) ∧ W.cell? ⟨w11.heap.size, 6, none⟩ = some (.slice q2.a1 q2.n1 q2.c1) ∧ W.cell? ⟨w11.heap.size, 7, none⟩ = some (.slice q2.a2 q2.n2 q2.c2) ∧ W.cell? ⟨w11.heap.size, 8, none⟩ = some (.slice q2.ad q2.nd q2.cd) ∧ W.cell? ⟨w11.heap.size, 9, none⟩ = some (.slice q2.an q2.nn q2.cn))) (by kernel_rfl) (by (first | (with_reducible exact Z.out.flat) | (with_reducible exact Z.out.drew.flat))) (fun _ => ?_)
  refine wpAnyH_take (i := 0) (oi := ?o0) (v := ?v0) ?hi0 (by kernel_rfl) (by kernel_rfl) (by kernel_rfl) ?hq0 (Or.inl ⟨?hw0, ?hy0⟩) (by (first | (with_reducible exact Z.out.flat) | (with_reducible exact Z.out.drew.flat))) ?rest0
  case hi0 => (simp only [List.getElem?_toArray, List.getElem?_cons_zero]; rfl)
  case hw0 => (rfl)
  case hq0 => (exact fun _ _ _ h => h)
  case hy0 => (intro w hSw; (try dsimp only at hSw); go_simp; (try with_reducible rfl))
  try simp only [Act.put, List.setIfInBounds_toArray, List.set_cons_zero, List.set_cons_succ]
  refine wpAnyH_take (i := 1) (oi := ?o1) (v := ?v1) ?hi1 (by kernel_rfl) (by kernel_rfl) (by kernel_rfl) ?hq1 (Or.inl ⟨?hw1, ?hy1⟩) (by (first | (with_reducible exact Z.out.flat) | (with_reducible exact Z.out.drew.flat))) ?rest1
  case hi1 => (simp only [List.getElem?_toArray, List.getElem?_cons_succ, List.getElem?_cons_zero]; rfl)
  case hw1 => (rfl)
  case hq1 => (exact fun _ _ _ h => h)
  case hy1 => (intro w hSw; (try dsimp only at hSw); go_simp; (try with_reducible rfl))
  try simp only [Act.put, List.setIfInBounds_toArray, List.set_cons_zero, List.set_cons_succ]
  refine wpAnyH_take (i := 2) (oi := ?o2) (v := ?v2) ?hi2 (by kernel_rfl) (by kernel_rfl) (by kernel_rfl) ?hq2 (Or.inl ⟨?hw2, ?hy2⟩) (by (first | (with_reducible exact Z.out.flat) | (with_reducible exact Z.out.drew.flat))) ?rest2
  case hi2 => (simp only [List.getElem?_toArray, List.getElem?_cons_succ, List.getElem?_cons_zero]; rfl)
  case hw2 => (rfl)
  case hq2 => (exact fun _ _ _ h => h)
  case hy2 => (intro w hSw; (try dsimp only at hSw); go_simp; (try with_reducible rfl))
  try simp only [Act.put, List.setIfInBounds_toArray, List.set_cons_zero, List.set_cons_succ]
  refine wpAnyH_take (i := 3) (oi := ?o3) (v := ?v3) ?hi3 (by kernel_rfl) (by kernel_rfl) (by kernel_rfl) ?hq3 (Or.inl ⟨?hw3, ?hy3⟩) (by (first | (with_reducible exact Z.out.flat) | (with_reducible exact Z.out.drew.flat))) ?rest3
  case hi3 => (simp only [List.getElem?_toArray, List.getElem?_cons_succ, List.getElem?_cons_zero]; rfl)
  case hw3 => (rfl)
  case hq3 => (exact fun _ _ _ h => h)
  case hy3 => (intro w hSw; (try dsimp only at hSw); go_simp; (try with_reducible rfl))
  try simp only [Act.put, List.setIfInBounds_toArray, List.set_cons_zero, List.set_cons_succ]
  refine wpAnyH_take (i := 4) (oi := ?o4) (v := ?v4) ?hi4 (by kernel_rfl) (by kernel_rfl) (by kernel_rfl) ?hq4 (Or.inl ⟨?hw4, ?hy4⟩) (by (first | (with_reducible exact Z.out.flat) | (with_reducible exact Z.out.drew.flat))) ?rest4
  case hi4 => (simp only [List.getElem?_toArray, List.getElem?_cons_succ, List.getElem?_cons_zero]; rfl)
  case hw4 => (rfl)
  case hq4 => (exact fun _ _ _ h => h)
  case hy4 => (intro w hSw; (try dsimp only at hSw); go_simp; (try with_reducible rfl))
  try simp only [Act.put, List.setIfInBounds_toArray, List.set_cons_zero, List.set_cons_succ]
  refine wpAnyH_take (i := 5) (oi := ?o5) (v := ?v5) ?hi5 (by kernel_rfl) (by kernel_rfl) (by kernel_rfl) ?hq5 (Or.inl ⟨?hw5, ?hy5⟩) (by (first | (with_reducible exact Z.out.flat) | (with_reducible exact Z.out.drew.flat))) ?rest5
  case hi5 => (simp only [List.getElem?_toArray, List.getElem?_cons_succ, List.getElem?_cons_zero]; rfl)
  case hw5 => (rfl)
  case hq5 => (exact fun _ _ _ h => h)
  case hy5 => (intro w hSw; (try dsimp only at hSw); go_simp; (try with_reducible rfl))
  try simp only [Act.put, List.setIfInBounds_toArray, List.set_cons_zero, List.set_cons_succ]
  refine wpAnyH_ready (rs := [6]) (by kernel_rfl) (by simp) ?_
  refine AllReadyH.cons (o := ?o6) ?hi6 (fun K hK => ?st6) AllReadyH.nil
  case hi6 => (simp only [List.getElem?_toArray, List.getElem?_cons_succ, List.getElem?_cons_zero]; rfl)
  go_simp
  go_at_call 13; (first | (with_reducible refine (equal_yes m m n n _ _ _ _ _ Z.out.ra Z.out.rb hn.out hn.out (by omega) rfl).mono ?_) | (with_reducible refine (equal_yes m m n n _ _ _ _ _ Z.out.drew.ra Z.out.drew.rb hn.out hn.out (by omega) rfl).mono ?_)); rintro e wn ⟨rfl, hb⟩; replace Z := Lib.hid (Z.out.step hb); clear hb; dsimp only
  refine hK.out _ _ (by (first | (with_reducible exact Z.out.flat) | (with_reducible exact Z.out.drew.flat))) (fun _ => ?_)
  clear hK K
  try simp only [Act.put, List.setIfInBounds_toArray, List.set_cons_zero, List.set_cons_succ]
  refine wpAnyH_take (i := 7) (oi := ?o7) (v := ?v7) ?hi7 (by kernel_rfl) (by kernel_rfl) (by kernel_rfl) ?hq7 (Or.inl ⟨?hw7, ?hy7⟩) (by (first | (with_reducible exact Z.out.flat) | (with_reducible exact Z.out.drew.flat))) ?rest7
  case hi7 => (simp only [List.getElem?_toArray, List.getElem?_cons_succ, List.getElem?_cons_zero]; rfl)
  case hw7 => (rfl)
  case hq7 => (exact fun _ _ _ h => h)
  case hy7 => (intro w hSw; (try dsimp only at hSw); go_simp; (try with_reducible rfl))
  try simp only [Act.put, List.setIfInBounds_toArray, List.set_cons_zero, List.set_cons_succ]
  refine wpAnyH_take (i := 8) (oi := ?o8) (v := ?v8) ?hi8 (by kernel_rfl) (by kernel_rfl) (by kernel_rfl) ?hq8 (Or.inl ⟨?hw8, ?hy8⟩) (by (first | (with_reducible exact Z.out.flat) | (with_reducible exact Z.out.drew.flat))) ?rest8
  case hi8 => (simp only [List.getElem?_toArray, List.getElem?_cons_succ, List.getElem?_cons_zero]; rfl)
  case hw8 => (rfl)
  case hq8 => (exact fun _ _ _ h => h)
  case hy8 => (intro w hSw; (try dsimp only at hSw); go_simp; (try with_reducible rfl))
  try simp only [Act.put, List.setIfInBounds_toArray, List.set_cons_zero, List.set_cons_succ]
  refine wpAnyH_take (i := 9) (oi := ?o9) (v := ?v9) ?hi9 (by kernel_rfl) (by kernel_rfl) (by kernel_rfl) ?hq9 (Or.inl ⟨?hw9, ?hy9⟩) (by (first | (with_reducible exact Z.out.flat) | (with_reducible exact Z.out.drew.flat))) ?rest9
  case hi9 => (simp only [List.getElem?_toArray, List.getElem?_cons_succ, List.getElem?_cons_zero]; rfl)
  case hw9 => (rfl)
  case hq9 => (exact fun _ _ _ h => h)
  case hy9 => (intro w hSw; (try dsimp only at hSw); go_simp; (try with_reducible rfl))
  try simp only [Act.put, List.setIfInBounds_toArray, List.set_cons_zero, List.set_cons_succ]
  refine wpAnyH_take (i := 10) (oi := ?o10) (v := ?v10) ?hi10 (by kernel_rfl) (by kernel_rfl) (by kernel_rfl) ?hq10 (Or.inl ⟨?hw10, ?hy10⟩) (by (first | (with_reducible exact Z.out.flat) | (with_reducible exact Z.out.drew.flat))) ?rest10
  case hi10 => (simp only [List.getElem?_toArray, List.getElem?_cons_succ, List.getElem?_cons_zero]; rfl)
  case hw10 => (rfl)
  case hq10 => (exact fun _ _ _ h => h)
  case hy10 => (intro w hSw; (try dsimp only at hSw); go_simp; (try with_reducible rfl))
  try simp only [Act.put, List.setIfInBounds_toArray, List.set_cons_zero, List.set_cons_succ]
  refine wpAnyH_take (i := 11) (oi := ?o11) (v := ?v11) ?hi11 (by kernel_rfl) (by kernel_rfl) (by kernel_rfl) ?hq11 (Or.inl ⟨?hw11, ?hy11⟩) (by (first | (with_reducible exact Z.out.flat) | (with_reducible exact Z.out.drew.flat))) ?rest11
  case hi11 => (simp only [List.getElem?_toArray, List.getElem?_cons_succ, List.getElem?_cons_zero]; rfl)
  case hw11 => (rfl)
  case hq11 => (exact fun _ _ _ h => h)
  case hy11 => (intro w hSw; (try dsimp only at hSw); go_simp; (try with_reducible rfl))
  try simp only [Act.put, List.setIfInBounds_toArray, List.set_cons_zero, List.set_cons_succ]
  refine wpAnyH_take (i := 12) (oi := ?o12) (v := ?v12) ?hi12 (by kernel_rfl) (by kernel_rfl) (by kernel_rfl) ?hq12 (Or.inl ⟨?hw12, ?hy12⟩) (by (first | (with_reducible exact Z.out.flat) | (with_reducible exact Z.out.drew.flat))) ?rest12
  case hi12 => (simp only [List.getElem?_toArray, List.getElem?_cons_succ, List.getElem?_cons_zero]; rfl)
  case hw12 => (rfl)
  case hq12 => (exact fun _ _ _ h => h)
  case hy12 => (intro w hSw; (try dsimp only at hSw); go_simp; (try with_reducible rfl))
  try simp only [Act.put, List.setIfInBounds_toArray, List.set_cons_zero, List.set_cons_succ]
  refine wpAnyH_take (i := 13) (oi := ?o13) (v := ?v13) ?hi13 (by kernel_rfl) (by kernel_rfl) (by kernel_rfl) ?hq13 (Or.inl ⟨?hw13, ?hy13⟩) (by (first | (with_reducible exact Z.out.flat) | (with_reducible exact Z.out.drew.flat))) ?rest13
  case hi13 => (simp only [List.getElem?_toArray, List.getElem?_cons_succ, List.getElem?_cons_zero]; rfl)
  case hw13 => (rfl)
  case hq13 => (exact fun _ _ _ h => h)
  case hy13 => (intro w hSw; (try dsimp only at hSw); go_simp; (try with_reducible rfl))
  try simp only [Act.put, List.setIfInBounds_toArray, List.set_cons_zero, List.set_cons_succ]
  refine wpAnyH_take (i := 14) (oi := ?o14) (v := ?v14) ?hi14 (by kernel_rfl) (by kernel_rfl) (by kernel_rfl) ?hq14 (Or.inl ⟨?hw14, ?hy14⟩) (by (first | (with_reducible exact Z.out.flat) | (with_reducible exact Z.out.drew.flat))) ?rest14
  case hi14 => (simp only [List.getElem?_toArray, List.getElem?_cons_succ, List.getElem?_cons_zero]; rfl)
  case hw14 => (rfl)
  case hq14 => (exact fun _ _ _ h => h)
  case hy14 => (intro w hSw; (try dsimp only at hSw); go_simp; (try with_reducible rfl))
  try simp only [Act.put, List.setIfInBounds_toArray, List.set_cons_zero, List.set_cons_succ]
  refine wpAnyH_take (i := 16) (oi := ?o16) (v := ?v16) ?hi16 (by kernel_rfl) (by kernel_rfl) (by kernel_rfl) ?hq16 (Or.inl ⟨?hw16, ?hy16⟩) (by (first | (with_reducible exact Z.out.flat) | (with_reducible exact Z.out.drew.flat))) ?rest16
  case hi16 => (simp only [List.getElem?_toArray, List.getElem?_cons_succ, List.getElem?_cons_zero]; rfl)
  case hw16 => (rfl)
  case hq16 => (exact fun _ _ _ h => h)
  case hy16 => (intro w hSw; (try dsimp only at hSw); go_simp; (try with_reducible rfl))
  try simp only [Act.put, List.setIfInBounds_toArray, List.set_cons_zero, List.set_cons_succ]
  refine wpAnyH_ready (rs := [15]) (by kernel_rfl) (by simp) ?_
  refine AllReadyH.cons (o := ?o15) ?hi15 (fun K hK => ?st15) AllReadyH.nil
  case hi15 => (simp only [List.getElem?_toArray, List.getElem?_cons_succ, List.getElem?_cons_zero]; rfl)
  go_simp
  go_at_call 15; (first | (with_reducible refine (to15_any y q1 _ Z.out.p1 (by rw [← Z.out.p1.lo]; exact HY.out.o)).mono ?_) | (with_reducible refine (to15_any y q1 _ Z.out.drew.p1 (by rw [← Z.out.p1.lo]; exact HY.out.o)).mono ?_)); rintro e wn ⟨q3, rfl, hp3, hb⟩; replace Z := Lib.hid (Z.out.step hb); have P3 := Lib.hid hp3; clear hp3 hb; dsimp only
  refine hK.out _ _ (by (first | (with_reducible exact Z.out.flat) | (with_reducible exact Z.out.drew.flat))) (fun _ => ?_)
  clear hK K
  try simp only [Act.put, List.setIfInBounds_toArray, List.set_cons_zero, List.set_cons_succ]
  refine wpAnyH_ready (rs := [17]) (by kernel_rfl) (by simp) ?_
  refine AllReadyH.cons (o := ?o17) ?hi17 (fun K hK => ?st17) AllReadyH.nil
  case hi17 => (simp only [List.getElem?_toArray, List.getElem?_cons_succ, List.getElem?_cons_zero]; rfl)
  go_simp
  go_at_call 14; (with_reducible refine (psame_yes y q3 q2 _ P3.out Z.out.p2 HY.out).mono ?_); rintro e wn ⟨rfl, hb⟩; replace Z := Lib.hid (Z.out.step hb); clear hb P3; dsimp only
  refine hK.out _ _ (by (first | (with_reducible exact Z.out.flat) | (with_reducible exact Z.out.drew.flat))) (fun _ => ?_)
  clear hK K
  try simp only [Act.put, List.setIfInBounds_toArray, List.set_cons_zero, List.set_cons_succ]
  refine wpAnyH_take (i := 18) (oi := ?o18) (v := ?v18) ?hi18 (by kernel_rfl) (by kernel_rfl) (by kernel_rfl) ?hq18 (Or.inl ⟨?hw18, ?hy18⟩) (by (first | (with_reducible exact Z.out.flat) | (with_reducible exact Z.out.drew.flat))) ?rest18
  case hi18 => (simp only [List.getElem?_toArray, List.getElem?_cons_succ, List.getElem?_cons_zero]; rfl)
  case hw18 => (rfl)
  case hq18 => (exact fun _ _ _ h => h)
  case hy18 => (intro w hSw; (try dsimp only at hSw); go_simp; (try with_reducible rfl))
  try simp only [Act.put, List.setIfInBounds_toArray, List.set_cons_zero, List.set_cons_succ]
  refine wpAnyH_take (i := 19) (oi := ?o19) (v := ?v19) ?hi19 (by kernel_rfl) (by kernel_rfl) (by kernel_rfl) ?hq19 (Or.inl ⟨?hw19, ?hy19⟩) (by (first | (with_reducible exact Z.out.flat) | (with_reducible exact Z.out.drew.flat))) ?rest19
  case hi19 => (simp only [List.getElem?_toArray, List.getElem?_cons_succ, List.getElem?_cons_zero]; rfl)
  case hw19 => (rfl)
  case hq19 => (exact fun _ _ _ h => h)
  case hy19 => (intro w hSw; (try dsimp only at hSw); go_simp; (try with_reducible rfl))
  try simp only [Act.put, List.setIfInBounds_toArray, List.set_cons_zero, List.set_cons_succ]
  refine wpAnyH_take (i := 20) (oi := ?o20) (v := ?v20) ?hi20 (by kernel_rfl) (by kernel_rfl) (by kernel_rfl) ?hq20 (Or.inl ⟨?hw20, ?hy20⟩) (by (first | (with_reducible exact Z.out.flat) | (with_reducible exact Z.out.drew.flat))) ?rest20
  case hi20 => (simp only [List.getElem?_toArray, List.getElem?_cons_succ, List.getElem?_cons_zero]; rfl)
  case hw20 => (rfl)
  case hq20 => (exact fun _ _ _ h => h)
  case hy20 => (intro w hSw; (try dsimp only at hSw); go_simp; (try with_reducible rfl))
  try simp only [Act.put, List.setIfInBounds_toArray, List.set_cons_zero, List.set_cons_succ]
  refine wpAnyH_take (i := 22) (oi := ?o22) (v := ?v22) ?hi22 (by kernel_rfl) (by kernel_rfl) (by kernel_rfl) ?hq22 (Or.inl ⟨?hw22, ?hy22⟩) (by (first | (with_reducible exact Z.out.flat) | (with_reducible exact Z.out.drew.flat))) ?rest22
  case hi22 => (simp only [List.getElem?_toArray, List.getElem?_cons_succ, List.getElem?_cons_zero]; rfl)
  case hw22 => (rfl)
  case hq22 => (exact fun _ _ _ h => h)
  case hy22 => (intro w hSw; (try dsimp only at hSw); go_simp; (try with_reducible rfl))
  try simp only [Act.put, List.setIfInBounds_toArray, List.set_cons_zero, List.set_cons_succ]
  refine wpAnyH_take (i := 23) (oi := ?o23) (v := ?v23) ?hi23 (by kernel_rfl) (by kernel_rfl) (by kernel_rfl) ?hq23 (Or.inl ⟨?hw23, ?hy23⟩) (by (first | (with_reducible exact Z.out.flat) | (with_reducible exact Z.out.drew.flat))) ?rest23
  case hi23 => (simp only [List.getElem?_toArray, List.getElem?_cons_succ, List.getElem?_cons_zero]; rfl)
  case hw23 => (rfl)
  case hq23 => (exact fun _ _ _ h => h)
  case hy23 => (intro w hSw; (try dsimp only at hSw); go_simp; (try with_reducible rfl))
  try simp only [Act.put, List.setIfInBounds_toArray, List.set_cons_zero, List.set_cons_succ]
  refine wpAnyH_ready (rs := [21]) (by kernel_rfl) (by simp) ?_
  refine AllReadyH.cons (o := ?o21) ?hi21 (fun K hK => ?st21) AllReadyH.nil
  case hi21 => (simp only [List.getElem?_toArray, List.getElem?_cons_succ, List.getElem?_cons_zero]; rfl)
  go_simp
  go_at_call 16; (with_reducible refine (nis_any t _ HI.out _).mono ?_); rintro e wn ⟨rfl, hb⟩; replace Z := Lib.hid (Z.out.step hb); clear hb; dsimp only
  refine hK.out _ _ (by (first | (with_reducible exact Z.out.flat) | (with_reducible exact Z.out.drew.flat))) (fun _ => ?_)
  clear hK K
  try simp only [Act.put, List.setIfInBounds_toArray, List.set_cons_zero, List.set_cons_succ]
  refine wpAnyH_take (i := 24) (oi := ?o24) (v := ?v24) ?hi24 (by kernel_rfl) (by kernel_rfl) (by kernel_rfl) ?hq24 (Or.inl ⟨?hw24, ?hy24⟩) (by (first | (with_reducible exact Z.out.flat) | (with_reducible exact Z.out.drew.flat))) ?rest24
  case hi24 => (simp only [List.getElem?_toArray, List.getElem?_cons_succ, List.getElem?_cons_zero]; rfl)
  case hw24 => (rfl)
  case hq24 => (exact fun _ _ _ h => h)
  case hy24 => (intro w hSw; (try dsimp only at hSw); go_simp; (try with_reducible rfl))
  try simp only [Act.put, List.setIfInBounds_toArray, List.set_cons_zero, List.set_cons_succ]
  refine wpAnyH_take (i := 25) (oi := ?o25) (v := ?v25) ?hi25 (by kernel_rfl) (by kernel_rfl) (by kernel_rfl) ?hq25 (Or.inl ⟨?hw25, ?hy25⟩) (by (first | (with_reducible exact Z.out.flat) | (with_reducible exact Z.out.drew.flat))) ?rest25
  case hi25 => (simp only [List.getElem?_toArray, List.getElem?_cons_succ, List.getElem?_cons_zero]; rfl)
  case hw25 => (rfl)
  case hq25 => (exact fun _ _ _ h => h)
  case hy25 => (intro w hSw; (try dsimp only at hSw); go_simp; (try with_reducible rfl))
  try simp only [Act.put, List.setIfInBounds_toArray, List.set_cons_zero, List.set_cons_succ]
  refine wpAnyH_take (i := 26) (oi := ?o26) (v := ?v26) ?hi26 (by kernel_rfl) (by kernel_rfl) (by kernel_rfl) ?hq26 (Or.inl ⟨?hw26, ?hy26⟩) (by (first | (with_reducible exact Z.out.flat) | (with_reducible exact Z.out.drew.flat))) ?rest26
  case hi26 => (simp only [List.getElem?_toArray, List.getElem?_cons_succ, List.getElem?_cons_zero]; rfl)
  case hw26 => (rfl)
  case hq26 => (exact fun _ _ _ h => h)
  case hy26 => (intro w hSw; (try dsimp only at hSw); go_simp; (try with_reducible rfl))
  try simp only [Act.put, List.setIfInBounds_toArray, List.set_cons_zero, List.set_cons_succ]
  refine wpAnyH_take (i := 27) (oi := ?o27) (v := ?v27) ?hi27 (by kernel_rfl) (by kernel_rfl) (by kernel_rfl) ?hq27 (Or.inl ⟨?hw27, ?hy27⟩) (by (first | (with_reducible exact Z.out.flat) | (with_reducible exact Z.out.drew.flat))) ?rest27
  case hi27 => (simp only [List.getElem?_toArray, List.getElem?_cons_succ, List.getElem?_cons_zero]; rfl)
  case hw27 => (rfl)
  case hq27 => (exact fun _ _ _ h => h)
  case hy27 => (intro w hSw; (try dsimp only at hSw); go_simp; (try with_reducible rfl))
  try simp only [Act.put, List.setIfInBounds_toArray, List.set_cons_zero, List.set_cons_succ]
  refine wpAnyH_take (i := 28) (oi := ?o28) (v := ?v28) ?hi28 (by kernel_rfl) (by kernel_rfl) (by kernel_rfl) ?hq28 (Or.inl ⟨?hw28, ?hy28⟩) (by (first | (with_reducible exact Z.out.flat) | (with_reducible exact Z.out.drew.flat))) ?rest28
  case hi28 => (simp only [List.getElem?_toArray, List.getElem?_cons_succ, List.getElem?_cons_zero]; rfl)
  case hw28 => (rfl)
  case hq28 => (exact fun _ _ _ h => h)
  case hy28 => (intro w hSw; (try dsimp only at hSw); go_simp; (try with_reducible rfl))
  try simp only [Act.put, List.setIfInBounds_toArray, List.set_cons_zero, List.set_cons_succ]
  refine wpAnyH_take (i := 29) (oi := ?o29) (v := ?v29) ?hi29 (by kernel_rfl) (by kernel_rfl) (by kernel_rfl) ?hq29 (Or.inl ⟨?hw29, ?hy29⟩) (by (first | (with_reducible exact Z.out.flat) | (with_reducible exact Z.out.drew.flat))) ?rest29
  case hi29 => (simp only [List.getElem?_toArray, List.getElem?_cons_succ, List.getElem?_cons_zero]; rfl)
  case hw29 => (rfl)
  case hq29 => (exact fun _ _ _ h => h)
  case hy29 => (intro w hSw; (try dsimp only at hSw); go_simp; (try with_reducible rfl))
  try simp only [Act.put, List.setIfInBounds_toArray, List.set_cons_zero, List.set_cons_succ]
  refine wpAnyH_take (i := 30) (oi := ?o30) (v := ?v30) ?hi30 (by kernel_rfl) (by kernel_rfl) (by kernel_rfl) ?hq30 (Or.inl ⟨?hw30, ?hy30⟩) (by (first | (with_reducible exact Z.out.flat) | (with_reducible exact Z.out.drew.flat))) ?rest30
  case hi30 => (simp only [List.getElem?_toArray, List.getElem?_cons_succ, List.getElem?_cons_zero]; rfl)
  case hw30 => (rfl)
  case hq30 => (exact fun _ _ _ h => h)
  case hy30 => (intro w hSw; (try dsimp only at hSw); go_simp; (try with_reducible rfl))
  try simp only [Act.put, List.setIfInBounds_toArray, List.set_cons_zero, List.set_cons_succ]
  refine wpAnyH_done (by kernel_rfl) ?_ _
  go_wp2_with fail
  go_ret
  exact ⟨rfl, Z.out.bel⟩

set_option maxRecDepth 4000 in
set_option maxHeartbeats 40000000 in
theorem ntell_c (p : Pk) (q : Pl) (t : Nat) (ht : ¬ (t = 32801 ∨ t = 32855)) (t16 : t < 65536) (b : List Nat) (A1 : Option Addr) (n1 c1 : Nat) (w : World) (h : IsPk w p q) (hR : Rd w w.heap.size A1 b) (hB : By b) (hL : b.length = n1) (hc1 : n1 ≤ c1) (hf : fewP p = true) (h1 : n1 ≤ 600) :
    Calls Try.prog 3 #[p.val q, .int .u16 (t : Int), .slice A1 n1 c1] w fun e w' => e = .returned (.bool true) ∧ Below w.heap.size w w' := by
  have C := Lib.hid (BxC.made 28 w p q)
  have H := Lib.hid h.pw
  have hno := h.no
  have HD := Lib.hid h.od
  have HK := Lib.hid h.ok
  have HF := Lib.hid hf
  have HS := Lib.hid (fewP_sm hf)
  have HR := Lib.hid hR
  have HB := Lib.hid hB
  have HL := Lib.hid hL
  have hno2 : q.no ≤ 1073741824 := by rw [← h.pw.lo]; exact (fewP_sm hf).o
  have j1 : ¬ (600 : Int) < (n1 : Int) := by omega
  have wt : IntKind.i64.wrap (t : Int) = (t : Int) := IntWalk.i64_in _ (by omega)
  have q1' : ((t : Int) == 32801) = false := by simp; omega
  have q2' : ((t : Int) == 32855) = false := by simp; omega
  have HI := Lib.hid (show decide (t = 32801 ∨ t = 32855) = false from decide_eq_false ht)
  obtain ⟨m, k, hm⟩ : ∃ m k, Hid (nputB p = (m, k)) := ⟨_, _, Lib.hid rfl⟩
  obtain ⟨n, hn⟩ : ∃ n, Hid (m.length = n) := ⟨_, Lib.hid rfl⟩
  have n9 : n ≤ 2000 := by rw [← hn.out]; exact nput_len hm.out hf
  obtain ⟨y, k2, hy⟩ : ∃ y k2, Hid (ngetB t b = (y, k2)) := ⟨_, _, Lib.hid rfl⟩
  have HY := Lib.hid (nget_ok t16 hB hy.out (by omega)).2
  clear h hR hB hL hf ht
  go_enter Try.func3, Try.ntmps3
  go_upto_region 7 with (first
    | (go_at_call 6; (with_reducible refine (speaks16 _).mono ?_); rintro e wn ⟨rfl, hb⟩; replace C := Lib.hid (C.out.step hb); clear hb; (try clear x0 x1 x2 x3 x4 x5 x6 x7 x8 x9); obtain ⟨x0, x1, x2, x3, x4, x5, x6, x7, x8, x9⟩ := C.out.cf.all)
    | (go_at_call 7; (with_reducible refine (few15_any p q _ (H.out.on C.out.bel) hno HD.out _ HF.out).mono ?_); rintro e wn ⟨rfl, hb⟩; replace C := Lib.hid (C.out.step hb); clear hb; (try clear x0 x1 x2 x3 x4 x5 x6 x7 x8 x9); obtain ⟨x0, x1, x2, x3, x4, x5, x6, x7, x8, x9⟩ := C.out.cf.all)
    | (go_at_call 9; (with_reducible refine (of15_any p q _ (H.out.on C.out.bel) hno2).mono ?_); rintro e wn ⟨r, rfl, hp, hb⟩; have P := Lib.hid hp; replace C := Lib.hid (C.out.step hb); clear hp hb; clear x0 x1 x2 x3 x4 x5 x6 x7 x8 x9; obtain ⟨x0, x1, x2, x3, x4, x5, x6, x7, x8, x9⟩ := C.out.cf.all)
    | (go_at_call 8; (with_reducible refine (nput_any p r _ P.out HK.out HS.out m k hm.out n hn.out).mono ?_); rintro e wn ⟨A5, c5, rfl, h5, h5c, hb⟩; replace C := Lib.hid (C.out.step hb); have X5 := Lib.hid h5; clear h5 h5c hb P; clear x0 x1 x2 x3 x4 x5 x6 x7 x8 x9; obtain ⟨x0, x1, x2, x3, x4, x5, x6, x7, x8, x9⟩ := C.out.cf.all)
    | (go_at_call 10; (with_reducible refine (nrp_any p q _ (H.out.on C.out.bel) HK.out HS.out m k hm.out n hn.out).mono ?_); rintro e wn ⟨A6, c6, rfl, h6, h6c, hb⟩; replace C := Lib.hid (C.out.step hb); replace X5 := Lib.hid (X5.out.ons hb); have X6 := Lib.hid h6; clear h6 h6c hb; clear x0 x1 x2 x3 x4 x5 x6 x7 x8 x9)
    | (go_at_call 11; (with_reducible refine (nget_any t b n1 c1 A1 _ (HR.out.ons C.out.bel) HB.out HL.out (by omega) hc1 y k2 hy.out).mono ?_); rintro e w9 ⟨q1, rfl, hp1, hb⟩; have ba := (Below.refl w9.heap.size w9).alloc (Nat.le_refl _) (y.obj q1 36); have P1 := Lib.hid (hp1.pw.on ba); have XX1 := Lib.hid (px_new w9 36 y q1); replace X5 := Lib.hid ((X5.out.ons hb).ons ba); replace X6 := Lib.hid ((X6.out.ons hb).ons ba); replace C := Lib.hid ((C.out.step hb).step ba); clear hp1 hb ba)
    | (go_at_call 12; (with_reducible refine (nrg_any t b n1 c1 A1 _ (HR.out.ons C.out.bel) HB.out HL.out (by omega) hc1 y k2 hy.out).mono ?_); rintro e w11 ⟨q2, rfl, hp2, hb⟩; have ba := (Below.refl w11.heap.size w11).alloc (Nat.le_refl _) (y.obj q2 28); have Z := Lib.hid (show TeL w (w11.alloc (y.obj q2 28)) w9.heap.size w11.heap.size y q1 q2 A5 A6 m from ⟨((C.out.step hb).step ba).bel, (XX1.out.below hb).below ba, px_new w11 28 y q2, (P1.out.on hb).on ba, hp2.on ba, (X5.out.ons hb).ons ba, (X6.out.ons hb).ons ba⟩); clear hp2 hb ba P1 XX1 X5 X6 C))
  refine wp_region_held_drew (S := (fun W => W.cell? ⟨w9.heap.size, 0, none⟩ = some (.int .u16 (y.proto : Int)) ∧ W.cell? ⟨w9.heap.size, 1, none⟩ = some (.int .u8 (y.code : Int)) ∧ W.cell? ⟨w9.heap.size, 2, none⟩ = some (.int .u8 (y.id : Int)) ∧ W.cell? ⟨w9.heap.size, 3, none⟩ = some (.slice q1.ao q1.no q1.co) ∧ W.cell? ⟨w9.heap.size, 4, none⟩ = some (.int .u16 (y.sub : Int)) ∧ W.cell? ⟨w9.heap.size, 5, none⟩ = some (.int .u32 (y.magic : Int)) ∧ W.cell? ⟨w9.heap.size, 6, none⟩ = some (.slice q1.a1 q1.n1 q1.c1) ∧ W.cell? ⟨w9.heap.size, 7, none⟩ = some (.slice q1.a2 q1.n2 q1.c2) ∧ W.cell? ⟨w9.heap.size, 8, none⟩ = some (.slice q1.ad q1.nd q1.cd) ∧ W.cell? ⟨w9.heap.size, 9, none⟩ = some (.slice q1.an q1.nn q1.cn) ∧ W.cell? ⟨w11.heap.size, 0, none⟩ = some (.int .u16 (y.proto : Int)) ∧ W.cell? ⟨w11.heap.size, 1, none⟩ = some (.int .u8 (y.code : Int)) ∧ W.cell? ⟨w11.heap.size, 2, none⟩ = some (.int .u8 (y.id : Int)) ∧ W.cell? ⟨w11.heap.size, 3, none⟩ = some (.slice q2.ao q2.no q2.co) ∧ W.cell? ⟨w11.heap.size, 4, none⟩ = some (.int .u16 (y.sub : Int)) ∧ W.cell? ⟨w11.heap.size, 5, none⟩ = some (.int .u32 (y.magic : Int)) ∧ W.cell? ⟨w11.heap.size, 6, none⟩ = some (.slice q2.a1 q2.n1 q2.c1) ∧ W.cell? ⟨w11.heap.size, 7, none⟩ = some (.slice q2.a2 q2.n2 q2.c2) ∧ W.cell? ⟨w11.heap.size, 8, none⟩ = some (.slice q2.ad q2.nd q2.cd) ∧ W.cell? ⟨w11.heap.size, 9, none⟩ = some (.slice q2.an q2.nn q2.cn))) (by kernel_rfl) (by (first | (with_reducible exact Z.out.flat) | (with_reducible exact Z.out.drew.flat))) (fun _ => ?_)
  refine wpAnyH_take (i := 0) (oi := ?o0) (v := ?v0) ?hi0 (by kernel_rfl) (by kernel_rfl) (by kernel_rfl) ?hq0 (Or.inl ⟨?hw0, ?hy0⟩) (by (first | (with_reducible exact Z.out.flat) | (with_reducible exact Z.out.drew.flat))) ?rest0
  case hi0 => (simp only [List.getElem?_toArray, List.getElem?_cons_zero]; rfl)
  case hw0 => (rfl)
  case hq0 => (exact fun _ _ _ h => h)
  case hy0 => (intro w hSw; (try dsimp only at hSw); go_simp; (try with_reducible rfl))
  try simp only [Act.put, List.setIfInBounds_toArray, List.set_cons_zero, List.set_cons_succ]
  refine wpAnyH_take (i := 1) (oi := ?o1) (v := ?v1) ?hi1 (by kernel_rfl) (by kernel_rfl) (by kernel_rfl) ?hq1 (Or.inl ⟨?hw1, ?hy1⟩) (by (first | (with_reducible exact Z.out.flat) | (with_reducible exact Z.out.drew.flat))) ?rest1
  case hi1 => (simp only [List.getElem?_toArray, List.getElem?_cons_succ, List.getElem?_cons_zero]; rfl)
  case hw1 => (rfl)
  case hq1 => (exact fun _ _ _ h => h)
  case hy1 => (intro w hSw; (try dsimp only at hSw); go_simp; (try with_reducible rfl))
  try simp only [Act.put, List.setIfInBounds_toArray, List.set_cons_zero, List.set_cons_succ]
  refine wpAnyH_take (i := 2) (oi := ?o2) (v := ?v2) ?hi2 (by kernel_rfl) (by kernel_rfl) (by kernel_rfl) ?hq2 (Or.inl ⟨?hw2, ?hy2⟩) (by (first | (with_reducible exact Z.out.flat) | (with_reducible exact Z.out.drew.flat))) ?rest2
  case hi2 => (simp only [List.getElem?_toArray, List.getElem?_cons_succ, List.getElem?_cons_zero]; rfl)
  case hw2 => (rfl)
  case hq2 => (exact fun _ _ _ h => h)
  case hy2 => (intro w hSw; (try dsimp only at hSw); go_simp; (try with_reducible rfl))
  try simp only [Act.put, List.setIfInBounds_toArray, List.set_cons_zero, List.set_cons_succ]
  refine wpAnyH_take (i := 3) (oi := ?o3) (v := ?v3) ?hi3 (by kernel_rfl) (by kernel_rfl) (by kernel_rfl) ?hq3 (Or.inl ⟨?hw3, ?hy3⟩) (by (first | (with_reducible exact Z.out.flat) | (with_reducible exact Z.out.drew.flat))) ?rest3
  case hi3 => (simp only [List.getElem?_toArray, List.getElem?_cons_succ, List.getElem?_cons_zero]; rfl)
  case hw3 => (rfl)
  case hq3 => (exact fun _ _ _ h => h)
  case hy3 => (intro w hSw; (try dsimp only at hSw); go_simp; (try with_reducible rfl))
  try simp only [Act.put, List.setIfInBounds_toArray, List.set_cons_zero, List.set_cons_succ]
  refine wpAnyH_take (i := 4) (oi := ?o4) (v := ?v4) ?hi4 (by kernel_rfl) (by kernel_rfl) (by kernel_rfl) ?hq4 (Or.inl ⟨?hw4, ?hy4⟩) (by (first | (with_reducible exact Z.out.flat) | (with_reducible exact Z.out.drew.flat))) ?rest4
  case hi4 => (simp only [List.getElem?_toArray, List.getElem?_cons_succ, List.getElem?_cons_zero]; rfl)
  case hw4 => (rfl)
  case hq4 => (exact fun _ _ _ h => h)
  case hy4 => (intro w hSw; (try dsimp only at hSw); go_simp; (try with_reducible rfl))
  try simp only [Act.put, List.setIfInBounds_toArray, List.set_cons_zero, List.set_cons_succ]
  refine wpAnyH_take (i := 5) (oi := ?o5) (v := ?v5) ?hi5 (by kernel_rfl) (by kernel_rfl) (by kernel_rfl) ?hq5 (Or.inl ⟨?hw5, ?hy5⟩) (by (first | (with_reducible exact Z.out.flat) | (with_reducible exact Z.out.drew.flat))) ?rest5
  case hi5 => (simp only [List.getElem?_toArray, List.getElem?_cons_succ, List.getElem?_cons_zero]; rfl)
  case hw5 => (rfl)
  case hq5 => (exact fun _ _ _ h => h)
  case hy5 => (intro w hSw; (try dsimp only at hSw); go_simp; (try with_reducible rfl))
  try simp only [Act.put, List.setIfInBounds_toArray, List.set_cons_zero, List.set_cons_succ]
  refine wpAnyH_ready (rs := [6]) (by kernel_rfl) (by simp) ?_
  refine AllReadyH.cons (o := ?o6) ?hi6 (fun K hK => ?st6) AllReadyH.nil
  case hi6 => (simp only [List.getElem?_toArray, List.getElem?_cons_succ, List.getElem?_cons_zero]; rfl)
  go_simp
  go_at_call 13; (first | (with_reducible refine (equal_yes m m n n _ _ _ _ _ Z.out.ra Z.out.rb hn.out hn.out (by omega) rfl).mono ?_) | (with_reducible refine (equal_yes m m n n _ _ _ _ _ Z.out.drew.ra Z.out.drew.rb hn.out hn.out (by omega) rfl).mono ?_)); rintro e wn ⟨rfl, hb⟩; replace Z := Lib.hid (Z.out.step hb); clear hb; dsimp only
  refine hK.out _ _ (by (first | (with_reducible exact Z.out.flat) | (with_reducible exact Z.out.drew.flat))) (fun _ => ?_)
  clear hK K
  try simp only [Act.put, List.setIfInBounds_toArray, List.set_cons_zero, List.set_cons_succ]
  refine wpAnyH_take (i := 7) (oi := ?o7) (v := ?v7) ?hi7 (by kernel_rfl) (by kernel_rfl) (by kernel_rfl) ?hq7 (Or.inl ⟨?hw7, ?hy7⟩) (by (first | (with_reducible exact Z.out.flat) | (with_reducible exact Z.out.drew.flat))) ?rest7
  case hi7 => (simp only [List.getElem?_toArray, List.getElem?_cons_succ, List.getElem?_cons_zero]; rfl)
  case hw7 => (rfl)
  case hq7 => (exact fun _ _ _ h => h)
  case hy7 => (intro w hSw; (try dsimp only at hSw); go_simp; (try with_reducible rfl))
  try simp only [Act.put, List.setIfInBounds_toArray, List.set_cons_zero, List.set_cons_succ]
  refine wpAnyH_take (i := 8) (oi := ?o8) (v := ?v8) ?hi8 (by kernel_rfl) (by kernel_rfl) (by kernel_rfl) ?hq8 (Or.inl ⟨?hw8, ?hy8⟩) (by (first | (with_reducible exact Z.out.flat) | (with_reducible exact Z.out.drew.flat))) ?rest8
  case hi8 => (simp only [List.getElem?_toArray, List.getElem?_cons_succ, List.getElem?_cons_zero]; rfl)
  case hw8 => (rfl)
  case hq8 => (exact fun _ _ _ h => h)
  case hy8 => (intro w hSw; (try dsimp only at hSw); go_simp; (try with_reducible rfl))
  try simp only [Act.put, List.setIfInBounds_toArray, List.set_cons_zero, List.set_cons_succ]
  refine wpAnyH_take (i := 9) (oi := ?o9) (v := ?v9) ?hi9 (by kernel_rfl) (by kernel_rfl) (by kernel_rfl) ?hq9 (Or.inl ⟨?hw9, ?hy9⟩) (by (first | (with_reducible exact Z.out.flat) | (with_reducible exact Z.out.drew.flat))) ?rest9
  case hi9 => (simp only [List.getElem?_toArray, List.getElem?_cons_succ, List.getElem?_cons_zero]; rfl)
  case hw9 => (rfl)
  case hq9 => (exact fun _ _ _ h => h)
  case hy9 => (intro w hSw; (try dsimp only at hSw); go_simp; (try with_reducible rfl))
  try simp only [Act.put, List.setIfInBounds_toArray, List.set_cons_zero, List.set_cons_succ]
  refine wpAnyH_take (i := 10) (oi := ?o10) (v := ?v10) ?hi10 (by kernel_rfl) (by kernel_rfl) (by kernel_rfl) ?hq10 (Or.inl ⟨?hw10, ?hy10⟩) (by (first | (with_reducible exact Z.out.flat) | (with_reducible exact Z.out.drew.flat))) ?rest10
  case hi10 => (simp only [List.getElem?_toArray, List.getElem?_cons_succ, List.getElem?_cons_zero]; rfl)
  case hw10 => (rfl)
  case hq10 => (exact fun _ _ _ h => h)
  case hy10 => (intro w hSw; (try dsimp only at hSw); go_simp; (try with_reducible rfl))
  try simp only [Act.put, List.setIfInBounds_toArray, List.set_cons_zero, List.set_cons_succ]
  refine wpAnyH_take (i := 11) (oi := ?o11) (v := ?v11) ?hi11 (by kernel_rfl) (by kernel_rfl) (by kernel_rfl) ?hq11 (Or.inl ⟨?hw11, ?hy11⟩) (by (first | (with_reducible exact Z.out.flat) | (with_reducible exact Z.out.drew.flat))) ?rest11
  case hi11 => (simp only [List.getElem?_toArray, List.getElem?_cons_succ, List.getElem?_cons_zero]; rfl)
  case hw11 => (rfl)
  case hq11 => (exact fun _ _ _ h => h)
  case hy11 => (intro w hSw; (try dsimp only at hSw); go_simp; (try with_reducible rfl))
  try simp only [Act.put, List.setIfInBounds_toArray, List.set_cons_zero, List.set_cons_succ]
  refine wpAnyH_take (i := 12) (oi := ?o12) (v := ?v12) ?hi12 (by kernel_rfl) (by kernel_rfl) (by kernel_rfl) ?hq12 (Or.inl ⟨?hw12, ?hy12⟩) (by (first | (with_reducible exact Z.out.flat) | (with_reducible exact Z.out.drew.flat))) ?rest12
  case hi12 => (simp only [List.getElem?_toArray, List.getElem?_cons_succ, List.getElem?_cons_zero]; rfl)
  case hw12 => (rfl)
  case hq12 => (exact fun _ _ _ h => h)
  case hy12 => (intro w hSw; (try dsimp only at hSw); go_simp; (try with_reducible rfl))
  try simp only [Act.put, List.setIfInBounds_toArray, List.set_cons_zero, List.set_cons_succ]
  refine wpAnyH_take (i := 13) (oi := ?o13) (v := ?v13) ?hi13 (by kernel_rfl) (by kernel_rfl) (by kernel_rfl) ?hq13 (Or.inl ⟨?hw13, ?hy13⟩) (by (first | (with_reducible exact Z.out.flat) | (with_reducible exact Z.out.drew.flat))) ?rest13
  case hi13 => (simp only [List.getElem?_toArray, List.getElem?_cons_succ, List.getElem?_cons_zero]; rfl)
  case hw13 => (rfl)
  case hq13 => (exact fun _ _ _ h => h)
  case hy13 => (intro w hSw; (try dsimp only at hSw); go_simp; (try with_reducible rfl))
  try simp only [Act.put, List.setIfInBounds_toArray, List.set_cons_zero, List.set_cons_succ]
  refine wpAnyH_take (i := 14) (oi := ?o14) (v := ?v14) ?hi14 (by kernel_rfl) (by kernel_rfl) (by kernel_rfl) ?hq14 (Or.inl ⟨?hw14, ?hy14⟩) (by (first | (with_reducible exact Z.out.flat) | (with_reducible exact Z.out.drew.flat))) ?rest14
  case hi14 => (simp only [List.getElem?_toArray, List.getElem?_cons_succ, List.getElem?_cons_zero]; rfl)
  case hw14 => (rfl)
  case hq14 => (exact fun _ _ _ h => h)
  case hy14 => (intro w hSw; (try dsimp only at hSw); go_simp; (try with_reducible rfl))
  try simp only [Act.put, List.setIfInBounds_toArray, List.set_cons_zero, List.set_cons_succ]
  refine wpAnyH_take (i := 16) (oi := ?o16) (v := ?v16) ?hi16 (by kernel_rfl) (by kernel_rfl) (by kernel_rfl) ?hq16 (Or.inl ⟨?hw16, ?hy16⟩) (by (first | (with_reducible exact Z.out.flat) | (with_reducible exact Z.out.drew.flat))) ?rest16
  case hi16 => (simp only [List.getElem?_toArray, List.getElem?_cons_succ, List.getElem?_cons_zero]; rfl)
  case hw16 => (rfl)
  case hq16 => (exact fun _ _ _ h => h)
  case hy16 => (intro w hSw; (try dsimp only at hSw); go_simp; (try with_reducible rfl))
  try simp only [Act.put, List.setIfInBounds_toArray, List.set_cons_zero, List.set_cons_succ]
  refine wpAnyH_ready (rs := [15]) (by kernel_rfl) (by simp) ?_
  refine AllReadyH.cons (o := ?o15) ?hi15 (fun K hK => ?st15) AllReadyH.nil
  case hi15 => (simp only [List.getElem?_toArray, List.getElem?_cons_succ, List.getElem?_cons_zero]; rfl)
  go_simp
  go_at_call 15; (first | (with_reducible refine (to15_any y q1 _ Z.out.p1 (by rw [← Z.out.p1.lo]; exact HY.out.o)).mono ?_) | (with_reducible refine (to15_any y q1 _ Z.out.drew.p1 (by rw [← Z.out.p1.lo]; exact HY.out.o)).mono ?_)); rintro e wn ⟨q3, rfl, hp3, hb⟩; replace Z := Lib.hid (Z.out.step hb); have P3 := Lib.hid hp3; clear hp3 hb; dsimp only
  refine hK.out _ _ (by (first | (with_reducible exact Z.out.flat) | (with_reducible exact Z.out.drew.flat))) (fun _ => ?_)
  clear hK K
  try simp only [Act.put, List.setIfInBounds_toArray, List.set_cons_zero, List.set_cons_succ]
  refine wpAnyH_ready (rs := [17]) (by kernel_rfl) (by simp) ?_
  refine AllReadyH.cons (o := ?o17) ?hi17 (fun K hK => ?st17) AllReadyH.nil
  case hi17 => (simp only [List.getElem?_toArray, List.getElem?_cons_succ, List.getElem?_cons_zero]; rfl)
  go_simp
  go_at_call 14; (with_reducible refine (psame_yes y q3 q2 _ P3.out Z.out.p2 HY.out).mono ?_); rintro e wn ⟨rfl, hb⟩; replace Z := Lib.hid (Z.out.step hb); clear hb P3; dsimp only
  refine hK.out _ _ (by (first | (with_reducible exact Z.out.flat) | (with_reducible exact Z.out.drew.flat))) (fun _ => ?_)
  clear hK K
  try simp only [Act.put, List.setIfInBounds_toArray, List.set_cons_zero, List.set_cons_succ]
  refine wpAnyH_take (i := 18) (oi := ?o18) (v := ?v18) ?hi18 (by kernel_rfl) (by kernel_rfl) (by kernel_rfl) ?hq18 (Or.inl ⟨?hw18, ?hy18⟩) (by (first | (with_reducible exact Z.out.flat) | (with_reducible exact Z.out.drew.flat))) ?rest18
  case hi18 => (simp only [List.getElem?_toArray, List.getElem?_cons_succ, List.getElem?_cons_zero]; rfl)
  case hw18 => (rfl)
  case hq18 => (exact fun _ _ _ h => h)
  case hy18 => (intro w hSw; (try dsimp only at hSw); go_simp; (try with_reducible rfl))
  try simp only [Act.put, List.setIfInBounds_toArray, List.set_cons_zero, List.set_cons_succ]
  refine wpAnyH_take (i := 19) (oi := ?o19) (v := ?v19) ?hi19 (by kernel_rfl) (by kernel_rfl) (by kernel_rfl) ?hq19 (Or.inl ⟨?hw19, ?hy19⟩) (by (first | (with_reducible exact Z.out.flat) | (with_reducible exact Z.out.drew.flat))) ?rest19
  case hi19 => (simp only [List.getElem?_toArray, List.getElem?_cons_succ, List.getElem?_cons_zero]; rfl)
  case hw19 => (rfl)
  case hq19 => (exact fun _ _ _ h => h)
  case hy19 => (intro w hSw; (try dsimp only at hSw); go_simp; (try with_reducible rfl))
  try simp only [Act.put, List.setIfInBounds_toArray, List.set_cons_zero, List.set_cons_succ]
  refine wpAnyH_take (i := 20) (oi := ?o20) (v := ?v20) ?hi20 (by kernel_rfl) (by kernel_rfl) (by kernel_rfl) ?hq20 (Or.inl ⟨?hw20, ?hy20⟩) (by (first | (with_reducible exact Z.out.flat) | (with_reducible exact Z.out.drew.flat))) ?rest20
  case hi20 => (simp only [List.getElem?_toArray, List.getElem?_cons_succ, List.getElem?_cons_zero]; rfl)
  case hw20 => (rfl)
  case hq20 => (exact fun _ _ _ h => h)
  case hy20 => (intro w hSw; (try dsimp only at hSw); go_simp; (try with_reducible rfl))
  try simp only [Act.put, List.setIfInBounds_toArray, List.set_cons_zero, List.set_cons_succ]
  refine wpAnyH_take (i := 22) (oi := ?o22) (v := ?v22) ?hi22 (by kernel_rfl) (by kernel_rfl) (by kernel_rfl) ?hq22 (Or.inl ⟨?hw22, ?hy22⟩) (by (first | (with_reducible exact Z.out.flat) | (with_reducible exact Z.out.drew.flat))) ?rest22
  case hi22 => (simp only [List.getElem?_toArray, List.getElem?_cons_succ, List.getElem?_cons_zero]; rfl)
  case hw22 => (rfl)
  case hq22 => (exact fun _ _ _ h => h)
  case hy22 => (intro w hSw; (try dsimp only at hSw); go_simp; (try with_reducible rfl))
  try simp only [Act.put, List.setIfInBounds_toArray, List.set_cons_zero, List.set_cons_succ]
  refine wpAnyH_take (i := 23) (oi := ?o23) (v := ?v23) ?hi23 (by kernel_rfl) (by kernel_rfl) (by kernel_rfl) ?hq23 (Or.inl ⟨?hw23, ?hy23⟩) (by (first | (with_reducible exact Z.out.flat) | (with_reducible exact Z.out.drew.flat))) ?rest23
  case hi23 => (simp only [List.getElem?_toArray, List.getElem?_cons_succ, List.getElem?_cons_zero]; rfl)
  case hw23 => (rfl)
  case hq23 => (exact fun _ _ _ h => h)
  case hy23 => (intro w hSw; (try dsimp only at hSw); go_simp; (try with_reducible rfl))
  try simp only [Act.put, List.setIfInBounds_toArray, List.set_cons_zero, List.set_cons_succ]
  refine wpAnyH_ready (rs := [21]) (by kernel_rfl) (by simp) ?_
  refine AllReadyH.cons (o := ?o21) ?hi21 (fun K hK => ?st21) AllReadyH.nil
  case hi21 => (simp only [List.getElem?_toArray, List.getElem?_cons_succ, List.getElem?_cons_zero]; rfl)
  go_simp
  go_at_call 16; (with_reducible refine (nis_any t _ HI.out _).mono ?_); rintro e wn ⟨rfl, hb⟩; replace Z := Lib.hid (Z.out.step hb); clear hb; dsimp only
  refine hK.out _ _ (by (first | (with_reducible exact Z.out.flat) | (with_reducible exact Z.out.drew.flat))) (fun _ => ?_)
  clear hK K
  try simp only [Act.put, List.setIfInBounds_toArray, List.set_cons_zero, List.set_cons_succ]
  refine wpAnyH_take (i := 24) (oi := ?o24) (v := ?v24) ?hi24 (by kernel_rfl) (by kernel_rfl) (by kernel_rfl) ?hq24 (Or.inl ⟨?hw24, ?hy24⟩) (by (first | (with_reducible exact Z.out.flat) | (with_reducible exact Z.out.drew.flat))) ?rest24
  case hi24 => (simp only [List.getElem?_toArray, List.getElem?_cons_succ, List.getElem?_cons_zero]; rfl)
  case hw24 => (rfl)
  case hq24 => (exact fun _ _ _ h => h)
  case hy24 => (intro w hSw; (try dsimp only at hSw); go_simp; (try with_reducible rfl))
  try simp only [Act.put, List.setIfInBounds_toArray, List.set_cons_zero, List.set_cons_succ]
  refine wpAnyH_take (i := 25) (oi := ?o25) (v := ?v25) ?hi25 (by kernel_rfl) (by kernel_rfl) (by kernel_rfl) ?hq25 (Or.inl ⟨?hw25, ?hy25⟩) (by (first | (with_reducible exact Z.out.flat) | (with_reducible exact Z.out.drew.flat))) ?rest25
  case hi25 => (simp only [List.getElem?_toArray, List.getElem?_cons_succ, List.getElem?_cons_zero]; rfl)
  case hw25 => (rfl)
  case hq25 => (exact fun _ _ _ h => h)
  case hy25 => (intro w hSw; (try dsimp only at hSw); go_simp; (try with_reducible rfl))
  try simp only [Act.put, List.setIfInBounds_toArray, List.set_cons_zero, List.set_cons_succ]
  refine wpAnyH_take (i := 26) (oi := ?o26) (v := ?v26) ?hi26 (by kernel_rfl) (by kernel_rfl) (by kernel_rfl) ?hq26 (Or.inl ⟨?hw26, ?hy26⟩) (by (first | (with_reducible exact Z.out.flat) | (with_reducible exact Z.out.drew.flat))) ?rest26
  case hi26 => (simp only [List.getElem?_toArray, List.getElem?_cons_succ, List.getElem?_cons_zero]; rfl)
  case hw26 => (rfl)
  case hq26 => (exact fun _ _ _ h => h)
  case hy26 => (intro w hSw; (try dsimp only at hSw); go_simp; (try with_reducible rfl))
  try simp only [Act.put, List.setIfInBounds_toArray, List.set_cons_zero, List.set_cons_succ]
  refine wpAnyH_take (i := 27) (oi := ?o27) (v := ?v27) ?hi27 (by kernel_rfl) (by kernel_rfl) (by kernel_rfl) ?hq27 (Or.inl ⟨?hw27, ?hy27⟩) (by (first | (with_reducible exact Z.out.flat) | (with_reducible exact Z.out.drew.flat))) ?rest27
  case hi27 => (simp only [List.getElem?_toArray, List.getElem?_cons_succ, List.getElem?_cons_zero]; rfl)
  case hw27 => (rfl)
  case hq27 => (exact fun _ _ _ h => h)
  case hy27 => (intro w hSw; (try dsimp only at hSw); go_simp; (try with_reducible rfl))
  try simp only [Act.put, List.setIfInBounds_toArray, List.set_cons_zero, List.set_cons_succ]
  refine wpAnyH_take (i := 28) (oi := ?o28) (v := ?v28) ?hi28 (by kernel_rfl) (by kernel_rfl) (by kernel_rfl) ?hq28 (Or.inl ⟨?hw28, ?hy28⟩) (by (first | (with_reducible exact Z.out.flat) | (with_reducible exact Z.out.drew.flat))) ?rest28
  case hi28 => (simp only [List.getElem?_toArray, List.getElem?_cons_succ, List.getElem?_cons_zero]; rfl)
  case hw28 => (rfl)
  case hq28 => (exact fun _ _ _ h => h)
  case hy28 => (intro w hSw; (try dsimp only at hSw); go_simp; (try with_reducible rfl))
  try simp only [Act.put, List.setIfInBounds_toArray, List.set_cons_zero, List.set_cons_succ]
  refine wpAnyH_take (i := 29) (oi := ?o29) (v := ?v29) ?hi29 (by kernel_rfl) (by kernel_rfl) (by kernel_rfl) ?hq29 (Or.inl ⟨?hw29, ?hy29⟩) (by (first | (with_reducible exact Z.out.flat) | (with_reducible exact Z.out.drew.flat))) ?rest29
  case hi29 => (simp only [List.getElem?_toArray, List.getElem?_cons_succ, List.getElem?_cons_zero]; rfl)
  case hw29 => (rfl)
  case hq29 => (exact fun _ _ _ h => h)
  case hy29 => (intro w hSw; (try dsimp only at hSw); go_simp; (try with_reducible rfl))
  try simp only [Act.put, List.setIfInBounds_toArray, List.set_cons_zero, List.set_cons_succ]
  refine wpAnyH_take (i := 30) (oi := ?o30) (v := ?v30) ?hi30 (by kernel_rfl) (by kernel_rfl) (by kernel_rfl) ?hq30 (Or.inl ⟨?hw30, ?hy30⟩) (by (first | (with_reducible exact Z.out.flat) | (with_reducible exact Z.out.drew.flat))) ?rest30
  case hi30 => (simp only [List.getElem?_toArray, List.getElem?_cons_succ, List.getElem?_cons_zero]; rfl)
  case hw30 => (rfl)
  case hq30 => (exact fun _ _ _ h => h)
  case hy30 => (intro w hSw; (try dsimp only at hSw); go_simp; (try with_reducible rfl))
  try simp only [Act.put, List.setIfInBounds_toArray, List.set_cons_zero, List.set_cons_succ]
  refine wpAnyH_done (by kernel_rfl) ?_ _
  go_wp2_with fail
  go_ret
  exact ⟨rfl, Z.out.bel⟩

theorem ntell_walk (p : Pk) (q : Pl) (t : Nat) (t16 : t < 65536) (b : List Nat) (A1 : Option Addr) (n1 c1 : Nat) (w : World) (h : IsPk w p q) (hR : Rd w w.heap.size A1 b) (hB : By b) (hL : b.length = n1) (hc1 : n1 ≤ c1) (hf : fewP p = true) (h1 : n1 ≤ 600) :
    Calls Try.prog 3 #[p.val q, .int .u16 (t : Int), .slice A1 n1 c1] w fun e w' => e = .returned (.bool true) ∧ Below w.heap.size w w' := by
  by_cases ha : t = 32801
  · exact ntell_a p q t ha t16 b A1 n1 c1 w h hR hB hL hc1 hf h1
  by_cases hb : t = 32855
  · exact ntell_b p q t hb t16 b A1 n1 c1 w h hR hB hL hc1 hf h1
  exact ntell_c p q t (by omega) t16 b A1 n1 c1 w h hR hB hL hc1 hf h1
end Go.Proofs.Ytdnnincdbenjfaa
