
/-
  What the program's calls of layer 20 answer. No condition beyond: packets that Go may have, at most 2^30 elements in each slice.
-/
import Derived.Test.YtmhjnghomihjlaaGMat
import Derived.Test.YtmhjnghomihjlaaBodE
import Derived.Test.YtmhjnghomihjlaaGLcq
import Derived.Test.YtmhjnghomihjlaaNcpP
import Derived.Test.YtmhjnghomihjlaaPapP
import Derived.Test.YtmhjnghomihjlaaChpP
import Derived.Test.YtmhjnghomihjlaaLqrP
import Derived.Deep.CutRange
import Derived.Deep.RegionHeld3
namespace Go.Proofs.Ytmhjnghomihjlaa
set_option maxRecDepth 4000
open Go.RowKit
set_option linter.unusedVariables false

theorem bmeth_link_put (k : Nat) (w : World) : (method (k + 1) 96 (.agg #[]) "marline/body.put").run Try.prog w = .ok (62, (.agg #[])) w := by kernel_rfl
theorem bmeth_link_get (k : Nat) (w : World) : (method (k + 1) 96 (.agg #[]) "marline/body.get").run Try.prog w = .ok (61, (.agg #[])) w := by kernel_rfl
theorem bmeth_network_put (v : Int) (k : Nat) (w : World) : (method (k + 1) 97 (.int .u16 v) "marline/body.put").run Try.prog w = .ok (83, (.int .u16 v)) w := by kernel_rfl
theorem bmeth_network_get (v : Int) (k : Nat) (w : World) : (method (k + 1) 97 (.int .u16 v) "marline/body.get").run Try.prog w = .ok (82, (.int .u16 v)) w := by kernel_rfl
theorem bmeth_password_put (k : Nat) (w : World) : (method (k + 1) 98 (.agg #[]) "marline/body.put").run Try.prog w = .ok (89, (.agg #[])) w := by kernel_rfl
theorem bmeth_password_get (k : Nat) (w : World) : (method (k + 1) 98 (.agg #[]) "marline/body.get").run Try.prog w = .ok (88, (.agg #[])) w := by kernel_rfl
theorem bmeth_challenge_put (k : Nat) (w : World) : (method (k + 1) 99 (.agg #[]) "marline/body.put").run Try.prog w = .ok (96, (.agg #[])) w := by kernel_rfl
theorem bmeth_challenge_get (k : Nat) (w : World) : (method (k + 1) 99 (.agg #[]) "marline/body.get").run Try.prog w = .ok (95, (.agg #[])) w := by kernel_rfl
theorem bmeth_report_put (k : Nat) (w : World) : (method (k + 1) 100 (.agg #[]) "marline/body.put").run Try.prog w = .ok (103, (.agg #[])) w := by kernel_rfl
theorem bmeth_report_get (k : Nat) (w : World) : (method (k + 1) 100 (.agg #[]) "marline/body.get").run Try.prog w = .ok (102, (.agg #[])) w := by kernel_rfl
theorem bmeth_other_put (v : Int) (k : Nat) (w : World) : (method (k + 1) 101 (.int .u16 v) "marline/body.put").run Try.prog w = .ok (109, (.int .u16 v)) w := by kernel_rfl
theorem bmeth_other_get (v : Int) (k : Nat) (w : World) : (method (k + 1) 101 (.int .u16 v) "marline/body.get").run Try.prog w = .ok (107, (.int .u16 v)) w := by kernel_rfl

set_option maxHeartbeats 2000000 in
theorem bof_none (t : Nat) (w : World) (h65 : t < 65536) (h : rightB t = false) :
    Calls Try.prog 40 #[.int .u16 (t : Int)] w fun e w' => e = .returned (.tuple #[.nilIface, .int .i64 7]) ∧ Below w.heap.size w w' := by
  have B := Lib.hid (Below.refl w.heap.size w)
  have H65 := Lib.hid h65
  have HQ := Lib.hid h
  clear h h65
  go_enter Try.func40, Try.ntmps40
  go_wp2_with (go_at_call 43; (with_reducible refine (right_v t false H65.out HQ.out _).mono ?_); rintro e wn ⟨rfl, rfl⟩)
  go_ret2
  exact ⟨rfl, B.out⟩

set_option maxHeartbeats 2000000 in
theorem bof_lcp (t : Nat) (w : World) (h65 : t < 65536) (h : t = 49185) :
    Calls Try.prog 40 #[.int .u16 (t : Int)] w fun e w' => e = .returned (.tuple #[.iface 96 (.agg #[]), .int .i64 0]) ∧ Below w.heap.size w w' := by
  have B := Lib.hid (Below.refl w.heap.size w)
  have H65 := Lib.hid h65
  have HQ := Lib.hid (show rightB t = true by rw [h]; decide)
  have f0 : ((t : Int) == 49185) = true := by simp; omega
  clear h h65
  go_enter Try.func40, Try.ntmps40
  go_wp2_with (go_at_call 43; (with_reducible refine (right_v t true H65.out HQ.out _).mono ?_); rintro e wn ⟨rfl, rfl⟩)
  go_ret2
  exact ⟨rfl, B.out⟩

set_option maxHeartbeats 2000000 in
theorem bof_ncp (t : Nat) (w : World) (h65 : t < 65536) (h : t = 32801 ∨ t = 32855) :
    Calls Try.prog 40 #[.int .u16 (t : Int)] w fun e w' => e = .returned (.tuple #[.iface 97 (.int .u16 (t : Int)), .int .i64 0]) ∧ Below w.heap.size w w' := by
  have B := Lib.hid (Below.refl w.heap.size w)
  have H65 := Lib.hid h65
  have HQ := Lib.hid (show rightB t = true by rcases h with h | h <;> rw [h] <;> decide)
  have f0 : ((t : Int) == 49185) = false := by simp; omega
  have HI := Lib.hid (show decide (t = 32801 ∨ t = 32855) = true by simp; omega)
  clear h h65
  go_enter Try.func40, Try.ntmps40
  go_wp2_with (first
    | (go_at_call 43; (with_reducible refine (right_v t true H65.out HQ.out _).mono ?_); rintro e wn ⟨rfl, rfl⟩)
    | (go_at_call 44; (with_reducible refine (nis_any t true HI.out _).mono ?_); rintro e wn ⟨rfl, hb⟩; replace B := Lib.hid (B.out.trans (hb.mono B.out.size)); clear hb))
  go_ret2
  exact ⟨rfl, B.out⟩

set_option maxHeartbeats 2000000 in
theorem bof_pap (t : Nat) (w : World) (h65 : t < 65536) (h : t = 49187) :
    Calls Try.prog 40 #[.int .u16 (t : Int)] w fun e w' => e = .returned (.tuple #[.iface 98 (.agg #[]), .int .i64 0]) ∧ Below w.heap.size w w' := by
  have B := Lib.hid (Below.refl w.heap.size w)
  have H65 := Lib.hid h65
  have HQ := Lib.hid (show rightB t = true by rw [h]; decide)
  have f0 : ((t : Int) == 49185) = false := by simp; omega
  have f1 : ((t : Int) == 49187) = true := by simp; omega
  have HI := Lib.hid (show decide (t = 32801 ∨ t = 32855) = false by simp; omega)
  clear h h65
  go_enter Try.func40, Try.ntmps40
  go_wp2_with (first
    | (go_at_call 43; (with_reducible refine (right_v t true H65.out HQ.out _).mono ?_); rintro e wn ⟨rfl, rfl⟩)
    | (go_at_call 44; (with_reducible refine (nis_any t false HI.out _).mono ?_); rintro e wn ⟨rfl, hb⟩; replace B := Lib.hid (B.out.trans (hb.mono B.out.size)); clear hb))
  go_ret2
  exact ⟨rfl, B.out⟩

set_option maxHeartbeats 2000000 in
theorem bof_chap (t : Nat) (w : World) (h65 : t < 65536) (h : t = 49699) :
    Calls Try.prog 40 #[.int .u16 (t : Int)] w fun e w' => e = .returned (.tuple #[.iface 99 (.agg #[]), .int .i64 0]) ∧ Below w.heap.size w w' := by
  have B := Lib.hid (Below.refl w.heap.size w)
  have H65 := Lib.hid h65
  have HQ := Lib.hid (show rightB t = true by rw [h]; decide)
  have f0 : ((t : Int) == 49185) = false := by simp; omega
  have f1 : ((t : Int) == 49187) = false := by simp; omega
  have f2 : ((t : Int) == 49699) = true := by simp; omega
  have HI := Lib.hid (show decide (t = 32801 ∨ t = 32855) = false by simp; omega)
  clear h h65
  go_enter Try.func40, Try.ntmps40
  go_wp2_with (first
    | (go_at_call 43; (with_reducible refine (right_v t true H65.out HQ.out _).mono ?_); rintro e wn ⟨rfl, rfl⟩)
    | (go_at_call 44; (with_reducible refine (nis_any t false HI.out _).mono ?_); rintro e wn ⟨rfl, hb⟩; replace B := Lib.hid (B.out.trans (hb.mono B.out.size)); clear hb))
  go_ret2
  exact ⟨rfl, B.out⟩

set_option maxHeartbeats 2000000 in
theorem bof_lqr (t : Nat) (w : World) (h65 : t < 65536) (h : t = 49189) :
    Calls Try.prog 40 #[.int .u16 (t : Int)] w fun e w' => e = .returned (.tuple #[.iface 100 (.agg #[]), .int .i64 0]) ∧ Below w.heap.size w w' := by
  have B := Lib.hid (Below.refl w.heap.size w)
  have H65 := Lib.hid h65
  have HQ := Lib.hid (show rightB t = true by rw [h]; decide)
  have f0 : ((t : Int) == 49185) = false := by simp; omega
  have f1 : ((t : Int) == 49187) = false := by simp; omega
  have f2 : ((t : Int) == 49699) = false := by simp; omega
  have f3 : ((t : Int) == 49189) = true := by simp; omega
  have HI := Lib.hid (show decide (t = 32801 ∨ t = 32855) = false by simp; omega)
  clear h h65
  go_enter Try.func40, Try.ntmps40
  go_wp2_with (first
    | (go_at_call 43; (with_reducible refine (right_v t true H65.out HQ.out _).mono ?_); rintro e wn ⟨rfl, rfl⟩)
    | (go_at_call 44; (with_reducible refine (nis_any t false HI.out _).mono ?_); rintro e wn ⟨rfl, hb⟩; replace B := Lib.hid (B.out.trans (hb.mono B.out.size)); clear hb))
  go_ret2
  exact ⟨rfl, B.out⟩

set_option maxHeartbeats 2000000 in
theorem bof_other (t : Nat) (w : World) (h65 : t < 65536) (h : rightB t = true) (hl : ¬ layB t) :
    Calls Try.prog 40 #[.int .u16 (t : Int)] w fun e w' => e = .returned (.tuple #[.iface 101 (.int .u16 (t : Int)), .int .i64 0]) ∧ Below w.heap.size w w' := by
  have B := Lib.hid (Below.refl w.heap.size w)
  have H65 := Lib.hid h65
  unfold layB at hl
  have HQ := Lib.hid h
  have f0 : ((t : Int) == 49185) = false := by simp; omega
  have f1 : ((t : Int) == 49187) = false := by simp; omega
  have f2 : ((t : Int) == 49699) = false := by simp; omega
  have f3 : ((t : Int) == 49189) = false := by simp; omega
  have HI := Lib.hid (show decide (t = 32801 ∨ t = 32855) = false by simp; omega)
  clear h hl h65
  go_enter Try.func40, Try.ntmps40
  go_wp2_with (first
    | (go_at_call 43; (with_reducible refine (right_v t true H65.out HQ.out _).mono ?_); rintro e wn ⟨rfl, rfl⟩)
    | (go_at_call 44; (with_reducible refine (nis_any t false HI.out _).mono ?_); rintro e wn ⟨rfl, hb⟩; replace B := Lib.hid (B.out.trans (hb.mono B.out.size)); clear hb))
  go_ret2
  exact ⟨rfl, B.out⟩

set_option maxHeartbeats 8000000 in
theorem bmput_lcp (p : Pk) (q : Pl) (w : World) (hp : Pw w p q) (hok : p.ok) (hs : p.sm) (m : List Nat) (k : Nat) (hm : lputB p = (m, k)) (n : Nat) (hn : m.length = n) :
    Calls Try.prog 62 #[.agg #[], p.val q] w fun e w' => PutR w m n k e w' := by
  obtain ⟨w0, hw0⟩ : ∃ w0, w0 = w.alloc (.cells #[] 96) := ⟨_, rfl⟩
  have e0 := Lib.hid (show w.heap.size + 1 = w0.heap.size by rw [hw0]; exact (World.size_alloc _ _).symm)
  have B0 := Lib.hid (show Below w.heap.size w w0 from hw0 ▸ (Below.refl _ _).alloc (Nat.le_refl _) _)
  have C := Lib.hid (BxC.made 37 w0 p q)
  have H := Lib.hid (hp.on B0.out)
  have HOK := Lib.hid hok
  have HS := Lib.hid hs
  have HM := Lib.hid hm
  have HN := Lib.hid hn
  have H32 := Lib.hid (show N32 p.nums from hok.nums)
  clear hp hok hs hm hn
  go_enter Try.func62, Try.ntmps62
  go_upto_region 1 with fail
  rw [← hw0, e0.out]
  clear hw0 e0
  with_reducible refine at_worldP (fun W => Hid (BxC 37 w0 W p q)) C ?_
  clear C
  rintro W C
  obtain ⟨x0, x1, x2, x3, x4, x5, x6, x7, x8, x9⟩ := C.out.cf.all
  go_wp2_with (go_at_call 63; (with_reducible refine (lput_any p q _ (H.out.on C.out.bel) HOK.out HS.out m k HM.out n HN.out).mono ?_); rintro e wn ⟨A5, c5, rfl, h5, h5c, hb⟩; replace C := Lib.hid (C.out.step hb); have X5 := Lib.hid h5; have K5 := Lib.hid h5c; clear h5 h5c hb)
  go_ret2
  exact PutR.mk A5 c5 rfl X5.out K5.out (B0.out.trans (C.out.bel.mono B0.out.size))

set_option maxHeartbeats 8000000 in
theorem bmput_ncp (t : Int) (p : Pk) (q : Pl) (w : World) (hp : Pw w p q) (hok : p.ok) (hs : p.sm) (m : List Nat) (k : Nat) (hm : nputB p = (m, k)) (n : Nat) (hn : m.length = n) :
    Calls Try.prog 83 #[.int .u16 t, p.val q] w fun e w' => PutR w m n k e w' := by
  have C := Lib.hid (BxC.made 37 w p q)
  have H := Lib.hid (hp)
  have HOK := Lib.hid hok
  have HS := Lib.hid hs
  have HM := Lib.hid hm
  have HN := Lib.hid hn
  have H32 := Lib.hid (show N32 p.nums from hok.nums)
  clear hp hok hs hm hn
  go_enter Try.func83, Try.ntmps83
  go_upto_region 1 with fail
  with_reducible refine at_worldP (fun W => Hid (BxC 37 w W p q)) C ?_
  clear C
  rintro W C
  obtain ⟨x0, x1, x2, x3, x4, x5, x6, x7, x8, x9⟩ := C.out.cf.all
  go_wp2_with (go_at_call 84; (with_reducible refine (nput_any p q _ (H.out.on C.out.bel) HOK.out HS.out m k HM.out n HN.out).mono ?_); rintro e wn ⟨A5, c5, rfl, h5, h5c, hb⟩; replace C := Lib.hid (C.out.step hb); have X5 := Lib.hid h5; have K5 := Lib.hid h5c; clear h5 h5c hb)
  go_ret2
  exact PutR.mk A5 c5 rfl X5.out K5.out C.out.bel

set_option maxHeartbeats 8000000 in
theorem bmput_pap (p : Pk) (q : Pl) (w : World) (hp : Pw w p q) (hok : p.ok) (hs : p.sm) (m : List Nat) (k : Nat) (hm : aputB p = (m, k)) (n : Nat) (hn : m.length = n) :
    Calls Try.prog 89 #[.agg #[], p.val q] w fun e w' => PutR w m n k e w' := by
  obtain ⟨w0, hw0⟩ : ∃ w0, w0 = w.alloc (.cells #[] 98) := ⟨_, rfl⟩
  have e0 := Lib.hid (show w.heap.size + 1 = w0.heap.size by rw [hw0]; exact (World.size_alloc _ _).symm)
  have B0 := Lib.hid (show Below w.heap.size w w0 from hw0 ▸ (Below.refl _ _).alloc (Nat.le_refl _) _)
  have C := Lib.hid (BxC.made 37 w0 p q)
  have H := Lib.hid (hp.on B0.out)
  have HOK := Lib.hid hok
  have HS := Lib.hid hs
  have HM := Lib.hid hm
  have HN := Lib.hid hn
  have H32 := Lib.hid (show N32 p.nums from hok.nums)
  clear hp hok hs hm hn
  go_enter Try.func89, Try.ntmps89
  go_upto_region 1 with fail
  rw [← hw0, e0.out]
  clear hw0 e0
  with_reducible refine at_worldP (fun W => Hid (BxC 37 w0 W p q)) C ?_
  clear C
  rintro W C
  obtain ⟨x0, x1, x2, x3, x4, x5, x6, x7, x8, x9⟩ := C.out.cf.all
  go_wp2_with (go_at_call 90; (with_reducible refine (aput_any p q _ (H.out.on C.out.bel) HS.out m k HM.out n HN.out).mono ?_); rintro e wn ⟨A5, c5, rfl, h5, h5c, hb⟩; replace C := Lib.hid (C.out.step hb); have X5 := Lib.hid h5; have K5 := Lib.hid h5c; clear h5 h5c hb)
  go_ret2
  exact PutR.mk A5 c5 rfl X5.out K5.out (B0.out.trans (C.out.bel.mono B0.out.size))

set_option maxHeartbeats 8000000 in
theorem bmput_chap (p : Pk) (q : Pl) (w : World) (hp : Pw w p q) (hok : p.ok) (hs : p.sm) (m : List Nat) (k : Nat) (hm : chputB p = (m, k)) (n : Nat) (hn : m.length = n) :
    Calls Try.prog 96 #[.agg #[], p.val q] w fun e w' => PutR w m n k e w' := by
  obtain ⟨w0, hw0⟩ : ∃ w0, w0 = w.alloc (.cells #[] 99) := ⟨_, rfl⟩
  have e0 := Lib.hid (show w.heap.size + 1 = w0.heap.size by rw [hw0]; exact (World.size_alloc _ _).symm)
  have B0 := Lib.hid (show Below w.heap.size w w0 from hw0 ▸ (Below.refl _ _).alloc (Nat.le_refl _) _)
  have C := Lib.hid (BxC.made 37 w0 p q)
  have H := Lib.hid (hp.on B0.out)
  have HOK := Lib.hid hok
  have HS := Lib.hid hs
  have HM := Lib.hid hm
  have HN := Lib.hid hn
  have H32 := Lib.hid (show N32 p.nums from hok.nums)
  clear hp hok hs hm hn
  go_enter Try.func96, Try.ntmps96
  go_upto_region 1 with fail
  rw [← hw0, e0.out]
  clear hw0 e0
  with_reducible refine at_worldP (fun W => Hid (BxC 37 w0 W p q)) C ?_
  clear C
  rintro W C
  obtain ⟨x0, x1, x2, x3, x4, x5, x6, x7, x8, x9⟩ := C.out.cf.all
  go_wp2_with (go_at_call 97; (with_reducible refine (chput_any p q _ (H.out.on C.out.bel) HS.out m k HM.out n HN.out).mono ?_); rintro e wn ⟨A5, c5, rfl, h5, h5c, hb⟩; replace C := Lib.hid (C.out.step hb); have X5 := Lib.hid h5; have K5 := Lib.hid h5c; clear h5 h5c hb)
  go_ret2
  exact PutR.mk A5 c5 rfl X5.out K5.out (B0.out.trans (C.out.bel.mono B0.out.size))

set_option maxHeartbeats 8000000 in
theorem bmput_lqr (p : Pk) (q : Pl) (w : World) (hp : Pw w p q) (hok : p.ok) (hs : p.sm) (m : List Nat) (k : Nat) (hm : lqputB p = (m, k)) (n : Nat) (hn : m.length = n) :
    Calls Try.prog 103 #[.agg #[], p.val q] w fun e w' => PutR w m n k e w' := by
  obtain ⟨w0, hw0⟩ : ∃ w0, w0 = w.alloc (.cells #[] 100) := ⟨_, rfl⟩
  have e0 := Lib.hid (show w.heap.size + 1 = w0.heap.size by rw [hw0]; exact (World.size_alloc _ _).symm)
  have B0 := Lib.hid (show Below w.heap.size w w0 from hw0 ▸ (Below.refl _ _).alloc (Nat.le_refl _) _)
  have C := Lib.hid (BxC.made 37 w0 p q)
  have H := Lib.hid (hp.on B0.out)
  have HOK := Lib.hid hok
  have HS := Lib.hid hs
  have HM := Lib.hid hm
  have HN := Lib.hid hn
  have H32 := Lib.hid (show N32 p.nums from hok.nums)
  clear hp hok hs hm hn
  go_enter Try.func103, Try.ntmps103
  go_upto_region 1 with fail
  rw [← hw0, e0.out]
  clear hw0 e0
  with_reducible refine at_worldP (fun W => Hid (BxC 37 w0 W p q)) C ?_
  clear C
  rintro W C
  obtain ⟨x0, x1, x2, x3, x4, x5, x6, x7, x8, x9⟩ := C.out.cf.all
  go_wp2_with (go_at_call 104; (with_reducible refine (qput_any p q _ (H.out.on C.out.bel) H32.out m k HM.out n HN.out).mono ?_); rintro e wn ⟨A5, c5, rfl, h5, h5c, hb⟩; replace C := Lib.hid (C.out.step hb); have X5 := Lib.hid h5; have K5 := Lib.hid h5c; clear h5 h5c hb)
  go_ret2
  exact PutR.mk A5 c5 rfl X5.out K5.out (B0.out.trans (C.out.bel.mono B0.out.size))

set_option maxHeartbeats 4000000 in
theorem bpacket_any (t : Nat) (b : List Nat) (n c : Nat) (A : Option Addr) (w : World) :
    Calls Try.prog 108 #[.int .u16 (t : Int), .slice A n c] w fun e w' => e = .returned ((datP t b).val { pl0 with ad := A, nd := n, cd := c }) ∧ Below w.heap.size w w' := by
  have C := Lib.hid (GeC.made 37 w)
  go_enter Try.func108, Try.ntmps108
  go_upto_region 1 with fail
  with_reducible refine at_worldP (fun W => Hid (GeC 37 w W)) C ?_
  clear C
  rintro W C
  obtain ⟨y0, y1, y2, y3, y4, y5, y6, y7, y8, y9⟩ := C.out.res.all; obtain ⟨z0, z1, z2, z3, z4, z5, z6, z7, z8, z9⟩ := C.out.res.free
  go_wp2_with fail
  refine bodyPost_ret (v := (datP t b).val { pl0 with ad := A, nd := n, cd := c }) ?_ rfl ⟨rfl, put10_below C.out.bel (Nat.le_refl _) (datP t b) { pl0 with ad := A, nd := n, cd := c }⟩
  exact results_cell_row rfl _ _ w.heap.size 37 _ _ _ rfl (put10_px C.out.res (datP t b) { pl0 with ad := A, nd := n, cd := c }) Try.underlying37 rfl (by kernel_rfl)

theorem bare_iff (p : Pk) (r : Bool) (h : bareD p = r) : decide (p = datP p.proto p.data) = r := by
  rw [← h, Bool.eq_iff_iff]
  obtain ⟨a1, a2, a3, a4, a5, a6, a7, a8, a9, a10⟩ := p
  simp [bareD, datP]
  exact ⟨fun ⟨h1, h2, h3, h4, h5, h6, h7, h8⟩ => ⟨⟨⟨⟨⟨⟨⟨h1, h2⟩, h4⟩, h5⟩, h3⟩, h6⟩, h7⟩, h8⟩, fun ⟨⟨⟨⟨⟨⟨⟨h1, h2⟩, h4⟩, h5⟩, h3⟩, h6⟩, h7⟩, h8⟩ => ⟨h1, h2, h3, h4, h5, h6, h7, h8⟩⟩
set_option maxHeartbeats 8000000 in
theorem bmput_field (p : Pk) (q : Pl) (w : World) (hp : Pw w p q) (hok : p.ok) (hs : p.sm) (hb : bareD p = false) :
    Calls Try.prog 109 #[.int .u16 (p.proto : Int), p.val q] w fun e w' => PutR w [] 0 9 e w' := by
  have C := Lib.hid (BxC.made 37 w p q)
  have H := Lib.hid hp
  have HOK := Lib.hid hok
  have HS := Lib.hid hs
  have HB := Lib.hid (bare_iff p false hb)
  have HD := Lib.hid (show Pw w (datP p.proto p.data) { pl0 with ad := q.ad, nd := q.nd, cd := q.cd } from ⟨rfl, Rws.nilO, rfl, Rd.nil, rfl, Rd.nil, hp.ld, hp.rd, rfl, Rws.nil, Nat.le_refl _, Nat.le_refl _, hp.kd⟩)
  have HOD := Lib.hid (show (datP p.proto p.data).ok from ⟨hok.proto, show (0 : Nat) < 256 by decide, show (0 : Nat) < 256 by decide, fun x hx => (by cases hx), show (0 : Nat) < 65536 by decide, show (0 : Nat) < 4294967296 by decide, By.nil, By.nil, hok.data, fun x hx => (by cases hx)⟩)
  clear hb hp hok hs
  go_enter Try.func109, Try.ntmps109
  go_upto_region 1 with fail
  with_reducible refine at_worldP (fun W => Hid (BxC 37 w W p q)) C ?_
  clear C
  rintro W C
  obtain ⟨x0, x1, x2, x3, x4, x5, x6, x7, x8, x9⟩ := C.out.cf.all
  go_region_held3 (fun W => W.cell? ⟨w.heap.size, 0, none⟩ = some (.int .u16 (p.proto : Int)) ∧ W.cell? ⟨w.heap.size, 1, none⟩ = some (.int .u8 (p.code : Int)) ∧ W.cell? ⟨w.heap.size, 2, none⟩ = some (.int .u8 (p.id : Int)) ∧ W.cell? ⟨w.heap.size, 3, none⟩ = some (.slice q.ao q.no q.co) ∧ W.cell? ⟨w.heap.size, 4, none⟩ = some (.int .u16 (p.sub : Int)) ∧ W.cell? ⟨w.heap.size, 5, none⟩ = some (.int .u32 (p.magic : Int)) ∧ W.cell? ⟨w.heap.size, 6, none⟩ = some (.slice q.a1 q.n1 q.c1) ∧ W.cell? ⟨w.heap.size, 7, none⟩ = some (.slice q.a2 q.n2 q.c2) ∧ W.cell? ⟨w.heap.size, 8, none⟩ = some (.slice q.ad q.nd q.cd) ∧ W.cell? ⟨w.heap.size, 9, none⟩ = some (.slice q.an q.nn q.cn)) (first | (with_reducible exact C.out.cf.all) | (with_reducible exact (C.out.step (X := _) (Below.refl _ _).drew).cf.all)) (first
    | (go_at_call 108; (with_reducible refine (bpacket_any p.proto p.data q.nd q.cd q.ad _).mono ?_); rintro e wn ⟨rfl, hb⟩; replace C := Lib.hid (C.out.step hb); clear hb)
    | (go_at_call 30; (with_reducible refine (bsame_any p (datP p.proto p.data) q { pl0 with ad := q.ad, nd := q.nd, cd := q.cd } _ (H.out.on C.out.bel) (HD.out.on C.out.bel) HOK.out HOD.out HS.out _ HB.out).mono ?_); rintro e wn ⟨rfl, hb⟩; replace C := Lib.hid (C.out.step hb); clear hb))
  obtain ⟨x0, x1, x2, x3, x4, x5, x6, x7, x8, x9⟩ := C.out.cf.all
  go_wp2_with fail
  go_ret2
  exact PutR.mk none 0 rfl Rd.nil (Nat.le_refl _) C.out.bel

set_option maxHeartbeats 8000000 in
theorem bmput_data (p : Pk) (q : Pl) (w : World) (hp : Pw w p q) (hok : p.ok) (hs : p.sm) (hb : bareD p = true) (n : Nat) (hn : p.data.length = n) :
    Calls Try.prog 109 #[.int .u16 (p.proto : Int), p.val q] w fun e w' => PutR w p.data n 0 e w' := by
  have C := Lib.hid (BxC.made 37 w p q)
  have H := Lib.hid hp
  have HOK := Lib.hid hok
  have HS := Lib.hid hs
  have HB := Lib.hid (bare_iff p true hb)
  have HD := Lib.hid (show Pw w (datP p.proto p.data) { pl0 with ad := q.ad, nd := q.nd, cd := q.cd } from ⟨rfl, Rws.nilO, rfl, Rd.nil, rfl, Rd.nil, hp.ld, hp.rd, rfl, Rws.nil, Nat.le_refl _, Nat.le_refl _, hp.kd⟩)
  have HOD := Lib.hid (show (datP p.proto p.data).ok from ⟨hok.proto, show (0 : Nat) < 256 by decide, show (0 : Nat) < 256 by decide, fun x hx => (by cases hx), show (0 : Nat) < 65536 by decide, show (0 : Nat) < 4294967296 by decide, By.nil, By.nil, hok.data, fun x hx => (by cases hx)⟩)
  have h1 := hs.nd
  have h2 := hp.ld
  have h3 : q.nd = n := by rw [← h2, hn]
  subst h3
  have HN := Lib.hid (show q.nd ≤ 1073741824 by omega)
  clear h1 h2 hn
  clear hb hp hok hs
  go_enter Try.func109, Try.ntmps109
  go_upto_region 1 with fail
  with_reducible refine at_worldP (fun W => Hid (BxC 37 w W p q)) C ?_
  clear C
  rintro W C
  obtain ⟨x0, x1, x2, x3, x4, x5, x6, x7, x8, x9⟩ := C.out.cf.all
  go_region_held3 (fun W => W.cell? ⟨w.heap.size, 0, none⟩ = some (.int .u16 (p.proto : Int)) ∧ W.cell? ⟨w.heap.size, 1, none⟩ = some (.int .u8 (p.code : Int)) ∧ W.cell? ⟨w.heap.size, 2, none⟩ = some (.int .u8 (p.id : Int)) ∧ W.cell? ⟨w.heap.size, 3, none⟩ = some (.slice q.ao q.no q.co) ∧ W.cell? ⟨w.heap.size, 4, none⟩ = some (.int .u16 (p.sub : Int)) ∧ W.cell? ⟨w.heap.size, 5, none⟩ = some (.int .u32 (p.magic : Int)) ∧ W.cell? ⟨w.heap.size, 6, none⟩ = some (.slice q.a1 q.n1 q.c1) ∧ W.cell? ⟨w.heap.size, 7, none⟩ = some (.slice q.a2 q.n2 q.c2) ∧ W.cell? ⟨w.heap.size, 8, none⟩ = some (.slice q.ad q.nd q.cd) ∧ W.cell? ⟨w.heap.size, 9, none⟩ = some (.slice q.an q.nn q.cn)) (first | (with_reducible exact C.out.cf.all) | (with_reducible exact (C.out.step (X := _) (Below.refl _ _).drew).cf.all)) (first
    | (go_at_call 108; (with_reducible refine (bpacket_any p.proto p.data q.nd q.cd q.ad _).mono ?_); rintro e wn ⟨rfl, hb⟩; replace C := Lib.hid (C.out.step hb); clear hb)
    | (go_at_call 30; (with_reducible refine (bsame_any p (datP p.proto p.data) q { pl0 with ad := q.ad, nd := q.nd, cd := q.cd } _ (H.out.on C.out.bel) (HD.out.on C.out.bel) HOK.out HOD.out HS.out _ HB.out).mono ?_); rintro e wn ⟨rfl, hb⟩; replace C := Lib.hid (C.out.step hb); clear hb))
  obtain ⟨x0, x1, x2, x3, x4, x5, x6, x7, x8, x9⟩ := C.out.cf.all
  go_wp2_with (go_at_call 36; (with_reducible refine (clone_any p.data q.nd _ _ _ (H.out.on C.out.bel).rd H.out.ld (by have := HN.out; omega)).mono ?_); rintro e' w5 ⟨A5, c5, rfl, HN5⟩; have H5 := Lib.hid HN5; replace C := Lib.hid (C.out.step HN5.2.2.2); clear HN5)
  go_ret2
  exact PutR.mk A5 c5 rfl H5.out.2.2.1 (own_cap H5.out.2.1) C.out.bel

set_option maxHeartbeats 8000000 in
theorem bput_lcp_w (p : Pk) (q : Pl) (w : World) (hp : Pw w p q) (hok : p.ok) (hs : p.sm) (h : p.proto = 49185) (m : List Nat) (k : Nat) (hm : lputB p = (m, k)) (n : Nat) (hn : m.length = n) :
    Calls Try.prog 32 #[p.val q] w fun e w' => PutR w m n k e w' := by
  have C := Lib.hid (BxC.made 37 w p q)
  have H := Lib.hid hp
  have HOK := Lib.hid hok
  have HS := Lib.hid hs
  have H65 := Lib.hid hok.proto
  have HM := Lib.hid hm
  have HN := Lib.hid hn
  have HP := Lib.hid h
  clear h hp hok hs hm hn
  have fm := fun (k : Nat) (W : World) => bmeth_link_put k W
  go_enter Try.func32, Try.ntmps32
  go_upto_region 1 with fail
  with_reducible refine at_worldP (fun W => Hid (BxC 37 w W p q)) C ?_
  clear C
  rintro W C
  obtain ⟨x0, x1, x2, x3, x4, x5, x6, x7, x8, x9⟩ := C.out.cf.all
  go_wp2_with (first
    | (go_at_call 40; (with_reducible refine (bof_lcp p.proto _ H65.out HP.out).mono ?_); rintro e wn ⟨rfl, hb⟩; replace C := Lib.hid (C.out.step hb); clear hb; clear x0 x1 x2 x3 x4 x5 x6 x7 x8 x9; obtain ⟨x0, x1, x2, x3, x4, x5, x6, x7, x8, x9⟩ := C.out.cf.all)
    | (go_at_call 62; (with_reducible refine (bmput_lcp p q _ (H.out.on C.out.bel) HOK.out HS.out m k HM.out n HN.out).mono ?_); rintro e wn ⟨A5, c5, rfl, h5, h5c, hb⟩; replace C := Lib.hid (C.out.step hb); have X5 := Lib.hid h5; have K5 := Lib.hid h5c; clear h5 h5c hb))
  go_ret2
  exact PutR.mk A5 c5 rfl X5.out K5.out C.out.bel

set_option maxHeartbeats 8000000 in
theorem bput_ncp_w (p : Pk) (q : Pl) (w : World) (hp : Pw w p q) (hok : p.ok) (hs : p.sm) (h : p.proto = 32801 ∨ p.proto = 32855) (m : List Nat) (k : Nat) (hm : nputB p = (m, k)) (n : Nat) (hn : m.length = n) :
    Calls Try.prog 32 #[p.val q] w fun e w' => PutR w m n k e w' := by
  have C := Lib.hid (BxC.made 37 w p q)
  have H := Lib.hid hp
  have HOK := Lib.hid hok
  have HS := Lib.hid hs
  have H65 := Lib.hid hok.proto
  have HM := Lib.hid hm
  have HN := Lib.hid hn
  have HP := Lib.hid h
  clear h hp hok hs hm hn
  have fm := fun (k : Nat) (W : World) => bmeth_network_put (p.proto : Int) k W
  go_enter Try.func32, Try.ntmps32
  go_upto_region 1 with fail
  with_reducible refine at_worldP (fun W => Hid (BxC 37 w W p q)) C ?_
  clear C
  rintro W C
  obtain ⟨x0, x1, x2, x3, x4, x5, x6, x7, x8, x9⟩ := C.out.cf.all
  go_wp2_with (first
    | (go_at_call 40; (with_reducible refine (bof_ncp p.proto _ H65.out HP.out).mono ?_); rintro e wn ⟨rfl, hb⟩; replace C := Lib.hid (C.out.step hb); clear hb; clear x0 x1 x2 x3 x4 x5 x6 x7 x8 x9; obtain ⟨x0, x1, x2, x3, x4, x5, x6, x7, x8, x9⟩ := C.out.cf.all)
    | (go_at_call 83; (with_reducible refine (bmput_ncp _ p q _ (H.out.on C.out.bel) HOK.out HS.out m k HM.out n HN.out).mono ?_); rintro e wn ⟨A5, c5, rfl, h5, h5c, hb⟩; replace C := Lib.hid (C.out.step hb); have X5 := Lib.hid h5; have K5 := Lib.hid h5c; clear h5 h5c hb))
  go_ret2
  exact PutR.mk A5 c5 rfl X5.out K5.out C.out.bel

set_option maxHeartbeats 8000000 in
theorem bput_pap_w (p : Pk) (q : Pl) (w : World) (hp : Pw w p q) (hok : p.ok) (hs : p.sm) (h : p.proto = 49187) (m : List Nat) (k : Nat) (hm : aputB p = (m, k)) (n : Nat) (hn : m.length = n) :
    Calls Try.prog 32 #[p.val q] w fun e w' => PutR w m n k e w' := by
  have C := Lib.hid (BxC.made 37 w p q)
  have H := Lib.hid hp
  have HOK := Lib.hid hok
  have HS := Lib.hid hs
  have H65 := Lib.hid hok.proto
  have HM := Lib.hid hm
  have HN := Lib.hid hn
  have HP := Lib.hid h
  clear h hp hok hs hm hn
  have fm := fun (k : Nat) (W : World) => bmeth_password_put k W
  go_enter Try.func32, Try.ntmps32
  go_upto_region 1 with fail
  with_reducible refine at_worldP (fun W => Hid (BxC 37 w W p q)) C ?_
  clear C
  rintro W C
  obtain ⟨x0, x1, x2, x3, x4, x5, x6, x7, x8, x9⟩ := C.out.cf.all
  go_wp2_with (first
    | (go_at_call 40; (with_reducible refine (bof_pap p.proto _ H65.out HP.out).mono ?_); rintro e wn ⟨rfl, hb⟩; replace C := Lib.hid (C.out.step hb); clear hb; clear x0 x1 x2 x3 x4 x5 x6 x7 x8 x9; obtain ⟨x0, x1, x2, x3, x4, x5, x6, x7, x8, x9⟩ := C.out.cf.all)
    | (go_at_call 89; (with_reducible refine (bmput_pap p q _ (H.out.on C.out.bel) HOK.out HS.out m k HM.out n HN.out).mono ?_); rintro e wn ⟨A5, c5, rfl, h5, h5c, hb⟩; replace C := Lib.hid (C.out.step hb); have X5 := Lib.hid h5; have K5 := Lib.hid h5c; clear h5 h5c hb))
  go_ret2
  exact PutR.mk A5 c5 rfl X5.out K5.out C.out.bel

set_option maxHeartbeats 8000000 in
theorem bput_chap_w (p : Pk) (q : Pl) (w : World) (hp : Pw w p q) (hok : p.ok) (hs : p.sm) (h : p.proto = 49699) (m : List Nat) (k : Nat) (hm : chputB p = (m, k)) (n : Nat) (hn : m.length = n) :
    Calls Try.prog 32 #[p.val q] w fun e w' => PutR w m n k e w' := by
  have C := Lib.hid (BxC.made 37 w p q)
  have H := Lib.hid hp
  have HOK := Lib.hid hok
  have HS := Lib.hid hs
  have H65 := Lib.hid hok.proto
  have HM := Lib.hid hm
  have HN := Lib.hid hn
  have HP := Lib.hid h
  clear h hp hok hs hm hn
  have fm := fun (k : Nat) (W : World) => bmeth_challenge_put k W
  go_enter Try.func32, Try.ntmps32
  go_upto_region 1 with fail
  with_reducible refine at_worldP (fun W => Hid (BxC 37 w W p q)) C ?_
  clear C
  rintro W C
  obtain ⟨x0, x1, x2, x3, x4, x5, x6, x7, x8, x9⟩ := C.out.cf.all
  go_wp2_with (first
    | (go_at_call 40; (with_reducible refine (bof_chap p.proto _ H65.out HP.out).mono ?_); rintro e wn ⟨rfl, hb⟩; replace C := Lib.hid (C.out.step hb); clear hb; clear x0 x1 x2 x3 x4 x5 x6 x7 x8 x9; obtain ⟨x0, x1, x2, x3, x4, x5, x6, x7, x8, x9⟩ := C.out.cf.all)
    | (go_at_call 96; (with_reducible refine (bmput_chap p q _ (H.out.on C.out.bel) HOK.out HS.out m k HM.out n HN.out).mono ?_); rintro e wn ⟨A5, c5, rfl, h5, h5c, hb⟩; replace C := Lib.hid (C.out.step hb); have X5 := Lib.hid h5; have K5 := Lib.hid h5c; clear h5 h5c hb))
  go_ret2
  exact PutR.mk A5 c5 rfl X5.out K5.out C.out.bel

set_option maxHeartbeats 8000000 in
theorem bput_lqr_w (p : Pk) (q : Pl) (w : World) (hp : Pw w p q) (hok : p.ok) (hs : p.sm) (h : p.proto = 49189) (m : List Nat) (k : Nat) (hm : lqputB p = (m, k)) (n : Nat) (hn : m.length = n) :
    Calls Try.prog 32 #[p.val q] w fun e w' => PutR w m n k e w' := by
  have C := Lib.hid (BxC.made 37 w p q)
  have H := Lib.hid hp
  have HOK := Lib.hid hok
  have HS := Lib.hid hs
  have H65 := Lib.hid hok.proto
  have HM := Lib.hid hm
  have HN := Lib.hid hn
  have HP := Lib.hid h
  clear h hp hok hs hm hn
  have fm := fun (k : Nat) (W : World) => bmeth_report_put k W
  go_enter Try.func32, Try.ntmps32
  go_upto_region 1 with fail
  with_reducible refine at_worldP (fun W => Hid (BxC 37 w W p q)) C ?_
  clear C
  rintro W C
  obtain ⟨x0, x1, x2, x3, x4, x5, x6, x7, x8, x9⟩ := C.out.cf.all
  go_wp2_with (first
    | (go_at_call 40; (with_reducible refine (bof_lqr p.proto _ H65.out HP.out).mono ?_); rintro e wn ⟨rfl, hb⟩; replace C := Lib.hid (C.out.step hb); clear hb; clear x0 x1 x2 x3 x4 x5 x6 x7 x8 x9; obtain ⟨x0, x1, x2, x3, x4, x5, x6, x7, x8, x9⟩ := C.out.cf.all)
    | (go_at_call 103; (with_reducible refine (bmput_lqr p q _ (H.out.on C.out.bel) HOK.out HS.out m k HM.out n HN.out).mono ?_); rintro e wn ⟨A5, c5, rfl, h5, h5c, hb⟩; replace C := Lib.hid (C.out.step hb); have X5 := Lib.hid h5; have K5 := Lib.hid h5c; clear h5 h5c hb))
  go_ret2
  exact PutR.mk A5 c5 rfl X5.out K5.out C.out.bel

set_option maxHeartbeats 8000000 in
theorem bput_none_w (p : Pk) (q : Pl) (w : World) (hp : Pw w p q) (hok : p.ok) (hs : p.sm) (h : rightB p.proto = false) :
    Calls Try.prog 32 #[p.val q] w fun e w' => PutR w [] 0 7 e w' := by
  have C := Lib.hid (BxC.made 37 w p q)
  have H65 := Lib.hid hok.proto
  have HQ := Lib.hid h
  clear h hp hok hs
  go_enter Try.func32, Try.ntmps32
  go_upto_region 1 with fail
  with_reducible refine at_worldP (fun W => Hid (BxC 37 w W p q)) C ?_
  clear C
  rintro W C
  obtain ⟨x0, x1, x2, x3, x4, x5, x6, x7, x8, x9⟩ := C.out.cf.all
  go_wp2_with (go_at_call 40; (with_reducible refine (bof_none p.proto _ H65.out HQ.out).mono ?_); rintro e wn ⟨rfl, hb⟩; replace C := Lib.hid (C.out.step hb); clear hb; clear x0 x1 x2 x3 x4 x5 x6 x7 x8 x9; obtain ⟨x0, x1, x2, x3, x4, x5, x6, x7, x8, x9⟩ := C.out.cf.all)
  go_ret2
  exact PutR.mk none 0 rfl Rd.nil (Nat.le_refl _) C.out.bel

set_option maxHeartbeats 8000000 in
theorem bput_field_w (p : Pk) (q : Pl) (w : World) (hp : Pw w p q) (hok : p.ok) (hs : p.sm) (h : rightB p.proto = true) (hl : ¬ layB p.proto) (hb : bareD p = false) :
    Calls Try.prog 32 #[p.val q] w fun e w' => PutR w [] 0 9 e w' := by
  have C := Lib.hid (BxC.made 37 w p q)
  have H := Lib.hid hp
  have HOK := Lib.hid hok
  have HS := Lib.hid hs
  have H65 := Lib.hid hok.proto
  have HQ := Lib.hid h
  have HY := Lib.hid hl
  have HB := Lib.hid hb
  clear h hl hb hp hok hs
  have fm := fun (k : Nat) (W : World) => bmeth_other_put (p.proto : Int) k W
  go_enter Try.func32, Try.ntmps32
  go_upto_region 1 with fail
  with_reducible refine at_worldP (fun W => Hid (BxC 37 w W p q)) C ?_
  clear C
  rintro W C
  obtain ⟨x0, x1, x2, x3, x4, x5, x6, x7, x8, x9⟩ := C.out.cf.all
  go_wp2_with (first
    | (go_at_call 40; (with_reducible refine (bof_other p.proto _ H65.out HQ.out HY.out).mono ?_); rintro e wn ⟨rfl, hb⟩; replace C := Lib.hid (C.out.step hb); clear hb; clear x0 x1 x2 x3 x4 x5 x6 x7 x8 x9; obtain ⟨x0, x1, x2, x3, x4, x5, x6, x7, x8, x9⟩ := C.out.cf.all)
    | (go_at_call 109; (with_reducible refine (bmput_field p q _ (H.out.on C.out.bel) HOK.out HS.out HB.out).mono ?_); rintro e wn ⟨A5, c5, rfl, h5, h5c, hb⟩; replace C := Lib.hid (C.out.step hb); have X5 := Lib.hid h5; have K5 := Lib.hid h5c; clear h5 h5c hb))
  go_ret2
  exact PutR.mk A5 c5 rfl X5.out K5.out C.out.bel

set_option maxHeartbeats 8000000 in
theorem bput_data_w (p : Pk) (q : Pl) (w : World) (hp : Pw w p q) (hok : p.ok) (hs : p.sm) (h : rightB p.proto = true) (hl : ¬ layB p.proto) (hb : bareD p = true) (n : Nat) (hn : p.data.length = n) :
    Calls Try.prog 32 #[p.val q] w fun e w' => PutR w p.data n 0 e w' := by
  have C := Lib.hid (BxC.made 37 w p q)
  have H := Lib.hid hp
  have HOK := Lib.hid hok
  have HS := Lib.hid hs
  have H65 := Lib.hid hok.proto
  have HQ := Lib.hid h
  have HY := Lib.hid hl
  have HB := Lib.hid hb
  have HN := Lib.hid hn
  clear h hl hb hn hp hok hs
  have fm := fun (k : Nat) (W : World) => bmeth_other_put (p.proto : Int) k W
  go_enter Try.func32, Try.ntmps32
  go_upto_region 1 with fail
  with_reducible refine at_worldP (fun W => Hid (BxC 37 w W p q)) C ?_
  clear C
  rintro W C
  obtain ⟨x0, x1, x2, x3, x4, x5, x6, x7, x8, x9⟩ := C.out.cf.all
  go_wp2_with (first
    | (go_at_call 40; (with_reducible refine (bof_other p.proto _ H65.out HQ.out HY.out).mono ?_); rintro e wn ⟨rfl, hb⟩; replace C := Lib.hid (C.out.step hb); clear hb; clear x0 x1 x2 x3 x4 x5 x6 x7 x8 x9; obtain ⟨x0, x1, x2, x3, x4, x5, x6, x7, x8, x9⟩ := C.out.cf.all)
    | (go_at_call 109; (with_reducible refine (bmput_data p q _ (H.out.on C.out.bel) HOK.out HS.out HB.out n HN.out).mono ?_); rintro e wn ⟨A5, c5, rfl, h5, h5c, hb⟩; replace C := Lib.hid (C.out.step hb); have X5 := Lib.hid h5; have K5 := Lib.hid h5c; clear h5 h5c hb))
  go_ret2
  exact PutR.mk A5 c5 rfl X5.out K5.out C.out.bel

/-- The program's Put. -/
theorem bput_any (p : Pk) (q : Pl) (w : World) (hp : Pw w p q) (hok : p.ok) (hs : p.sm) (m : List Nat) (k : Nat) (hm : bputB p = (m, k)) (n : Nat) (hn : m.length = n) :
    Calls Try.prog 32 #[p.val q] w fun e w' => PutR w m n k e w' := by
  rcases bways p.proto with hr | ⟨hr, h1 | h1 | h1 | h1 | h1 | h1⟩
  · rw [bput_none hr] at hm
    injection hm with e1 e2
    subst e1; subst e2; subst hn
    exact bput_none_w p q w hp hok hs hr
  · rw [bput_lcp h1] at hm; exact bput_lcp_w p q w hp hok hs h1 m k hm n hn
  · rw [bput_ncp h1] at hm; exact bput_ncp_w p q w hp hok hs h1 m k hm n hn
  · rw [bput_pap h1] at hm; exact bput_pap_w p q w hp hok hs h1 m k hm n hn
  · rw [bput_chap h1] at hm; exact bput_chap_w p q w hp hok hs h1 m k hm n hn
  · rw [bput_lqr h1] at hm; exact bput_lqr_w p q w hp hok hs h1 m k hm n hn
  · rw [bput_else hr h1] at hm
    cases h2 : bareD p
    · rw [h2, if_neg (by decide)] at hm
      injection hm with e1 e2
      subst e1; subst e2; subst hn
      exact bput_field_w p q w hp hok hs hr h1 h2
    · rw [if_pos h2] at hm
      injection hm with e1 e2
      subst e1; subst e2
      exact bput_data_w p q w hp hok hs hr h1 h2 n hn

end Go.Proofs.Ytmhjnghomihjlaa
