
/-
  EtherMost's walk. No condition.
-/
import Derived.Test.YtmhjnghomihjlaaGreatEthJ
namespace Go.Proofs.YtmhjnghomihjlaaGreat
set_option maxRecDepth 4000
open Go.RowKit
set_option linter.unusedVariables false

theorem elen_zeros (n : Nat) : (List.replicate n 0 : List Nat).length = n := List.length_replicate
theorem eby_zeros (n : Nat) : By (List.replicate n 0) := fun x hx => by rw [(List.mem_replicate.1 hx).2]; decide
theorem ezeros_rd {w : World} {A : Option Addr} {base n c : Nat} (h : w.ownsRow base 5 1 (.slice A n c) n (madeCells (Value.cells (.int .u8 0)) (n * 1)).toList) : Rd w w.heap.size A (List.replicate n 0) := by
  rw [← part_zero] at h
  have e : part [] n 0 = List.replicate n 0 := by unfold part; rw [Nat.sub_zero]; rfl
  rw [e] at h
  exact Rd.own h
theorem emake_zeros (n : Nat) (hn : n ≤ 1099511627776) (w : World) : ∃ w', (Instr.makeSlice 26 (.int .i64 (n : Int)) (.int .i64 (n : Int))).run Tryz.prog w = .ok (.slice (some ⟨w.heap.size, 0, none⟩) n n) w' ∧ Rd w' w'.heap.size (some ⟨w.heap.size, 0, none⟩) (List.replicate n 0) ∧ Below w.heap.size w w' := by
  obtain ⟨i0, hi, hz0, hz1, hz2⟩ := info_parts byte_info
  obtain ⟨w', h1, h2, h3⟩ := run_make_full (P := Tryz.prog) (w := w) w.heap.size 26 5 i0 (.int .u8 0) 1 Tryz.underlying26 hi hz0 hz1 .i64 .i64 n (by rw [hz2]; omega) (by unfold maxLen; omega) (Nat.le_refl _)
  exact ⟨w', h1, ezeros_rd h2, (Below.refl _ _).grown h3 (Nat.le_refl _) (fun k hk => by cases hk)⟩
/-- A session's frame of octets 0. -/
def mostF (s : Nat) (l : List Nat) : Fr := ⟨0, s, [], datP 33 l⟩
theorem mostF_ok {s : Nat} {l : List Nat} (hs : s < 65536) (hl : By l) : (mostF s l).ok := ⟨(show 0 < 256 by decide), hs, (fun _ h => (List.not_mem_nil h).elim), { pk0_ok with proto := (show 33 < 65536 by decide), data := hl }⟩
theorem mostF_put (l : List Nat) : bputB (datP 33 l) = (l, 0) := by
  unfold bputB
  rw [show (datP 33 l).proto = 33 from rfl, if_pos (show rightB 33 = true by decide), if_neg (show ¬ (33 : Nat) = 49185 by decide), if_neg (show ¬ ((33 : Nat) = 32801 ∨ (33 : Nat) = 32855) by decide), if_neg (show ¬ (33 : Nat) = 49187 by decide), if_neg (show ¬ (33 : Nat) = 49699 by decide), if_neg (show ¬ (33 : Nat) = 49189 by decide)]
  rfl
theorem mostF_pay (s : Nat) (l : List Nat) : epay (mostF s l) = (0 :: 33 :: l, 0) := by
  unfold epay
  rw [if_pos (show (mostF s l).code = 0 from rfl), if_pos (show (mostF s l).tags = [] from rfl)]
  show (if (bputB (datP 33 l)).2 = 0 then ((33 : Nat) / 256 :: (33 : Nat) % 256 :: (bputB (datP 33 l)).1, 0) else ([], (bputB (datP 33 l)).2)) = _
  rw [mostF_put]
  rfl
theorem mostF_long {s : Nat} {l : List Nat} (hs : ¬ s = 0) (h : 1494 < l.length + 2) : eputB (mostF s l) = ([], 3) := by
  unfold eputB
  rw [if_pos (show ecode (mostF s l).code (mostF s l).sess = 0 by show ecode 0 s = 0; simp [ecode, hs]), mostF_pay, if_pos rfl, if_neg (by simp only [List.length_cons]; omega)]
theorem mostF_good {s : Nat} {l : List Nat} (hs : ¬ s = 0) (h : l.length + 2 ≤ 1494) : eputB (mostF s l) = (elay (mostF s l) (0 :: 33 :: l), 0) := by
  unfold eputB
  rw [if_pos (show ecode (mostF s l).code (mostF s l).sess = 0 by show ecode 0 s = 0; simp [ecode, hs]), mostF_pay, if_pos rfl, if_pos (by simp only [List.length_cons]; omega)]
theorem eput_most (s k : Nat) (l : List Nat) (hs : s < 65536) (hl : By l) (hk : l.length = k) (hk2 : k ≤ 2000) (A : Option Addr) (c : Nat) (hc : k ≤ c) (w : World) (h : Rd w w.heap.size A l) (m : List Nat) (kk : Nat) (hm : eputB (mostF s l) = (m, kk)) (n : Nat) (hn : m.length = n) :
    Calls Tryz.prog 8 #[.agg #[.int .u8 0, .int .u16 (s : Int), .slice none 0 0, .int .u16 33, .int .u8 0, .int .u8 0, .slice none 0 0, .int .u16 0, .int .u32 0, .slice none 0 0, .slice none 0 0, .slice A k c, .slice none 0 0]] w fun e w' => PutR w m n kk e w' :=
  eput_any (mostF s l) ⟨none, 0, 0, { pl0 with ad := A, nd := k, cd := c }⟩ w ⟨rfl, Rws.nilG, Nat.le_refl _, ⟨rfl, Rws.nilO, rfl, RdF.nil, rfl, RdF.nil, hk, h.rdT, rfl, Rws.nil, Nat.le_refl _, Nat.le_refl _, hc⟩⟩ (mostF_ok hs hl) { sm0 with nd := (show l.length ≤ 1073741824 by omega) } (show 0 ≤ 137438953472 by decide) (show tgdat [] ≤ 68719476736 by decide) (show (bputB (datP 33 l)).1.length ≤ 549755813888 by rw [mostF_put]; show l.length ≤ 549755813888; omega) m kk hm n hn
theorem eput_m3 (s k : Nat) (l : List Nat) (hs : s < 65536) (hl : By l) (hk : l.length = k) (hk2 : k ≤ 2000) (A : Option Addr) (c : Nat) (hc : k ≤ c) (w : World) (h : Rd w w.heap.size A l) (hm : eputB (mostF s l) = ([], 3)) :
    Calls Tryz.prog 8 #[.agg #[.int .u8 0, .int .u16 (s : Int), .slice none 0 0, .int .u16 33, .int .u8 0, .int .u8 0, .slice none 0 0, .int .u16 0, .int .u32 0, .slice none 0 0, .slice none 0 0, .slice A k c, .slice none 0 0]] w fun e w' => ∃ A' c', e = .returned (.tuple #[.slice A' 0 c', .int .i64 3]) ∧ Below w.heap.size w w' :=
  (eput_most s k l hs hl hk hk2 A c hc w h _ _ hm 0 rfl).mono fun _ _ ⟨A', c', h1, _, _, h4⟩ => ⟨A', c', h1, h4⟩
theorem eput_m0 (s k : Nat) (l : List Nat) (hs : s < 65536) (hl : By l) (hk : l.length = k) (hk2 : k ≤ 2000) (A : Option Addr) (c : Nat) (hc : k ≤ c) (w : World) (h : Rd w w.heap.size A l) (m : List Nat) (hm : eputB (mostF s l) = (m, 0)) (n : Nat) (hn : m.length = n) :
    Calls Tryz.prog 8 #[.agg #[.int .u8 0, .int .u16 (s : Int), .slice none 0 0, .int .u16 33, .int .u8 0, .int .u8 0, .slice none 0 0, .int .u16 0, .int .u32 0, .slice none 0 0, .slice none 0 0, .slice A k c, .slice none 0 0]] w fun e w' => ∃ A' c', e = .returned (.tuple #[.slice A' n c', .int .i64 0]) ∧ Rd w' w'.heap.size A' m ∧ n ≤ c' ∧ Below w.heap.size w w' := eput_most s k l hs hl hk hk2 A c hc w h _ _ hm n hn
theorem eget_m2 (b : List Nat) (n cap : Nat) (A : Option Addr) (w : World) (h : Rd w w.heap.size A b) (hb : By b) (hl : b.length = n) (hn : n ≤ 1073741824) (hc : n ≤ cap) (hg : egetB b = ebad 2) (z : Fr) (hz : fr0 = z) :
    Calls Tryz.prog 11 #[.slice A n cap] w fun e w' => ∃ q, e = .returned (.tuple #[z.val q, .int .i64 0, .int .i64 2]) ∧ FwF (fun _ => True) w' z q ∧ Below w.heap.size w w' := by
  subst hz
  exact eget_any b n cap A w h hb hl hn hc fr0 0 2 hg
theorem etm {n k : Nat} (h : n % 2000 = k) : (n : Int).tmod 2000 = (k : Int) := by rw [Int.tmod_eq_emod_of_nonneg (Int.natCast_nonneg _)]; omega
theorem etmod (a b : Nat) : (a : Int).tmod (b : Int) = ((a % b : Nat) : Int) := by rw [Int.tmod_eq_emod_of_nonneg (Int.natCast_nonneg _)]; exact (Int.natCast_emod a b).symm
theorem eadd2 (k k2 : Nat) (h : k + 2 = k2) : (k : Int) + 2 = (k2 : Int) := by omega
theorem eadd8 (k k8 : Nat) (h : k + 8 = k8) : (k : Int) + 8 = (k8 : Int) := by omega
theorem ene0 (k : Nat) (h : 0 < k) : ¬ (k : Int) = 0 := by omega
theorem ele (a b : Nat) (h : a ≤ b) : (a : Int) ≤ (b : Int) := by omega

set_option maxHeartbeats 8000000 in
theorem emost_zero (n cut : Nat) (w : World) :
    Calls Tryz.prog 5 #[.int .u16 (n : Int), .int .u16 (cut : Int), .int .u16 0] w fun e w' => e = .returned (.bool true) ∧ Below w.heap.size w w' := by
  have B := Lib.hid (Below.refl w.heap.size w)
  go_enter Tryz.func5, Tryz.ntmps5
  go_wp2_with (first
    | (go_at_call 6; (with_reducible refine (speaks22 _).mono ?_); rintro e wn ⟨rfl, hb⟩; replace B := Lib.hid (B.out.trans (hb.mono B.out.size)); clear hb))
  go_ret
  exact ⟨rfl, B.out⟩

set_option maxHeartbeats 8000000 in
theorem emost_long (n cut s : Nat) (w : World) (hn : n < 65536) (hs : s < 65536) (hs0 : ¬ s = 0) (h : 1494 < n % 2000 + 2) :
    Calls Tryz.prog 5 #[.int .u16 (n : Int), .int .u16 (cut : Int), .int .u16 (s : Int)] w fun e w' => e = .returned (.bool true) ∧ Below w.heap.size w w' := by
  have B := Lib.hid (Below.refl w.heap.size w)
  have j0 : ((s : Int) == 0) = false := by rw [beq_eq_false_iff_ne]; omega
  obtain ⟨k, hk⟩ : ∃ z, n % 2000 = z := ⟨_, rfl⟩
  have hk2 : k ≤ 2000 := by omega
  obtain ⟨k2, hk22⟩ : ∃ z, k + 2 = z := ⟨_, rfl⟩
  obtain ⟨zz, hzz⟩ : ∃ l, Hid (List.replicate k 0 = l) := ⟨_, Lib.hid rfl⟩
  have LZ := Lib.hid (show zz.length = k by rw [← hzz.out, elen_zeros])
  have BZ := Lib.hid (show By zz by rw [← hzz.out]; exact eby_zeros _)
  have t1 := tw64 n hn
  have t2 := ti64 n hn
  have t3 := etm hk
  have t4 := ti64 k (Nat.lt_of_le_of_lt hk2 (by decide))
  have t5 := eadd2 k k2 hk22
  have t6 := ti64 k2 (by omega)
  have HS := Lib.hid hs
  have K2 := Lib.hid hk2
  have HP := Lib.hid (mostF_long hs0 (show 1494 < zz.length + 2 by rw [LZ.out, ← hk]; exact h))
  have j1 : (1494 : Int) < (k2 : Int) := by omega
  clear hn hs hs0 h hk hk22
  go_enter Tryz.func5, Tryz.ntmps5
  go_upto_region 4 with (first
    | (go_at_call 6; (with_reducible refine (speaks22 _).mono ?_); rintro e wn ⟨rfl, hb⟩; replace B := Lib.hid (B.out.trans (hb.mono B.out.size)); clear hb))
  obtain ⟨w2, m2, r2, b2⟩ := emake_zeros k (Nat.le_trans hk2 (by decide)) wn
  rw [hzz.out] at r2
  have ba := (Below.refl w2.heap.size w2).alloc (Nat.le_refl _) (.cells #[.int .u8 0, .int .u16 (s : Int), .slice none 0 0, .int .u16 33, .int .u8 0, .int .u8 0, .slice none 0 0, .int .u16 0, .int .u32 0, .slice none 0 0, .slice none 0 0, .slice (some ⟨wn.heap.size, 0, none⟩) k k, .slice none 0 0] 42)
  have R2 := Lib.hid (r2.on ba)
  replace B := Lib.hid ((B.out.trans (b2.mono B.out.size)).alloc (B.out.trans (b2.mono B.out.size)).size (.cells #[.int .u8 0, .int .u16 (s : Int), .slice none 0 0, .int .u16 33, .int .u8 0, .int .u8 0, .slice none 0 0, .int .u16 0, .int .u32 0, .slice none 0 0, .slice none 0 0, .slice (some ⟨wn.heap.size, 0, none⟩) k k, .slice none 0 0] 42))
  clear r2 b2 ba hk2
  go_wp2_with (first
    | (go_at_call 8; (with_reducible refine (eput_m3 s k zz HS.out BZ.out LZ.out K2.out _ k (Nat.le_refl _) _ R2.out HP.out).mono ?_); rintro e w5 ⟨A5, c5, rfl, hb⟩; replace B := Lib.hid (B.out.trans (hb.mono B.out.size)); clear hb))
  go_ret
  exact ⟨rfl, B.out⟩

set_option maxHeartbeats 16000000 in
theorem emost_good (n cut s : Nat) (w : World) (hn : n < 65536) (hc : cut < 65536) (hs : s < 65536) (hs0 : ¬ s = 0) (h : n % 2000 + 2 ≤ 1494) :
    Calls Tryz.prog 5 #[.int .u16 (n : Int), .int .u16 (cut : Int), .int .u16 (s : Int)] w fun e w' => e = .returned (.bool true) ∧ Below w.heap.size w w' := by
  have B := Lib.hid (Below.refl w.heap.size w)
  have j0 : ((s : Int) == 0) = false := by rw [beq_eq_false_iff_ne]; omega
  obtain ⟨k, hk⟩ : ∃ z, n % 2000 = z := ⟨_, rfl⟩
  have hk2 : k ≤ 2000 := by omega
  obtain ⟨k2, hk22⟩ : ∃ z, k + 2 = z := ⟨_, rfl⟩
  obtain ⟨zz, hzz⟩ : ∃ l, Hid (List.replicate k 0 = l) := ⟨_, Lib.hid rfl⟩
  have LZ := Lib.hid (show zz.length = k by rw [← hzz.out, elen_zeros])
  have BZ := Lib.hid (show By zz by rw [← hzz.out]; exact eby_zeros _)
  have t1 := tw64 n hn
  have t2 := ti64 n hn
  have t3 := etm hk
  have t4 := ti64 k (Nat.lt_of_le_of_lt hk2 (by decide))
  have t5 := eadd2 k k2 hk22
  have t6 := ti64 k2 (by omega)
  have HS := Lib.hid hs
  have K2 := Lib.hid hk2
  have hm := mostF_good hs0 (show zz.length + 2 ≤ 1494 by rw [LZ.out, ← hk]; exact h)
  obtain ⟨m, hmm⟩ : ∃ m, elay (mostF s zz) (0 :: 33 :: zz) = m := ⟨_, rfl⟩
  rw [hmm] at hm
  have HP := Lib.hid hm
  obtain ⟨k8, hk8⟩ : ∃ z, k + 8 = z := ⟨_, rfl⟩
  have LM := Lib.hid (show m.length = k8 by rw [← hmm, elay_len, ← hk8]; simp only [List.length_cons, LZ.out])
  have BM := Lib.hid (eput_by (mostF_ok hs BZ.out) hm)
  have j1 : ¬ (1494 : Int) < (k2 : Int) := by omega
  have t7 := eadd8 k k8 hk8
  have t8 := ti64 k8 (by omega)
  obtain ⟨cc, hcc⟩ : ∃ z, cut % k8 = z := ⟨_, rfl⟩
  have hlt : cc < k8 := by rw [← hcc]; exact Nat.mod_lt _ (by omega)
  have t9 : (cut : Int).tmod (k8 : Int) = (cc : Int) := by rw [etmod, hcc]
  have t10 := ti64 cc (by omega)
  have t11 := ene0 k8 (by omega)
  have t12 := tw64 cut hc
  have t13 := ti64 cut hc
  have t14 := ele 0 cc (Nat.zero_le _)
  have LT := Lib.hid hlt
  have K8 := Lib.hid (show cc ≤ 1073741824 by omega)
  have HG := Lib.hid (eget_cut hm (k := cc) (by rw [LM.out]; exact hlt))
  have BT := Lib.hid (show By (m.take cc) from BM.out.take cc)
  have LC := Lib.hid (show (m.take cc).length = cc by rw [List.length_take, LM.out]; exact Nat.min_eq_left (Nat.le_of_lt hlt))
  obtain ⟨z, hz⟩ : ∃ z, Hid (fr0 = z) := ⟨_, Lib.hid rfl⟩
  have ZT := Lib.hid (show z.tags.length ≤ 1073741824 by rw [← hz.out]; decide)
  have ZO := Lib.hid (show z.pkt.opts.length ≤ 1073741824 by rw [← hz.out]; decide)
  clear hn hc hs hs0 h hk hk22 hm hmm hk8 hcc hlt
  go_enter Tryz.func5, Tryz.ntmps5
  go_upto_region 4 with (first
    | (go_at_call 6; (with_reducible refine (speaks22 _).mono ?_); rintro e wn ⟨rfl, hb⟩; replace B := Lib.hid (B.out.trans (hb.mono B.out.size)); clear hb))
  obtain ⟨w2, m2, r2, b2⟩ := emake_zeros k (Nat.le_trans hk2 (by decide)) wn
  rw [hzz.out] at r2
  have ba := (Below.refl w2.heap.size w2).alloc (Nat.le_refl _) (.cells #[.int .u8 0, .int .u16 (s : Int), .slice none 0 0, .int .u16 33, .int .u8 0, .int .u8 0, .slice none 0 0, .int .u16 0, .int .u32 0, .slice none 0 0, .slice none 0 0, .slice (some ⟨wn.heap.size, 0, none⟩) k k, .slice none 0 0] 42)
  have R2 := Lib.hid (r2.on ba)
  replace B := Lib.hid ((B.out.trans (b2.mono B.out.size)).alloc (B.out.trans (b2.mono B.out.size)).size (.cells #[.int .u8 0, .int .u16 (s : Int), .slice none 0 0, .int .u16 33, .int .u8 0, .int .u8 0, .slice none 0 0, .int .u16 0, .int .u32 0, .slice none 0 0, .slice none 0 0, .slice (some ⟨wn.heap.size, 0, none⟩) k k, .slice none 0 0] 42))
  clear r2 b2 ba hk2
  go_wp2_with (first
    | (go_at_call 8; (with_reducible refine (eput_m0 s k zz HS.out BZ.out LZ.out K2.out _ k (Nat.le_refl _) _ R2.out m HP.out k8 LM.out).mono ?_); rintro e w5 ⟨A5, c5, rfl, h5, h5c, hb⟩; replace B := Lib.hid (B.out.trans (hb.mono B.out.size)); have X5 := Lib.hid h5; have t15 := ele cc c5 (Nat.le_trans (Nat.le_of_lt LT.out) h5c); have C5 := Lib.hid (Nat.le_trans (Nat.le_of_lt LT.out) h5c); clear hb h5 h5c R2)
    | (go_at_call 11; (with_reducible refine (eget_m2 (m.take cc) cc c5 A5 _ (X5.out.take cc) BT.out LC.out K8.out C5.out HG.out z hz.out).mono ?_); rintro e w6 ⟨q, rfl, h6, hb⟩; have ba := (Below.refl w6.heap.size w6).alloc (Nat.le_refl _) (z.obj q 42); replace B := Lib.hid ((B.out.trans (hb.mono B.out.size)).alloc (B.out.trans (hb.mono B.out.size)).size (z.obj q 42)); have P1 := Lib.hid (h6.on ba); have PX := Lib.hid (fx_new w6 42 z q); obtain ⟨x0, x1, x2, x3, x4, x5, x6, x7, x8, x9, x10, x11, x12⟩ := PX.out.all; clear hb h6 ba)
    | (go_at_call 15; (with_reducible refine (eto_v z q _ P1.out ZT.out ZO.out).mono ?_); rintro e w7 ⟨r, rfl, h7, hb⟩; replace B := Lib.hid (B.out.trans (hb.mono B.out.size)); have P2 := Lib.hid h7; clear hb h7 x0 x1 x2 x3 x4 x5 x6 x7 x8 x9 x10 x11 x12)
    | (go_at_call 14; (with_reducible refine (esame_zero z hz.out r _ P2.out).mono ?_); rintro e w8 ⟨rfl, hb⟩; replace B := Lib.hid (B.out.trans (hb.mono B.out.size)); clear hb))
  go_ret
  exact ⟨rfl, B.out⟩

theorem emost_walk (n cut s : Nat) (w : World) (hn : n < 65536) (hc : cut < 65536) (hs : s < 65536) :
    Calls Tryz.prog 5 #[.int .u16 (n : Int), .int .u16 (cut : Int), .int .u16 (s : Int)] w fun e w' => e = .returned (.bool true) ∧ Below w.heap.size w w' := by
  by_cases h0 : s = 0
  · subst h0
    exact emost_zero n cut w
  by_cases h : n % 2000 + 2 ≤ 1494
  · exact emost_good n cut s w hn hc hs h0 h
  · exact emost_long n cut s w hn hs h0 (by omega)
end Go.Proofs.YtmhjnghomihjlaaGreat
