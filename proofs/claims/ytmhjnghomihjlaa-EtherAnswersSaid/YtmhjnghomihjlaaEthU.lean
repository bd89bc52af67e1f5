
/-
  What the program's two, number, payload and Put of layer 22 answer. No condition beyond: lists of at most 2^37 tags, data of at most 2^36 octets.
-/
import Derived.Test.YtmhjnghomihjlaaEthK
import Derived.Test.YtmhjnghomihjlaaEthV
import Derived.Test.YtmhjnghomihjlaaBodP
import Derived.Test.YtmhjnghomihjlaaGTgp
import Derived.Deep.CutRange
import Derived.Deep.RegionHeld3
import Derived.BigQuiet
namespace Go.Proofs.Ytmhjnghomihjlaa
set_option maxRecDepth 4000
open Go.RowKit
set_option linter.unusedVariables false

theorem en_or16 (x y : Nat) (hx : x < 256) (hy : y < 256) : bits .or .u16 ((x * 256 : Nat) : Int) (y : Int) = ((x * 256 + y : Nat) : Int) := by
  have h2 := Nat.two_pow_add_eq_or_of_lt (show y < 2 ^ 8 by omega) x
  rw [show x * 256 = 2 ^ 8 * x by omega]
  show IntKind.u16.wrap ((BitVec.ofInt 16 ((2 ^ 8 * x : Nat) : Int) ||| BitVec.ofInt 16 (y : Int)).toNat : Int) = _
  rw [BitVec.toNat_or, ofInt_u16 _ (by omega), ofInt_u16 _ (by omega), ← h2]
  apply IntWalk.u16_in
  omega
theorem eu_mul (x : Nat) (z : Nat) (h : x * 256 = z) : (x : Int) * 256 = (z : Int) := by omega
theorem eu_wr (z : Nat) (h : z < 65536) : IntKind.u16.wrap (z : Int) = (z : Int) := by apply IntWalk.u16_in; omega
theorem eu_x256 {x z : Nat} (hx : x < 256) (h : x * 256 = z) : z < 65536 := by omega
theorem eu_len {n : Nat} (h : n = 2 + 0) : 0 < n := by omega
theorem eu_i0 {n : Nat} (h : 1 < n) : 0 < n := by omega
theorem eu_i1 {n : Nat} (h : 1 < n) : (1 : Int) < (n : Int) := by omega

set_option maxHeartbeats 2000000 in
theorem ettwo_any (p a b : Nat) (hp : p < 65536) (ha : p / 256 = a) (hb : p % 256 = b) (w : World) :
    Calls Try.prog 24 #[.int .u16 (p : Int)] w fun e w' => ∃ A c, e = .returned (.slice A 2 c) ∧ Rd w' w'.heap.size A [a, b] ∧ 2 ≤ c ∧ Below w.heap.size w w' := by
  have v3 : (p : Int) / 256 = (a : Int) := by omega
  have v5 : IntKind.u8.wrap (a : Int) = (a : Int) := by apply IntWalk.u8_in; omega
  have v4 : IntKind.u8.wrap (p : Int) = (b : Int) := by rw [IntKind.wrap_u8]; omega
  have N := Lib.hid (show New w (w.alloc (.cells #[.int .u8 (a : Int), .int .u8 (b : Int)] 5)) (some ⟨w.heap.size, 0, none⟩) 2 2 [a, b] by
    have := New.lit w [a, b] 2 rfl (by omega)
    simpa [bvs, bv] using this)
  clear ha hb hp
  go_enter Try.func24, Try.ntmps24
  go_wp2_with fail
  go_ret
  exact ⟨_, _, rfl, N.out.2.2.1, Nat.le_refl _, N.out.2.2.2⟩

theorem pk0_ok : pk0.ok := ⟨by decide, by decide, by decide, fun x hx => (by cases hx), by decide, by decide, By.nil, By.nil, By.nil, fun x hx => (by cases hx)⟩
theorem bsame_pk0 (p : Pk) (q : Pl) (w : World) (hp : Pw w p q) (hok : p.ok) (hs : p.sm) (z : Bool) (hz : decide (p = pk0) = z) :
    Calls Try.prog 30 #[p.val q, .agg #[.int .u16 0, .int .u8 0, .int .u8 0, .slice none 0 0, .int .u16 0, .int .u32 0, .slice none 0 0, .slice none 0 0, .slice none 0 0, .slice none 0 0]] w fun e w' => e = .returned (.bool z) ∧ Below w.heap.size w w' := bsame_any p pk0 q pl0 w hp (pw0 w) hok pk0_ok hs z hz
/-- A call's own frame. -/
structure OpF (T : TypeId) (w W : World) (f : Fr) (q : Fl) : Prop where
  bel : Below w.heap.size w W
  cf : Fx W w.heap.size T f q
theorem OpF.made (T : TypeId) (w : World) (f : Fr) (q : Fl) : OpF T w (w.alloc (f.obj q T)) f q := ⟨(Below.refl _ _).alloc (Nat.le_refl _) _, fx_new w T f q⟩
theorem OpF.step {T : TypeId} {w W W' : World} {f : Fr} {q : Fl} (h : OpF T w W f q) (hb : Below W.heap.size W W') : OpF T w W' f q := ⟨h.bel.trans (hb.mono h.bel.size), h.cf.below hb⟩
theorem OpF.c01 {T : TypeId} {w W : World} {f : Fr} {q : Fl} (h : OpF T w W f q) : W.cell? ⟨w.heap.size, 0, none⟩ = some (.int .u8 (f.code : Int)) ∧ W.cell? ⟨w.heap.size, 1, none⟩ = some (.int .u16 (f.sess : Int)) := ⟨h.cf.all.1, h.cf.all.2.1⟩
theorem OpF.drew {T : TypeId} {w W : World} {f : Fr} {q : Fl} (h : OpF T w W f q) : OpF T w W.drew f q := h.step (Below.refl _ _).drew
theorem OpF.al {T : TypeId} {w W : World} {f : Fr} {q : Fl} (h : OpF T w W f q) (b : Obj) : OpF T w (W.alloc b) f q := h.step ((Below.refl _ _).alloc (Nat.le_refl _) b)
theorem ez0f (n : Nat) (h : ¬ n = 0) : ((n : Int) == 0) = false := by rw [beq_eq_false_iff_ne]; omega
theorem ez0t (n : Nat) (h : ¬ n = 0) : ((n : Int) != 0) = true := by rw [bne_iff_ne]; omega
theorem egt0 (n : Nat) (h : ¬ n = 0) : (0 : Int) < (n : Int) := by omega
theorem ele94 {n : Nat} (h : n ≤ 1494) : ¬ (1494 : Int) < (n : Int) := by omega
theorem egt94 {n : Nat} (h : 1494 < n) : (1494 : Int) < (n : Int) := by omega
theorem rr_quad (w : World) (A A2 A3 A4 : Option Addr) (l l2 l3 l4 : List Nat) (n n2 n3 n4 c c2 c3 c4 : Nat) (T : TypeId) (h : Rd w w.heap.size A l) (h2 : Rd w w.heap.size A2 l2) (h3 : Rd w w.heap.size A3 l3) (h4 : Rd w w.heap.size A4 l4) (e : l.length = n) (e2 : l2.length = n2) (e3 : l3.length = n3) (e4 : l4.length = n4) :
    Rr (w.alloc (.cells #[.slice A n c, .slice A2 n2 c2, .slice A3 n3 c3, .slice A4 n4 c4] T)) (some ⟨w.heap.size, 0, none⟩) [l, l2, l3, l4] := by
  subst e; subst e2; subst e3; subst e4
  intro _
  have hb := (Below.refl w.heap.size w).alloc (Nat.le_refl _) (.cells #[.slice A l.length c, .slice A2 l2.length c2, .slice A3 l3.length c3, .slice A4 l4.length c4] T)
  have cell : ∀ k u, (#[.slice A l.length c, .slice A2 l2.length c2, .slice A3 l3.length c3, .slice A4 l4.length c4] : Array Value)[k]? = some u → (w.alloc (.cells #[.slice A l.length c, .slice A2 l2.length c2, .slice A3 l3.length c3, .slice A4 l4.length c4] T)).cell? ⟨w.heap.size, 0 + k, none⟩ = some u := by
    intro k u hu
    rw [Nat.zero_add, World.cell?_alloc_at _ _ _ _ rfl]
    exact hu
  refine ⟨w.heap.size, 0, rfl, fun k x hx => ?_⟩
  match k, hx with
  | 0, hx => injection hx with hx; subst hx; exact ⟨A, c, cell 0 _ rfl, (h.below hb).more hb.size⟩
  | 1, hx => injection hx with hx; subst hx; exact ⟨A2, c2, cell 1 _ rfl, (h2.below hb).more hb.size⟩
  | 2, hx => injection hx with hx; subst hx; exact ⟨A3, c3, cell 2 _ rfl, (h3.below hb).more hb.size⟩
  | 3, hx => injection hx with hx; subst hx; exact ⟨A4, c4, cell 3 _ rfl, (h4.below hb).more hb.size⟩
  | k + 4, hx => simp at hx
theorem concat_4 (l l2 l3 l4 : List Nat) (m : List Nat) (A : Option Addr) (c : Nat) (w : World) (h : Rr w A [l, l2, l3, l4]) (hs : [l, l2, l3, l4].flatten.length ≤ 1099511627776) (hf : [l, l2, l3, l4].flatten = m) (n : Nat) (hm : [l, l2, l3, l4].flatten.length = n) :
    Calls Try.prog 23 #[.slice A 4 c] w fun e w' => ∃ A' c', e = .returned (.slice A' n c') ∧ Rd w' w'.heap.size A' m ∧ n ≤ c' ∧ Below w.heap.size w w' :=
  (concat_any [l, l2, l3, l4] 4 A c w h rfl (by decide) hs).mono fun _ _ ⟨A', c', k, h1, h2, h3⟩ => by
    rw [hm] at h2
    subst h2
    rw [hf] at h3
    exact ⟨A', c', h1, h3.2.2.1, own_cap h3.2.1, h3.2.2.2⟩
theorem e17 (w : World) (c : Nat) : Rd (w.alloc (.cells #[.int .u8 17, .int .u8 (c : Int)] 5)) (w.alloc (.cells #[.int .u8 17, .int .u8 (c : Int)] 5)).heap.size (some ⟨w.heap.size, 0, none⟩) [17, c] := Rd.lit_ w [17, c]

set_option maxHeartbeats 8000000 in
theorem epl_pkt (f : Fr) (q : Fl) (w : World) (h : FwF (fun _ => True) w f q) (hok : f.ok) (hs : f.pkt.sm) (hn : q.nt ≤ 137438953472) (hd : tgdat f.tags ≤ 68719476736) (hc : ¬ f.code = 0) (ht : ¬ f.pkt = pk0) :
    Calls Try.prog 22 #[f.val q] w fun e w' => PutR w [] 0 9 e w' := by
  have C := Lib.hid (OpF.made 39 w f q)
  have H := Lib.hid h
  have OK := Lib.hid hok
  have HS := Lib.hid hs
  have HNQ := Lib.hid hn
  have HDQ := Lib.hid hd
  have g1 := hok.code
  have g2 := hok.sess
  have g3 := hok.pkt.proto
  obtain ⟨wm, hwm⟩ : ∃ wm, wm = w.alloc (f.obj q 39) := ⟨_, rfl⟩
  rw [← hwm] at C
  have HW := Lib.hid hwm
  clear hwm h hok hs hn hd
  have j2 := ez0t f.code hc
  have PE := Lib.hid (show decide (f.pkt = pk0) = false from decide_eq_false ht)
  clear hc ht
  go_enter Try.func22, Try.ntmps22
  go_upto_region 1 with fail
  rw [← HW.out]
  obtain ⟨x0, x1, x2, x3, x4, x5, x6, x7, x8, x9, x10, x11, x12⟩ := C.out.cf.all
  go_wp2_with (first
    | (go_at_call 30; (with_reducible refine (bsame_pk0 f.pkt q.pl _ (H.out.on C.out.bel).pk.pw OK.out.pkt HS.out _ PE.out).mono ?_); rintro e wn ⟨rfl, hb⟩; replace C := Lib.hid (C.out.step hb); clear hb x0 x1 x2 x3 x4 x5 x6 x7 x8 x9 x10 x11 x12; obtain ⟨x0, x1, x2, x3, x4, x5, x6, x7, x8, x9, x10, x11, x12⟩ := C.out.cf.all))
  go_ret2
  exact PutR.mk none 0 rfl Rd.nil (Nat.le_refl _) C.out.bel

set_option maxHeartbeats 8000000 in
theorem epl_tags (f : Fr) (q : Fl) (w : World) (h : FwF (fun _ => True) w f q) (hok : f.ok) (hs : f.pkt.sm) (hn : q.nt ≤ 137438953472) (hd : tgdat f.tags ≤ 68719476736) (hc : ¬ f.code = 0) (ht : f.pkt = pk0) (m : List Nat) (hm : tgputA f.tags = m) (k : Nat) (hk : tgerr f.tags = k) (n : Nat) (hn9 : m.length = n) :
    Calls Try.prog 22 #[f.val q] w fun e w' => PutR w m n k e w' := by
  have C := Lib.hid (OpF.made 39 w f q)
  have H := Lib.hid h
  have OK := Lib.hid hok
  have HS := Lib.hid hs
  have HNQ := Lib.hid hn
  have HDQ := Lib.hid hd
  have g1 := hok.code
  have g2 := hok.sess
  have g3 := hok.pkt.proto
  obtain ⟨wm, hwm⟩ : ∃ wm, wm = w.alloc (f.obj q 39) := ⟨_, rfl⟩
  rw [← hwm] at C
  have HW := Lib.hid hwm
  clear hwm h hok hs hn hd
  have j2 := ez0t f.code hc
  have PE := Lib.hid (show decide (f.pkt = pk0) = true from decide_eq_true ht)
  have HM := Lib.hid hm
  have HK := Lib.hid hk
  have HN := Lib.hid hn9
  clear hc ht hm hk hn9
  go_enter Try.func22, Try.ntmps22
  go_upto_region 1 with fail
  rw [← HW.out]
  obtain ⟨x0, x1, x2, x3, x4, x5, x6, x7, x8, x9, x10, x11, x12⟩ := C.out.cf.all
  go_wp2_with (first
    | (go_at_call 30; (with_reducible refine (bsame_pk0 f.pkt q.pl _ (H.out.on C.out.bel).pk.pw OK.out.pkt HS.out _ PE.out).mono ?_); rintro e wn ⟨rfl, hb⟩; replace C := Lib.hid (C.out.step hb); clear hb x0 x1 x2 x3 x4 x5 x6 x7 x8 x9 x10 x11 x12; obtain ⟨x0, x1, x2, x3, x4, x5, x6, x7, x8, x9, x10, x11, x12⟩ := C.out.cf.all)
    | (go_at_call 31; (with_reducible refine (tgput_v f.tags k HK.out m HM.out n HN.out q.nt q.ct q.at_ (fun _ => True) _ (H.out.on C.out.bel).rt H.out.lt HNQ.out HDQ.out OK.out.tags).mono ?_); rintro e wn ⟨A5, c5, rfl, h5, h5c, hb⟩; have X5 := Lib.hid h5; have H5C := Lib.hid h5c; clear h5 h5c; replace C := Lib.hid (C.out.step hb); clear hb x0 x1 x2 x3 x4 x5 x6 x7 x8 x9 x10 x11 x12; obtain ⟨x0, x1, x2, x3, x4, x5, x6, x7, x8, x9, x10, x11, x12⟩ := C.out.cf.all))
  go_ret2
  exact PutR.mk A5 c5 rfl X5.out H5C.out C.out.bel

set_option maxHeartbeats 8000000 in
theorem epl_field (f : Fr) (q : Fl) (w : World) (h : FwF (fun _ => True) w f q) (hok : f.ok) (hs : f.pkt.sm) (hn : q.nt ≤ 137438953472) (hd : tgdat f.tags ≤ 68719476736) (hc : f.code = 0) (ht : ¬ f.tags = []) :
    Calls Try.prog 22 #[f.val q] w fun e w' => PutR w [] 0 9 e w' := by
  have C := Lib.hid (OpF.made 39 w f q)
  have H := Lib.hid h
  have OK := Lib.hid hok
  have HS := Lib.hid hs
  have HNQ := Lib.hid hn
  have HDQ := Lib.hid hd
  have g1 := hok.code
  have g2 := hok.sess
  have g3 := hok.pkt.proto
  obtain ⟨wm, hwm⟩ : ∃ wm, wm = w.alloc (f.obj q 39) := ⟨_, rfl⟩
  rw [← hwm] at C
  have HW := Lib.hid hwm
  clear hwm h hok hs hn hd
  have j2 : ((f.code : Int) != 0) = false := by rw [hc]; rfl
  have hnt : ¬ q.nt = 0 := by
    intro e
    apply ht
    have := H.out.lt
    rw [e] at this
    exact List.eq_nil_of_length_eq_zero this
  have j4 := egt0 q.nt hnt
  clear hnt hc ht
  go_enter Try.func22, Try.ntmps22
  go_upto_region 1 with fail
  rw [← HW.out]
  obtain ⟨x0, x1, x2, x3, x4, x5, x6, x7, x8, x9, x10, x11, x12⟩ := C.out.cf.all
  go_wp2_with fail
  go_ret2
  exact PutR.mk none 0 rfl Rd.nil (Nat.le_refl _) C.out.bel

set_option maxHeartbeats 8000000 in
theorem epl_b20 (f : Fr) (q : Fl) (w : World) (h : FwF (fun _ => True) w f q) (hok : f.ok) (hs : f.pkt.sm) (hn : q.nt ≤ 137438953472) (hd : tgdat f.tags ≤ 68719476736) (hc : f.code = 0) (ht : f.tags = []) (m1 : List Nat) (k : Nat) (hb1 : bputB f.pkt = (m1, k)) (hk0 : ¬ k = 0) :
    Calls Try.prog 22 #[f.val q] w fun e w' => PutR w [] 0 k e w' := by
  have C := Lib.hid (OpF.made 39 w f q)
  have H := Lib.hid h
  have OK := Lib.hid hok
  have HS := Lib.hid hs
  have HNQ := Lib.hid hn
  have HDQ := Lib.hid hd
  have g1 := hok.code
  have g2 := hok.sess
  have g3 := hok.pkt.proto
  obtain ⟨wm, hwm⟩ : ∃ wm, wm = w.alloc (f.obj q 39) := ⟨_, rfl⟩
  rw [← hwm] at C
  have HW := Lib.hid hwm
  clear hwm h hok hs hn hd
  have j2 : ((f.code : Int) != 0) = false := by rw [hc]; rfl
  have hnt : q.nt = 0 := by
    have := H.out.lt
    rw [ht] at this
    simpa using this.symm
  have HNT := Lib.hid hnt
  clear hnt hc ht
  obtain ⟨n1, hn1⟩ : ∃ n, Hid (m1.length = n) := ⟨_, Lib.hid rfl⟩
  have BE := Lib.hid hb1
  have j5 := ez0t k hk0
  clear hb1 hk0
  go_enter Try.func22, Try.ntmps22
  go_upto_region 1 with fail
  rw [← HW.out]
  obtain ⟨x0, x1, x2, x3, x4, x5, x6, x7, x8, x9, x10, x11, x12⟩ := C.out.cf.all
  rw [HNT.out] at x2
  go_wp2_with (first
    | (go_at_call 32; (with_reducible refine (bput_any f.pkt q.pl _ (H.out.on C.out.bel).pk.pw OK.out.pkt HS.out _ _ BE.out n1 hn1.out).mono ?_); rintro e wn ⟨A5, c5, rfl, h5, h5c, hb⟩; have X5 := Lib.hid h5; have H5C := Lib.hid h5c; clear h5 h5c; replace C := Lib.hid (C.out.step hb); clear hb x0 x1 x2 x3 x4 x5 x6 x7 x8 x9 x10 x11 x12; obtain ⟨x0, x1, x2, x3, x4, x5, x6, x7, x8, x9, x10, x11, x12⟩ := C.out.cf.all))
  go_ret2
  exact PutR.mk none 0 rfl Rd.nil (Nat.le_refl _) C.out.bel

set_option maxHeartbeats 8000000 in
theorem epl_ok (f : Fr) (q : Fl) (w : World) (h : FwF (fun _ => True) w f q) (hok : f.ok) (hs : f.pkt.sm) (hn : q.nt ≤ 137438953472) (hd : tgdat f.tags ≤ 68719476736) (hc : f.code = 0) (ht : f.tags = []) (m1 : List Nat) (hb1 : bputB f.pkt = (m1, 0)) (hl : m1.length ≤ 549755813888) (m : List Nat) (hm : f.pkt.proto / 256 :: f.pkt.proto % 256 :: m1 = m) (n : Nat) (hn9 : m.length = n) :
    Calls Try.prog 22 #[f.val q] w fun e w' => PutR w m n 0 e w' := by
  have C := Lib.hid (OpF.made 39 w f q)
  have H := Lib.hid h
  have OK := Lib.hid hok
  have HS := Lib.hid hs
  have HNQ := Lib.hid hn
  have HDQ := Lib.hid hd
  have g1 := hok.code
  have g2 := hok.sess
  have g3 := hok.pkt.proto
  obtain ⟨wm, hwm⟩ : ∃ wm, wm = w.alloc (f.obj q 39) := ⟨_, rfl⟩
  rw [← hwm] at C
  have HW := Lib.hid hwm
  clear hwm h hok hs hn hd
  have j2 : ((f.code : Int) != 0) = false := by rw [hc]; rfl
  have hnt : q.nt = 0 := by
    have := H.out.lt
    rw [ht] at this
    simpa using this.symm
  have HNT := Lib.hid hnt
  clear hnt hc ht
  obtain ⟨n1, hn1⟩ : ∃ n, Hid (m1.length = n) := ⟨_, Lib.hid rfl⟩
  have BE := Lib.hid hb1
  obtain ⟨z1, hz1⟩ : ∃ z, Hid (f.pkt.proto / 256 = z) := ⟨_, Lib.hid rfl⟩
  obtain ⟨z2, hz2⟩ : ∃ z, Hid (f.pkt.proto % 256 = z) := ⟨_, Lib.hid rfl⟩
  have FL := Lib.hid (show [[z1, z2], m1].flatten = m by rw [← hm, ← hz1.out, ← hz2.out]; simp)
  have LN := Lib.hid (show [[z1, z2], m1].flatten.length = n by rw [FL.out]; exact hn9)
  have LE := Lib.hid (show [[z1, z2], m1].flatten.length ≤ 1099511627776 by simp; omega)
  clear hb1 hl hm hn9
  go_enter Try.func22, Try.ntmps22
  go_upto_region 1 with fail
  rw [← HW.out]
  obtain ⟨x0, x1, x2, x3, x4, x5, x6, x7, x8, x9, x10, x11, x12⟩ := C.out.cf.all
  rw [HNT.out] at x2
  go_wp2_with (first
    | (go_at_call 32; (with_reducible refine (bput_any f.pkt q.pl _ (H.out.on C.out.bel).pk.pw OK.out.pkt HS.out _ _ BE.out n1 hn1.out).mono ?_); rintro e wn ⟨A5, c5, rfl, h5, h5c, hb⟩; have X5 := Lib.hid h5; have H5C := Lib.hid h5c; clear h5 h5c; replace C := Lib.hid (C.out.step hb); clear hb x0 x1 x2 x3 x4 x5 x6 x7 x8 x9 x10 x11 x12; obtain ⟨x0, x1, x2, x3, x4, x5, x6, x7, x8, x9, x10, x11, x12⟩ := C.out.cf.all)
    | (go_at_call 24; (with_reducible refine (ettwo_any f.pkt.proto z1 z2 g3 hz1.out hz2.out _).mono ?_); rintro e wn ⟨A6, c6, rfl, h6, h6c, hb⟩; have X6 := Lib.hid h6; replace X5 := Lib.hid (X5.out.on hb); clear h6 h6c; replace C := Lib.hid (C.out.step hb); clear hb x0 x1 x2 x3 x4 x5 x6 x7 x8 x9 x10 x11 x12; obtain ⟨x0, x1, x2, x3, x4, x5, x6, x7, x8, x9, x10, x11, x12⟩ := C.out.cf.all)
    | (go_at_call 23; (with_reducible refine (concat_2 [z1, z2] m1 m _ 2 _ (rr_two wn A6 A5 [z1, z2] m1 2 n1 c6 c5 _ X6.out X5.out rfl hn1.out) LE.out FL.out n LN.out).mono ?_); rintro e wk ⟨A2, c2, rfl, h2, hc2, hb⟩; replace C := Lib.hid ((C.out.al (.cells #[.slice A6 2 c6, .slice A5 n1 c5] 26)).step hb); have R := Lib.hid h2; have K := Lib.hid hc2; clear h2 hc2 hb))
  go_ret2
  exact PutR.mk A2 c2 rfl R.out K.out C.out.bel

theorem epayload_any (f : Fr) (q : Fl) (w : World) (h : FwF (fun _ => True) w f q) (hok : f.ok) (hs : f.pkt.sm) (hn : q.nt ≤ 137438953472) (hd : tgdat f.tags ≤ 68719476736) (hl : (bputB f.pkt).1.length ≤ 549755813888) (m : List Nat) (k : Nat) (hm : epay f = (m, k)) (n : Nat) (hn9 : m.length = n) :
    Calls Try.prog 22 #[f.val q] w fun e w' => PutR w m n k e w' := by
  unfold epay at hm
  by_cases h2 : f.code = 0
  · rw [if_pos h2] at hm
    by_cases h3 : f.tags = []
    · rw [if_pos h3] at hm
      by_cases h4 : (bputB f.pkt).2 = 0
      · rw [if_pos h4] at hm
        injection hm with e1 e2
        subst e2
        exact epl_ok f q w h hok hs hn hd h2 h3 (bputB f.pkt).1 (Prod.ext rfl h4) hl m e1 n hn9
      · rw [if_neg h4] at hm
        injection hm with e1 e2
        subst e1; subst e2
        obtain rfl : 0 = n := hn9
        exact epl_b20 f q w h hok hs hn hd h2 h3 _ _ rfl h4
    · rw [if_neg h3] at hm
      injection hm with e1 e2
      subst e1; subst e2
      obtain rfl : 0 = n := hn9
      exact epl_field f q w h hok hs hn hd h2 h3
  · rw [if_neg h2] at hm
    by_cases h3 : f.pkt = pk0
    · rw [if_pos h3] at hm
      by_cases h4 : tgerr f.tags = 0
      · rw [if_pos h4] at hm
        injection hm with e1 e2
        subst e2
        exact epl_tags f q w h hok hs hn hd h2 h3 m (by rw [← e1]; exact tgputA_ok h4) 0 h4 n hn9
      · rw [if_neg h4] at hm
        injection hm with e1 e2
        subst e1; subst e2
        exact epl_tags f q w h hok hs hn hd h2 h3 [] (tgputA_bad rfl h4) _ rfl n hn9
    · rw [if_neg h3] at hm
      injection hm with e1 e2
      subst e1; subst e2
      obtain rfl : 0 = n := hn9
      exact epl_pkt f q w h hok hs hn hd h2 h3

set_option maxHeartbeats 8000000 in
theorem eput_w_code (f : Fr) (q : Fl) (w : World) (h : FwF (fun _ => True) w f q) (hok : f.ok) (hs : f.pkt.sm) (hn : q.nt ≤ 137438953472) (hd : tgdat f.tags ≤ 68719476736) (k : Nat) (hk : ecode f.code f.sess = k) (hk0 : ¬ k = 0) :
    Calls Try.prog 13 #[f.val q] w fun e w' => PutR w [] 0 k e w' := by
  have C := Lib.hid (OpF.made 39 w f q)
  have H := Lib.hid h
  have OK := Lib.hid hok
  have HS := Lib.hid hs
  have HNQ := Lib.hid hn
  have HDQ := Lib.hid hd
  have g1 := hok.code
  have g2 := hok.sess
  have g3 := hok.pkt.proto
  obtain ⟨wm, hwm⟩ : ∃ wm, wm = w.alloc (f.obj q 39) := ⟨_, rfl⟩
  rw [← hwm] at C
  have HW := Lib.hid hwm
  clear hwm h hok hs hn hd
  have EC := Lib.hid hk
  have j1 := ez0t k hk0
  clear hk hk0
  go_enter Try.func13, Try.ntmps13
  go_upto_region 1 with fail
  rw [← HW.out]
  obtain ⟨x0, x1, x2, x3, x4, x5, x6, x7, x8, x9, x10, x11, x12⟩ := C.out.cf.all
  go_wp2_with (first
    | (go_at_call 21; (with_reducible refine (echeck_any f.code f.sess g1 _ EC.out _).mono ?_); rintro e wn ⟨rfl, hb⟩; replace C := Lib.hid (C.out.step hb); clear hb x0 x1 x2 x3 x4 x5 x6 x7 x8 x9 x10 x11 x12; obtain ⟨x0, x1, x2, x3, x4, x5, x6, x7, x8, x9, x10, x11, x12⟩ := C.out.cf.all))
  go_ret2
  exact PutR.mk none 0 rfl Rd.nil (Nat.le_refl _) C.out.bel

set_option maxHeartbeats 8000000 in
theorem eput_w_pay (f : Fr) (q : Fl) (w : World) (h : FwF (fun _ => True) w f q) (hok : f.ok) (hs : f.pkt.sm) (hn : q.nt ≤ 137438953472) (hd : tgdat f.tags ≤ 68719476736) (hl : (bputB f.pkt).1.length ≤ 549755813888) (hk : ecode f.code f.sess = 0) (m1 : List Nat) (k : Nat) (hp : epay f = (m1, k)) (hk0 : ¬ k = 0) :
    Calls Try.prog 13 #[f.val q] w fun e w' => PutR w [] 0 k e w' := by
  have C := Lib.hid (OpF.made 39 w f q)
  have H := Lib.hid h
  have OK := Lib.hid hok
  have HS := Lib.hid hs
  have HNQ := Lib.hid hn
  have HDQ := Lib.hid hd
  have g1 := hok.code
  have g2 := hok.sess
  have g3 := hok.pkt.proto
  obtain ⟨wm, hwm⟩ : ∃ wm, wm = w.alloc (f.obj q 39) := ⟨_, rfl⟩
  rw [← hwm] at C
  have HW := Lib.hid hwm
  clear hwm h hok hs hn hd
  have EC := Lib.hid hk
  have HLB := Lib.hid hl
  have HP := Lib.hid hp
  obtain ⟨n1, hn1⟩ : ∃ n, Hid (m1.length = n) := ⟨_, Lib.hid rfl⟩
  have j1 := ez0t k hk0
  clear hk hl hp hk0
  go_enter Try.func13, Try.ntmps13
  go_upto_region 1 with fail
  rw [← HW.out]
  obtain ⟨x0, x1, x2, x3, x4, x5, x6, x7, x8, x9, x10, x11, x12⟩ := C.out.cf.all
  go_wp2_with (first
    | (go_at_call 21; (with_reducible refine (echeck_any f.code f.sess g1 _ EC.out _).mono ?_); rintro e wn ⟨rfl, hb⟩; replace C := Lib.hid (C.out.step hb); clear hb x0 x1 x2 x3 x4 x5 x6 x7 x8 x9 x10 x11 x12; obtain ⟨x0, x1, x2, x3, x4, x5, x6, x7, x8, x9, x10, x11, x12⟩ := C.out.cf.all)
    | (go_at_call 22; (with_reducible refine (epayload_any f q _ (H.out.on C.out.bel) OK.out HS.out HNQ.out HDQ.out HLB.out _ _ HP.out n1 hn1.out).mono ?_); rintro e wn ⟨A5, c5, rfl, h5, h5c, hb⟩; have X5 := Lib.hid h5; have H5C := Lib.hid h5c; clear h5 h5c; replace C := Lib.hid (C.out.step hb); clear hb x0 x1 x2 x3 x4 x5 x6 x7 x8 x9 x10 x11 x12; obtain ⟨x0, x1, x2, x3, x4, x5, x6, x7, x8, x9, x10, x11, x12⟩ := C.out.cf.all))
  go_ret2
  exact PutR.mk none 0 rfl Rd.nil (Nat.le_refl _) C.out.bel

set_option maxHeartbeats 8000000 in
theorem eput_w_long (f : Fr) (q : Fl) (w : World) (h : FwF (fun _ => True) w f q) (hok : f.ok) (hs : f.pkt.sm) (hn : q.nt ≤ 137438953472) (hd : tgdat f.tags ≤ 68719476736) (hl : (bputB f.pkt).1.length ≤ 549755813888) (hk : ecode f.code f.sess = 0) (m1 : List Nat) (hp : epay f = (m1, 0)) (h94 : 1494 < m1.length) :
    Calls Try.prog 13 #[f.val q] w fun e w' => PutR w [] 0 3 e w' := by
  have C := Lib.hid (OpF.made 39 w f q)
  have H := Lib.hid h
  have OK := Lib.hid hok
  have HS := Lib.hid hs
  have HNQ := Lib.hid hn
  have HDQ := Lib.hid hd
  have g1 := hok.code
  have g2 := hok.sess
  have g3 := hok.pkt.proto
  obtain ⟨wm, hwm⟩ : ∃ wm, wm = w.alloc (f.obj q 39) := ⟨_, rfl⟩
  rw [← hwm] at C
  have HW := Lib.hid hwm
  clear hwm h hok hs hn hd
  have EC := Lib.hid hk
  have HLB := Lib.hid hl
  have HP := Lib.hid hp
  obtain ⟨n1, hn1⟩ : ∃ n, Hid (m1.length = n) := ⟨_, Lib.hid rfl⟩
  have j1 : (1494 : Int) < (n1 : Int) := egt94 (by rw [← hn1.out]; exact h94)
  clear hk hl hp h94
  go_enter Try.func13, Try.ntmps13
  go_upto_region 1 with fail
  rw [← HW.out]
  obtain ⟨x0, x1, x2, x3, x4, x5, x6, x7, x8, x9, x10, x11, x12⟩ := C.out.cf.all
  go_wp2_with (first
    | (go_at_call 21; (with_reducible refine (echeck_any f.code f.sess g1 _ EC.out _).mono ?_); rintro e wn ⟨rfl, hb⟩; replace C := Lib.hid (C.out.step hb); clear hb x0 x1 x2 x3 x4 x5 x6 x7 x8 x9 x10 x11 x12; obtain ⟨x0, x1, x2, x3, x4, x5, x6, x7, x8, x9, x10, x11, x12⟩ := C.out.cf.all)
    | (go_at_call 22; (with_reducible refine (epayload_any f q _ (H.out.on C.out.bel) OK.out HS.out HNQ.out HDQ.out HLB.out _ _ HP.out n1 hn1.out).mono ?_); rintro e wn ⟨A5, c5, rfl, h5, h5c, hb⟩; have X5 := Lib.hid h5; have H5C := Lib.hid h5c; clear h5 h5c; replace C := Lib.hid (C.out.step hb); clear hb x0 x1 x2 x3 x4 x5 x6 x7 x8 x9 x10 x11 x12; obtain ⟨x0, x1, x2, x3, x4, x5, x6, x7, x8, x9, x10, x11, x12⟩ := C.out.cf.all))
  go_ret2
  exact PutR.mk none 0 rfl Rd.nil (Nat.le_refl _) C.out.bel

set_option maxHeartbeats 8000000 in
theorem eput_w_ok (f : Fr) (q : Fl) (w : World) (h : FwF (fun _ => True) w f q) (hok : f.ok) (hs : f.pkt.sm) (hn : q.nt ≤ 137438953472) (hd : tgdat f.tags ≤ 68719476736) (hl : (bputB f.pkt).1.length ≤ 549755813888) (hk : ecode f.code f.sess = 0) (m1 : List Nat) (hp : epay f = (m1, 0)) (h94 : m1.length ≤ 1494) (m : List Nat) (hm : elay f m1 = m) (n : Nat) (hn9 : m.length = n) :
    Calls Try.prog 13 #[f.val q] w fun e w' => PutR w m n 0 e w' := by
  have C := Lib.hid (OpF.made 39 w f q)
  have H := Lib.hid h
  have OK := Lib.hid hok
  have HS := Lib.hid hs
  have HNQ := Lib.hid hn
  have HDQ := Lib.hid hd
  have g1 := hok.code
  have g2 := hok.sess
  have g3 := hok.pkt.proto
  obtain ⟨wm, hwm⟩ : ∃ wm, wm = w.alloc (f.obj q 39) := ⟨_, rfl⟩
  rw [← hwm] at C
  have HW := Lib.hid hwm
  clear hwm h hok hs hn hd
  have EC := Lib.hid hk
  have HLB := Lib.hid hl
  have HP := Lib.hid hp
  obtain ⟨n1, hn1⟩ : ∃ n, Hid (m1.length = n) := ⟨_, Lib.hid rfl⟩
  have n94 : n1 ≤ 1494 := by rw [← hn1.out]; exact h94
  have j1 := ele94 n94
  have n16 : n1 < 65536 := Nat.lt_of_le_of_lt n94 (by decide)
  have u1 : IntKind.u16.wrap (n1 : Int) = (n1 : Int) := eu_wr n1 n16
  obtain ⟨s1, hs1⟩ : ∃ z, Hid (f.sess / 256 = z) := ⟨_, Lib.hid rfl⟩
  obtain ⟨s2, hs2⟩ : ∃ z, Hid (f.sess % 256 = z) := ⟨_, Lib.hid rfl⟩
  obtain ⟨l1, hl1⟩ : ∃ z, Hid (n1 / 256 = z) := ⟨_, Lib.hid rfl⟩
  obtain ⟨l2, hl2⟩ : ∃ z, Hid (n1 % 256 = z) := ⟨_, Lib.hid rfl⟩
  have FL := Lib.hid (show [[17, f.code], [s1, s2], [l1, l2], m1].flatten = m by rw [← hm, ← hs1.out, ← hs2.out, ← hl1.out, ← hl2.out, ← hn1.out]; simp [elay])
  have LN := Lib.hid (show [[17, f.code], [s1, s2], [l1, l2], m1].flatten.length = n by rw [FL.out]; exact hn9)
  have LE := Lib.hid (show [[17, f.code], [s1, s2], [l1, l2], m1].flatten.length ≤ 1099511627776 by simp; omega)
  clear hk hl hp h94 hm hn9 n94
  go_enter Try.func13, Try.ntmps13
  go_upto_region 1 with fail
  rw [← HW.out]
  obtain ⟨x0, x1, x2, x3, x4, x5, x6, x7, x8, x9, x10, x11, x12⟩ := C.out.cf.all
  go_upto_region 9 with (first
    | (go_at_call 21; (with_reducible refine (echeck_any f.code f.sess g1 _ EC.out _).mono ?_); rintro e wn ⟨rfl, hb⟩; replace C := Lib.hid (C.out.step hb); clear hb x0 x1 x2 x3 x4 x5 x6 x7 x8 x9 x10 x11 x12; obtain ⟨x0, x1, x2, x3, x4, x5, x6, x7, x8, x9, x10, x11, x12⟩ := C.out.cf.all)
    | (go_at_call 22; (with_reducible refine (epayload_any f q _ (H.out.on C.out.bel) OK.out HS.out HNQ.out HDQ.out HLB.out _ _ HP.out n1 hn1.out).mono ?_); rintro e wn ⟨A5, c5, rfl, h5, h5c, hb⟩; have X5 := Lib.hid h5; have H5C := Lib.hid h5c; clear h5 h5c; replace C := Lib.hid (C.out.step hb); clear hb x0 x1 x2 x3 x4 x5 x6 x7 x8 x9 x10 x11 x12; obtain ⟨x0, x1, x2, x3, x4, x5, x6, x7, x8, x9, x10, x11, x12⟩ := C.out.cf.all))
  go_region_held3 (fun W => W.cell? ⟨w.heap.size, 0, none⟩ = some (.int .u8 (f.code : Int)) ∧ W.cell? ⟨w.heap.size, 1, none⟩ = some (.int .u16 (f.sess : Int))) (first | (with_reducible exact C.out.c01) | (with_reducible exact C.out.drew.c01) | (with_reducible exact (C.out.al _).c01) | (with_reducible exact (C.out.al _).drew.c01) | (with_reducible exact ((C.out.al _).al _).c01)) (first
    | ((with_reducible refine at_calls ((wn.alloc (.cells #[.int .u8 17, .int .u8 (f.code : Int)] 5)).drew) ?_); have bx := ((Below.refl wn.heap.size wn).alloc (Nat.le_refl _) (.cells #[.int .u8 17, .int .u8 (f.code : Int)] 5)).drew; replace C := Lib.hid (C.out.step bx); replace X5 := Lib.hid (X5.out.on bx); (try replace RA := Lib.hid (RA.out.on bx)); (try replace RB := Lib.hid (RB.out.on bx)); have Q := Lib.hid ((e17 wn f.code).on (Below.refl _ _).drew); clear bx; go_at_call 24; (with_reducible refine (ettwo_any _ _ _ g2 hs1.out hs2.out _).mono ?_); rintro e wn ⟨A6, c6, rfl, h6, -, hb⟩; replace C := Lib.hid (C.out.step hb); replace X5 := Lib.hid (X5.out.on hb); (try replace Q := Lib.hid (Q.out.on hb)); (try replace RA := Lib.hid (RA.out.on hb)); (try replace RB := Lib.hid (RB.out.on hb)); have RA := Lib.hid h6; clear hb h6; dsimp only)
    | ((with_reducible refine at_calls (wn.alloc (.cells #[.int .u8 17, .int .u8 (f.code : Int)] 5)) ?_); have bx := ((Below.refl wn.heap.size wn).alloc (Nat.le_refl _) (.cells #[.int .u8 17, .int .u8 (f.code : Int)] 5)); replace C := Lib.hid (C.out.step bx); replace X5 := Lib.hid (X5.out.on bx); (try replace RA := Lib.hid (RA.out.on bx)); (try replace RB := Lib.hid (RB.out.on bx)); have Q := Lib.hid (e17 wn f.code); clear bx; go_at_call 24; (with_reducible refine (ettwo_any _ _ _ g2 hs1.out hs2.out _).mono ?_); rintro e wn ⟨A6, c6, rfl, h6, -, hb⟩; replace C := Lib.hid (C.out.step hb); replace X5 := Lib.hid (X5.out.on hb); (try replace Q := Lib.hid (Q.out.on hb)); (try replace RA := Lib.hid (RA.out.on hb)); (try replace RB := Lib.hid (RB.out.on hb)); have RA := Lib.hid h6; clear hb h6; dsimp only)
    | ((with_reducible refine at_calls (wn.drew) ?_); have bx := (Below.refl wn.heap.size wn).drew; replace C := Lib.hid (C.out.step bx); replace X5 := Lib.hid (X5.out.on bx); (try replace RA := Lib.hid (RA.out.on bx)); (try replace RB := Lib.hid (RB.out.on bx)); (try replace Q := Lib.hid (Q.out.on bx)); clear bx; go_at_call 24; (with_reducible refine (ettwo_any _ _ _ g2 hs1.out hs2.out _).mono ?_); rintro e wn ⟨A6, c6, rfl, h6, -, hb⟩; replace C := Lib.hid (C.out.step hb); replace X5 := Lib.hid (X5.out.on hb); (try replace Q := Lib.hid (Q.out.on hb)); (try replace RA := Lib.hid (RA.out.on hb)); (try replace RB := Lib.hid (RB.out.on hb)); have RA := Lib.hid h6; clear hb h6; dsimp only)
    | ((with_reducible refine at_calls (wn) ?_); have bx := (Below.refl wn.heap.size wn); replace C := Lib.hid (C.out.step bx); replace X5 := Lib.hid (X5.out.on bx); (try replace RA := Lib.hid (RA.out.on bx)); (try replace RB := Lib.hid (RB.out.on bx)); (try replace Q := Lib.hid (Q.out.on bx)); clear bx; go_at_call 24; (with_reducible refine (ettwo_any _ _ _ g2 hs1.out hs2.out _).mono ?_); rintro e wn ⟨A6, c6, rfl, h6, -, hb⟩; replace C := Lib.hid (C.out.step hb); replace X5 := Lib.hid (X5.out.on hb); (try replace Q := Lib.hid (Q.out.on hb)); (try replace RA := Lib.hid (RA.out.on hb)); (try replace RB := Lib.hid (RB.out.on hb)); have RA := Lib.hid h6; clear hb h6; dsimp only)
    | ((with_reducible refine at_calls ((wn.alloc (.cells #[.int .u8 17, .int .u8 (f.code : Int)] 5)).drew) ?_); have bx := ((Below.refl wn.heap.size wn).alloc (Nat.le_refl _) (.cells #[.int .u8 17, .int .u8 (f.code : Int)] 5)).drew; replace C := Lib.hid (C.out.step bx); replace X5 := Lib.hid (X5.out.on bx); (try replace RA := Lib.hid (RA.out.on bx)); (try replace RB := Lib.hid (RB.out.on bx)); have Q := Lib.hid ((e17 wn f.code).on (Below.refl _ _).drew); clear bx; go_at_call 24; (with_reducible refine (ettwo_any _ _ _ n16 hl1.out hl2.out _).mono ?_); rintro e wn ⟨A7, c7, rfl, h6, -, hb⟩; replace C := Lib.hid (C.out.step hb); replace X5 := Lib.hid (X5.out.on hb); (try replace Q := Lib.hid (Q.out.on hb)); (try replace RA := Lib.hid (RA.out.on hb)); (try replace RB := Lib.hid (RB.out.on hb)); have RB := Lib.hid h6; clear hb h6; dsimp only)
    | ((with_reducible refine at_calls (wn.alloc (.cells #[.int .u8 17, .int .u8 (f.code : Int)] 5)) ?_); have bx := ((Below.refl wn.heap.size wn).alloc (Nat.le_refl _) (.cells #[.int .u8 17, .int .u8 (f.code : Int)] 5)); replace C := Lib.hid (C.out.step bx); replace X5 := Lib.hid (X5.out.on bx); (try replace RA := Lib.hid (RA.out.on bx)); (try replace RB := Lib.hid (RB.out.on bx)); have Q := Lib.hid (e17 wn f.code); clear bx; go_at_call 24; (with_reducible refine (ettwo_any _ _ _ n16 hl1.out hl2.out _).mono ?_); rintro e wn ⟨A7, c7, rfl, h6, -, hb⟩; replace C := Lib.hid (C.out.step hb); replace X5 := Lib.hid (X5.out.on hb); (try replace Q := Lib.hid (Q.out.on hb)); (try replace RA := Lib.hid (RA.out.on hb)); (try replace RB := Lib.hid (RB.out.on hb)); have RB := Lib.hid h6; clear hb h6; dsimp only)
    | ((with_reducible refine at_calls (wn.drew) ?_); have bx := (Below.refl wn.heap.size wn).drew; replace C := Lib.hid (C.out.step bx); replace X5 := Lib.hid (X5.out.on bx); (try replace RA := Lib.hid (RA.out.on bx)); (try replace RB := Lib.hid (RB.out.on bx)); (try replace Q := Lib.hid (Q.out.on bx)); clear bx; go_at_call 24; (with_reducible refine (ettwo_any _ _ _ n16 hl1.out hl2.out _).mono ?_); rintro e wn ⟨A7, c7, rfl, h6, -, hb⟩; replace C := Lib.hid (C.out.step hb); replace X5 := Lib.hid (X5.out.on hb); (try replace Q := Lib.hid (Q.out.on hb)); (try replace RA := Lib.hid (RA.out.on hb)); (try replace RB := Lib.hid (RB.out.on hb)); have RB := Lib.hid h6; clear hb h6; dsimp only)
    | ((with_reducible refine at_calls (wn) ?_); have bx := (Below.refl wn.heap.size wn); replace C := Lib.hid (C.out.step bx); replace X5 := Lib.hid (X5.out.on bx); (try replace RA := Lib.hid (RA.out.on bx)); (try replace RB := Lib.hid (RB.out.on bx)); (try replace Q := Lib.hid (Q.out.on bx)); clear bx; go_at_call 24; (with_reducible refine (ettwo_any _ _ _ n16 hl1.out hl2.out _).mono ?_); rintro e wn ⟨A7, c7, rfl, h6, -, hb⟩; replace C := Lib.hid (C.out.step hb); replace X5 := Lib.hid (X5.out.on hb); (try replace Q := Lib.hid (Q.out.on hb)); (try replace RA := Lib.hid (RA.out.on hb)); (try replace RB := Lib.hid (RB.out.on hb)); have RB := Lib.hid h6; clear hb h6; dsimp only)
    | ((fail_if_success (have _q := Q.out)); have bx := ((Below.refl wn.heap.size wn).alloc (Nat.le_refl _) (.cells #[.int .u8 17, .int .u8 (f.code : Int)] 5)); have Q := Lib.hid (e17 wn f.code); replace C := Lib.hid (C.out.step bx); replace X5 := Lib.hid (X5.out.on bx); replace RA := Lib.hid (RA.out.on bx); replace RB := Lib.hid (RB.out.on bx); clear bx; have hr := rr_quad (wn.alloc (.cells #[.int .u8 17, .int .u8 (f.code : Int)] 5)) _ A6 A7 A5 [17, f.code] [s1, s2] [l1, l2] m1 2 2 2 n1 2 c6 c7 c5 26 Q.out RA.out RB.out X5.out rfl rfl rfl hn1.out; rw [World.size_alloc] at hr; go_at_call 23; (with_reducible refine (concat_4 [17, f.code] [s1, s2] [l1, l2] m1 m _ _ _ hr LE.out FL.out n LN.out).mono ?_); rintro e wk ⟨A2, c2, rfl, h2, hc2, hb⟩; replace C := Lib.hid ((C.out.al _).step hb); have R := Lib.hid h2; have K := Lib.hid hc2; clear h2 hc2 hb hr; dsimp only)
    | (have hr := rr_quad (wn) _ A6 A7 A5 [17, f.code] [s1, s2] [l1, l2] m1 2 2 2 n1 2 c6 c7 c5 26 Q.out RA.out RB.out X5.out rfl rfl rfl hn1.out; go_at_call 23; (with_reducible refine (concat_4 [17, f.code] [s1, s2] [l1, l2] m1 m _ _ _ hr LE.out FL.out n LN.out).mono ?_); rintro e wk ⟨A2, c2, rfl, h2, hc2, hb⟩; replace C := Lib.hid ((C.out.al _).step hb); have R := Lib.hid h2; have K := Lib.hid hc2; clear h2 hc2 hb hr; dsimp only))
  all_goals
    go_wp2_with fail
    go_ret2
    exact PutR.mk A2 c2 rfl R.out K.out C.out.bel

theorem eput_any (f : Fr) (q : Fl) (w : World) (h : FwF (fun _ => True) w f q) (hok : f.ok) (hs : f.pkt.sm) (hn : q.nt ≤ 137438953472) (hd : tgdat f.tags ≤ 68719476736) (hl : (bputB f.pkt).1.length ≤ 549755813888) (m : List Nat) (k : Nat) (hm : eputB f = (m, k)) (n : Nat) (hn9 : m.length = n) :
    Calls Try.prog 13 #[f.val q] w fun e w' => PutR w m n k e w' := by
  unfold eputB at hm
  by_cases h1 : ecode f.code f.sess = 0
  · rw [if_pos h1] at hm
    by_cases h2 : (epay f).2 = 0
    · rw [if_pos h2] at hm
      by_cases h3 : (epay f).1.length ≤ 1494
      · rw [if_pos h3] at hm
        injection hm with e1 e2
        subst e2
        exact eput_w_ok f q w h hok hs hn hd hl h1 (epay f).1 (Prod.ext rfl h2) h3 m e1 n hn9
      · rw [if_neg h3] at hm
        injection hm with e1 e2
        subst e1; subst e2
        obtain rfl : 0 = n := hn9
        exact eput_w_long f q w h hok hs hn hd hl h1 (epay f).1 (Prod.ext rfl h2) (Nat.lt_of_not_le h3)
    · rw [if_neg h2] at hm
      injection hm with e1 e2
      subst e1; subst e2
      obtain rfl : 0 = n := hn9
      exact eput_w_pay f q w h hok hs hn hd hl h1 _ _ rfl h2
  · rw [if_neg h1] at hm
    injection hm with e1 e2
    subst e1; subst e2
    obtain rfl : 0 = n := hn9
    exact eput_w_code f q w h hok hs hn hd _ rfl h1
end Go.Proofs.Ytmhjnghomihjlaa
