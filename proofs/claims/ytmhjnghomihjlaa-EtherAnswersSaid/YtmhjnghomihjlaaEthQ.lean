
/-
  What the program's Answers of layer 22 answers. No condition beyond: at most 2^38 tags, data of at most 2^38 octets.
-/
import Derived.Test.YtmhjnghomihjlaaEthF
import Derived.Test.YtmhjnghomihjlaaEthR
import Derived.Test.YtmhjnghomihjlaaGTgp
namespace Go.Proofs.Ytmhjnghomihjlaa
set_option maxRecDepth 4000
open Go.RowKit
set_option linter.unusedVariables false

theorem euniq_ask (l : List (Nat × List Nat)) : euniq l = (l.find? (tgask 259)).map fun o => o.2 := rfl
theorem etfind_none (l : List (Nat × List Nat)) (h0 : euniq l = none) (n c : Nat) (A : Option Addr) (F : Nat → Prop) (w : World) (h : Rws shG F w A l) (hl : l.length = n) (hn : n ≤ 274877906944) (hd : ∀ x ∈ l, x.2.length ≤ 274877906944) :
    Calls Try.prog 27 #[.slice A n c, .int .u16 259] w fun e w' => e = .returned (.tuple #[.slice none 0 0, .bool false]) ∧ Below w.heap.size w w' :=
  (tgfind_any 259 l n c A F w h hl hn hd).mono fun _ _ hu => by
    rcases hu with ⟨-, h2, h3⟩ | ⟨o, A', c', h1, -, -⟩
    · exact ⟨h2, h3⟩
    · rw [euniq_ask, h1] at h0; cases h0
theorem etfind_some (l : List (Nat × List Nat)) (x : List Nat) (h0 : euniq l = some x) (k : Nat) (hk : x.length = k) (n c : Nat) (A : Option Addr) (F : Nat → Prop) (w : World) (h : Rws shG F w A l) (hl : l.length = n) (hn : n ≤ 274877906944) (hd : ∀ x ∈ l, x.2.length ≤ 274877906944) :
    Calls Try.prog 27 #[.slice A n c, .int .u16 259] w fun e w' => ∃ A' c', e = .returned (.tuple #[.slice A' k c', .bool true]) ∧ Rd w' w'.heap.size A' x ∧ Below w.heap.size w w' :=
  (tgfind_any 259 l n c A F w h hl hn hd).mono fun _ _ hu => by
    rcases hu with ⟨h1, -, -⟩ | ⟨o, A', c', h1, h2, h3⟩
    · rw [euniq_ask, h1] at h0; cases h0
    · rw [euniq_ask, h1] at h0
      obtain rfl : o.2 = x := by simpa using h0
      rw [hk] at h2
      exact ⟨A', c', h2, h3.2.2.1, h3.2.2.2⟩
theorem ebeq_v (a b : List Nat) (z : Bool) (hz : decide (a = b) = z) (n m : Nat) (A B : Option Addr) (c d : Nat) (w : World) (ha : Rd w w.heap.size A a) (hb : Rd w w.heap.size B b) (hA : By a) (hB : By b) (hn : a.length = n) (hm : b.length = m) :
    Calls Try.prog 28 #[.slice A n c, .slice B m d] w fun e w' => e = .returned (.bool z) ∧ w = w' := hz ▸ bequal_any a b n m A B c d w w.heap.size ha hb hA hB hn hm
theorem euniq_byQ {l : List (Nat × List Nat)} {x : List Nat} (h : euniq l = some x) (hl : ByG l) : By x := by
  rw [euniq_ask] at h
  obtain ⟨o, ho, rfl⟩ := Option.map_eq_some_iff.1 h
  exact (hl o (List.mem_of_find?_eq_some ho)).2

set_option maxHeartbeats 8000000 in
theorem eret_none (l k : List (Nat × List Nat)) (n c m d : Nat) (A B : Option Addr) (F G : Nat → Prop) (w : World) (h : Rws shG F w A l) (g : Rws shG G w B k) (hl : l.length = n) (hk : k.length = m) (hn : n ≤ 274877906944) (hm : m ≤ 274877906944) (hd : ∀ x ∈ l, x.2.length ≤ 274877906944) (he : ∀ x ∈ k, x.2.length ≤ 274877906944) (hG : ByG l) (hK : ByG k) (u : euniq k = none) :
    Calls Try.prog 18 #[.slice A n c, .slice B m d] w fun e w' => e = .returned (.bool true) ∧ Below w.heap.size w w' := by
  have B0 := Lib.hid (Below.refl w.heap.size w)
  have HL := Lib.hid h
  have HK := Lib.hid g
  have LL := Lib.hid hl
  have LK := Lib.hid hk
  have DL := Lib.hid hd
  have DK := Lib.hid he
  have NL := Lib.hid hn
  have NK := Lib.hid hm
  have U := Lib.hid u
  clear u
  clear h g hl hk hd he hn hm
  have P1 := Lib.hid trivial
  go_enter Try.func18, Try.ntmps18
  go_wp2_with (first
    | (go_at_call 27; have _g := P1; clear _g; (with_reducible refine (etfind_none k U.out m d B _ _ (HK.out.below B0.out) LK.out NK.out DK.out).mono ?_); rintro e wn ⟨rfl, hb⟩; replace B0 := Lib.hid (B0.out.trans (hb.mono B0.out.size)); clear hb; clear P1; have P2 := Lib.hid trivial))
  go_ret
  exact ⟨rfl, B0.out⟩

set_option maxHeartbeats 8000000 in
theorem eret_no (l k : List (Nat × List Nat)) (n c m d : Nat) (A B : Option Addr) (F G : Nat → Prop) (w : World) (h : Rws shG F w A l) (g : Rws shG G w B k) (hl : l.length = n) (hk : k.length = m) (hn : n ≤ 274877906944) (hm : m ≤ 274877906944) (hd : ∀ x ∈ l, x.2.length ≤ 274877906944) (he : ∀ x ∈ k, x.2.length ≤ 274877906944) (hG : ByG l) (hK : ByG k) (x : List Nat) (u : euniq k = some x) (v : euniq l = none) :
    Calls Try.prog 18 #[.slice A n c, .slice B m d] w fun e w' => e = .returned (.bool false) ∧ Below w.heap.size w w' := by
  have B0 := Lib.hid (Below.refl w.heap.size w)
  have HL := Lib.hid h
  have HK := Lib.hid g
  have LL := Lib.hid hl
  have LK := Lib.hid hk
  have DL := Lib.hid hd
  have DK := Lib.hid he
  have NL := Lib.hid hn
  have NK := Lib.hid hm
  have U := Lib.hid u
  have V := Lib.hid v
  obtain ⟨kx, hkx⟩ : ∃ z, Hid (x.length = z) := ⟨_, Lib.hid rfl⟩
  clear u v
  clear h g hl hk hd he hn hm
  have P1 := Lib.hid trivial
  go_enter Try.func18, Try.ntmps18
  go_wp2_with (first
    | (go_at_call 27; have _g := P1; clear _g; (with_reducible refine (etfind_some k x U.out kx hkx.out m d B _ _ (HK.out.below B0.out) LK.out NK.out DK.out).mono ?_); rintro e wn ⟨Akx, ckx, rfl, hr, hb⟩; replace B0 := Lib.hid (B0.out.trans (hb.mono B0.out.size)); have X1 := Lib.hid hr; clear hb hr; clear P1; have P2 := Lib.hid trivial)
    | (go_at_call 27; have _g := P2; clear _g; (with_reducible refine (etfind_none l V.out n c A _ _ (HL.out.below B0.out) LL.out NL.out DL.out).mono ?_); rintro e wn ⟨rfl, hb⟩; replace B0 := Lib.hid (B0.out.trans (hb.mono B0.out.size)); clear hb; clear P2))
  go_ret
  exact ⟨rfl, B0.out⟩

set_option maxHeartbeats 8000000 in
theorem eret_some (l k : List (Nat × List Nat)) (n c m d : Nat) (A B : Option Addr) (F G : Nat → Prop) (w : World) (h : Rws shG F w A l) (g : Rws shG G w B k) (hl : l.length = n) (hk : k.length = m) (hn : n ≤ 274877906944) (hm : m ≤ 274877906944) (hd : ∀ x ∈ l, x.2.length ≤ 274877906944) (he : ∀ x ∈ k, x.2.length ≤ 274877906944) (hG : ByG l) (hK : ByG k) (x : List Nat) (u : euniq k = some x) (y : List Nat) (v : euniq l = some y) (z : Bool) (hz : decide (y = x) = z) :
    Calls Try.prog 18 #[.slice A n c, .slice B m d] w fun e w' => e = .returned (.bool z) ∧ Below w.heap.size w w' := by
  have B0 := Lib.hid (Below.refl w.heap.size w)
  have HL := Lib.hid h
  have HK := Lib.hid g
  have LL := Lib.hid hl
  have LK := Lib.hid hk
  have DL := Lib.hid hd
  have DK := Lib.hid he
  have NL := Lib.hid hn
  have NK := Lib.hid hm
  have U := Lib.hid u
  have V := Lib.hid v
  have BX := Lib.hid (euniq_byQ u hK)
  have BY := Lib.hid (euniq_byQ v hG)
  have ZE := Lib.hid hz
  obtain ⟨kx, hkx⟩ : ∃ z, Hid (x.length = z) := ⟨_, Lib.hid rfl⟩
  obtain ⟨ky, hky⟩ : ∃ z, Hid (y.length = z) := ⟨_, Lib.hid rfl⟩
  clear u v hz
  clear h g hl hk hd he hn hm
  have P1 := Lib.hid trivial
  go_enter Try.func18, Try.ntmps18
  go_wp2_with (first
    | (go_at_call 27; have _g := P1; clear _g; (with_reducible refine (etfind_some k x U.out kx hkx.out m d B _ _ (HK.out.below B0.out) LK.out NK.out DK.out).mono ?_); rintro e wn ⟨Akx, ckx, rfl, hr, hb⟩; replace B0 := Lib.hid (B0.out.trans (hb.mono B0.out.size)); have X1 := Lib.hid hr; clear hb hr; clear P1; have P2 := Lib.hid trivial)
    | (go_at_call 27; have _g := P2; clear _g; (with_reducible refine (etfind_some l y V.out ky hky.out n c A _ _ (HL.out.below B0.out) LL.out NL.out DL.out).mono ?_); rintro e wn ⟨Aky, cky, rfl, hr, hb⟩; replace B0 := Lib.hid (B0.out.trans (hb.mono B0.out.size)); replace X1 := Lib.hid (X1.out.on hb); have X2 := Lib.hid hr; clear hb hr; clear P2)
    | (go_at_call 28; (with_reducible refine (ebeq_v y x z ZE.out ky kx _ _ _ _ _ X2.out X1.out BY.out BX.out hky.out hkx.out).mono ?_); rintro e wn ⟨rfl, hwn⟩; subst hwn))
  go_ret
  exact ⟨rfl, B0.out⟩

/-- What returned answers. -/
def eretB (l k : List (Nat × List Nat)) : Bool := match euniq k with
  | none => true
  | some x => decide (euniq l = some x)
theorem eret_any (l k : List (Nat × List Nat)) (n c m d : Nat) (A B : Option Addr) (F G : Nat → Prop) (w : World) (h : Rws shG F w A l) (g : Rws shG G w B k) (hl : l.length = n) (hk : k.length = m) (hn : n ≤ 274877906944) (hm : m ≤ 274877906944) (hd : ∀ x ∈ l, x.2.length ≤ 274877906944) (he : ∀ x ∈ k, x.2.length ≤ 274877906944) (hG : ByG l) (hK : ByG k) (z : Bool) (hz : eretB l k = z) :
    Calls Try.prog 18 #[.slice A n c, .slice B m d] w fun e w' => e = .returned (.bool z) ∧ Below w.heap.size w w' := by
  subst hz
  unfold eretB
  cases u : euniq k with
  | none => exact eret_none l k n c m d A B F G w h g hl hk hn hm hd he hG hK u
  | some x =>
    cases v : euniq l with
    | none => exact eret_no l k n c m d A B F G w h g hl hk hn hm hd he hG hK x u v
    | some y => exact eret_some l k n c m d A B F G w h g hl hk hn hm hd he hG hK x u y v _ (by simp)

set_option maxHeartbeats 8000000 in
theorem ean_w_7 (f o : Fr) (q r : Fl) (w : World) (ha : FwF (fun _ => True) w f q) (hb : FwF (fun _ => True) w o r) (hf : ByG f.tags) (ho : ByG o.tags) (hn : q.nt ≤ 274877906944) (hm : r.nt ≤ 274877906944) (hd : ∀ x ∈ f.tags, x.2.length ≤ 274877906944) (he : ∀ x ∈ o.tags, x.2.length ≤ 274877906944) (c1 : f.code = 7) (c2 : o.code = 9) (z : Bool) (hz : eretB f.tags o.tags = z) :
    Calls Try.prog 7 #[f.val q, o.val r] w fun e w' => e = .returned (.bool z) ∧ Below w.heap.size w w' := by
  have C := Lib.hid (TwF.made 39 w f o q r)
  have HA := Lib.hid ha
  have HB := Lib.hid hb
  have HF := Lib.hid hf
  have HO := Lib.hid ho
  have NL := Lib.hid hn
  have NK := Lib.hid hm
  have DL := Lib.hid hd
  have DK := Lib.hid he
  clear ha hb hf ho hn hm hd he
  obtain ⟨wm, hwm⟩ : ∃ wm, wm = (w.alloc (f.obj q 39)).alloc (o.obj r 39) := ⟨_, rfl⟩
  rw [← hwm] at C
  have HW := Lib.hid hwm
  clear hwm
  have j1 : ((f.code : Int) == 7) = true := by rw [c1]; rfl
  have j2 : ((o.code : Int) == 9) = true := by rw [c2]; rfl
  have ZE := Lib.hid hz
  clear c1 c2 hz
  go_enter Try.func7, Try.ntmps7
  go_upto_region 1 with fail
  rw [← HW.out]
  obtain ⟨x0, x1, x2, x3, x4, x5, x6, x7, x8, x9, x10, x11, x12⟩ := C.out.x.all
  obtain ⟨y0, y1, y2, y3, y4, y5, y6, y7, y8, y9, y10, y11, y12⟩ := C.out.y.all
  go_wp2_with (first
    | (go_at_call 18; (with_reducible refine (eret_any f.tags o.tags _ _ _ _ _ _ _ _ _ (HA.out.on C.out.bel).rt (HB.out.on C.out.bel).rt HA.out.lt HB.out.lt NL.out NK.out DL.out DK.out HF.out HO.out z ZE.out).mono ?_); rintro e wn ⟨rfl, hb⟩; replace C := Lib.hid (C.out.step hb); clear hb))
  go_ret
  exact ⟨rfl, C.out.bel⟩

set_option maxHeartbeats 8000000 in
theorem ean_w_no7 (f o : Fr) (q r : Fl) (w : World) (ha : FwF (fun _ => True) w f q) (hb : FwF (fun _ => True) w o r) (hf : ByG f.tags) (ho : ByG o.tags) (hn : q.nt ≤ 274877906944) (hm : r.nt ≤ 274877906944) (hd : ∀ x ∈ f.tags, x.2.length ≤ 274877906944) (he : ∀ x ∈ o.tags, x.2.length ≤ 274877906944) (c1 : f.code = 7) (c2 : ¬ o.code = 9) :
    Calls Try.prog 7 #[f.val q, o.val r] w fun e w' => e = .returned (.bool false) ∧ Below w.heap.size w w' := by
  have C := Lib.hid (TwF.made 39 w f o q r)
  have HA := Lib.hid ha
  have HB := Lib.hid hb
  have HF := Lib.hid hf
  have HO := Lib.hid ho
  have NL := Lib.hid hn
  have NK := Lib.hid hm
  have DL := Lib.hid hd
  have DK := Lib.hid he
  clear ha hb hf ho hn hm hd he
  obtain ⟨wm, hwm⟩ : ∃ wm, wm = (w.alloc (f.obj q 39)).alloc (o.obj r 39) := ⟨_, rfl⟩
  rw [← hwm] at C
  have HW := Lib.hid hwm
  clear hwm
  have j1 : ((f.code : Int) == 7) = true := by rw [c1]; rfl
  have j3 : ((f.code : Int) == 101) = false := by rw [c1]; rfl
  have j2 : ((o.code : Int) == 9) = false := by rw [beq_eq_false_iff_ne]; omega
  clear c1 c2
  go_enter Try.func7, Try.ntmps7
  go_upto_region 1 with fail
  rw [← HW.out]
  obtain ⟨x0, x1, x2, x3, x4, x5, x6, x7, x8, x9, x10, x11, x12⟩ := C.out.x.all
  obtain ⟨y0, y1, y2, y3, y4, y5, y6, y7, y8, y9, y10, y11, y12⟩ := C.out.y.all
  go_wp2_with fail
  go_ret
  exact ⟨rfl, C.out.bel⟩

set_option maxHeartbeats 8000000 in
theorem ean_w_101 (f o : Fr) (q r : Fl) (w : World) (ha : FwF (fun _ => True) w f q) (hb : FwF (fun _ => True) w o r) (hf : ByG f.tags) (ho : ByG o.tags) (hn : q.nt ≤ 274877906944) (hm : r.nt ≤ 274877906944) (hd : ∀ x ∈ f.tags, x.2.length ≤ 274877906944) (he : ∀ x ∈ o.tags, x.2.length ≤ 274877906944) (c1 : f.code = 101) (c2 : o.code = 25) (z : Bool) (hz : eretB f.tags o.tags = z) :
    Calls Try.prog 7 #[f.val q, o.val r] w fun e w' => e = .returned (.bool z) ∧ Below w.heap.size w w' := by
  have C := Lib.hid (TwF.made 39 w f o q r)
  have HA := Lib.hid ha
  have HB := Lib.hid hb
  have HF := Lib.hid hf
  have HO := Lib.hid ho
  have NL := Lib.hid hn
  have NK := Lib.hid hm
  have DL := Lib.hid hd
  have DK := Lib.hid he
  clear ha hb hf ho hn hm hd he
  obtain ⟨wm, hwm⟩ : ∃ wm, wm = (w.alloc (f.obj q 39)).alloc (o.obj r 39) := ⟨_, rfl⟩
  rw [← hwm] at C
  have HW := Lib.hid hwm
  clear hwm
  have j1 : ((f.code : Int) == 7) = false := by rw [c1]; rfl
  have j3 : ((f.code : Int) == 101) = true := by rw [c1]; rfl
  have j2 : ((o.code : Int) == 25) = true := by rw [c2]; rfl
  have ZE := Lib.hid hz
  clear c1 c2 hz
  go_enter Try.func7, Try.ntmps7
  go_upto_region 1 with fail
  rw [← HW.out]
  obtain ⟨x0, x1, x2, x3, x4, x5, x6, x7, x8, x9, x10, x11, x12⟩ := C.out.x.all
  obtain ⟨y0, y1, y2, y3, y4, y5, y6, y7, y8, y9, y10, y11, y12⟩ := C.out.y.all
  go_wp2_with (first
    | (go_at_call 18; (with_reducible refine (eret_any f.tags o.tags _ _ _ _ _ _ _ _ _ (HA.out.on C.out.bel).rt (HB.out.on C.out.bel).rt HA.out.lt HB.out.lt NL.out NK.out DL.out DK.out HF.out HO.out z ZE.out).mono ?_); rintro e wn ⟨rfl, hb⟩; replace C := Lib.hid (C.out.step hb); clear hb))
  go_ret
  exact ⟨rfl, C.out.bel⟩

set_option maxHeartbeats 8000000 in
theorem ean_w_no101 (f o : Fr) (q r : Fl) (w : World) (ha : FwF (fun _ => True) w f q) (hb : FwF (fun _ => True) w o r) (hf : ByG f.tags) (ho : ByG o.tags) (hn : q.nt ≤ 274877906944) (hm : r.nt ≤ 274877906944) (hd : ∀ x ∈ f.tags, x.2.length ≤ 274877906944) (he : ∀ x ∈ o.tags, x.2.length ≤ 274877906944) (c1 : f.code = 101) (c2 : ¬ o.code = 25) :
    Calls Try.prog 7 #[f.val q, o.val r] w fun e w' => e = .returned (.bool false) ∧ Below w.heap.size w w' := by
  have C := Lib.hid (TwF.made 39 w f o q r)
  have HA := Lib.hid ha
  have HB := Lib.hid hb
  have HF := Lib.hid hf
  have HO := Lib.hid ho
  have NL := Lib.hid hn
  have NK := Lib.hid hm
  have DL := Lib.hid hd
  have DK := Lib.hid he
  clear ha hb hf ho hn hm hd he
  obtain ⟨wm, hwm⟩ : ∃ wm, wm = (w.alloc (f.obj q 39)).alloc (o.obj r 39) := ⟨_, rfl⟩
  rw [← hwm] at C
  have HW := Lib.hid hwm
  clear hwm
  have j1 : ((f.code : Int) == 7) = false := by rw [c1]; rfl
  have j3 : ((f.code : Int) == 101) = true := by rw [c1]; rfl
  have j2 : ((o.code : Int) == 25) = false := by rw [beq_eq_false_iff_ne]; omega
  clear c1 c2
  go_enter Try.func7, Try.ntmps7
  go_upto_region 1 with fail
  rw [← HW.out]
  obtain ⟨x0, x1, x2, x3, x4, x5, x6, x7, x8, x9, x10, x11, x12⟩ := C.out.x.all
  obtain ⟨y0, y1, y2, y3, y4, y5, y6, y7, y8, y9, y10, y11, y12⟩ := C.out.y.all
  go_wp2_with fail
  go_ret
  exact ⟨rfl, C.out.bel⟩

set_option maxHeartbeats 8000000 in
theorem ean_w_no (f o : Fr) (q r : Fl) (w : World) (ha : FwF (fun _ => True) w f q) (hb : FwF (fun _ => True) w o r) (hf : ByG f.tags) (ho : ByG o.tags) (hn : q.nt ≤ 274877906944) (hm : r.nt ≤ 274877906944) (hd : ∀ x ∈ f.tags, x.2.length ≤ 274877906944) (he : ∀ x ∈ o.tags, x.2.length ≤ 274877906944) (c1 : ¬ f.code = 7) (c3 : ¬ f.code = 101) :
    Calls Try.prog 7 #[f.val q, o.val r] w fun e w' => e = .returned (.bool false) ∧ Below w.heap.size w w' := by
  have C := Lib.hid (TwF.made 39 w f o q r)
  have HA := Lib.hid ha
  have HB := Lib.hid hb
  have HF := Lib.hid hf
  have HO := Lib.hid ho
  have NL := Lib.hid hn
  have NK := Lib.hid hm
  have DL := Lib.hid hd
  have DK := Lib.hid he
  clear ha hb hf ho hn hm hd he
  obtain ⟨wm, hwm⟩ : ∃ wm, wm = (w.alloc (f.obj q 39)).alloc (o.obj r 39) := ⟨_, rfl⟩
  rw [← hwm] at C
  have HW := Lib.hid hwm
  clear hwm
  have j1 : ((f.code : Int) == 7) = false := by rw [beq_eq_false_iff_ne]; omega
  have j3 : ((f.code : Int) == 101) = false := by rw [beq_eq_false_iff_ne]; omega
  clear c1 c3
  go_enter Try.func7, Try.ntmps7
  go_upto_region 1 with fail
  rw [← HW.out]
  obtain ⟨x0, x1, x2, x3, x4, x5, x6, x7, x8, x9, x10, x11, x12⟩ := C.out.x.all
  obtain ⟨y0, y1, y2, y3, y4, y5, y6, y7, y8, y9, y10, y11, y12⟩ := C.out.y.all
  go_wp2_with fail
  go_ret
  exact ⟨rfl, C.out.bel⟩

theorem eans_any (f o : Fr) (q r : Fl) (w : World) (ha : FwF (fun _ => True) w f q) (hb : FwF (fun _ => True) w o r) (hf : ByG f.tags) (ho : ByG o.tags) (hn : q.nt ≤ 274877906944) (hm : r.nt ≤ 274877906944) (hd : ∀ x ∈ f.tags, x.2.length ≤ 274877906944) (he : ∀ x ∈ o.tags, x.2.length ≤ 274877906944) (z : Bool) (hz : eansB f o = z) :
    Calls Try.prog 7 #[f.val q, o.val r] w fun e w' => e = .returned (.bool z) ∧ Below w.heap.size w w' := by
  have e : eansB f o = ((decide (f.code = 7) && decide (o.code = 9) || decide (f.code = 101) && decide (o.code = 25)) && eretB f.tags o.tags) := rfl
  rw [e] at hz
  clear e
  by_cases c1 : f.code = 7
  · by_cases c2 : o.code = 9
    · rw [show (decide (f.code = 7) && decide (o.code = 9) || decide (f.code = 101) && decide (o.code = 25)) = true by simp [c1, c2], Bool.true_and] at hz
      exact ean_w_7 f o q r w ha hb hf ho hn hm hd he c1 c2 z hz
    · rw [show (decide (f.code = 7) && decide (o.code = 9) || decide (f.code = 101) && decide (o.code = 25)) = false by simp [c1, c2], Bool.false_and] at hz
      subst hz
      exact ean_w_no7 f o q r w ha hb hf ho hn hm hd he c1 c2
  by_cases c3 : f.code = 101
  · by_cases c2 : o.code = 25
    · rw [show (decide (f.code = 7) && decide (o.code = 9) || decide (f.code = 101) && decide (o.code = 25)) = true by simp [c3, c2], Bool.true_and] at hz
      exact ean_w_101 f o q r w ha hb hf ho hn hm hd he c3 c2 z hz
    · rw [show (decide (f.code = 7) && decide (o.code = 9) || decide (f.code = 101) && decide (o.code = 25)) = false by simp [c3, c2], Bool.false_and] at hz
      subst hz
      exact ean_w_no101 f o q r w ha hb hf ho hn hm hd he c3 c2
  · rw [show (decide (f.code = 7) && decide (o.code = 9) || decide (f.code = 101) && decide (o.code = 25)) = false by simp [c1, c3], Bool.false_and] at hz
    subst hz
    exact ean_w_no f o q r w ha hb hf ho hn hm hd he c1 c3
end Go.Proofs.Ytmhjnghomihjlaa
