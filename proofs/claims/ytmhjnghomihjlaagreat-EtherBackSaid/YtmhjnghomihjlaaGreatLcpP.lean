
/-
  What the program's Put of layer 15 answers, and the document's example. No condition beyond: packets that Go may have, at most 2^30 elements in each slice.
-/
import Derived.Test.YtmhjnghomihjlaaGreatLcpB
namespace Go.Proofs.YtmhjnghomihjlaaGreat
set_option maxRecDepth 4000
open Go.RowKit

theorem lwr_any (p : Pk) (q : Pl) (w : World) (h : Pw w p q) (hok : p.ok) (hs : p.sm) (m : List Nat) (k : Nat) (hm : wrL p = (m, k)) (n : Nat) (hn : m.length = n) :
    Calls Tryz.prog 113 #[p.val q] w fun e w' => ∃ A c, e = .returned (.tuple #[.slice A n c, .int .i64 (k : Int)]) ∧ Rd w' w'.heap.size A m ∧ n ≤ c ∧ Below w.heap.size w w' := by
  rcases hasL_cases p.code with hc | hc | hc | hc
  · exact lwr_data p q w h hc m k hm n hn
  · exact lwr_opts p q w h hok hs hc m k hm n hn
  · exact lwr_sub p q w h hok hs hc m k hm n hn
  · exact lwr_magic p q w h hok hs hc m k hm n hn

set_option maxHeartbeats 8000000 in
theorem lput_any (p : Pk) (q : Pl) (w : World) (h : Pw w p q) (hok : p.ok) (hs : p.sm) (m : List Nat) (k : Nat) (hm : lputB p = (m, k)) (n : Nat) (hn : m.length = n) :
    Calls Tryz.prog 106 #[p.val q] w fun e w' => ∃ A c, e = .returned (.tuple #[.slice A n c, .int .i64 (k : Int)]) ∧ Rd w' w'.heap.size A m ∧ n ≤ c ∧ Below w.heap.size w w' := by
  have C := Lib.hid (BxC.made 40 w p q)
  have H := Lib.hid h
  have HS := Lib.hid hs
  have HK := Lib.hid hok
  clear h hok hs
  by_cases h1 : p.proto = 49185
  case neg =>
    obtain ⟨rfl, rfl⟩ : [] = m ∧ 8 = k := by
      rw [lputB, if_neg h1] at hm
      exact ⟨(Prod.mk.inj hm).1, (Prod.mk.inj hm).2⟩
    obtain rfl : 0 = n := hn
    have j1 : ((p.proto : Int) != 49185) = true := by rw [bne_iff_ne]; omega
    clear hm h1
    go_enter Tryz.func106, Tryz.ntmps106
    go_wp2_with fail
    go_ret2
    exact ⟨none, 0, rfl, Rd.nil, Nat.le_refl _, C.out.bel⟩
  have j1 : ((p.proto : Int) != 49185) = false := by simp; omega
  cases hr : nothL (restL p)
  · obtain ⟨rfl, rfl⟩ : [] = m ∧ 9 = k := by
      rw [lputB, if_pos h1, hr] at hm
      exact ⟨(Prod.mk.inj hm).1, (Prod.mk.inj hm).2⟩
    obtain rfl : 0 = n := hn
    have HR := Lib.hid hr
    clear hm h1 hr
    go_enter Tryz.func106, Tryz.ntmps106
    go_wp2_with (first
      | (go_at_call 112; (with_reducible refine (lrest_any p q _ (H.out.on C.out.bel)).mono ?_); rintro e wn ⟨x, r, hx, rfl, hp, hb⟩; have HX := Lib.hid hx; have P := Lib.hid hp; replace C := Lib.hid (C.out.step hb); clear hx hp hb)
      | (go_at_call 111; (with_reducible refine (lnothing_any x r _ P.out _ (HX.out ▸ HR.out)).mono ?_); rintro e wn ⟨rfl, hb⟩; replace C := Lib.hid (C.out.step hb); clear hb P))
    go_ret2
    exact ⟨none, 0, rfl, Rd.nil, Nat.le_refl _, C.out.bel⟩
  obtain ⟨m2, k2, hw⟩ : ∃ m2 k2, wrL p = (m2, k2) := ⟨_, _, rfl⟩
  obtain ⟨n2, hn2⟩ : ∃ n2, Hid (m2.length = n2) := ⟨_, Lib.hid rfl⟩
  rw [lputB, if_pos h1, if_pos hr, hw] at hm
  dsimp only at hm
  have HR := Lib.hid hr
  have HW := Lib.hid hw
  clear h1 hr hw
  by_cases h2 : k2 = 0
  case neg =>
    obtain ⟨rfl, rfl⟩ : [] = m ∧ k2 = k := by
      rw [if_neg h2] at hm
      exact ⟨(Prod.mk.inj hm).1, (Prod.mk.inj hm).2⟩
    obtain rfl : 0 = n := hn
    have j2 : ((k2 : Int) != 0) = true := by rw [bne_iff_ne]; omega
    clear hm h2
    go_enter Tryz.func106, Tryz.ntmps106
    go_wp2_with (first
      | (go_at_call 112; (with_reducible refine (lrest_any p q _ (H.out.on C.out.bel)).mono ?_); rintro e wn ⟨x, r, hx, rfl, hp, hb⟩; have HX := Lib.hid hx; have P := Lib.hid hp; replace C := Lib.hid (C.out.step hb); clear hx hp hb)
      | (go_at_call 111; (with_reducible refine (lnothing_any x r _ P.out _ (HX.out ▸ HR.out)).mono ?_); rintro e wn ⟨rfl, hb⟩; replace C := Lib.hid (C.out.step hb); clear hb P; obtain ⟨x0, x1, x2, x3, x4, x5, x6, x7, x8, x9⟩ := C.out.cf.all)
      | (go_at_call 113; (with_reducible refine (lwr_any p q _ (H.out.on C.out.bel) HK.out HS.out m2 k2 HW.out n2 hn2.out).mono ?_); rintro e wn ⟨A3, c3, rfl, h3, h3c, hb⟩; replace C := Lib.hid (C.out.step hb); clear h3 h3c hb x0 x1 x2 x3 x4 x5 x6 x7 x8 x9))
    go_ret2
    exact ⟨none, 0, rfl, Rd.nil, Nat.le_refl _, C.out.bel⟩
  subst h2
  rw [if_pos rfl] at hm
  have HM := Lib.hid (Prod.mk.inj hm).1
  have HE := Lib.hid (Prod.mk.inj hm).2
  have HN := Lib.hid hn
  clear hm hn
  go_enter Tryz.func106, Tryz.ntmps106
  go_wp2_with (first
    | (go_at_call 112; (with_reducible refine (lrest_any p q _ (H.out.on C.out.bel)).mono ?_); rintro e wn ⟨x, r, hx, rfl, hp, hb⟩; have HX := Lib.hid hx; have P := Lib.hid hp; replace C := Lib.hid (C.out.step hb); clear hx hp hb)
    | (go_at_call 111; (with_reducible refine (lnothing_any x r _ P.out _ (HX.out ▸ HR.out)).mono ?_); rintro e wn ⟨rfl, hb⟩; replace C := Lib.hid (C.out.step hb); clear hb P; obtain ⟨x0, x1, x2, x3, x4, x5, x6, x7, x8, x9⟩ := C.out.cf.all)
    | (go_at_call 113; (with_reducible refine (lwr_any p q _ (H.out.on C.out.bel) HK.out HS.out m2 _ HW.out n2 hn2.out).mono ?_); rintro e wn ⟨A3, c3, rfl, h3, h3c, hb⟩; replace C := Lib.hid (C.out.step hb); have X := Lib.hid h3; clear h3 h3c hb x0 x1 x2 x3 x4 x5 x6 x7 x8 x9; obtain ⟨x0, x1, x2, x3, x4, x5, x6, x7, x8, x9⟩ := C.out.cf.all)
    | (go_at_call 114; (with_reducible refine (cput_v p.code p.id m2 _ HE.out m HM.out n HN.out n2 c3 A3 _ X.out hn2.out).mono ?_); rintro e wn ⟨A4, c4, rfl, h4, h4c, hb⟩; replace C := Lib.hid (C.out.step hb); clear X; have X := Lib.hid h4; have K := Lib.hid h4c; clear h4 h4c hb))
  go_ret2
  exact ⟨_, _, rfl, X.out, K.out, C.out.bel⟩

theorem lput_ex (w : World) : Calls Tryz.prog 106 #[.agg #[.int .u16 49185, .int .u8 9, .int .u8 0, .slice none 0 0, .int .u16 0, .int .u32 1, .slice none 0 0, .slice none 0 0, .slice none 0 0, .slice none 0 0]] w fun e w' => ∃ A c, e = .returned (.tuple #[.slice A 8 c, .int .i64 0]) ∧ Rd w' w'.heap.size A [9, 0, 0, 8, 0, 0, 0, 1] ∧ 8 ≤ c ∧ Below w.heap.size w w' :=
  lput_any ⟨49185, 9, 0, [], 0, 1, [], [], [], []⟩ pl0 w ⟨rfl, Rws.nilO, rfl, Rd.nil, rfl, Rd.nil, rfl, Rd.nil, rfl, Rws.nil, Nat.le_refl _, Nat.le_refl _, Nat.le_refl _⟩
    ⟨by decide, by decide, by decide, (fun _ h => by cases h), by decide, by decide, By.nil, By.nil, By.nil, (fun _ h => by cases h)⟩
    ⟨by decide, by decide, by decide, by decide, by decide, by decide⟩ [9, 0, 0, 8, 0, 0, 0, 1] 0 (by decide) 8 rfl

end Go.Proofs.YtmhjnghomihjlaaGreat
