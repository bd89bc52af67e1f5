
/-
  The walk of the statement FrameBack. Conditions: the tables hold what the start-up lays ('Tabs'); numbers that Go's types have.
-/
import Derived.Test.YtkakkligndejaaaDoorFrq
import Derived.Test.YtkakkligndejaaaDoorFrw
namespace Go.Proofs.YtkakkligndejaaaDoor
open Go.RowKit

theorem TwoC.of1 {w0 : World} (w2 : World) (t : TypeId) (x0 x1 : Cf) (g : Nat) (hg : w2.heap.size = g) (hb : Below w0.heap.size w0 w2) : TwoC w0 (w2.alloc (.cells #[.bool x0.sync, .bool x0.wide, .bool x0.acfc, .bool x0.pfc, .int .u32 (x0.send : Int), .int .u32 (x0.recv : Int), .int .i64 x0.mru, .bool x1.sync, .bool x1.wide, .bool x1.acfc, .bool x1.pfc, .int .u32 (x1.send : Int), .int .u32 (x1.recv : Int), .int .i64 x1.mru] t)) g x0 x1 := by
  subst hg
  have e : ∀ j, (w2.alloc (.cells #[.bool x0.sync, .bool x0.wide, .bool x0.acfc, .bool x0.pfc, .int .u32 (x0.send : Int), .int .u32 (x0.recv : Int), .int .i64 x0.mru, .bool x1.sync, .bool x1.wide, .bool x1.acfc, .bool x1.pfc, .int .u32 (x1.send : Int), .int .u32 (x1.recv : Int), .int .i64 x1.mru] t)).cell? ⟨w2.heap.size, j, none⟩ = (#[.bool x0.sync, .bool x0.wide, .bool x0.acfc, .bool x0.pfc, .int .u32 (x0.send : Int), .int .u32 (x0.recv : Int), .int .i64 x0.mru, .bool x1.sync, .bool x1.wide, .bool x1.acfc, .bool x1.pfc, .int .u32 (x1.send : Int), .int .u32 (x1.recv : Int), .int .i64 x1.mru] : Array Value)[j]? := fun j => by
    rw [World.cell?_alloc_at _ _ _ _ rfl]
  refine ⟨?_, ?_, by simp, hb.alloc hb.size _⟩
  all_goals refine ⟨?_, ?_, ?_, ?_, ?_, ?_, ?_⟩
  all_goals (rw [e]; rfl)

theorem cf_ne {c d : Cf} (h : c ≠ d) : c.sync ≠ d.sync ∨ c.wide ≠ d.wide ∨ c.acfc ≠ d.acfc ∨ c.pfc ≠ d.pfc ∨ c.send ≠ d.send ∨ c.recv ≠ d.recv ∨ c.mru ≠ d.mru := by
  by_cases h0 : c.sync = d.sync
  case neg => exact .inl h0
  by_cases h1 : c.wide = d.wide
  case neg => exact .inr (.inl h1)
  by_cases h2 : c.acfc = d.acfc
  case neg => exact .inr (.inr (.inl h2))
  by_cases h3 : c.pfc = d.pfc
  case neg => exact .inr (.inr (.inr (.inl h3)))
  by_cases h4 : c.send = d.send
  case neg => exact .inr (.inr (.inr (.inr (.inl h4))))
  by_cases h5 : c.recv = d.recv
  case neg => exact .inr (.inr (.inr (.inr (.inr (.inl h5)))))
  by_cases h6 : c.mru = d.mru
  case neg => exact .inr (.inr (.inr (.inr (.inr (.inr h6)))))
  refine absurd ?_ h
  cases c
  cases d
  simp_all
/-- The first two. -/
structure Duo (w0 W : World) (b1 b2 : Nat) (c d : Cf) : Prop where
  a : Bx W b1 24 c
  b : Bx W b2 24 d
  bel : Below w0.heap.size w0 W
theorem Duo.step {w0 W W' : World} {b1 b2 : Nat} {c d : Cf} (h : Duo w0 W b1 b2 c d) (hb : Below W.heap.size W W') : Duo w0 W' b1 b2 c d := ⟨h.a.below hb, h.b.below hb, h.bel.trans (hb.mono h.bel.size)⟩
theorem Duo.start (w : World) (c d : Cf) : Duo w ((w.alloc (c.obj 24)).alloc (d.obj 24)) w.heap.size (w.heap.size + 1) c d := ⟨heap_alloc2_old _ _ _, heap_alloc2_new _ _ _, below_two _ _ _⟩

set_option maxHeartbeats 1000000 in
theorem fback_early (c d : Cf) (p : Int) (A : Option Addr) (n cp : Nat) (w : World) (hT : Tabs w) (h : c.may → d.may → 400 < n) :
    Calls Tryd.prog 4 #[c.val, d.val, .int .u16 p, .slice A n cp] w fun e w' => e = .returned (.bool true) ∧ Below w.heap.size w w' := by
  have C0 := Lib.hid (Duo.start w c d)
  have HT := Lib.hid hT
  clear hT
  have HS := fun (W : World) (hB : Below w.heap.size w W) => speaks11_any W (HT.out.below hB)
  have key : (¬ c.may) ∨ (c.may ∧ ¬ d.may) ∨ (c.may ∧ d.may ∧ (400 : Int) < (n : Int)) := by
    by_cases h1 : c.may
    · by_cases h2 : d.may
      · exact .inr (.inr ⟨h1, h2, by have := h h1 h2; omega⟩)
      · exact .inr (.inl ⟨h1, h2⟩)
    · exact .inl h1
  clear h
  obtain ⟨b2, hb2'⟩ : ∃ b, Hid (w.heap.size + 1 = b) := ⟨_, Lib.hid rfl⟩
  rw [hb2'.out] at C0
  rcases key with hc | ⟨hc, hd⟩ | ⟨hc, hd, h2⟩
  case inl =>
    have HZ := Lib.hid (chk_not hc)
    go_enter Tryd.func4, Tryd.ntmps4
    go_wp2_with fail
    rw [hb2'.out]
    refine (HS _ C0.out.bel).mono ?_
    rintro e w1 ⟨rfl, hb1⟩
    have C1 := Lib.hid (C0.out.step hb1)
    obtain ⟨x0, x1, x2, x3, x4, x5, x6⟩ := C1.out.a.all
    clear hb1
    go_wp2_with fail
    refine (rcheck_any c _).mono ?_
    rintro e w2 ⟨rfl, hb2⟩
    rw [HZ.out]
    have C2 := Lib.hid (C1.out.step hb2)
    clear hb2
    go_wp2_with fail
    refine (HS _ C2.out.bel).mono ?_
    rintro e w3 ⟨rfl, hb3⟩
    go_wp2_with fail
    go_ret
    exact ⟨rfl, (C2.out.step hb3).bel⟩
  all_goals
    have HZ := Lib.hid (chk_may hc)
    first | have HY := Lib.hid (chk_not hd) | have HY := Lib.hid (chk_may hd)
    go_enter Tryd.func4, Tryd.ntmps4
    go_wp2_with fail
    rw [hb2'.out]
    refine (HS _ C0.out.bel).mono ?_
    rintro e w1 ⟨rfl, hb1⟩
    have C1 := Lib.hid (C0.out.step hb1)
    obtain ⟨x0, x1, x2, x3, x4, x5, x6⟩ := C1.out.a.all
    clear hb1
    go_wp2_with fail
    refine (rcheck_any c _).mono ?_
    rintro e w2 ⟨rfl, hb2⟩
    rw [HZ.out]
    have C2 := Lib.hid (C1.out.step hb2)
    obtain ⟨y0, y1, y2, y3, y4, y5, y6⟩ := C2.out.b.all
    clear hb2 x0 x1 x2 x3 x4 x5 x6
    go_wp2_with fail
    refine (rcheck_any d _).mono ?_
    rintro e w4 ⟨rfl, hb4⟩
    rw [HY.out]
    have C4 := Lib.hid (C2.out.step hb4)
    clear hb4 y0 y1 y2 y3 y4 y5 y6
    go_wp2_with fail
    refine (HS _ C4.out.bel).mono ?_
    rintro e w3 ⟨rfl, hb3⟩
    go_wp2_with fail
    go_ret
    exact ⟨rfl, (C4.out.step hb3).bel⟩

set_option maxHeartbeats 40000000 in
theorem fback_walk (c d : Cf) (hck : c.ok) (hdk : d.ok) (hc : c.may) (hd : d.may) (p : Nat) (hp : p < 65536) (l : List Nat) (A : Option Addr) (n cp : Nat) (w : World) (hT : Tabs w)
    (hl : l.length = n) (hb : By l) (h : Rd w w.heap.size A l) (h4 : n ≤ 400) :
    Calls Tryd.prog 4 #[c.val, d.val, .int .u16 (p : Int), .slice A n cp] w fun e w' => e = .returned (.bool true) ∧ Below w.heap.size w w' := by
  have C0 := Lib.hid (Duo.start w c d)
  have HT := Lib.hid hT
  have HS := fun (W : World) (hB : Below w.heap.size w W) => speaks11_any W (HT.out.below hB)
  have HZ := Lib.hid (chk_may hc)
  have HY := Lib.hid (chk_may hd)
  have HL := Lib.hid hl
  have HBy := Lib.hid hb
  have HR := Lib.hid h
  have h4' : ¬ (400 : Int) < (n : Int) := by omega
  clear hl hb h hT
  obtain ⟨b2, hb2'⟩ : ∃ b, Hid (w.heap.size + 1 = b) := ⟨_, Lib.hid rfl⟩
  rw [hb2'.out] at C0
  go_enter Tryd.func4, Tryd.ntmps4
  go_wp2_with fail
  rw [hb2'.out]
  refine (HS _ C0.out.bel).mono ?_
  rintro e w1 ⟨rfl, hb1⟩
  have C1 := Lib.hid (C0.out.step hb1)
  obtain ⟨x0, x1, x2, x3, x4, x5, x6⟩ := C1.out.a.all
  clear hb1
  go_wp2_with fail
  refine (rcheck_any c _).mono ?_
  rintro e w2 ⟨rfl, hb2⟩
  rw [HZ.out]
  have C2 := Lib.hid (C1.out.step hb2)
  obtain ⟨y0, y1, y2, y3, y4, y5, y6⟩ := C2.out.b.all
  clear hb2 x0 x1 x2 x3 x4 x5 x6
  go_wp2_with fail
  refine (rcheck_any d _).mono ?_
  rintro e w4 ⟨rfl, hb4⟩
  rw [HY.out]
  have C4 := Lib.hid (C2.out.step hb4)
  clear hb4 y0 y1 y2 y3 y4 y5 y6
  obtain ⟨x0, x1, x2, x3, x4, x5, x6⟩ := C4.out.a.all
  obtain ⟨y0, y1, y2, y3, y4, y5, y6⟩ := C4.out.b.all
  have n0 := C4.out.a.lt
  have n1 := C4.out.b.lt
  have n2 : w.heap.size < w4.heap.size + 1 := by omega
  have n3 : b2 < w4.heap.size + 1 := by omega
  go_wp2_with fail
  go_region
  all_goals
    clear x0 x1 x2 x3 x4 x5 x6 y0 y1 y2 y3 y4 y5 y6 n0 n1 n2 n3
    first
      | (obtain ⟨p6, hp6⟩ : ∃ p, Hid (w4.heap.size + 1 = p) := ⟨_, Lib.hid rfl⟩
         obtain ⟨p5, hp5⟩ : ∃ p, Hid (w4.heap.size = p) := ⟨_, Lib.hid rfl⟩
         rw [hp6.out, hp5.out]
         refine at_world (fun W => Hid (Cur w W w.heap.size b2 p5 p6 c d)) (Lib.hid (Cur.new1 C4.out.a C4.out.b C4.out.bel hp5.out hp6.out)) ?_
         clear C4 hp5 hp6
         intro w5 C)
      | (obtain ⟨p5, hp5⟩ : ∃ p, Hid (w4.heap.size + 1 = p) := ⟨_, Lib.hid rfl⟩
         obtain ⟨p6, hp6⟩ : ∃ p, Hid (w4.heap.size = p) := ⟨_, Lib.hid rfl⟩
         rw [hp5.out, hp6.out]
         refine at_world (fun W => Hid (Cur w W w.heap.size b2 p5 p6 c d)) (Lib.hid (Cur.new2 C4.out.a C4.out.b C4.out.bel hp6.out hp5.out)) ?_
         clear C4 hp5 hp6
         intro w5 C)
  all_goals
    obtain ⟨x0, x1, x2, x3, x4, x5, x6⟩ := C.out.a2.all
    go_wp2_with fail
    clear x0 x1 x2 x3 x4 x5 x6
    by_cases hok : rightB p = true ∧ (n : Int) ≤ c.mru
    case pos =>
      have hfl := frameB_len c p l
      have hpl := hputB_len c p
      have HZ4 := Lib.hid (size_pos c.wide)
      have HFb := Lib.hid (frameB_by c hp HBy.out)
      obtain ⟨N, hN⟩ : ∃ N, Hid ((frameB c p l).length = N) := ⟨_, Lib.hid rfl⟩
      have hN1 : 3 ≤ N ∧ N ≤ 408 := by rw [← hN.out]; have := HL.out; have := HZ4.out; omega
      have HNs := Lib.hid (show sizeW c.wide < N ∧ (N : Int) ≤ mostI c by rw [← hN.out, mostI_eq]; have := HL.out; have := hok.2; omega)
      have HP1 := Lib.hid (parse_frame c c p l hok.1 rfl (fun h => h) (fun h => h) (by rw [HL.out]; exact hok.2))
      have HP2 := Lib.hid (fun hf => parse_fits c d p l hok.1 hf (by rw [HL.out]; exact hok.2))
      clear hfl hpl
      refine (build_ok c p hp l A n cp _ (HR.out.on C.out.bel) HBy.out HL.out (by omega) hok.1 hok.2 (HT.out.below C.out.bel)).mono ?_
      rintro e w6 ⟨A6, c6, k6, rfl, hN6⟩
      obtain rfl : k6 = N := hN6.1.symm.trans hN.out
      have C6 := Lib.hid (C.out.step hN6.2.2.2)
      have HN6 := Lib.hid hN6
      have hcap := own_cap hN6.2.1
      clear hN6
      obtain ⟨x0, x1, x2, x3, x4, x5, x6⟩ := C6.out.a2.all
      obtain ⟨y0, y1, y2, y3, y4, y5, y6⟩ := C6.out.b2.all
      go_wp2_with fail
      clear x0 x1 x2 x3 x4 x5 x6 y0 y1 y2 y3 y4 y5 y6
      obtain ⟨g, hg⟩ : ∃ g, Hid (w6.heap.size = g) := ⟨_, Lib.hid rfl⟩
      rw [hg.out]
      refine at_world (fun W => Hid (TwoC w W g c d) ∧ Hid (Cur w W w.heap.size b2 p5 p6 c d) ∧ Hid (Rd W W.heap.size A6 (frameB c p l))) ⟨Lib.hid (TwoC.of1 w6 _ c d g hg.out C6.out.bel), Lib.hid (C6.out.step ((Below.refl _ _).alloc (Nat.le_refl _) _)), Lib.hid (HN6.out.2.2.1.on ((Below.refl _ _).alloc (Nat.le_refl _) _))⟩ ?_
      rintro W ⟨X, Q, HF⟩
      clear C C6 HN6 hg
      go_loopw [67] (fun i wr => ∃ k : Nat, k ≤ 2 ∧ i = .int .i64 k ∧ Below W.heap.size W wr) (fun i _ => 2 - (intOf i).toNat)
      case atStart => exact ⟨0, Nat.zero_le _, rfl, Below.refl _ _⟩
      case round =>
        obtain ⟨k, hk, rfl, hbel⟩ := hrel
        have hk3 : k = 0 ∨ k = 1 ∨ k = 2 := by omega
        have Y := Lib.hid (X.out.step hbel)
        have Q4 := Lib.hid (Q.out.step hbel)
        have HF4 := Lib.hid (HF.out.on hbel)
        rcases hk3 with rfl | rfl | rfl
        · have HBz := Lib.hid ((Below.refl wr.heap.size wr).alloc (Nat.le_refl _) (c.obj 29))
          by_cases hxy : c = d
          · subst hxy
            obtain ⟨q, hq⟩ : ∃ q, Hid (fitsB c c = q) := ⟨_, Lib.hid rfl⟩
            obtain ⟨u0, u1, u2, u3, u4, u5, u6⟩ := Y.out.c0
            obtain ⟨y0, y1, y2, y3, y4, y5, y6⟩ := Q4.out.b2.all
            obtain ⟨x0, x1, x2, x3, x4, x5, x6⟩ := Q4.out.a2.all
            have hglt := Y.out.lt
            have n6 := Q4.out.b2.lt
            have n5 := Q4.out.a2.lt
            go_wp2_with fail
            clear u0 u1 u2 u3 u4 u5 u6 x0 x1 x2 x3 x4 x5 x6 y0 y1 y2 y3 y4 y5 y6 hglt n5 n6
            refine (fits_any c c hck.s hck.r _).mono ?_
            rintro e w7 ⟨rfl, hb7⟩
            rw [hq.out]
            replace HBz := Lib.hid (HBz.out.trans (hb7.mono HBz.out.size))
            have HZ7 := Lib.hid (show w7.cell? ⟨wr.heap.size, 0, none⟩ = _ ∧ _ from cfull ((Bx.new wr 29 c).below hb7))
            clear hb7
            cases q
            · go_wp2_with fail
              go_roundw
              case rel => exact ⟨1, by omega, by go_num, hbel.trans (HBz.out.mono hbel.size)⟩
              case measure => simp [intOf]
            · obtain ⟨v0, v1, v2, v3, v4, v5, v6⟩ := HZ7.out
              go_wp2_with fail
              clear v0 v1 v2 v3 v4 v5 v6
              refine (parse_v c hc (frameB c p l) p l 0 HP1.out A6 k6 c6 _ (HF4.out.on HBz.out) HFb.out hN.out hcap (by omega) (HT.out.below (Q4.out.bel.trans (HBz.out.mono Q4.out.bel.size)))).mono ?_
              rintro e w8 ⟨A8, c8, k8, rfl, hl8, hr8, hb8⟩
              have HB8 := Lib.hid (HBz.out.trans (hb8.mono HBz.out.size))
              have HR8 := Lib.hid (HR.out.on (Q4.out.bel.trans (HB8.out.mono Q4.out.bel.size)))
              clear hb8 HBz
              go_wp2_with fail
              refine (equal_yes l l k8 n _ _ _ _ _ hr8 HR8.out hl8 HL.out (by have := HL.out; omega) rfl).mono ?_
              rintro e w9 ⟨rfl, hb9⟩
              have HB9 := Lib.hid (hbel.trans ((HB8.out.trans (hb9.mono HB8.out.size)).mono hbel.size))
              clear hb9 HB8 hr8
              go_wp2_with fail
              go_roundw
              case rel => exact ⟨1, by omega, by go_num, HB9.out⟩
              case measure => simp [intOf]
          · rcases cf_ne hxy with hne | hne | hne | hne | hne | hne | hne
            all_goals
              have hne2 := beq_eq_false_iff_ne.2 hne
              have hne3 := decide_eq_false hne
              first
                | have hne4 : ((c.send : Int) == (d.send : Int)) = false := by rw [beq_eq_false_iff_ne]; omega
                | have hne4 : ((c.recv : Int) == (d.recv : Int)) = false := by rw [beq_eq_false_iff_ne]; omega
                | have hne4 := hne2
              replace hne := Lib.hid hne
              have hne3 := decide_eq_false hne
              first
                | have hne4 : ((c.send : Int) == (d.send : Int)) = false := by rw [beq_eq_false_iff_ne]; omega
                | have hne4 : ((c.recv : Int) == (d.recv : Int)) = false := by rw [beq_eq_false_iff_ne]; omega
                | have hne4 := hne2
              replace hne := Lib.hid hne
              obtain ⟨u0, u1, u2, u3, u4, u5, u6⟩ := Y.out.c0
              obtain ⟨y0, y1, y2, y3, y4, y5, y6⟩ := Q4.out.b2.all
              have hglt := Y.out.lt
              have n6 := Q4.out.b2.lt
              go_wp2_with fail
              clear u0 u1 u2 u3 u4 u5 u6 y0 y1 y2 y3 y4 y5 y6 hglt n6
              refine (parse_v c hc (frameB c p l) p l 0 HP1.out A6 k6 c6 _ (HF4.out.on HBz.out) HFb.out hN.out hcap (by omega) (HT.out.below (Q4.out.bel.trans (HBz.out.mono Q4.out.bel.size)))).mono ?_
              rintro e w8 ⟨A8, c8, k8, rfl, hl8, hr8, hb8⟩
              have HB8 := Lib.hid (HBz.out.trans (hb8.mono HBz.out.size))
              have HR8 := Lib.hid (HR.out.on (Q4.out.bel.trans (HB8.out.mono Q4.out.bel.size)))
              clear hb8 HBz
              go_wp2_with fail
              refine (equal_yes l l k8 n _ _ _ _ _ hr8 HR8.out hl8 HL.out (by have := HL.out; omega) rfl).mono ?_
              rintro e w9 ⟨rfl, hb9⟩
              have HB9 := Lib.hid (hbel.trans ((HB8.out.trans (hb9.mono HB8.out.size)).mono hbel.size))
              clear hb9 HB8 hr8
              go_wp2_with fail
              go_roundw
              case rel => exact ⟨1, by omega, by go_num, HB9.out⟩
              case measure => simp [intOf]
        · have HBz := Lib.hid ((Below.refl wr.heap.size wr).alloc (Nat.le_refl _) (d.obj 29))
          obtain ⟨q, hq⟩ : ∃ q, Hid (fitsB c d = q) := ⟨_, Lib.hid rfl⟩
          obtain ⟨u0, u1, u2, u3, u4, u5, u6⟩ := Y.out.c1
          obtain ⟨y0, y1, y2, y3, y4, y5, y6⟩ := Q4.out.b2.all
          obtain ⟨x0, x1, x2, x3, x4, x5, x6⟩ := Q4.out.a2.all
          have hglt := Y.out.lt
          have n6 := Q4.out.b2.lt
          have n5 := Q4.out.a2.lt
          go_wp2_with fail
          clear u0 u1 u2 u3 u4 u5 u6 x0 x1 x2 x3 x4 x5 x6 y0 y1 y2 y3 y4 y5 y6 hglt n5 n6
          refine (fits_any c d hck.s hdk.r _).mono ?_
          rintro e w7 ⟨rfl, hb7⟩
          rw [hq.out]
          replace HBz := Lib.hid (HBz.out.trans (hb7.mono HBz.out.size))
          have HZ7 := Lib.hid (show w7.cell? ⟨wr.heap.size, 0, none⟩ = _ ∧ _ from cfull ((Bx.new wr 29 d).below hb7))
          clear hb7
          cases q
          · go_wp2_with fail
            go_roundw
            case rel => exact ⟨2, by omega, by go_num, hbel.trans (HBz.out.mono hbel.size)⟩
            case measure => simp [intOf]
          · obtain ⟨v0, v1, v2, v3, v4, v5, v6⟩ := HZ7.out
            go_wp2_with fail
            clear v0 v1 v2 v3 v4 v5 v6
            refine (parse_v d hd (frameB c p l) p l 0 (HP2.out hq.out) A6 k6 c6 _ (HF4.out.on HBz.out) HFb.out hN.out hcap (by omega) (HT.out.below (Q4.out.bel.trans (HBz.out.mono Q4.out.bel.size)))).mono ?_
            rintro e w8 ⟨A8, c8, k8, rfl, hl8, hr8, hb8⟩
            have HB8 := Lib.hid (HBz.out.trans (hb8.mono HBz.out.size))
            have HR8 := Lib.hid (HR.out.on (Q4.out.bel.trans (HB8.out.mono Q4.out.bel.size)))
            clear hb8 HBz
            go_wp2_with fail
            refine (equal_yes l l k8 n _ _ _ _ _ hr8 HR8.out hl8 HL.out (by have := HL.out; omega) rfl).mono ?_
            rintro e w9 ⟨rfl, hb9⟩
            have HB9 := Lib.hid (hbel.trans ((HB8.out.trans (hb9.mono HB8.out.size)).mono hbel.size))
            clear hb9 HB8 hr8
            go_wp2_with fail
            go_roundw
            case rel => exact ⟨2, by omega, by go_num, HB9.out⟩
            case measure => simp [intOf]
        · obtain ⟨m, hm⟩ : ∃ m, Hid (mostI c = m) := ⟨_, Lib.hid rfl⟩
          have hNm := HNs.out
          rw [hm.out] at hNm
          obtain ⟨z, hz⟩ : ∃ z, Hid (sizeW c.wide = z) := ⟨_, Lib.hid rfl⟩
          rw [hz.out] at hNm
          have hNz : (z : Int) < (k6 : Int) := by omega
          have hNy := hNm.2
          clear hNm
          obtain ⟨x0, x1, x2, x3, x4, x5, x6⟩ := Q4.out.a2.all
          go_wp2_with fail
          clear x0 x1 x2 x3 x4 x5 x6
          refine (most_any c hc _).mono ?_
          rintro e w7 ⟨rfl, hb7⟩
          rw [hm.out]
          have Q7 := Lib.hid (Q4.out.step hb7)
          clear hb7
          obtain ⟨x0, x1, x2, x3, x4, x5, x6⟩ := Q7.out.a1.all
          go_wp2_with fail
          refine (size_any c.wide _).mono ?_
          rintro e w8 ⟨rfl, rfl⟩
          rw [hz.out]
          go_wp2_with fail
          go_ret
          exact ⟨rfl, Q7.out.bel⟩
    case neg =>
      have hno : rightB p = true → c.mru < (n : Int) := fun h1 => by
        by_cases h2 : c.mru < (n : Int)
        · exact h2
        · exact absurd ⟨h1, by omega⟩ hok
      have hz0 := bErr_pos p
      obtain ⟨z, hz⟩ : ∃ z, Hid (bErr p = z) := ⟨_, Lib.hid rfl⟩
      rw [hz.out] at hz0
      have hz1 : ((z : Int) != 0) = true := by rw [bne_iff_ne]; omega
      refine (build_no c p hp A n cp _ hno).mono ?_
      rintro e w6 ⟨rfl, hb6⟩
      rw [hz.out]
      have C6 := Lib.hid (C.out.step hb6)
      clear hb6 hz0
      obtain ⟨x0, x1, x2, x3, x4, x5, x6⟩ := C6.out.a1.all
      obtain ⟨r, hr⟩ : ∃ r, Hid (rightB p = r) := ⟨_, Lib.hid rfl⟩
      cases r
      · go_wp2_with (go_at_call 16; (with_reducible refine (rright_v p false hp hr.out _).mono ?_); rintro e w' ⟨rfl, rfl⟩)
        go_ret
        exact ⟨rfl, C6.out.bel⟩
      · have hlt := hno hr.out
        go_wp2_with (go_at_call 16; (with_reducible refine (rright_v p true hp hr.out _).mono ?_); rintro e w' ⟨rfl, rfl⟩)
        go_ret
        exact ⟨rfl, C6.out.bel⟩

end Go.Proofs.YtkakkligndejaaaDoor
