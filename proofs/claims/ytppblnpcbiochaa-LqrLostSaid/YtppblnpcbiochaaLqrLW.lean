
/-
  LqrLost's walk. No condition.
-/
import Derived.Test.YtppblnpcbiochaaLqrA
import Derived.Deep.CutRange
import Derived.Deep.RegionHeld3
namespace Go.Proofs.Ytppblnpcbiochaa
open Go.RowKit
set_option linter.unusedVariables false

/-- What LqrLost knows of the world that it stands in: its three arrays. -/
structure LoC (w W : World) (a b c : List Nat) : Prop where
  bel : Below w.heap.size w W
  n1 : Nv W w.heap.size a
  n2 : Nv W (w.heap.size + 1) b
  n3 : Nv W (w.heap.size + 2) c
/-- A variable of its own holds a packet. -/
structure Vx (w W : World) (b : Nat) (p : Pk) (q : Pl) : Prop where
  gt : w.heap.size + 2 < b
  bx : Px W b 36 p q
theorem Px.putX {W : World} {b d : Nat} {t : TypeId} {p x : Pk} {q y : Pl} (h : Px W b t p q) (hne : b ≠ d) : Px (put10 W d x y) b t p q := ((((((((((h.other _ hne).other _ hne).other _ hne).other _ hne).other _ hne).other _ hne).other _ hne).other _ hne).other _ hne).other _ hne)
theorem Nv.putX {W : World} {b d : Nat} {l : List Nat} {x : Pk} {y : Pl} (h : Nv W b l) (hne : b ≠ d) : Nv (put10 W d x y) b l := ((((((((((h.other _ hne).other _ hne).other _ hne).other _ hne).other _ hne).other _ hne).other _ hne).other _ hne).other _ hne).other _ hne)
section
variable {w W X W' : World} {a b c : List Nat} {d e : Nat} {p x : Pk} {q y : Pl}
theorem LoC.step (h : LoC w W a b c) (hb : Below X.heap.size X W') (hX : Below W.heap.size W X := by first | exact Below.refl _ _ | exact (Below.refl _ _).drew) : LoC w W' a b c :=
  have hh := hX.trans (hb.mono hX.size)
  ⟨h.bel.trans (hh.mono h.bel.size), h.n1.below hh, h.n2.below hh, h.n3.below hh⟩
theorem LoC.drew (h : LoC w W a b c) : LoC w W.drew a b c := h.step (X := W) (Below.refl _ _).drew
theorem LoC.al (h : LoC w W a b c) (u : Obj) : LoC w (W.alloc u) a b c := h.step (X := W) ((Below.refl W.heap.size W).alloc (Nat.le_refl _) u)
theorem LoC.put (h : LoC w W a b c) (hd : w.heap.size + 2 < d) (x : Pk) (y : Pl) : LoC w (put10 W d x y) a b c :=
  ⟨put10_below h.bel (by omega) x y, h.n1.putX (by omega), h.n2.putX (by omega), h.n3.putX (by omega)⟩
theorem Vx.new {a b c : List Nat} (h : LoC w W a b c) : Vx w (W.alloc (obj0P 36)) W.heap.size pk0 pl0 := ⟨h.n3.lt, px0 (heap_alloc_new W _)⟩
theorem Vx.al (h : Vx w W d p q) (u : Obj) : Vx w (W.alloc u) d p q := ⟨h.gt, h.bx.below ((Below.refl W.heap.size W).alloc (Nat.le_refl _) u)⟩
theorem Vx.put (h : Vx w W d p q) (x : Pk) (y : Pl) : Vx w (put10 W d x y) d x y := ⟨h.gt, put10_px h.bx x y⟩
theorem Vx.putO (h : Vx w W d p q) (hne : d ≠ e) (x : Pk) (y : Pl) : Vx w (put10 W e x y) d p q := ⟨h.gt, h.bx.putX hne⟩
end
theorem LoC.made (w : World) (a b c : List Nat) : LoC w (((w.alloc (.cells (nvs a).toArray 52)).alloc (.cells (nvs b).toArray 52)).alloc (.cells (nvs c).toArray 52)) a b c := by
  have e1 : (w.alloc (.cells (nvs a).toArray 52)).heap.size = w.heap.size + 1 := World.size_alloc _ _
  have e2 : ((w.alloc (.cells (nvs a).toArray 52)).alloc (.cells (nvs b).toArray 52)).heap.size = w.heap.size + 2 := by rw [World.size_alloc, e1]
  have h1 : Nv (w.alloc (.cells (nvs a).toArray 52)) w.heap.size a := heap_alloc_new w _
  have h2 : Nv ((w.alloc (.cells (nvs a).toArray 52)).alloc (.cells (nvs b).toArray 52)) (w.heap.size + 1) b := by
    have := heap_alloc_new (w.alloc (.cells (nvs a).toArray 52)) (.cells (nvs b).toArray 52)
    rw [e1] at this
    exact this
  have h3 : Nv (((w.alloc (.cells (nvs a).toArray 52)).alloc (.cells (nvs b).toArray 52)).alloc (.cells (nvs c).toArray 52)) (w.heap.size + 2) c := by
    have := heap_alloc_new ((w.alloc (.cells (nvs a).toArray 52)).alloc (.cells (nvs b).toArray 52)) (.cells (nvs c).toArray 52)
    rw [e2] at this
    exact this
  have g2 := (Below.refl (w.alloc (.cells (nvs a).toArray 52)).heap.size (w.alloc (.cells (nvs a).toArray 52))).alloc (Nat.le_refl _) (.cells (nvs b).toArray 52)
  have g3 := (Below.refl ((w.alloc (.cells (nvs a).toArray 52)).alloc (.cells (nvs b).toArray 52)).heap.size ((w.alloc (.cells (nvs a).toArray 52)).alloc (.cells (nvs b).toArray 52))).alloc (Nat.le_refl _) (.cells (nvs c).toArray 52)
  exact ⟨(belowP_two w _ _).alloc (by rw [e2]; omega) _, (h1.below g2).below g3, h2.below g3, h3⟩
/-- .. and its three variables. -/
structure LoV (w W : World) (b7 b8 b9 : Nat) (a b c : List Nat) : Prop where
  lo : LoC w W a b c
  v7 : Px W b7 36 (repP a) (plA w.heap.size 12)
  v8 : Px W b8 36 (repP b) (plA (w.heap.size + 1) 12)
  v9 : Px W b9 36 (repP c) (plA (w.heap.size + 2) 12)
section
variable {w W X W' : World} {b7 b8 b9 : Nat} {a b c : List Nat}
theorem LoV.step (h : LoV w W b7 b8 b9 a b c) (hb : Below X.heap.size X W') (hX : Below W.heap.size W X := by first | exact Below.refl _ _ | exact (Below.refl _ _).drew) : LoV w W' b7 b8 b9 a b c :=
  have hh := hX.trans (hb.mono hX.size)
  ⟨h.lo.step hb hX, h.v7.below hh, h.v8.below hh, h.v9.below hh⟩
theorem LoV.drew (h : LoV w W b7 b8 b9 a b c) : LoV w W.drew b7 b8 b9 a b c := h.step (X := W) (Below.refl _ _).drew
theorem LoV.w1 (h : LoV w W b7 b8 b9 a b c) : Nv W w.heap.size a := h.lo.n1
theorem LoV.w2 (h : LoV w W b7 b8 b9 a b c) : Nv W (w.heap.size + 1) b := h.lo.n2
theorem LoV.w3 (h : LoV w W b7 b8 b9 a b c) : Nv W (w.heap.size + 2) c := h.lo.n3
end
theorem rep_all {W : World} {b m k : Nat} {t : TypeId} {l : List Nat} (h : Px W b t (repP l) (plA m k)) : W.cell? ⟨b, 0, none⟩ = some (.int .u16 49189) ∧ W.cell? ⟨b, 1, none⟩ = some (.int .u8 0) ∧ W.cell? ⟨b, 2, none⟩ = some (.int .u8 0) ∧ W.cell? ⟨b, 3, none⟩ = some (.slice none 0 0) ∧ W.cell? ⟨b, 4, none⟩ = some (.int .u16 0) ∧ W.cell? ⟨b, 5, none⟩ = some (.int .u32 0) ∧ W.cell? ⟨b, 6, none⟩ = some (.slice none 0 0) ∧ W.cell? ⟨b, 7, none⟩ = some (.slice none 0 0) ∧ W.cell? ⟨b, 8, none⟩ = some (.slice none 0 0) ∧ W.cell? ⟨b, 9, none⟩ = some (.slice (some ⟨m, 0, none⟩) k 12) := h.all
/-- Lost of two reports whose numbers are arrays'. -/
theorem lostA (a b : List Nat) (m n : Nat) (w : World) (ha : Nv w m a) (hb : Nv w n b) (ia : IsArr a) (ib : IsArr b) (l : Nat) (hl : lossB a b = l) :
    Calls Try.prog 13 #[.agg #[.int .u16 49189, .int .u8 0, .int .u8 0, .slice none 0 0, .int .u16 0, .int .u32 0, .slice none 0 0, .slice none 0 0, .slice none 0 0, .slice (some ⟨m, 0, none⟩) 12 12], .agg #[.int .u16 49189, .int .u8 0, .int .u8 0, .slice none 0 0, .int .u16 0, .int .u32 0, .slice none 0 0, .slice none 0 0, .slice none 0 0, .slice (some ⟨n, 0, none⟩) 12 12]] w fun e w' => e = .returned (.tuple #[.int .u32 (l : Int), .bool true]) ∧ Below w.heap.size w w' := by
  subst hl
  exact lost_yes (repP a) (repP b) (plA m 12) (plA n 12) w (ha.pw12 ia.1) (hb.pw12 ib.1) rfl rfl ia.2 ib.2
theorem lostB11 (a : List Nat) (m : Nat) (w : World) (ha : Nv w m a) (ia : IsArr a) :
    Calls Try.prog 13 #[.agg #[.int .u16 49189, .int .u8 0, .int .u8 0, .slice none 0 0, .int .u16 0, .int .u32 0, .slice none 0 0, .slice none 0 0, .slice none 0 0, .slice (some ⟨m, 0, none⟩) 12 12], .agg #[.int .u16 49189, .int .u8 0, .int .u8 0, .slice none 0 0, .int .u16 0, .int .u32 0, .slice none 0 0, .slice none 0 0, .slice none 0 0, .slice (some ⟨m, 0, none⟩) 11 12]] w fun e w' => e = .returned (.tuple #[.int .u32 0, .bool false]) ∧ Below w.heap.size w w' :=
  lost_no (repP a) (repP (a.take 11)) (plA m 12) (plA m 11) w (ha.pw12 ia.1) (ha.pw ia.1 11 (by omega)) (fun h => absurd h.2 (by show ¬ 11 = 12; omega))
theorem loss_add {a b c : List Nat} (ia : IsArr a) (ib : IsArr b) (ic : IsArr c) : IntKind.u32.wrap ((lossB a b : Int) + (lossB b c : Int)) = (lossB a c : Int) := by
  have g : ∀ (l : List Nat), IsArr l → ∀ k, k < 12 → l.getD k 0 < 4294967296 := fun l il k hk => by
    rw [List.getD_eq_getElem?_getD, List.getElem?_eq_getElem (by rw [il.1]; exact hk)]
    exact il.2 _ (List.getElem_mem _)
  have a2 := g a ia 2 (by omega)
  have a5 := g a ia 5 (by omega)
  have b2 := g b ib 2 (by omega)
  have b5 := g b ib 5 (by omega)
  have c2 := g c ic 2 (by omega)
  have c5 := g c ic 5 (by omega)
  rw [show IntKind.u32.wrap ((lossB a b : Int) + (lossB b c : Int)) = ((lossB a b : Int) + (lossB b c : Int)) % 4294967296 from rfl]
  unfold lossB
  omega
theorem loss_self {a : List Nat} (ia : IsArr a) : lossB a a = 0 := by
  have g : ∀ (l : List Nat), IsArr l → ∀ k, k < 12 → l.getD k 0 < 4294967296 := fun l il k hk => by
    rw [List.getD_eq_getElem?_getD, List.getElem?_eq_getElem (by rw [il.1]; exact hk)]
    exact il.2 _ (List.getElem_mem _)
  have a2 := g a ia 2 (by omega)
  have a5 := g a ia 5 (by omega)
  unfold lossB
  omega

set_option maxRecDepth 8000 in
set_option maxHeartbeats 40000000 in
theorem llost_walk (a b c : List Nat) (w : World) (ia : IsArr a) (ib : IsArr b) (ic : IsArr c) :
    Calls Try.prog 5 #[arrV a, arrV b, arrV c] w fun e w' => e = .returned (.bool true) ∧ Below w.heap.size w w' := by
  have C := Lib.hid (LoC.made w a b c)
  have Ha := Lib.hid ia
  have Hb := Lib.hid ib
  have Hc := Lib.hid ic
  have E := Lib.hid (loss_add ia ib ic)
  obtain ⟨l, hl⟩ : ∃ l, Hid (lossB a b = l) := ⟨_, Lib.hid rfl⟩
  obtain ⟨m, hm⟩ : ∃ l, Hid (lossB b c = l) := ⟨_, Lib.hid rfl⟩
  obtain ⟨n, hn⟩ : ∃ l, Hid (lossB a c = l) := ⟨_, Lib.hid rfl⟩
  have hz := Lib.hid (loss_self ia)
  rw [hl.out, hm.out, hn.out] at E
  clear ia ib ic
  go_enter Try.func5, Try.ntmps5
  go_upto_region 3 with (first
    | (go_at_call 6; (with_reducible refine (speaks19 _).mono ?_); rintro e wn ⟨rfl, hb⟩; replace C := Lib.hid (C.out.step hb); clear hb))
  go_cut [7, 8, 9] from 22 to 28 (fun s7 s8 s9 wx => ∃ b7 b8 b9, s7 = .pointer (some ⟨b7, 0, none⟩) ∧ s8 = .pointer (some ⟨b8, 0, none⟩) ∧ s9 = .pointer (some ⟨b9, 0, none⟩) ∧ Hid (LoC w wx a b c) ∧ Hid (Vx w wx b7 (repP a) (plA w.heap.size 12)) ∧ Hid (Vx w wx b8 (repP b) (plA (w.heap.size + 1) 12)) ∧ Hid (Vx w wx b9 (repP c) (plA (w.heap.size + 2) 12)))
  case first =>
    refine wp_region_held_drew (S := (fun _ => True)) (by kernel_rfl) trivial (fun _ => ?_)
    refine at_worldP (fun W => Hid (LoC w W a b c)) (Lib.hid C.out.drew) ?_
    clear C
    rintro W C
    refine wpAnyH_take (i := 0) (oi := ?ok1) (v := ?vk1) ?hik1 (by kernel_rfl) (by kernel_rfl) (by kernel_rfl) ?hqk1 (Or.inl ⟨?hwk1, ?hyk1⟩) (by trivial) ?restk1
    case hik1 => (simp only [List.getElem?_toArray, List.getElem?_cons_zero]; rfl)
    case hwk1 => (rfl)
    case hqk1 => (exact fun _ _ _ h => h)
    case hyk1 => (intro w hSw; (try dsimp only at hSw); go_simp; (try with_reducible rfl))
    try simp only [Act.put, List.setIfInBounds_toArray, List.set_cons_zero, List.set_cons_succ]
    refine wpAnyH_take (i := 1) (oi := ?ok2) (v := ?vk2) ?hik2 (by kernel_rfl) (by kernel_rfl) (by kernel_rfl) ?hqk2 (Or.inl ⟨?hwk2, ?hyk2⟩) (by trivial) ?restk2
    case hik2 => (simp only [List.getElem?_toArray, List.getElem?_cons_succ, List.getElem?_cons_zero]; rfl)
    case hwk2 => (rfl)
    case hqk2 => (exact fun _ _ _ h => h)
    case hyk2 => (intro w hSw; (try dsimp only at hSw); go_simp; (try with_reducible rfl))
    try simp only [Act.put, List.setIfInBounds_toArray, List.set_cons_zero, List.set_cons_succ]
    refine wpAnyH_take (i := 2) (oi := ?ok3) (v := ?vk3) ?hik3 (by kernel_rfl) (by kernel_rfl) (by kernel_rfl) ?hqk3 (Or.inl ⟨?hwk3, ?hyk3⟩) (by trivial) ?restk3
    case hik3 => (simp only [List.getElem?_toArray, List.getElem?_cons_succ, List.getElem?_cons_zero]; rfl)
    case hwk3 => (rfl)
    case hqk3 => (exact fun _ _ _ h => h)
    case hyk3 => (intro w hSw; (try dsimp only at hSw); go_simp; (try with_reducible rfl))
    try simp only [Act.put, List.setIfInBounds_toArray, List.set_cons_zero, List.set_cons_succ]
    refine wpAnyH_take (i := 3) (oi := ?ok4) (v := ?vk4) ?hik4 (by kernel_rfl) (by kernel_rfl) (by kernel_rfl) ?hqk4 (Or.inl ⟨?hwk4, ?hyk4⟩) (by trivial) ?restk4
    case hik4 => (simp only [List.getElem?_toArray, List.getElem?_cons_succ, List.getElem?_cons_zero]; rfl)
    case hwk4 => (rfl)
    case hqk4 => (exact fun _ _ _ h => h)
    case hyk4 => (intro w hSw; (try dsimp only at hSw); go_simp; (try with_reducible rfl))
    try simp only [Act.put, List.setIfInBounds_toArray, List.set_cons_zero, List.set_cons_succ]
    refine wpAnyH_take (i := 4) (oi := ?ok5) (v := ?vk5) ?hik5 (by kernel_rfl) (by kernel_rfl) (by kernel_rfl) ?hqk5 (Or.inl ⟨?hwk5, ?hyk5⟩) (by trivial) ?restk5
    case hik5 => (simp only [List.getElem?_toArray, List.getElem?_cons_succ, List.getElem?_cons_zero]; rfl)
    case hwk5 => (rfl)
    case hqk5 => (exact fun _ _ _ h => h)
    case hyk5 => (intro w hSw; (try dsimp only at hSw); go_simp; (try with_reducible rfl))
    try simp only [Act.put, List.setIfInBounds_toArray, List.set_cons_zero, List.set_cons_succ]
    refine wpAnyH_take (i := 5) (oi := ?ok6) (v := ?vk6) ?hik6 (by kernel_rfl) (by kernel_rfl) (by kernel_rfl) ?hqk6 (Or.inl ⟨?hwk6, ?hyk6⟩) (by trivial) ?restk6
    case hik6 => (simp only [List.getElem?_toArray, List.getElem?_cons_succ, List.getElem?_cons_zero]; rfl)
    case hwk6 => (rfl)
    case hqk6 => (exact fun _ _ _ h => h)
    case hyk6 => (intro w hSw; (try dsimp only at hSw); go_simp; (try with_reducible rfl))
    try simp only [Act.put, List.setIfInBounds_toArray, List.set_cons_zero, List.set_cons_succ]
    refine wpAnyH_ready (rs := [6, 7, 8]) (by kernel_rfl) (by simp) ?_
    refine (AllReadyH.cons (o := ?oz9) ?hiz9 (fun K hK => ?stz9) (AllReadyH.cons (o := ?oz8) ?hiz8 (fun K hK => ?stz8) (AllReadyH.cons (o := ?oz7) ?hiz7 (fun K hK => ?stz7) AllReadyH.nil)))
    case hiz9 => (simp only [List.getElem?_toArray, List.getElem?_cons_succ, List.getElem?_cons_zero]; rfl)
    case hiz8 => (simp only [List.getElem?_toArray, List.getElem?_cons_succ, List.getElem?_cons_zero]; rfl)
    case hiz7 => (simp only [List.getElem?_toArray, List.getElem?_cons_succ, List.getElem?_cons_zero]; rfl)
    case stz9 =>
      go_simp
      refine hK.out _ _ (by trivial) (fun _ => ?_)
      clear hK K
      try simp only [Act.put, List.setIfInBounds_toArray, List.set_cons_zero, List.set_cons_succ]
      obtain ⟨b7, hbb⟩ : ∃ b, b = W.heap.size := ⟨_, rfl⟩
      rw [← hbb]
      refine at_worldP (fun W => Hid (LoC w W a b c) ∧ Hid (Vx w W b7 pk0 pl0)) ⟨Lib.hid (C.out.al (obj0P 36)), Lib.hid (show Vx w _ b7 pk0 pl0 from hbb ▸ Vx.new C.out)⟩ ?_
      clear C  hbb
      rintro W ⟨C, V7⟩
      refine wpAnyH_ready (rs := [7, 8]) (by kernel_rfl) (by simp) ?_
      refine (AllReadyH.cons (o := ?oz11) ?hiz11 (fun K hK => ?stz11) (AllReadyH.cons (o := ?oz10) ?hiz10 (fun K hK => ?stz10) AllReadyH.nil))
      case hiz11 => (simp only [List.getElem?_toArray, List.getElem?_cons_succ, List.getElem?_cons_zero]; rfl)
      case hiz10 => (simp only [List.getElem?_toArray, List.getElem?_cons_succ, List.getElem?_cons_zero]; rfl)
      case stz11 =>
        go_simp
        refine hK.out _ _ (by trivial) (fun _ => ?_)
        clear hK K
        try simp only [Act.put, List.setIfInBounds_toArray, List.set_cons_zero, List.set_cons_succ]
        obtain ⟨b8, hbb⟩ : ∃ b, b = W.heap.size := ⟨_, rfl⟩
        rw [← hbb]
        have N78 := Lib.hid (show b7 ≠ b8 from fun e => absurd V7.out.bx.lt (by rw [e, hbb]; exact Nat.lt_irrefl _))
        refine at_worldP (fun W => Hid (LoC w W a b c) ∧ Hid (Vx w W b7 pk0 pl0) ∧ Hid (Vx w W b8 pk0 pl0)) ⟨Lib.hid (C.out.al (obj0P 36)), Lib.hid (V7.out.al (obj0P 36)), Lib.hid (show Vx w _ b8 pk0 pl0 from hbb ▸ Vx.new C.out)⟩ ?_
        clear C V7 hbb
        rintro W ⟨C, V7, V8⟩
        refine wpAnyH_ready (rs := [8]) (by kernel_rfl) (by simp) ?_
        refine (AllReadyH.cons (o := ?oz12) ?hiz12 (fun K hK => ?stz12) AllReadyH.nil)
        case hiz12 => (simp only [List.getElem?_toArray, List.getElem?_cons_succ, List.getElem?_cons_zero]; rfl)
        case stz12 =>
          go_simp
          refine hK.out _ _ (by trivial) (fun _ => ?_)
          clear hK K
          try simp only [Act.put, List.setIfInBounds_toArray, List.set_cons_zero, List.set_cons_succ]
          obtain ⟨b9, hbb⟩ : ∃ b, b = W.heap.size := ⟨_, rfl⟩
          rw [← hbb]
          have N79 := Lib.hid (show b7 ≠ b9 from fun e => absurd V7.out.bx.lt (by rw [e, hbb]; exact Nat.lt_irrefl _))
          have N89 := Lib.hid (show b8 ≠ b9 from fun e => absurd V8.out.bx.lt (by rw [e, hbb]; exact Nat.lt_irrefl _))
          refine at_worldP (fun W => Hid (LoC w W a b c) ∧ Hid (Vx w W b7 pk0 pl0) ∧ Hid (Vx w W b8 pk0 pl0) ∧ Hid (Vx w W b9 pk0 pl0)) ⟨Lib.hid (C.out.al (obj0P 36)), Lib.hid (V7.out.al (obj0P 36)), Lib.hid (V8.out.al (obj0P 36)), Lib.hid (show Vx w _ b9 pk0 pl0 from hbb ▸ Vx.new C.out)⟩ ?_
          clear C V7 V8 hbb
          rintro W ⟨C, V7, V8, V9⟩
          refine wpAnyH_ready (rs := [9]) (by kernel_rfl) (by simp) ?_
          refine AllReadyH.cons (o := ?oz13) ?hiz13 (fun K hK => ?stz13) AllReadyH.nil
          case hiz13 => (simp only [List.getElem?_toArray, List.getElem?_cons_succ, List.getElem?_cons_zero]; rfl)
          obtain ⟨e0, e1, e2, e3, e4, e5, e6, e7, e8, e9⟩ := V7.out.bx.free
          obtain ⟨d0, d1, d2, d3, d4, d5, d6, d7, d8, d9⟩ := V7.out.bx.all
          go_simp
          refine hK.out _ _ (by trivial) (fun _ => ?_)
          clear hK K e0 e1 e2 e3 e4 e5 e6 e7 e8 e9 d0 d1 d2 d3 d4 d5 d6 d7 d8 d9
          try simp only [Act.put, List.setIfInBounds_toArray, List.set_cons_zero, List.set_cons_succ]
          refine at_worldP (fun W => Hid (LoC w W a b c) ∧ Hid (Vx w W b7 (repP a) (plA (w.heap.size) 12)) ∧ Hid (Vx w W b8 pk0 pl0) ∧ Hid (Vx w W b9 pk0 pl0)) ⟨Lib.hid (C.out.put V7.out.gt (repP a) (plA (w.heap.size) 12)), Lib.hid (V7.out.put (repP a) (plA (w.heap.size) 12)), Lib.hid (V8.out.putO N78.out.symm (repP a) (plA (w.heap.size) 12)), Lib.hid (V9.out.putO N79.out.symm (repP a) (plA (w.heap.size) 12))⟩ ?_
          clear C V7 V8 V9
          rintro W ⟨C, V7, V8, V9⟩
          refine wpAnyH_ready (rs := [10]) (by kernel_rfl) (by simp) ?_
          refine AllReadyH.cons (o := ?oz14) ?hiz14 (fun K hK => ?stz14) AllReadyH.nil
          case hiz14 => (simp only [List.getElem?_toArray, List.getElem?_cons_succ, List.getElem?_cons_zero]; rfl)
          obtain ⟨e0, e1, e2, e3, e4, e5, e6, e7, e8, e9⟩ := V8.out.bx.free
          obtain ⟨d0, d1, d2, d3, d4, d5, d6, d7, d8, d9⟩ := V8.out.bx.all
          go_simp
          refine hK.out _ _ (by trivial) (fun _ => ?_)
          clear hK K e0 e1 e2 e3 e4 e5 e6 e7 e8 e9 d0 d1 d2 d3 d4 d5 d6 d7 d8 d9
          try simp only [Act.put, List.setIfInBounds_toArray, List.set_cons_zero, List.set_cons_succ]
          refine at_worldP (fun W => Hid (LoC w W a b c) ∧ Hid (Vx w W b7 (repP a) (plA (w.heap.size) 12)) ∧ Hid (Vx w W b8 (repP b) (plA (w.heap.size + 1) 12)) ∧ Hid (Vx w W b9 pk0 pl0)) ⟨Lib.hid (C.out.put V8.out.gt (repP b) (plA (w.heap.size + 1) 12)), Lib.hid (V7.out.putO N78.out (repP b) (plA (w.heap.size + 1) 12)), Lib.hid (V8.out.put (repP b) (plA (w.heap.size + 1) 12)), Lib.hid (V9.out.putO N89.out.symm (repP b) (plA (w.heap.size + 1) 12))⟩ ?_
          clear C V7 V8 V9
          rintro W ⟨C, V7, V8, V9⟩
          refine wpAnyH_ready (rs := [11]) (by kernel_rfl) (by simp) ?_
          refine AllReadyH.cons (o := ?oz15) ?hiz15 (fun K hK => ?stz15) AllReadyH.nil
          case hiz15 => (simp only [List.getElem?_toArray, List.getElem?_cons_succ, List.getElem?_cons_zero]; rfl)
          obtain ⟨e0, e1, e2, e3, e4, e5, e6, e7, e8, e9⟩ := V9.out.bx.free
          obtain ⟨d0, d1, d2, d3, d4, d5, d6, d7, d8, d9⟩ := V9.out.bx.all
          go_simp
          refine hK.out _ _ (by trivial) (fun _ => ?_)
          clear hK K e0 e1 e2 e3 e4 e5 e6 e7 e8 e9 d0 d1 d2 d3 d4 d5 d6 d7 d8 d9
          try simp only [Act.put, List.setIfInBounds_toArray, List.set_cons_zero, List.set_cons_succ]
          refine at_worldP (fun W => Hid (LoC w W a b c) ∧ Hid (Vx w W b7 (repP a) (plA (w.heap.size) 12)) ∧ Hid (Vx w W b8 (repP b) (plA (w.heap.size + 1) 12)) ∧ Hid (Vx w W b9 (repP c) (plA (w.heap.size + 2) 12))) ⟨Lib.hid (C.out.put V9.out.gt (repP c) (plA (w.heap.size + 2) 12)), Lib.hid (V7.out.putO N79.out (repP c) (plA (w.heap.size + 2) 12)), Lib.hid (V8.out.putO N89.out (repP c) (plA (w.heap.size + 2) 12)), Lib.hid (V9.out.put (repP c) (plA (w.heap.size + 2) 12))⟩ ?_
          clear C V7 V8 V9
          rintro W ⟨C, V7, V8, V9⟩
          refine wpAnyH_done (by kernel_rfl) ?_ _
          (try go_wp2_with fail); go_meet
          exact ⟨b7, b8, b9, rfl, rfl, rfl, C, V7, V8, V9⟩
      case stz10 =>
        go_simp
        refine hK.out _ _ (by trivial) (fun _ => ?_)
        clear hK K
        try simp only [Act.put, List.setIfInBounds_toArray, List.set_cons_zero, List.set_cons_succ]
        obtain ⟨b9, hbb⟩ : ∃ b, b = W.heap.size := ⟨_, rfl⟩
        rw [← hbb]
        have N79 := Lib.hid (show b7 ≠ b9 from fun e => absurd V7.out.bx.lt (by rw [e, hbb]; exact Nat.lt_irrefl _))
        refine at_worldP (fun W => Hid (LoC w W a b c) ∧ Hid (Vx w W b7 pk0 pl0) ∧ Hid (Vx w W b9 pk0 pl0)) ⟨Lib.hid (C.out.al (obj0P 36)), Lib.hid (V7.out.al (obj0P 36)), Lib.hid (show Vx w _ b9 pk0 pl0 from hbb ▸ Vx.new C.out)⟩ ?_
        clear C V7 hbb
        rintro W ⟨C, V7, V9⟩
        refine wpAnyH_ready (rs := [7]) (by kernel_rfl) (by simp) ?_
        refine (AllReadyH.cons (o := ?oz16) ?hiz16 (fun K hK => ?stz16) AllReadyH.nil)
        case hiz16 => (simp only [List.getElem?_toArray, List.getElem?_cons_succ, List.getElem?_cons_zero]; rfl)
        case stz16 =>
          go_simp
          refine hK.out _ _ (by trivial) (fun _ => ?_)
          clear hK K
          try simp only [Act.put, List.setIfInBounds_toArray, List.set_cons_zero, List.set_cons_succ]
          obtain ⟨b8, hbb⟩ : ∃ b, b = W.heap.size := ⟨_, rfl⟩
          rw [← hbb]
          have N78 := Lib.hid (show b7 ≠ b8 from fun e => absurd V7.out.bx.lt (by rw [e, hbb]; exact Nat.lt_irrefl _))
          have N89 := Lib.hid (show b8 ≠ b9 from fun e => absurd V9.out.bx.lt (by rw [← e, hbb]; exact Nat.lt_irrefl _))
          refine at_worldP (fun W => Hid (LoC w W a b c) ∧ Hid (Vx w W b7 pk0 pl0) ∧ Hid (Vx w W b8 pk0 pl0) ∧ Hid (Vx w W b9 pk0 pl0)) ⟨Lib.hid (C.out.al (obj0P 36)), Lib.hid (V7.out.al (obj0P 36)), Lib.hid (show Vx w _ b8 pk0 pl0 from hbb ▸ Vx.new C.out), Lib.hid (V9.out.al (obj0P 36))⟩ ?_
          clear C V7 V9 hbb
          rintro W ⟨C, V7, V8, V9⟩
          refine wpAnyH_ready (rs := [9]) (by kernel_rfl) (by simp) ?_
          refine AllReadyH.cons (o := ?oz17) ?hiz17 (fun K hK => ?stz17) AllReadyH.nil
          case hiz17 => (simp only [List.getElem?_toArray, List.getElem?_cons_succ, List.getElem?_cons_zero]; rfl)
          obtain ⟨e0, e1, e2, e3, e4, e5, e6, e7, e8, e9⟩ := V7.out.bx.free
          obtain ⟨d0, d1, d2, d3, d4, d5, d6, d7, d8, d9⟩ := V7.out.bx.all
          go_simp
          refine hK.out _ _ (by trivial) (fun _ => ?_)
          clear hK K e0 e1 e2 e3 e4 e5 e6 e7 e8 e9 d0 d1 d2 d3 d4 d5 d6 d7 d8 d9
          try simp only [Act.put, List.setIfInBounds_toArray, List.set_cons_zero, List.set_cons_succ]
          refine at_worldP (fun W => Hid (LoC w W a b c) ∧ Hid (Vx w W b7 (repP a) (plA (w.heap.size) 12)) ∧ Hid (Vx w W b8 pk0 pl0) ∧ Hid (Vx w W b9 pk0 pl0)) ⟨Lib.hid (C.out.put V7.out.gt (repP a) (plA (w.heap.size) 12)), Lib.hid (V7.out.put (repP a) (plA (w.heap.size) 12)), Lib.hid (V8.out.putO N78.out.symm (repP a) (plA (w.heap.size) 12)), Lib.hid (V9.out.putO N79.out.symm (repP a) (plA (w.heap.size) 12))⟩ ?_
          clear C V7 V8 V9
          rintro W ⟨C, V7, V8, V9⟩
          refine wpAnyH_ready (rs := [10]) (by kernel_rfl) (by simp) ?_
          refine AllReadyH.cons (o := ?oz18) ?hiz18 (fun K hK => ?stz18) AllReadyH.nil
          case hiz18 => (simp only [List.getElem?_toArray, List.getElem?_cons_succ, List.getElem?_cons_zero]; rfl)
          obtain ⟨e0, e1, e2, e3, e4, e5, e6, e7, e8, e9⟩ := V8.out.bx.free
          obtain ⟨d0, d1, d2, d3, d4, d5, d6, d7, d8, d9⟩ := V8.out.bx.all
          go_simp
          refine hK.out _ _ (by trivial) (fun _ => ?_)
          clear hK K e0 e1 e2 e3 e4 e5 e6 e7 e8 e9 d0 d1 d2 d3 d4 d5 d6 d7 d8 d9
          try simp only [Act.put, List.setIfInBounds_toArray, List.set_cons_zero, List.set_cons_succ]
          refine at_worldP (fun W => Hid (LoC w W a b c) ∧ Hid (Vx w W b7 (repP a) (plA (w.heap.size) 12)) ∧ Hid (Vx w W b8 (repP b) (plA (w.heap.size + 1) 12)) ∧ Hid (Vx w W b9 pk0 pl0)) ⟨Lib.hid (C.out.put V8.out.gt (repP b) (plA (w.heap.size + 1) 12)), Lib.hid (V7.out.putO N78.out (repP b) (plA (w.heap.size + 1) 12)), Lib.hid (V8.out.put (repP b) (plA (w.heap.size + 1) 12)), Lib.hid (V9.out.putO N89.out.symm (repP b) (plA (w.heap.size + 1) 12))⟩ ?_
          clear C V7 V8 V9
          rintro W ⟨C, V7, V8, V9⟩
          refine wpAnyH_ready (rs := [11]) (by kernel_rfl) (by simp) ?_
          refine AllReadyH.cons (o := ?oz19) ?hiz19 (fun K hK => ?stz19) AllReadyH.nil
          case hiz19 => (simp only [List.getElem?_toArray, List.getElem?_cons_succ, List.getElem?_cons_zero]; rfl)
          obtain ⟨e0, e1, e2, e3, e4, e5, e6, e7, e8, e9⟩ := V9.out.bx.free
          obtain ⟨d0, d1, d2, d3, d4, d5, d6, d7, d8, d9⟩ := V9.out.bx.all
          go_simp
          refine hK.out _ _ (by trivial) (fun _ => ?_)
          clear hK K e0 e1 e2 e3 e4 e5 e6 e7 e8 e9 d0 d1 d2 d3 d4 d5 d6 d7 d8 d9
          try simp only [Act.put, List.setIfInBounds_toArray, List.set_cons_zero, List.set_cons_succ]
          refine at_worldP (fun W => Hid (LoC w W a b c) ∧ Hid (Vx w W b7 (repP a) (plA (w.heap.size) 12)) ∧ Hid (Vx w W b8 (repP b) (plA (w.heap.size + 1) 12)) ∧ Hid (Vx w W b9 (repP c) (plA (w.heap.size + 2) 12))) ⟨Lib.hid (C.out.put V9.out.gt (repP c) (plA (w.heap.size + 2) 12)), Lib.hid (V7.out.putO N79.out (repP c) (plA (w.heap.size + 2) 12)), Lib.hid (V8.out.putO N89.out (repP c) (plA (w.heap.size + 2) 12)), Lib.hid (V9.out.put (repP c) (plA (w.heap.size + 2) 12))⟩ ?_
          clear C V7 V8 V9
          rintro W ⟨C, V7, V8, V9⟩
          refine wpAnyH_done (by kernel_rfl) ?_ _
          (try go_wp2_with fail); go_meet
          exact ⟨b7, b8, b9, rfl, rfl, rfl, C, V7, V8, V9⟩
    case stz8 =>
      go_simp
      refine hK.out _ _ (by trivial) (fun _ => ?_)
      clear hK K
      try simp only [Act.put, List.setIfInBounds_toArray, List.set_cons_zero, List.set_cons_succ]
      obtain ⟨b8, hbb⟩ : ∃ b, b = W.heap.size := ⟨_, rfl⟩
      rw [← hbb]
      refine at_worldP (fun W => Hid (LoC w W a b c) ∧ Hid (Vx w W b8 pk0 pl0)) ⟨Lib.hid (C.out.al (obj0P 36)), Lib.hid (show Vx w _ b8 pk0 pl0 from hbb ▸ Vx.new C.out)⟩ ?_
      clear C  hbb
      rintro W ⟨C, V8⟩
      refine wpAnyH_ready (rs := [6, 8]) (by kernel_rfl) (by simp) ?_
      refine (AllReadyH.cons (o := ?oz21) ?hiz21 (fun K hK => ?stz21) (AllReadyH.cons (o := ?oz20) ?hiz20 (fun K hK => ?stz20) AllReadyH.nil))
      case hiz21 => (simp only [List.getElem?_toArray, List.getElem?_cons_succ, List.getElem?_cons_zero]; rfl)
      case hiz20 => (simp only [List.getElem?_toArray, List.getElem?_cons_succ, List.getElem?_cons_zero]; rfl)
      case stz21 =>
        go_simp
        refine hK.out _ _ (by trivial) (fun _ => ?_)
        clear hK K
        try simp only [Act.put, List.setIfInBounds_toArray, List.set_cons_zero, List.set_cons_succ]
        obtain ⟨b7, hbb⟩ : ∃ b, b = W.heap.size := ⟨_, rfl⟩
        rw [← hbb]
        have N78 := Lib.hid (show b7 ≠ b8 from fun e => absurd V8.out.bx.lt (by rw [← e, hbb]; exact Nat.lt_irrefl _))
        refine at_worldP (fun W => Hid (LoC w W a b c) ∧ Hid (Vx w W b7 pk0 pl0) ∧ Hid (Vx w W b8 pk0 pl0)) ⟨Lib.hid (C.out.al (obj0P 36)), Lib.hid (show Vx w _ b7 pk0 pl0 from hbb ▸ Vx.new C.out), Lib.hid (V8.out.al (obj0P 36))⟩ ?_
        clear C V8 hbb
        rintro W ⟨C, V7, V8⟩
        refine wpAnyH_ready (rs := [8]) (by kernel_rfl) (by simp) ?_
        refine (AllReadyH.cons (o := ?oz22) ?hiz22 (fun K hK => ?stz22) AllReadyH.nil)
        case hiz22 => (simp only [List.getElem?_toArray, List.getElem?_cons_succ, List.getElem?_cons_zero]; rfl)
        case stz22 =>
          go_simp
          refine hK.out _ _ (by trivial) (fun _ => ?_)
          clear hK K
          try simp only [Act.put, List.setIfInBounds_toArray, List.set_cons_zero, List.set_cons_succ]
          obtain ⟨b9, hbb⟩ : ∃ b, b = W.heap.size := ⟨_, rfl⟩
          rw [← hbb]
          have N79 := Lib.hid (show b7 ≠ b9 from fun e => absurd V7.out.bx.lt (by rw [e, hbb]; exact Nat.lt_irrefl _))
          have N89 := Lib.hid (show b8 ≠ b9 from fun e => absurd V8.out.bx.lt (by rw [e, hbb]; exact Nat.lt_irrefl _))
          refine at_worldP (fun W => Hid (LoC w W a b c) ∧ Hid (Vx w W b7 pk0 pl0) ∧ Hid (Vx w W b8 pk0 pl0) ∧ Hid (Vx w W b9 pk0 pl0)) ⟨Lib.hid (C.out.al (obj0P 36)), Lib.hid (V7.out.al (obj0P 36)), Lib.hid (V8.out.al (obj0P 36)), Lib.hid (show Vx w _ b9 pk0 pl0 from hbb ▸ Vx.new C.out)⟩ ?_
          clear C V7 V8 hbb
          rintro W ⟨C, V7, V8, V9⟩
          refine wpAnyH_ready (rs := [9]) (by kernel_rfl) (by simp) ?_
          refine AllReadyH.cons (o := ?oz23) ?hiz23 (fun K hK => ?stz23) AllReadyH.nil
          case hiz23 => (simp only [List.getElem?_toArray, List.getElem?_cons_succ, List.getElem?_cons_zero]; rfl)
          obtain ⟨e0, e1, e2, e3, e4, e5, e6, e7, e8, e9⟩ := V7.out.bx.free
          obtain ⟨d0, d1, d2, d3, d4, d5, d6, d7, d8, d9⟩ := V7.out.bx.all
          go_simp
          refine hK.out _ _ (by trivial) (fun _ => ?_)
          clear hK K e0 e1 e2 e3 e4 e5 e6 e7 e8 e9 d0 d1 d2 d3 d4 d5 d6 d7 d8 d9
          try simp only [Act.put, List.setIfInBounds_toArray, List.set_cons_zero, List.set_cons_succ]
          refine at_worldP (fun W => Hid (LoC w W a b c) ∧ Hid (Vx w W b7 (repP a) (plA (w.heap.size) 12)) ∧ Hid (Vx w W b8 pk0 pl0) ∧ Hid (Vx w W b9 pk0 pl0)) ⟨Lib.hid (C.out.put V7.out.gt (repP a) (plA (w.heap.size) 12)), Lib.hid (V7.out.put (repP a) (plA (w.heap.size) 12)), Lib.hid (V8.out.putO N78.out.symm (repP a) (plA (w.heap.size) 12)), Lib.hid (V9.out.putO N79.out.symm (repP a) (plA (w.heap.size) 12))⟩ ?_
          clear C V7 V8 V9
          rintro W ⟨C, V7, V8, V9⟩
          refine wpAnyH_ready (rs := [10]) (by kernel_rfl) (by simp) ?_
          refine AllReadyH.cons (o := ?oz24) ?hiz24 (fun K hK => ?stz24) AllReadyH.nil
          case hiz24 => (simp only [List.getElem?_toArray, List.getElem?_cons_succ, List.getElem?_cons_zero]; rfl)
          obtain ⟨e0, e1, e2, e3, e4, e5, e6, e7, e8, e9⟩ := V8.out.bx.free
          obtain ⟨d0, d1, d2, d3, d4, d5, d6, d7, d8, d9⟩ := V8.out.bx.all
          go_simp
          refine hK.out _ _ (by trivial) (fun _ => ?_)
          clear hK K e0 e1 e2 e3 e4 e5 e6 e7 e8 e9 d0 d1 d2 d3 d4 d5 d6 d7 d8 d9
          try simp only [Act.put, List.setIfInBounds_toArray, List.set_cons_zero, List.set_cons_succ]
          refine at_worldP (fun W => Hid (LoC w W a b c) ∧ Hid (Vx w W b7 (repP a) (plA (w.heap.size) 12)) ∧ Hid (Vx w W b8 (repP b) (plA (w.heap.size + 1) 12)) ∧ Hid (Vx w W b9 pk0 pl0)) ⟨Lib.hid (C.out.put V8.out.gt (repP b) (plA (w.heap.size + 1) 12)), Lib.hid (V7.out.putO N78.out (repP b) (plA (w.heap.size + 1) 12)), Lib.hid (V8.out.put (repP b) (plA (w.heap.size + 1) 12)), Lib.hid (V9.out.putO N89.out.symm (repP b) (plA (w.heap.size + 1) 12))⟩ ?_
          clear C V7 V8 V9
          rintro W ⟨C, V7, V8, V9⟩
          refine wpAnyH_ready (rs := [11]) (by kernel_rfl) (by simp) ?_
          refine AllReadyH.cons (o := ?oz25) ?hiz25 (fun K hK => ?stz25) AllReadyH.nil
          case hiz25 => (simp only [List.getElem?_toArray, List.getElem?_cons_succ, List.getElem?_cons_zero]; rfl)
          obtain ⟨e0, e1, e2, e3, e4, e5, e6, e7, e8, e9⟩ := V9.out.bx.free
          obtain ⟨d0, d1, d2, d3, d4, d5, d6, d7, d8, d9⟩ := V9.out.bx.all
          go_simp
          refine hK.out _ _ (by trivial) (fun _ => ?_)
          clear hK K e0 e1 e2 e3 e4 e5 e6 e7 e8 e9 d0 d1 d2 d3 d4 d5 d6 d7 d8 d9
          try simp only [Act.put, List.setIfInBounds_toArray, List.set_cons_zero, List.set_cons_succ]
          refine at_worldP (fun W => Hid (LoC w W a b c) ∧ Hid (Vx w W b7 (repP a) (plA (w.heap.size) 12)) ∧ Hid (Vx w W b8 (repP b) (plA (w.heap.size + 1) 12)) ∧ Hid (Vx w W b9 (repP c) (plA (w.heap.size + 2) 12))) ⟨Lib.hid (C.out.put V9.out.gt (repP c) (plA (w.heap.size + 2) 12)), Lib.hid (V7.out.putO N79.out (repP c) (plA (w.heap.size + 2) 12)), Lib.hid (V8.out.putO N89.out (repP c) (plA (w.heap.size + 2) 12)), Lib.hid (V9.out.put (repP c) (plA (w.heap.size + 2) 12))⟩ ?_
          clear C V7 V8 V9
          rintro W ⟨C, V7, V8, V9⟩
          refine wpAnyH_done (by kernel_rfl) ?_ _
          (try go_wp2_with fail); go_meet
          exact ⟨b7, b8, b9, rfl, rfl, rfl, C, V7, V8, V9⟩
      case stz20 =>
        go_simp
        refine hK.out _ _ (by trivial) (fun _ => ?_)
        clear hK K
        try simp only [Act.put, List.setIfInBounds_toArray, List.set_cons_zero, List.set_cons_succ]
        obtain ⟨b9, hbb⟩ : ∃ b, b = W.heap.size := ⟨_, rfl⟩
        rw [← hbb]
        have N89 := Lib.hid (show b8 ≠ b9 from fun e => absurd V8.out.bx.lt (by rw [e, hbb]; exact Nat.lt_irrefl _))
        refine at_worldP (fun W => Hid (LoC w W a b c) ∧ Hid (Vx w W b8 pk0 pl0) ∧ Hid (Vx w W b9 pk0 pl0)) ⟨Lib.hid (C.out.al (obj0P 36)), Lib.hid (V8.out.al (obj0P 36)), Lib.hid (show Vx w _ b9 pk0 pl0 from hbb ▸ Vx.new C.out)⟩ ?_
        clear C V8 hbb
        rintro W ⟨C, V8, V9⟩
        refine wpAnyH_ready (rs := [6]) (by kernel_rfl) (by simp) ?_
        refine (AllReadyH.cons (o := ?oz26) ?hiz26 (fun K hK => ?stz26) AllReadyH.nil)
        case hiz26 => (simp only [List.getElem?_toArray, List.getElem?_cons_succ, List.getElem?_cons_zero]; rfl)
        case stz26 =>
          go_simp
          refine hK.out _ _ (by trivial) (fun _ => ?_)
          clear hK K
          try simp only [Act.put, List.setIfInBounds_toArray, List.set_cons_zero, List.set_cons_succ]
          obtain ⟨b7, hbb⟩ : ∃ b, b = W.heap.size := ⟨_, rfl⟩
          rw [← hbb]
          have N78 := Lib.hid (show b7 ≠ b8 from fun e => absurd V8.out.bx.lt (by rw [← e, hbb]; exact Nat.lt_irrefl _))
          have N79 := Lib.hid (show b7 ≠ b9 from fun e => absurd V9.out.bx.lt (by rw [← e, hbb]; exact Nat.lt_irrefl _))
          refine at_worldP (fun W => Hid (LoC w W a b c) ∧ Hid (Vx w W b7 pk0 pl0) ∧ Hid (Vx w W b8 pk0 pl0) ∧ Hid (Vx w W b9 pk0 pl0)) ⟨Lib.hid (C.out.al (obj0P 36)), Lib.hid (show Vx w _ b7 pk0 pl0 from hbb ▸ Vx.new C.out), Lib.hid (V8.out.al (obj0P 36)), Lib.hid (V9.out.al (obj0P 36))⟩ ?_
          clear C V8 V9 hbb
          rintro W ⟨C, V7, V8, V9⟩
          refine wpAnyH_ready (rs := [9]) (by kernel_rfl) (by simp) ?_
          refine AllReadyH.cons (o := ?oz27) ?hiz27 (fun K hK => ?stz27) AllReadyH.nil
          case hiz27 => (simp only [List.getElem?_toArray, List.getElem?_cons_succ, List.getElem?_cons_zero]; rfl)
          obtain ⟨e0, e1, e2, e3, e4, e5, e6, e7, e8, e9⟩ := V7.out.bx.free
          obtain ⟨d0, d1, d2, d3, d4, d5, d6, d7, d8, d9⟩ := V7.out.bx.all
          go_simp
          refine hK.out _ _ (by trivial) (fun _ => ?_)
          clear hK K e0 e1 e2 e3 e4 e5 e6 e7 e8 e9 d0 d1 d2 d3 d4 d5 d6 d7 d8 d9
          try simp only [Act.put, List.setIfInBounds_toArray, List.set_cons_zero, List.set_cons_succ]
          refine at_worldP (fun W => Hid (LoC w W a b c) ∧ Hid (Vx w W b7 (repP a) (plA (w.heap.size) 12)) ∧ Hid (Vx w W b8 pk0 pl0) ∧ Hid (Vx w W b9 pk0 pl0)) ⟨Lib.hid (C.out.put V7.out.gt (repP a) (plA (w.heap.size) 12)), Lib.hid (V7.out.put (repP a) (plA (w.heap.size) 12)), Lib.hid (V8.out.putO N78.out.symm (repP a) (plA (w.heap.size) 12)), Lib.hid (V9.out.putO N79.out.symm (repP a) (plA (w.heap.size) 12))⟩ ?_
          clear C V7 V8 V9
          rintro W ⟨C, V7, V8, V9⟩
          refine wpAnyH_ready (rs := [10]) (by kernel_rfl) (by simp) ?_
          refine AllReadyH.cons (o := ?oz28) ?hiz28 (fun K hK => ?stz28) AllReadyH.nil
          case hiz28 => (simp only [List.getElem?_toArray, List.getElem?_cons_succ, List.getElem?_cons_zero]; rfl)
          obtain ⟨e0, e1, e2, e3, e4, e5, e6, e7, e8, e9⟩ := V8.out.bx.free
          obtain ⟨d0, d1, d2, d3, d4, d5, d6, d7, d8, d9⟩ := V8.out.bx.all
          go_simp
          refine hK.out _ _ (by trivial) (fun _ => ?_)
          clear hK K e0 e1 e2 e3 e4 e5 e6 e7 e8 e9 d0 d1 d2 d3 d4 d5 d6 d7 d8 d9
          try simp only [Act.put, List.setIfInBounds_toArray, List.set_cons_zero, List.set_cons_succ]
          refine at_worldP (fun W => Hid (LoC w W a b c) ∧ Hid (Vx w W b7 (repP a) (plA (w.heap.size) 12)) ∧ Hid (Vx w W b8 (repP b) (plA (w.heap.size + 1) 12)) ∧ Hid (Vx w W b9 pk0 pl0)) ⟨Lib.hid (C.out.put V8.out.gt (repP b) (plA (w.heap.size + 1) 12)), Lib.hid (V7.out.putO N78.out (repP b) (plA (w.heap.size + 1) 12)), Lib.hid (V8.out.put (repP b) (plA (w.heap.size + 1) 12)), Lib.hid (V9.out.putO N89.out.symm (repP b) (plA (w.heap.size + 1) 12))⟩ ?_
          clear C V7 V8 V9
          rintro W ⟨C, V7, V8, V9⟩
          refine wpAnyH_ready (rs := [11]) (by kernel_rfl) (by simp) ?_
          refine AllReadyH.cons (o := ?oz29) ?hiz29 (fun K hK => ?stz29) AllReadyH.nil
          case hiz29 => (simp only [List.getElem?_toArray, List.getElem?_cons_succ, List.getElem?_cons_zero]; rfl)
          obtain ⟨e0, e1, e2, e3, e4, e5, e6, e7, e8, e9⟩ := V9.out.bx.free
          obtain ⟨d0, d1, d2, d3, d4, d5, d6, d7, d8, d9⟩ := V9.out.bx.all
          go_simp
          refine hK.out _ _ (by trivial) (fun _ => ?_)
          clear hK K e0 e1 e2 e3 e4 e5 e6 e7 e8 e9 d0 d1 d2 d3 d4 d5 d6 d7 d8 d9
          try simp only [Act.put, List.setIfInBounds_toArray, List.set_cons_zero, List.set_cons_succ]
          refine at_worldP (fun W => Hid (LoC w W a b c) ∧ Hid (Vx w W b7 (repP a) (plA (w.heap.size) 12)) ∧ Hid (Vx w W b8 (repP b) (plA (w.heap.size + 1) 12)) ∧ Hid (Vx w W b9 (repP c) (plA (w.heap.size + 2) 12))) ⟨Lib.hid (C.out.put V9.out.gt (repP c) (plA (w.heap.size + 2) 12)), Lib.hid (V7.out.putO N79.out (repP c) (plA (w.heap.size + 2) 12)), Lib.hid (V8.out.putO N89.out (repP c) (plA (w.heap.size + 2) 12)), Lib.hid (V9.out.put (repP c) (plA (w.heap.size + 2) 12))⟩ ?_
          clear C V7 V8 V9
          rintro W ⟨C, V7, V8, V9⟩
          refine wpAnyH_done (by kernel_rfl) ?_ _
          (try go_wp2_with fail); go_meet
          exact ⟨b7, b8, b9, rfl, rfl, rfl, C, V7, V8, V9⟩
    case stz7 =>
      go_simp
      refine hK.out _ _ (by trivial) (fun _ => ?_)
      clear hK K
      try simp only [Act.put, List.setIfInBounds_toArray, List.set_cons_zero, List.set_cons_succ]
      obtain ⟨b9, hbb⟩ : ∃ b, b = W.heap.size := ⟨_, rfl⟩
      rw [← hbb]
      refine at_worldP (fun W => Hid (LoC w W a b c) ∧ Hid (Vx w W b9 pk0 pl0)) ⟨Lib.hid (C.out.al (obj0P 36)), Lib.hid (show Vx w _ b9 pk0 pl0 from hbb ▸ Vx.new C.out)⟩ ?_
      clear C  hbb
      rintro W ⟨C, V9⟩
      refine wpAnyH_ready (rs := [6, 7]) (by kernel_rfl) (by simp) ?_
      refine (AllReadyH.cons (o := ?oz31) ?hiz31 (fun K hK => ?stz31) (AllReadyH.cons (o := ?oz30) ?hiz30 (fun K hK => ?stz30) AllReadyH.nil))
      case hiz31 => (simp only [List.getElem?_toArray, List.getElem?_cons_succ, List.getElem?_cons_zero]; rfl)
      case hiz30 => (simp only [List.getElem?_toArray, List.getElem?_cons_succ, List.getElem?_cons_zero]; rfl)
      case stz31 =>
        go_simp
        refine hK.out _ _ (by trivial) (fun _ => ?_)
        clear hK K
        try simp only [Act.put, List.setIfInBounds_toArray, List.set_cons_zero, List.set_cons_succ]
        obtain ⟨b7, hbb⟩ : ∃ b, b = W.heap.size := ⟨_, rfl⟩
        rw [← hbb]
        have N79 := Lib.hid (show b7 ≠ b9 from fun e => absurd V9.out.bx.lt (by rw [← e, hbb]; exact Nat.lt_irrefl _))
        refine at_worldP (fun W => Hid (LoC w W a b c) ∧ Hid (Vx w W b7 pk0 pl0) ∧ Hid (Vx w W b9 pk0 pl0)) ⟨Lib.hid (C.out.al (obj0P 36)), Lib.hid (show Vx w _ b7 pk0 pl0 from hbb ▸ Vx.new C.out), Lib.hid (V9.out.al (obj0P 36))⟩ ?_
        clear C V9 hbb
        rintro W ⟨C, V7, V9⟩
        refine wpAnyH_ready (rs := [7]) (by kernel_rfl) (by simp) ?_
        refine (AllReadyH.cons (o := ?oz32) ?hiz32 (fun K hK => ?stz32) AllReadyH.nil)
        case hiz32 => (simp only [List.getElem?_toArray, List.getElem?_cons_succ, List.getElem?_cons_zero]; rfl)
        case stz32 =>
          go_simp
          refine hK.out _ _ (by trivial) (fun _ => ?_)
          clear hK K
          try simp only [Act.put, List.setIfInBounds_toArray, List.set_cons_zero, List.set_cons_succ]
          obtain ⟨b8, hbb⟩ : ∃ b, b = W.heap.size := ⟨_, rfl⟩
          rw [← hbb]
          have N78 := Lib.hid (show b7 ≠ b8 from fun e => absurd V7.out.bx.lt (by rw [e, hbb]; exact Nat.lt_irrefl _))
          have N89 := Lib.hid (show b8 ≠ b9 from fun e => absurd V9.out.bx.lt (by rw [← e, hbb]; exact Nat.lt_irrefl _))
          refine at_worldP (fun W => Hid (LoC w W a b c) ∧ Hid (Vx w W b7 pk0 pl0) ∧ Hid (Vx w W b8 pk0 pl0) ∧ Hid (Vx w W b9 pk0 pl0)) ⟨Lib.hid (C.out.al (obj0P 36)), Lib.hid (V7.out.al (obj0P 36)), Lib.hid (show Vx w _ b8 pk0 pl0 from hbb ▸ Vx.new C.out), Lib.hid (V9.out.al (obj0P 36))⟩ ?_
          clear C V7 V9 hbb
          rintro W ⟨C, V7, V8, V9⟩
          refine wpAnyH_ready (rs := [9]) (by kernel_rfl) (by simp) ?_
          refine AllReadyH.cons (o := ?oz33) ?hiz33 (fun K hK => ?stz33) AllReadyH.nil
          case hiz33 => (simp only [List.getElem?_toArray, List.getElem?_cons_succ, List.getElem?_cons_zero]; rfl)
          obtain ⟨e0, e1, e2, e3, e4, e5, e6, e7, e8, e9⟩ := V7.out.bx.free
          obtain ⟨d0, d1, d2, d3, d4, d5, d6, d7, d8, d9⟩ := V7.out.bx.all
          go_simp
          refine hK.out _ _ (by trivial) (fun _ => ?_)
          clear hK K e0 e1 e2 e3 e4 e5 e6 e7 e8 e9 d0 d1 d2 d3 d4 d5 d6 d7 d8 d9
          try simp only [Act.put, List.setIfInBounds_toArray, List.set_cons_zero, List.set_cons_succ]
          refine at_worldP (fun W => Hid (LoC w W a b c) ∧ Hid (Vx w W b7 (repP a) (plA (w.heap.size) 12)) ∧ Hid (Vx w W b8 pk0 pl0) ∧ Hid (Vx w W b9 pk0 pl0)) ⟨Lib.hid (C.out.put V7.out.gt (repP a) (plA (w.heap.size) 12)), Lib.hid (V7.out.put (repP a) (plA (w.heap.size) 12)), Lib.hid (V8.out.putO N78.out.symm (repP a) (plA (w.heap.size) 12)), Lib.hid (V9.out.putO N79.out.symm (repP a) (plA (w.heap.size) 12))⟩ ?_
          clear C V7 V8 V9
          rintro W ⟨C, V7, V8, V9⟩
          refine wpAnyH_ready (rs := [10]) (by kernel_rfl) (by simp) ?_
          refine AllReadyH.cons (o := ?oz34) ?hiz34 (fun K hK => ?stz34) AllReadyH.nil
          case hiz34 => (simp only [List.getElem?_toArray, List.getElem?_cons_succ, List.getElem?_cons_zero]; rfl)
          obtain ⟨e0, e1, e2, e3, e4, e5, e6, e7, e8, e9⟩ := V8.out.bx.free
          obtain ⟨d0, d1, d2, d3, d4, d5, d6, d7, d8, d9⟩ := V8.out.bx.all
          go_simp
          refine hK.out _ _ (by trivial) (fun _ => ?_)
          clear hK K e0 e1 e2 e3 e4 e5 e6 e7 e8 e9 d0 d1 d2 d3 d4 d5 d6 d7 d8 d9
          try simp only [Act.put, List.setIfInBounds_toArray, List.set_cons_zero, List.set_cons_succ]
          refine at_worldP (fun W => Hid (LoC w W a b c) ∧ Hid (Vx w W b7 (repP a) (plA (w.heap.size) 12)) ∧ Hid (Vx w W b8 (repP b) (plA (w.heap.size + 1) 12)) ∧ Hid (Vx w W b9 pk0 pl0)) ⟨Lib.hid (C.out.put V8.out.gt (repP b) (plA (w.heap.size + 1) 12)), Lib.hid (V7.out.putO N78.out (repP b) (plA (w.heap.size + 1) 12)), Lib.hid (V8.out.put (repP b) (plA (w.heap.size + 1) 12)), Lib.hid (V9.out.putO N89.out.symm (repP b) (plA (w.heap.size + 1) 12))⟩ ?_
          clear C V7 V8 V9
          rintro W ⟨C, V7, V8, V9⟩
          refine wpAnyH_ready (rs := [11]) (by kernel_rfl) (by simp) ?_
          refine AllReadyH.cons (o := ?oz35) ?hiz35 (fun K hK => ?stz35) AllReadyH.nil
          case hiz35 => (simp only [List.getElem?_toArray, List.getElem?_cons_succ, List.getElem?_cons_zero]; rfl)
          obtain ⟨e0, e1, e2, e3, e4, e5, e6, e7, e8, e9⟩ := V9.out.bx.free
          obtain ⟨d0, d1, d2, d3, d4, d5, d6, d7, d8, d9⟩ := V9.out.bx.all
          go_simp
          refine hK.out _ _ (by trivial) (fun _ => ?_)
          clear hK K e0 e1 e2 e3 e4 e5 e6 e7 e8 e9 d0 d1 d2 d3 d4 d5 d6 d7 d8 d9
          try simp only [Act.put, List.setIfInBounds_toArray, List.set_cons_zero, List.set_cons_succ]
          refine at_worldP (fun W => Hid (LoC w W a b c) ∧ Hid (Vx w W b7 (repP a) (plA (w.heap.size) 12)) ∧ Hid (Vx w W b8 (repP b) (plA (w.heap.size + 1) 12)) ∧ Hid (Vx w W b9 (repP c) (plA (w.heap.size + 2) 12))) ⟨Lib.hid (C.out.put V9.out.gt (repP c) (plA (w.heap.size + 2) 12)), Lib.hid (V7.out.putO N79.out (repP c) (plA (w.heap.size + 2) 12)), Lib.hid (V8.out.putO N89.out (repP c) (plA (w.heap.size + 2) 12)), Lib.hid (V9.out.put (repP c) (plA (w.heap.size + 2) 12))⟩ ?_
          clear C V7 V8 V9
          rintro W ⟨C, V7, V8, V9⟩
          refine wpAnyH_done (by kernel_rfl) ?_ _
          (try go_wp2_with fail); go_meet
          exact ⟨b7, b8, b9, rfl, rfl, rfl, C, V7, V8, V9⟩
      case stz30 =>
        go_simp
        refine hK.out _ _ (by trivial) (fun _ => ?_)
        clear hK K
        try simp only [Act.put, List.setIfInBounds_toArray, List.set_cons_zero, List.set_cons_succ]
        obtain ⟨b8, hbb⟩ : ∃ b, b = W.heap.size := ⟨_, rfl⟩
        rw [← hbb]
        have N89 := Lib.hid (show b8 ≠ b9 from fun e => absurd V9.out.bx.lt (by rw [← e, hbb]; exact Nat.lt_irrefl _))
        refine at_worldP (fun W => Hid (LoC w W a b c) ∧ Hid (Vx w W b8 pk0 pl0) ∧ Hid (Vx w W b9 pk0 pl0)) ⟨Lib.hid (C.out.al (obj0P 36)), Lib.hid (show Vx w _ b8 pk0 pl0 from hbb ▸ Vx.new C.out), Lib.hid (V9.out.al (obj0P 36))⟩ ?_
        clear C V9 hbb
        rintro W ⟨C, V8, V9⟩
        refine wpAnyH_ready (rs := [6]) (by kernel_rfl) (by simp) ?_
        refine (AllReadyH.cons (o := ?oz36) ?hiz36 (fun K hK => ?stz36) AllReadyH.nil)
        case hiz36 => (simp only [List.getElem?_toArray, List.getElem?_cons_succ, List.getElem?_cons_zero]; rfl)
        case stz36 =>
          go_simp
          refine hK.out _ _ (by trivial) (fun _ => ?_)
          clear hK K
          try simp only [Act.put, List.setIfInBounds_toArray, List.set_cons_zero, List.set_cons_succ]
          obtain ⟨b7, hbb⟩ : ∃ b, b = W.heap.size := ⟨_, rfl⟩
          rw [← hbb]
          have N78 := Lib.hid (show b7 ≠ b8 from fun e => absurd V8.out.bx.lt (by rw [← e, hbb]; exact Nat.lt_irrefl _))
          have N79 := Lib.hid (show b7 ≠ b9 from fun e => absurd V9.out.bx.lt (by rw [← e, hbb]; exact Nat.lt_irrefl _))
          refine at_worldP (fun W => Hid (LoC w W a b c) ∧ Hid (Vx w W b7 pk0 pl0) ∧ Hid (Vx w W b8 pk0 pl0) ∧ Hid (Vx w W b9 pk0 pl0)) ⟨Lib.hid (C.out.al (obj0P 36)), Lib.hid (show Vx w _ b7 pk0 pl0 from hbb ▸ Vx.new C.out), Lib.hid (V8.out.al (obj0P 36)), Lib.hid (V9.out.al (obj0P 36))⟩ ?_
          clear C V8 V9 hbb
          rintro W ⟨C, V7, V8, V9⟩
          refine wpAnyH_ready (rs := [9]) (by kernel_rfl) (by simp) ?_
          refine AllReadyH.cons (o := ?oz37) ?hiz37 (fun K hK => ?stz37) AllReadyH.nil
          case hiz37 => (simp only [List.getElem?_toArray, List.getElem?_cons_succ, List.getElem?_cons_zero]; rfl)
          obtain ⟨e0, e1, e2, e3, e4, e5, e6, e7, e8, e9⟩ := V7.out.bx.free
          obtain ⟨d0, d1, d2, d3, d4, d5, d6, d7, d8, d9⟩ := V7.out.bx.all
          go_simp
          refine hK.out _ _ (by trivial) (fun _ => ?_)
          clear hK K e0 e1 e2 e3 e4 e5 e6 e7 e8 e9 d0 d1 d2 d3 d4 d5 d6 d7 d8 d9
          try simp only [Act.put, List.setIfInBounds_toArray, List.set_cons_zero, List.set_cons_succ]
          refine at_worldP (fun W => Hid (LoC w W a b c) ∧ Hid (Vx w W b7 (repP a) (plA (w.heap.size) 12)) ∧ Hid (Vx w W b8 pk0 pl0) ∧ Hid (Vx w W b9 pk0 pl0)) ⟨Lib.hid (C.out.put V7.out.gt (repP a) (plA (w.heap.size) 12)), Lib.hid (V7.out.put (repP a) (plA (w.heap.size) 12)), Lib.hid (V8.out.putO N78.out.symm (repP a) (plA (w.heap.size) 12)), Lib.hid (V9.out.putO N79.out.symm (repP a) (plA (w.heap.size) 12))⟩ ?_
          clear C V7 V8 V9
          rintro W ⟨C, V7, V8, V9⟩
          refine wpAnyH_ready (rs := [10]) (by kernel_rfl) (by simp) ?_
          refine AllReadyH.cons (o := ?oz38) ?hiz38 (fun K hK => ?stz38) AllReadyH.nil
          case hiz38 => (simp only [List.getElem?_toArray, List.getElem?_cons_succ, List.getElem?_cons_zero]; rfl)
          obtain ⟨e0, e1, e2, e3, e4, e5, e6, e7, e8, e9⟩ := V8.out.bx.free
          obtain ⟨d0, d1, d2, d3, d4, d5, d6, d7, d8, d9⟩ := V8.out.bx.all
          go_simp
          refine hK.out _ _ (by trivial) (fun _ => ?_)
          clear hK K e0 e1 e2 e3 e4 e5 e6 e7 e8 e9 d0 d1 d2 d3 d4 d5 d6 d7 d8 d9
          try simp only [Act.put, List.setIfInBounds_toArray, List.set_cons_zero, List.set_cons_succ]
          refine at_worldP (fun W => Hid (LoC w W a b c) ∧ Hid (Vx w W b7 (repP a) (plA (w.heap.size) 12)) ∧ Hid (Vx w W b8 (repP b) (plA (w.heap.size + 1) 12)) ∧ Hid (Vx w W b9 pk0 pl0)) ⟨Lib.hid (C.out.put V8.out.gt (repP b) (plA (w.heap.size + 1) 12)), Lib.hid (V7.out.putO N78.out (repP b) (plA (w.heap.size + 1) 12)), Lib.hid (V8.out.put (repP b) (plA (w.heap.size + 1) 12)), Lib.hid (V9.out.putO N89.out.symm (repP b) (plA (w.heap.size + 1) 12))⟩ ?_
          clear C V7 V8 V9
          rintro W ⟨C, V7, V8, V9⟩
          refine wpAnyH_ready (rs := [11]) (by kernel_rfl) (by simp) ?_
          refine AllReadyH.cons (o := ?oz39) ?hiz39 (fun K hK => ?stz39) AllReadyH.nil
          case hiz39 => (simp only [List.getElem?_toArray, List.getElem?_cons_succ, List.getElem?_cons_zero]; rfl)
          obtain ⟨e0, e1, e2, e3, e4, e5, e6, e7, e8, e9⟩ := V9.out.bx.free
          obtain ⟨d0, d1, d2, d3, d4, d5, d6, d7, d8, d9⟩ := V9.out.bx.all
          go_simp
          refine hK.out _ _ (by trivial) (fun _ => ?_)
          clear hK K e0 e1 e2 e3 e4 e5 e6 e7 e8 e9 d0 d1 d2 d3 d4 d5 d6 d7 d8 d9
          try simp only [Act.put, List.setIfInBounds_toArray, List.set_cons_zero, List.set_cons_succ]
          refine at_worldP (fun W => Hid (LoC w W a b c) ∧ Hid (Vx w W b7 (repP a) (plA (w.heap.size) 12)) ∧ Hid (Vx w W b8 (repP b) (plA (w.heap.size + 1) 12)) ∧ Hid (Vx w W b9 (repP c) (plA (w.heap.size + 2) 12))) ⟨Lib.hid (C.out.put V9.out.gt (repP c) (plA (w.heap.size + 2) 12)), Lib.hid (V7.out.putO N79.out (repP c) (plA (w.heap.size + 2) 12)), Lib.hid (V8.out.putO N89.out (repP c) (plA (w.heap.size + 2) 12)), Lib.hid (V9.out.put (repP c) (plA (w.heap.size + 2) 12))⟩ ?_
          clear C V7 V8 V9
          rintro W ⟨C, V7, V8, V9⟩
          refine wpAnyH_done (by kernel_rfl) ?_ _
          (try go_wp2_with fail); go_meet
          exact ⟨b7, b8, b9, rfl, rfl, rfl, C, V7, V8, V9⟩
  case rest =>
    obtain ⟨b7, b8, b9, rfl, rfl, rfl, C, V7, V8, V9⟩ := hcut
    have Z := Lib.hid (show LoV w wc b7 b8 b9 a b c from ⟨C.out, V7.out.bx, V8.out.bx, V9.out.bx⟩)
    clear C V7 V8 V9
    (try clear x0 x1 x2 x3 x4 x5 x6 x7 x8 x9 y0 y1 y2 y3 y4 y5 y6 y7 y8 y9 z0 z1 z2 z3 z4 z5 z6 z7 z8 z9); obtain ⟨x0, x1, x2, x3, x4, x5, x6, x7, x8, x9⟩ := rep_all Z.out.v7; obtain ⟨y0, y1, y2, y3, y4, y5, y6, y7, y8, y9⟩ := rep_all Z.out.v8; obtain ⟨z0, z1, z2, z3, z4, z5, z6, z7, z8, z9⟩ := rep_all Z.out.v9
    go_upto_region 8 with (first
      | (go_at_call 13; (with_reducible refine (lostA a b _ _ _ Z.out.w1 Z.out.w2 Ha.out Hb.out l hl.out).mono ?_); rintro e wn ⟨rfl, hb⟩; replace Z := Lib.hid (Z.out.step hb); clear hb; (try clear x0 x1 x2 x3 x4 x5 x6 x7 x8 x9 y0 y1 y2 y3 y4 y5 y6 y7 y8 y9 z0 z1 z2 z3 z4 z5 z6 z7 z8 z9); obtain ⟨x0, x1, x2, x3, x4, x5, x6, x7, x8, x9⟩ := rep_all Z.out.v7; obtain ⟨y0, y1, y2, y3, y4, y5, y6, y7, y8, y9⟩ := rep_all Z.out.v8; obtain ⟨z0, z1, z2, z3, z4, z5, z6, z7, z8, z9⟩ := rep_all Z.out.v9)
      | (go_at_call 13; (with_reducible refine (lostA b c _ _ _ Z.out.w2 Z.out.w3 Hb.out Hc.out m hm.out).mono ?_); rintro e wn ⟨rfl, hb⟩; replace Z := Lib.hid (Z.out.step hb); clear hb; (try clear x0 x1 x2 x3 x4 x5 x6 x7 x8 x9 y0 y1 y2 y3 y4 y5 y6 y7 y8 y9 z0 z1 z2 z3 z4 z5 z6 z7 z8 z9); obtain ⟨x0, x1, x2, x3, x4, x5, x6, x7, x8, x9⟩ := rep_all Z.out.v7; obtain ⟨y0, y1, y2, y3, y4, y5, y6, y7, y8, y9⟩ := rep_all Z.out.v8; obtain ⟨z0, z1, z2, z3, z4, z5, z6, z7, z8, z9⟩ := rep_all Z.out.v9)
      | (go_at_call 13; (with_reducible refine (lostA a c _ _ _ Z.out.w1 Z.out.w3 Ha.out Hc.out n hn.out).mono ?_); rintro e wn ⟨rfl, hb⟩; replace Z := Lib.hid (Z.out.step hb); clear hb; (try clear x0 x1 x2 x3 x4 x5 x6 x7 x8 x9 y0 y1 y2 y3 y4 y5 y6 y7 y8 y9 z0 z1 z2 z3 z4 z5 z6 z7 z8 z9); obtain ⟨x0, x1, x2, x3, x4, x5, x6, x7, x8, x9⟩ := rep_all Z.out.v7; obtain ⟨y0, y1, y2, y3, y4, y5, y6, y7, y8, y9⟩ := rep_all Z.out.v8; obtain ⟨z0, z1, z2, z3, z4, z5, z6, z7, z8, z9⟩ := rep_all Z.out.v9)
      | (go_at_call 13; (with_reducible refine (lostA a a _ _ _ Z.out.w1 Z.out.w1 Ha.out Ha.out 0 hz.out).mono ?_); rintro e wn ⟨rfl, hb⟩; replace Z := Lib.hid (Z.out.step hb); clear hb; (try clear x0 x1 x2 x3 x4 x5 x6 x7 x8 x9 y0 y1 y2 y3 y4 y5 y6 y7 y8 y9 z0 z1 z2 z3 z4 z5 z6 z7 z8 z9); obtain ⟨x0, x1, x2, x3, x4, x5, x6, x7, x8, x9⟩ := rep_all Z.out.v7; obtain ⟨y0, y1, y2, y3, y4, y5, y6, y7, y8, y9⟩ := rep_all Z.out.v8; obtain ⟨z0, z1, z2, z3, z4, z5, z6, z7, z8, z9⟩ := rep_all Z.out.v9))
    go_region_held3 (fun W => W.cell? ⟨b7, 0, none⟩ = some (.int .u16 49189) ∧ W.cell? ⟨b7, 1, none⟩ = some (.int .u8 0) ∧ W.cell? ⟨b7, 2, none⟩ = some (.int .u8 0) ∧ W.cell? ⟨b7, 3, none⟩ = some (.slice none 0 0) ∧ W.cell? ⟨b7, 4, none⟩ = some (.int .u16 0) ∧ W.cell? ⟨b7, 5, none⟩ = some (.int .u32 0) ∧ W.cell? ⟨b7, 6, none⟩ = some (.slice none 0 0) ∧ W.cell? ⟨b7, 7, none⟩ = some (.slice none 0 0) ∧ W.cell? ⟨b7, 8, none⟩ = some (.slice none 0 0) ∧ W.cell? ⟨b7, 9, none⟩ = some (.slice (some ⟨w.heap.size, 0, none⟩) 12 12)) (first | (with_reducible exact rep_all Z.out.v7) | (with_reducible exact rep_all Z.out.drew.v7)) (first
      | (go_at_call 13; (first | (with_reducible refine (lostB11 a _ _ Z.out.w1 Ha.out).mono ?_) | (with_reducible refine (lostB11 a _ _ Z.out.drew.w1 Ha.out).mono ?_)); rintro e wn ⟨rfl, hb⟩; replace Z := Lib.hid (Z.out.step hb); clear hb; dsimp only))
    have l1 := E.out
    all_goals go_wp2_with fail
    all_goals
      go_ret
      exact ⟨rfl, Z.out.lo.bel⟩
end Go.Proofs.Ytppblnpcbiochaa
