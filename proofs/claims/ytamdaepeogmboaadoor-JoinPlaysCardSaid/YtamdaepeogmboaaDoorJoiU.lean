
/-
  What the document's Flush answers. Conditions: bounds (Jok), places that are no more than 2^28.
-/
import Derived.Test.YtamdaepeogmboaaDoorJoiR
namespace Go.Proofs.YtamdaepeogmboaaDoor
set_option maxRecDepth 4000
open Go.RowKit

/-- A joiner's slices lead to what it says, wherever they lie: it may be read. -/
structure Jr (G : Nat → Prop) (w : World) (j : Jn) (q : Jp) : Prop where
  l1 : j.last.length = q.ln
  rl : Rws shI G w q.la j.last
  w1 : j.wait.length = q.wn
  rw : Rws shC G w q.wa j.wait
  d1 : j.data.length = q.dn
  d2 : q.dn ≤ q.dc
  rd : RdF G w q.da j.data
  t1 : j.told.length = q.tn
  rt : Rws shEv G w q.ta j.told
theorem Jr.on {G : Nat → Prop} {w w' : World} {j : Jn} {q : Jp} (h : Jr G w j q) (hb : Below w.heap.size w w') : Jr G w' j q := ⟨h.l1, h.rl.below hb, h.w1, h.rw.below hb, h.d1, h.d2, h.rd.keep (.of_below hb), h.t1, h.rt.below hb⟩
theorem Jr.mono {G F : Nat → Prop} {w : World} {j : Jn} {q : Jp} (h : Jr G w j q) (hF : ∀ b, b < w.heap.size → G b → F b) : Jr F w j q := ⟨h.l1, h.rl.mono hF, h.w1, h.rw.mono hF, h.d1, h.d2, h.rd.mono hF, h.t1, h.rt.mono hF⟩
theorem Jr.keep {G : Nat → Prop} {w w' : World} {j : Jn} {q : Jp} (h : Jr G w j q) (hk : Keeps G w w') : Jr G w' j q := ⟨h.l1, h.rl.keep hk, h.w1, h.rw.keep hk, h.d1, h.d2, h.rd.keep hk, h.t1, h.rt.keep hk⟩
/-- .. with nothing told: the rows for a call of its own. -/
theorem Jr.jw {G : Nat → Prop} {w : World} {j : Jn} {q : Jp} (h : Jr G w j q) (B : Nat) : Jw G B w { j with told := [] } { q with ta := none, tn := 0, tc := 0 } :=
  ⟨h.l1, h.rl.mono fun _ _ hg => ⟨hg, fun e => by cases e⟩, h.w1, h.rw.mono fun _ _ hg => ⟨hg, fun e => by cases e⟩, h.d1, h.d2, h.rd.mono fun _ _ hg => ⟨hg, fun e => by cases e⟩, rfl, Orw.nil _ _ _ _ _⟩
theorem Jw.jr {G : Nat → Prop} {B : Nat} {w : World} {j : Jn} {q : Jp} (h : Jw G B w j q) (hB : ∀ b, B ≤ b → G b) : Jr G w j q :=
  ⟨h.l1, h.rl.mono fun _ _ h => h.1, h.w1, h.rw.mono fun _ _ h => h.1, h.d1, h.d2, h.rd.mono fun _ _ h => h.1, h.t1, h.ot.read.mono fun b _ h => h.elim id (hB b)⟩
section
variable {G F : Nat → Prop} {k r B : Nat} {w W : World} {q0 : Jp} {jb : Jn} {qb : Jp} {j : Jn} {q : Jp}
/-- A start where the box says what was told before, and the rows tell nothing yet. -/
theorem JC.startR (h : Jr G w j q) (hb : Below w.heap.size w W) (hx : Jx W w.heap.size j q) (hr : Jx W (w.heap.size + r) jn0 jp0) (hs : w.heap.size + k ≤ W.heap.size) :
    JC G (fun b => (b < w.heap.size ∧ G b) ∨ w.heap.size + k ≤ b) k r w.heap.size w W { q with ta := none, tn := 0, tc := 0 } j q { j with told := [] } { q with ta := none, tn := 0, tc := 0 } :=
  ⟨fun i hi => by rintro (⟨h, _⟩ | h) <;> omega, fun b hb => .inr hb, fun b hb => hb.elim (fun h => .inl h.2) (fun h => .inr (by omega)), .of_below hb, hx, hr, ((h.jw w.heap.size).mono (G := fun b => (b < w.heap.size ∧ G b) ∨ w.heap.size + k ≤ b) fun _ hb hg => .inl ⟨hb, hg⟩).on hb, fun _ hb => (by cases hb), hs⟩
theorem JC.s3 (h : JC G F k r B w W q0 jb qb j q) (hk : 0 < k) (hr : 0 < r) (A : Option Addr) (n c : Nat) (l : List Int) (h1 : l.length = n) (h3 : Rws shI (fun b => F b ∧ q.tv.ownBlock ≠ some b) W A l) : JC G F k r B w (W.setCell ⟨w.heap.size, 3, none⟩ (.slice A n c)) q0 { jb with last := l } { qb with la := A, ln := n, lc := c } { j with last := l } { q with la := A, ln := n, lc := c } :=
  have ⟨g1, g2, g3⟩ := h.set_ hk 3 (.slice A n c)
  ⟨h.av, h.nw, h.ex, g1, h.box.s3 A n c l, h.res.other _ (by omega), ⟨h1, h3.keep (.of_offs (Offs.set (X := fun b => b = w.heap.size) W _ 3 _ rfl) fun b hb e => by subst e; exact h.av 0 hk hb.1), g2.w1, g2.rw, g2.d1, g2.d2, g2.rd, g2.t1, g2.ot⟩, h.own, g3⟩
theorem JC.s8n (h : JC G F k r B w W q0 jb qb j q) (hk : 0 < k) (hr : 0 < r) : JC G F k r B w (W.setCell ⟨w.heap.size, 8, none⟩ (.slice none 0 0)) q0 { jb with told := [] } { qb with ta := none, tn := 0, tc := 0 } j q :=
  have ⟨h1, h2, h3⟩ := h.set_ hk 8 (.slice none 0 0)
  ⟨h.av, h.nw, h.ex, h1, h.box.s8 none 0 0 [], h.res.other _ (by omega), h2, h.own, h3⟩
/-- Nothing elder is turned, where nothing was told. -/
theorem JC.below (h : JC G F k r B w W q0 jb qb j q) (h0 : q0.ta = none) : Below w.heap.size w W := h.off.below (fun b _ e => by rw [show q0.tv = .slice none q0.tn q0.tc by rw [← h0]] at e; cases e) (Nat.le_refl _)
theorem JC.put_below (h : JC G F k r B w W q0 j q j q) (h0 : q0.ta = none) : Below w.heap.size w (put9 W (w.heap.size + r) j q) := put9_below (h.below h0) (Nat.le_add_right _ _) j q
end
theorem jres2 {fn : Func} {p u v : Tmp} {ty : TypeId} (h : fn.results = #[.cell p ty, .tmp u, .tmp v]) (tmps : Array Value) (a b : Value) (w : World) (g : Nat) (t : TypeId) (cs : Array Value) (fr : Nat × Nat) (fs : Array Field)
    (hp : tmps.getD p undef = .pointer (some ⟨g, 0, none⟩)) (ha : tmps.getD u undef = a) (hb : tmps.getD v undef = b) (hg : w.heap[g]? = some (.cells cs t fr))
    (hu : Tryd.prog.underlying ty = some (.struct fs)) (hi : (Tryd.prog.info? ty).map (·.size) = some cs.size) :
    (results fn tmps).run Tryd.prog w = .ok (.tuple #[.agg cs, a, b]) w := by
  have hp' : tmps[p]?.getD undef = .pointer (some ⟨g, 0, none⟩) := by simpa using hp
  have ha' : tmps[u]?.getD undef = a := by simpa using ha
  have hb' : tmps[v]?.getD undef = b := by simpa using hb
  simp only [results, h]
  simp [Result.andThen, hp', ha', hb', asAddr, run_loadVar_row w g t ty cs fr _ hg hu rfl hi]

set_option maxHeartbeats 8000000 in
theorem jflush_any (G : Nat → Prop) (j : Jn) (q : Jp) (M : Int) (w : World) (h : Jr G w j q) (hok : Jok M j) (hst : jstp j = none) (hM : M ≤ 268435456) :
    Calls Tryd.prog 10 #[j.val q] w fun e w' => ∃ q', e = .returned (.tuple #[(jflush j).val q', q'.tv]) ∧ Jr (fun b => G b ∨ w.heap.size ≤ b) w' (jflush j) q' ∧ Below w.heap.size w w' := by
  have HMM := Lib.hid hM
  obtain ⟨q0, hq0⟩ : ∃ q0, Hid ({ q with ta := none, tn := 0, tc := 0 } = q0) := ⟨_, Lib.hid rfl⟩
  obtain ⟨j0, hj0⟩ : ∃ j0, Hid ({ j with told := [] } = j0) := ⟨_, Lib.hid rfl⟩
  have HJF := Lib.hid (show jflush j = jover 0 j0 by rw [← hj0.out]; rfl)
  have HOK := Lib.hid (show Jok M j0 by rw [← hj0.out]; exact ⟨hok.n0, hok.n1, hok.mo, hok.da, hok.m0, hok.m1, hok.pl, hok.pg, hok.wl, hok.la, hok.l0, hok.l1, by have := hok.n0; show (([] : List Ev).length : Int) ≤ 2 * j.next; simp; omega⟩)
  have HST := Lib.hid (show jstp j0 = none by rw [← hj0.out]; exact jstp_told hst)
  have C := (JC.startR (k := 2) (r := 1) h (((Below.refl _ _).alloc (Nat.le_refl _) _).alloc (by simp) _) ((Jx.new w j q).on ((Below.refl _ _).alloc (Nat.le_refl _) _)) (by have := Jx.new (w.alloc (j.obj q)) jn0 jp0; simpa using this) (by simp))
  rw [hq0.out, hj0.out] at C
  obtain ⟨F, C⟩ : ∃ F, JC G F 2 1 w.heap.size w ((w.alloc (j.obj q)).alloc (jn0.obj jp0)) q0 j q j0 q0 := ⟨_, C⟩
  replace C := Lib.hid C
  have Q0 := Lib.hid (show q0.ta = none by rw [← hq0.out])
  clear h hok hst hM
  go_enter Tryd.func10, Tryd.ntmps10
  go_upto_region 1 with fail
  refine at_worldJ (fun W => Hid (JC G F 2 1 w.heap.size w W q0 j q j0 q0)) C ?_
  clear C
  rintro W C
  have y8 := C.out.box.c8
  have f8 := C.out.box.fz 8
  go_wp2_with fail
  have D := Lib.hid (show JC G F 2 1 w.heap.size w (W.setCell ⟨w.heap.size, 8, none⟩ (.slice none 0 0)) q0 j0 q0 j0 q0 by rw [← hj0.out, ← hq0.out]; have := C.out; rw [← hj0.out, ← hq0.out] at this; exact this.s8n (by omega) (by omega))
  clear C y8 f8
  refine at_worldJ (fun W => Hid (JC G F 2 1 w.heap.size w W q0 j0 q0 j0 q0)) D ?_
  clear D
  rintro W C
  go_loopw [] (fun wr => ∃ j1 q1 n, Hid (jut 0 n j0 = j1) ∧ Hid (Jok M j1) ∧ Hid (jstp j1 = none) ∧ Hid (JC G F 2 1 w.heap.size w wr q0 j1 q1 j1 q1)) (fun wr => (M - jnx wr w.heap.size).toNat)
  case atStart => exact ⟨j0, q0, 0, Lib.hid rfl, HOK, HST, C⟩
  case round =>
    clear C
    obtain ⟨j1, q1, n, hn, hok, hst, C⟩ := hrel
    have NX := Lib.hid C.out.box.nx
    have y4 := C.out.box.c4
    by_cases hw : 0 < q1.wn
    · have hw' : (0 : Int) < (q1.wn : Int) := by omega
      have KW := Lib.hid (show q1.wn ≤ 1073741824 by rw [← C.out.jw.w1]; exact hok.out.wl)
      obtain ⟨fi, hfi⟩ : ∃ x, Hid (jfirst j1.wait = x) := ⟨_, Lib.hid rfl⟩
      have HFI := Lib.hid (hok.out.first hst.out (by rw [C.out.jw.w1]; omega) HMM.out)
      rw [hfi.out] at HFI
      have KT := Lib.hid (show q1.tn ≤ 1073741824 by rw [← C.out.jw.t1]; have := hok.out.td; have := hok.out.n1; have := HMM.out; omega)
      have NB := Lib.hid (show 0 ≤ j1.next ∧ j1.next ≤ 4611686018427387904 by have := hok.out.n0; have := hok.out.n1; have := HMM.out; omega)
      have EB := Lib.hid (show 0 ≤ fi ∧ fi ≤ 4611686018427387904 by have := hok.out.n0; have := HFI.out; have := HMM.out; omega)
      have HOKL := Lib.hid (hok.out.lack HFI.out.1 HFI.out.2 (by rw [hfi.out]; exact Int.le_refl _))
      have HUS := Lib.hid (show jush 0 j1 = some (jrun (jlack j1 fi)) by rw [← hfi.out]; exact jush_some (by rw [C.out.jw.w1]; exact hw'))
      have HJN := Lib.hid (jut_snoc (by rw [hn.out]; exact HUS.out))
      have HU3 := Lib.hid (hok.out.ush hst.out (Int.le_refl _) HMM.out HUS.out)
      go_upto_region 3 with fail
      clear y4 hw'
      refine wp_region_held_drew (S := (fun _ => True)) (by kernel_rfl) (by trivial) (fun _ => ?_)
      refine at_worldJ (fun W => Hid (JC G F 2 1 w.heap.size w W q0 j1 q1 j1 q1)) (Lib.hid C.out.drew) ?_
      clear C
      rintro W C
      refine wpAnyH_ready (rs := [0, 1]) (by kernel_rfl) (by simp) ?_
      refine (AllReadyH.cons (o := ?ou2) ?hiu2 (fun K hK => ?stu2) (AllReadyH.cons (o := ?ou1) ?hiu1 (fun K hK => ?stu1) AllReadyH.nil))
      case hiu2 => (simp only [List.getElem?_toArray, List.getElem?_cons_zero]; rfl)
      case hiu1 => (simp only [List.getElem?_toArray, List.getElem?_cons_succ, List.getElem?_cons_zero]; rfl)
      case stu2 =>
        have y0 := C.out.box.c0
        have y1 := C.out.box.c1
        have y2 := C.out.box.c2
        have y3 := C.out.box.c3
        have y4 := C.out.box.c4
        have y5 := C.out.box.c5
        have y6 := C.out.box.c6
        have y7 := C.out.box.c7
        have y8 := C.out.box.c8
        go_simp
        refine hK.out _ _ (by trivial) (fun _ => ?_)
        clear hK K
        try simp only [Act.put, List.setIfInBounds_toArray, List.set_cons_zero, List.set_cons_succ]
        clear y0 y1 y2 y3 y4 y5 y6 y7 y8
        refine wpAnyH_ready (rs := [1]) (by kernel_rfl) (by simp) ?_
        refine (AllReadyH.cons (o := ?ou3) ?hiu3 (fun K hK => ?stu3) AllReadyH.nil)
        case hiu3 => (simp only [List.getElem?_toArray, List.getElem?_cons_succ, List.getElem?_cons_zero]; rfl)
        case stu3 =>
          have y0 := C.out.box.c0
          have y1 := C.out.box.c1
          have y2 := C.out.box.c2
          have y3 := C.out.box.c3
          have y4 := C.out.box.c4
          have y5 := C.out.box.c5
          have y6 := C.out.box.c6
          have y7 := C.out.box.c7
          have y8 := C.out.box.c8
          go_simp
          refine hK.out _ _ (by trivial) (fun _ => ?_)
          clear hK K
          try simp only [Act.put, List.setIfInBounds_toArray, List.set_cons_zero, List.set_cons_succ]
          clear y0 y1 y2 y3 y4 y5 y6 y7 y8
          refine wpAnyH_ready (rs := [2]) (by kernel_rfl) (by simp) ?_
          refine (AllReadyH.cons (o := ?ou4) ?hiu4 (fun K hK => ?stu4) AllReadyH.nil)
          case hiu4 => (simp only [List.getElem?_toArray, List.getElem?_cons_succ, List.getElem?_cons_zero]; rfl)
          case stu4 =>
            go_simp
            go_at_call 24
            (with_reducible refine (jfirst_any j1 q1 _ _ C.out.jw.rw C.out.jw.w1 KW.out).mono ?_)
            rintro e wy ⟨rfl, hb⟩
            rw [hfi.out]
            dsimp only
            refine hK.out _ _ (by trivial) (fun _ => ?_)
            clear hK K
            try simp only [Act.put, List.setIfInBounds_toArray, List.set_cons_zero, List.set_cons_succ]
            replace C := Lib.hid (C.out.step hb)
            clear hb
            refine wpAnyH_ready (rs := [3]) (by kernel_rfl) (by simp) ?_
            refine (AllReadyH.cons (o := ?ou5) ?hiu5 (fun K hK => ?stu5) AllReadyH.nil)
            case hiu5 => (simp only [List.getElem?_toArray, List.getElem?_cons_succ, List.getElem?_cons_zero]; rfl)
            case stu5 =>
              go_simp
              go_at_call 23
              (with_reducible refine (jlack_any j1 q1 fi F w.heap.size _ C.out.jw C.out.off.size KT.out NB.out.1 NB.out.2 EB.out.1 EB.out.2).mono ?_)
              rintro e wz ⟨q2, rfl, hw2, ho2, hm2⟩
              dsimp only
              refine hK.out _ _ (by trivial) (fun _ => ?_)
              clear hK K
              try simp only [Act.put, List.setIfInBounds_toArray, List.set_cons_zero, List.set_cons_succ]
              replace C := Lib.hid (C.out.call (by omega) (by omega) hw2 ho2 hm2)
              clear hw2 ho2 hm2
              refine wpAnyH_ready (rs := [4]) (by kernel_rfl) (by simp) ?_
              refine (AllReadyH.cons (o := ?ou6) ?hiu6 (fun K hK => ?stu6) AllReadyH.nil)
              case hiu6 => (simp only [List.getElem?_toArray, List.getElem?_cons_succ, List.getElem?_cons_zero]; rfl)
              case stu6 =>
                go_simp
                go_at_call 22
                (with_reducible refine (jrun_any (jlack j1 fi) q2 M F w.heap.size _ C.out.jw HOKL.out HMM.out C.out.off.size).mono ?_)
                rintro e wx ⟨q3, rfl, hw3, ho3, hm3⟩
                dsimp only
                refine hK.out _ _ (by trivial) (fun _ => ?_)
                clear hK K
                try simp only [Act.put, List.setIfInBounds_toArray, List.set_cons_zero, List.set_cons_succ]
                replace C := Lib.hid (C.out.call (by omega) (by omega) hw3 ho3 hm3)
                clear hw3 ho3 hm3
                refine wpAnyH_ready (rs := [5]) (by kernel_rfl) (by simp) ?_
                refine (AllReadyH.cons (o := ?ou7) ?hiu7 (fun K hK => ?stu7) AllReadyH.nil)
                case hiu7 => (simp only [List.getElem?_toArray, List.getElem?_cons_succ, List.getElem?_cons_zero]; rfl)
                case stu7 =>
                  have y0 := C.out.box.c0
                  have y1 := C.out.box.c1
                  have y2 := C.out.box.c2
                  have y3 := C.out.box.c3
                  have y4 := C.out.box.c4
                  have y5 := C.out.box.c5
                  have y6 := C.out.box.c6
                  have y7 := C.out.box.c7
                  have y8 := C.out.box.c8
                  have f0 := C.out.box.fz 0
                  have f1 := C.out.box.fz 1
                  have f2 := C.out.box.fz 2
                  have f3 := C.out.box.fz 3
                  have f4 := C.out.box.fz 4
                  have f5 := C.out.box.fz 5
                  have f6 := C.out.box.fz 6
                  have f7 := C.out.box.fz 7
                  have f8 := C.out.box.fz 8
                  go_simp
                  refine hK.out _ _ (by trivial) (fun _ => ?_)
                  clear hK K
                  try simp only [Act.put, List.setIfInBounds_toArray, List.set_cons_zero, List.set_cons_succ]
                  clear y0 y1 y2 y3 y4 y5 y6 y7 y8 f0 f1 f2 f3 f4 f5 f6 f7 f8
                  replace C := Lib.hid (C.out.s9 (by omega) (by omega))
                  refine wpAnyH_done (by kernel_rfl) ?_ _
                  go_wp2_with fail
                  go_roundw
                  case rel => exact ⟨_, q3, n + 1, HJN, Lib.hid HU3.out.1, Lib.hid HU3.out.2.1, C⟩
                  case measure => rw [NX.out, C.out.box.nx]; have := HU3.out.1.n1; have := HU3.out.2.2; omega
      case stu1 =>
        have y0 := C.out.box.c0
        have y1 := C.out.box.c1
        have y2 := C.out.box.c2
        have y3 := C.out.box.c3
        have y4 := C.out.box.c4
        have y5 := C.out.box.c5
        have y6 := C.out.box.c6
        have y7 := C.out.box.c7
        have y8 := C.out.box.c8
        go_simp
        refine hK.out _ _ (by trivial) (fun _ => ?_)
        clear hK K
        try simp only [Act.put, List.setIfInBounds_toArray, List.set_cons_zero, List.set_cons_succ]
        clear y0 y1 y2 y3 y4 y5 y6 y7 y8
        refine wpAnyH_ready (rs := [0, 2]) (by kernel_rfl) (by simp) ?_
        refine (AllReadyH.cons (o := ?ou9) ?hiu9 (fun K hK => ?stu9) (AllReadyH.cons (o := ?ou8) ?hiu8 (fun K hK => ?stu8) AllReadyH.nil))
        case hiu9 => (simp only [List.getElem?_toArray, List.getElem?_cons_zero]; rfl)
        case hiu8 => (simp only [List.getElem?_toArray, List.getElem?_cons_succ, List.getElem?_cons_zero]; rfl)
        case stu9 =>
          have y0 := C.out.box.c0
          have y1 := C.out.box.c1
          have y2 := C.out.box.c2
          have y3 := C.out.box.c3
          have y4 := C.out.box.c4
          have y5 := C.out.box.c5
          have y6 := C.out.box.c6
          have y7 := C.out.box.c7
          have y8 := C.out.box.c8
          go_simp
          refine hK.out _ _ (by trivial) (fun _ => ?_)
          clear hK K
          try simp only [Act.put, List.setIfInBounds_toArray, List.set_cons_zero, List.set_cons_succ]
          clear y0 y1 y2 y3 y4 y5 y6 y7 y8
          refine wpAnyH_ready (rs := [2]) (by kernel_rfl) (by simp) ?_
          refine (AllReadyH.cons (o := ?ou10) ?hiu10 (fun K hK => ?stu10) AllReadyH.nil)
          case hiu10 => (simp only [List.getElem?_toArray, List.getElem?_cons_succ, List.getElem?_cons_zero]; rfl)
          case stu10 =>
            go_simp
            go_at_call 24
            (with_reducible refine (jfirst_any j1 q1 _ _ C.out.jw.rw C.out.jw.w1 KW.out).mono ?_)
            rintro e wy ⟨rfl, hb⟩
            rw [hfi.out]
            dsimp only
            refine hK.out _ _ (by trivial) (fun _ => ?_)
            clear hK K
            try simp only [Act.put, List.setIfInBounds_toArray, List.set_cons_zero, List.set_cons_succ]
            replace C := Lib.hid (C.out.step hb)
            clear hb
            refine wpAnyH_ready (rs := [3]) (by kernel_rfl) (by simp) ?_
            refine (AllReadyH.cons (o := ?ou11) ?hiu11 (fun K hK => ?stu11) AllReadyH.nil)
            case hiu11 => (simp only [List.getElem?_toArray, List.getElem?_cons_succ, List.getElem?_cons_zero]; rfl)
            case stu11 =>
              go_simp
              go_at_call 23
              (with_reducible refine (jlack_any j1 q1 fi F w.heap.size _ C.out.jw C.out.off.size KT.out NB.out.1 NB.out.2 EB.out.1 EB.out.2).mono ?_)
              rintro e wz ⟨q2, rfl, hw2, ho2, hm2⟩
              dsimp only
              refine hK.out _ _ (by trivial) (fun _ => ?_)
              clear hK K
              try simp only [Act.put, List.setIfInBounds_toArray, List.set_cons_zero, List.set_cons_succ]
              replace C := Lib.hid (C.out.call (by omega) (by omega) hw2 ho2 hm2)
              clear hw2 ho2 hm2
              refine wpAnyH_ready (rs := [4]) (by kernel_rfl) (by simp) ?_
              refine (AllReadyH.cons (o := ?ou12) ?hiu12 (fun K hK => ?stu12) AllReadyH.nil)
              case hiu12 => (simp only [List.getElem?_toArray, List.getElem?_cons_succ, List.getElem?_cons_zero]; rfl)
              case stu12 =>
                go_simp
                go_at_call 22
                (with_reducible refine (jrun_any (jlack j1 fi) q2 M F w.heap.size _ C.out.jw HOKL.out HMM.out C.out.off.size).mono ?_)
                rintro e wx ⟨q3, rfl, hw3, ho3, hm3⟩
                dsimp only
                refine hK.out _ _ (by trivial) (fun _ => ?_)
                clear hK K
                try simp only [Act.put, List.setIfInBounds_toArray, List.set_cons_zero, List.set_cons_succ]
                replace C := Lib.hid (C.out.call (by omega) (by omega) hw3 ho3 hm3)
                clear hw3 ho3 hm3
                refine wpAnyH_ready (rs := [5]) (by kernel_rfl) (by simp) ?_
                refine (AllReadyH.cons (o := ?ou13) ?hiu13 (fun K hK => ?stu13) AllReadyH.nil)
                case hiu13 => (simp only [List.getElem?_toArray, List.getElem?_cons_succ, List.getElem?_cons_zero]; rfl)
                case stu13 =>
                  have y0 := C.out.box.c0
                  have y1 := C.out.box.c1
                  have y2 := C.out.box.c2
                  have y3 := C.out.box.c3
                  have y4 := C.out.box.c4
                  have y5 := C.out.box.c5
                  have y6 := C.out.box.c6
                  have y7 := C.out.box.c7
                  have y8 := C.out.box.c8
                  have f0 := C.out.box.fz 0
                  have f1 := C.out.box.fz 1
                  have f2 := C.out.box.fz 2
                  have f3 := C.out.box.fz 3
                  have f4 := C.out.box.fz 4
                  have f5 := C.out.box.fz 5
                  have f6 := C.out.box.fz 6
                  have f7 := C.out.box.fz 7
                  have f8 := C.out.box.fz 8
                  go_simp
                  refine hK.out _ _ (by trivial) (fun _ => ?_)
                  clear hK K
                  try simp only [Act.put, List.setIfInBounds_toArray, List.set_cons_zero, List.set_cons_succ]
                  clear y0 y1 y2 y3 y4 y5 y6 y7 y8 f0 f1 f2 f3 f4 f5 f6 f7 f8
                  replace C := Lib.hid (C.out.s9 (by omega) (by omega))
                  refine wpAnyH_done (by kernel_rfl) ?_ _
                  go_wp2_with fail
                  go_roundw
                  case rel => exact ⟨_, q3, n + 1, HJN, Lib.hid HU3.out.1, Lib.hid HU3.out.2.1, C⟩
                  case measure => rw [NX.out, C.out.box.nx]; have := HU3.out.1.n1; have := HU3.out.2.2; omega
        case stu8 =>
          go_simp
          go_at_call 24
          (with_reducible refine (jfirst_any j1 q1 _ _ C.out.jw.rw C.out.jw.w1 KW.out).mono ?_)
          rintro e wy ⟨rfl, hb⟩
          rw [hfi.out]
          dsimp only
          refine hK.out _ _ (by trivial) (fun _ => ?_)
          clear hK K
          try simp only [Act.put, List.setIfInBounds_toArray, List.set_cons_zero, List.set_cons_succ]
          replace C := Lib.hid (C.out.step hb)
          clear hb
          refine wpAnyH_ready (rs := [0]) (by kernel_rfl) (by simp) ?_
          refine (AllReadyH.cons (o := ?ou14) ?hiu14 (fun K hK => ?stu14) AllReadyH.nil)
          case hiu14 => (simp only [List.getElem?_toArray, List.getElem?_cons_zero]; rfl)
          case stu14 =>
            have y0 := C.out.box.c0
            have y1 := C.out.box.c1
            have y2 := C.out.box.c2
            have y3 := C.out.box.c3
            have y4 := C.out.box.c4
            have y5 := C.out.box.c5
            have y6 := C.out.box.c6
            have y7 := C.out.box.c7
            have y8 := C.out.box.c8
            go_simp
            refine hK.out _ _ (by trivial) (fun _ => ?_)
            clear hK K
            try simp only [Act.put, List.setIfInBounds_toArray, List.set_cons_zero, List.set_cons_succ]
            clear y0 y1 y2 y3 y4 y5 y6 y7 y8
            refine wpAnyH_ready (rs := [3]) (by kernel_rfl) (by simp) ?_
            refine (AllReadyH.cons (o := ?ou15) ?hiu15 (fun K hK => ?stu15) AllReadyH.nil)
            case hiu15 => (simp only [List.getElem?_toArray, List.getElem?_cons_succ, List.getElem?_cons_zero]; rfl)
            case stu15 =>
              go_simp
              go_at_call 23
              (with_reducible refine (jlack_any j1 q1 fi F w.heap.size _ C.out.jw C.out.off.size KT.out NB.out.1 NB.out.2 EB.out.1 EB.out.2).mono ?_)
              rintro e wz ⟨q2, rfl, hw2, ho2, hm2⟩
              dsimp only
              refine hK.out _ _ (by trivial) (fun _ => ?_)
              clear hK K
              try simp only [Act.put, List.setIfInBounds_toArray, List.set_cons_zero, List.set_cons_succ]
              replace C := Lib.hid (C.out.call (by omega) (by omega) hw2 ho2 hm2)
              clear hw2 ho2 hm2
              refine wpAnyH_ready (rs := [4]) (by kernel_rfl) (by simp) ?_
              refine (AllReadyH.cons (o := ?ou16) ?hiu16 (fun K hK => ?stu16) AllReadyH.nil)
              case hiu16 => (simp only [List.getElem?_toArray, List.getElem?_cons_succ, List.getElem?_cons_zero]; rfl)
              case stu16 =>
                go_simp
                go_at_call 22
                (with_reducible refine (jrun_any (jlack j1 fi) q2 M F w.heap.size _ C.out.jw HOKL.out HMM.out C.out.off.size).mono ?_)
                rintro e wx ⟨q3, rfl, hw3, ho3, hm3⟩
                dsimp only
                refine hK.out _ _ (by trivial) (fun _ => ?_)
                clear hK K
                try simp only [Act.put, List.setIfInBounds_toArray, List.set_cons_zero, List.set_cons_succ]
                replace C := Lib.hid (C.out.call (by omega) (by omega) hw3 ho3 hm3)
                clear hw3 ho3 hm3
                refine wpAnyH_ready (rs := [5]) (by kernel_rfl) (by simp) ?_
                refine (AllReadyH.cons (o := ?ou17) ?hiu17 (fun K hK => ?stu17) AllReadyH.nil)
                case hiu17 => (simp only [List.getElem?_toArray, List.getElem?_cons_succ, List.getElem?_cons_zero]; rfl)
                case stu17 =>
                  have y0 := C.out.box.c0
                  have y1 := C.out.box.c1
                  have y2 := C.out.box.c2
                  have y3 := C.out.box.c3
                  have y4 := C.out.box.c4
                  have y5 := C.out.box.c5
                  have y6 := C.out.box.c6
                  have y7 := C.out.box.c7
                  have y8 := C.out.box.c8
                  have f0 := C.out.box.fz 0
                  have f1 := C.out.box.fz 1
                  have f2 := C.out.box.fz 2
                  have f3 := C.out.box.fz 3
                  have f4 := C.out.box.fz 4
                  have f5 := C.out.box.fz 5
                  have f6 := C.out.box.fz 6
                  have f7 := C.out.box.fz 7
                  have f8 := C.out.box.fz 8
                  go_simp
                  refine hK.out _ _ (by trivial) (fun _ => ?_)
                  clear hK K
                  try simp only [Act.put, List.setIfInBounds_toArray, List.set_cons_zero, List.set_cons_succ]
                  clear y0 y1 y2 y3 y4 y5 y6 y7 y8 f0 f1 f2 f3 f4 f5 f6 f7 f8
                  replace C := Lib.hid (C.out.s9 (by omega) (by omega))
                  refine wpAnyH_done (by kernel_rfl) ?_ _
                  go_wp2_with fail
                  go_roundw
                  case rel => exact ⟨_, q3, n + 1, HJN, Lib.hid HU3.out.1, Lib.hid HU3.out.2.1, C⟩
                  case measure => rw [NX.out, C.out.box.nx]; have := HU3.out.1.n1; have := HU3.out.2.2; omega
    · have hw' : ¬ (0 : Int) < (q1.wn : Int) := by omega
      have hw0 := Lib.hid (show q1.wn = 0 by omega)
      have HE := Lib.hid (show jflush j = j1 by rw [HJF.out, ← hn.out]; exact jover_of (by rw [hn.out]; exact jush_none (by rw [C.out.jw.w1, hw0.out]; decide)))
      go_upto_region 4 with fail
      clear hw'
      have C2 := Lib.hid C.out.drew
      have y0' := C2.out.box.c0
      have y1' := C2.out.box.c1
      have y2' := C2.out.box.c2
      have y3' := C2.out.box.c3
      have y4' := C2.out.box.c4
      have y5' := C2.out.box.c5
      have y6' := C2.out.box.c6
      have y7' := C2.out.box.c7
      have y8' := C2.out.box.c8
      have r0 := C2.out.res.fz 0
      have r1 := C2.out.res.fz 1
      have r2 := C2.out.res.fz 2
      have r3 := C2.out.res.fz 3
      have r4 := C2.out.res.fz 4
      have r5 := C2.out.res.fz 5
      have r6 := C2.out.res.fz 6
      have r7 := C2.out.res.fz 7
      have r8 := C2.out.res.fz 8
      have v0 := C2.out.res.c0
      have v1 := C2.out.res.c1
      have v2 := C2.out.res.c2
      have v3 := C2.out.res.c3
      have v4 := C2.out.res.c4
      have v5 := C2.out.res.c5
      have v6 := C2.out.res.c6
      have v7 := C2.out.res.c7
      have v8 := C2.out.res.c8
      have y0 := C.out.box.c0
      have y1 := C.out.box.c1
      have y2 := C.out.box.c2
      have y3 := C.out.box.c3
      have y5 := C.out.box.c5
      have y6 := C.out.box.c6
      have y7 := C.out.box.c7
      have y8 := C.out.box.c8
      have r0' := C.out.res.fz 0
      have r1' := C.out.res.fz 1
      have r2' := C.out.res.fz 2
      have r3' := C.out.res.fz 3
      have r4' := C.out.res.fz 4
      have r5' := C.out.res.fz 5
      have r6' := C.out.res.fz 6
      have r7' := C.out.res.fz 7
      have r8' := C.out.res.fz 8
      have v0' := C.out.res.c0
      have v1' := C.out.res.c1
      have v2' := C.out.res.c2
      have v3' := C.out.res.c3
      have v4' := C.out.res.c4
      have v5' := C.out.res.c5
      have v6' := C.out.res.c6
      have v7' := C.out.res.c7
      have v8' := C.out.res.c8
      go_region
      clear y0' r0 v0 y0 r0' v0' y1' r1 v1 y1 r1' v1' y2' r2 v2 y2 r2' v2' y3' r3 v3 y3 r3' v3' y4' r4 v4 y4 r4' v4' y5' r5 v5 y5 r5' v5' y6' r6 v6 y6 r6' v6' y7' r7 v7 y7 r7' v7' y8' r8 v8 y8 r8' v8'
      go_wp2_with fail
      rw [HE.out]
      obtain ⟨p1, p2, -, -⟩ := C.out.put (by omega)
      have p5 := C.out.put_below Q0.out
      have p6 := p1.on (Below.refl _ _).drew
      have p7 := (p2.jr fun b hb => .inr hb).on (Below.refl _ _).drew
      have p8 := p5.drew
      refine bodyPost_ret (v := .tuple #[j1.val q1, q1.tv]) ?_ rfl ⟨q1, rfl, p7, p8⟩
      exact jo_res rfl _ _ _ (w.heap.size + 1) 33 _ _ _ rfl rfl p6 Tryd.underlying33 (by kernel_rfl)
end Go.Proofs.YtamdaepeogmboaaDoor
