
/-
  A packet is written into a frame's block, cell by cell. No condition.
-/
import Derived.Test.YtmhjnghomihjlaaEthF
namespace Go.Proofs.Ytmhjnghomihjlaa
set_option maxRecDepth 4000
open Go.RowKit
set_option linter.unusedVariables false

theorem tw64 (n : Nat) (h : n < 65536) : wrap64 (n : Int) = (n : Int) := IntWalk.wrap64_in _ (by omega)
theorem ti64 (n : Nat) (h : n < 65536) : IntKind.i64.wrap (n : Int) = (n : Int) := IntWalk.i64_in _ (by omega)
theorem z0f (n : Nat) (h : ¬ n = 0) : ((n : Int) == 0) = false := by rw [beq_eq_false_iff_ne]; omega
theorem z0t (n : Nat) (h : ¬ n = 0) : ((n : Int) != 0) = true := by rw [bne_iff_ne]; omega
theorem dv1 {n z : Nat} (h : n / 256 = z) (hn : n < 65536) : z < 256 := by omega
theorem md1 {n z : Nat} (h : n % 256 = z) : z < 256 := by omega
theorem dvI {n z : Nat} (h : n / 256 = z) : (n : Int) / 256 = (z : Int) := by omega
theorem mdI {n z : Nat} (h : n % 256 = z) : (n : Int).tmod 256 = (z : Int) := by rw [Int.tmod_eq_emod_of_nonneg (Int.natCast_nonneg _)]; omega
theorem wr8 {z : Nat} (h : z < 256) : IntKind.u8.wrap (z : Int) = (z : Int) := by apply IntWalk.u8_in; omega
theorem wr16 {z : Nat} (h : z < 256) : IntKind.u16.wrap (z : Int) = (z : Int) := by apply IntWalk.u16_in; omega
theorem le94 {n : Nat} (h : n ≤ 1494) : ¬ (1494 : Int) < (n : Int) := by omega
theorem gt94 {n : Nat} (h : 1494 < n) : (1494 : Int) < (n : Int) := by omega
/-- A packet into a frame's block. -/
abbrev putP3 (w : World) (b : Nat) (p : Pk) (q : Pl) : World := (((((((((w.setCell ⟨b, 3, none⟩ (.int .u16 (p.proto : Int))).setCell ⟨b, 4, none⟩ (.int .u8 (p.code : Int))).setCell ⟨b, 5, none⟩ (.int .u8 (p.id : Int))).setCell ⟨b, 6, none⟩ (.slice q.ao q.no q.co)).setCell ⟨b, 7, none⟩ (.int .u16 (p.sub : Int))).setCell ⟨b, 8, none⟩ (.int .u32 (p.magic : Int))).setCell ⟨b, 9, none⟩ (.slice q.a1 q.n1 q.c1)).setCell ⟨b, 10, none⟩ (.slice q.a2 q.n2 q.c2)).setCell ⟨b, 11, none⟩ (.slice q.ad q.nd q.cd)).setCell ⟨b, 12, none⟩ (.slice q.an q.nn q.cn)
theorem putP3_below {W w : World} {B b : Nat} (h : Below B W w) (hb : B ≤ b) (p : Pk) (q : Pl) : Below B W (putP3 w b p q) := (((((((((h.setCell (p := ⟨b, 3, none⟩) hb _).setCell (p := ⟨b, 4, none⟩) hb _).setCell (p := ⟨b, 5, none⟩) hb _).setCell (p := ⟨b, 6, none⟩) hb _).setCell (p := ⟨b, 7, none⟩) hb _).setCell (p := ⟨b, 8, none⟩) hb _).setCell (p := ⟨b, 9, none⟩) hb _).setCell (p := ⟨b, 10, none⟩) hb _).setCell (p := ⟨b, 11, none⟩) hb _).setCell (p := ⟨b, 12, none⟩) hb _
theorem putP3_keeps (w : World) (b : Nat) (p : Pk) (q : Pl) : Keeps (fun i => i ≠ b) w (putP3 w b p q) :=
  (((((((((keeps_set _ _ _ _).trans (keeps_set _ _ _ _)).trans (keeps_set _ _ _ _)).trans (keeps_set _ _ _ _)).trans (keeps_set _ _ _ _)).trans (keeps_set _ _ _ _)).trans (keeps_set _ _ _ _)).trans (keeps_set _ _ _ _)).trans (keeps_set _ _ _ _)).trans (keeps_set _ _ _ _)
theorem Fx.putP3Other {w : World} {b d : Nat} {t : TypeId} {f : Fr} {q : Fl} (h : Fx w b t f q) (p : Pk) (r : Pl) (hne : b ≠ d) : Fx (putP3 w d p r) b t f q :=
  (((((((((h.other _ hne).other _ hne).other _ hne).other _ hne).other _ hne).other _ hne).other _ hne).other _ hne).other _ hne).other _ hne
theorem Fx.setPkt {w : World} {b : Nat} {t : TypeId} {f : Fr} {q : Fl} (h : Fx w b t f q) (p : Pk) (r : Pl) : Fx (putP3 w b p r) b t { f with pkt := p } { q with pl := r } :=
  (((((((((h.setProto p.proto).setPcode p.code).setId p.id).setOpts r.ao r.no r.co p.opts).setSub p.sub).setMagic p.magic).setOne r.a1 r.n1 r.c1 p.one).setTwo r.a2 r.n2 r.c2 p.two).setData r.ad r.nd r.cd p.data).setNums r.an r.nn r.cn p.nums
/-- A call stands in the world W: to be said under 'with_reducible', ahead of what fits that world alone. -/
theorem at_calls {n : FuncId} {args : Array Value} (W : World) {K : Ending → World → Prop} (h : Calls Try.prog n args W K) : Calls Try.prog n args W K := h
end Go.Proofs.Ytmhjnghomihjlaa
