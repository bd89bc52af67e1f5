/-
  What both Gets of layer 22 answer, and what their walks carry. No condition.
-/
import Derived.Test.YtmhjnghomihjlaaGreatEthV
namespace Go.Proofs.YtmhjnghomihjlaaGreat
set_option maxRecDepth 8000
set_option maxHeartbeats 80000000
set_option linter.unusedVariables false
open Go.RowKit
def GetE (w:World) (f:Fr) (n k:Nat) (e:Ending) (w':World):Prop:=∃ q,e=.returned (.tuple #[f.val q,.int .i64 (n:Int),.int .i64 (k:Int)])∧FwF (fun _=>True) w' f q∧Below w.heap.size w w'
theorem GetE.mk {w w':World} {f:Fr} {n k:Nat} {e:Ending} (q:Fl) (h1:e=.returned (.tuple #[f.val q,.int .i64 (n:Int),.int .i64 (k:Int)])) (h2:FwF (fun _=>True) w' f q) (h3:Below w.heap.size w w'):GetE w f n k e w':=⟨q,h1,h2,h3⟩
structure ReF (T:TypeId) (w W:World):Prop where
 bel:Below w.heap.size w W
 res:Fx W w.heap.size T fr0 fl0
theorem ReF.made (T:TypeId) (w:World):ReF T w (w.alloc (obj0F T)):=⟨(Below.refl _ _).alloc (Nat.le_refl _) _,fx0 (heap_alloc_new w _)⟩
theorem ReF.step {T:TypeId} {w W W':World} (h:ReF T w W) (hb:Below W.heap.size W W'):ReF T w W':=⟨h.bel.trans (hb.mono h.bel.size),h.res.below hb⟩
structure GfE (T:TypeId) (w W:World) (g:Nat) (f:Fr) (q:Fl):Prop where
 re:ReF T w W
 lt:w.heap.size<g
 cf:Fx W g T f q
theorem GfE.step {T:TypeId} {w W W':World} {g:Nat} {f:Fr} {q:Fl} (h:GfE T w W g f q) (hb:Below W.heap.size W W'):GfE T w W' g f q:=⟨h.re.step hb,h.lt,h.cf.below hb⟩
theorem GfE.new {T:TypeId} {w W:World} (h:ReF T w W) (f:Fr) (q:Fl) (g:Nat) (hg:W.heap.size=g):GfE T w (W.alloc (f.obj q T)) g f q:=by
 subst hg
 exact ⟨h.step ((Below.refl _ _).alloc (Nat.le_refl _) _),h.res.lt,fx_new W T f q⟩
theorem ad6 {a b:Nat} (h:6+a=b):(6:Int)+(a:Int)=(b:Int):=by omega
theorem ti64c {a b:Nat} (h:6+a=b) (h2:a<65536):IntKind.i64.wrap (b:Int)=(b:Int):=IntWalk.i64_in _ (by omega)
theorem lt6 {l a n b:Nat} (h1:l+6=n) (h2:6+a=b) (h3:l<a):(n:Int)<(b:Int):=by omega
theorem ge6 {l a n b:Nat} (h1:l+6=n) (h2:6+a=b) (h3:a≤l):¬ (n:Int)<(b:Int):=by omega
theorem lt2 {a:Nat} (h:a<2):(a:Int)<2:=by omega
theorem sl6 {l a n b c:Nat} (h1:l+6=n) (h2:6+a=b) (h3:a≤l) (h4:n≤c):(6:Int)≤(b:Int)∧(b:Int)≤(c:Int)∧b - 6=a∧a≤c - 6:=by omega
theorem results_row_tmp2 {fn:Func} {p u v:Tmp} {ty:TypeId} (h:fn.results=#[.cell p ty,.tmp u,.tmp v]) (tmps:Array Value) (a b:Value) (w:World) (g:Nat) (t:TypeId) (cs:Array Value) (fr:Nat × Nat) (fs:Array Field)
  (hp:tmps.getD p undef=.pointer (some ⟨g,0,none⟩)) (ha:tmps.getD u undef=a) (hb:tmps.getD v undef=b) (hg:w.heap[g]?=some (.cells cs t fr))
  (hu:Tryz.prog.underlying ty=some (.struct fs)) (hi:(Tryz.prog.info? ty).map (·.size)=some cs.size) :
  (results fn tmps).run Tryz.prog w=.ok (.tuple #[.agg cs,a,b]) w:=by
 have hp':tmps[p]?.getD undef=.pointer (some ⟨g,0,none⟩):=by simpa using hp
 have ha':tmps[u]?.getD undef=a:=by simpa using ha
 have hb':tmps[v]?.getD undef=b:=by simpa using hb
 simp only [results,h]
 simp [Result.andThen,hp',ha',hb',asAddr,run_loadVar_row w g t ty cs fr _ hg hu rfl hi]
theorem ge2 {a:Nat} (h:2≤a):¬ (a:Int)<2:=by omega
theorem gi0 {a:Nat} (h:2≤a):0<a:=by omega
theorem gi1 {a:Nat} (h:2≤a):(1:Int)<(a:Int):=by omega
theorem gi2 {a:Nat} (h:2≤a):(2:Int)≤(a:Int):=by omega
theorem sl8 {l a n c:Nat} (h1:l+2+6=n) (h3:a≤l+2) (h4:n≤c) (h5:2≤a):(a:Int)≤((c - 6:Nat):Int)∧a - 2≤c - 6 - 2∧a - 2≤l∧a≤c - 6:=by omega
end Go.Proofs.YtmhjnghomihjlaaGreat
