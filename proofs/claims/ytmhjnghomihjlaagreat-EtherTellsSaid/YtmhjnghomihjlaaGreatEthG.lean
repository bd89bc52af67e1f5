/-
  What the program's read and Get of layer 22 answer. No condition beyond: at most 2^30 octets.
-/
import Derived.Test.YtmhjnghomihjlaaGreatEthC
import Derived.Test.YtmhjnghomihjlaaGreatEthO
import Derived.Test.YtmhjnghomihjlaaGreatEthU
import Derived.Deep.CutRange
import Derived.Deep.RegionHeld3
namespace Go.Proofs.YtmhjnghomihjlaaGreat
set_option maxRecDepth 8000
set_option maxHeartbeats 80000000
set_option linter.unusedVariables false
open Go.RowKit
theorem tgget_w (F:Nat→Prop) (b:List Nat) (l:List (Nat × List Nat)) (q k:Nat) (hg:tgget b=(l,q,k)) (m:Nat) (hm:l.length=m) (n c:Nat) (A:Option Addr) (w:World) (hF:∀ i,w.heap.size≤i→F i) (h:Rd w w.heap.size A b) (hb:By b) (hl:b.length=n) (hn:n≤1073741824) (hc:n≤c) :
  Calls Tryz.prog 53 #[.slice A n c] w fun e w'=>∃ A' c',e=.returned (.tuple #[.slice A' m c',.int .i64 (q:Int),.int .i64 (k:Int)])∧m≤c'∧Rws shG F w' A' l∧Below w.heap.size w w' :=
 (tgget_any b n c A w h hb hl hn hc).mono fun _ _ ⟨v,h1,h2,h3⟩=>by
  rw [hg] at h1 h2
  obtain ⟨A',c',rfl,hc2,_,hr⟩:=h2.slice
  rw [hm] at h1 hc2
  exact ⟨A',c',h1,hc2,hr.mono (fun i _ hi=>hi.elim (hF i) (hF i)),h3⟩
theorem results_row_t1 {fn:Func} {p u:Tmp} {ty:TypeId} (h:fn.results=#[.cell p ty,.tmp u]) (tmps:Array Value) (v:Value) (w:World) (g:Nat) (t:TypeId) (cs:Array Value) (fr:Nat × Nat) (fs:Array Field)
  (hp:tmps.getD p undef=.pointer (some ⟨g,0,none⟩)) (hv:tmps.getD u undef=v) (hg:w.heap[g]?=some (.cells cs t fr))
  (hu:Tryz.prog.underlying ty=some (.struct fs)) (hi:(Tryz.prog.info? ty).map (·.size)=some cs.size) :
  (results fn tmps).run Tryz.prog w=.ok (.tuple #[.agg cs,v]) w:=by
 have hp':tmps[p]?.getD undef=.pointer (some ⟨g,0,none⟩):=by simpa using hp
 have hv':tmps[u]?.getD undef=v:=by simpa using hv
 rw [results_cell_tmp h]
 simp [hp',hv',asAddr,run_loadVar_row w g t ty cs fr _ hg hu rfl hi,Result.andThen]
def eread1 (f:Fr) (m:List Nat):Fr × Nat :=
 if f.code=0 then
  match m with
  | x :: y :: t=>({ f with pkt:=(bgetB (x*256+y) t).1 },(bgetB (x*256+y) t).2)
  | _=>(f,2)
 else ({ f with tags:=(tgget m).1 },(tgget m).2.2)
theorem eread_one (c s n:Nat) (m:List Nat):eread c s n m=if (eread1 ⟨c,s,[],pk0⟩ m).2=0 then ((eread1 ⟨c,s,[],pk0⟩ m).1,6+n,0) else ebad (eread1 ⟨c,s,[],pk0⟩ m).2:=by
 unfold eread eread1
 by_cases hc:c=0
 ·rw [if_pos hc,if_pos hc]
  match m with
  | []=>rfl
  | [_]=>rfl
  | x :: y :: t=>rfl
 ·rw [if_neg hc,if_neg hc]
def ReadE (F:Nat→Prop) (w:World) (f:Fr) (k:Nat) (e:Ending) (w':World):Prop:=∃ q,e=.returned (.tuple #[f.val q,.int .i64 (k:Int)])∧FwF F w' f q∧Below w.heap.size w w'
theorem ReadE.mk {F:Nat→Prop} {w w':World} {f:Fr} {k:Nat} {e:Ending} (q:Fl) (h1:e=.returned (.tuple #[f.val q,.int .i64 (k:Int)])) (h2:FwF F w' f q) (h3:Below w.heap.size w w'):ReadE F w f k e w':=⟨q,h1,h2,h3⟩
theorem erd_short (F:Nat→Prop) (f:Fr) (q:Fl) (w:World) (hF:∀ i,w.heap.size≤i→F i) (hf:FwF F w f q) (b:List Nat) (n cap:Nat) (A:Option Addr) (h:Rd w w.heap.size A b) (hb:By b) (hl:b.length=n) (hn:n≤1073741824) (hc:n≤cap) (hc0:f.code=0) (h2:n<2) :
  Calls Tryz.prog 31 #[f.val q,.slice A n cap] w (ReadE F w f 2):=by
 have C:=hI (OfF.made 42 42 w f q)
 have H:=hI (hf.mono (G:=fun b=>F b∧b<w.heap.size) (fun b hb hf=>⟨hf,hb⟩))
 have HFF:=hI hF
 obtain ⟨wm,hwm⟩:∃ wm,wm=(w.alloc (f.obj q 42)).alloc (obj0F 42):=⟨_,rfl⟩
 rw [←hwm] at C
 have HW:=hI hwm
 obtain ⟨G,hG⟩:∃ G,Hid (G=Nf F w.heap.size (w.heap.size+1)):=⟨_,hI rfl⟩
 have HG:=hI (show ∀ W,Below wm.heap.size wm W→FwF G W f q by
  rw [hG.out]
  exact fun W hW=>((H.out.on C.out.bel).on hW).mono (fun i _ hi=>⟨hi.1,Nat.ne_of_lt hi.2,Nat.ne_of_lt (Nat.lt_succ_of_lt hi.2)⟩))
 have FG:=hI (show ∀ W,Below wm.heap.size wm W→∀ i,W.heap.size≤i→G i by
  rw [hG.out]
  exact fun W hW i hi=>by
   have h1:=Nat.lt_of_lt_of_le C.out.lt (Nat.le_trans hW.size hi)
   exact ⟨HFF.out i (Nat.le_of_lt (Nat.lt_trans (Nat.lt_succ_self _) h1)),Nat.ne_of_gt (Nat.lt_trans (Nat.lt_succ_self _) h1),Nat.ne_of_gt h1⟩)
 have GF:=hI (show ∀ i,G i→F i∧i≠w.heap.size∧i≠w.heap.size+1 by rw [hG.out];exact fun i hi=>hi)
 clear hf hF hwm H HFF hG
 have j1:((f.code:Int) != 0)=false:=by rw [hc0];rfl
 have j2:=lt2 h2
 clear h hb hl hn hc hc0 h2
 go_enter Tryz.func31,Tryz.ntmps31
 go_upto_region 1 with fail
 rw [←HW.out]
 have D:=hI (Below.refl wm.heap.size wm)
 obtain ⟨x0,x1,x2,x3,x4,x5,x6,x7,x8,x9,x10,x11,x12⟩:=C.out.cf.all
 obtain ⟨y0,y1,y2,y3,y4,y5,y6,y7,y8,y9,y10,y11,y12⟩:=C.out.res.all
 obtain ⟨z0,z1,z2,z3,z4,z5,z6,z7,z8,z9,z10,z11,z12⟩:=C.out.res.free
 go_wp2_with fail
 refine bodyPost_ret (v:=.tuple #[Fr.val f q,.int .i64 2]) ?_ rfl (ReadE.mk q rfl (((HG.out _ D.out).keep ((put13_keeps wm (w.heap.size+1) f q).less (fun i _ h=>(GF.out i h).2.2))).mono (fun i _ h=>(GF.out i h).1)) (put13_below C.out.bel (Nat.le_succ _) f q))
 exact results_row_t1 rfl _ _ _ (w.heap.size+1) 42 _ _ _ rfl rfl (put13_fx C.out.res f q) Tryz.underlying42 (by kernel_rfl)
theorem erd_tags (F:Nat→Prop) (f:Fr) (q:Fl) (w:World) (hF:∀ i,w.heap.size≤i→F i) (hf:FwF F w f q) (b:List Nat) (n cap:Nat) (A:Option Addr) (h:Rd w w.heap.size A b) (hb:By b) (hl:b.length=n) (hn:n≤1073741824) (hc:n≤cap) (hc0:¬ f.code=0) (lt:List (Nat × List Nat)) (ct kt:Nat) (hgt:tgget b=(lt,ct,kt)) :
  Calls Tryz.prog 31 #[f.val q,.slice A n cap] w (ReadE F w { f with tags:=lt } kt):=by
 have C:=hI (OfF.made 42 42 w f q)
 have H:=hI (hf.mono (G:=fun b=>F b∧b<w.heap.size) (fun b hb hf=>⟨hf,hb⟩))
 have HFF:=hI hF
 obtain ⟨wm,hwm⟩:∃ wm,wm=(w.alloc (f.obj q 42)).alloc (obj0F 42):=⟨_,rfl⟩
 rw [←hwm] at C
 have HW:=hI hwm
 obtain ⟨G,hG⟩:∃ G,Hid (G=Nf F w.heap.size (w.heap.size+1)):=⟨_,hI rfl⟩
 have HG:=hI (show ∀ W,Below wm.heap.size wm W→FwF G W f q by
  rw [hG.out]
  exact fun W hW=>((H.out.on C.out.bel).on hW).mono (fun i _ hi=>⟨hi.1,Nat.ne_of_lt hi.2,Nat.ne_of_lt (Nat.lt_succ_of_lt hi.2)⟩))
 have FG:=hI (show ∀ W,Below wm.heap.size wm W→∀ i,W.heap.size≤i→G i by
  rw [hG.out]
  exact fun W hW i hi=>by
   have h1:=Nat.lt_of_lt_of_le C.out.lt (Nat.le_trans hW.size hi)
   exact ⟨HFF.out i (Nat.le_of_lt (Nat.lt_trans (Nat.lt_succ_self _) h1)),Nat.ne_of_gt (Nat.lt_trans (Nat.lt_succ_self _) h1),Nat.ne_of_gt h1⟩)
 have GF:=hI (show ∀ i,G i→F i∧i≠w.heap.size∧i≠w.heap.size+1 by rw [hG.out];exact fun i hi=>hi)
 clear hf hF hwm H HFF hG
 have j1:=ez0t f.code hc0
 have HR:=hI (show ∀ W,Below wm.heap.size wm W→Rd W W.heap.size A b from fun W hW=>(h.on C.out.bel).on hW)
 have HB:=hI hb
 have HL:=hI hl
 have HGT:=hI hgt
 obtain ⟨mt,hmt⟩:∃ m,Hid (lt.length=m):=⟨_,hI rfl⟩
 have HN:=hI hn
 have HC:=hI hc
 clear h hb hl hn hc hc0 hgt
 go_enter Tryz.func31,Tryz.ntmps31
 go_upto_region 1 with fail
 rw [←HW.out]
 have D:=hI (Below.refl wm.heap.size wm)
 obtain ⟨x0,x1,x2,x3,x4,x5,x6,x7,x8,x9,x10,x11,x12⟩:=C.out.cf.all
 obtain ⟨y0,y1,y2,y3,y4,y5,y6,y7,y8,y9,y10,y11,y12⟩:=C.out.res.all
 obtain ⟨z0,z1,z2,z3,z4,z5,z6,z7,z8,z9,z10,z11,z12⟩:=C.out.res.free
 go_upto_region 7 with (first
  | (go_at_call 53;(with_reducible refine (tgget_w G b lt ct kt HGT.out mt hmt.out n cap A _ (FG.out _ D.out) (HR.out _ D.out) HB.out HL.out HN.out HC.out).mono ?_);rintro e wn ⟨A5,c5,rfl,h5c,h5,hb⟩;replace C:=hI (C.out.step hb);replace D:=hI (D.out.trans (hb.mono D.out.size));have RT:=hI h5;have HC5:=hI h5c;clear hb h5 h5c x0 x1 x2 x3 x4 x5 x6 x7 x8 x9 x10 x11 x12 y0 y1 y2 y3 y4 y5 y6 y7 y8 y9 y10 y11 y12 z0 z1 z2 z3 z4 z5 z6 z7 z8 z9 z10 z11 z12;obtain ⟨x0,x1,x2,x3,x4,x5,x6,x7,x8,x9,x10,x11,x12⟩:=C.out.cf.all;obtain ⟨y0,y1,y2,y3,y4,y5,y6,y7,y8,y9,y10,y11,y12⟩:=C.out.res.all;obtain ⟨z0,z1,z2,z3,z4,z5,z6,z7,z8,z9,z10,z11,z12⟩:=C.out.res.free;have z2':=C.out.cf.free.2.2.1))
 have BB:=hI (show Below w.heap.size w (wn.setCell ⟨w.heap.size,2,none⟩ (.slice A5 mt c5)) from C.out.bel.setCell (p:=⟨w.heap.size,2,none⟩) (Nat.le_refl _) (.slice A5 mt c5))
 have D2:=hI (⟨BB.out,C.out.cf.setTags A5 mt c5 lt,C.out.res.other _ (Nat.succ_ne_self _)⟩:OfF 42 42 w (wn.setCell ⟨w.heap.size,2,none⟩ (.slice A5 mt c5)) { f with tags:=lt } { q with at_:=A5,nt:=mt,ct:=c5 })
 have K:=hI (show Keeps G wn (wn.setCell ⟨w.heap.size,2,none⟩ (.slice A5 mt c5)) from (keeps_set wn w.heap.size 2 (.slice A5 mt c5)).less (fun i _ h=>(GF.out i h).2.1))
 have RK:=hI (show FwF G (wn.setCell ⟨w.heap.size,2,none⟩ (.slice A5 mt c5)) { f with tags:=lt } { q with at_:=A5,nt:=mt,ct:=c5 } from ⟨hmt.out,RT.out.keep K.out,HC5.out,(HG.out _ D.out).pk.keep K.out⟩)
 refine at_worldP (W:=wn.setCell ⟨w.heap.size,2,none⟩ (.slice A5 mt c5)) (fun W=>Hid (OfF 42 42 w W { f with tags:=lt } { q with at_:=A5,nt:=mt,ct:=c5 })∧Hid (FwF G W { f with tags:=lt } { q with at_:=A5,nt:=mt,ct:=c5 })) ⟨D2,RK⟩ ?_
 clear C D D2 K RK RT BB z2' y0 y1 y2 y3 y4 y5 y6 y7 y8 y9 y10 y11 y12 z0 z1 z2 z3 z4 z5 z6 z7 z8 z9 z10 z11 z12 x0 x1 x2 x3 x4 x5 x6 x7 x8 x9 x10 x11 x12
 rintro w4 ⟨C,RT⟩
 obtain ⟨x0,x1,x2,x3,x4,x5,x6,x7,x8,x9,x10,x11,x12⟩:=(show w4.cell? ⟨w.heap.size,0,none⟩=some (.int .u8 (f.code:Int))∧w4.cell? ⟨w.heap.size,1,none⟩=some (.int .u16 (f.sess:Int))∧w4.cell? ⟨w.heap.size,2,none⟩=some (.slice A5 mt c5)∧w4.cell? ⟨w.heap.size,3,none⟩=some (.int .u16 (f.pkt.proto:Int))∧w4.cell? ⟨w.heap.size,4,none⟩=some (.int .u8 (f.pkt.code:Int))∧w4.cell? ⟨w.heap.size,5,none⟩=some (.int .u8 (f.pkt.id:Int))∧w4.cell? ⟨w.heap.size,6,none⟩=some (.slice q.pl.ao q.pl.no q.pl.co)∧w4.cell? ⟨w.heap.size,7,none⟩=some (.int .u16 (f.pkt.sub:Int))∧w4.cell? ⟨w.heap.size,8,none⟩=some (.int .u32 (f.pkt.magic:Int))∧w4.cell? ⟨w.heap.size,9,none⟩=some (.slice q.pl.a1 q.pl.n1 q.pl.c1)∧w4.cell? ⟨w.heap.size,10,none⟩=some (.slice q.pl.a2 q.pl.n2 q.pl.c2)∧w4.cell? ⟨w.heap.size,11,none⟩=some (.slice q.pl.ad q.pl.nd q.pl.cd)∧w4.cell? ⟨w.heap.size,12,none⟩=some (.slice q.pl.an q.pl.nn q.pl.cn) from C.out.cf.all)
 obtain ⟨y0,y1,y2,y3,y4,y5,y6,y7,y8,y9,y10,y11,y12⟩:=C.out.res.all
 obtain ⟨z0,z1,z2,z3,z4,z5,z6,z7,z8,z9,z10,z11,z12⟩:=C.out.res.free
 go_wp2_with fail
 refine bodyPost_ret (v:=.tuple #[Fr.val { f with tags:=lt } { q with at_:=A5,nt:=mt,ct:=c5 },.int .i64 (kt:Int)]) ?_ rfl (ReadE.mk { q with at_:=A5,nt:=mt,ct:=c5 } rfl (((RT.out).keep ((put13_keeps w4 (w.heap.size+1) { f with tags:=lt } { q with at_:=A5,nt:=mt,ct:=c5 }).less (fun i _ h=>(GF.out i h).2.2))).mono (fun i _ h=>(GF.out i h).1)) (put13_below C.out.bel (Nat.le_succ _) { f with tags:=lt } { q with at_:=A5,nt:=mt,ct:=c5 }))
 exact results_row_t1 rfl _ _ _ (w.heap.size+1) 42 _ _ _ rfl rfl (put13_fx C.out.res { f with tags:=lt } { q with at_:=A5,nt:=mt,ct:=c5 }) Tryz.underlying42 (by kernel_rfl)
theorem erd_pkt2 (F:Nat→Prop) (f:Fr) (q:Fl) (w:World) (hF:∀ i,w.heap.size≤i→F i) (hf:FwF F w f q) (x y:Nat) (A:Option Addr) (h:Rd w w.heap.size A [x,y]) (hb:By [x,y]) (hc0:f.code=0) (yy:Pk) (kt:Nat) (hgt:bgetB (x*256+y) []=(yy,kt)) :
  Calls Tryz.prog 31 #[f.val q,.slice A 2 2] w (ReadE F w { f with pkt:=yy } kt):=by
 have C:=hI (OfF.made 42 42 w f q)
 have H:=hI (hf.mono (G:=fun b=>F b∧b<w.heap.size) (fun b hb hf=>⟨hf,hb⟩))
 have HFF:=hI hF
 obtain ⟨wm,hwm⟩:∃ wm,wm=(w.alloc (f.obj q 42)).alloc (obj0F 42):=⟨_,rfl⟩
 rw [←hwm] at C
 have HW:=hI hwm
 obtain ⟨G,hG⟩:∃ G,Hid (G=Nf F w.heap.size (w.heap.size+1)):=⟨_,hI rfl⟩
 have HG:=hI (show ∀ W,Below wm.heap.size wm W→FwF G W f q by
  rw [hG.out]
  exact fun W hW=>((H.out.on C.out.bel).on hW).mono (fun i _ hi=>⟨hi.1,Nat.ne_of_lt hi.2,Nat.ne_of_lt (Nat.lt_succ_of_lt hi.2)⟩))
 have FG:=hI (show ∀ W,Below wm.heap.size wm W→∀ i,W.heap.size≤i→G i by
  rw [hG.out]
  exact fun W hW i hi=>by
   have h1:=Nat.lt_of_lt_of_le C.out.lt (Nat.le_trans hW.size hi)
   exact ⟨HFF.out i (Nat.le_of_lt (Nat.lt_trans (Nat.lt_succ_self _) h1)),Nat.ne_of_gt (Nat.lt_trans (Nat.lt_succ_self _) h1),Nat.ne_of_gt h1⟩)
 have GF:=hI (show ∀ i,G i→F i∧i≠w.heap.size∧i≠w.heap.size+1 by rw [hG.out];exact fun i hi=>hi)
 clear hf hF hwm H HFF hG
 have j1:((f.code:Int) != 0)=false:=by rw [hc0];rfl
 obtain ⟨tt,htt⟩:∃ z,Hid (x*256+y=z):=⟨_,hI rfl⟩
 have bx:x<256:=hb x (by simp)
 have by':y<256:=hb y (by simp)
 have tt6:tt<65536:=by rw [←htt.out];omega
 have TT6:=hI tt6
 have HR:=hI (show ∀ W,Below wm.heap.size wm W→Rd W W.heap.size A [x,y] from fun W hW=>(h.on C.out.bel).on hW)
 have HB:=hI hb
 have HGT:=hI (show bgetB tt []=(yy,kt) by rw [←htt.out];exact hgt)
 clear h hb hc0 hgt bx by' tt6
 go_enter Tryz.func31,Tryz.ntmps31
 go_upto_region 1 with fail
 rw [←HW.out]
 have D:=hI (Below.refl wm.heap.size wm)
 obtain ⟨x0,x1,x2,x3,x4,x5,x6,x7,x8,x9,x10,x11,x12⟩:=C.out.cf.all
 obtain ⟨y0,y1,y2,y3,y4,y5,y6,y7,y8,y9,y10,y11,y12⟩:=C.out.res.all
 obtain ⟨z0,z1,z2,z3,z4,z5,z6,z7,z8,z9,z10,z11,z12⟩:=C.out.res.free
 go_upto_region 2 with fail
 go_region_held3 (fun _=>True) (trivial) (first
  | (go_at_call 30;(with_reducible refine (etnum_any x y tt [x,y] rfl rfl htt.out 2 2 _ _ (HR.out _ (Below.refl _ _).drew) HB.out rfl).mono ?_);rintro e wn ⟨rfl,kk,hkk⟩;replace D:=hI (show Below wm.heap.size wm wn from hkk ▸ below_drewN (Below.refl _ _).drew kk);clear hkk;dsimp only)
  | (go_at_call 54;(with_reducible refine (bget_any tt [] 0 0 _ _ Rd.nil By.nil rfl (by decide) (Nat.le_refl _) TT6.out yy kt HGT.out).mono ?_);rintro e wk ⟨r,rfl,hp,hb⟩;have PF:=hI (show PwF G wk yy r from hp.mono (fun i _ hi=>FG.out _ D.out i hi));replace D:=hI (D.out.trans (hb.mono D.out.size));replace C:=hI (C.out.step D.out);clear hp hb x0 x1 x2 x3 x4 x5 x6 x7 x8 x9 x10 x11 x12 y0 y1 y2 y3 y4 y5 y6 y7 y8 y9 y10 y11 y12 z0 z1 z2 z3 z4 z5 z6 z7 z8 z9 z10 z11 z12;obtain ⟨v0,v1,v2,v3,v4,v5,v6,v7,v8,v9,v10,v11,v12⟩:=C.out.cf.free;obtain ⟨x0,x1,x2,x3,x4,x5,x6,x7,x8,x9,x10,x11,x12⟩:=C.out.cf.all;dsimp only))
 all_goals
  have D2:=hI (⟨putP3_below C.out.bel (Nat.le_refl _) yy r,C.out.cf.setPkt yy r,C.out.res.putP3Other yy r (Nat.succ_ne_self _)⟩:OfF 42 42 w (putP3 wk w.heap.size yy r) { f with pkt:=yy } { q with pl:=r })
  have K:=hI (show Keeps G wk (putP3 wk w.heap.size yy r) from (putP3_keeps wk w.heap.size yy r).less (fun i _ h=>(GF.out i h).2.1))
  have hfw:=HG.out _ D.out
  have RK:=hI (show FwF G (putP3 wk w.heap.size yy r) { f with pkt:=yy } { q with pl:=r } from ⟨hfw.lt,hfw.rt.keep K.out,hfw.kt,PF.out.keep K.out⟩)
  clear hfw
  refine at_worldP (W:=putP3 wk w.heap.size yy r) (fun W=>Hid (OfF 42 42 w W { f with pkt:=yy } { q with pl:=r })∧Hid (FwF G W { f with pkt:=yy } { q with pl:=r })) ⟨D2,RK⟩ ?_
  clear C D D2 K RK PF x0 x1 x2 x3 x4 x5 x6 x7 x8 x9 x10 x11 x12 v0 v1 v2 v3 v4 v5 v6 v7 v8 v9 v10 v11 v12
  rintro w4 ⟨C,RT⟩
  obtain ⟨x0,x1,x2,x3,x4,x5,x6,x7,x8,x9,x10,x11,x12⟩:=(show w4.cell? ⟨w.heap.size,0,none⟩=some (.int .u8 (f.code:Int))∧w4.cell? ⟨w.heap.size,1,none⟩=some (.int .u16 (f.sess:Int))∧w4.cell? ⟨w.heap.size,2,none⟩=some (.slice q.at_ q.nt q.ct)∧w4.cell? ⟨w.heap.size,3,none⟩=some (.int .u16 (yy.proto:Int))∧w4.cell? ⟨w.heap.size,4,none⟩=some (.int .u8 (yy.code:Int))∧w4.cell? ⟨w.heap.size,5,none⟩=some (.int .u8 (yy.id:Int))∧w4.cell? ⟨w.heap.size,6,none⟩=some (.slice r.ao r.no r.co)∧w4.cell? ⟨w.heap.size,7,none⟩=some (.int .u16 (yy.sub:Int))∧w4.cell? ⟨w.heap.size,8,none⟩=some (.int .u32 (yy.magic:Int))∧w4.cell? ⟨w.heap.size,9,none⟩=some (.slice r.a1 r.n1 r.c1)∧w4.cell? ⟨w.heap.size,10,none⟩=some (.slice r.a2 r.n2 r.c2)∧w4.cell? ⟨w.heap.size,11,none⟩=some (.slice r.ad r.nd r.cd)∧w4.cell? ⟨w.heap.size,12,none⟩=some (.slice r.an r.nn r.cn) from C.out.cf.all)
  obtain ⟨y0,y1,y2,y3,y4,y5,y6,y7,y8,y9,y10,y11,y12⟩:=C.out.res.all
  obtain ⟨z0,z1,z2,z3,z4,z5,z6,z7,z8,z9,z10,z11,z12⟩:=C.out.res.free
  go_wp2_with fail
  refine bodyPost_ret (v:=.tuple #[Fr.val { f with pkt:=yy } { q with pl:=r },.int .i64 (kt:Int)]) ?_ rfl (ReadE.mk { q with pl:=r } rfl (((RT.out).keep ((put13_keeps w4 (w.heap.size+1) { f with pkt:=yy } { q with pl:=r }).less (fun i _ h=>(GF.out i h).2.2))).mono (fun i _ h=>(GF.out i h).1)) (put13_below C.out.bel (Nat.le_succ _) { f with pkt:=yy } { q with pl:=r }))
  exact results_row_t1 rfl _ _ _ (w.heap.size+1) 42 _ _ _ rfl rfl (put13_fx C.out.res { f with pkt:=yy } { q with pl:=r }) Tryz.underlying42 (by kernel_rfl)
theorem erd_pkt (F:Nat→Prop) (f:Fr) (q:Fl) (w:World) (hF:∀ i,w.heap.size≤i→F i) (hf:FwF F w f q) (x y:Nat) (t2:List Nat) (n cap:Nat) (A:Option Addr) (h:Rd w w.heap.size A (x :: y :: t2)) (hb:By (x :: y :: t2)) (hl:(x :: y :: t2).length=n) (hn:n≤1073741824) (hc:n≤cap) (hcap:¬ cap=2) (hc0:f.code=0) (yy:Pk) (kt:Nat) (hgt:bgetB (x*256+y) t2=(yy,kt)) :
  Calls Tryz.prog 31 #[f.val q,.slice A n cap] w (ReadE F w { f with pkt:=yy } kt):=by
 have C:=hI (OfF.made 42 42 w f q)
 have H:=hI (hf.mono (G:=fun b=>F b∧b<w.heap.size) (fun b hb hf=>⟨hf,hb⟩))
 have HFF:=hI hF
 obtain ⟨wm,hwm⟩:∃ wm,wm=(w.alloc (f.obj q 42)).alloc (obj0F 42):=⟨_,rfl⟩
 rw [←hwm] at C
 have HW:=hI hwm
 obtain ⟨G,hG⟩:∃ G,Hid (G=Nf F w.heap.size (w.heap.size+1)):=⟨_,hI rfl⟩
 have HG:=hI (show ∀ W,Below wm.heap.size wm W→FwF G W f q by
  rw [hG.out]
  exact fun W hW=>((H.out.on C.out.bel).on hW).mono (fun i _ hi=>⟨hi.1,Nat.ne_of_lt hi.2,Nat.ne_of_lt (Nat.lt_succ_of_lt hi.2)⟩))
 have FG:=hI (show ∀ W,Below wm.heap.size wm W→∀ i,W.heap.size≤i→G i by
  rw [hG.out]
  exact fun W hW i hi=>by
   have h1:=Nat.lt_of_lt_of_le C.out.lt (Nat.le_trans hW.size hi)
   exact ⟨HFF.out i (Nat.le_of_lt (Nat.lt_trans (Nat.lt_succ_self _) h1)),Nat.ne_of_gt (Nat.lt_trans (Nat.lt_succ_self _) h1),Nat.ne_of_gt h1⟩)
 have GF:=hI (show ∀ i,G i→F i∧i≠w.heap.size∧i≠w.heap.size+1 by rw [hG.out];exact fun i hi=>hi)
 clear hf hF hwm H HFF hG
 have j1:((f.code:Int) != 0)=false:=by rw [hc0];rfl
 obtain ⟨tt,htt⟩:∃ z,Hid (x*256+y=z):=⟨_,hI rfl⟩
 have bx:x<256:=hb x (by simp)
 have by':y<256:=hb y (by simp)
 have tt6:tt<65536:=by rw [←htt.out];omega
 have TT6:=hI tt6
 have HR:=hI (show ∀ W,Below wm.heap.size wm W→Rd W W.heap.size A (x :: y :: t2) from fun W hW=>(h.on C.out.bel).on hW)
 have HB:=hI hb
 have HGT:=hI (show bgetB tt t2=(yy,kt) by rw [←htt.out];exact hgt)
 have HL:=hI hl
 have HB2:=hI (show By t2 from fun z hz=>hb z (by simp [hz]))
 obtain ⟨bb,oo,u0,rfl,hbb,hu0,k0⟩:=h.at_ (k:=0) (by simp)
 clear hu0 k0
 have HR2:=hI (show ∀ W,Below wm.heap.size wm W→Rd W W.heap.size (some ⟨bb,oo+2,none⟩) t2 from fun W hW=>((by
  have e8:=h.cutG (f:=2) (c:=cap) (by rw [hl];exact hc)
  rw [if_neg hcap] at e8
  exact e8:Rd w w.heap.size (some ⟨bb,oo+2,none⟩) t2).on C.out.bel).on hW)
 have hl2:2≤n:=by rw [←hl];simp
 have HL2:=hI (show t2.length=n - 2 by rw [←hl];rfl)
 have HN2:=hI (show n - 2≤1073741824 by omega)
 have HC2:=hI (show n - 2≤cap - 2 by omega)
 have j2:=ge2 hl2
 have j3:=gi2 hl2
 have j4:(n:Int)≤(cap:Int):=by omega
 clear h hb hl hn hc hc0 hgt bx by' tt6 hl2 hbb
 go_enter Tryz.func31,Tryz.ntmps31
 go_upto_region 1 with fail
 rw [←HW.out]
 have D:=hI (Below.refl wm.heap.size wm)
 obtain ⟨x0,x1,x2,x3,x4,x5,x6,x7,x8,x9,x10,x11,x12⟩:=C.out.cf.all
 obtain ⟨y0,y1,y2,y3,y4,y5,y6,y7,y8,y9,y10,y11,y12⟩:=C.out.res.all
 obtain ⟨z0,z1,z2,z3,z4,z5,z6,z7,z8,z9,z10,z11,z12⟩:=C.out.res.free
 go_upto_region 2 with fail
 go_region_held3 (fun _=>True) (trivial) (first
  | (go_at_call 30;(with_reducible refine (etnum_any x y tt (x :: y :: t2) rfl rfl htt.out n cap _ _ (HR.out _ (Below.refl _ _).drew) HB.out HL.out).mono ?_);rintro e wn ⟨rfl,kk,hkk⟩;replace D:=hI (show Below wm.heap.size wm wn from hkk ▸ below_drewN (Below.refl _ _).drew kk);clear hkk;dsimp only)
  | (go_at_call 54;(with_reducible refine (bget_any tt t2 (n - 2) _ (some ⟨bb,oo+2,none⟩) _ (HR2.out _ D.out) HB2.out HL2.out HN2.out HC2.out TT6.out yy kt HGT.out).mono ?_);rintro e wk ⟨r,rfl,hp,hb⟩;have PF:=hI (show PwF G wk yy r from hp.mono (fun i _ hi=>FG.out _ D.out i hi));replace D:=hI (D.out.trans (hb.mono D.out.size));replace C:=hI (C.out.step D.out);clear hp hb x0 x1 x2 x3 x4 x5 x6 x7 x8 x9 x10 x11 x12 y0 y1 y2 y3 y4 y5 y6 y7 y8 y9 y10 y11 y12 z0 z1 z2 z3 z4 z5 z6 z7 z8 z9 z10 z11 z12;obtain ⟨v0,v1,v2,v3,v4,v5,v6,v7,v8,v9,v10,v11,v12⟩:=C.out.cf.free;obtain ⟨x0,x1,x2,x3,x4,x5,x6,x7,x8,x9,x10,x11,x12⟩:=C.out.cf.all;dsimp only))
 all_goals
  have D2:=hI (⟨putP3_below C.out.bel (Nat.le_refl _) yy r,C.out.cf.setPkt yy r,C.out.res.putP3Other yy r (Nat.succ_ne_self _)⟩:OfF 42 42 w (putP3 wk w.heap.size yy r) { f with pkt:=yy } { q with pl:=r })
  have K:=hI (show Keeps G wk (putP3 wk w.heap.size yy r) from (putP3_keeps wk w.heap.size yy r).less (fun i _ h=>(GF.out i h).2.1))
  have hfw:=HG.out _ D.out
  have RK:=hI (show FwF G (putP3 wk w.heap.size yy r) { f with pkt:=yy } { q with pl:=r } from ⟨hfw.lt,hfw.rt.keep K.out,hfw.kt,PF.out.keep K.out⟩)
  clear hfw
  refine at_worldP (W:=putP3 wk w.heap.size yy r) (fun W=>Hid (OfF 42 42 w W { f with pkt:=yy } { q with pl:=r })∧Hid (FwF G W { f with pkt:=yy } { q with pl:=r })) ⟨D2,RK⟩ ?_
  clear C D D2 K RK PF x0 x1 x2 x3 x4 x5 x6 x7 x8 x9 x10 x11 x12 v0 v1 v2 v3 v4 v5 v6 v7 v8 v9 v10 v11 v12
  rintro w4 ⟨C,RT⟩
  obtain ⟨x0,x1,x2,x3,x4,x5,x6,x7,x8,x9,x10,x11,x12⟩:=(show w4.cell? ⟨w.heap.size,0,none⟩=some (.int .u8 (f.code:Int))∧w4.cell? ⟨w.heap.size,1,none⟩=some (.int .u16 (f.sess:Int))∧w4.cell? ⟨w.heap.size,2,none⟩=some (.slice q.at_ q.nt q.ct)∧w4.cell? ⟨w.heap.size,3,none⟩=some (.int .u16 (yy.proto:Int))∧w4.cell? ⟨w.heap.size,4,none⟩=some (.int .u8 (yy.code:Int))∧w4.cell? ⟨w.heap.size,5,none⟩=some (.int .u8 (yy.id:Int))∧w4.cell? ⟨w.heap.size,6,none⟩=some (.slice r.ao r.no r.co)∧w4.cell? ⟨w.heap.size,7,none⟩=some (.int .u16 (yy.sub:Int))∧w4.cell? ⟨w.heap.size,8,none⟩=some (.int .u32 (yy.magic:Int))∧w4.cell? ⟨w.heap.size,9,none⟩=some (.slice r.a1 r.n1 r.c1)∧w4.cell? ⟨w.heap.size,10,none⟩=some (.slice r.a2 r.n2 r.c2)∧w4.cell? ⟨w.heap.size,11,none⟩=some (.slice r.ad r.nd r.cd)∧w4.cell? ⟨w.heap.size,12,none⟩=some (.slice r.an r.nn r.cn) from C.out.cf.all)
  obtain ⟨y0,y1,y2,y3,y4,y5,y6,y7,y8,y9,y10,y11,y12⟩:=C.out.res.all
  obtain ⟨z0,z1,z2,z3,z4,z5,z6,z7,z8,z9,z10,z11,z12⟩:=C.out.res.free
  go_wp2_with fail
  refine bodyPost_ret (v:=.tuple #[Fr.val { f with pkt:=yy } { q with pl:=r },.int .i64 (kt:Int)]) ?_ rfl (ReadE.mk { q with pl:=r } rfl (((RT.out).keep ((put13_keeps w4 (w.heap.size+1) { f with pkt:=yy } { q with pl:=r }).less (fun i _ h=>(GF.out i h).2.2))).mono (fun i _ h=>(GF.out i h).1)) (put13_below C.out.bel (Nat.le_succ _) { f with pkt:=yy } { q with pl:=r }))
  exact results_row_t1 rfl _ _ _ (w.heap.size+1) 42 _ _ _ rfl rfl (put13_fx C.out.res { f with pkt:=yy } { q with pl:=r }) Tryz.underlying42 (by kernel_rfl)
theorem erd_any (F:Nat→Prop) (f:Fr) (q:Fl) (w:World) (hF:∀ i,w.heap.size≤i→F i) (hf:FwF F w f q) (b:List Nat) (n cap:Nat) (A:Option Addr) (h:Rd w w.heap.size A b) (hb:By b) (hl:b.length=n) (hn:n≤1073741824) (hc:n≤cap) (y:Fr) (k:Nat) (hr:eread1 f b=(y,k)) :
  Calls Tryz.prog 31 #[f.val q,.slice A n cap] w (ReadE F w y k):=by
 unfold eread1 at hr
 by_cases hc0:f.code=0
 ·rw [if_pos hc0] at hr
  match b,hl,hr with
  | [],hl,hr =>
   injection hr with e1 e2
   subst e1;subst e2
   exact erd_short F f q w hF hf [] n cap A h hb hl hn hc hc0 (by rw [←hl];exact Nat.zero_lt_succ _)
  | [x],hl,hr =>
   injection hr with e1 e2
   subst e1;subst e2
   exact erd_short F f q w hF hf [x] n cap A h hb hl hn hc hc0 (by rw [←hl];exact Nat.lt_succ_self 1)
  | x :: y :: t2,hl,hr =>
   injection hr with e1 e2
   subst e1;subst e2
   by_cases hcap:cap=2
   ·have hn2:n=2:=by rw [←hl] at hc ⊢;simp only [List.length_cons] at hc ⊢;omega
    have ht2:t2=[]:=by rw [hn2] at hl;simpa using hl
    subst hcap;subst hn2;subst ht2
    exact erd_pkt2 F f q w hF hf x y A h hb hc0 _ _ rfl
   ·exact erd_pkt F f q w hF hf x y t2 n cap A h hb hl hn hc hcap hc0 _ _ rfl
 ·rw [if_neg hc0] at hr
  injection hr with e1 e2
  subst e1;subst e2
  exact erd_tags F f q w hF hf b n cap A h hb hl hn hc hc0 _ _ _ rfl
theorem erd_lit (F:Nat→Prop) (c s:Nat) (w:World) (hF:∀ i,w.heap.size≤i→F i) (b:List Nat) (n cap:Nat) (A:Option Addr) (h:Rd w w.heap.size A b) (hb:By b) (hl:b.length=n) (hn:n≤1073741824) (hc:n≤cap) (y:Fr) (k:Nat) (hr:eread1 ⟨c,s,[],pk0⟩ b=(y,k)) :
  Calls Tryz.prog 31 #[.agg #[.int .u8 (c:Int),.int .u16 (s:Int),.slice none 0 0,.int .u16 0,.int .u8 0,.int .u8 0,.slice none 0 0,.int .u16 0,.int .u32 0,.slice none 0 0,.slice none 0 0,.slice none 0 0,.slice none 0 0],.slice A n cap] w (ReadE F w y k):=erd_any F ⟨c,s,[],pk0⟩ fl0 w hF ⟨rfl,Rws.nilG,Nat.le_refl _,pwF0⟩ b n cap A h hb hl hn hc y k hr
end Go.Proofs.YtmhjnghomihjlaaGreat
