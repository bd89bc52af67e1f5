/-
  What the small calls of layer 21's program answer: check, number, first. No condition beyond: at most 2^30 octets. What the program's Put of tags answers. No condition beyond: lists of at most 2^37 ta
-/
import Derived.Test.YtmhjnghomihjlaaGreatGTag
import Derived.WalkMore
import Derived.Deep.CutRange
import Derived.Deep.RegionHeld3
import Derived.Maps.OwnSet
namespace Go.Proofs.YtmhjnghomihjlaaGreat
set_option maxRecDepth 8000
set_option maxHeartbeats 80000000
set_option linter.unusedVariables false
section
open Go.RowKit
theorem at_worldG {F:Act→World→Prop} {x:Act} {W:World} (R:World→Prop) (C:R W) (h:∀ W',R W'→F x W'):F x W:=h W C
abbrev tgV (t:Nat) (A:Option Addr) (n c:Nat):Value:=.agg #[.int .u16 (t:Int),.slice A n c]
def tgone (t n:Nat):Nat:=if t=0 then 8 else if 65535<n then 3 else 0
theorem tgchk_any (t n c:Nat) (A:Option Addr) (w:World) (k:Nat) (hk:tgone t n=k) :
  Calls Tryz.prog 65 #[tgV t A n c] w fun e w'=>e=.returned (.int .i64 (k:Int))∧Below w.heap.size w w':=by
 have B:=hI ((Below.refl w.heap.size w).alloc (Nat.le_refl _) (.cells #[.int .u16 (t:Int),.slice A n c] 58))
 by_cases h0:t=0
 ·have j1:((t:Int) == 0)=true:=by rw [h0];rfl
  obtain rfl:8=k:=by rw [←hk,tgone,if_pos h0]
  clear hk h0
  go_enter Tryz.func65,Tryz.ntmps65
  go_wp2_with fail
  go_ret
  exact ⟨rfl,B.out⟩
 ·have j1:((t:Int) == 0)=false:=by rw [beq_eq_false_iff_ne];omega
  by_cases h1:65535<n
  ·have j2:(65535:Int)<(n:Int):=by omega
   obtain rfl:3=k:=by rw [←hk,tgone,if_neg h0,if_pos h1]
   clear hk h0 h1
   go_enter Tryz.func65,Tryz.ntmps65
   go_wp2_with fail
   go_ret
   exact ⟨rfl,B.out⟩
  ·have j2:¬ (65535:Int)<(n:Int):=by omega
   obtain rfl:0=k:=by rw [←hk,tgone,if_neg h0,if_neg h1]
   clear hk h0 h1
   go_enter Tryz.func65,Tryz.ntmps65
   go_wp2_with fail
   go_ret
   exact ⟨rfl,B.out⟩
theorem tg_or16 (x y:Nat) (hx:x<256) (hy:y<256):bits .or .i64 ((x:Int)*256) (y:Int)=((x*256+y:Nat):Int):=by
 have h2:=Nat.two_pow_add_eq_or_of_lt (show y<2 ^ 8 by omega) x
 have e:((x:Int)*256)=((2 ^ 8*x:Nat):Int):=by simp;omega
 rw [e]
 show IntKind.i64.wrap ((BitVec.ofInt 64 ((2 ^ 8*x:Nat):Int) ||| BitVec.ofInt 64 (y:Int)).toNat:Int)=_
 rw [BitVec.toNat_or,ofInt_u64 _ (by omega),ofInt_u64 _ (by omega),← h2,show 2 ^ 8*x+y=x*256+y by omega]
 exact IntWalk.i64_in _ (by omega)
theorem tgnum_any (x y z:Nat) (l:List Nat) (hx:l[0]?=some x) (hy:l[1]?=some y) (hz:x*256+y=z) (n c:Nat) (A:Option Addr) (w:World) (h:Rd w w.heap.size A l) (hb:By l) (hn:l.length=n) :
  Calls Tryz.prog 84 #[.slice A n c] w fun e w'=>e=.returned (.int .i64 (z:Int))∧∃ k,w'=w.drewN k:=by
 have hx2:=hb.get hx
 have hy2:=hb.get hy
 have h1:1<l.length:=(List.getElem?_eq_some_iff.1 hy).1
 obtain ⟨bb,oo,x',rfl,-,hx',hcx⟩:=h.at_ (k:=0) (by omega)
 obtain ⟨bb',oo',y',e,-,hy',hcy⟩:=h.at_ (k:=1) h1
 injection e with e
 injection e with e1 e2
 subst e1;subst e2
 obtain rfl:x=x':=Option.some.inj (hx.symm.trans hx')
 obtain rfl:y=y':=Option.some.inj (hy.symm.trans hy')
 have O:=hI (tg_or16 x y hx2 hy2)
 rw [hz] at O
 rw [Nat.add_zero] at hcx
 have j1:0<n:=by omega
 have j2:(1:Int)<n:=by omega
 clear h hb hn hx hy hx' hy' h1 hz
 go_enter Tryz.func84,Tryz.ntmps84
 go_wp2_with fail
 go_quiet (fail)
 all_goals
  rw [O.out]
  go_wp2_with fail
  go_ret
  exact ⟨rfl,_,rfl⟩
def FirG (b:List Nat) (w:World) (e:Ending) (w':World):Prop :=
 ((tgstep b).2≠0∧e=.returned (.tuple #[.agg #[.int .u16 0,.slice none 0 0],.int .i64 ((tgstep b).2:Int)])∧Below w.heap.size w w') ∨
  ∃ A c n,tgstep b=(4+n,0)∧e=.returned (.tuple #[tgV (tgtyp b) A n c,.int .i64 0])∧New w w' A c n ((b.take (4+n)).drop 4)
theorem fir_bad {b:List Nat} {w w':World} {q:Nat} (h:tgstep b=(0,q)) (hq:q≠0) (hb:Below w.heap.size w w'):FirG b w (.returned (.tuple #[.agg #[.int .u16 0,.slice none 0 0],.int .i64 (q:Int)])) w' :=
 .inl ⟨by rw [h];exact hq,by rw [h],hb⟩
theorem fir_cells {w w1 w':World} (hw1:w1=w.alloc (.cells #[.int .u16 0,.slice none 0 0] 58)) (hb':Below w1.heap.size w1 w') :
  w.heap.size<w'.heap.size∧w'.cell? ⟨w.heap.size,0,none⟩=some (.int .u16 0)∧w'.cell? ⟨w.heap.size,1,none⟩=some (.slice none 0 0)∧w'.frozen? ⟨w.heap.size,0,none⟩=false∧w'.frozen? ⟨w.heap.size,1,none⟩=false:=by
 have hs1:w1.heap.size=w.heap.size+1:=by rw [hw1,World.size_alloc]
 have hv1:w1.heap[w.heap.size]?=some (.cells #[.int .u16 0,.slice none 0 0] 58 (0,0)):=by rw [hw1];exact heap_alloc_new _ _
 have hv:w'.heap[w.heap.size]?=some (.cells #[.int .u16 0,.slice none 0 0] 58 (0,0)):=(hb'.block _ (by omega)).trans hv1
 refine ⟨by have:=hb'.size;omega,?_,?_,frozen_of_row w' _ 0 _ _ hv,frozen_of_row w' _ 1 _ _ hv⟩
 ·rw [cell_of_row w' _ 0 _ _ _ hv];rfl
 ·rw [cell_of_row w' _ 1 _ _ _ hv];rfl
theorem fir_fin {w w1 w':World} (hb0:Below w.heap.size w w1) (u v:Value) (hb':Below w1.heap.size w1 w'):Below w.heap.size w ((w'.setCell ⟨w.heap.size,0,none⟩ u).setCell ⟨w.heap.size,1,none⟩ v) :=
 ((hb0.trans (hb'.mono hb0.size)).setCell (p:=⟨w.heap.size,0,none⟩) (Nat.le_refl _) _).setCell (p:=⟨w.heap.size,1,none⟩) (Nat.le_refl _) _
theorem fir_own {w w1 w':World} {A:Option Addr} {n c:Nat} {l:List Nat} (u v:Value) (hs:w1.heap.size=w.heap.size+1) (ho:w'.ownsRow w1.heap.size 5 1 (.slice A n c) n (bvs l)):((w'.setCell ⟨w.heap.size,0,none⟩ u).setCell ⟨w.heap.size,1,none⟩ v).ownsRow w.heap.size 5 1 (.slice A n c) n (bvs l):=by
 have hof:=Offs.trans (Offs.set (X:=fun i=>i=w.heap.size) w' w.heap.size 0 u rfl) (Offs.set (X:=fun i=>i=w.heap.size) _ w.heap.size 1 v rfl) (Z:=fun i=>i=w.heap.size) (fun _ h=>h) (fun _ _ h=>h)
 exact own_lo (own_off ho hof (fun g hg e=>by have:=(ho.lt g hg).1;omega)) (by omega)
theorem tgfir_short (b:List Nat) (n c:Nat) (A:Option Addr) (w:World) (hl:b.length=n) (hn:n<4) :
  Calls Tryz.prog 70 #[.slice A n c] w (FirG b w):=by
 have E:=hI (show tgstep b=(0,2) by
  match b,hl with
  | [],_=>rfl
  | [_],_=>rfl
  | [_,_],_=>rfl
  | [_,_,_],_=>rfl
  | _ :: _ :: _ :: _ :: _,hl=>simp at hl;omega)
 obtain ⟨w1,hw1⟩:∃ w1,w1=w.alloc (.cells #[.int .u16 0,.slice none 0 0] 58):=⟨_,rfl⟩
 have B0:=hI (show Below w.heap.size w w1 by rw [hw1];exact (Below.refl _ _).alloc (Nat.le_refl _) _)
 have CA:=fir_cells hw1 (Below.refl _ _)
 have HW1:=hI hw1
 have j1:(n:Int)<4:=by omega
 clear hl hn hw1
 obtain ⟨s2,q1,q2,q3,q4⟩:=CA
 go_enter Tryz.func70,Tryz.ntmps70
 go_upto_region 1 with fail
 rw [←HW1.out]
 go_wp2_with fail
 refine bodyPost_ret (v:=.tuple #[.agg #[.int .u16 0,.slice none 0 0],.int .i64 2]) ?_ rfl (fir_bad E.out (by decide) ?_)
 ·rw [results_cell_tmp rfl];go_simp
 ·exact fir_fin B0.out _ _ (Below.refl _ _)
theorem tgfir_long (x y z u:Nat) (t:List Nat) (n c:Nat) (A:Option Addr) (w:World) (h:Rd w w.heap.size A (x :: y :: z :: u :: t)) (hb:By (x :: y :: z :: u :: t)) (hl:t.length+4=n) (hn:n≤1073741824) (hc:n≤c) (hc4:¬ c=4) :
  Calls Tryz.prog 70 #[.slice A n c] w (FirG (x :: y :: z :: u :: t) w):=by
 have hx:x<256:=hb x (by simp)
 have hy:y<256:=hb y (by simp)
 have hz:z<256:=hb z (by simp)
 have hu:u<256:=hb u (by simp)
 obtain ⟨bb,oo,x',rfl,hbb,hx',hcx⟩:=h.at_ (k:=0) (by simp)
 clear hx' hcx
 obtain ⟨w1,hw1⟩:∃ w1,w1=w.alloc (.cells #[.int .u16 0,.slice none 0 0] 58):=⟨_,rfl⟩
 have hb0:Below w.heap.size w w1:=by rw [hw1];exact (Below.refl _ _).alloc (Nat.le_refl _) _
 have hs1:w1.heap.size=w.heap.size+1:=by rw [hw1,World.size_alloc]
 have B0:=hI hb0
 have HS1:=hI hs1
 have CA:=hI (fun w' (hb':Below w1.heap.size w1 w')=>fir_cells hw1 hb')
 have HW1:=hI hw1
 obtain ⟨tt,htt⟩:∃ tt,Hid (x*256+y=tt):=⟨_,hI rfl⟩
 obtain ⟨mm,hmm⟩:∃ mm,Hid (z*256+u=mm):=⟨_,hI rfl⟩
 obtain ⟨n4,hn4⟩:∃ n4,Hid (t.length=n4):=⟨_,hI rfl⟩
 have ht2:tt<65536:=by have:=htt.out;omega
 have hm2:mm<65536:=by have:=hmm.out;omega
 have hnn:n4+4=n:=by have:=hn4.out;omega
 have HE:=hI (show tgstep (x :: y :: z :: u :: t)=if n4<mm then (0,2) else if tt=0∧0<mm then (0,4) else (4+mm,0) by rw [←hmm.out,← htt.out,← hn4.out];rfl)
 have HT:=hI (show tgtyp (x :: y :: z :: u :: t)=tt from htt.out)
 have RA:=hI (h.on hb0)
 have RB:=hI (show Rd w1 w1.heap.size (some ⟨bb,oo+2,none⟩) (z :: u :: t) by
  have:=(h.on hb0).cutG (f:=2) (c:=c) (by simp;omega)
  rw [if_neg (by omega)] at this
  exact this)
 have BA:=hI hb
 have BB:=hI (show By (z :: u :: t) from hb.drop 2)
 have LA:=hI (show (x :: y :: z :: u :: t).length=n by simp;omega)
 have LB:=hI (show (z :: u :: t).length=n - 2 by simp;omega)
 have HD:=hI (show mm≤n4→(((x :: y :: z :: u :: t).take (4+mm)).drop 4).length=mm from fun hle=>by
  rw [List.length_drop,List.length_take]
  simp only [List.length_cons]
  have:=hn4.out
  omega)
 have RD:=hI (show Rd w1 w1.heap.size (some ⟨bb,oo+4,none⟩) (((x :: y :: z :: u :: t).take (4+mm)).drop 4) by
  have:=((h.on hb0).take (4+mm)).cutG (f:=4) (c:=c) (by rw [List.length_take];simp only [List.length_cons];omega)
  rw [if_neg hc4] at this
  exact this)
 have N1:=fun k=>tgnum_any x y tt _ rfl rfl htt.out n c (some ⟨bb,oo,none⟩) (w1.drewN k) (RA.out.on (below_drewN (Below.refl _ _) k)) BA.out LA.out
 have N2:=fun k=>tgnum_any z u mm _ rfl rfl hmm.out (n - 2) (c - 2) (some ⟨bb,oo+2,none⟩) (w1.drewN k) (RB.out.on (below_drewN (Below.refl _ _) k)) BB.out LB.out
 have NN:=hI N1
 have NM:=hI N2
 have j1:¬ (n:Int)<4:=by omega
 have j2:¬ c=2:=by omega
 have j3:(2:Int)≤(n:Int):=by omega
 have j4:(n:Int)≤(c:Int):=by omega
 have j5:(n:Int) - 4=(n4:Int):=by omega
 have j6:IntKind.i64.wrap (n4:Int)=(n4:Int):=IntWalk.i64_in _ (by omega)
 clear N1 N2 h hb hb0 hs1 hw1 hl hx hy hz hu hbb
 by_cases g1:n4<mm
 ·have E:=hI (show tgstep (x :: y :: z :: u :: t)=(0,2) by rw [HE.out,if_pos g1])
  have k1:(n4:Int)<(mm:Int):=by omega
  clear g1 HE
  go_enter Tryz.func70,Tryz.ntmps70
  go_upto_region 1 with fail
  rw [←HW1.out]
  go_wp2_with fail
  go_quiet (first | (go_at_call 84;with_reducible exact Calls.quiet_of (NN.out _)) | (go_at_call 84;with_reducible exact Calls.quiet_of (NM.out _)))
  all_goals
   refine at_worldG (fun W=>Hid (Below w1.heap.size w1 W)) (hI (below_drewN (Below.refl _ _) _)) ?_
   intro W BW
   obtain ⟨s2,q1,q2,q3,q4⟩:=CA.out _ BW.out
   go_wp2_with fail
   refine bodyPost_ret (v:=.tuple #[.agg #[.int .u16 0,.slice none 0 0],.int .i64 2]) ?_ rfl (fir_bad E.out (by decide) ?_)
   ·rw [results_cell_tmp rfl];go_simp
   ·exact fir_fin B0.out _ _ BW.out
 have k1:¬ (n4:Int)<(mm:Int):=by omega
 by_cases g2:tt=0
 ·have k2:((tt:Int) == 0)=true:=by rw [g2];rfl
  by_cases g3:0<mm
  ·have E:=hI (show tgstep (x :: y :: z :: u :: t)=(0,4) by rw [HE.out,if_neg g1,if_pos ⟨g2,g3⟩])
   have k3:(0:Int)<(mm:Int):=by omega
   clear g1 g2 g3 HE
   go_enter Tryz.func70,Tryz.ntmps70
   go_upto_region 1 with fail
   rw [←HW1.out]
   go_wp2_with fail
   go_quiet (first | (go_at_call 84;with_reducible exact Calls.quiet_of (NN.out _)) | (go_at_call 84;with_reducible exact Calls.quiet_of (NM.out _)))
   all_goals
    refine at_worldG (fun W=>Hid (Below w1.heap.size w1 W)) (hI (below_drewN (Below.refl _ _) _)) ?_
    intro W BW
    obtain ⟨s2,q1,q2,q3,q4⟩:=CA.out _ BW.out
    go_wp2_with fail
    refine bodyPost_ret (v:=.tuple #[.agg #[.int .u16 0,.slice none 0 0],.int .i64 4]) ?_ rfl (fir_bad E.out (by decide) ?_)
    ·rw [results_cell_tmp rfl];go_simp
    ·exact fir_fin B0.out _ _ BW.out
  ·have E:=hI (show tgstep (x :: y :: z :: u :: t)=(4+mm,0) by rw [HE.out,if_neg g1,if_neg (fun h=>g3 h.2)])
   obtain rfl:mm=0:=by omega
   have HDL:=hI (HD.out (by omega))
   have p1:IntKind.u16.wrap (tt:Int)=(tt:Int):=by apply IntWalk.u16_in;omega
   have p4:(4:Int)≤(c:Int):=by omega
   clear g1 g2 g3 HE
   go_enter Tryz.func70,Tryz.ntmps70
   go_upto_region 1 with fail
   rw [←HW1.out]
   go_wp2_with fail
   go_quiet (first | (go_at_call 84;with_reducible exact Calls.quiet_of (NN.out _)) | (go_at_call 84;with_reducible exact Calls.quiet_of (NM.out _)))
   all_goals
    refine at_worldG (fun W=>Hid (Below w1.heap.size w1 W)) (hI (below_drewN (Below.refl _ _) _)) ?_
    intro W BW
    obtain ⟨s2,q1,q2,q3,q4⟩:=CA.out _ BW.out
    go_wp2_with (go_at_call 77;(with_reducible refine (clone_any _ 0 (some ⟨bb,oo+4,none⟩) _ _ (RD.out.on BW.out) HDL.out (by omega)).mono ?_);rintro e w5 ⟨A5,c5,rfl,HN⟩;have B5:=hI (BW.out.trans (HN.2.2.2.mono BW.out.size));have OW:=hI (own_lo HN.2.1 BW.out.size);clear HN s2 q1 q2 q3 q4;obtain ⟨s2,q1,q2,q3,q4⟩:=CA.out _ B5.out)
    refine bodyPost_ret (v:=.tuple #[tgV tt A5 0 c5,.int .i64 0]) ?_ rfl (.inr ⟨A5,c5,0,E.out,by rw [HT.out],HDL.out,?_⟩)
    ·rw [results_cell_tmp rfl];go_simp
    ·have ho:=fir_own (.int .u16 (tt:Int)) (.slice A5 0 c5) HS1.out OW.out
     exact ⟨ho,Rd.own ho,fir_fin B0.out _ _ B5.out⟩
 ·have k2:((tt:Int) == 0)=false:=by rw [beq_eq_false_iff_ne];omega
  have E:=hI (show tgstep (x :: y :: z :: u :: t)=(4+mm,0) by rw [HE.out,if_neg g1,if_neg (fun h=>g2 h.1)])
  have HDL:=hI (HD.out (by omega))
  obtain ⟨k4,hk4⟩:∃ k4,4+mm=k4:=⟨_,rfl⟩
  have p1:IntKind.u16.wrap (tt:Int)=(tt:Int):=by apply IntWalk.u16_in;omega
  have p2:(4:Int)+(mm:Int)=(k4:Int):=by omega
  have p3:IntKind.i64.wrap (k4:Int)=(k4:Int):=IntWalk.i64_in _ (by omega)
  have p4:(4:Int)≤(k4:Int):=by omega
  have p5:(k4:Int)≤(c:Int):=by omega
  have p6:k4 - 4=mm:=by omega
  clear g1 g2 HE
  go_enter Tryz.func70,Tryz.ntmps70
  go_upto_region 1 with fail
  rw [←HW1.out]
  go_wp2_with fail
  go_quiet (first | (go_at_call 84;with_reducible exact Calls.quiet_of (NN.out _)) | (go_at_call 84;with_reducible exact Calls.quiet_of (NM.out _)))
  all_goals
   refine at_worldG (fun W=>Hid (Below w1.heap.size w1 W)) (hI (below_drewN (Below.refl _ _) _)) ?_
   intro W BW
   obtain ⟨s2,q1,q2,q3,q4⟩:=CA.out _ BW.out
   go_wp2_with (go_at_call 77;(with_reducible refine (clone_any _ mm (some ⟨bb,oo+4,none⟩) _ _ (RD.out.on BW.out) HDL.out (by omega)).mono ?_);rintro e w5 ⟨A5,c5,rfl,HN⟩;have B5:=hI (BW.out.trans (HN.2.2.2.mono BW.out.size));have OW:=hI (own_lo HN.2.1 BW.out.size);clear HN s2 q1 q2 q3 q4;obtain ⟨s2,q1,q2,q3,q4⟩:=CA.out _ B5.out)
   refine bodyPost_ret (v:=.tuple #[tgV tt A5 mm c5,.int .i64 0]) ?_ rfl (.inr ⟨A5,c5,mm,E.out,by rw [HT.out],HDL.out,?_⟩)
   ·rw [results_cell_tmp rfl];go_simp
   ·have ho:=fir_own (.int .u16 (tt:Int)) (.slice A5 mm c5) HS1.out OW.out
    exact ⟨ho,Rd.own ho,fir_fin B0.out _ _ B5.out⟩
theorem tgfir_four (x y z u:Nat) (A:Option Addr) (w:World) (h:Rd w w.heap.size A [x,y,z,u]) (hb:By [x,y,z,u]) :
  Calls Tryz.prog 70 #[.slice A 4 4] w (FirG [x,y,z,u] w):=by
 obtain ⟨bb,oo,x',rfl,hbb,hx',hcx⟩:=h.at_ (k:=0) (by simp)
 clear hx' hcx
 obtain ⟨w1,hw1⟩:∃ w1,w1=w.alloc (.cells #[.int .u16 0,.slice none 0 0] 58):=⟨_,rfl⟩
 have hx:x<256:=hb x (by simp)
 have hy:y<256:=hb y (by simp)
 have hb0:Below w.heap.size w w1:=by rw [hw1];exact (Below.refl _ _).alloc (Nat.le_refl _) _
 have hs1:w1.heap.size=w.heap.size+1:=by rw [hw1,World.size_alloc]
 have B0:=hI hb0
 have HS1:=hI hs1
 have CA:=hI (fun w' (hb':Below w1.heap.size w1 w')=>fir_cells hw1 hb')
 have HW1:=hI hw1
 obtain ⟨tt,htt⟩:∃ tt,Hid (x*256+y=tt):=⟨_,hI rfl⟩
 obtain ⟨mm,hmm⟩:∃ mm,Hid (z*256+u=mm):=⟨_,hI rfl⟩
 have ht2:tt<65536:=by have:=htt.out;omega
 have HE:=hI (show tgstep [x,y,z,u]=if 0<mm then (0,2) else if tt=0∧0<mm then (0,4) else (4+mm,0) by rw [←hmm.out,← htt.out];rfl)
 have HT:=hI (show tgtyp [x,y,z,u]=tt from htt.out)
 have RA:=hI (h.on hb0)
 have RB:=hI (show Rd w1 w1.heap.size (some ⟨bb,oo+2,none⟩) [z,u] from (h.on hb0).cutG (f:=2) (c:=4) (by simp))
 have BA:=hI hb
 have BB:=hI (show By [z,u] from hb.drop 2)
 have N1:=fun k=>tgnum_any x y tt _ rfl rfl htt.out 4 4 (some ⟨bb,oo,none⟩) (w1.drewN k) (RA.out.on (below_drewN (Below.refl _ _) k)) BA.out rfl
 have N2:=fun k=>tgnum_any z u mm _ rfl rfl hmm.out 2 2 (some ⟨bb,oo+2,none⟩) (w1.drewN k) (RB.out.on (below_drewN (Below.refl _ _) k)) BB.out rfl
 have NN:=hI N1
 have NM:=hI N2
 clear N1 N2 h hb hb0 hs1 hw1 hx hy hbb
 by_cases g1:0<mm
 ·have E:=hI (show tgstep [x,y,z,u]=(0,2) by rw [HE.out,if_pos g1])
  have k1:(0:Int)<(mm:Int):=by omega
  clear g1 HE
  go_enter Tryz.func70,Tryz.ntmps70
  go_upto_region 1 with fail
  rw [←HW1.out]
  go_wp2_with fail
  go_quiet (first | (go_at_call 84;with_reducible exact Calls.quiet_of (NN.out _)) | (go_at_call 84;with_reducible exact Calls.quiet_of (NM.out _)))
  all_goals
   refine at_worldG (fun W=>Hid (Below w1.heap.size w1 W)) (hI (below_drewN (Below.refl _ _) _)) ?_
   intro W BW
   obtain ⟨s2,q1,q2,q3,q4⟩:=CA.out _ BW.out
   go_wp2_with fail
   refine bodyPost_ret (v:=.tuple #[.agg #[.int .u16 0,.slice none 0 0],.int .i64 2]) ?_ rfl (fir_bad E.out (by decide) ?_)
   ·rw [results_cell_tmp rfl];go_simp
   ·exact fir_fin B0.out _ _ BW.out
 ·obtain rfl:mm=0:=by omega
  have E:=hI (show tgstep [x,y,z,u]=(4+0,0) by rw [HE.out,if_neg g1,if_neg (fun h=>g1 h.2)])
  have p1:IntKind.u16.wrap (tt:Int)=(tt:Int):=by apply IntWalk.u16_in;omega
  clear g1 HE
  by_cases g2:tt=0
  ·have k2:((tt:Int) == 0)=true:=by rw [g2];rfl
   clear g2
   go_enter Tryz.func70,Tryz.ntmps70
   go_upto_region 1 with fail
   rw [←HW1.out]
   go_wp2_with fail
   go_quiet (first | (go_at_call 84;with_reducible exact Calls.quiet_of (NN.out _)) | (go_at_call 84;with_reducible exact Calls.quiet_of (NM.out _)))
   all_goals
    refine at_worldG (fun W=>Hid (Below w1.heap.size w1 W)) (hI (below_drewN (Below.refl _ _) _)) ?_
    intro W BW
    obtain ⟨s2,q1,q2,q3,q4⟩:=CA.out _ BW.out
    go_wp2_with (go_at_call 77;(with_reducible refine (clone_any [] 0 _ _ _ Rd.nil rfl (by omega)).mono ?_);rintro e w5 ⟨A5,c5,rfl,HN⟩;have B5:=hI (BW.out.trans (HN.2.2.2.mono BW.out.size));have OW:=hI (own_lo HN.2.1 BW.out.size);clear HN s2 q1 q2 q3 q4;obtain ⟨s2,q1,q2,q3,q4⟩:=CA.out _ B5.out)
    refine bodyPost_ret (v:=.tuple #[tgV tt A5 0 c5,.int .i64 0]) ?_ rfl (.inr ⟨A5,c5,0,E.out,by rw [HT.out],rfl,?_⟩)
    ·rw [results_cell_tmp rfl];go_simp
    ·have ho:=fir_own (.int .u16 (tt:Int)) (.slice A5 0 c5) HS1.out OW.out
     exact ⟨ho,Rd.own ho,fir_fin B0.out _ _ B5.out⟩
  ·have k2:((tt:Int) == 0)=false:=by rw [beq_eq_false_iff_ne];omega
   clear g2
   go_enter Tryz.func70,Tryz.ntmps70
   go_upto_region 1 with fail
   rw [←HW1.out]
   go_wp2_with fail
   go_quiet (first | (go_at_call 84;with_reducible exact Calls.quiet_of (NN.out _)) | (go_at_call 84;with_reducible exact Calls.quiet_of (NM.out _)))
   all_goals
    refine at_worldG (fun W=>Hid (Below w1.heap.size w1 W)) (hI (below_drewN (Below.refl _ _) _)) ?_
    intro W BW
    obtain ⟨s2,q1,q2,q3,q4⟩:=CA.out _ BW.out
    go_wp2_with (go_at_call 77;(with_reducible refine (clone_any [] 0 _ _ _ Rd.nil rfl (by omega)).mono ?_);rintro e w5 ⟨A5,c5,rfl,HN⟩;have B5:=hI (BW.out.trans (HN.2.2.2.mono BW.out.size));have OW:=hI (own_lo HN.2.1 BW.out.size);clear HN s2 q1 q2 q3 q4;obtain ⟨s2,q1,q2,q3,q4⟩:=CA.out _ B5.out)
    refine bodyPost_ret (v:=.tuple #[tgV tt A5 0 c5,.int .i64 0]) ?_ rfl (.inr ⟨A5,c5,0,E.out,by rw [HT.out],rfl,?_⟩)
    ·rw [results_cell_tmp rfl];go_simp
    ·have ho:=fir_own (.int .u16 (tt:Int)) (.slice A5 0 c5) HS1.out OW.out
     exact ⟨ho,Rd.own ho,fir_fin B0.out _ _ B5.out⟩
theorem tgfir_any (b:List Nat) (n c:Nat) (A:Option Addr) (w:World) (h:Rd w w.heap.size A b) (hb:By b) (hl:b.length=n) (hn:n≤1073741824) (hc:n≤c) :
  Calls Tryz.prog 70 #[.slice A n c] w (FirG b w):=by
 by_cases h4:n<4
 ·exact tgfir_short b n c A w hl h4
 ·match b,hl with
  | [],hl=>simp at hl;omega
  | [_],hl=>simp at hl;omega
  | [_,_],hl=>simp at hl;omega
  | [_,_,_],hl=>simp at hl;omega
  | x :: y :: z :: u :: t,hl =>
   by_cases hc4:c=4
   ·subst hc4
    obtain rfl:n=4:=by omega
    obtain rfl:t=[]:=List.eq_nil_of_length_eq_zero (by simpa using hl)
    exact tgfir_four x y z u A w h hb
   ·exact tgfir_long x y z u t n c A w h hb (by simpa using hl) hn hc hc4
theorem tgfir_bad (b:List Nat) (q:Nat) (hq:(tgstep b).2=q) (hq0:q≠0) (n c:Nat) (A:Option Addr) (w:World) (h:Rd w w.heap.size A b) (hb:By b) (hl:b.length=n) (hn:n≤1073741824) (hc:n≤c) :
  Calls Tryz.prog 70 #[.slice A n c] w fun e w'=>e=.returned (.tuple #[.agg #[.int .u16 0,.slice none 0 0],.int .i64 (q:Int)])∧Below w.heap.size w w' :=
 (tgfir_any b n c A w h hb hl hn hc).mono fun e w' hf=>by
  rcases hf with ⟨-,h2,h3⟩ | ⟨A,c,n,h1,-⟩
  ·exact ⟨by rw [h2,hq],h3⟩
  ·rw [h1] at hq;exact absurd hq.symm hq0
theorem tgfir_ok (b:List Nat) (m t:Nat) (hm:tgstep b=(4+m,0)) (ht:tgtyp b=t) (n c:Nat) (A:Option Addr) (w:World) (h:Rd w w.heap.size A b) (hb:By b) (hl:b.length=n) (hn:n≤1073741824) (hc:n≤c) :
  Calls Tryz.prog 70 #[.slice A n c] w fun e w'=>∃ A c,e=.returned (.tuple #[tgV t A m c,.int .i64 0])∧New w w' A c m ((b.take (4+m)).drop 4) :=
 (tgfir_any b n c A w h hb hl hn hc).mono fun e w' hf=>by
  rcases hf with ⟨h1,-⟩ | ⟨A,c,n,h1,h2,h3⟩
  ·rw [hm] at h1;exact absurd rfl h1
  ·rw [hm] at h1
   obtain rfl:m=n:=by injection h1 with h1;omega
   exact ⟨A,c,by rw [h2,ht],h3⟩
end
section
open Go.RowKit
theorem tag_blk {w w':World} {T:TypeId} {t n c:Nat} {A:Option Addr} (hb:Below (w.alloc (.cells #[.int .u16 (t:Int),.slice A n c] T)).heap.size (w.alloc (.cells #[.int .u16 (t:Int),.slice A n c] T)) w') :
  w'.cell? ⟨w.heap.size,0,none⟩=some (.int .u16 (t:Int))∧w'.cell? ⟨w.heap.size,1,none⟩=some (.slice A n c):=by
 have hv:w'.heap[w.heap.size]?=some (.cells #[.int .u16 (t:Int),.slice A n c] T (0,0)):=(hb.block _ (by simp)).trans (heap_alloc_new _ _)
 exact ⟨by rw [cell_of_row w' _ 0 _ _ _ hv];rfl,by rw [cell_of_row w' _ 1 _ _ _ hv];rfl⟩
theorem tgone_next {l:List (Nat × List Nat)} {k:Nat} {o:Nat × List Nat} (h:tgerr (l.take k)=0) (hk:l[k]?=some o):tgerr (l.take (k+1))=tgone o.1 o.2.length:=tgerr_next h hk
theorem tgerr_mem {l:List (Nat × List Nat)} (h:tgerr l=0) {x:Nat × List Nat} (hx:x ∈ l):x.1≠0∧x.2.length≤65535:=by
 induction l with
 | nil=>cases hx
 | cons o l ih =>
  obtain ⟨h0,h1,h2⟩:=tgerr_cons.1 h
  rcases List.mem_cons.1 hx with rfl | hx
  ·exact ⟨h0,h1⟩
  ·exact ih h2 hx
structure PG (w W:World) (q:Nat) (T:TypeId) (t n:Nat) (A:Option Addr) (c:Nat) (v:Value) (m:Nat) (xs:List Nat):Prop where
 bel:Below w.heap.size w W
 own:W.ownsRow w.heap.size 5 1 v m (bvs xs)
 blk:W.heap[q]?=some (.cells #[.int .u16 (t:Int),.slice A n c] T (0,0))
section
variable {w W X W' : World} {q : Nat} {T : TypeId} {t n : Nat} {A : Option Addr} {c : Nat} {v v' : Value} {m m' : Nat} {xs xs' : List Nat}
theorem PG.cells (h:PG w W q T t n A c v m xs):W.cell? ⟨q,0,none⟩=some (.int .u16 (t:Int))∧W.cell? ⟨q,1,none⟩=some (.slice A n c):=by
 constructor
 ·rw [cell_of_row W q 0 _ _ _ h.blk];rfl
 ·rw [cell_of_row W q 1 _ _ _ h.blk];rfl
theorem PG.step (h:PG w W q T t n A c v m xs) (hb:Below X.heap.size X W') (hX:Below W.heap.size W X:=by first | exact Below.refl _ _ | exact (Below.refl _ _).drew):PG w W' q T t n A c v m xs:=by
 have hb':Below W.heap.size W W':=hX.trans (hb.mono hX.size)
 exact ⟨h.bel.trans (hb'.mono h.bel.size),own_below h.own hb',(hb'.block _ (Array.getElem?_eq_some_iff.1 h.blk).1).trans h.blk⟩
theorem PG.drew (h:PG w W q T t n A c v m xs):PG w W.drew q T t n A c v m xs:=h.step (X:=W) (Below.refl _ _).drew
theorem PG.al (h:PG w W q T t n A c v m xs) (o:Obj):PG w (W.alloc o) q T t n A c v m xs:=h.step (X:=W) ((Below.refl _ _).alloc (Nat.le_refl _) o)
theorem PG.app (h:PG w W q T t n A c v m xs) (hT:T≠5) (ho:W'.ownsRow w.heap.size 5 1 v' m' (bvs xs')) (hg:W.grownBy W' v.ownBlock):PG w W' q T t n A c v' m' xs':=by
 refine ⟨h.bel.grown hg h.bel.size (fun k hk=>(h.own.lt k hk).1),ho,(hg.block q (Array.getElem?_eq_some_iff.1 h.blk).1 fun e=>?_).trans h.blk⟩
 obtain ⟨cur,hc⟩:=own_blk h.own (g:=q) e.symm
 rw [h.blk] at hc
 injection hc with hc
 injection hc with _ hc
 exact hT hc
end
theorem tgput_any (l:List (Nat × List Nat)) (n c:Nat) (A:Option Addr) (F:Nat→Prop) (w:World) (h:Rws shG F w A l) (hl:l.length=n) (hn:n≤137438953472) (hd:tgdat l≤68719476736) (hty:∀ o ∈ l,o.1<65536) :
  Calls Tryz.prog 42 #[.slice A n c] w fun e w'=>∃ A' c' k,e=.returned (.tuple #[.slice A' k c',.int .i64 ((tgerr l:Nat):Int)])∧New w w' A' c' k (tgputA l):=by
 obtain ⟨i0,hi,hz0,hz1,hz2⟩:=info_parts byte_info
 have HL:=hI hl
 have HD:=hI (tgdat_take l)
 have HY:=hI hty
 clear hl hty
 go_enter Tryz.func42,Tryz.ntmps42
 go_wp2_with fail
 go_loopw [4,14] (fun s i wr=>∃ k q:Nat,k≤n∧i=.int .i64 k∧s=.int .i64 q∧Hid (tgerr (l.take k)=0)∧Hid (4*k+tgdat (l.take k)=q)∧Below w.heap.size w wr) (fun _ i _=>n - (intOf i).toNat)
 case atStart=>exact ⟨0,0,Nat.zero_le _,rfl,rfl,hI rfl,hI rfl,Below.refl _ _⟩
 case round =>
  obtain ⟨k,q,hk,rfl,rfl,hlg,hq,hbel⟩:=hrel
  have hq1:q≤618475290624:=by have:=HD.out k;have:=hq.out;omega
  by_cases hlt:k<n
  ·obtain ⟨b,o,x,A3,c3,rfl,hb3,hx,h3,h4,h5,h6⟩:=(h.below hbel).tag (k:=k) (by rw [HL.out];exact hlt)
   have HX:=hI hx
   have hxl:x.2.length≤68719476736:=by
    have e:=tgdat_at hx
    have:=tgdat_take l (k+1)
    omega
   have HQ:=hI (show 4*(k+1)+tgdat (l.take (k+1))=q+(4+x.2.length) by rw [tgdat_at hx,← hq.out];omega)
   have hq2:q+(4+x.2.length)≤618475290624+68719476740:=by omega
   obtain ⟨e,he⟩:∃ e,Hid (tgone x.1 x.2.length=e):=⟨_,hI rfl⟩
   have HE:=hI ((tgone_next hlg.out HX.out).trans he.out)
   have i1:(0:Int)≤k:=by omega
   have i2:(k:Int)<n:=by omega
   clear hx h6
   by_cases he0:e=0
   ·subst he0
    go_wp2_with (go_at_call 65;(with_reducible refine (tgchk_any x.1 x.2.length c3 A3 _ _ he.out).mono ?_);rintro e w5 ⟨rfl,hb5⟩;obtain ⟨f0,f1⟩:=tag_blk hb5;have R2:=hbel.trans (((Below.refl _ _).alloc (Nat.le_refl _) _).trans (hb5.mono (by simp)) |>.mono hbel.size))
    go_roundw
    case rel=>exact ⟨k+1,q+(4+x.2.length),by omega,by go_num,by go_num,HE,HQ,R2⟩
    case measure=>simp [intOf];omega
   ·have HQ2:=tgerr_at (l:=l) (k+1) (by rw [HE.out];exact he0)
    have EP:=hI (show tgerr l=e by rw [HQ2,HE.out])
    have EA:=hI (show tgputA l=[] by unfold tgputA;rw [EP.out,if_neg he0])
    have j0:((e:Int) != 0)=true:=by rw [bne_iff_ne];omega
    clear HQ2 HE HQ hq2
    go_wp2_with (go_at_call 65;(with_reducible refine (tgchk_any x.1 x.2.length c3 A3 _ _ he.out).mono ?_);rintro e w5 ⟨rfl,hb5⟩;obtain ⟨f0,f1⟩:=tag_blk hb5;have R2:=hbel.trans (((Below.refl _ _).alloc (Nat.le_refl _) _).trans (hb5.mono (by simp)) |>.mono hbel.size))
    go_ret2
    rw [EP.out,EA.out]
    exact ⟨none,0,0,rfl,rfl,World.ownsRow_nil _ _ _ _,Rd.nil,R2⟩
  ·have he:k=n:=by omega
   subst he
   have hlg2:=hlg.out
   rw [List.take_of_length_le (by rw [HL.out];exact Nat.le_refl _)] at hlg2
   have EP:=hI hlg2
   have EA:=hI (show tgputA l=tgput l by unfold tgputA;rw [hlg2];rfl)
   have HLG:=hI (show ∀ j x,l[j]?=some x→x.1≠0∧x.2.length≤65535 from fun j x hx=>tgerr_mem hlg2 (List.mem_of_getElem? hx))
   have HB3:=hI hbel
   clear hlg2 hlg hq hbel
   obtain ⟨w4,hmk,hown4,hg4⟩:=run_make_own (P:=Tryz.prog) wr w.heap.size 26 5 i0 (.int .u8 0) 1 Tryz.underlying26 hi hz0 hz1 .i64 .i64 q (by rw [hz2];omega) (by unfold maxLen;omega) HB3.out.size
   have hbel4:=HB3.out.grown hg4 HB3.out.size (fun k hk=>by cases hk)
   go_wp2_with fail
   clear hg4 hmk
   go_loopw [8,34] (fun v i wr=>∃ j m:Nat,j≤k∧i=.int .i64 j∧wr.ownsRow w.heap.size 5 1 v m (bvs (tgput (l.take j)))∧Below w.heap.size w wr) (fun _ i _=>k - (intOf i).toNat)
   case atStart=>exact ⟨0,0,Nat.zero_le _,rfl,hown4,hbel4⟩
   case round =>
    clear hown4 hbel4
    obtain ⟨j,m,hj,rfl,hown,hbel⟩:=hrel
    have hm1:=hown.1
    rw [bvs_len,tgput_len] at hm1
    have hm2:m≤618475290624:=by have:=HD.out j;have:=List.length_take (i:=j) (l:=l);omega
    by_cases hlt2:j<k
    ·obtain ⟨b,o,x,A3,c3,rfl,hb3,hx,h3,h4,h5,h6⟩:=h.tag (k:=j) (by rw [HL.out];exact hlt2)
     replace h3:=(hbel.cell (p:=⟨b,o+j*2,none⟩) hb3).trans h3
     replace h4:=(hbel.cell (p:=⟨b,o+j*2+1,none⟩) hb3).trans h4
     obtain ⟨hx0,hxl⟩:=HLG.out _ _ hx
     have hx16:=HY.out x (List.mem_of_getElem? hx)
     have H6:=hI h6.rd
     obtain ⟨z1,hz1'⟩:∃ z,Hid (x.1 / 256=z):=⟨_,hI rfl⟩
     obtain ⟨z2,hz2'⟩:∃ z,Hid (x.1 % 256=z):=⟨_,hI rfl⟩
     obtain ⟨z3,hz3'⟩:∃ z,Hid (x.2.length / 256=z):=⟨_,hI rfl⟩
     obtain ⟨z4,hz4'⟩:∃ z,Hid (x.2.length % 256=z):=⟨_,hI rfl⟩
     have y1:z1<256:=by have:=hz1'.out;omega
     have y2:z2<256:=by have:=hz2'.out;omega
     have y3:z3<256:=by have:=hz3'.out;omega
     have y4:z4<256:=by have:=hz4'.out;omega
     have HE:=hI (show tgput (l.take (j+1))=tgput (l.take j) ++ [z1,z2,z3,z4] ++ x.2 by rw [tgput_at hx,← hz1'.out,← hz2'.out,← hz3'.out,← hz4'.out];simp [tgenc])
     have C:=hI (show PG w (wr.alloc (.cells #[.int .u16 (x.1:Int),.slice A3 x.2.length c3] 58)) wr.heap.size 58 x.1 x.2.length A3 c3 _ m (tgput (l.take j)) from ⟨hbel.alloc hbel.size _,own_below hown ((Below.refl _ _).alloc (Nat.le_refl _) _),heap_alloc_new _ _⟩)
     have HLT:=hI (show Rd ((wr.alloc (.cells #[.int .u16 (x.1:Int),.slice A3 x.2.length c3] 58)).alloc (.cells #[.int .u8 (z1:Int),.int .u8 (z2:Int),.int .u8 (z3:Int),.int .u8 (z4:Int)] 5)) ((wr.alloc (.cells #[.int .u16 (x.1:Int),.slice A3 x.2.length c3] 58)).alloc (.cells #[.int .u8 (z1:Int),.int .u8 (z2:Int),.int .u8 (z3:Int),.int .u8 (z4:Int)] 5)).heap.size (some ⟨wr.heap.size+1,0,none⟩) [z1,z2,z3,z4] by
      have h7:=Rd.lit_ (wr.alloc (.cells #[.int .u16 (x.1:Int),.slice A3 x.2.length c3] 58)) [z1,z2,z3,z4]
      rw [show (wr.alloc (.cells #[.int .u16 (x.1:Int),.slice A3 x.2.length c3] 58)).heap.size=wr.heap.size+1 from World.size_alloc ..] at h7
      exact h7)
     have i1:(0:Int)≤j:=by omega
     have i2:(j:Int)<k:=by omega
     have e1:(x.1:Int) / 256=(z1:Int):=by have:=hz1'.out;omega
     have e2:IntKind.u8.wrap (x.1:Int)=(z2:Int):=by rw [IntKind.wrap_u8];have:=hz2'.out;omega
     have e3:(x.2.length:Int) / 256=(z3:Int):=by have:=hz3'.out;omega
     have e4:IntKind.u8.wrap (x.2.length:Int)=(z4:Int):=by rw [IntKind.wrap_u8];have:=hz4'.out;omega
     have a1:IntKind.u8.wrap (z1:Int)=(z1:Int):=by apply IntWalk.u8_in;omega
     have a3:IntKind.u8.wrap (z3:Int)=(z3:Int):=by apply IntWalk.u8_in;omega
     clear h6 hx hown hm1 hx0 hx16 hbel
     go_wp2_with (first
      | (at_builtin;refine list_app rfl _ _ _ rfl _ i0 Tryz.underlying26 hi hz0 hz1 hz2 _ _ m (tgput (l.take j)) rfl (C.out.al _).own _ _ 4 _ [z1,z2,z3,z4] rfl HLT.out rfl (by omega) (C.out.al _).bel.size ?_;intro A6 c6 w6 ho6 hg6;replace C:=hI ((C.out.al _).app (by decide) ho6 hg6);clear ho6 hg6;obtain ⟨f0,f1⟩:=C.out.cells)
      | (at_builtin;refine list_app rfl _ _ _ rfl _ i0 Tryz.underlying26 hi hz0 hz1 hz2 _ _ (m+4) _ rfl C.out.own w.heap.size _ x.2.length _ x.2 rfl (H6.out.below C.out.bel) rfl (by omega) C.out.bel.size ?_;intro A7 c7 w7 ho7 hg7;have R2:=C.out.bel.grown hg7 C.out.bel.size (fun g hg=>(C.out.own.lt g hg).1)))
     rw [←HE.out] at ho7
     go_roundw
     case rel=>exact ⟨j+1,_,by omega,by go_num,ho7,R2⟩
     case measure=>simp [intOf];omega
    ·have he:j=k:=by omega
     subst he
     rw [List.take_of_length_le (by rw [HL.out];exact Nat.le_refl _)] at hown
     go_wp2_with fail
     go_ret2
     rw [EP.out,EA.out]
     obtain ⟨A',c',rfl,hN⟩:=New.mk hown hbel
     exact ⟨A',c',m,rfl,hN⟩
end
section
open Go.RowKit
def GetH (b:List Nat) (w:World) (e:Ending) (w':World):Prop :=
 ∃ v,e=.returned (.tuple #[v,.int .i64 ((tgget b).2.1:Int),.int .i64 ((tgget b).2.2:Int)])∧Orw shG 58 (fun g=>w.heap.size≤g) w.heap.size w' v (tgget b).1∧Below w.heap.size w w'
theorem getH_bad {b:List Nat} {acc:List (Nat × List Nat)} {k q:Nat} {w w':World} (h:tgget b=tgadd acc k (tgget (b.drop k))) (hn:b.drop k≠[]) (hs:(tgstep (b.drop k)).2=q) (hq:q≠0) (hb:Below w.heap.size w w') :
  GetH b w (.returned (.tuple #[.slice none 0 0,.int .i64 0,.int .i64 (q:Int)])) w':=by
 have e:tgget b=([],0,q):=by
  rw [h,tgget_bad hn (by rw [hs];exact hq),hs]
  unfold tgadd
  rw [if_neg hq]
 exact ⟨_,by rw [e];rfl,by rw [e];exact Orw.nil _ _ _ _ _,hb⟩
theorem getH_stop {b:List Nat} {acc:List (Nat × List Nat)} {k n5:Nat} {w w':World} {v:Value} (h:tgget b=tgadd acc k (tgget (b.drop k))) (hs:(tgstep (b.drop k)).2=0) (ht:tgtyp (b.drop k)=0) (h5:n5=k+4) (ho:Orw shG 58 (fun g=>w.heap.size≤g) w.heap.size w' v acc) (hb:Below w.heap.size w w') :
  GetH b w (.returned (.tuple #[v,.int .i64 (n5:Int),.int .i64 0])) w':=by
 have e:tgget b=(acc,n5,0):=by
  rw [h,tgget_end hs ht,h5]
  unfold tgadd
  rw [if_pos rfl,List.append_nil]
 exact ⟨_,by rw [e];rfl,by rw [e];exact ho,hb⟩
theorem getH_end {b:List Nat} {acc:List (Nat × List Nat)} {k:Nat} {w w':World} {v:Value} (h:tgget b=tgadd acc k (tgget (b.drop k))) (h0:b.drop k=[]) (ho:Orw shG 58 (fun g=>w.heap.size≤g) w.heap.size w' v acc) (hb:Below w.heap.size w w') :
  GetH b w (.returned (.tuple #[v,.int .i64 (k:Int),.int .i64 0])) w':=by
 have e:tgget b=(acc,k,0):=by
  rw [h,h0,tgget_nil]
  unfold tgadd
  rw [if_pos rfl,List.append_nil,Nat.add_zero]
 exact ⟨_,by rw [e];rfl,by rw [e];exact ho,hb⟩
theorem tgstep_end {b:List Nat} {m:Nat} (hs:tgstep b=(4+m,0)) (ht:tgtyp b=0):m=0:=by
 obtain ⟨x,y,z,u,t,-,h1,-,h2,h3⟩:=tgstep_ok (b:=b) (by rw [hs])
 obtain ⟨h4,h5⟩:=h2 (by rw [←h3];exact ht)
 rw [hs] at h1
 dsimp only at h1
 omega
theorem tgget_any (b:List Nat) (n c:Nat) (A:Option Addr) (w:World) (h:Rd w w.heap.size A b) (hb:By b) (hl:b.length=n) (hn:n≤1073741824) (hc:n≤c) :
  Calls Tryz.prog 53 #[.slice A n c] w (GetH b w):=by
 obtain ⟨i0,hi,hz0,hz1,hz2⟩:=info_parts tag_info
 have H:=hI h
 have HB:=hI hb
 have HL:=hI hl
 clear h hb hl
 go_enter Tryz.func53,Tryz.ntmps53
 go_wp2_with fail
 go_loopw [5,6] (fun v a wr=>∃ (k:Nat) (acc:List (Nat × List Nat)),a=.int .i64 k∧k≤n∧4*acc.length≤k∧Hid (tgget b=tgadd acc k (tgget (b.drop k)))∧Orw shG 58 (fun g=>w.heap.size≤g) w.heap.size wr v acc∧Below w.heap.size w wr) (fun _ a _=>n - (intOf a).toNat)
 case atStart=>exact ⟨0,[],rfl,Nat.zero_le _,Nat.zero_le _,hI (tgadd_nil _ (tgget_err b)).symm,Orw.nil _ _ _ _ _,Below.refl _ _⟩
 case round =>
  obtain ⟨k,acc,rfl,hk,hacc,hg,hown,hbel⟩:=hrel
  by_cases hlt:k<n
  ·obtain ⟨bb,oo,x0,rfl,hbb,hx0,hcx⟩:=H.out.at_ (k:=k) (by rw [HL.out];exact hlt)
   clear hx0 hcx
   have hck:¬ c=k:=by omega
   have HNE:=hI (show b.drop k≠[] from fun e=>by have h1:=congrArg List.length e;rw [List.length_drop,HL.out] at h1;simp at h1;omega)
   have HD:=hI (show (b.drop k).length=n - k by rw [List.length_drop,HL.out])
   have HBD:=hI (HB.out.drop k)
   have HRD:=hI (show Rd w w.heap.size (some ⟨bb,oo+k,none⟩) (b.drop k) by
    have:=H.out.cutG (f:=k) (c:=c) (by rw [HL.out];exact hc)
    rw [if_neg hck] at this
    exact this)
   have BE:=hI hbel
   have OW:=hI hown
   have FAR:=hI (fun (g:Nat) hg=>(Orw.lt (g:=g) hown hg).2)
   have i1:(0:Int)≤k:=by omega
   have i2:(k:Int)<n:=by omega
   have i3:(k:Int)≤n:=by omega
   have i4:(n:Int)≤c:=by omega
   obtain ⟨q,hq⟩:∃ q,Hid ((tgstep (b.drop k)).2=q):=⟨_,hI rfl⟩
   by_cases hq0:q=0
   ·subst hq0
    have h2:=tgstep_le hq.out
    rw [HD.out] at h2
    obtain ⟨m,hm⟩:∃ m,Hid (tgstep (b.drop k)=(4+m,0)):=⟨(tgstep (b.drop k)).1 - 4,hI (by
     have e:4+((tgstep (b.drop k)).1 - 4)=(tgstep (b.drop k)).1:=by omega
     rw [e,← hq.out])⟩
    rw [hm.out] at h2
    dsimp only at h2
    obtain ⟨tt,htt⟩:∃ t,Hid (tgtyp (b.drop k)=t):=⟨_,hI rfl⟩
    obtain ⟨dat,hdat⟩:∃ d,Hid (((b.drop k).take (4+m)).drop 4=d):=⟨_,hI rfl⟩
    obtain ⟨k5,hk5⟩:∃ k5,k+(4+m)=k5:=⟨_,rfl⟩
    obtain ⟨m4,hm4⟩:∃ m4,4+m=m4:=⟨_,rfl⟩
    have p1:(4:Int)+(m:Int)=(m4:Int):=by omega
    have p2:IntKind.i64.wrap (m4:Int)=(m4:Int):=IntWalk.i64_in _ (by omega)
    have p3:(k:Int)+(m4:Int)=(k5:Int):=by omega
    have p4:IntKind.i64.wrap (k5:Int)=(k5:Int):=IntWalk.i64_in _ (by omega)
    clear hown hbel hbb
    by_cases ht0:tt=0
    ·have hm0:m=0:=tgstep_end hm.out (by rw [htt.out];exact ht0)
     have j1:((tt:Int) == 0)=true:=by rw [ht0];rfl
     have E:=hI (show k5=k+4 by omega)
     have HT0:=hI (htt.out.trans ht0)
     clear ht0 hm0
     go_wp2_with (go_at_call 70;(with_reducible refine (tgfir_ok (b.drop k) m tt hm.out htt.out (n - k) (c - k) _ _ (HRD.out.on BE.out) HBD.out HD.out (by omega) (by omega)).mono ?_);rintro e w5 ⟨A5,c5,rfl,HN⟩;have BL:=HN.2.2.2.alloc HN.2.2.2.size (.cells #[.int .u16 (tt:Int),.slice A5 m c5] 58);replace OW:=hI (OW.out.below BL);replace BE:=hI (BE.out.trans (BL.mono BE.out.size));clear HN BL)
     go_ret3
     exact getH_stop hg.out hq.out HT0.out E.out OW.out BE.out
    ·have j1:((tt:Int) == 0)=false:=by rw [beq_eq_false_iff_ne];omega
     have HG2:=hI (show tgget b=tgadd (acc ++ [(tt,dat)]) k5 (tgget (b.drop k5)) by
      rw [hg.out,tgget_ok hq.out (by rw [htt.out];exact ht0),hm.out,htt.out,hdat.out,tgadd_add,List.drop_drop,hk5])
     have hacc2:4*(acc ++ [(tt,dat)]).length≤k5:=by rw [List.length_append];simp;omega
     clear ht0
     go_wp2_with (first
      | (go_at_call 70;(with_reducible refine (tgfir_ok (b.drop k) m tt hm.out htt.out (n - k) (c - k) _ _ (HRD.out.on BE.out) HBD.out HD.out (by omega) (by omega)).mono ?_);rintro e w5 ⟨A5,c5,rfl,HN⟩;rw [hdat.out] at HN;obtain ⟨w6,hw6⟩:∃ w6,w6=w5.alloc (.cells #[.int .u16 (tt:Int),.slice A5 m c5] 58):=⟨_,rfl⟩;have HW6:=hI hw6;have hb6:Below w5.heap.size w5 w6:=by {rw [hw6];exact (Below.refl _ _).alloc (Nat.le_refl _) _};have HS:=hI (show w6.heap.size=w5.heap.size+1 by rw [hw6,World.size_alloc]);have hcap:=own_cap HN.2.1;have HLD:=hI HN.1;have HF:=hI (((RdF.own HN.2.1).keep (.of_below hb6)).mono (G:=fun g=>w.heap.size≤g∧wr.heap.size≤g) (fun g _ hg=>⟨Nat.le_trans BE.out.size hg,hg⟩));have BL:=HN.2.2.2.trans (hb6.mono HN.2.2.2.size);replace OW:=hI (OW.out.below BL);replace BE:=hI (BE.out.trans (BL.mono BE.out.size));clear HN BL hb6 hw6)
      | (at_builtin;rw [←HW6.out,← HS.out];refine list_rows shG rfl _ _ _ rfl 58 i0 (.agg #[.int .u16 0,.slice none 0 0]) 32 Tryz.underlying37 hi hz0 hz1 hz2 rfl (by decide) (fun g=>w.heap.size≤g) _ w.heap.size _ _ acc rfl (OW.out.below ((Below.refl _ _).alloc (Nat.le_refl _) _)) rfl _ 1 1 _ rfl (litg _ HLD.out hcap HF.out).read rfl (fun b _ hb=>hb.elim (fun h=>⟨h.1,fun e=>absurd (FAR.out b e) (Nat.not_lt.2 h.2)⟩) (fun h=>⟨Nat.le_trans BE.out.size h,fun e=>Nat.lt_irrefl _ (Nat.lt_of_lt_of_le (OW.out.lt e).2 h)⟩)) (by unfold maxLen;omega) (by omega) (BE.out.alloc BE.out.size _).size ?_;intro v7 w7 ho7 hg7 hm7;have R2:=(BE.out.alloc BE.out.size _).grown hg7 (BE.out.alloc BE.out.size _).size (fun g hg=>(OW.out.lt hg).1);clear hg7 hm7))
     go_roundw
     case rel=>exact ⟨k5,_,rfl,by omega,hacc2,HG2,ho7,R2⟩
     case measure=>simp [intOf];omega
   ·have j1:((q:Int) != 0)=true:=by rw [bne_iff_ne];omega
    have QN:=hI hq0
    clear hown hbel hbb hq0
    go_wp2_with (go_at_call 70;(with_reducible refine (tgfir_bad (b.drop k) q hq.out QN.out (n - k) (c - k) _ _ (HRD.out.on BE.out) HBD.out HD.out (by omega) (by omega)).mono ?_);rintro e w5 ⟨rfl,hb5⟩;replace BE:=hI ((BE.out.trans (hb5.mono BE.out.size)).alloc (Nat.le_trans BE.out.size hb5.size) (.cells #[.int .u16 0,.slice none 0 0] 58));clear hb5)
    go_ret3
    exact getH_bad hg.out HNE.out hq.out QN.out BE.out
  ·have hr0:b.drop k=[]:=List.eq_nil_of_length_eq_zero (by rw [List.length_drop,HL.out];omega)
   have HR0:=hI hr0
   clear hr0
   go_wp2_with fail
   go_ret3
   exact getH_end hg.out HR0.out hown hbel
end
section
open Go.RowKit
def tgask (t:Nat) (o:Nat × List Nat):Bool:=o.1 == t
theorem tgfind_at {l:List (Nat × List Nat)} {f:Nat × List Nat→Bool} {k:Nat} {x:Nat × List Nat} (h:(l.take k).find? f=none) (hx:l[k]?=some x) (hf:f x=true):l.find? f=some x:=by
 have hk:=(List.getElem?_eq_some_iff.1 hx).1
 have e:l=l.take k ++ x :: l.drop (k+1):=by
  have e1:l.drop k=x :: l.drop (k+1):=by
   rw [List.drop_eq_getElem_cons hk,(List.getElem?_eq_some_iff.1 hx).2]
  rw [←e1,List.take_append_drop]
 rw [e,List.find?_append,h,Option.none_or,List.find?_cons_of_pos hf]
theorem tgfind_more {l:List (Nat × List Nat)} {f:Nat × List Nat→Bool} {k:Nat} {x:Nat × List Nat} (h:(l.take k).find? f=none) (hx:l[k]?=some x) (hf:f x=false):(l.take (k+1)).find? f=none:=by
 rw [List.take_add_one,hx,Option.toList_some,List.find?_append,h,Option.none_or]
 simp [hf]
def Tk (w:World) (g t:Nat):Prop:=g<w.heap.size∧w.cell? ⟨g,0,none⟩=some (.int .u16 (t:Int))
theorem Tk.below {w w':World} {g t:Nat} (a:Tk w g t) (hb:Below w.heap.size w w'):Tk w' g t :=
 ⟨Nat.lt_of_lt_of_le a.1 hb.size,(hb.cell (p:=⟨g,0,none⟩) a.1).trans a.2⟩
abbrev fvT (g:Nat):Value:=.func (.func 76) #[] #[.pointer (some ⟨g,0,none⟩)]
theorem tgfind1_any (t:Nat) (o:Nat × List Nat) (n c:Nat) (A:Option Addr) (g:Nat) (w:World) (ha:Tk w g t) (q:Bool) (hq:tgask t o=q) :
  Calls Tryz.prog 76 #[.agg #[.int .u16 (o.1:Int),.slice A n c],.pointer (some ⟨g,0,none⟩)] w fun e w'=>e=.returned (.bool q)∧Below w.heap.size w w':=by
 have hb:=(Below.refl w.heap.size w).alloc (Nat.le_refl _) (.cells #[.int .u16 (o.1:Int),.slice A n c] 58)
 obtain ⟨k1,k2⟩:=ha.below hb
 have k3:=ha.1
 have B:=hI hb
 clear hb
 by_cases h1:o.1=t
 ·have j1:((o.1:Int) == (t:Int))=true:=by rw [beq_iff_eq];omega
  obtain rfl:true=q:=by rw [←hq,tgask,h1];simp
  clear ha hq h1
  go_enter Tryz.func76,Tryz.ntmps76
  go_wp2_with fail
  go_ret
  exact ⟨rfl,B.out⟩
 ·have j1:((o.1:Int) == (t:Int))=false:=by rw [beq_eq_false_iff_ne];omega
  obtain rfl:false=q:=by rw [←hq,tgask];exact (beq_eq_false_iff_ne.2 h1).symm
  clear ha hq h1
  go_enter Tryz.func76,Tryz.ntmps76
  go_wp2_with fail
  go_ret
  exact ⟨rfl,B.out⟩
theorem tgidx_any (t:Nat) (l:List (Nat × List Nat)) (n c:Nat) (A:Option Addr) (F:Nat→Prop) (g:Nat) (w:World) (hr:Rws shG F w A l) (hl:l.length=n) (hn:n≤274877906944) (ha:Tk w g t) :
  Calls Tryz.prog 75 #[.slice A n c,fvT g] w fun e w'=>∃ z:Int,e=.returned (.int .i64 z)∧Below w.heap.size w w'∧Hid (z=-1∧l.find? (tgask t)=none∨∃ i x,z=(i:Nat)∧i<n∧l[i]?=some x∧l.find? (tgask t)=some x):=by
 have HL:=hI hl
 have HR:=hI hr
 have HW:=hI ha
 clear hl hr ha
 go_enter Tryz.func75,Tryz.ntmps75
 go_wp2_with fail
 go_loopw [8] (fun i wr=>∃ k:Nat,k≤n∧i=.int .i64 k∧Hid ((l.take k).find? (tgask t)=none)∧Below w.heap.size w wr) (fun i _=>n - (intOf i).toNat)
 case atStart=>exact ⟨0,Nat.zero_le _,rfl,hI (by simp),Below.refl _ _⟩
 case round =>
  obtain ⟨k,hk,rfl,hf,hbel⟩:=hrel
  by_cases hlt:k<n
  ·obtain ⟨b,o,x,A3,c3,rfl,hb3,hx,h3,h4,h5,h6⟩:=(HR.out.below hbel).tag (k:=k) (by rw [HL.out];exact hlt)
   have HX:=hI hx
   have i1:(0:Int)≤k:=by omega
   have i2:(k:Int)<n:=by omega
   obtain ⟨q,hq⟩:∃ q,Hid (tgask t x=q):=⟨_,hI rfl⟩
   have BE:=hI hbel
   clear hx h6 hbel
   cases q
   ·have R:=hI (tgfind_more hf.out HX.out hq.out)
    go_wp2_with (go_at_call 76;(with_reducible refine (tgfind1_any t x _ c3 A3 g _ (HW.out.below BE.out) _ hq.out).mono ?_);rintro e wn ⟨rfl,hb⟩;replace BE:=hI (BE.out.trans (hb.mono BE.out.size));clear hb)
    go_roundw
    case rel=>exact ⟨k+1,by omega,by go_num,R,BE.out⟩
    case measure=>simp [intOf];omega
   ·have E:=hI (tgfind_at hf.out HX.out hq.out)
    go_wp2_with (go_at_call 76;(with_reducible refine (tgfind1_any t x _ c3 A3 g _ (HW.out.below BE.out) _ hq.out).mono ?_);rintro e wn ⟨rfl,hb⟩;replace BE:=hI (BE.out.trans (hb.mono BE.out.size));clear hb)
    go_ret
    exact ⟨_,rfl,BE.out,hI (.inr ⟨k,x,rfl,hlt,HX.out,E.out⟩)⟩
  ·have he:k=n:=by omega
   subst he
   have E:=hf.out
   rw [List.take_of_length_le (by rw [HL.out];exact Nat.le_refl _)] at E
   have HE:=hI E
   clear E
   go_wp2_with fail
   go_ret
   exact ⟨_,rfl,hbel,hI (.inl ⟨rfl,HE.out⟩)⟩
theorem tk_made (w:World) (t:Nat):Tk (w.alloc (.cells #[.int .u16 (t:Int)] 22)) w.heap.size t:=by
 refine ⟨by rw [World.size_alloc];omega,?_⟩
 rw [cell_of_row _ _ 0 _ _ _ (heap_alloc_new _ _)];rfl
def FndG (l:List (Nat × List Nat)) (t:Nat) (w:World) (e:Ending) (w':World):Prop :=
 (l.find? (tgask t)=none∧e=.returned (.tuple #[.slice none 0 0,.bool false])∧Below w.heap.size w w') ∨
  ∃ o A c,l.find? (tgask t)=some o∧e=.returned (.tuple #[.slice A o.2.length c,.bool true])∧New w w' A c o.2.length o.2
theorem tgfind_any (t:Nat) (l:List (Nat × List Nat)) (n c:Nat) (A:Option Addr) (F:Nat→Prop) (w:World) (hr:Rws shG F w A l) (hl:l.length=n) (hn:n≤274877906944) (hd:∀ x ∈ l,x.2.length≤274877906944) :
  Calls Tryz.prog 61 #[.slice A n c,.int .u16 (t:Int)] w (FndG l t w):=by
 have K:=hI (tk_made w t)
 have B:=hI ((Below.refl w.heap.size w).alloc (Nat.le_refl _) (.cells #[.int .u16 (t:Int)] 22))
 have HR:=hI hr
 have HL:=hI hl
 have HD:=hI hd
 clear hr hl hd
 go_enter Tryz.func61,Tryz.ntmps61
 go_upto_region 1 with fail
 refine at_worldG (fun W=>Hid (Below w.heap.size w W)∧Hid (Tk W w.heap.size t)) ⟨B,K⟩ ?_
 clear B K
 rintro wm ⟨B,K⟩
 go_upto_region 2 with (first
  | (go_at_call 75;(with_reducible refine (tgidx_any t l n c A F _ _ (HR.out.below B.out) HL.out hn K.out).mono ?_);rintro e wn ⟨z,rfl,hb,hz⟩;replace B:=hI (B.out.trans (hb.mono B.out.size));clear hb))
 rcases hz.out with ⟨rfl,hz2⟩ | ⟨i,x,rfl,hi,hx,hz2⟩
 ·have E:=hI hz2
  clear hz2 hz
  go_wp2_with fail
  go_ret2
  exact .inl ⟨E.out,rfl,B.out⟩
 ·have E:=hI hz2
  obtain ⟨b,o,x',A3,c3,rfl,hb3,hx',h3,h4,h5,h6⟩:=(HR.out.below B.out).tag (k:=i) (by rw [HL.out];exact hi)
  obtain rfl:x=x':=Option.some.inj (hx.symm.trans hx')
  have HS:=HD.out x (List.mem_of_getElem? hx)
  have H6:=hI h6.rd
  have i0:¬ (i:Int)<0:=by omega
  have i1:(0:Int)≤i:=by omega
  have i2:(i:Int)<n:=by omega
  clear hz2 hz hx hx' h6
  go_wp2_with (first
   | (go_at_call 77;(with_reducible refine (clone_any x.2 x.2.length A3 c3 _ H6.out rfl HS).mono ?_);rintro e wk ⟨A5,c5,rfl,hN⟩))
  go_ret2
  exact .inr ⟨x,A5,c5,E.out,rfl,own_lo hN.2.1 B.out.size |> fun ho=>⟨hN.1,ho,hN.2.2.1,B.out.trans (hN.2.2.2.mono B.out.size)⟩⟩
end
section
open Go.RowKit Go.Maps
abbrev Nt:=List (Nat × ByteArray)
def strE:Value→Option (DataW Unit × List MemPlace)
 | .string s=>some (.lit (.string s.data.toList),[])
 | _=>none
def nmD:Nt→DataW Unit
 | []=>.map []
 | x :: r=>(nmD r).put (.int .u16 (x.1:Int)) (.lit (.string x.2.data.toList))
def Nb (w:World) (b:Nat) (T:Nt):Prop:=w.ownsMap Tryz.prog 22 strE b T.length (nmD T)
theorem Nb.made (w:World):Nb (w.alloc (.map #[] 0)) w.heap.size []:=World.ownsMap_made _ _ _ _
end
section
open Go.RowKit
theorem tgfew_of {l:List (Nat × List Nat)} (h:tgfew l=true):l.length≤60∧tgdat l≤1000:=by
 unfold tgfew at h
 simpa using h
theorem tgdat_le {l:List (Nat × List Nat)} {x:Nat × List Nat} (hx:x ∈ l):x.2.length≤tgdat l:=by
 obtain ⟨k,hk⟩:=List.mem_iff_getElem?.1 hx
 have h1:=tgdat_at hk
 have h2:=tgdat_take l (k+1)
 omega
theorem tgput_v (l:List (Nat × List Nat)) (q:Nat) (hq:tgerr l=q) (m:List Nat) (hm:tgputA l=m) (k:Nat) (hk:m.length=k) (n c:Nat) (A:Option Addr) (F:Nat→Prop) (w:World) (h:Rws shG F w A l) (hl:l.length=n) (hn:n≤137438953472) (hd:tgdat l≤68719476736) (hG:ByG l) :
  Calls Tryz.prog 42 #[.slice A n c] w fun e w'=>∃ A' c',e=.returned (.tuple #[.slice A' k c',.int .i64 (q:Int)])∧Rd w' w'.heap.size A' m∧k≤c'∧Below w.heap.size w w' :=
 (tgput_any l n c A F w h hl hn hd (fun o ho=>(hG o ho).1)).mono fun _ _ ⟨A',c',k',h1,h2⟩=>by
  rw [hq] at h1
  rw [hm] at h2
  obtain rfl:k=k':=by rw [←hk,h2.1]
  exact ⟨A',c',h1,h2.2.2.1,own_cap h2.2.1,h2.2.2.2⟩
theorem tgputA_ok {l:List (Nat × List Nat)} (h:tgerr l=0):tgputA l=tgput l:=by unfold tgputA;rw [if_pos h]
theorem tgputA_bad {l:List (Nat × List Nat)} {q:Nat} (h:tgerr l=q) (hq:q≠0):tgputA l=[]:=by unfold tgputA;rw [if_neg (by rw [h];exact hq)]
end
end Go.Proofs.YtmhjnghomihjlaaGreat
