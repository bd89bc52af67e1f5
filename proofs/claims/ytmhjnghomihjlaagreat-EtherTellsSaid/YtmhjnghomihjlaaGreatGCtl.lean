/-
  Control packets: what the calls of layer 13 and the document's own answer, first, Put. No condition beyond: octets below 256, data of at most 2^38 octets. Control packets: the document's Put, both Get
-/
import Derived.Test.YtmhjnghomihjlaaGreatGWord
import Derived.Laws.BitsAll
import Derived.OwnWalk
import Derived.WalkMore
import Derived.Test.YtmhjnghomihjlaaGreatGOps
namespace Go.Proofs.YtmhjnghomihjlaaGreat
set_option maxRecDepth 8000
set_option maxHeartbeats 80000000
set_option linter.unusedVariables false
section
open Go.RowKit
def kputB (x y:Nat) (l:List Nat):List Nat:=[x,y,(l.length+4) / 256,(l.length+4) % 256] ++ l
def kputA (x y:Nat) (l:List Nat):List Nat:=if l.length≤65531 then kputB x y l else []
def kerrP (l:List Nat):Nat:=if l.length≤65531 then 0 else 3
def kfirstB (l:List Nat):Nat × Nat :=
 match l with
 | _ :: _ :: x :: y :: _=>if 256*x+y<4 then (0,4) else if l.length<256*x+y then (0,2) else (256*x+y,0)
 | _=>(0,2)
def kgetB (l:List Nat):Nat × Nat × List Nat × Nat :=
 if (kfirstB l).2=0 then (l.headD 0,(l.drop 1).headD 0,(l.take (kfirstB l).1).drop 4,0) else (0,0,[],(kfirstB l).2)
def kpadB (l:List Nat):Nat:=if (kfirstB l).2=0 then l.length - (kfirstB l).1 else 0
theorem kput_len (x y:Nat) (l:List Nat):(kputB x y l).length=l.length+4:=by unfold kputB;simp
theorem kfirst_short {l:List Nat} (h:l.length<4):kfirstB l=(0,2):=by
 match l,h with
 | [],_=>rfl
 | [_],_=>rfl
 | [_,_],_=>rfl
 | [_,_,_],_=>rfl
 | _ :: _ :: _ :: _ :: _,h=>simp at h;omega
theorem kfirst_at {l:List Nat} {x y n:Nat} (hx:l[2]?=some x) (hy:l[3]?=some y) (hn:l.length=n):kfirstB l=if 256*x+y<4 then (0,4) else if n<256*x+y then (0,2) else (256*x+y,0):=by
 subst hn
 match l,hx,hy with
 | _ :: _ :: u :: v :: t,hx,hy =>
  have e1:u=x:=by simpa using hx
  have e2:v=y:=by simpa using hy
  subst e1;subst e2
  rfl
theorem kfirst_ok {l:List Nat} (h:(kfirstB l).2=0):4≤(kfirstB l).1∧(kfirstB l).1≤l.length∧4≤l.length:=by
 rcases Nat.lt_or_ge l.length 4 with h4 | h4
 ·rw [kfirst_short h4] at h;simp at h
 ·have e:=kfirst_at (List.getElem?_eq_getElem (show 2<l.length by omega)) (List.getElem?_eq_getElem (show 3<l.length by omega)) rfl
  rw [e] at h ⊢
  split at h
  ·simp at h
  ·split at h
   ·simp at h
   ·rename_i h1 h2
    rw [if_neg h1,if_neg h2]
    exact ⟨by omega,by omega,h4⟩
theorem i64_or16 (x y:Nat) (hx:x<256) (hy:y<256):bits .or .i64 ((x:Int)*256) (y:Int)=((256*x+y:Nat):Int):=by
 have h2:=Nat.two_pow_add_eq_or_of_lt (show y<2 ^ 8 by omega) x
 have e:((x:Int)*256)=((2 ^ 8*x:Nat):Int):=by simp;omega
 rw [e]
 show IntKind.i64.wrap ((BitVec.ofInt 64 ((2 ^ 8*x:Nat):Int) ||| BitVec.ofInt 64 (y:Int)).toNat:Int)=_
 rw [BitVec.toNat_or,ofInt_u64 _ (by omega),ofInt_u64 _ (by omega),← h2,show 2 ^ 8*x+y=256*x+y by omega]
 exact IntWalk.i64_in _ (by omega)
theorem kfirst_any (l:List Nat) (n c:Nat) (A:Option Addr) (w:World) (h:Rd w w.heap.size A l) (hb:By l) (hn:l.length=n) :
  Calls Tryz.prog 115 #[.slice A n c] w fun e w'=>e=.returned (.tuple #[.int .i64 ((kfirstB l).1:Int),.int .i64 ((kfirstB l).2:Int)])∧∃ k,w'=w.drewN k:=by
 by_cases h4:n<4
 ·have E:=hI (kfirst_short (by rw [hn];exact h4))
  rw [E.out]
  have j1:(n:Int)<4:=by omega
  clear h hb hn
  go_enter Tryz.func115,Tryz.ntmps115
  go_wp2_with fail
  go_ret2
  exact ⟨rfl,0,rfl⟩
 ·obtain ⟨bb,oo,x,rfl,-,hx,hcx⟩:=h.at_ (k:=2) (by omega)
  obtain ⟨bb',oo',y,e,-,hy,hcy⟩:=h.at_ (k:=3) (by omega)
  injection e with e
  injection e with e1 e2
  subst e1;subst e2
  have hx2:=hb.get hx
  have hy2:=hb.get hy
  have E:=hI (kfirst_at hx hy hn)
  have O:=hI (i64_or16 x y hx2 hy2)
  have j1:¬ (n:Int)<4:=by omega
  have j2:(2:Int)<n:=by omega
  have j3:(3:Int)<n:=by omega
  obtain ⟨z,hz⟩:∃ z,Hid (256*x+y=z):=⟨_,hI rfl⟩
  rw [hz.out] at O E
  rw [E.out]
  clear h hb hn hx hy
  by_cases z4:z<4
  ·rw [if_pos z4]
   have k1:(z:Int)<4:=by omega
   go_enter Tryz.func115,Tryz.ntmps115
   go_wp2_with fail
   go_quiet (fail)
   all_goals
    rw [O.out]
    go_wp2_with fail
    go_ret2
    exact ⟨rfl,_,rfl⟩
  ·rw [if_neg z4]
   have k1:¬ (z:Int)<4:=by omega
   by_cases zn:n<z
   ·rw [if_pos zn]
    have k2:(n:Int)<(z:Int):=by omega
    go_enter Tryz.func115,Tryz.ntmps115
    go_wp2_with fail
    go_quiet (fail)
    all_goals
     rw [O.out]
     go_wp2_with fail
     go_ret2
     exact ⟨rfl,_,rfl⟩
   ·rw [if_neg zn]
    have k2:¬ (n:Int)<(z:Int):=by omega
    go_enter Tryz.func115,Tryz.ntmps115
    go_wp2_with fail
    go_quiet (fail)
    all_goals
     rw [O.out]
     go_wp2_with fail
     go_ret2
     exact ⟨rfl,_,rfl⟩
theorem results_tmp4 {fn:Func} {t u v x:Tmp} (h:fn.results=#[.tmp t,.tmp u,.tmp v,.tmp x]) (tmps:Array Value) (P:Program) (w:World) :
  (results fn tmps).run P w=.ok (.tuple #[tmps.getD t undef,tmps.getD u undef,tmps.getD v undef,tmps.getD x undef]) w:=by
 simp [results,h]
theorem results_tmp5 {fn:Func} {t u v x y:Tmp} (h:fn.results=#[.tmp t,.tmp u,.tmp v,.tmp x,.tmp y]) (tmps:Array Value) (P:Program) (w:World) :
  (results fn tmps).run P w=.ok (.tuple #[tmps.getD t undef,tmps.getD u undef,tmps.getD v undef,tmps.getD x undef,tmps.getD y undef]) w:=by
 simp [results,h]
theorem kput_lit (x y k:Nat) (w:World):Rd (w.alloc (.cells #[.int .u8 (x:Int),.int .u8 (y:Int),.int .u8 ((k:Int) / 256),.int .u8 ((k:Int) % 256)] 5)) (w.alloc (.cells #[.int .u8 (x:Int),.int .u8 (y:Int),.int .u8 ((k:Int) / 256),.int .u8 ((k:Int) % 256)] 5)).heap.size (some ⟨w.heap.size,0,none⟩) [x,y,k / 256,k % 256]:=by
 have:=Rd.lit_ w [x,y,k / 256,k % 256]
 simpa [bvs,bv] using this
theorem cput_any (x y:Nat) (l:List Nat) (n c:Nat) (A:Option Addr) (w:World) (h:Rd w w.heap.size A l) (hl:l.length=n) :
  Calls Tryz.prog 114 #[.int .u8 (x:Int),.int .u8 (y:Int),.slice A n c] w fun e w'=>∃ A' c' k,e=.returned (.tuple #[.slice A' k c',.int .i64 (kerrP l:Int)])∧New w w' A' c' k (kputA x y l):=by
 obtain ⟨i0,hi,hz0,hz1,hz2⟩:=info_parts byte_info
 have HR:=hI h
 have HL:=hI hl
 by_cases h5:n≤65531
 ·have EP:=hI (show kerrP l=0 by unfold kerrP;rw [if_pos (by omega)])
  have EA:=hI (show kputA x y l=kputB x y l by unfold kputA;rw [if_pos (by omega)])
  rw [EP.out,EA.out]
  obtain ⟨k,hk⟩:∃ k,n+4=k:=⟨_,rfl⟩
  have i1:¬ (65531:Int)<(n:Int):=by omega
  have i2:(4:Int)+(n:Int)=(k:Int):=by omega
  have i3:IntKind.i64.wrap (k:Int)=(k:Int):=IntWalk.i64_in _ (by omega)
  obtain ⟨w4,hmk,hown4,hg4⟩:=run_make_own (P:=Tryz.prog) w w.heap.size 26 5 i0 (.int .u8 0) 1 Tryz.underlying26 hi hz0 hz1 .i64 .i64 k (by rw [hz2];omega) (by unfold maxLen;omega) (Nat.le_refl _)
  have hbel4:=(Below.refl w.heap.size w).grown hg4 (Nat.le_refl _) (fun k hk=>by cases hk)
  clear h hl EP EA
  go_enter Tryz.func114,Tryz.ntmps114
  go_wp2_with (at_builtin;first
   | (refine list_app rfl _ _ _ rfl _ i0 Tryz.underlying26 hi hz0 hz1 hz2 _ _ 0 [] rfl (own_below hown4 ((Below.refl _ _).alloc (Nat.le_refl _) _)) _ _ 4 _ [x,y,k / 256,k % 256] rfl (kput_lit x y k w4) rfl (by omega) (by rw [World.size_alloc];exact Nat.le_succ_of_le hbel4.size) ?_;intro A6 c6 w6 ho6 hg6;have HB6:=hI ((hbel4.alloc hbel4.size _).grown hg6 (by rw [World.size_alloc];exact Nat.le_succ_of_le hbel4.size) (fun g hg=>(hown4.lt g hg).1));clear hg6)
   | (refine list_app rfl _ _ _ rfl _ i0 Tryz.underlying26 hi hz0 hz1 hz2 _ _ (0+4) _ rfl ho6 w.heap.size _ n _ l rfl (HR.out.below HB6.out) HL.out (by omega) HB6.out.size ?_;intro A7 c7 w7 ho7 hg7;have HB7:=hI (HB6.out.grown hg7 HB6.out.size (fun g hg=>(ho6.lt g hg).1));clear hg7))
  go_ret2
  have e:bvs (kputB x y l)=bvs ([] ++ [x,y,k / 256,k % 256] ++ l):=by unfold kputB;rw [HL.out,hk];rfl
  rw [←e] at ho7
  obtain ⟨A',c',e2,hN⟩:=New.mk ho7 HB7.out
  rw [e2]
  exact ⟨A',c',_,rfl,hN⟩
 ·have EP:=hI (show kerrP l=3 by unfold kerrP;rw [if_neg (by omega)])
  have EA:=hI (show kputA x y l=[] by unfold kputA;rw [if_neg (by omega)])
  rw [EP.out,EA.out]
  have i1:(65531:Int)<(n:Int):=by omega
  clear h hl EP EA
  go_enter Tryz.func114,Tryz.ntmps114
  go_wp2_with fail
  go_ret2
  exact ⟨none,0,0,rfl,rfl,World.ownsRow_nil _ _ _ _,Rd.nil,Below.refl _ _⟩
end
section
open Go.RowKit
theorem krput_any (x y:Nat) (l:List Nat) (n c:Nat) (A:Option Addr) (w:World) (h:Rd w w.heap.size A l) (hl:l.length=n) (hn:n≤274877906944) :
  Calls Tryz.prog 68 #[.int .u8 (x:Int),.int .u8 (y:Int),.slice A n c] w fun e w'=>∃ A' c' k,e=.returned (.tuple #[.slice A' k c',.int .i64 (kerrP l:Int)])∧New w w' A' c' k (kputA x y l):=by
 obtain ⟨i0,hi,hz0,hz1,hz2⟩:=info_parts byte_info
 have HR:=hI h
 have HL:=hI hl
 obtain ⟨k,hk⟩:∃ k,n+4=k:=⟨_,rfl⟩
 have i2:(n:Int)+4=(k:Int):=by omega
 have i3:IntKind.i64.wrap (k:Int)=(k:Int):=IntWalk.i64_in _ (by omega)
 by_cases h5:n≤65531
 ·have EP:=hI (show kerrP l=0 by unfold kerrP;rw [if_pos (by omega)])
  have EA:=hI (show kputA x y l=kputB x y l by unfold kputA;rw [if_pos (by omega)])
  rw [EP.out,EA.out]
  have i1:¬ (65535:Int)<(k:Int):=by omega
  have hbel4:=(Below.refl w.heap.size w).alloc (Nat.le_refl _) (.cells #[.int .u8 (x:Int),.int .u8 (y:Int),.int .u8 ((k:Int) / 256),.int .u8 ((k:Int) % 256)] 5)
  have hown4:(w.alloc (.cells #[.int .u8 (x:Int),.int .u8 (y:Int),.int .u8 ((k:Int) / 256),.int .u8 ((k:Int) % 256)] 5)).ownsRow w.heap.size 5 1 (.slice (some ⟨w.heap.size,0,none⟩) 4 4) 4 (bvs [x,y,k / 256,k % 256]):=by
   have:=World.ownsRow_lit (base:=w.heap.size) (e:=5) (size:=1) w #[.int .u8 (x:Int),.int .u8 (y:Int),.int .u8 ((k:Int) / 256),.int .u8 ((k:Int) % 256)] 4 (Nat.le_refl _) (by unfold maxLen;omega) rfl
   simpa [bvs,bv] using this
  clear h hl EP EA
  go_enter Tryz.func68,Tryz.ntmps68
  go_wp2_with (at_builtin;refine list_app rfl _ _ _ rfl _ i0 Tryz.underlying26 hi hz0 hz1 hz2 _ _ 4 _ rfl hown4 w.heap.size _ n _ l rfl (HR.out.below hbel4) HL.out (by omega) hbel4.size ?_;intro A7 c7 w7 ho7 hg7;have HB7:=hI (hbel4.grown hg7 hbel4.size (fun g hg=>(hown4.lt g hg).1));clear hg7)
  go_ret2
  have e:bvs (kputB x y l)=bvs ([x,y,k / 256,k % 256] ++ l):=by unfold kputB;rw [HL.out,hk]
  rw [←e] at ho7
  obtain ⟨A',c',e2,hN⟩:=New.mk ho7 HB7.out
  rw [e2]
  exact ⟨A',c',_,rfl,hN⟩
 ·have EP:=hI (show kerrP l=3 by unfold kerrP;rw [if_neg (by omega)])
  have EA:=hI (show kputA x y l=[] by unfold kputA;rw [if_neg (by omega)])
  rw [EP.out,EA.out]
  have i1:(65535:Int)<(k:Int):=by omega
  clear h hl EP EA
  go_enter Tryz.func68,Tryz.ntmps68
  go_wp2_with fail
  go_ret2
  exact ⟨none,0,0,rfl,rfl,World.ownsRow_nil _ _ _ _,Rd.nil,Below.refl _ _⟩
theorem Rd.kcutAt {w:World} {B b o:Nat} {l:List Nat} (h:Rd w B (some ⟨b,o,none⟩) l) {f c:Nat} (hc:l.length≤c):Rd w B (if c=f then some ⟨b,o,none⟩ else some ⟨b,o+f,none⟩) (l.drop f):=by
 intro hl
 rw [List.length_drop] at hl
 rw [if_neg (by omega)]
 obtain ⟨b',off,e,hb,hcell⟩:=h (by omega)
 injection e with e
 injection e with e1 e2
 subst e1;subst e2
 exact ⟨b,o+f,rfl,hb,fun k x hx=>by rw [Nat.add_assoc];exact hcell (f+k) x (by rw [←List.getElem?_drop];exact hx)⟩
def KGetO (l:List Nat) (w:World) (e:Ending) (w':World):Prop :=
 ∃ A' c' k,e=.returned (.tuple #[.int .u8 ((kgetB l).1:Int),.int .u8 ((kgetB l).2.1:Int),.slice A' k c',.int .i64 ((kgetB l).2.2.2:Int)])∧(kgetB l).2.2.1.length=k∧k≤c'∧Rd w' w'.heap.size A' (kgetB l).2.2.1∧Below w.heap.size w w'
structure KFC (w W:World) (a0 a1:Addr) (x y:Nat):Prop where
 bel:Below w.heap.size w W
 lt0:a0.block<w.heap.size
 lt1:a1.block<w.heap.size
 f0:w.cell? a0=some (.int .u8 (x:Int))
 f1:w.cell? a1=some (.int .u8 (y:Int))
section
variable {w W X W' : World} {a0 a1 : Addr} {x y : Nat}
theorem KFC.cells (h:KFC w W a0 a1 x y):W.cell? a0=some (.int .u8 (x:Int))∧W.cell? a1=some (.int .u8 (y:Int)):=⟨(h.bel.cell h.lt0).trans h.f0,(h.bel.cell h.lt1).trans h.f1⟩
theorem KFC.step (h:KFC w W a0 a1 x y) (hb:Below X.heap.size X W') (hX:Below W.heap.size W X:=by first | exact Below.refl _ _ | exact (Below.refl _ _).drew):KFC w W' a0 a1 x y :=
 ⟨h.bel.trans ((hX.trans (hb.mono hX.size)).mono h.bel.size),h.lt0,h.lt1,h.f0,h.f1⟩
theorem KFC.drew (h:KFC w W a0 a1 x y):KFC w W.drew a0 a1 x y:=h.step (X:=W) (Below.refl _ _).drew
end
theorem kfirst_v (l:List Nat) (f e:Nat) (hf:kfirstB l=(f,e)) (n c:Nat) (A:Option Addr) (w:World) (h:Rd w w.heap.size A l) (hb:By l) (hn:l.length=n) :
  Calls Tryz.prog 115 #[.slice A n c] w fun e' w'=>e'=.returned (.tuple #[.int .i64 (f:Int),.int .i64 (e:Int)])∧Below w.heap.size w w' :=
 (kfirst_any l n c A w h hb hn).mono fun _ _ ⟨h1,k,h2⟩=>⟨by rw [h1,hf],by rw [h2];exact below_drewN (Below.refl _ _) k⟩
theorem kget_bad {l:List Nat} {f e:Nat} (hf:kfirstB l=(f,e)) (he:¬ e=0):kgetB l=(0,0,[],e):=by
 unfold kgetB;rw [hf,if_neg he]
theorem kget_good {l:List Nat} {f x y:Nat} (hf:kfirstB l=(f,0)) (hx:l[0]?=some x) (hy:l[1]?=some y):kgetB l=(x,y,(l.take f).drop 4,0):=by
 unfold kgetB;rw [hf,if_pos rfl]
 match l,hx,hy with
 | u :: v :: t,hx,hy =>
  have e1:u=x:=by simpa using hx
  have e2:v=y:=by simpa using hy
  subst e1;subst e2
  rfl
theorem cget_any (l:List Nat) (n c:Nat) (A:Option Addr) (w:World) (h:Rd w w.heap.size A l) (hb:By l) (hl:l.length=n) (hn:n≤274877906944) (hc:n≤c) :
  Calls Tryz.prog 107 #[.slice A n c] w (KGetO l w):=by
 obtain ⟨f,e,hf⟩:∃ f e,Hid (kfirstB l=(f,e)):=⟨_,_,hI rfl⟩
 have HR:=hI h
 have HB:=hI hb
 have HN:=hI hl
 by_cases he:e=0
 ·subst he
  have h1:=kfirst_ok (l:=l) (by rw [hf.out])
  rw [hf.out,hl] at h1
  dsimp only at h1
  obtain ⟨bb,oo,x,rfl,hbb,hx,hcx⟩:=h.at_ (k:=0) (by omega)
  obtain ⟨bb',oo',y,e',-,hy,hcy⟩:=h.at_ (k:=1) (by omega)
  injection e' with e'
  injection e' with e1 e2
  subst e1;subst e2
  have G:=hI (kget_good hf.out hx hy)
  have i0:0<n:=by omega
  have i1:(0:Int)<n:=by omega
  have i2:(1:Int)<n:=by omega
  have i3:(4:Int)≤f:=by omega
  have i4:(f:Int)≤c:=by omega
  have i5:(f:Int)≤n:=by omega
  have hcl:=hI (show Rd w w.heap.size (if c=4 then some ⟨bb,oo,none⟩ else some ⟨bb,oo+4,none⟩) ((l.take f).drop 4) from (HR.out.take f).kcutAt (by rw [List.length_take,hl];omega))
  have hcl2:=hI (show ((l.take f).drop 4).length=f - 4 by rw [List.length_drop,List.length_take,hl];omega)
  have C:=hI (show KFC w w ⟨bb,oo,none⟩ ⟨bb,oo+1,none⟩ x y from ⟨Below.refl _ _,hbb,hbb,hcx,hcy⟩)
  clear h hb hl hx hy h1 hcx hcy
  go_enter Tryz.func107,Tryz.ntmps107
  go_wp2_with (go_at_call 115;(with_reducible refine (kfirst_v l _ _ hf.out n c _ _ HR.out HB.out HN.out).mono ?_);rintro e' w2 ⟨rfl,hb2⟩;replace C:=hI (C.out.step hb2);clear hb2)
  obtain ⟨f0,f1⟩:=C.out.cells
  go_region_held3 (fun W=>W.cell? ⟨bb,oo,none⟩=some (.int .u8 (x:Int))∧W.cell? ⟨bb,oo+1,none⟩=some (.int .u8 (y:Int))) (first | exact C.out.cells | exact C.out.drew.cells) (first
   | (go_at_call 77;(with_reducible refine (clone_any ((l.take f).drop 4) (f - 4) _ _ _ (hcl.out.below C.out.drew.bel |>.more C.out.drew.bel.size) hcl2.out (by omega)).mono ?_);rintro e' w5 ⟨A5,c5,rfl,HN5⟩;have HN6:=hI HN5;replace C:=hI (C.out.drew.step HN5.2.2.2);clear HN5;dsimp only))
  clear hcl f0 f1
  generalize (if c=4 then (some (⟨bb,oo,none⟩:Addr)) else some ⟨bb,oo+4,none⟩)=A'
  go_wp2_with fail
  ((try simp only [Exit.inBlock,Exit.then]);refine bodyPost_ret (results_tmp4 rfl _ _ _) rfl ?_)
  unfold KGetO
  rw [G.out]
  exact ⟨A5,c5,f - 4,rfl,hcl2.out,own_cap HN6.out.2.1,HN6.out.2.2.1,C.out.bel⟩
 ·have i1:((e:Int) != 0)=true:=by rw [bne_iff_ne];omega
  have G:=hI (kget_bad hf.out he)
  clear h hb hl he
  go_enter Tryz.func107,Tryz.ntmps107
  go_wp2_with (go_at_call 115;(with_reducible refine (kfirst_any l n c A _ HR.out HB.out HN.out).mono ?_);rintro e' w' ⟨rfl,k,rfl⟩;rw [hf.out])
  ((try simp only [Exit.inBlock,Exit.then]);refine bodyPost_ret (results_tmp4 rfl _ _ _) rfl ?_)
  unfold KGetO
  rw [G.out]
  exact ⟨none,0,0,rfl,rfl,Nat.le_refl _,Rd.nil,below_drewN (Below.refl _ _) _⟩
def KRGetO (l:List Nat) (w:World) (e:Ending) (w':World):Prop :=
 ∃ A' c' k,e=.returned (.tuple #[.int .u8 ((kgetB l).1:Int),.int .u8 ((kgetB l).2.1:Int),.slice A' k c',.int .i64 (kpadB l:Int),.int .i64 ((kgetB l).2.2.2:Int)])∧(kgetB l).2.2.1.length=k∧k≤c'∧Rd w' w'.heap.size A' (kgetB l).2.2.1∧Below w.heap.size w w'
theorem krgetO_bad {l:List Nat} {w w':World} {f e:Nat} (hf:kfirstB l=(f,e)) (he:¬ e=0) (hb:Below w.heap.size w w'):KRGetO l w (.returned (.tuple #[.int .u8 0,.int .u8 0,.slice none 0 0,.int .i64 0,.int .i64 (e:Int)])) w':=by
 unfold KRGetO
 have h2:kpadB l=0:=by rw [kpadB,hf,if_neg he]
 rw [kget_bad hf he,h2]
 exact ⟨none,0,0,rfl,rfl,Nat.le_refl _,Rd.nil,hb⟩
theorem krget_any (l:List Nat) (n c:Nat) (A:Option Addr) (w:World) (h:Rd w w.heap.size A l) (hb:By l) (hl:l.length=n) (hn:n≤274877906944) (hc:n≤c) :
  Calls Tryz.prog 71 #[.slice A n c] w (KRGetO l w):=by
 by_cases h4:n<4
 ·have E:=hI (kfirst_short (by rw [hl];exact h4))
  have j1:(n:Int)<4:=by omega
  clear h hb hl
  go_enter Tryz.func71,Tryz.ntmps71
  go_wp2_with fail
  ((try simp only [Exit.inBlock,Exit.then]);refine bodyPost_ret (results_tmp5 rfl _ _ _) rfl ?_)
  exact krgetO_bad E.out (by decide) (Below.refl _ _)
 ·obtain ⟨bb,oo,x,rfl,hbb,hx,hcx⟩:=h.at_ (k:=2) (by omega)
  obtain ⟨bb',oo',y,e,-,hy,hcy⟩:=h.at_ (k:=3) (by omega)
  injection e with e
  injection e with e1 e2
  subst e1;subst e2
  obtain ⟨bb',oo',p,e,-,hp,hcp⟩:=h.at_ (k:=0) (by omega)
  injection e with e
  injection e with e1 e2
  subst e1;subst e2
  obtain ⟨bb',oo',q,e,-,hq,hcq⟩:=h.at_ (k:=1) (by omega)
  injection e with e
  injection e with e1 e2
  subst e1;subst e2
  replace hcp:w.cell? ⟨bb,oo,none⟩=some (.int .u8 (p:Int)):=hcp
  have hx2:=hb.get hx
  have hy2:=hb.get hy
  have E:=hI (kfirst_at hx hy hl)
  have j0:0<n:=by omega
  have j1:¬ (n:Int)<4:=by omega
  have j2:(2:Int)<n:=by omega
  have j3:(3:Int)<n:=by omega
  have j4:(1:Int)<n:=by omega
  obtain ⟨z,hz⟩:∃ z,Hid (256*x+y=z):=⟨_,hI rfl⟩
  have z9:z<65536:=by have:=hz.out;omega
  have i1:(256:Int)*(x:Int)+(y:Int)=(z:Int):=by have:=hz.out;omega
  have i2:IntKind.i64.wrap (z:Int)=(z:Int):=IntWalk.i64_in _ (by omega)
  rw [hz.out] at E
  have HR:=hI h
  have HN:=hI hl
  have HP:=hI hp
  have HQ:=hI hq
  clear h hb hl hx hy hp hq
  by_cases z4:z<4
  ·have k1:(z:Int)<4:=by omega
   rw [if_pos z4] at E
   go_enter Tryz.func71,Tryz.ntmps71
   go_wp2_with fail
   go_quiet (fail)
   all_goals
    go_wp2_with fail
    ((try simp only [Exit.inBlock,Exit.then]);refine bodyPost_ret (results_tmp5 rfl _ _ _) rfl ?_)
    exact krgetO_bad E.out (by decide) (below_drewN (Below.refl _ _) _)
  ·have k1:¬ (z:Int)<4:=by omega
   rw [if_neg z4] at E
   by_cases zn:n<z
   ·have k2:(n:Int)<(z:Int):=by omega
    rw [if_pos zn] at E
    go_enter Tryz.func71,Tryz.ntmps71
    go_wp2_with fail
    go_quiet (fail)
    all_goals
     go_wp2_with fail
     ((try simp only [Exit.inBlock,Exit.then]);refine bodyPost_ret (results_tmp5 rfl _ _ _) rfl ?_)
     exact krgetO_bad E.out (by decide) (below_drewN (Below.refl _ _) _)
   ·have k2:¬ (n:Int)<(z:Int):=by omega
    rw [if_neg zn] at E
    have i3:(4:Int)≤z:=by omega
    have i4:(z:Int)≤c:=by omega
    have i5:(z:Int)≤n:=by omega
    obtain ⟨d,hd⟩:∃ d,n - z=d:=⟨_,rfl⟩
    have i6:(n:Int) - (z:Int)=(d:Int):=by omega
    have i7:IntKind.i64.wrap (d:Int)=(d:Int):=IntWalk.i64_in _ (by omega)
    have hcl:=hI (show Rd w w.heap.size (if c=4 then some ⟨bb,oo,none⟩ else some ⟨bb,oo+4,none⟩) ((l.take z).drop 4) from (HR.out.take z).kcutAt (by rw [List.length_take,HN.out];omega))
    have hcl2:=hI (show ((l.take z).drop 4).length=z - 4 by rw [List.length_drop,List.length_take,HN.out];omega)
    have G:=hI (kget_good E.out HP.out HQ.out)
    have D:=hI (show kpadB l=d by rw [kpadB,E.out,if_pos rfl,HN.out,hd])
    go_enter Tryz.func71,Tryz.ntmps71
    go_wp2_with fail
    go_quiet (fail)
    go_wp2_with fail
    go_quiet (fail)
    replace hcl:=hcl.out
    generalize (if c=4 then (some (⟨bb,oo,none⟩:Addr)) else some ⟨bb,oo+4,none⟩)=A' at hcl
    go_wp2_with fail
    ((try simp only [Exit.inBlock,Exit.then]);refine bodyPost_ret (results_tmp5 rfl _ _ _) rfl ?_)
    unfold KRGetO
    rw [G.out,D.out]
    have hb9:∀ j k,Below w.heap.size w ((w.drewN j).drewN k):=fun j k=>below_drewN (below_drewN (Below.refl _ _) j) k
    exact ⟨_,_,z - 4,rfl,hcl2.out,by omega,(hcl.below (hb9 _ _)).more (hb9 _ _).size,hb9 _ _⟩
end
section
open Go.RowKit
theorem kput_get {l:List Nat} (hb:By l) {x y:Nat} {d:List Nat} (h:kgetB l=(x,y,d,0)):x<256∧y<256∧d.length≤65531∧kpadB l≤l.length∧kputB x y d=l.take (l.length - kpadB l):=by
 by_cases h2:(kfirstB l).2=0
 ·obtain ⟨f1,f2,f3⟩:=kfirst_ok h2
  obtain ⟨f,hf⟩:∃ f,(kfirstB l).1=f:=⟨_,rfl⟩
  have hf2:kfirstB l=(f,0):=by rw [←hf,← h2]
  rw [hf] at f1 f2
  match l,hb,f3 with
  | a :: b :: p :: q :: t,hb,f3 =>
   have hp:p<256:=hb p (by simp)
   have hq:q<256:=hb q (by simp)
   have ha:a<256:=hb a (by simp)
   have hb1:b<256:=hb b (by simp)
   have hg:=kget_good hf2 (x:=a) (y:=b) rfl rfl
   rw [hg] at h
   injection h with h3 h
   injection h with h4 h
   injection h with h5 h
   have h6:=kfirst_at (l:=a :: b :: p :: q :: t) (x:=p) (y:=q) rfl rfl rfl
   rw [hf2] at h6
   have hfe:f=256*p+q:=by
    split at h6
    ·injection h6 with _ h7;exact absurd h7 (by decide)
    ·split at h6
     ·injection h6 with _ h7;exact absurd h7 (by decide)
     ·injection h6
   have hpad:kpadB (a :: b :: p :: q :: t)=(a :: b :: p :: q :: t).length - f:=by rw [kpadB,hf2,if_pos rfl]
   rw [hpad]
   obtain ⟨g,hg2⟩:∃ g,f=g+4:=⟨f - 4,by omega⟩
   have hd:d=t.take g:=by rw [←h5,hg2];rfl
   have hlen:(a :: b :: p :: q :: t).length=t.length+4:=rfl
   rw [hlen] at f2 ⊢
   have hdl:d.length=g:=by rw [hd,List.length_take];omega
   refine ⟨by omega,by omega,by omega,by omega,?_⟩
   have e1:(d.length+4) / 256=p:=by omega
   have e2:(d.length+4) % 256=q:=by omega
   have e3:t.length+4 - (t.length+4 - f)=g+4:=by omega
   unfold kputB
   rw [e1,e2,e3,hd,← h3,← h4]
   rfl
 ·have:=kget_bad (l:=l) (f:=(kfirstB l).1) (e:=(kfirstB l).2) rfl h2
  rw [this] at h
  injection h with _ h
  injection h with _ h
  injection h with _ h
  exact absurd h h2
theorem kget_bytes {l:List Nat} (hb:By l) {x y e:Nat} {d:List Nat} (h:kgetB l=(x,y,d,e)):By d∧d.length≤l.length:=by
 unfold kgetB at h
 split at h
 ·injection h with _ h
  injection h with _ h
  injection h with h _
  rw [←h]
  refine ⟨(hb.take _).drop _,?_⟩
  rw [List.length_drop,List.length_take];omega
 ·injection h with _ h
  injection h with _ h
  injection h with h _
  rw [←h]
  exact ⟨By.nil,Nat.zero_le _⟩
theorem kerrP_ok {l:List Nat} (h:l.length≤65531):kerrP l=0:=by unfold kerrP;rw [if_pos h]
theorem kputA_ok (x y:Nat) {l:List Nat} (h:l.length≤65531):kputA x y l=kputB x y l:=by unfold kputA;rw [if_pos h]
theorem cput_v (x y:Nat) (l:List Nat) (q:Nat) (hq:kerrP l=q) (m:List Nat) (hm:kputA x y l=m) (k:Nat) (hk:m.length=k) (n c:Nat) (A:Option Addr) (w:World) (h:Rd w w.heap.size A l) (hl:l.length=n) :
  Calls Tryz.prog 114 #[.int .u8 (x:Int),.int .u8 (y:Int),.slice A n c] w fun e w'=>∃ A' c',e=.returned (.tuple #[.slice A' k c',.int .i64 (q:Int)])∧Rd w' w'.heap.size A' m∧k≤c'∧Below w.heap.size w w' :=
 (cput_any x y l n c A w h hl).mono fun _ _ ⟨A',c',k',h1,h2⟩=>by
  rw [hq] at h1
  rw [hm] at h2
  obtain rfl:k=k':=by rw [←hk,h2.1]
  exact ⟨A',c',h1,h2.2.2.1,own_cap h2.2.1,h2.2.2.2⟩
theorem krput_v (x y:Nat) (l:List Nat) (q:Nat) (hq:kerrP l=q) (m:List Nat) (hm:kputA x y l=m) (k:Nat) (hk:m.length=k) (n c:Nat) (A:Option Addr) (w:World) (h:Rd w w.heap.size A l) (hl:l.length=n) (hn:n≤274877906944) :
  Calls Tryz.prog 68 #[.int .u8 (x:Int),.int .u8 (y:Int),.slice A n c] w fun e w'=>∃ A' c',e=.returned (.tuple #[.slice A' k c',.int .i64 (q:Int)])∧Rd w' w'.heap.size A' m∧k≤c'∧Below w.heap.size w w' :=
 (krput_any x y l n c A w h hl hn).mono fun _ _ ⟨A',c',k',h1,h2⟩=>by
  rw [hq] at h1
  rw [hm] at h2
  obtain rfl:k=k':=by rw [←hk,h2.1]
  exact ⟨A',c',h1,h2.2.2.1,own_cap h2.2.1,h2.2.2.2⟩
theorem cget_v (l:List Nat) (x y:Nat) (d:List Nat) (q:Nat) (hg:kgetB l=(x,y,d,q)) (k:Nat) (hk:d.length=k) (n c:Nat) (A:Option Addr) (w:World) (h:Rd w w.heap.size A l) (hb:By l) (hl:l.length=n) (hn:n≤274877906944) (hc:n≤c) :
  Calls Tryz.prog 107 #[.slice A n c] w fun e w'=>∃ A' c',e=.returned (.tuple #[.int .u8 (x:Int),.int .u8 (y:Int),.slice A' k c',.int .i64 (q:Int)])∧k≤c'∧Rd w' w'.heap.size A' d∧Below w.heap.size w w' :=
 (cget_any l n c A w h hb hl hn hc).mono fun _ _ ⟨A',c',k',h1,h2,h3,h4,h5⟩=>by
  rw [hg] at h1 h2 h4
  obtain rfl:k=k':=by rw [←hk,h2]
  exact ⟨A',c',h1,h3,h4,h5⟩
theorem krget_v (l:List Nat) (x y:Nat) (d:List Nat) (q:Nat) (hg:kgetB l=(x,y,d,q)) (k:Nat) (hk:d.length=k) (p:Nat) (hp:kpadB l=p) (n c:Nat) (A:Option Addr) (w:World) (h:Rd w w.heap.size A l) (hb:By l) (hl:l.length=n) (hn:n≤274877906944) (hc:n≤c) :
  Calls Tryz.prog 71 #[.slice A n c] w fun e w'=>∃ A' c',e=.returned (.tuple #[.int .u8 (x:Int),.int .u8 (y:Int),.slice A' k c',.int .i64 (p:Int),.int .i64 (q:Int)])∧k≤c'∧Rd w' w'.heap.size A' d∧Below w.heap.size w w' :=
 (krget_any l n c A w h hb hl hn hc).mono fun _ _ ⟨A',c',k',h1,h2,h3,h4,h5⟩=>by
  rw [hg] at h1 h2 h4
  rw [hp] at h1
  obtain rfl:k=k':=by rw [←hk,h2]
  exact ⟨A',c',h1,h3,h4,h5⟩
end
section
open Go.RowKit
def KGetN (l:List Nat) (w:World) (e:Ending) (w':World):Prop :=
 ∃ A' c' k,e=.returned (.tuple #[.int .u8 ((kgetB l).1:Int),.int .u8 ((kgetB l).2.1:Int),.slice A' k c',.int .i64 ((kgetB l).2.2.2:Int)])∧(kgetB l).2.2.1.length=k∧k≤c'∧RdF (fun b=>w.heap.size≤b) w' A' (kgetB l).2.2.1∧Below w.heap.size w w'
theorem cgetN_any (l:List Nat) (n c:Nat) (A:Option Addr) (w:World) (h:Rd w w.heap.size A l) (hb:By l) (hl:l.length=n) (hn:n≤274877906944) (hc:n≤c) :
  Calls Tryz.prog 107 #[.slice A n c] w (KGetN l w):=by
 obtain ⟨f,e,hf⟩:∃ f e,Hid (kfirstB l=(f,e)):=⟨_,_,hI rfl⟩
 have HR:=hI h
 have HB:=hI hb
 have HN:=hI hl
 by_cases he:e=0
 ·subst he
  have h1:=kfirst_ok (l:=l) (by rw [hf.out])
  rw [hf.out,hl] at h1
  dsimp only at h1
  obtain ⟨bb,oo,x,rfl,hbb,hx,hcx⟩:=h.at_ (k:=0) (by omega)
  obtain ⟨bb',oo',y,e',-,hy,hcy⟩:=h.at_ (k:=1) (by omega)
  injection e' with e'
  injection e' with e1 e2
  subst e1;subst e2
  have G:=hI (kget_good hf.out hx hy)
  have i0:0<n:=by omega
  have i1:(0:Int)<n:=by omega
  have i2:(1:Int)<n:=by omega
  have i3:(4:Int)≤f:=by omega
  have i4:(f:Int)≤c:=by omega
  have i5:(f:Int)≤n:=by omega
  have hcl:=hI (show Rd w w.heap.size (if c=4 then some ⟨bb,oo,none⟩ else some ⟨bb,oo+4,none⟩) ((l.take f).drop 4) from (HR.out.take f).kcutAt (by rw [List.length_take,hl];omega))
  have hcl2:=hI (show ((l.take f).drop 4).length=f - 4 by rw [List.length_drop,List.length_take,hl];omega)
  have C:=hI (show KFC w w ⟨bb,oo,none⟩ ⟨bb,oo+1,none⟩ x y from ⟨Below.refl _ _,hbb,hbb,hcx,hcy⟩)
  clear h hb hl hx hy h1 hcx hcy
  go_enter Tryz.func107,Tryz.ntmps107
  go_wp2_with (go_at_call 115;(with_reducible refine (kfirst_v l _ _ hf.out n c _ _ HR.out HB.out HN.out).mono ?_);rintro e' w2 ⟨rfl,hb2⟩;replace C:=hI (C.out.step hb2);clear hb2)
  obtain ⟨f0,f1⟩:=C.out.cells
  go_region_held3 (fun W=>W.cell? ⟨bb,oo,none⟩=some (.int .u8 (x:Int))∧W.cell? ⟨bb,oo+1,none⟩=some (.int .u8 (y:Int))) (first | exact C.out.cells | exact C.out.drew.cells) (first
   | (go_at_call 77;(with_reducible refine (clone_any ((l.take f).drop 4) (f - 4) _ _ _ (hcl.out.below C.out.drew.bel |>.more C.out.drew.bel.size) hcl2.out (by omega)).mono ?_);rintro e' w5 ⟨A5,c5,rfl,HN5⟩;have HN6:=hI HN5;have HS:=hI C.out.drew.bel.size;replace C:=hI (C.out.drew.step HN5.2.2.2);clear HN5;dsimp only))
  clear hcl f0 f1
  generalize (if c=4 then (some (⟨bb,oo,none⟩:Addr)) else some ⟨bb,oo+4,none⟩)=A'
  go_wp2_with fail
  ((try simp only [Exit.inBlock,Exit.then]);refine bodyPost_ret (results_tmp4 rfl _ _ _) rfl ?_)
  unfold KGetN
  rw [G.out]
  exact ⟨A5,c5,f - 4,rfl,hcl2.out,own_cap HN6.out.2.1,(RdF.own HN6.out.2.1).mono (fun b _ hb=>Nat.le_trans HS.out hb),C.out.bel⟩
 ·have i1:((e:Int) != 0)=true:=by rw [bne_iff_ne];omega
  have G:=hI (kget_bad hf.out he)
  clear h hb hl he
  go_enter Tryz.func107,Tryz.ntmps107
  go_wp2_with (go_at_call 115;(with_reducible refine (kfirst_any l n c A _ HR.out HB.out HN.out).mono ?_);rintro e' w' ⟨rfl,k,rfl⟩;rw [hf.out])
  ((try simp only [Exit.inBlock,Exit.then]);refine bodyPost_ret (results_tmp4 rfl _ _ _) rfl ?_)
  unfold KGetN
  rw [G.out]
  exact ⟨none,0,0,rfl,rfl,Nat.le_refl _,RdF.nil,below_drewN (Below.refl _ _) _⟩
theorem cgetN_v (l:List Nat) (x y:Nat) (d:List Nat) (q:Nat) (hg:kgetB l=(x,y,d,q)) (k:Nat) (hk:d.length=k) (n c:Nat) (A:Option Addr) (w:World) (h:Rd w w.heap.size A l) (hb:By l) (hl:l.length=n) (hn:n≤274877906944) (hc:n≤c) :
  Calls Tryz.prog 107 #[.slice A n c] w fun e w'=>∃ A' c',e=.returned (.tuple #[.int .u8 (x:Int),.int .u8 (y:Int),.slice A' k c',.int .i64 (q:Int)])∧k≤c'∧RdF (fun b=>w.heap.size≤b) w' A' d∧Below w.heap.size w w' :=
 (cgetN_any l n c A w h hb hl hn hc).mono fun _ _ ⟨A',c',k',h1,h2,h3,h4,h5⟩=>by
  rw [hg] at h1 h2 h4
  obtain rfl:k=k':=by rw [←hk,h2]
  exact ⟨A',c',h1,h3,h4,h5⟩
end
section
open Go.RowKit
def KRGetF (F:Nat→Prop) (l:List Nat) (w:World) (e:Ending) (w':World):Prop :=
 ∃ A' c' k,e=.returned (.tuple #[.int .u8 ((kgetB l).1:Int),.int .u8 ((kgetB l).2.1:Int),.slice A' k c',.int .i64 (kpadB l:Int),.int .i64 ((kgetB l).2.2.2:Int)])∧(kgetB l).2.2.1.length=k∧k≤c'∧RdF F w' A' (kgetB l).2.2.1∧Below w.heap.size w w'
theorem krgetF_bad {F:Nat→Prop} {l:List Nat} {w w':World} {f e:Nat} (hf:kfirstB l=(f,e)) (he:¬ e=0) (hb:Below w.heap.size w w'):KRGetF F l w (.returned (.tuple #[.int .u8 0,.int .u8 0,.slice none 0 0,.int .i64 0,.int .i64 (e:Int)])) w':=by
 unfold KRGetF
 have h2:kpadB l=0:=by rw [kpadB,hf,if_neg he]
 rw [kget_bad hf he,h2]
 exact ⟨none,0,0,rfl,rfl,Nat.le_refl _,RdF.nil,hb⟩
theorem krgetF_any (l:List Nat) (n c:Nat) (A:Option Addr) (w:World) (h:Rd w w.heap.size A l) (hb:By l) (hl:l.length=n) (hn:n≤274877906944) (hc:n≤c) (F:Nat→Prop) (hF:RdF F w A l) :
  Calls Tryz.prog 71 #[.slice A n c] w (KRGetF F l w):=by
 by_cases h4:n<4
 ·have E:=hI (kfirst_short (by rw [hl];exact h4))
  have j1:(n:Int)<4:=by omega
  clear h hb hl hF
  go_enter Tryz.func71,Tryz.ntmps71
  go_wp2_with fail
  ((try simp only [Exit.inBlock,Exit.then]);refine bodyPost_ret (results_tmp5 rfl _ _ _) rfl ?_)
  exact krgetF_bad E.out (by decide) (Below.refl _ _)
 ·obtain ⟨bb,oo,x,rfl,hbb,hx,hcx⟩:=h.at_ (k:=2) (by omega)
  obtain ⟨bb',oo',y,e,-,hy,hcy⟩:=h.at_ (k:=3) (by omega)
  injection e with e
  injection e with e1 e2
  subst e1;subst e2
  obtain ⟨bb',oo',p,e,-,hp,hcp⟩:=h.at_ (k:=0) (by omega)
  injection e with e
  injection e with e1 e2
  subst e1;subst e2
  obtain ⟨bb',oo',q,e,-,hq,hcq⟩:=h.at_ (k:=1) (by omega)
  injection e with e
  injection e with e1 e2
  subst e1;subst e2
  replace hcp:w.cell? ⟨bb,oo,none⟩=some (.int .u8 (p:Int)):=hcp
  have hx2:=hb.get hx
  have hy2:=hb.get hy
  have E:=hI (kfirst_at hx hy hl)
  have j0:0<n:=by omega
  have j1:¬ (n:Int)<4:=by omega
  have j2:(2:Int)<n:=by omega
  have j3:(3:Int)<n:=by omega
  have j4:(1:Int)<n:=by omega
  obtain ⟨z,hz⟩:∃ z,Hid (256*x+y=z):=⟨_,hI rfl⟩
  have z9:z<65536:=by have:=hz.out;omega
  have i1:(256:Int)*(x:Int)+(y:Int)=(z:Int):=by have:=hz.out;omega
  have i2:IntKind.i64.wrap (z:Int)=(z:Int):=IntWalk.i64_in _ (by omega)
  rw [hz.out] at E
  have HF:=hI hF
  have HN:=hI hl
  have HP:=hI hp
  have HQ:=hI hq
  clear h hb hl hx hy hp hq hF
  by_cases z4:z<4
  ·have k1:(z:Int)<4:=by omega
   rw [if_pos z4] at E
   go_enter Tryz.func71,Tryz.ntmps71
   go_wp2_with fail
   go_quiet (fail)
   all_goals
    go_wp2_with fail
    ((try simp only [Exit.inBlock,Exit.then]);refine bodyPost_ret (results_tmp5 rfl _ _ _) rfl ?_)
    exact krgetF_bad E.out (by decide) (below_drewN (Below.refl _ _) _)
  ·have k1:¬ (z:Int)<4:=by omega
   rw [if_neg z4] at E
   by_cases zn:n<z
   ·have k2:(n:Int)<(z:Int):=by omega
    rw [if_pos zn] at E
    go_enter Tryz.func71,Tryz.ntmps71
    go_wp2_with fail
    go_quiet (fail)
    all_goals
     go_wp2_with fail
     ((try simp only [Exit.inBlock,Exit.then]);refine bodyPost_ret (results_tmp5 rfl _ _ _) rfl ?_)
     exact krgetF_bad E.out (by decide) (below_drewN (Below.refl _ _) _)
   ·have k2:¬ (n:Int)<(z:Int):=by omega
    rw [if_neg zn] at E
    have i3:(4:Int)≤z:=by omega
    have i4:(z:Int)≤c:=by omega
    have i5:(z:Int)≤n:=by omega
    obtain ⟨d,hd⟩:∃ d,n - z=d:=⟨_,rfl⟩
    have i6:(n:Int) - (z:Int)=(d:Int):=by omega
    have i7:IntKind.i64.wrap (d:Int)=(d:Int):=IntWalk.i64_in _ (by omega)
    have hcl:=hI (show RdF F w (if c=4 then some ⟨bb,oo,none⟩ else some ⟨bb,oo+4,none⟩) ((l.take z).drop 4) from RdF.cutAt (HF.out.take z) (by rw [List.length_take,HN.out];omega))
    have hcl2:=hI (show ((l.take z).drop 4).length=z - 4 by rw [List.length_drop,List.length_take,HN.out];omega)
    have G:=hI (kget_good E.out HP.out HQ.out)
    have D:=hI (show kpadB l=d by rw [kpadB,E.out,if_pos rfl,HN.out,hd])
    go_enter Tryz.func71,Tryz.ntmps71
    go_wp2_with fail
    go_quiet (fail)
    go_wp2_with fail
    go_quiet (fail)
    replace hcl:=hcl.out
    generalize (if c=4 then (some (⟨bb,oo,none⟩:Addr)) else some ⟨bb,oo+4,none⟩)=A' at hcl
    go_wp2_with fail
    ((try simp only [Exit.inBlock,Exit.then]);refine bodyPost_ret (results_tmp5 rfl _ _ _) rfl ?_)
    unfold KRGetF
    rw [G.out,D.out]
    have hb9:∀ j k,Below w.heap.size w ((w.drewN j).drewN k):=fun j k=>below_drewN (below_drewN (Below.refl _ _) j) k
    exact ⟨_,_,z - 4,rfl,hcl2.out,by omega,hcl.keep (.of_below (hb9 _ _)),hb9 _ _⟩
theorem krgetF_v (l:List Nat) (x y:Nat) (d:List Nat) (q:Nat) (hg:kgetB l=(x,y,d,q)) (k:Nat) (hk:d.length=k) (p:Nat) (hp:kpadB l=p) (n c:Nat) (A:Option Addr) (w:World) (h:Rd w w.heap.size A l) (hb:By l) (hl:l.length=n) (hn:n≤274877906944) (hc:n≤c) (F:Nat→Prop) (hF:RdF F w A l) :
  Calls Tryz.prog 71 #[.slice A n c] w fun e w'=>∃ A' c',e=.returned (.tuple #[.int .u8 (x:Int),.int .u8 (y:Int),.slice A' k c',.int .i64 (p:Int),.int .i64 (q:Int)])∧k≤c'∧RdF F w' A' d∧Below w.heap.size w w' :=
 (krgetF_any l n c A w h hb hl hn hc F hF).mono fun _ _ ⟨A',c',k',h1,h2,h3,h4,h5⟩=>by
  rw [hg] at h1 h2 h4
  rw [hp] at h1
  obtain rfl:k=k':=by rw [←hk,h2]
  exact ⟨A',c',h1,h3,h4,h5⟩
end
end Go.Proofs.YtmhjnghomihjlaaGreat
