/-
  What the document's right, unique and Answers of layer 22 answer. No condition beyond: at most 2^38 tags.
-/
import Derived.Test.YtmhjnghomihjlaaGreatEthO
import Derived.Test.YtmhjnghomihjlaaGreatGWord
namespace Go.Proofs.YtmhjnghomihjlaaGreat
set_option maxRecDepth 8000
set_option maxHeartbeats 80000000
set_option linter.unusedVariables false
open Go.RowKit
theorem eright_any (c s k:Nat) (hk:ecode c s=k) (w:World) :
  Calls Tryz.prog 26 #[.int .i64 (c:Int),.int .i64 (s:Int)] w fun e w'=>e=.returned (.int .i64 (k:Int))∧w'=w:=by
 by_cases c0:c=0
 ·subst c0
  by_cases hs:s=0
  ·have j1:((s:Int) == 0)=true:=by rw [hs];rfl
   obtain rfl:5=k:=by rw [←hk];simp [ecode,hs]
   clear hk hs
   go_enter Tryz.func26,Tryz.ntmps26
   go_wp2_with fail
   go_ret
   exact ⟨rfl,rfl⟩
  ·have j1:((s:Int) == 0)=false:=by rw [beq_eq_false_iff_ne];omega
   obtain rfl:0=k:=by rw [←hk];simp [ecode,hs]
   clear hk hs
   go_enter Tryz.func26,Tryz.ntmps26
   go_wp2_with fail
   go_ret
   exact ⟨rfl,rfl⟩
 by_cases c167:c=167
 ·subst c167
  by_cases hs:s=0
  ·have j1:((s:Int) == 0)=true:=by rw [hs];rfl
   obtain rfl:5=k:=by rw [←hk];simp [ecode,hs]
   clear hk hs
   go_enter Tryz.func26,Tryz.ntmps26
   go_wp2_with fail
   go_ret
   exact ⟨rfl,rfl⟩
  ·have j1:((s:Int) == 0)=false:=by rw [beq_eq_false_iff_ne];omega
   obtain rfl:0=k:=by rw [←hk];simp [ecode,hs]
   clear hk hs
   go_enter Tryz.func26,Tryz.ntmps26
   go_wp2_with fail
   go_ret
   exact ⟨rfl,rfl⟩
 by_cases c7:c=7
 ·subst c7
  by_cases hs:s=0
  ·have j1:((s:Int) != 0)=false:=by rw [hs];rfl
   obtain rfl:0=k:=by rw [←hk];simp [ecode,hs]
   clear hk hs
   go_enter Tryz.func26,Tryz.ntmps26
   go_wp2_with fail
   go_ret
   exact ⟨rfl,rfl⟩
  ·have j1:((s:Int) != 0)=true:=by rw [bne_iff_ne];omega
   obtain rfl:5=k:=by rw [←hk];simp [ecode,hs]
   clear hk hs
   go_enter Tryz.func26,Tryz.ntmps26
   go_wp2_with fail
   go_ret
   exact ⟨rfl,rfl⟩
 by_cases c9:c=9
 ·subst c9
  by_cases hs:s=0
  ·have j1:((s:Int) != 0)=false:=by rw [hs];rfl
   obtain rfl:0=k:=by rw [←hk];simp [ecode,hs]
   clear hk hs
   go_enter Tryz.func26,Tryz.ntmps26
   go_wp2_with fail
   go_ret
   exact ⟨rfl,rfl⟩
  ·have j1:((s:Int) != 0)=true:=by rw [bne_iff_ne];omega
   obtain rfl:5=k:=by rw [←hk];simp [ecode,hs]
   clear hk hs
   go_enter Tryz.func26,Tryz.ntmps26
   go_wp2_with fail
   go_ret
   exact ⟨rfl,rfl⟩
 by_cases c25:c=25
 ·subst c25
  by_cases hs:s=0
  ·have j1:((s:Int) != 0)=false:=by rw [hs];rfl
   obtain rfl:0=k:=by rw [←hk];simp [ecode,hs]
   clear hk hs
   go_enter Tryz.func26,Tryz.ntmps26
   go_wp2_with fail
   go_ret
   exact ⟨rfl,rfl⟩
  ·have j1:((s:Int) != 0)=true:=by rw [bne_iff_ne];omega
   obtain rfl:5=k:=by rw [←hk];simp [ecode,hs]
   clear hk hs
   go_enter Tryz.func26,Tryz.ntmps26
   go_wp2_with fail
   go_ret
   exact ⟨rfl,rfl⟩
 by_cases c101:c=101
 ·subst c101
  obtain rfl:0=k:=by rw [←hk];simp [ecode]
  clear hk
  go_enter Tryz.func26,Tryz.ntmps26
  go_wp2_with fail
  go_ret
  exact ⟨rfl,rfl⟩
 obtain rfl:8=k:=by rw [←hk];simp [ecode,c0,c167,c7,c9,c25,c101]
 have d0:((c:Int) == 0)=false:=by rw [beq_eq_false_iff_ne];omega
 have d167:((c:Int) == 167)=false:=by rw [beq_eq_false_iff_ne];omega
 have d7:((c:Int) == 7)=false:=by rw [beq_eq_false_iff_ne];omega
 have d9:((c:Int) == 9)=false:=by rw [beq_eq_false_iff_ne];omega
 have d25:((c:Int) == 25)=false:=by rw [beq_eq_false_iff_ne];omega
 have d101:((c:Int) == 101)=false:=by rw [beq_eq_false_iff_ne];omega
 clear hk c0 c167 c7 c9 c25 c101
 go_enter Tryz.func26,Tryz.ntmps26
 go_wp2_with fail
 go_ret
 exact ⟨rfl,rfl⟩
def isU (o:Nat × List Nat):Bool:=o.1 == 259
theorem euniq_u (l:List (Nat × List Nat)):euniq l=(l.find? isU).map fun o=>o.2:=rfl
theorem eufind_at {l:List (Nat × List Nat)} {f:Nat × List Nat→Bool} {k:Nat} {x:Nat × List Nat} (h:(l.take k).find? f=none) (hx:l[k]?=some x) (hf:f x=true):l.find? f=some x:=by
 have hk:=(List.getElem?_eq_some_iff.1 hx).1
 have e:l=l.take k ++ x :: l.drop (k+1):=by
  have e1:l.drop k=x :: l.drop (k+1):=by
   rw [List.drop_eq_getElem_cons hk,(List.getElem?_eq_some_iff.1 hx).2]
  rw [←e1,List.take_append_drop]
 rw [e,List.find?_append,h,Option.none_or,List.find?_cons_of_pos hf]
theorem eufind_more {l:List (Nat × List Nat)} {f:Nat × List Nat→Bool} {k:Nat} {x:Nat × List Nat} (h:(l.take k).find? f=none) (hx:l[k]?=some x) (hf:f x=false):(l.take (k+1)).find? f=none:=by
 rw [List.take_add_one,hx,Option.toList_some,List.find?_append,h,Option.none_or]
 simp [hf]
def UnR (l:List (Nat × List Nat)) (w:World) (e:Ending) (w':World):Prop :=
 Below w.heap.size w w'∧((euniq l=none∧e=.returned (.tuple #[.string ⟨#[]⟩,.bool false]))∨∃ x,euniq l=some x∧e=.returned (.tuple #[.string (strOfNums (nums x)),.bool true]))
theorem eunique_any (l:List (Nat × List Nat)) (n c:Nat) (A:Option Addr) (F:Nat→Prop) (w:World) (h:Rws shG F w A l) (hl:l.length=n) (hn:n≤274877906944) :
  Calls Tryz.prog 38 #[.slice A n c] w (UnR l w):=by
 have HL:=hI hl
 have HR:=hI h
 clear hl h
 go_enter Tryz.func38,Tryz.ntmps38
 go_wp2_with fail
 go_loopw [4] (fun i wr=>∃ k:Nat,k≤n∧i=.int .i64 k∧Hid ((l.take k).find? isU=none)∧wr=w) (fun i _=>n - (intOf i).toNat)
 case atStart=>exact ⟨0,Nat.zero_le _,rfl,hI (by simp),rfl⟩
 case round =>
  obtain ⟨k,hk,rfl,hf,rfl⟩:=hrel
  by_cases hlt:k<n
  ·obtain ⟨b,o,x,A3,c3,rfl,hb3,hx,h3,h4,h5,h6⟩:=HR.out.tag (k:=k) (by rw [HL.out];exact hlt)
   have HX:=hI hx
   have s1:=conv_list h6.rd x.2.length c3 rfl
   have i1:(0:Int)≤k:=by omega
   have i2:(k:Int)<n:=by omega
   clear hx h6
   by_cases ht:x.1=259
   ·have j1:((x.1:Int) == 259)=true:=by rw [ht];rfl
    have E:=hI (eufind_at hf.out HX.out (by unfold isU;rw [ht];rfl))
    clear ht
    go_wp2_with fail
    go_ret2
    exact ⟨Below.refl _ _,.inr ⟨x.2,by rw [euniq_u,E.out];rfl,rfl⟩⟩
   ·have j1:((x.1:Int) == 259)=false:=by rw [beq_eq_false_iff_ne];omega
    have R:=hI (eufind_more hf.out HX.out (by unfold isU;exact beq_eq_false_iff_ne.2 ht))
    clear ht
    go_wp2_with fail
    go_roundw
    case rel=>exact ⟨k+1,by omega,by go_num,R,by trivial⟩
    case measure=>simp [intOf];omega
  ·have he:k=n:=by omega
   subst he
   have e:=hf.out
   rw [List.take_of_length_le (by rw [HL.out];exact Nat.le_refl _)] at e
   have E:=hI e
   clear e
   go_wp2_with fail
   go_ret2
   exact ⟨Below.refl _ _,.inl ⟨by rw [euniq_u,E.out];rfl,rfl⟩⟩
theorem eunique_none (l:List (Nat × List Nat)) (h0:euniq l=none) (n c:Nat) (A:Option Addr) (F:Nat→Prop) (w:World) (h:Rws shG F w A l) (hl:l.length=n) (hn:n≤274877906944) :
  Calls Tryz.prog 38 #[.slice A n c] w fun e w'=>e=.returned (.tuple #[.string ⟨#[]⟩,.bool false])∧Below w.heap.size w w' :=
 (eunique_any l n c A F w h hl hn).mono fun _ _ hu=>by
  obtain ⟨h1,⟨-,h2⟩ | ⟨x,h2,-⟩⟩:=hu
  ·exact ⟨h2,h1⟩
  ·rw [h0] at h2;cases h2
theorem eunique_some (l:List (Nat × List Nat)) (x:List Nat) (h0:euniq l=some x) (n c:Nat) (A:Option Addr) (F:Nat→Prop) (w:World) (h:Rws shG F w A l) (hl:l.length=n) (hn:n≤274877906944) :
  Calls Tryz.prog 38 #[.slice A n c] w fun e w'=>e=.returned (.tuple #[.string (strOfNums (nums x)),.bool true])∧Below w.heap.size w w' :=
 (eunique_any l n c A F w h hl hn).mono fun _ _ hu=>by
  obtain ⟨h1,⟨h2,-⟩ | ⟨y,h2,h3⟩⟩:=hu
  ·rw [h0] at h2;cases h2
  ·rw [h0] at h2
   obtain rfl:x=y:=Option.some.inj h2
   exact ⟨h3,h1⟩
theorem euniq_by {l:List (Nat × List Nat)} {x:List Nat} (h:euniq l=some x) (hl:ByG l):By x:=by
 rw [euniq_u] at h
 obtain ⟨o,ho,rfl⟩:=Option.map_eq_some_iff.1 h
 exact (hl o (List.mem_of_find?_eq_some ho)).2
structure TwF (T:TypeId) (w W:World) (f g:Fr) (q r:Fl):Prop where
 bel:Below w.heap.size w W
 x:Fx W w.heap.size T f q
 y:Fx W (w.heap.size+1) T g r
theorem TwF.made (T:TypeId) (w:World) (f g:Fr) (q r:Fl):TwF T w ((w.alloc (f.obj q T)).alloc (g.obj r T)) f g q r:=by
 have e1:(w.alloc (f.obj q T)).heap.size=w.heap.size+1:=World.size_alloc _ _
 refine ⟨belowP_two w _ _,heap_alloc2_old w _ _,?_⟩
 have:=fx_new (w.alloc (f.obj q T)) T g r
 rw [e1] at this
 exact this
theorem TwF.step {T:TypeId} {w W W':World} {f g:Fr} {q r:Fl} (h:TwF T w W f g q r) (hb:Below W.heap.size W W'):TwF T w W' f g q r:=⟨h.bel.trans (hb.mono h.bel.size),h.x.below hb,h.y.below hb⟩
theorem ean_no7 (f o:Fr) (q r:Fl) (w:World) (ha:FwF (fun _=>True) w f q) (hb:FwF (fun _=>True) w o r) (hf:ByG f.tags) (ho:ByG o.tags) (hn:q.nt≤274877906944) (hm:r.nt≤274877906944) (c1:f.code=7) (c2:¬ o.code=9) :
  Calls Tryz.prog 17 #[f.val q,o.val r] w fun e w'=>e=.returned (.bool false)∧Below w.heap.size w w':=by
 have C:=hI (TwF.made 31 w f o q r)
 have HA:=hI ha
 have HB:=hI hb
 have HF:=hI hf
 have HO:=hI ho
 clear ha hb hf ho
 obtain ⟨wm,hwm⟩:∃ wm,wm=(w.alloc (f.obj q 31)).alloc (o.obj r 31):=⟨_,rfl⟩
 rw [←hwm] at C
 have HW:=hI hwm
 clear hwm
 have j1:((f.code:Int) == 7)=true:=by rw [c1];rfl
 have j3:((f.code:Int) == 101)=false:=by rw [c1];rfl
 have j2:((o.code:Int) == 9)=false:=by rw [beq_eq_false_iff_ne];omega
 clear c1 c2
 go_enter Tryz.func17,Tryz.ntmps17
 go_upto_region 1 with fail
 rw [←HW.out]
 obtain ⟨x0,x1,x2,x3,x4,x5,x6,x7,x8,x9,x10,x11,x12⟩:=C.out.x.all
 obtain ⟨y0,y1,y2,y3,y4,y5,y6,y7,y8,y9,y10,y11,y12⟩:=C.out.y.all
 go_wp2_with fail
 go_ret
 exact ⟨rfl,C.out.bel⟩
theorem ean_no101 (f o:Fr) (q r:Fl) (w:World) (ha:FwF (fun _=>True) w f q) (hb:FwF (fun _=>True) w o r) (hf:ByG f.tags) (ho:ByG o.tags) (hn:q.nt≤274877906944) (hm:r.nt≤274877906944) (c1:f.code=101) (c2:¬ o.code=25) :
  Calls Tryz.prog 17 #[f.val q,o.val r] w fun e w'=>e=.returned (.bool false)∧Below w.heap.size w w':=by
 have C:=hI (TwF.made 31 w f o q r)
 have HA:=hI ha
 have HB:=hI hb
 have HF:=hI hf
 have HO:=hI ho
 clear ha hb hf ho
 obtain ⟨wm,hwm⟩:∃ wm,wm=(w.alloc (f.obj q 31)).alloc (o.obj r 31):=⟨_,rfl⟩
 rw [←hwm] at C
 have HW:=hI hwm
 clear hwm
 have j1:((f.code:Int) == 7)=false:=by rw [c1];rfl
 have j3:((f.code:Int) == 101)=true:=by rw [c1];rfl
 have j2:((o.code:Int) == 25)=false:=by rw [beq_eq_false_iff_ne];omega
 clear c1 c2
 go_enter Tryz.func17,Tryz.ntmps17
 go_upto_region 1 with fail
 rw [←HW.out]
 obtain ⟨x0,x1,x2,x3,x4,x5,x6,x7,x8,x9,x10,x11,x12⟩:=C.out.x.all
 obtain ⟨y0,y1,y2,y3,y4,y5,y6,y7,y8,y9,y10,y11,y12⟩:=C.out.y.all
 go_wp2_with fail
 go_ret
 exact ⟨rfl,C.out.bel⟩
theorem ean_no (f o:Fr) (q r:Fl) (w:World) (ha:FwF (fun _=>True) w f q) (hb:FwF (fun _=>True) w o r) (hf:ByG f.tags) (ho:ByG o.tags) (hn:q.nt≤274877906944) (hm:r.nt≤274877906944) (c1:¬ f.code=7) (c3:¬ f.code=101) :
  Calls Tryz.prog 17 #[f.val q,o.val r] w fun e w'=>e=.returned (.bool false)∧Below w.heap.size w w':=by
 have C:=hI (TwF.made 31 w f o q r)
 have HA:=hI ha
 have HB:=hI hb
 have HF:=hI hf
 have HO:=hI ho
 clear ha hb hf ho
 obtain ⟨wm,hwm⟩:∃ wm,wm=(w.alloc (f.obj q 31)).alloc (o.obj r 31):=⟨_,rfl⟩
 rw [←hwm] at C
 have HW:=hI hwm
 clear hwm
 have j1:((f.code:Int) == 7)=false:=by rw [beq_eq_false_iff_ne];omega
 have j3:((f.code:Int) == 101)=false:=by rw [beq_eq_false_iff_ne];omega
 clear c3
 clear c1
 go_enter Tryz.func17,Tryz.ntmps17
 go_upto_region 1 with fail
 rw [←HW.out]
 obtain ⟨x0,x1,x2,x3,x4,x5,x6,x7,x8,x9,x10,x11,x12⟩:=C.out.x.all
 obtain ⟨y0,y1,y2,y3,y4,y5,y6,y7,y8,y9,y10,y11,y12⟩:=C.out.y.all
 go_wp2_with fail
 go_ret
 exact ⟨rfl,C.out.bel⟩
theorem ean_7_none_none (f o:Fr) (q r:Fl) (w:World) (ha:FwF (fun _=>True) w f q) (hb:FwF (fun _=>True) w o r) (hf:ByG f.tags) (ho:ByG o.tags) (hn:q.nt≤274877906944) (hm:r.nt≤274877906944) (c1:f.code=7) (c2:o.code=9) (u:euniq o.tags=none) (v:euniq f.tags=none) :
  Calls Tryz.prog 17 #[f.val q,o.val r] w fun e w'=>e=.returned (.bool true)∧Below w.heap.size w w':=by
 have C:=hI (TwF.made 31 w f o q r)
 have HA:=hI ha
 have HB:=hI hb
 have HF:=hI hf
 have HO:=hI ho
 clear ha hb hf ho
 obtain ⟨wm,hwm⟩:∃ wm,wm=(w.alloc (f.obj q 31)).alloc (o.obj r 31):=⟨_,rfl⟩
 rw [←hwm] at C
 have HW:=hI hwm
 clear hwm
 have j1:((f.code:Int) == 7)=true:=by rw [c1];rfl
 have j3:((f.code:Int) == 101)=false:=by rw [c1];rfl
 have j2:((o.code:Int) == 9)=true:=by rw [c2];rfl
 have U:=hI u
 have V:=hI v
 have P1:=hI trivial
 clear c1 c2 u v
 go_enter Tryz.func17,Tryz.ntmps17
 go_upto_region 1 with fail
 rw [←HW.out]
 obtain ⟨x0,x1,x2,x3,x4,x5,x6,x7,x8,x9,x10,x11,x12⟩:=C.out.x.all
 obtain ⟨y0,y1,y2,y3,y4,y5,y6,y7,y8,y9,y10,y11,y12⟩:=C.out.y.all
 go_wp2_with (first
  | (go_at_call 38;have _g:=P1;clear _g;(with_reducible refine (eunique_none o.tags U.out _ _ _ _ _ (HB.out.on C.out.bel).rt HB.out.lt hm).mono ?_);rintro e wn ⟨rfl,hb⟩;replace C:=hI (C.out.step hb);clear hb x0 x1 x2 x3 x4 x5 x6 x7 x8 x9 x10 x11 x12 y0 y1 y2 y3 y4 y5 y6 y7 y8 y9 y10 y11 y12;obtain ⟨x0,x1,x2,x3,x4,x5,x6,x7,x8,x9,x10,x11,x12⟩:=C.out.x.all;obtain ⟨y0,y1,y2,y3,y4,y5,y6,y7,y8,y9,y10,y11,y12⟩:=C.out.y.all;clear P1;have P2:=hI trivial)
  | (go_at_call 38;have _g:=P2;clear _g;(with_reducible refine (eunique_none f.tags V.out _ _ _ _ _ (HA.out.on C.out.bel).rt HA.out.lt hn).mono ?_);rintro e wn ⟨rfl,hb⟩;replace C:=hI (C.out.step hb);clear hb x0 x1 x2 x3 x4 x5 x6 x7 x8 x9 x10 x11 x12 y0 y1 y2 y3 y4 y5 y6 y7 y8 y9 y10 y11 y12;obtain ⟨x0,x1,x2,x3,x4,x5,x6,x7,x8,x9,x10,x11,x12⟩:=C.out.x.all;obtain ⟨y0,y1,y2,y3,y4,y5,y6,y7,y8,y9,y10,y11,y12⟩:=C.out.y.all;clear P2))
 go_ret
 exact ⟨rfl,C.out.bel⟩
theorem ean_7_none_some (f o:Fr) (q r:Fl) (w:World) (ha:FwF (fun _=>True) w f q) (hb:FwF (fun _=>True) w o r) (hf:ByG f.tags) (ho:ByG o.tags) (hn:q.nt≤274877906944) (hm:r.nt≤274877906944) (c1:f.code=7) (c2:o.code=9) (u:euniq o.tags=none) (y:List Nat) (v:euniq f.tags=some y) :
  Calls Tryz.prog 17 #[f.val q,o.val r] w fun e w'=>e=.returned (.bool true)∧Below w.heap.size w w':=by
 have C:=hI (TwF.made 31 w f o q r)
 have HA:=hI ha
 have HB:=hI hb
 have HF:=hI hf
 have HO:=hI ho
 clear ha hb hf ho
 obtain ⟨wm,hwm⟩:∃ wm,wm=(w.alloc (f.obj q 31)).alloc (o.obj r 31):=⟨_,rfl⟩
 rw [←hwm] at C
 have HW:=hI hwm
 clear hwm
 have j1:((f.code:Int) == 7)=true:=by rw [c1];rfl
 have j3:((f.code:Int) == 101)=false:=by rw [c1];rfl
 have j2:((o.code:Int) == 9)=true:=by rw [c2];rfl
 have U:=hI u
 have V:=hI v
 have P1:=hI trivial
 clear c1 c2 u v
 go_enter Tryz.func17,Tryz.ntmps17
 go_upto_region 1 with fail
 rw [←HW.out]
 obtain ⟨x0,x1,x2,x3,x4,x5,x6,x7,x8,x9,x10,x11,x12⟩:=C.out.x.all
 obtain ⟨y0,y1,y2,y3,y4,y5,y6,y7,y8,y9,y10,y11,y12⟩:=C.out.y.all
 go_wp2_with (first
  | (go_at_call 38;have _g:=P1;clear _g;(with_reducible refine (eunique_none o.tags U.out _ _ _ _ _ (HB.out.on C.out.bel).rt HB.out.lt hm).mono ?_);rintro e wn ⟨rfl,hb⟩;replace C:=hI (C.out.step hb);clear hb x0 x1 x2 x3 x4 x5 x6 x7 x8 x9 x10 x11 x12 y0 y1 y2 y3 y4 y5 y6 y7 y8 y9 y10 y11 y12;obtain ⟨x0,x1,x2,x3,x4,x5,x6,x7,x8,x9,x10,x11,x12⟩:=C.out.x.all;obtain ⟨y0,y1,y2,y3,y4,y5,y6,y7,y8,y9,y10,y11,y12⟩:=C.out.y.all;clear P1;have P2:=hI trivial)
  | (go_at_call 38;have _g:=P2;clear _g;(with_reducible refine (eunique_some f.tags y V.out _ _ _ _ _ (HA.out.on C.out.bel).rt HA.out.lt hn).mono ?_);rintro e wn ⟨rfl,hb⟩;replace C:=hI (C.out.step hb);clear hb x0 x1 x2 x3 x4 x5 x6 x7 x8 x9 x10 x11 x12 y0 y1 y2 y3 y4 y5 y6 y7 y8 y9 y10 y11 y12;obtain ⟨x0,x1,x2,x3,x4,x5,x6,x7,x8,x9,x10,x11,x12⟩:=C.out.x.all;obtain ⟨y0,y1,y2,y3,y4,y5,y6,y7,y8,y9,y10,y11,y12⟩:=C.out.y.all;clear P2))
 go_ret
 exact ⟨rfl,C.out.bel⟩
theorem ean_7_some_none (f o:Fr) (q r:Fl) (w:World) (ha:FwF (fun _=>True) w f q) (hb:FwF (fun _=>True) w o r) (hf:ByG f.tags) (ho:ByG o.tags) (hn:q.nt≤274877906944) (hm:r.nt≤274877906944) (c1:f.code=7) (c2:o.code=9) (x:List Nat) (u:euniq o.tags=some x) (v:euniq f.tags=none) :
  Calls Tryz.prog 17 #[f.val q,o.val r] w fun e w'=>e=.returned (.bool false)∧Below w.heap.size w w':=by
 have C:=hI (TwF.made 31 w f o q r)
 have HA:=hI ha
 have HB:=hI hb
 have HF:=hI hf
 have HO:=hI ho
 clear ha hb hf ho
 obtain ⟨wm,hwm⟩:∃ wm,wm=(w.alloc (f.obj q 31)).alloc (o.obj r 31):=⟨_,rfl⟩
 rw [←hwm] at C
 have HW:=hI hwm
 clear hwm
 have j1:((f.code:Int) == 7)=true:=by rw [c1];rfl
 have j3:((f.code:Int) == 101)=false:=by rw [c1];rfl
 have j2:((o.code:Int) == 9)=true:=by rw [c2];rfl
 have U:=hI u
 have V:=hI v
 have P1:=hI trivial
 clear c1 c2 u v
 go_enter Tryz.func17,Tryz.ntmps17
 go_upto_region 1 with fail
 rw [←HW.out]
 obtain ⟨x0,x1,x2,x3,x4,x5,x6,x7,x8,x9,x10,x11,x12⟩:=C.out.x.all
 obtain ⟨y0,y1,y2,y3,y4,y5,y6,y7,y8,y9,y10,y11,y12⟩:=C.out.y.all
 go_wp2_with (first
  | (go_at_call 38;have _g:=P1;clear _g;(with_reducible refine (eunique_some o.tags x U.out _ _ _ _ _ (HB.out.on C.out.bel).rt HB.out.lt hm).mono ?_);rintro e wn ⟨rfl,hb⟩;replace C:=hI (C.out.step hb);clear hb x0 x1 x2 x3 x4 x5 x6 x7 x8 x9 x10 x11 x12 y0 y1 y2 y3 y4 y5 y6 y7 y8 y9 y10 y11 y12;obtain ⟨x0,x1,x2,x3,x4,x5,x6,x7,x8,x9,x10,x11,x12⟩:=C.out.x.all;obtain ⟨y0,y1,y2,y3,y4,y5,y6,y7,y8,y9,y10,y11,y12⟩:=C.out.y.all;clear P1;have P2:=hI trivial)
  | (go_at_call 38;have _g:=P2;clear _g;(with_reducible refine (eunique_none f.tags V.out _ _ _ _ _ (HA.out.on C.out.bel).rt HA.out.lt hn).mono ?_);rintro e wn ⟨rfl,hb⟩;replace C:=hI (C.out.step hb);clear hb x0 x1 x2 x3 x4 x5 x6 x7 x8 x9 x10 x11 x12 y0 y1 y2 y3 y4 y5 y6 y7 y8 y9 y10 y11 y12;obtain ⟨x0,x1,x2,x3,x4,x5,x6,x7,x8,x9,x10,x11,x12⟩:=C.out.x.all;obtain ⟨y0,y1,y2,y3,y4,y5,y6,y7,y8,y9,y10,y11,y12⟩:=C.out.y.all;clear P2))
 go_ret
 exact ⟨rfl,C.out.bel⟩
theorem ean_7_some_yes (f o:Fr) (q r:Fl) (w:World) (ha:FwF (fun _=>True) w f q) (hb:FwF (fun _=>True) w o r) (hf:ByG f.tags) (ho:ByG o.tags) (hn:q.nt≤274877906944) (hm:r.nt≤274877906944) (c1:f.code=7) (c2:o.code=9) (x:List Nat) (u:euniq o.tags=some x) (y:List Nat) (v:euniq f.tags=some y) (hxy:x=y) :
  Calls Tryz.prog 17 #[f.val q,o.val r] w fun e w'=>e=.returned (.bool true)∧Below w.heap.size w w':=by
 have C:=hI (TwF.made 31 w f o q r)
 have HA:=hI ha
 have HB:=hI hb
 have HF:=hI hf
 have HO:=hI ho
 clear ha hb hf ho
 obtain ⟨wm,hwm⟩:∃ wm,wm=(w.alloc (f.obj q 31)).alloc (o.obj r 31):=⟨_,rfl⟩
 rw [←hwm] at C
 have HW:=hI hwm
 clear hwm
 have j1:((f.code:Int) == 7)=true:=by rw [c1];rfl
 have j3:((f.code:Int) == 101)=false:=by rw [c1];rfl
 have j2:((o.code:Int) == 9)=true:=by rw [c2];rfl
 have s3:((strOfNums (nums x)).toList == (strOfNums (nums y)).toList)=true:=by rw [Lib.strOfNums_toList,Lib.strOfNums_toList,nums_eq (euniq_by u HO.out) (euniq_by v HF.out)];exact decide_eq_true hxy
 have U:=hI u
 have V:=hI v
 have P1:=hI trivial
 clear c1 c2 u v hxy
 go_enter Tryz.func17,Tryz.ntmps17
 go_upto_region 1 with fail
 rw [←HW.out]
 obtain ⟨x0,x1,x2,x3,x4,x5,x6,x7,x8,x9,x10,x11,x12⟩:=C.out.x.all
 obtain ⟨y0,y1,y2,y3,y4,y5,y6,y7,y8,y9,y10,y11,y12⟩:=C.out.y.all
 go_wp2_with (first
  | (go_at_call 38;have _g:=P1;clear _g;(with_reducible refine (eunique_some o.tags x U.out _ _ _ _ _ (HB.out.on C.out.bel).rt HB.out.lt hm).mono ?_);rintro e wn ⟨rfl,hb⟩;replace C:=hI (C.out.step hb);clear hb x0 x1 x2 x3 x4 x5 x6 x7 x8 x9 x10 x11 x12 y0 y1 y2 y3 y4 y5 y6 y7 y8 y9 y10 y11 y12;obtain ⟨x0,x1,x2,x3,x4,x5,x6,x7,x8,x9,x10,x11,x12⟩:=C.out.x.all;obtain ⟨y0,y1,y2,y3,y4,y5,y6,y7,y8,y9,y10,y11,y12⟩:=C.out.y.all;clear P1;have P2:=hI trivial)
  | (go_at_call 38;have _g:=P2;clear _g;(with_reducible refine (eunique_some f.tags y V.out _ _ _ _ _ (HA.out.on C.out.bel).rt HA.out.lt hn).mono ?_);rintro e wn ⟨rfl,hb⟩;replace C:=hI (C.out.step hb);clear hb x0 x1 x2 x3 x4 x5 x6 x7 x8 x9 x10 x11 x12 y0 y1 y2 y3 y4 y5 y6 y7 y8 y9 y10 y11 y12;obtain ⟨x0,x1,x2,x3,x4,x5,x6,x7,x8,x9,x10,x11,x12⟩:=C.out.x.all;obtain ⟨y0,y1,y2,y3,y4,y5,y6,y7,y8,y9,y10,y11,y12⟩:=C.out.y.all;clear P2))
 go_ret
 exact ⟨rfl,C.out.bel⟩
theorem ean_7_some_no (f o:Fr) (q r:Fl) (w:World) (ha:FwF (fun _=>True) w f q) (hb:FwF (fun _=>True) w o r) (hf:ByG f.tags) (ho:ByG o.tags) (hn:q.nt≤274877906944) (hm:r.nt≤274877906944) (c1:f.code=7) (c2:o.code=9) (x:List Nat) (u:euniq o.tags=some x) (y:List Nat) (v:euniq f.tags=some y) (hxy:¬ x=y) :
  Calls Tryz.prog 17 #[f.val q,o.val r] w fun e w'=>e=.returned (.bool false)∧Below w.heap.size w w':=by
 have C:=hI (TwF.made 31 w f o q r)
 have HA:=hI ha
 have HB:=hI hb
 have HF:=hI hf
 have HO:=hI ho
 clear ha hb hf ho
 obtain ⟨wm,hwm⟩:∃ wm,wm=(w.alloc (f.obj q 31)).alloc (o.obj r 31):=⟨_,rfl⟩
 rw [←hwm] at C
 have HW:=hI hwm
 clear hwm
 have j1:((f.code:Int) == 7)=true:=by rw [c1];rfl
 have j3:((f.code:Int) == 101)=false:=by rw [c1];rfl
 have j2:((o.code:Int) == 9)=true:=by rw [c2];rfl
 have s3:((strOfNums (nums x)).toList == (strOfNums (nums y)).toList)=false:=by rw [Lib.strOfNums_toList,Lib.strOfNums_toList,nums_eq (euniq_by u HO.out) (euniq_by v HF.out)];exact decide_eq_false hxy
 have U:=hI u
 have V:=hI v
 have P1:=hI trivial
 clear c1 c2 u v hxy
 go_enter Tryz.func17,Tryz.ntmps17
 go_upto_region 1 with fail
 rw [←HW.out]
 obtain ⟨x0,x1,x2,x3,x4,x5,x6,x7,x8,x9,x10,x11,x12⟩:=C.out.x.all
 obtain ⟨y0,y1,y2,y3,y4,y5,y6,y7,y8,y9,y10,y11,y12⟩:=C.out.y.all
 go_wp2_with (first
  | (go_at_call 38;have _g:=P1;clear _g;(with_reducible refine (eunique_some o.tags x U.out _ _ _ _ _ (HB.out.on C.out.bel).rt HB.out.lt hm).mono ?_);rintro e wn ⟨rfl,hb⟩;replace C:=hI (C.out.step hb);clear hb x0 x1 x2 x3 x4 x5 x6 x7 x8 x9 x10 x11 x12 y0 y1 y2 y3 y4 y5 y6 y7 y8 y9 y10 y11 y12;obtain ⟨x0,x1,x2,x3,x4,x5,x6,x7,x8,x9,x10,x11,x12⟩:=C.out.x.all;obtain ⟨y0,y1,y2,y3,y4,y5,y6,y7,y8,y9,y10,y11,y12⟩:=C.out.y.all;clear P1;have P2:=hI trivial)
  | (go_at_call 38;have _g:=P2;clear _g;(with_reducible refine (eunique_some f.tags y V.out _ _ _ _ _ (HA.out.on C.out.bel).rt HA.out.lt hn).mono ?_);rintro e wn ⟨rfl,hb⟩;replace C:=hI (C.out.step hb);clear hb x0 x1 x2 x3 x4 x5 x6 x7 x8 x9 x10 x11 x12 y0 y1 y2 y3 y4 y5 y6 y7 y8 y9 y10 y11 y12;obtain ⟨x0,x1,x2,x3,x4,x5,x6,x7,x8,x9,x10,x11,x12⟩:=C.out.x.all;obtain ⟨y0,y1,y2,y3,y4,y5,y6,y7,y8,y9,y10,y11,y12⟩:=C.out.y.all;clear P2))
 go_ret
 exact ⟨rfl,C.out.bel⟩
theorem ean_101_none_none (f o:Fr) (q r:Fl) (w:World) (ha:FwF (fun _=>True) w f q) (hb:FwF (fun _=>True) w o r) (hf:ByG f.tags) (ho:ByG o.tags) (hn:q.nt≤274877906944) (hm:r.nt≤274877906944) (c1:f.code=101) (c2:o.code=25) (u:euniq o.tags=none) (v:euniq f.tags=none) :
  Calls Tryz.prog 17 #[f.val q,o.val r] w fun e w'=>e=.returned (.bool true)∧Below w.heap.size w w':=by
 have C:=hI (TwF.made 31 w f o q r)
 have HA:=hI ha
 have HB:=hI hb
 have HF:=hI hf
 have HO:=hI ho
 clear ha hb hf ho
 obtain ⟨wm,hwm⟩:∃ wm,wm=(w.alloc (f.obj q 31)).alloc (o.obj r 31):=⟨_,rfl⟩
 rw [←hwm] at C
 have HW:=hI hwm
 clear hwm
 have j1:((f.code:Int) == 7)=false:=by rw [c1];rfl
 have j3:((f.code:Int) == 101)=true:=by rw [c1];rfl
 have j2:((o.code:Int) == 25)=true:=by rw [c2];rfl
 have U:=hI u
 have V:=hI v
 have P1:=hI trivial
 clear c1 c2 u v
 go_enter Tryz.func17,Tryz.ntmps17
 go_upto_region 1 with fail
 rw [←HW.out]
 obtain ⟨x0,x1,x2,x3,x4,x5,x6,x7,x8,x9,x10,x11,x12⟩:=C.out.x.all
 obtain ⟨y0,y1,y2,y3,y4,y5,y6,y7,y8,y9,y10,y11,y12⟩:=C.out.y.all
 go_wp2_with (first
  | (go_at_call 38;have _g:=P1;clear _g;(with_reducible refine (eunique_none o.tags U.out _ _ _ _ _ (HB.out.on C.out.bel).rt HB.out.lt hm).mono ?_);rintro e wn ⟨rfl,hb⟩;replace C:=hI (C.out.step hb);clear hb x0 x1 x2 x3 x4 x5 x6 x7 x8 x9 x10 x11 x12 y0 y1 y2 y3 y4 y5 y6 y7 y8 y9 y10 y11 y12;obtain ⟨x0,x1,x2,x3,x4,x5,x6,x7,x8,x9,x10,x11,x12⟩:=C.out.x.all;obtain ⟨y0,y1,y2,y3,y4,y5,y6,y7,y8,y9,y10,y11,y12⟩:=C.out.y.all;clear P1;have P2:=hI trivial)
  | (go_at_call 38;have _g:=P2;clear _g;(with_reducible refine (eunique_none f.tags V.out _ _ _ _ _ (HA.out.on C.out.bel).rt HA.out.lt hn).mono ?_);rintro e wn ⟨rfl,hb⟩;replace C:=hI (C.out.step hb);clear hb x0 x1 x2 x3 x4 x5 x6 x7 x8 x9 x10 x11 x12 y0 y1 y2 y3 y4 y5 y6 y7 y8 y9 y10 y11 y12;obtain ⟨x0,x1,x2,x3,x4,x5,x6,x7,x8,x9,x10,x11,x12⟩:=C.out.x.all;obtain ⟨y0,y1,y2,y3,y4,y5,y6,y7,y8,y9,y10,y11,y12⟩:=C.out.y.all;clear P2))
 go_ret
 exact ⟨rfl,C.out.bel⟩
theorem ean_101_none_some (f o:Fr) (q r:Fl) (w:World) (ha:FwF (fun _=>True) w f q) (hb:FwF (fun _=>True) w o r) (hf:ByG f.tags) (ho:ByG o.tags) (hn:q.nt≤274877906944) (hm:r.nt≤274877906944) (c1:f.code=101) (c2:o.code=25) (u:euniq o.tags=none) (y:List Nat) (v:euniq f.tags=some y) :
  Calls Tryz.prog 17 #[f.val q,o.val r] w fun e w'=>e=.returned (.bool true)∧Below w.heap.size w w':=by
 have C:=hI (TwF.made 31 w f o q r)
 have HA:=hI ha
 have HB:=hI hb
 have HF:=hI hf
 have HO:=hI ho
 clear ha hb hf ho
 obtain ⟨wm,hwm⟩:∃ wm,wm=(w.alloc (f.obj q 31)).alloc (o.obj r 31):=⟨_,rfl⟩
 rw [←hwm] at C
 have HW:=hI hwm
 clear hwm
 have j1:((f.code:Int) == 7)=false:=by rw [c1];rfl
 have j3:((f.code:Int) == 101)=true:=by rw [c1];rfl
 have j2:((o.code:Int) == 25)=true:=by rw [c2];rfl
 have U:=hI u
 have V:=hI v
 have P1:=hI trivial
 clear c1 c2 u v
 go_enter Tryz.func17,Tryz.ntmps17
 go_upto_region 1 with fail
 rw [←HW.out]
 obtain ⟨x0,x1,x2,x3,x4,x5,x6,x7,x8,x9,x10,x11,x12⟩:=C.out.x.all
 obtain ⟨y0,y1,y2,y3,y4,y5,y6,y7,y8,y9,y10,y11,y12⟩:=C.out.y.all
 go_wp2_with (first
  | (go_at_call 38;have _g:=P1;clear _g;(with_reducible refine (eunique_none o.tags U.out _ _ _ _ _ (HB.out.on C.out.bel).rt HB.out.lt hm).mono ?_);rintro e wn ⟨rfl,hb⟩;replace C:=hI (C.out.step hb);clear hb x0 x1 x2 x3 x4 x5 x6 x7 x8 x9 x10 x11 x12 y0 y1 y2 y3 y4 y5 y6 y7 y8 y9 y10 y11 y12;obtain ⟨x0,x1,x2,x3,x4,x5,x6,x7,x8,x9,x10,x11,x12⟩:=C.out.x.all;obtain ⟨y0,y1,y2,y3,y4,y5,y6,y7,y8,y9,y10,y11,y12⟩:=C.out.y.all;clear P1;have P2:=hI trivial)
  | (go_at_call 38;have _g:=P2;clear _g;(with_reducible refine (eunique_some f.tags y V.out _ _ _ _ _ (HA.out.on C.out.bel).rt HA.out.lt hn).mono ?_);rintro e wn ⟨rfl,hb⟩;replace C:=hI (C.out.step hb);clear hb x0 x1 x2 x3 x4 x5 x6 x7 x8 x9 x10 x11 x12 y0 y1 y2 y3 y4 y5 y6 y7 y8 y9 y10 y11 y12;obtain ⟨x0,x1,x2,x3,x4,x5,x6,x7,x8,x9,x10,x11,x12⟩:=C.out.x.all;obtain ⟨y0,y1,y2,y3,y4,y5,y6,y7,y8,y9,y10,y11,y12⟩:=C.out.y.all;clear P2))
 go_ret
 exact ⟨rfl,C.out.bel⟩
theorem ean_101_some_none (f o:Fr) (q r:Fl) (w:World) (ha:FwF (fun _=>True) w f q) (hb:FwF (fun _=>True) w o r) (hf:ByG f.tags) (ho:ByG o.tags) (hn:q.nt≤274877906944) (hm:r.nt≤274877906944) (c1:f.code=101) (c2:o.code=25) (x:List Nat) (u:euniq o.tags=some x) (v:euniq f.tags=none) :
  Calls Tryz.prog 17 #[f.val q,o.val r] w fun e w'=>e=.returned (.bool false)∧Below w.heap.size w w':=by
 have C:=hI (TwF.made 31 w f o q r)
 have HA:=hI ha
 have HB:=hI hb
 have HF:=hI hf
 have HO:=hI ho
 clear ha hb hf ho
 obtain ⟨wm,hwm⟩:∃ wm,wm=(w.alloc (f.obj q 31)).alloc (o.obj r 31):=⟨_,rfl⟩
 rw [←hwm] at C
 have HW:=hI hwm
 clear hwm
 have j1:((f.code:Int) == 7)=false:=by rw [c1];rfl
 have j3:((f.code:Int) == 101)=true:=by rw [c1];rfl
 have j2:((o.code:Int) == 25)=true:=by rw [c2];rfl
 have U:=hI u
 have V:=hI v
 have P1:=hI trivial
 clear c1 c2 u v
 go_enter Tryz.func17,Tryz.ntmps17
 go_upto_region 1 with fail
 rw [←HW.out]
 obtain ⟨x0,x1,x2,x3,x4,x5,x6,x7,x8,x9,x10,x11,x12⟩:=C.out.x.all
 obtain ⟨y0,y1,y2,y3,y4,y5,y6,y7,y8,y9,y10,y11,y12⟩:=C.out.y.all
 go_wp2_with (first
  | (go_at_call 38;have _g:=P1;clear _g;(with_reducible refine (eunique_some o.tags x U.out _ _ _ _ _ (HB.out.on C.out.bel).rt HB.out.lt hm).mono ?_);rintro e wn ⟨rfl,hb⟩;replace C:=hI (C.out.step hb);clear hb x0 x1 x2 x3 x4 x5 x6 x7 x8 x9 x10 x11 x12 y0 y1 y2 y3 y4 y5 y6 y7 y8 y9 y10 y11 y12;obtain ⟨x0,x1,x2,x3,x4,x5,x6,x7,x8,x9,x10,x11,x12⟩:=C.out.x.all;obtain ⟨y0,y1,y2,y3,y4,y5,y6,y7,y8,y9,y10,y11,y12⟩:=C.out.y.all;clear P1;have P2:=hI trivial)
  | (go_at_call 38;have _g:=P2;clear _g;(with_reducible refine (eunique_none f.tags V.out _ _ _ _ _ (HA.out.on C.out.bel).rt HA.out.lt hn).mono ?_);rintro e wn ⟨rfl,hb⟩;replace C:=hI (C.out.step hb);clear hb x0 x1 x2 x3 x4 x5 x6 x7 x8 x9 x10 x11 x12 y0 y1 y2 y3 y4 y5 y6 y7 y8 y9 y10 y11 y12;obtain ⟨x0,x1,x2,x3,x4,x5,x6,x7,x8,x9,x10,x11,x12⟩:=C.out.x.all;obtain ⟨y0,y1,y2,y3,y4,y5,y6,y7,y8,y9,y10,y11,y12⟩:=C.out.y.all;clear P2))
 go_ret
 exact ⟨rfl,C.out.bel⟩
theorem ean_101_some_yes (f o:Fr) (q r:Fl) (w:World) (ha:FwF (fun _=>True) w f q) (hb:FwF (fun _=>True) w o r) (hf:ByG f.tags) (ho:ByG o.tags) (hn:q.nt≤274877906944) (hm:r.nt≤274877906944) (c1:f.code=101) (c2:o.code=25) (x:List Nat) (u:euniq o.tags=some x) (y:List Nat) (v:euniq f.tags=some y) (hxy:x=y) :
  Calls Tryz.prog 17 #[f.val q,o.val r] w fun e w'=>e=.returned (.bool true)∧Below w.heap.size w w':=by
 have C:=hI (TwF.made 31 w f o q r)
 have HA:=hI ha
 have HB:=hI hb
 have HF:=hI hf
 have HO:=hI ho
 clear ha hb hf ho
 obtain ⟨wm,hwm⟩:∃ wm,wm=(w.alloc (f.obj q 31)).alloc (o.obj r 31):=⟨_,rfl⟩
 rw [←hwm] at C
 have HW:=hI hwm
 clear hwm
 have j1:((f.code:Int) == 7)=false:=by rw [c1];rfl
 have j3:((f.code:Int) == 101)=true:=by rw [c1];rfl
 have j2:((o.code:Int) == 25)=true:=by rw [c2];rfl
 have s3:((strOfNums (nums x)).toList == (strOfNums (nums y)).toList)=true:=by rw [Lib.strOfNums_toList,Lib.strOfNums_toList,nums_eq (euniq_by u HO.out) (euniq_by v HF.out)];exact decide_eq_true hxy
 have U:=hI u
 have V:=hI v
 have P1:=hI trivial
 clear c1 c2 u v hxy
 go_enter Tryz.func17,Tryz.ntmps17
 go_upto_region 1 with fail
 rw [←HW.out]
 obtain ⟨x0,x1,x2,x3,x4,x5,x6,x7,x8,x9,x10,x11,x12⟩:=C.out.x.all
 obtain ⟨y0,y1,y2,y3,y4,y5,y6,y7,y8,y9,y10,y11,y12⟩:=C.out.y.all
 go_wp2_with (first
  | (go_at_call 38;have _g:=P1;clear _g;(with_reducible refine (eunique_some o.tags x U.out _ _ _ _ _ (HB.out.on C.out.bel).rt HB.out.lt hm).mono ?_);rintro e wn ⟨rfl,hb⟩;replace C:=hI (C.out.step hb);clear hb x0 x1 x2 x3 x4 x5 x6 x7 x8 x9 x10 x11 x12 y0 y1 y2 y3 y4 y5 y6 y7 y8 y9 y10 y11 y12;obtain ⟨x0,x1,x2,x3,x4,x5,x6,x7,x8,x9,x10,x11,x12⟩:=C.out.x.all;obtain ⟨y0,y1,y2,y3,y4,y5,y6,y7,y8,y9,y10,y11,y12⟩:=C.out.y.all;clear P1;have P2:=hI trivial)
  | (go_at_call 38;have _g:=P2;clear _g;(with_reducible refine (eunique_some f.tags y V.out _ _ _ _ _ (HA.out.on C.out.bel).rt HA.out.lt hn).mono ?_);rintro e wn ⟨rfl,hb⟩;replace C:=hI (C.out.step hb);clear hb x0 x1 x2 x3 x4 x5 x6 x7 x8 x9 x10 x11 x12 y0 y1 y2 y3 y4 y5 y6 y7 y8 y9 y10 y11 y12;obtain ⟨x0,x1,x2,x3,x4,x5,x6,x7,x8,x9,x10,x11,x12⟩:=C.out.x.all;obtain ⟨y0,y1,y2,y3,y4,y5,y6,y7,y8,y9,y10,y11,y12⟩:=C.out.y.all;clear P2))
 go_ret
 exact ⟨rfl,C.out.bel⟩
theorem ean_101_some_no (f o:Fr) (q r:Fl) (w:World) (ha:FwF (fun _=>True) w f q) (hb:FwF (fun _=>True) w o r) (hf:ByG f.tags) (ho:ByG o.tags) (hn:q.nt≤274877906944) (hm:r.nt≤274877906944) (c1:f.code=101) (c2:o.code=25) (x:List Nat) (u:euniq o.tags=some x) (y:List Nat) (v:euniq f.tags=some y) (hxy:¬ x=y) :
  Calls Tryz.prog 17 #[f.val q,o.val r] w fun e w'=>e=.returned (.bool false)∧Below w.heap.size w w':=by
 have C:=hI (TwF.made 31 w f o q r)
 have HA:=hI ha
 have HB:=hI hb
 have HF:=hI hf
 have HO:=hI ho
 clear ha hb hf ho
 obtain ⟨wm,hwm⟩:∃ wm,wm=(w.alloc (f.obj q 31)).alloc (o.obj r 31):=⟨_,rfl⟩
 rw [←hwm] at C
 have HW:=hI hwm
 clear hwm
 have j1:((f.code:Int) == 7)=false:=by rw [c1];rfl
 have j3:((f.code:Int) == 101)=true:=by rw [c1];rfl
 have j2:((o.code:Int) == 25)=true:=by rw [c2];rfl
 have s3:((strOfNums (nums x)).toList == (strOfNums (nums y)).toList)=false:=by rw [Lib.strOfNums_toList,Lib.strOfNums_toList,nums_eq (euniq_by u HO.out) (euniq_by v HF.out)];exact decide_eq_false hxy
 have U:=hI u
 have V:=hI v
 have P1:=hI trivial
 clear c1 c2 u v hxy
 go_enter Tryz.func17,Tryz.ntmps17
 go_upto_region 1 with fail
 rw [←HW.out]
 obtain ⟨x0,x1,x2,x3,x4,x5,x6,x7,x8,x9,x10,x11,x12⟩:=C.out.x.all
 obtain ⟨y0,y1,y2,y3,y4,y5,y6,y7,y8,y9,y10,y11,y12⟩:=C.out.y.all
 go_wp2_with (first
  | (go_at_call 38;have _g:=P1;clear _g;(with_reducible refine (eunique_some o.tags x U.out _ _ _ _ _ (HB.out.on C.out.bel).rt HB.out.lt hm).mono ?_);rintro e wn ⟨rfl,hb⟩;replace C:=hI (C.out.step hb);clear hb x0 x1 x2 x3 x4 x5 x6 x7 x8 x9 x10 x11 x12 y0 y1 y2 y3 y4 y5 y6 y7 y8 y9 y10 y11 y12;obtain ⟨x0,x1,x2,x3,x4,x5,x6,x7,x8,x9,x10,x11,x12⟩:=C.out.x.all;obtain ⟨y0,y1,y2,y3,y4,y5,y6,y7,y8,y9,y10,y11,y12⟩:=C.out.y.all;clear P1;have P2:=hI trivial)
  | (go_at_call 38;have _g:=P2;clear _g;(with_reducible refine (eunique_some f.tags y V.out _ _ _ _ _ (HA.out.on C.out.bel).rt HA.out.lt hn).mono ?_);rintro e wn ⟨rfl,hb⟩;replace C:=hI (C.out.step hb);clear hb x0 x1 x2 x3 x4 x5 x6 x7 x8 x9 x10 x11 x12 y0 y1 y2 y3 y4 y5 y6 y7 y8 y9 y10 y11 y12;obtain ⟨x0,x1,x2,x3,x4,x5,x6,x7,x8,x9,x10,x11,x12⟩:=C.out.x.all;obtain ⟨y0,y1,y2,y3,y4,y5,y6,y7,y8,y9,y10,y11,y12⟩:=C.out.y.all;clear P2))
 go_ret
 exact ⟨rfl,C.out.bel⟩
theorem eansw_any (f o:Fr) (q r:Fl) (w:World) (ha:FwF (fun _=>True) w f q) (hb:FwF (fun _=>True) w o r) (hf:ByG f.tags) (ho:ByG o.tags) (hn:q.nt≤274877906944) (hm:r.nt≤274877906944) (z:Bool) (hz:eansB f o=z) :
  Calls Tryz.prog 17 #[f.val q,o.val r] w fun e w'=>e=.returned (.bool z)∧Below w.heap.size w w':=by
 subst hz
 unfold eansB
 by_cases c1:f.code=7
 ·by_cases c2:o.code=9
  ·cases u:euniq o.tags with
   | none =>
    rw [show (decide (f.code=7) && decide (o.code=9) || decide (f.code=101) && decide (o.code=25))=true by simp [c1,c2]]
    cases v:euniq f.tags with
    | none=>exact ean_7_none_none f o q r w ha hb hf ho hn hm c1 c2 u v
    | some y=>exact ean_7_none_some f o q r w ha hb hf ho hn hm c1 c2 u y v
   | some x =>
    rw [show (decide (f.code=7) && decide (o.code=9) || decide (f.code=101) && decide (o.code=25))=true by simp [c1,c2]]
    cases v:euniq f.tags with
    | none=>exact ean_7_some_none f o q r w ha hb hf ho hn hm c1 c2 x u v
    | some y =>
     by_cases hxy:x=y
     ·rw [show (true && decide (some y=some x))=true by rw [hxy];simp]
      exact ean_7_some_yes f o q r w ha hb hf ho hn hm c1 c2 x u y v hxy
     ·rw [show (true && decide (some y=some x))=false by simp;exact fun e=>hxy e.symm]
      exact ean_7_some_no f o q r w ha hb hf ho hn hm c1 c2 x u y v hxy
  ·rw [show (decide (f.code=7) && decide (o.code=9) || decide (f.code=101) && decide (o.code=25))=false by simp [c1,c2],Bool.false_and]
   exact ean_no7 f o q r w ha hb hf ho hn hm c1 c2
 by_cases c3:f.code=101
 ·by_cases c2:o.code=25
  ·cases u:euniq o.tags with
   | none =>
    rw [show (decide (f.code=7) && decide (o.code=9) || decide (f.code=101) && decide (o.code=25))=true by simp [c3,c2]]
    cases v:euniq f.tags with
    | none=>exact ean_101_none_none f o q r w ha hb hf ho hn hm c3 c2 u v
    | some y=>exact ean_101_none_some f o q r w ha hb hf ho hn hm c3 c2 u y v
   | some x =>
    rw [show (decide (f.code=7) && decide (o.code=9) || decide (f.code=101) && decide (o.code=25))=true by simp [c3,c2]]
    cases v:euniq f.tags with
    | none=>exact ean_101_some_none f o q r w ha hb hf ho hn hm c3 c2 x u v
    | some y =>
     by_cases hxy:x=y
     ·rw [show (true && decide (some y=some x))=true by rw [hxy];simp]
      exact ean_101_some_yes f o q r w ha hb hf ho hn hm c3 c2 x u y v hxy
     ·rw [show (true && decide (some y=some x))=false by simp;exact fun e=>hxy e.symm]
      exact ean_101_some_no f o q r w ha hb hf ho hn hm c3 c2 x u y v hxy
  ·rw [show (decide (f.code=7) && decide (o.code=9) || decide (f.code=101) && decide (o.code=25))=false by simp [c3,c2],Bool.false_and]
   exact ean_no101 f o q r w ha hb hf ho hn hm c3 c2
 rw [show (decide (f.code=7) && decide (o.code=9) || decide (f.code=101) && decide (o.code=25))=false by simp [c1,c3],Bool.false_and]
 exact ean_no f o q r w ha hb hf ho hn hm c1 c3
end Go.Proofs.YtmhjnghomihjlaaGreat
