/-
  Layer 14's answers as mathematics: what is known of options, numbers of octets, configs settled. No condition. A map of spans in memory; what known, sought and Size answer, and the document's Size. No
-/
import Derived.Test.YtmhjnghomihjlaaGreatGTlv
import Derived.Test.YtmhjnghomihjlaaGreatGWord
import Derived.Maps.OwnSet
import Derived.Laws.Bits64b
import Derived.Laws.ShiftsVarLaws
namespace Go.Proofs.YtmhjnghomihjlaaGreat
set_option maxRecDepth 8000
set_option maxHeartbeats 80000000
set_option linter.unusedVariables false
section
abbrev Tab:=List (Nat × Nat × Nat)
def tabB (p:Nat):Tab :=
 if p=49185 then [(9,1,1),(8,0,0),(7,0,0),(5,4,4),(4,2,253),(3,2,253),(2,4,4),(1,2,2)]
 else if p=32801 then [(132,4,4),(131,4,4),(130,4,4),(129,4,4),(3,4,4),(2,2,253)]
 else if p=32855 then [(2,2,253),(1,8,8)] else []
def seekB (T:Tab) (t:Nat):Nat × Nat × Bool:=(T.find? fun x=>decide (x.1=t)).elim (0,0,false) fun x=>(x.2.1,x.2.2,true)
def spanB (T:Tab) (t:Nat):Nat × Nat:=(T.find? fun x=>decide (x.1=t)).elim (0,253) fun x=>(x.2.1,x.2.2)
theorem span_yes {T:Tab} {t a b:Nat} (h:seekB T t=(a,b,true)):spanB T t=(a,b):=by
 unfold seekB at h
 unfold spanB
 cases hf:T.find? (fun x=>decide (x.1=t)) <;> rw [hf] at h <;> simp at h ⊢
 exact ⟨h.1,h.2⟩
theorem span_no {T:Tab} {t a b:Nat} (h:seekB T t=(a,b,false)):spanB T t=(0,253):=by
 unfold seekB at h
 unfold spanB
 cases hf:T.find? (fun x=>decide (x.1=t)) <;> rw [hf] at h <;> simp at h ⊢
theorem span_le (p t:Nat):(spanB (tabB p) t).1≤253∧(spanB (tabB p) t).2≤253:=by
 unfold spanB
 cases hf:(tabB p).find? (fun x=>decide (x.1=t)) with
 | none=>simp
 | some x =>
  have hm:=List.mem_of_find?_eq_some hf
  have key:∀ y ∈ tabB p,y.2.1≤253∧y.2.2≤253:=by
   unfold tabB
   split
   ·decide
   ·split
    ·decide
    ·split <;> decide
  exact key x hm
def okO (T:Tab) (o:Nat × List Nat):Bool:=decide ((spanB T o.1).1≤o.2.length) && decide (o.2.length≤(spanB T o.1).2)
def okL (T:Tab) (l:List (Nat × List Nat)):Bool:=l.all (okO T)
theorem okL_take {T:Tab} {l:List (Nat × List Nat)} {k:Nat} {x:Nat × List Nat} (h:okL T (l.take k)=true) (hx:l[k]?=some x) (ho:okO T x=true):okL T (l.take (k+1))=true:=by
 unfold okL at h ⊢
 rw [List.take_add_one,hx,Option.toList_some,List.all_append,h]
 simp [ho]
theorem okL_no {T:Tab} {l:List (Nat × List Nat)} {k:Nat} {x:Nat × List Nat} (hx:l[k]?=some x) (ho:okO T x=false):okL T l=false:=by
 rw [Bool.eq_false_iff]
 intro h
 have:=List.all_eq_true.1 h x (List.mem_of_getElem? hx)
 rw [ho] at this
 cases this
theorem okO_yes {T:Tab} {o:Nat × List Nat} (h:okO T o=true):(spanB T o.1).1≤o.2.length∧o.2.length≤(spanB T o.1).2:=by
 unfold okO at h
 simpa using h
def valN (l:List Nat):Nat:=l.foldl (fun n c=>n*256+c) 0
def valB (l:List Nat):Nat:=valN l % 18446744073709551616
theorem valN_snoc {l:List Nat} {k x:Nat} (hx:l[k]?=some x):valN (l.take (k+1))=valN (l.take k)*256+x:=by
 unfold valN
 rw [List.take_add_one,hx,Option.toList_some,List.foldl_append]
 rfl
theorem valB_snoc {l:List Nat} {k x:Nat} (hx:l[k]?=some x):valB (l.take (k+1))=(valB (l.take k)*256+x) % 18446744073709551616:=by
 unfold valB
 rw [valN_snoc hx]
 omega
theorem fold_from (l:List Nat):∀ a,l.foldl (fun n c=>n*256+c) a=a*256 ^ l.length+valN l:=by
 induction l with
 | nil=>intro a;simp [valN]
 | cons x l ih =>
  intro a
  unfold valN
  rw [List.foldl_cons,List.foldl_cons,ih,ih,List.length_cons,Nat.pow_succ,Nat.zero_mul,Nat.zero_add]
  rw [Nat.add_mul,Nat.mul_assoc,Nat.mul_comm 256 (256 ^ l.length)]
  omega
theorem valN_cons (x:Nat) (l:List Nat):valN (x :: l)=x*256 ^ l.length+valN l:=by
 have:=fold_from l x
 unfold valN at this ⊢
 rw [List.foldl_cons,Nat.zero_mul,Nat.zero_add]
 exact this
theorem valN_lt {l:List Nat} (h:By l):valN l<256 ^ l.length:=by
 induction l with
 | nil=>simp [valN]
 | cons x l ih =>
  rw [valN_cons,List.length_cons,Nat.pow_succ]
  have h1:=ih (fun y hy=>h y (List.mem_cons_of_mem _ hy))
  have h2:x<256:=h x (List.mem_cons_self ..)
  have h3:x*256 ^ l.length≤255*256 ^ l.length:=Nat.mul_le_mul_right _ (by omega)
  omega
theorem valB_small {l:List Nat} (h:By l) (k:Nat) (hk:l.length=k) (h8:k≤8):valB l=valN l∧valB l<256 ^ k:=by
 have h1:=valN_lt h
 rw [hk] at h1
 have h2:256 ^ k≤256 ^ 8:=Nat.pow_le_pow_right (by omega) h8
 have h3:(256:Nat) ^ 8=18446744073709551616:=by decide
 unfold valB
 rw [Nat.mod_eq_of_lt (by omega)]
 exact ⟨rfl,h1⟩
def numB (n:Nat):Nat→List Nat
 | 0=>[]
 | k+1=>n / 256 ^ k % 256 :: numB n k
theorem num_len (n k:Nat):(numB n k).length=k:=by induction k <;> simp [numB, *]
def filB (n k i:Nat):List Nat:=List.replicate (k - i) 0 ++ numB n i
theorem fil_zero (n k:Nat):filB n k 0=List.replicate k 0:=by simp [filB,numB]
theorem fil_all (n k:Nat):filB n k k=numB n k:=by simp [filB]
theorem fil_len (n k i:Nat) (h:i≤k):(filB n k i).length=k:=by simp [filB,num_len];omega
theorem fil_set (n k i:Nat) (h:i<k):(filB n k i).set (k - 1 - i) (n / 256 ^ i % 256)=filB n k (i+1):=by
 unfold filB
 have e:k - i=(k - (i+1))+1:=by omega
 rw [e,List.replicate_succ',List.append_assoc,List.set_append]
 rw [if_neg (by rw [List.length_replicate];omega),List.length_replicate,show k - 1 - i - (k - (i+1))=0 by omega]
 simp [numB]
end
section
open Go.RowKit Go.Maps
def spanE:Value→Option (DataW Unit × List MemPlace)
 | .agg ⟨[.int .i64 a,.int .i64 b]⟩=>some (.agg [.lit (.int .i64 a),.lit (.int .i64 b)],[])
 | _=>none
abbrev spanV (a b:Int):Value:=.agg #[.int .i64 a,.int .i64 b]
abbrev spanD (a b:Int):DataW Unit:=.agg [.lit (.int .i64 a),.lit (.int .i64 b)]
theorem spanE_mk (a b:Int):spanE (spanV a b)=some (spanD a b,[]):=rfl
theorem spanE_inv {v:Value} {a b:Int} {ps:List MemPlace} (h:spanE v=some (spanD a b,ps)):v=spanV a b:=by
 unfold spanE at h
 split at h
 ·simp at h
  rw [h.1.1,h.1.2]
 ·cases h
def mapD:Tab→DataW Unit
 | []=>.map []
 | x :: r=>(mapD r).put (.int .u8 (x.1:Int)) (spanD (x.2.1:Int) (x.2.2:Int))
theorem mapD_is (T:Tab):IsMap (mapD T):=by
 induction T with
 | nil=>exact isMap_empty
 | cons x r ih=>exact ih.put _ _
theorem key_is (t:Nat):WideAt.IsKeyLit (.int .u8 (t:Int)):=by trivial
theorem key_ne {s t:Nat} (h:s≠t):(Lit.int .u8 (t:Int))≠(Lit.int .u8 (s:Int)):=by
 intro e
 injection e with _ e
 omega
theorem mapD_has (T:Tab) (t:Nat):has (mapD T) (.int .u8 (t:Int))=(seekB T t).2.2:=by
 induction T with
 | nil=>rfl
 | cons x r ih =>
  unfold mapD
  by_cases h:x.1=t
  ·rw [←h,has_put_same (mapD_is r) (key_is _)]
   simp [seekB]
  ·rw [has_put_other (key_ne h),ih]
   simp [seekB,h]
theorem mapD_at (T:Tab) (t:Nat):(mapD T).atKey (.int .u8 (t:Int)) (spanD 0 0)=spanD ((seekB T t).1:Int) ((seekB T t).2.1:Int):=by
 induction T with
 | nil=>rfl
 | cons x r ih =>
  unfold mapD
  by_cases h:x.1=t
  ·rw [←h,atKey_put_same (mapD_is r) (key_is _)]
   simp [seekB]
  ·rw [atKey_put_other (key_ne h),ih]
   simp [seekB,h]
def Mb (w:World) (b:Nat) (T:Tab):Prop:=w.ownsMap Tryz.prog 5 spanE b T.length (mapD T)
def Mp (w:World) (m:Option Nat) (T:Tab):Prop:=(m=none∧T=[])∨∃ b,m=some b∧Mb w b T
theorem Mb.below {w w':World} {b:Nat} {T:Tab} {B:Nat} (h:Mb w b T) (hb:Below B w w') (hB:b<B):Mb w' b T:=by
 obtain ⟨es,clock,h1,r⟩:=h
 exact ⟨es,clock,(hb.block b hB).trans h1,r⟩
theorem Mb.lt {w:World} {b:Nat} {T:Tab} (h:Mb w b T):b<w.heap.size:=World.ownsMap.lt h
theorem Mp.below {w w':World} {m:Option Nat} {T:Tab} (h:Mp w m T) (hb:Below w.heap.size w w'):Mp w' m T :=
 h.imp id fun ⟨b,e,hm⟩=>⟨b,e,hm.below hb hm.lt⟩
theorem Mb.made (w:World):Mb (w.alloc (.map #[] 0)) w.heap.size []:=World.ownsMap_made _ _ _ _
theorem byte_keyed:Keyed Tryz.prog 5:=int_keyed Tryz.underlying5
theorem byte_wf {t:Nat} (h:t<256):(Lit.int .u8 (t:Int)).wf=true:=by
 simp [Lit.wf,IntKind.min,IntKind.max,IntKind.signed,IntKind.bits]
 omega
theorem span_zero (w:World):(zeroValue 189).run Tryz.prog w=.ok (spanV 0 0) w:=by kernel_rfl
theorem wpList_fill {w:World} {ops:Array Oper} {rest:List Oper} {o:Oper} {a:Act} {Q:Exit→Act→World→Prop}
  (hg:o.guard=none) (m x v:Operand) (hop:o.op=Op.insert 186 m x v) (b:Nat) (T:Tab) (hm:a.eval m=.map (some b)) (hown:Mb w b T) (hn:T.length<1000)
  (t p q:Nat) (ht:t<256) (hx:a.eval x=.int .u8 (t:Int)) (hv:a.eval v=spanV (p:Int) (q:Int))
  (hK:∀ w',Mb w' b ((t,p,q) :: T)→w.grownBy w' (some b)→wpList Tryz.prog ops Q rest (a.put o.dst undef) w') :
  wpList Tryz.prog ops Q (o :: rest) a w:=by
 refine wpList_plain hg fun K' hK'=>?_
 obtain ⟨w',hrun,r1,r2⟩:=World.ownsMap.update hown byte_keyed Tryz.underlying186 (by unfold maxLen;omega) (keyOf_int_mk Tryz.underlying5 (byte_wf ht)) (spanE_mk (p:Int) (q:Int))
 unfold Oper.wp
 simp [execOp,hop,hm,hx,hv,hrun,Result.andThen]
 exact hK' _ _ (hK w' r1 r2)
theorem wpList_seek {w:World} {ops:Array Oper} {rest:List Oper} {o:Oper} {a:Act} {Q:Exit→Act→World→Prop}
  (hg:o.guard=none) (m x:Operand) (hop:o.op=Op.lookup 186 m x true) (b:Option Nat) (T:Tab) (hm:a.eval m=.map b) (hown:Mp w b T)
  (t p q:Nat) (r:Bool) (ht:t<256) (hx:a.eval x=.int .u8 (t:Int)) (hs:seekB T t=(p,q,r))
  (hK:wpList Tryz.prog ops Q rest (a.put o.dst (.tuple #[spanV (p:Int) (q:Int),.bool r])) w) :
  wpList Tryz.prog ops Q (o :: rest) a w:=by
 refine wpList_plain hg fun K' hK'=>?_
 have hkey:=keyOf_int_mk Tryz.underlying5 (byte_wf ht)
 rcases hown with ⟨rfl,rfl⟩ | ⟨b,rfl,hown⟩
 ·have hrun:=Maps.look_nil true byte_keyed (t:=186) Tryz.underlying186 (span_zero w) hkey
  simp [seekB] at hs
  obtain ⟨rfl,rfl,rfl⟩:=hs
  unfold Oper.wp
  simp [execOp,hop,hm,hx,hrun,Result.andThen]
  exact hK' _ _ hK
 ·obtain ⟨v,ps,hrun,hv⟩:=World.ownsMap.look_ok hown byte_keyed (t:=186) Tryz.underlying186 (span_zero w) (spanE_mk 0 0) hkey
  rw [mapD_at,hs] at hv
  rw [mapD_has,hs] at hrun
  obtain rfl:=spanE_inv hv
  unfold Oper.wp
  simp [execOp,hop,hm,hx,hrun,Result.andThen]
  exact hK' _ _ hK
end
section
open Go.RowKit Go.Maps
theorem known_49185 (w:World):Calls Tryz.prog 124 #[.int .u16 49185] w fun e w'=>∃ m,e=.returned (.map m)∧Mp w' m (tabB 49185)∧Below w.heap.size w w':=by
 have M:=hI (Mb.made w)
 have B:=hI ((Below.refl w.heap.size w).alloc (Nat.le_refl _) (.map #[] 0))
 have hmm:=@run_makeMap Tryz.prog
 go_enter Tryz.func124,Tryz.ntmps124
 go_wp2_with (first
   | (refine wpList_fill rfl _ _ _ rfl w.heap.size _ rfl M.out (by decide) 1 2 2 (by decide) rfl rfl ?_;intro w1 hm1 hg1;replace B:=hI (B.out.grown hg1 B.out.size (fun k hk=>by injection hk with hk;omega));replace M:=hI hm1;clear hm1 hg1)
   | (refine wpList_fill rfl _ _ _ rfl w.heap.size _ rfl M.out (by decide) 2 4 4 (by decide) rfl rfl ?_;intro w1 hm1 hg1;replace B:=hI (B.out.grown hg1 B.out.size (fun k hk=>by injection hk with hk;omega));replace M:=hI hm1;clear hm1 hg1)
   | (refine wpList_fill rfl _ _ _ rfl w.heap.size _ rfl M.out (by decide) 3 2 253 (by decide) rfl rfl ?_;intro w1 hm1 hg1;replace B:=hI (B.out.grown hg1 B.out.size (fun k hk=>by injection hk with hk;omega));replace M:=hI hm1;clear hm1 hg1)
   | (refine wpList_fill rfl _ _ _ rfl w.heap.size _ rfl M.out (by decide) 4 2 253 (by decide) rfl rfl ?_;intro w1 hm1 hg1;replace B:=hI (B.out.grown hg1 B.out.size (fun k hk=>by injection hk with hk;omega));replace M:=hI hm1;clear hm1 hg1)
   | (refine wpList_fill rfl _ _ _ rfl w.heap.size _ rfl M.out (by decide) 5 4 4 (by decide) rfl rfl ?_;intro w1 hm1 hg1;replace B:=hI (B.out.grown hg1 B.out.size (fun k hk=>by injection hk with hk;omega));replace M:=hI hm1;clear hm1 hg1)
   | (refine wpList_fill rfl _ _ _ rfl w.heap.size _ rfl M.out (by decide) 7 0 0 (by decide) rfl rfl ?_;intro w1 hm1 hg1;replace B:=hI (B.out.grown hg1 B.out.size (fun k hk=>by injection hk with hk;omega));replace M:=hI hm1;clear hm1 hg1)
   | (refine wpList_fill rfl _ _ _ rfl w.heap.size _ rfl M.out (by decide) 8 0 0 (by decide) rfl rfl ?_;intro w1 hm1 hg1;replace B:=hI (B.out.grown hg1 B.out.size (fun k hk=>by injection hk with hk;omega));replace M:=hI hm1;clear hm1 hg1)
   | (refine wpList_fill rfl _ _ _ rfl w.heap.size _ rfl M.out (by decide) 9 1 1 (by decide) rfl rfl ?_;intro w1 hm1 hg1;replace B:=hI (B.out.grown hg1 B.out.size (fun k hk=>by injection hk with hk;omega));replace M:=hI hm1;clear hm1 hg1))
 go_ret
 exact ⟨_,rfl,.inr ⟨_,rfl,M.out⟩,B.out⟩
theorem known_32801 (w:World):Calls Tryz.prog 124 #[.int .u16 32801] w fun e w'=>∃ m,e=.returned (.map m)∧Mp w' m (tabB 32801)∧Below w.heap.size w w':=by
 have M:=hI (Mb.made w)
 have B:=hI ((Below.refl w.heap.size w).alloc (Nat.le_refl _) (.map #[] 0))
 have hmm:=@run_makeMap Tryz.prog
 go_enter Tryz.func124,Tryz.ntmps124
 go_wp2_with (first
   | (refine wpList_fill rfl _ _ _ rfl w.heap.size _ rfl M.out (by decide) 2 2 253 (by decide) rfl rfl ?_;intro w1 hm1 hg1;replace B:=hI (B.out.grown hg1 B.out.size (fun k hk=>by injection hk with hk;omega));replace M:=hI hm1;clear hm1 hg1)
   | (refine wpList_fill rfl _ _ _ rfl w.heap.size _ rfl M.out (by decide) 3 4 4 (by decide) rfl rfl ?_;intro w1 hm1 hg1;replace B:=hI (B.out.grown hg1 B.out.size (fun k hk=>by injection hk with hk;omega));replace M:=hI hm1;clear hm1 hg1)
   | (refine wpList_fill rfl _ _ _ rfl w.heap.size _ rfl M.out (by decide) 129 4 4 (by decide) rfl rfl ?_;intro w1 hm1 hg1;replace B:=hI (B.out.grown hg1 B.out.size (fun k hk=>by injection hk with hk;omega));replace M:=hI hm1;clear hm1 hg1)
   | (refine wpList_fill rfl _ _ _ rfl w.heap.size _ rfl M.out (by decide) 130 4 4 (by decide) rfl rfl ?_;intro w1 hm1 hg1;replace B:=hI (B.out.grown hg1 B.out.size (fun k hk=>by injection hk with hk;omega));replace M:=hI hm1;clear hm1 hg1)
   | (refine wpList_fill rfl _ _ _ rfl w.heap.size _ rfl M.out (by decide) 131 4 4 (by decide) rfl rfl ?_;intro w1 hm1 hg1;replace B:=hI (B.out.grown hg1 B.out.size (fun k hk=>by injection hk with hk;omega));replace M:=hI hm1;clear hm1 hg1)
   | (refine wpList_fill rfl _ _ _ rfl w.heap.size _ rfl M.out (by decide) 132 4 4 (by decide) rfl rfl ?_;intro w1 hm1 hg1;replace B:=hI (B.out.grown hg1 B.out.size (fun k hk=>by injection hk with hk;omega));replace M:=hI hm1;clear hm1 hg1))
 go_ret
 exact ⟨_,rfl,.inr ⟨_,rfl,M.out⟩,B.out⟩
theorem known_32855 (w:World):Calls Tryz.prog 124 #[.int .u16 32855] w fun e w'=>∃ m,e=.returned (.map m)∧Mp w' m (tabB 32855)∧Below w.heap.size w w':=by
 have M:=hI (Mb.made w)
 have B:=hI ((Below.refl w.heap.size w).alloc (Nat.le_refl _) (.map #[] 0))
 have hmm:=@run_makeMap Tryz.prog
 go_enter Tryz.func124,Tryz.ntmps124
 go_wp2_with (first
   | (refine wpList_fill rfl _ _ _ rfl w.heap.size _ rfl M.out (by decide) 1 8 8 (by decide) rfl rfl ?_;intro w1 hm1 hg1;replace B:=hI (B.out.grown hg1 B.out.size (fun k hk=>by injection hk with hk;omega));replace M:=hI hm1;clear hm1 hg1)
   | (refine wpList_fill rfl _ _ _ rfl w.heap.size _ rfl M.out (by decide) 2 2 253 (by decide) rfl rfl ?_;intro w1 hm1 hg1;replace B:=hI (B.out.grown hg1 B.out.size (fun k hk=>by injection hk with hk;omega));replace M:=hI hm1;clear hm1 hg1))
 go_ret
 exact ⟨_,rfl,.inr ⟨_,rfl,M.out⟩,B.out⟩
theorem known_none (p:Nat) (h1:p≠49185) (h2:p≠32801) (h3:p≠32855) (w:World):Calls Tryz.prog 124 #[.int .u16 (p:Int)] w fun e w'=>∃ m,e=.returned (.map m)∧Mp w' m (tabB p)∧Below w.heap.size w w':=by
 have j1:¬ (p:Int)=49185:=by omega
 have j2:¬ (p:Int)=32801:=by omega
 have j3:¬ (p:Int)=32855:=by omega
 have E:=hI (show tabB p=[] by simp [tabB,h1,h2,h3])
 clear h1 h2 h3
 go_enter Tryz.func124,Tryz.ntmps124
 go_wp2_with fail
 go_ret
 exact ⟨_,rfl,.inl ⟨rfl,E.out⟩,Below.refl _ _⟩
theorem known_any (p:Nat) (w:World):Calls Tryz.prog 124 #[.int .u16 (p:Int)] w fun e w'=>∃ m,e=.returned (.map m)∧Mp w' m (tabB p)∧Below w.heap.size w w':=by
 by_cases h1:p=49185
 ·subst h1;exact known_49185 w
 by_cases h2:p=32801
 ·subst h2;exact known_32801 w
 by_cases h3:p=32855
 ·subst h3;exact known_32855 w
 exact known_none p h1 h2 h3 w
theorem sought_any (T:Tab) (m:Option Nat) (t:Nat) (ht:t<256) (w:World) (h:Mp w m T) (a b:Nat) (hs:spanB T t=(a,b)) :
  Calls Tryz.prog 126 #[.map m,.int .u8 (t:Int)] w fun e w'=>e=.returned (spanV (a:Int) (b:Int))∧Below w.heap.size w w':=by
 obtain ⟨p,q,r,hk⟩:∃ p q r,Hid (seekB T t=(p,q,r)):=⟨_,_,_,hI rfl⟩
 have HM:=hI h
 have HM1:=hI (h.below ((Below.refl w.heap.size w).alloc (Nat.le_refl _) (.cells #[.int .i64 0,.int .i64 0] 189)))
 clear h
 cases r
 ·rw [span_no hk.out] at hs
  obtain ⟨rfl,rfl⟩:=Prod.mk.inj hs
  clear hs
  go_enter Tryz.func126,Tryz.ntmps126
  go_wp2_with (first
   | (refine wpList_seek rfl _ _ rfl _ T rfl HM.out t p q _ ht rfl hk.out ?_)
   | (refine wpList_seek rfl _ _ rfl _ T rfl HM1.out t p q _ ht rfl hk.out ?_))
  refine bodyPost_ret (v:=spanV ((0:Nat):Int) ((253:Nat):Int)) ?_ rfl ⟨rfl,?_⟩
  ·exact results_cell_row rfl _ _ w.heap.size 189 _ _ _ rfl (heap_alloc2_old w _ _) Tryz.underlying189 rfl (by kernel_rfl)
  ·exact below_two w _ _
 ·rw [span_yes hk.out] at hs
  obtain ⟨rfl,rfl⟩:=Prod.mk.inj hs
  clear hs
  go_enter Tryz.func126,Tryz.ntmps126
  go_wp2_with (first
   | (refine wpList_seek rfl _ _ rfl _ T rfl HM.out t p q _ ht rfl hk.out ?_)
   | (refine wpList_seek rfl _ _ rfl _ T rfl HM1.out t p q _ ht rfl hk.out ?_))
  refine bodyPost_ret (v:=spanV (p:Int) (q:Int)) ?_ rfl ⟨rfl,?_⟩
  ·exact results_cell_row rfl _ _ w.heap.size 189 _ _ _ rfl (heap_alloc2_old w _ _) Tryz.underlying189 rfl (by kernel_rfl)
  ·exact below_two w _ _
end
section
open Go.RowKit
theorem rsize_49185 (t a b:Nat) (hs:spanB (tabB 49185) t=(a,b)) (w:World):Calls Tryz.prog 87 #[.int .i64 49185,.int .u8 (t:Int)] w fun e w'=>e=.returned (.tuple #[.int .i64 (a:Int),.int .i64 (b:Int)])∧w=w':=by
 by_cases h1:1=t
 ·subst h1
  obtain ⟨rfl,rfl⟩:=Prod.mk.inj (hs.symm.trans (show spanB (tabB 49185) 1=(2,2) by decide))
  clear hs
  go_enter Tryz.func87,Tryz.ntmps87
  go_wp2_with fail
  go_ret2
  exact ⟨rfl,rfl⟩
 by_cases h2:2=t
 ·subst h2
  obtain ⟨rfl,rfl⟩:=Prod.mk.inj (hs.symm.trans (show spanB (tabB 49185) 2=(4,4) by decide))
  clear hs
  go_enter Tryz.func87,Tryz.ntmps87
  go_wp2_with fail
  go_ret2
  exact ⟨rfl,rfl⟩
 by_cases h3:3=t
 ·subst h3
  obtain ⟨rfl,rfl⟩:=Prod.mk.inj (hs.symm.trans (show spanB (tabB 49185) 3=(2,253) by decide))
  clear hs
  go_enter Tryz.func87,Tryz.ntmps87
  go_wp2_with fail
  go_ret2
  exact ⟨rfl,rfl⟩
 by_cases h4:4=t
 ·subst h4
  obtain ⟨rfl,rfl⟩:=Prod.mk.inj (hs.symm.trans (show spanB (tabB 49185) 4=(2,253) by decide))
  clear hs
  go_enter Tryz.func87,Tryz.ntmps87
  go_wp2_with fail
  go_ret2
  exact ⟨rfl,rfl⟩
 by_cases h5:5=t
 ·subst h5
  obtain ⟨rfl,rfl⟩:=Prod.mk.inj (hs.symm.trans (show spanB (tabB 49185) 5=(4,4) by decide))
  clear hs
  go_enter Tryz.func87,Tryz.ntmps87
  go_wp2_with fail
  go_ret2
  exact ⟨rfl,rfl⟩
 by_cases h7:7=t
 ·subst h7
  obtain ⟨rfl,rfl⟩:=Prod.mk.inj (hs.symm.trans (show spanB (tabB 49185) 7=(0,0) by decide))
  clear hs
  go_enter Tryz.func87,Tryz.ntmps87
  go_wp2_with fail
  go_ret2
  exact ⟨rfl,rfl⟩
 by_cases h8:8=t
 ·subst h8
  obtain ⟨rfl,rfl⟩:=Prod.mk.inj (hs.symm.trans (show spanB (tabB 49185) 8=(0,0) by decide))
  clear hs
  go_enter Tryz.func87,Tryz.ntmps87
  go_wp2_with fail
  go_ret2
  exact ⟨rfl,rfl⟩
 by_cases h9:9=t
 ·subst h9
  obtain ⟨rfl,rfl⟩:=Prod.mk.inj (hs.symm.trans (show spanB (tabB 49185) 9=(1,1) by decide))
  clear hs
  go_enter Tryz.func87,Tryz.ntmps87
  go_wp2_with fail
  go_ret2
  exact ⟨rfl,rfl⟩
 obtain ⟨rfl,rfl⟩:=Prod.mk.inj (hs.symm.trans (show spanB (tabB 49185) t=(0,253) by simp [spanB,tabB,h1,h2,h3,h4,h5,h7,h8,h9]))
 have j1:¬ (t:Int)=1:=by omega
 have j2:¬ (t:Int)=2:=by omega
 have j3:¬ (t:Int)=3:=by omega
 have j4:¬ (t:Int)=4:=by omega
 have j5:¬ (t:Int)=5:=by omega
 have j7:¬ (t:Int)=7:=by omega
 have j8:¬ (t:Int)=8:=by omega
 have j9:¬ (t:Int)=9:=by omega
 clear hs h1 h2 h3 h4 h5 h7 h8 h9
 go_enter Tryz.func87,Tryz.ntmps87
 go_wp2_with fail
 go_ret2
 exact ⟨rfl,rfl⟩
theorem rsize_32801 (t a b:Nat) (hs:spanB (tabB 32801) t=(a,b)) (w:World):Calls Tryz.prog 87 #[.int .i64 32801,.int .u8 (t:Int)] w fun e w'=>e=.returned (.tuple #[.int .i64 (a:Int),.int .i64 (b:Int)])∧w=w':=by
 by_cases h2:2=t
 ·subst h2
  obtain ⟨rfl,rfl⟩:=Prod.mk.inj (hs.symm.trans (show spanB (tabB 32801) 2=(2,253) by decide))
  clear hs
  go_enter Tryz.func87,Tryz.ntmps87
  go_wp2_with fail
  go_ret2
  exact ⟨rfl,rfl⟩
 by_cases h3:3=t
 ·subst h3
  obtain ⟨rfl,rfl⟩:=Prod.mk.inj (hs.symm.trans (show spanB (tabB 32801) 3=(4,4) by decide))
  clear hs
  go_enter Tryz.func87,Tryz.ntmps87
  go_wp2_with fail
  go_ret2
  exact ⟨rfl,rfl⟩
 by_cases h129:129=t
 ·subst h129
  obtain ⟨rfl,rfl⟩:=Prod.mk.inj (hs.symm.trans (show spanB (tabB 32801) 129=(4,4) by decide))
  clear hs
  go_enter Tryz.func87,Tryz.ntmps87
  go_wp2_with fail
  go_ret2
  exact ⟨rfl,rfl⟩
 by_cases h130:130=t
 ·subst h130
  obtain ⟨rfl,rfl⟩:=Prod.mk.inj (hs.symm.trans (show spanB (tabB 32801) 130=(4,4) by decide))
  clear hs
  go_enter Tryz.func87,Tryz.ntmps87
  go_wp2_with fail
  go_ret2
  exact ⟨rfl,rfl⟩
 by_cases h131:131=t
 ·subst h131
  obtain ⟨rfl,rfl⟩:=Prod.mk.inj (hs.symm.trans (show spanB (tabB 32801) 131=(4,4) by decide))
  clear hs
  go_enter Tryz.func87,Tryz.ntmps87
  go_wp2_with fail
  go_ret2
  exact ⟨rfl,rfl⟩
 by_cases h132:132=t
 ·subst h132
  obtain ⟨rfl,rfl⟩:=Prod.mk.inj (hs.symm.trans (show spanB (tabB 32801) 132=(4,4) by decide))
  clear hs
  go_enter Tryz.func87,Tryz.ntmps87
  go_wp2_with fail
  go_ret2
  exact ⟨rfl,rfl⟩
 obtain ⟨rfl,rfl⟩:=Prod.mk.inj (hs.symm.trans (show spanB (tabB 32801) t=(0,253) by simp [spanB,tabB,h2,h3,h129,h130,h131,h132]))
 have j2:¬ (t:Int)=2:=by omega
 have j3:¬ (t:Int)=3:=by omega
 have j129:¬ (t:Int)=129:=by omega
 have j130:¬ (t:Int)=130:=by omega
 have j131:¬ (t:Int)=131:=by omega
 have j132:¬ (t:Int)=132:=by omega
 by_cases hq:(129:Int)≤t
 ·have hr:¬ (t:Int)≤132:=by omega
  clear hs h2 h3 h129 h130 h131 h132
  go_enter Tryz.func87,Tryz.ntmps87
  go_wp2_with fail
  go_ret2
  exact ⟨rfl,rfl⟩
 ·clear hs h2 h3 h129 h130 h131 h132
  go_enter Tryz.func87,Tryz.ntmps87
  go_wp2_with fail
  go_ret2
  exact ⟨rfl,rfl⟩
theorem rsize_32855 (t a b:Nat) (hs:spanB (tabB 32855) t=(a,b)) (w:World):Calls Tryz.prog 87 #[.int .i64 32855,.int .u8 (t:Int)] w fun e w'=>e=.returned (.tuple #[.int .i64 (a:Int),.int .i64 (b:Int)])∧w=w':=by
 by_cases h1:1=t
 ·subst h1
  obtain ⟨rfl,rfl⟩:=Prod.mk.inj (hs.symm.trans (show spanB (tabB 32855) 1=(8,8) by decide))
  clear hs
  go_enter Tryz.func87,Tryz.ntmps87
  go_wp2_with fail
  go_ret2
  exact ⟨rfl,rfl⟩
 by_cases h2:2=t
 ·subst h2
  obtain ⟨rfl,rfl⟩:=Prod.mk.inj (hs.symm.trans (show spanB (tabB 32855) 2=(2,253) by decide))
  clear hs
  go_enter Tryz.func87,Tryz.ntmps87
  go_wp2_with fail
  go_ret2
  exact ⟨rfl,rfl⟩
 obtain ⟨rfl,rfl⟩:=Prod.mk.inj (hs.symm.trans (show spanB (tabB 32855) t=(0,253) by simp [spanB,tabB,h1,h2]))
 have j1:¬ (t:Int)=1:=by omega
 have j2:¬ (t:Int)=2:=by omega
 clear hs h1 h2
 go_enter Tryz.func87,Tryz.ntmps87
 go_wp2_with fail
 go_ret2
 exact ⟨rfl,rfl⟩
theorem rsize_none (p t a b:Nat) (h1:p≠49185) (h2:p≠32801) (h3:p≠32855) (hs:spanB (tabB p) t=(a,b)) (w:World):Calls Tryz.prog 87 #[.int .i64 (p:Int),.int .u8 (t:Int)] w fun e w'=>e=.returned (.tuple #[.int .i64 (a:Int),.int .i64 (b:Int)])∧w=w':=by
 obtain ⟨rfl,rfl⟩:=Prod.mk.inj (hs.symm.trans (show spanB (tabB p) t=(0,253) by simp [spanB,tabB,h1,h2,h3]))
 have j1:¬ (p:Int)=49185:=by omega
 have j2:¬ (p:Int)=32801:=by omega
 have j3:¬ (p:Int)=32855:=by omega
 clear hs h1 h2 h3
 go_enter Tryz.func87,Tryz.ntmps87
 go_wp2_with fail
 go_ret2
 exact ⟨rfl,rfl⟩
theorem rsize_any (p t a b:Nat) (hs:spanB (tabB p) t=(a,b)) (w:World):Calls Tryz.prog 87 #[.int .i64 (p:Int),.int .u8 (t:Int)] w fun e w'=>e=.returned (.tuple #[.int .i64 (a:Int),.int .i64 (b:Int)])∧w=w':=by
 by_cases h1:p=49185
 ·subst h1;exact rsize_49185 t a b hs w
 by_cases h2:p=32801
 ·subst h2;exact rsize_32801 t a b hs w
 by_cases h3:p=32855
 ·subst h3;exact rsize_32855 t a b hs w
 exact rsize_none p t a b h1 h2 h3 hs w
end
section
open Go.RowKit
def Wr (w:World) (g:Nat) (T:Tab):Prop:=g<w.heap.size∧∃ m,w.cell? ⟨g,0,none⟩=some (.map m)∧Mp w m T
theorem Wr.below {w w':World} {g:Nat} {T:Tab} (h:Wr w g T) (hb:Below w.heap.size w w'):Wr w' g T:=by
 obtain ⟨h1,m,h2,h3⟩:=h
 exact ⟨Nat.lt_of_lt_of_le h1 hb.size,m,(hb.cell (p:=⟨g,0,none⟩) h1).trans h2,h3.below hb⟩
abbrev fvW (g:Nat):Value:=.func (.func 125) #[] #[.pointer (some ⟨g,0,none⟩)]
theorem wrong_any (p:Nat) (w:World):Calls Tryz.prog 118 #[.int .u16 (p:Int)] w fun e w'=>∃ g,e=.returned (fvW g)∧Wr w' g (tabB p)∧Below w.heap.size w w':=by
 go_enter Tryz.func118,Tryz.ntmps118
 go_wp2_with (go_at_call 124;(with_reducible refine (known_any p _).mono ?_);rintro e wn ⟨m,rfl,hm,hb⟩;have B:=hI (hb.alloc hb.size (.cells #[.map m] 186));have W:=hI (show Wr (wn.alloc (.cells #[.map m] 186)) wn.heap.size (tabB p) from ⟨by rw [World.size_alloc];omega,m,by rw [cell_of_row _ _ 0 _ _ _ (heap_alloc_new wn _)];rfl,hm.below ((Below.refl _ _).alloc (Nat.le_refl _) _)⟩);clear hm hb)
 go_ret
 exact ⟨_,rfl,W.out,B.out⟩
theorem wrong1_any (T:Tab) (o:Nat × List Nat) (ht:o.1<256) (n c:Nat) (A:Option Addr) (g:Nat) (w:World) (h:Wr w g T) (hl:o.2.length=n) (q:Bool) (hq:okO T o=q) :
  Calls Tryz.prog 125 #[.agg #[.int .u8 (o.1:Int),.slice A n c],.pointer (some ⟨g,0,none⟩)] w fun e w'=>e=.returned (.bool (!q))∧Below w.heap.size w w':=by
 obtain ⟨t,l⟩:=o
 dsimp only at ht hl
 obtain ⟨a,b,hs⟩:∃ a b,Hid (spanB T t=(a,b)):=⟨_,_,hI rfl⟩
 obtain ⟨w1,hw1⟩:∃ w1,w1=w.alloc (.cells #[.int .u8 (t:Int),.slice A n c] 116):=⟨_,rfl⟩
 have hb1:Below w.heap.size w w1:=by rw [hw1];exact (Below.refl _ _).alloc (Nat.le_refl _) _
 have hs1:w1.heap.size=w.heap.size+1:=by rw [hw1,World.size_alloc]
 have hv1:w1.heap[w.heap.size]?=some (.cells #[.int .u8 (t:Int),.slice A n c] 116 (0,0)):=by rw [hw1];exact heap_alloc_new _ _
 have CA:=hI (show ∀ w':World,Below w1.heap.size w1 w'→w'.cell? ⟨w.heap.size,0,none⟩=some (.int .u8 (t:Int))∧w'.cell? ⟨w.heap.size,1,none⟩=some (.slice A n c) from fun w' hb'=>by
  have hv:w'.heap[w.heap.size]?=some (.cells #[.int .u8 (t:Int),.slice A n c] 116 (0,0)):=(hb'.block _ (by omega)).trans hv1
  exact ⟨by rw [cell_of_row w' _ 0 _ _ _ hv];rfl,by rw [cell_of_row w' _ 1 _ _ _ hv];rfl⟩)
 obtain ⟨hg,m,hc,hm⟩:=h.below hb1
 obtain ⟨c0,c1⟩:=CA.out w1 (Below.refl _ _)
 have B1:=hI hb1
 have HM:=hI hm
 have HW:=hI hw1
 have HQ:=hI hq
 have HL:=hI hl
 have HG:=hI hg
 rw [hw1] at hc c0 c1
 clear h hb1 hs1 hv1 hw1 hm hq hl hg
 by_cases j1:(n:Int)<a
 ·have E:=hI (show q=false by
   rw [←HQ.out,okO,hs.out,HL.out]
   simp;omega)
  go_enter Tryz.func125,Tryz.ntmps125
  go_wp2_with (go_at_call 126;rw [←HW.out];(with_reducible refine (sought_any T m t ht _ HM.out a b hs.out).mono ?_);rintro e wn ⟨rfl,hb⟩;have B2:=hI (hb.alloc hb.size (.cells #[.int .i64 (a:Int),.int .i64 (b:Int)] 189));obtain ⟨d0,d1⟩:=CA.out _ B2.out;clear hb hc c0 c1)
  go_ret
  exact ⟨by rw [E.out];rfl,B1.out.trans (B2.out.mono B1.out.size)⟩
 by_cases j2:(b:Int)<n
 ·have E:=hI (show q=false by
   rw [←HQ.out,okO,hs.out,HL.out]
   simp;omega)
  go_enter Tryz.func125,Tryz.ntmps125
  go_wp2_with (go_at_call 126;rw [←HW.out];(with_reducible refine (sought_any T m t ht _ HM.out a b hs.out).mono ?_);rintro e wn ⟨rfl,hb⟩;have B2:=hI (hb.alloc hb.size (.cells #[.int .i64 (a:Int),.int .i64 (b:Int)] 189));obtain ⟨d0,d1⟩:=CA.out _ B2.out;clear hb hc c0 c1)
  go_ret
  exact ⟨by rw [E.out];rfl,B1.out.trans (B2.out.mono B1.out.size)⟩
 have E:=hI (show q=true by
  rw [←HQ.out,okO,hs.out,HL.out]
  simp;omega)
 go_enter Tryz.func125,Tryz.ntmps125
 go_wp2_with (go_at_call 126;rw [←HW.out];(with_reducible refine (sought_any T m t ht _ HM.out a b hs.out).mono ?_);rintro e wn ⟨rfl,hb⟩;have B2:=hI (hb.alloc hb.size (.cells #[.int .i64 (a:Int),.int .i64 (b:Int)] 189));obtain ⟨d0,d1⟩:=CA.out _ B2.out;clear hb hc c0 c1)
 go_ret
 exact ⟨by rw [E.out];show Ending.returned (.bool (decide (n<a) || decide (b<n)))=_;rw [decide_eq_false (by omega),decide_eq_false (by omega)];rfl,B1.out.trans (B2.out.mono B1.out.size)⟩
theorem wfind_any (T:Tab) (l:List (Nat × List Nat)) (n c:Nat) (A:Option Addr) (F:Nat→Prop) (g:Nat) (w:World) (h:Rws shO F w A l) (ho:ByO l) (hl:l.length=n) (hn:n≤274877906944) (hw:Wr w g T) :
  Calls Tryz.prog 123 #[.slice A n c,fvW g] w fun e w'=>∃ z:Int,e=.returned (.int .i64 z)∧-1≤z∧(0≤z ↔ okL T l=false)∧Below w.heap.size w w':=by
 have HL:=hI hl
 have HO:=hI ho
 have HR:=hI h
 have HW:=hI hw
 clear hl ho h hw
 go_enter Tryz.func123,Tryz.ntmps123
 go_wp2_with fail
 go_loopw [8] (fun i wr=>∃ k:Nat,k≤n∧i=.int .i64 k∧Hid (okL T (l.take k)=true)∧Below w.heap.size w wr) (fun i _=>n - (intOf i).toNat)
 case atStart=>exact ⟨0,Nat.zero_le _,rfl,hI (by simp [okL]),Below.refl _ _⟩
 case round =>
  obtain ⟨k,hk,rfl,hf,hbel⟩:=hrel
  by_cases hlt:k<n
  ·obtain ⟨b,o,x,A3,c3,rfl,hb3,hx,h3,h4,h5,h6⟩:=(HR.out.below hbel).opt (k:=k) (by rw [HL.out];exact hlt)
   have hx1:=(HO.out x (List.mem_of_getElem? hx)).1
   have HX:=hI hx
   have i1:(0:Int)≤k:=by omega
   have i2:(k:Int)<n:=by omega
   obtain ⟨q,hq⟩:∃ q,Hid (okO T x=q):=⟨_,hI rfl⟩
   have BE:=hI hbel
   clear hx h6 hbel
   cases q
   ·have E:=hI (okL_no HX.out hq.out)
    go_wp2_with (go_at_call 125;(with_reducible refine (wrong1_any T x hx1 _ c3 A3 g _ (HW.out.below BE.out) rfl _ hq.out).mono ?_);rintro e wn ⟨rfl,hb⟩;replace BE:=hI (BE.out.trans (hb.mono BE.out.size));clear hb)
    go_ret
    exact ⟨_,rfl,by omega,⟨fun _=>E.out,fun _=>by omega⟩,BE.out⟩
   ·have R:=hI (okL_take hf.out HX.out hq.out)
    go_wp2_with (go_at_call 125;(with_reducible refine (wrong1_any T x hx1 _ c3 A3 g _ (HW.out.below BE.out) rfl _ hq.out).mono ?_);rintro e wn ⟨rfl,hb⟩;replace BE:=hI (BE.out.trans (hb.mono BE.out.size));clear hb)
    go_roundw
    case rel=>exact ⟨k+1,by omega,by go_num,R,BE.out⟩
    case measure=>simp [intOf];omega
  ·have he:k=n:=by omega
   subst he
   have E:=hf.out
   rw [List.take_of_length_le (by rw [HL.out];exact Nat.le_refl _)] at E
   have HE:=hI E
   clear E
   go_wp2_with fail
   go_ret
   exact ⟨_,rfl,by omega,⟨fun h=>absurd h (by omega),fun h=>by rw [HE.out] at h;cases h⟩,hbel⟩
theorem any_wrong (T:Tab) (l:List (Nat × List Nat)) (n c:Nat) (A:Option Addr) (F:Nat→Prop) (g:Nat) (w:World) (h:Rws shO F w A l) (ho:ByO l) (hl:l.length=n) (hn:n≤274877906944) (hw:Wr w g T) (q:Bool) (hq:okL T l=q) :
  Calls Tryz.prog 117 #[.slice A n c,fvW g] w fun e w'=>e=.returned (.bool (!q))∧Below w.heap.size w w':=by
 have HI:=hI (wfind_any T l n c A F g w h ho hl hn hw)
 have HQ:=hI hq
 clear h ho hl hw hq
 cases q
 ·go_enter Tryz.func117,Tryz.ntmps117
  go_wp2_with (go_at_call 123;(with_reducible refine HI.out.mono ?_);rintro e wn ⟨z,rfl,-,hz,hb⟩;have j1:0≤z:=hz.2 HQ.out;have B:=hI hb;clear hb hz)
  go_ret
  exact ⟨rfl,B.out⟩
 ·go_enter Tryz.func117,Tryz.ntmps117
  go_wp2_with (go_at_call 123;(with_reducible refine HI.out.mono ?_);rintro e wn ⟨z,rfl,-,hz,hb⟩;have j1:¬ 0≤z:=(fun h=>by have:=hz.1 h;rw [HQ.out] at this;cases this);have B:=hI hb;clear hb hz)
  go_ret
  exact ⟨by show Ending.returned (.bool (decide (0≤z)))=_;rw [decide_eq_false (by omega)];rfl,B.out⟩
structure BoC (w W:World) (b:Nat) (T:TypeId) (t:Nat) (A:Option Addr) (n c:Nat):Prop where
 bel:Below w.heap.size w W
 box:W.heap[b]?=some (.cells #[.int .u8 (t:Int),.slice A n c] T (0,0))
section
variable {w W X W' : World} {b : Nat} {T : TypeId} {t : Nat} {A : Option Addr} {n c : Nat}
theorem BoC.cells (h:BoC w W b T t A n c):W.cell? ⟨b,0,none⟩=some (.int .u8 (t:Int))∧W.cell? ⟨b,1,none⟩=some (.slice A n c) :=
 ⟨by rw [cell_of_row W _ 0 _ _ _ h.box];rfl,by rw [cell_of_row W _ 1 _ _ _ h.box];rfl⟩
theorem BoC.lt (h:BoC w W b T t A n c):b<W.heap.size:=(Array.getElem?_eq_some_iff.1 h.box).1
theorem BoC.step (h:BoC w W b T t A n c) (hb:Below X.heap.size X W') (hX:Below W.heap.size W X:=by first | exact Below.refl _ _ | exact (Below.refl _ _).drew):BoC w W' b T t A n c :=
 ⟨h.bel.trans ((hX.trans (hb.mono hX.size)).mono h.bel.size),((hX.trans (hb.mono hX.size)).block b h.lt).trans h.box⟩
theorem BoC.drew (h:BoC w W b T t A n c):BoC w W.drew b T t A n c:=h.step (X:=W) (Below.refl _ _).drew
theorem BoC.made (w:World) (T:TypeId) (t:Nat) (A:Option Addr) (n c:Nat):BoC w (w.alloc (.cells #[.int .u8 (t:Int),.slice A n c] T)) w.heap.size T t A n c :=
 ⟨(Below.refl _ _).alloc (Nat.le_refl _) _,heap_alloc_new _ _⟩
end
theorem orright_any (p:Nat) (l:List (Nat × List Nat)) (n c:Nat) (A:Option Addr) (F:Nat→Prop) (w:World) (h:Rws shO F w A l) (hl:l.length=n) (hn:n≤274877906944) (q:Bool) (hq:okL (tabB p) l=q) :
  Calls Tryz.prog 82 #[.int .i64 (p:Int),.slice A n c] w fun e w'=>e=.returned (.bool q)∧Below w.heap.size w w':=by
 have HL:=hI hl
 have HR:=hI h
 have HQ:=hI hq
 clear hl h hq
 go_enter Tryz.func82,Tryz.ntmps82
 go_wp2_with fail
 go_loopw [5] (fun i wr=>∃ k:Nat,k≤n∧i=.int .i64 k∧Hid (okL (tabB p) (l.take k)=true)∧Below w.heap.size w wr) (fun i _=>n - (intOf i).toNat)
 case atStart=>exact ⟨0,Nat.zero_le _,rfl,hI (by simp [okL]),Below.refl _ _⟩
 case round =>
  obtain ⟨k,hk,rfl,hf,hbel⟩:=hrel
  by_cases hlt:k<n
  ·obtain ⟨b,o,x,A3,c3,rfl,hb3,hx,h3,h4,h5,h6⟩:=(HR.out.below hbel).opt (k:=k) (by rw [HL.out];exact hlt)
   have HX:=hI hx
   have i1:(0:Int)≤k:=by omega
   have i2:(k:Int)<n:=by omega
   obtain ⟨u,v,hs⟩:∃ u v,Hid (spanB (tabB p) x.1=(u,v)):=⟨_,_,hI rfl⟩
   clear hx h6
   by_cases j1:(x.2.length:Int)<u
   ·have E:=hI (show q=false by rw [←HQ.out];exact okL_no HX.out (by rw [okO,hs.out];simp;omega))
    go_wp2_with (go_at_call 87;(with_reducible refine (rsize_any p x.1 u v hs.out _).mono ?_);rintro e wn ⟨rfl,rfl⟩)
    go_ret
    exact ⟨by rw [E.out];rfl,hbel⟩
   by_cases j2:(v:Int)<x.2.length
   ·have E:=hI (show q=false by rw [←HQ.out];exact okL_no HX.out (by rw [okO,hs.out];simp;omega))
    go_wp2_with (go_at_call 87;(with_reducible refine (rsize_any p x.1 u v hs.out _).mono ?_);rintro e wn ⟨rfl,rfl⟩)
    go_ret
    exact ⟨by rw [E.out];rfl,hbel⟩
   have R:=hI (okL_take hf.out HX.out (by rw [okO,hs.out];simp;omega))
   go_wp2_with (go_at_call 87;(with_reducible refine (rsize_any p x.1 u v hs.out _).mono ?_);rintro e wn ⟨rfl,rfl⟩)
   go_roundw
   case rel=>exact ⟨k+1,by omega,by go_num,R,hbel⟩
   case measure=>simp [intOf];omega
  ·have he:k=n:=by omega
   subst he
   have E:=hf.out
   rw [List.take_of_length_le (by rw [HL.out];exact Nat.le_refl _),HQ.out] at E
   subst E
   go_wp2_with fail
   go_ret
   exact ⟨rfl,hbel⟩
end
section
open Go.RowKit
theorem u64_shl (v:Nat):IntKind.u64.wrap ((v:Int)*256)=((v*256 % 18446744073709551616:Nat):Int):=by rw [IntKind.wrap_u64];omega
theorem u64_step (v x:Nat) (hx:x<256):bits .or .u64 (IntKind.u64.wrap ((v:Int)*256)) (x:Int)=(((v*256+x) % 18446744073709551616:Nat):Int):=by
 rw [u64_shl,bits_or_u64_nat _ _ (Nat.mod_lt _ (by omega)) (by omega)]
 have h1:v*256 % 18446744073709551616=2 ^ 8*(v % 72057594037927936):=by omega
 rw [h1,← Nat.two_pow_add_eq_or_of_lt (show x<2 ^ 8 by omega)]
 congr 1
 omega
theorem value_any (t:Int) (l:List Nat) (n c:Nat) (A:Option Addr) (w:World) (h:Rd w w.heap.size A l) (hb:By l) (hl:l.length=n) (hn:n≤274877906944) (q:Nat) (hq:valB l=q) :
  Calls Tryz.prog 119 #[.agg #[.int .u8 t,.slice A n c]] w fun e w'=>e=.returned (.int .u64 (q:Int))∧Below w.heap.size w w':=by
 obtain ⟨w1,hw1⟩:∃ w1,w1=w.alloc (.cells #[.int .u8 t,.slice A n c] 116):=⟨_,rfl⟩
 have hb1:Below w.heap.size w w1:=by rw [hw1];exact (Below.refl _ _).alloc (Nat.le_refl _) _
 have HR:=hI (h.on hb1)
 have B1:=hI hb1
 have HW:=hI hw1
 have HL:=hI hl
 have HQ:=hI hq
 clear h hb1 hw1 hl hq
 go_enter Tryz.func119,Tryz.ntmps119
 go_wp2_with fail
 rw [←HW.out]
 go_loop [3,9] (fun v i=>∃ k:Nat,k≤n∧i=.int .i64 k∧v=.int .u64 (valB (l.take k):Nat)) (fun _ i=>n - (intOf i).toNat)
 case atStart=>exact ⟨0,Nat.zero_le _,rfl,rfl⟩
 case round =>
  obtain ⟨k,hk,rfl,rfl⟩:=hrel
  by_cases hlt:k<n
  ·obtain ⟨b,o,x,rfl,hbb,hx,hc⟩:=HR.out.at_ (k:=k) (by rw [HL.out];exact hlt)
   have hx256:=hb.get hx
   have i1:(0:Int)≤k:=by omega
   have i2:(k:Int)<n:=by omega
   have HS:=hI (valB_snoc hx)
   obtain ⟨v,hv⟩:∃ v,Hid (valB (l.take k)=v):=⟨_,hI rfl⟩
   rw [hv.out]
   clear hx
   go_wp2_with fail
   go_round
   case rel=>exact ⟨k+1,by omega,by go_num,by rw [HS.out,hv.out,u64_step v x hx256]⟩
   case measure=>simp [intOf];omega
  ·have he:k=n:=by omega
   subst he
   have E:=HQ.out
   rw [List.take_of_length_le (by rw [HL.out];exact Nat.le_refl _),E]
   go_wp2_with fail
   go_ret
   exact ⟨rfl,B1.out⟩
theorem zeros_own {w:World} {A:Option Addr} {base n c:Nat} (h:w.ownsRow base 5 1 (.slice A n c) n (madeCells (Value.cells (.int .u8 0)) (n*1)).toList):w.ownsRow base 5 1 (.slice A n c) n (bvs (List.replicate n 0)):=by
 rw [←part_zero] at h
 have e:part [] n 0=List.replicate n 0:=by unfold part;rw [Nat.sub_zero];rfl
 rw [e] at h
 exact h
theorem make_own (n:Nat) (hn:n≤1099511627776) (w:World):∃ w',(Instr.makeSlice 26 (.int .i64 (n:Int)) (.int .i64 (n:Int))).run Tryz.prog w=.ok (.slice (some ⟨w.heap.size,0,none⟩) n n) w'∧w'.ownsRow w.heap.size 5 1 (.slice (some ⟨w.heap.size,0,none⟩) n n) n (bvs (List.replicate n 0))∧Below w.heap.size w w':=by
 obtain ⟨i0,hi,hz0,hz1,hz2⟩:=info_parts byte_info
 obtain ⟨w',h1,h2,h3⟩:=run_make_full (P:=Tryz.prog) (w:=w) w.heap.size 26 5 i0 (.int .u8 0) 1 Tryz.underlying26 hi hz0 hz1 .i64 .i64 n (by rw [hz2];omega) (by unfold maxLen;omega) (Nat.le_refl _)
 exact ⟨w',h1,zeros_own h2,(Below.refl _ _).grown h3 (Nat.le_refl _) (fun k hk=>by cases hk)⟩
theorem bvs_setV (l:List Nat) (k x:Nat):(bvs l).set k (.int .u8 (x:Int))=bvs (l.set k x):=by simp [bvs,bv,List.map_set]
theorem num_oct (v k:Nat):((v / 256 ^ k % 256:Nat):Int)=(v:Int) / 2 ^ (8*k) % 256:=by
 rw [show (256:Nat) ^ k=2 ^ (8*k) by rw [Nat.pow_mul]]
 rw [Int.natCast_emod,Int.natCast_ediv,Int.natCast_pow]
 rfl
theorem num_any (t v n:Nat) (hn:n≤8) (w:World) :
  Calls Tryz.prog 128 #[.int .u8 (t:Int),.int .u64 (v:Int),.int .i64 (n:Int)] w fun e w'=>∃ A c,e=.returned (.agg #[.int .u8 (t:Int),.slice A n c])∧w'.ownsRow w.heap.size 5 1 (.slice A n c) n (bvs (numB v n))∧Below w.heap.size w w':=by
 have i0:(0:Int)≤n:=by omega
 have i8:(n:Int)≤8:=by omega
 obtain ⟨w1,hw1⟩:∃ w1,w1=w.alloc (.cells #[.int .u8 0,.slice none 0 0] 116):=⟨_,rfl⟩
 have hb0:Below w.heap.size w w1:=by rw [hw1];exact (Below.refl _ _).alloc (Nat.le_refl _) _
 have hs1:w1.heap.size=w.heap.size+1:=by rw [hw1,World.size_alloc]
 have hv1:w1.heap[w.heap.size]?=some (.cells #[.int .u8 0,.slice none 0 0] 116 (0,0)):=by rw [hw1];exact heap_alloc_new _ _
 obtain ⟨w2,hm,hown2,hb2⟩:=make_own n (by omega) w1
 obtain ⟨g,hg⟩:∃ g,w1.heap.size=g:=⟨_,rfl⟩
 rw [hg] at hm hown2 hb2
 rw [hw1] at hm
 have HV:=hI ((hb2.block w.heap.size (by omega)).trans hv1)
 have B2:=hI (hb0.trans (hb2.mono (by omega)))
 have HG:=hI (show g=w.heap.size+1 by omega)
 have HN:=hI hn
 clear hb0 hs1 hv1 hb2 hg hw1
 go_enter Tryz.func128,Tryz.ntmps128
 go_wp2_with fail
 go_loopw [15] (fun i wr=>∃ k:Nat,k≤n∧i=.int .i64 k∧wr.ownsRow g 5 1 (.slice (some ⟨g,0,none⟩) n n) n (bvs (filB v n k))∧Offs (fun j=>j=g) w2 wr) (fun i _=>n - (intOf i).toNat)
 case atStart=>exact ⟨0,Nat.zero_le _,rfl,by rw [fil_zero];exact hown2,Offs.refl _ _⟩
 case round =>
  obtain ⟨k,hk,rfl,hown,hoff⟩:=hrel
  by_cases hlt:k<n
  ·have j1:(0:Int)≤k:=by omega
   have j2:(k:Int)<n:=by omega
   have hc0:=hown.cellAt (n - 1 - k) (by omega)
   have hf0:=hown.frozenAt (n - 1 - k)
   obtain ⟨y,hy⟩:∃ y,(filB v n k)[n - 1 - k]?=some y:=⟨_,List.getElem?_eq_getElem (by rw [fil_len v n k hk];omega)⟩
   rw [bvs_get _ _ _ hy] at hc0
   have hst:=hown.stored (n - 1 - k) (.int .u8 ((v / 256 ^ k % 256:Nat):Int))
   rw [bvs_setV,fil_set v n k hlt,num_oct] at hst
   have HS:=hI hst.1
   have HO:=hI hoff
   clear hst hy hown hoff hown2
   go_wp2_with fail
   go_roundw
   case rel=>exact ⟨k+1,by omega,by go_num,HS.out,HO.out.trans (Offs.set (X:=fun j=>j=g) wr g (n - 1 - k) _ rfl) (fun _ h=>h) (fun _ _ h=>h)⟩
   case measure=>simp [intOf];omega
  ·have he:k=n:=by omega
   subst he
   rw [fil_all] at hown
   have hv2:=(hoff.block w.heap.size (by have:=B2.out.size;have:=(Array.getElem?_eq_some_iff.1 HV.out).1;omega) (by rw [HG.out];omega)).trans HV.out
   have HV2:=hI hv2
   have q1:wr.cell? ⟨w.heap.size,0,none⟩=some (.int .u8 0):=by rw [cell_of_row wr _ 0 _ _ _ hv2];rfl
   have q2:wr.cell? ⟨w.heap.size,1,none⟩=some (.slice none 0 0):=by rw [cell_of_row wr _ 1 _ _ _ hv2];rfl
   have q3:=frozen_of_row wr _ 0 _ _ hv2
   have q4:=frozen_of_row wr _ 1 _ _ hv2
   have B3:=hI (B2.out.trans (hoff.below (X:=fun j=>j=g) (B:=w.heap.size) (fun j hj e=>by rw [HG.out] at e;omega) B2.out.size))
   have HO:=hI hown
   clear hv2 hown hoff hown2
   go_wp2_with fail
   refine bodyPost_ret (v:=.agg #[.int .u8 (t:Int),.slice (some ⟨g,0,none⟩) k k]) ?_ rfl ⟨_,_,rfl,?_,?_⟩
   ·exact results_cell_row rfl _ _ w.heap.size 116 #[.int .u8 (t:Int),.slice (some ⟨g,0,none⟩) k k] _ _ rfl (heap_setCell_same _ _ 1 _ _ _ (heap_setCell_same _ _ 0 _ _ _ HV2.out)) Tryz.underlying116 rfl (by kernel_rfl)
   ·have ho:=Offs.trans (Offs.set (X:=fun i=>i=w.heap.size) wr w.heap.size 0 (.int .u8 (t:Int)) rfl) (Offs.set (X:=fun i=>i=w.heap.size) _ w.heap.size 1 (.slice (some ⟨g,0,none⟩) k k) rfl) (Z:=fun i=>i=w.heap.size) (fun _ h=>h) (fun _ _ h=>h)
    exact own_lo (own_off HO.out ho (fun i hi e=>by have:=(HO.out.lt i hi).1;have:=HG.out;omega)) (by have:=HG.out;omega)
   ·exact (B3.out.setCell (p:=⟨w.heap.size,0,none⟩) (Nat.le_refl _) _).setCell (p:=⟨w.heap.size,1,none⟩) (Nat.le_refl _) _
end
section
open Go.RowKit
def putO (p:Nat) (l:List (Nat × List Nat)):List Nat × Nat:=if okL (tabB p) l then (putB l,0) else ([],4)
def getO (p:Nat) (b:List Nat):List (Nat × List Nat) × Nat:=if (getB b).2=0 then (if okL (tabB p) (getB b).1 then ((getB b).1,0) else ([],4)) else ([],(getB b).2)
theorem okL_short {p:Nat} {l:List (Nat × List Nat)} (h:okL (tabB p) l=true):longB l=false:=by
 unfold longB
 rw [Bool.eq_false_iff]
 intro hl
 obtain ⟨o,ho,hlo⟩:=List.any_eq_true.1 hl
 have h1:=(okO_yes (List.all_eq_true.1 h o ho)).2
 have h2:=(span_le p o.1).2
 simp at hlo
 omega
theorem pput_any (p:Nat) (l:List (Nat × List Nat)) (m:List Nat) (q:Nat) (hm:putO p l=(m,q)) (k:Nat) (hk:m.length=k) (n c:Nat) (A:Option Addr) (F:Nat→Prop) (w:World) (h:Rws shO F w A l) (ho:ByO l) (hl:l.length=n) (hn:n≤68719476736) (hd:datB l≤68719476736) :
  Calls Tryz.prog 120 #[.int .u16 (p:Int),.slice A n c] w fun e w'=>∃ A' c',e=.returned (.tuple #[.slice A' k c',.int .i64 (q:Int)])∧Rd w' w'.heap.size A' m∧k≤c'∧Below w.heap.size w w':=by
 have B:=hI (Below.refl w.heap.size w)
 have HR:=hI h
 have HL:=hI hl
 have HO:=hI ho
 clear h hl ho
 cases hq:okL (tabB p) l
 ·have HQ:=hI hq
  rw [putO,hq,if_neg (by decide)] at hm
  obtain ⟨rfl,rfl⟩:=Prod.mk.inj hm
  obtain rfl:0=k:=hk
  clear hm hq hd
  go_enter Tryz.func120,Tryz.ntmps120
  go_wp2_with (first
  | (go_at_call 118;(with_reducible refine (wrong_any p _).mono ?_);rintro e wn ⟨g,rfl,hw,hb⟩;replace B:=hI (B.out.trans (hb.mono B.out.size));have V:=hI hw;clear hw hb)
  | (go_at_call 117;(with_reducible refine (any_wrong _ l n c A F g _ (HR.out.below B.out) HO.out HL.out (by omega) V.out _ HQ.out).mono ?_);rintro e wn ⟨rfl,hb⟩;replace B:=hI (B.out.trans (hb.mono B.out.size));clear hb))
  go_ret2
  exact ⟨none,0,rfl,Rd.nil,Nat.le_refl _,B.out⟩
 ·have HQ:=hI hq
  have EP:=hI (errP_ok (okL_short hq))
  rw [putO,hq,if_pos rfl] at hm
  obtain ⟨rfl,rfl⟩:=Prod.mk.inj hm
  have HK:=hI hk
  have HD:=hI hd
  clear hm hq hk hd
  go_enter Tryz.func120,Tryz.ntmps120
  go_wp2_with (first
  | (go_at_call 118;(with_reducible refine (wrong_any p _).mono ?_);rintro e wn ⟨g,rfl,hw,hb⟩;replace B:=hI (B.out.trans (hb.mono B.out.size));have V:=hI hw;clear hw hb)
  | (go_at_call 117;(with_reducible refine (any_wrong _ l n c A F g _ (HR.out.below B.out) HO.out HL.out (by omega) V.out _ HQ.out).mono ?_);rintro e wn ⟨rfl,hb⟩;replace B:=hI (B.out.trans (hb.mono B.out.size));clear hb)
  | (go_at_call 127;(with_reducible refine (oput_v l _ EP.out.1 _ EP.out.2 _ HK.out n c A F _ (HR.out.below B.out) HL.out (by omega) HD.out).mono ?_);rintro e wn ⟨A5,c5,rfl,h5,h5c,hb⟩;replace B:=hI (B.out.trans (hb.mono B.out.size));have X:=hI h5;clear h5 hb))
  go_ret2
  exact ⟨_,_,rfl,X.out,h5c,B.out⟩
theorem prput_any (p:Nat) (l:List (Nat × List Nat)) (m:List Nat) (q:Nat) (hm:putO p l=(m,q)) (k:Nat) (hk:m.length=k) (n c:Nat) (A:Option Addr) (F:Nat→Prop) (w:World) (h:Rws shO F w A l) (hl:l.length=n) (hn:n≤68719476736) (hd:datB l≤68719476736) :
  Calls Tryz.prog 67 #[.int .i64 (p:Int),.slice A n c] w fun e w'=>∃ A' c',e=.returned (.tuple #[.slice A' k c',.int .i64 (q:Int)])∧Rd w' w'.heap.size A' m∧k≤c'∧Below w.heap.size w w':=by
 have B:=hI (Below.refl w.heap.size w)
 have HR:=hI h
 have HL:=hI hl
 clear h hl
 cases hq:okL (tabB p) l
 ·have HQ:=hI hq
  rw [putO,hq,if_neg (by decide)] at hm
  obtain ⟨rfl,rfl⟩:=Prod.mk.inj hm
  obtain rfl:0=k:=hk
  clear hm hq hd
  go_enter Tryz.func67,Tryz.ntmps67
  go_wp2_with (first
  | (go_at_call 82;(with_reducible refine (orright_any p l n c A F _ (HR.out.below B.out) HL.out (by omega) _ HQ.out).mono ?_);rintro e wn ⟨rfl,hb⟩;replace B:=hI (B.out.trans (hb.mono B.out.size));clear hb))
  go_ret2
  exact ⟨none,0,rfl,Rd.nil,Nat.le_refl _,B.out⟩
 ·have HQ:=hI hq
  have EP:=hI (errP_ok (okL_short hq))
  rw [putO,hq,if_pos rfl] at hm
  obtain ⟨rfl,rfl⟩:=Prod.mk.inj hm
  have HK:=hI hk
  have HD:=hI hd
  clear hm hq hk hd
  go_enter Tryz.func67,Tryz.ntmps67
  go_wp2_with (first
  | (go_at_call 82;(with_reducible refine (orright_any p l n c A F _ (HR.out.below B.out) HL.out (by omega) _ HQ.out).mono ?_);rintro e wn ⟨rfl,hb⟩;replace B:=hI (B.out.trans (hb.mono B.out.size));clear hb)
  | (go_at_call 83;(with_reducible refine (orput_v l _ EP.out.1 _ EP.out.2 _ HK.out n c A F _ (HR.out.below B.out) HL.out (by omega) HD.out).mono ?_);rintro e wn ⟨A5,c5,rfl,h5,h5c,hb⟩;replace B:=hI (B.out.trans (hb.mono B.out.size));have X:=hI h5;clear h5 hb))
  go_ret2
  exact ⟨_,_,rfl,X.out,h5c,B.out⟩
end
section
open Go.RowKit
theorem RdF.cutAt {F:Nat→Prop} {w:World} {b o:Nat} {l:List Nat} (h:RdF F w (some ⟨b,o,none⟩) l) {f c:Nat} (hc:l.length≤c):RdF F w (if c=f then some ⟨b,o,none⟩ else some ⟨b,o+f,none⟩) (l.drop f):=by
 intro hl
 rw [List.length_drop] at hl
 rw [if_neg (by omega)]
 obtain ⟨b',off,e,hb,hF,hcell⟩:=h (by omega)
 injection e with e
 injection e with e1 e2
 subst e1;subst e2
 exact ⟨b,o+f,rfl,hb,hF,fun k x hx=>by rw [Nat.add_assoc];exact hcell (f+k) x (by rw [←List.getElem?_drop];exact hx)⟩
theorem RdF.take {F:Nat→Prop} {w:World} {A:Option Addr} {l:List Nat} (h:RdF F w A l) (k:Nat):RdF F w A (l.take k):=by
 intro hl
 rw [List.length_take] at hl
 obtain ⟨b,off,e,hb,hF,hc⟩:=h (by omega)
 refine ⟨b,off,e,hb,hF,fun j x hx=>hc j x ?_⟩
 rw [List.getElem?_take] at hx
 split at hx
 ·exact hx
 ·cases hx
theorem orgetF_any (b:List Nat) (n c:Nat) (A:Option Addr) (w:World) (h:Rd w w.heap.size A b) (hb:By b) (hl:b.length=n) (hn:n≤1073741824) (hc:n≤c) (F:Nat→Prop) (hF:RdF F w A b) (hFn:∀ g,w.heap.size≤g→F g) :
  Calls Tryz.prog 85 #[.slice A n c] w (GetO 108 F b w):=by
 obtain ⟨i0,hi,hz0,hz1,hz2⟩:=info_parts ropt_info
 have H:=hI h
 have HB:=hI hb
 have HL:=hI hl
 have HF:=hI (hF.mono (G:=fun g=>F g∧g<w.heap.size) (fun b hb h=>⟨h,hb⟩))
 have HFN:=hI hFn
 clear h hb hl hF hFn
 go_enter Tryz.func85,Tryz.ntmps85
 go_wp2_with fail
 go_loopw [4,5] (fun v i wr=>∃ (k:Nat) (acc:List (Nat × List Nat)),i=.int .i64 k∧k≤n∧2*acc.length≤k∧Hid (getB b=addB acc (getB (b.drop k)))∧Orw shO 108 F w.heap.size wr v acc∧Below w.heap.size w wr) (fun _ i _=>n - (intOf i).toNat)
 case atStart=>exact ⟨0,[],rfl,Nat.zero_le _,Nat.le_refl _,hI (add_nil _ (get_err b)).symm,Orw.lit w [] rfl (fun k x cs hx=>by simp at hx) (by simp),(Below.refl _ _).alloc (Nat.le_refl _) _⟩
 case round =>
  obtain ⟨k,acc,rfl,hkn,hacc,hg,hown,hbel⟩:=hrel
  by_cases hlt:k<n
  ·have HNE:=hI (show b.drop k≠[] from fun e=>by have h1:=congrArg List.length e;rw [List.length_drop,HL.out] at h1;simp at h1;omega)
   have HD:=hI (show (b.drop k).length=n - k by rw [List.length_drop,HL.out])
   obtain ⟨bb,oo,x0,rfl,hbb,hx0,hcx⟩:=H.out.at_ (k:=k) (by rw [HL.out];exact hlt)
   have HX0:=hI (show (b.drop k).headD 0=x0 by rw [List.headD_eq_head?_getD,List.head?_drop,hx0];rfl)
   have i1:(0:Int)≤k:=by omega
   have i2:(k:Int)<n:=by omega
   clear hx0
   by_cases h1:k+1<n
   ·obtain ⟨bb',oo',e,e1,-,he,hce⟩:=H.out.at_ (k:=k+1) (by rw [HL.out];exact h1)
    injection e1 with e1
    injection e1 with e1 e2
    subst e1;subst e2
    have HE:=hI (show (b.drop k)[1]?=some e by rw [List.getElem?_drop];exact he)
    have he256:=HB.out.get he
    have HS:=hI (step_two HE.out HD.out)
    obtain ⟨k1,hk1⟩:∃ k1,k+1=k1:=⟨_,rfl⟩
    have hce':=(hbel.cell (p:=⟨bb,oo+(k+1),none⟩) hbb).trans hce
    rw [hk1] at hce'
    have i3:(k:Int)+1=(k1:Int):=by omega
    have i4:IntKind.i64.wrap (k1:Int)=(k1:Int):=IntWalk.i64_in _ (by omega)
    have i5:¬ (n:Int)≤(k1:Int):=by omega
    have i6:(k1:Int)<(n:Int):=by omega
    have i7:(0:Int)≤(k1:Int):=by omega
    clear he hce
    by_cases h2:e<2
    ·have j1:(e:Int)<2:=by omega
     have G:=hI (show ∀ w':World,Below w.heap.size w w'→GetO 108 F b w (.returned (.tuple #[.slice none 0 0,.int .i64 (4:Int)])) w' from fun w' hb'=>by
      have hs:stepB (b.drop k)=(0,4):=by rw [HS.out,if_pos h2]
      have:=getO_bad (T:=108) (F:=F) hg.out HNE.out (by rw [hs];decide) hb'
      rw [hs] at this
      exact this)
     clear h2
     go_wp2_with fail
     go_ret2
     exact G.out _ hbel
    ·have j1:¬ (e:Int)<2:=by omega
     obtain ⟨k3,hk3⟩:∃ k3,k+e=k3:=⟨_,rfl⟩
     have i8:(k:Int)+(e:Int)=(k3:Int):=by omega
     have i9:IntKind.i64.wrap (k3:Int)=(k3:Int):=IntWalk.i64_in _ (by omega)
     by_cases h3:n<k3
     ·have j2:(n:Int)<(k3:Int):=by omega
      have G:=hI (show ∀ w':World,Below w.heap.size w w'→GetO 108 F b w (.returned (.tuple #[.slice none 0 0,.int .i64 (2:Int)])) w' from fun w' hb'=>by
       have hs:stepB (b.drop k)=(0,2):=by rw [HS.out,if_neg h2,if_pos (by omega)]
       have:=getO_bad (T:=108) (F:=F) hg.out HNE.out (by rw [hs];decide) hb'
       rw [hs] at this
       exact this)
      clear h2 h3
      go_wp2_with fail
      go_ret2
      exact G.out _ hbel
     ·have j2:¬ (n:Int)<(k3:Int):=by omega
      have hs:stepB (b.drop k)=(e,0):=by rw [HS.out,if_neg h2,if_neg (by omega)]
      obtain ⟨k2,hk2⟩:∃ k2,k+2=k2:=⟨_,rfl⟩
      have j3:(k:Int)+2=(k2:Int):=by omega
      have j4:IntKind.i64.wrap (k2:Int)=(k2:Int):=IntWalk.i64_in _ (by omega)
      have j5:(0:Int)≤(k2:Int):=by omega
      have j6:(k2:Int)≤(k3:Int):=by omega
      have j7:(k3:Int)≤(c:Int):=by omega
      have hk32:k3 - k2=e - 2:=by omega
      have HC:=hI (cut_eq b k e k2 (e - 2) hk2 rfl)
      have HG2:=hI (show getB b=addB (acc ++ [(x0,((b.drop k).take e).drop 2)]) (getB (b.drop k3)) by rw [hg.out,get_ok (by rw [hs]),hs,HX0.out,add_add,List.drop_drop,hk3])
      have HRD:=hI (show RdF (fun g=>F g∧g<w.heap.size) w (if c=k2 then some ⟨bb,oo,none⟩ else some ⟨bb,oo+k2,none⟩) (((b.drop k).take e).drop 2) by rw [HC.out];exact (RdF.cutAt HF.out (by rw [HL.out];exact hc)).take _)
      have HLN:=hI (show (((b.drop k).take e).drop 2).length=e - 2 by rw [HC.out,List.length_take,List.length_drop,HL.out];omega)
      have C:=hI (show GC 108 F w wr ⟨bb,oo+k,none⟩ x0 _ acc from ⟨hown,hbel,hbb,hcx⟩)
      have f0:=C.out.cell
      have hacc2:2*(acc ++ [(x0,((b.drop k).take e).drop 2)]).length≤k3:=by rw [List.length_append];simp;omega
      clear hown hcx hs
      go_wp2_with fail
      go_region_held3 (fun W=>W.cell? ⟨bb,oo+k,none⟩=some (.int .u8 (x0:Int))) (first | exact C.out.cell | exact (C.out.drew.al _).cell) (first
       | ((refine step_rows shO _ (by rfl) _ _ _ (by rfl) 108 i0 (.agg #[.int .u8 0,.slice none 0 0]) 32 Tryz.underlying24 hi hz0 hz1 hz2 rfl (by decide) F _ w.heap.size _ _ acc (by rfl) (C.out.drew.al _).own rfl _ 1 1 _ (by rfl) (lito _ HLN.out (by omega) (HRD.out.keep (.of_below C.out.drew.bel))).read rfl (fun b _ hb=>⟨hb.elim (fun h=>h.1) (fun h=>HFN.out b (C.out.drew.far b h).1),hb.elim (fun h e=>absurd (C.out.own.lt e).1 (Nat.not_le.2 h.2)) (fun h=>(C.out.drew.far b h).2)⟩) (by unfold maxLen;omega) (by omega) (C.out.drew.al _).bel.size ?_);intro v7 w7 ho7 hg7 hm7;replace C:=hI ((C.out.drew.al _).push ho7 hg7);clear ho7 hg7 hm7;dsimp only))
      clear f0 HRD
      generalize (if c=k2 then some (⟨bb,oo,none⟩:Addr) else some ⟨bb,oo+k2,none⟩)=A'
      go_wp2_with fail
      go_roundw
      case rel=>exact ⟨k3,_,rfl,by omega,hacc2,HG2,C.out.own,C.out.bel⟩
      case measure=>simp [intOf];omega
   ·have h2:n=k+1:=by omega
    have i3:(k:Int)+1=(n:Int):=by omega
    have i4:IntKind.i64.wrap (n:Int)=(n:Int):=IntWalk.i64_in _ (by omega)
    have G:=hI (show ∀ w':World,Below w.heap.size w w'→GetO 108 F b w (.returned (.tuple #[.slice none 0 0,.int .i64 (2:Int)])) w' from fun w' hb'=>by
     have hs:stepB (b.drop k)=(0,2):=step_one (by rw [HD.out];omega)
     have:=getO_bad (T:=108) (F:=F) hg.out HNE.out (by rw [hs];decide) hb'
     rw [hs] at this
     exact this)
    clear h2 h1
    go_wp2_with fail
    go_ret2
    exact G.out _ hbel
  ·have hr0:b.drop k=[]:=List.eq_nil_of_length_eq_zero (by rw [List.length_drop,HL.out];omega)
   have HG0:=hI (show getB b=addB acc (getB []) by rw [hg.out,hr0])
   clear hr0
   go_wp2_with fail
   go_ret2
   exact getO_end HG0.out hown hbel
theorem orgetF_v (b:List Nat) (l:List (Nat × List Nat)) (k:Nat) (hg:getB b=(l,k)) (n c:Nat) (A:Option Addr) (w:World) (h:Rd w w.heap.size A b) (hb:By b) (hl:b.length=n) (hn:n≤1073741824) (hc:n≤c) (F:Nat→Prop) (hF:RdF F w A b) (hFn:∀ g,w.heap.size≤g→F g) :
  Calls Tryz.prog 85 #[.slice A n c] w fun e w'=>∃ A' c',e=.returned (.tuple #[.slice A' l.length c',.int .i64 (k:Int)])∧Rws shO F w' A' l∧Below w.heap.size w w' :=
 (orgetF_any b n c A w h hb hl hn hc F hF hFn).mono fun _ _ ⟨v,h1,h2,h3⟩=>by
  rw [hg] at h1 h2
  obtain ⟨A',c',rfl,_,_,hr⟩:=h2.slice
  exact ⟨A',c',h1,hr.mono (fun b _ hb=>hb.elim id (hFn b)),h3⟩
theorem pgetN_any (p:Nat) (b:List Nat) (m:List (Nat × List Nat)) (q:Nat) (hm:getO p b=(m,q)) (k:Nat) (hk:m.length=k) (nb c:Nat) (A:Option Addr) (w:World) (h:Rd w w.heap.size A b) (hb:By b) (hl:b.length=nb) (hn:nb≤1073741824) (hc:nb≤c) :
  Calls Tryz.prog 109 #[.int .u16 (p:Int),.slice A nb c] w fun e w'=>∃ A' c',e=.returned (.tuple #[.slice A' k c',.int .i64 (q:Int)])∧Rws shO (fun b=>w.heap.size≤b) w' A' m∧Below w.heap.size w w':=by
 have B:=hI (Below.refl w.heap.size w)
 have HR:=hI h
 have HL:=hI hl
 have HB:=hI hb
 obtain ⟨l,e,hg⟩:∃ l e,getB b=(l,e):=⟨_,_,rfl⟩
 have HG:=hI hg
 obtain ⟨n,hn2⟩:∃ n,l.length=n:=⟨_,rfl⟩
 have HN:=hI hn2
 have hlen:=get_len b hb
 rw [hg] at hlen
 dsimp only at hlen
 have hn3:n≤1073741824:=by omega
 clear h hl hb hlen
 by_cases he:e=0
 ·subst he
  have HO:=hI (show ByO l by have:=(put_get b HB.out (by rw [hg])).2.2;rw [hg] at this;exact this)
  cases hq:okL (tabB p) l
  ·have HQ:=hI hq
   rw [getO,hg] at hm
   dsimp only at hm
   rw [if_pos rfl,hq,if_neg (by decide)] at hm
   obtain ⟨rfl,rfl⟩:=Prod.mk.inj hm
   obtain rfl:0=k:=hk
   clear hm hq hg hn2
   go_enter Tryz.func109,Tryz.ntmps109
   go_wp2_with (first
   | (go_at_call 116;(with_reducible refine (oget_v b l _ HG.out nb c A _ (HR.out.on B.out) HB.out HL.out (by omega) hc).mono ?_);rintro e wn ⟨A7,c7,rfl,h7,hb⟩;replace B:=hI (B.out.trans (hb.mono B.out.size));have Y:=hI (h7.read.mono (G:=fun b=>w.heap.size≤b) (fun _ _ hb=>hb.elim id id));rw [HN.out];clear h7 hb)
   | (go_at_call 118;(with_reducible refine (wrong_any p _).mono ?_);rintro e wn ⟨g,rfl,hw,hb⟩;replace B:=hI (B.out.trans (hb.mono B.out.size));replace Y:=hI (Y.out.below hb);have V:=hI hw;clear hw hb)
   | (go_at_call 117;(with_reducible refine (any_wrong _ l n c7 A7 _ g _ Y.out HO.out HN.out (by omega) V.out _ HQ.out).mono ?_);rintro e wn ⟨rfl,hb⟩;replace B:=hI (B.out.trans (hb.mono B.out.size));replace Y:=hI (Y.out.below hb);clear hb))
   go_ret2
   exact ⟨none,0,rfl,Rws.nilO,B.out⟩
  ·have HQ:=hI hq
   rw [getO,hg] at hm
   dsimp only at hm
   rw [if_pos rfl,hq,if_pos rfl] at hm
   obtain ⟨rfl,rfl⟩:=Prod.mk.inj hm
   obtain rfl:n=k:=hn2.symm.trans hk
   clear hm hq hk hg hn2
   go_enter Tryz.func109,Tryz.ntmps109
   go_wp2_with (first
   | (go_at_call 116;(with_reducible refine (oget_v b l _ HG.out nb c A _ (HR.out.on B.out) HB.out HL.out (by omega) hc).mono ?_);rintro e wn ⟨A7,c7,rfl,h7,hb⟩;replace B:=hI (B.out.trans (hb.mono B.out.size));have Y:=hI (h7.read.mono (G:=fun b=>w.heap.size≤b) (fun _ _ hb=>hb.elim id id));rw [HN.out];clear h7 hb)
   | (go_at_call 118;(with_reducible refine (wrong_any p _).mono ?_);rintro e wn ⟨g,rfl,hw,hb⟩;replace B:=hI (B.out.trans (hb.mono B.out.size));replace Y:=hI (Y.out.below hb);have V:=hI hw;clear hw hb)
   | (go_at_call 117;(with_reducible refine (any_wrong _ l n c7 A7 _ g _ Y.out HO.out HN.out (by omega) V.out _ HQ.out).mono ?_);rintro e wn ⟨rfl,hb⟩;replace B:=hI (B.out.trans (hb.mono B.out.size));replace Y:=hI (Y.out.below hb);clear hb))
   go_ret2
   exact ⟨A7,c7,rfl,Y.out,B.out⟩
 ·have i1:((e:Int) != 0)=true:=by rw [bne_iff_ne];omega
  rw [getO,hg] at hm
  dsimp only at hm
  rw [if_neg he] at hm
  obtain ⟨rfl,rfl⟩:=Prod.mk.inj hm
  obtain rfl:0=k:=hk
  clear hm he hg hn2
  go_enter Tryz.func109,Tryz.ntmps109
  go_wp2_with (first
  | (go_at_call 116;(with_reducible refine (oget_v b l _ HG.out nb c A _ (HR.out.on B.out) HB.out HL.out (by omega) hc).mono ?_);rintro e wn ⟨A7,c7,rfl,h7,hb⟩;replace B:=hI (B.out.trans (hb.mono B.out.size));have Y:=hI (h7.read.mono (G:=fun b=>w.heap.size≤b) (fun _ _ hb=>hb.elim id id));rw [HN.out];clear h7 hb))
  go_ret2
  exact ⟨none,0,rfl,Rws.nilO,B.out⟩
theorem prgetF_any (p:Nat) (b:List Nat) (m:List (Nat × List Nat)) (q:Nat) (hm:getO p b=(m,q)) (k:Nat) (hk:m.length=k) (nb c:Nat) (A:Option Addr) (w:World) (h:Rd w w.heap.size A b) (hb:By b) (hl:b.length=nb) (hn:nb≤1073741824) (hc:nb≤c) (F:Nat→Prop) (hF:RdF F w A b) (hFn:∀ g,w.heap.size≤g→F g) :
  Calls Tryz.prog 72 #[.int .i64 (p:Int),.slice A nb c] w fun e w'=>∃ A' c',e=.returned (.tuple #[.slice A' k c',.int .i64 (q:Int)])∧Rws shO F w' A' m∧Below w.heap.size w w':=by
 have B:=hI (Below.refl w.heap.size w)
 have HR:=hI h
 have HL:=hI hl
 have HB:=hI hb
 have HF:=hI hF
 have HFN:=hI hFn
 obtain ⟨l,e,hg⟩:∃ l e,getB b=(l,e):=⟨_,_,rfl⟩
 have HG:=hI hg
 obtain ⟨n,hn2⟩:∃ n,l.length=n:=⟨_,rfl⟩
 have HN:=hI hn2
 have hlen:=get_len b hb
 rw [hg] at hlen
 dsimp only at hlen
 have hn3:n≤1073741824:=by omega
 clear h hl hb hlen hF hFn
 by_cases he:e=0
 ·subst he
  have HO:=hI (show ByO l by have:=(put_get b HB.out (by rw [hg])).2.2;rw [hg] at this;exact this)
  cases hq:okL (tabB p) l
  ·have HQ:=hI hq
   rw [getO,hg] at hm
   dsimp only at hm
   rw [if_pos rfl,hq,if_neg (by decide)] at hm
   obtain ⟨rfl,rfl⟩:=Prod.mk.inj hm
   obtain rfl:0=k:=hk
   clear hm hq hg hn2 HO
   go_enter Tryz.func72,Tryz.ntmps72
   go_wp2_with (first
   | (go_at_call 85;(with_reducible refine (orgetF_v b l _ HG.out nb c A _ HR.out HB.out HL.out (by omega) hc F HF.out HFN.out).mono ?_);rintro e wn ⟨A7,c7,rfl,h7,hb⟩;replace B:=hI (B.out.trans (hb.mono B.out.size));have Y:=hI h7;rw [HN.out];clear h7 hb)
   | (go_at_call 82;(with_reducible refine (orright_any p l n c7 A7 _ _ Y.out HN.out (by omega) _ HQ.out).mono ?_);rintro e wn ⟨rfl,hb⟩;replace B:=hI (B.out.trans (hb.mono B.out.size));replace Y:=hI (Y.out.below hb);clear hb))
   go_ret2
   exact ⟨none,0,rfl,Rws.nilO,B.out⟩
  ·have HQ:=hI hq
   rw [getO,hg] at hm
   dsimp only at hm
   rw [if_pos rfl,hq,if_pos rfl] at hm
   obtain ⟨rfl,rfl⟩:=Prod.mk.inj hm
   obtain rfl:n=k:=hn2.symm.trans hk
   clear hm hq hk hg hn2 HO
   go_enter Tryz.func72,Tryz.ntmps72
   go_wp2_with (first
   | (go_at_call 85;(with_reducible refine (orgetF_v b l _ HG.out nb c A _ HR.out HB.out HL.out (by omega) hc F HF.out HFN.out).mono ?_);rintro e wn ⟨A7,c7,rfl,h7,hb⟩;replace B:=hI (B.out.trans (hb.mono B.out.size));have Y:=hI h7;rw [HN.out];clear h7 hb)
   | (go_at_call 82;(with_reducible refine (orright_any p l n c7 A7 _ _ Y.out HN.out (by omega) _ HQ.out).mono ?_);rintro e wn ⟨rfl,hb⟩;replace B:=hI (B.out.trans (hb.mono B.out.size));replace Y:=hI (Y.out.below hb);clear hb))
   go_ret2
   exact ⟨A7,c7,rfl,Y.out,B.out⟩
 ·have i1:((e:Int) != 0)=true:=by rw [bne_iff_ne];omega
  rw [getO,hg] at hm
  dsimp only at hm
  rw [if_neg he] at hm
  obtain ⟨rfl,rfl⟩:=Prod.mk.inj hm
  obtain rfl:0=k:=hk
  clear hm he hg hn2
  go_enter Tryz.func72,Tryz.ntmps72
  go_wp2_with (first
  | (go_at_call 85;(with_reducible refine (orgetF_v b l _ HG.out nb c A _ HR.out HB.out HL.out (by omega) hc F HF.out HFN.out).mono ?_);rintro e wn ⟨A7,c7,rfl,h7,hb⟩;replace B:=hI (B.out.trans (hb.mono B.out.size));have Y:=hI h7;rw [HN.out];clear h7 hb))
  go_ret2
  exact ⟨none,0,rfl,Rws.nilO,B.out⟩
theorem pgetN_lcp (b:List Nat) (m:List (Nat × List Nat)) (q:Nat) (hm:getO 49185 b=(m,q)) (k:Nat) (hk:m.length=k) (nb c:Nat) (A:Option Addr) (w:World) (h:Rd w w.heap.size A b) (hb:By b) (hl:b.length=nb) (hn:nb≤1073741824) (hc:nb≤c) :
  Calls Tryz.prog 109 #[.int .u16 49185,.slice A nb c] w fun e w'=>∃ A' c',e=.returned (.tuple #[.slice A' k c',.int .i64 (q:Int)])∧Rws shO (fun b=>w.heap.size≤b) w' A' m∧Below w.heap.size w w':=pgetN_any 49185 b m q hm k hk nb c A w h hb hl hn hc
theorem prgetF_lcp (b:List Nat) (m:List (Nat × List Nat)) (q:Nat) (hm:getO 49185 b=(m,q)) (k:Nat) (hk:m.length=k) (nb c:Nat) (A:Option Addr) (w:World) (h:Rd w w.heap.size A b) (hb:By b) (hl:b.length=nb) (hn:nb≤1073741824) (hc:nb≤c) (F:Nat→Prop) (hF:RdF F w A b) (hFn:∀ g,w.heap.size≤g→F g) :
  Calls Tryz.prog 72 #[.int .i64 49185,.slice A nb c] w fun e w'=>∃ A' c',e=.returned (.tuple #[.slice A' k c',.int .i64 (q:Int)])∧Rws shO F w' A' m∧Below w.heap.size w w':=prgetF_any 49185 b m q hm k hk nb c A w h hb hl hn hc F hF hFn
end
end Go.Proofs.YtmhjnghomihjlaaGreat
