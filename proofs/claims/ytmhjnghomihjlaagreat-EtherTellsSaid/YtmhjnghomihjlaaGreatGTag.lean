/-
  Lists of tags, as lists: how they are written, what octets begin with as tags, up to what ends a list; what is written is read so, and the other way round; a list cut off. Mathematics alone. Tags as e
-/
import Derived.Test.YtmhjnghomihjlaaGreatGWord
import Derived.BigQuiet
import Derived.ProofKit
import Derived.OpenShut
import Derived.Deep.Matrix
import Derived.Deep.Fields
import Derived.SizedLaws
import Derived.Test.YtmhjnghomihjlaaGreatGOps
namespace Go.Proofs.YtmhjnghomihjlaaGreat
set_option maxRecDepth 8000
set_option maxHeartbeats 80000000
set_option linter.unusedVariables false
section
def tgenc (o:Nat × List Nat):List Nat:=o.1 / 256 :: o.1 % 256 :: o.2.length / 256 :: o.2.length % 256 :: o.2
def tgput (l:List (Nat × List Nat)):List Nat:=l.flatMap tgenc
def tgerr:List (Nat × List Nat)→Nat
 | []=>0
 | o :: l=>if o.1=0 then 8 else if 65535<o.2.length then 3 else tgerr l
def tgdat (l:List (Nat × List Nat)):Nat:=(l.map fun o=>o.2.length).sum
def ByG (l:List (Nat × List Nat)):Prop:=∀ o ∈ l,o.1<65536∧By o.2
def tgtyp:List Nat→Nat
 | x :: y :: _=>x*256+y
 | _=>0
def tgstep:List Nat→Nat × Nat
 | x :: y :: z :: u :: t=>if t.length<z*256+u then (0,2) else if x*256+y=0∧0<z*256+u then (0,4) else (4+(z*256+u),0)
 | _=>(0,2)
def tgadd (acc:List (Nat × List Nat)) (k:Nat) (r:List (Nat × List Nat) × Nat × Nat):List (Nat × List Nat) × Nat × Nat:=if r.2.2=0 then (acc ++ r.1,k+r.2.1,0) else ([],0,r.2.2)
def tgF:Nat→List Nat→List (Nat × List Nat) × Nat × Nat
 | 0,_=>([],0,0)
 | n+1,b=>if b=[] then ([],0,0) else if (tgstep b).2=0 then (if tgtyp b=0 then ([],4,0) else tgadd [(tgtyp b,(b.take (tgstep b).1).drop 4)] (tgstep b).1 (tgF n (b.drop (tgstep b).1))) else ([],0,(tgstep b).2)
def tgget (b:List Nat):List (Nat × List Nat) × Nat × Nat:=tgF b.length b
theorem tgstep_ok {b:List Nat} (h:(tgstep b).2=0):∃ x y z u t,b=x :: y :: z :: u :: t∧(tgstep b).1=4+(z*256+u)∧z*256+u≤t.length∧(x*256+y=0→z=0∧u=0)∧tgtyp b=x*256+y:=by
 match b with
 | []=>simp [tgstep] at h
 | [_]=>simp [tgstep] at h
 | [_,_]=>simp [tgstep] at h
 | [_,_,_]=>simp [tgstep] at h
 | x :: y :: z :: u :: t =>
  simp only [tgstep] at h ⊢
  split at h
  ·simp at h
  ·rename_i h1
   split at h
   ·simp at h
   ·rename_i h2
    rw [if_neg h1,if_neg h2]
    exact ⟨x,y,z,u,t,rfl,rfl,by omega,fun e=>by omega,rfl⟩
theorem tgstep_le {b:List Nat} (h:(tgstep b).2=0):4≤(tgstep b).1∧(tgstep b).1≤b.length:=by
 obtain ⟨x,y,z,u,t,rfl,e,h1,-,-⟩:=tgstep_ok h
 rw [e]
 simp only [List.length_cons]
 omega
theorem tgF_more:∀ (n:Nat) (b:List Nat),b.length≤n→tgF n b=tgF b.length b
 | 0,b,h=>by rw [show b.length=0 by omega]
 | n+1,b,h=>by
  match b with
  | []=>rfl
  | x :: t =>
   show tgF (n+1) (x :: t)=tgF (t.length+1) (x :: t)
   by_cases hs:(tgstep (x :: t)).2=0
   ·have h2:=tgstep_le hs
    simp only [tgF,hs,if_true,reduceCtorEq,if_false]
    have e:((x :: t).drop (tgstep (x :: t)).1).length≤t.length:=by rw [List.length_drop,List.length_cons];omega
    have e2:t.length≤n:=by simpa using h
    rw [tgF_more n _ (Nat.le_trans e e2),← tgF_more t.length _ e]
   ·simp only [tgF,hs,reduceCtorEq,if_false]
termination_by n=>n
decreasing_by
 all_goals simp_all
 all_goals omega
theorem tgget_nil:tgget []=([],0,0):=rfl
theorem tgget_bad {b:List Nat} (hb:b≠[]) (h:(tgstep b).2≠0):tgget b=([],0,(tgstep b).2):=by
 match b,hb with
 | x :: t,_ =>
  show tgF (t.length+1) (x :: t)=_
  simp only [tgF,h,reduceCtorEq,if_false]
theorem tgget_end {b:List Nat} (h:(tgstep b).2=0) (h0:tgtyp b=0):tgget b=([],4,0):=by
 match b with
 | []=>simp [tgstep] at h
 | x :: t =>
  show tgF (t.length+1) (x :: t)=_
  simp only [tgF,h,h0,if_true,reduceCtorEq,if_false]
theorem tgget_ok {b:List Nat} (h:(tgstep b).2=0) (h0:tgtyp b≠0):tgget b=tgadd [(tgtyp b,(b.take (tgstep b).1).drop 4)] (tgstep b).1 (tgget (b.drop (tgstep b).1)):=by
 have h2:=tgstep_le h
 match b with
 | []=>simp [tgstep] at h
 | x :: t =>
  show tgF (t.length+1) (x :: t)=_
  simp only [tgF,h,h0,if_true,reduceCtorEq,if_false]
  rw [tgF_more t.length _ (by rw [List.length_drop,List.length_cons];omega)]
  rfl
theorem tgadd_add (a c:List (Nat × List Nat)) (j k:Nat) (r:List (Nat × List Nat) × Nat × Nat):tgadd a j (tgadd c k r)=tgadd (a ++ c) (j+k) r:=by
 unfold tgadd
 split
 ·rw [if_pos rfl]
  show (a ++ (c ++ r.1),j+(k+r.2.1),0)=_
  rw [List.append_assoc,Nat.add_assoc]
 ·rfl
theorem tgadd_nil (r:List (Nat × List Nat) × Nat × Nat) (h:r.2.2≠0→r.1=[]∧r.2.1=0):tgadd [] 0 r=r:=by
 obtain ⟨l,n,e⟩:=r
 unfold tgadd
 split
 ·rename_i h0
  dsimp only at h0
  rw [h0,Nat.zero_add]
  rfl
 ·rename_i h0
  obtain ⟨h1,h2⟩:=h h0
  dsimp only at h1 h2
  rw [h1,h2]
theorem tg_ind (C:List Nat→Prop) (h0:C []) (h1:∀ b,b≠[]→(tgstep b).2≠0→C b) (h3:∀ b,(tgstep b).2=0→tgtyp b=0→C b) (h2:∀ b,(tgstep b).2=0→tgtyp b≠0→C (b.drop (tgstep b).1)→C b):∀ b,C b:=by
 have key:∀ n (b:List Nat),b.length≤n→C b:=by
  intro n
  induction n with
  | zero=>intro b hb;obtain rfl:b=[]:=List.eq_nil_of_length_eq_zero (by omega);exact h0
  | succ n ih =>
   intro b hb
   by_cases hn:b=[]
   ·rw [hn];exact h0
   ·by_cases hs:(tgstep b).2=0
    ·have:=tgstep_le hs
     by_cases ht:tgtyp b=0
     ·exact h3 b hs ht
     ·exact h2 b hs ht (ih _ (by rw [List.length_drop];omega))
    ·exact h1 b hn hs
 exact fun b=>key _ b (Nat.le_refl _)
theorem tgget_err (b:List Nat):(tgget b).2.2≠0→(tgget b).1=[]∧(tgget b).2.1=0:=by
 refine tg_ind (fun b=>(tgget b).2.2≠0→(tgget b).1=[]∧(tgget b).2.1=0) (fun h=>absurd rfl h) (fun b hb hs _=>by rw [tgget_bad hb hs];exact ⟨rfl,rfl⟩) (fun b hs ht h=>by rw [tgget_end hs ht] at h;exact absurd rfl h) (fun b hs ht ih h=>?_) b
 rw [tgget_ok hs ht] at h ⊢
 unfold tgadd at h ⊢
 split at h
 ·simp at h
 ·rename_i h3;rw [if_neg h3];exact ⟨rfl,rfl⟩
theorem tgput_cons (o:Nat × List Nat) (l:List (Nat × List Nat)):tgput (o :: l)=tgenc o ++ tgput l:=rfl
theorem tgput_app (l m:List (Nat × List Nat)):tgput (l ++ m)=tgput l ++ tgput m:=by simp [tgput]
theorem tgenc_len (o:Nat × List Nat):(tgenc o).length=4+o.2.length:=by simp only [tgenc,List.length_cons];omega
theorem tgput_len (l:List (Nat × List Nat)):(tgput l).length=4*l.length+tgdat l:=by
 induction l with
 | nil=>rfl
 | cons o l ih =>
  rw [tgput_cons,List.length_append,ih,tgenc_len]
  simp only [List.length_cons,tgdat,List.map_cons,List.sum_cons]
  omega
theorem tgerr_cons {o:Nat × List Nat} {l:List (Nat × List Nat)}:tgerr (o :: l)=0 ↔ o.1≠0∧o.2.length≤65535∧tgerr l=0:=by
 simp only [tgerr]
 split
 ·rename_i h;simp [h]
 ·rename_i h
  split
  ·exact ⟨fun e=>absurd e (by decide),fun e=>absurd e.2.1 (by omega)⟩
  ·exact ⟨fun e=>⟨h,by omega,e⟩,fun e=>e.2.2⟩
theorem tgput_get (b:List Nat) (hb:By b) (h:(tgget b).2.2=0):tgput (tgget b).1=b.take (tgput (tgget b).1).length∧tgerr (tgget b).1=0∧ByG (tgget b).1∧(tgget b).2.1≤b.length ∧
  ((tgget b).2.1=(tgput (tgget b).1).length∧(tgget b).2.1=b.length∨(tgget b).2.1=(tgput (tgget b).1).length+4∧(b.take (tgget b).2.1).drop (tgput (tgget b).1).length=[0,0,0,0]):=by
 revert hb h
 refine tg_ind (fun b=>By b→(tgget b).2.2=0→tgput (tgget b).1=b.take (tgput (tgget b).1).length∧tgerr (tgget b).1=0∧ByG (tgget b).1∧(tgget b).2.1≤b.length ∧
  ((tgget b).2.1=(tgput (tgget b).1).length∧(tgget b).2.1=b.length∨(tgget b).2.1=(tgput (tgget b).1).length+4∧(b.take (tgget b).2.1).drop (tgput (tgget b).1).length=[0,0,0,0])) (fun _ _=>⟨rfl,rfl,fun _ h=>(List.not_mem_nil h).elim,Nat.le_refl _,.inl ⟨rfl,rfl⟩⟩) (fun b hn hs _ h=>?_) (fun b hs ht hb _=>?_) (fun b hs ht ih hb h=>?_) b
 ·rw [tgget_bad hn hs] at h
  exact absurd h hs
 ·rw [tgget_end hs ht]
  obtain ⟨x,y,z,u,t,rfl,-,-,h3,h4⟩:=tgstep_ok hs
  rw [h4] at ht
  obtain ⟨rfl,rfl⟩:=h3 ht
  obtain ⟨rfl,rfl⟩:x=0∧y=0:=by omega
  exact ⟨rfl,rfl,fun _ h=>(List.not_mem_nil h).elim,by simp only [List.length_cons];omega,.inr ⟨rfl,by simp [tgput]⟩⟩
 ·have hle:=tgstep_le hs
  have hr:(tgget (b.drop (tgstep b).1)).2.2=0:=by
   rw [tgget_ok hs ht] at h
   unfold tgadd at h
   split at h
   ·assumption
   ·exact h
  obtain ⟨i1,i2,i3,i4,i5⟩:=ih (hb.drop _) hr
  rw [tgget_ok hs ht]
  unfold tgadd
  rw [if_pos hr]
  generalize hg:tgget (b.drop (tgstep b).1)=g at *
  obtain ⟨x,y,z,u,t,rfl,e1,e2,e3,e4⟩:=tgstep_ok hs
  rw [e4] at ht
  rw [e1] at i1 i4 i5 hle ⊢
  rw [e4]
  have hx:x<256:=hb x (by simp)
  have hy:y<256:=hb y (by simp)
  have hz:z<256:=hb z (by simp)
  have hu:u<256:=hb u (by simp)
  have hd:(((x :: y :: z :: u :: t).take (4+(z*256+u))).drop 4)=t.take (z*256+u):=by
   rw [show 4+(z*256+u)=(z*256+u)+1+1+1+1 by omega]
   simp only [List.take_succ_cons,List.drop_succ_cons,List.drop_zero]
  have hdr:(x :: y :: z :: u :: t).drop (4+(z*256+u))=t.drop (z*256+u):=by
   rw [show 4+(z*256+u)=(z*256+u)+1+1+1+1 by omega]
   simp only [List.drop_succ_cons]
  have hlen:(t.take (z*256+u)).length=z*256+u:=by rw [List.length_take];omega
  rw [hd]
  rw [hdr] at i1 i4 i5
  have he:tgenc (x*256+y,t.take (z*256+u))=x :: y :: z :: u :: t.take (z*256+u):=by
   simp only [tgenc,hlen]
   rw [show (x*256+y) / 256=x by omega,show (x*256+y) % 256=y by omega,show (z*256+u) / 256=z by omega,show (z*256+u) % 256=u by omega]
  have hp:tgput ([(x*256+y,t.take (z*256+u))] ++ g.1)=x :: y :: z :: u :: (t.take (z*256+u) ++ tgput g.1):=by
   show tgenc (x*256+y,t.take (z*256+u)) ++ tgput g.1=_
   rw [he];rfl
  have hpl:(tgput ([(x*256+y,t.take (z*256+u))] ++ g.1)).length=(tgput g.1).length+(z*256+u)+1+1+1+1:=by
   rw [hp];simp only [List.length_cons,List.length_append,hlen];omega
  have hcut:∀ k,(x :: y :: z :: u :: t).take (k+(z*256+u)+1+1+1+1)=x :: y :: z :: u :: (t.take (z*256+u) ++ (t.drop (z*256+u)).take k):=by
   intro k
   simp only [List.take_succ_cons]
   rw [Nat.add_comm k,List.take_add]
  have hdl:(t.drop (z*256+u)).length=t.length - (z*256+u):=List.length_drop ..
  refine ⟨?_,?_,?_,?_,?_⟩
  ·rw [hpl,hcut,hp,← i1]
  ·exact tgerr_cons.2 ⟨ht,by rw [hlen];omega,i2⟩
  ·intro o ho
   rcases List.mem_cons.1 ho with rfl | ho
   ·exact ⟨by show x*256+y<65536;omega,fun a ha=>hb a (by simp [List.mem_of_mem_take ha])⟩
   ·exact i3 o ho
  ·show 4+(z*256+u)+g.2.1≤_
   simp only [List.length_cons]
   omega
  ·show (4+(z*256+u)+g.2.1=_∧4+(z*256+u)+g.2.1=_)∨4+(z*256+u)+g.2.1=_∧List.drop _ (List.take (4+(z*256+u)+g.2.1) _)=_
   rw [hpl]
   rcases i5 with ⟨j1,j2⟩ | ⟨j1,j2⟩
   ·exact .inl ⟨by omega,by simp only [List.length_cons];omega⟩
   ·refine .inr ⟨by omega,?_⟩
    rw [show 4+(z*256+u)+g.2.1=g.2.1+(z*256+u)+1+1+1+1 by omega,hcut]
    simp only [List.drop_succ_cons]
    rw [Nat.add_comm (tgput g.1).length,← List.drop_drop,List.drop_left' hlen]
    exact j2
theorem ByG.app {l m:List (Nat × List Nat)} (h:ByG l) (k:ByG m):ByG (l ++ m):=fun o ho=>(List.mem_append.1 ho).elim (h o) (k o)
theorem ByG.at_ {l:List (Nat × List Nat)} (h:ByG l) {k:Nat} {o:Nat × List Nat} (hk:l[k]?=some o):o.1<65536∧By o.2:=h o (List.mem_of_getElem? hk)
theorem tgdat_app (l m:List (Nat × List Nat)):tgdat (l ++ m)=tgdat l+tgdat m:=by simp [tgdat]
theorem tgdat_at {l:List (Nat × List Nat)} {k:Nat} {o:Nat × List Nat} (h:l[k]?=some o):tgdat (l.take (k+1))=tgdat (l.take k)+o.2.length:=by
 rw [List.take_add_one,h,Option.toList_some,tgdat_app];simp [tgdat]
theorem tgdat_take (l:List (Nat × List Nat)) (k:Nat):tgdat (l.take k)≤tgdat l:=by
 have e:tgdat l=tgdat (l.take k)+tgdat (l.drop k):=by rw [←tgdat_app,List.take_append_drop]
 omega
theorem tgput_at {l:List (Nat × List Nat)} {k:Nat} {o:Nat × List Nat} (h:l[k]?=some o):tgput (l.take (k+1))=tgput (l.take k) ++ tgenc o:=by
 rw [List.take_add_one,h,Option.toList_some,tgput_app];simp [tgput]
theorem tgerr_at {l:List (Nat × List Nat)} (k:Nat):tgerr (l.take k)≠0→tgerr l=tgerr (l.take k):=by
 induction l generalizing k with
 | nil=>intro h;rw [List.take_nil]
 | cons o l ih =>
  match k with
  | 0=>intro h;exact absurd rfl h
  | k+1 =>
   intro h
   rw [List.take_succ_cons] at h ⊢
   simp only [tgerr] at h ⊢
   split
   ·rfl
   ·rename_i h1
    rw [if_neg h1] at h
    split
    ·rfl
    ·rename_i h2
     rw [if_neg h2] at h
     exact ih k h
end
section
open Go.RowKit
def shG:Sh (Nat × List Nat) where
 sz:=2
 S F w x cs:=∃ A c,cs=[.int .u16 (x.1:Int),.slice A x.2.length c]∧x.2.length≤c∧RdF F w A x.2
 len:=by rintro _ _ _ _ ⟨A,c,rfl,_⟩;rfl
 one:=by rintro _ _ _ _ ⟨A,c,rfl,_⟩ u hu;simp at hu;rcases hu with rfl | rfl <;> rfl
 keep:=by rintro _ _ _ _ _ ⟨A,c,h1,h2,h3⟩ hk;exact ⟨A,c,h1,h2,h3.keep hk⟩
 mono:=by rintro _ _ _ _ _ ⟨A,c,h1,h2,h3⟩ hF;exact ⟨A,c,h1,h2,h3.mono hF⟩
theorem Rws.tag {F:Nat→Prop} {w:World} {A:Option Addr} {l:List (Nat × List Nat)} (h:Rws shG F w A l) {k:Nat} (hk:k<l.length) :
  ∃ b off o Ak ck,A=some ⟨b,off,none⟩∧b<w.heap.size∧l[k]?=some o∧w.cell? ⟨b,off+k*2,none⟩=some (.int .u16 (o.1:Int))∧w.cell? ⟨b,off+k*2+1,none⟩=some (.slice Ak o.2.length ck)∧o.2.length≤ck∧RdF F w Ak o.2:=by
 obtain ⟨b,off,o,cs,h1,h2,h3,⟨Ak,ck,rfl,h4,h5⟩,h6⟩:=h.at_ hk
 exact ⟨b,off,o,Ak,ck,h1,h2,h3,h6 0 _ rfl,h6 1 _ rfl,h4,h5⟩
theorem litg {F:Nat→Prop} (w:World) {T:TypeId} {A:Option Addr} {n c:Nat} {t:Nat} {l:List Nat} (hl:l.length=n) (hc:n≤c) (h:RdF F w A l) :
  Orw shG T F w.heap.size (w.alloc (.cells #[.int .u16 (t:Int),.slice A n c] T)) (.slice (some ⟨w.heap.size,0,none⟩) 1 1) [(t,l)]:=by
 subst hl
 refine Orw.lit w [[.int .u16 (t:Int),.slice A l.length c]] rfl (fun k x cs hx hk=>?_) (by simp)
 rcases k with _ | k
 ·injection hx with hx
  injection hk with hk
  subst hx;subst hk
  exact ⟨A,c,rfl,hc,h⟩
 ·simp at hx
theorem Rws.nilG {F:Nat→Prop} {w:World} {A:Option Addr}:Rws shG F w A []:=fun h=>absurd h (by simp)
end
section
open Go.RowKit
theorem tag_info:(Tryz.prog.info? 58).map (fun i=>(i.zero,i.size,i.bytes))=some (some (.agg #[.int .u16 0,.slice none 0 0]),2,32):=by kernel_rfl
theorem rtag_info:(Tryz.prog.info? 83).map (fun i=>(i.zero,i.size,i.bytes))=some (some (.agg #[.int .u16 0,.slice none 0 0]),2,32):=by kernel_rfl
end
section
open Go.RowKit
def tgfew (l:List (Nat × List Nat)):Bool:=decide (l.length≤60) && decide (tgdat l≤1000)
theorem tgfew_any (l:List (Nat × List Nat)) (n c:Nat) (A:Option Addr) (F:Nat→Prop) (w:World) (h:Rws shG F w A l) (hl:l.length=n) (hn:n≤140737488351232) (M:Nat) (hM:M≤140737488351232) (hd:∀ x ∈ l,x.2.length≤M) :
  Calls Tryz.prog 18 #[.slice A n c] w fun e w'=>e=.returned (.bool (tgfew l))∧Below w.heap.size w w':=by
 have HL:=hI hl
 have HD:=hI hd
 clear hl hd
 go_enter Tryz.func18,Tryz.ntmps18
 go_wp2_with fail
 go_loopw [3,8] (fun s i wr=>∃ (k:Nat) (z:Int),k≤n∧i=.int .i64 k∧s=.int .i64 z∧Hid (k≤60→z=(tgdat (l.take k):Int)∧tgdat (l.take k)≤k*M)∧Below w.heap.size w wr) (fun _ i _=>n - (intOf i).toNat)
 case atStart=>exact ⟨0,0,Nat.zero_le _,rfl,rfl,hI (fun _=>⟨rfl,by simp [tgdat]⟩),Below.refl _ _⟩
 case round =>
  obtain ⟨k,z,hk,rfl,rfl,hz,hbel⟩:=hrel
  by_cases hlt:k<n
  ·obtain ⟨b,o,x,A3,c3,rfl,hb3,hx,h3,h4,h5,h6⟩:=(h.below hbel).tag (k:=k) (by rw [HL.out];exact hlt)
   have hxl:=HD.out x (List.mem_of_getElem? hx)
   have HZ:=hI (show k+1≤60→wrap64 (z+(x.2.length:Int))=(tgdat (l.take (k+1)):Int)∧tgdat (l.take (k+1))≤(k+1)*M from fun hk60=>by
    obtain ⟨e1,e2⟩:=hz.out (by omega)
    rw [tgdat_at hx,e1]
    refine ⟨?_,by rw [Nat.add_mul];omega⟩
    have hkM:k*M≤60*M:=Nat.mul_le_mul_right _ (by omega)
    have e3:wrap64 ((tgdat (l.take k):Int)+(x.2.length:Int))=(tgdat (l.take k):Int)+(x.2.length:Int):=IntWalk.wrap64_in _ (by omega)
    rw [e3]
    omega)
   have R2:=hI (hbel.alloc hbel.size (.cells #[.int .u16 (x.1:Int),.slice A3 x.2.length c3] 83))
   have i1:(0:Int)≤k:=by omega
   have i2:(k:Int)<n:=by omega
   clear hx h6 hxl
   go_wp2_with fail
   go_roundw
   case rel=>exact ⟨k+1,_,by omega,by go_num,rfl,HZ,R2.out⟩
   case measure=>simp [intOf];omega
  ·have he:k=n:=by omega
   subst he
   by_cases c1:k≤60
   ·obtain ⟨e1,e2⟩:=hz.out c1
    rw [List.take_of_length_le (by rw [HL.out];exact Nat.le_refl _)] at e1
    have j1:(k:Int)≤60:=by omega
    by_cases c2:tgdat l≤1000
    ·have j2:z≤1000:=by omega
     have E:=hI (show tgfew l=true by unfold tgfew;rw [HL.out];simp [c1,c2])
     clear e1 e2 c1 c2
     go_wp2_with fail
     go_ret
     exact ⟨by rw [E.out];rfl,hbel⟩
    ·have j2:¬ z≤1000:=by omega
     have E:=hI (show tgfew l=false by unfold tgfew;simp [c2])
     clear e1 e2 c1 c2
     go_wp2_with fail
     go_ret
     exact ⟨by rw [E.out];rfl,hbel⟩
   ·have j1:¬ (k:Int)≤60:=by omega
    have E:=hI (show tgfew l=false by unfold tgfew;rw [HL.out];simp [c1])
    clear c1
    go_wp2_with fail
    go_ret
    exact ⟨by rw [E.out];rfl,hbel⟩
end
section
open Go.RowKit
theorem tgs_take {a b:List (Nat × List Nat)} {k:Nat} {x y:Nat × List Nat} (h:a.take k=b.take k) (hx:a[k]?=some x) (hy:b[k]?=some y) (he:x=y):a.take (k+1)=b.take (k+1):=by
 rw [List.take_add_one,List.take_add_one,h,hx,hy,he]
theorem tgs_ne {a b:List (Nat × List Nat)} {k:Nat} {x y:Nat × List Nat} (hx:a[k]?=some x) (hy:b[k]?=some y) (he:x≠y):a≠b:=fun e=>he (by rw [e,hy] at hx;exact (Option.some.inj hx).symm)
theorem tgsame_any (a b:List (Nat × List Nat)) (n m c d:Nat) (A B:Option Addr) (F G:Nat→Prop) (w:World) (ha:Rws shG F w A a) (hb:Rws shG G w B b) (hA:ByG a) (hB:ByG b) (hn:a.length=n) (hm:b.length=m) (hn1:n≤274877906944) :
  Calls Tryz.prog 34 #[.slice A n c,.slice B m d] w fun e w'=>e=.returned (.bool (decide (a=b)))∧Below w.heap.size w w':=by
 by_cases hl:n=m
 ·subst hl
  have hne:((n:Int) != (n:Int))=false:=by simp
  have HN:=hI hn
  have HM:=hI hm
  have HA:=hI hA
  have HB:=hI hB
  clear hn hm hA hB
  go_enter Tryz.func34,Tryz.ntmps34
  go_wp2_with fail
  go_loopw [5] (fun i wr=>∃ k:Nat,k≤n∧i=.int .i64 k∧Hid (a.take k=b.take k)∧Below w.heap.size w wr) (fun i _=>n - (intOf i).toNat)
  case atStart=>exact ⟨0,Nat.zero_le _,rfl,hI (by simp),Below.refl _ _⟩
  case round =>
   obtain ⟨k,hk,rfl,heq,hbel⟩:=hrel
   by_cases hlt:k<n
   ·obtain ⟨ba,oa,x,A3,c3,rfl,hb3,hx,h3,h4,h5,h6⟩:=(ha.below hbel).tag (k:=k) (by rw [HN.out];exact hlt)
    obtain ⟨bb,ob,y,A4,c4,rfl,hb4,hy,g3,g4,g5,g6⟩:=(hb.below hbel).tag (k:=k) (by rw [HM.out];exact hlt)
    have HX:=hI hx
    have HY:=hI hy
    have s1:=fun j=>conv_list (h6.rd.on (below_drewN (Below.refl _ _) j)) x.2.length c3 rfl
    have s2:=fun j=>conv_list (g6.rd.on (below_drewN (Below.refl _ _) j)) y.2.length c4 rfl
    have S:=hI (nums_eq (HA.out.at_ hx).2 (HB.out.at_ hy).2)
    clear hx hy h6 g6
    have i1:(0:Int)≤k:=by omega
    have i2:(k:Int)<n:=by omega
    by_cases ht:x.1=y.1
    ·have j1:((x.1:Int) != (y.1:Int))=false:=by rw [ht];simp
     by_cases hq:x.2=y.2
     ·have R:=hI (tgs_take heq.out HX.out HY.out (Prod.ext ht hq))
      have s3:((strOfNums (nums x.2)).toList == (strOfNums (nums y.2)).toList)=true:=by rw [Lib.strOfNums_toList,Lib.strOfNums_toList,S.out];exact decide_eq_true hq
      clear ht hq
      go_wp2_with fail
      go_quiet (fail)
      all_goals go_wp2_with fail
      go_roundw
      case rel=>exact ⟨k+1,by omega,by go_num,R,below_drewN hbel _⟩
      case measure=>simp [intOf];omega
     ·have E:=hI (show decide (a=b)=false from decide_eq_false (tgs_ne HX.out HY.out fun e=>hq (by rw [e])))
      have s3:((strOfNums (nums x.2)).toList == (strOfNums (nums y.2)).toList)=false:=by rw [Lib.strOfNums_toList,Lib.strOfNums_toList,S.out];exact decide_eq_false hq
      clear ht hq
      go_wp2_with fail
      go_quiet (fail)
      all_goals go_wp2_with fail
      go_ret
      exact ⟨by rw [E.out];rfl,below_drewN hbel _⟩
    ·have j1:((x.1:Int) != (y.1:Int))=true:=by rw [bne_iff_ne];omega
     have E:=hI (show decide (a=b)=false from decide_eq_false (tgs_ne HX.out HY.out fun e=>ht (by rw [e])))
     clear ht
     go_wp2_with fail
     go_quiet (fail)
     all_goals go_wp2_with fail
     go_ret
     exact ⟨by rw [E.out];rfl,below_drewN hbel _⟩
   ·go_wp2
    go_ret
    have he:k=n:=by omega
    have hq:=heq.out
    rw [he,List.take_of_length_le (by rw [HN.out];exact Nat.le_refl _),List.take_of_length_le (by rw [HM.out];exact Nat.le_refl _)] at hq
    exact ⟨by rw [decide_eq_true hq];rfl,hbel⟩
 ·have hne:((n:Int) != (m:Int))=true:=by rw [bne_iff_ne];omega
  have E:=hI (show decide (a=b)=false from decide_eq_false fun e=>hl (by rw [←hn,← hm,e]))
  rw [E.out]
  clear E
  go_enter Tryz.func34,Tryz.ntmps34
  go_wp2
  go_ret
  exact ⟨rfl,Below.refl _ _⟩
end
section
open Go.RowKit
theorem tgof_any (l:List (Nat × List Nat)) (n c:Nat) (A:Option Addr) (F:Nat→Prop) (w:World) (h:Rws shG F w A l) (hF:∀ b,w.heap.size≤b→F b) (hl:l.length=n) (hn:n≤1073741824) :
  Calls Tryz.prog 24 #[.slice A n c] w fun e w'=>∃ v,e=.returned v∧Orw shG 58 F w.heap.size w' v l∧Below w.heap.size w w':=by
 obtain ⟨i0,hi,hz0,hz1,hz2⟩:=info_parts tag_info
 have HL:=hI hl
 have HF:=hI hF
 have HR:=hI (h.mono (G:=fun b=>F b∧b<w.heap.size) fun b hb hf=>⟨hf,hb⟩)
 clear hl hF h
 go_enter Tryz.func24,Tryz.ntmps24
 go_wp2_with fail
 go_loopw [3,8] (fun v i wr=>∃ k:Nat,k≤n∧i=.int .i64 k∧Orw shG 58 F w.heap.size wr v (l.take k)∧Below w.heap.size w wr) (fun _ i _=>n - (intOf i).toNat)
 case atStart=>exact ⟨0,Nat.zero_le _,rfl,Orw.nil _ _ _ _ _,Below.refl _ _⟩
 case round =>
  obtain ⟨k,hk,rfl,hown,hbel⟩:=hrel
  by_cases hlt:k<n
  ·obtain ⟨b,o,x,A3,c3,rfl,hb3,hx,h3,h4,h5,h6⟩:=(HR.out.below hbel).tag (k:=k) (by rw [HL.out];exact hlt)
   have HT:=hI (show l.take (k+1)=l.take k ++ [x] by rw [List.take_add_one,hx];rfl)
   have HK:=hI (show (l.take k).length=k by rw [List.length_take,HL.out];omega)
   obtain ⟨wk,hwk⟩:∃ wk,wk=wr.alloc (.cells #[.int .u16 (x.1:Int),.slice A3 x.2.length c3] 83):=⟨_,rfl⟩
   have hbe:Below wr.heap.size wr wk:=by rw [hwk];exact (Below.refl _ _).alloc (Nat.le_refl _) _
   have HS:=hI (show wk.heap.size=wr.heap.size+1 by rw [hwk,World.size_alloc])
   have HWK:=hI hwk
   have H6:=hI (h6.keep (.of_below hbe))
   have OW:=hI (hown.below hbe)
   have BE:=hI (hbel.trans (hbe.mono hbel.size))
   have BE2:=hI (BE.out.alloc BE.out.size (.cells #[.int .u16 (x.1:Int),.slice A3 x.2.length c3] 58))
   clear hwk
   have i1:(0:Int)≤k:=by omega
   have i2:(k:Int)<n:=by omega
   clear hx h6 hown hbel hbe
   go_wp2_with (at_builtin;rw [←HWK.out,← HS.out];refine list_rows shG rfl _ _ _ rfl 58 i0 (.agg #[.int .u16 0,.slice none 0 0]) 32 Tryz.underlying37 hi hz0 hz1 hz2 rfl (by decide) F _ w.heap.size _ k (l.take k) rfl (OW.out.below ((Below.refl _ _).alloc (Nat.le_refl _) _)) HK.out _ 1 1 _ rfl (litg _ rfl h5 H6.out).read rfl (fun b _ hb=>hb.elim (fun h=>⟨h.1,fun e=>absurd (OW.out.lt e).1 (Nat.not_le.2 h.2)⟩) (fun h=>⟨HF.out b (Nat.le_trans BE.out.size h),fun e=>Nat.lt_irrefl _ (Nat.lt_of_lt_of_le (OW.out.lt e).2 h)⟩)) (by unfold maxLen;omega) (by omega) BE2.out.size ?_;intro v7 w7 ho7 hg7 hm7;have R2:=BE2.out.grown hg7 BE2.out.size (fun g hg=>(OW.out.lt hg).1);clear hg7 hm7)
   have R1:Orw shG 58 F w.heap.size w7 v7 (l.take (k+1)):=by rw [HT.out];exact ho7
   clear ho7
   go_roundw
   case rel=>exact ⟨k+1,by omega,by go_num,R1,R2⟩
   case measure=>simp [intOf];omega
  ·have he:k=n:=by omega
   subst he
   rw [List.take_of_length_le (by rw [HL.out];exact Nat.le_refl _)] at hown
   go_wp2_with fail
   go_ret
   exact ⟨_,rfl,hown,hbel⟩
theorem tgto_any (l:List (Nat × List Nat)) (n c:Nat) (A:Option Addr) (F:Nat→Prop) (w:World) (h:Rws shG F w A l) (hF:∀ b,w.heap.size≤b→F b) (hl:l.length=n) (hn:n≤1073741824) :
  Calls Tryz.prog 35 #[.slice A n c] w fun e w'=>∃ v,e=.returned v∧Orw shG 83 F w.heap.size w' v l∧Below w.heap.size w w':=by
 obtain ⟨i0,hi,hz0,hz1,hz2⟩:=info_parts rtag_info
 have HL:=hI hl
 have HF:=hI hF
 have HR:=hI (h.mono (G:=fun b=>F b∧b<w.heap.size) fun b hb hf=>⟨hf,hb⟩)
 clear hl hF h
 go_enter Tryz.func35,Tryz.ntmps35
 go_wp2_with fail
 go_loopw [3,8] (fun v i wr=>∃ k:Nat,k≤n∧i=.int .i64 k∧Orw shG 83 F w.heap.size wr v (l.take k)∧Below w.heap.size w wr) (fun _ i _=>n - (intOf i).toNat)
 case atStart=>exact ⟨0,Nat.zero_le _,rfl,Orw.nil _ _ _ _ _,Below.refl _ _⟩
 case round =>
  obtain ⟨k,hk,rfl,hown,hbel⟩:=hrel
  by_cases hlt:k<n
  ·obtain ⟨b,o,x,A3,c3,rfl,hb3,hx,h3,h4,h5,h6⟩:=(HR.out.below hbel).tag (k:=k) (by rw [HL.out];exact hlt)
   have HT:=hI (show l.take (k+1)=l.take k ++ [x] by rw [List.take_add_one,hx];rfl)
   have HK:=hI (show (l.take k).length=k by rw [List.length_take,HL.out];omega)
   obtain ⟨wk,hwk⟩:∃ wk,wk=wr.alloc (.cells #[.int .u16 (x.1:Int),.slice A3 x.2.length c3] 58):=⟨_,rfl⟩
   have hbe:Below wr.heap.size wr wk:=by rw [hwk];exact (Below.refl _ _).alloc (Nat.le_refl _) _
   have HS:=hI (show wk.heap.size=wr.heap.size+1 by rw [hwk,World.size_alloc])
   have HWK:=hI hwk
   have H6:=hI (h6.keep (.of_below hbe))
   have OW:=hI (hown.below hbe)
   have BE:=hI (hbel.trans (hbe.mono hbel.size))
   have BE2:=hI (BE.out.alloc BE.out.size (.cells #[.int .u16 (x.1:Int),.slice A3 x.2.length c3] 83))
   clear hwk
   have i1:(0:Int)≤k:=by omega
   have i2:(k:Int)<n:=by omega
   clear hx h6 hown hbel hbe
   go_wp2_with (at_builtin;rw [←HWK.out,← HS.out];refine list_rows shG rfl _ _ _ rfl 83 i0 (.agg #[.int .u16 0,.slice none 0 0]) 32 Tryz.underlying23 hi hz0 hz1 hz2 rfl (by decide) F _ w.heap.size _ k (l.take k) rfl (OW.out.below ((Below.refl _ _).alloc (Nat.le_refl _) _)) HK.out _ 1 1 _ rfl (litg _ rfl h5 H6.out).read rfl (fun b _ hb=>hb.elim (fun h=>⟨h.1,fun e=>absurd (OW.out.lt e).1 (Nat.not_le.2 h.2)⟩) (fun h=>⟨HF.out b (Nat.le_trans BE.out.size h),fun e=>Nat.lt_irrefl _ (Nat.lt_of_lt_of_le (OW.out.lt e).2 h)⟩)) (by unfold maxLen;omega) (by omega) BE2.out.size ?_;intro v7 w7 ho7 hg7 hm7;have R2:=BE2.out.grown hg7 BE2.out.size (fun g hg=>(OW.out.lt hg).1);clear hg7 hm7)
   have R1:Orw shG 83 F w.heap.size w7 v7 (l.take (k+1)):=by rw [HT.out];exact ho7
   clear ho7
   go_roundw
   case rel=>exact ⟨k+1,by omega,by go_num,R1,R2⟩
   case measure=>simp [intOf];omega
  ·have he:k=n:=by omega
   subst he
   rw [List.take_of_length_le (by rw [HL.out];exact Nat.le_refl _)] at hown
   go_wp2_with fail
   go_ret
   exact ⟨_,rfl,hown,hbel⟩
end
section
open Go.ChangeShapes Go.WideShapes Go.ChangeAt Go.RowKit Go.Deep
def IsTags (w:World) (a:Option Addr) (len cap:Nat) (l:List (Nat × List Nat)):Prop :=
 l.length=len∧len≤cap∧len≤140737488351232∧ByG l∧(∀ x ∈ l,x.2.length≤140737488351232)∧Rws shG (fun _=>True) w a l
theorem tgall_mem {H:Type} {P:Program} {e:TypeId}:∀ {l:List (DataW H)} {d:DataW H},d ∈ l→∀ n ∈ d.weights P e,n ∈ DataW.weightsAll P e l
 | d' :: r,d,hd,n,hn=>by
  simp only [DataW.weightsAll,List.mem_append]
  rcases List.mem_cons.1 hd with rfl | h
  ·exact Or.inl hn
  ·exact Or.inr (tgall_mem h n hn)
def IsTag (w:World) (a:Addr) (o:Nat × List Nat):Prop :=
 o.1<65536∧By o.2∧o.2.length≤140737488351232∧∃ A c,o.2.length≤c∧w.cell? (a.add 0)=some (.int .u16 (o.1:Int))∧w.cell? (a.add 1)=some (.slice A o.2.length c)∧Rd w w.heap.size A o.2
theorem tgcells:Tryz.prog.cellsOf 83=2:=by kernel_rfl
theorem tgbytes:Tryz.prog.bytesOf 83=32:=by kernel_rfl
theorem tgcell1:Tryz.prog.cellsOf 26=1:=by kernel_rfl
theorem tgcell0:Tryz.prog.cellsOf 5=1:=by kernel_rfl
theorem tgcell2:Tryz.prog.cellsOf 22=1:=by kernel_rfl
theorem tgbyte0:Tryz.prog.bytesOf 5=1:=by kernel_rfl
theorem open_tag {H:Type} {enc:TypeId × Value→H} {w:World} {base:Nat} {held:Bool} {fuel:Nat} {a:Addr} {cs:List Value} {x:DataW H × List MemPlace}
  (hc:w.cells? base a 2=some cs) (h:DataW.trod enc Tryz.prog w base (fun _=>true) held fuel 83 cs=some x) (hs:∀ n ∈ x.1.weights Tryz.prog 83,n≤reachBytes):∃ o,IsTag w a o:=by
 obtain ⟨_,hl,hat⟩:=World.cells?_some hc
 obtain ⟨xs,n,_,hx,_,hlen,hg⟩:=DataW.trod_struct Tryz.underlying83 h
 match cs,hl with
 | [c0,c1],_ =>
  match xs,hlen with
  | [y0,y1],_ =>
   have g0:=hg 0 _ rfl
   have g1:=hg 1 _ rfl
   simp [tgcell2,tgcell1] at g0 g1
   obtain ⟨t,e0,e1,st⟩:=DataW.trod_int Tryz.underlying22 g0
   simp at e0
   subst e0
   have ht:0≤t∧t<65536:=by
    simp [Lit.wf,IntKind.min,IntKind.max,IntKind.signed,IntKind.bits] at st
    omega
   have f0:=hat 0 (by omega)
   have f1:=hat 1 (by omega)
   simp only [List.getElem?_cons_zero,List.getElem?_cons_succ] at f0 f1
   rcases open_ints Tryz.underlying26 Tryz.underlying5 tgcell0 g1 with ⟨hcs,_⟩ | ⟨ad,len,cap,zs,hcs,_,hlc,hm,hz,hy,hcell,hwz⟩
   ·simp at hcs
    subst hcs
    refine ⟨(t.toNat,[]),by show t.toNat<65536;omega,By.nil,by simp,none,0,by simp,?_,f1,Rd.nil⟩
    rw [f0,Int.toNat_of_nonneg ht.1]
   ·simp at hcs
    subst hcs
    have hz':zs.length=cap:=by simpa using hz
    obtain ⟨m,e1',e2',e3'⟩:=rowBytes (w:=w) (a:=some ad) (len:=len) (cap:=cap) (zs:=zs) (.inr ⟨ad,rfl,hlc,hm,hz',hcell,hwz⟩)
    have hw:zs.length≤reachBytes:=hs _ (by
     rw [hx]
     simp only [DataW.weights,Tryz.underlying83,List.map_cons,List.map_nil,DataW.weightsEach,hy,Tryz.underlying26,tgbyte0,List.mem_append,List.mem_cons]
     refine .inr (.inl (.inl ?_))
     simp only [lits,List.length_map,List.length_take,List.length_drop]
     omega)
    have hr:reachBytes=140737488351232:=rfl
    refine ⟨(t.toNat,m),by show t.toNat<65536;omega,e2',by show m.length≤_;omega,some ad,cap,by show m.length≤_;omega,?_,?_,e3'⟩
    ·rw [f0,Int.toNat_of_nonneg ht.1]
    ·rw [f1,e1']
theorem open_tagsV {H:Type} {enc:TypeId × Value→H} {w:World} {base:Nat} {held:Bool} {v:Value} {d:DataW H} {p:List MemPlace}
  (hv:∃ a n c,v=.slice a n c) (h:DataW.Trod enc Tryz.prog w base (fun _=>true) held 23 v d p) (hs:∀ n ∈ d.weights Tryz.prog 23,n≤reachBytes) :
  ∃ a len cap l,v=.slice a len cap∧IsTags w a len cap l:=by
 obtain ⟨a,len,cap,rfl⟩:=hv
 obtain ⟨fuel,hf⟩:=h
 have hr:reachBytes=140737488351232:=rfl
 rcases open_slice Tryz.underlying23 hf with ⟨hcs,_⟩ | ⟨x,l,c,m,n,D,Pl,hcs,_,hl,hm,hmm,hx,hi⟩
 ·simp [Value.cells] at hcs
  obtain ⟨rfl,rfl,rfl⟩:=hcs
  exact ⟨_,_,_,[],rfl,rfl,Nat.le_refl _,by omega,(fun _ h=>by cases h),(fun _ h=>by cases h),Rws.nilG⟩
 ·simp [Value.cells] at hcs
  obtain ⟨rfl,rfl,rfl⟩:=hcs
  simp only [if_true] at hmm
  have hd:=congrArg Prod.fst hx
  simp only at hd
  have hs':=hs
  rw [hd] at hs'
  simp only [DataW.weights,Tryz.underlying23,List.mem_cons,List.mem_append] at hs'
  have hlen:=hs' _ (.inl rfl)
  rw [tgbytes] at hlen
  simp only [List.length_map,List.length_range] at hlen
  have each:∀ i,i<len→∃ o,IsTag w (x.add (i*2)) o:=by
   intro i hil
   obtain ⟨cs',h1,h2⟩:=hi i (by omega)
   rw [tgcells] at h1
   exact open_tag h1 h2 (fun k hk=>hs' k (.inr (.inl (tgall_mem (List.mem_map.2 ⟨i,List.mem_range.2 hil,rfl⟩) k hk))))
  obtain ⟨f,hf'⟩:=choose_lt each
  refine ⟨_,_,_,(List.range len).map f,rfl,by simp,hl,by omega,?_,?_,?_⟩
  ·intro o ho
   obtain ⟨i,hi',rfl⟩:=List.mem_map.1 ho
   have:=hf' i (List.mem_range.1 hi')
   exact ⟨this.1,this.2.1⟩
  ·intro o ho
   obtain ⟨i,hi',rfl⟩:=List.mem_map.1 ho
   exact (hf' i (List.mem_range.1 hi')).2.2.1
  ·intro hpos
   rw [List.length_map,List.length_range] at hpos
   obtain ⟨b,off,spot⟩:=x
   obtain ⟨_,_,_,_,_,_,h0,_,_⟩:=hf' 0 hpos
   have hsp:spot=none:=by simpa [Addr.add] using World.cell?_spot h0
   subst hsp
   refine ⟨b,off,rfl,by simpa [Addr.add] using block_lt h0,trivial,fun k o hk=>?_⟩
   rw [List.getElem?_map] at hk
   obtain ⟨r',hr',rfl⟩:=Option.map_eq_some_iff.1 hk
   have hkl:k<len:=by have:=(List.getElem?_eq_some_iff.1 hr').1;simpa using this
   rw [List.getElem?_range hkl] at hr'
   injection hr' with hr'
   subst hr'
   obtain ⟨_,_,_,A,c',g1,g2,g3,g4⟩:=hf' k hkl
   refine ⟨_,⟨A,c',rfl,g1,g4.rdF (fun _ _=>trivial) (Nat.le_refl _)⟩,fun j u hu=>?_⟩
   have key:∀ j,(Addr.add ⟨b,off,none⟩ (k*2)).add j=⟨b,off+(k*2+j),none⟩:=by
    intro j
    rw [Go.Deep.add_add]
    by_cases h0:k*2+j=0
    ·rw [h0];simp [Addr.add]
    ·simp [Addr.add]
     omega
   match j,hu with
   | 0,hu =>
    injection hu with hu
    subst hu
    rw [←g2,key]
    rfl
   | 1,hu =>
    injection hu with hu
    subst hu
    rw [←g3,key]
    rfl
   | j+2,hu=>simp at hu
end
section
open Go.RowKit
def tgputA (l:List (Nat × List Nat)):List Nat:=if tgerr l=0 then tgput l else []
theorem tgerr_next {l:List (Nat × List Nat)} {k:Nat} {o:Nat × List Nat} (h:tgerr (l.take k)=0) (hk:l[k]?=some o):tgerr (l.take (k+1))=if o.1=0 then 8 else if 65535<o.2.length then 3 else 0:=by
 induction l generalizing k with
 | nil=>simp at hk
 | cons p l ih =>
  match k with
  | 0 =>
   injection hk with hk
   subst hk
   rfl
  | k+1 =>
   rw [List.take_succ_cons] at h ⊢
   obtain ⟨h0,h1,h2⟩:=tgerr_cons.1 h
   simp only [tgerr]
   rw [if_neg h0,if_neg (by omega)]
   exact ih h2 hk
structure RG (w W:World) (a0 a1:Addr) (t n:Nat) (A:Option Addr) (c:Nat) (v:Value) (m:Nat) (xs:List Nat):Prop where
 bel:Below w.heap.size w W
 own:W.ownsRow w.heap.size 5 1 v m (bvs xs)
 lt0:a0.block<w.heap.size
 lt1:a1.block<w.heap.size
 f0:w.cell? a0=some (.int .u16 (t:Int))
 f1:w.cell? a1=some (.slice A n c)
section
variable {w W X W' : World} {a0 a1 : Addr} {t n : Nat} {A : Option Addr} {c : Nat} {v v' : Value} {m m' : Nat} {xs xs' : List Nat}
theorem RG.cells (h:RG w W a0 a1 t n A c v m xs):W.cell? a0=some (.int .u16 (t:Int))∧W.cell? a1=some (.slice A n c):=⟨(h.bel.cell h.lt0).trans h.f0,(h.bel.cell h.lt1).trans h.f1⟩
theorem RG.step (h:RG w W a0 a1 t n A c v m xs) (hb:Below X.heap.size X W') (hX:Below W.heap.size W X:=by first | exact Below.refl _ _ | exact (Below.refl _ _).drew):RG w W' a0 a1 t n A c v m xs:=by
 have hb':Below W.heap.size W W':=hX.trans (hb.mono hX.size)
 exact ⟨h.bel.trans (hb'.mono h.bel.size),own_below h.own hb',h.lt0,h.lt1,h.f0,h.f1⟩
theorem RG.drew (h:RG w W a0 a1 t n A c v m xs):RG w W.drew a0 a1 t n A c v m xs:=h.step (X:=W) (Below.refl _ _).drew
theorem RG.al (h:RG w W a0 a1 t n A c v m xs) (o:Obj):RG w (W.alloc o) a0 a1 t n A c v m xs:=h.step (X:=W) ((Below.refl _ _).alloc (Nat.le_refl _) o)
theorem RG.app (h:RG w W a0 a1 t n A c v m xs) (ho:W'.ownsRow w.heap.size 5 1 v' m' (bvs xs')) (hg:W.grownBy W' v.ownBlock):RG w W' a0 a1 t n A c v' m' xs' :=
 ⟨h.bel.grown hg h.bel.size (fun k hk=>(h.own.lt k hk).1),ho,h.lt0,h.lt1,h.f0,h.f1⟩
end
theorem tgrput_any (l:List (Nat × List Nat)) (n c:Nat) (A:Option Addr) (F:Nat→Prop) (w:World) (h:Rws shG F w A l) (hl:l.length=n) (hn:n≤137438953472) (hd:tgdat l≤68719476736) (hty:∀ o ∈ l,o.1<65536) :
  Calls Tryz.prog 29 #[.slice A n c] w fun e w'=>∃ A' c' k,e=.returned (.tuple #[.slice A' k c',.int .i64 ((tgerr l:Nat):Int)])∧New w w' A' c' k (tgputA l):=by
 obtain ⟨i0,hi,hz0,hz1,hz2⟩:=info_parts byte_info
 have HL:=hI hl
 have HD:=hI (tgdat_take l)
 have HY:=hI hty
 clear hl hty
 go_enter Tryz.func29,Tryz.ntmps29
 go_wp2_with fail
 go_loopw [4,5] (fun v i wr=>∃ k m:Nat,k≤n∧i=.int .i64 k∧Hid (tgerr (l.take k)=0)∧wr.ownsRow w.heap.size 5 1 v m (bvs (tgput (l.take k)))∧Below w.heap.size w wr) (fun _ i _=>n - (intOf i).toNat)
 case atStart=>exact ⟨0,0,Nat.zero_le _,rfl,hI rfl,World.ownsRow_lit w #[] 0 (Nat.le_refl _) (by unfold maxLen;omega) rfl,(Below.refl _ _).alloc (Nat.le_refl _) _⟩
 case round =>
  obtain ⟨k,m,hk,rfl,hlg,hown,hbel⟩:=hrel
  have hm1:=hown.1
  rw [bvs_len,tgput_len] at hm1
  have hm2:m≤618475290624:=by have:=HD.out k;have:=List.length_take (i:=k) (l:=l);omega
  by_cases hlt:k<n
  ·obtain ⟨b,o,x,A3,c3,rfl,hb3,hx,h3,h4,h5,h6⟩:=h.tag (k:=k) (by rw [HL.out];exact hlt)
   have C:=hI (show RG w wr ⟨b,o+k*2,none⟩ ⟨b,o+k*2+1,none⟩ x.1 x.2.length A3 c3 _ m (tgput (l.take k)) from ⟨hbel,hown,hb3,hb3,h3,h4⟩)
   have H6:=hI h6.rd
   have HX:=hI hx
   have hx16:=HY.out x (List.mem_of_getElem? hx)
   have i1:(0:Int)≤k:=by omega
   have i2:(k:Int)<n:=by omega
   clear h3 h4 hx h6 hm1
   obtain ⟨f0,f1⟩:=C.out.cells
   by_cases hx0:x.1=0
   ·have j0:((x.1:Int) == 0)=true:=by rw [hx0];rfl
    have HE:=tgerr_next hlg.out HX.out
    rw [if_pos hx0] at HE
    have HQ:=tgerr_at (l:=l) (k+1) (by rw [HE];decide)
    have EP:=hI (show tgerr l=8 by rw [HQ,HE])
    have EA:=hI (show tgputA l=[] by unfold tgputA;rw [EP.out];rfl)
    clear hown HE HQ hx0
    go_wp2_with fail
    go_ret2
    rw [EP.out,EA.out]
    exact ⟨none,0,0,rfl,rfl,World.ownsRow_nil _ _ _ _,Rd.nil,hbel⟩
   have j0:((x.1:Int) == 0)=false:=by rw [beq_eq_false_iff_ne];omega
   by_cases hxl:x.2.length≤65535
   ·obtain ⟨z1,hz1'⟩:∃ z,Hid (x.1 / 256=z):=⟨_,hI rfl⟩
    obtain ⟨z2,hz2'⟩:∃ z,Hid (x.1 % 256=z):=⟨_,hI rfl⟩
    obtain ⟨z3,hz3'⟩:∃ z,Hid (x.2.length / 256=z):=⟨_,hI rfl⟩
    obtain ⟨z4,hz4'⟩:∃ z,Hid (x.2.length % 256=z):=⟨_,hI rfl⟩
    have y1:z1<256:=by have:=hz1'.out;omega
    have y2:z2<256:=by have:=hz2'.out;omega
    have y3:z3<256:=by have:=hz3'.out;omega
    have y4:z4<256:=by have:=hz4'.out;omega
    have R:=hI (show tgerr (l.take (k+1))=0 by rw [tgerr_next hlg.out HX.out,if_neg hx0,if_neg (by omega)])
    have HE:=hI (show tgput (l.take (k+1))=tgput (l.take k) ++ [z1,z2,z3,z4] ++ x.2 by rw [tgput_at HX.out,← hz1'.out,← hz2'.out,← hz3'.out,← hz4'.out];simp [tgenc])
    have HLT:=hI (show ∀ wk:World,Rd (wk.alloc (.cells #[.int .u8 (z1:Int),.int .u8 (z2:Int),.int .u8 (z3:Int),.int .u8 (z4:Int)] 5)) (wk.alloc (.cells #[.int .u8 (z1:Int),.int .u8 (z2:Int),.int .u8 (z3:Int),.int .u8 (z4:Int)] 5)).heap.size (some ⟨wk.heap.size,0,none⟩) [z1,z2,z3,z4] from fun wk=>Rd.lit_ wk [z1,z2,z3,z4])
    have i3:¬ (65535:Int)<(x.2.length:Int):=by omega
    have e1:(x.1:Int) / 256=(z1:Int):=by have:=hz1'.out;omega
    have e2:(x.1:Int).tmod 256=(z2:Int):=by rw [Int.tmod_eq_emod_of_nonneg (by omega)];have:=hz2'.out;omega
    have e3:(x.2.length:Int) / 256=(z3:Int):=by have:=hz3'.out;omega
    have e4:(x.2.length:Int).tmod 256=(z4:Int):=by rw [Int.tmod_eq_emod_of_nonneg (by omega)];have:=hz4'.out;omega
    have a1:IntKind.u8.wrap (z1:Int)=(z1:Int):=by apply IntWalk.u8_in;omega
    have a2:IntKind.u8.wrap (z2:Int)=(z2:Int):=by apply IntWalk.u8_in;omega
    have a3:IntKind.u8.wrap (z3:Int)=(z3:Int):=by apply IntWalk.u8_in;omega
    have a4:IntKind.u8.wrap (z4:Int)=(z4:Int):=by apply IntWalk.u8_in;omega
    have g2:IntKind.u16.wrap (z1:Int)=(z1:Int):=by apply IntWalk.u16_in;omega
    have g1:IntKind.i64.wrap (z3:Int)=(z3:Int):=IntWalk.i64_in _ (by omega)
    clear hown hbel hx0 hx16
    go_wp2_with fail
    go_region_held3 (fun W=>W.cell? ⟨b,o+k*2,none⟩=some (.int .u16 (x.1:Int))∧W.cell? ⟨b,o+k*2+1,none⟩=some (.slice A3 x.2.length c3)) (first | exact C.out.cells | exact (C.out.drew.al _).cells) (first
     | ((refine step_app _ (by rfl) _ _ _ (by rfl) _ i0 Tryz.underlying26 hi hz0 hz1 hz2 w.heap.size _ m (tgput (l.take k)) (by rfl) (C.out.drew.al _).own _ _ 4 _ [z1,z2,z3,z4] (by rfl) (HLT.out _) rfl (by omega) (C.out.drew.al _).bel.size ?_);intro A6 c6 w6 ho6 hg6;replace C:=hI ((C.out.drew.al _).app ho6 hg6);clear ho6 hg6;dsimp only))
    clear f0 f1
    obtain ⟨f0,f1⟩:=C.out.cells
    go_wp2_with (at_builtin;refine list_app rfl _ _ _ rfl _ i0 Tryz.underlying26 hi hz0 hz1 hz2 _ _ (m+4) _ rfl C.out.own w.heap.size _ x.2.length _ x.2 rfl (H6.out.below C.out.bel) rfl (by omega) C.out.bel.size ?_;intro A7 c7 w7 ho7 hg7;have R2:=C.out.bel.grown hg7 C.out.bel.size (fun g hg=>(C.out.own.lt g hg).1))
    rw [←HE.out] at ho7
    go_roundw
    case rel=>exact ⟨k+1,_,by omega,by go_num,R,ho7,R2⟩
    case measure=>simp [intOf];omega
   ·have i3:(65535:Int)<(x.2.length:Int):=by omega
    have HE:=tgerr_next hlg.out HX.out
    rw [if_neg hx0,if_pos (by omega)] at HE
    have HQ:=tgerr_at (l:=l) (k+1) (by rw [HE];decide)
    have EP:=hI (show tgerr l=3 by rw [HQ,HE])
    have EA:=hI (show tgputA l=[] by unfold tgputA;rw [EP.out];rfl)
    clear hown HE HQ hx0 hxl
    go_wp2_with fail
    go_ret2
    rw [EP.out,EA.out]
    exact ⟨none,0,0,rfl,rfl,World.ownsRow_nil _ _ _ _,Rd.nil,hbel⟩
  ·have he:k=n:=by omega
   subst he
   have hlg2:=hlg.out
   rw [List.take_of_length_le (by rw [HL.out];exact Nat.le_refl _)] at hown hlg2
   have EP:=hI hlg2
   have EA:=hI (show tgputA l=tgput l by unfold tgputA;rw [hlg2];rfl)
   clear hlg2
   go_wp2_with fail
   go_ret2
   rw [EP.out,EA.out]
   obtain ⟨A',c',rfl,hN⟩:=New.mk hown hbel
   exact ⟨A',c',m,rfl,hN⟩
end
section
open Go.RowKit
theorem Rd.cutG {w:World} {B b o:Nat} {l:List Nat} (h:Rd w B (some ⟨b,o,none⟩) l) {f c:Nat} (hc:l.length≤c):Rd w B (if c=f then some ⟨b,o,none⟩ else some ⟨b,o+f,none⟩) (l.drop f):=by
 by_cases hf:l.length≤f
 ·rw [List.drop_eq_nil_of_le hf];exact Rd.nil
 ·rw [if_neg (by omega)]
  intro hl
  obtain ⟨b',o',e,hb,hcell⟩:=h (by omega)
  injection e with e
  injection e with e1 e2
  subst e1;subst e2
  exact ⟨b,o+f,rfl,hb,fun k x hx=>by rw [Nat.add_assoc];exact hcell (f+k) x (by rw [←List.getElem?_drop];exact hx)⟩
theorem Rws.there {F:Nat→Prop} {w:World} {A:Option Addr} {l:List (Nat × List Nat)} (h:Rws shG F w A l):Rws shG (fun b=>b<w.heap.size) w A l:=h.mono fun _ hb _=>hb
theorem tgget_len (b:List Nat) (hb:By b):4*(tgget b).1.length≤b.length∧(tgget b).2.1≤b.length:=by
 by_cases h:(tgget b).2.2=0
 ·obtain ⟨h1,-,-,h4,-⟩:=tgput_get b hb h
  refine ⟨?_,h4⟩
  have h5:=congrArg List.length h1
  rw [List.length_take] at h5
  have h6:=tgput_len (tgget b).1
  omega
 ·obtain ⟨h1,h2⟩:=tgget_err b h
  rw [h1,h2]
  exact ⟨Nat.zero_le _,Nat.zero_le _⟩
structure GG (T:TypeId) (w W:World) (v:Value) (l:List (Nat × List Nat)):Prop where
 own:Orw shG T (fun _=>True) w.heap.size W v l
 bel:Below w.heap.size w W
end
section
open Go.RowKit
def GetJ (F:Nat→Prop) (T:TypeId) (b:List Nat) (w:World) (e:Ending) (w':World):Prop :=
 ∃ v,e=.returned (.tuple #[v,.int .i64 ((tgget b).2.1:Int),.int .i64 ((tgget b).2.2:Int)])∧Orw shG T F w.heap.size w' v (tgget b).1∧Below w.heap.size w w'
theorem getJ_bad {F:Nat→Prop} {T:TypeId} {b:List Nat} {k:Nat} {w w':World} (h:tgget b=([],0,k)) (hb:Below w.heap.size w w') :
  GetJ F T b w (.returned (.tuple #[.slice none 0 0,.int .i64 0,.int .i64 (k:Int)])) w':=⟨_,by rw [h];rfl,by rw [h];exact Orw.nil _ _ _ _ _,hb⟩
theorem getJ_end {F:Nat→Prop} {T:TypeId} {b:List Nat} {w w':World} (h:tgget b=([],4,0)) (hb:Below w.heap.size w w') :
  GetJ F T b w (.returned (.tuple #[.slice none 0 0,.int .i64 4,.int .i64 0])) w':=⟨_,by rw [h];rfl,by rw [h];exact Orw.nil _ _ _ _ _,hb⟩
theorem tgjget_nil (F:Nat→Prop) (c:Nat) (A:Option Addr) (w:World):Calls Tryz.prog 33 #[.slice A 0 c] w (GetJ F 83 [] w):=by
 go_enter Tryz.func33,Tryz.ntmps33
 go_wp2_with fail
 go_ret3
 exact getJ_bad rfl (Below.refl _ _)
theorem tgjget_short (F:Nat→Prop) (b:List Nat) (n c:Nat) (A:Option Addr) (w:World) (h0:0<n) (h4:n<4) (hg:tgget b=([],0,2)):Calls Tryz.prog 33 #[.slice A n c] w (GetJ F 83 b w):=by
 have i1:((n:Int) == 0)=false:=by rw [beq_eq_false_iff_ne];omega
 have i2:(n:Int)<4:=by omega
 have HG:=hI hg
 clear h0 h4 hg
 go_enter Tryz.func33,Tryz.ntmps33
 go_wp2_with fail
 go_ret3
 exact getJ_bad HG.out (Below.refl _ _)
structure GJ (F:Nat→Prop) (T:TypeId) (w W:World) (v:Value) (l:List (Nat × List Nat)):Prop where
 own:Orw shG T F w.heap.size W v l
 bel:Below w.heap.size w W
theorem tgjget_aux (F : Nat → Prop) (N : Nat) : ∀ (b : List Nat) (n c : Nat) (A : Option Addr) (w : World), n ≤ N → n ≤ 1073741824 → RdF F w A b → (∀ i, w.heap.size ≤ i → F i) → By b → b.length = n → n ≤ c → Calls Tryz.prog 33 #[.slice A n c] w (GetJ F 83 b w) := by
  induction N with
  | zero =>
    intro b n c A w hN hn hRF hF hB hl hc
    obtain rfl : n = 0 := by omega
    obtain rfl : b = [] := List.eq_nil_of_length_eq_zero hl
    exact tgjget_nil F c A w
  | succ N ih =>
    intro b n c A w hN hn hRF hF hB hl hc
    match b, hl with
    | [], hl => obtain rfl : n = 0 := by simpa using hl.symm
                exact tgjget_nil F c A w
    | [x], hl => exact tgjget_short F _ _ _ _ _ (by rw [← hl]; simp) (by rw [← hl]; simp) rfl
    | [x, y], hl => exact tgjget_short F _ _ _ _ _ (by rw [← hl]; simp) (by rw [← hl]; simp) rfl
    | [x, y, z], hl => exact tgjget_short F _ _ _ _ _ (by rw [← hl]; simp) (by rw [← hl]; simp) rfl
    | x :: y :: z :: u :: t, hl =>
      have hR := hRF.rd
      have HRF := Lib.hid hRF
      have HFF := Lib.hid hF
      have hx : x < 256 := hB x (by simp)
      have hy : y < 256 := hB y (by simp)
      have hz : z < 256 := hB z (by simp)
      have hu : u < 256 := hB u (by simp)
      have hlen : t.length + 4 = n := by simpa using hl
      obtain ⟨bb, oo, x', rfl, hbb, hx', c0⟩ := hR.at_ (k := 0) (by simp)
      obtain ⟨bb1, oo1, y', e1, -, hy', c1⟩ := hR.at_ (k := 1) (by simp)
      injection e1 with e1
      injection e1 with e1 e1'
      subst e1; subst e1'
      obtain ⟨bb1, oo1, z', e1, -, hz', c2⟩ := hR.at_ (k := 2) (by simp)
      injection e1 with e1
      injection e1 with e1 e1'
      subst e1; subst e1'
      obtain ⟨bb1, oo1, u', e1, -, hu', c3⟩ := hR.at_ (k := 3) (by simp)
      injection e1 with e1
      injection e1 with e1 e1'
      subst e1; subst e1'
      obtain rfl : x = x' := by simpa using hx'
      obtain rfl : y = y' := by simpa using hy'
      obtain rfl : z = z' := by simpa using hz'
      obtain rfl : u = u' := by simpa using hu'
      clear hx' hy' hz' hu'
      obtain ⟨ax, hax⟩ : ∃ a, x * 256 = a := ⟨_, rfl⟩
      obtain ⟨az, haz⟩ : ∃ a, z * 256 = a := ⟨_, rfl⟩
      obtain ⟨tt, htt⟩ : ∃ a, ax + y = a := ⟨_, rfl⟩
      obtain ⟨mm, hmm⟩ : ∃ a, az + u = a := ⟨_, rfl⟩
      obtain ⟨n4, hn4⟩ : ∃ a, n - 4 = a := ⟨_, rfl⟩
      have HS := Lib.hid (show tgstep (x :: y :: z :: u :: t) = if n4 < mm then (0, 2) else if tt = 0 ∧ 0 < mm then (0, 4) else (4 + mm, 0) by
        simp only [tgstep]
        rw [hax, haz, htt, hmm, show t.length = n4 by omega])
      have HT := Lib.hid (show tgtyp (x :: y :: z :: u :: t) = tt by simp only [tgtyp]; rw [hax, htt])
      have HNE := Lib.hid (show (x :: y :: z :: u :: t) ≠ [] from fun e => by cases e)
      have i1 : ((n : Int) == 0) = false := by rw [beq_eq_false_iff_ne]; omega
      have i2 : ¬ (n : Int) < 4 := by omega
      have q0 : 0 < n := by omega
      rw [Nat.add_zero] at c0
      have q1 : (1 : Int) < (n : Int) := by omega
      have q2 : (2 : Int) < (n : Int) := by omega
      have q3 : (3 : Int) < (n : Int) := by omega
      have p1 : (x : Int) * 256 = (ax : Int) := by omega
      have p2 : IntKind.i64.wrap (ax : Int) = (ax : Int) := IntWalk.i64_in _ (by omega)
      have p3 : (ax : Int) + (y : Int) = (tt : Int) := by omega
      have p4 : IntKind.i64.wrap (tt : Int) = (tt : Int) := IntWalk.i64_in _ (by omega)
      have p5 : (z : Int) * 256 = (az : Int) := by omega
      have p6 : IntKind.i64.wrap (az : Int) = (az : Int) := IntWalk.i64_in _ (by omega)
      have p7 : (az : Int) + (u : Int) = (mm : Int) := by omega
      have p8 : IntKind.i64.wrap (mm : Int) = (mm : Int) := IntWalk.i64_in _ (by omega)
      have p9 : (n : Int) - 4 = (n4 : Int) := by omega
      have p10 : IntKind.i64.wrap (n4 : Int) = (n4 : Int) := IntWalk.i64_in _ (by omega)
      have HR := Lib.hid hR
      have HB := Lib.hid hB
      have HL := Lib.hid hl
      have htt2 : tt < 65536 := by omega
      have hmm2 : mm < 65536 := by omega
      have hn42 : n4 + 4 = n := by omega
      clear hR hRF hF hB hl hlen hx hy hz hu hax haz htt hmm hn4
      by_cases g1 : n4 < mm
      · have j1 : (n4 : Int) < (mm : Int) := by omega
        have E := Lib.hid (show tgget (x :: y :: z :: u :: t) = ([], 0, 2) by
          have hs : tgstep (x :: y :: z :: u :: t) = (0, 2) := by rw [HS.out, if_pos g1]
          rw [tgget_bad HNE.out (by rw [hs]; decide), hs])
        clear g1
        go_enter Tryz.func33, Tryz.ntmps33
        go_wp2_with fail
        go_quiet (fail)
        all_goals go_wp2_with fail
        go_quiet (fail)
        all_goals go_wp2_with fail
        go_ret3
        exact getJ_bad E.out (below_drewN (Below.refl _ _) _)
      have j1 : ¬ (n4 : Int) < (mm : Int) := by omega
      by_cases g2 : tt = 0
      · have j2 : ((tt : Int) == 0) = true := by rw [g2]; rfl
        by_cases g3 : 0 < mm
        · have j3 : (0 : Int) < (mm : Int) := by omega
          have E := Lib.hid (show tgget (x :: y :: z :: u :: t) = ([], 0, 4) by
            have hs : tgstep (x :: y :: z :: u :: t) = (0, 4) := by rw [HS.out, if_neg g1, if_pos ⟨g2, g3⟩]
            rw [tgget_bad HNE.out (by rw [hs]; decide), hs])
          clear g1 g2 g3
          go_enter Tryz.func33, Tryz.ntmps33
          go_wp2_with fail
          go_quiet (fail)
          all_goals go_wp2_with fail
          go_quiet (fail)
          all_goals go_wp2_with fail
          go_ret3
          exact getJ_bad E.out (below_drewN (Below.refl _ _) _)
        · have j3 : ¬ (0 : Int) < (mm : Int) := by omega
          have E := Lib.hid (show tgget (x :: y :: z :: u :: t) = ([], 4, 0) from tgget_end (by rw [HS.out, if_neg g1, if_neg (fun h => g3 h.2)]) (by rw [HT.out, g2]))
          clear g1 g2 g3
          go_enter Tryz.func33, Tryz.ntmps33
          go_wp2_with fail
          go_quiet (fail)
          all_goals go_wp2_with fail
          go_quiet (fail)
          all_goals go_wp2_with fail
          go_ret3
          exact getJ_end E.out (below_drewN (Below.refl _ _) _)
      have j2 : ((tt : Int) == 0) = false := by rw [beq_eq_false_iff_ne]; omega
      obtain ⟨i0, hi, hz0, hz1, hz2⟩ := info_parts rtag_info
      obtain ⟨k4, hk4⟩ : ∃ a, 4 + mm = a := ⟨_, rfl⟩
      have hs : tgstep (x :: y :: z :: u :: t) = (k4, 0) := by rw [HS.out, if_neg g1, if_neg (fun h => g2 h.1), hk4]
      obtain ⟨dat, hdat⟩ : ∃ d, ((x :: y :: z :: u :: t).take k4).drop 4 = d := ⟨_, rfl⟩
      obtain ⟨r, hr⟩ : ∃ r, (x :: y :: z :: u :: t).drop k4 = r := ⟨_, rfl⟩
      obtain ⟨l2, m2, e2, hG⟩ : ∃ l m e, tgget r = (l, m, e) := ⟨_, _, _, rfl⟩
      have E0 := tgget_ok (b := x :: y :: z :: u :: t) (by rw [hs]) (by rw [HT.out]; exact g2)
      rw [hs, HT.out] at E0
      dsimp only at E0
      rw [hdat, hr, hG] at E0
      have hBr : By r := by rw [← hr]; exact HB.out.drop _
      have hlr : r.length = n - k4 := by rw [← hr, List.length_drop, HL.out]
      have hlen2 := tgget_len r hBr
      rw [hG, hlr] at hlen2
      obtain ⟨hl2, hm2⟩ := hlen2
      dsimp only at hl2 hm2
      have hRr : ∀ j, RdF F (w.drewN j) (if c = k4 then some ⟨bb, oo, none⟩ else some ⟨bb, oo + k4, none⟩) r := fun j => by
        rw [← hr]
        exact (HRF.out.cutAt (by rw [HL.out]; exact hc)).keep (.of_below (below_drewN (Below.refl _ _) j))
      have hRd : RdF F w (if c = 4 then some ⟨bb, oo, none⟩ else some ⟨bb, oo + 4, none⟩) dat := by
        rw [← hdat, List.drop_take]
        exact (HRF.out.cutAt (by rw [HL.out]; exact hc)).take _
      have hld : dat.length = mm := by rw [← hdat, List.length_drop, List.length_take, HL.out]; omega
      have HIH := Lib.hid (show ∀ j, Calls Tryz.prog 33 #[.slice (if c = k4 then some ⟨bb, oo, none⟩ else some ⟨bb, oo + k4, none⟩) (n - k4) (c - k4)] (w.drewN j) fun e w' => ∃ A2 c2, e = .returned (.tuple #[.slice A2 l2.length c2, .int .i64 (m2 : Int), .int .i64 (e2 : Int)]) ∧ Rws shG (fun b => F b ∧ b < w'.heap.size) w' A2 l2 ∧ Below w.heap.size w w' from fun j => by
        refine (ih r (n - k4) (c - k4) _ (w.drewN j) (by omega) (by omega) (hRr j) HFF.out hBr hlr (by omega)).mono ?_
        rintro e w' ⟨v, rfl, ho, hb⟩
        rw [hG] at ho ⊢
        obtain ⟨A2, c2, rfl, -, -, hrw⟩ := ho.slice
        have hj := below_drewN (Below.refl w.heap.size w) j
        exact ⟨A2, c2, rfl, hrw.mono (fun b hb hf => ⟨hf.elim id (HFF.out b), hb⟩), hj.trans (hb.mono hj.size)⟩)
      have HLIT := Lib.hid (show ∀ W : World, Below w.heap.size w W → Orw shG 83 F w.heap.size (W.alloc (.cells #[.int .u16 (tt : Int), .slice (if c = 4 then some ⟨bb, oo, none⟩ else some ⟨bb, oo + 4, none⟩) mm (c - 4)] 83)) (.slice (some ⟨W.heap.size, 0, none⟩) 1 1) [(tt, dat)] from fun W hW =>
        (litg W hld (by omega) (hRd.keep (.of_below hW))).lo hW.size)
      obtain ⟨k5, hk5⟩ : ∃ a, k4 + m2 = a := ⟨_, rfl⟩
      have p11 : IntKind.u16.wrap (tt : Int) = (tt : Int) := by apply IntWalk.u16_in; omega
      have p12 : (4 : Int) + (mm : Int) = (k4 : Int) := by omega
      have p13 : IntKind.i64.wrap (k4 : Int) = (k4 : Int) := IntWalk.i64_in _ (by omega)
      have p14 : (k4 : Int) ≤ (n : Int) := by omega
      have p15 : (0 : Int) ≤ (k4 : Int) := by omega
      have p16 : (k4 : Int) + (m2 : Int) = (k5 : Int) := by omega
      have p17 : IntKind.i64.wrap (k5 : Int) = (k5 : Int) := IntWalk.i64_in _ (by omega)
      have p18 : (k4 : Int) ≤ (c : Int) := by omega
      have p19 : (4 : Int) ≤ (k4 : Int) := by omega
      have p20 : (n : Int) ≤ (c : Int) := by omega
      have hl22 : l2.length ≤ 268435456 := by omega
      have hk44 : k4 - 4 = mm := by omega
      clear hRr hRd hs hdat hr g1 hlr hBr hl2 hm2 hld
      by_cases g4 : e2 = 0
      · have E := Lib.hid (show tgget (x :: y :: z :: u :: t) = ([(tt, dat)] ++ l2, k5, 0) by rw [E0]; unfold tgadd; rw [if_pos g4]; dsimp only; rw [hk5])
        have j4 : ((e2 : Int) != 0) = false := by rw [g4]; rfl
        clear E0 hG g2
        go_enter Tryz.func33, Tryz.ntmps33
        go_wp2_with fail
        go_quiet (fail)
        all_goals go_wp2_with fail
        go_quiet (fail)
        all_goals go_wp2_with (first
          | (go_at_call 33; (with_reducible refine (HIH.out _).mono ?_); rintro e wn ⟨A2, c2, rfl, hrw, hbn⟩; have HBN := Lib.hid hbn; have HRW := Lib.hid (show ∀ o, Rws shG (fun b => F b ∧ b < wn.heap.size) (wn.alloc o) A2 l2 from fun o => hrw.below ((Below.refl _ _).alloc (Nat.le_refl _) o)); clear hrw hbn; generalize (if c = k4 then (some ⟨bb, oo, none⟩ : Option Addr) else some ⟨bb, oo + k4, none⟩) = A9)
          | (at_builtin; refine list_rows shG rfl _ _ _ rfl 83 i0 (.agg #[.int .u16 0, .slice none 0 0]) 32 Tryz.underlying23 hi hz0 hz1 hz2 rfl (by decide) F _ w.heap.size _ 1 [(tt, dat)] rfl (HLIT.out _ HBN.out) rfl A2 l2.length c2 l2 rfl (HRW.out _) rfl (fun b _ hb => ⟨hb.1, fun e => Nat.lt_irrefl _ (Nat.lt_of_lt_of_eq hb.2 (Option.some.inj e))⟩) (by unfold maxLen; omega) (by omega) (HBN.out.alloc HBN.out.size _).size ?_; intro v7 w7 ho7 hg7 hm7; have C := Lib.hid (GJ.mk ho7 ((HBN.out.alloc HBN.out.size _).grown hg7 (HBN.out.alloc HBN.out.size _).size (fun g hg => ((HLIT.out _ HBN.out).lt hg).1))); clear ho7 hg7 hm7; generalize (if c = 4 then (some ⟨bb, oo, none⟩ : Option Addr) else some ⟨bb, oo + 4, none⟩) = A8))
        go_ret3
        exact ⟨_, by rw [E.out]; rfl, by rw [E.out]; exact C.out.own, C.out.bel⟩
      · have E := Lib.hid (show tgget (x :: y :: z :: u :: t) = ([], 0, e2) by rw [E0]; unfold tgadd; rw [if_neg g4])
        have j4 : ((e2 : Int) != 0) = true := by rw [bne_iff_ne]; omega
        clear E0 hG g2 g4
        go_enter Tryz.func33, Tryz.ntmps33
        go_wp2_with fail
        go_quiet (fail)
        all_goals go_wp2_with fail
        go_quiet (fail)
        all_goals go_wp2_with (go_at_call 33; (with_reducible refine (HIH.out _).mono ?_); rintro e wn ⟨A2, c2, rfl, hrw, hbn⟩; generalize (if c = k4 then (some ⟨bb, oo, none⟩ : Option Addr) else some ⟨bb, oo + k4, none⟩) = A9)
        go_ret3
        exact getJ_bad E.out hbn
theorem tgjget_any (F:Nat→Prop) (b:List Nat) (n c:Nat) (A:Option Addr) (w:World) (hF:∀ i,w.heap.size≤i→F i) (h:RdF F w A b) (hb:By b) (hl:b.length=n) (hn:n≤1073741824) (hc:n≤c) :
  Calls Tryz.prog 33 #[.slice A n c] w (GetJ F 83 b w):=tgjget_aux F n b n c A w (Nat.le_refl _) hn h hF hb hl hc
end
end Go.Proofs.YtmhjnghomihjlaaGreat
