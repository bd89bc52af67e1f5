/-
  The mathematics of frames on an Ethernet: what Put, Get and Answers answer, by the layers ahead; what is written is read again, whatever stands behind it; what is read can be written; a frame cut off.
-/
import Derived.Test.YtmhjnghomihjlaaGreatGMat
import Derived.Test.YtmhjnghomihjlaaGreatGTag
namespace Go.Proofs.YtmhjnghomihjlaaGreat
set_option maxRecDepth 8000
set_option maxHeartbeats 80000000
set_option linter.unusedVariables false
open Go.RowKit
structure Fr where
 code:Nat
 sess:Nat
 tags:List (Nat × List Nat)
 pkt:Pk
deriving DecidableEq
def fr0:Fr:=⟨0,0,[],pk0⟩
structure Fr.ok (f:Fr):Prop where
 code:f.code<256
 sess:f.sess<65536
 tags:ByG f.tags
 pkt:f.pkt.ok
def ecode (c s:Nat):Nat :=
 if c=0∨c=167 then (if s=0 then 5 else 0)
 else if c=7∨c=9∨c=25 then (if s=0 then 0 else 5)
 else if c=101 then 0 else 8
def epay (f:Fr):List Nat × Nat :=
 if f.code=0 then
  if f.tags=[] then
   if (bputB f.pkt).2=0 then (f.pkt.proto / 256 :: f.pkt.proto % 256 :: (bputB f.pkt).1,0) else ([],(bputB f.pkt).2)
  else ([],9)
 else if f.pkt=pk0 then
  if tgerr f.tags=0 then (tgput f.tags,0) else ([],tgerr f.tags)
 else ([],9)
def elay (f:Fr) (m:List Nat):List Nat:=17 :: f.code :: f.sess / 256 :: f.sess % 256 :: m.length / 256 :: m.length % 256 :: m
def eputB (f:Fr):List Nat × Nat :=
 if ecode f.code f.sess=0 then
  if (epay f).2=0 then
   if (epay f).1.length≤1494 then (elay f (epay f).1,0) else ([],3)
  else ([],(epay f).2)
 else ([],ecode f.code f.sess)
def ebad (k:Nat):Fr × Nat × Nat:=(fr0,0,k)
def eread (c s n:Nat) (m:List Nat):Fr × Nat × Nat :=
 if c=0 then
  match m with
  | x :: y :: t=>if (bgetB (x*256+y) t).2=0 then (⟨c,s,[],(bgetB (x*256+y) t).1⟩,6+n,0) else ebad (bgetB (x*256+y) t).2
  | _=>ebad 2
 else if (tgget m).2.2=0 then (⟨c,s,(tgget m).1,pk0⟩,6+n,0) else ebad (tgget m).2.2
def egetB:List Nat→Fr × Nat × Nat
 | v :: c :: s1 :: s2 :: n1 :: n2 :: t =>
  if v=17 then
   if ecode c (s1*256+s2)=0 then
    if n1*256+n2≤1494 then
     if n1*256+n2≤t.length then eread c (s1*256+s2) (n1*256+n2) (t.take (n1*256+n2)) else ebad 2
    else ebad 3
   else ebad (ecode c (s1*256+s2))
  else ebad 4
 | _=>ebad 2
def euniq (l:List (Nat × List Nat)):Option (List Nat):=(l.find? fun o=>o.1 == 259).map fun o=>o.2
def eansB (f o : Fr) : Bool :=
  (decide (f.code = 7) && decide (o.code = 9) || decide (f.code = 101) && decide (o.code = 25)) &&
    (match euniq o.tags with
     | none => true
     | some x => decide (euniq f.tags = some x))
theorem elay_len (f:Fr) (m:List Nat):(elay f m).length=m.length+6:=rfl
theorem eput_ok {f:Fr} {m:List Nat} (h:eputB f=(m,0)):ecode f.code f.sess=0∧(epay f).2=0∧(epay f).1.length≤1494∧m=elay f (epay f).1:=by
 unfold eputB at h
 by_cases h1:ecode f.code f.sess=0
 ·rw [if_pos h1] at h
  by_cases h2:(epay f).2=0
  ·rw [if_pos h2] at h
   by_cases h3:(epay f).1.length≤1494
   ·rw [if_pos h3] at h
    injection h with e _
    exact ⟨h1,h2,h3,e.symm⟩
   ·rw [if_neg h3] at h
    injection h with _ e
    exact absurd e (by decide)
  ·rw [if_neg h2] at h
   injection h with _ e
   exact absurd e h2
 ·rw [if_neg h1] at h
  injection h with _ e
  exact absurd e h1
theorem eput_err {f:Fr} {m:List Nat} {k:Nat} (h:eputB f=(m,k)) (hk:k≠0):m=[]:=by
 unfold eputB at h
 split at h
 ·split at h
  ·split at h
   ·injection h with _ e
    exact absurd e.symm hk
   ·injection h with e _
    exact e.symm
  ·injection h with e _
   exact e.symm
 ·injection h with e _
  exact e.symm
theorem ebad_ne {k:Nat} {f:Fr} {n:Nat} (h:ebad k=(f,n,0)):k=0:=by
 unfold ebad at h
 injection h with _ h
 injection h with _ h
theorem eget_ok {b:List Nat} {f:Fr} {n:Nat} (h:egetB b=(f,n,0)):∃ s1 s2 n1 n2 t,b=17 :: f.code :: s1 :: s2 :: n1 :: n2 :: t∧f.sess=s1*256+s2∧ecode f.code f.sess=0∧n=6+(n1*256+n2)∧n1*256+n2≤1494∧n1*256+n2≤t.length∧eread f.code f.sess (n1*256+n2) (t.take (n1*256+n2))=(f,n,0):=by
 match b,h with
 | [],h=>exact absurd (ebad_ne h) (by decide)
 | [_],h=>exact absurd (ebad_ne h) (by decide)
 | [_,_],h=>exact absurd (ebad_ne h) (by decide)
 | [_,_,_],h=>exact absurd (ebad_ne h) (by decide)
 | [_,_,_,_],h=>exact absurd (ebad_ne h) (by decide)
 | [_,_,_,_,_],h=>exact absurd (ebad_ne h) (by decide)
 | v :: c :: s1 :: s2 :: n1 :: n2 :: t,h =>
  simp only [egetB] at h
  by_cases g1:v=17
  ·rw [if_pos g1] at h
   by_cases g2:ecode c (s1*256+s2)=0
   ·rw [if_pos g2] at h
    by_cases g3:n1*256+n2≤1494
    ·rw [if_pos g3] at h
     by_cases g4:n1*256+n2≤t.length
     ·rw [if_pos g4] at h
      have key:f.code=c∧f.sess=s1*256+s2∧n=6+(n1*256+n2):=by
       have h':=h
       unfold eread at h'
       split at h'
       ·split at h'
        ·split at h'
         ·injection h' with e1 e2
          injection e2 with e2 _
          subst e1
          exact ⟨rfl,rfl,e2.symm⟩
         ·rename_i g5
          exact absurd (ebad_ne h') g5
        ·exact absurd (ebad_ne h') (by decide)
       ·split at h'
        ·injection h' with e1 e2
         injection e2 with e2 _
         subst e1
         exact ⟨rfl,rfl,e2.symm⟩
        ·rename_i g5
         exact absurd (ebad_ne h') g5
      obtain ⟨e1,e2,e3⟩:=key
      subst g1
      exact ⟨s1,s2,n1,n2,t,by rw [e1],e2,by rw [e1,e2];exact g2,e3,g3,g4,by rw [e1,e2];exact h⟩
     ·rw [if_neg g4] at h
      exact absurd (ebad_ne h) (by decide)
    ·rw [if_neg g3] at h
     exact absurd (ebad_ne h) (by decide)
   ·rw [if_neg g2] at h
    exact absurd (ebad_ne h) g2
  ·rw [if_neg g1] at h
   exact absurd (ebad_ne h) (by decide)
theorem eget_err {b:List Nat} {f:Fr} {n k:Nat} (h:egetB b=(f,n,k)) (hk:k≠0):f=fr0∧n=0:=by
 have bad:∀ {j:Nat},ebad j=(f,n,k)→f=fr0∧n=0:=fun e=>by
  unfold ebad at e
  injection e with e1 e2
  injection e2 with e2 _
  exact ⟨e1.symm,e2.symm⟩
 match b,h with
 | [],h=>exact bad h
 | [_],h=>exact bad h
 | [_,_],h=>exact bad h
 | [_,_,_],h=>exact bad h
 | [_,_,_,_],h=>exact bad h
 | [_,_,_,_,_],h=>exact bad h
 | v :: c :: s1 :: s2 :: n1 :: n2 :: t,h =>
  simp only [egetB] at h
  split at h
  ·split at h
   ·split at h
    ·split at h
     ·unfold eread at h
      split at h
      ·split at h
       ·split at h
        ·injection h with _ e
         injection e with _ e
         exact absurd e.symm hk
        ·exact bad h
       ·exact bad h
      ·split at h
       ·injection h with _ e
        injection e with _ e
        exact absurd e.symm hk
       ·exact bad h
     ·exact bad h
    ·exact bad h
   ·exact bad h
  ·exact bad h
theorem eput_len {f:Fr} {m:List Nat} {k:Nat} (h:eputB f=(m,k)):m.length≤1500:=by
 by_cases hk:k=0
 ·subst hk
  obtain ⟨h1,h2,h3,rfl⟩:=eput_ok h
  rw [elay_len]
  omega
 ·rw [eput_err h hk]
  exact Nat.zero_le _
end Go.Proofs.YtmhjnghomihjlaaGreat
