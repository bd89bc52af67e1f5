/-
  How great a frame is that is read. No condition beyond: at most 2^30 octets.
-/
import Derived.Test.YtmhjnghomihjlaaGreatEthM
import Derived.Test.YtmhjnghomihjlaaGreatGPkt
namespace Go.Proofs.YtmhjnghomihjlaaGreat
set_option maxRecDepth 8000
set_option maxHeartbeats 80000000
set_option linter.unusedVariables false
open Go.RowKit
theorem bput_pk0:bputB pk0=([],7):=by decide
theorem eget_sm {b:List Nat} (hb:By b) (hl:b.length≤1073741824) {f:Fr} {n k:Nat} (h:egetB b=(f,n,k)) :
  ByG f.tags∧f.pkt.sm∧f.tags.length≤b.length∧tgdat f.tags≤b.length∧(bputB f.pkt).1.length≤b.length:=by
 by_cases hk:k=0
 ·subst hk
  obtain ⟨s1,s2,n1,n2,t,rfl,hs,hc,hn,h15,hle,hr⟩:=eget_ok h
  have ht:By t:=fun x hx=>hb x (by simp [hx])
  have htl:t.length≤1073741824:=by simp only [List.length_cons] at hl;omega
  generalize hz:n1*256+n2=z at *
  have hp:By (t.take z):=ht.take z
  have hpl:(t.take z).length=z:=by rw [List.length_take];omega
  have hbl:z≤(17 :: f.code :: s1 :: s2 :: n1 :: n2 :: t).length:=by simp only [List.length_cons];omega
  generalize t.take z=m at *
  unfold eread at hr
  by_cases g1:f.code=0
  ·rw [if_pos g1] at hr
   match m,hr with
   | [],hr=>exact absurd (ebad_ne hr) (by decide)
   | [_],hr=>exact absurd (ebad_ne hr) (by decide)
   | x :: y :: u,hr =>
    dsimp only at hr
    have hx:x<256:=hp x (by simp)
    have hy:y<256:=hp y (by simp)
    have hu:By u:=fun a ha=>hp a (by simp [ha])
    have hul:u.length+2=z:=by rw [←hpl];simp
    obtain ⟨yy,k,hg⟩:∃ yy k,bgetB (x*256+y) u=(yy,k):=⟨_,_,rfl⟩
    rw [hg] at hr
    dsimp only at hr
    by_cases g2:k=0
    ·subst g2
     rw [if_pos rfl] at hr
     have ef:f=⟨f.code,f.sess,[],yy⟩:=by
      injection hr with e _
      exact e.symm
     obtain ⟨-,o1⟩:=bget_ok (by omega) hu hg (by omega)
     obtain ⟨o2,mm,o3,o4,-⟩:=bput_get (by omega) hu hg
     have e1:f.tags=[]:=by rw [ef]
     have e2:f.pkt=yy:=by rw [ef]
     rw [e1,e2,o3]
     exact ⟨fun _ h=>(List.not_mem_nil h).elim,o1,Nat.zero_le _,Nat.zero_le _,by dsimp only;omega⟩
    ·rw [if_neg g2] at hr
     exact absurd (ebad_ne hr) g2
  ·rw [if_neg g1] at hr
   obtain ⟨ll,cc,k,hg⟩:∃ l c k,tgget m=(l,c,k):=⟨_,_,_,rfl⟩
   rw [hg] at hr
   dsimp only at hr
   by_cases g2:k=0
   ·subst g2
    rw [if_pos rfl] at hr
    have ef:f=⟨f.code,f.sess,ll,pk0⟩:=by
     injection hr with e _
     exact e.symm
    obtain ⟨g3,g4,g5,g6,g7⟩:=tgput_get m hp (by rw [hg])
    rw [hg] at g3 g4 g5 g6 g7
    dsimp only at g3 g4 g5 g6 g7
    have e1:f.tags=ll:=by rw [ef]
    have e2:f.pkt=pk0:=by rw [ef]
    have g8:=congrArg List.length g3
    rw [List.length_take] at g8
    have g9:=tgput_len ll
    rw [e1,e2,bput_pk0]
    exact ⟨g5,sm0,by omega,by omega,Nat.zero_le _⟩
   ·rw [if_neg g2] at hr
    exact absurd (ebad_ne hr) g2
 ·obtain ⟨rfl,-⟩:=eget_err h hk
  exact ⟨fun _ h=>(List.not_mem_nil h).elim,sm0,Nat.zero_le _,Nat.zero_le _,by show (bputB pk0).1.length≤_;rw [bput_pk0];exact Nat.zero_le _⟩
end Go.Proofs.YtmhjnghomihjlaaGreat
