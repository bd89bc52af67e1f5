/-
  What the document's Put and Lost of layer 19 answer. No condition beyond: packets that Go may have.
-/
import Derived.Test.YtmhjnghomihjlaaGreatLqrP
import Derived.Deep.CutRange
namespace Go.Proofs.YtmhjnghomihjlaaGreat
set_option maxRecDepth 8000
set_option maxHeartbeats 80000000
set_option linter.unusedVariables false
open Go.RowKit
theorem bare_first {p:Pk} {q:Pl} {w:World} (hp:Pw w p q) (h:bareP p=false):p.code≠0∨(p.code=0∧p.id≠0)∨(p.code=0∧p.id=0∧0<q.no)∨(p.code=0∧p.id=0∧q.no=0∧p.sub≠0)∨(p.code=0∧p.id=0∧q.no=0∧p.sub=0∧p.magic≠0)∨(p.code=0∧p.id=0∧q.no=0∧p.sub=0∧p.magic=0∧0<q.n1)∨(p.code=0∧p.id=0∧q.no=0∧p.sub=0∧p.magic=0∧q.n1=0∧0<q.n2)∨(p.code=0∧p.id=0∧q.no=0∧p.sub=0∧p.magic=0∧q.n1=0∧q.n2=0∧0<q.nd):=by
 have e0:=hp.lo
 have e1:=hp.l1
 have e2:=hp.l2
 have e3:=hp.ld
 have:¬ (p.code=0∧p.id=0∧p.sub=0∧p.magic=0∧p.opts.length=0∧p.one.length=0∧p.two.length=0∧p.data.length=0):=by
  rintro ⟨a1,a2,a3,a4,a5,a6,a7,a8⟩
  rw [bareP,a1,a2,a3,a4,a5,a6,a7,a8] at h
  simp at h
 omega
theorem bare_all {p:Pk} {q:Pl} {w:World} (hp:Pw w p q) (h:bareP p=true):p.code=0∧p.id=0∧q.no=0∧p.sub=0∧p.magic=0∧q.n1=0∧q.n2=0∧q.nd=0:=by
 have e0:=hp.lo
 have e1:=hp.l1
 have e2:=hp.l2
 have e3:=hp.ld
 simp only [bareP,Bool.and_eq_true,decide_eq_true_eq] at h
 omega
theorem ne0 {n:Nat} (h:n≠0):((n:Int) != 0)=true:=by rw [bne_iff_ne];omega
theorem eq0 {n:Nat} (h:n=0):((n:Int) != 0)=false:=by rw [bne_eq_false_iff_eq];omega
theorem lt0 {n:Nat} (h:0<n):(0:Int)<(n:Int):=by omega
theorem nl0 {n:Nat} (h:n=0):¬ (0:Int)<(n:Int):=by omega
theorem number_four (x:Nat) (hx:x<4294967296) (w:World) :
  Calls Tryz.prog 69 #[.int .i64 (x:Int),.int .i64 4] w fun e w'=>∃ A c,e=.returned (.slice A 4 c)∧w'.ownsRow w.heap.size 5 1 (.slice A 4 c) 4 (bvs (numB x 4))∧Below w.heap.size w w':=number_any x 4 hx (by omega) w
theorem rlput_kind (p:Pk) (q:Pl) (w:World) (h:p.proto≠49189) :
  Calls Tryz.prog 52 #[p.val q] w fun e w'=>PutR w [] 0 8 e w':=by
 have t1:((p.proto:Int) != 49189)=true:=by rw [bne_iff_ne];omega
 clear h
 go_enter Tryz.func52,Tryz.ntmps52
 go_wp2_with fail
 go_ret2
 exact PutR.mk none 0 rfl Rd.nil (Nat.le_refl _) ((Below.refl _ _).alloc (Nat.le_refl _) _)
theorem rlput_field (p:Pk) (q:Pl) (w:World) (hp:Pw w p q) (h:p.proto=49189) (hb:bareP p=false) :
  Calls Tryz.prog 52 #[p.val q] w fun e w'=>PutR w [] 0 9 e w':=by
 have t1:((p.proto:Int) != 49189)=false:=by rw [bne_eq_false_iff_eq];omega
 have hf:=bare_first hp hb
 clear h hb hp
 rcases hf with a0 | ⟨a0,a1⟩ | ⟨a0,a1,a2⟩ | ⟨a0,a1,a2,a3⟩ | ⟨a0,a1,a2,a3,a4⟩ | ⟨a0,a1,a2,a3,a4,a5⟩ | ⟨a0,a1,a2,a3,a4,a5,a6⟩ | ⟨a0,a1,a2,a3,a4,a5,a6,a7⟩
 ·have f0:=ne0 a0
  clear a0
  go_enter Tryz.func52,Tryz.ntmps52
  go_wp2_with fail
  go_ret2
  exact PutR.mk none 0 rfl Rd.nil (Nat.le_refl _) ((Below.refl _ _).alloc (Nat.le_refl _) _)
 ·have f0:=eq0 a0
  have f1:=ne0 a1
  clear a0 a1
  go_enter Tryz.func52,Tryz.ntmps52
  go_wp2_with fail
  go_ret2
  exact PutR.mk none 0 rfl Rd.nil (Nat.le_refl _) ((Below.refl _ _).alloc (Nat.le_refl _) _)
 ·have f0:=eq0 a0
  have f1:=eq0 a1
  have f2:=lt0 a2
  clear a0 a1 a2
  go_enter Tryz.func52,Tryz.ntmps52
  go_wp2_with fail
  go_ret2
  exact PutR.mk none 0 rfl Rd.nil (Nat.le_refl _) ((Below.refl _ _).alloc (Nat.le_refl _) _)
 ·have f0:=eq0 a0
  have f1:=eq0 a1
  have f2:=nl0 a2
  have f3:=ne0 a3
  clear a0 a1 a2 a3
  go_enter Tryz.func52,Tryz.ntmps52
  go_wp2_with fail
  go_ret2
  exact PutR.mk none 0 rfl Rd.nil (Nat.le_refl _) ((Below.refl _ _).alloc (Nat.le_refl _) _)
 ·have f0:=eq0 a0
  have f1:=eq0 a1
  have f2:=nl0 a2
  have f3:=eq0 a3
  have f4:=ne0 a4
  clear a0 a1 a2 a3 a4
  go_enter Tryz.func52,Tryz.ntmps52
  go_wp2_with fail
  go_ret2
  exact PutR.mk none 0 rfl Rd.nil (Nat.le_refl _) ((Below.refl _ _).alloc (Nat.le_refl _) _)
 ·have f0:=eq0 a0
  have f1:=eq0 a1
  have f2:=nl0 a2
  have f3:=eq0 a3
  have f4:=eq0 a4
  have f5:=lt0 a5
  clear a0 a1 a2 a3 a4 a5
  go_enter Tryz.func52,Tryz.ntmps52
  go_wp2_with fail
  go_ret2
  exact PutR.mk none 0 rfl Rd.nil (Nat.le_refl _) ((Below.refl _ _).alloc (Nat.le_refl _) _)
 ·have f0:=eq0 a0
  have f1:=eq0 a1
  have f2:=nl0 a2
  have f3:=eq0 a3
  have f4:=eq0 a4
  have f5:=nl0 a5
  have f6:=lt0 a6
  clear a0 a1 a2 a3 a4 a5 a6
  go_enter Tryz.func52,Tryz.ntmps52
  go_wp2_with fail
  go_ret2
  exact PutR.mk none 0 rfl Rd.nil (Nat.le_refl _) ((Below.refl _ _).alloc (Nat.le_refl _) _)
 ·have f0:=eq0 a0
  have f1:=eq0 a1
  have f2:=nl0 a2
  have f3:=eq0 a3
  have f4:=eq0 a4
  have f5:=nl0 a5
  have f6:=nl0 a6
  have f7:=lt0 a7
  clear a0 a1 a2 a3 a4 a5 a6 a7
  go_enter Tryz.func52,Tryz.ntmps52
  go_wp2_with fail
  go_ret2
  exact PutR.mk none 0 rfl Rd.nil (Nat.le_refl _) ((Below.refl _ _).alloc (Nat.le_refl _) _)
theorem rlput_range (p:Pk) (q:Pl) (w:World) (hp:Pw w p q) (h:p.proto=49189) (hb:bareP p=true) (hn:q.nn≠12) :
  Calls Tryz.prog 52 #[p.val q] w fun e w'=>PutR w [] 0 5 e w':=by
 have t1:((p.proto:Int) != 49189)=false:=by rw [bne_eq_false_iff_eq];omega
 have t2:((q.nn:Int) != 12)=true:=by rw [bne_iff_ne];omega
 obtain ⟨a0,a1,a2,a3,a4,a5,a6,a7⟩:=bare_all hp hb
 have f0:=eq0 a0
 have f1:=eq0 a1
 have f2:=nl0 a2
 have f3:=eq0 a3
 have f4:=eq0 a4
 have f5:=nl0 a5
 have f6:=nl0 a6
 have f7:=nl0 a7
 clear h hb hp hn a0 a1 a2 a3 a4 a5 a6 a7
 go_enter Tryz.func52,Tryz.ntmps52
 go_wp2_with fail
 go_ret2
 exact PutR.mk none 0 rfl Rd.nil (Nat.le_refl _) ((Below.refl _ _).alloc (Nat.le_refl _) _)
theorem rlput_ok0 (p:Pk) (q:Pl) (w:World) (hp:Pw w p { q with no:=0,n1:=0,n2:=0,nd:=0 }) (h:p.proto=49189) (a0:p.code=0) (a1:p.id=0) (a3:p.sub=0) (a4:p.magic=0) (hn:q.nn=12) (h32:N32 p.nums) :
  Calls Tryz.prog 52 #[p.val { q with no:=0,n1:=0,n2:=0,nd:=0 }] w fun e w'=>PutR w (octN p.nums) 48 0 e w':=by
 obtain ⟨i0,hi,hz0,hz1,hz2⟩:=info_parts byte_info
 have t1:((p.proto:Int) != 49189)=false:=by rw [bne_eq_false_iff_eq];omega
 have t2:((q.nn:Int) != 12)=false:=by rw [bne_eq_false_iff_eq];omega
 have f0:=eq0 a0
 have f1:=eq0 a1
 have f3:=eq0 a3
 have f4:=eq0 a4
 have C0:=hI (BxC.made 29 w p { q with no:=0,n1:=0,n2:=0,nd:=0 })
 have H:=hI hp
 have HL:=hI (hp.ln.trans hn)
 have H32:=hI h32
 have HQ:=hI hn
 clear h hp hn h32 a0 a1 a3 a4
 go_enter Tryz.func52,Tryz.ntmps52
 go_upto_region 1 with fail
 with_reducible refine at_worldP (fun W=>Hid (BxC 29 w W p { q with no:=0,n1:=0,n2:=0,nd:=0 })) C0 ?_
 clear C0
 rintro wb C
 obtain ⟨x0,x1,x2,x3,x4,x5,x6,x7,x8,x9⟩:=C.out.cf.all
 have O0:=hI (World.ownsRow_lit (base:=wb.heap.size) (e:=5) (size:=1) wb #[] 0 (Nat.le_refl _) (by unfold maxLen;omega) rfl)
 have B0:=hI ((Below.refl wb.heap.size wb).alloc (Nat.le_refl _) (.cells #[] 5))
 go_wp2_with fail
 have HP:=hI (H.out.on C.out.bel)
 clear H x0 x1 x2 x3 x4 x5 x6 x7 x8 x9
 go_loopw [4,5] (fun v i wr=>∃ k:Nat,k≤12∧i=.int .i64 k∧∃ A c,v=.slice A (4*k:Nat) c∧wr.ownsRow wb.heap.size 5 1 (.slice A (4*k:Nat) c) (4*k) (bvs (octN (p.nums.take k)))∧Hid (Below wb.heap.size wb wr)) (fun _ i _=>12 - (intOf i).toNat)
 case atStart=>exact ⟨0,by omega,rfl,_,_,rfl,O0.out,B0⟩
 case round =>
  clear O0 B0
  obtain ⟨k,hk,rfl,A,c,rfl,hown,hbel⟩:=hrel
  by_cases hlt:k<12
  ·obtain ⟨b1,o1,x,e1,hx,c1⟩:=(HP.out.rn.below hbel.out).num (k:=k) (by rw [HL.out];exact hlt)
   have hx2:=H32.out _ (List.mem_of_getElem? hx)
   obtain ⟨x0,x1,x2,x3,x4,x5,x6,x7,x8,x9⟩:=(C.out.step hbel.out).cf.all
   dsimp only at x3 x6 x7 x8 x9 e1
   rw [e1] at x9
   clear e1
   have i1:(0:Int)≤(k:Int):=by omega
   have i2:(k:Int)<(q.nn:Int):=by rw [HQ.out];omega
   have OW:=hI hown
   have E:=hI (octN_take hx)
   clear hown hx
   go_wp2_with (first
    | (go_at_call 69;(with_reducible refine (number_four x hx2 _).mono ?_);rintro e wn ⟨A4,c4,rfl,h4,hb⟩;have H4:=hI (Rd.own h4);have HB4:=hI (hbel.out.trans (hb.mono hbel.out.size));replace OW:=hI (own_below OW.out hb);clear h4 hb)
    | (at_builtin;refine list_app rfl _ _ _ rfl _ i0 Tryz.underlying26 hi hz0 hz1 hz2 _ _ (4*k) _ rfl OW.out _ _ 4 _ (numB x 4) rfl H4.out (num_len x 4) (by omega) HB4.out.size ?_;intro A6 c6 w6 ho6 hg6;rw [←E.out] at ho6;have HO:=hI ho6;have HB6:=hI (HB4.out.grown hg6 HB4.out.size (fun g hg=>(OW.out.lt g hg).1));clear hg6 ho6))
   go_roundw
   case rel=>exact ⟨k+1,by omega,by go_num,A6,c6,by rw [show 4*(k+1)=4*k+4 by omega],by rw [show 4*(k+1)=4*k+4 by omega];exact HO.out,HB6⟩
   case measure=>simp [intOf];omega
  ·have he:k=12:=by omega
   subst he
   rw [List.take_of_length_le (by rw [HL.out];exact Nat.le_refl _)] at hown
   have OW:=hI hown
   clear hown
   go_wp2_with fail
   go_ret2
   exact PutR.mk A c rfl (Rd.own OW.out) (own_cap OW.out) ((C.out.step hbel.out).bel)
theorem rlput_ok (p:Pk) (q:Pl) (w:World) (hp:Pw w p q) (h:p.proto=49189) (hb:bareP p=true) (hn:q.nn=12) (h32:N32 p.nums) :
  Calls Tryz.prog 52 #[p.val q] w fun e w'=>PutR w (octN p.nums) 48 0 e w':=by
 obtain ⟨a0,a1,a2,a3,a4,a5,a6,a7⟩:=bare_all hp hb
 have e:{ q with no:=0,n1:=0,n2:=0,nd:=0 }=q:=by
  obtain ⟨b0,b1,b2,b3,b4,b5,b6,b7,b8,b9,c0,c1,c2,c3,c4⟩:=q
  simp only at a2 a5 a6 a7
  subst a2;subst a5;subst a6;subst a7
  rfl
 have h1:=rlput_ok0 p q w (by rw [e];exact hp) h a0 a1 a3 a4 hn h32
 rw [e] at h1
 exact h1
theorem rlput_any (p:Pk) (q:Pl) (w:World) (hp:Pw w p q) (h32:N32 p.nums) (m:List Nat) (k:Nat) (hm:lqputB p=(m,k)) (n:Nat) (hn:m.length=n) :
  Calls Tryz.prog 52 #[p.val q] w fun e w'=>PutR w m n k e w':=by
 subst hn
 unfold lqputB at hm
 by_cases h1:p.proto=49189
 ·rw [if_pos h1] at hm
  cases h2:bareP p
  ·rw [if_neg (by rw [h2];decide)] at hm
   injection hm with e1 e2
   subst e1;subst e2
   exact rlput_field p q w hp h1 h2
  ·rw [if_pos h2] at hm
   by_cases h3:p.nums.length=12
   ·rw [if_pos h3] at hm
    injection hm with e1 e2
    subst e1;subst e2
    rw [octN_len,h3]
    exact rlput_ok p q w hp h1 h2 (by rw [←hp.ln,h3]) h32
   ·rw [if_neg h3] at hm
    injection hm with e1 e2
    subst e1;subst e2
    exact rlput_range p q w hp h1 h2 (by rw [←hp.ln];exact h3)
 ·rw [if_neg h1] at hm
  injection hm with e1 e2
  subst e1;subst e2
  exact rlput_kind p q w h1
end Go.Proofs.YtmhjnghomihjlaaGreat
