/-
  What the program's Get of layer 19 answers. No condition beyond: at most 2^30 octets.
-/
import Derived.Test.YtmhjnghomihjlaaGreatLqrP
import Derived.Test.YtmhjnghomihjlaaGreatGPkt
import Derived.Deep.CutRange
import Derived.OwnWalk
import Derived.Laws.BitsAll
namespace Go.Proofs.YtmhjnghomihjlaaGreat
set_option maxRecDepth 8000
set_option maxHeartbeats 80000000
set_option linter.unusedVariables false
open Go.RowKit
def nvs (l:List Nat):List Value:=l.map fun x:Nat=>.int .u32 (x:Int)
theorem nvs_len (l:List Nat):(nvs l).length=l.length:=by simp [nvs]
theorem nvs_set (l:List Nat) (k x:Nat):(nvs l).set k (.int .u32 (x:Int))=nvs (l.set k x):=by simp [nvs,List.map_set]
theorem nvs_at {l:List Nat} {k x:Nat} (h:l[k]?=some x):(nvs l)[k]?=some (.int .u32 (x:Int)):=by simp [nvs,h]
theorem word_info:(Tryz.prog.info? 25).map (fun i=>(i.zero,i.size,i.bytes))=some (some (.int .u32 0),1,4):=by kernel_rfl
theorem flat_one (l:List Nat):(l.map fun x:Nat=>[Value.int .u32 (x:Int)]).flatten=nvs l:=by
 induction l with
 | nil=>rfl
 | cons x l ih=>rw [List.map_cons,List.flatten_cons,ih];rfl
theorem orw_own {w:World} {base n:Nat} {v:Value} {l:List Nat} (h:w.ownsRow base 25 1 v n (nvs l)):Orw shN 25 (fun _=>False) base w v l:=by
 have hn:n=l.length:=by have:=h.1;rw [nvs_len] at this;omega
 subst hn
 refine ⟨l.map fun x:Nat=>[Value.int .u32 (x:Int)],by simp,by rw [flat_one];exact h,fun k x cs hx hc=>?_⟩
 rw [List.getElem?_map,hx] at hc
 simp at hc
 subst hc
 rfl
theorem rws_own {w:World} {base n c:Nat} {A:Option Addr} {l:List Nat} (h:w.ownsRow base 25 1 (.slice A n c) n (nvs l)):Rws shN (fun b=>base≤b) w A l :=
 (orw_own h).read.mono fun _ _ hf=>hf.elim False.elim id
theorem made12:(madeCells (Value.cells (.int .u32 0)) (12*1)).toList=nvs (List.replicate 12 0):=by
 have:Value.cells (.int .u32 0)=#[.int .u32 0]:=rfl
 rw [this,toList_madeCells_one]
 simp [nvs]
theorem word_or (v x:Nat) (hv:v<16777216) (hx:x<256):bits .or .u32 ((v:Int)*256 % 4294967296) (x:Int)=((v*256+x:Nat):Int):=by
 have e:((v:Int)*256 % 4294967296)=((2 ^ 8*v:Nat):Int):=by omega
 rw [e,u32_or_nat _ _ (by omega) (by omega),← Nat.two_pow_add_eq_or_of_lt (show x<2 ^ 8 by omega) v]
 congr 1
 omega
theorem qget_short (b:List Nat) (n c:Nat) (A:Option Addr) (w:World) (h:n<48) :
  Calls Tryz.prog 159 #[.slice A n c] w (GetN w pk0 2):=by
 have C:=hI (GeC.made 40 w)
 have j1:(n:Int)<48:=by omega
 clear h
 go_enter Tryz.func159,Tryz.ntmps159
 go_upto_region 1 with fail
 with_reducible refine at_worldP (fun W=>Hid (GeC 40 w W)) C ?_
 clear C
 rintro W C
 obtain ⟨y0,y1,y2,y3,y4,y5,y6,y7,y8,y9⟩:=C.out.res.all
 obtain ⟨z0,z1,z2,z3,z4,z5,z6,z7,z8,z9⟩:=C.out.res.free
 go_wp2_with fail
 refine bodyPost_ret (v:=.tuple #[pk0.val pl0,.int .i64 2]) ?_ rfl (GetN.mk pl0 rfl pwF0 (put10_below C.out.bel (Nat.le_refl _) pk0 pl0))
 exact results_row_tmpP rfl _ _ _ w.heap.size 40 _ _ _ rfl rfl (put10_px C.out.res pk0 pl0) Tryz.underlying40 (by kernel_rfl)
theorem qget_ok (b:List Nat) (n c:Nat) (A:Option Addr) (w:World) (h:Rd w w.heap.size A b) (hb:By b) (hl:b.length=n) (hc:n≤c) (h48:48≤n) :
  Calls Tryz.prog 159 #[.slice A n c] w (GetN w (repP (rdN b 12)) 0):=by
 obtain ⟨i0,hi,hz0,hz1,hz2⟩:=info_parts word_info
 have C:=hI (GeC.made 40 w)
 have HR:=hI h
 have HB:=hI hb
 have HL:=hI hl
 have j1:¬ (n:Int)<48:=by omega
 have j2:(48:Int)≤(c:Int):=by omega
 have j3:(48:Int)≤(n:Int):=by omega
 have j4:(48:Nat)≤c:=by omega
 clear h hb hl
 go_enter Tryz.func159,Tryz.ntmps159
 go_upto_region 1 with fail
 with_reducible refine at_worldP (fun W=>Hid (GeC 40 w W)) C ?_
 clear C
 rintro W C
 obtain ⟨w4,hmk,hown,hg4⟩:=run_make_full (P:=Tryz.prog) (w:=W) W.heap.size 27 25 i0 (.int .u32 0) 1 Tryz.underlying27 hi hz0 hz1 .i64 .i64 12 (by rw [hz2];omega) (by unfold maxLen;omega) (Nat.le_refl _)
 rw [show ((12:Nat):Int)=12 from rfl] at hmk
 rw [made12,← acL_zero b] at hown
 have HB4:=hI ((Below.refl W.heap.size W).grown hg4 (Nat.le_refl _) (fun k hk=>by cases hk))
 clear hg4
 go_wp2_with fail
 clear hmk
 obtain ⟨g,hgg⟩:∃ g,Hid (W.heap.size=g):=⟨_,hI rfl⟩
 have GT:=hI (show w.heap.size<g by rw [←hgg.out];exact C.out.res.lt)
 rw [hgg.out] at hown ⊢
 go_loopw [15] (fun i wr=>∃ k:Nat,k≤48∧i=.int .i64 k∧wr.ownsRow g 25 1 (.slice (some ⟨g,0,none⟩) 12 12) 12 (nvs (acL b k))∧Hid (Below W.heap.size W wr)) (fun i _=>48 - (intOf i).toNat)
 case atStart=>exact ⟨0,by omega,rfl,hown,HB4⟩
 case round =>
  clear hown HB4
  obtain ⟨k,hk,rfl,hown,hbel⟩:=hrel
  by_cases hlt:k<48
  ·obtain ⟨bb,oo,x,e1,hbb,hx,hcx⟩:=((HR.out.below C.out.bel).more C.out.bel.size |>.ons hbel.out).at_ (k:=k) (by rw [HL.out];omega)
   have hx256:=HB.out.get hx
   have i1:(0:Int)≤(k:Int):=by omega
   have i2:(k:Int)<48:=by omega
   obtain ⟨j,hj⟩:∃ j,k / 4=j:=⟨_,rfl⟩
   have i3:(k:Int) / 4=(j:Int):=by omega
   have i4:(0:Int)≤(j:Int):=by omega
   have i5:(j:Int)<12:=by omega
   have hc0:=hown.cellAt j (by omega)
   have hf0:=hown.frozenAt j
   rw [nvs_at (acL_at b k j (by omega))] at hc0
   have hst:=hown.stored j (.int .u32 ((acN b k j*256+x:Nat):Int))
   rw [nvs_set,← hj,acL_step hx hlt,hj] at hst
   have HS:=hI hst.1
   have EO:=hI (word_or (acN b k j) x (by rw [←hj];exact acN_lt HB.out k) hx256)
   subst e1
   clear hx hst hown
   go_wp2_with fail
   rw [EO.out]
   go_roundw
   case rel=>exact ⟨k+1,by omega,by go_num,HS.out,hbel.out.setCell (p:=⟨g,j,none⟩) (Nat.le_of_eq hgg.out) _⟩
   case measure=>simp [intOf];omega
  ·have he:k=48:=by omega
   subst he
   rw [acL_end] at hown
   have OW:=hI hown
   clear hown
   replace C:=hI (C.out.step hbel.out)
   obtain ⟨y0,y1,y2,y3,y4,y5,y6,y7,y8,y9⟩:=C.out.res.all
   obtain ⟨z0,z1,z2,z3,z4,z5,z6,z7,z8,z9⟩:=C.out.res.free
   go_wp2_with fail
   refine bodyPost_ret (v:=.tuple #[Pk.val (repP (rdN b 12)) { pl0 with an:=some ⟨g,0,none⟩,nn:=12,cn:=12 },.int .i64 0]) ?_ rfl (GetN.mk { pl0 with an:=some ⟨g,0,none⟩,nn:=12,cn:=12 } rfl ?_ (put10_below C.out.bel (Nat.le_refl _) (repP (rdN b 12)) { pl0 with an:=some ⟨g,0,none⟩,nn:=12,cn:=12 }))
   ·exact results_row_tmpP rfl _ _ _ w.heap.size 40 _ _ _ rfl rfl (put10_px C.out.res (repP (rdN b 12)) { pl0 with an:=some ⟨g,0,none⟩,nn:=12,cn:=12 }) Tryz.underlying40 (by kernel_rfl)
   ·have hr:=((rws_own OW.out).mono (G:=fun i=>w.heap.size<i) (fun i _ hi=>Nat.lt_of_lt_of_le GT.out hi)).keep ((put10_keeps wr w.heap.size (repP (rdN b 12)) { pl0 with an:=some ⟨g,0,none⟩,nn:=12,cn:=12 }).less (fun i _ hi=>Nat.ne_of_gt hi))
    exact ⟨rfl,Rws.nilO,rfl,RdF.nil,rfl,RdF.nil,rfl,RdF.nil,rdN_len b 12,hr.mono (fun i _ hi=>Nat.le_of_lt hi),Nat.le_refl _,Nat.le_refl _,Nat.le_refl _⟩
theorem qget_any (b:List Nat) (n c:Nat) (A:Option Addr) (w:World) (h:Rd w w.heap.size A b) (hb:By b) (hl:b.length=n) (hc:n≤c) (y:Pk) (k:Nat) (hy:lqgetB b=(y,k)) :
  Calls Tryz.prog 159 #[.slice A n c] w (GetN w y k):=by
 unfold lqgetB at hy
 rcases Nat.lt_or_ge n 48 with h48 | h48
 ·rw [if_pos (by omega)] at hy
  injection hy with e1 e2
  subst e1;subst e2
  exact qget_short b n c A w h48
 ·rw [if_neg (by omega)] at hy
  injection hy with e1 e2
  subst e1;subst e2
  exact qget_ok b n c A w h hb hl hc h48
end Go.Proofs.YtmhjnghomihjlaaGreat
