/-
  What the program's cut and Get of layer 17 answer. No condition beyond: at most 2^30 octets.
-/
import Derived.Test.YtmhjnghomihjlaaGreatPapP
import Derived.Test.YtmhjnghomihjlaaGreatGPks
import Derived.Test.YtmhjnghomihjlaaGreatGOps
import Derived.Test.YtmhjnghomihjlaaGreatGCtl
import Derived.Deep.CutRange
import Derived.Deep.RegionHeld3
import Derived.OwnWalk
namespace Go.Proofs.YtmhjnghomihjlaaGreat
set_option maxRecDepth 8000
set_option maxHeartbeats 80000000
set_option linter.unusedVariables false
open Go.RowKit
theorem acut_no (d:List Nat) (n c:Nat) (A:Option Addr) (w:World) (h:Rd w w.heap.size A d) (hl:d.length=n) (hb:By d) (hd:cutT d=([],[],2)) :
  Calls Tryz.prog 144 #[.slice A n c] w fun e w'=>e=.returned (.tuple #[.slice none 0 0,.slice none 0 0,.int .i64 2])∧Below w.heap.size w w':=by
 by_cases h0:n=0
 ·have j1:((n:Int) == 0)=true:=by simp;omega
  clear h hl hd h0
  go_enter Tryz.func144,Tryz.ntmps144
  go_wp2_with fail
  go_ret3
  exact ⟨rfl,Below.refl _ _⟩
 ·have j1:((n:Int) == 0)=false:=by simp;omega
  obtain ⟨bb,oo,x,rfl,hbb,hx,hcx⟩:=h.at_ (k:=0) (by omega)
  replace hcx:w.cell? ⟨bb,oo,none⟩=some (.int .u8 (x:Int)):=hcx
  have hx256:=hb.get hx
  have e:=cutT_at hx hl
  have hs:n<x+1:=by
   rcases Nat.lt_or_ge n (x+1) with h2 | h2
   ·exact h2
   ·rw [hd,if_neg (by omega)] at e
    exact absurd (Prod.mk.inj (Prod.mk.inj e).2).2 (by decide)
  obtain ⟨z,hz⟩:∃ z,x+1=z:=⟨_,rfl⟩
  have i0:(0:Int)<n:=by omega
  have i1:(1:Int)+(x:Int)=(z:Int):=by omega
  have i2:IntKind.i64.wrap (z:Int)=(z:Int):=IntWalk.i64_in _ (by omega)
  have i3:(n:Int)<(z:Int):=by omega
  clear h hl hd e hs hx
  go_enter Tryz.func144,Tryz.ntmps144
  go_wp2_with fail
  go_ret3
  exact ⟨rfl,Below.refl _ _⟩
def CutR (F:Nat→Prop) (w:World) (l r:List Nat) (k1 k2:Nat) (e:Ending) (w':World):Prop:=∃ A1 c1 A2 c2,e=.returned (.tuple #[.slice A1 k1 c1,.slice A2 k2 c2,.int .i64 0])∧k1≤c1∧k2≤c2∧RdF (fun b=>w.heap.size≤b) w' A1 l∧RdF F w' A2 r∧Below w.heap.size w w'
theorem acut_ok (F:Nat→Prop) (d:List Nat) (n c:Nat) (A:Option Addr) (w:World) (hF:RdF F w A d) (hl:d.length=n) (hb:By d) (hn:n≤274877906944) (hc:n≤c) (l r:List Nat) (hd:cutT d=(l,r,0)) (k1 k2:Nat) (hk1:l.length=k1) (hk2:r.length=k2) :
  Calls Tryz.prog 144 #[.slice A n c] w (CutR F w l r k1 k2):=by
 have h:=hF.rd
 have h0:0<n:=by
  rcases Nat.eq_zero_or_pos n with h0 | h0
  ·rw [List.eq_nil_of_length_eq_zero (hl.trans h0),cutT_nil] at hd
   exact absurd (Prod.mk.inj (Prod.mk.inj hd).2).2 (by decide)
  ·exact h0
 have j1:((n:Int) == 0)=false:=by simp;omega
 obtain ⟨bb,oo,x,rfl,hbb,hx,hcx⟩:=h.at_ (k:=0) (by omega)
 replace hcx:w.cell? ⟨bb,oo,none⟩=some (.int .u8 (x:Int)):=hcx
 have hx256:=hb.get hx
 have e:=cutT_at hx hl
 have hs:x+1≤n:=by
  rcases Nat.lt_or_ge n (x+1) with h2 | h2
  ·rw [hd,if_pos h2] at e
   exact absurd (Prod.mk.inj (Prod.mk.inj e).2).2 (by decide)
  ·exact h2
 rw [hd,if_neg (by omega)] at e
 obtain ⟨z,hz⟩:∃ z,x+1=z:=⟨_,rfl⟩
 rw [hz] at e
 have EL:=hI (Prod.mk.inj e).1
 have ER:=hI (Prod.mk.inj (Prod.mk.inj e).2).1
 rw [EL.out,List.length_drop,List.length_take,hl] at hk1
 rw [ER.out,List.length_drop,hl] at hk2
 obtain rfl:z - 1=k1:=by omega
 obtain rfl:n - z=k2:=hk2
 have i0:(0:Int)<n:=by omega
 have i1:(1:Int)+(x:Int)=(z:Int):=by omega
 have i2:IntKind.i64.wrap (z:Int)=(z:Int):=IntWalk.i64_in _ (by omega)
 have i3:¬ (n:Int)<(z:Int):=by omega
 have i4:(1:Int)≤z:=by omega
 have i5:(z:Int)≤c:=by omega
 have i6:(z:Int)≤n:=by omega
 have i7:(0:Int)≤z:=by omega
 have hcl:=hI (show Rd w w.heap.size (if c=1 then some ⟨bb,oo,none⟩ else some ⟨bb,oo+1,none⟩) l from by rw [EL.out];exact (RdF.cutAt (hF.take z) (by rw [List.length_take,hl];omega)).rd)
 have hcl2:=hI (show l.length=z - 1 by rw [EL.out,List.length_drop,List.length_take,hl];omega)
 have HC:=hI (show RdF F w (if c=z then some ⟨bb,oo,none⟩ else some ⟨bb,oo+z,none⟩) r from by rw [ER.out];exact RdF.cutAt (c:=c) (f:=z) hF (by omega))
 have K:=hI (show n - z≤c - z by omega)
 have B:=hI (Below.refl w.heap.size w).drew
 clear h hl hb hd hx hF hk1 e hs hc EL ER
 go_enter Tryz.func144,Tryz.ntmps144
 go_wp2_with fail
 go_region_held3 (fun _=>True) (trivial) (first
  | (go_at_call 77;(with_reducible refine (clone_any l (z - 1) _ _ _ ((hcl.out.below B.out).more B.out.size) hcl2.out (by omega)).mono ?_);rintro e' w5 ⟨A5,c5,rfl,HN5⟩;have HN6:=hI HN5;have HS:=hI B.out.size;replace B:=hI (B.out.trans (HN5.2.2.2.mono B.out.size));clear HN5;dsimp only))
 replace HC:=HC.out.keep (.of_below B.out)
 clear hcl
 generalize (if c=1 then (some (⟨bb,oo,none⟩:Addr)) else some ⟨bb,oo+1,none⟩)=A''
 generalize (if c=z then (some (⟨bb,oo,none⟩:Addr)) else some ⟨bb,oo+z,none⟩)=A' at HC ⊢
 go_wp2_with fail
 go_ret3
 exact ⟨A5,c5,A',c - z,rfl,own_cap HN6.out.2.1,K.out,(RdF.own HN6.out.2.1).mono (fun b _ hb=>Nat.le_trans HS.out hb),HC,B.out⟩
theorem agt_no (b:List Nat) (n c:Nat) (A:Option Addr) (w:World) (h:Rd w w.heap.size A b) (hb:By b) (hl:b.length=n) (hn:n≤1073741824) (hc:n≤c) (x y:Nat) (d:List Nat) (k:Nat) (hg:kgetB b=(x,y,d,k)) (hk:¬ k=0) :
  Calls Tryz.prog 141 #[.slice A n c] w (GetN w pk0 k):=by
 have C:=hI (GeC.made 40 w)
 have HR:=hI h
 have HB:=hI hb
 have HL:=hI hl
 have HG:=hI hg
 have j1:((k:Int) != 0)=true:=by rw [bne_iff_ne];omega
 clear h hb hl hg hk
 go_enter Tryz.func141,Tryz.ntmps141
 go_wp2_with (first
  | (go_at_call 107;(with_reducible refine (cget_v b x y d k HG.out d.length rfl n c A _ (HR.out.on C.out.bel) HB.out HL.out (by omega) hc).mono ?_);rintro e wn ⟨A1,c1,rfl,k1,r1,hb⟩;replace C:=hI (C.out.step hb);clear hb r1;obtain ⟨y0,y1,y2,y3,y4,y5,y6,y7,y8,y9⟩:=C.out.res.all;obtain ⟨z0,z1,z2,z3,z4,z5,z6,z7,z8,z9⟩:=C.out.res.free))
 refine bodyPost_ret (v:=.tuple #[pk0.val pl0,.int .i64 (k:Int)]) ?_ rfl (GetN.mk pl0 rfl pwF0 (put10_below C.out.bel (Nat.le_refl _) pk0 pl0))
 exact results_row_tmpP rfl _ _ _ w.heap.size 40 _ _ _ rfl rfl (put10_px C.out.res pk0 pl0) Tryz.underlying40 (by kernel_rfl)
theorem agt_data (b:List Nat) (n c:Nat) (A:Option Addr) (w:World) (h:Rd w w.heap.size A b) (hb:By b) (hl:b.length=n) (hn:n≤1073741824) (hc:n≤c) (x y:Nat) (d:List Nat) (hg:kgetB b=(x,y,d,0)) (hk:txtB x=0) :
  Calls Tryz.prog 141 #[.slice A n c] w (GetN w ⟨49187,x,y,[],0,0,[],[],d,[]⟩ 0):=by
 have C:=hI (GeC.made 40 w)
 have HR:=hI h
 have HB:=hI hb
 have HL:=hI hl
 have HG:=hI hg
 have HK:=hI hk
 obtain ⟨n2,hn2⟩:∃ n2,Hid (d.length=n2):=⟨_,hI rfl⟩
 have hd1:=kget_bytes hb hg
 have HD:=hI hd1.1
 have n2le:n2≤1073741824:=by have:=hd1.2;have:=hn2.out;omega
 clear h hb hl hg hk hd1
 go_enter Tryz.func141,Tryz.ntmps141
 go_wp2_with (first
  | (go_at_call 107;(with_reducible refine (cgetN_v b x y d _ HG.out n2 hn2.out n c A _ (HR.out.on C.out.bel) HB.out HL.out (by omega) hc).mono ?_);rintro e wn ⟨A1,c1,rfl,k1c,r1,hb⟩;have LT:=C.out.res.lt;have R1:=hI (r1.mono (G:=fun i=>w.heap.size<i∧i<wn.heap.size) (fun i hi hf=>⟨Nat.lt_of_lt_of_le LT hf,hi⟩));replace C:=hI (C.out.step hb);clear hb r1 LT)
  | (go_at_call 143;(with_reducible refine (atxt_any x _ HK.out _).mono ?_);rintro e wm ⟨rfl,hb⟩;have BA:=((Below.refl wn.heap.size wn).alloc (Nat.le_refl _) (.cells #[.int .u16 49187,.int .u8 (x:Int),.int .u8 (y:Int),.slice none 0 0,.int .u16 0,.int .u32 0,.slice none 0 0,.slice none 0 0,.slice none 0 0,.slice none 0 0] 40));have R2:=hI ((R1.out.keep (.of_below (BA.trans (hb.mono BA.size)))).mono (G:=Ngt w.heap.size wn.heap.size) (fun i _ hf=>⟨hf.1,Nat.ne_of_lt hf.2⟩));have P:=hI ((C.out.pk ⟨49187,x,y,[],0,0,[],[],[],[]⟩ pl0).step hb);obtain ⟨g,hgg⟩:∃ g,Hid (wn.heap.size=g):=⟨_,hI rfl⟩;rw [hgg.out] at P R2 ⊢;have nq1:=Nat.ne_of_lt P.out.lt;have nq3:=Nat.ne_of_gt P.out.lt;clear hb BA R1 C;obtain ⟨x0,x1,x2,x3,x4,x5,x6,x7,x8,x9⟩:=P.out.cf.all;obtain ⟨u0,u1,u2,u3,u4,u5,u6,u7,u8,u9⟩:=P.out.cf.free;obtain ⟨y0,y1,y2,y3,y4,y5,y6,y7,y8,y9⟩:=P.out.res.all;obtain ⟨z0,z1,z2,z3,z4,z5,z6,z7,z8,z9⟩:=P.out.res.free))
 refine bodyPost_ret (v:=.tuple #[Pk.val ⟨49187,x,y,[],0,0,[],[],d,[]⟩ { pl0 with ad:=A1,nd:=n2,cd:=c1 },.int .i64 0]) ?_ rfl (GetN.mk { pl0 with ad:=A1,nd:=n2,cd:=c1 } rfl ?_ (put10_below (P.out.set 8 (.slice A1 n2 c1) (P.out.cf.setData A1 n2 c1 d)).bel (Nat.le_refl _) ⟨49187,x,y,[],0,0,[],[],d,[]⟩ { pl0 with ad:=A1,nd:=n2,cd:=c1 }))
 ·exact results_row_tmpP rfl _ _ _ w.heap.size 40 _ _ _ rfl rfl (put10_px (P.out.set 8 (.slice A1 n2 c1) (P.out.cf.setData A1 n2 c1 d)).res ⟨49187,x,y,[],0,0,[],[],d,[]⟩ { pl0 with ad:=A1,nd:=n2,cd:=c1 }) Tryz.underlying40 (by kernel_rfl)
 ·exact ((pwF_data 49187 x y 0 0 hn2.out R2.out k1c).keep ((keeps_g1 wm w.heap.size g 8 (.slice A1 n2 c1)).trans (keeps_g2 _ w.heap.size g ⟨49187,x,y,[],0,0,[],[],d,[]⟩ { pl0 with ad:=A1,nd:=n2,cd:=c1 }))).mono (fun _ _ h=>h.le)
def N3 (a b c i:Nat):Prop:=a<i∧i≠b∧i≠c
theorem N3.le {a b c i:Nat} (h:N3 a b c i):a≤i:=Nat.le_of_lt h.1
theorem keeps_31 (w:World) (a b c j:Nat) (u:Value):Keeps (N3 a b c) w (w.setCell ⟨b,j,none⟩ u):=(keeps_set w b j u).less (fun _ _ h=>h.2.1)
theorem keeps_32 (w:World) (a b c j:Nat) (u:Value):Keeps (N3 a b c) w (w.setCell ⟨c,j,none⟩ u):=(keeps_set w c j u).less (fun _ _ h=>h.2.2)
theorem keeps_30 (w:World) (a b c:Nat) (p:Pk) (q:Pl):Keeps (N3 a b c) w (put10 w a p q):=(put10_keeps w a p q).less (fun _ _ h=>Nat.ne_of_gt h.1)
structure GlC (w W:World) (g gl:Nat) (p:Pk) (q:Pl) (v1 v2:Value):Prop where
 pc:GpC 40 w W g p q
 row:W.heap[gl]?=some (.cells #[v1,v2] 197)
 gt:g<gl
section
variable {w W X W' : World} {g gl : Nat} {p : Pk} {q : Pl} {v1 v2 : Value}
theorem GlC.lt (h:GlC w W g gl p q v1 v2):gl<W.heap.size:=(Array.getElem?_eq_some_iff.1 h.row).1
theorem GlC.step (h:GlC w W g gl p q v1 v2) (hb:Below X.heap.size X W') (hX:Below W.heap.size W X:=by first | exact Below.refl _ _ | exact (Below.refl _ _).drew):GlC w W' g gl p q v1 v2 :=
 ⟨h.pc.step hb hX,((hX.trans (hb.mono hX.size)).block gl h.lt).trans h.row,h.gt⟩
theorem GlC.drew (h:GlC w W g gl p q v1 v2):GlC w W.drew g gl p q v1 v2:=h.step (X:=W) (Below.refl _ _).drew
theorem GlC.two (h:GlC w W g gl p q v1 v2):W.cell? ⟨gl,0,none⟩=some v1∧W.cell? ⟨gl,1,none⟩=some v2:=⟨cell_of_row W gl 0 _ _ _ h.row,cell_of_row W gl 1 _ _ _ h.row⟩
theorem GlC.free (h:GlC w W g gl p q v1 v2):W.frozen? ⟨gl,0,none⟩=false∧W.frozen? ⟨gl,1,none⟩=false:=⟨frozen_of_row W gl 0 _ _ h.row,frozen_of_row W gl 1 _ _ h.row⟩
theorem GlC.nine (h:GlC w W g gl p q v1 v2):w.heap.size≠g∧g≠w.heap.size∧w.heap.size≠gl∧gl≠w.heap.size∧g≠gl∧gl≠g:=by
 have h1:=h.pc.lt
 have h2:=h.gt
 omega
theorem GpC.otherP {T:TypeId} {d o:Nat} (h:GpC T w W g p q) (u:Value) (h1:w.heap.size≤d) (h2:w.heap.size≠d) (h3:g≠d):GpC T w (W.setCell ⟨d,o,none⟩ u) g p q :=
 ⟨h.bel.setCell (p:=⟨d,o,none⟩) h1 _,h.res.other _ h2,h.lt,h.cf.other _ h3⟩
theorem GlC.set1 (h:GlC w W g gl p q v1 v2) (u:Value):GlC w (W.setCell ⟨gl,0,none⟩ u) g gl p q u v2 :=
 ⟨h.pc.otherP u (by have:=h.pc.lt;have:=h.gt;omega) h.nine.2.2.1 h.nine.2.2.2.2.1,heap_setCell_same _ gl 0 _ _ _ h.row,h.gt⟩
theorem GlC.set2 (h:GlC w W g gl p q v1 v2) (u:Value):GlC w (W.setCell ⟨gl,1,none⟩ u) g gl p q v1 u :=
 ⟨h.pc.otherP u (by have:=h.pc.lt;have:=h.gt;omega) h.nine.2.2.1 h.nine.2.2.2.2.1,heap_setCell_same _ gl 1 _ _ _ h.row,h.gt⟩
theorem GlC.rowP (h:GlC w W g gl p q v1 v2) (o:Nat) (u:Value):(W.setCell ⟨g,o,none⟩ u).heap[gl]?=some (.cells #[v1,v2] 197):=by
 rw [←h.row]
 exact Below.heap_setCell _ _ _ _ (fun e=>h.nine.2.2.2.2.2 e)
theorem GlC.setOne (h:GlC w W g gl p q v1 v2) (A:Option Addr) (n c:Nat) (l:List Nat):GlC w (W.setCell ⟨g,6,none⟩ (.slice A n c)) g gl { p with one:=l } { q with a1:=A,n1:=n,c1:=c } v1 v2 :=
 ⟨h.pc.set 6 _ (h.pc.cf.setOne A n c l),h.rowP 6 _,h.gt⟩
theorem GlC.setTwo (h:GlC w W g gl p q v1 v2) (A:Option Addr) (n c:Nat) (l:List Nat):GlC w (W.setCell ⟨g,7,none⟩ (.slice A n c)) g gl { p with two:=l } { q with a2:=A,n2:=n,c2:=c } v1 v2 :=
 ⟨h.pc.set 7 _ (h.pc.cf.setTwo A n c l),h.rowP 7 _,h.gt⟩
end
theorem agt_one_cut (b:List Nat) (n c:Nat) (A:Option Addr) (w:World) (h:Rd w w.heap.size A b) (hb:By b) (hl:b.length=n) (hn:n≤1073741824) (hc:n≤c) (x y:Nat) (d:List Nat) (hg:kgetB b=(x,y,d,0)) (hk:txtB x=1) (hd:cutT d=([],[],2)) :
  Calls Tryz.prog 141 #[.slice A n c] w (GetN w pk0 2):=by
 have C:=hI (GeC.made 40 w)
 have HR:=hI h
 have HB:=hI hb
 have HL:=hI hl
 have HG:=hI hg
 have HK:=hI hk
 obtain ⟨n2,hn2⟩:∃ n2,Hid (d.length=n2):=⟨_,hI rfl⟩
 have hd1:=kget_bytes hb hg
 have HD:=hI hd1.1
 have n2le:n2≤1073741824:=by have:=hd1.2;have:=hn2.out;omega
 have HC1:=hI hd
 have T1:=hI trivial
 clear h hb hl hg hk hd1 hd
 go_enter Tryz.func141,Tryz.ntmps141
 go_upto_region 11 with (first
  | (go_at_call 107;(with_reducible refine (cgetN_v b x y d _ HG.out n2 hn2.out n c A _ (HR.out.on C.out.bel) HB.out HL.out (by omega) hc).mono ?_);rintro e wn ⟨A1,c1,rfl,k1c,r1,hb⟩;have LT:=C.out.res.lt;have R1:=hI (r1.mono (G:=fun i=>w.heap.size<i∧i<wn.heap.size) (fun i hi hf=>⟨Nat.lt_of_lt_of_le LT hf,hi⟩));replace C:=hI (C.out.step hb);clear hb r1 LT)
  | (go_at_call 143;(with_reducible refine (atxt_any x _ HK.out _).mono ?_);rintro e wm ⟨rfl,hb⟩;have BA:=((Below.refl wn.heap.size wn).alloc (Nat.le_refl _) (.cells #[.int .u16 49187,.int .u8 (x:Int),.int .u8 (y:Int),.slice none 0 0,.int .u16 0,.int .u32 0,.slice none 0 0,.slice none 0 0,.slice none 0 0,.slice none 0 0] 40));have R2:=hI ((R1.out.keep (.of_below (BA.trans (hb.mono BA.size)))).mono (G:=Ngt w.heap.size wn.heap.size) (fun i _ hf=>⟨hf.1,Nat.ne_of_lt hf.2⟩));have P:=hI ((C.out.pk ⟨49187,x,y,[],0,0,[],[],[],[]⟩ pl0).step hb);obtain ⟨g,hgg⟩:∃ g,Hid (wn.heap.size=g):=⟨_,hI rfl⟩;rw [hgg.out] at P R2 ⊢;have nq1:=Nat.ne_of_lt P.out.lt;have nq3:=Nat.ne_of_gt P.out.lt;clear hb BA R1 C;obtain ⟨x0,x1,x2,x3,x4,x5,x6,x7,x8,x9⟩:=P.out.cf.all;obtain ⟨u0,u1,u2,u3,u4,u5,u6,u7,u8,u9⟩:=P.out.cf.free;obtain ⟨y0,y1,y2,y3,y4,y5,y6,y7,y8,y9⟩:=P.out.res.all;obtain ⟨z0,z1,z2,z3,z4,z5,z6,z7,z8,z9⟩:=P.out.res.free))
 have BA:=hI ((Below.refl wm.heap.size wm).alloc (Nat.le_refl _) (.cells #[.slice none 0 0,.slice none 0 0] 197))
 have RA:=hI (heap_alloc_new wm (.cells #[.slice none 0 0,.slice none 0 0] 197))
 have LT:=hI P.out.cf.lt
 have R3:=hI ((R2.out.mono (G:=fun i=>Ngt w.heap.size g i∧i<wm.heap.size) (fun i hi hf=>⟨hf,hi⟩)).keep (.of_below BA.out))
 obtain ⟨gl,hgl⟩:∃ gl,Hid (wm.heap.size=gl):=⟨_,hI rfl⟩
 rw [hgl.out] at RA LT R3 ⊢
 refine at_worldP (fun W=>Hid (GlC w W g gl ⟨49187,x,y,[],0,0,[],[],[],[]⟩ pl0 (.slice none 0 0) (.slice none 0 0))∧Hid (RdF (N3 w.heap.size g gl) W A1 d)) ⟨hI ⟨P.out.step BA.out,RA.out,LT.out⟩,hI (R3.out.mono (fun i _ hf=>⟨hf.1.1,hf.1.2,Nat.ne_of_lt hf.2⟩))⟩ ?_
 clear BA RA LT R3 hgl hgg nq1 nq3
 clear x0 x1 x2 x3 x4 x5 x6 x7 x8 x9 u0 u1 u2 u3 u4 u5 u6 u7 u8 u9 y0 y1 y2 y3 y4 y5 y6 y7 y8 y9 z0 z1 z2 z3 z4 z5 z6 z7 z8 z9
 clear P R2
 rintro wa ⟨Z,R⟩
 obtain ⟨nq1,nq2,nq3,nq4,nq5,nq6⟩:=Z.out.nine
 obtain ⟨x0,x1,x2,x3,x4,x5,x6,x7,x8,x9⟩:=Z.out.pc.cf.all;obtain ⟨u0,u1,u2,u3,u4,u5,u6,u7,u8,u9⟩:=Z.out.pc.cf.free;obtain ⟨y0,y1,y2,y3,y4,y5,y6,y7,y8,y9⟩:=Z.out.pc.res.all;obtain ⟨z0,z1,z2,z3,z4,z5,z6,z7,z8,z9⟩:=Z.out.pc.res.free;obtain ⟨l0,l1⟩:=Z.out.two;obtain ⟨m0,m1⟩:=Z.out.free
 refine wp_loop_rounds 1 ?_
 rw [rounds_succ]
 go_wp2_with (first
  | (go_at_call 144;have _g:=T1;clear _g;(with_reducible refine (acut_no d n2 _ A1 _ R.out.rd hn2.out HD.out HC1.out).mono ?_);rintro e wb1 ⟨rfl,hb⟩;replace Z:=hI (Z.out.step hb);clear hb T1;clear x0 x1 x2 x3 x4 x5 x6 x7 x8 x9 u0 u1 u2 u3 u4 u5 u6 u7 u8 u9 y0 y1 y2 y3 y4 y5 y6 y7 y8 y9 z0 z1 z2 z3 z4 z5 z6 z7 z8 z9 l0 l1 m0 m1;obtain ⟨x0,x1,x2,x3,x4,x5,x6,x7,x8,x9⟩:=Z.out.pc.cf.all;obtain ⟨u0,u1,u2,u3,u4,u5,u6,u7,u8,u9⟩:=Z.out.pc.cf.free;obtain ⟨y0,y1,y2,y3,y4,y5,y6,y7,y8,y9⟩:=Z.out.pc.res.all;obtain ⟨z0,z1,z2,z3,z4,z5,z6,z7,z8,z9⟩:=Z.out.pc.res.free;obtain ⟨l0,l1⟩:=Z.out.two;obtain ⟨m0,m1⟩:=Z.out.free))
 refine bodyPost_ret (v:=.tuple #[pk0.val pl0,.int .i64 2]) ?_ rfl (GetN.mk pl0 rfl pwF0 (put10_below (Z.out.set1 (.slice none 0 0)).pc.bel (Nat.le_refl _) pk0 pl0))
 exact results_row_tmpP rfl _ _ _ w.heap.size 40 _ _ _ rfl rfl (put10_px (Z.out.set1 (.slice none 0 0)).pc.res pk0 pl0) Tryz.underlying40 (by kernel_rfl)
theorem agt_one_left (b:List Nat) (n c:Nat) (A:Option Addr) (w:World) (h:Rd w w.heap.size A b) (hb:By b) (hl:b.length=n) (hn:n≤1073741824) (hc:n≤c) (x y:Nat) (d:List Nat) (hg:kgetB b=(x,y,d,0)) (hk:txtB x=1) (l r:List Nat) (hd:cutT d=(l,r,0)) (hr:¬ r=[]) :
  Calls Tryz.prog 141 #[.slice A n c] w (GetN w pk0 4):=by
 have C:=hI (GeC.made 40 w)
 have HR:=hI h
 have HB:=hI hb
 have HL:=hI hl
 have HG:=hI hg
 have HK:=hI hk
 obtain ⟨n2,hn2⟩:∃ n2,Hid (d.length=n2):=⟨_,hI rfl⟩
 have hd1:=kget_bytes hb hg
 have HD:=hI hd1.1
 have n2le:n2≤1073741824:=by have:=hd1.2;have:=hn2.out;omega
 obtain ⟨k1,HA1⟩:∃ n,Hid (l.length=n):=⟨_,hI rfl⟩
 obtain ⟨k2,HB1⟩:∃ n,Hid (r.length=n):=⟨_,hI rfl⟩
 have jr:(0:Int)<(k2:Int):=by have:=HB1.out;have:r.length≠0:=fun e=>hr (List.eq_nil_of_length_eq_zero e);omega
 clear hr
 have HC1:=hI hd
 have T1:=hI trivial
 clear h hb hl hg hk hd1 hd
 go_enter Tryz.func141,Tryz.ntmps141
 go_upto_region 11 with (first
  | (go_at_call 107;(with_reducible refine (cgetN_v b x y d _ HG.out n2 hn2.out n c A _ (HR.out.on C.out.bel) HB.out HL.out (by omega) hc).mono ?_);rintro e wn ⟨A1,c1,rfl,k1c,r1,hb⟩;have LT:=C.out.res.lt;have R1:=hI (r1.mono (G:=fun i=>w.heap.size<i∧i<wn.heap.size) (fun i hi hf=>⟨Nat.lt_of_lt_of_le LT hf,hi⟩));replace C:=hI (C.out.step hb);clear hb r1 LT)
  | (go_at_call 143;(with_reducible refine (atxt_any x _ HK.out _).mono ?_);rintro e wm ⟨rfl,hb⟩;have BA:=((Below.refl wn.heap.size wn).alloc (Nat.le_refl _) (.cells #[.int .u16 49187,.int .u8 (x:Int),.int .u8 (y:Int),.slice none 0 0,.int .u16 0,.int .u32 0,.slice none 0 0,.slice none 0 0,.slice none 0 0,.slice none 0 0] 40));have R2:=hI ((R1.out.keep (.of_below (BA.trans (hb.mono BA.size)))).mono (G:=Ngt w.heap.size wn.heap.size) (fun i _ hf=>⟨hf.1,Nat.ne_of_lt hf.2⟩));have P:=hI ((C.out.pk ⟨49187,x,y,[],0,0,[],[],[],[]⟩ pl0).step hb);obtain ⟨g,hgg⟩:∃ g,Hid (wn.heap.size=g):=⟨_,hI rfl⟩;rw [hgg.out] at P R2 ⊢;have nq1:=Nat.ne_of_lt P.out.lt;have nq3:=Nat.ne_of_gt P.out.lt;clear hb BA R1 C;obtain ⟨x0,x1,x2,x3,x4,x5,x6,x7,x8,x9⟩:=P.out.cf.all;obtain ⟨u0,u1,u2,u3,u4,u5,u6,u7,u8,u9⟩:=P.out.cf.free;obtain ⟨y0,y1,y2,y3,y4,y5,y6,y7,y8,y9⟩:=P.out.res.all;obtain ⟨z0,z1,z2,z3,z4,z5,z6,z7,z8,z9⟩:=P.out.res.free))
 have BA:=hI ((Below.refl wm.heap.size wm).alloc (Nat.le_refl _) (.cells #[.slice none 0 0,.slice none 0 0] 197))
 have RA:=hI (heap_alloc_new wm (.cells #[.slice none 0 0,.slice none 0 0] 197))
 have LT:=hI P.out.cf.lt
 have R3:=hI ((R2.out.mono (G:=fun i=>Ngt w.heap.size g i∧i<wm.heap.size) (fun i hi hf=>⟨hf,hi⟩)).keep (.of_below BA.out))
 obtain ⟨gl,hgl⟩:∃ gl,Hid (wm.heap.size=gl):=⟨_,hI rfl⟩
 rw [hgl.out] at RA LT R3 ⊢
 refine at_worldP (fun W=>Hid (GlC w W g gl ⟨49187,x,y,[],0,0,[],[],[],[]⟩ pl0 (.slice none 0 0) (.slice none 0 0))∧Hid (RdF (N3 w.heap.size g gl) W A1 d)) ⟨hI ⟨P.out.step BA.out,RA.out,LT.out⟩,hI (R3.out.mono (fun i _ hf=>⟨hf.1.1,hf.1.2,Nat.ne_of_lt hf.2⟩))⟩ ?_
 clear BA RA LT R3 hgl hgg nq1 nq3
 clear x0 x1 x2 x3 x4 x5 x6 x7 x8 x9 u0 u1 u2 u3 u4 u5 u6 u7 u8 u9 y0 y1 y2 y3 y4 y5 y6 y7 y8 y9 z0 z1 z2 z3 z4 z5 z6 z7 z8 z9
 clear P R2
 rintro wa ⟨Z,R⟩
 obtain ⟨nq1,nq2,nq3,nq4,nq5,nq6⟩:=Z.out.nine
 obtain ⟨x0,x1,x2,x3,x4,x5,x6,x7,x8,x9⟩:=Z.out.pc.cf.all;obtain ⟨u0,u1,u2,u3,u4,u5,u6,u7,u8,u9⟩:=Z.out.pc.cf.free;obtain ⟨y0,y1,y2,y3,y4,y5,y6,y7,y8,y9⟩:=Z.out.pc.res.all;obtain ⟨z0,z1,z2,z3,z4,z5,z6,z7,z8,z9⟩:=Z.out.pc.res.free;obtain ⟨l0,l1⟩:=Z.out.two;obtain ⟨m0,m1⟩:=Z.out.free
 refine wp_loop_rounds 2 ?_
 rw [rounds_succ]
 go_wp2_with (first
  | (go_at_call 144;have _g:=T1;clear _g;(with_reducible refine (acut_ok (N3 w.heap.size g gl) d n2 c1 A1 _ R.out hn2.out HD.out (by omega) k1c l r HC1.out k1 k2 HA1.out HB1.out).mono ?_);rintro e wb1 ⟨A13,c13,A14,c14,rfl,e11,e12,r1,r2,hb⟩;have S1:=hI (r1.mono (G:=N3 w.heap.size g gl) (fun i _ hi=>by have h1:=Z.out.lt;have h2:=Z.out.gt;have h3:=Z.out.pc.lt;exact ⟨by omega,by omega,by omega⟩));replace Z:=hI (Z.out.step hb);replace R:=hI r2;clear hb r1 r2 T1;clear x0 x1 x2 x3 x4 x5 x6 x7 x8 x9 u0 u1 u2 u3 u4 u5 u6 u7 u8 u9 y0 y1 y2 y3 y4 y5 y6 y7 y8 y9 z0 z1 z2 z3 z4 z5 z6 z7 z8 z9 l0 l1 m0 m1;obtain ⟨x0,x1,x2,x3,x4,x5,x6,x7,x8,x9⟩:=Z.out.pc.cf.all;obtain ⟨u0,u1,u2,u3,u4,u5,u6,u7,u8,u9⟩:=Z.out.pc.cf.free;obtain ⟨y0,y1,y2,y3,y4,y5,y6,y7,y8,y9⟩:=Z.out.pc.res.all;obtain ⟨z0,z1,z2,z3,z4,z5,z6,z7,z8,z9⟩:=Z.out.pc.res.free;obtain ⟨l0,l1⟩:=Z.out.two;obtain ⟨m0,m1⟩:=Z.out.free))
 refine at_worldP (fun W=>Hid (GlC w W g gl ⟨49187,x,y,[],0,0,[],[],[],[]⟩ pl0 (.slice A13 k1 c13) (.slice none 0 0))∧Hid (RdF (N3 w.heap.size g gl) W A13 l)∧Hid (RdF (N3 w.heap.size g gl) W A14 r)) ⟨hI (Z.out.set1 _),hI (S1.out.keep (keeps_32 _ _ _ _ _ _)),hI (R.out.keep (keeps_32 _ _ _ _ _ _))⟩ ?_
 clear x0 x1 x2 x3 x4 x5 x6 x7 x8 x9 u0 u1 u2 u3 u4 u5 u6 u7 u8 u9 y0 y1 y2 y3 y4 y5 y6 y7 y8 y9 z0 z1 z2 z3 z4 z5 z6 z7 z8 z9 l0 l1 m0 m1
 clear Z S1 R
 rintro wc ⟨Z,S1,R⟩
 obtain ⟨x0,x1,x2,x3,x4,x5,x6,x7,x8,x9⟩:=Z.out.pc.cf.all;obtain ⟨u0,u1,u2,u3,u4,u5,u6,u7,u8,u9⟩:=Z.out.pc.cf.free;obtain ⟨y0,y1,y2,y3,y4,y5,y6,y7,y8,y9⟩:=Z.out.pc.res.all;obtain ⟨z0,z1,z2,z3,z4,z5,z6,z7,z8,z9⟩:=Z.out.pc.res.free;obtain ⟨l0,l1⟩:=Z.out.two;obtain ⟨m0,m1⟩:=Z.out.free
 rw [rounds_succ]
 go_wp2_with fail
 refine bodyPost_ret (v:=.tuple #[pk0.val pl0,.int .i64 4]) ?_ rfl (GetN.mk pl0 rfl pwF0 (put10_below Z.out.pc.bel (Nat.le_refl _) pk0 pl0))
 exact results_row_tmpP rfl _ _ _ w.heap.size 40 _ _ _ rfl rfl (put10_px Z.out.pc.res pk0 pl0) Tryz.underlying40 (by kernel_rfl)
theorem agt_one (b:List Nat) (n c:Nat) (A:Option Addr) (w:World) (h:Rd w w.heap.size A b) (hb:By b) (hl:b.length=n) (hn:n≤1073741824) (hc:n≤c) (x y:Nat) (d:List Nat) (hg:kgetB b=(x,y,d,0)) (hk:txtB x=1) (l:List Nat) (hd:cutT d=(l,[],0)) :
  Calls Tryz.prog 141 #[.slice A n c] w (GetN w ⟨49187,x,y,[],0,0,l,[],[],[]⟩ 0):=by
 have C:=hI (GeC.made 40 w)
 have HR:=hI h
 have HB:=hI hb
 have HL:=hI hl
 have HG:=hI hg
 have HK:=hI hk
 obtain ⟨n2,hn2⟩:∃ n2,Hid (d.length=n2):=⟨_,hI rfl⟩
 have hd1:=kget_bytes hb hg
 have HD:=hI hd1.1
 have n2le:n2≤1073741824:=by have:=hd1.2;have:=hn2.out;omega
 obtain ⟨k1,HA1⟩:∃ n,Hid (l.length=n):=⟨_,hI rfl⟩
 have HB1:=hI (show ([]:List Nat).length=0 from rfl)
 have HC1:=hI hd
 have T1:=hI trivial
 clear h hb hl hg hk hd1 hd
 go_enter Tryz.func141,Tryz.ntmps141
 go_upto_region 11 with (first
  | (go_at_call 107;(with_reducible refine (cgetN_v b x y d _ HG.out n2 hn2.out n c A _ (HR.out.on C.out.bel) HB.out HL.out (by omega) hc).mono ?_);rintro e wn ⟨A1,c1,rfl,k1c,r1,hb⟩;have LT:=C.out.res.lt;have R1:=hI (r1.mono (G:=fun i=>w.heap.size<i∧i<wn.heap.size) (fun i hi hf=>⟨Nat.lt_of_lt_of_le LT hf,hi⟩));replace C:=hI (C.out.step hb);clear hb r1 LT)
  | (go_at_call 143;(with_reducible refine (atxt_any x _ HK.out _).mono ?_);rintro e wm ⟨rfl,hb⟩;have BA:=((Below.refl wn.heap.size wn).alloc (Nat.le_refl _) (.cells #[.int .u16 49187,.int .u8 (x:Int),.int .u8 (y:Int),.slice none 0 0,.int .u16 0,.int .u32 0,.slice none 0 0,.slice none 0 0,.slice none 0 0,.slice none 0 0] 40));have R2:=hI ((R1.out.keep (.of_below (BA.trans (hb.mono BA.size)))).mono (G:=Ngt w.heap.size wn.heap.size) (fun i _ hf=>⟨hf.1,Nat.ne_of_lt hf.2⟩));have P:=hI ((C.out.pk ⟨49187,x,y,[],0,0,[],[],[],[]⟩ pl0).step hb);obtain ⟨g,hgg⟩:∃ g,Hid (wn.heap.size=g):=⟨_,hI rfl⟩;rw [hgg.out] at P R2 ⊢;have nq1:=Nat.ne_of_lt P.out.lt;have nq3:=Nat.ne_of_gt P.out.lt;clear hb BA R1 C;obtain ⟨x0,x1,x2,x3,x4,x5,x6,x7,x8,x9⟩:=P.out.cf.all;obtain ⟨u0,u1,u2,u3,u4,u5,u6,u7,u8,u9⟩:=P.out.cf.free;obtain ⟨y0,y1,y2,y3,y4,y5,y6,y7,y8,y9⟩:=P.out.res.all;obtain ⟨z0,z1,z2,z3,z4,z5,z6,z7,z8,z9⟩:=P.out.res.free))
 have BA:=hI ((Below.refl wm.heap.size wm).alloc (Nat.le_refl _) (.cells #[.slice none 0 0,.slice none 0 0] 197))
 have RA:=hI (heap_alloc_new wm (.cells #[.slice none 0 0,.slice none 0 0] 197))
 have LT:=hI P.out.cf.lt
 have R3:=hI ((R2.out.mono (G:=fun i=>Ngt w.heap.size g i∧i<wm.heap.size) (fun i hi hf=>⟨hf,hi⟩)).keep (.of_below BA.out))
 obtain ⟨gl,hgl⟩:∃ gl,Hid (wm.heap.size=gl):=⟨_,hI rfl⟩
 rw [hgl.out] at RA LT R3 ⊢
 refine at_worldP (fun W=>Hid (GlC w W g gl ⟨49187,x,y,[],0,0,[],[],[],[]⟩ pl0 (.slice none 0 0) (.slice none 0 0))∧Hid (RdF (N3 w.heap.size g gl) W A1 d)) ⟨hI ⟨P.out.step BA.out,RA.out,LT.out⟩,hI (R3.out.mono (fun i _ hf=>⟨hf.1.1,hf.1.2,Nat.ne_of_lt hf.2⟩))⟩ ?_
 clear BA RA LT R3 hgl hgg nq1 nq3
 clear x0 x1 x2 x3 x4 x5 x6 x7 x8 x9 u0 u1 u2 u3 u4 u5 u6 u7 u8 u9 y0 y1 y2 y3 y4 y5 y6 y7 y8 y9 z0 z1 z2 z3 z4 z5 z6 z7 z8 z9
 clear P R2
 rintro wa ⟨Z,R⟩
 obtain ⟨nq1,nq2,nq3,nq4,nq5,nq6⟩:=Z.out.nine
 obtain ⟨x0,x1,x2,x3,x4,x5,x6,x7,x8,x9⟩:=Z.out.pc.cf.all;obtain ⟨u0,u1,u2,u3,u4,u5,u6,u7,u8,u9⟩:=Z.out.pc.cf.free;obtain ⟨y0,y1,y2,y3,y4,y5,y6,y7,y8,y9⟩:=Z.out.pc.res.all;obtain ⟨z0,z1,z2,z3,z4,z5,z6,z7,z8,z9⟩:=Z.out.pc.res.free;obtain ⟨l0,l1⟩:=Z.out.two;obtain ⟨m0,m1⟩:=Z.out.free
 refine wp_loop_rounds 2 ?_
 rw [rounds_succ]
 go_wp2_with (first
  | (go_at_call 144;have _g:=T1;clear _g;(with_reducible refine (acut_ok (N3 w.heap.size g gl) d n2 c1 A1 _ R.out hn2.out HD.out (by omega) k1c l [] HC1.out k1 0 HA1.out HB1.out).mono ?_);rintro e wb1 ⟨A13,c13,A14,c14,rfl,e11,e12,r1,r2,hb⟩;have S1:=hI (r1.mono (G:=N3 w.heap.size g gl) (fun i _ hi=>by have h1:=Z.out.lt;have h2:=Z.out.gt;have h3:=Z.out.pc.lt;exact ⟨by omega,by omega,by omega⟩));replace Z:=hI (Z.out.step hb);replace R:=hI r2;clear hb r1 r2 T1;clear x0 x1 x2 x3 x4 x5 x6 x7 x8 x9 u0 u1 u2 u3 u4 u5 u6 u7 u8 u9 y0 y1 y2 y3 y4 y5 y6 y7 y8 y9 z0 z1 z2 z3 z4 z5 z6 z7 z8 z9 l0 l1 m0 m1;obtain ⟨x0,x1,x2,x3,x4,x5,x6,x7,x8,x9⟩:=Z.out.pc.cf.all;obtain ⟨u0,u1,u2,u3,u4,u5,u6,u7,u8,u9⟩:=Z.out.pc.cf.free;obtain ⟨y0,y1,y2,y3,y4,y5,y6,y7,y8,y9⟩:=Z.out.pc.res.all;obtain ⟨z0,z1,z2,z3,z4,z5,z6,z7,z8,z9⟩:=Z.out.pc.res.free;obtain ⟨l0,l1⟩:=Z.out.two;obtain ⟨m0,m1⟩:=Z.out.free))
 refine at_worldP (fun W=>Hid (GlC w W g gl ⟨49187,x,y,[],0,0,[],[],[],[]⟩ pl0 (.slice A13 k1 c13) (.slice none 0 0))∧Hid (RdF (N3 w.heap.size g gl) W A13 l)∧Hid (RdF (N3 w.heap.size g gl) W A14 [])) ⟨hI (Z.out.set1 _),hI (S1.out.keep (keeps_32 _ _ _ _ _ _)),hI (R.out.keep (keeps_32 _ _ _ _ _ _))⟩ ?_
 clear x0 x1 x2 x3 x4 x5 x6 x7 x8 x9 u0 u1 u2 u3 u4 u5 u6 u7 u8 u9 y0 y1 y2 y3 y4 y5 y6 y7 y8 y9 z0 z1 z2 z3 z4 z5 z6 z7 z8 z9 l0 l1 m0 m1
 clear Z S1 R
 rintro wc ⟨Z,S1,R⟩
 obtain ⟨x0,x1,x2,x3,x4,x5,x6,x7,x8,x9⟩:=Z.out.pc.cf.all;obtain ⟨u0,u1,u2,u3,u4,u5,u6,u7,u8,u9⟩:=Z.out.pc.cf.free;obtain ⟨y0,y1,y2,y3,y4,y5,y6,y7,y8,y9⟩:=Z.out.pc.res.all;obtain ⟨z0,z1,z2,z3,z4,z5,z6,z7,z8,z9⟩:=Z.out.pc.res.free;obtain ⟨l0,l1⟩:=Z.out.two;obtain ⟨m0,m1⟩:=Z.out.free
 rw [rounds_succ]
 go_wp2_with fail
 clear R
 go_region_held3 (fun W=>W.cell? ⟨gl,0,none⟩=some (.slice A13 k1 c13)∧W.cell? ⟨gl,1,none⟩=some (.slice none 0 0)) (first | (with_reducible exact Z.out.two) | (with_reducible exact Z.out.drew.two) | (with_reducible exact (Z.out.setOne A13 k1 c13 l).two) | (with_reducible exact (Z.out.setOne A13 k1 c13 l).drew.two) | (with_reducible exact (Z.out.setTwo none 0 0 []).two) | (with_reducible exact (Z.out.setTwo none 0 0 []).drew.two) | (with_reducible exact ((Z.out.setOne A13 k1 c13 l).setTwo none 0 0 []).two) | (with_reducible exact ((Z.out.setOne A13 k1 c13 l).setTwo none 0 0 []).drew.two) | (with_reducible exact ((Z.out.setTwo none 0 0 []).setOne A13 k1 c13 l).two) | (with_reducible exact ((Z.out.setTwo none 0 0 []).setOne A13 k1 c13 l).drew.two)) (fail)
 have S1':=hI ((S1.out.keep ((keeps_31 wc w.heap.size g gl 6 (.slice A13 k1 c13)).trans (keeps_31 _ w.heap.size g gl 7 (.slice none 0 0)))).keep (.of_below (Below.refl _ _).drew))
 refine at_worldP (fun W=>Hid (GlC w W g gl ⟨49187,x,y,[],0,0,l,[],[],[]⟩ { pl0 with a1:=A13,n1:=k1,c1:=c13,a2:=none,n2:=0,c2:=0 } (.slice A13 k1 c13) (.slice none 0 0))∧Hid (RdF (N3 w.heap.size g gl) W A13 l)) ⟨hI ((Z.out.setOne A13 k1 c13 l).setTwo none 0 0 []).drew,S1'⟩ ?_
 clear x0 x1 x2 x3 x4 x5 x6 x7 x8 x9 u0 u1 u2 u3 u4 u5 u6 u7 u8 u9 y0 y1 y2 y3 y4 y5 y6 y7 y8 y9 z0 z1 z2 z3 z4 z5 z6 z7 z8 z9 l0 l1 m0 m1
 clear Z S1 S1'
 rintro wd ⟨Z,S1⟩
 obtain ⟨x0,x1,x2,x3,x4,x5,x6,x7,x8,x9⟩:=Z.out.pc.cf.all;obtain ⟨u0,u1,u2,u3,u4,u5,u6,u7,u8,u9⟩:=Z.out.pc.cf.free;obtain ⟨y0,y1,y2,y3,y4,y5,y6,y7,y8,y9⟩:=Z.out.pc.res.all;obtain ⟨z0,z1,z2,z3,z4,z5,z6,z7,z8,z9⟩:=Z.out.pc.res.free;obtain ⟨l0,l1⟩:=Z.out.two;obtain ⟨m0,m1⟩:=Z.out.free
 go_wp2_with fail
 refine bodyPost_ret (v:=.tuple #[Pk.val ⟨49187,x,y,[],0,0,l,[],[],[]⟩ { pl0 with a1:=A13,n1:=k1,c1:=c13,a2:=none,n2:=0,c2:=0 },.int .i64 0]) ?_ rfl (GetN.mk { pl0 with a1:=A13,n1:=k1,c1:=c13,a2:=none,n2:=0,c2:=0 } rfl ?_ (put10_below Z.out.pc.bel (Nat.le_refl _) ⟨49187,x,y,[],0,0,l,[],[],[]⟩ { pl0 with a1:=A13,n1:=k1,c1:=c13,a2:=none,n2:=0,c2:=0 }))
 ·exact results_row_tmpP rfl _ _ _ w.heap.size 40 _ _ _ rfl rfl (put10_px Z.out.pc.res ⟨49187,x,y,[],0,0,l,[],[],[]⟩ { pl0 with a1:=A13,n1:=k1,c1:=c13,a2:=none,n2:=0,c2:=0 }) Tryz.underlying40 (by kernel_rfl)
 ·exact ((pwF_texts 49187 x y HA1.out S1.out e11 rfl RdF.nil (Nat.le_refl _)).keep (keeps_30 _ _ _ _ ⟨49187,x,y,[],0,0,l,[],[],[]⟩ { pl0 with a1:=A13,n1:=k1,c1:=c13,a2:=none,n2:=0,c2:=0 })).mono (fun _ _ h=>h.le)
theorem agt_two_cut1 (b:List Nat) (n c:Nat) (A:Option Addr) (w:World) (h:Rd w w.heap.size A b) (hb:By b) (hl:b.length=n) (hn:n≤1073741824) (hc:n≤c) (x y:Nat) (d:List Nat) (hg:kgetB b=(x,y,d,0)) (hk:txtB x=2) (hd:cutT d=([],[],2)) :
  Calls Tryz.prog 141 #[.slice A n c] w (GetN w pk0 2):=by
 have C:=hI (GeC.made 40 w)
 have HR:=hI h
 have HB:=hI hb
 have HL:=hI hl
 have HG:=hI hg
 have HK:=hI hk
 obtain ⟨n2,hn2⟩:∃ n2,Hid (d.length=n2):=⟨_,hI rfl⟩
 have hd1:=kget_bytes hb hg
 have HD:=hI hd1.1
 have n2le:n2≤1073741824:=by have:=hd1.2;have:=hn2.out;omega
 have HC1:=hI hd
 have T1:=hI trivial
 clear h hb hl hg hk hd1 hd
 go_enter Tryz.func141,Tryz.ntmps141
 go_upto_region 11 with (first
  | (go_at_call 107;(with_reducible refine (cgetN_v b x y d _ HG.out n2 hn2.out n c A _ (HR.out.on C.out.bel) HB.out HL.out (by omega) hc).mono ?_);rintro e wn ⟨A1,c1,rfl,k1c,r1,hb⟩;have LT:=C.out.res.lt;have R1:=hI (r1.mono (G:=fun i=>w.heap.size<i∧i<wn.heap.size) (fun i hi hf=>⟨Nat.lt_of_lt_of_le LT hf,hi⟩));replace C:=hI (C.out.step hb);clear hb r1 LT)
  | (go_at_call 143;(with_reducible refine (atxt_any x _ HK.out _).mono ?_);rintro e wm ⟨rfl,hb⟩;have BA:=((Below.refl wn.heap.size wn).alloc (Nat.le_refl _) (.cells #[.int .u16 49187,.int .u8 (x:Int),.int .u8 (y:Int),.slice none 0 0,.int .u16 0,.int .u32 0,.slice none 0 0,.slice none 0 0,.slice none 0 0,.slice none 0 0] 40));have R2:=hI ((R1.out.keep (.of_below (BA.trans (hb.mono BA.size)))).mono (G:=Ngt w.heap.size wn.heap.size) (fun i _ hf=>⟨hf.1,Nat.ne_of_lt hf.2⟩));have P:=hI ((C.out.pk ⟨49187,x,y,[],0,0,[],[],[],[]⟩ pl0).step hb);obtain ⟨g,hgg⟩:∃ g,Hid (wn.heap.size=g):=⟨_,hI rfl⟩;rw [hgg.out] at P R2 ⊢;have nq1:=Nat.ne_of_lt P.out.lt;have nq3:=Nat.ne_of_gt P.out.lt;clear hb BA R1 C;obtain ⟨x0,x1,x2,x3,x4,x5,x6,x7,x8,x9⟩:=P.out.cf.all;obtain ⟨u0,u1,u2,u3,u4,u5,u6,u7,u8,u9⟩:=P.out.cf.free;obtain ⟨y0,y1,y2,y3,y4,y5,y6,y7,y8,y9⟩:=P.out.res.all;obtain ⟨z0,z1,z2,z3,z4,z5,z6,z7,z8,z9⟩:=P.out.res.free))
 have BA:=hI ((Below.refl wm.heap.size wm).alloc (Nat.le_refl _) (.cells #[.slice none 0 0,.slice none 0 0] 197))
 have RA:=hI (heap_alloc_new wm (.cells #[.slice none 0 0,.slice none 0 0] 197))
 have LT:=hI P.out.cf.lt
 have R3:=hI ((R2.out.mono (G:=fun i=>Ngt w.heap.size g i∧i<wm.heap.size) (fun i hi hf=>⟨hf,hi⟩)).keep (.of_below BA.out))
 obtain ⟨gl,hgl⟩:∃ gl,Hid (wm.heap.size=gl):=⟨_,hI rfl⟩
 rw [hgl.out] at RA LT R3 ⊢
 refine at_worldP (fun W=>Hid (GlC w W g gl ⟨49187,x,y,[],0,0,[],[],[],[]⟩ pl0 (.slice none 0 0) (.slice none 0 0))∧Hid (RdF (N3 w.heap.size g gl) W A1 d)) ⟨hI ⟨P.out.step BA.out,RA.out,LT.out⟩,hI (R3.out.mono (fun i _ hf=>⟨hf.1.1,hf.1.2,Nat.ne_of_lt hf.2⟩))⟩ ?_
 clear BA RA LT R3 hgl hgg nq1 nq3
 clear x0 x1 x2 x3 x4 x5 x6 x7 x8 x9 u0 u1 u2 u3 u4 u5 u6 u7 u8 u9 y0 y1 y2 y3 y4 y5 y6 y7 y8 y9 z0 z1 z2 z3 z4 z5 z6 z7 z8 z9
 clear P R2
 rintro wa ⟨Z,R⟩
 obtain ⟨nq1,nq2,nq3,nq4,nq5,nq6⟩:=Z.out.nine
 obtain ⟨x0,x1,x2,x3,x4,x5,x6,x7,x8,x9⟩:=Z.out.pc.cf.all;obtain ⟨u0,u1,u2,u3,u4,u5,u6,u7,u8,u9⟩:=Z.out.pc.cf.free;obtain ⟨y0,y1,y2,y3,y4,y5,y6,y7,y8,y9⟩:=Z.out.pc.res.all;obtain ⟨z0,z1,z2,z3,z4,z5,z6,z7,z8,z9⟩:=Z.out.pc.res.free;obtain ⟨l0,l1⟩:=Z.out.two;obtain ⟨m0,m1⟩:=Z.out.free
 refine wp_loop_rounds 1 ?_
 rw [rounds_succ]
 go_wp2_with (first
  | (go_at_call 144;have _g:=T1;clear _g;(with_reducible refine (acut_no d n2 _ A1 _ R.out.rd hn2.out HD.out HC1.out).mono ?_);rintro e wb1 ⟨rfl,hb⟩;replace Z:=hI (Z.out.step hb);clear hb T1;clear x0 x1 x2 x3 x4 x5 x6 x7 x8 x9 u0 u1 u2 u3 u4 u5 u6 u7 u8 u9 y0 y1 y2 y3 y4 y5 y6 y7 y8 y9 z0 z1 z2 z3 z4 z5 z6 z7 z8 z9 l0 l1 m0 m1;obtain ⟨x0,x1,x2,x3,x4,x5,x6,x7,x8,x9⟩:=Z.out.pc.cf.all;obtain ⟨u0,u1,u2,u3,u4,u5,u6,u7,u8,u9⟩:=Z.out.pc.cf.free;obtain ⟨y0,y1,y2,y3,y4,y5,y6,y7,y8,y9⟩:=Z.out.pc.res.all;obtain ⟨z0,z1,z2,z3,z4,z5,z6,z7,z8,z9⟩:=Z.out.pc.res.free;obtain ⟨l0,l1⟩:=Z.out.two;obtain ⟨m0,m1⟩:=Z.out.free))
 refine bodyPost_ret (v:=.tuple #[pk0.val pl0,.int .i64 2]) ?_ rfl (GetN.mk pl0 rfl pwF0 (put10_below (Z.out.set1 (.slice none 0 0)).pc.bel (Nat.le_refl _) pk0 pl0))
 exact results_row_tmpP rfl _ _ _ w.heap.size 40 _ _ _ rfl rfl (put10_px (Z.out.set1 (.slice none 0 0)).pc.res pk0 pl0) Tryz.underlying40 (by kernel_rfl)
theorem agt_two_cut2 (b:List Nat) (n c:Nat) (A:Option Addr) (w:World) (h:Rd w w.heap.size A b) (hb:By b) (hl:b.length=n) (hn:n≤1073741824) (hc:n≤c) (x y:Nat) (d:List Nat) (hg:kgetB b=(x,y,d,0)) (hk:txtB x=2) (l r:List Nat) (hd:cutT d=(l,r,0)) (hd2:cutT r=([],[],2)) :
  Calls Tryz.prog 141 #[.slice A n c] w (GetN w pk0 2):=by
 have C:=hI (GeC.made 40 w)
 have HR:=hI h
 have HB:=hI hb
 have HL:=hI hl
 have HG:=hI hg
 have HK:=hI hk
 obtain ⟨n2,hn2⟩:∃ n2,Hid (d.length=n2):=⟨_,hI rfl⟩
 have hd1:=kget_bytes hb hg
 have HD:=hI hd1.1
 have n2le:n2≤1073741824:=by have:=hd1.2;have:=hn2.out;omega
 obtain ⟨k1,HA1⟩:∃ n,Hid (l.length=n):=⟨_,hI rfl⟩
 obtain ⟨k2,HB1⟩:∃ n,Hid (r.length=n):=⟨_,hI rfl⟩
 have HDR:=hI (show By r from by have e:=(cutT_said hd);rw [e] at hd1;exact fun x hx=>hd1.1 x (List.mem_append_right _ hx))
 have k2le:k2≤1073741824:=by have e:=congrArg List.length (cutT_said hd);rw [List.length_append,hn2.out,HB1.out] at e;omega
 have HC2:=hI hd2
 have T2:=hI trivial
 clear hd2
 have HC1:=hI hd
 have T1:=hI trivial
 clear h hb hl hg hk hd1 hd
 go_enter Tryz.func141,Tryz.ntmps141
 go_upto_region 11 with (first
  | (go_at_call 107;(with_reducible refine (cgetN_v b x y d _ HG.out n2 hn2.out n c A _ (HR.out.on C.out.bel) HB.out HL.out (by omega) hc).mono ?_);rintro e wn ⟨A1,c1,rfl,k1c,r1,hb⟩;have LT:=C.out.res.lt;have R1:=hI (r1.mono (G:=fun i=>w.heap.size<i∧i<wn.heap.size) (fun i hi hf=>⟨Nat.lt_of_lt_of_le LT hf,hi⟩));replace C:=hI (C.out.step hb);clear hb r1 LT)
  | (go_at_call 143;(with_reducible refine (atxt_any x _ HK.out _).mono ?_);rintro e wm ⟨rfl,hb⟩;have BA:=((Below.refl wn.heap.size wn).alloc (Nat.le_refl _) (.cells #[.int .u16 49187,.int .u8 (x:Int),.int .u8 (y:Int),.slice none 0 0,.int .u16 0,.int .u32 0,.slice none 0 0,.slice none 0 0,.slice none 0 0,.slice none 0 0] 40));have R2:=hI ((R1.out.keep (.of_below (BA.trans (hb.mono BA.size)))).mono (G:=Ngt w.heap.size wn.heap.size) (fun i _ hf=>⟨hf.1,Nat.ne_of_lt hf.2⟩));have P:=hI ((C.out.pk ⟨49187,x,y,[],0,0,[],[],[],[]⟩ pl0).step hb);obtain ⟨g,hgg⟩:∃ g,Hid (wn.heap.size=g):=⟨_,hI rfl⟩;rw [hgg.out] at P R2 ⊢;have nq1:=Nat.ne_of_lt P.out.lt;have nq3:=Nat.ne_of_gt P.out.lt;clear hb BA R1 C;obtain ⟨x0,x1,x2,x3,x4,x5,x6,x7,x8,x9⟩:=P.out.cf.all;obtain ⟨u0,u1,u2,u3,u4,u5,u6,u7,u8,u9⟩:=P.out.cf.free;obtain ⟨y0,y1,y2,y3,y4,y5,y6,y7,y8,y9⟩:=P.out.res.all;obtain ⟨z0,z1,z2,z3,z4,z5,z6,z7,z8,z9⟩:=P.out.res.free))
 have BA:=hI ((Below.refl wm.heap.size wm).alloc (Nat.le_refl _) (.cells #[.slice none 0 0,.slice none 0 0] 197))
 have RA:=hI (heap_alloc_new wm (.cells #[.slice none 0 0,.slice none 0 0] 197))
 have LT:=hI P.out.cf.lt
 have R3:=hI ((R2.out.mono (G:=fun i=>Ngt w.heap.size g i∧i<wm.heap.size) (fun i hi hf=>⟨hf,hi⟩)).keep (.of_below BA.out))
 obtain ⟨gl,hgl⟩:∃ gl,Hid (wm.heap.size=gl):=⟨_,hI rfl⟩
 rw [hgl.out] at RA LT R3 ⊢
 refine at_worldP (fun W=>Hid (GlC w W g gl ⟨49187,x,y,[],0,0,[],[],[],[]⟩ pl0 (.slice none 0 0) (.slice none 0 0))∧Hid (RdF (N3 w.heap.size g gl) W A1 d)) ⟨hI ⟨P.out.step BA.out,RA.out,LT.out⟩,hI (R3.out.mono (fun i _ hf=>⟨hf.1.1,hf.1.2,Nat.ne_of_lt hf.2⟩))⟩ ?_
 clear BA RA LT R3 hgl hgg nq1 nq3
 clear x0 x1 x2 x3 x4 x5 x6 x7 x8 x9 u0 u1 u2 u3 u4 u5 u6 u7 u8 u9 y0 y1 y2 y3 y4 y5 y6 y7 y8 y9 z0 z1 z2 z3 z4 z5 z6 z7 z8 z9
 clear P R2
 rintro wa ⟨Z,R⟩
 obtain ⟨nq1,nq2,nq3,nq4,nq5,nq6⟩:=Z.out.nine
 obtain ⟨x0,x1,x2,x3,x4,x5,x6,x7,x8,x9⟩:=Z.out.pc.cf.all;obtain ⟨u0,u1,u2,u3,u4,u5,u6,u7,u8,u9⟩:=Z.out.pc.cf.free;obtain ⟨y0,y1,y2,y3,y4,y5,y6,y7,y8,y9⟩:=Z.out.pc.res.all;obtain ⟨z0,z1,z2,z3,z4,z5,z6,z7,z8,z9⟩:=Z.out.pc.res.free;obtain ⟨l0,l1⟩:=Z.out.two;obtain ⟨m0,m1⟩:=Z.out.free
 refine wp_loop_rounds 2 ?_
 rw [rounds_succ]
 go_wp2_with (first
  | (go_at_call 144;have _g:=T1;clear _g;(with_reducible refine (acut_ok (N3 w.heap.size g gl) d n2 c1 A1 _ R.out hn2.out HD.out (by omega) k1c l r HC1.out k1 k2 HA1.out HB1.out).mono ?_);rintro e wb1 ⟨A13,c13,A14,c14,rfl,e11,e12,r1,r2,hb⟩;have S1:=hI (r1.mono (G:=N3 w.heap.size g gl) (fun i _ hi=>by have h1:=Z.out.lt;have h2:=Z.out.gt;have h3:=Z.out.pc.lt;exact ⟨by omega,by omega,by omega⟩));replace Z:=hI (Z.out.step hb);replace R:=hI r2;clear hb r1 r2 T1;clear x0 x1 x2 x3 x4 x5 x6 x7 x8 x9 u0 u1 u2 u3 u4 u5 u6 u7 u8 u9 y0 y1 y2 y3 y4 y5 y6 y7 y8 y9 z0 z1 z2 z3 z4 z5 z6 z7 z8 z9 l0 l1 m0 m1;obtain ⟨x0,x1,x2,x3,x4,x5,x6,x7,x8,x9⟩:=Z.out.pc.cf.all;obtain ⟨u0,u1,u2,u3,u4,u5,u6,u7,u8,u9⟩:=Z.out.pc.cf.free;obtain ⟨y0,y1,y2,y3,y4,y5,y6,y7,y8,y9⟩:=Z.out.pc.res.all;obtain ⟨z0,z1,z2,z3,z4,z5,z6,z7,z8,z9⟩:=Z.out.pc.res.free;obtain ⟨l0,l1⟩:=Z.out.two;obtain ⟨m0,m1⟩:=Z.out.free))
 refine at_worldP (fun W=>Hid (GlC w W g gl ⟨49187,x,y,[],0,0,[],[],[],[]⟩ pl0 (.slice A13 k1 c13) (.slice none 0 0))∧Hid (RdF (N3 w.heap.size g gl) W A13 l)∧Hid (RdF (N3 w.heap.size g gl) W A14 r)) ⟨hI (Z.out.set1 _),hI (S1.out.keep (keeps_32 _ _ _ _ _ _)),hI (R.out.keep (keeps_32 _ _ _ _ _ _))⟩ ?_
 clear x0 x1 x2 x3 x4 x5 x6 x7 x8 x9 u0 u1 u2 u3 u4 u5 u6 u7 u8 u9 y0 y1 y2 y3 y4 y5 y6 y7 y8 y9 z0 z1 z2 z3 z4 z5 z6 z7 z8 z9 l0 l1 m0 m1
 clear Z S1 R
 rintro wc ⟨Z,S1,R⟩
 obtain ⟨x0,x1,x2,x3,x4,x5,x6,x7,x8,x9⟩:=Z.out.pc.cf.all;obtain ⟨u0,u1,u2,u3,u4,u5,u6,u7,u8,u9⟩:=Z.out.pc.cf.free;obtain ⟨y0,y1,y2,y3,y4,y5,y6,y7,y8,y9⟩:=Z.out.pc.res.all;obtain ⟨z0,z1,z2,z3,z4,z5,z6,z7,z8,z9⟩:=Z.out.pc.res.free;obtain ⟨l0,l1⟩:=Z.out.two;obtain ⟨m0,m1⟩:=Z.out.free
 rw [rounds_succ]
 go_wp2_with (first
  | (go_at_call 144;have _g:=T2;clear _g;(with_reducible refine (acut_no r k2 _ A14 _ R.out.rd HB1.out HDR.out HC2.out).mono ?_);rintro e wb2 ⟨rfl,hb⟩;replace Z:=hI (Z.out.step hb);clear hb T2;clear x0 x1 x2 x3 x4 x5 x6 x7 x8 x9 u0 u1 u2 u3 u4 u5 u6 u7 u8 u9 y0 y1 y2 y3 y4 y5 y6 y7 y8 y9 z0 z1 z2 z3 z4 z5 z6 z7 z8 z9 l0 l1 m0 m1;obtain ⟨x0,x1,x2,x3,x4,x5,x6,x7,x8,x9⟩:=Z.out.pc.cf.all;obtain ⟨u0,u1,u2,u3,u4,u5,u6,u7,u8,u9⟩:=Z.out.pc.cf.free;obtain ⟨y0,y1,y2,y3,y4,y5,y6,y7,y8,y9⟩:=Z.out.pc.res.all;obtain ⟨z0,z1,z2,z3,z4,z5,z6,z7,z8,z9⟩:=Z.out.pc.res.free;obtain ⟨l0,l1⟩:=Z.out.two;obtain ⟨m0,m1⟩:=Z.out.free))
 refine bodyPost_ret (v:=.tuple #[pk0.val pl0,.int .i64 2]) ?_ rfl (GetN.mk pl0 rfl pwF0 (put10_below (Z.out.set2 (.slice none 0 0)).pc.bel (Nat.le_refl _) pk0 pl0))
 exact results_row_tmpP rfl _ _ _ w.heap.size 40 _ _ _ rfl rfl (put10_px (Z.out.set2 (.slice none 0 0)).pc.res pk0 pl0) Tryz.underlying40 (by kernel_rfl)
theorem agt_two_left (b:List Nat) (n c:Nat) (A:Option Addr) (w:World) (h:Rd w w.heap.size A b) (hb:By b) (hl:b.length=n) (hn:n≤1073741824) (hc:n≤c) (x y:Nat) (d:List Nat) (hg:kgetB b=(x,y,d,0)) (hk:txtB x=2) (l r:List Nat) (hd:cutT d=(l,r,0)) (l2 r2:List Nat) (hd2:cutT r=(l2,r2,0)) (hr:¬ r2=[]) :
  Calls Tryz.prog 141 #[.slice A n c] w (GetN w pk0 4):=by
 have C:=hI (GeC.made 40 w)
 have HR:=hI h
 have HB:=hI hb
 have HL:=hI hl
 have HG:=hI hg
 have HK:=hI hk
 obtain ⟨n2,hn2⟩:∃ n2,Hid (d.length=n2):=⟨_,hI rfl⟩
 have hd1:=kget_bytes hb hg
 have HD:=hI hd1.1
 have n2le:n2≤1073741824:=by have:=hd1.2;have:=hn2.out;omega
 obtain ⟨k1,HA1⟩:∃ n,Hid (l.length=n):=⟨_,hI rfl⟩
 obtain ⟨k2,HB1⟩:∃ n,Hid (r.length=n):=⟨_,hI rfl⟩
 have HDR:=hI (show By r from by have e:=(cutT_said hd);rw [e] at hd1;exact fun x hx=>hd1.1 x (List.mem_append_right _ hx))
 have k2le:k2≤1073741824:=by have e:=congrArg List.length (cutT_said hd);rw [List.length_append,hn2.out,HB1.out] at e;omega
 obtain ⟨k3,HA2⟩:∃ n,Hid (l2.length=n):=⟨_,hI rfl⟩
 obtain ⟨k4,HB2⟩:∃ n,Hid (r2.length=n):=⟨_,hI rfl⟩
 have jr:(0:Int)<(k4:Int):=by have:=HB2.out;have:r2.length≠0:=fun e=>hr (List.eq_nil_of_length_eq_zero e);omega
 clear hr
 have HC2:=hI hd2
 have T2:=hI trivial
 clear hd2
 have HC1:=hI hd
 have T1:=hI trivial
 clear h hb hl hg hk hd1 hd
 go_enter Tryz.func141,Tryz.ntmps141
 go_upto_region 11 with (first
  | (go_at_call 107;(with_reducible refine (cgetN_v b x y d _ HG.out n2 hn2.out n c A _ (HR.out.on C.out.bel) HB.out HL.out (by omega) hc).mono ?_);rintro e wn ⟨A1,c1,rfl,k1c,r1,hb⟩;have LT:=C.out.res.lt;have R1:=hI (r1.mono (G:=fun i=>w.heap.size<i∧i<wn.heap.size) (fun i hi hf=>⟨Nat.lt_of_lt_of_le LT hf,hi⟩));replace C:=hI (C.out.step hb);clear hb r1 LT)
  | (go_at_call 143;(with_reducible refine (atxt_any x _ HK.out _).mono ?_);rintro e wm ⟨rfl,hb⟩;have BA:=((Below.refl wn.heap.size wn).alloc (Nat.le_refl _) (.cells #[.int .u16 49187,.int .u8 (x:Int),.int .u8 (y:Int),.slice none 0 0,.int .u16 0,.int .u32 0,.slice none 0 0,.slice none 0 0,.slice none 0 0,.slice none 0 0] 40));have R2:=hI ((R1.out.keep (.of_below (BA.trans (hb.mono BA.size)))).mono (G:=Ngt w.heap.size wn.heap.size) (fun i _ hf=>⟨hf.1,Nat.ne_of_lt hf.2⟩));have P:=hI ((C.out.pk ⟨49187,x,y,[],0,0,[],[],[],[]⟩ pl0).step hb);obtain ⟨g,hgg⟩:∃ g,Hid (wn.heap.size=g):=⟨_,hI rfl⟩;rw [hgg.out] at P R2 ⊢;have nq1:=Nat.ne_of_lt P.out.lt;have nq3:=Nat.ne_of_gt P.out.lt;clear hb BA R1 C;obtain ⟨x0,x1,x2,x3,x4,x5,x6,x7,x8,x9⟩:=P.out.cf.all;obtain ⟨u0,u1,u2,u3,u4,u5,u6,u7,u8,u9⟩:=P.out.cf.free;obtain ⟨y0,y1,y2,y3,y4,y5,y6,y7,y8,y9⟩:=P.out.res.all;obtain ⟨z0,z1,z2,z3,z4,z5,z6,z7,z8,z9⟩:=P.out.res.free))
 have BA:=hI ((Below.refl wm.heap.size wm).alloc (Nat.le_refl _) (.cells #[.slice none 0 0,.slice none 0 0] 197))
 have RA:=hI (heap_alloc_new wm (.cells #[.slice none 0 0,.slice none 0 0] 197))
 have LT:=hI P.out.cf.lt
 have R3:=hI ((R2.out.mono (G:=fun i=>Ngt w.heap.size g i∧i<wm.heap.size) (fun i hi hf=>⟨hf,hi⟩)).keep (.of_below BA.out))
 obtain ⟨gl,hgl⟩:∃ gl,Hid (wm.heap.size=gl):=⟨_,hI rfl⟩
 rw [hgl.out] at RA LT R3 ⊢
 refine at_worldP (fun W=>Hid (GlC w W g gl ⟨49187,x,y,[],0,0,[],[],[],[]⟩ pl0 (.slice none 0 0) (.slice none 0 0))∧Hid (RdF (N3 w.heap.size g gl) W A1 d)) ⟨hI ⟨P.out.step BA.out,RA.out,LT.out⟩,hI (R3.out.mono (fun i _ hf=>⟨hf.1.1,hf.1.2,Nat.ne_of_lt hf.2⟩))⟩ ?_
 clear BA RA LT R3 hgl hgg nq1 nq3
 clear x0 x1 x2 x3 x4 x5 x6 x7 x8 x9 u0 u1 u2 u3 u4 u5 u6 u7 u8 u9 y0 y1 y2 y3 y4 y5 y6 y7 y8 y9 z0 z1 z2 z3 z4 z5 z6 z7 z8 z9
 clear P R2
 rintro wa ⟨Z,R⟩
 obtain ⟨nq1,nq2,nq3,nq4,nq5,nq6⟩:=Z.out.nine
 obtain ⟨x0,x1,x2,x3,x4,x5,x6,x7,x8,x9⟩:=Z.out.pc.cf.all;obtain ⟨u0,u1,u2,u3,u4,u5,u6,u7,u8,u9⟩:=Z.out.pc.cf.free;obtain ⟨y0,y1,y2,y3,y4,y5,y6,y7,y8,y9⟩:=Z.out.pc.res.all;obtain ⟨z0,z1,z2,z3,z4,z5,z6,z7,z8,z9⟩:=Z.out.pc.res.free;obtain ⟨l0,l1⟩:=Z.out.two;obtain ⟨m0,m1⟩:=Z.out.free
 refine wp_loop_rounds 3 ?_
 rw [rounds_succ]
 go_wp2_with (first
  | (go_at_call 144;have _g:=T1;clear _g;(with_reducible refine (acut_ok (N3 w.heap.size g gl) d n2 c1 A1 _ R.out hn2.out HD.out (by omega) k1c l r HC1.out k1 k2 HA1.out HB1.out).mono ?_);rintro e wb1 ⟨A13,c13,A14,c14,rfl,e11,e12,r1,r2,hb⟩;have S1:=hI (r1.mono (G:=N3 w.heap.size g gl) (fun i _ hi=>by have h1:=Z.out.lt;have h2:=Z.out.gt;have h3:=Z.out.pc.lt;exact ⟨by omega,by omega,by omega⟩));replace Z:=hI (Z.out.step hb);replace R:=hI r2;clear hb r1 r2 T1;clear x0 x1 x2 x3 x4 x5 x6 x7 x8 x9 u0 u1 u2 u3 u4 u5 u6 u7 u8 u9 y0 y1 y2 y3 y4 y5 y6 y7 y8 y9 z0 z1 z2 z3 z4 z5 z6 z7 z8 z9 l0 l1 m0 m1;obtain ⟨x0,x1,x2,x3,x4,x5,x6,x7,x8,x9⟩:=Z.out.pc.cf.all;obtain ⟨u0,u1,u2,u3,u4,u5,u6,u7,u8,u9⟩:=Z.out.pc.cf.free;obtain ⟨y0,y1,y2,y3,y4,y5,y6,y7,y8,y9⟩:=Z.out.pc.res.all;obtain ⟨z0,z1,z2,z3,z4,z5,z6,z7,z8,z9⟩:=Z.out.pc.res.free;obtain ⟨l0,l1⟩:=Z.out.two;obtain ⟨m0,m1⟩:=Z.out.free))
 refine at_worldP (fun W=>Hid (GlC w W g gl ⟨49187,x,y,[],0,0,[],[],[],[]⟩ pl0 (.slice A13 k1 c13) (.slice none 0 0))∧Hid (RdF (N3 w.heap.size g gl) W A13 l)∧Hid (RdF (N3 w.heap.size g gl) W A14 r)) ⟨hI (Z.out.set1 _),hI (S1.out.keep (keeps_32 _ _ _ _ _ _)),hI (R.out.keep (keeps_32 _ _ _ _ _ _))⟩ ?_
 clear x0 x1 x2 x3 x4 x5 x6 x7 x8 x9 u0 u1 u2 u3 u4 u5 u6 u7 u8 u9 y0 y1 y2 y3 y4 y5 y6 y7 y8 y9 z0 z1 z2 z3 z4 z5 z6 z7 z8 z9 l0 l1 m0 m1
 clear Z S1 R
 rintro wc ⟨Z,S1,R⟩
 obtain ⟨x0,x1,x2,x3,x4,x5,x6,x7,x8,x9⟩:=Z.out.pc.cf.all;obtain ⟨u0,u1,u2,u3,u4,u5,u6,u7,u8,u9⟩:=Z.out.pc.cf.free;obtain ⟨y0,y1,y2,y3,y4,y5,y6,y7,y8,y9⟩:=Z.out.pc.res.all;obtain ⟨z0,z1,z2,z3,z4,z5,z6,z7,z8,z9⟩:=Z.out.pc.res.free;obtain ⟨l0,l1⟩:=Z.out.two;obtain ⟨m0,m1⟩:=Z.out.free
 rw [rounds_succ]
 go_wp2_with (first
  | (go_at_call 144;have _g:=T2;clear _g;(with_reducible refine (acut_ok (N3 w.heap.size g gl) r k2 c14 A14 _ R.out HB1.out HDR.out (by omega) e12 l2 r2 HC2.out k3 k4 HA2.out HB2.out).mono ?_);rintro e wb2 ⟨A23,c23,A24,c24,rfl,e21,e22,r1,r2,hb⟩;have S2:=hI (r1.mono (G:=N3 w.heap.size g gl) (fun i _ hi=>by have h1:=Z.out.lt;have h2:=Z.out.gt;have h3:=Z.out.pc.lt;exact ⟨by omega,by omega,by omega⟩));replace S1:=hI (S1.out.keep (.of_below hb));replace Z:=hI (Z.out.step hb);replace R:=hI r2;clear hb r1 r2 T2;clear x0 x1 x2 x3 x4 x5 x6 x7 x8 x9 u0 u1 u2 u3 u4 u5 u6 u7 u8 u9 y0 y1 y2 y3 y4 y5 y6 y7 y8 y9 z0 z1 z2 z3 z4 z5 z6 z7 z8 z9 l0 l1 m0 m1;obtain ⟨x0,x1,x2,x3,x4,x5,x6,x7,x8,x9⟩:=Z.out.pc.cf.all;obtain ⟨u0,u1,u2,u3,u4,u5,u6,u7,u8,u9⟩:=Z.out.pc.cf.free;obtain ⟨y0,y1,y2,y3,y4,y5,y6,y7,y8,y9⟩:=Z.out.pc.res.all;obtain ⟨z0,z1,z2,z3,z4,z5,z6,z7,z8,z9⟩:=Z.out.pc.res.free;obtain ⟨l0,l1⟩:=Z.out.two;obtain ⟨m0,m1⟩:=Z.out.free))
 refine at_worldP (fun W=>Hid (GlC w W g gl ⟨49187,x,y,[],0,0,[],[],[],[]⟩ pl0 (.slice A13 k1 c13) (.slice A23 k3 c23))∧Hid (RdF (N3 w.heap.size g gl) W A13 l)∧Hid (RdF (N3 w.heap.size g gl) W A23 l2)∧Hid (RdF (N3 w.heap.size g gl) W A24 r2)) ⟨hI (Z.out.set2 _),hI (S1.out.keep (keeps_32 _ _ _ _ _ _)),hI (S2.out.keep (keeps_32 _ _ _ _ _ _)),hI (R.out.keep (keeps_32 _ _ _ _ _ _))⟩ ?_
 clear x0 x1 x2 x3 x4 x5 x6 x7 x8 x9 u0 u1 u2 u3 u4 u5 u6 u7 u8 u9 y0 y1 y2 y3 y4 y5 y6 y7 y8 y9 z0 z1 z2 z3 z4 z5 z6 z7 z8 z9 l0 l1 m0 m1
 clear Z S1 S2 R
 rintro wc ⟨Z,S1,S2,R⟩
 obtain ⟨x0,x1,x2,x3,x4,x5,x6,x7,x8,x9⟩:=Z.out.pc.cf.all;obtain ⟨u0,u1,u2,u3,u4,u5,u6,u7,u8,u9⟩:=Z.out.pc.cf.free;obtain ⟨y0,y1,y2,y3,y4,y5,y6,y7,y8,y9⟩:=Z.out.pc.res.all;obtain ⟨z0,z1,z2,z3,z4,z5,z6,z7,z8,z9⟩:=Z.out.pc.res.free;obtain ⟨l0,l1⟩:=Z.out.two;obtain ⟨m0,m1⟩:=Z.out.free
 rw [rounds_succ]
 go_wp2_with fail
 refine bodyPost_ret (v:=.tuple #[pk0.val pl0,.int .i64 4]) ?_ rfl (GetN.mk pl0 rfl pwF0 (put10_below Z.out.pc.bel (Nat.le_refl _) pk0 pl0))
 exact results_row_tmpP rfl _ _ _ w.heap.size 40 _ _ _ rfl rfl (put10_px Z.out.pc.res pk0 pl0) Tryz.underlying40 (by kernel_rfl)
theorem agt_two (b:List Nat) (n c:Nat) (A:Option Addr) (w:World) (h:Rd w w.heap.size A b) (hb:By b) (hl:b.length=n) (hn:n≤1073741824) (hc:n≤c) (x y:Nat) (d:List Nat) (hg:kgetB b=(x,y,d,0)) (hk:txtB x=2) (l r:List Nat) (hd:cutT d=(l,r,0)) (l2:List Nat) (hd2:cutT r=(l2,[],0)) :
  Calls Tryz.prog 141 #[.slice A n c] w (GetN w ⟨49187,x,y,[],0,0,l,l2,[],[]⟩ 0):=by
 have C:=hI (GeC.made 40 w)
 have HR:=hI h
 have HB:=hI hb
 have HL:=hI hl
 have HG:=hI hg
 have HK:=hI hk
 obtain ⟨n2,hn2⟩:∃ n2,Hid (d.length=n2):=⟨_,hI rfl⟩
 have hd1:=kget_bytes hb hg
 have HD:=hI hd1.1
 have n2le:n2≤1073741824:=by have:=hd1.2;have:=hn2.out;omega
 obtain ⟨k1,HA1⟩:∃ n,Hid (l.length=n):=⟨_,hI rfl⟩
 obtain ⟨k2,HB1⟩:∃ n,Hid (r.length=n):=⟨_,hI rfl⟩
 have HDR:=hI (show By r from by have e:=(cutT_said hd);rw [e] at hd1;exact fun x hx=>hd1.1 x (List.mem_append_right _ hx))
 have k2le:k2≤1073741824:=by have e:=congrArg List.length (cutT_said hd);rw [List.length_append,hn2.out,HB1.out] at e;omega
 obtain ⟨k3,HA2⟩:∃ n,Hid (l2.length=n):=⟨_,hI rfl⟩
 have HB2:=hI (show ([]:List Nat).length=0 from rfl)
 have HC2:=hI hd2
 have T2:=hI trivial
 clear hd2
 have HC1:=hI hd
 have T1:=hI trivial
 clear h hb hl hg hk hd1 hd
 go_enter Tryz.func141,Tryz.ntmps141
 go_upto_region 11 with (first
  | (go_at_call 107;(with_reducible refine (cgetN_v b x y d _ HG.out n2 hn2.out n c A _ (HR.out.on C.out.bel) HB.out HL.out (by omega) hc).mono ?_);rintro e wn ⟨A1,c1,rfl,k1c,r1,hb⟩;have LT:=C.out.res.lt;have R1:=hI (r1.mono (G:=fun i=>w.heap.size<i∧i<wn.heap.size) (fun i hi hf=>⟨Nat.lt_of_lt_of_le LT hf,hi⟩));replace C:=hI (C.out.step hb);clear hb r1 LT)
  | (go_at_call 143;(with_reducible refine (atxt_any x _ HK.out _).mono ?_);rintro e wm ⟨rfl,hb⟩;have BA:=((Below.refl wn.heap.size wn).alloc (Nat.le_refl _) (.cells #[.int .u16 49187,.int .u8 (x:Int),.int .u8 (y:Int),.slice none 0 0,.int .u16 0,.int .u32 0,.slice none 0 0,.slice none 0 0,.slice none 0 0,.slice none 0 0] 40));have R2:=hI ((R1.out.keep (.of_below (BA.trans (hb.mono BA.size)))).mono (G:=Ngt w.heap.size wn.heap.size) (fun i _ hf=>⟨hf.1,Nat.ne_of_lt hf.2⟩));have P:=hI ((C.out.pk ⟨49187,x,y,[],0,0,[],[],[],[]⟩ pl0).step hb);obtain ⟨g,hgg⟩:∃ g,Hid (wn.heap.size=g):=⟨_,hI rfl⟩;rw [hgg.out] at P R2 ⊢;have nq1:=Nat.ne_of_lt P.out.lt;have nq3:=Nat.ne_of_gt P.out.lt;clear hb BA R1 C;obtain ⟨x0,x1,x2,x3,x4,x5,x6,x7,x8,x9⟩:=P.out.cf.all;obtain ⟨u0,u1,u2,u3,u4,u5,u6,u7,u8,u9⟩:=P.out.cf.free;obtain ⟨y0,y1,y2,y3,y4,y5,y6,y7,y8,y9⟩:=P.out.res.all;obtain ⟨z0,z1,z2,z3,z4,z5,z6,z7,z8,z9⟩:=P.out.res.free))
 have BA:=hI ((Below.refl wm.heap.size wm).alloc (Nat.le_refl _) (.cells #[.slice none 0 0,.slice none 0 0] 197))
 have RA:=hI (heap_alloc_new wm (.cells #[.slice none 0 0,.slice none 0 0] 197))
 have LT:=hI P.out.cf.lt
 have R3:=hI ((R2.out.mono (G:=fun i=>Ngt w.heap.size g i∧i<wm.heap.size) (fun i hi hf=>⟨hf,hi⟩)).keep (.of_below BA.out))
 obtain ⟨gl,hgl⟩:∃ gl,Hid (wm.heap.size=gl):=⟨_,hI rfl⟩
 rw [hgl.out] at RA LT R3 ⊢
 refine at_worldP (fun W=>Hid (GlC w W g gl ⟨49187,x,y,[],0,0,[],[],[],[]⟩ pl0 (.slice none 0 0) (.slice none 0 0))∧Hid (RdF (N3 w.heap.size g gl) W A1 d)) ⟨hI ⟨P.out.step BA.out,RA.out,LT.out⟩,hI (R3.out.mono (fun i _ hf=>⟨hf.1.1,hf.1.2,Nat.ne_of_lt hf.2⟩))⟩ ?_
 clear BA RA LT R3 hgl hgg nq1 nq3
 clear x0 x1 x2 x3 x4 x5 x6 x7 x8 x9 u0 u1 u2 u3 u4 u5 u6 u7 u8 u9 y0 y1 y2 y3 y4 y5 y6 y7 y8 y9 z0 z1 z2 z3 z4 z5 z6 z7 z8 z9
 clear P R2
 rintro wa ⟨Z,R⟩
 obtain ⟨nq1,nq2,nq3,nq4,nq5,nq6⟩:=Z.out.nine
 obtain ⟨x0,x1,x2,x3,x4,x5,x6,x7,x8,x9⟩:=Z.out.pc.cf.all;obtain ⟨u0,u1,u2,u3,u4,u5,u6,u7,u8,u9⟩:=Z.out.pc.cf.free;obtain ⟨y0,y1,y2,y3,y4,y5,y6,y7,y8,y9⟩:=Z.out.pc.res.all;obtain ⟨z0,z1,z2,z3,z4,z5,z6,z7,z8,z9⟩:=Z.out.pc.res.free;obtain ⟨l0,l1⟩:=Z.out.two;obtain ⟨m0,m1⟩:=Z.out.free
 refine wp_loop_rounds 3 ?_
 rw [rounds_succ]
 go_wp2_with (first
  | (go_at_call 144;have _g:=T1;clear _g;(with_reducible refine (acut_ok (N3 w.heap.size g gl) d n2 c1 A1 _ R.out hn2.out HD.out (by omega) k1c l r HC1.out k1 k2 HA1.out HB1.out).mono ?_);rintro e wb1 ⟨A13,c13,A14,c14,rfl,e11,e12,r1,r2,hb⟩;have S1:=hI (r1.mono (G:=N3 w.heap.size g gl) (fun i _ hi=>by have h1:=Z.out.lt;have h2:=Z.out.gt;have h3:=Z.out.pc.lt;exact ⟨by omega,by omega,by omega⟩));replace Z:=hI (Z.out.step hb);replace R:=hI r2;clear hb r1 r2 T1;clear x0 x1 x2 x3 x4 x5 x6 x7 x8 x9 u0 u1 u2 u3 u4 u5 u6 u7 u8 u9 y0 y1 y2 y3 y4 y5 y6 y7 y8 y9 z0 z1 z2 z3 z4 z5 z6 z7 z8 z9 l0 l1 m0 m1;obtain ⟨x0,x1,x2,x3,x4,x5,x6,x7,x8,x9⟩:=Z.out.pc.cf.all;obtain ⟨u0,u1,u2,u3,u4,u5,u6,u7,u8,u9⟩:=Z.out.pc.cf.free;obtain ⟨y0,y1,y2,y3,y4,y5,y6,y7,y8,y9⟩:=Z.out.pc.res.all;obtain ⟨z0,z1,z2,z3,z4,z5,z6,z7,z8,z9⟩:=Z.out.pc.res.free;obtain ⟨l0,l1⟩:=Z.out.two;obtain ⟨m0,m1⟩:=Z.out.free))
 refine at_worldP (fun W=>Hid (GlC w W g gl ⟨49187,x,y,[],0,0,[],[],[],[]⟩ pl0 (.slice A13 k1 c13) (.slice none 0 0))∧Hid (RdF (N3 w.heap.size g gl) W A13 l)∧Hid (RdF (N3 w.heap.size g gl) W A14 r)) ⟨hI (Z.out.set1 _),hI (S1.out.keep (keeps_32 _ _ _ _ _ _)),hI (R.out.keep (keeps_32 _ _ _ _ _ _))⟩ ?_
 clear x0 x1 x2 x3 x4 x5 x6 x7 x8 x9 u0 u1 u2 u3 u4 u5 u6 u7 u8 u9 y0 y1 y2 y3 y4 y5 y6 y7 y8 y9 z0 z1 z2 z3 z4 z5 z6 z7 z8 z9 l0 l1 m0 m1
 clear Z S1 R
 rintro wc ⟨Z,S1,R⟩
 obtain ⟨x0,x1,x2,x3,x4,x5,x6,x7,x8,x9⟩:=Z.out.pc.cf.all;obtain ⟨u0,u1,u2,u3,u4,u5,u6,u7,u8,u9⟩:=Z.out.pc.cf.free;obtain ⟨y0,y1,y2,y3,y4,y5,y6,y7,y8,y9⟩:=Z.out.pc.res.all;obtain ⟨z0,z1,z2,z3,z4,z5,z6,z7,z8,z9⟩:=Z.out.pc.res.free;obtain ⟨l0,l1⟩:=Z.out.two;obtain ⟨m0,m1⟩:=Z.out.free
 rw [rounds_succ]
 go_wp2_with (first
  | (go_at_call 144;have _g:=T2;clear _g;(with_reducible refine (acut_ok (N3 w.heap.size g gl) r k2 c14 A14 _ R.out HB1.out HDR.out (by omega) e12 l2 [] HC2.out k3 0 HA2.out HB2.out).mono ?_);rintro e wb2 ⟨A23,c23,A24,c24,rfl,e21,e22,r1,r2,hb⟩;have S2:=hI (r1.mono (G:=N3 w.heap.size g gl) (fun i _ hi=>by have h1:=Z.out.lt;have h2:=Z.out.gt;have h3:=Z.out.pc.lt;exact ⟨by omega,by omega,by omega⟩));replace S1:=hI (S1.out.keep (.of_below hb));replace Z:=hI (Z.out.step hb);replace R:=hI r2;clear hb r1 r2 T2;clear x0 x1 x2 x3 x4 x5 x6 x7 x8 x9 u0 u1 u2 u3 u4 u5 u6 u7 u8 u9 y0 y1 y2 y3 y4 y5 y6 y7 y8 y9 z0 z1 z2 z3 z4 z5 z6 z7 z8 z9 l0 l1 m0 m1;obtain ⟨x0,x1,x2,x3,x4,x5,x6,x7,x8,x9⟩:=Z.out.pc.cf.all;obtain ⟨u0,u1,u2,u3,u4,u5,u6,u7,u8,u9⟩:=Z.out.pc.cf.free;obtain ⟨y0,y1,y2,y3,y4,y5,y6,y7,y8,y9⟩:=Z.out.pc.res.all;obtain ⟨z0,z1,z2,z3,z4,z5,z6,z7,z8,z9⟩:=Z.out.pc.res.free;obtain ⟨l0,l1⟩:=Z.out.two;obtain ⟨m0,m1⟩:=Z.out.free))
 refine at_worldP (fun W=>Hid (GlC w W g gl ⟨49187,x,y,[],0,0,[],[],[],[]⟩ pl0 (.slice A13 k1 c13) (.slice A23 k3 c23))∧Hid (RdF (N3 w.heap.size g gl) W A13 l)∧Hid (RdF (N3 w.heap.size g gl) W A23 l2)∧Hid (RdF (N3 w.heap.size g gl) W A24 [])) ⟨hI (Z.out.set2 _),hI (S1.out.keep (keeps_32 _ _ _ _ _ _)),hI (S2.out.keep (keeps_32 _ _ _ _ _ _)),hI (R.out.keep (keeps_32 _ _ _ _ _ _))⟩ ?_
 clear x0 x1 x2 x3 x4 x5 x6 x7 x8 x9 u0 u1 u2 u3 u4 u5 u6 u7 u8 u9 y0 y1 y2 y3 y4 y5 y6 y7 y8 y9 z0 z1 z2 z3 z4 z5 z6 z7 z8 z9 l0 l1 m0 m1
 clear Z S1 S2 R
 rintro wc ⟨Z,S1,S2,R⟩
 obtain ⟨x0,x1,x2,x3,x4,x5,x6,x7,x8,x9⟩:=Z.out.pc.cf.all;obtain ⟨u0,u1,u2,u3,u4,u5,u6,u7,u8,u9⟩:=Z.out.pc.cf.free;obtain ⟨y0,y1,y2,y3,y4,y5,y6,y7,y8,y9⟩:=Z.out.pc.res.all;obtain ⟨z0,z1,z2,z3,z4,z5,z6,z7,z8,z9⟩:=Z.out.pc.res.free;obtain ⟨l0,l1⟩:=Z.out.two;obtain ⟨m0,m1⟩:=Z.out.free
 rw [rounds_succ]
 go_wp2_with fail
 clear R
 go_region_held3 (fun W=>W.cell? ⟨gl,0,none⟩=some (.slice A13 k1 c13)∧W.cell? ⟨gl,1,none⟩=some (.slice A23 k3 c23)) (first | (with_reducible exact Z.out.two) | (with_reducible exact Z.out.drew.two) | (with_reducible exact (Z.out.setOne A13 k1 c13 l).two) | (with_reducible exact (Z.out.setOne A13 k1 c13 l).drew.two) | (with_reducible exact (Z.out.setTwo A23 k3 c23 l2).two) | (with_reducible exact (Z.out.setTwo A23 k3 c23 l2).drew.two) | (with_reducible exact ((Z.out.setOne A13 k1 c13 l).setTwo A23 k3 c23 l2).two) | (with_reducible exact ((Z.out.setOne A13 k1 c13 l).setTwo A23 k3 c23 l2).drew.two) | (with_reducible exact ((Z.out.setTwo A23 k3 c23 l2).setOne A13 k1 c13 l).two) | (with_reducible exact ((Z.out.setTwo A23 k3 c23 l2).setOne A13 k1 c13 l).drew.two)) (fail)
 have S1':=hI ((S1.out.keep ((keeps_31 wc w.heap.size g gl 6 (.slice A13 k1 c13)).trans (keeps_31 _ w.heap.size g gl 7 (.slice A23 k3 c23)))).keep (.of_below (Below.refl _ _).drew))
 have S2':=hI ((S2.out.keep ((keeps_31 wc w.heap.size g gl 6 (.slice A13 k1 c13)).trans (keeps_31 _ w.heap.size g gl 7 (.slice A23 k3 c23)))).keep (.of_below (Below.refl _ _).drew))
 refine at_worldP (fun W=>Hid (GlC w W g gl ⟨49187,x,y,[],0,0,l,l2,[],[]⟩ { pl0 with a1:=A13,n1:=k1,c1:=c13,a2:=A23,n2:=k3,c2:=c23 } (.slice A13 k1 c13) (.slice A23 k3 c23))∧Hid (RdF (N3 w.heap.size g gl) W A13 l)∧Hid (RdF (N3 w.heap.size g gl) W A23 l2)) ⟨hI ((Z.out.setOne A13 k1 c13 l).setTwo A23 k3 c23 l2).drew,S1',S2'⟩ ?_
 clear x0 x1 x2 x3 x4 x5 x6 x7 x8 x9 u0 u1 u2 u3 u4 u5 u6 u7 u8 u9 y0 y1 y2 y3 y4 y5 y6 y7 y8 y9 z0 z1 z2 z3 z4 z5 z6 z7 z8 z9 l0 l1 m0 m1
 clear Z S1 S1' S2 S2'
 rintro wd ⟨Z,S1,S2⟩
 obtain ⟨x0,x1,x2,x3,x4,x5,x6,x7,x8,x9⟩:=Z.out.pc.cf.all;obtain ⟨u0,u1,u2,u3,u4,u5,u6,u7,u8,u9⟩:=Z.out.pc.cf.free;obtain ⟨y0,y1,y2,y3,y4,y5,y6,y7,y8,y9⟩:=Z.out.pc.res.all;obtain ⟨z0,z1,z2,z3,z4,z5,z6,z7,z8,z9⟩:=Z.out.pc.res.free;obtain ⟨l0,l1⟩:=Z.out.two;obtain ⟨m0,m1⟩:=Z.out.free
 go_wp2_with fail
 refine bodyPost_ret (v:=.tuple #[Pk.val ⟨49187,x,y,[],0,0,l,l2,[],[]⟩ { pl0 with a1:=A13,n1:=k1,c1:=c13,a2:=A23,n2:=k3,c2:=c23 },.int .i64 0]) ?_ rfl (GetN.mk { pl0 with a1:=A13,n1:=k1,c1:=c13,a2:=A23,n2:=k3,c2:=c23 } rfl ?_ (put10_below Z.out.pc.bel (Nat.le_refl _) ⟨49187,x,y,[],0,0,l,l2,[],[]⟩ { pl0 with a1:=A13,n1:=k1,c1:=c13,a2:=A23,n2:=k3,c2:=c23 }))
 ·exact results_row_tmpP rfl _ _ _ w.heap.size 40 _ _ _ rfl rfl (put10_px Z.out.pc.res ⟨49187,x,y,[],0,0,l,l2,[],[]⟩ { pl0 with a1:=A13,n1:=k1,c1:=c13,a2:=A23,n2:=k3,c2:=c23 }) Tryz.underlying40 (by kernel_rfl)
 ·exact ((pwF_texts 49187 x y HA1.out S1.out e11 HA2.out S2.out e21).keep (keeps_30 _ _ _ _ ⟨49187,x,y,[],0,0,l,l2,[],[]⟩ { pl0 with a1:=A13,n1:=k1,c1:=c13,a2:=A23,n2:=k3,c2:=c23 })).mono (fun _ _ h=>h.le)
theorem aget_any (b:List Nat) (n c:Nat) (A:Option Addr) (w:World) (h:Rd w w.heap.size A b) (hb:By b) (hl:b.length=n) (hn:n≤1073741824) (hc:n≤c) (p:Pk) (k:Nat) (hp:agetB b=(p,k)) :
  Calls Tryz.prog 141 #[.slice A n c] w (GetN w p k):=by
 obtain ⟨x,y,d,e,hg⟩:∃ x y d e,kgetB b=(x,y,d,e):=⟨_,_,_,_,rfl⟩
 by_cases he:e=0
 case neg =>
  rw [aget_no hg he] at hp
  obtain ⟨rfl,rfl⟩:=Prod.mk.inj hp
  exact agt_no b n c A w h hb hl hn hc x y d e hg he
 subst he
 rw [aget_of hg,ardB] at hp
 rcases txtB_cases x with ⟨-,hk⟩ | ⟨-,hk⟩ | ⟨-,hk⟩
 ·rw [if_pos hk] at hp
  rcases cutT_get d with ⟨l,r,e1,-⟩ | e1
  ·rw [e1] at hp
   dsimp only at hp
   rw [if_pos rfl] at hp
   rcases cutT_get r with ⟨l2,r2,e2,-⟩ | e2
   ·rw [e2] at hp
    dsimp only at hp
    rw [if_pos rfl] at hp
    by_cases hr:r2=[]
    ·rw [if_pos hr] at hp
     obtain ⟨rfl,rfl⟩:=Prod.mk.inj hp
     subst hr
     exact agt_two b n c A w h hb hl hn hc x y d hg hk l r e1 l2 e2
    ·rw [if_neg hr] at hp
     obtain ⟨rfl,rfl⟩:=Prod.mk.inj hp
     exact agt_two_left b n c A w h hb hl hn hc x y d hg hk l r e1 l2 r2 e2 hr
   ·rw [e2] at hp
    dsimp only at hp
    rw [if_neg (by decide)] at hp
    obtain ⟨rfl,rfl⟩:=Prod.mk.inj hp
    exact agt_two_cut2 b n c A w h hb hl hn hc x y d hg hk l r e1 e2
  ·rw [e1] at hp
   dsimp only at hp
   rw [if_neg (by decide)] at hp
   obtain ⟨rfl,rfl⟩:=Prod.mk.inj hp
   exact agt_two_cut1 b n c A w h hb hl hn hc x y d hg hk e1
 ·rw [if_neg (by omega),if_pos hk] at hp
  rcases cutT_get d with ⟨l,r,e1,-⟩ | e1
  ·rw [e1] at hp
   dsimp only at hp
   rw [if_pos rfl] at hp
   by_cases hr:r=[]
   ·rw [if_pos hr] at hp
    obtain ⟨rfl,rfl⟩:=Prod.mk.inj hp
    subst hr
    exact agt_one b n c A w h hb hl hn hc x y d hg hk l e1
   ·rw [if_neg hr] at hp
    obtain ⟨rfl,rfl⟩:=Prod.mk.inj hp
    exact agt_one_left b n c A w h hb hl hn hc x y d hg hk l r e1 hr
  ·rw [e1] at hp
   dsimp only at hp
   rw [if_neg (by decide)] at hp
   obtain ⟨rfl,rfl⟩:=Prod.mk.inj hp
   exact agt_one_cut b n c A w h hb hl hn hc x y d hg hk e1
 ·rw [if_neg (by omega),if_neg (by omega)] at hp
  obtain ⟨rfl,rfl⟩:=Prod.mk.inj hp
  exact agt_data b n c A w h hb hl hn hc x y d hg hk
end Go.Proofs.YtmhjnghomihjlaaGreat
