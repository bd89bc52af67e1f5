/-
  What the program's split and Get of layer 18 answer. No condition beyond: at most 2^30 octets.
-/
import Derived.Test.YtmhjnghomihjlaaGreatChpP
import Derived.Test.YtmhjnghomihjlaaGreatGPks
import Derived.Test.YtmhjnghomihjlaaGreatGOps
import Derived.Test.YtmhjnghomihjlaaGreatGCtl
import Derived.Deep.CutRange
import Derived.Deep.RegionHeld3
import Derived.OwnWalk
namespace Go.Proofs.YtmhjnghomihjlaaGreat
set_option maxRecDepth 8000
set_option maxHeartbeats 80000000
set_option linter.unusedVariables false
open Go.RowKit
theorem chsp_bad (d:List Nat) (n c:Nat) (A:Option Addr) (w:World) (h:Rd w w.heap.size A d) (hl:d.length=n) (hb:By d) (k:Nat) (hd:cutH d=([],[],k)) (hk:¬ k=0) :
  Calls Tryz.prog 153 #[.slice A n c] w fun e w'=>e=.returned (.tuple #[.slice none 0 0,.slice none 0 0,.int .i64 (k:Int)])∧Below w.heap.size w w':=by
 by_cases h0:n=0
 ·obtain rfl:d=[]:=List.eq_nil_of_length_eq_zero (hl.trans h0)
  obtain rfl:2=k:=(Prod.mk.inj (Prod.mk.inj hd).2).2
  have j1:((n:Int) == 0)=true:=by simp;omega
  clear h hl hd h0 hk
  go_enter Tryz.func153,Tryz.ntmps153
  go_wp2_with fail
  go_ret3
  exact ⟨rfl,Below.refl _ _⟩
 ·have j1:((n:Int) == 0)=false:=by simp;omega
  obtain ⟨bb,oo,x,rfl,hbb,hx,hcx⟩:=h.at_ (k:=0) (by omega)
  replace hcx:w.cell? ⟨bb,oo,none⟩=some (.int .u8 (x:Int)):=hcx
  have hx256:=hb.get hx
  obtain ⟨z,hz⟩:∃ z,x+1=z:=⟨_,rfl⟩
  have i0:(0:Int)<n:=by omega
  have i1:(1:Int)+(x:Int)=(z:Int):=by omega
  have i2:IntKind.i64.wrap (z:Int)=(z:Int):=IntWalk.i64_in _ (by omega)
  by_cases hx0:x=0
  ·obtain rfl:4=k:=by
    rw [cutH_zero (by rw [hx,hx0])] at hd
    exact (Prod.mk.inj (Prod.mk.inj hd).2).2
   have i3:((z:Int) == 1)=true:=by simp;omega
   clear h hl hd hx hk h0 hx0
   go_enter Tryz.func153,Tryz.ntmps153
   go_wp2_with fail
   go_ret3
   exact ⟨rfl,Below.refl _ _⟩
  ·have hd2:cutT d=([],[],k):=by
    rw [cutH_some (by rw [hx];intro e;injection e with e;exact hx0 e)] at hd
    exact hd
   have e:=cutT_at hx hl
   have hs:n<x+1:=by
    rcases Nat.lt_or_ge n (x+1) with h2 | h2
    ·exact h2
    ·rw [hd2,if_neg (by omega)] at e
     exact absurd (Prod.mk.inj (Prod.mk.inj e).2).2 hk
   obtain rfl:2=k:=by
    rw [hd2,if_pos hs] at e
    exact (Prod.mk.inj (Prod.mk.inj e).2).2.symm
   have i3:((z:Int) == 1)=false:=by simp;omega
   have i4:(n:Int)<(z:Int):=by omega
   clear h hl hd hx hk h0 hx0 e hd2 hs
   go_enter Tryz.func153,Tryz.ntmps153
   go_wp2_with fail
   go_ret3
   exact ⟨rfl,Below.refl _ _⟩
def SplR (w:World) (l r:List Nat) (k1 k2:Nat) (e:Ending) (w':World):Prop:=∃ A1 c1 A2 c2,e=.returned (.tuple #[.slice A1 k1 c1,.slice A2 k2 c2,.int .i64 0])∧k1≤c1∧k2≤c2∧RdF (fun b=>w.heap.size≤b) w' A1 l∧RdF (fun b=>w.heap.size≤b) w' A2 r∧Below w.heap.size w w'
theorem chsp_ok (d:List Nat) (n c:Nat) (A:Option Addr) (w:World) (h:Rd w w.heap.size A d) (hl:d.length=n) (hb:By d) (hn:n≤274877906944) (hc:n≤c) (l r:List Nat) (hd:cutT d=(l,r,0)) (hl0:l≠[]) (k1 k2:Nat) (hk1:l.length=k1) (hk2:r.length=k2) :
  Calls Tryz.prog 153 #[.slice A n c] w (SplR w l r k1 k2):=by
 have h0:0<n:=by
  rcases Nat.eq_zero_or_pos n with h0 | h0
  ·rw [List.eq_nil_of_length_eq_zero (hl.trans h0),cutT_nil] at hd
   exact absurd (Prod.mk.inj (Prod.mk.inj hd).2).2 (by decide)
  ·exact h0
 have j1:((n:Int) == 0)=false:=by simp;omega
 obtain ⟨bb,oo,x,rfl,hbb,hx,hcx⟩:=h.at_ (k:=0) (by omega)
 replace hcx:w.cell? ⟨bb,oo,none⟩=some (.int .u8 (x:Int)):=hcx
 have hx256:=hb.get hx
 have e:=cutT_at hx hl
 have hs:x+1≤n:=by
  rcases Nat.lt_or_ge n (x+1) with h2 | h2
  ·rw [hd,if_pos h2] at e
   exact absurd (Prod.mk.inj (Prod.mk.inj e).2).2 (by decide)
  ·exact h2
 rw [hd,if_neg (by omega)] at e
 obtain ⟨z,hz⟩:∃ z,x+1=z:=⟨_,rfl⟩
 rw [hz] at e
 have EL:=hI (Prod.mk.inj e).1
 have ER:=hI (Prod.mk.inj (Prod.mk.inj e).2).1
 rw [EL.out,List.length_drop,List.length_take,hl] at hk1
 rw [ER.out,List.length_drop,hl] at hk2
 obtain rfl:z - 1=k1:=by omega
 obtain rfl:n - z=k2:=hk2
 have z2:¬ z=1:=fun e1=>hl0 (by rw [EL.out,e1];exact List.eq_nil_of_length_eq_zero (by rw [List.length_drop,List.length_take];omega))
 have i0:(0:Int)<n:=by omega
 have i1:(1:Int)+(x:Int)=(z:Int):=by omega
 have i2:IntKind.i64.wrap (z:Int)=(z:Int):=IntWalk.i64_in _ (by omega)
 have i8:((z:Int) == 1)=false:=by simp;omega
 have i3:¬ (n:Int)<(z:Int):=by omega
 have i4:(1:Int)≤z:=by omega
 have i5:(z:Int)≤c:=by omega
 have i6:(z:Int)≤n:=by omega
 have i7:(0:Int)≤z:=by omega
 have hcl:=hI (show Rd w w.heap.size (if c=1 then some ⟨bb,oo,none⟩ else some ⟨bb,oo+1,none⟩) l from by rw [EL.out];exact (h.take z).kcutAt (by rw [List.length_take,hl];omega))
 have hcl2:=hI (show l.length=z - 1 by rw [EL.out,List.length_drop,List.length_take,hl];omega)
 have hcr:=hI (show Rd w w.heap.size (if c=z then some ⟨bb,oo,none⟩ else some ⟨bb,oo+z,none⟩) r from by rw [ER.out];exact h.kcutAt (by omega))
 have hcr2:=hI (show r.length=n - z by rw [ER.out,List.length_drop,hl])
 have B:=hI (Below.refl w.heap.size w).drew
 have G1:=hI trivial
 have G2:=hI trivial
 clear h hl hb hd hx hk1 e hs hc EL ER hl0 z2
 go_enter Tryz.func153,Tryz.ntmps153
 go_wp2_with fail
 go_region_held3 (fun _=>True) (trivial) (first
  | (go_at_call 77;have _g:=G1;clear _g;(with_reducible refine (clone_any l (z - 1) _ _ _ ((hcl.out.below B.out).more B.out.size) hcl2.out (by omega)).mono ?_);rintro e' w5 ⟨A5,c5,rfl,HN5⟩;have K5:=hI (own_cap HN5.2.1);have HS:=hI B.out.size;have S5:=hI ((RdF.own HN5.2.1).mono (G:=fun b=>w.heap.size≤b) (fun b _ hb=>Nat.le_trans HS.out hb));(try replace S6:=hI (S6.out.keep (.of_below HN5.2.2.2)));replace B:=hI (B.out.trans (HN5.2.2.2.mono HS.out));clear HN5 HS G1;dsimp only)
  | (go_at_call 77;have _g:=G2;clear _g;(with_reducible refine (clone_any r (n - z) _ _ _ ((hcr.out.below B.out).more B.out.size) hcr2.out (by omega)).mono ?_);rintro e' w6 ⟨A6,c6,rfl,HN5⟩;have K6:=hI (own_cap HN5.2.1);have HS:=hI B.out.size;have S6:=hI ((RdF.own HN5.2.1).mono (G:=fun b=>w.heap.size≤b) (fun b _ hb=>Nat.le_trans HS.out hb));(try replace S5:=hI (S5.out.keep (.of_below HN5.2.2.2)));replace B:=hI (B.out.trans (HN5.2.2.2.mono HS.out));clear HN5 HS G2;dsimp only))
 all_goals
  clear hcl hcr
  generalize (if c=1 then (some (⟨bb,oo,none⟩:Addr)) else some ⟨bb,oo+1,none⟩)=A''
  generalize (if c=z then (some (⟨bb,oo,none⟩:Addr)) else some ⟨bb,oo+z,none⟩)=A'
  go_wp2_with fail
  go_ret3
  exact ⟨A5,c5,A6,c6,rfl,K5.out,K6.out,S5.out,S6.out,B.out⟩
theorem chgt_no (b:List Nat) (n c:Nat) (A:Option Addr) (w:World) (h:Rd w w.heap.size A b) (hb:By b) (hl:b.length=n) (hn:n≤1073741824) (hc:n≤c) (x y:Nat) (d:List Nat) (k:Nat) (hg:kgetB b=(x,y,d,k)) (hk:¬ k=0) :
  Calls Tryz.prog 150 #[.slice A n c] w (GetN w pk0 k):=by
 have C:=hI (GeC.made 40 w)
 have HR:=hI h
 have HB:=hI hb
 have HL:=hI hl
 have HG:=hI hg
 have j1:((k:Int) != 0)=true:=by rw [bne_iff_ne];omega
 clear h hb hl hg hk
 go_enter Tryz.func150,Tryz.ntmps150
 go_wp2_with (first
  | (go_at_call 107;(with_reducible refine (cget_v b x y d k HG.out d.length rfl n c A _ (HR.out.on C.out.bel) HB.out HL.out (by omega) hc).mono ?_);rintro e wn ⟨A1,c1,rfl,k1,r1,hb⟩;replace C:=hI (C.out.step hb);clear hb r1;obtain ⟨y0,y1,y2,y3,y4,y5,y6,y7,y8,y9⟩:=C.out.res.all;obtain ⟨z0,z1,z2,z3,z4,z5,z6,z7,z8,z9⟩:=C.out.res.free))
 refine bodyPost_ret (v:=.tuple #[pk0.val pl0,.int .i64 (k:Int)]) ?_ rfl (GetN.mk pl0 rfl pwF0 (put10_below C.out.bel (Nat.le_refl _) pk0 pl0))
 exact results_row_tmpP rfl _ _ _ w.heap.size 40 _ _ _ rfl rfl (put10_px C.out.res pk0 pl0) Tryz.underlying40 (by kernel_rfl)
theorem chgt_data (b:List Nat) (n c:Nat) (A:Option Addr) (w:World) (h:Rd w w.heap.size A b) (hb:By b) (hl:b.length=n) (hn:n≤1073741824) (hc:n≤c) (x y:Nat) (d:List Nat) (hg:kgetB b=(x,y,d,0)) (hk:isvB x=false) :
  Calls Tryz.prog 150 #[.slice A n c] w (GetN w ⟨49699,x,y,[],0,0,[],[],d,[]⟩ 0):=by
 have C:=hI (GeC.made 40 w)
 have HR:=hI h
 have HB:=hI hb
 have HL:=hI hl
 have HG:=hI hg
 have HK:=hI hk
 obtain ⟨n2,hn2⟩:∃ n2,Hid (d.length=n2):=⟨_,hI rfl⟩
 have hd1:=kget_bytes hb hg
 have HD:=hI hd1.1
 have n2le:n2≤1073741824:=by have:=hd1.2;have:=hn2.out;omega
 clear h hb hl hg hk hd1
 go_enter Tryz.func150,Tryz.ntmps150
 go_wp2_with (first
  | (go_at_call 107;(with_reducible refine (cgetN_v b x y d _ HG.out n2 hn2.out n c A _ (HR.out.on C.out.bel) HB.out HL.out (by omega) hc).mono ?_);rintro e wn ⟨A1,c1,rfl,k1c,r1,hb⟩;have LT:=C.out.res.lt;have R1:=hI (r1.mono (G:=fun i=>w.heap.size<i∧i<wn.heap.size) (fun i hi hf=>⟨Nat.lt_of_lt_of_le LT hf,hi⟩));replace C:=hI (C.out.step hb);clear hb r1 LT)
  | (go_at_call 152;(with_reducible refine (chval_any x _ HK.out _).mono ?_);rintro e wm ⟨rfl,hb⟩;have BA:=((Below.refl wn.heap.size wn).alloc (Nat.le_refl _) (.cells #[.int .u16 49699,.int .u8 (x:Int),.int .u8 (y:Int),.slice none 0 0,.int .u16 0,.int .u32 0,.slice none 0 0,.slice none 0 0,.slice none 0 0,.slice none 0 0] 40));have R2:=hI ((R1.out.keep (.of_below (BA.trans (hb.mono BA.size)))).mono (G:=Ngt w.heap.size wn.heap.size) (fun i _ hf=>⟨hf.1,Nat.ne_of_lt hf.2⟩));have P:=hI ((C.out.pk ⟨49699,x,y,[],0,0,[],[],[],[]⟩ pl0).step hb);obtain ⟨g,hgg⟩:∃ g,Hid (wn.heap.size=g):=⟨_,hI rfl⟩;rw [hgg.out] at P R2 ⊢;have nq1:=Nat.ne_of_lt P.out.lt;have nq3:=Nat.ne_of_gt P.out.lt;clear hb BA R1 C;obtain ⟨x0,x1,x2,x3,x4,x5,x6,x7,x8,x9⟩:=P.out.cf.all;obtain ⟨u0,u1,u2,u3,u4,u5,u6,u7,u8,u9⟩:=P.out.cf.free;obtain ⟨y0,y1,y2,y3,y4,y5,y6,y7,y8,y9⟩:=P.out.res.all;obtain ⟨z0,z1,z2,z3,z4,z5,z6,z7,z8,z9⟩:=P.out.res.free))
 refine bodyPost_ret (v:=.tuple #[Pk.val ⟨49699,x,y,[],0,0,[],[],d,[]⟩ { pl0 with ad:=A1,nd:=n2,cd:=c1 },.int .i64 0]) ?_ rfl (GetN.mk { pl0 with ad:=A1,nd:=n2,cd:=c1 } rfl ?_ (put10_below (P.out.set 8 (.slice A1 n2 c1) (P.out.cf.setData A1 n2 c1 d)).bel (Nat.le_refl _) ⟨49699,x,y,[],0,0,[],[],d,[]⟩ { pl0 with ad:=A1,nd:=n2,cd:=c1 }))
 ·exact results_row_tmpP rfl _ _ _ w.heap.size 40 _ _ _ rfl rfl (put10_px (P.out.set 8 (.slice A1 n2 c1) (P.out.cf.setData A1 n2 c1 d)).res ⟨49699,x,y,[],0,0,[],[],d,[]⟩ { pl0 with ad:=A1,nd:=n2,cd:=c1 }) Tryz.underlying40 (by kernel_rfl)
 ·exact ((pwF_data 49699 x y 0 0 hn2.out R2.out k1c).keep ((keeps_g1 wm w.heap.size g 8 (.slice A1 n2 c1)).trans (keeps_g2 _ w.heap.size g ⟨49699,x,y,[],0,0,[],[],d,[]⟩ { pl0 with ad:=A1,nd:=n2,cd:=c1 }))).mono (fun _ _ h=>h.le)
theorem chgt_bad (b:List Nat) (n c:Nat) (A:Option Addr) (w:World) (h:Rd w w.heap.size A b) (hb:By b) (hl:b.length=n) (hn:n≤1073741824) (hc:n≤c) (x y:Nat) (d:List Nat) (hg:kgetB b=(x,y,d,0)) (hk:isvB x=true) (k:Nat) (hd:cutH d=([],[],k)) (hk0:¬ k=0) :
  Calls Tryz.prog 150 #[.slice A n c] w (GetN w pk0 k):=by
 have C:=hI (GeC.made 40 w)
 have HR:=hI h
 have HB:=hI hb
 have HL:=hI hl
 have HG:=hI hg
 have HK:=hI hk
 obtain ⟨n2,hn2⟩:∃ n2,Hid (d.length=n2):=⟨_,hI rfl⟩
 have hd1:=kget_bytes hb hg
 have HD:=hI hd1.1
 have n2le:n2≤1073741824:=by have:=hd1.2;have:=hn2.out;omega
 have HC:=hI hd
 have j1:((k:Int) != 0)=true:=by rw [bne_iff_ne];omega
 clear h hb hl hg hk hd1 hd
 go_enter Tryz.func150,Tryz.ntmps150
 go_wp2_with (first
  | (go_at_call 107;(with_reducible refine (cgetN_v b x y d _ HG.out n2 hn2.out n c A _ (HR.out.on C.out.bel) HB.out HL.out (by omega) hc).mono ?_);rintro e wn ⟨A1,c1,rfl,k1c,r1,hb⟩;have LT:=C.out.res.lt;have R1:=hI (r1.mono (G:=fun i=>w.heap.size<i∧i<wn.heap.size) (fun i hi hf=>⟨Nat.lt_of_lt_of_le LT hf,hi⟩));replace C:=hI (C.out.step hb);clear hb r1 LT)
  | (go_at_call 152;(with_reducible refine (chval_any x _ HK.out _).mono ?_);rintro e wm ⟨rfl,hb⟩;have BA:=((Below.refl wn.heap.size wn).alloc (Nat.le_refl _) (.cells #[.int .u16 49699,.int .u8 (x:Int),.int .u8 (y:Int),.slice none 0 0,.int .u16 0,.int .u32 0,.slice none 0 0,.slice none 0 0,.slice none 0 0,.slice none 0 0] 40));have R2:=hI ((R1.out.keep (.of_below (BA.trans (hb.mono BA.size)))).mono (G:=Ngt w.heap.size wn.heap.size) (fun i _ hf=>⟨hf.1,Nat.ne_of_lt hf.2⟩));have P:=hI ((C.out.pk ⟨49699,x,y,[],0,0,[],[],[],[]⟩ pl0).step hb);obtain ⟨g,hgg⟩:∃ g,Hid (wn.heap.size=g):=⟨_,hI rfl⟩;rw [hgg.out] at P R2 ⊢;have nq1:=Nat.ne_of_lt P.out.lt;have nq3:=Nat.ne_of_gt P.out.lt;clear hb BA R1 C;obtain ⟨x0,x1,x2,x3,x4,x5,x6,x7,x8,x9⟩:=P.out.cf.all;obtain ⟨u0,u1,u2,u3,u4,u5,u6,u7,u8,u9⟩:=P.out.cf.free;obtain ⟨y0,y1,y2,y3,y4,y5,y6,y7,y8,y9⟩:=P.out.res.all;obtain ⟨z0,z1,z2,z3,z4,z5,z6,z7,z8,z9⟩:=P.out.res.free)
  | (go_at_call 153;(with_reducible refine (chsp_bad d n2 c1 A1 _ R2.out.rd hn2.out HD.out k HC.out hk0).mono ?_);rintro e wb ⟨rfl,hb⟩;replace P:=hI (P.out.step hb);clear hb R2;clear x0 x1 x2 x3 x4 x5 x6 x7 x8 x9 u0 u1 u2 u3 u4 u5 u6 u7 u8 u9 y0 y1 y2 y3 y4 y5 y6 y7 y8 y9 z0 z1 z2 z3 z4 z5 z6 z7 z8 z9;obtain ⟨x0,x1,x2,x3,x4,x5,x6,x7,x8,x9⟩:=P.out.cf.all;obtain ⟨u0,u1,u2,u3,u4,u5,u6,u7,u8,u9⟩:=P.out.cf.free;obtain ⟨y0,y1,y2,y3,y4,y5,y6,y7,y8,y9⟩:=P.out.res.all;obtain ⟨z0,z1,z2,z3,z4,z5,z6,z7,z8,z9⟩:=P.out.res.free))
 refine bodyPost_ret (v:=.tuple #[pk0.val pl0,.int .i64 (k:Int)]) ?_ rfl (GetN.mk pl0 rfl pwF0 (put10_below ((P.out.set 6 (.slice none 0 0) (P.out.cf.setOne none 0 0 [])).set 7 (.slice none 0 0) ((P.out.set 6 (.slice none 0 0) (P.out.cf.setOne none 0 0 [])).cf.setTwo none 0 0 [])).bel (Nat.le_refl _) pk0 pl0))
 exact results_row_tmpP rfl _ _ _ w.heap.size 40 _ _ _ rfl rfl (put10_px ((P.out.set 6 (.slice none 0 0) (P.out.cf.setOne none 0 0 [])).set 7 (.slice none 0 0) ((P.out.set 6 (.slice none 0 0) (P.out.cf.setOne none 0 0 [])).cf.setTwo none 0 0 [])).res pk0 pl0) Tryz.underlying40 (by kernel_rfl)
theorem chgt_two (b:List Nat) (n c:Nat) (A:Option Addr) (w:World) (h:Rd w w.heap.size A b) (hb:By b) (hl:b.length=n) (hn:n≤1073741824) (hc:n≤c) (x y:Nat) (d:List Nat) (hg:kgetB b=(x,y,d,0)) (hk:isvB x=true) (l r:List Nat) (hd:cutT d=(l,r,0)) (hl0:l≠[]) :
  Calls Tryz.prog 150 #[.slice A n c] w (GetN w ⟨49699,x,y,[],0,0,l,r,[],[]⟩ 0):=by
 have C:=hI (GeC.made 40 w)
 have HR:=hI h
 have HB:=hI hb
 have HL:=hI hl
 have HG:=hI hg
 have HK:=hI hk
 obtain ⟨n2,hn2⟩:∃ n2,Hid (d.length=n2):=⟨_,hI rfl⟩
 have hd1:=kget_bytes hb hg
 have HD:=hI hd1.1
 have n2le:n2≤1073741824:=by have:=hd1.2;have:=hn2.out;omega
 have HC:=hI hd
 obtain ⟨k1,HA⟩:∃ n,Hid (l.length=n):=⟨_,hI rfl⟩
 obtain ⟨k2,HB2⟩:∃ n,Hid (r.length=n):=⟨_,hI rfl⟩
 clear h hb hl hg hk hd1 hd
 go_enter Tryz.func150,Tryz.ntmps150
 go_upto_region 9 with (first
  | (go_at_call 107;(with_reducible refine (cgetN_v b x y d _ HG.out n2 hn2.out n c A _ (HR.out.on C.out.bel) HB.out HL.out (by omega) hc).mono ?_);rintro e wn ⟨A1,c1,rfl,k1c,r1,hb⟩;have LT:=C.out.res.lt;have R1:=hI (r1.mono (G:=fun i=>w.heap.size<i∧i<wn.heap.size) (fun i hi hf=>⟨Nat.lt_of_lt_of_le LT hf,hi⟩));replace C:=hI (C.out.step hb);clear hb r1 LT)
  | (go_at_call 152;(with_reducible refine (chval_any x _ HK.out _).mono ?_);rintro e wm ⟨rfl,hb⟩;have BA:=((Below.refl wn.heap.size wn).alloc (Nat.le_refl _) (.cells #[.int .u16 49699,.int .u8 (x:Int),.int .u8 (y:Int),.slice none 0 0,.int .u16 0,.int .u32 0,.slice none 0 0,.slice none 0 0,.slice none 0 0,.slice none 0 0] 40));have R2:=hI ((R1.out.keep (.of_below (BA.trans (hb.mono BA.size)))).mono (G:=Ngt w.heap.size wn.heap.size) (fun i _ hf=>⟨hf.1,Nat.ne_of_lt hf.2⟩));have P:=hI ((C.out.pk ⟨49699,x,y,[],0,0,[],[],[],[]⟩ pl0).step hb);obtain ⟨g,hgg⟩:∃ g,Hid (wn.heap.size=g):=⟨_,hI rfl⟩;rw [hgg.out] at P R2 ⊢;have nq1:=Nat.ne_of_lt P.out.lt;have nq3:=Nat.ne_of_gt P.out.lt;clear hb BA R1 C;obtain ⟨x0,x1,x2,x3,x4,x5,x6,x7,x8,x9⟩:=P.out.cf.all;obtain ⟨u0,u1,u2,u3,u4,u5,u6,u7,u8,u9⟩:=P.out.cf.free;obtain ⟨y0,y1,y2,y3,y4,y5,y6,y7,y8,y9⟩:=P.out.res.all;obtain ⟨z0,z1,z2,z3,z4,z5,z6,z7,z8,z9⟩:=P.out.res.free)
  | (go_at_call 153;(with_reducible refine (chsp_ok d n2 c1 A1 _ R2.out.rd hn2.out HD.out (by omega) k1c l r HC.out hl0 k1 k2 HA.out HB2.out).mono ?_);rintro e wb ⟨A3,c3,A4,c4,rfl,e3,e4,r1,r2,hb⟩;have L1:=P.out.lt;have L2:=P.out.cf.lt;have S1:=hI (r1.mono (G:=Ngt w.heap.size g) (fun i hi hf=>⟨by omega,by omega⟩));have S2:=hI (r2.mono (G:=Ngt w.heap.size g) (fun i hi hf=>⟨by omega,by omega⟩));replace P:=hI (P.out.step hb);clear hb R2 r1 r2 L1 L2;clear x0 x1 x2 x3 x4 x5 x6 x7 x8 x9 u0 u1 u2 u3 u4 u5 u6 u7 u8 u9 y0 y1 y2 y3 y4 y5 y6 y7 y8 y9 z0 z1 z2 z3 z4 z5 z6 z7 z8 z9;obtain ⟨x0,x1,x2,x3,x4,x5,x6,x7,x8,x9⟩:=P.out.cf.all;obtain ⟨u0,u1,u2,u3,u4,u5,u6,u7,u8,u9⟩:=P.out.cf.free;obtain ⟨y0,y1,y2,y3,y4,y5,y6,y7,y8,y9⟩:=P.out.res.all;obtain ⟨z0,z1,z2,z3,z4,z5,z6,z7,z8,z9⟩:=P.out.res.free))
 refine at_worldP (fun W=>Hid (GpC 40 w W g ⟨49699,x,y,[],0,0,l,r,[],[]⟩ { pl0 with a1:=A3,n1:=k1,c1:=c3,a2:=A4,n2:=k2,c2:=c4 })∧Hid (RdF (Ngt w.heap.size g) W A3 l)∧Hid (RdF (Ngt w.heap.size g) W A4 r)) ⟨hI ((P.out.set 6 (.slice A3 k1 c3) (P.out.cf.setOne A3 k1 c3 l)).set 7 (.slice A4 k2 c4) ((P.out.set 6 (.slice A3 k1 c3) (P.out.cf.setOne A3 k1 c3 l)).cf.setTwo A4 k2 c4 r)),hI (S1.out.keep ((keeps_g1 wb w.heap.size g 6 (.slice A3 k1 c3)).trans (keeps_g1 _ w.heap.size g 7 (.slice A4 k2 c4)))),hI (S2.out.keep ((keeps_g1 wb w.heap.size g 6 (.slice A3 k1 c3)).trans (keeps_g1 _ w.heap.size g 7 (.slice A4 k2 c4))))⟩ ?_
 clear x0 x1 x2 x3 x4 x5 x6 x7 x8 x9 u0 u1 u2 u3 u4 u5 u6 u7 u8 u9 y0 y1 y2 y3 y4 y5 y6 y7 y8 y9 z0 z1 z2 z3 z4 z5 z6 z7 z8 z9
 clear P S1 S2
 rintro wv ⟨P,S1,S2⟩
 obtain ⟨x0,x1,x2,x3,x4,x5,x6,x7,x8,x9⟩:=P.out.cf.all;obtain ⟨u0,u1,u2,u3,u4,u5,u6,u7,u8,u9⟩:=P.out.cf.free;obtain ⟨y0,y1,y2,y3,y4,y5,y6,y7,y8,y9⟩:=P.out.res.all;obtain ⟨z0,z1,z2,z3,z4,z5,z6,z7,z8,z9⟩:=P.out.res.free
 go_wp2_with fail
 refine bodyPost_ret (v:=.tuple #[Pk.val ⟨49699,x,y,[],0,0,l,r,[],[]⟩ { pl0 with a1:=A3,n1:=k1,c1:=c3,a2:=A4,n2:=k2,c2:=c4 },.int .i64 0]) ?_ rfl (GetN.mk { pl0 with a1:=A3,n1:=k1,c1:=c3,a2:=A4,n2:=k2,c2:=c4 } rfl ?_ (put10_below P.out.bel (Nat.le_refl _) ⟨49699,x,y,[],0,0,l,r,[],[]⟩ { pl0 with a1:=A3,n1:=k1,c1:=c3,a2:=A4,n2:=k2,c2:=c4 }))
 ·exact results_row_tmpP rfl _ _ _ w.heap.size 40 _ _ _ rfl rfl (put10_px P.out.res ⟨49699,x,y,[],0,0,l,r,[],[]⟩ { pl0 with a1:=A3,n1:=k1,c1:=c3,a2:=A4,n2:=k2,c2:=c4 }) Tryz.underlying40 (by kernel_rfl)
 ·exact ((pwF_texts 49699 x y HA.out S1.out e3 HB2.out S2.out e4).keep (keeps_g2 _ w.heap.size g ⟨49699,x,y,[],0,0,l,r,[],[]⟩ { pl0 with a1:=A3,n1:=k1,c1:=c3,a2:=A4,n2:=k2,c2:=c4 })).mono (fun _ _ h=>h.le)
theorem chget_any (b:List Nat) (n c:Nat) (A:Option Addr) (w:World) (h:Rd w w.heap.size A b) (hb:By b) (hl:b.length=n) (hn:n≤1073741824) (hc:n≤c) (p:Pk) (k:Nat) (hp:chgetB b=(p,k)) :
  Calls Tryz.prog 150 #[.slice A n c] w (GetN w p k):=by
 obtain ⟨x,y,d,e,hg⟩:∃ x y d e,kgetB b=(x,y,d,e):=⟨_,_,_,_,rfl⟩
 by_cases he:e=0
 case neg =>
  rw [chget_no hg he] at hp
  obtain ⟨rfl,rfl⟩:=Prod.mk.inj hp
  exact chgt_no b n c A w h hb hl hn hc x y d e hg he
 subst he
 rw [chget_of hg,chrdB] at hp
 cases hk:isvB x
 ·rw [hk,if_neg (by decide)] at hp
  obtain ⟨rfl,rfl⟩:=Prod.mk.inj hp
  exact chgt_data b n c A w h hb hl hn hc x y d hg hk
 ·rw [if_pos hk] at hp
  rcases cutH_get d with ⟨l,r,e1,e2,-,e3⟩ | ⟨e1,-,-⟩ | ⟨e1,-⟩
  ·rw [e1] at hp
   dsimp only at hp
   rw [if_pos rfl] at hp
   obtain ⟨rfl,rfl⟩:=Prod.mk.inj hp
   exact chgt_two b n c A w h hb hl hn hc x y d hg hk l r e2 e3
  ·rw [e1] at hp
   dsimp only at hp
   rw [if_neg (by decide)] at hp
   obtain ⟨rfl,rfl⟩:=Prod.mk.inj hp
   exact chgt_bad b n c A w h hb hl hn hc x y d hg hk 2 e1 (by decide)
  ·rw [e1] at hp
   dsimp only at hp
   rw [if_neg (by decide)] at hp
   obtain ⟨rfl,rfl⟩:=Prod.mk.inj hp
   exact chgt_bad b n c A w h hb hl hn hc x y d hg hk 4 e1 (by decide)
end Go.Proofs.YtmhjnghomihjlaaGreat
