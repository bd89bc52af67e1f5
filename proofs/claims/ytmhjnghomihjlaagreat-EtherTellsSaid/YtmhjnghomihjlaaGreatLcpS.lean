/-
  What the document's Get of layer 15 answers. No condition beyond: at most 2^30 octets.
-/
import Derived.Test.YtmhjnghomihjlaaGreatLcpG
import Derived.Test.YtmhjnghomihjlaaGreatGPks
import Derived.Test.YtmhjnghomihjlaaGreatGCtl
import Derived.Test.YtmhjnghomihjlaaGreatGMat
import Derived.Deep.CutRange
import Derived.Deep.RegionHeld3
namespace Go.Proofs.YtmhjnghomihjlaaGreat
set_option maxRecDepth 8000
set_option maxHeartbeats 80000000
set_option linter.unusedVariables false
open Go.RowKit
theorem read15_v (z:Nat) (hz:z≤4) (Z:Int) (hZ:Z=(z:Int)) (l:List Nat) (n c:Nat) (A:Option Addr) (w:World) (h:Rd w w.heap.size A l) (hb:By l) (hl:l.length=n) (hzn:z≤n) (v:Nat) (hv:valN (l.take z)=v) :
  Calls Tryz.prog 73 #[.slice A n c,.int .i64 Z] w fun e w'=>e=.returned (.int .i64 (v:Int))∧Below w.heap.size w w':=by
 subst hZ
 exact hv ▸ read15_any l n c z A w h hb hl hz hzn
theorem read15_2 (l:List Nat) (n c:Nat) (A:Option Addr) (w:World) (h:Rd w w.heap.size A l) (hb:By l) (hl:l.length=n) (hzn:2≤n) (v:Nat) (hv:valN (l.take 2)=v) :
  Calls Tryz.prog 73 #[.slice A n c,.int .i64 2] w fun e w'=>e=.returned (.int .i64 (v:Int))∧Below w.heap.size w w':=read15_v 2 (by omega) 2 rfl l n c A w h hb hl hzn v hv
theorem read15_4 (l:List Nat) (n c:Nat) (A:Option Addr) (w:World) (h:Rd w w.heap.size A l) (hb:By l) (hl:l.length=n) (hzn:4≤n) (v:Nat) (hv:valN (l.take 4)=v) :
  Calls Tryz.prog 73 #[.slice A n c,.int .i64 4] w fun e w'=>e=.returned (.int .i64 (v:Int))∧Below w.heap.size w w':=read15_v 4 (by omega) 4 rfl l n c A w h hb hl hzn v hv
theorem lrg_no (b:List Nat) (n c:Nat) (A:Option Addr) (w:World) (F:Nat→Prop) (hF:∀ i,w.heap.size≤i→F i) (h:RdF F w A b) (hb:By b) (hl:b.length=n) (hn:n≤1073741824) (hc:n≤c) (x y:Nat) (d:List Nat) (k:Nat) (hg:kgetB b=(x,y,d,k)) (hk:¬ k=0) :
  Calls Tryz.prog 55 #[.slice A n c] w (GetF F w pk0 k):=by
 have C:=hI (GeC.made 29 w)
 have HR:=hI h.rd
 have HFF:=hI hF
 have HB:=hI hb
 have HL:=hI hl
 have HG:=hI hg
 obtain ⟨pd,hpd⟩:∃ pd,Hid (kpadB b=pd):=⟨_,hI rfl⟩
 have j1:((k:Int) != 0)=true:=by rw [bne_iff_ne];omega
 clear hF h hb hl hg hk
 go_enter Tryz.func55,Tryz.ntmps55
 go_wp2_with (first
  | (go_at_call 71;(with_reducible refine (krget_v b x y d k HG.out d.length rfl pd hpd.out n c A _ (HR.out.on C.out.bel) HB.out HL.out (by omega) hc).mono ?_);rintro e wn ⟨A1,c1,rfl,k1,r1,hb⟩;replace C:=hI (C.out.step hb);clear hb r1;obtain ⟨y0,y1,y2,y3,y4,y5,y6,y7,y8,y9⟩:=C.out.res.all;obtain ⟨z0,z1,z2,z3,z4,z5,z6,z7,z8,z9⟩:=C.out.res.free))
 refine bodyPost_ret (v:=.tuple #[pk0.val pl0,.int .i64 (k:Int)]) ?_ rfl (GetF.mk pl0 rfl pwF0 (put10_below C.out.bel (Nat.le_refl _) pk0 pl0))
 exact results_row_tmpP rfl _ _ _ w.heap.size 29 _ _ _ rfl rfl (put10_px C.out.res pk0 pl0) Tryz.underlying29 (by kernel_rfl)
theorem lrg_a (b:List Nat) (n c:Nat) (A:Option Addr) (w:World) (F:Nat→Prop) (hF:∀ i,w.heap.size≤i→F i) (h:RdF F w A b) (hb:By b) (hl:b.length=n) (hn:n≤1073741824) (hc:n≤c) (x y:Nat) (d:List Nat) (hg:kgetB b=(x,y,d,0)) (hk:x=0)  :
  Calls Tryz.prog 55 #[.slice A n c] w (GetF F w ⟨49185,x,y,[],0,0,[],[],d,[]⟩ 0):=by
 have C:=hI (GeC.made 29 w)
 have HR:=hI h.rd
 have HFF:=hI hF
 have HF:=hI h.ltF
 have HB:=hI hb
 have HL:=hI hl
 have HG:=hI hg
 obtain ⟨pd,hpd⟩:∃ pd,Hid (kpadB b=pd):=⟨_,hI rfl⟩
 obtain ⟨n2,hn2⟩:∃ n2,Hid (d.length=n2):=⟨_,hI rfl⟩
 have hd1:=kget_bytes hb hg
 have HD:=hI hd1.1
 have n2le:n2≤1073741824:=by have:=hd1.2;have:=hn2.out;omega
 have c1':¬ (1:Int)≤(x:Int):=by omega
 have t8:((x:Int) == 8)=false:=by simp;omega
 have c9':¬ (9:Int)≤(x:Int):=by omega
 have i0:¬ (n2:Int)<0:=by omega
 have i1:(0:Int)≤(n2:Int):=by omega
 clear hF h hb hl hg hk hd1
 go_enter Tryz.func55,Tryz.ntmps55
 go_upto_region 5 with (first
  | (go_at_call 71;(with_reducible refine (krgetF_v b x y d _ HG.out n2 hn2.out pd hpd.out n c A _ (HR.out.on C.out.bel) HB.out HL.out (by omega) hc (fun i=>F i∧i<w.heap.size) (HF.out.keep (.of_below C.out.bel))).mono ?_);rintro e wn ⟨A1,c1,rfl,k1,r1,hb⟩;have R1:=hI r1;replace C:=hI (C.out.step hb);clear hb r1))
 have BA:=hI ((Below.refl wn.heap.size wn).alloc (Nat.le_refl _) (Pk.obj ⟨49185,x,y,[],0,0,[],[],[],[]⟩ pl0 29))
 have P:=hI (C.out.pk ⟨49185,x,y,[],0,0,[],[],[],[]⟩ pl0)
 have LT:=C.out.res.lt
 obtain ⟨g,hgg⟩:∃ g,Hid (wn.heap.size=g):=⟨_,hI rfl⟩
 rw [hgg.out] at P LT ⊢
 have R2:=hI ((R1.out.keep (.of_below BA.out)).mono (G:=Nf F w.heap.size g) (fun i _ hf=>⟨hf.1,Nat.ne_of_lt hf.2,Nat.ne_of_lt (Nat.lt_trans hf.2 LT)⟩))
 refine at_worldP (fun W=>Hid (GpC 29 w W g ⟨49185,x,y,[],0,0,[],[],[],[]⟩ pl0)∧Hid (RdF (Nf F w.heap.size g) W A1 d)) ⟨P,R2⟩ ?_
 clear P R2 BA LT R1 C HR HF HB HL HG hgg
 rintro wm ⟨P,R2⟩
 have nq1:=Nat.ne_of_lt P.out.lt
 have nq3:=Nat.ne_of_gt P.out.lt
 obtain ⟨x0,x1,x2,x3,x4,x5,x6,x7,x8,x9⟩:=P.out.cf.all;obtain ⟨u0,u1,u2,u3,u4,u5,u6,u7,u8,u9⟩:=P.out.cf.free;obtain ⟨y0,y1,y2,y3,y4,y5,y6,y7,y8,y9⟩:=P.out.res.all;obtain ⟨z0,z1,z2,z3,z4,z5,z6,z7,z8,z9⟩:=P.out.res.free
 go_wp2_with fail
 refine bodyPost_ret (v:=.tuple #[Pk.val ⟨49185,x,y,[],0,0,[],[],d,[]⟩ { pl0 with ad:=A1,nd:=n2,cd:=c1 },.int .i64 0]) ?_ rfl (GetF.mk { pl0 with ad:=A1,nd:=n2,cd:=c1 } rfl ?_ (put10_below (P.out.set 8 (.slice A1 n2 c1) (P.out.cf.setData A1 n2 c1 d)).bel (Nat.le_refl _) ⟨49185,x,y,[],0,0,[],[],d,[]⟩ { pl0 with ad:=A1,nd:=n2,cd:=c1 }))
 ·exact results_row_tmpP rfl _ _ _ w.heap.size 29 _ _ _ rfl rfl (put10_px (P.out.set 8 (.slice A1 n2 c1) (P.out.cf.setData A1 n2 c1 d)).res ⟨49185,x,y,[],0,0,[],[],d,[]⟩ { pl0 with ad:=A1,nd:=n2,cd:=c1 }) Tryz.underlying29 (by kernel_rfl)
 ·exact ((pwF_data 49185 x y 0 0 hn2.out R2.out k1).keep ((keeps_f1 F wm w.heap.size g 8 (.slice A1 n2 c1)).trans (keeps_f2 F _ w.heap.size g ⟨49185,x,y,[],0,0,[],[],d,[]⟩ { pl0 with ad:=A1,nd:=n2,cd:=c1 }))).mono (fun _ _ h=>h.1)
theorem lrg_c (b:List Nat) (n c:Nat) (A:Option Addr) (w:World) (F:Nat→Prop) (hF:∀ i,w.heap.size≤i→F i) (h:RdF F w A b) (hb:By b) (hl:b.length=n) (hn:n≤1073741824) (hc:n≤c) (x y:Nat) (d:List Nat) (hg:kgetB b=(x,y,d,0)) (hk:5≤x∧x≤7)  :
  Calls Tryz.prog 55 #[.slice A n c] w (GetF F w ⟨49185,x,y,[],0,0,[],[],d,[]⟩ 0):=by
 have C:=hI (GeC.made 29 w)
 have HR:=hI h.rd
 have HFF:=hI hF
 have HF:=hI h.ltF
 have HB:=hI hb
 have HL:=hI hl
 have HG:=hI hg
 obtain ⟨pd,hpd⟩:∃ pd,Hid (kpadB b=pd):=⟨_,hI rfl⟩
 obtain ⟨n2,hn2⟩:∃ n2,Hid (d.length=n2):=⟨_,hI rfl⟩
 have hd1:=kget_bytes hb hg
 have HD:=hI hd1.1
 have n2le:n2≤1073741824:=by have:=hd1.2;have:=hn2.out;omega
 have c1':(1:Int)≤(x:Int):=by omega
 have c4':¬ (x:Int)≤4:=by omega
 have t8:((x:Int) == 8)=false:=by simp;omega
 have c9':¬ (9:Int)≤(x:Int):=by omega
 have i0:¬ (n2:Int)<0:=by omega
 have i1:(0:Int)≤(n2:Int):=by omega
 clear hF h hb hl hg hk hd1
 go_enter Tryz.func55,Tryz.ntmps55
 go_upto_region 5 with (first
  | (go_at_call 71;(with_reducible refine (krgetF_v b x y d _ HG.out n2 hn2.out pd hpd.out n c A _ (HR.out.on C.out.bel) HB.out HL.out (by omega) hc (fun i=>F i∧i<w.heap.size) (HF.out.keep (.of_below C.out.bel))).mono ?_);rintro e wn ⟨A1,c1,rfl,k1,r1,hb⟩;have R1:=hI r1;replace C:=hI (C.out.step hb);clear hb r1))
 have BA:=hI ((Below.refl wn.heap.size wn).alloc (Nat.le_refl _) (Pk.obj ⟨49185,x,y,[],0,0,[],[],[],[]⟩ pl0 29))
 have P:=hI (C.out.pk ⟨49185,x,y,[],0,0,[],[],[],[]⟩ pl0)
 have LT:=C.out.res.lt
 obtain ⟨g,hgg⟩:∃ g,Hid (wn.heap.size=g):=⟨_,hI rfl⟩
 rw [hgg.out] at P LT ⊢
 have R2:=hI ((R1.out.keep (.of_below BA.out)).mono (G:=Nf F w.heap.size g) (fun i _ hf=>⟨hf.1,Nat.ne_of_lt hf.2,Nat.ne_of_lt (Nat.lt_trans hf.2 LT)⟩))
 refine at_worldP (fun W=>Hid (GpC 29 w W g ⟨49185,x,y,[],0,0,[],[],[],[]⟩ pl0)∧Hid (RdF (Nf F w.heap.size g) W A1 d)) ⟨P,R2⟩ ?_
 clear P R2 BA LT R1 C HR HF HB HL HG hgg
 rintro wm ⟨P,R2⟩
 have nq1:=Nat.ne_of_lt P.out.lt
 have nq3:=Nat.ne_of_gt P.out.lt
 obtain ⟨x0,x1,x2,x3,x4,x5,x6,x7,x8,x9⟩:=P.out.cf.all;obtain ⟨u0,u1,u2,u3,u4,u5,u6,u7,u8,u9⟩:=P.out.cf.free;obtain ⟨y0,y1,y2,y3,y4,y5,y6,y7,y8,y9⟩:=P.out.res.all;obtain ⟨z0,z1,z2,z3,z4,z5,z6,z7,z8,z9⟩:=P.out.res.free
 go_wp2_with fail
 refine bodyPost_ret (v:=.tuple #[Pk.val ⟨49185,x,y,[],0,0,[],[],d,[]⟩ { pl0 with ad:=A1,nd:=n2,cd:=c1 },.int .i64 0]) ?_ rfl (GetF.mk { pl0 with ad:=A1,nd:=n2,cd:=c1 } rfl ?_ (put10_below (P.out.set 8 (.slice A1 n2 c1) (P.out.cf.setData A1 n2 c1 d)).bel (Nat.le_refl _) ⟨49185,x,y,[],0,0,[],[],d,[]⟩ { pl0 with ad:=A1,nd:=n2,cd:=c1 }))
 ·exact results_row_tmpP rfl _ _ _ w.heap.size 29 _ _ _ rfl rfl (put10_px (P.out.set 8 (.slice A1 n2 c1) (P.out.cf.setData A1 n2 c1 d)).res ⟨49185,x,y,[],0,0,[],[],d,[]⟩ { pl0 with ad:=A1,nd:=n2,cd:=c1 }) Tryz.underlying29 (by kernel_rfl)
 ·exact ((pwF_data 49185 x y 0 0 hn2.out R2.out k1).keep ((keeps_f1 F wm w.heap.size g 8 (.slice A1 n2 c1)).trans (keeps_f2 F _ w.heap.size g ⟨49185,x,y,[],0,0,[],[],d,[]⟩ { pl0 with ad:=A1,nd:=n2,cd:=c1 }))).mono (fun _ _ h=>h.1)
theorem lrg_h (b:List Nat) (n c:Nat) (A:Option Addr) (w:World) (F:Nat→Prop) (hF:∀ i,w.heap.size≤i→F i) (h:RdF F w A b) (hb:By b) (hl:b.length=n) (hn:n≤1073741824) (hc:n≤c) (x y:Nat) (d:List Nat) (hg:kgetB b=(x,y,d,0)) (hk:12≤x)  :
  Calls Tryz.prog 55 #[.slice A n c] w (GetF F w ⟨49185,x,y,[],0,0,[],[],d,[]⟩ 0):=by
 have C:=hI (GeC.made 29 w)
 have HR:=hI h.rd
 have HFF:=hI hF
 have HF:=hI h.ltF
 have HB:=hI hb
 have HL:=hI hl
 have HG:=hI hg
 obtain ⟨pd,hpd⟩:∃ pd,Hid (kpadB b=pd):=⟨_,hI rfl⟩
 obtain ⟨n2,hn2⟩:∃ n2,Hid (d.length=n2):=⟨_,hI rfl⟩
 have hd1:=kget_bytes hb hg
 have HD:=hI hd1.1
 have n2le:n2≤1073741824:=by have:=hd1.2;have:=hn2.out;omega
 have c1':(1:Int)≤(x:Int):=by omega
 have c4':¬ (x:Int)≤4:=by omega
 have t8:((x:Int) == 8)=false:=by simp;omega
 have c9':(9:Int)≤(x:Int):=by omega
 have c11':¬ (x:Int)≤11:=by omega
 have i0:¬ (n2:Int)<0:=by omega
 have i1:(0:Int)≤(n2:Int):=by omega
 clear hF h hb hl hg hk hd1
 go_enter Tryz.func55,Tryz.ntmps55
 go_upto_region 5 with (first
  | (go_at_call 71;(with_reducible refine (krgetF_v b x y d _ HG.out n2 hn2.out pd hpd.out n c A _ (HR.out.on C.out.bel) HB.out HL.out (by omega) hc (fun i=>F i∧i<w.heap.size) (HF.out.keep (.of_below C.out.bel))).mono ?_);rintro e wn ⟨A1,c1,rfl,k1,r1,hb⟩;have R1:=hI r1;replace C:=hI (C.out.step hb);clear hb r1))
 have BA:=hI ((Below.refl wn.heap.size wn).alloc (Nat.le_refl _) (Pk.obj ⟨49185,x,y,[],0,0,[],[],[],[]⟩ pl0 29))
 have P:=hI (C.out.pk ⟨49185,x,y,[],0,0,[],[],[],[]⟩ pl0)
 have LT:=C.out.res.lt
 obtain ⟨g,hgg⟩:∃ g,Hid (wn.heap.size=g):=⟨_,hI rfl⟩
 rw [hgg.out] at P LT ⊢
 have R2:=hI ((R1.out.keep (.of_below BA.out)).mono (G:=Nf F w.heap.size g) (fun i _ hf=>⟨hf.1,Nat.ne_of_lt hf.2,Nat.ne_of_lt (Nat.lt_trans hf.2 LT)⟩))
 refine at_worldP (fun W=>Hid (GpC 29 w W g ⟨49185,x,y,[],0,0,[],[],[],[]⟩ pl0)∧Hid (RdF (Nf F w.heap.size g) W A1 d)) ⟨P,R2⟩ ?_
 clear P R2 BA LT R1 C HR HF HB HL HG hgg
 rintro wm ⟨P,R2⟩
 have nq1:=Nat.ne_of_lt P.out.lt
 have nq3:=Nat.ne_of_gt P.out.lt
 obtain ⟨x0,x1,x2,x3,x4,x5,x6,x7,x8,x9⟩:=P.out.cf.all;obtain ⟨u0,u1,u2,u3,u4,u5,u6,u7,u8,u9⟩:=P.out.cf.free;obtain ⟨y0,y1,y2,y3,y4,y5,y6,y7,y8,y9⟩:=P.out.res.all;obtain ⟨z0,z1,z2,z3,z4,z5,z6,z7,z8,z9⟩:=P.out.res.free
 go_wp2_with fail
 refine bodyPost_ret (v:=.tuple #[Pk.val ⟨49185,x,y,[],0,0,[],[],d,[]⟩ { pl0 with ad:=A1,nd:=n2,cd:=c1 },.int .i64 0]) ?_ rfl (GetF.mk { pl0 with ad:=A1,nd:=n2,cd:=c1 } rfl ?_ (put10_below (P.out.set 8 (.slice A1 n2 c1) (P.out.cf.setData A1 n2 c1 d)).bel (Nat.le_refl _) ⟨49185,x,y,[],0,0,[],[],d,[]⟩ { pl0 with ad:=A1,nd:=n2,cd:=c1 }))
 ·exact results_row_tmpP rfl _ _ _ w.heap.size 29 _ _ _ rfl rfl (put10_px (P.out.set 8 (.slice A1 n2 c1) (P.out.cf.setData A1 n2 c1 d)).res ⟨49185,x,y,[],0,0,[],[],d,[]⟩ { pl0 with ad:=A1,nd:=n2,cd:=c1 }) Tryz.underlying29 (by kernel_rfl)
 ·exact ((pwF_data 49185 x y 0 0 hn2.out R2.out k1).keep ((keeps_f1 F wm w.heap.size g 8 (.slice A1 n2 c1)).trans (keeps_f2 F _ w.heap.size g ⟨49185,x,y,[],0,0,[],[],d,[]⟩ { pl0 with ad:=A1,nd:=n2,cd:=c1 }))).mono (fun _ _ h=>h.1)
theorem lrg_opts (b:List Nat) (n c:Nat) (A:Option Addr) (w:World) (F:Nat→Prop) (hF:∀ i,w.heap.size≤i→F i) (h:RdF F w A b) (hb:By b) (hl:b.length=n) (hn:n≤1073741824) (hc:n≤c) (x y:Nat) (d:List Nat) (hg:kgetB b=(x,y,d,0)) (hk:1≤x∧x≤4) (l:List (Nat × List Nat)) (ho:getO 49185 d=(l,0)) :
  Calls Tryz.prog 55 #[.slice A n c] w (GetF F w ⟨49185,x,y,l,0,0,[],[],[],[]⟩ 0):=by
 have C:=hI (GeC.made 29 w)
 have HR:=hI h.rd
 have HFF:=hI hF
 have HF:=hI h.ltF
 have HB:=hI hb
 have HL:=hI hl
 have HG:=hI hg
 obtain ⟨pd,hpd⟩:∃ pd,Hid (kpadB b=pd):=⟨_,hI rfl⟩
 obtain ⟨n2,hn2⟩:∃ n2,Hid (d.length=n2):=⟨_,hI rfl⟩
 have hd1:=kget_bytes hb hg
 have HD:=hI hd1.1
 have n2le:n2≤1073741824:=by have:=hd1.2;have:=hn2.out;omega
 have c1':(1:Int)≤(x:Int):=by omega
 have c4':(x:Int)≤4:=by omega
 have HO:=hI ho
 obtain ⟨n3,hn3⟩:∃ n3,Hid (l.length=n3):=⟨_,hI rfl⟩
 clear ho
 clear hF h hb hl hg hk hd1
 go_enter Tryz.func55,Tryz.ntmps55
 go_upto_region 5 with (first
  | (go_at_call 71;(with_reducible refine (krgetF_v b x y d _ HG.out n2 hn2.out pd hpd.out n c A _ (HR.out.on C.out.bel) HB.out HL.out (by omega) hc (fun i=>F i∧i<w.heap.size) (HF.out.keep (.of_below C.out.bel))).mono ?_);rintro e wn ⟨A1,c1,rfl,k1,r1,hb⟩;have R1:=hI r1;replace C:=hI (C.out.step hb);clear hb r1))
 have BA:=hI ((Below.refl wn.heap.size wn).alloc (Nat.le_refl _) (Pk.obj ⟨49185,x,y,[],0,0,[],[],[],[]⟩ pl0 29))
 have P:=hI (C.out.pk ⟨49185,x,y,[],0,0,[],[],[],[]⟩ pl0)
 have LT:=C.out.res.lt
 obtain ⟨g,hgg⟩:∃ g,Hid (wn.heap.size=g):=⟨_,hI rfl⟩
 rw [hgg.out] at P LT ⊢
 have R2:=hI ((R1.out.keep (.of_below BA.out)).mono (G:=Nf F w.heap.size g) (fun i _ hf=>⟨hf.1,Nat.ne_of_lt hf.2,Nat.ne_of_lt (Nat.lt_trans hf.2 LT)⟩))
 refine at_worldP (fun W=>Hid (GpC 29 w W g ⟨49185,x,y,[],0,0,[],[],[],[]⟩ pl0)∧Hid (RdF (Nf F w.heap.size g) W A1 d)) ⟨P,R2⟩ ?_
 clear P R2 BA LT R1 C HR HF HB HL HG hgg
 rintro wm ⟨P,R2⟩
 have nq1:=Nat.ne_of_lt P.out.lt
 have nq3:=Nat.ne_of_gt P.out.lt
 obtain ⟨x0,x1,x2,x3,x4,x5,x6,x7,x8,x9⟩:=P.out.cf.all;obtain ⟨u0,u1,u2,u3,u4,u5,u6,u7,u8,u9⟩:=P.out.cf.free;obtain ⟨y0,y1,y2,y3,y4,y5,y6,y7,y8,y9⟩:=P.out.res.all;obtain ⟨z0,z1,z2,z3,z4,z5,z6,z7,z8,z9⟩:=P.out.res.free
 go_wp2_with (first
  | (go_at_call 72;(with_reducible refine (prgetF_lcp d l _ HO.out n3 hn3.out n2 c1 A1 _ R2.out.rd HD.out hn2.out n2le k1 (Nf F w.heap.size g) R2.out (P.out.farF HFF.out)).mono ?_);rintro e wk ⟨A3,c3,rfl,r3,hb⟩;have R3:=hI r3;replace P:=hI (P.out.step hb);clear hb r3 R2;clear x0 x1 x2 x3 x4 x5 x6 x7 x8 x9 u0 u1 u2 u3 u4 u5 u6 u7 u8 u9 y0 y1 y2 y3 y4 y5 y6 y7 y8 y9 z0 z1 z2 z3 z4 z5 z6 z7 z8 z9;obtain ⟨x0,x1,x2,x3,x4,x5,x6,x7,x8,x9⟩:=P.out.cf.all;obtain ⟨u0,u1,u2,u3,u4,u5,u6,u7,u8,u9⟩:=P.out.cf.free;obtain ⟨y0,y1,y2,y3,y4,y5,y6,y7,y8,y9⟩:=P.out.res.all;obtain ⟨z0,z1,z2,z3,z4,z5,z6,z7,z8,z9⟩:=P.out.res.free))
 refine bodyPost_ret (v:=.tuple #[Pk.val ⟨49185,x,y,l,0,0,[],[],[],[]⟩ { pl0 with ao:=A3,no:=n3,co:=c3 },.int .i64 0]) ?_ rfl (GetF.mk { pl0 with ao:=A3,no:=n3,co:=c3 } rfl ?_ (put10_below (P.out.set 3 (.slice A3 n3 c3) (P.out.cf.setOpts A3 n3 c3 l)).bel (Nat.le_refl _) ⟨49185,x,y,l,0,0,[],[],[],[]⟩ { pl0 with ao:=A3,no:=n3,co:=c3 }))
 ·exact results_row_tmpP rfl _ _ _ w.heap.size 29 _ _ _ rfl rfl (put10_px (P.out.set 3 (.slice A3 n3 c3) (P.out.cf.setOpts A3 n3 c3 l)).res ⟨49185,x,y,l,0,0,[],[],[],[]⟩ { pl0 with ao:=A3,no:=n3,co:=c3 }) Tryz.underlying29 (by kernel_rfl)
 ·exact ((pwF_opts 49185 x y 0 0 hn3.out R3.out).keep ((keeps_f1 F wk w.heap.size g 3 (.slice A3 n3 c3)).trans (keeps_f2 F _ w.heap.size g ⟨49185,x,y,l,0,0,[],[],[],[]⟩ { pl0 with ao:=A3,no:=n3,co:=c3 }))).mono (fun _ _ h=>h.1)
theorem lrg_opts_no (b:List Nat) (n c:Nat) (A:Option Addr) (w:World) (F:Nat→Prop) (hF:∀ i,w.heap.size≤i→F i) (h:RdF F w A b) (hb:By b) (hl:b.length=n) (hn:n≤1073741824) (hc:n≤c) (x y:Nat) (d:List Nat) (hg:kgetB b=(x,y,d,0)) (hk:1≤x∧x≤4) (l:List (Nat × List Nat)) (kk:Nat) (ho:getO 49185 d=(l,kk)) (hkk:¬ kk=0) :
  Calls Tryz.prog 55 #[.slice A n c] w (GetF F w pk0 kk):=by
 have C:=hI (GeC.made 29 w)
 have HR:=hI h.rd
 have HFF:=hI hF
 have HF:=hI h.ltF
 have HB:=hI hb
 have HL:=hI hl
 have HG:=hI hg
 obtain ⟨pd,hpd⟩:∃ pd,Hid (kpadB b=pd):=⟨_,hI rfl⟩
 obtain ⟨n2,hn2⟩:∃ n2,Hid (d.length=n2):=⟨_,hI rfl⟩
 have hd1:=kget_bytes hb hg
 have HD:=hI hd1.1
 have n2le:n2≤1073741824:=by have:=hd1.2;have:=hn2.out;omega
 have c1':(1:Int)≤(x:Int):=by omega
 have c4':(x:Int)≤4:=by omega
 have HO:=hI ho
 obtain ⟨n3,hn3⟩:∃ n3,Hid (l.length=n3):=⟨_,hI rfl⟩
 clear ho
 have j1:((kk:Int) != 0)=true:=by rw [bne_iff_ne];omega
 clear hkk
 clear hF h hb hl hg hk hd1
 go_enter Tryz.func55,Tryz.ntmps55
 go_upto_region 5 with (first
  | (go_at_call 71;(with_reducible refine (krgetF_v b x y d _ HG.out n2 hn2.out pd hpd.out n c A _ (HR.out.on C.out.bel) HB.out HL.out (by omega) hc (fun i=>F i∧i<w.heap.size) (HF.out.keep (.of_below C.out.bel))).mono ?_);rintro e wn ⟨A1,c1,rfl,k1,r1,hb⟩;have R1:=hI r1;replace C:=hI (C.out.step hb);clear hb r1))
 have BA:=hI ((Below.refl wn.heap.size wn).alloc (Nat.le_refl _) (Pk.obj ⟨49185,x,y,[],0,0,[],[],[],[]⟩ pl0 29))
 have P:=hI (C.out.pk ⟨49185,x,y,[],0,0,[],[],[],[]⟩ pl0)
 have LT:=C.out.res.lt
 obtain ⟨g,hgg⟩:∃ g,Hid (wn.heap.size=g):=⟨_,hI rfl⟩
 rw [hgg.out] at P LT ⊢
 have R2:=hI ((R1.out.keep (.of_below BA.out)).mono (G:=Nf F w.heap.size g) (fun i _ hf=>⟨hf.1,Nat.ne_of_lt hf.2,Nat.ne_of_lt (Nat.lt_trans hf.2 LT)⟩))
 refine at_worldP (fun W=>Hid (GpC 29 w W g ⟨49185,x,y,[],0,0,[],[],[],[]⟩ pl0)∧Hid (RdF (Nf F w.heap.size g) W A1 d)) ⟨P,R2⟩ ?_
 clear P R2 BA LT R1 C HR HF HB HL HG hgg
 rintro wm ⟨P,R2⟩
 have nq1:=Nat.ne_of_lt P.out.lt
 have nq3:=Nat.ne_of_gt P.out.lt
 obtain ⟨x0,x1,x2,x3,x4,x5,x6,x7,x8,x9⟩:=P.out.cf.all;obtain ⟨u0,u1,u2,u3,u4,u5,u6,u7,u8,u9⟩:=P.out.cf.free;obtain ⟨y0,y1,y2,y3,y4,y5,y6,y7,y8,y9⟩:=P.out.res.all;obtain ⟨z0,z1,z2,z3,z4,z5,z6,z7,z8,z9⟩:=P.out.res.free
 go_wp2_with (first
  | (go_at_call 72;(with_reducible refine (prgetF_lcp d l _ HO.out n3 hn3.out n2 c1 A1 _ R2.out.rd HD.out hn2.out n2le k1 (Nf F w.heap.size g) R2.out (P.out.farF HFF.out)).mono ?_);rintro e wk ⟨A3,c3,rfl,r3,hb⟩;have R3:=hI r3;replace P:=hI (P.out.step hb);clear hb r3 R2;clear x0 x1 x2 x3 x4 x5 x6 x7 x8 x9 u0 u1 u2 u3 u4 u5 u6 u7 u8 u9 y0 y1 y2 y3 y4 y5 y6 y7 y8 y9 z0 z1 z2 z3 z4 z5 z6 z7 z8 z9;obtain ⟨x0,x1,x2,x3,x4,x5,x6,x7,x8,x9⟩:=P.out.cf.all;obtain ⟨u0,u1,u2,u3,u4,u5,u6,u7,u8,u9⟩:=P.out.cf.free;obtain ⟨y0,y1,y2,y3,y4,y5,y6,y7,y8,y9⟩:=P.out.res.all;obtain ⟨z0,z1,z2,z3,z4,z5,z6,z7,z8,z9⟩:=P.out.res.free))
 refine bodyPost_ret (v:=.tuple #[Pk.val pk0 pl0,.int .i64 (kk:Int)]) ?_ rfl (GetF.mk pl0 rfl ?_ (put10_below P.out.bel (Nat.le_refl _) pk0 pl0))
 ·exact results_row_tmpP rfl _ _ _ w.heap.size 29 _ _ _ rfl rfl (put10_px P.out.res pk0 pl0) Tryz.underlying29 (by kernel_rfl)
 ·exact pwF0
theorem lrg_sub (b:List Nat) (n c:Nat) (A:Option Addr) (w:World) (F:Nat→Prop) (hF:∀ i,w.heap.size≤i→F i) (h:RdF F w A b) (hb:By b) (hl:b.length=n) (hn:n≤1073741824) (hc:n≤c) (x y:Nat) (d:List Nat) (hg:kgetB b=(x,y,d,0)) (hk:x=8) (hz:2≤d.length) :
  Calls Tryz.prog 55 #[.slice A n c] w (GetF F w ⟨49185,x,y,[],valN (d.take 2),0,[],[],d.drop 2,[]⟩ 0):=by
 have C:=hI (GeC.made 29 w)
 have HR:=hI h.rd
 have HFF:=hI hF
 have HF:=hI h.ltF
 have HB:=hI hb
 have HL:=hI hl
 have HG:=hI hg
 obtain ⟨pd,hpd⟩:∃ pd,Hid (kpadB b=pd):=⟨_,hI rfl⟩
 obtain ⟨n2,hn2⟩:∃ n2,Hid (d.length=n2):=⟨_,hI rfl⟩
 have hd1:=kget_bytes hb hg
 have HD:=hI hd1.1
 have n2le:n2≤1073741824:=by have:=hd1.2;have:=hn2.out;omega
 have c1':(1:Int)≤(x:Int):=by omega
 have c4':¬ (x:Int)≤4:=by omega
 have t8:((x:Int) == 8)=true:=by simp;omega
 have c9':¬ (9:Int)≤(x:Int):=by omega
 have hz2:2≤n2:=by rw [←hn2.out];exact hz
 obtain ⟨m3,hm3⟩:∃ m3,n2 - 2=m3:=⟨_,rfl⟩
 have HM:=hI (show (d.drop 2).length=m3 by rw [List.length_drop,hn2.out,hm3])
 obtain ⟨v,hv⟩:∃ v,Hid (valN (d.take 2)=v):=⟨_,hI rfl⟩
 have v9:v<65536:=by
  have h1:=valN_lt (HD.out.take 2)
  rw [List.length_take,hn2.out,Nat.min_eq_left hz2] at h1
  rw [←hv.out]
  exact h1
 have i1:IntKind.u16.wrap (v:Int)=(v:Int):=by rw [IntKind.wrap_u16];omega
 have i0:¬ (n2:Int)<2:=by omega
 have i2:(2:Int)≤(n2:Int):=by omega
 rw [hv.out]
 clear hz
 clear hF h hb hl hg hk hd1
 go_enter Tryz.func55,Tryz.ntmps55
 go_upto_region 5 with (first
  | (go_at_call 71;(with_reducible refine (krgetF_v b x y d _ HG.out n2 hn2.out pd hpd.out n c A _ (HR.out.on C.out.bel) HB.out HL.out (by omega) hc (fun i=>F i∧i<w.heap.size) (HF.out.keep (.of_below C.out.bel))).mono ?_);rintro e wn ⟨A1,c1,rfl,k1,r1,hb⟩;have R1:=hI r1;replace C:=hI (C.out.step hb);clear hb r1))
 have BA:=hI ((Below.refl wn.heap.size wn).alloc (Nat.le_refl _) (Pk.obj ⟨49185,x,y,[],0,0,[],[],[],[]⟩ pl0 29))
 have P:=hI (C.out.pk ⟨49185,x,y,[],0,0,[],[],[],[]⟩ pl0)
 have LT:=C.out.res.lt
 obtain ⟨g,hgg⟩:∃ g,Hid (wn.heap.size=g):=⟨_,hI rfl⟩
 rw [hgg.out] at P LT ⊢
 have R2:=hI ((R1.out.keep (.of_below BA.out)).mono (G:=Nf F w.heap.size g) (fun i _ hf=>⟨hf.1,Nat.ne_of_lt hf.2,Nat.ne_of_lt (Nat.lt_trans hf.2 LT)⟩))
 refine at_worldP (fun W=>Hid (GpC 29 w W g ⟨49185,x,y,[],0,0,[],[],[],[]⟩ pl0)∧Hid (RdF (Nf F w.heap.size g) W A1 d)) ⟨P,R2⟩ ?_
 clear P R2 BA LT R1 C HR HF HB HL HG hgg
 rintro wm ⟨P,R2⟩
 have nq1:=Nat.ne_of_lt P.out.lt
 have nq3:=Nat.ne_of_gt P.out.lt
 obtain ⟨x0,x1,x2,x3,x4,x5,x6,x7,x8,x9⟩:=P.out.cf.all;obtain ⟨u0,u1,u2,u3,u4,u5,u6,u7,u8,u9⟩:=P.out.cf.free;obtain ⟨y0,y1,y2,y3,y4,y5,y6,y7,y8,y9⟩:=P.out.res.all;obtain ⟨z0,z1,z2,z3,z4,z5,z6,z7,z8,z9⟩:=P.out.res.free
 obtain ⟨bb,oo,v0,rfl,-⟩:=R2.out.rd.at_ (k:=0) (by rw [hn2.out];omega)
 have R4:=hI (RdF.cutAt (c:=c1) (f:=2) R2.out (by rw [hn2.out];exact k1))
 by_cases hcz:c1=2
 ·subst hcz
  replace R4:=hI (if_pos (rfl:(2:Nat)=2) ▸ R4.out)
  have K3:=hI (show m3≤0 by omega)
  go_wp2_with (first
   | (go_at_call 73;(with_reducible refine (read15_2 d n2 2 _ _ R2.out.rd HD.out hn2.out hz2 v hv.out).mono ?_);rintro e wk ⟨rfl,hb⟩;have R3:=hI (R4.out.keep (.of_below hb));replace P:=hI (P.out.step hb);clear hb R2 R4;clear x0 x1 x2 x3 x4 x5 x6 x7 x8 x9 u0 u1 u2 u3 u4 u5 u6 u7 u8 u9 y0 y1 y2 y3 y4 y5 y6 y7 y8 y9 z0 z1 z2 z3 z4 z5 z6 z7 z8 z9;obtain ⟨x0,x1,x2,x3,x4,x5,x6,x7,x8,x9⟩:=P.out.cf.all;obtain ⟨u0,u1,u2,u3,u4,u5,u6,u7,u8,u9⟩:=P.out.cf.free;obtain ⟨y0,y1,y2,y3,y4,y5,y6,y7,y8,y9⟩:=P.out.res.all;obtain ⟨z0,z1,z2,z3,z4,z5,z6,z7,z8,z9⟩:=P.out.res.free))
  replace R3:=R3.out
  refine bodyPost_ret (v:=.tuple #[Pk.val ⟨49185,x,y,[],v,0,[],[],d.drop 2,[]⟩ { pl0 with ad:=(some ⟨bb,oo,none⟩),nd:=m3,cd:=0 },.int .i64 0]) ?_ rfl (GetF.mk { pl0 with ad:=(some ⟨bb,oo,none⟩),nd:=m3,cd:=0 } rfl ?_ (put10_below ((P.out.set 4 (.int .u16 (v:Int)) (P.out.cf.setSub v)).set 8 (.slice (some ⟨bb,oo,none⟩) m3 0) ((P.out.cf.setSub v).setData (some ⟨bb,oo,none⟩) m3 0 (d.drop 2))).bel (Nat.le_refl _) ⟨49185,x,y,[],v,0,[],[],d.drop 2,[]⟩ { pl0 with ad:=(some ⟨bb,oo,none⟩),nd:=m3,cd:=0 }))
  ·exact results_row_tmpP rfl _ _ _ w.heap.size 29 _ _ _ rfl rfl (put10_px ((P.out.set 4 (.int .u16 (v:Int)) (P.out.cf.setSub v)).set 8 (.slice (some ⟨bb,oo,none⟩) m3 0) ((P.out.cf.setSub v).setData (some ⟨bb,oo,none⟩) m3 0 (d.drop 2))).res ⟨49185,x,y,[],v,0,[],[],d.drop 2,[]⟩ { pl0 with ad:=(some ⟨bb,oo,none⟩),nd:=m3,cd:=0 }) Tryz.underlying29 (by kernel_rfl)
  ·exact ((pwF_data 49185 x y v 0 HM.out R3 K3.out).keep (((keeps_f1 F wk w.heap.size g 4 (.int .u16 (v:Int))).trans (keeps_f1 F _ w.heap.size g 8 (.slice (some ⟨bb,oo,none⟩) m3 0))).trans (keeps_f2 F _ w.heap.size g ⟨49185,x,y,[],v,0,[],[],d.drop 2,[]⟩ { pl0 with ad:=(some ⟨bb,oo,none⟩),nd:=m3,cd:=0 }))).mono (fun _ _ h=>h.1)
 ·replace R4:=hI (if_neg hcz ▸ R4.out)
  have K3:=hI (show m3≤c1 - 2 by omega)
  go_wp2_with (first
   | (go_at_call 73;(with_reducible refine (read15_2 d n2 c1 _ _ R2.out.rd HD.out hn2.out hz2 v hv.out).mono ?_);rintro e wk ⟨rfl,hb⟩;have R3:=hI (R4.out.keep (.of_below hb));replace P:=hI (P.out.step hb);clear hb R2 R4;clear x0 x1 x2 x3 x4 x5 x6 x7 x8 x9 u0 u1 u2 u3 u4 u5 u6 u7 u8 u9 y0 y1 y2 y3 y4 y5 y6 y7 y8 y9 z0 z1 z2 z3 z4 z5 z6 z7 z8 z9;obtain ⟨x0,x1,x2,x3,x4,x5,x6,x7,x8,x9⟩:=P.out.cf.all;obtain ⟨u0,u1,u2,u3,u4,u5,u6,u7,u8,u9⟩:=P.out.cf.free;obtain ⟨y0,y1,y2,y3,y4,y5,y6,y7,y8,y9⟩:=P.out.res.all;obtain ⟨z0,z1,z2,z3,z4,z5,z6,z7,z8,z9⟩:=P.out.res.free))
  replace R3:=R3.out
  refine bodyPost_ret (v:=.tuple #[Pk.val ⟨49185,x,y,[],v,0,[],[],d.drop 2,[]⟩ { pl0 with ad:=(some ⟨bb,oo+2,none⟩),nd:=m3,cd:=(c1 - 2) },.int .i64 0]) ?_ rfl (GetF.mk { pl0 with ad:=(some ⟨bb,oo+2,none⟩),nd:=m3,cd:=(c1 - 2) } rfl ?_ (put10_below ((P.out.set 4 (.int .u16 (v:Int)) (P.out.cf.setSub v)).set 8 (.slice (some ⟨bb,oo+2,none⟩) m3 (c1 - 2)) ((P.out.cf.setSub v).setData (some ⟨bb,oo+2,none⟩) m3 (c1 - 2) (d.drop 2))).bel (Nat.le_refl _) ⟨49185,x,y,[],v,0,[],[],d.drop 2,[]⟩ { pl0 with ad:=(some ⟨bb,oo+2,none⟩),nd:=m3,cd:=(c1 - 2) }))
  ·exact results_row_tmpP rfl _ _ _ w.heap.size 29 _ _ _ rfl rfl (put10_px ((P.out.set 4 (.int .u16 (v:Int)) (P.out.cf.setSub v)).set 8 (.slice (some ⟨bb,oo+2,none⟩) m3 (c1 - 2)) ((P.out.cf.setSub v).setData (some ⟨bb,oo+2,none⟩) m3 (c1 - 2) (d.drop 2))).res ⟨49185,x,y,[],v,0,[],[],d.drop 2,[]⟩ { pl0 with ad:=(some ⟨bb,oo+2,none⟩),nd:=m3,cd:=(c1 - 2) }) Tryz.underlying29 (by kernel_rfl)
  ·exact ((pwF_data 49185 x y v 0 HM.out R3 K3.out).keep (((keeps_f1 F wk w.heap.size g 4 (.int .u16 (v:Int))).trans (keeps_f1 F _ w.heap.size g 8 (.slice (some ⟨bb,oo+2,none⟩) m3 (c1 - 2)))).trans (keeps_f2 F _ w.heap.size g ⟨49185,x,y,[],v,0,[],[],d.drop 2,[]⟩ { pl0 with ad:=(some ⟨bb,oo+2,none⟩),nd:=m3,cd:=(c1 - 2) }))).mono (fun _ _ h=>h.1)
theorem lrg_sub_no (b:List Nat) (n c:Nat) (A:Option Addr) (w:World) (F:Nat→Prop) (hF:∀ i,w.heap.size≤i→F i) (h:RdF F w A b) (hb:By b) (hl:b.length=n) (hn:n≤1073741824) (hc:n≤c) (x y:Nat) (d:List Nat) (hg:kgetB b=(x,y,d,0)) (hk:x=8) (hz:d.length<2) :
  Calls Tryz.prog 55 #[.slice A n c] w (GetF F w pk0 2):=by
 have C:=hI (GeC.made 29 w)
 have HR:=hI h.rd
 have HFF:=hI hF
 have HF:=hI h.ltF
 have HB:=hI hb
 have HL:=hI hl
 have HG:=hI hg
 obtain ⟨pd,hpd⟩:∃ pd,Hid (kpadB b=pd):=⟨_,hI rfl⟩
 obtain ⟨n2,hn2⟩:∃ n2,Hid (d.length=n2):=⟨_,hI rfl⟩
 have hd1:=kget_bytes hb hg
 have HD:=hI hd1.1
 have n2le:n2≤1073741824:=by have:=hd1.2;have:=hn2.out;omega
 have c1':(1:Int)≤(x:Int):=by omega
 have c4':¬ (x:Int)≤4:=by omega
 have t8:((x:Int) == 8)=true:=by simp;omega
 have c9':¬ (9:Int)≤(x:Int):=by omega
 have hz2:n2<2:=by rw [←hn2.out];exact hz
 have i0:(n2:Int)<2:=by omega
 clear hz
 clear hF h hb hl hg hk hd1
 go_enter Tryz.func55,Tryz.ntmps55
 go_upto_region 5 with (first
  | (go_at_call 71;(with_reducible refine (krgetF_v b x y d _ HG.out n2 hn2.out pd hpd.out n c A _ (HR.out.on C.out.bel) HB.out HL.out (by omega) hc (fun i=>F i∧i<w.heap.size) (HF.out.keep (.of_below C.out.bel))).mono ?_);rintro e wn ⟨A1,c1,rfl,k1,r1,hb⟩;have R1:=hI r1;replace C:=hI (C.out.step hb);clear hb r1))
 have BA:=hI ((Below.refl wn.heap.size wn).alloc (Nat.le_refl _) (Pk.obj ⟨49185,x,y,[],0,0,[],[],[],[]⟩ pl0 29))
 have P:=hI (C.out.pk ⟨49185,x,y,[],0,0,[],[],[],[]⟩ pl0)
 have LT:=C.out.res.lt
 obtain ⟨g,hgg⟩:∃ g,Hid (wn.heap.size=g):=⟨_,hI rfl⟩
 rw [hgg.out] at P LT ⊢
 have R2:=hI ((R1.out.keep (.of_below BA.out)).mono (G:=Nf F w.heap.size g) (fun i _ hf=>⟨hf.1,Nat.ne_of_lt hf.2,Nat.ne_of_lt (Nat.lt_trans hf.2 LT)⟩))
 refine at_worldP (fun W=>Hid (GpC 29 w W g ⟨49185,x,y,[],0,0,[],[],[],[]⟩ pl0)∧Hid (RdF (Nf F w.heap.size g) W A1 d)) ⟨P,R2⟩ ?_
 clear P R2 BA LT R1 C HR HF HB HL HG hgg
 rintro wm ⟨P,R2⟩
 have nq1:=Nat.ne_of_lt P.out.lt
 have nq3:=Nat.ne_of_gt P.out.lt
 obtain ⟨x0,x1,x2,x3,x4,x5,x6,x7,x8,x9⟩:=P.out.cf.all;obtain ⟨u0,u1,u2,u3,u4,u5,u6,u7,u8,u9⟩:=P.out.cf.free;obtain ⟨y0,y1,y2,y3,y4,y5,y6,y7,y8,y9⟩:=P.out.res.all;obtain ⟨z0,z1,z2,z3,z4,z5,z6,z7,z8,z9⟩:=P.out.res.free
 go_wp2_with fail
 refine bodyPost_ret (v:=.tuple #[Pk.val pk0 pl0,.int .i64 2]) ?_ rfl (GetF.mk pl0 rfl ?_ (put10_below P.out.bel (Nat.le_refl _) pk0 pl0))
 ·exact results_row_tmpP rfl _ _ _ w.heap.size 29 _ _ _ rfl rfl (put10_px P.out.res pk0 pl0) Tryz.underlying29 (by kernel_rfl)
 ·exact pwF0
theorem lrg_magic (b:List Nat) (n c:Nat) (A:Option Addr) (w:World) (F:Nat→Prop) (hF:∀ i,w.heap.size≤i→F i) (h:RdF F w A b) (hb:By b) (hl:b.length=n) (hn:n≤1073741824) (hc:n≤c) (x y:Nat) (d:List Nat) (hg:kgetB b=(x,y,d,0)) (hk:9≤x∧x≤11) (hz:4≤d.length) :
  Calls Tryz.prog 55 #[.slice A n c] w (GetF F w ⟨49185,x,y,[],0,valN (d.take 4),[],[],d.drop 4,[]⟩ 0):=by
 have C:=hI (GeC.made 29 w)
 have HR:=hI h.rd
 have HFF:=hI hF
 have HF:=hI h.ltF
 have HB:=hI hb
 have HL:=hI hl
 have HG:=hI hg
 obtain ⟨pd,hpd⟩:∃ pd,Hid (kpadB b=pd):=⟨_,hI rfl⟩
 obtain ⟨n2,hn2⟩:∃ n2,Hid (d.length=n2):=⟨_,hI rfl⟩
 have hd1:=kget_bytes hb hg
 have HD:=hI hd1.1
 have n2le:n2≤1073741824:=by have:=hd1.2;have:=hn2.out;omega
 have c1':(1:Int)≤(x:Int):=by omega
 have c4':¬ (x:Int)≤4:=by omega
 have t8:((x:Int) == 8)=false:=by simp;omega
 have c9':(9:Int)≤(x:Int):=by omega
 have c11':(x:Int)≤11:=by omega
 have hz2:4≤n2:=by rw [←hn2.out];exact hz
 obtain ⟨m3,hm3⟩:∃ m3,n2 - 4=m3:=⟨_,rfl⟩
 have HM:=hI (show (d.drop 4).length=m3 by rw [List.length_drop,hn2.out,hm3])
 obtain ⟨v,hv⟩:∃ v,Hid (valN (d.take 4)=v):=⟨_,hI rfl⟩
 have v9:v<4294967296:=by
  have h1:=valN_lt (HD.out.take 4)
  rw [List.length_take,hn2.out,Nat.min_eq_left hz2] at h1
  rw [←hv.out]
  exact h1
 have i1:IntKind.u32.wrap (v:Int)=(v:Int):=by rw [IntKind.wrap_u32];omega
 have i0:¬ (n2:Int)<4:=by omega
 have i2:(4:Int)≤(n2:Int):=by omega
 rw [hv.out]
 clear hz
 clear hF h hb hl hg hk hd1
 go_enter Tryz.func55,Tryz.ntmps55
 go_upto_region 5 with (first
  | (go_at_call 71;(with_reducible refine (krgetF_v b x y d _ HG.out n2 hn2.out pd hpd.out n c A _ (HR.out.on C.out.bel) HB.out HL.out (by omega) hc (fun i=>F i∧i<w.heap.size) (HF.out.keep (.of_below C.out.bel))).mono ?_);rintro e wn ⟨A1,c1,rfl,k1,r1,hb⟩;have R1:=hI r1;replace C:=hI (C.out.step hb);clear hb r1))
 have BA:=hI ((Below.refl wn.heap.size wn).alloc (Nat.le_refl _) (Pk.obj ⟨49185,x,y,[],0,0,[],[],[],[]⟩ pl0 29))
 have P:=hI (C.out.pk ⟨49185,x,y,[],0,0,[],[],[],[]⟩ pl0)
 have LT:=C.out.res.lt
 obtain ⟨g,hgg⟩:∃ g,Hid (wn.heap.size=g):=⟨_,hI rfl⟩
 rw [hgg.out] at P LT ⊢
 have R2:=hI ((R1.out.keep (.of_below BA.out)).mono (G:=Nf F w.heap.size g) (fun i _ hf=>⟨hf.1,Nat.ne_of_lt hf.2,Nat.ne_of_lt (Nat.lt_trans hf.2 LT)⟩))
 refine at_worldP (fun W=>Hid (GpC 29 w W g ⟨49185,x,y,[],0,0,[],[],[],[]⟩ pl0)∧Hid (RdF (Nf F w.heap.size g) W A1 d)) ⟨P,R2⟩ ?_
 clear P R2 BA LT R1 C HR HF HB HL HG hgg
 rintro wm ⟨P,R2⟩
 have nq1:=Nat.ne_of_lt P.out.lt
 have nq3:=Nat.ne_of_gt P.out.lt
 obtain ⟨x0,x1,x2,x3,x4,x5,x6,x7,x8,x9⟩:=P.out.cf.all;obtain ⟨u0,u1,u2,u3,u4,u5,u6,u7,u8,u9⟩:=P.out.cf.free;obtain ⟨y0,y1,y2,y3,y4,y5,y6,y7,y8,y9⟩:=P.out.res.all;obtain ⟨z0,z1,z2,z3,z4,z5,z6,z7,z8,z9⟩:=P.out.res.free
 obtain ⟨bb,oo,v0,rfl,-⟩:=R2.out.rd.at_ (k:=0) (by rw [hn2.out];omega)
 have R4:=hI (RdF.cutAt (c:=c1) (f:=4) R2.out (by rw [hn2.out];exact k1))
 by_cases hcz:c1=4
 ·subst hcz
  replace R4:=hI (if_pos (rfl:(4:Nat)=4) ▸ R4.out)
  have K3:=hI (show m3≤0 by omega)
  go_wp2_with (first
   | (go_at_call 73;(with_reducible refine (read15_4 d n2 4 _ _ R2.out.rd HD.out hn2.out hz2 v hv.out).mono ?_);rintro e wk ⟨rfl,hb⟩;have R3:=hI (R4.out.keep (.of_below hb));replace P:=hI (P.out.step hb);clear hb R2 R4;clear x0 x1 x2 x3 x4 x5 x6 x7 x8 x9 u0 u1 u2 u3 u4 u5 u6 u7 u8 u9 y0 y1 y2 y3 y4 y5 y6 y7 y8 y9 z0 z1 z2 z3 z4 z5 z6 z7 z8 z9;obtain ⟨x0,x1,x2,x3,x4,x5,x6,x7,x8,x9⟩:=P.out.cf.all;obtain ⟨u0,u1,u2,u3,u4,u5,u6,u7,u8,u9⟩:=P.out.cf.free;obtain ⟨y0,y1,y2,y3,y4,y5,y6,y7,y8,y9⟩:=P.out.res.all;obtain ⟨z0,z1,z2,z3,z4,z5,z6,z7,z8,z9⟩:=P.out.res.free))
  replace R3:=R3.out
  refine bodyPost_ret (v:=.tuple #[Pk.val ⟨49185,x,y,[],0,v,[],[],d.drop 4,[]⟩ { pl0 with ad:=(some ⟨bb,oo,none⟩),nd:=m3,cd:=0 },.int .i64 0]) ?_ rfl (GetF.mk { pl0 with ad:=(some ⟨bb,oo,none⟩),nd:=m3,cd:=0 } rfl ?_ (put10_below ((P.out.set 5 (.int .u32 (v:Int)) (P.out.cf.setMagic v)).set 8 (.slice (some ⟨bb,oo,none⟩) m3 0) ((P.out.cf.setMagic v).setData (some ⟨bb,oo,none⟩) m3 0 (d.drop 4))).bel (Nat.le_refl _) ⟨49185,x,y,[],0,v,[],[],d.drop 4,[]⟩ { pl0 with ad:=(some ⟨bb,oo,none⟩),nd:=m3,cd:=0 }))
  ·exact results_row_tmpP rfl _ _ _ w.heap.size 29 _ _ _ rfl rfl (put10_px ((P.out.set 5 (.int .u32 (v:Int)) (P.out.cf.setMagic v)).set 8 (.slice (some ⟨bb,oo,none⟩) m3 0) ((P.out.cf.setMagic v).setData (some ⟨bb,oo,none⟩) m3 0 (d.drop 4))).res ⟨49185,x,y,[],0,v,[],[],d.drop 4,[]⟩ { pl0 with ad:=(some ⟨bb,oo,none⟩),nd:=m3,cd:=0 }) Tryz.underlying29 (by kernel_rfl)
  ·exact ((pwF_data 49185 x y 0 v HM.out R3 K3.out).keep (((keeps_f1 F wk w.heap.size g 5 (.int .u32 (v:Int))).trans (keeps_f1 F _ w.heap.size g 8 (.slice (some ⟨bb,oo,none⟩) m3 0))).trans (keeps_f2 F _ w.heap.size g ⟨49185,x,y,[],0,v,[],[],d.drop 4,[]⟩ { pl0 with ad:=(some ⟨bb,oo,none⟩),nd:=m3,cd:=0 }))).mono (fun _ _ h=>h.1)
 ·replace R4:=hI (if_neg hcz ▸ R4.out)
  have K3:=hI (show m3≤c1 - 4 by omega)
  go_wp2_with (first
   | (go_at_call 73;(with_reducible refine (read15_4 d n2 c1 _ _ R2.out.rd HD.out hn2.out hz2 v hv.out).mono ?_);rintro e wk ⟨rfl,hb⟩;have R3:=hI (R4.out.keep (.of_below hb));replace P:=hI (P.out.step hb);clear hb R2 R4;clear x0 x1 x2 x3 x4 x5 x6 x7 x8 x9 u0 u1 u2 u3 u4 u5 u6 u7 u8 u9 y0 y1 y2 y3 y4 y5 y6 y7 y8 y9 z0 z1 z2 z3 z4 z5 z6 z7 z8 z9;obtain ⟨x0,x1,x2,x3,x4,x5,x6,x7,x8,x9⟩:=P.out.cf.all;obtain ⟨u0,u1,u2,u3,u4,u5,u6,u7,u8,u9⟩:=P.out.cf.free;obtain ⟨y0,y1,y2,y3,y4,y5,y6,y7,y8,y9⟩:=P.out.res.all;obtain ⟨z0,z1,z2,z3,z4,z5,z6,z7,z8,z9⟩:=P.out.res.free))
  replace R3:=R3.out
  refine bodyPost_ret (v:=.tuple #[Pk.val ⟨49185,x,y,[],0,v,[],[],d.drop 4,[]⟩ { pl0 with ad:=(some ⟨bb,oo+4,none⟩),nd:=m3,cd:=(c1 - 4) },.int .i64 0]) ?_ rfl (GetF.mk { pl0 with ad:=(some ⟨bb,oo+4,none⟩),nd:=m3,cd:=(c1 - 4) } rfl ?_ (put10_below ((P.out.set 5 (.int .u32 (v:Int)) (P.out.cf.setMagic v)).set 8 (.slice (some ⟨bb,oo+4,none⟩) m3 (c1 - 4)) ((P.out.cf.setMagic v).setData (some ⟨bb,oo+4,none⟩) m3 (c1 - 4) (d.drop 4))).bel (Nat.le_refl _) ⟨49185,x,y,[],0,v,[],[],d.drop 4,[]⟩ { pl0 with ad:=(some ⟨bb,oo+4,none⟩),nd:=m3,cd:=(c1 - 4) }))
  ·exact results_row_tmpP rfl _ _ _ w.heap.size 29 _ _ _ rfl rfl (put10_px ((P.out.set 5 (.int .u32 (v:Int)) (P.out.cf.setMagic v)).set 8 (.slice (some ⟨bb,oo+4,none⟩) m3 (c1 - 4)) ((P.out.cf.setMagic v).setData (some ⟨bb,oo+4,none⟩) m3 (c1 - 4) (d.drop 4))).res ⟨49185,x,y,[],0,v,[],[],d.drop 4,[]⟩ { pl0 with ad:=(some ⟨bb,oo+4,none⟩),nd:=m3,cd:=(c1 - 4) }) Tryz.underlying29 (by kernel_rfl)
  ·exact ((pwF_data 49185 x y 0 v HM.out R3 K3.out).keep (((keeps_f1 F wk w.heap.size g 5 (.int .u32 (v:Int))).trans (keeps_f1 F _ w.heap.size g 8 (.slice (some ⟨bb,oo+4,none⟩) m3 (c1 - 4)))).trans (keeps_f2 F _ w.heap.size g ⟨49185,x,y,[],0,v,[],[],d.drop 4,[]⟩ { pl0 with ad:=(some ⟨bb,oo+4,none⟩),nd:=m3,cd:=(c1 - 4) }))).mono (fun _ _ h=>h.1)
theorem lrg_magic_no (b:List Nat) (n c:Nat) (A:Option Addr) (w:World) (F:Nat→Prop) (hF:∀ i,w.heap.size≤i→F i) (h:RdF F w A b) (hb:By b) (hl:b.length=n) (hn:n≤1073741824) (hc:n≤c) (x y:Nat) (d:List Nat) (hg:kgetB b=(x,y,d,0)) (hk:9≤x∧x≤11) (hz:d.length<4) :
  Calls Tryz.prog 55 #[.slice A n c] w (GetF F w pk0 2):=by
 have C:=hI (GeC.made 29 w)
 have HR:=hI h.rd
 have HFF:=hI hF
 have HF:=hI h.ltF
 have HB:=hI hb
 have HL:=hI hl
 have HG:=hI hg
 obtain ⟨pd,hpd⟩:∃ pd,Hid (kpadB b=pd):=⟨_,hI rfl⟩
 obtain ⟨n2,hn2⟩:∃ n2,Hid (d.length=n2):=⟨_,hI rfl⟩
 have hd1:=kget_bytes hb hg
 have HD:=hI hd1.1
 have n2le:n2≤1073741824:=by have:=hd1.2;have:=hn2.out;omega
 have c1':(1:Int)≤(x:Int):=by omega
 have c4':¬ (x:Int)≤4:=by omega
 have t8:((x:Int) == 8)=false:=by simp;omega
 have c9':(9:Int)≤(x:Int):=by omega
 have c11':(x:Int)≤11:=by omega
 have hz2:n2<4:=by rw [←hn2.out];exact hz
 have i0:(n2:Int)<4:=by omega
 clear hz
 clear hF h hb hl hg hk hd1
 go_enter Tryz.func55,Tryz.ntmps55
 go_upto_region 5 with (first
  | (go_at_call 71;(with_reducible refine (krgetF_v b x y d _ HG.out n2 hn2.out pd hpd.out n c A _ (HR.out.on C.out.bel) HB.out HL.out (by omega) hc (fun i=>F i∧i<w.heap.size) (HF.out.keep (.of_below C.out.bel))).mono ?_);rintro e wn ⟨A1,c1,rfl,k1,r1,hb⟩;have R1:=hI r1;replace C:=hI (C.out.step hb);clear hb r1))
 have BA:=hI ((Below.refl wn.heap.size wn).alloc (Nat.le_refl _) (Pk.obj ⟨49185,x,y,[],0,0,[],[],[],[]⟩ pl0 29))
 have P:=hI (C.out.pk ⟨49185,x,y,[],0,0,[],[],[],[]⟩ pl0)
 have LT:=C.out.res.lt
 obtain ⟨g,hgg⟩:∃ g,Hid (wn.heap.size=g):=⟨_,hI rfl⟩
 rw [hgg.out] at P LT ⊢
 have R2:=hI ((R1.out.keep (.of_below BA.out)).mono (G:=Nf F w.heap.size g) (fun i _ hf=>⟨hf.1,Nat.ne_of_lt hf.2,Nat.ne_of_lt (Nat.lt_trans hf.2 LT)⟩))
 refine at_worldP (fun W=>Hid (GpC 29 w W g ⟨49185,x,y,[],0,0,[],[],[],[]⟩ pl0)∧Hid (RdF (Nf F w.heap.size g) W A1 d)) ⟨P,R2⟩ ?_
 clear P R2 BA LT R1 C HR HF HB HL HG hgg
 rintro wm ⟨P,R2⟩
 have nq1:=Nat.ne_of_lt P.out.lt
 have nq3:=Nat.ne_of_gt P.out.lt
 obtain ⟨x0,x1,x2,x3,x4,x5,x6,x7,x8,x9⟩:=P.out.cf.all;obtain ⟨u0,u1,u2,u3,u4,u5,u6,u7,u8,u9⟩:=P.out.cf.free;obtain ⟨y0,y1,y2,y3,y4,y5,y6,y7,y8,y9⟩:=P.out.res.all;obtain ⟨z0,z1,z2,z3,z4,z5,z6,z7,z8,z9⟩:=P.out.res.free
 go_wp2_with fail
 refine bodyPost_ret (v:=.tuple #[Pk.val pk0 pl0,.int .i64 2]) ?_ rfl (GetF.mk pl0 rfl ?_ (put10_below P.out.bel (Nat.le_refl _) pk0 pl0))
 ·exact results_row_tmpP rfl _ _ _ w.heap.size 29 _ _ _ rfl rfl (put10_px P.out.res pk0 pl0) Tryz.underlying29 (by kernel_rfl)
 ·exact pwF0
theorem lrgF_any (b:List Nat) (n c:Nat) (A:Option Addr) (w:World) (F:Nat→Prop) (hF:∀ i,w.heap.size≤i→F i) (h:RdF F w A b) (hb:By b) (hl:b.length=n) (hn:n≤1073741824) (hc:n≤c) (p:Pk) (k:Nat) (hp:lgetB b=(p,k)) :
  Calls Tryz.prog 55 #[.slice A n c] w (GetF F w p k):=by
 obtain ⟨x,y,d,e,hg⟩:∃ x y d e,kgetB b=(x,y,d,e):=⟨_,_,_,_,rfl⟩
 by_cases he:e=0
 case neg =>
  rw [lget_no hg he] at hp
  obtain ⟨rfl,rfl⟩:=Prod.mk.inj hp
  exact lrg_no b n c A w F hF h hb hl hn hc x y d e hg he
 subst he
 rw [lget_of hg,lrdB] at hp
 rcases (show x=0∨(1≤x∧x≤4)∨(5≤x∧x≤7)∨x=8∨(9≤x∧x≤11)∨12≤x by omega) with hc1 | hc1 | hc1 | hc1 | hc1 | hc1
 ·have hk:hasL x=0:=by unfold hasL;rw [if_neg (by omega),if_neg (by omega),if_neg (by omega)]
  rw [hk] at hp
  obtain ⟨rfl,rfl⟩:=Prod.mk.inj hp
  exact lrg_a b n c A w F hF h hb hl hn hc x y d hg hc1
 ·have hk:hasL x=1:=by unfold hasL;rw [if_pos (by omega)]
  rw [if_pos hk] at hp
  obtain ⟨l,kk,ho⟩:∃ l kk,getO 49185 d=(l,kk):=⟨_,_,rfl⟩
  rw [ho] at hp
  dsimp only at hp
  by_cases h0:kk=0
  ·subst h0
   rw [if_pos rfl] at hp
   obtain ⟨rfl,rfl⟩:=Prod.mk.inj hp
   exact lrg_opts b n c A w F hF h hb hl hn hc x y d hg hc1 l ho
  ·rw [if_neg h0] at hp
   obtain ⟨rfl,rfl⟩:=Prod.mk.inj hp
   exact lrg_opts_no b n c A w F hF h hb hl hn hc x y d hg hc1 l kk ho h0
 ·have hk:hasL x=0:=by unfold hasL;rw [if_neg (by omega),if_neg (by omega),if_neg (by omega)]
  rw [hk] at hp
  obtain ⟨rfl,rfl⟩:=Prod.mk.inj hp
  exact lrg_c b n c A w F hF h hb hl hn hc x y d hg hc1
 ·have hk:hasL x=2:=by unfold hasL;rw [if_neg (by omega),if_pos (by omega)]
  rw [if_neg (by omega),if_pos hk] at hp
  by_cases hz:d.length<2
  ·rw [if_pos hz] at hp
   obtain ⟨rfl,rfl⟩:=Prod.mk.inj hp
   exact lrg_sub_no b n c A w F hF h hb hl hn hc x y d hg hc1 hz
  ·rw [if_neg hz] at hp
   obtain ⟨rfl,rfl⟩:=Prod.mk.inj hp
   exact lrg_sub b n c A w F hF h hb hl hn hc x y d hg hc1 (by omega)
 ·have hk:hasL x=3:=by unfold hasL;rw [if_neg (by omega),if_neg (by omega),if_pos (by omega)]
  rw [if_neg (by omega),if_neg (by omega),if_pos hk] at hp
  by_cases hz:d.length<4
  ·rw [if_pos hz] at hp
   obtain ⟨rfl,rfl⟩:=Prod.mk.inj hp
   exact lrg_magic_no b n c A w F hF h hb hl hn hc x y d hg hc1 hz
  ·rw [if_neg hz] at hp
   obtain ⟨rfl,rfl⟩:=Prod.mk.inj hp
   exact lrg_magic b n c A w F hF h hb hl hn hc x y d hg hc1 (by omega)
 ·have hk:hasL x=0:=by unfold hasL;rw [if_neg (by omega),if_neg (by omega),if_neg (by omega)]
  rw [hk] at hp
  obtain ⟨rfl,rfl⟩:=Prod.mk.inj hp
  exact lrg_h b n c A w F hF h hb hl hn hc x y d hg hc1
end Go.Proofs.YtmhjnghomihjlaaGreat
