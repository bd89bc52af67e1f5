/-
  What the program's Get of layer 22 answers. No condition beyond: at most 2^30 octets.
-/
import Derived.Test.YtmhjnghomihjlaaGreatEthG
import Derived.StillTailTactics
namespace Go.Proofs.YtmhjnghomihjlaaGreat
set_option maxRecDepth 8000
set_option maxHeartbeats 80000000
set_option linter.unusedVariables false
open Go.RowKit
theorem i4 {n:Nat} (h:¬ n<6):(4:Int)≤(n:Int):=by omega
theorem i2 {n:Nat} (h:¬ n<6):(2:Int)≤(n:Int):=by omega
theorem inc {n c:Nat} (h:n≤c):(n:Int)≤(c:Int):=by omega
theorem ic2 {n c:Nat} (h:¬ n<6) (h2:n≤c):¬ c=2:=by omega
theorem ic4 {n c:Nat} (h:¬ n<6) (h2:n≤c):¬ c=4:=by omega
theorem is6 {l n:Nat} (h:l+6=n):(n:Int) - 6=(l:Int):=by omega
theorem iw6 {l n:Nat} (h:l+6=n) (h2:n≤1073741824):IntKind.i64.wrap (l:Int)=(l:Int):=IntWalk.i64_in _ (by omega)
theorem u6a {l n a:Nat} (h1:l+6=n) (h2:n≤6) (h3:a≤l):a=0:=by omega
theorem u6b {a b:Nat} (h1:6+a=b) (h2:a=0):(b:Int)≤6∧(6:Int)≤(b:Int)∧b - 6=a∧a≤0:=by omega
theorem ebad_eqI {j:Nat} {f:Fr} {m k:Nat} (h:ebad j=(f,m,k)):fr0=f∧0=m∧j=k:=by
 unfold ebad at h
 injection h with e1 h
 injection h with e2 e3
 exact ⟨e1,e2,e3⟩
theorem t16I {x y z:Nat} (hx:x<256) (hy:y<256) (h:x*256+y=z):z<65536:=by omega
theorem ilt {l a:Nat} (h:l<a):(l:Int)<(a:Int):=by omega
theorem ige {l a:Nat} (h:a≤l):¬ (l:Int)<(a:Int):=by omega
theorem egt_short (n c:Nat) (A:Option Addr) (w:World) (hn:n<6) :
  Calls Tryz.prog 11 #[.slice A n c] w (GetE w fr0 0 2):=by
 have C:=hI (ReF.made 42 w)
 have j1:(n:Int)<6:=by omega
 clear hn
 go_enter Tryz.func11,Tryz.ntmps11
 go_upto_region 1 with fail
 with_reducible refine at_worldP (fun W=>Hid (ReF 42 w W)) C ?_
 clear C
 rintro w1 C
 obtain ⟨y0,y1,y2,y3,y4,y5,y6,y7,y8,y9,y10,y11,y12⟩:=C.out.res.all
 obtain ⟨z0,z1,z2,z3,z4,z5,z6,z7,z8,z9,z10,z11,z12⟩:=C.out.res.free
 go_wp2_with fail
 refine bodyPost_ret (v:=.tuple #[fr0.val fl0,.int .i64 0,.int .i64 2]) ?_ rfl (GetE.mk fl0 rfl fwF0 (put13_below C.out.bel (Nat.le_refl _) fr0 fl0))
 exact results_row_tmp2 rfl _ _ _ _ w.heap.size 42 _ _ _ rfl rfl rfl (put13_fx C.out.res fr0 fl0) Tryz.underlying42 (by kernel_rfl)
theorem egt_form (v c s1 s2 n1 n2:Nat) (t:List Nat) (n cap:Nat) (A:Option Addr) (w:World) (h:Rd w w.heap.size A (v :: c :: s1 :: s2 :: n1 :: n2 :: t)) (hb:By (v :: c :: s1 :: s2 :: n1 :: n2 :: t)) (hl:t.length+6=n) (hn:n≤1073741824) (hc:n≤cap) (hv:¬ v=17) :
  Calls Tryz.prog 11 #[.slice A n cap] w (GetE w fr0 0 4):=by
 have C:=hI (ReF.made 42 w)
 obtain ⟨bb,oo,u0,rfl,hbb,hu0,k0⟩:=h.at_ (k:=0) (by simp)
 obtain ⟨bb1,oo1,u1,e1,-,hu1,k1⟩:=h.at_ (k:=1) (by simp)
 injection e1 with e1
 injection e1 with e1 e1'
 subst e1;subst e1'
 obtain rfl:v=u0:=by simpa using hu0
 obtain rfl:c=u1:=by simpa using hu1
 rw [Nat.add_zero] at k0
 clear hu0 hu1
 have bv:v<256:=hb v (by simp)
 have bc:c<256:=hb c (by simp)
 have bs1:s1<256:=hb s1 (by simp)
 have bs2:s2<256:=hb s2 (by simp)
 have bn1:n1<256:=hb n1 (by simp)
 have bn2:n2<256:=hb n2 (by simp)
 have CB:=hI (fun W (hW:Below w.heap.size w W)=>⟨(hW.cell (p:=⟨bb,oo,none⟩) hbb).trans k0,(hW.cell (p:=⟨bb,oo+1,none⟩) hbb).trans k1⟩:∀ W,Below w.heap.size w W→W.cell? ⟨bb,oo,none⟩=some (.int .u8 (v:Int))∧W.cell? ⟨bb,oo+1,none⟩=some (.int .u8 (c:Int)))
 have hn6:¬ n<6:=by omega
 have i1:¬ (n:Int)<6:=by omega
 have q0:0<n:=by omega
 have q1:(1:Int)<(n:Int):=by omega
 have j1:((v:Int) != 17)=true:=by rw [bne_iff_ne];omega
 clear h hb hl hn hc hbb hv k0 k1 hn6
 go_enter Tryz.func11,Tryz.ntmps11
 go_upto_region 1 with fail
 with_reducible refine at_worldP (fun W=>Hid (ReF 42 w W)) C ?_
 clear C
 rintro w1 C
 obtain ⟨y0,y1,y2,y3,y4,y5,y6,y7,y8,y9,y10,y11,y12⟩:=C.out.res.all
 obtain ⟨z0,z1,z2,z3,z4,z5,z6,z7,z8,z9,z10,z11,z12⟩:=C.out.res.free
 obtain ⟨d0,d1⟩:=CB.out _ C.out.bel
 go_wp2_with fail
 refine bodyPost_ret (v:=.tuple #[fr0.val fl0,.int .i64 0,.int .i64 4]) ?_ rfl (GetE.mk fl0 rfl fwF0 (put13_below C.out.bel (Nat.le_refl _) fr0 fl0))
 exact results_row_tmp2 rfl _ _ _ _ w.heap.size 42 _ _ _ rfl rfl rfl (put13_fx C.out.res fr0 fl0) Tryz.underlying42 (by kernel_rfl)
theorem egt_code (v c s1 s2 n1 n2:Nat) (t:List Nat) (n cap:Nat) (A:Option Addr) (w:World) (h:Rd w w.heap.size A (v :: c :: s1 :: s2 :: n1 :: n2 :: t)) (hb:By (v :: c :: s1 :: s2 :: n1 :: n2 :: t)) (hl:t.length+6=n) (hn:n≤1073741824) (hc:n≤cap) (hv:v=17) (k:Nat) (hk:ecode c (s1*256+s2)=k) (hk0:¬ k=0) :
  Calls Tryz.prog 11 #[.slice A n cap] w (GetE w fr0 0 k):=by
 have C:=hI (ReF.made 42 w)
 obtain ⟨bb,oo,u0,rfl,hbb,hu0,k0⟩:=h.at_ (k:=0) (by simp)
 obtain ⟨bb1,oo1,u1,e1,-,hu1,k1⟩:=h.at_ (k:=1) (by simp)
 injection e1 with e1
 injection e1 with e1 e1'
 subst e1;subst e1'
 obtain rfl:v=u0:=by simpa using hu0
 obtain rfl:c=u1:=by simpa using hu1
 rw [Nat.add_zero] at k0
 clear hu0 hu1
 have bv:v<256:=hb v (by simp)
 have bc:c<256:=hb c (by simp)
 have bs1:s1<256:=hb s1 (by simp)
 have bs2:s2<256:=hb s2 (by simp)
 have bn1:n1<256:=hb n1 (by simp)
 have bn2:n2<256:=hb n2 (by simp)
 have CB:=hI (fun W (hW:Below w.heap.size w W)=>⟨(hW.cell (p:=⟨bb,oo,none⟩) hbb).trans k0,(hW.cell (p:=⟨bb,oo+1,none⟩) hbb).trans k1⟩:∀ W,Below w.heap.size w W→W.cell? ⟨bb,oo,none⟩=some (.int .u8 (v:Int))∧W.cell? ⟨bb,oo+1,none⟩=some (.int .u8 (c:Int)))
 have hn6:¬ n<6:=by omega
 have i1:¬ (n:Int)<6:=by omega
 have q0:0<n:=by omega
 have q1:(1:Int)<(n:Int):=by omega
 have j1:((v:Int) != 17)=false:=by rw [hv];rfl
 obtain ⟨ss,hss⟩:∃ z,Hid (s1*256+s2=z):=⟨_,hI rfl⟩
 have RB0:=hI (show Rd w w.heap.size (some ⟨bb,oo+2,none⟩) (s1 :: s2 :: n1 :: n2 :: t) by
  have e8:=h.cutG (f:=2) (c:=cap) (by show t.length+6≤cap;rw [hl];exact hc)
  rw [if_neg (ic2 hn6 hc)] at e8
  exact e8)
 have RB4:=hI (show Rd w w.heap.size (some ⟨bb,oo+4,none⟩) (n1 :: n2 :: t) by
  have e8:=h.cutG (f:=4) (c:=cap) (by show t.length+6≤cap;rw [hl];exact hc)
  rw [if_neg (ic4 hn6 hc)] at e8
  exact e8)
 have BB2:=hI (show By (s1 :: s2 :: n1 :: n2 :: t) from hb.drop 2)
 have BB4:=hI (show By (n1 :: n2 :: t) from hb.drop 4)
 have LB2:=hI (show (s1 :: s2 :: n1 :: n2 :: t).length=n - 2 by rw [←hl];rfl)
 have LB4:=hI (show (n1 :: n2 :: t).length=n - 4 by rw [←hl];rfl)
 have IC2:=hI (ic2 hn6 hc)
 have IC4:=hI (ic4 hn6 hc)
 have I2:=hI (i2 hn6)
 have I4:=hI (i4 hn6)
 have INC:=hI (inc hc)
 have EC:=hI (show ecode c ss=k by rw [←hss.out];exact hk)
 have j2:=ez0t k hk0
 clear h hb hl hn hc hbb hv k0 k1 hn6 bv bs1 bs2 bn1 bn2 hk hk0
 go_enter Tryz.func11,Tryz.ntmps11
 go_upto_region 1 with fail
 with_reducible refine at_worldP (fun W=>Hid (ReF 42 w W)) C ?_
 clear C
 rintro w1 C
 obtain ⟨y0,y1,y2,y3,y4,y5,y6,y7,y8,y9,y10,y11,y12⟩:=C.out.res.all
 obtain ⟨z0,z1,z2,z3,z4,z5,z6,z7,z8,z9,z10,z11,z12⟩:=C.out.res.free
 obtain ⟨d0,d1⟩:=CB.out _ C.out.bel
 go_upto_region 5 with fail
 have I2':=I2.out
 have INC':=INC.out
 have IC2':=IC2.out
 have D:=hI (Below.refl w1.heap.size w1)
 have LT1:=hI C.out.res.lt
 have RB2:=hI (show ∀ W,Below w1.heap.size w1 W→Rd W W.heap.size (some ⟨bb,oo+2,none⟩) (s1 :: s2 :: n1 :: n2 :: t) from fun W hW=>(RB0.out.on C.out.bel).on hW)
 have E6:=hI (show ∀ W,Below w1.heap.size w1 W→W.cell? ⟨bb,oo+1,none⟩=some (.int .u8 (c:Int)) from fun W hW=>(CB.out W (C.out.bel.trans (hW.mono C.out.bel.size))).2)
 clear y0 y1 y2 y3 y4 y5 y6 y7 y8 y9 y10 y11 y12 z0 z1 z2 z3 z4 z5 z6 z7 z8 z9 z10 z11 z12 d0 d1
 have d1:=E6.out _ D.out
 go_cut [5] from 9 to 24 (fun s5 wx=>∃ g,s5=.pointer (some ⟨g,0,none⟩)∧Hid (GfE 42 w wx g ⟨c,ss,[],pk0⟩ fl0))
 case first =>
  go_region_held3 (fun W=>W.cell? ⟨bb,oo+1,none⟩=some (.int .u8 (c:Int))) (first | (with_reducible exact E6.out _ D.out) | (with_reducible exact E6.out _ D.out.drew) | (with_reducible exact E6.out _ (D.out.alloc (Nat.le_refl _) _)) | (with_reducible exact E6.out _ (D.out.alloc (Nat.le_refl _) _).drew) | (with_reducible exact E6.out _ (D.out.alloc D.out.size _)) | (with_reducible exact E6.out _ (D.out.alloc D.out.size _).drew) | exact E6.out _ (put13_below D.out (Nat.le_refl _) ⟨c,ss,[],pk0⟩ fl0)) (first
   | ((with_reducible refine at_calls ((w1.alloc (obj0F 42)).drew) ?_);have hx:Below w1.heap.size w1 (w1.alloc (obj0F 42)).drew:=((Below.refl _ _).alloc (Nat.le_refl _) (obj0F 42)).drew;have Q:=hI (show Fx (w1.alloc (obj0F 42)).drew w1.heap.size 42 fr0 fl0 from fx0 (heap_alloc_new w1 _));go_at_call 30;(with_reducible refine (etnum_any s1 s2 ss (s1 :: s2 :: n1 :: n2 :: t) rfl rfl hss.out (n - 2) _ _ _ (RB2.out _ (hx)) BB2.out LB2.out).mono ?_);rintro e wn ⟨rfl,kk,hkk⟩;have hb:Below (w1.alloc (obj0F 42)).drew.heap.size (w1.alloc (obj0F 42)).drew wn:=hkk ▸ below_drewN (Below.refl _ _) kk;replace D:=hI (hx.trans (hb.mono hx.size));replace Q:=hI (Q.out.below hb);have C9:=C.out.step D.out;have E1:=hI (show GfE 42 w (((((((((((((wn.setCell ⟨w1.heap.size,0,none⟩ (.int .u8 (c:Int))).setCell ⟨w1.heap.size,1,none⟩ (.int .u16 (ss:Int))).setCell ⟨w1.heap.size,2,none⟩ (.slice none 0 0)).setCell ⟨w1.heap.size,3,none⟩ (.int .u16 0)).setCell ⟨w1.heap.size,4,none⟩ (.int .u8 0)).setCell ⟨w1.heap.size,5,none⟩ (.int .u8 0)).setCell ⟨w1.heap.size,6,none⟩ (.slice none 0 0)).setCell ⟨w1.heap.size,7,none⟩ (.int .u16 0)).setCell ⟨w1.heap.size,8,none⟩ (.int .u32 0)).setCell ⟨w1.heap.size,9,none⟩ (.slice none 0 0)).setCell ⟨w1.heap.size,10,none⟩ (.slice none 0 0)).setCell ⟨w1.heap.size,11,none⟩ (.slice none 0 0)).setCell ⟨w1.heap.size,12,none⟩ (.slice none 0 0)) w1.heap.size ⟨c,ss,[],pk0⟩ fl0 from ⟨⟨put13_below C9.bel (Nat.le_of_lt LT1.out) ⟨c,ss,[],pk0⟩ fl0,C9.res.putOther ⟨c,ss,[],pk0⟩ fl0 (Nat.ne_of_lt LT1.out)⟩,LT1.out,put13_fx Q.out ⟨c,ss,[],pk0⟩ fl0⟩);clear hkk hx hb C9;obtain ⟨x0,x1,x2,x3,x4,x5,x6,x7,x8,x9,x10,x11,x12⟩:=Q.out.all;obtain ⟨f0,f1,f2,f3,f4,f5,f6,f7,f8,f9,f10,f11,f12⟩:=Q.out.free;dsimp only)
   | ((with_reducible refine at_calls (w1.drew) ?_);have hx:Below w1.heap.size w1 w1.drew:=(Below.refl _ _).drew;go_at_call 30;(with_reducible refine (etnum_any s1 s2 ss (s1 :: s2 :: n1 :: n2 :: t) rfl rfl hss.out (n - 2) _ _ _ (RB2.out _ (hx)) BB2.out LB2.out).mono ?_);rintro e wn ⟨rfl,kk,hkk⟩;have hb:Below w1.drew.heap.size w1.drew wn:=hkk ▸ below_drewN (Below.refl _ _) kk;replace D:=hI (hx.trans (hb.mono hx.size));have C9:=C.out.step D.out;have E1:=hI (show GfE 42 w (wn.alloc (.cells #[.int .u8 (c:Int),.int .u16 (ss:Int),.slice none 0 0,.int .u16 0,.int .u8 0,.int .u8 0,.slice none 0 0,.int .u16 0,.int .u32 0,.slice none 0 0,.slice none 0 0,.slice none 0 0,.slice none 0 0] 42)) wn.heap.size ⟨c,ss,[],pk0⟩ fl0 from GfE.new C9 ⟨c,ss,[],pk0⟩ fl0 _ rfl);clear hkk hx hb C9;dsimp only))
  all_goals (go_wp2_with fail;go_meet)
  all_goals (with_reducible exact ⟨_,rfl,E1⟩)
 case rest =>
  obtain ⟨g,rfl,C⟩:=hcut
  clear I2' INC' IC2' q0 q1 i1 RB2 E6 D LT1 d1
  obtain ⟨y0,y1,y2,y3,y4,y5,y6,y7,y8,y9,y10,y11,y12⟩:=C.out.re.res.all
  obtain ⟨z0,z1,z2,z3,z4,z5,z6,z7,z8,z9,z10,z11,z12⟩:=C.out.re.res.free
  obtain ⟨x0,x1,x2,x3,x4,x5,x6,x7,x8,x9,x10,x11,x12⟩:=(show wc.cell? ⟨g,0,none⟩=some (.int .u8 (c:Int))∧wc.cell? ⟨g,1,none⟩=some (.int .u16 (ss:Int))∧wc.cell? ⟨g,2,none⟩=some (.slice none 0 0)∧wc.cell? ⟨g,3,none⟩=some (.int .u16 0)∧wc.cell? ⟨g,4,none⟩=some (.int .u8 0)∧wc.cell? ⟨g,5,none⟩=some (.int .u8 0)∧wc.cell? ⟨g,6,none⟩=some (.slice none 0 0)∧wc.cell? ⟨g,7,none⟩=some (.int .u16 0)∧wc.cell? ⟨g,8,none⟩=some (.int .u32 0)∧wc.cell? ⟨g,9,none⟩=some (.slice none 0 0)∧wc.cell? ⟨g,10,none⟩=some (.slice none 0 0)∧wc.cell? ⟨g,11,none⟩=some (.slice none 0 0)∧wc.cell? ⟨g,12,none⟩=some (.slice none 0 0) from C.out.cf.all)
  go_wp2_with (first
   | (go_at_call 20;(with_reducible refine (echeck_any c ss bc _ EC.out _).mono ?_);rintro e wn ⟨rfl,hb⟩;replace C:=hI (C.out.step hb);clear hb y0 y1 y2 y3 y4 y5 y6 y7 y8 y9 y10 y11 y12 z0 z1 z2 z3 z4 z5 z6 z7 z8 z9 z10 z11 z12 x0 x1 x2 x3 x4 x5 x6 x7 x8 x9 x10 x11 x12;obtain ⟨y0,y1,y2,y3,y4,y5,y6,y7,y8,y9,y10,y11,y12⟩:=C.out.re.res.all;obtain ⟨z0,z1,z2,z3,z4,z5,z6,z7,z8,z9,z10,z11,z12⟩:=C.out.re.res.free;obtain ⟨x0,x1,x2,x3,x4,x5,x6,x7,x8,x9,x10,x11,x12⟩:=(show wn.cell? ⟨g,0,none⟩=some (.int .u8 (c:Int))∧wn.cell? ⟨g,1,none⟩=some (.int .u16 (ss:Int))∧wn.cell? ⟨g,2,none⟩=some (.slice none 0 0)∧wn.cell? ⟨g,3,none⟩=some (.int .u16 0)∧wn.cell? ⟨g,4,none⟩=some (.int .u8 0)∧wn.cell? ⟨g,5,none⟩=some (.int .u8 0)∧wn.cell? ⟨g,6,none⟩=some (.slice none 0 0)∧wn.cell? ⟨g,7,none⟩=some (.int .u16 0)∧wn.cell? ⟨g,8,none⟩=some (.int .u32 0)∧wn.cell? ⟨g,9,none⟩=some (.slice none 0 0)∧wn.cell? ⟨g,10,none⟩=some (.slice none 0 0)∧wn.cell? ⟨g,11,none⟩=some (.slice none 0 0)∧wn.cell? ⟨g,12,none⟩=some (.slice none 0 0) from C.out.cf.all)))
  refine bodyPost_ret (v:=.tuple #[fr0.val fl0,.int .i64 0,.int .i64 (k:Int)]) ?_ rfl (GetE.mk fl0 rfl fwF0 (put13_below C.out.re.bel (Nat.le_refl _) fr0 fl0))
  exact results_row_tmp2 rfl _ _ _ _ w.heap.size 42 _ _ _ rfl rfl rfl (put13_fx C.out.re.res fr0 fl0) Tryz.underlying42 (by kernel_rfl)
theorem egt_rest (v c s1 s2 n1 n2:Nat) (t:List Nat) (n cap:Nat) (A:Option Addr) (w:World) (h:Rd w w.heap.size A (v :: c :: s1 :: s2 :: n1 :: n2 :: t)) (hb:By (v :: c :: s1 :: s2 :: n1 :: n2 :: t)) (hl:t.length+6=n) (hn:n≤1073741824) (hc:n≤cap) (hv:v=17) (hk:ecode c (s1*256+s2)=0) (f:Fr) (m k:Nat) (hg:(if n1*256+n2≤1494 then if n1*256+n2≤t.length then eread c (s1*256+s2) (n1*256+n2) (t.take (n1*256+n2)) else ebad 2 else ebad 3)=(f,m,k)) :
  Calls Tryz.prog 11 #[.slice A n cap] w (GetE w f m k):=by
 have C:=hI (ReF.made 42 w)
 obtain ⟨bb,oo,u0,rfl,hbb,hu0,k0⟩:=h.at_ (k:=0) (by simp)
 obtain ⟨bb1,oo1,u1,e1,-,hu1,k1⟩:=h.at_ (k:=1) (by simp)
 injection e1 with e1
 injection e1 with e1 e1'
 subst e1;subst e1'
 obtain rfl:v=u0:=by simpa using hu0
 obtain rfl:c=u1:=by simpa using hu1
 rw [Nat.add_zero] at k0
 clear hu0 hu1
 have bv:v<256:=hb v (by simp)
 have bc:c<256:=hb c (by simp)
 have bs1:s1<256:=hb s1 (by simp)
 have bs2:s2<256:=hb s2 (by simp)
 have bn1:n1<256:=hb n1 (by simp)
 have bn2:n2<256:=hb n2 (by simp)
 have CB:=hI (fun W (hW:Below w.heap.size w W)=>⟨(hW.cell (p:=⟨bb,oo,none⟩) hbb).trans k0,(hW.cell (p:=⟨bb,oo+1,none⟩) hbb).trans k1⟩:∀ W,Below w.heap.size w W→W.cell? ⟨bb,oo,none⟩=some (.int .u8 (v:Int))∧W.cell? ⟨bb,oo+1,none⟩=some (.int .u8 (c:Int)))
 have hn6:¬ n<6:=by omega
 have i1:¬ (n:Int)<6:=by omega
 have q0:0<n:=by omega
 have q1:(1:Int)<(n:Int):=by omega
 have j1:((v:Int) != 17)=false:=by rw [hv];rfl
 obtain ⟨ss,hss⟩:∃ z,Hid (s1*256+s2=z):=⟨_,hI rfl⟩
 have RB0:=hI (show Rd w w.heap.size (some ⟨bb,oo+2,none⟩) (s1 :: s2 :: n1 :: n2 :: t) by
  have e8:=h.cutG (f:=2) (c:=cap) (by show t.length+6≤cap;rw [hl];exact hc)
  rw [if_neg (ic2 hn6 hc)] at e8
  exact e8)
 have RB4:=hI (show Rd w w.heap.size (some ⟨bb,oo+4,none⟩) (n1 :: n2 :: t) by
  have e8:=h.cutG (f:=4) (c:=cap) (by show t.length+6≤cap;rw [hl];exact hc)
  rw [if_neg (ic4 hn6 hc)] at e8
  exact e8)
 have BB2:=hI (show By (s1 :: s2 :: n1 :: n2 :: t) from hb.drop 2)
 have BB4:=hI (show By (n1 :: n2 :: t) from hb.drop 4)
 have LB2:=hI (show (s1 :: s2 :: n1 :: n2 :: t).length=n - 2 by rw [←hl];rfl)
 have LB4:=hI (show (n1 :: n2 :: t).length=n - 4 by rw [←hl];rfl)
 have IC2:=hI (ic2 hn6 hc)
 have IC4:=hI (ic4 hn6 hc)
 have I2:=hI (i2 hn6)
 have I4:=hI (i4 hn6)
 have INC:=hI (inc hc)
 have EC:=hI (show ecode c ss=0 by rw [←hss.out];exact hk)
 obtain ⟨nn,hnn⟩:∃ z,Hid (n1*256+n2=z):=⟨_,hI rfl⟩
 have nn6:=t16I bn1 bn2 hnn.out
 have NN6:=hI nn6
 have t4:=ti64 nn nn6
 have j4:=is6 hl
 have j5:=iw6 hl hn
 rw [hss.out,hnn.out] at hg
 have HGM:=hI hg
 have HR0:=hI h
 have HB0:=hI hb
 have HL0:=hI hl
 have HC0:=hI hc
 clear h hb hl hn hc hbb hv k0 k1 hn6 bv bs1 bs2 bn1 bn2 hk hg nn6
 go_enter Tryz.func11,Tryz.ntmps11
 go_upto_region 1 with fail
 with_reducible refine at_worldP (fun W=>Hid (ReF 42 w W)) C ?_
 clear C
 rintro w1 C
 obtain ⟨y0,y1,y2,y3,y4,y5,y6,y7,y8,y9,y10,y11,y12⟩:=C.out.res.all
 obtain ⟨z0,z1,z2,z3,z4,z5,z6,z7,z8,z9,z10,z11,z12⟩:=C.out.res.free
 obtain ⟨d0,d1⟩:=CB.out _ C.out.bel
 go_upto_region 5 with fail
 have I2':=I2.out
 have INC':=INC.out
 have IC2':=IC2.out
 have D:=hI (Below.refl w1.heap.size w1)
 have LT1:=hI C.out.res.lt
 have RB2:=hI (show ∀ W,Below w1.heap.size w1 W→Rd W W.heap.size (some ⟨bb,oo+2,none⟩) (s1 :: s2 :: n1 :: n2 :: t) from fun W hW=>(RB0.out.on C.out.bel).on hW)
 have E6:=hI (show ∀ W,Below w1.heap.size w1 W→W.cell? ⟨bb,oo+1,none⟩=some (.int .u8 (c:Int)) from fun W hW=>(CB.out W (C.out.bel.trans (hW.mono C.out.bel.size))).2)
 clear y0 y1 y2 y3 y4 y5 y6 y7 y8 y9 y10 y11 y12 z0 z1 z2 z3 z4 z5 z6 z7 z8 z9 z10 z11 z12 d0 d1
 have d1:=E6.out _ D.out
 go_cut [5] from 9 to 24 (fun s5 wx=>∃ g,s5=.pointer (some ⟨g,0,none⟩)∧Hid (GfE 42 w wx g ⟨c,ss,[],pk0⟩ fl0))
 case first =>
  go_region_held3 (fun W=>W.cell? ⟨bb,oo+1,none⟩=some (.int .u8 (c:Int))) (first | (with_reducible exact E6.out _ D.out) | (with_reducible exact E6.out _ D.out.drew) | (with_reducible exact E6.out _ (D.out.alloc (Nat.le_refl _) _)) | (with_reducible exact E6.out _ (D.out.alloc (Nat.le_refl _) _).drew) | (with_reducible exact E6.out _ (D.out.alloc D.out.size _)) | (with_reducible exact E6.out _ (D.out.alloc D.out.size _).drew) | exact E6.out _ (put13_below D.out (Nat.le_refl _) ⟨c,ss,[],pk0⟩ fl0)) (first
   | ((with_reducible refine at_calls ((w1.alloc (obj0F 42)).drew) ?_);have hx:Below w1.heap.size w1 (w1.alloc (obj0F 42)).drew:=((Below.refl _ _).alloc (Nat.le_refl _) (obj0F 42)).drew;have Q:=hI (show Fx (w1.alloc (obj0F 42)).drew w1.heap.size 42 fr0 fl0 from fx0 (heap_alloc_new w1 _));go_at_call 30;(with_reducible refine (etnum_any s1 s2 ss (s1 :: s2 :: n1 :: n2 :: t) rfl rfl hss.out (n - 2) _ _ _ (RB2.out _ (hx)) BB2.out LB2.out).mono ?_);rintro e wn ⟨rfl,kk,hkk⟩;have hb:Below (w1.alloc (obj0F 42)).drew.heap.size (w1.alloc (obj0F 42)).drew wn:=hkk ▸ below_drewN (Below.refl _ _) kk;replace D:=hI (hx.trans (hb.mono hx.size));replace Q:=hI (Q.out.below hb);have C9:=C.out.step D.out;have E1:=hI (show GfE 42 w (((((((((((((wn.setCell ⟨w1.heap.size,0,none⟩ (.int .u8 (c:Int))).setCell ⟨w1.heap.size,1,none⟩ (.int .u16 (ss:Int))).setCell ⟨w1.heap.size,2,none⟩ (.slice none 0 0)).setCell ⟨w1.heap.size,3,none⟩ (.int .u16 0)).setCell ⟨w1.heap.size,4,none⟩ (.int .u8 0)).setCell ⟨w1.heap.size,5,none⟩ (.int .u8 0)).setCell ⟨w1.heap.size,6,none⟩ (.slice none 0 0)).setCell ⟨w1.heap.size,7,none⟩ (.int .u16 0)).setCell ⟨w1.heap.size,8,none⟩ (.int .u32 0)).setCell ⟨w1.heap.size,9,none⟩ (.slice none 0 0)).setCell ⟨w1.heap.size,10,none⟩ (.slice none 0 0)).setCell ⟨w1.heap.size,11,none⟩ (.slice none 0 0)).setCell ⟨w1.heap.size,12,none⟩ (.slice none 0 0)) w1.heap.size ⟨c,ss,[],pk0⟩ fl0 from ⟨⟨put13_below C9.bel (Nat.le_of_lt LT1.out) ⟨c,ss,[],pk0⟩ fl0,C9.res.putOther ⟨c,ss,[],pk0⟩ fl0 (Nat.ne_of_lt LT1.out)⟩,LT1.out,put13_fx Q.out ⟨c,ss,[],pk0⟩ fl0⟩);clear hkk hx hb C9;obtain ⟨x0,x1,x2,x3,x4,x5,x6,x7,x8,x9,x10,x11,x12⟩:=Q.out.all;obtain ⟨f0,f1,f2,f3,f4,f5,f6,f7,f8,f9,f10,f11,f12⟩:=Q.out.free;dsimp only)
   | ((with_reducible refine at_calls (w1.drew) ?_);have hx:Below w1.heap.size w1 w1.drew:=(Below.refl _ _).drew;go_at_call 30;(with_reducible refine (etnum_any s1 s2 ss (s1 :: s2 :: n1 :: n2 :: t) rfl rfl hss.out (n - 2) _ _ _ (RB2.out _ (hx)) BB2.out LB2.out).mono ?_);rintro e wn ⟨rfl,kk,hkk⟩;have hb:Below w1.drew.heap.size w1.drew wn:=hkk ▸ below_drewN (Below.refl _ _) kk;replace D:=hI (hx.trans (hb.mono hx.size));have C9:=C.out.step D.out;have E1:=hI (show GfE 42 w (wn.alloc (.cells #[.int .u8 (c:Int),.int .u16 (ss:Int),.slice none 0 0,.int .u16 0,.int .u8 0,.int .u8 0,.slice none 0 0,.int .u16 0,.int .u32 0,.slice none 0 0,.slice none 0 0,.slice none 0 0,.slice none 0 0] 42)) wn.heap.size ⟨c,ss,[],pk0⟩ fl0 from GfE.new C9 ⟨c,ss,[],pk0⟩ fl0 _ rfl);clear hkk hx hb C9;dsimp only))
  all_goals (go_wp2_with fail;go_meet)
  all_goals (with_reducible exact ⟨_,rfl,E1⟩)
 case rest =>
  obtain ⟨g,rfl,C⟩:=hcut
  clear I2' INC' IC2' q0 q1 i1 RB2 E6 D LT1 d1
  obtain ⟨y0,y1,y2,y3,y4,y5,y6,y7,y8,y9,y10,y11,y12⟩:=C.out.re.res.all
  obtain ⟨z0,z1,z2,z3,z4,z5,z6,z7,z8,z9,z10,z11,z12⟩:=C.out.re.res.free
  obtain ⟨x0,x1,x2,x3,x4,x5,x6,x7,x8,x9,x10,x11,x12⟩:=(show wc.cell? ⟨g,0,none⟩=some (.int .u8 (c:Int))∧wc.cell? ⟨g,1,none⟩=some (.int .u16 (ss:Int))∧wc.cell? ⟨g,2,none⟩=some (.slice none 0 0)∧wc.cell? ⟨g,3,none⟩=some (.int .u16 0)∧wc.cell? ⟨g,4,none⟩=some (.int .u8 0)∧wc.cell? ⟨g,5,none⟩=some (.int .u8 0)∧wc.cell? ⟨g,6,none⟩=some (.slice none 0 0)∧wc.cell? ⟨g,7,none⟩=some (.int .u16 0)∧wc.cell? ⟨g,8,none⟩=some (.int .u32 0)∧wc.cell? ⟨g,9,none⟩=some (.slice none 0 0)∧wc.cell? ⟨g,10,none⟩=some (.slice none 0 0)∧wc.cell? ⟨g,11,none⟩=some (.slice none 0 0)∧wc.cell? ⟨g,12,none⟩=some (.slice none 0 0) from C.out.cf.all)
  have I4':=I4.out
  have INC':=INC.out
  have IC4':=IC4.out
  go_upto_region 10 with (first
   | (go_at_call 20;(with_reducible refine (echeck_any c ss bc _ EC.out _).mono ?_);rintro e wn ⟨rfl,hb⟩;replace C:=hI (C.out.step hb);clear hb y0 y1 y2 y3 y4 y5 y6 y7 y8 y9 y10 y11 y12 z0 z1 z2 z3 z4 z5 z6 z7 z8 z9 z10 z11 z12 x0 x1 x2 x3 x4 x5 x6 x7 x8 x9 x10 x11 x12;obtain ⟨y0,y1,y2,y3,y4,y5,y6,y7,y8,y9,y10,y11,y12⟩:=C.out.re.res.all;obtain ⟨z0,z1,z2,z3,z4,z5,z6,z7,z8,z9,z10,z11,z12⟩:=C.out.re.res.free;obtain ⟨x0,x1,x2,x3,x4,x5,x6,x7,x8,x9,x10,x11,x12⟩:=(show wn.cell? ⟨g,0,none⟩=some (.int .u8 (c:Int))∧wn.cell? ⟨g,1,none⟩=some (.int .u16 (ss:Int))∧wn.cell? ⟨g,2,none⟩=some (.slice none 0 0)∧wn.cell? ⟨g,3,none⟩=some (.int .u16 0)∧wn.cell? ⟨g,4,none⟩=some (.int .u8 0)∧wn.cell? ⟨g,5,none⟩=some (.int .u8 0)∧wn.cell? ⟨g,6,none⟩=some (.slice none 0 0)∧wn.cell? ⟨g,7,none⟩=some (.int .u16 0)∧wn.cell? ⟨g,8,none⟩=some (.int .u32 0)∧wn.cell? ⟨g,9,none⟩=some (.slice none 0 0)∧wn.cell? ⟨g,10,none⟩=some (.slice none 0 0)∧wn.cell? ⟨g,11,none⟩=some (.slice none 0 0)∧wn.cell? ⟨g,12,none⟩=some (.slice none 0 0) from C.out.cf.all))
   | (go_at_call 30;(with_reducible refine (etnum_any n1 n2 nn (n1 :: n2 :: t) rfl rfl hnn.out (n - 4) _ _ _ (RB4.out.on C.out.re.bel) BB4.out LB4.out).mono ?_);rintro e wm ⟨rfl,kk,hkk⟩;replace C:=hI (C.out.step (hkk ▸ below_drewN (Below.refl _ _) kk));clear hkk y0 y1 y2 y3 y4 y5 y6 y7 y8 y9 y10 y11 y12 z0 z1 z2 z3 z4 z5 z6 z7 z8 z9 z10 z11 z12 x0 x1 x2 x3 x4 x5 x6 x7 x8 x9 x10 x11 x12;obtain ⟨y0,y1,y2,y3,y4,y5,y6,y7,y8,y9,y10,y11,y12⟩:=C.out.re.res.all;obtain ⟨z0,z1,z2,z3,z4,z5,z6,z7,z8,z9,z10,z11,z12⟩:=C.out.re.res.free;obtain ⟨x0,x1,x2,x3,x4,x5,x6,x7,x8,x9,x10,x11,x12⟩:=(show wm.cell? ⟨g,0,none⟩=some (.int .u8 (c:Int))∧wm.cell? ⟨g,1,none⟩=some (.int .u16 (ss:Int))∧wm.cell? ⟨g,2,none⟩=some (.slice none 0 0)∧wm.cell? ⟨g,3,none⟩=some (.int .u16 0)∧wm.cell? ⟨g,4,none⟩=some (.int .u8 0)∧wm.cell? ⟨g,5,none⟩=some (.int .u8 0)∧wm.cell? ⟨g,6,none⟩=some (.slice none 0 0)∧wm.cell? ⟨g,7,none⟩=some (.int .u16 0)∧wm.cell? ⟨g,8,none⟩=some (.int .u32 0)∧wm.cell? ⟨g,9,none⟩=some (.slice none 0 0)∧wm.cell? ⟨g,10,none⟩=some (.slice none 0 0)∧wm.cell? ⟨g,11,none⟩=some (.slice none 0 0)∧wm.cell? ⟨g,12,none⟩=some (.slice none 0 0) from C.out.cf.all)))
  clear I4' INC' IC4'
  refine at_worldP (fun W=>Hid (GfE 42 w W g ⟨c,ss,[],pk0⟩ fl0)) C ?_
  clear C y0 y1 y2 y3 y4 y5 y6 y7 y8 y9 y10 y11 y12 z0 z1 z2 z3 z4 z5 z6 z7 z8 z9 z10 z11 z12 x0 x1 x2 x3 x4 x5 x6 x7 x8 x9 x10 x11 x12
  rintro w3 C
  have hg:=HGM.out
  by_cases g3:nn≤1494
  ·rw [if_pos g3] at hg
   have j3:=le94 g3
   by_cases g4:nn≤t.length
   ·rw [if_pos g4] at hg
    have j6:=ige g4
    obtain ⟨n6,hn6⟩:∃ z,6+nn=z:=⟨_,rfl⟩
    have j7:=ad6 hn6
    have j8:=ti64c hn6 NN6.out
    rw [eread_one,hn6] at hg
    obtain ⟨y,kt,hr⟩:∃ y kt,eread1 ⟨c,ss,[],pk0⟩ (t.take nn)=(y,kt):=⟨_,_,rfl⟩
    rw [hr] at hg
    dsimp only at hg
    have HR1:=hI hr
    have HGG:=hI hg
    clear hg hr
    by_cases hcap:cap=6
    ·have h:=HR0.out
     have hb:=HB0.out
     have hl:=HL0.out
     have hc:=HC0.out
     subst hcap
     have hz:=u6a hl hc g4
     obtain ⟨j10,j9,j11,hcc⟩:=u6b hn6 hz
     have BP:=hI (show By (t.take nn) from (fun x hx=>hb x (by simp [List.mem_of_mem_take hx])))
     have LP:=hI (show (t.take nn).length=nn by rw [List.length_take];exact Nat.min_eq_left g4)
     have RQ:=hI (show Rd w w.heap.size (some ⟨bb,oo,none⟩) (t.take nn) by
      rw [hz,List.take_zero]
      exact Rd.nil)
     clear hz
     have NN5:=hI (Nat.le_trans g3 (by decide):nn≤1073741824)
     have HCC:=hI hcc
     clear h hb hl hc g3 g4 hn6 hcc
     obtain ⟨y0,y1,y2,y3,y4,y5,y6,y7,y8,y9,y10,y11,y12⟩:=C.out.re.res.all
     obtain ⟨z0,z1,z2,z3,z4,z5,z6,z7,z8,z9,z10,z11,z12⟩:=C.out.re.res.free
     obtain ⟨x0,x1,x2,x3,x4,x5,x6,x7,x8,x9,x10,x11,x12⟩:=(show w3.cell? ⟨g,0,none⟩=some (.int .u8 (c:Int))∧w3.cell? ⟨g,1,none⟩=some (.int .u16 (ss:Int))∧w3.cell? ⟨g,2,none⟩=some (.slice none 0 0)∧w3.cell? ⟨g,3,none⟩=some (.int .u16 0)∧w3.cell? ⟨g,4,none⟩=some (.int .u8 0)∧w3.cell? ⟨g,5,none⟩=some (.int .u8 0)∧w3.cell? ⟨g,6,none⟩=some (.slice none 0 0)∧w3.cell? ⟨g,7,none⟩=some (.int .u16 0)∧w3.cell? ⟨g,8,none⟩=some (.int .u32 0)∧w3.cell? ⟨g,9,none⟩=some (.slice none 0 0)∧w3.cell? ⟨g,10,none⟩=some (.slice none 0 0)∧w3.cell? ⟨g,11,none⟩=some (.slice none 0 0)∧w3.cell? ⟨g,12,none⟩=some (.slice none 0 0) from C.out.cf.all)
     obtain ⟨G,hG⟩:∃ G,Hid (G=fun i=>i≠w.heap.size∧i≠g):=⟨_,hI rfl⟩
     have FG:=hI (show ∀ i,w3.drew.heap.size≤i→G i by
      rw [hG.out]
      exact fun i hi=>⟨Nat.ne_of_gt (Nat.lt_of_lt_of_le C.out.re.res.lt hi),Nat.ne_of_gt (Nat.lt_of_lt_of_le C.out.cf.lt hi)⟩)
     go_upto_region 14 with fail
     replace C:=hI (C.out.step (Below.refl _ _).drew)
     go_region_with (first
      | (go_at_call 31;(with_reducible refine (erd_lit G c ss _ FG.out (t.take nn) nn _ _ (RQ.out.on C.out.re.bel) BP.out LP.out NN5.out HCC.out y kt HR1.out).mono ?_);rintro e wk ⟨r,rfl,hp,hb⟩;have RT:=hI hp;replace C:=hI (C.out.step hb);clear hp hb y0 y1 y2 y3 y4 y5 y6 y7 y8 y9 y10 y11 y12 z0 z1 z2 z3 z4 z5 z6 z7 z8 z9 z10 z11 z12 x0 x1 x2 x3 x4 x5 x6 x7 x8 x9 x10 x11 x12;obtain ⟨x0,x1,x2,x3,x4,x5,x6,x7,x8,x9,x10,x11,x12⟩:=C.out.cf.all;obtain ⟨f0,f1,f2,f3,f4,f5,f6,f7,f8,f9,f10,f11,f12⟩:=C.out.cf.free;dsimp only))
     have BB:=hI (⟨⟨put13_below C.out.re.bel (Nat.le_of_lt C.out.lt) y r,C.out.re.res.putOther y r (Nat.ne_of_lt C.out.lt)⟩,C.out.lt,put13_fx C.out.cf y r⟩:GfE 42 w (put13 wk g y r) g y r)
     have RK:=hI (show FwF G (put13 wk g y r) y r from RT.out.keep ((put13_keeps wk g y r).less (fun i _ h=>by rw [hG.out] at h;exact h.2)))
     refine at_worldP (W:=put13 wk g y r) (fun W=>Hid (GfE 42 w W g y r)∧Hid (FwF G W y r)) ⟨BB,RK⟩ ?_
     clear C BB RK RT x0 x1 x2 x3 x4 x5 x6 x7 x8 x9 x10 x11 x12 f0 f1 f2 f3 f4 f5 f6 f7 f8 f9 f10 f11 f12
     rintro w6 ⟨C,RT⟩
     have hg:=HGG.out
     by_cases g7:kt=0
     ·subst g7
      rw [if_pos rfl] at hg
      injection hg with e1 hg
      injection hg with e2 e3
      subst e1;subst e2;subst e3
      obtain ⟨y0,y1,y2,y3,y4,y5,y6,y7,y8,y9,y10,y11,y12⟩:=C.out.re.res.all
      obtain ⟨z0,z1,z2,z3,z4,z5,z6,z7,z8,z9,z10,z11,z12⟩:=C.out.re.res.free
      obtain ⟨x0,x1,x2,x3,x4,x5,x6,x7,x8,x9,x10,x11,x12⟩:=C.out.cf.all
      go_wp2_with fail
      refine bodyPost_ret (v:=.tuple #[Fr.val y r,.int .i64 (n6:Int),.int .i64 0]) ?_ rfl (GetE.mk r rfl ((RT.out.keep ((put13_keeps w6 w.heap.size y r).less (fun i _ h=>by rw [hG.out] at h;exact h.1))).all) (put13_below C.out.re.bel (Nat.le_refl _) y r))
      exact results_row_tmp2 rfl _ _ _ _ w.heap.size 42 _ _ _ rfl rfl rfl (put13_fx C.out.re.res y r) Tryz.underlying42 (by kernel_rfl)
     ·rw [if_neg g7] at hg
      obtain ⟨rfl,rfl,rfl⟩:=ebad_eqI hg
      have j12:=ez0t kt g7
      clear hg g7
      obtain ⟨y0,y1,y2,y3,y4,y5,y6,y7,y8,y9,y10,y11,y12⟩:=C.out.re.res.all
      obtain ⟨z0,z1,z2,z3,z4,z5,z6,z7,z8,z9,z10,z11,z12⟩:=C.out.re.res.free
      obtain ⟨x0,x1,x2,x3,x4,x5,x6,x7,x8,x9,x10,x11,x12⟩:=C.out.cf.all
      go_wp2_with fail
      refine bodyPost_ret (v:=.tuple #[fr0.val fl0,.int .i64 0,.int .i64 (kt:Int)]) ?_ rfl (GetE.mk fl0 rfl fwF0 (put13_below C.out.re.bel (Nat.le_refl _) fr0 fl0))
      exact results_row_tmp2 rfl _ _ _ _ w.heap.size 42 _ _ _ rfl rfl rfl (put13_fx C.out.re.res fr0 fl0) Tryz.underlying42 (by kernel_rfl)
    ·have h:=HR0.out
     have hb:=HB0.out
     have hl:=HL0.out
     have hc:=HC0.out
     obtain ⟨j9,j10,j11,hcc⟩:=sl6 hl hn6 g4 hc
     have BP:=hI (show By (t.take nn) from (fun x hx=>hb x (by simp [List.mem_of_mem_take hx])))
     have LP:=hI (show (t.take nn).length=nn by rw [List.length_take];exact Nat.min_eq_left g4)
     have RQ:=hI (show Rd w w.heap.size (some ⟨bb,oo+6,none⟩) (t.take nn) by
      have e8:=h.cutG (f:=6) (c:=cap) (by show t.length+6≤cap;rw [hl];exact hc)
      rw [if_neg hcap] at e8
      exact Rd.take e8 nn)
     have NN5:=hI (Nat.le_trans g3 (by decide):nn≤1073741824)
     have HCC:=hI hcc
     clear h hb hl hc g3 g4 hn6 hcc
     obtain ⟨y0,y1,y2,y3,y4,y5,y6,y7,y8,y9,y10,y11,y12⟩:=C.out.re.res.all
     obtain ⟨z0,z1,z2,z3,z4,z5,z6,z7,z8,z9,z10,z11,z12⟩:=C.out.re.res.free
     obtain ⟨x0,x1,x2,x3,x4,x5,x6,x7,x8,x9,x10,x11,x12⟩:=(show w3.cell? ⟨g,0,none⟩=some (.int .u8 (c:Int))∧w3.cell? ⟨g,1,none⟩=some (.int .u16 (ss:Int))∧w3.cell? ⟨g,2,none⟩=some (.slice none 0 0)∧w3.cell? ⟨g,3,none⟩=some (.int .u16 0)∧w3.cell? ⟨g,4,none⟩=some (.int .u8 0)∧w3.cell? ⟨g,5,none⟩=some (.int .u8 0)∧w3.cell? ⟨g,6,none⟩=some (.slice none 0 0)∧w3.cell? ⟨g,7,none⟩=some (.int .u16 0)∧w3.cell? ⟨g,8,none⟩=some (.int .u32 0)∧w3.cell? ⟨g,9,none⟩=some (.slice none 0 0)∧w3.cell? ⟨g,10,none⟩=some (.slice none 0 0)∧w3.cell? ⟨g,11,none⟩=some (.slice none 0 0)∧w3.cell? ⟨g,12,none⟩=some (.slice none 0 0) from C.out.cf.all)
     obtain ⟨G,hG⟩:∃ G,Hid (G=fun i=>i≠w.heap.size∧i≠g):=⟨_,hI rfl⟩
     have FG:=hI (show ∀ i,w3.drew.heap.size≤i→G i by
      rw [hG.out]
      exact fun i hi=>⟨Nat.ne_of_gt (Nat.lt_of_lt_of_le C.out.re.res.lt hi),Nat.ne_of_gt (Nat.lt_of_lt_of_le C.out.cf.lt hi)⟩)
     go_upto_region 14 with fail
     replace C:=hI (C.out.step (Below.refl _ _).drew)
     go_region_with (first
      | (go_at_call 31;(with_reducible refine (erd_lit G c ss _ FG.out (t.take nn) nn _ _ (RQ.out.on C.out.re.bel) BP.out LP.out NN5.out HCC.out y kt HR1.out).mono ?_);rintro e wk ⟨r,rfl,hp,hb⟩;have RT:=hI hp;replace C:=hI (C.out.step hb);clear hp hb y0 y1 y2 y3 y4 y5 y6 y7 y8 y9 y10 y11 y12 z0 z1 z2 z3 z4 z5 z6 z7 z8 z9 z10 z11 z12 x0 x1 x2 x3 x4 x5 x6 x7 x8 x9 x10 x11 x12;obtain ⟨x0,x1,x2,x3,x4,x5,x6,x7,x8,x9,x10,x11,x12⟩:=C.out.cf.all;obtain ⟨f0,f1,f2,f3,f4,f5,f6,f7,f8,f9,f10,f11,f12⟩:=C.out.cf.free;dsimp only))
     have BB:=hI (⟨⟨put13_below C.out.re.bel (Nat.le_of_lt C.out.lt) y r,C.out.re.res.putOther y r (Nat.ne_of_lt C.out.lt)⟩,C.out.lt,put13_fx C.out.cf y r⟩:GfE 42 w (put13 wk g y r) g y r)
     have RK:=hI (show FwF G (put13 wk g y r) y r from RT.out.keep ((put13_keeps wk g y r).less (fun i _ h=>by rw [hG.out] at h;exact h.2)))
     refine at_worldP (W:=put13 wk g y r) (fun W=>Hid (GfE 42 w W g y r)∧Hid (FwF G W y r)) ⟨BB,RK⟩ ?_
     clear C BB RK RT x0 x1 x2 x3 x4 x5 x6 x7 x8 x9 x10 x11 x12 f0 f1 f2 f3 f4 f5 f6 f7 f8 f9 f10 f11 f12
     rintro w6 ⟨C,RT⟩
     have hg:=HGG.out
     by_cases g7:kt=0
     ·subst g7
      rw [if_pos rfl] at hg
      injection hg with e1 hg
      injection hg with e2 e3
      subst e1;subst e2;subst e3
      obtain ⟨y0,y1,y2,y3,y4,y5,y6,y7,y8,y9,y10,y11,y12⟩:=C.out.re.res.all
      obtain ⟨z0,z1,z2,z3,z4,z5,z6,z7,z8,z9,z10,z11,z12⟩:=C.out.re.res.free
      obtain ⟨x0,x1,x2,x3,x4,x5,x6,x7,x8,x9,x10,x11,x12⟩:=C.out.cf.all
      go_wp2_with fail
      refine bodyPost_ret (v:=.tuple #[Fr.val y r,.int .i64 (n6:Int),.int .i64 0]) ?_ rfl (GetE.mk r rfl ((RT.out.keep ((put13_keeps w6 w.heap.size y r).less (fun i _ h=>by rw [hG.out] at h;exact h.1))).all) (put13_below C.out.re.bel (Nat.le_refl _) y r))
      exact results_row_tmp2 rfl _ _ _ _ w.heap.size 42 _ _ _ rfl rfl rfl (put13_fx C.out.re.res y r) Tryz.underlying42 (by kernel_rfl)
     ·rw [if_neg g7] at hg
      obtain ⟨rfl,rfl,rfl⟩:=ebad_eqI hg
      have j12:=ez0t kt g7
      clear hg g7
      obtain ⟨y0,y1,y2,y3,y4,y5,y6,y7,y8,y9,y10,y11,y12⟩:=C.out.re.res.all
      obtain ⟨z0,z1,z2,z3,z4,z5,z6,z7,z8,z9,z10,z11,z12⟩:=C.out.re.res.free
      obtain ⟨x0,x1,x2,x3,x4,x5,x6,x7,x8,x9,x10,x11,x12⟩:=C.out.cf.all
      go_wp2_with fail
      refine bodyPost_ret (v:=.tuple #[fr0.val fl0,.int .i64 0,.int .i64 (kt:Int)]) ?_ rfl (GetE.mk fl0 rfl fwF0 (put13_below C.out.re.bel (Nat.le_refl _) fr0 fl0))
      exact results_row_tmp2 rfl _ _ _ _ w.heap.size 42 _ _ _ rfl rfl rfl (put13_fx C.out.re.res fr0 fl0) Tryz.underlying42 (by kernel_rfl)
   ·rw [if_neg g4] at hg
    have j6:=ilt (Nat.lt_of_not_le g4)
    obtain ⟨rfl,rfl,rfl⟩:=ebad_eqI hg
    clear hg g3 g4
    obtain ⟨y0,y1,y2,y3,y4,y5,y6,y7,y8,y9,y10,y11,y12⟩:=C.out.re.res.all
    obtain ⟨z0,z1,z2,z3,z4,z5,z6,z7,z8,z9,z10,z11,z12⟩:=C.out.re.res.free
    obtain ⟨x0,x1,x2,x3,x4,x5,x6,x7,x8,x9,x10,x11,x12⟩:=(show w3.cell? ⟨g,0,none⟩=some (.int .u8 (c:Int))∧w3.cell? ⟨g,1,none⟩=some (.int .u16 (ss:Int))∧w3.cell? ⟨g,2,none⟩=some (.slice none 0 0)∧w3.cell? ⟨g,3,none⟩=some (.int .u16 0)∧w3.cell? ⟨g,4,none⟩=some (.int .u8 0)∧w3.cell? ⟨g,5,none⟩=some (.int .u8 0)∧w3.cell? ⟨g,6,none⟩=some (.slice none 0 0)∧w3.cell? ⟨g,7,none⟩=some (.int .u16 0)∧w3.cell? ⟨g,8,none⟩=some (.int .u32 0)∧w3.cell? ⟨g,9,none⟩=some (.slice none 0 0)∧w3.cell? ⟨g,10,none⟩=some (.slice none 0 0)∧w3.cell? ⟨g,11,none⟩=some (.slice none 0 0)∧w3.cell? ⟨g,12,none⟩=some (.slice none 0 0) from C.out.cf.all)
    go_wp2_with fail
    refine bodyPost_ret (v:=.tuple #[fr0.val fl0,.int .i64 0,.int .i64 2]) ?_ rfl (GetE.mk fl0 rfl fwF0 (put13_below C.out.re.bel (Nat.le_refl _) fr0 fl0))
    exact results_row_tmp2 rfl _ _ _ _ w.heap.size 42 _ _ _ rfl rfl rfl (put13_fx C.out.re.res fr0 fl0) Tryz.underlying42 (by kernel_rfl)
  ·rw [if_neg g3] at hg
   have j3:=gt94 (Nat.lt_of_not_le g3)
   obtain ⟨rfl,rfl,rfl⟩:=ebad_eqI hg
   clear hg g3
   obtain ⟨y0,y1,y2,y3,y4,y5,y6,y7,y8,y9,y10,y11,y12⟩:=C.out.re.res.all
   obtain ⟨z0,z1,z2,z3,z4,z5,z6,z7,z8,z9,z10,z11,z12⟩:=C.out.re.res.free
   obtain ⟨x0,x1,x2,x3,x4,x5,x6,x7,x8,x9,x10,x11,x12⟩:=(show w3.cell? ⟨g,0,none⟩=some (.int .u8 (c:Int))∧w3.cell? ⟨g,1,none⟩=some (.int .u16 (ss:Int))∧w3.cell? ⟨g,2,none⟩=some (.slice none 0 0)∧w3.cell? ⟨g,3,none⟩=some (.int .u16 0)∧w3.cell? ⟨g,4,none⟩=some (.int .u8 0)∧w3.cell? ⟨g,5,none⟩=some (.int .u8 0)∧w3.cell? ⟨g,6,none⟩=some (.slice none 0 0)∧w3.cell? ⟨g,7,none⟩=some (.int .u16 0)∧w3.cell? ⟨g,8,none⟩=some (.int .u32 0)∧w3.cell? ⟨g,9,none⟩=some (.slice none 0 0)∧w3.cell? ⟨g,10,none⟩=some (.slice none 0 0)∧w3.cell? ⟨g,11,none⟩=some (.slice none 0 0)∧w3.cell? ⟨g,12,none⟩=some (.slice none 0 0) from C.out.cf.all)
   go_wp2_with fail
   refine bodyPost_ret (v:=.tuple #[fr0.val fl0,.int .i64 0,.int .i64 3]) ?_ rfl (GetE.mk fl0 rfl fwF0 (put13_below C.out.re.bel (Nat.le_refl _) fr0 fl0))
   exact results_row_tmp2 rfl _ _ _ _ w.heap.size 42 _ _ _ rfl rfl rfl (put13_fx C.out.re.res fr0 fl0) Tryz.underlying42 (by kernel_rfl)
theorem eget_any (b:List Nat) (n cap:Nat) (A:Option Addr) (w:World) (h:Rd w w.heap.size A b) (hb:By b) (hl:b.length=n) (hn:n≤1073741824) (hc:n≤cap) (f:Fr) (m k:Nat) (hg:egetB b=(f,m,k)) :
  Calls Tryz.prog 11 #[.slice A n cap] w (GetE w f m k):=by
 have short:n<6→ebad 2=(f,m,k)→Calls Tryz.prog 11 #[.slice A n cap] w (GetE w f m k):=fun h1 h2=>by
  unfold ebad at h2
  injection h2 with e1 h2
  injection h2 with e2 e3
  subst e1;subst e2;subst e3
  exact egt_short n cap A w h1
 match b,h,hb,hl,hg with
 | [],h,hb,hl,hg=>exact short (by rw [←hl];decide) hg
 | [_],h,hb,hl,hg=>exact short (by rw [←hl];exact (by decide:1<6)) hg
 | [_,_],h,hb,hl,hg=>exact short (by rw [←hl];exact (by decide:2<6)) hg
 | [_,_,_],h,hb,hl,hg=>exact short (by rw [←hl];exact (by decide:3<6)) hg
 | [_,_,_,_],h,hb,hl,hg=>exact short (by rw [←hl];exact (by decide:4<6)) hg
 | [_,_,_,_,_],h,hb,hl,hg=>exact short (by rw [←hl];exact (by decide:5<6)) hg
 | v :: c :: s1 :: s2 :: n1 :: n2 :: t,h,hb,hl,hg =>
  simp only [egetB] at hg
  have hl':t.length+6=n:=hl
  have bad:∀ {j:Nat},ebad j=(f,m,k)→(∀ (f':Fr) (m' k':Nat),f'=fr0→m'=0→k'=j→Calls Tryz.prog 11 #[.slice A n cap] w (GetE w f' m' k'))→Calls Tryz.prog 11 #[.slice A n cap] w (GetE w f m k):=fun e H=>by
   unfold ebad at e
   injection e with e1 e
   injection e with e2 e3
   exact H f m k e1.symm e2.symm e3.symm
  by_cases g1:v=17
  ·rw [if_pos g1] at hg
   by_cases g2:ecode c (s1*256+s2)=0
   ·rw [if_pos g2] at hg
    exact egt_rest v c s1 s2 n1 n2 t n cap A w h hb hl' hn hc g1 g2 f m k hg
   ·rw [if_neg g2] at hg
    refine bad hg fun f' m' k' e1 e2 e3=>?_
    subst e1;subst e2;subst e3
    exact egt_code v c s1 s2 n1 n2 t n cap A w h hb hl' hn hc g1 _ rfl g2
  ·rw [if_neg g1] at hg
   refine bad hg fun f' m' k' e1 e2 e3=>?_
   subst e1;subst e2;subst e3
   exact egt_form v c s1 s2 n1 n2 t n cap A w h hb hl' hn hc g1
end Go.Proofs.YtmhjnghomihjlaaGreat
