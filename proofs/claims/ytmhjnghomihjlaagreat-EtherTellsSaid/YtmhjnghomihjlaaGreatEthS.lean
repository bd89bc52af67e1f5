/-
  What the document's Get of layer 22 answers. No condition beyond: at most 2^30 octets.
-/
import Derived.Test.YtmhjnghomihjlaaGreatEthC
import Derived.Test.YtmhjnghomihjlaaGreatEthR
import Derived.Test.YtmhjnghomihjlaaGreatBodS
import Derived.Test.YtmhjnghomihjlaaGreatGTag
import Derived.Test.YtmhjnghomihjlaaGreatGPkt
import Derived.Deep.CutRange
import Derived.Deep.RegionHeld3
namespace Go.Proofs.YtmhjnghomihjlaaGreat
set_option maxRecDepth 8000
set_option maxHeartbeats 80000000
set_option linter.unusedVariables false
open Go.RowKit
theorem ebad_eq {j:Nat} {f:Fr} {m k:Nat} (h:ebad j=(f,m,k)):fr0=f∧0=m∧j=k:=by
 unfold ebad at h
 injection h with e1 h
 injection h with e2 e3
 exact ⟨e1,e2,e3⟩
theorem nc8 {c:Nat} (h:¬ c=8):¬ c - 6=2:=by omega
theorem yc8 {c:Nat} (h:c=8):c - 6=2:=by omega
theorem z8 {a c:Nat} (h:c=8) (h2:a≤c - 6):a - 2≤0∧(a:Int)≤2∧a - 2=0:=by omega
theorem t6a {l n a:Nat} (h1:l+6=n) (h2:n≤6) (h3:a≤l):a=0:=by omega
theorem t6b {a b:Nat} (h1:6+a=b) (h2:a=0):(b:Int)≤6∧(6:Int)≤(b:Int)∧b - 6=a∧a≤0:=by omega
theorem tw2 {l a n:Nat} (h:l+2+6=n) (h2:n≤1073741824) (h3:a≤l+2):a - 2≤1073741824:=by omega
theorem mulI {x z:Nat} (h:x*256=z):(x:Int)*256=(z:Int):=by omega
theorem addI {x y z:Nat} (h:x+y=z):(x:Int)+(y:Int)=(z:Int):=by omega
theorem t16 {x y z:Nat} (hx:x<256) (hy:y<256) (h:x*256+y=z):z<65536:=by omega
theorem t16m {x z:Nat} (hx:x<256) (h:x*256=z):z<65536:=by omega
theorem two_more {n:Nat} {t:List Nat} (h:n≤t.length) (h2:2≤n):∃ x y tz,t=x :: y :: tz∧t.take n=x :: y :: tz.take (n - 2):=by
 match t,h with
 | [],h=>exact absurd h (by simp only [List.length_nil];omega)
 | [_],h=>exact absurd h (by simp only [List.length_singleton];omega)
 | x :: y :: tz,_ =>
  obtain ⟨z,rfl⟩:∃ z,n=z+2:=⟨n - 2,by omega⟩
  exact ⟨x,y,tz,rfl,rfl⟩
theorem one_less {n:Nat} {t:List Nat} (h2:n<2) {c s:Nat} {f:Fr} {m k:Nat} (hg:eread 0 s n (t.take n)=(f,m,k)):ebad 2=(f,m,k):=by
 have hlt:(t.take n).length<2:=by rw [List.length_take];omega
 revert hg
 generalize t.take n=u at hlt
 unfold eread
 rw [if_pos rfl]
 match u,hlt with
 | [],_=>exact fun h=>h
 | [_],_=>exact fun h=>h
 | _ :: _ :: _,hlt=>exact absurd hlt (by simp only [List.length_cons];omega)
theorem erget_short (n c:Nat) (A:Option Addr) (w:World) (hn:n<6) :
  Calls Tryz.prog 12 #[.slice A n c] w (GetE w fr0 0 2):=by
 have C:=hI (ReF.made 31 w)
 have j1:(n:Int)<6:=by omega
 clear hn
 go_enter Tryz.func12,Tryz.ntmps12
 go_upto_region 1 with fail
 with_reducible refine at_worldP (fun W=>Hid (ReF 31 w W)) C ?_
 clear C
 rintro w1 C
 obtain ⟨y0,y1,y2,y3,y4,y5,y6,y7,y8,y9,y10,y11,y12⟩:=C.out.res.all
 obtain ⟨z0,z1,z2,z3,z4,z5,z6,z7,z8,z9,z10,z11,z12⟩:=C.out.res.free
 go_wp2_with fail
 refine bodyPost_ret (v:=.tuple #[fr0.val fl0,.int .i64 0,.int .i64 2]) ?_ rfl (GetE.mk fl0 rfl fwF0 (put13_below C.out.bel (Nat.le_refl _) fr0 fl0))
 exact results_row_tmp2 rfl _ _ _ _ w.heap.size 31 _ _ _ rfl rfl rfl (put13_fx C.out.res fr0 fl0) Tryz.underlying31 (by kernel_rfl)
theorem erget_form (v c s1 s2 n1 n2:Nat) (t:List Nat) (n cap:Nat) (A:Option Addr) (w:World) (h:Rd w w.heap.size A (v :: c :: s1 :: s2 :: n1 :: n2 :: t)) (hb:By (v :: c :: s1 :: s2 :: n1 :: n2 :: t)) (hl:t.length+6=n) (hn:n≤1073741824) (hc:n≤cap) (hv:¬ v=17) :
  Calls Tryz.prog 12 #[.slice A n cap] w (GetE w fr0 0 4):=by
 have C:=hI (ReF.made 31 w)
 obtain ⟨bb,oo,u0,rfl,hbb,hu0,k0⟩:=h.at_ (k:=0) (by simp)
 obtain ⟨bb1,oo1,u1,e1,-,hu1,k1⟩:=h.at_ (k:=1) (by simp)
 injection e1 with e1
 injection e1 with e1 e1'
 subst e1;subst e1'
 obtain ⟨bb1,oo1,u2,e1,-,hu2,k2⟩:=h.at_ (k:=2) (by simp)
 injection e1 with e1
 injection e1 with e1 e1'
 subst e1;subst e1'
 obtain ⟨bb1,oo1,u3,e1,-,hu3,k3⟩:=h.at_ (k:=3) (by simp)
 injection e1 with e1
 injection e1 with e1 e1'
 subst e1;subst e1'
 obtain ⟨bb1,oo1,u4,e1,-,hu4,k4⟩:=h.at_ (k:=4) (by simp)
 injection e1 with e1
 injection e1 with e1 e1'
 subst e1;subst e1'
 obtain ⟨bb1,oo1,u5,e1,-,hu5,k5⟩:=h.at_ (k:=5) (by simp)
 injection e1 with e1
 injection e1 with e1 e1'
 subst e1;subst e1'
 obtain rfl:v=u0:=by simpa using hu0
 obtain rfl:c=u1:=by simpa using hu1
 obtain rfl:s1=u2:=by simpa using hu2
 obtain rfl:s2=u3:=by simpa using hu3
 obtain rfl:n1=u4:=by simpa using hu4
 obtain rfl:n2=u5:=by simpa using hu5
 rw [Nat.add_zero] at k0
 clear hu0 hu1 hu2 hu3 hu4 hu5
 have bv:v<256:=hb v (by simp)
 have bc:c<256:=hb c (by simp)
 have bs1:s1<256:=hb s1 (by simp)
 have bs2:s2<256:=hb s2 (by simp)
 have bn1:n1<256:=hb n1 (by simp)
 have bn2:n2<256:=hb n2 (by simp)
 have CB:=hI (fun W (hW:Below w.heap.size w W)=>⟨(hW.cell (p:=⟨bb,oo,none⟩) hbb).trans k0,(hW.cell (p:=⟨bb,oo+1,none⟩) hbb).trans k1,(hW.cell (p:=⟨bb,oo+2,none⟩) hbb).trans k2,(hW.cell (p:=⟨bb,oo+3,none⟩) hbb).trans k3,(hW.cell (p:=⟨bb,oo+4,none⟩) hbb).trans k4,(hW.cell (p:=⟨bb,oo+5,none⟩) hbb).trans k5⟩:∀ W,Below w.heap.size w W→W.cell? ⟨bb,oo,none⟩=some (.int .u8 (v:Int))∧W.cell? ⟨bb,oo+1,none⟩=some (.int .u8 (c:Int))∧W.cell? ⟨bb,oo+2,none⟩=some (.int .u8 (s1:Int))∧W.cell? ⟨bb,oo+3,none⟩=some (.int .u8 (s2:Int))∧W.cell? ⟨bb,oo+4,none⟩=some (.int .u8 (n1:Int))∧W.cell? ⟨bb,oo+5,none⟩=some (.int .u8 (n2:Int)))
 have i1:¬ (n:Int)<6:=by omega
 have q0:0<n:=by omega
 have q1:(1:Int)<(n:Int):=by omega
 have q2:(2:Int)<(n:Int):=by omega
 have q3:(3:Int)<(n:Int):=by omega
 have q4:(4:Int)<(n:Int):=by omega
 have q5:(5:Int)<(n:Int):=by omega
 have j1:((v:Int) != 17)=true:=by rw [bne_iff_ne];omega
 clear h hb hl hn hc hbb hv k0 k1 k2 k3 k4 k5
 go_enter Tryz.func12,Tryz.ntmps12
 go_upto_region 1 with fail
 with_reducible refine at_worldP (fun W=>Hid (ReF 31 w W)) C ?_
 clear C
 rintro w1 C
 obtain ⟨y0,y1,y2,y3,y4,y5,y6,y7,y8,y9,y10,y11,y12⟩:=C.out.res.all
 obtain ⟨z0,z1,z2,z3,z4,z5,z6,z7,z8,z9,z10,z11,z12⟩:=C.out.res.free
 obtain ⟨d0,d1,d2,d3,d4,d5⟩:=CB.out _ C.out.bel
 go_wp2_with fail
 refine bodyPost_ret (v:=.tuple #[fr0.val fl0,.int .i64 0,.int .i64 4]) ?_ rfl (GetE.mk fl0 rfl fwF0 (put13_below C.out.bel (Nat.le_refl _) fr0 fl0))
 exact results_row_tmp2 rfl _ _ _ _ w.heap.size 31 _ _ _ rfl rfl rfl (put13_fx C.out.res fr0 fl0) Tryz.underlying31 (by kernel_rfl)
theorem erget_code (v c s1 s2 n1 n2:Nat) (t:List Nat) (n cap:Nat) (A:Option Addr) (w:World) (h:Rd w w.heap.size A (v :: c :: s1 :: s2 :: n1 :: n2 :: t)) (hb:By (v :: c :: s1 :: s2 :: n1 :: n2 :: t)) (hl:t.length+6=n) (hn:n≤1073741824) (hc:n≤cap) (hv:v=17) (k:Nat) (hk:ecode c (s1*256+s2)=k) (hk0:¬ k=0) :
  Calls Tryz.prog 12 #[.slice A n cap] w (GetE w fr0 0 k):=by
 have C:=hI (ReF.made 31 w)
 obtain ⟨bb,oo,u0,rfl,hbb,hu0,k0⟩:=h.at_ (k:=0) (by simp)
 obtain ⟨bb1,oo1,u1,e1,-,hu1,k1⟩:=h.at_ (k:=1) (by simp)
 injection e1 with e1
 injection e1 with e1 e1'
 subst e1;subst e1'
 obtain ⟨bb1,oo1,u2,e1,-,hu2,k2⟩:=h.at_ (k:=2) (by simp)
 injection e1 with e1
 injection e1 with e1 e1'
 subst e1;subst e1'
 obtain ⟨bb1,oo1,u3,e1,-,hu3,k3⟩:=h.at_ (k:=3) (by simp)
 injection e1 with e1
 injection e1 with e1 e1'
 subst e1;subst e1'
 obtain ⟨bb1,oo1,u4,e1,-,hu4,k4⟩:=h.at_ (k:=4) (by simp)
 injection e1 with e1
 injection e1 with e1 e1'
 subst e1;subst e1'
 obtain ⟨bb1,oo1,u5,e1,-,hu5,k5⟩:=h.at_ (k:=5) (by simp)
 injection e1 with e1
 injection e1 with e1 e1'
 subst e1;subst e1'
 obtain rfl:v=u0:=by simpa using hu0
 obtain rfl:c=u1:=by simpa using hu1
 obtain rfl:s1=u2:=by simpa using hu2
 obtain rfl:s2=u3:=by simpa using hu3
 obtain rfl:n1=u4:=by simpa using hu4
 obtain rfl:n2=u5:=by simpa using hu5
 rw [Nat.add_zero] at k0
 clear hu0 hu1 hu2 hu3 hu4 hu5
 have bv:v<256:=hb v (by simp)
 have bc:c<256:=hb c (by simp)
 have bs1:s1<256:=hb s1 (by simp)
 have bs2:s2<256:=hb s2 (by simp)
 have bn1:n1<256:=hb n1 (by simp)
 have bn2:n2<256:=hb n2 (by simp)
 have CB:=hI (fun W (hW:Below w.heap.size w W)=>⟨(hW.cell (p:=⟨bb,oo,none⟩) hbb).trans k0,(hW.cell (p:=⟨bb,oo+1,none⟩) hbb).trans k1,(hW.cell (p:=⟨bb,oo+2,none⟩) hbb).trans k2,(hW.cell (p:=⟨bb,oo+3,none⟩) hbb).trans k3,(hW.cell (p:=⟨bb,oo+4,none⟩) hbb).trans k4,(hW.cell (p:=⟨bb,oo+5,none⟩) hbb).trans k5⟩:∀ W,Below w.heap.size w W→W.cell? ⟨bb,oo,none⟩=some (.int .u8 (v:Int))∧W.cell? ⟨bb,oo+1,none⟩=some (.int .u8 (c:Int))∧W.cell? ⟨bb,oo+2,none⟩=some (.int .u8 (s1:Int))∧W.cell? ⟨bb,oo+3,none⟩=some (.int .u8 (s2:Int))∧W.cell? ⟨bb,oo+4,none⟩=some (.int .u8 (n1:Int))∧W.cell? ⟨bb,oo+5,none⟩=some (.int .u8 (n2:Int)))
 have i1:¬ (n:Int)<6:=by omega
 have q0:0<n:=by omega
 have q1:(1:Int)<(n:Int):=by omega
 have q2:(2:Int)<(n:Int):=by omega
 have q3:(3:Int)<(n:Int):=by omega
 have q4:(4:Int)<(n:Int):=by omega
 have q5:(5:Int)<(n:Int):=by omega
 have j1:((v:Int) != 17)=false:=by rw [hv];rfl
 have j2:=z0t k hk0
 obtain ⟨sx,hsx⟩:∃ z,s1*256=z:=⟨_,rfl⟩
 obtain ⟨ss,hss⟩:∃ z,Hid (s1*256+s2=z):=⟨_,hI rfl⟩
 have hss2:sx+s2=ss:=by rw [←hsx];exact hss.out
 have ss6:ss<65536:=by have:=hss.out;omega
 have r1:(s1:Int)*256=(sx:Int):=by omega
 have r2:IntKind.u16.wrap (sx:Int)=(sx:Int):=by apply IntWalk.u16_in;omega
 have r3:(sx:Int)+(s2:Int)=(ss:Int):=by omega
 have r4:IntKind.u16.wrap (ss:Int)=(ss:Int):=by apply IntWalk.u16_in;omega
 have r5:=tw64 c (Nat.lt_trans bc (by decide))
 have r6:=tw64 ss ss6
 have r7:=ti64 c (Nat.lt_trans bc (by decide))
 have r8:=ti64 ss ss6
 have r9:IntKind.u16.wrap (s1:Int)=(s1:Int):=wr16 bs1
 have r10:IntKind.u16.wrap (s2:Int)=(s2:Int):=wr16 bs2
 have EC:=hI (show ecode c ss=k by rw [←hss.out];exact hk)
 clear h hb hl hn hc hbb hv k0 k1 k2 k3 k4 k5 hk hk0 hsx hss2
 go_enter Tryz.func12,Tryz.ntmps12
 go_upto_region 1 with fail
 with_reducible refine at_worldP (fun W=>Hid (ReF 31 w W)) C ?_
 clear C
 rintro w1 C
 obtain ⟨y0,y1,y2,y3,y4,y5,y6,y7,y8,y9,y10,y11,y12⟩:=C.out.res.all
 obtain ⟨z0,z1,z2,z3,z4,z5,z6,z7,z8,z9,z10,z11,z12⟩:=C.out.res.free
 obtain ⟨d0,d1,d2,d3,d4,d5⟩:=CB.out _ C.out.bel
 go_wp2_with fail
 go_region_held3 (fun W=>W.cell? ⟨bb,oo+1,none⟩=some (.int .u8 (c:Int))∧W.cell? ⟨bb,oo+2,none⟩=some (.int .u8 (s1:Int))∧W.cell? ⟨bb,oo+3,none⟩=some (.int .u8 (s2:Int))) (first | (with_reducible exact ⟨d1,d2,d3⟩) | exact ⟨(CB.out _ (by first | exact C.out.bel | exact C.out.bel.drew | exact C.out.bel.alloc C.out.bel.size _ | exact (C.out.bel.drew.alloc C.out.bel.size _))).2.1,(CB.out _ (by first | exact C.out.bel | exact C.out.bel.drew | exact C.out.bel.alloc C.out.bel.size _ | exact (C.out.bel.drew.alloc C.out.bel.size _))).2.2.1,(CB.out _ (by first | exact C.out.bel | exact C.out.bel.drew | exact C.out.bel.alloc C.out.bel.size _ | exact (C.out.bel.drew.alloc C.out.bel.size _))).2.2.2.1⟩) (fail)
 obtain ⟨g,hg⟩:∃ g,Hid (w1.heap.size=g):=⟨_,hI rfl⟩
 have D:=hI ((GfE.new C.out ⟨c,ss,[],pk0⟩ fl0 g hg.out).step (W':=(w1.alloc (Fr.obj ⟨c,ss,[],pk0⟩ fl0 31)).drew) (Below.refl _ _).drew)
 refine at_worldP (W:=(w1.alloc (Fr.obj ⟨c,ss,[],pk0⟩ fl0 31)).drew) (fun W=>Hid (GfE 31 w W g ⟨c,ss,[],pk0⟩ fl0)) D ?_
 clear C D y0 y1 y2 y3 y4 y5 y6 y7 y8 y9 y10 y11 y12 z0 z1 z2 z3 z4 z5 z6 z7 z8 z9 z10 z11 z12 d0 d1 d2 d3 d4 d5
 rintro w2 C
 rw [hg.out]
 obtain ⟨y0,y1,y2,y3,y4,y5,y6,y7,y8,y9,y10,y11,y12⟩:=C.out.re.res.all
 obtain ⟨z0,z1,z2,z3,z4,z5,z6,z7,z8,z9,z10,z11,z12⟩:=C.out.re.res.free
 obtain ⟨x0,x1,x2,x3,x4,x5,x6,x7,x8,x9,x10,x11,x12⟩:=(show w2.cell? ⟨g,0,none⟩=some (.int .u8 (c:Int))∧w2.cell? ⟨g,1,none⟩=some (.int .u16 (ss:Int))∧w2.cell? ⟨g,2,none⟩=some (.slice none 0 0)∧w2.cell? ⟨g,3,none⟩=some (.int .u16 0)∧w2.cell? ⟨g,4,none⟩=some (.int .u8 0)∧w2.cell? ⟨g,5,none⟩=some (.int .u8 0)∧w2.cell? ⟨g,6,none⟩=some (.slice none 0 0)∧w2.cell? ⟨g,7,none⟩=some (.int .u16 0)∧w2.cell? ⟨g,8,none⟩=some (.int .u32 0)∧w2.cell? ⟨g,9,none⟩=some (.slice none 0 0)∧w2.cell? ⟨g,10,none⟩=some (.slice none 0 0)∧w2.cell? ⟨g,11,none⟩=some (.slice none 0 0)∧w2.cell? ⟨g,12,none⟩=some (.slice none 0 0) from C.out.cf.all)
 obtain ⟨d0,d1,d2,d3,d4,d5⟩:=CB.out _ C.out.re.bel
 go_wp2_with (first
  | (go_at_call 26;(with_reducible refine (eright_any c ss _ EC.out _).mono ?_);rintro e wn ⟨rfl,hwn⟩;subst hwn))
 refine bodyPost_ret (v:=.tuple #[fr0.val fl0,.int .i64 0,.int .i64 (k:Int)]) ?_ rfl (GetE.mk fl0 rfl fwF0 (put13_below C.out.re.bel (Nat.le_refl _) fr0 fl0))
 exact results_row_tmp2 rfl _ _ _ _ w.heap.size 31 _ _ _ rfl rfl rfl (put13_fx C.out.re.res fr0 fl0) Tryz.underlying31 (by kernel_rfl)
theorem tgjget_v (F:Nat→Prop) (b:List Nat) (l:List (Nat × List Nat)) (q k:Nat) (hg:tgget b=(l,q,k)) (m:Nat) (hm:l.length=m) (n c:Nat) (A:Option Addr) (w:World) (hF:∀ i,w.heap.size≤i→F i) (h:RdF F w A b) (hb:By b) (hl:b.length=n) (hn:n≤1073741824) (hc:n≤c) :
  Calls Tryz.prog 33 #[.slice A n c] w fun e w'=>∃ A' c',e=.returned (.tuple #[.slice A' m c',.int .i64 (q:Int),.int .i64 (k:Int)])∧m≤c'∧Rws shG F w' A' l∧Below w.heap.size w w' :=
 (tgjget_any F b n c A w hF h hb hl hn hc).mono fun _ _ ⟨v,h1,h2,h3⟩=>by
  rw [hg] at h1 h2
  obtain ⟨A',c',rfl,hc2,_,hr⟩:=h2.slice
  rw [hm] at h1 hc2
  exact ⟨A',c',h1,hc2,hr.mono (fun i _ hi=>hi.elim id (hF i)),h3⟩
theorem erget_rest (v c s1 s2 n1 n2:Nat) (t:List Nat) (n cap:Nat) (A:Option Addr) (w:World) (h:Rd w w.heap.size A (v :: c :: s1 :: s2 :: n1 :: n2 :: t)) (hb:By (v :: c :: s1 :: s2 :: n1 :: n2 :: t)) (hl:t.length+6=n) (hn:n≤1073741824) (hc:n≤cap) (hv:v=17) (hk:ecode c (s1*256+s2)=0) (f:Fr) (m k:Nat) (hg:(if n1*256+n2≤1494 then if n1*256+n2≤t.length then eread c (s1*256+s2) (n1*256+n2) (t.take (n1*256+n2)) else ebad 2 else ebad 3)=(f,m,k)) :
  Calls Tryz.prog 12 #[.slice A n cap] w (GetE w f m k):=by
 have C:=hI (ReF.made 31 w)
 obtain ⟨bb,oo,u0,rfl,hbb,hu0,k0⟩:=h.at_ (k:=0) (by simp)
 obtain ⟨bb1,oo1,u1,e1,-,hu1,k1⟩:=h.at_ (k:=1) (by simp)
 injection e1 with e1
 injection e1 with e1 e1'
 subst e1;subst e1'
 obtain ⟨bb1,oo1,u2,e1,-,hu2,k2⟩:=h.at_ (k:=2) (by simp)
 injection e1 with e1
 injection e1 with e1 e1'
 subst e1;subst e1'
 obtain ⟨bb1,oo1,u3,e1,-,hu3,k3⟩:=h.at_ (k:=3) (by simp)
 injection e1 with e1
 injection e1 with e1 e1'
 subst e1;subst e1'
 obtain ⟨bb1,oo1,u4,e1,-,hu4,k4⟩:=h.at_ (k:=4) (by simp)
 injection e1 with e1
 injection e1 with e1 e1'
 subst e1;subst e1'
 obtain ⟨bb1,oo1,u5,e1,-,hu5,k5⟩:=h.at_ (k:=5) (by simp)
 injection e1 with e1
 injection e1 with e1 e1'
 subst e1;subst e1'
 obtain rfl:v=u0:=by simpa using hu0
 obtain rfl:c=u1:=by simpa using hu1
 obtain rfl:s1=u2:=by simpa using hu2
 obtain rfl:s2=u3:=by simpa using hu3
 obtain rfl:n1=u4:=by simpa using hu4
 obtain rfl:n2=u5:=by simpa using hu5
 rw [Nat.add_zero] at k0
 clear hu0 hu1 hu2 hu3 hu4 hu5
 have bv:v<256:=hb v (by simp)
 have bc:c<256:=hb c (by simp)
 have bs1:s1<256:=hb s1 (by simp)
 have bs2:s2<256:=hb s2 (by simp)
 have bn1:n1<256:=hb n1 (by simp)
 have bn2:n2<256:=hb n2 (by simp)
 have CB:=hI (fun W (hW:Below w.heap.size w W)=>⟨(hW.cell (p:=⟨bb,oo,none⟩) hbb).trans k0,(hW.cell (p:=⟨bb,oo+1,none⟩) hbb).trans k1,(hW.cell (p:=⟨bb,oo+2,none⟩) hbb).trans k2,(hW.cell (p:=⟨bb,oo+3,none⟩) hbb).trans k3,(hW.cell (p:=⟨bb,oo+4,none⟩) hbb).trans k4,(hW.cell (p:=⟨bb,oo+5,none⟩) hbb).trans k5⟩:∀ W,Below w.heap.size w W→W.cell? ⟨bb,oo,none⟩=some (.int .u8 (v:Int))∧W.cell? ⟨bb,oo+1,none⟩=some (.int .u8 (c:Int))∧W.cell? ⟨bb,oo+2,none⟩=some (.int .u8 (s1:Int))∧W.cell? ⟨bb,oo+3,none⟩=some (.int .u8 (s2:Int))∧W.cell? ⟨bb,oo+4,none⟩=some (.int .u8 (n1:Int))∧W.cell? ⟨bb,oo+5,none⟩=some (.int .u8 (n2:Int)))
 have i1:¬ (n:Int)<6:=by omega
 have q0:0<n:=by omega
 have q1:(1:Int)<(n:Int):=by omega
 have q2:(2:Int)<(n:Int):=by omega
 have q3:(3:Int)<(n:Int):=by omega
 have q4:(4:Int)<(n:Int):=by omega
 have q5:(5:Int)<(n:Int):=by omega
 have j1:((v:Int) != 17)=false:=by rw [hv];rfl
 obtain ⟨sx,hsx⟩:∃ z,s1*256=z:=⟨_,rfl⟩
 obtain ⟨ss,hss⟩:∃ z,Hid (s1*256+s2=z):=⟨_,hI rfl⟩
 have hss2:sx+s2=ss:=by rw [←hsx];exact hss.out
 have ss6:ss<65536:=by have:=hss.out;omega
 have r1:(s1:Int)*256=(sx:Int):=by omega
 have r2:IntKind.u16.wrap (sx:Int)=(sx:Int):=by apply IntWalk.u16_in;omega
 have r3:(sx:Int)+(s2:Int)=(ss:Int):=by omega
 have r4:IntKind.u16.wrap (ss:Int)=(ss:Int):=by apply IntWalk.u16_in;omega
 have r5:=tw64 c (Nat.lt_trans bc (by decide))
 have r6:=tw64 ss ss6
 have r7:=ti64 c (Nat.lt_trans bc (by decide))
 have r8:=ti64 ss ss6
 have r9:IntKind.u16.wrap (s1:Int)=(s1:Int):=wr16 bs1
 have r10:IntKind.u16.wrap (s2:Int)=(s2:Int):=wr16 bs2
 obtain ⟨nx,hnx⟩:∃ z,n1*256=z:=⟨_,rfl⟩
 obtain ⟨nn,hnn⟩:∃ z,Hid (n1*256+n2=z):=⟨_,hI rfl⟩
 have hnn2:nx+n2=nn:=by rw [←hnx];exact hnn.out
 have nn6:nn<65536:=by have:=hnn.out;omega
 have t1:(n1:Int)*256=(nx:Int):=by omega
 have t2:IntKind.i64.wrap (nx:Int)=(nx:Int):=IntWalk.i64_in _ (by omega)
 have t3:(nx:Int)+(n2:Int)=(nn:Int):=by omega
 have t4:=ti64 nn nn6
 have t5:=tw64 n1 (Nat.lt_trans bn1 (by decide))
 have t6:=tw64 n2 (Nat.lt_trans bn2 (by decide))
 have t7:=ti64 n1 (Nat.lt_trans bn1 (by decide))
 have t8:=ti64 n2 (Nat.lt_trans bn2 (by decide))
 have EC:=hI (show ecode c ss=0 by rw [←hss.out];exact hk)
 rw [hss.out,hnn.out] at hg
 have HGM:=hI hg
 have HR0:=hI h
 have HB0:=hI hb
 have HL0:=hI hl
 have HN0:=hI hn
 have HC0:=hI hc
 have HBB:=hI hbb
 clear h hb hl hn hc hbb hv k0 k1 k2 k3 k4 k5 hk hsx hss2 hnx hnn2 hg
 go_enter Tryz.func12,Tryz.ntmps12
 go_upto_region 1 with fail
 with_reducible refine at_worldP (fun W=>Hid (ReF 31 w W)) C ?_
 clear C
 rintro w1 C
 obtain ⟨y0,y1,y2,y3,y4,y5,y6,y7,y8,y9,y10,y11,y12⟩:=C.out.res.all
 obtain ⟨z0,z1,z2,z3,z4,z5,z6,z7,z8,z9,z10,z11,z12⟩:=C.out.res.free
 obtain ⟨d0,d1,d2,d3,d4,d5⟩:=CB.out _ C.out.bel
 go_wp2_with fail
 go_region_held3 (fun W=>W.cell? ⟨bb,oo+1,none⟩=some (.int .u8 (c:Int))∧W.cell? ⟨bb,oo+2,none⟩=some (.int .u8 (s1:Int))∧W.cell? ⟨bb,oo+3,none⟩=some (.int .u8 (s2:Int))) (first | (with_reducible exact ⟨d1,d2,d3⟩) | exact ⟨(CB.out _ (by first | exact C.out.bel | exact C.out.bel.drew | exact C.out.bel.alloc C.out.bel.size _ | exact (C.out.bel.drew.alloc C.out.bel.size _))).2.1,(CB.out _ (by first | exact C.out.bel | exact C.out.bel.drew | exact C.out.bel.alloc C.out.bel.size _ | exact (C.out.bel.drew.alloc C.out.bel.size _))).2.2.1,(CB.out _ (by first | exact C.out.bel | exact C.out.bel.drew | exact C.out.bel.alloc C.out.bel.size _ | exact (C.out.bel.drew.alloc C.out.bel.size _))).2.2.2.1⟩) (fail)
 obtain ⟨g,hg⟩:∃ g,Hid (w1.heap.size=g):=⟨_,hI rfl⟩
 have D:=hI ((GfE.new C.out ⟨c,ss,[],pk0⟩ fl0 g hg.out).step (W':=(w1.alloc (Fr.obj ⟨c,ss,[],pk0⟩ fl0 31)).drew) (Below.refl _ _).drew)
 refine at_worldP (W:=(w1.alloc (Fr.obj ⟨c,ss,[],pk0⟩ fl0 31)).drew) (fun W=>Hid (GfE 31 w W g ⟨c,ss,[],pk0⟩ fl0)) D ?_
 clear C D y0 y1 y2 y3 y4 y5 y6 y7 y8 y9 y10 y11 y12 z0 z1 z2 z3 z4 z5 z6 z7 z8 z9 z10 z11 z12 d0 d1 d2 d3 d4 d5
 rintro w2 C
 rw [hg.out]
 obtain ⟨y0,y1,y2,y3,y4,y5,y6,y7,y8,y9,y10,y11,y12⟩:=C.out.re.res.all
 obtain ⟨z0,z1,z2,z3,z4,z5,z6,z7,z8,z9,z10,z11,z12⟩:=C.out.re.res.free
 obtain ⟨x0,x1,x2,x3,x4,x5,x6,x7,x8,x9,x10,x11,x12⟩:=(show w2.cell? ⟨g,0,none⟩=some (.int .u8 (c:Int))∧w2.cell? ⟨g,1,none⟩=some (.int .u16 (ss:Int))∧w2.cell? ⟨g,2,none⟩=some (.slice none 0 0)∧w2.cell? ⟨g,3,none⟩=some (.int .u16 0)∧w2.cell? ⟨g,4,none⟩=some (.int .u8 0)∧w2.cell? ⟨g,5,none⟩=some (.int .u8 0)∧w2.cell? ⟨g,6,none⟩=some (.slice none 0 0)∧w2.cell? ⟨g,7,none⟩=some (.int .u16 0)∧w2.cell? ⟨g,8,none⟩=some (.int .u32 0)∧w2.cell? ⟨g,9,none⟩=some (.slice none 0 0)∧w2.cell? ⟨g,10,none⟩=some (.slice none 0 0)∧w2.cell? ⟨g,11,none⟩=some (.slice none 0 0)∧w2.cell? ⟨g,12,none⟩=some (.slice none 0 0) from C.out.cf.all)
 obtain ⟨d0,d1,d2,d3,d4,d5⟩:=CB.out _ C.out.re.bel
 go_wp2_with (first
  | (go_at_call 26;(with_reducible refine (eright_any c ss _ EC.out _).mono ?_);rintro e wn ⟨rfl,hwn⟩;subst hwn))
 go_quiet (fail)
 all_goals
  refine at_worldP (fun W=>Hid (GfE 31 w W g ⟨c,ss,[],pk0⟩ fl0)) (hI (C.out.step (below_drewN (Below.refl _ _) _))) ?_
  clear C y0 y1 y2 y3 y4 y5 y6 y7 y8 y9 y10 y11 y12 z0 z1 z2 z3 z4 z5 z6 z7 z8 z9 z10 z11 z12 x0 x1 x2 x3 x4 x5 x6 x7 x8 x9 x10 x11 x12 d0 d1 d2 d3 d4 d5
  clear q0 q1 q2 q3 q4 q5 i1 t1 t2 t3 t5 t6 t7 t8 r1 r2 r3 r5 r6 r7 r8
  rintro w3 C
  have hg:=HGM.out
  by_cases g3:nn≤1494
  ·rw [if_pos g3] at hg
   have j3:=le94 g3
   obtain ⟨n6,hn6⟩:∃ z,6+nn=z:=⟨_,rfl⟩
   have j4:=ad6 hn6
   have j5:=ti64c hn6 nn6
   by_cases g4:nn≤t.length
   ·rw [if_pos g4] at hg
    have j6:=ge6 HL0.out hn6 g4
    by_cases hc0:c=0
    ·have j7:((c:Int) == 0)=true:=by rw [hc0];rfl
     by_cases g6:2≤nn
     ·obtain ⟨x,y,tz,ht,ht2⟩:=two_more g4 g6
      subst ht
      have h:=HR0.out
      have hb:=HB0.out
      obtain ⟨bb1,oo1,u6,e1,-,hu6,k6⟩:=h.at_ (k:=6) (by simp)
      injection e1 with e1
      injection e1 with e1 e1'
      subst e1;subst e1'
      obtain ⟨bb1,oo1,u7,e1,-,hu7,k7⟩:=h.at_ (k:=7) (by simp)
      injection e1 with e1
      injection e1 with e1 e1'
      subst e1;subst e1'
      obtain rfl:x=u6:=by simpa using hu6
      obtain rfl:y=u7:=by simpa using hu7
      have bx:x<256:=hb x (by simp)
      have by':y<256:=hb y (by simp)
      have CB6:=hI (fun W (hW:Below w.heap.size w W)=>⟨(hW.cell (p:=⟨bb,oo+6,none⟩) HBB.out).trans k6,(hW.cell (p:=⟨bb,oo+7,none⟩) HBB.out).trans k7⟩:∀ W,Below w.heap.size w W→W.cell? ⟨bb,oo+6,none⟩=some (.int .u8 (x:Int))∧W.cell? ⟨bb,oo+7,none⟩=some (.int .u8 (y:Int)))
      clear hu6 hu7 k6 k7 h hb
      obtain ⟨tx,htx⟩:∃ z,x*256=z:=⟨_,rfl⟩
      obtain ⟨tt,htt⟩:∃ z,Hid (x*256+y=z):=⟨_,hI rfl⟩
      have htt2:tx+y=tt:=by rw [←htx];exact htt.out
      have tt6:=t16 bx by' htt.out
      have a1:=mulI htx
      have a2:=ti64 tx (t16m bx htx)
      have a3:=addI htt2
      have a4:=ti64 tt tt6
      have a5:=tw64 x (Nat.lt_trans bx (by decide))
      have a6:=tw64 y (Nat.lt_trans by' (by decide))
      have a7:=ti64 x (Nat.lt_trans bx (by decide))
      have a8:=ti64 y (Nat.lt_trans by' (by decide))
      have TT6:=hI tt6
      have j8:=ge2 g6
      have j13:=gi0 g6
      have j14:=gi1 g6
      have j15:=gi2 g6
      rw [ht2] at hg
      unfold eread at hg
      rw [if_pos hc0] at hg
      dsimp only at hg
      rw [htt.out,hn6] at hg
      obtain ⟨yy,kt,hgt⟩:∃ yy kt,bgetB tt (tz.take (nn - 2))=(yy,kt):=⟨_,_,rfl⟩
      rw [hgt] at hg
      dsimp only at hg
      have HGT:=hI hgt
      have HGG:=hI hg
      clear hg hgt htx htt2 tt6 ht2 hc0
      by_cases hcap:cap=8
      ·have h:=HR0.out
       have hb:=HB0.out
       have hl:=HL0.out
       have hn:=HN0.out
       have hc:=HC0.out
       rw [show (x :: y :: tz).length=tz.length+2 from rfl] at hl
       have g4':nn≤tz.length+2:=g4
       obtain ⟨j9,j10,j11,hcc⟩:=sl6 hl hn6 g4' hc
       obtain ⟨j12,hc8,hl8,hcn⟩:=sl8 hl g4' hc g6
       have hcc2:=yc8 hcap
       obtain ⟨hc80,j12b,hz8⟩:=z8 hcap hcn
       have BP:=hI (show By (tz.take (nn - 2)) from (fun x hx=>hb x (by simp [List.mem_of_mem_take hx])))
       have LP:=hI (show (tz.take (nn - 2)).length=nn - 2 by rw [List.length_take];exact Nat.min_eq_left hl8)
       have RQ:=hI (show RdF (fun i=>i<w.heap.size) w (some ⟨bb,oo+6,none⟩) (tz.take (nn - 2)) by
        rw [hz8,List.take_zero]
        exact RdF.nil)
       have NN5:=hI (tw2 hl hn g4')
       have HC8:=hI hc80
       clear h hb hl hn hc hcc hc8 hl8 hcn g4' hcap g3 g4 g6 hn6 hc80 hz8
       obtain ⟨y0,y1,y2,y3,y4,y5,y6,y7,y8,y9,y10,y11,y12⟩:=C.out.re.res.all
       obtain ⟨z0,z1,z2,z3,z4,z5,z6,z7,z8,z9,z10,z11,z12⟩:=C.out.re.res.free
       obtain ⟨x0,x1,x2,x3,x4,x5,x6,x7,x8,x9,x10,x11,x12⟩:=(show w3.cell? ⟨g,0,none⟩=some (.int .u8 (c:Int))∧w3.cell? ⟨g,1,none⟩=some (.int .u16 (ss:Int))∧w3.cell? ⟨g,2,none⟩=some (.slice none 0 0)∧w3.cell? ⟨g,3,none⟩=some (.int .u16 0)∧w3.cell? ⟨g,4,none⟩=some (.int .u8 0)∧w3.cell? ⟨g,5,none⟩=some (.int .u8 0)∧w3.cell? ⟨g,6,none⟩=some (.slice none 0 0)∧w3.cell? ⟨g,7,none⟩=some (.int .u16 0)∧w3.cell? ⟨g,8,none⟩=some (.int .u32 0)∧w3.cell? ⟨g,9,none⟩=some (.slice none 0 0)∧w3.cell? ⟨g,10,none⟩=some (.slice none 0 0)∧w3.cell? ⟨g,11,none⟩=some (.slice none 0 0)∧w3.cell? ⟨g,12,none⟩=some (.slice none 0 0) from C.out.cf.all)
       obtain ⟨d0,d1,d2,d3,d4,d5⟩:=CB.out _ C.out.re.bel
       obtain ⟨G,hG⟩:∃ G,Hid (G=fun i=>i≠w.heap.size∧i≠g):=⟨_,hI rfl⟩
       obtain ⟨Gq,hGq⟩:∃ Gq,Hid (Gq=fun i=>G i∧i≠w3.heap.size):=⟨_,hI rfl⟩
       have GW:=hI (show ∀ i,w3.heap.size≤i→G i by
        rw [hG.out]
        exact fun i hi=>⟨Nat.ne_of_gt (Nat.lt_of_lt_of_le C.out.re.res.lt hi),Nat.ne_of_gt (Nat.lt_of_lt_of_le C.out.cf.lt hi)⟩)
       have RP:=hI (show ∀ W,Below w3.heap.size w3 W→RdF G W (some ⟨bb,oo+6,none⟩) (tz.take (nn - 2)) by
        rw [hG.out]
        exact fun W hW=>(RQ.out.keep (.of_below (C.out.re.bel.trans (hW.mono C.out.re.bel.size)))).mono (fun i _ hi=>⟨Nat.ne_of_lt hi,Nat.ne_of_lt (Nat.lt_trans hi C.out.lt)⟩))
       have RPq:=hI (show ∀ W,Below w3.heap.size w3 W→RdF Gq W (some ⟨bb,oo+6,none⟩) (tz.take (nn - 2)) by
        rw [hGq.out,hG.out]
        exact fun W hW=>(RQ.out.keep (.of_below (C.out.re.bel.trans (hW.mono C.out.re.bel.size)))).mono (fun i _ hi=>⟨⟨Nat.ne_of_lt hi,Nat.ne_of_lt (Nat.lt_trans hi C.out.lt)⟩,Nat.ne_of_lt (Nat.lt_of_lt_of_le hi C.out.re.bel.size)⟩))
       have FG:=hI (show ∀ W,Below w3.heap.size w3 W→∀ i,W.heap.size≤i→G i from fun W hW i hi=>GW.out i (Nat.le_trans hW.size hi))
       have FGq:=hI (show ∀ W,Below w3.heap.size w3 W→w3.heap.size<W.heap.size→∀ i,W.heap.size≤i→Gq i by
        rw [hGq.out]
        exact fun W hW hlt i hi=>⟨GW.out i (Nat.le_trans hW.size hi),Nat.ne_of_gt (Nat.lt_of_lt_of_le hlt hi)⟩)
       have E6:=hI (show ∀ W,Below w3.heap.size w3 W→W.cell? ⟨bb,oo+6,none⟩=some (.int .u8 (x:Int))∧W.cell? ⟨bb,oo+7,none⟩=some (.int .u8 (y:Int)) from fun W hW=>CB6.out W (C.out.re.bel.trans (hW.mono C.out.re.bel.size)))
       have D:=hI (Below.refl w3.heap.size w3)
       obtain ⟨d6,d7⟩:=E6.out _ D.out
       go_upto_region 16 with fail
       clear y0 y1 y2 y3 y4 y5 y6 y7 y8 y9 y10 y11 y12 z0 z1 z2 z3 z4 z5 z6 z7 z8 z9 z10 z11 z12 x0 x1 x2 x3 x4 x5 x6 x7 x8 x9 x10 x11 x12 d0 d1 d2 d3 d4 d5
       go_cut [9,10] from 58 to 99 (fun s9 s10 wx=>∃ b r,s9=.pointer (some ⟨b,0,none⟩)∧s10=.int .i64 (kt:Int)∧Hid (Below w3.heap.size w3 wx)∧Hid (Px wx b 29 yy r∧PwF G wx yy r))
       case first =>
        go_region_held3 (fun W=>W.cell? ⟨bb,oo+6,none⟩=some (.int .u8 (x:Int))∧W.cell? ⟨bb,oo+7,none⟩=some (.int .u8 (y:Int))) (first | (with_reducible exact E6.out _ D.out) | (with_reducible exact E6.out _ D.out.drew) | (with_reducible exact E6.out _ (D.out.alloc (Nat.le_refl _) _)) | (with_reducible exact E6.out _ (D.out.alloc (Nat.le_refl _) _).drew) | (with_reducible exact E6.out _ (D.out.alloc D.out.size _)) | (with_reducible exact E6.out _ (D.out.alloc D.out.size _).drew) | (with_reducible exact E6.out _ (put10_below D.out (Nat.le_refl _) yy r))) (first
         | ((with_reducible refine at_calls ((w3.alloc (obj0P 29)).drew) ?_);replace D:=hI ((D.out.alloc (Nat.le_refl _) (obj0P 29)).drew);have Q:=hI (show Px (w3.alloc (obj0P 29)).drew w3.heap.size 29 pk0 pl0 from px0 (heap_alloc_new w3 _));go_at_call 32;(with_reducible refine (rbget_any tt (tz.take (nn - 2)) (nn - 2) _ _ _ Gq (FGq.out _ D.out Q.out.lt) (RPq.out _ D.out) BP.out LP.out NN5.out HC8.out TT6.out yy kt HGT.out).mono ?_);rintro e wn ⟨r,rfl,hp,hb⟩;have PF:=hI hp;replace Q:=hI (Q.out.below hb);replace D:=hI (D.out.trans (hb.mono D.out.size));clear hp hb;obtain ⟨y0,y1,y2,y3,y4,y5,y6,y7,y8,y9⟩:=Q.out.all;obtain ⟨z0,z1,z2,z3,z4,z5,z6,z7,z8,z9⟩:=Q.out.free;have E1:=hI (put10_below D.out (Nat.le_refl _) yy r);have E2:=hI (show Px (put10 wn w3.heap.size yy r) w3.heap.size 29 yy r∧PwF G (put10 wn w3.heap.size yy r) yy r from ⟨put10_px Q.out yy r,(PF.out.keep ((put10_keeps wn w3.heap.size yy r).less (fun i _ hi=>by rw [hGq.out] at hi;exact hi.2))).mono (fun i _ hi=>by rw [hGq.out] at hi;exact hi.1)⟩);dsimp only)
         | ((with_reducible refine at_calls (w3.drew) ?_);replace D:=hI D.out.drew;go_at_call 32;(with_reducible refine (rbget_any tt (tz.take (nn - 2)) (nn - 2) _ _ _ G (FG.out _ D.out) (RP.out _ D.out) BP.out LP.out NN5.out HC8.out TT6.out yy kt HGT.out).mono ?_);rintro e wn ⟨r,rfl,hp,hb⟩;have PF:=hI hp;replace D:=hI (D.out.trans (hb.mono D.out.size));clear hp hb;have E1:=hI (D.out.alloc D.out.size (yy.obj r 29));have E2:=hI (show Px (wn.alloc (yy.obj r 29)) wn.heap.size 29 yy r∧PwF G (wn.alloc (yy.obj r 29)) yy r from ⟨px_new wn 29 yy r,PF.out.keep (.of_below ((Below.refl _ _).alloc (Nat.le_refl _) _))⟩);dsimp only))
        all_goals (go_wp2_with fail;go_meet)
        all_goals (with_reducible exact ⟨_,r,rfl,rfl,E1,E2⟩)
       case rest =>
        obtain ⟨b,r,rfl,rfl,BW,VP⟩:=hcut
        replace C:=hI (C.out.step BW.out)
        clear D E6 RP RPq FG FGq GW d6 d7
        by_cases g7:kt=0
        ·subst g7
         have hg:=HGG.out
         rw [if_pos rfl] at hg
         injection hg with e1 hg
         injection hg with e2 e3
         subst e1;subst e2;subst e3
         obtain ⟨y0,y1,y2,y3,y4,y5,y6,y7,y8,y9,y10,y11,y12⟩:=C.out.re.res.all
         obtain ⟨z0,z1,z2,z3,z4,z5,z6,z7,z8,z9,z10,z11,z12⟩:=C.out.re.res.free
         obtain ⟨p0,p1,p2,p3,p4,p5,p6,p7,p8,p9⟩:=VP.out.1.all
         obtain ⟨x0,x1,x2,x3,x4,x5,x6,x7,x8,x9,x10,x11,x12⟩:=(show wc.cell? ⟨g,0,none⟩=some (.int .u8 (c:Int))∧wc.cell? ⟨g,1,none⟩=some (.int .u16 (ss:Int))∧wc.cell? ⟨g,2,none⟩=some (.slice none 0 0)∧wc.cell? ⟨g,3,none⟩=some (.int .u16 0)∧wc.cell? ⟨g,4,none⟩=some (.int .u8 0)∧wc.cell? ⟨g,5,none⟩=some (.int .u8 0)∧wc.cell? ⟨g,6,none⟩=some (.slice none 0 0)∧wc.cell? ⟨g,7,none⟩=some (.int .u16 0)∧wc.cell? ⟨g,8,none⟩=some (.int .u32 0)∧wc.cell? ⟨g,9,none⟩=some (.slice none 0 0)∧wc.cell? ⟨g,10,none⟩=some (.slice none 0 0)∧wc.cell? ⟨g,11,none⟩=some (.slice none 0 0)∧wc.cell? ⟨g,12,none⟩=some (.slice none 0 0) from C.out.cf.all)
         obtain ⟨f0,f1,f2,f3,f4,f5,f6,f7,f8,f9,f10,f11,f12⟩:=C.out.cf.free
         go_upto_region 20 with fail
         have DD:=hI (⟨⟨putP3_below C.out.re.bel (Nat.le_of_lt C.out.lt) yy r,C.out.re.res.putP3Other yy r (Nat.ne_of_lt C.out.lt)⟩,C.out.lt,C.out.cf.setPkt yy r⟩:GfE 31 w (putP3 wc g yy r) g ⟨c,ss,[],yy⟩ ⟨none,0,0,r⟩)
         have RK:=hI (show PwF G (putP3 wc g yy r) yy r from VP.out.2.keep ((putP3_keeps wc g yy r).less (fun i _ h=>by rw [hG.out] at h;exact h.2)))
         refine at_worldP (W:=putP3 wc g yy r) (fun W=>Hid (GfE 31 w W g ⟨c,ss,[],yy⟩ ⟨none,0,0,r⟩)∧Hid (PwF G W yy r)) ⟨DD,RK⟩ ?_
         clear C DD RK VP BW p0 p1 p2 p3 p4 p5 p6 p7 p8 p9 x0 x1 x2 x3 x4 x5 x6 x7 x8 x9 x10 x11 x12 y0 y1 y2 y3 y4 y5 y6 y7 y8 y9 y10 y11 y12 z0 z1 z2 z3 z4 z5 z6 z7 z8 z9 z10 z11 z12 f0 f1 f2 f3 f4 f5 f6 f7 f8 f9 f10 f11 f12
         rintro w4 ⟨C,RT⟩
         obtain ⟨y0,y1,y2,y3,y4,y5,y6,y7,y8,y9,y10,y11,y12⟩:=C.out.re.res.all
         obtain ⟨z0,z1,z2,z3,z4,z5,z6,z7,z8,z9,z10,z11,z12⟩:=C.out.re.res.free
         obtain ⟨x0,x1,x2,x3,x4,x5,x6,x7,x8,x9,x10,x11,x12⟩:=(show w4.cell? ⟨g,0,none⟩=some (.int .u8 (c:Int))∧w4.cell? ⟨g,1,none⟩=some (.int .u16 (ss:Int))∧w4.cell? ⟨g,2,none⟩=some (.slice none 0 0)∧w4.cell? ⟨g,3,none⟩=some (.int .u16 (yy.proto:Int))∧w4.cell? ⟨g,4,none⟩=some (.int .u8 (yy.code:Int))∧w4.cell? ⟨g,5,none⟩=some (.int .u8 (yy.id:Int))∧w4.cell? ⟨g,6,none⟩=some (.slice r.ao r.no r.co)∧w4.cell? ⟨g,7,none⟩=some (.int .u16 (yy.sub:Int))∧w4.cell? ⟨g,8,none⟩=some (.int .u32 (yy.magic:Int))∧w4.cell? ⟨g,9,none⟩=some (.slice r.a1 r.n1 r.c1)∧w4.cell? ⟨g,10,none⟩=some (.slice r.a2 r.n2 r.c2)∧w4.cell? ⟨g,11,none⟩=some (.slice r.ad r.nd r.cd)∧w4.cell? ⟨g,12,none⟩=some (.slice r.an r.nn r.cn) from C.out.cf.all)
         go_wp2_with fail
         refine bodyPost_ret (v:=.tuple #[Fr.val ⟨c,ss,[],yy⟩ ⟨none,0,0,r⟩,.int .i64 (n6:Int),.int .i64 0]) ?_ rfl (GetE.mk ⟨none,0,0,r⟩ rfl ⟨rfl,Rws.nilG,Nat.le_refl _,((RT.out.keep ((put13_keeps w4 w.heap.size ⟨c,ss,[],yy⟩ ⟨none,0,0,r⟩).less (fun i _ h=>by rw [hG.out] at h;exact h.1))).mono (fun _ _ _=>trivial))⟩ (put13_below C.out.re.bel (Nat.le_refl _) ⟨c,ss,[],yy⟩ ⟨none,0,0,r⟩))
         exact results_row_tmp2 rfl _ _ _ _ w.heap.size 31 _ _ _ rfl rfl rfl (put13_fx C.out.re.res ⟨c,ss,[],yy⟩ ⟨none,0,0,r⟩) Tryz.underlying31 (by kernel_rfl)
        ·have hg:=HGG.out
         rw [if_neg g7] at hg
         obtain ⟨rfl,rfl,rfl⟩:=ebad_eq hg
         have j16:=z0t kt g7
         obtain ⟨y0,y1,y2,y3,y4,y5,y6,y7,y8,y9,y10,y11,y12⟩:=C.out.re.res.all
         obtain ⟨z0,z1,z2,z3,z4,z5,z6,z7,z8,z9,z10,z11,z12⟩:=C.out.re.res.free
         clear VP hg g7
         go_wp2_with fail
         refine bodyPost_ret (v:=.tuple #[fr0.val fl0,.int .i64 0,.int .i64 (kt:Int)]) ?_ rfl (GetE.mk fl0 rfl fwF0 (put13_below C.out.re.bel (Nat.le_refl _) fr0 fl0))
         exact results_row_tmp2 rfl _ _ _ _ w.heap.size 31 _ _ _ rfl rfl rfl (put13_fx C.out.re.res fr0 fl0) Tryz.underlying31 (by kernel_rfl)
      ·have h:=HR0.out
       have hb:=HB0.out
       have hl:=HL0.out
       have hn:=HN0.out
       have hc:=HC0.out
       rw [show (x :: y :: tz).length=tz.length+2 from rfl] at hl
       have g4':nn≤tz.length+2:=g4
       obtain ⟨j9,j10,j11,hcc⟩:=sl6 hl hn6 g4' hc
       obtain ⟨j12,hc8,hl8,hcn⟩:=sl8 hl g4' hc g6
       have hcc2:=nc8 hcap
       have BP:=hI (show By (tz.take (nn - 2)) from (fun x hx=>hb x (by simp [List.mem_of_mem_take hx])))
       have LP:=hI (show (tz.take (nn - 2)).length=nn - 2 by rw [List.length_take];exact Nat.min_eq_left hl8)
       have RQ:=hI (show RdF (fun i=>i<w.heap.size) w (some ⟨bb,oo+6+2,none⟩) (tz.take (nn - 2)) by
        have e8:=h.cutG (f:=8) (c:=cap) (by show tz.length+2+6≤cap;rw [hl];exact hc)
        rw [if_neg hcap] at e8
        exact (Rd.take e8 (nn - 2)).rdF (fun _ hi=>hi) (Nat.le_refl _))
       have NN5:=hI (tw2 hl hn g4')
       have HC8:=hI hc8
       clear h hb hl hn hc hcc hc8 hl8 hcn g4' hcap g3 g4 g6 hn6
       obtain ⟨y0,y1,y2,y3,y4,y5,y6,y7,y8,y9,y10,y11,y12⟩:=C.out.re.res.all
       obtain ⟨z0,z1,z2,z3,z4,z5,z6,z7,z8,z9,z10,z11,z12⟩:=C.out.re.res.free
       obtain ⟨x0,x1,x2,x3,x4,x5,x6,x7,x8,x9,x10,x11,x12⟩:=(show w3.cell? ⟨g,0,none⟩=some (.int .u8 (c:Int))∧w3.cell? ⟨g,1,none⟩=some (.int .u16 (ss:Int))∧w3.cell? ⟨g,2,none⟩=some (.slice none 0 0)∧w3.cell? ⟨g,3,none⟩=some (.int .u16 0)∧w3.cell? ⟨g,4,none⟩=some (.int .u8 0)∧w3.cell? ⟨g,5,none⟩=some (.int .u8 0)∧w3.cell? ⟨g,6,none⟩=some (.slice none 0 0)∧w3.cell? ⟨g,7,none⟩=some (.int .u16 0)∧w3.cell? ⟨g,8,none⟩=some (.int .u32 0)∧w3.cell? ⟨g,9,none⟩=some (.slice none 0 0)∧w3.cell? ⟨g,10,none⟩=some (.slice none 0 0)∧w3.cell? ⟨g,11,none⟩=some (.slice none 0 0)∧w3.cell? ⟨g,12,none⟩=some (.slice none 0 0) from C.out.cf.all)
       obtain ⟨d0,d1,d2,d3,d4,d5⟩:=CB.out _ C.out.re.bel
       obtain ⟨G,hG⟩:∃ G,Hid (G=fun i=>i≠w.heap.size∧i≠g):=⟨_,hI rfl⟩
       obtain ⟨Gq,hGq⟩:∃ Gq,Hid (Gq=fun i=>G i∧i≠w3.heap.size):=⟨_,hI rfl⟩
       have GW:=hI (show ∀ i,w3.heap.size≤i→G i by
        rw [hG.out]
        exact fun i hi=>⟨Nat.ne_of_gt (Nat.lt_of_lt_of_le C.out.re.res.lt hi),Nat.ne_of_gt (Nat.lt_of_lt_of_le C.out.cf.lt hi)⟩)
       have RP:=hI (show ∀ W,Below w3.heap.size w3 W→RdF G W (some ⟨bb,oo+6+2,none⟩) (tz.take (nn - 2)) by
        rw [hG.out]
        exact fun W hW=>(RQ.out.keep (.of_below (C.out.re.bel.trans (hW.mono C.out.re.bel.size)))).mono (fun i _ hi=>⟨Nat.ne_of_lt hi,Nat.ne_of_lt (Nat.lt_trans hi C.out.lt)⟩))
       have RPq:=hI (show ∀ W,Below w3.heap.size w3 W→RdF Gq W (some ⟨bb,oo+6+2,none⟩) (tz.take (nn - 2)) by
        rw [hGq.out,hG.out]
        exact fun W hW=>(RQ.out.keep (.of_below (C.out.re.bel.trans (hW.mono C.out.re.bel.size)))).mono (fun i _ hi=>⟨⟨Nat.ne_of_lt hi,Nat.ne_of_lt (Nat.lt_trans hi C.out.lt)⟩,Nat.ne_of_lt (Nat.lt_of_lt_of_le hi C.out.re.bel.size)⟩))
       have FG:=hI (show ∀ W,Below w3.heap.size w3 W→∀ i,W.heap.size≤i→G i from fun W hW i hi=>GW.out i (Nat.le_trans hW.size hi))
       have FGq:=hI (show ∀ W,Below w3.heap.size w3 W→w3.heap.size<W.heap.size→∀ i,W.heap.size≤i→Gq i by
        rw [hGq.out]
        exact fun W hW hlt i hi=>⟨GW.out i (Nat.le_trans hW.size hi),Nat.ne_of_gt (Nat.lt_of_lt_of_le hlt hi)⟩)
       have E6:=hI (show ∀ W,Below w3.heap.size w3 W→W.cell? ⟨bb,oo+6,none⟩=some (.int .u8 (x:Int))∧W.cell? ⟨bb,oo+7,none⟩=some (.int .u8 (y:Int)) from fun W hW=>CB6.out W (C.out.re.bel.trans (hW.mono C.out.re.bel.size)))
       have D:=hI (Below.refl w3.heap.size w3)
       obtain ⟨d6,d7⟩:=E6.out _ D.out
       go_upto_region 16 with fail
       clear y0 y1 y2 y3 y4 y5 y6 y7 y8 y9 y10 y11 y12 z0 z1 z2 z3 z4 z5 z6 z7 z8 z9 z10 z11 z12 x0 x1 x2 x3 x4 x5 x6 x7 x8 x9 x10 x11 x12 d0 d1 d2 d3 d4 d5
       go_cut [9,10] from 58 to 99 (fun s9 s10 wx=>∃ b r,s9=.pointer (some ⟨b,0,none⟩)∧s10=.int .i64 (kt:Int)∧Hid (Below w3.heap.size w3 wx)∧Hid (Px wx b 29 yy r∧PwF G wx yy r))
       case first =>
        go_region_held3 (fun W=>W.cell? ⟨bb,oo+6,none⟩=some (.int .u8 (x:Int))∧W.cell? ⟨bb,oo+7,none⟩=some (.int .u8 (y:Int))) (first | (with_reducible exact E6.out _ D.out) | (with_reducible exact E6.out _ D.out.drew) | (with_reducible exact E6.out _ (D.out.alloc (Nat.le_refl _) _)) | (with_reducible exact E6.out _ (D.out.alloc (Nat.le_refl _) _).drew) | (with_reducible exact E6.out _ (D.out.alloc D.out.size _)) | (with_reducible exact E6.out _ (D.out.alloc D.out.size _).drew) | (with_reducible exact E6.out _ (put10_below D.out (Nat.le_refl _) yy r))) (first
         | ((with_reducible refine at_calls ((w3.alloc (obj0P 29)).drew) ?_);replace D:=hI ((D.out.alloc (Nat.le_refl _) (obj0P 29)).drew);have Q:=hI (show Px (w3.alloc (obj0P 29)).drew w3.heap.size 29 pk0 pl0 from px0 (heap_alloc_new w3 _));go_at_call 32;(with_reducible refine (rbget_any tt (tz.take (nn - 2)) (nn - 2) _ _ _ Gq (FGq.out _ D.out Q.out.lt) (RPq.out _ D.out) BP.out LP.out NN5.out HC8.out TT6.out yy kt HGT.out).mono ?_);rintro e wn ⟨r,rfl,hp,hb⟩;have PF:=hI hp;replace Q:=hI (Q.out.below hb);replace D:=hI (D.out.trans (hb.mono D.out.size));clear hp hb;obtain ⟨y0,y1,y2,y3,y4,y5,y6,y7,y8,y9⟩:=Q.out.all;obtain ⟨z0,z1,z2,z3,z4,z5,z6,z7,z8,z9⟩:=Q.out.free;have E1:=hI (put10_below D.out (Nat.le_refl _) yy r);have E2:=hI (show Px (put10 wn w3.heap.size yy r) w3.heap.size 29 yy r∧PwF G (put10 wn w3.heap.size yy r) yy r from ⟨put10_px Q.out yy r,(PF.out.keep ((put10_keeps wn w3.heap.size yy r).less (fun i _ hi=>by rw [hGq.out] at hi;exact hi.2))).mono (fun i _ hi=>by rw [hGq.out] at hi;exact hi.1)⟩);dsimp only)
         | ((with_reducible refine at_calls (w3.drew) ?_);replace D:=hI D.out.drew;go_at_call 32;(with_reducible refine (rbget_any tt (tz.take (nn - 2)) (nn - 2) _ _ _ G (FG.out _ D.out) (RP.out _ D.out) BP.out LP.out NN5.out HC8.out TT6.out yy kt HGT.out).mono ?_);rintro e wn ⟨r,rfl,hp,hb⟩;have PF:=hI hp;replace D:=hI (D.out.trans (hb.mono D.out.size));clear hp hb;have E1:=hI (D.out.alloc D.out.size (yy.obj r 29));have E2:=hI (show Px (wn.alloc (yy.obj r 29)) wn.heap.size 29 yy r∧PwF G (wn.alloc (yy.obj r 29)) yy r from ⟨px_new wn 29 yy r,PF.out.keep (.of_below ((Below.refl _ _).alloc (Nat.le_refl _) _))⟩);dsimp only))
        all_goals (go_wp2_with fail;go_meet)
        all_goals (with_reducible exact ⟨_,r,rfl,rfl,E1,E2⟩)
       case rest =>
        obtain ⟨b,r,rfl,rfl,BW,VP⟩:=hcut
        replace C:=hI (C.out.step BW.out)
        clear D E6 RP RPq FG FGq GW d6 d7
        by_cases g7:kt=0
        ·subst g7
         have hg:=HGG.out
         rw [if_pos rfl] at hg
         injection hg with e1 hg
         injection hg with e2 e3
         subst e1;subst e2;subst e3
         obtain ⟨y0,y1,y2,y3,y4,y5,y6,y7,y8,y9,y10,y11,y12⟩:=C.out.re.res.all
         obtain ⟨z0,z1,z2,z3,z4,z5,z6,z7,z8,z9,z10,z11,z12⟩:=C.out.re.res.free
         obtain ⟨p0,p1,p2,p3,p4,p5,p6,p7,p8,p9⟩:=VP.out.1.all
         obtain ⟨x0,x1,x2,x3,x4,x5,x6,x7,x8,x9,x10,x11,x12⟩:=(show wc.cell? ⟨g,0,none⟩=some (.int .u8 (c:Int))∧wc.cell? ⟨g,1,none⟩=some (.int .u16 (ss:Int))∧wc.cell? ⟨g,2,none⟩=some (.slice none 0 0)∧wc.cell? ⟨g,3,none⟩=some (.int .u16 0)∧wc.cell? ⟨g,4,none⟩=some (.int .u8 0)∧wc.cell? ⟨g,5,none⟩=some (.int .u8 0)∧wc.cell? ⟨g,6,none⟩=some (.slice none 0 0)∧wc.cell? ⟨g,7,none⟩=some (.int .u16 0)∧wc.cell? ⟨g,8,none⟩=some (.int .u32 0)∧wc.cell? ⟨g,9,none⟩=some (.slice none 0 0)∧wc.cell? ⟨g,10,none⟩=some (.slice none 0 0)∧wc.cell? ⟨g,11,none⟩=some (.slice none 0 0)∧wc.cell? ⟨g,12,none⟩=some (.slice none 0 0) from C.out.cf.all)
         obtain ⟨f0,f1,f2,f3,f4,f5,f6,f7,f8,f9,f10,f11,f12⟩:=C.out.cf.free
         go_upto_region 20 with fail
         have DD:=hI (⟨⟨putP3_below C.out.re.bel (Nat.le_of_lt C.out.lt) yy r,C.out.re.res.putP3Other yy r (Nat.ne_of_lt C.out.lt)⟩,C.out.lt,C.out.cf.setPkt yy r⟩:GfE 31 w (putP3 wc g yy r) g ⟨c,ss,[],yy⟩ ⟨none,0,0,r⟩)
         have RK:=hI (show PwF G (putP3 wc g yy r) yy r from VP.out.2.keep ((putP3_keeps wc g yy r).less (fun i _ h=>by rw [hG.out] at h;exact h.2)))
         refine at_worldP (W:=putP3 wc g yy r) (fun W=>Hid (GfE 31 w W g ⟨c,ss,[],yy⟩ ⟨none,0,0,r⟩)∧Hid (PwF G W yy r)) ⟨DD,RK⟩ ?_
         clear C DD RK VP BW p0 p1 p2 p3 p4 p5 p6 p7 p8 p9 x0 x1 x2 x3 x4 x5 x6 x7 x8 x9 x10 x11 x12 y0 y1 y2 y3 y4 y5 y6 y7 y8 y9 y10 y11 y12 z0 z1 z2 z3 z4 z5 z6 z7 z8 z9 z10 z11 z12 f0 f1 f2 f3 f4 f5 f6 f7 f8 f9 f10 f11 f12
         rintro w4 ⟨C,RT⟩
         obtain ⟨y0,y1,y2,y3,y4,y5,y6,y7,y8,y9,y10,y11,y12⟩:=C.out.re.res.all
         obtain ⟨z0,z1,z2,z3,z4,z5,z6,z7,z8,z9,z10,z11,z12⟩:=C.out.re.res.free
         obtain ⟨x0,x1,x2,x3,x4,x5,x6,x7,x8,x9,x10,x11,x12⟩:=(show w4.cell? ⟨g,0,none⟩=some (.int .u8 (c:Int))∧w4.cell? ⟨g,1,none⟩=some (.int .u16 (ss:Int))∧w4.cell? ⟨g,2,none⟩=some (.slice none 0 0)∧w4.cell? ⟨g,3,none⟩=some (.int .u16 (yy.proto:Int))∧w4.cell? ⟨g,4,none⟩=some (.int .u8 (yy.code:Int))∧w4.cell? ⟨g,5,none⟩=some (.int .u8 (yy.id:Int))∧w4.cell? ⟨g,6,none⟩=some (.slice r.ao r.no r.co)∧w4.cell? ⟨g,7,none⟩=some (.int .u16 (yy.sub:Int))∧w4.cell? ⟨g,8,none⟩=some (.int .u32 (yy.magic:Int))∧w4.cell? ⟨g,9,none⟩=some (.slice r.a1 r.n1 r.c1)∧w4.cell? ⟨g,10,none⟩=some (.slice r.a2 r.n2 r.c2)∧w4.cell? ⟨g,11,none⟩=some (.slice r.ad r.nd r.cd)∧w4.cell? ⟨g,12,none⟩=some (.slice r.an r.nn r.cn) from C.out.cf.all)
         go_wp2_with fail
         refine bodyPost_ret (v:=.tuple #[Fr.val ⟨c,ss,[],yy⟩ ⟨none,0,0,r⟩,.int .i64 (n6:Int),.int .i64 0]) ?_ rfl (GetE.mk ⟨none,0,0,r⟩ rfl ⟨rfl,Rws.nilG,Nat.le_refl _,((RT.out.keep ((put13_keeps w4 w.heap.size ⟨c,ss,[],yy⟩ ⟨none,0,0,r⟩).less (fun i _ h=>by rw [hG.out] at h;exact h.1))).mono (fun _ _ _=>trivial))⟩ (put13_below C.out.re.bel (Nat.le_refl _) ⟨c,ss,[],yy⟩ ⟨none,0,0,r⟩))
         exact results_row_tmp2 rfl _ _ _ _ w.heap.size 31 _ _ _ rfl rfl rfl (put13_fx C.out.re.res ⟨c,ss,[],yy⟩ ⟨none,0,0,r⟩) Tryz.underlying31 (by kernel_rfl)
        ·have hg:=HGG.out
         rw [if_neg g7] at hg
         obtain ⟨rfl,rfl,rfl⟩:=ebad_eq hg
         have j16:=z0t kt g7
         obtain ⟨y0,y1,y2,y3,y4,y5,y6,y7,y8,y9,y10,y11,y12⟩:=C.out.re.res.all
         obtain ⟨z0,z1,z2,z3,z4,z5,z6,z7,z8,z9,z10,z11,z12⟩:=C.out.re.res.free
         clear VP hg g7
         go_wp2_with fail
         refine bodyPost_ret (v:=.tuple #[fr0.val fl0,.int .i64 0,.int .i64 (kt:Int)]) ?_ rfl (GetE.mk fl0 rfl fwF0 (put13_below C.out.re.bel (Nat.le_refl _) fr0 fl0))
         exact results_row_tmp2 rfl _ _ _ _ w.heap.size 31 _ _ _ rfl rfl rfl (put13_fx C.out.re.res fr0 fl0) Tryz.underlying31 (by kernel_rfl)
     ·have j8:=lt2 (Nat.lt_of_not_le g6)
      rw [hc0] at hg
      obtain ⟨rfl,rfl,rfl⟩:=ebad_eq (one_less (c:=c) (Nat.lt_of_not_le g6) hg)
      clear hg g3 g4 g6 hn6 hc0
      obtain ⟨y0,y1,y2,y3,y4,y5,y6,y7,y8,y9,y10,y11,y12⟩:=C.out.re.res.all
      obtain ⟨z0,z1,z2,z3,z4,z5,z6,z7,z8,z9,z10,z11,z12⟩:=C.out.re.res.free
      obtain ⟨x0,x1,x2,x3,x4,x5,x6,x7,x8,x9,x10,x11,x12⟩:=(show w3.cell? ⟨g,0,none⟩=some (.int .u8 (c:Int))∧w3.cell? ⟨g,1,none⟩=some (.int .u16 (ss:Int))∧w3.cell? ⟨g,2,none⟩=some (.slice none 0 0)∧w3.cell? ⟨g,3,none⟩=some (.int .u16 0)∧w3.cell? ⟨g,4,none⟩=some (.int .u8 0)∧w3.cell? ⟨g,5,none⟩=some (.int .u8 0)∧w3.cell? ⟨g,6,none⟩=some (.slice none 0 0)∧w3.cell? ⟨g,7,none⟩=some (.int .u16 0)∧w3.cell? ⟨g,8,none⟩=some (.int .u32 0)∧w3.cell? ⟨g,9,none⟩=some (.slice none 0 0)∧w3.cell? ⟨g,10,none⟩=some (.slice none 0 0)∧w3.cell? ⟨g,11,none⟩=some (.slice none 0 0)∧w3.cell? ⟨g,12,none⟩=some (.slice none 0 0) from C.out.cf.all)
      obtain ⟨d0,d1,d2,d3,d4,d5⟩:=CB.out _ C.out.re.bel
      go_wp2_with fail
      refine bodyPost_ret (v:=.tuple #[fr0.val fl0,.int .i64 0,.int .i64 2]) ?_ rfl (GetE.mk fl0 rfl fwF0 (put13_below C.out.re.bel (Nat.le_refl _) fr0 fl0))
      exact results_row_tmp2 rfl _ _ _ _ w.heap.size 31 _ _ _ rfl rfl rfl (put13_fx C.out.re.res fr0 fl0) Tryz.underlying31 (by kernel_rfl)
    ·have j7:=z0f c hc0
     unfold eread at hg
     rw [if_neg hc0] at hg
     obtain ⟨lt,ct,kt,hgt⟩:∃ lt ct kt,tgget (t.take nn)=(lt,ct,kt):=⟨_,_,_,rfl⟩
     rw [hgt] at hg
     dsimp only at hg
     clear hc0
     by_cases hcap:cap=6
     ·rw [hn6] at hg
      have h:=HR0.out
      have hb:=HB0.out
      have hl:=HL0.out
      have hn:=HN0.out
      have hc:=HC0.out
      subst hcap
      have hz:=t6a hl hc g4
      obtain ⟨j9,j8,j10,hcc⟩:=t6b hn6 hz
      have HGG:=hI hg
      have BP:=hI (show By (t.take nn) from (fun x hx=>hb x (by simp [List.mem_of_mem_take hx])))
      have LP:=hI (show (t.take nn).length=nn by rw [List.length_take];exact Nat.min_eq_left g4)
      have RQ:=hI (show RdF (fun i=>i<w.heap.size) w (some ⟨bb,oo,none⟩) (t.take nn) by
       rw [hz,List.take_zero]
       exact RdF.nil)
      clear hz
      have HGT:=hI hgt
      obtain ⟨mt,hmt⟩:∃ m,Hid (lt.length=m):=⟨_,hI rfl⟩
      have NN5:=hI (Nat.le_trans g3 (by decide):nn≤1073741824)
      have HCC:=hI hcc
      have HN6:=hI hn6
      clear h hb hl hn hc hg hgt g3 g4 hn6 hcc
      obtain ⟨y0,y1,y2,y3,y4,y5,y6,y7,y8,y9,y10,y11,y12⟩:=C.out.re.res.all
      obtain ⟨z0,z1,z2,z3,z4,z5,z6,z7,z8,z9,z10,z11,z12⟩:=C.out.re.res.free
      obtain ⟨x0,x1,x2,x3,x4,x5,x6,x7,x8,x9,x10,x11,x12⟩:=(show w3.cell? ⟨g,0,none⟩=some (.int .u8 (c:Int))∧w3.cell? ⟨g,1,none⟩=some (.int .u16 (ss:Int))∧w3.cell? ⟨g,2,none⟩=some (.slice none 0 0)∧w3.cell? ⟨g,3,none⟩=some (.int .u16 0)∧w3.cell? ⟨g,4,none⟩=some (.int .u8 0)∧w3.cell? ⟨g,5,none⟩=some (.int .u8 0)∧w3.cell? ⟨g,6,none⟩=some (.slice none 0 0)∧w3.cell? ⟨g,7,none⟩=some (.int .u16 0)∧w3.cell? ⟨g,8,none⟩=some (.int .u32 0)∧w3.cell? ⟨g,9,none⟩=some (.slice none 0 0)∧w3.cell? ⟨g,10,none⟩=some (.slice none 0 0)∧w3.cell? ⟨g,11,none⟩=some (.slice none 0 0)∧w3.cell? ⟨g,12,none⟩=some (.slice none 0 0) from C.out.cf.all)
      obtain ⟨d0,d1,d2,d3,d4,d5⟩:=CB.out _ C.out.re.bel
      obtain ⟨G,hG⟩:∃ G,Hid (G=fun i=>i≠w.heap.size∧i≠g):=⟨_,hI rfl⟩
      have RP:=hI (show RdF G w3 (some ⟨bb,oo,none⟩) (t.take nn) by
       rw [hG.out]
       exact (RQ.out.keep (.of_below C.out.re.bel)).mono (fun i _ hi=>⟨Nat.ne_of_lt hi,Nat.ne_of_lt (Nat.lt_trans hi C.out.lt)⟩))
      have FG:=hI (show ∀ i,w3.heap.size≤i→G i by
       rw [hG.out]
       exact fun i hi=>⟨Nat.ne_of_gt (Nat.lt_of_lt_of_le C.out.re.res.lt hi),Nat.ne_of_gt (Nat.lt_of_lt_of_le C.out.cf.lt hi)⟩)
      go_upto_region 22 with (first
       | (go_at_call 33;(with_reducible refine (tgjget_v G (t.take nn) lt ct kt HGT.out mt hmt.out nn _ _ _ FG.out RP.out BP.out LP.out NN5.out HCC.out).mono ?_);rintro e wn ⟨A5,c5,rfl,h5c,h5,hb⟩;replace C:=hI (C.out.step hb);have RT:=hI h5;have HC5:=hI h5c;clear hb h5 h5c y0 y1 y2 y3 y4 y5 y6 y7 y8 y9 y10 y11 y12 z0 z1 z2 z3 z4 z5 z6 z7 z8 z9 z10 z11 z12 x0 x1 x2 x3 x4 x5 x6 x7 x8 x9 x10 x11 x12 d0 d1 d2 d3 d4 d5;obtain ⟨y0,y1,y2,y3,y4,y5,y6,y7,y8,y9,y10,y11,y12⟩:=C.out.re.res.all;obtain ⟨z0,z1,z2,z3,z4,z5,z6,z7,z8,z9,z10,z11,z12⟩:=C.out.re.res.free;obtain ⟨x0,x1,x2,x3,x4,x5,x6,x7,x8,x9,x10,x11,x12⟩:=(show wn.cell? ⟨g,0,none⟩=some (.int .u8 (c:Int))∧wn.cell? ⟨g,1,none⟩=some (.int .u16 (ss:Int))∧wn.cell? ⟨g,2,none⟩=some (.slice none 0 0)∧wn.cell? ⟨g,3,none⟩=some (.int .u16 0)∧wn.cell? ⟨g,4,none⟩=some (.int .u8 0)∧wn.cell? ⟨g,5,none⟩=some (.int .u8 0)∧wn.cell? ⟨g,6,none⟩=some (.slice none 0 0)∧wn.cell? ⟨g,7,none⟩=some (.int .u16 0)∧wn.cell? ⟨g,8,none⟩=some (.int .u32 0)∧wn.cell? ⟨g,9,none⟩=some (.slice none 0 0)∧wn.cell? ⟨g,10,none⟩=some (.slice none 0 0)∧wn.cell? ⟨g,11,none⟩=some (.slice none 0 0)∧wn.cell? ⟨g,12,none⟩=some (.slice none 0 0) from C.out.cf.all);obtain ⟨d0,d1,d2,d3,d4,d5⟩:=CB.out _ C.out.re.bel))
      by_cases g7:kt=0
      ·subst g7
       have hg:=HGG.out
       rw [if_pos rfl] at hg
       injection hg with e1 hg
       injection hg with e2 e3
       subst e1;subst e2;subst e3
       have gz:=C.out.cf.free.2.2.1
       go_upto_region 25 with fail
       have D:=hI (⟨⟨C.out.re.bel.setCell (p:=⟨g,2,none⟩) (Nat.le_of_lt C.out.lt) (.slice A5 mt c5),C.out.re.res.other _ (Nat.ne_of_lt C.out.lt)⟩,C.out.lt,C.out.cf.setTags A5 mt c5 lt⟩:GfE 31 w (wn.setCell ⟨g,2,none⟩ (.slice A5 mt c5)) g ⟨c,ss,lt,pk0⟩ ⟨A5,mt,c5,pl0⟩)
       have RK:=hI (show Rws shG G (wn.setCell ⟨g,2,none⟩ (.slice A5 mt c5)) A5 lt from RT.out.keep ((keeps_set wn g 2 _).less (fun i _ h=>by rw [hG.out] at h;exact h.2)))
       refine at_worldP (W:=wn.setCell ⟨g,2,none⟩ (.slice A5 mt c5)) (fun W=>Hid (GfE 31 w W g ⟨c,ss,lt,pk0⟩ ⟨A5,mt,c5,pl0⟩)∧Hid (Rws shG G W A5 lt)) ⟨D,RK⟩ ?_
       clear C D RK RT gz y0 y1 y2 y3 y4 y5 y6 y7 y8 y9 y10 y11 y12 z0 z1 z2 z3 z4 z5 z6 z7 z8 z9 z10 z11 z12 x0 x1 x2 x3 x4 x5 x6 x7 x8 x9 x10 x11 x12 d0 d1 d2 d3 d4 d5
       rintro w4 ⟨C,RT⟩
       obtain ⟨y0,y1,y2,y3,y4,y5,y6,y7,y8,y9,y10,y11,y12⟩:=C.out.re.res.all
       obtain ⟨z0,z1,z2,z3,z4,z5,z6,z7,z8,z9,z10,z11,z12⟩:=C.out.re.res.free
       obtain ⟨x0,x1,x2,x3,x4,x5,x6,x7,x8,x9,x10,x11,x12⟩:=(show w4.cell? ⟨g,0,none⟩=some (.int .u8 (c:Int))∧w4.cell? ⟨g,1,none⟩=some (.int .u16 (ss:Int))∧w4.cell? ⟨g,2,none⟩=some (.slice A5 mt c5)∧w4.cell? ⟨g,3,none⟩=some (.int .u16 0)∧w4.cell? ⟨g,4,none⟩=some (.int .u8 0)∧w4.cell? ⟨g,5,none⟩=some (.int .u8 0)∧w4.cell? ⟨g,6,none⟩=some (.slice none 0 0)∧w4.cell? ⟨g,7,none⟩=some (.int .u16 0)∧w4.cell? ⟨g,8,none⟩=some (.int .u32 0)∧w4.cell? ⟨g,9,none⟩=some (.slice none 0 0)∧w4.cell? ⟨g,10,none⟩=some (.slice none 0 0)∧w4.cell? ⟨g,11,none⟩=some (.slice none 0 0)∧w4.cell? ⟨g,12,none⟩=some (.slice none 0 0) from C.out.cf.all)
       go_wp2_with fail
       refine bodyPost_ret (v:=.tuple #[Fr.val ⟨c,ss,lt,pk0⟩ ⟨A5,mt,c5,pl0⟩,.int .i64 (n6:Int),.int .i64 0]) ?_ rfl (GetE.mk ⟨A5,mt,c5,pl0⟩ rfl ⟨hmt.out,((RT.out.keep ((put13_keeps w4 w.heap.size ⟨c,ss,lt,pk0⟩ ⟨A5,mt,c5,pl0⟩).less (fun i _ h=>by rw [hG.out] at h;exact h.1))).mono (fun _ _ _=>trivial)),HC5.out,pwF0⟩ (put13_below C.out.re.bel (Nat.le_refl _) ⟨c,ss,lt,pk0⟩ ⟨A5,mt,c5,pl0⟩))
       exact results_row_tmp2 rfl _ _ _ _ w.heap.size 31 _ _ _ rfl rfl rfl (put13_fx C.out.re.res ⟨c,ss,lt,pk0⟩ ⟨A5,mt,c5,pl0⟩) Tryz.underlying31 (by kernel_rfl)
      ·have hg:=HGG.out
       rw [if_neg g7] at hg
       obtain ⟨rfl,rfl,rfl⟩:=ebad_eq hg
       have j11:=z0t kt g7
       clear hg g7
       go_wp2_with fail
       refine bodyPost_ret (v:=.tuple #[fr0.val fl0,.int .i64 0,.int .i64 (kt:Int)]) ?_ rfl (GetE.mk fl0 rfl fwF0 (put13_below C.out.re.bel (Nat.le_refl _) fr0 fl0))
       exact results_row_tmp2 rfl _ _ _ _ w.heap.size 31 _ _ _ rfl rfl rfl (put13_fx C.out.re.res fr0 fl0) Tryz.underlying31 (by kernel_rfl)
     ·rw [hn6] at hg
      have h:=HR0.out
      have hb:=HB0.out
      have hl:=HL0.out
      have hn:=HN0.out
      have hc:=HC0.out
      obtain ⟨j8,j9,j10,hcc⟩:=sl6 hl hn6 g4 hc
      have HGG:=hI hg
      have BP:=hI (show By (t.take nn) from (fun x hx=>hb x (by simp [List.mem_of_mem_take hx])))
      have LP:=hI (show (t.take nn).length=nn by rw [List.length_take];exact Nat.min_eq_left g4)
      have RQ:=hI (show RdF (fun i=>i<w.heap.size) w (some ⟨bb,oo+6,none⟩) (t.take nn) by
       have e8:=h.cutG (f:=6) (c:=cap) (by show t.length+6≤cap;rw [hl];exact hc)
       rw [if_neg hcap] at e8
       exact (Rd.take e8 nn).rdF (fun _ hi=>hi) (Nat.le_refl _))
      have HGT:=hI hgt
      obtain ⟨mt,hmt⟩:∃ m,Hid (lt.length=m):=⟨_,hI rfl⟩
      have NN5:=hI (Nat.le_trans g3 (by decide):nn≤1073741824)
      have HCC:=hI hcc
      have HN6:=hI hn6
      clear h hb hl hn hc hg hgt g3 g4 hn6 hcc
      obtain ⟨y0,y1,y2,y3,y4,y5,y6,y7,y8,y9,y10,y11,y12⟩:=C.out.re.res.all
      obtain ⟨z0,z1,z2,z3,z4,z5,z6,z7,z8,z9,z10,z11,z12⟩:=C.out.re.res.free
      obtain ⟨x0,x1,x2,x3,x4,x5,x6,x7,x8,x9,x10,x11,x12⟩:=(show w3.cell? ⟨g,0,none⟩=some (.int .u8 (c:Int))∧w3.cell? ⟨g,1,none⟩=some (.int .u16 (ss:Int))∧w3.cell? ⟨g,2,none⟩=some (.slice none 0 0)∧w3.cell? ⟨g,3,none⟩=some (.int .u16 0)∧w3.cell? ⟨g,4,none⟩=some (.int .u8 0)∧w3.cell? ⟨g,5,none⟩=some (.int .u8 0)∧w3.cell? ⟨g,6,none⟩=some (.slice none 0 0)∧w3.cell? ⟨g,7,none⟩=some (.int .u16 0)∧w3.cell? ⟨g,8,none⟩=some (.int .u32 0)∧w3.cell? ⟨g,9,none⟩=some (.slice none 0 0)∧w3.cell? ⟨g,10,none⟩=some (.slice none 0 0)∧w3.cell? ⟨g,11,none⟩=some (.slice none 0 0)∧w3.cell? ⟨g,12,none⟩=some (.slice none 0 0) from C.out.cf.all)
      obtain ⟨d0,d1,d2,d3,d4,d5⟩:=CB.out _ C.out.re.bel
      obtain ⟨G,hG⟩:∃ G,Hid (G=fun i=>i≠w.heap.size∧i≠g):=⟨_,hI rfl⟩
      have RP:=hI (show RdF G w3 (some ⟨bb,oo+6,none⟩) (t.take nn) by
       rw [hG.out]
       exact (RQ.out.keep (.of_below C.out.re.bel)).mono (fun i _ hi=>⟨Nat.ne_of_lt hi,Nat.ne_of_lt (Nat.lt_trans hi C.out.lt)⟩))
      have FG:=hI (show ∀ i,w3.heap.size≤i→G i by
       rw [hG.out]
       exact fun i hi=>⟨Nat.ne_of_gt (Nat.lt_of_lt_of_le C.out.re.res.lt hi),Nat.ne_of_gt (Nat.lt_of_lt_of_le C.out.cf.lt hi)⟩)
      go_upto_region 22 with (first
       | (go_at_call 33;(with_reducible refine (tgjget_v G (t.take nn) lt ct kt HGT.out mt hmt.out nn _ _ _ FG.out RP.out BP.out LP.out NN5.out HCC.out).mono ?_);rintro e wn ⟨A5,c5,rfl,h5c,h5,hb⟩;replace C:=hI (C.out.step hb);have RT:=hI h5;have HC5:=hI h5c;clear hb h5 h5c y0 y1 y2 y3 y4 y5 y6 y7 y8 y9 y10 y11 y12 z0 z1 z2 z3 z4 z5 z6 z7 z8 z9 z10 z11 z12 x0 x1 x2 x3 x4 x5 x6 x7 x8 x9 x10 x11 x12 d0 d1 d2 d3 d4 d5;obtain ⟨y0,y1,y2,y3,y4,y5,y6,y7,y8,y9,y10,y11,y12⟩:=C.out.re.res.all;obtain ⟨z0,z1,z2,z3,z4,z5,z6,z7,z8,z9,z10,z11,z12⟩:=C.out.re.res.free;obtain ⟨x0,x1,x2,x3,x4,x5,x6,x7,x8,x9,x10,x11,x12⟩:=(show wn.cell? ⟨g,0,none⟩=some (.int .u8 (c:Int))∧wn.cell? ⟨g,1,none⟩=some (.int .u16 (ss:Int))∧wn.cell? ⟨g,2,none⟩=some (.slice none 0 0)∧wn.cell? ⟨g,3,none⟩=some (.int .u16 0)∧wn.cell? ⟨g,4,none⟩=some (.int .u8 0)∧wn.cell? ⟨g,5,none⟩=some (.int .u8 0)∧wn.cell? ⟨g,6,none⟩=some (.slice none 0 0)∧wn.cell? ⟨g,7,none⟩=some (.int .u16 0)∧wn.cell? ⟨g,8,none⟩=some (.int .u32 0)∧wn.cell? ⟨g,9,none⟩=some (.slice none 0 0)∧wn.cell? ⟨g,10,none⟩=some (.slice none 0 0)∧wn.cell? ⟨g,11,none⟩=some (.slice none 0 0)∧wn.cell? ⟨g,12,none⟩=some (.slice none 0 0) from C.out.cf.all);obtain ⟨d0,d1,d2,d3,d4,d5⟩:=CB.out _ C.out.re.bel))
      by_cases g7:kt=0
      ·subst g7
       have hg:=HGG.out
       rw [if_pos rfl] at hg
       injection hg with e1 hg
       injection hg with e2 e3
       subst e1;subst e2;subst e3
       have gz:=C.out.cf.free.2.2.1
       go_upto_region 25 with fail
       have D:=hI (⟨⟨C.out.re.bel.setCell (p:=⟨g,2,none⟩) (Nat.le_of_lt C.out.lt) (.slice A5 mt c5),C.out.re.res.other _ (Nat.ne_of_lt C.out.lt)⟩,C.out.lt,C.out.cf.setTags A5 mt c5 lt⟩:GfE 31 w (wn.setCell ⟨g,2,none⟩ (.slice A5 mt c5)) g ⟨c,ss,lt,pk0⟩ ⟨A5,mt,c5,pl0⟩)
       have RK:=hI (show Rws shG G (wn.setCell ⟨g,2,none⟩ (.slice A5 mt c5)) A5 lt from RT.out.keep ((keeps_set wn g 2 _).less (fun i _ h=>by rw [hG.out] at h;exact h.2)))
       refine at_worldP (W:=wn.setCell ⟨g,2,none⟩ (.slice A5 mt c5)) (fun W=>Hid (GfE 31 w W g ⟨c,ss,lt,pk0⟩ ⟨A5,mt,c5,pl0⟩)∧Hid (Rws shG G W A5 lt)) ⟨D,RK⟩ ?_
       clear C D RK RT gz y0 y1 y2 y3 y4 y5 y6 y7 y8 y9 y10 y11 y12 z0 z1 z2 z3 z4 z5 z6 z7 z8 z9 z10 z11 z12 x0 x1 x2 x3 x4 x5 x6 x7 x8 x9 x10 x11 x12 d0 d1 d2 d3 d4 d5
       rintro w4 ⟨C,RT⟩
       obtain ⟨y0,y1,y2,y3,y4,y5,y6,y7,y8,y9,y10,y11,y12⟩:=C.out.re.res.all
       obtain ⟨z0,z1,z2,z3,z4,z5,z6,z7,z8,z9,z10,z11,z12⟩:=C.out.re.res.free
       obtain ⟨x0,x1,x2,x3,x4,x5,x6,x7,x8,x9,x10,x11,x12⟩:=(show w4.cell? ⟨g,0,none⟩=some (.int .u8 (c:Int))∧w4.cell? ⟨g,1,none⟩=some (.int .u16 (ss:Int))∧w4.cell? ⟨g,2,none⟩=some (.slice A5 mt c5)∧w4.cell? ⟨g,3,none⟩=some (.int .u16 0)∧w4.cell? ⟨g,4,none⟩=some (.int .u8 0)∧w4.cell? ⟨g,5,none⟩=some (.int .u8 0)∧w4.cell? ⟨g,6,none⟩=some (.slice none 0 0)∧w4.cell? ⟨g,7,none⟩=some (.int .u16 0)∧w4.cell? ⟨g,8,none⟩=some (.int .u32 0)∧w4.cell? ⟨g,9,none⟩=some (.slice none 0 0)∧w4.cell? ⟨g,10,none⟩=some (.slice none 0 0)∧w4.cell? ⟨g,11,none⟩=some (.slice none 0 0)∧w4.cell? ⟨g,12,none⟩=some (.slice none 0 0) from C.out.cf.all)
       go_wp2_with fail
       refine bodyPost_ret (v:=.tuple #[Fr.val ⟨c,ss,lt,pk0⟩ ⟨A5,mt,c5,pl0⟩,.int .i64 (n6:Int),.int .i64 0]) ?_ rfl (GetE.mk ⟨A5,mt,c5,pl0⟩ rfl ⟨hmt.out,((RT.out.keep ((put13_keeps w4 w.heap.size ⟨c,ss,lt,pk0⟩ ⟨A5,mt,c5,pl0⟩).less (fun i _ h=>by rw [hG.out] at h;exact h.1))).mono (fun _ _ _=>trivial)),HC5.out,pwF0⟩ (put13_below C.out.re.bel (Nat.le_refl _) ⟨c,ss,lt,pk0⟩ ⟨A5,mt,c5,pl0⟩))
       exact results_row_tmp2 rfl _ _ _ _ w.heap.size 31 _ _ _ rfl rfl rfl (put13_fx C.out.re.res ⟨c,ss,lt,pk0⟩ ⟨A5,mt,c5,pl0⟩) Tryz.underlying31 (by kernel_rfl)
      ·have hg:=HGG.out
       rw [if_neg g7] at hg
       obtain ⟨rfl,rfl,rfl⟩:=ebad_eq hg
       have j11:=z0t kt g7
       clear hg g7
       go_wp2_with fail
       refine bodyPost_ret (v:=.tuple #[fr0.val fl0,.int .i64 0,.int .i64 (kt:Int)]) ?_ rfl (GetE.mk fl0 rfl fwF0 (put13_below C.out.re.bel (Nat.le_refl _) fr0 fl0))
       exact results_row_tmp2 rfl _ _ _ _ w.heap.size 31 _ _ _ rfl rfl rfl (put13_fx C.out.re.res fr0 fl0) Tryz.underlying31 (by kernel_rfl)
   ·rw [if_neg g4] at hg
    have j6:=lt6 HL0.out hn6 (Nat.lt_of_not_le g4)
    obtain ⟨rfl,rfl,rfl⟩:=ebad_eq hg
    clear hg g3 g4 hn6
    obtain ⟨y0,y1,y2,y3,y4,y5,y6,y7,y8,y9,y10,y11,y12⟩:=C.out.re.res.all
    obtain ⟨z0,z1,z2,z3,z4,z5,z6,z7,z8,z9,z10,z11,z12⟩:=C.out.re.res.free
    obtain ⟨x0,x1,x2,x3,x4,x5,x6,x7,x8,x9,x10,x11,x12⟩:=(show w3.cell? ⟨g,0,none⟩=some (.int .u8 (c:Int))∧w3.cell? ⟨g,1,none⟩=some (.int .u16 (ss:Int))∧w3.cell? ⟨g,2,none⟩=some (.slice none 0 0)∧w3.cell? ⟨g,3,none⟩=some (.int .u16 0)∧w3.cell? ⟨g,4,none⟩=some (.int .u8 0)∧w3.cell? ⟨g,5,none⟩=some (.int .u8 0)∧w3.cell? ⟨g,6,none⟩=some (.slice none 0 0)∧w3.cell? ⟨g,7,none⟩=some (.int .u16 0)∧w3.cell? ⟨g,8,none⟩=some (.int .u32 0)∧w3.cell? ⟨g,9,none⟩=some (.slice none 0 0)∧w3.cell? ⟨g,10,none⟩=some (.slice none 0 0)∧w3.cell? ⟨g,11,none⟩=some (.slice none 0 0)∧w3.cell? ⟨g,12,none⟩=some (.slice none 0 0) from C.out.cf.all)
    obtain ⟨d0,d1,d2,d3,d4,d5⟩:=CB.out _ C.out.re.bel
    go_wp2_with fail
    refine bodyPost_ret (v:=.tuple #[fr0.val fl0,.int .i64 0,.int .i64 2]) ?_ rfl (GetE.mk fl0 rfl fwF0 (put13_below C.out.re.bel (Nat.le_refl _) fr0 fl0))
    exact results_row_tmp2 rfl _ _ _ _ w.heap.size 31 _ _ _ rfl rfl rfl (put13_fx C.out.re.res fr0 fl0) Tryz.underlying31 (by kernel_rfl)
  ·rw [if_neg g3] at hg
   have j3:=gt94 (Nat.lt_of_not_le g3)
   obtain ⟨rfl,rfl,rfl⟩:=ebad_eq hg
   clear hg g3
   obtain ⟨y0,y1,y2,y3,y4,y5,y6,y7,y8,y9,y10,y11,y12⟩:=C.out.re.res.all
   obtain ⟨z0,z1,z2,z3,z4,z5,z6,z7,z8,z9,z10,z11,z12⟩:=C.out.re.res.free
   obtain ⟨x0,x1,x2,x3,x4,x5,x6,x7,x8,x9,x10,x11,x12⟩:=(show w3.cell? ⟨g,0,none⟩=some (.int .u8 (c:Int))∧w3.cell? ⟨g,1,none⟩=some (.int .u16 (ss:Int))∧w3.cell? ⟨g,2,none⟩=some (.slice none 0 0)∧w3.cell? ⟨g,3,none⟩=some (.int .u16 0)∧w3.cell? ⟨g,4,none⟩=some (.int .u8 0)∧w3.cell? ⟨g,5,none⟩=some (.int .u8 0)∧w3.cell? ⟨g,6,none⟩=some (.slice none 0 0)∧w3.cell? ⟨g,7,none⟩=some (.int .u16 0)∧w3.cell? ⟨g,8,none⟩=some (.int .u32 0)∧w3.cell? ⟨g,9,none⟩=some (.slice none 0 0)∧w3.cell? ⟨g,10,none⟩=some (.slice none 0 0)∧w3.cell? ⟨g,11,none⟩=some (.slice none 0 0)∧w3.cell? ⟨g,12,none⟩=some (.slice none 0 0) from C.out.cf.all)
   obtain ⟨d0,d1,d2,d3,d4,d5⟩:=CB.out _ C.out.re.bel
   go_wp2_with fail
   refine bodyPost_ret (v:=.tuple #[fr0.val fl0,.int .i64 0,.int .i64 3]) ?_ rfl (GetE.mk fl0 rfl fwF0 (put13_below C.out.re.bel (Nat.le_refl _) fr0 fl0))
   exact results_row_tmp2 rfl _ _ _ _ w.heap.size 31 _ _ _ rfl rfl rfl (put13_fx C.out.re.res fr0 fl0) Tryz.underlying31 (by kernel_rfl)
theorem erget_any (b:List Nat) (n cap:Nat) (A:Option Addr) (w:World) (h:Rd w w.heap.size A b) (hb:By b) (hl:b.length=n) (hn:n≤1073741824) (hc:n≤cap) (f:Fr) (m k:Nat) (hg:egetB b=(f,m,k)) :
  Calls Tryz.prog 12 #[.slice A n cap] w (GetE w f m k):=by
 have short:n<6→ebad 2=(f,m,k)→Calls Tryz.prog 12 #[.slice A n cap] w (GetE w f m k):=fun h1 h2=>by
  obtain ⟨rfl,rfl,rfl⟩:=ebad_eq h2
  exact erget_short n cap A w h1
 match b,h,hb,hl,hg with
 | [],h,hb,hl,hg=>exact short (by rw [←hl];decide) hg
 | [_],h,hb,hl,hg=>exact short (by rw [←hl];exact (by decide:1<6)) hg
 | [_,_],h,hb,hl,hg=>exact short (by rw [←hl];exact (by decide:2<6)) hg
 | [_,_,_],h,hb,hl,hg=>exact short (by rw [←hl];exact (by decide:3<6)) hg
 | [_,_,_,_],h,hb,hl,hg=>exact short (by rw [←hl];exact (by decide:4<6)) hg
 | [_,_,_,_,_],h,hb,hl,hg=>exact short (by rw [←hl];exact (by decide:5<6)) hg
 | v :: c :: s1 :: s2 :: n1 :: n2 :: t,h,hb,hl,hg =>
  simp only [egetB] at hg
  have hl':t.length+6=n:=hl
  by_cases g1:v=17
  ·rw [if_pos g1] at hg
   by_cases g2:ecode c (s1*256+s2)=0
   ·rw [if_pos g2] at hg
    exact erget_rest v c s1 s2 n1 n2 t n cap A w h hb hl' hn hc g1 g2 f m k hg
   ·rw [if_neg g2] at hg
    obtain ⟨rfl,rfl,rfl⟩:=ebad_eq hg
    exact erget_code v c s1 s2 n1 n2 t n cap A w h hb hl' hn hc g1 _ rfl g2
  ·rw [if_neg g1] at hg
   obtain ⟨rfl,rfl,rfl⟩:=ebad_eq hg
   exact erget_form v c s1 s2 n1 n2 t n cap A w h hb hl' hn hc g1
end Go.Proofs.YtmhjnghomihjlaaGreat
