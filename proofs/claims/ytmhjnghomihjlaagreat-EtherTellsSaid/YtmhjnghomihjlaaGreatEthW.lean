/-
  What the document's Put of layer 22 answers. No condition beyond: at most 2^37 tags with at most 2^36 octets; packets that Go may have.
-/
import Derived.Test.YtmhjnghomihjlaaGreatEthR
import Derived.Test.YtmhjnghomihjlaaGreatEthV
import Derived.Test.YtmhjnghomihjlaaGreatBodR
import Derived.Test.YtmhjnghomihjlaaGreatGTag
namespace Go.Proofs.YtmhjnghomihjlaaGreat
set_option maxRecDepth 8000
set_option maxHeartbeats 80000000
set_option linter.unusedVariables false
open Go.RowKit
structure OnF (T:TypeId) (w W:World) (f:Fr) (q:Fl):Prop where
 bel:Below w.heap.size w W
 cf:Fx W w.heap.size T f q
theorem OnF.made (T:TypeId) (w:World) (f:Fr) (q:Fl):OnF T w (w.alloc (f.obj q T)) f q:=⟨(Below.refl _ _).alloc (Nat.le_refl _) _,fx_new w T f q⟩
theorem OnF.step {T:TypeId} {w W W':World} {f:Fr} {q:Fl} (h:OnF T w W f q) (hb:Below W.heap.size W W'):OnF T w W' f q:=⟨h.bel.trans (hb.mono h.bel.size),h.cf.below hb⟩
theorem psame_pk0 (p:Pk) (q:Pl) (w:World) (hp:Pw w p q) (hs:p.sm) (z:Bool) (hz:decide (p=pk0)=z) :
  Calls Tryz.prog 27 #[p.val q,.agg #[.int .u16 0,.int .u8 0,.int .u8 0,.slice none 0 0,.int .u16 0,.int .u32 0,.slice none 0 0,.slice none 0 0,.slice none 0 0,.slice none 0 0]] w fun e w'=>e=.returned (.bool z)∧Below w.heap.size w w':=psame_any p pk0 q pl0 w hp (pw0 w) hs z hz
theorem tglen_le (l:List (Nat × List Nat)) (n:Nat) (h:l.length=n) (hn:n≤137438953472) (hd:tgdat l≤68719476736):(tgput l).length≤1099511627776:=by rw [tgput_len,h];omega
theorem elay_app (f:Fr) (m:List Nat) {s1 s2 n1 n2:Nat} (h1:f.sess / 256=s1) (h2:f.sess % 256=s2) (h3:m.length / 256=n1) (h4:m.length % 256=n2):elay f m=[17,f.code,s1,s2,n1,n2] ++ m:=by rw [←h1,← h2,← h3,← h4];rfl
theorem erput_code (f:Fr) (q:Fl) (w:World) (h:FwF (fun _=>True) w f q) (hok:f.ok) (hs:f.pkt.sm) (hn:q.nt≤137438953472) (hd:tgdat f.tags≤68719476736) (k:Nat) (hk:ecode f.code f.sess=k) (hk0:k≠0) :
  Calls Tryz.prog 10 #[f.val q] w fun e w'=>PutR w [] 0 k e w':=by
 obtain ⟨i0,hi,hz0,hz1,hz2⟩:=info_parts byte_info
 have C:=hI (OnF.made 31 w f q)
 have H:=hI h
 have OK:=hI hok
 have HS:=hI hs
 have HNQ:=hI hn
 have HDQ:=hI hd
 have g1:=hok.code
 have g2:=hok.sess
 have g3:=hok.pkt.proto
 have t1:=tw64 f.code (Nat.lt_trans g1 (by decide))
 have t2:=tw64 f.sess g2
 have t3:=ti64 f.code (Nat.lt_trans g1 (by decide))
 have t4:=ti64 f.sess g2
 obtain ⟨wm,hwm⟩:∃ wm,wm=w.alloc (f.obj q 31):=⟨_,rfl⟩
 rw [←hwm] at C
 have HW:=hI hwm
 clear hwm h hok hs hn hd
 have EC:=hI hk
 have j1:=z0t k hk0
 clear hk hk0
 go_enter Tryz.func10,Tryz.ntmps10
 go_upto_region 1 with fail
 rw [←HW.out]
 obtain ⟨x0,x1,x2,x3,x4,x5,x6,x7,x8,x9,x10,x11,x12⟩:=C.out.cf.all
 go_wp2_with (first
  | (go_at_call 26;(with_reducible refine (eright_any f.code f.sess _ EC.out _).mono ?_);rintro e wn ⟨rfl,hwn⟩;subst hwn))
 go_ret2
 exact PutR.mk none 0 rfl Rd.nil (Nat.le_refl _) C.out.bel
theorem erput_tags (f:Fr) (q:Fl) (w:World) (h:FwF (fun _=>True) w f q) (hok:f.ok) (hs:f.pkt.sm) (hn:q.nt≤137438953472) (hd:tgdat f.tags≤68719476736) (hk:ecode f.code f.sess=0) (hc:f.code=0) (ht:f.tags≠[]) :
  Calls Tryz.prog 10 #[f.val q] w fun e w'=>PutR w [] 0 9 e w':=by
 obtain ⟨i0,hi,hz0,hz1,hz2⟩:=info_parts byte_info
 have C:=hI (OnF.made 31 w f q)
 have H:=hI h
 have OK:=hI hok
 have HS:=hI hs
 have HNQ:=hI hn
 have HDQ:=hI hd
 have g1:=hok.code
 have g2:=hok.sess
 have g3:=hok.pkt.proto
 have t1:=tw64 f.code (Nat.lt_trans g1 (by decide))
 have t2:=tw64 f.sess g2
 have t3:=ti64 f.code (Nat.lt_trans g1 (by decide))
 have t4:=ti64 f.sess g2
 obtain ⟨wm,hwm⟩:∃ wm,wm=w.alloc (f.obj q 31):=⟨_,rfl⟩
 rw [←hwm] at C
 have HW:=hI hwm
 clear hwm h hok hs hn hd
 have EC:=hI hk
 have j2:((f.code:Int) == 0)=true:=by rw [hc];rfl
 have j3:(0:Int)<(q.nt:Int):=by
  have:=H.out.lt
  have:=List.length_pos_iff.2 ht
  omega
 clear hk hc ht
 go_enter Tryz.func10,Tryz.ntmps10
 go_upto_region 1 with fail
 rw [←HW.out]
 obtain ⟨x0,x1,x2,x3,x4,x5,x6,x7,x8,x9,x10,x11,x12⟩:=C.out.cf.all
 go_wp2_with (first
  | (go_at_call 26;(with_reducible refine (eright_any f.code f.sess _ EC.out _).mono ?_);rintro e wn ⟨rfl,hwn⟩;subst hwn))
 go_ret2
 exact PutR.mk none 0 rfl Rd.nil (Nat.le_refl _) C.out.bel
theorem erput_pkt (f:Fr) (q:Fl) (w:World) (h:FwF (fun _=>True) w f q) (hok:f.ok) (hs:f.pkt.sm) (hn:q.nt≤137438953472) (hd:tgdat f.tags≤68719476736) (hk:ecode f.code f.sess=0) (hc:¬ f.code=0) (ht:¬ f.pkt=pk0) :
  Calls Tryz.prog 10 #[f.val q] w fun e w'=>PutR w [] 0 9 e w':=by
 obtain ⟨i0,hi,hz0,hz1,hz2⟩:=info_parts byte_info
 have C:=hI (OnF.made 31 w f q)
 have H:=hI h
 have OK:=hI hok
 have HS:=hI hs
 have HNQ:=hI hn
 have HDQ:=hI hd
 have g1:=hok.code
 have g2:=hok.sess
 have g3:=hok.pkt.proto
 have t1:=tw64 f.code (Nat.lt_trans g1 (by decide))
 have t2:=tw64 f.sess g2
 have t3:=ti64 f.code (Nat.lt_trans g1 (by decide))
 have t4:=ti64 f.sess g2
 obtain ⟨wm,hwm⟩:∃ wm,wm=w.alloc (f.obj q 31):=⟨_,rfl⟩
 rw [←hwm] at C
 have HW:=hI hwm
 clear hwm h hok hs hn hd
 have EC:=hI hk
 have j2:=z0f f.code hc
 have j3:=z0t f.code hc
 have PE:=hI (decide_eq_false ht)
 clear hk hc ht
 go_enter Tryz.func10,Tryz.ntmps10
 go_upto_region 1 with fail
 rw [←HW.out]
 obtain ⟨x0,x1,x2,x3,x4,x5,x6,x7,x8,x9,x10,x11,x12⟩:=C.out.cf.all
 go_wp2_with (first
  | (go_at_call 26;(with_reducible refine (eright_any f.code f.sess _ EC.out _).mono ?_);rintro e wn ⟨rfl,hwn⟩;subst hwn)
  | (go_at_call 27;(with_reducible refine (psame_pk0 f.pkt q.pl _ (H.out.on C.out.bel).pk.pw HS.out _ PE.out).mono ?_);rintro e wn ⟨rfl,hb⟩;replace C:=hI (C.out.step hb);clear hb x0 x1 x2 x3 x4 x5 x6 x7 x8 x9 x10 x11 x12;obtain ⟨x0,x1,x2,x3,x4,x5,x6,x7,x8,x9,x10,x11,x12⟩:=C.out.cf.all))
 go_ret2
 exact PutR.mk none 0 rfl Rd.nil (Nat.le_refl _) C.out.bel
theorem erput_b20 (f:Fr) (q:Fl) (w:World) (h:FwF (fun _=>True) w f q) (hok:f.ok) (hs:f.pkt.sm) (hn:q.nt≤137438953472) (hd:tgdat f.tags≤68719476736) (hk:ecode f.code f.sess=0) (hc:f.code=0) (ht:f.tags=[]) (m1:List Nat) (k:Nat) (hb1:bputB f.pkt=(m1,k)) (hk0:k≠0) :
  Calls Tryz.prog 10 #[f.val q] w fun e w'=>PutR w [] 0 k e w':=by
 obtain ⟨i0,hi,hz0,hz1,hz2⟩:=info_parts byte_info
 have C:=hI (OnF.made 31 w f q)
 have H:=hI h
 have OK:=hI hok
 have HS:=hI hs
 have HNQ:=hI hn
 have HDQ:=hI hd
 have g1:=hok.code
 have g2:=hok.sess
 have g3:=hok.pkt.proto
 have t1:=tw64 f.code (Nat.lt_trans g1 (by decide))
 have t2:=tw64 f.sess g2
 have t3:=ti64 f.code (Nat.lt_trans g1 (by decide))
 have t4:=ti64 f.sess g2
 obtain ⟨wm,hwm⟩:∃ wm,wm=w.alloc (f.obj q 31):=⟨_,rfl⟩
 rw [←hwm] at C
 have HW:=hI hwm
 clear hwm h hok hs hn hd
 have EC:=hI hk
 have j2:((f.code:Int) == 0)=true:=by rw [hc];rfl
 have j3:((f.code:Int) != 0)=false:=by rw [hc];rfl
 have hnt:q.nt=0:=by
  have:=H.out.lt
  rw [ht] at this
  simpa using this.symm
 have HNT:=hI hnt
 clear hnt
 obtain ⟨n1,hn1⟩:∃ n,Hid (m1.length=n):=⟨_,hI rfl⟩
 have BE:=hI hb1
 have j5:=z0t k hk0
 clear hk hc ht hb1 hk0
 go_enter Tryz.func10,Tryz.ntmps10
 go_upto_region 1 with fail
 rw [←HW.out]
 obtain ⟨x0,x1,x2,x3,x4,x5,x6,x7,x8,x9,x10,x11,x12⟩:=C.out.cf.all
 rw [HNT.out] at x2
 have C0:=hI (C.out.step ((Below.refl wm.heap.size wm).alloc (Nat.le_refl _) (.cells #[] 5)))
 obtain ⟨y0,y1,y2,y3,y4,y5,y6,y7,y8,y9,y10,y11,y12⟩:=C0.out.cf.all
 go_wp2_with (first
  | (go_at_call 26;(with_reducible refine (eright_any f.code f.sess _ EC.out _).mono ?_);rintro e wn ⟨rfl,hwn⟩;subst hwn)
  | (go_at_call 28;(with_reducible refine (rbput_any f.pkt q.pl _ (H.out.on C0.out.bel).pk.pw OK.out.pkt HS.out _ _ BE.out n1 hn1.out).mono ?_);rintro e wn ⟨A5,c5,rfl,h5,h5c,hb⟩;replace C:=hI (C0.out.step hb);have X5:=hI h5;have H5C:=hI h5c;clear h5 h5c;clear hb C0 x0 x1 x2 x3 x4 x5 x6 x7 x8 x9 x10 x11 x12 y0 y1 y2 y3 y4 y5 y6 y7 y8 y9 y10 y11 y12;obtain ⟨x0,x1,x2,x3,x4,x5,x6,x7,x8,x9,x10,x11,x12⟩:=C.out.cf.all))
 go_ret2
 exact PutR.mk none 0 rfl Rd.nil (Nat.le_refl _) C.out.bel
theorem erput_slong (f:Fr) (q:Fl) (w:World) (h:FwF (fun _=>True) w f q) (hok:f.ok) (hs:f.pkt.sm) (hn:q.nt≤137438953472) (hd:tgdat f.tags≤68719476736) (hk:ecode f.code f.sess=0) (hc:f.code=0) (ht:f.tags=[]) (m1:List Nat) (hb1:bputB f.pkt=(m1,0)) (hl:1494<m1.length+2) (hl2:m1.length≤549755813888) :
  Calls Tryz.prog 10 #[f.val q] w fun e w'=>PutR w [] 0 3 e w':=by
 obtain ⟨i0,hi,hz0,hz1,hz2⟩:=info_parts byte_info
 have C:=hI (OnF.made 31 w f q)
 have H:=hI h
 have OK:=hI hok
 have HS:=hI hs
 have HNQ:=hI hn
 have HDQ:=hI hd
 have g1:=hok.code
 have g2:=hok.sess
 have g3:=hok.pkt.proto
 have t1:=tw64 f.code (Nat.lt_trans g1 (by decide))
 have t2:=tw64 f.sess g2
 have t3:=ti64 f.code (Nat.lt_trans g1 (by decide))
 have t4:=ti64 f.sess g2
 obtain ⟨wm,hwm⟩:∃ wm,wm=w.alloc (f.obj q 31):=⟨_,rfl⟩
 rw [←hwm] at C
 have HW:=hI hwm
 clear hwm h hok hs hn hd
 have EC:=hI hk
 have j2:((f.code:Int) == 0)=true:=by rw [hc];rfl
 have j3:((f.code:Int) != 0)=false:=by rw [hc];rfl
 have hnt:q.nt=0:=by
  have:=H.out.lt
  rw [ht] at this
  simpa using this.symm
 have HNT:=hI hnt
 clear hnt
 obtain ⟨n1,hn1⟩:∃ n,Hid (m1.length=n):=⟨_,hI rfl⟩
 have BE:=hI hb1
 obtain ⟨z1,hz1'⟩:∃ z,Hid (f.pkt.proto / 256=z):=⟨_,hI rfl⟩
 obtain ⟨z2,hz2'⟩:∃ z,Hid (f.pkt.proto % 256=z):=⟨_,hI rfl⟩
 have v1:=dv1 hz1'.out g3
 have v2:=md1 hz2'.out
 have v3:=dvI hz1'.out
 have v4:=mdI hz2'.out
 have v5:=wr8 v1
 have v6:=wr8 v2
 have v7:=wr16 v1
 obtain ⟨n2,hn2⟩:∃ n2,2+n1=n2:=⟨_,rfl⟩
 have hl3:n1=m1.length:=hn1.out.symm
 have hl5:n1≤549755813888:=by omega
 have j6:(1494:Int)<(n2:Int):=by omega
 clear hk hc ht hb1 hl hl2 hl3
 go_enter Tryz.func10,Tryz.ntmps10
 go_upto_region 1 with fail
 rw [←HW.out]
 obtain ⟨x0,x1,x2,x3,x4,x5,x6,x7,x8,x9,x10,x11,x12⟩:=C.out.cf.all
 rw [HNT.out] at x2
 have C0:=hI (C.out.step ((Below.refl wm.heap.size wm).alloc (Nat.le_refl _) (.cells #[] 5)))
 obtain ⟨y0,y1,y2,y3,y4,y5,y6,y7,y8,y9,y10,y11,y12⟩:=C0.out.cf.all
 go_wp2_with (first
  | (go_at_call 26;(with_reducible refine (eright_any f.code f.sess _ EC.out _).mono ?_);rintro e wn ⟨rfl,hwn⟩;subst hwn)
  | (go_at_call 28;(with_reducible refine (rbput_any f.pkt q.pl _ (H.out.on C0.out.bel).pk.pw OK.out.pkt HS.out _ _ BE.out n1 hn1.out).mono ?_);rintro e wn ⟨A5,c5,rfl,h5,h5c,hb⟩;replace C:=hI (C0.out.step hb);have X5:=hI h5;have H5C:=hI h5c;clear h5 h5c;clear hb C0 x0 x1 x2 x3 x4 x5 x6 x7 x8 x9 x10 x11 x12 y0 y1 y2 y3 y4 y5 y6 y7 y8 y9 y10 y11 y12;obtain ⟨x0,x1,x2,x3,x4,x5,x6,x7,x8,x9,x10,x11,x12⟩:=C.out.cf.all;have OX:=hI (show (wn.alloc (.cells #[.int .u8 (z1:Int),.int .u8 (z2:Int)] 5)).ownsRow wn.heap.size 5 1 (.slice (some ⟨wn.heap.size,0,none⟩) 2 2) 2 (bvs [z1,z2]) from World.ownsRow_lit wn #[.int .u8 (z1:Int),.int .u8 (z2:Int)] 2 (Nat.le_refl _) (by unfold maxLen;omega) rfl);have BX:=hI ((Below.refl wn.heap.size wn).alloc (Nat.le_refl _) (.cells #[.int .u8 (z1:Int),.int .u8 (z2:Int)] 5));have P1:=hI trivial)
  | (at_builtin;have _g:=P1;clear _g;refine list_app rfl _ _ _ rfl _ i0 Tryz.underlying26 hi hz0 hz1 hz2 _ _ 2 [z1,z2] rfl OX.out _ _ n1 _ m1 rfl (X5.out.on BX.out) hn1.out (by omega) BX.out.size ?_;intro A6 c6 w6 h6 hg6;rw [hn2] at h6 ⊢;have hb:=BX.out.grown hg6 BX.out.size (fun g hg=>(OX.out.lt g hg).1);replace C:=hI (C.out.step hb);have X6:=hI (Rd.own h6);clear P1 h6 hg6 OX BX hb x0 x1 x2 x3 x4 x5 x6 x7 x8 x9 x10 x11 x12;obtain ⟨x0,x1,x2,x3,x4,x5,x6,x7,x8,x9,x10,x11,x12⟩:=C.out.cf.all))
 go_ret2
 exact PutR.mk none 0 rfl Rd.nil (Nat.le_refl _) C.out.bel
theorem erput_sok (f:Fr) (q:Fl) (w:World) (h:FwF (fun _=>True) w f q) (hok:f.ok) (hs:f.pkt.sm) (hn:q.nt≤137438953472) (hd:tgdat f.tags≤68719476736) (hk:ecode f.code f.sess=0) (hc:f.code=0) (ht:f.tags=[]) (m1:List Nat) (hb1:bputB f.pkt=(m1,0)) (hl:m1.length+2≤1494) (n:Nat) (hn9:(elay f (f.pkt.proto / 256 :: f.pkt.proto % 256 :: m1)).length=n) :
  Calls Tryz.prog 10 #[f.val q] w fun e w'=>PutR w (elay f (f.pkt.proto / 256 :: f.pkt.proto % 256 :: m1)) n 0 e w':=by
 obtain ⟨i0,hi,hz0,hz1,hz2⟩:=info_parts byte_info
 have C:=hI (OnF.made 31 w f q)
 have H:=hI h
 have OK:=hI hok
 have HS:=hI hs
 have HNQ:=hI hn
 have HDQ:=hI hd
 have g1:=hok.code
 have g2:=hok.sess
 have g3:=hok.pkt.proto
 have t1:=tw64 f.code (Nat.lt_trans g1 (by decide))
 have t2:=tw64 f.sess g2
 have t3:=ti64 f.code (Nat.lt_trans g1 (by decide))
 have t4:=ti64 f.sess g2
 obtain ⟨wm,hwm⟩:∃ wm,wm=w.alloc (f.obj q 31):=⟨_,rfl⟩
 rw [←hwm] at C
 have HW:=hI hwm
 clear hwm h hok hs hn hd
 have EC:=hI hk
 have j2:((f.code:Int) == 0)=true:=by rw [hc];rfl
 have j3:((f.code:Int) != 0)=false:=by rw [hc];rfl
 have hnt:q.nt=0:=by
  have:=H.out.lt
  rw [ht] at this
  simpa using this.symm
 have HNT:=hI hnt
 clear hnt
 obtain ⟨n1,hn1⟩:∃ n,Hid (m1.length=n):=⟨_,hI rfl⟩
 have BE:=hI hb1
 obtain ⟨z1,hz1'⟩:∃ z,Hid (f.pkt.proto / 256=z):=⟨_,hI rfl⟩
 obtain ⟨z2,hz2'⟩:∃ z,Hid (f.pkt.proto % 256=z):=⟨_,hI rfl⟩
 have v1:=dv1 hz1'.out g3
 have v2:=md1 hz2'.out
 have v3:=dvI hz1'.out
 have v4:=mdI hz2'.out
 have v5:=wr8 v1
 have v6:=wr8 v2
 have v7:=wr16 v1
 obtain ⟨n2,hn2⟩:∃ n2,2+n1=n2:=⟨_,rfl⟩
 have hl3:n1=m1.length:=hn1.out.symm
 have hl5:n1+2≤1494:=by omega
 have hl6:n2≤1494:=by omega
 obtain ⟨s1,hs1⟩:∃ z,Hid (f.sess / 256=z):=⟨_,hI rfl⟩
 obtain ⟨s2,hs2⟩:∃ z,Hid (f.sess % 256=z):=⟨_,hI rfl⟩
 obtain ⟨l1,hl1⟩:∃ z,Hid (n2 / 256=z):=⟨_,hI rfl⟩
 obtain ⟨l2,hl2⟩:∃ z,Hid (n2 % 256=z):=⟨_,hI rfl⟩
 have y1:=dv1 hs1.out g2
 have y2:=md1 hs2.out
 have y4:=md1 hl2.out
 have e1:=dvI hs1.out
 have e2:=mdI hs2.out
 have e3:=dvI hl1.out
 have e4:=mdI hl2.out
 have a1:=wr8 y1
 have a2:=wr8 y2
 have a4:=wr8 y4
 have b1:=wr16 y1
 obtain ⟨n6,hn6⟩:∃ n6,6+n2=n6:=⟨_,rfl⟩
 have y3:=dv1 hl1.out (show n2<65536 from Nat.lt_of_le_of_lt hl6 (by decide))
 have a3:=wr8 y3
 have b3:=ti64 l1 (Nat.lt_trans y3 (by decide))
 have j6:=le94 hl6
 have hn7:n6=n:=by
  rw [elay_len] at hn9
  simp only [List.length_cons] at hn9
  omega
 have HE:=hI (show elay f (f.pkt.proto / 256 :: f.pkt.proto % 256 :: m1)=[17,f.code,s1,s2,l1,l2] ++ ([z1,z2] ++ m1) by
  rw [hz1'.out,hz2'.out]
  have e9:(z1 :: z2 :: m1).length=n2:=by simp only [List.length_cons];omega
  exact elay_app f (z1 :: z2 :: m1) hs1.out hs2.out (by rw [e9];exact hl1.out) (by rw [e9];exact hl2.out))
 have HN2:=hI (show ([z1,z2] ++ m1).length=n2 by simp;omega)
 subst hn7
 rw [HE.out]
 clear hk hc ht hb1 hl hn9 hl3
 go_enter Tryz.func10,Tryz.ntmps10
 go_upto_region 1 with fail
 rw [←HW.out]
 obtain ⟨x0,x1,x2,x3,x4,x5,x6,x7,x8,x9,x10,x11,x12⟩:=C.out.cf.all
 rw [HNT.out] at x2
 have C0:=hI (C.out.step ((Below.refl wm.heap.size wm).alloc (Nat.le_refl _) (.cells #[] 5)))
 obtain ⟨y0,y1,y2,y3,y4,y5,y6,y7,y8,y9,y10,y11,y12⟩:=C0.out.cf.all
 go_wp2_with (first
  | (go_at_call 26;(with_reducible refine (eright_any f.code f.sess _ EC.out _).mono ?_);rintro e wn ⟨rfl,hwn⟩;subst hwn)
  | (go_at_call 28;(with_reducible refine (rbput_any f.pkt q.pl _ (H.out.on C0.out.bel).pk.pw OK.out.pkt HS.out _ _ BE.out n1 hn1.out).mono ?_);rintro e wn ⟨A5,c5,rfl,h5,h5c,hb⟩;replace C:=hI (C0.out.step hb);have X5:=hI h5;have H5C:=hI h5c;clear h5 h5c;clear hb C0 x0 x1 x2 x3 x4 x5 x6 x7 x8 x9 x10 x11 x12 y0 y1 y2 y3 y4 y5 y6 y7 y8 y9 y10 y11 y12;obtain ⟨x0,x1,x2,x3,x4,x5,x6,x7,x8,x9,x10,x11,x12⟩:=C.out.cf.all;have OX:=hI (show (wn.alloc (.cells #[.int .u8 (z1:Int),.int .u8 (z2:Int)] 5)).ownsRow wn.heap.size 5 1 (.slice (some ⟨wn.heap.size,0,none⟩) 2 2) 2 (bvs [z1,z2]) from World.ownsRow_lit wn #[.int .u8 (z1:Int),.int .u8 (z2:Int)] 2 (Nat.le_refl _) (by unfold maxLen;omega) rfl);have BX:=hI ((Below.refl wn.heap.size wn).alloc (Nat.le_refl _) (.cells #[.int .u8 (z1:Int),.int .u8 (z2:Int)] 5));have P1:=hI trivial)
  | (at_builtin;have _g:=P1;clear _g;refine list_app rfl _ _ _ rfl _ i0 Tryz.underlying26 hi hz0 hz1 hz2 _ _ 2 [z1,z2] rfl OX.out _ _ n1 _ m1 rfl (X5.out.on BX.out) hn1.out (by omega) BX.out.size ?_;intro A6 c6 w6 h6 hg6;rw [hn2] at h6 ⊢;have hb:=BX.out.grown hg6 BX.out.size (fun g hg=>(OX.out.lt g hg).1);replace C:=hI (C.out.step hb);have X6:=hI (Rd.own h6);have OL:=hI (show (w6.alloc (.cells #[.int .u8 17,.int .u8 (f.code:Int),.int .u8 (s1:Int),.int .u8 (s2:Int),.int .u8 (l1:Int),.int .u8 (l2:Int)] 5)).ownsRow w6.heap.size 5 1 (.slice (some ⟨w6.heap.size,0,none⟩) 6 6) 6 (bvs [17,f.code,s1,s2,l1,l2]) from World.ownsRow_lit w6 #[.int .u8 17,.int .u8 (f.code:Int),.int .u8 (s1:Int),.int .u8 (s2:Int),.int .u8 (l1:Int),.int .u8 (l2:Int)] 6 (Nat.le_refl _) (by unfold maxLen;omega) rfl);have BL:=hI ((Below.refl w6.heap.size w6).alloc (Nat.le_refl _) (.cells #[.int .u8 17,.int .u8 (f.code:Int),.int .u8 (s1:Int),.int .u8 (s2:Int),.int .u8 (l1:Int),.int .u8 (l2:Int)] 5));have P2:=hI trivial;clear P1 h6 hg6 OX BX hb x0 x1 x2 x3 x4 x5 x6 x7 x8 x9 x10 x11 x12;obtain ⟨x0,x1,x2,x3,x4,x5,x6,x7,x8,x9,x10,x11,x12⟩:=C.out.cf.all)
  | (at_builtin;have _g:=P2;clear _g;refine list_app rfl _ _ _ rfl _ i0 Tryz.underlying26 hi hz0 hz1 hz2 _ _ 6 [17,f.code,s1,s2,l1,l2] rfl OL.out _ _ n2 _ ([z1,z2] ++ m1) rfl (X6.out.on BL.out) HN2.out (by omega) BL.out.size ?_;intro A7 c7 w7 h7 hg7;rw [hn6] at h7 ⊢;have hb:=BL.out.grown hg7 BL.out.size (fun g hg=>(OL.out.lt g hg).1);replace C:=hI (C.out.step hb);clear P2 hb hg7))
 go_ret2
 exact PutR.mk A7 c7 rfl (Rd.own h7) (own_cap h7) C.out.bel
theorem etrput_v (l:List (Nat × List Nat)) (q:Nat) (hq:tgerr l=q) (m:List Nat) (hm:tgputA l=m) (k:Nat) (hk:m.length=k) (n c:Nat) (A:Option Addr) (F:Nat→Prop) (w:World) (h:Rws shG F w A l) (hl:l.length=n) (hn:n≤137438953472) (hd:tgdat l≤68719476736) (hG:ByG l) :
  Calls Tryz.prog 29 #[.slice A n c] w fun e w'=>∃ A' c',e=.returned (.tuple #[.slice A' k c',.int .i64 (q:Int)])∧Rd w' w'.heap.size A' m∧k≤c'∧Below w.heap.size w w' :=
 (tgrput_any l n c A F w h hl hn hd (fun o ho=>(hG o ho).1)).mono fun _ _ ⟨A',c',k',h1,h2⟩=>by
  rw [hq] at h1
  rw [hm] at h2
  obtain rfl:k=k':=by rw [←hk,h2.1]
  exact ⟨A',c',h1,h2.2.2.1,own_cap h2.2.1,h2.2.2.2⟩
theorem erput_terr (f:Fr) (q:Fl) (w:World) (h:FwF (fun _=>True) w f q) (hok:f.ok) (hs:f.pkt.sm) (hn:q.nt≤137438953472) (hd:tgdat f.tags≤68719476736) (hk:ecode f.code f.sess=0) (hc:¬ f.code=0) (ht:f.pkt=pk0) (k:Nat) (hb1:tgerr f.tags=k) (hk0:k≠0) :
  Calls Tryz.prog 10 #[f.val q] w fun e w'=>PutR w [] 0 k e w':=by
 obtain ⟨i0,hi,hz0,hz1,hz2⟩:=info_parts byte_info
 have C:=hI (OnF.made 31 w f q)
 have H:=hI h
 have OK:=hI hok
 have HS:=hI hs
 have HNQ:=hI hn
 have HDQ:=hI hd
 have g1:=hok.code
 have g2:=hok.sess
 have g3:=hok.pkt.proto
 have t1:=tw64 f.code (Nat.lt_trans g1 (by decide))
 have t2:=tw64 f.sess g2
 have t3:=ti64 f.code (Nat.lt_trans g1 (by decide))
 have t4:=ti64 f.sess g2
 obtain ⟨wm,hwm⟩:∃ wm,wm=w.alloc (f.obj q 31):=⟨_,rfl⟩
 rw [←hwm] at C
 have HW:=hI hwm
 clear hwm h hok hs hn hd
 have EC:=hI hk
 have j2:=z0f f.code hc
 have j3:=z0t f.code hc
 have PE:=hI (decide_eq_true ht)
 have TE:=hI hb1
 have TA:=hI (show tgputA f.tags=[] by unfold tgputA;rw [if_neg (by rw [hb1];exact hk0)])
 obtain ⟨n2,hn2⟩:∃ n,Hid (([]:List Nat).length=n):=⟨_,hI rfl⟩
 have j5:=z0t k hk0
 clear hk hc ht hb1 hk0
 go_enter Tryz.func10,Tryz.ntmps10
 go_upto_region 1 with fail
 rw [←HW.out]
 obtain ⟨x0,x1,x2,x3,x4,x5,x6,x7,x8,x9,x10,x11,x12⟩:=C.out.cf.all
 go_wp2_with (first
  | (go_at_call 26;(with_reducible refine (eright_any f.code f.sess _ EC.out _).mono ?_);rintro e wn ⟨rfl,hwn⟩;subst hwn)
  | (go_at_call 27;(with_reducible refine (psame_pk0 f.pkt q.pl _ (H.out.on C.out.bel).pk.pw HS.out _ PE.out).mono ?_);rintro e wn ⟨rfl,hb⟩;replace C:=hI (C.out.step hb);clear hb x0 x1 x2 x3 x4 x5 x6 x7 x8 x9 x10 x11 x12;obtain ⟨x0,x1,x2,x3,x4,x5,x6,x7,x8,x9,x10,x11,x12⟩:=C.out.cf.all;have C0:=hI (C.out.step ((Below.refl wn.heap.size wn).alloc (Nat.le_refl _) (.cells #[] 5)));obtain ⟨y0,y1,y2,y3,y4,y5,y6,y7,y8,y9,y10,y11,y12⟩:=C0.out.cf.all)
  | (go_at_call 29;(with_reducible refine (etrput_v f.tags _ TE.out _ TA.out n2 hn2.out q.nt q.ct q.at_ _ _ (H.out.on C0.out.bel).rt H.out.lt HNQ.out HDQ.out OK.out.tags).mono ?_);rintro e wn ⟨A5,c5,rfl,h5,h5c,hb⟩;replace C:=hI (C0.out.step hb);have X5:=hI h5;clear h5 h5c C0 hb x0 x1 x2 x3 x4 x5 x6 x7 x8 x9 x10 x11 x12 y0 y1 y2 y3 y4 y5 y6 y7 y8 y9 y10 y11 y12;obtain ⟨x0,x1,x2,x3,x4,x5,x6,x7,x8,x9,x10,x11,x12⟩:=C.out.cf.all))
 go_ret2
 exact PutR.mk none 0 rfl Rd.nil (Nat.le_refl _) C.out.bel
theorem erput_tlong (f:Fr) (q:Fl) (w:World) (h:FwF (fun _=>True) w f q) (hok:f.ok) (hs:f.pkt.sm) (hn:q.nt≤137438953472) (hd:tgdat f.tags≤68719476736) (hk:ecode f.code f.sess=0) (hc:¬ f.code=0) (ht:f.pkt=pk0) (hb1:tgerr f.tags=0) (hl:1494<(tgput f.tags).length) :
  Calls Tryz.prog 10 #[f.val q] w fun e w'=>PutR w [] 0 3 e w':=by
 obtain ⟨i0,hi,hz0,hz1,hz2⟩:=info_parts byte_info
 have C:=hI (OnF.made 31 w f q)
 have H:=hI h
 have OK:=hI hok
 have HS:=hI hs
 have HNQ:=hI hn
 have HDQ:=hI hd
 have g1:=hok.code
 have g2:=hok.sess
 have g3:=hok.pkt.proto
 have t1:=tw64 f.code (Nat.lt_trans g1 (by decide))
 have t2:=tw64 f.sess g2
 have t3:=ti64 f.code (Nat.lt_trans g1 (by decide))
 have t4:=ti64 f.sess g2
 obtain ⟨wm,hwm⟩:∃ wm,wm=w.alloc (f.obj q 31):=⟨_,rfl⟩
 rw [←hwm] at C
 have HW:=hI hwm
 clear hwm h hok hs hn hd
 have EC:=hI hk
 have j2:=z0f f.code hc
 have j3:=z0t f.code hc
 have PE:=hI (decide_eq_true ht)
 have TE:=hI hb1
 have TA:=hI (show tgputA f.tags=tgput f.tags by unfold tgputA;rw [if_pos hb1])
 obtain ⟨n2,hn2⟩:∃ n,Hid ((tgput f.tags).length=n):=⟨_,hI rfl⟩
 have hl3:n2≤1099511627776:=by rw [←hn2.out];exact tglen_le _ _ H.out.lt HNQ.out HDQ.out
 have j6:=gt94 (hn2.out ▸ hl)
 clear hk hc ht hb1 hl
 go_enter Tryz.func10,Tryz.ntmps10
 go_upto_region 1 with fail
 rw [←HW.out]
 obtain ⟨x0,x1,x2,x3,x4,x5,x6,x7,x8,x9,x10,x11,x12⟩:=C.out.cf.all
 go_wp2_with (first
  | (go_at_call 26;(with_reducible refine (eright_any f.code f.sess _ EC.out _).mono ?_);rintro e wn ⟨rfl,hwn⟩;subst hwn)
  | (go_at_call 27;(with_reducible refine (psame_pk0 f.pkt q.pl _ (H.out.on C.out.bel).pk.pw HS.out _ PE.out).mono ?_);rintro e wn ⟨rfl,hb⟩;replace C:=hI (C.out.step hb);clear hb x0 x1 x2 x3 x4 x5 x6 x7 x8 x9 x10 x11 x12;obtain ⟨x0,x1,x2,x3,x4,x5,x6,x7,x8,x9,x10,x11,x12⟩:=C.out.cf.all;have C0:=hI (C.out.step ((Below.refl wn.heap.size wn).alloc (Nat.le_refl _) (.cells #[] 5)));obtain ⟨y0,y1,y2,y3,y4,y5,y6,y7,y8,y9,y10,y11,y12⟩:=C0.out.cf.all)
  | (go_at_call 29;(with_reducible refine (etrput_v f.tags _ TE.out _ TA.out n2 hn2.out q.nt q.ct q.at_ _ _ (H.out.on C0.out.bel).rt H.out.lt HNQ.out HDQ.out OK.out.tags).mono ?_);rintro e wn ⟨A5,c5,rfl,h5,h5c,hb⟩;replace C:=hI (C0.out.step hb);have X5:=hI h5;clear h5 h5c C0 hb x0 x1 x2 x3 x4 x5 x6 x7 x8 x9 x10 x11 x12 y0 y1 y2 y3 y4 y5 y6 y7 y8 y9 y10 y11 y12;obtain ⟨x0,x1,x2,x3,x4,x5,x6,x7,x8,x9,x10,x11,x12⟩:=C.out.cf.all))
 go_ret2
 exact PutR.mk none 0 rfl Rd.nil (Nat.le_refl _) C.out.bel
theorem erput_tok (f:Fr) (q:Fl) (w:World) (h:FwF (fun _=>True) w f q) (hok:f.ok) (hs:f.pkt.sm) (hn:q.nt≤137438953472) (hd:tgdat f.tags≤68719476736) (hk:ecode f.code f.sess=0) (hc:¬ f.code=0) (ht:f.pkt=pk0) (hb1:tgerr f.tags=0) (hl:(tgput f.tags).length≤1494) (n:Nat) (hn9:(elay f (tgput f.tags)).length=n) :
  Calls Tryz.prog 10 #[f.val q] w fun e w'=>PutR w (elay f (tgput f.tags)) n 0 e w':=by
 obtain ⟨i0,hi,hz0,hz1,hz2⟩:=info_parts byte_info
 have C:=hI (OnF.made 31 w f q)
 have H:=hI h
 have OK:=hI hok
 have HS:=hI hs
 have HNQ:=hI hn
 have HDQ:=hI hd
 have g1:=hok.code
 have g2:=hok.sess
 have g3:=hok.pkt.proto
 have t1:=tw64 f.code (Nat.lt_trans g1 (by decide))
 have t2:=tw64 f.sess g2
 have t3:=ti64 f.code (Nat.lt_trans g1 (by decide))
 have t4:=ti64 f.sess g2
 obtain ⟨wm,hwm⟩:∃ wm,wm=w.alloc (f.obj q 31):=⟨_,rfl⟩
 rw [←hwm] at C
 have HW:=hI hwm
 clear hwm h hok hs hn hd
 have EC:=hI hk
 have j2:=z0f f.code hc
 have j3:=z0t f.code hc
 have PE:=hI (decide_eq_true ht)
 have TE:=hI hb1
 have TA:=hI (show tgputA f.tags=tgput f.tags by unfold tgputA;rw [if_pos hb1])
 obtain ⟨n2,hn2⟩:∃ n,Hid ((tgput f.tags).length=n):=⟨_,hI rfl⟩
 have hl3:n2≤1099511627776:=by rw [←hn2.out];exact tglen_le _ _ H.out.lt HNQ.out HDQ.out
 have hl6:n2≤1494:=by rw [←hn2.out];exact hl
 obtain ⟨s1,hs1⟩:∃ z,Hid (f.sess / 256=z):=⟨_,hI rfl⟩
 obtain ⟨s2,hs2⟩:∃ z,Hid (f.sess % 256=z):=⟨_,hI rfl⟩
 obtain ⟨l1,hl1⟩:∃ z,Hid (n2 / 256=z):=⟨_,hI rfl⟩
 obtain ⟨l2,hl2⟩:∃ z,Hid (n2 % 256=z):=⟨_,hI rfl⟩
 have y1:=dv1 hs1.out g2
 have y2:=md1 hs2.out
 have y4:=md1 hl2.out
 have e1:=dvI hs1.out
 have e2:=mdI hs2.out
 have e3:=dvI hl1.out
 have e4:=mdI hl2.out
 have a1:=wr8 y1
 have a2:=wr8 y2
 have a4:=wr8 y4
 have b1:=wr16 y1
 obtain ⟨n6,hn6⟩:∃ n6,6+n2=n6:=⟨_,rfl⟩
 have y3:=dv1 hl1.out (show n2<65536 from Nat.lt_of_le_of_lt hl6 (by decide))
 have a3:=wr8 y3
 have b3:=ti64 l1 (Nat.lt_trans y3 (by decide))
 have j6:=le94 hl6
 have hn7:n6=n:=by
  rw [elay_len,hn2.out] at hn9
  omega
 have HE:=hI (show elay f (tgput f.tags)=[17,f.code,s1,s2,l1,l2] ++ tgput f.tags from elay_app f (tgput f.tags) hs1.out hs2.out (by rw [hn2.out];exact hl1.out) (by rw [hn2.out];exact hl2.out))
 subst hn7
 rw [HE.out]
 clear hk hc ht hb1 hl hn9
 go_enter Tryz.func10,Tryz.ntmps10
 go_upto_region 1 with fail
 rw [←HW.out]
 obtain ⟨x0,x1,x2,x3,x4,x5,x6,x7,x8,x9,x10,x11,x12⟩:=C.out.cf.all
 go_wp2_with (first
  | (go_at_call 26;(with_reducible refine (eright_any f.code f.sess _ EC.out _).mono ?_);rintro e wn ⟨rfl,hwn⟩;subst hwn)
  | (go_at_call 27;(with_reducible refine (psame_pk0 f.pkt q.pl _ (H.out.on C.out.bel).pk.pw HS.out _ PE.out).mono ?_);rintro e wn ⟨rfl,hb⟩;replace C:=hI (C.out.step hb);clear hb x0 x1 x2 x3 x4 x5 x6 x7 x8 x9 x10 x11 x12;obtain ⟨x0,x1,x2,x3,x4,x5,x6,x7,x8,x9,x10,x11,x12⟩:=C.out.cf.all;have C0:=hI (C.out.step ((Below.refl wn.heap.size wn).alloc (Nat.le_refl _) (.cells #[] 5)));obtain ⟨y0,y1,y2,y3,y4,y5,y6,y7,y8,y9,y10,y11,y12⟩:=C0.out.cf.all)
  | (go_at_call 29;(with_reducible refine (etrput_v f.tags _ TE.out _ TA.out n2 hn2.out q.nt q.ct q.at_ _ _ (H.out.on C0.out.bel).rt H.out.lt HNQ.out HDQ.out OK.out.tags).mono ?_);rintro e wn ⟨A5,c5,rfl,h5,h5c,hb⟩;replace C:=hI (C0.out.step hb);have X5:=hI h5;clear h5 h5c C0 hb x0 x1 x2 x3 x4 x5 x6 x7 x8 x9 x10 x11 x12 y0 y1 y2 y3 y4 y5 y6 y7 y8 y9 y10 y11 y12;obtain ⟨x0,x1,x2,x3,x4,x5,x6,x7,x8,x9,x10,x11,x12⟩:=C.out.cf.all;have OL:=hI (show (wn.alloc (.cells #[.int .u8 17,.int .u8 (f.code:Int),.int .u8 (s1:Int),.int .u8 (s2:Int),.int .u8 (l1:Int),.int .u8 (l2:Int)] 5)).ownsRow wn.heap.size 5 1 (.slice (some ⟨wn.heap.size,0,none⟩) 6 6) 6 (bvs [17,f.code,s1,s2,l1,l2]) from World.ownsRow_lit wn #[.int .u8 17,.int .u8 (f.code:Int),.int .u8 (s1:Int),.int .u8 (s2:Int),.int .u8 (l1:Int),.int .u8 (l2:Int)] 6 (Nat.le_refl _) (by unfold maxLen;omega) rfl);have BL:=hI ((Below.refl wn.heap.size wn).alloc (Nat.le_refl _) (.cells #[.int .u8 17,.int .u8 (f.code:Int),.int .u8 (s1:Int),.int .u8 (s2:Int),.int .u8 (l1:Int),.int .u8 (l2:Int)] 5));have P2:=hI trivial)
  | (at_builtin;have _g:=P2;clear _g;refine list_app rfl _ _ _ rfl _ i0 Tryz.underlying26 hi hz0 hz1 hz2 _ _ 6 [17,f.code,s1,s2,l1,l2] rfl OL.out _ _ n2 _ (tgput f.tags) rfl (X5.out.on BL.out) hn2.out (by omega) BL.out.size ?_;intro A7 c7 w7 h7 hg7;rw [hn6] at h7 ⊢;have hb:=BL.out.grown hg7 BL.out.size (fun g hg=>(OL.out.lt g hg).1);replace C:=hI (C.out.step hb);clear P2 hb hg7))
 go_ret2
 exact PutR.mk A7 c7 rfl (Rd.own h7) (own_cap h7) C.out.bel
theorem erput_any (f:Fr) (q:Fl) (w:World) (h:FwF (fun _=>True) w f q) (hok:f.ok) (hs:f.pkt.sm) (hn:q.nt≤137438953472) (hd:tgdat f.tags≤68719476736) (hl:(bputB f.pkt).1.length≤549755813888) (m:List Nat) (k:Nat) (hm:eputB f=(m,k)) (n:Nat) (hn9:m.length=n) :
  Calls Tryz.prog 10 #[f.val q] w fun e w'=>PutR w m n k e w':=by
 unfold eputB at hm
 by_cases h1:ecode f.code f.sess=0
 ·rw [if_pos h1] at hm
  unfold epay at hm
  by_cases h2:f.code=0
  ·rw [if_pos h2] at hm
   by_cases h3:f.tags=[]
   ·rw [if_pos h3] at hm
    by_cases h4:(bputB f.pkt).2=0
    ·rw [if_pos h4] at hm
     dsimp only at hm
     rw [if_pos rfl] at hm
     by_cases h5:(bputB f.pkt).1.length+2≤1494
     ·rw [if_pos (by simp only [List.length_cons];omega)] at hm
      injection hm with e1 e2
      subst e1;subst e2
      exact erput_sok f q w h hok hs hn hd h1 h2 h3 (bputB f.pkt).1 (Prod.ext rfl h4) h5 n hn9
     ·rw [if_neg (by simp only [List.length_cons];omega)] at hm
      injection hm with e1 e2
      subst e1;subst e2
      obtain rfl:0=n:=hn9
      exact erput_slong f q w h hok hs hn hd h1 h2 h3 (bputB f.pkt).1 (Prod.ext rfl h4) (Nat.lt_of_not_le h5) hl
    ·rw [if_neg h4] at hm
     dsimp only at hm
     rw [if_neg h4] at hm
     injection hm with e1 e2
     subst e1;subst e2
     obtain rfl:0=n:=hn9
     exact erput_b20 f q w h hok hs hn hd h1 h2 h3 _ _ rfl h4
   ·rw [if_neg h3] at hm
    dsimp only at hm
    rw [if_neg (by decide)] at hm
    injection hm with e1 e2
    subst e1;subst e2
    obtain rfl:0=n:=hn9
    exact erput_tags f q w h hok hs hn hd h1 h2 h3
  ·rw [if_neg h2] at hm
   by_cases h3:f.pkt=pk0
   ·rw [if_pos h3] at hm
    by_cases h4:tgerr f.tags=0
    ·rw [if_pos h4] at hm
     dsimp only at hm
     rw [if_pos rfl] at hm
     by_cases h5:(tgput f.tags).length≤1494
     ·rw [if_pos h5] at hm
      injection hm with e1 e2
      subst e1;subst e2
      exact erput_tok f q w h hok hs hn hd h1 h2 h3 h4 h5 n hn9
     ·rw [if_neg h5] at hm
      injection hm with e1 e2
      subst e1;subst e2
      obtain rfl:0=n:=hn9
      exact erput_tlong f q w h hok hs hn hd h1 h2 h3 h4 (by omega)
    ·rw [if_neg h4] at hm
     dsimp only at hm
     rw [if_neg h4] at hm
     injection hm with e1 e2
     subst e1;subst e2
     obtain rfl:0=n:=hn9
     exact erput_terr f q w h hok hs hn hd h1 h2 h3 _ rfl h4
   ·rw [if_neg h3] at hm
    dsimp only at hm
    rw [if_neg (by decide)] at hm
    injection hm with e1 e2
    subst e1;subst e2
    obtain rfl:0=n:=hn9
    exact erput_pkt f q w h hok hs hn hd h1 h2 h3
 ·rw [if_neg h1] at hm
  injection hm with e1 e2
  subst e1;subst e2
  obtain rfl:0=n:=hn9
  exact erput_code f q w h hok hs hn hd _ rfl h1
end Go.Proofs.YtmhjnghomihjlaaGreat
