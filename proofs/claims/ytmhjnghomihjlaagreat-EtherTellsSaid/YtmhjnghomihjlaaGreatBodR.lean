/-
  What the document's Put of layer 20 answers. No condition beyond: packets that Go may have, at most 2^30 elements in each slice.
-/
import Derived.Test.YtmhjnghomihjlaaGreatGMat
import Derived.Test.YtmhjnghomihjlaaGreatLcpR
import Derived.Test.YtmhjnghomihjlaaGreatNcpR
import Derived.Test.YtmhjnghomihjlaaGreatPapR
import Derived.Test.YtmhjnghomihjlaaGreatChpR
import Derived.Test.YtmhjnghomihjlaaGreatLqrR
import Derived.Deep.CutRange
namespace Go.Proofs.YtmhjnghomihjlaaGreat
set_option maxRecDepth 8000
set_option maxHeartbeats 80000000
set_option linter.unusedVariables false
open Go.RowKit
theorem rbput_lcp (p:Pk) (q:Pl) (w:World) (hp:Pw w p q) (hok:p.ok) (hs:p.sm) (h:p.proto=49185) (m:List Nat) (k:Nat) (hm:lputB p=(m,k)) (n:Nat) (hn:m.length=n) :
  Calls Tryz.prog 28 #[p.val q] w fun e w'=>PutR w m n k e w':=by
 have C:=hI (BxC.made 29 w p q)
 have H:=hI hp
 have HOK:=hI hok
 have HS:=hI hs
 have HM:=hI hm
 have HN:=hI hn
 have H32:=hI (show N32 p.nums from hok.nums)
 have H65:=hI hok.proto
 have HQ:=hI (show rightB p.proto=true by rw [h];decide)
 have wp:wrap64 (p.proto:Int)=(p.proto:Int):=by unfold wrap64;have:=hok.proto;omega
 have f0:((p.proto:Int) == 49185)=true:=by simp;omega
 clear h hp hok hs hm hn
 go_enter Tryz.func28,Tryz.ntmps28
 go_upto_region 1 with fail
 with_reducible refine at_worldP (fun W=>Hid (BxC 29 w W p q)) C ?_
 clear C
 rintro W C
 obtain ⟨x0,x1,x2,x3,x4,x5,x6,x7,x8,x9⟩:=C.out.cf.all
 go_wp2_with (first
  | (go_at_call 47;(with_reducible refine (rright_v p.proto true H65.out HQ.out _).mono ?_);rintro e wn ⟨rfl,rfl⟩)
  | (go_at_call 48;(with_reducible refine (lrp_any p q _ (H.out.on C.out.bel) HOK.out HS.out m k HM.out n HN.out).mono ?_);rintro e wn ⟨A5,c5,rfl,h5,h5c,hb⟩;replace C:=hI (C.out.step hb);have X5:=hI h5;have K5:=hI h5c;clear h5 h5c hb))
 go_ret2
 exact PutR.mk A5 c5 rfl X5.out K5.out C.out.bel
theorem rbput_ipcp (p:Pk) (q:Pl) (w:World) (hp:Pw w p q) (hok:p.ok) (hs:p.sm) (h:p.proto=32801) (m:List Nat) (k:Nat) (hm:nputB p=(m,k)) (n:Nat) (hn:m.length=n) :
  Calls Tryz.prog 28 #[p.val q] w fun e w'=>PutR w m n k e w':=by
 have C:=hI (BxC.made 29 w p q)
 have H:=hI hp
 have HOK:=hI hok
 have HS:=hI hs
 have HM:=hI hm
 have HN:=hI hn
 have H32:=hI (show N32 p.nums from hok.nums)
 have H65:=hI hok.proto
 have HQ:=hI (show rightB p.proto=true by rw [h];decide)
 have wp:wrap64 (p.proto:Int)=(p.proto:Int):=by unfold wrap64;have:=hok.proto;omega
 have f0:((p.proto:Int) == 49185)=false:=by simp;omega
 have f1:((p.proto:Int) == 32801)=true:=by simp;omega
 clear h hp hok hs hm hn
 go_enter Tryz.func28,Tryz.ntmps28
 go_upto_region 1 with fail
 with_reducible refine at_worldP (fun W=>Hid (BxC 29 w W p q)) C ?_
 clear C
 rintro W C
 obtain ⟨x0,x1,x2,x3,x4,x5,x6,x7,x8,x9⟩:=C.out.cf.all
 go_wp2_with (first
  | (go_at_call 47;(with_reducible refine (rright_v p.proto true H65.out HQ.out _).mono ?_);rintro e wn ⟨rfl,rfl⟩)
  | (go_at_call 49;(with_reducible refine (nrp_any p q _ (H.out.on C.out.bel) HOK.out HS.out m k HM.out n HN.out).mono ?_);rintro e wn ⟨A5,c5,rfl,h5,h5c,hb⟩;replace C:=hI (C.out.step hb);have X5:=hI h5;have K5:=hI h5c;clear h5 h5c hb))
 go_ret2
 exact PutR.mk A5 c5 rfl X5.out K5.out C.out.bel
theorem rbput_ip6cp (p:Pk) (q:Pl) (w:World) (hp:Pw w p q) (hok:p.ok) (hs:p.sm) (h:p.proto=32855) (m:List Nat) (k:Nat) (hm:nputB p=(m,k)) (n:Nat) (hn:m.length=n) :
  Calls Tryz.prog 28 #[p.val q] w fun e w'=>PutR w m n k e w':=by
 have C:=hI (BxC.made 29 w p q)
 have H:=hI hp
 have HOK:=hI hok
 have HS:=hI hs
 have HM:=hI hm
 have HN:=hI hn
 have H32:=hI (show N32 p.nums from hok.nums)
 have H65:=hI hok.proto
 have HQ:=hI (show rightB p.proto=true by rw [h];decide)
 have wp:wrap64 (p.proto:Int)=(p.proto:Int):=by unfold wrap64;have:=hok.proto;omega
 have f0:((p.proto:Int) == 49185)=false:=by simp;omega
 have f1:((p.proto:Int) == 32801)=false:=by simp;omega
 have f2:((p.proto:Int) == 32855)=true:=by simp;omega
 clear h hp hok hs hm hn
 go_enter Tryz.func28,Tryz.ntmps28
 go_upto_region 1 with fail
 with_reducible refine at_worldP (fun W=>Hid (BxC 29 w W p q)) C ?_
 clear C
 rintro W C
 obtain ⟨x0,x1,x2,x3,x4,x5,x6,x7,x8,x9⟩:=C.out.cf.all
 go_wp2_with (first
  | (go_at_call 47;(with_reducible refine (rright_v p.proto true H65.out HQ.out _).mono ?_);rintro e wn ⟨rfl,rfl⟩)
  | (go_at_call 49;(with_reducible refine (nrp_any p q _ (H.out.on C.out.bel) HOK.out HS.out m k HM.out n HN.out).mono ?_);rintro e wn ⟨A5,c5,rfl,h5,h5c,hb⟩;replace C:=hI (C.out.step hb);have X5:=hI h5;have K5:=hI h5c;clear h5 h5c hb))
 go_ret2
 exact PutR.mk A5 c5 rfl X5.out K5.out C.out.bel
theorem rbput_pap (p:Pk) (q:Pl) (w:World) (hp:Pw w p q) (hok:p.ok) (hs:p.sm) (h:p.proto=49187) (m:List Nat) (k:Nat) (hm:aputB p=(m,k)) (n:Nat) (hn:m.length=n) :
  Calls Tryz.prog 28 #[p.val q] w fun e w'=>PutR w m n k e w':=by
 have C:=hI (BxC.made 29 w p q)
 have H:=hI hp
 have HOK:=hI hok
 have HS:=hI hs
 have HM:=hI hm
 have HN:=hI hn
 have H32:=hI (show N32 p.nums from hok.nums)
 have H65:=hI hok.proto
 have HQ:=hI (show rightB p.proto=true by rw [h];decide)
 have wp:wrap64 (p.proto:Int)=(p.proto:Int):=by unfold wrap64;have:=hok.proto;omega
 have f0:((p.proto:Int) == 49185)=false:=by simp;omega
 have f1:((p.proto:Int) == 32801)=false:=by simp;omega
 have f2:((p.proto:Int) == 32855)=false:=by simp;omega
 have f3:((p.proto:Int) == 49187)=true:=by simp;omega
 clear h hp hok hs hm hn
 go_enter Tryz.func28,Tryz.ntmps28
 go_upto_region 1 with fail
 with_reducible refine at_worldP (fun W=>Hid (BxC 29 w W p q)) C ?_
 clear C
 rintro W C
 obtain ⟨x0,x1,x2,x3,x4,x5,x6,x7,x8,x9⟩:=C.out.cf.all
 go_wp2_with (first
  | (go_at_call 47;(with_reducible refine (rright_v p.proto true H65.out HQ.out _).mono ?_);rintro e wn ⟨rfl,rfl⟩)
  | (go_at_call 50;(with_reducible refine (arp_any p q _ (H.out.on C.out.bel) HS.out m k HM.out n HN.out).mono ?_);rintro e wn ⟨A5,c5,rfl,h5,h5c,hb⟩;replace C:=hI (C.out.step hb);have X5:=hI h5;have K5:=hI h5c;clear h5 h5c hb))
 go_ret2
 exact PutR.mk A5 c5 rfl X5.out K5.out C.out.bel
theorem rbput_chap (p:Pk) (q:Pl) (w:World) (hp:Pw w p q) (hok:p.ok) (hs:p.sm) (h:p.proto=49699) (m:List Nat) (k:Nat) (hm:chputB p=(m,k)) (n:Nat) (hn:m.length=n) :
  Calls Tryz.prog 28 #[p.val q] w fun e w'=>PutR w m n k e w':=by
 have C:=hI (BxC.made 29 w p q)
 have H:=hI hp
 have HOK:=hI hok
 have HS:=hI hs
 have HM:=hI hm
 have HN:=hI hn
 have H32:=hI (show N32 p.nums from hok.nums)
 have H65:=hI hok.proto
 have HQ:=hI (show rightB p.proto=true by rw [h];decide)
 have wp:wrap64 (p.proto:Int)=(p.proto:Int):=by unfold wrap64;have:=hok.proto;omega
 have f0:((p.proto:Int) == 49185)=false:=by simp;omega
 have f1:((p.proto:Int) == 32801)=false:=by simp;omega
 have f2:((p.proto:Int) == 32855)=false:=by simp;omega
 have f3:((p.proto:Int) == 49187)=false:=by simp;omega
 have f4:((p.proto:Int) == 49699)=true:=by simp;omega
 clear h hp hok hs hm hn
 go_enter Tryz.func28,Tryz.ntmps28
 go_upto_region 1 with fail
 with_reducible refine at_worldP (fun W=>Hid (BxC 29 w W p q)) C ?_
 clear C
 rintro W C
 obtain ⟨x0,x1,x2,x3,x4,x5,x6,x7,x8,x9⟩:=C.out.cf.all
 go_wp2_with (first
  | (go_at_call 47;(with_reducible refine (rright_v p.proto true H65.out HQ.out _).mono ?_);rintro e wn ⟨rfl,rfl⟩)
  | (go_at_call 51;(with_reducible refine (chrp_any p q _ (H.out.on C.out.bel) HS.out m k HM.out n HN.out).mono ?_);rintro e wn ⟨A5,c5,rfl,h5,h5c,hb⟩;replace C:=hI (C.out.step hb);have X5:=hI h5;have K5:=hI h5c;clear h5 h5c hb))
 go_ret2
 exact PutR.mk A5 c5 rfl X5.out K5.out C.out.bel
theorem rbput_lqr (p:Pk) (q:Pl) (w:World) (hp:Pw w p q) (hok:p.ok) (hs:p.sm) (h:p.proto=49189) (m:List Nat) (k:Nat) (hm:lqputB p=(m,k)) (n:Nat) (hn:m.length=n) :
  Calls Tryz.prog 28 #[p.val q] w fun e w'=>PutR w m n k e w':=by
 have C:=hI (BxC.made 29 w p q)
 have H:=hI hp
 have HOK:=hI hok
 have HS:=hI hs
 have HM:=hI hm
 have HN:=hI hn
 have H32:=hI (show N32 p.nums from hok.nums)
 have H65:=hI hok.proto
 have HQ:=hI (show rightB p.proto=true by rw [h];decide)
 have wp:wrap64 (p.proto:Int)=(p.proto:Int):=by unfold wrap64;have:=hok.proto;omega
 have f0:((p.proto:Int) == 49185)=false:=by simp;omega
 have f1:((p.proto:Int) == 32801)=false:=by simp;omega
 have f2:((p.proto:Int) == 32855)=false:=by simp;omega
 have f3:((p.proto:Int) == 49187)=false:=by simp;omega
 have f4:((p.proto:Int) == 49699)=false:=by simp;omega
 have f5:((p.proto:Int) == 49189)=true:=by simp;omega
 clear h hp hok hs hm hn
 go_enter Tryz.func28,Tryz.ntmps28
 go_upto_region 1 with fail
 with_reducible refine at_worldP (fun W=>Hid (BxC 29 w W p q)) C ?_
 clear C
 rintro W C
 obtain ⟨x0,x1,x2,x3,x4,x5,x6,x7,x8,x9⟩:=C.out.cf.all
 go_wp2_with (first
  | (go_at_call 47;(with_reducible refine (rright_v p.proto true H65.out HQ.out _).mono ?_);rintro e wn ⟨rfl,rfl⟩)
  | (go_at_call 52;(with_reducible refine (rlput_any p q _ (H.out.on C.out.bel) H32.out m k HM.out n HN.out).mono ?_);rintro e wn ⟨A5,c5,rfl,h5,h5c,hb⟩;replace C:=hI (C.out.step hb);have X5:=hI h5;have K5:=hI h5c;clear h5 h5c hb))
 go_ret2
 exact PutR.mk A5 c5 rfl X5.out K5.out C.out.bel
theorem rbput_none (p:Pk) (q:Pl) (w:World) (hp:Pw w p q) (hok:p.ok) (hs:p.sm) (h:rightB p.proto=false) :
  Calls Tryz.prog 28 #[p.val q] w fun e w'=>PutR w [] 0 7 e w':=by
 have C:=hI (BxC.made 29 w p q)
 have H65:=hI hok.proto
 have HQ:=hI h
 have wp:wrap64 (p.proto:Int)=(p.proto:Int):=by unfold wrap64;have:=hok.proto;omega
 clear h hp hok hs
 go_enter Tryz.func28,Tryz.ntmps28
 go_upto_region 1 with fail
 with_reducible refine at_worldP (fun W=>Hid (BxC 29 w W p q)) C ?_
 clear C
 rintro W C
 obtain ⟨x0,x1,x2,x3,x4,x5,x6,x7,x8,x9⟩:=C.out.cf.all
 go_wp2_with ((go_at_call 47;(with_reducible refine (rright_v p.proto false H65.out HQ.out _).mono ?_);rintro e wn ⟨rfl,rfl⟩))
 go_ret2
 exact PutR.mk none 0 rfl Rd.nil (Nat.le_refl _) C.out.bel
theorem dat_first {p:Pk} {q:Pl} {w:World} (hp:Pw w p q) (h:bareD p=false):p.code≠0∨(p.code=0∧p.id≠0)∨(p.code=0∧p.id=0∧0<q.no)∨(p.code=0∧p.id=0∧q.no=0∧p.sub≠0)∨(p.code=0∧p.id=0∧q.no=0∧p.sub=0∧p.magic≠0)∨(p.code=0∧p.id=0∧q.no=0∧p.sub=0∧p.magic=0∧0<q.n1)∨(p.code=0∧p.id=0∧q.no=0∧p.sub=0∧p.magic=0∧q.n1=0∧0<q.n2)∨(p.code=0∧p.id=0∧q.no=0∧p.sub=0∧p.magic=0∧q.n1=0∧q.n2=0∧0<q.nn):=by
 have e0:=hp.lo
 have e1:=hp.l1
 have e2:=hp.l2
 have e3:=hp.ln
 have:¬ (p.code=0∧p.id=0∧p.sub=0∧p.magic=0∧p.opts.length=0∧p.one.length=0∧p.two.length=0∧p.nums.length=0):=by
  rintro ⟨a1,a2,a3,a4,a5,a6,a7,a8⟩
  rw [bareD,a1,a2,a3,a4,a5,a6,a7,a8] at h
  simp at h
 omega
theorem dat_all {p:Pk} {q:Pl} {w:World} (hp:Pw w p q) (h:bareD p=true):p.code=0∧p.id=0∧q.no=0∧p.sub=0∧p.magic=0∧q.n1=0∧q.n2=0∧q.nn=0:=by
 have e0:=hp.lo
 have e1:=hp.l1
 have e2:=hp.l2
 have e3:=hp.ln
 simp only [bareD,Bool.and_eq_true,decide_eq_true_eq] at h
 omega
theorem rbput_field (p:Pk) (q:Pl) (w:World) (hp:Pw w p q) (hok:p.ok) (hs:p.sm) (h:rightB p.proto=true) (hl:¬ layB p.proto) (hb:bareD p=false) :
  Calls Tryz.prog 28 #[p.val q] w fun e w'=>PutR w [] 0 9 e w':=by
 unfold layB at hl
 have C:=hI (BxC.made 29 w p q)
 have H65:=hI hok.proto
 have HQ:=hI h
 have wp:wrap64 (p.proto:Int)=(p.proto:Int):=by unfold wrap64;have:=hok.proto;omega
 have f0:((p.proto:Int) == 49185)=false:=by simp;omega
 have f1:((p.proto:Int) == 32801)=false:=by simp;omega
 have f2:((p.proto:Int) == 32855)=false:=by simp;omega
 have f3:((p.proto:Int) == 49187)=false:=by simp;omega
 have f4:((p.proto:Int) == 49699)=false:=by simp;omega
 have f5:((p.proto:Int) == 49189)=false:=by simp;omega
 have hf:=dat_first hp hb
 clear h hb hp hok hs hl
 rcases hf with a0 | ⟨a0,a1⟩ | ⟨a0,a1,a2⟩ | ⟨a0,a1,a2,a3⟩ | ⟨a0,a1,a2,a3,a4⟩ | ⟨a0,a1,a2,a3,a4,a5⟩ | ⟨a0,a1,a2,a3,a4,a5,a6⟩ | ⟨a0,a1,a2,a3,a4,a5,a6,a7⟩
 ·have g0:=ne0 a0
  clear a0
  go_enter Tryz.func28,Tryz.ntmps28
  go_upto_region 1 with fail
  with_reducible refine at_worldP (fun W=>Hid (BxC 29 w W p q)) C ?_
  clear C
  rintro W C
  obtain ⟨x0,x1,x2,x3,x4,x5,x6,x7,x8,x9⟩:=C.out.cf.all
  go_wp2_with ((go_at_call 47;(with_reducible refine (rright_v p.proto true H65.out HQ.out _).mono ?_);rintro e wn ⟨rfl,rfl⟩))
  go_ret2
  exact PutR.mk none 0 rfl Rd.nil (Nat.le_refl _) C.out.bel
 ·have g0:=eq0 a0
  have g1:=ne0 a1
  clear a0 a1
  go_enter Tryz.func28,Tryz.ntmps28
  go_upto_region 1 with fail
  with_reducible refine at_worldP (fun W=>Hid (BxC 29 w W p q)) C ?_
  clear C
  rintro W C
  obtain ⟨x0,x1,x2,x3,x4,x5,x6,x7,x8,x9⟩:=C.out.cf.all
  go_wp2_with ((go_at_call 47;(with_reducible refine (rright_v p.proto true H65.out HQ.out _).mono ?_);rintro e wn ⟨rfl,rfl⟩))
  go_ret2
  exact PutR.mk none 0 rfl Rd.nil (Nat.le_refl _) C.out.bel
 ·have g0:=eq0 a0
  have g1:=eq0 a1
  have g2:=lt0 a2
  clear a0 a1 a2
  go_enter Tryz.func28,Tryz.ntmps28
  go_upto_region 1 with fail
  with_reducible refine at_worldP (fun W=>Hid (BxC 29 w W p q)) C ?_
  clear C
  rintro W C
  obtain ⟨x0,x1,x2,x3,x4,x5,x6,x7,x8,x9⟩:=C.out.cf.all
  go_wp2_with ((go_at_call 47;(with_reducible refine (rright_v p.proto true H65.out HQ.out _).mono ?_);rintro e wn ⟨rfl,rfl⟩))
  go_ret2
  exact PutR.mk none 0 rfl Rd.nil (Nat.le_refl _) C.out.bel
 ·have g0:=eq0 a0
  have g1:=eq0 a1
  have g2:=nl0 a2
  have g3:=ne0 a3
  clear a0 a1 a2 a3
  go_enter Tryz.func28,Tryz.ntmps28
  go_upto_region 1 with fail
  with_reducible refine at_worldP (fun W=>Hid (BxC 29 w W p q)) C ?_
  clear C
  rintro W C
  obtain ⟨x0,x1,x2,x3,x4,x5,x6,x7,x8,x9⟩:=C.out.cf.all
  go_wp2_with ((go_at_call 47;(with_reducible refine (rright_v p.proto true H65.out HQ.out _).mono ?_);rintro e wn ⟨rfl,rfl⟩))
  go_ret2
  exact PutR.mk none 0 rfl Rd.nil (Nat.le_refl _) C.out.bel
 ·have g0:=eq0 a0
  have g1:=eq0 a1
  have g2:=nl0 a2
  have g3:=eq0 a3
  have g4:=ne0 a4
  clear a0 a1 a2 a3 a4
  go_enter Tryz.func28,Tryz.ntmps28
  go_upto_region 1 with fail
  with_reducible refine at_worldP (fun W=>Hid (BxC 29 w W p q)) C ?_
  clear C
  rintro W C
  obtain ⟨x0,x1,x2,x3,x4,x5,x6,x7,x8,x9⟩:=C.out.cf.all
  go_wp2_with ((go_at_call 47;(with_reducible refine (rright_v p.proto true H65.out HQ.out _).mono ?_);rintro e wn ⟨rfl,rfl⟩))
  go_ret2
  exact PutR.mk none 0 rfl Rd.nil (Nat.le_refl _) C.out.bel
 ·have g0:=eq0 a0
  have g1:=eq0 a1
  have g2:=nl0 a2
  have g3:=eq0 a3
  have g4:=eq0 a4
  have g5:=lt0 a5
  clear a0 a1 a2 a3 a4 a5
  go_enter Tryz.func28,Tryz.ntmps28
  go_upto_region 1 with fail
  with_reducible refine at_worldP (fun W=>Hid (BxC 29 w W p q)) C ?_
  clear C
  rintro W C
  obtain ⟨x0,x1,x2,x3,x4,x5,x6,x7,x8,x9⟩:=C.out.cf.all
  go_wp2_with ((go_at_call 47;(with_reducible refine (rright_v p.proto true H65.out HQ.out _).mono ?_);rintro e wn ⟨rfl,rfl⟩))
  go_ret2
  exact PutR.mk none 0 rfl Rd.nil (Nat.le_refl _) C.out.bel
 ·have g0:=eq0 a0
  have g1:=eq0 a1
  have g2:=nl0 a2
  have g3:=eq0 a3
  have g4:=eq0 a4
  have g5:=nl0 a5
  have g6:=lt0 a6
  clear a0 a1 a2 a3 a4 a5 a6
  go_enter Tryz.func28,Tryz.ntmps28
  go_upto_region 1 with fail
  with_reducible refine at_worldP (fun W=>Hid (BxC 29 w W p q)) C ?_
  clear C
  rintro W C
  obtain ⟨x0,x1,x2,x3,x4,x5,x6,x7,x8,x9⟩:=C.out.cf.all
  go_wp2_with ((go_at_call 47;(with_reducible refine (rright_v p.proto true H65.out HQ.out _).mono ?_);rintro e wn ⟨rfl,rfl⟩))
  go_ret2
  exact PutR.mk none 0 rfl Rd.nil (Nat.le_refl _) C.out.bel
 ·have g0:=eq0 a0
  have g1:=eq0 a1
  have g2:=nl0 a2
  have g3:=eq0 a3
  have g4:=eq0 a4
  have g5:=nl0 a5
  have g6:=nl0 a6
  have g7:=lt0 a7
  clear a0 a1 a2 a3 a4 a5 a6 a7
  go_enter Tryz.func28,Tryz.ntmps28
  go_upto_region 1 with fail
  with_reducible refine at_worldP (fun W=>Hid (BxC 29 w W p q)) C ?_
  clear C
  rintro W C
  obtain ⟨x0,x1,x2,x3,x4,x5,x6,x7,x8,x9⟩:=C.out.cf.all
  go_wp2_with ((go_at_call 47;(with_reducible refine (rright_v p.proto true H65.out HQ.out _).mono ?_);rintro e wn ⟨rfl,rfl⟩))
  go_ret2
  exact PutR.mk none 0 rfl Rd.nil (Nat.le_refl _) C.out.bel
theorem rbput_data (p:Pk) (q:Pl) (w:World) (hp:Pw w p q) (hok:p.ok) (hs:p.sm) (h:rightB p.proto=true) (hl:¬ layB p.proto) (hb:bareD p=true) (n:Nat) (hn:p.data.length=n) :
  Calls Tryz.prog 28 #[p.val q] w fun e w'=>PutR w p.data n 0 e w':=by
 unfold layB at hl
 obtain ⟨i0,hi,hz0,hz1,hz2⟩:=info_parts byte_info
 have C:=hI (BxC.made 29 w p q)
 have H65:=hI hok.proto
 have HQ:=hI h
 have wp:wrap64 (p.proto:Int)=(p.proto:Int):=by unfold wrap64;have:=hok.proto;omega
 have H:=hI hp
 have h1:=hs.nd
 have h2:=hp.ld
 have h3:q.nd=n:=by rw [←h2,hn]
 subst h3
 have HN:=hI (show q.nd≤1073741824 by omega)
 have f0:((p.proto:Int) == 49185)=false:=by simp;omega
 have f1:((p.proto:Int) == 32801)=false:=by simp;omega
 have f2:((p.proto:Int) == 32855)=false:=by simp;omega
 have f3:((p.proto:Int) == 49187)=false:=by simp;omega
 have f4:((p.proto:Int) == 49699)=false:=by simp;omega
 have f5:((p.proto:Int) == 49189)=false:=by simp;omega
 obtain ⟨a0,a1,a2,a3,a4,a5,a6,a7⟩:=dat_all hp hb
 have g0:=eq0 a0
 have g1:=eq0 a1
 have g2:=nl0 a2
 have g3:=eq0 a3
 have g4:=eq0 a4
 have g5:=nl0 a5
 have g6:=nl0 a6
 have g7:=nl0 a7
 clear h hb hp hok hs hl h1 h2 hn a0 a1 a2 a3 a4 a5 a6 a7
 go_enter Tryz.func28,Tryz.ntmps28
 go_upto_region 1 with fail
 with_reducible refine at_worldP (fun W=>Hid (BxC 29 w W p q)) C ?_
 clear C
 rintro W C
 obtain ⟨x0,x1,x2,x3,x4,x5,x6,x7,x8,x9⟩:=C.out.cf.all
 have OX:=hI (show (W.alloc (.cells #[] 5)).ownsRow W.heap.size 5 1 (.slice (some ⟨W.heap.size,0,none⟩) 0 0) 0 (bvs []) from World.ownsRow_lit W #[] 0 (Nat.le_refl _) (by unfold maxLen;omega) rfl)
 have BX:=hI ((Below.refl W.heap.size W).alloc (Nat.le_refl _) (.cells #[] 5))
 have x8':=(C.out.step BX.out).cf.all.2.2.2.2.2.2.2.2.1
 go_wp2_with (first
  | (go_at_call 47;(with_reducible refine (rright_v p.proto true H65.out HQ.out _).mono ?_);rintro e wn ⟨rfl,rfl⟩)
  | (at_builtin;refine list_app rfl _ _ _ rfl _ i0 Tryz.underlying26 hi hz0 hz1 hz2 W.heap.size _ 0 [] rfl OX.out _ _ q.nd _ p.data rfl ((H.out.on C.out.bel).on BX.out).rd (H.out.ld) (by have:=HN.out;omega) BX.out.size ?_;intro A7 c7 w7 h7 hg7;rw [List.nil_append,Nat.zero_add] at h7;rw [Nat.zero_add];have hb:=app_below BX.out (Nat.le_refl _) OX.out hg7;have O7:=hI h7;replace C:=hI (C.out.step hb);clear h7 hg7 hb))
 go_ret2
 exact PutR.mk A7 c7 rfl (Rd.own O7.out) (own_cap O7.out) C.out.bel
theorem rbput_any (p:Pk) (q:Pl) (w:World) (hp:Pw w p q) (hok:p.ok) (hs:p.sm) (m:List Nat) (k:Nat) (hm:bputB p=(m,k)) (n:Nat) (hn:m.length=n) :
  Calls Tryz.prog 28 #[p.val q] w fun e w'=>PutR w m n k e w':=by
 rcases bways p.proto with hr | ⟨hr,h1 | (h1 | h1) | h1 | h1 | h1 | h1⟩
 ·rw [bput_none hr] at hm
  injection hm with e1 e2
  subst e1;subst e2;subst hn
  exact rbput_none p q w hp hok hs hr
 ·rw [bput_lcp h1] at hm;exact rbput_lcp p q w hp hok hs h1 m k hm n hn
 ·rw [bput_ncp (.inl h1)] at hm;exact rbput_ipcp p q w hp hok hs h1 m k hm n hn
 ·rw [bput_ncp (.inr h1)] at hm;exact rbput_ip6cp p q w hp hok hs h1 m k hm n hn
 ·rw [bput_pap h1] at hm;exact rbput_pap p q w hp hok hs h1 m k hm n hn
 ·rw [bput_chap h1] at hm;exact rbput_chap p q w hp hok hs h1 m k hm n hn
 ·rw [bput_lqr h1] at hm;exact rbput_lqr p q w hp hok hs h1 m k hm n hn
 ·rw [bput_else hr h1] at hm
  cases h2:bareD p
  ·rw [h2,if_neg (by decide)] at hm
   injection hm with e1 e2
   subst e1;subst e2;subst hn
   exact rbput_field p q w hp hok hs hr h1 h2
  ·rw [if_pos h2] at hm
   injection hm with e1 e2
   subst e1;subst e2
   exact rbput_data p q w hp hok hs hr h1 h2 n hn
end Go.Proofs.YtmhjnghomihjlaaGreat
