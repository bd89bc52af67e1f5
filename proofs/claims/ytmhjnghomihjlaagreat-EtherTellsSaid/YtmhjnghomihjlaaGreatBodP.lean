/-
  What the program's calls of layer 20 answer. No condition beyond: packets that Go may have, at most 2^30 elements in each slice.
-/
import Derived.Test.YtmhjnghomihjlaaGreatGMat
import Derived.Test.YtmhjnghomihjlaaGreatBodE
import Derived.Test.YtmhjnghomihjlaaGreatGLcq
import Derived.Test.YtmhjnghomihjlaaGreatLcpG
import Derived.Test.YtmhjnghomihjlaaGreatNcpP
import Derived.Test.YtmhjnghomihjlaaGreatNcpG
import Derived.Test.YtmhjnghomihjlaaGreatPapP
import Derived.Test.YtmhjnghomihjlaaGreatPapG
import Derived.Test.YtmhjnghomihjlaaGreatChpP
import Derived.Test.YtmhjnghomihjlaaGreatChpG
import Derived.Test.YtmhjnghomihjlaaGreatLqrP
import Derived.Test.YtmhjnghomihjlaaGreatLqrG
import Derived.Deep.CutRange
import Derived.Deep.RegionHeld3
namespace Go.Proofs.YtmhjnghomihjlaaGreat
set_option maxRecDepth 8000
set_option maxHeartbeats 80000000
set_option linter.unusedVariables false
open Go.RowKit
theorem bmeth_link_put (k : Nat) (w : World) : (method (k + 1) 136 (.agg #[]) "marline/body.put").run Tryz.prog w = .ok (104, (.agg #[])) w := by kernel_rfl
theorem bmeth_link_get (k : Nat) (w : World) : (method (k + 1) 136 (.agg #[]) "marline/body.get").run Tryz.prog w = .ok (103, (.agg #[])) w := by kernel_rfl
theorem bmeth_network_put (v : Int) (k : Nat) (w : World) : (method (k + 1) 137 (.int .u16 v) "marline/body.put").run Tryz.prog w = .ok (133, (.int .u16 v)) w := by kernel_rfl
theorem bmeth_network_get (v : Int) (k : Nat) (w : World) : (method (k + 1) 137 (.int .u16 v) "marline/body.get").run Tryz.prog w = .ok (132, (.int .u16 v)) w := by kernel_rfl
theorem bmeth_password_put (k : Nat) (w : World) : (method (k + 1) 138 (.agg #[]) "marline/body.put").run Tryz.prog w = .ok (140, (.agg #[])) w := by kernel_rfl
theorem bmeth_password_get (k : Nat) (w : World) : (method (k + 1) 138 (.agg #[]) "marline/body.get").run Tryz.prog w = .ok (139, (.agg #[])) w := by kernel_rfl
theorem bmeth_challenge_put (k : Nat) (w : World) : (method (k + 1) 139 (.agg #[]) "marline/body.put").run Tryz.prog w = .ok (149, (.agg #[])) w := by kernel_rfl
theorem bmeth_challenge_get (k : Nat) (w : World) : (method (k + 1) 139 (.agg #[]) "marline/body.get").run Tryz.prog w = .ok (148, (.agg #[])) w := by kernel_rfl
theorem bmeth_report_put (k : Nat) (w : World) : (method (k + 1) 140 (.agg #[]) "marline/body.put").run Tryz.prog w = .ok (158, (.agg #[])) w := by kernel_rfl
theorem bmeth_report_get (k : Nat) (w : World) : (method (k + 1) 140 (.agg #[]) "marline/body.get").run Tryz.prog w = .ok (157, (.agg #[])) w := by kernel_rfl
theorem bmeth_other_put (v : Int) (k : Nat) (w : World) : (method (k + 1) 141 (.int .u16 v) "marline/body.put").run Tryz.prog w = .ok (165, (.int .u16 v)) w := by kernel_rfl
theorem bmeth_other_get (v : Int) (k : Nat) (w : World) : (method (k + 1) 141 (.int .u16 v) "marline/body.get").run Tryz.prog w = .ok (163, (.int .u16 v)) w := by kernel_rfl
theorem bof_none (t:Nat) (w:World) (h65:t<65536) (h:rightB t=false) :
  Calls Tryz.prog 66 #[.int .u16 (t:Int)] w fun e w'=>e=.returned (.tuple #[.nilIface,.int .i64 7])∧Below w.heap.size w w':=by
 have B:=hI (Below.refl w.heap.size w)
 have H65:=hI h65
 have HQ:=hI h
 clear h h65
 go_enter Tryz.func66,Tryz.ntmps66
 go_wp2_with (go_at_call 80;(with_reducible refine (right_v t false H65.out HQ.out _).mono ?_);rintro e wn ⟨rfl,rfl⟩)
 go_ret2
 exact ⟨rfl,B.out⟩
theorem bof_lcp (t:Nat) (w:World) (h65:t<65536) (h:t=49185) :
  Calls Tryz.prog 66 #[.int .u16 (t:Int)] w fun e w'=>e=.returned (.tuple #[.iface 136 (.agg #[]),.int .i64 0])∧Below w.heap.size w w':=by
 have B:=hI (Below.refl w.heap.size w)
 have H65:=hI h65
 have HQ:=hI (show rightB t=true by rw [h];decide)
 have f0:((t:Int) == 49185)=true:=by simp;omega
 clear h h65
 go_enter Tryz.func66,Tryz.ntmps66
 go_wp2_with (go_at_call 80;(with_reducible refine (right_v t true H65.out HQ.out _).mono ?_);rintro e wn ⟨rfl,rfl⟩)
 go_ret2
 exact ⟨rfl,B.out⟩
theorem bof_ncp (t:Nat) (w:World) (h65:t<65536) (h:t=32801∨t=32855) :
  Calls Tryz.prog 66 #[.int .u16 (t:Int)] w fun e w'=>e=.returned (.tuple #[.iface 137 (.int .u16 (t:Int)),.int .i64 0])∧Below w.heap.size w w':=by
 have B:=hI (Below.refl w.heap.size w)
 have H65:=hI h65
 have HQ:=hI (show rightB t=true by rcases h with h | h <;> rw [h] <;> decide)
 have f0:((t:Int) == 49185)=false:=by simp;omega
 have HI:=hI (show decide (t=32801∨t=32855)=true by simp;omega)
 clear h h65
 go_enter Tryz.func66,Tryz.ntmps66
 go_wp2_with (first
  | (go_at_call 80;(with_reducible refine (right_v t true H65.out HQ.out _).mono ?_);rintro e wn ⟨rfl,rfl⟩)
  | (go_at_call 81;(with_reducible refine (nis_any t true HI.out _).mono ?_);rintro e wn ⟨rfl,hb⟩;replace B:=hI (B.out.trans (hb.mono B.out.size));clear hb))
 go_ret2
 exact ⟨rfl,B.out⟩
theorem bof_pap (t:Nat) (w:World) (h65:t<65536) (h:t=49187) :
  Calls Tryz.prog 66 #[.int .u16 (t:Int)] w fun e w'=>e=.returned (.tuple #[.iface 138 (.agg #[]),.int .i64 0])∧Below w.heap.size w w':=by
 have B:=hI (Below.refl w.heap.size w)
 have H65:=hI h65
 have HQ:=hI (show rightB t=true by rw [h];decide)
 have f0:((t:Int) == 49185)=false:=by simp;omega
 have f1:((t:Int) == 49187)=true:=by simp;omega
 have HI:=hI (show decide (t=32801∨t=32855)=false by simp;omega)
 clear h h65
 go_enter Tryz.func66,Tryz.ntmps66
 go_wp2_with (first
  | (go_at_call 80;(with_reducible refine (right_v t true H65.out HQ.out _).mono ?_);rintro e wn ⟨rfl,rfl⟩)
  | (go_at_call 81;(with_reducible refine (nis_any t false HI.out _).mono ?_);rintro e wn ⟨rfl,hb⟩;replace B:=hI (B.out.trans (hb.mono B.out.size));clear hb))
 go_ret2
 exact ⟨rfl,B.out⟩
theorem bof_chap (t:Nat) (w:World) (h65:t<65536) (h:t=49699) :
  Calls Tryz.prog 66 #[.int .u16 (t:Int)] w fun e w'=>e=.returned (.tuple #[.iface 139 (.agg #[]),.int .i64 0])∧Below w.heap.size w w':=by
 have B:=hI (Below.refl w.heap.size w)
 have H65:=hI h65
 have HQ:=hI (show rightB t=true by rw [h];decide)
 have f0:((t:Int) == 49185)=false:=by simp;omega
 have f1:((t:Int) == 49187)=false:=by simp;omega
 have f2:((t:Int) == 49699)=true:=by simp;omega
 have HI:=hI (show decide (t=32801∨t=32855)=false by simp;omega)
 clear h h65
 go_enter Tryz.func66,Tryz.ntmps66
 go_wp2_with (first
  | (go_at_call 80;(with_reducible refine (right_v t true H65.out HQ.out _).mono ?_);rintro e wn ⟨rfl,rfl⟩)
  | (go_at_call 81;(with_reducible refine (nis_any t false HI.out _).mono ?_);rintro e wn ⟨rfl,hb⟩;replace B:=hI (B.out.trans (hb.mono B.out.size));clear hb))
 go_ret2
 exact ⟨rfl,B.out⟩
theorem bof_lqr (t:Nat) (w:World) (h65:t<65536) (h:t=49189) :
  Calls Tryz.prog 66 #[.int .u16 (t:Int)] w fun e w'=>e=.returned (.tuple #[.iface 140 (.agg #[]),.int .i64 0])∧Below w.heap.size w w':=by
 have B:=hI (Below.refl w.heap.size w)
 have H65:=hI h65
 have HQ:=hI (show rightB t=true by rw [h];decide)
 have f0:((t:Int) == 49185)=false:=by simp;omega
 have f1:((t:Int) == 49187)=false:=by simp;omega
 have f2:((t:Int) == 49699)=false:=by simp;omega
 have f3:((t:Int) == 49189)=true:=by simp;omega
 have HI:=hI (show decide (t=32801∨t=32855)=false by simp;omega)
 clear h h65
 go_enter Tryz.func66,Tryz.ntmps66
 go_wp2_with (first
  | (go_at_call 80;(with_reducible refine (right_v t true H65.out HQ.out _).mono ?_);rintro e wn ⟨rfl,rfl⟩)
  | (go_at_call 81;(with_reducible refine (nis_any t false HI.out _).mono ?_);rintro e wn ⟨rfl,hb⟩;replace B:=hI (B.out.trans (hb.mono B.out.size));clear hb))
 go_ret2
 exact ⟨rfl,B.out⟩
theorem bof_other (t:Nat) (w:World) (h65:t<65536) (h:rightB t=true) (hl:¬ layB t) :
  Calls Tryz.prog 66 #[.int .u16 (t:Int)] w fun e w'=>e=.returned (.tuple #[.iface 141 (.int .u16 (t:Int)),.int .i64 0])∧Below w.heap.size w w':=by
 have B:=hI (Below.refl w.heap.size w)
 have H65:=hI h65
 unfold layB at hl
 have HQ:=hI h
 have f0:((t:Int) == 49185)=false:=by simp;omega
 have f1:((t:Int) == 49187)=false:=by simp;omega
 have f2:((t:Int) == 49699)=false:=by simp;omega
 have f3:((t:Int) == 49189)=false:=by simp;omega
 have HI:=hI (show decide (t=32801∨t=32855)=false by simp;omega)
 clear h hl h65
 go_enter Tryz.func66,Tryz.ntmps66
 go_wp2_with (first
  | (go_at_call 80;(with_reducible refine (right_v t true H65.out HQ.out _).mono ?_);rintro e wn ⟨rfl,rfl⟩)
  | (go_at_call 81;(with_reducible refine (nis_any t false HI.out _).mono ?_);rintro e wn ⟨rfl,hb⟩;replace B:=hI (B.out.trans (hb.mono B.out.size));clear hb))
 go_ret2
 exact ⟨rfl,B.out⟩
theorem bmput_lcp (p:Pk) (q:Pl) (w:World) (hp:Pw w p q) (hok:p.ok) (hs:p.sm) (m:List Nat) (k:Nat) (hm:lputB p=(m,k)) (n:Nat) (hn:m.length=n) :
  Calls Tryz.prog 104 #[.agg #[],p.val q] w fun e w'=>PutR w m n k e w':=by
 obtain ⟨w0,hw0⟩:∃ w0,w0=w.alloc (.cells #[] 136):=⟨_,rfl⟩
 have e0:=hI (show w.heap.size+1=w0.heap.size by rw [hw0];exact (World.size_alloc _ _).symm)
 have B0:=hI (show Below w.heap.size w w0 from hw0 ▸ (Below.refl _ _).alloc (Nat.le_refl _) _)
 have C:=hI (BxC.made 40 w0 p q)
 have H:=hI (hp.on B0.out)
 have HOK:=hI hok
 have HS:=hI hs
 have HM:=hI hm
 have HN:=hI hn
 have H32:=hI (show N32 p.nums from hok.nums)
 clear hp hok hs hm hn
 go_enter Tryz.func104,Tryz.ntmps104
 go_upto_region 1 with fail
 rw [←hw0,e0.out]
 clear hw0 e0
 with_reducible refine at_worldP (fun W=>Hid (BxC 40 w0 W p q)) C ?_
 clear C
 rintro W C
 obtain ⟨x0,x1,x2,x3,x4,x5,x6,x7,x8,x9⟩:=C.out.cf.all
 go_wp2_with (go_at_call 106;(with_reducible refine (lput_any p q _ (H.out.on C.out.bel) HOK.out HS.out m k HM.out n HN.out).mono ?_);rintro e wn ⟨A5,c5,rfl,h5,h5c,hb⟩;replace C:=hI (C.out.step hb);have X5:=hI h5;have K5:=hI h5c;clear h5 h5c hb)
 go_ret2
 exact PutR.mk A5 c5 rfl X5.out K5.out (B0.out.trans (C.out.bel.mono B0.out.size))
theorem bmput_ncp (t:Int) (p:Pk) (q:Pl) (w:World) (hp:Pw w p q) (hok:p.ok) (hs:p.sm) (m:List Nat) (k:Nat) (hm:nputB p=(m,k)) (n:Nat) (hn:m.length=n) :
  Calls Tryz.prog 133 #[.int .u16 t,p.val q] w fun e w'=>PutR w m n k e w':=by
 have C:=hI (BxC.made 40 w p q)
 have H:=hI (hp)
 have HOK:=hI hok
 have HS:=hI hs
 have HM:=hI hm
 have HN:=hI hn
 have H32:=hI (show N32 p.nums from hok.nums)
 clear hp hok hs hm hn
 go_enter Tryz.func133,Tryz.ntmps133
 go_upto_region 1 with fail
 with_reducible refine at_worldP (fun W=>Hid (BxC 40 w W p q)) C ?_
 clear C
 rintro W C
 obtain ⟨x0,x1,x2,x3,x4,x5,x6,x7,x8,x9⟩:=C.out.cf.all
 go_wp2_with (go_at_call 135;(with_reducible refine (nput_any p q _ (H.out.on C.out.bel) HOK.out HS.out m k HM.out n HN.out).mono ?_);rintro e wn ⟨A5,c5,rfl,h5,h5c,hb⟩;replace C:=hI (C.out.step hb);have X5:=hI h5;have K5:=hI h5c;clear h5 h5c hb)
 go_ret2
 exact PutR.mk A5 c5 rfl X5.out K5.out C.out.bel
theorem bmput_pap (p:Pk) (q:Pl) (w:World) (hp:Pw w p q) (hok:p.ok) (hs:p.sm) (m:List Nat) (k:Nat) (hm:aputB p=(m,k)) (n:Nat) (hn:m.length=n) :
  Calls Tryz.prog 140 #[.agg #[],p.val q] w fun e w'=>PutR w m n k e w':=by
 obtain ⟨w0,hw0⟩:∃ w0,w0=w.alloc (.cells #[] 138):=⟨_,rfl⟩
 have e0:=hI (show w.heap.size+1=w0.heap.size by rw [hw0];exact (World.size_alloc _ _).symm)
 have B0:=hI (show Below w.heap.size w w0 from hw0 ▸ (Below.refl _ _).alloc (Nat.le_refl _) _)
 have C:=hI (BxC.made 40 w0 p q)
 have H:=hI (hp.on B0.out)
 have HOK:=hI hok
 have HS:=hI hs
 have HM:=hI hm
 have HN:=hI hn
 have H32:=hI (show N32 p.nums from hok.nums)
 clear hp hok hs hm hn
 go_enter Tryz.func140,Tryz.ntmps140
 go_upto_region 1 with fail
 rw [←hw0,e0.out]
 clear hw0 e0
 with_reducible refine at_worldP (fun W=>Hid (BxC 40 w0 W p q)) C ?_
 clear C
 rintro W C
 obtain ⟨x0,x1,x2,x3,x4,x5,x6,x7,x8,x9⟩:=C.out.cf.all
 go_wp2_with (go_at_call 142;(with_reducible refine (aput_any p q _ (H.out.on C.out.bel) HS.out m k HM.out n HN.out).mono ?_);rintro e wn ⟨A5,c5,rfl,h5,h5c,hb⟩;replace C:=hI (C.out.step hb);have X5:=hI h5;have K5:=hI h5c;clear h5 h5c hb)
 go_ret2
 exact PutR.mk A5 c5 rfl X5.out K5.out (B0.out.trans (C.out.bel.mono B0.out.size))
theorem bmput_chap (p:Pk) (q:Pl) (w:World) (hp:Pw w p q) (hok:p.ok) (hs:p.sm) (m:List Nat) (k:Nat) (hm:chputB p=(m,k)) (n:Nat) (hn:m.length=n) :
  Calls Tryz.prog 149 #[.agg #[],p.val q] w fun e w'=>PutR w m n k e w':=by
 obtain ⟨w0,hw0⟩:∃ w0,w0=w.alloc (.cells #[] 139):=⟨_,rfl⟩
 have e0:=hI (show w.heap.size+1=w0.heap.size by rw [hw0];exact (World.size_alloc _ _).symm)
 have B0:=hI (show Below w.heap.size w w0 from hw0 ▸ (Below.refl _ _).alloc (Nat.le_refl _) _)
 have C:=hI (BxC.made 40 w0 p q)
 have H:=hI (hp.on B0.out)
 have HOK:=hI hok
 have HS:=hI hs
 have HM:=hI hm
 have HN:=hI hn
 have H32:=hI (show N32 p.nums from hok.nums)
 clear hp hok hs hm hn
 go_enter Tryz.func149,Tryz.ntmps149
 go_upto_region 1 with fail
 rw [←hw0,e0.out]
 clear hw0 e0
 with_reducible refine at_worldP (fun W=>Hid (BxC 40 w0 W p q)) C ?_
 clear C
 rintro W C
 obtain ⟨x0,x1,x2,x3,x4,x5,x6,x7,x8,x9⟩:=C.out.cf.all
 go_wp2_with (go_at_call 151;(with_reducible refine (chput_any p q _ (H.out.on C.out.bel) HS.out m k HM.out n HN.out).mono ?_);rintro e wn ⟨A5,c5,rfl,h5,h5c,hb⟩;replace C:=hI (C.out.step hb);have X5:=hI h5;have K5:=hI h5c;clear h5 h5c hb)
 go_ret2
 exact PutR.mk A5 c5 rfl X5.out K5.out (B0.out.trans (C.out.bel.mono B0.out.size))
theorem bmput_lqr (p:Pk) (q:Pl) (w:World) (hp:Pw w p q) (hok:p.ok) (hs:p.sm) (m:List Nat) (k:Nat) (hm:lqputB p=(m,k)) (n:Nat) (hn:m.length=n) :
  Calls Tryz.prog 158 #[.agg #[],p.val q] w fun e w'=>PutR w m n k e w':=by
 obtain ⟨w0,hw0⟩:∃ w0,w0=w.alloc (.cells #[] 140):=⟨_,rfl⟩
 have e0:=hI (show w.heap.size+1=w0.heap.size by rw [hw0];exact (World.size_alloc _ _).symm)
 have B0:=hI (show Below w.heap.size w w0 from hw0 ▸ (Below.refl _ _).alloc (Nat.le_refl _) _)
 have C:=hI (BxC.made 40 w0 p q)
 have H:=hI (hp.on B0.out)
 have HOK:=hI hok
 have HS:=hI hs
 have HM:=hI hm
 have HN:=hI hn
 have H32:=hI (show N32 p.nums from hok.nums)
 clear hp hok hs hm hn
 go_enter Tryz.func158,Tryz.ntmps158
 go_upto_region 1 with fail
 rw [←hw0,e0.out]
 clear hw0 e0
 with_reducible refine at_worldP (fun W=>Hid (BxC 40 w0 W p q)) C ?_
 clear C
 rintro W C
 obtain ⟨x0,x1,x2,x3,x4,x5,x6,x7,x8,x9⟩:=C.out.cf.all
 go_wp2_with (go_at_call 160;(with_reducible refine (qput_any p q _ (H.out.on C.out.bel) H32.out m k HM.out n HN.out).mono ?_);rintro e wn ⟨A5,c5,rfl,h5,h5c,hb⟩;replace C:=hI (C.out.step hb);have X5:=hI h5;have K5:=hI h5c;clear h5 h5c hb)
 go_ret2
 exact PutR.mk A5 c5 rfl X5.out K5.out (B0.out.trans (C.out.bel.mono B0.out.size))
theorem bpacket_any (t:Nat) (b:List Nat) (n c:Nat) (A:Option Addr) (w:World) :
  Calls Tryz.prog 164 #[.int .u16 (t:Int),.slice A n c] w fun e w'=>e=.returned ((datP t b).val { pl0 with ad:=A,nd:=n,cd:=c })∧Below w.heap.size w w':=by
 have C:=hI (GeC.made 40 w)
 go_enter Tryz.func164,Tryz.ntmps164
 go_upto_region 1 with fail
 with_reducible refine at_worldP (fun W=>Hid (GeC 40 w W)) C ?_
 clear C
 rintro W C
 obtain ⟨y0,y1,y2,y3,y4,y5,y6,y7,y8,y9⟩:=C.out.res.all;obtain ⟨z0,z1,z2,z3,z4,z5,z6,z7,z8,z9⟩:=C.out.res.free
 go_wp2_with fail
 refine bodyPost_ret (v:=(datP t b).val { pl0 with ad:=A,nd:=n,cd:=c }) ?_ rfl ⟨rfl,put10_below C.out.bel (Nat.le_refl _) (datP t b) { pl0 with ad:=A,nd:=n,cd:=c }⟩
 exact results_cell_row rfl _ _ w.heap.size 40 _ _ _ rfl (put10_px C.out.res (datP t b) { pl0 with ad:=A,nd:=n,cd:=c }) Tryz.underlying40 rfl (by kernel_rfl)
theorem bare_iff (p:Pk) (r:Bool) (h:bareD p=r):decide (p=datP p.proto p.data)=r:=by
 rw [←h,Bool.eq_iff_iff]
 obtain ⟨a1,a2,a3,a4,a5,a6,a7,a8,a9,a10⟩:=p
 simp [bareD,datP]
 exact ⟨fun ⟨h1,h2,h3,h4,h5,h6,h7,h8⟩=>⟨⟨⟨⟨⟨⟨⟨h1,h2⟩,h4⟩,h5⟩,h3⟩,h6⟩,h7⟩,h8⟩,fun ⟨⟨⟨⟨⟨⟨⟨h1,h2⟩,h4⟩,h5⟩,h3⟩,h6⟩,h7⟩,h8⟩=>⟨h1,h2,h3,h4,h5,h6,h7,h8⟩⟩
theorem bmput_field (p:Pk) (q:Pl) (w:World) (hp:Pw w p q) (hok:p.ok) (hs:p.sm) (hb:bareD p=false) :
  Calls Tryz.prog 165 #[.int .u16 (p.proto:Int),p.val q] w fun e w'=>PutR w [] 0 9 e w':=by
 have C:=hI (BxC.made 40 w p q)
 have H:=hI hp
 have HOK:=hI hok
 have HS:=hI hs
 have HB:=hI (bare_iff p false hb)
 have HD:=hI (show Pw w (datP p.proto p.data) { pl0 with ad:=q.ad,nd:=q.nd,cd:=q.cd } from ⟨rfl,Rws.nilO,rfl,Rd.nil,rfl,Rd.nil,hp.ld,hp.rd,rfl,Rws.nil,Nat.le_refl _,Nat.le_refl _,hp.kd⟩)
 have HOD:=hI (show (datP p.proto p.data).ok from ⟨hok.proto,show (0:Nat)<256 by decide,show (0:Nat)<256 by decide,fun x hx=>(by cases hx),show (0:Nat)<65536 by decide,show (0:Nat)<4294967296 by decide,By.nil,By.nil,hok.data,fun x hx=>(by cases hx)⟩)
 clear hb hp hok hs
 go_enter Tryz.func165,Tryz.ntmps165
 go_upto_region 1 with fail
 with_reducible refine at_worldP (fun W=>Hid (BxC 40 w W p q)) C ?_
 clear C
 rintro W C
 obtain ⟨x0,x1,x2,x3,x4,x5,x6,x7,x8,x9⟩:=C.out.cf.all
 go_region_held3 (fun W=>W.cell? ⟨w.heap.size,0,none⟩=some (.int .u16 (p.proto:Int))∧W.cell? ⟨w.heap.size,1,none⟩=some (.int .u8 (p.code:Int))∧W.cell? ⟨w.heap.size,2,none⟩=some (.int .u8 (p.id:Int))∧W.cell? ⟨w.heap.size,3,none⟩=some (.slice q.ao q.no q.co)∧W.cell? ⟨w.heap.size,4,none⟩=some (.int .u16 (p.sub:Int))∧W.cell? ⟨w.heap.size,5,none⟩=some (.int .u32 (p.magic:Int))∧W.cell? ⟨w.heap.size,6,none⟩=some (.slice q.a1 q.n1 q.c1)∧W.cell? ⟨w.heap.size,7,none⟩=some (.slice q.a2 q.n2 q.c2)∧W.cell? ⟨w.heap.size,8,none⟩=some (.slice q.ad q.nd q.cd)∧W.cell? ⟨w.heap.size,9,none⟩=some (.slice q.an q.nn q.cn)) (first | (with_reducible exact C.out.cf.all) | (with_reducible exact (C.out.step (X:=_) (Below.refl _ _).drew).cf.all)) (first
  | (go_at_call 164;(with_reducible refine (bpacket_any p.proto p.data q.nd q.cd q.ad _).mono ?_);rintro e wn ⟨rfl,hb⟩;replace C:=hI (C.out.step hb);clear hb)
  | (go_at_call 41;(with_reducible refine (bsame_any p (datP p.proto p.data) q { pl0 with ad:=q.ad,nd:=q.nd,cd:=q.cd } _ (H.out.on C.out.bel) (HD.out.on C.out.bel) HOK.out HOD.out HS.out _ HB.out).mono ?_);rintro e wn ⟨rfl,hb⟩;replace C:=hI (C.out.step hb);clear hb))
 obtain ⟨x0,x1,x2,x3,x4,x5,x6,x7,x8,x9⟩:=C.out.cf.all
 go_wp2_with fail
 go_ret2
 exact PutR.mk none 0 rfl Rd.nil (Nat.le_refl _) C.out.bel
theorem bmput_data (p:Pk) (q:Pl) (w:World) (hp:Pw w p q) (hok:p.ok) (hs:p.sm) (hb:bareD p=true) (n:Nat) (hn:p.data.length=n) :
  Calls Tryz.prog 165 #[.int .u16 (p.proto:Int),p.val q] w fun e w'=>PutR w p.data n 0 e w':=by
 have C:=hI (BxC.made 40 w p q)
 have H:=hI hp
 have HOK:=hI hok
 have HS:=hI hs
 have HB:=hI (bare_iff p true hb)
 have HD:=hI (show Pw w (datP p.proto p.data) { pl0 with ad:=q.ad,nd:=q.nd,cd:=q.cd } from ⟨rfl,Rws.nilO,rfl,Rd.nil,rfl,Rd.nil,hp.ld,hp.rd,rfl,Rws.nil,Nat.le_refl _,Nat.le_refl _,hp.kd⟩)
 have HOD:=hI (show (datP p.proto p.data).ok from ⟨hok.proto,show (0:Nat)<256 by decide,show (0:Nat)<256 by decide,fun x hx=>(by cases hx),show (0:Nat)<65536 by decide,show (0:Nat)<4294967296 by decide,By.nil,By.nil,hok.data,fun x hx=>(by cases hx)⟩)
 have h1:=hs.nd
 have h2:=hp.ld
 have h3:q.nd=n:=by rw [←h2,hn]
 subst h3
 have HN:=hI (show q.nd≤1073741824 by omega)
 clear h1 h2 hn
 clear hb hp hok hs
 go_enter Tryz.func165,Tryz.ntmps165
 go_upto_region 1 with fail
 with_reducible refine at_worldP (fun W=>Hid (BxC 40 w W p q)) C ?_
 clear C
 rintro W C
 obtain ⟨x0,x1,x2,x3,x4,x5,x6,x7,x8,x9⟩:=C.out.cf.all
 go_region_held3 (fun W=>W.cell? ⟨w.heap.size,0,none⟩=some (.int .u16 (p.proto:Int))∧W.cell? ⟨w.heap.size,1,none⟩=some (.int .u8 (p.code:Int))∧W.cell? ⟨w.heap.size,2,none⟩=some (.int .u8 (p.id:Int))∧W.cell? ⟨w.heap.size,3,none⟩=some (.slice q.ao q.no q.co)∧W.cell? ⟨w.heap.size,4,none⟩=some (.int .u16 (p.sub:Int))∧W.cell? ⟨w.heap.size,5,none⟩=some (.int .u32 (p.magic:Int))∧W.cell? ⟨w.heap.size,6,none⟩=some (.slice q.a1 q.n1 q.c1)∧W.cell? ⟨w.heap.size,7,none⟩=some (.slice q.a2 q.n2 q.c2)∧W.cell? ⟨w.heap.size,8,none⟩=some (.slice q.ad q.nd q.cd)∧W.cell? ⟨w.heap.size,9,none⟩=some (.slice q.an q.nn q.cn)) (first | (with_reducible exact C.out.cf.all) | (with_reducible exact (C.out.step (X:=_) (Below.refl _ _).drew).cf.all)) (first
  | (go_at_call 164;(with_reducible refine (bpacket_any p.proto p.data q.nd q.cd q.ad _).mono ?_);rintro e wn ⟨rfl,hb⟩;replace C:=hI (C.out.step hb);clear hb)
  | (go_at_call 41;(with_reducible refine (bsame_any p (datP p.proto p.data) q { pl0 with ad:=q.ad,nd:=q.nd,cd:=q.cd } _ (H.out.on C.out.bel) (HD.out.on C.out.bel) HOK.out HOD.out HS.out _ HB.out).mono ?_);rintro e wn ⟨rfl,hb⟩;replace C:=hI (C.out.step hb);clear hb))
 obtain ⟨x0,x1,x2,x3,x4,x5,x6,x7,x8,x9⟩:=C.out.cf.all
 go_wp2_with (go_at_call 77;(with_reducible refine (clone_any p.data q.nd _ _ _ (H.out.on C.out.bel).rd H.out.ld (by have:=HN.out;omega)).mono ?_);rintro e' w5 ⟨A5,c5,rfl,HN5⟩;have H5:=hI HN5;replace C:=hI (C.out.step HN5.2.2.2);clear HN5)
 go_ret2
 exact PutR.mk A5 c5 rfl H5.out.2.2.1 (own_cap H5.out.2.1) C.out.bel
theorem bput_lcp_w (p:Pk) (q:Pl) (w:World) (hp:Pw w p q) (hok:p.ok) (hs:p.sm) (h:p.proto=49185) (m:List Nat) (k:Nat) (hm:lputB p=(m,k)) (n:Nat) (hn:m.length=n) :
  Calls Tryz.prog 43 #[p.val q] w fun e w'=>PutR w m n k e w':=by
 have C:=hI (BxC.made 40 w p q)
 have H:=hI hp
 have HOK:=hI hok
 have HS:=hI hs
 have H65:=hI hok.proto
 have HM:=hI hm
 have HN:=hI hn
 have HP:=hI h
 clear h hp hok hs hm hn
 have fm:=fun (k:Nat) (W:World)=>bmeth_link_put k W
 go_enter Tryz.func43,Tryz.ntmps43
 go_upto_region 1 with fail
 with_reducible refine at_worldP (fun W=>Hid (BxC 40 w W p q)) C ?_
 clear C
 rintro W C
 obtain ⟨x0,x1,x2,x3,x4,x5,x6,x7,x8,x9⟩:=C.out.cf.all
 go_wp2_with (first
  | (go_at_call 66;(with_reducible refine (bof_lcp p.proto _ H65.out HP.out).mono ?_);rintro e wn ⟨rfl,hb⟩;replace C:=hI (C.out.step hb);clear hb;clear x0 x1 x2 x3 x4 x5 x6 x7 x8 x9;obtain ⟨x0,x1,x2,x3,x4,x5,x6,x7,x8,x9⟩:=C.out.cf.all)
  | (go_at_call 104;(with_reducible refine (bmput_lcp p q _ (H.out.on C.out.bel) HOK.out HS.out m k HM.out n HN.out).mono ?_);rintro e wn ⟨A5,c5,rfl,h5,h5c,hb⟩;replace C:=hI (C.out.step hb);have X5:=hI h5;have K5:=hI h5c;clear h5 h5c hb))
 go_ret2
 exact PutR.mk A5 c5 rfl X5.out K5.out C.out.bel
theorem bput_ncp_w (p:Pk) (q:Pl) (w:World) (hp:Pw w p q) (hok:p.ok) (hs:p.sm) (h:p.proto=32801∨p.proto=32855) (m:List Nat) (k:Nat) (hm:nputB p=(m,k)) (n:Nat) (hn:m.length=n) :
  Calls Tryz.prog 43 #[p.val q] w fun e w'=>PutR w m n k e w':=by
 have C:=hI (BxC.made 40 w p q)
 have H:=hI hp
 have HOK:=hI hok
 have HS:=hI hs
 have H65:=hI hok.proto
 have HM:=hI hm
 have HN:=hI hn
 have HP:=hI h
 clear h hp hok hs hm hn
 have fm:=fun (k:Nat) (W:World)=>bmeth_network_put (p.proto:Int) k W
 go_enter Tryz.func43,Tryz.ntmps43
 go_upto_region 1 with fail
 with_reducible refine at_worldP (fun W=>Hid (BxC 40 w W p q)) C ?_
 clear C
 rintro W C
 obtain ⟨x0,x1,x2,x3,x4,x5,x6,x7,x8,x9⟩:=C.out.cf.all
 go_wp2_with (first
  | (go_at_call 66;(with_reducible refine (bof_ncp p.proto _ H65.out HP.out).mono ?_);rintro e wn ⟨rfl,hb⟩;replace C:=hI (C.out.step hb);clear hb;clear x0 x1 x2 x3 x4 x5 x6 x7 x8 x9;obtain ⟨x0,x1,x2,x3,x4,x5,x6,x7,x8,x9⟩:=C.out.cf.all)
  | (go_at_call 133;(with_reducible refine (bmput_ncp _ p q _ (H.out.on C.out.bel) HOK.out HS.out m k HM.out n HN.out).mono ?_);rintro e wn ⟨A5,c5,rfl,h5,h5c,hb⟩;replace C:=hI (C.out.step hb);have X5:=hI h5;have K5:=hI h5c;clear h5 h5c hb))
 go_ret2
 exact PutR.mk A5 c5 rfl X5.out K5.out C.out.bel
theorem bput_pap_w (p:Pk) (q:Pl) (w:World) (hp:Pw w p q) (hok:p.ok) (hs:p.sm) (h:p.proto=49187) (m:List Nat) (k:Nat) (hm:aputB p=(m,k)) (n:Nat) (hn:m.length=n) :
  Calls Tryz.prog 43 #[p.val q] w fun e w'=>PutR w m n k e w':=by
 have C:=hI (BxC.made 40 w p q)
 have H:=hI hp
 have HOK:=hI hok
 have HS:=hI hs
 have H65:=hI hok.proto
 have HM:=hI hm
 have HN:=hI hn
 have HP:=hI h
 clear h hp hok hs hm hn
 have fm:=fun (k:Nat) (W:World)=>bmeth_password_put k W
 go_enter Tryz.func43,Tryz.ntmps43
 go_upto_region 1 with fail
 with_reducible refine at_worldP (fun W=>Hid (BxC 40 w W p q)) C ?_
 clear C
 rintro W C
 obtain ⟨x0,x1,x2,x3,x4,x5,x6,x7,x8,x9⟩:=C.out.cf.all
 go_wp2_with (first
  | (go_at_call 66;(with_reducible refine (bof_pap p.proto _ H65.out HP.out).mono ?_);rintro e wn ⟨rfl,hb⟩;replace C:=hI (C.out.step hb);clear hb;clear x0 x1 x2 x3 x4 x5 x6 x7 x8 x9;obtain ⟨x0,x1,x2,x3,x4,x5,x6,x7,x8,x9⟩:=C.out.cf.all)
  | (go_at_call 140;(with_reducible refine (bmput_pap p q _ (H.out.on C.out.bel) HOK.out HS.out m k HM.out n HN.out).mono ?_);rintro e wn ⟨A5,c5,rfl,h5,h5c,hb⟩;replace C:=hI (C.out.step hb);have X5:=hI h5;have K5:=hI h5c;clear h5 h5c hb))
 go_ret2
 exact PutR.mk A5 c5 rfl X5.out K5.out C.out.bel
theorem bput_chap_w (p:Pk) (q:Pl) (w:World) (hp:Pw w p q) (hok:p.ok) (hs:p.sm) (h:p.proto=49699) (m:List Nat) (k:Nat) (hm:chputB p=(m,k)) (n:Nat) (hn:m.length=n) :
  Calls Tryz.prog 43 #[p.val q] w fun e w'=>PutR w m n k e w':=by
 have C:=hI (BxC.made 40 w p q)
 have H:=hI hp
 have HOK:=hI hok
 have HS:=hI hs
 have H65:=hI hok.proto
 have HM:=hI hm
 have HN:=hI hn
 have HP:=hI h
 clear h hp hok hs hm hn
 have fm:=fun (k:Nat) (W:World)=>bmeth_challenge_put k W
 go_enter Tryz.func43,Tryz.ntmps43
 go_upto_region 1 with fail
 with_reducible refine at_worldP (fun W=>Hid (BxC 40 w W p q)) C ?_
 clear C
 rintro W C
 obtain ⟨x0,x1,x2,x3,x4,x5,x6,x7,x8,x9⟩:=C.out.cf.all
 go_wp2_with (first
  | (go_at_call 66;(with_reducible refine (bof_chap p.proto _ H65.out HP.out).mono ?_);rintro e wn ⟨rfl,hb⟩;replace C:=hI (C.out.step hb);clear hb;clear x0 x1 x2 x3 x4 x5 x6 x7 x8 x9;obtain ⟨x0,x1,x2,x3,x4,x5,x6,x7,x8,x9⟩:=C.out.cf.all)
  | (go_at_call 149;(with_reducible refine (bmput_chap p q _ (H.out.on C.out.bel) HOK.out HS.out m k HM.out n HN.out).mono ?_);rintro e wn ⟨A5,c5,rfl,h5,h5c,hb⟩;replace C:=hI (C.out.step hb);have X5:=hI h5;have K5:=hI h5c;clear h5 h5c hb))
 go_ret2
 exact PutR.mk A5 c5 rfl X5.out K5.out C.out.bel
theorem bput_lqr_w (p:Pk) (q:Pl) (w:World) (hp:Pw w p q) (hok:p.ok) (hs:p.sm) (h:p.proto=49189) (m:List Nat) (k:Nat) (hm:lqputB p=(m,k)) (n:Nat) (hn:m.length=n) :
  Calls Tryz.prog 43 #[p.val q] w fun e w'=>PutR w m n k e w':=by
 have C:=hI (BxC.made 40 w p q)
 have H:=hI hp
 have HOK:=hI hok
 have HS:=hI hs
 have H65:=hI hok.proto
 have HM:=hI hm
 have HN:=hI hn
 have HP:=hI h
 clear h hp hok hs hm hn
 have fm:=fun (k:Nat) (W:World)=>bmeth_report_put k W
 go_enter Tryz.func43,Tryz.ntmps43
 go_upto_region 1 with fail
 with_reducible refine at_worldP (fun W=>Hid (BxC 40 w W p q)) C ?_
 clear C
 rintro W C
 obtain ⟨x0,x1,x2,x3,x4,x5,x6,x7,x8,x9⟩:=C.out.cf.all
 go_wp2_with (first
  | (go_at_call 66;(with_reducible refine (bof_lqr p.proto _ H65.out HP.out).mono ?_);rintro e wn ⟨rfl,hb⟩;replace C:=hI (C.out.step hb);clear hb;clear x0 x1 x2 x3 x4 x5 x6 x7 x8 x9;obtain ⟨x0,x1,x2,x3,x4,x5,x6,x7,x8,x9⟩:=C.out.cf.all)
  | (go_at_call 158;(with_reducible refine (bmput_lqr p q _ (H.out.on C.out.bel) HOK.out HS.out m k HM.out n HN.out).mono ?_);rintro e wn ⟨A5,c5,rfl,h5,h5c,hb⟩;replace C:=hI (C.out.step hb);have X5:=hI h5;have K5:=hI h5c;clear h5 h5c hb))
 go_ret2
 exact PutR.mk A5 c5 rfl X5.out K5.out C.out.bel
theorem bput_none_w (p:Pk) (q:Pl) (w:World) (hp:Pw w p q) (hok:p.ok) (hs:p.sm) (h:rightB p.proto=false) :
  Calls Tryz.prog 43 #[p.val q] w fun e w'=>PutR w [] 0 7 e w':=by
 have C:=hI (BxC.made 40 w p q)
 have H65:=hI hok.proto
 have HQ:=hI h
 clear h hp hok hs
 go_enter Tryz.func43,Tryz.ntmps43
 go_upto_region 1 with fail
 with_reducible refine at_worldP (fun W=>Hid (BxC 40 w W p q)) C ?_
 clear C
 rintro W C
 obtain ⟨x0,x1,x2,x3,x4,x5,x6,x7,x8,x9⟩:=C.out.cf.all
 go_wp2_with (go_at_call 66;(with_reducible refine (bof_none p.proto _ H65.out HQ.out).mono ?_);rintro e wn ⟨rfl,hb⟩;replace C:=hI (C.out.step hb);clear hb;clear x0 x1 x2 x3 x4 x5 x6 x7 x8 x9;obtain ⟨x0,x1,x2,x3,x4,x5,x6,x7,x8,x9⟩:=C.out.cf.all)
 go_ret2
 exact PutR.mk none 0 rfl Rd.nil (Nat.le_refl _) C.out.bel
theorem bput_field_w (p:Pk) (q:Pl) (w:World) (hp:Pw w p q) (hok:p.ok) (hs:p.sm) (h:rightB p.proto=true) (hl:¬ layB p.proto) (hb:bareD p=false) :
  Calls Tryz.prog 43 #[p.val q] w fun e w'=>PutR w [] 0 9 e w':=by
 have C:=hI (BxC.made 40 w p q)
 have H:=hI hp
 have HOK:=hI hok
 have HS:=hI hs
 have H65:=hI hok.proto
 have HQ:=hI h
 have HY:=hI hl
 have HB:=hI hb
 clear h hl hb hp hok hs
 have fm:=fun (k:Nat) (W:World)=>bmeth_other_put (p.proto:Int) k W
 go_enter Tryz.func43,Tryz.ntmps43
 go_upto_region 1 with fail
 with_reducible refine at_worldP (fun W=>Hid (BxC 40 w W p q)) C ?_
 clear C
 rintro W C
 obtain ⟨x0,x1,x2,x3,x4,x5,x6,x7,x8,x9⟩:=C.out.cf.all
 go_wp2_with (first
  | (go_at_call 66;(with_reducible refine (bof_other p.proto _ H65.out HQ.out HY.out).mono ?_);rintro e wn ⟨rfl,hb⟩;replace C:=hI (C.out.step hb);clear hb;clear x0 x1 x2 x3 x4 x5 x6 x7 x8 x9;obtain ⟨x0,x1,x2,x3,x4,x5,x6,x7,x8,x9⟩:=C.out.cf.all)
  | (go_at_call 165;(with_reducible refine (bmput_field p q _ (H.out.on C.out.bel) HOK.out HS.out HB.out).mono ?_);rintro e wn ⟨A5,c5,rfl,h5,h5c,hb⟩;replace C:=hI (C.out.step hb);have X5:=hI h5;have K5:=hI h5c;clear h5 h5c hb))
 go_ret2
 exact PutR.mk A5 c5 rfl X5.out K5.out C.out.bel
theorem bput_data_w (p:Pk) (q:Pl) (w:World) (hp:Pw w p q) (hok:p.ok) (hs:p.sm) (h:rightB p.proto=true) (hl:¬ layB p.proto) (hb:bareD p=true) (n:Nat) (hn:p.data.length=n) :
  Calls Tryz.prog 43 #[p.val q] w fun e w'=>PutR w p.data n 0 e w':=by
 have C:=hI (BxC.made 40 w p q)
 have H:=hI hp
 have HOK:=hI hok
 have HS:=hI hs
 have H65:=hI hok.proto
 have HQ:=hI h
 have HY:=hI hl
 have HB:=hI hb
 have HN:=hI hn
 clear h hl hb hn hp hok hs
 have fm:=fun (k:Nat) (W:World)=>bmeth_other_put (p.proto:Int) k W
 go_enter Tryz.func43,Tryz.ntmps43
 go_upto_region 1 with fail
 with_reducible refine at_worldP (fun W=>Hid (BxC 40 w W p q)) C ?_
 clear C
 rintro W C
 obtain ⟨x0,x1,x2,x3,x4,x5,x6,x7,x8,x9⟩:=C.out.cf.all
 go_wp2_with (first
  | (go_at_call 66;(with_reducible refine (bof_other p.proto _ H65.out HQ.out HY.out).mono ?_);rintro e wn ⟨rfl,hb⟩;replace C:=hI (C.out.step hb);clear hb;clear x0 x1 x2 x3 x4 x5 x6 x7 x8 x9;obtain ⟨x0,x1,x2,x3,x4,x5,x6,x7,x8,x9⟩:=C.out.cf.all)
  | (go_at_call 165;(with_reducible refine (bmput_data p q _ (H.out.on C.out.bel) HOK.out HS.out HB.out n HN.out).mono ?_);rintro e wn ⟨A5,c5,rfl,h5,h5c,hb⟩;replace C:=hI (C.out.step hb);have X5:=hI h5;have K5:=hI h5c;clear h5 h5c hb))
 go_ret2
 exact PutR.mk A5 c5 rfl X5.out K5.out C.out.bel
theorem bput_any (p:Pk) (q:Pl) (w:World) (hp:Pw w p q) (hok:p.ok) (hs:p.sm) (m:List Nat) (k:Nat) (hm:bputB p=(m,k)) (n:Nat) (hn:m.length=n) :
  Calls Tryz.prog 43 #[p.val q] w fun e w'=>PutR w m n k e w':=by
 rcases bways p.proto with hr | ⟨hr,h1 | h1 | h1 | h1 | h1 | h1⟩
 ·rw [bput_none hr] at hm
  injection hm with e1 e2
  subst e1;subst e2;subst hn
  exact bput_none_w p q w hp hok hs hr
 ·rw [bput_lcp h1] at hm;exact bput_lcp_w p q w hp hok hs h1 m k hm n hn
 ·rw [bput_ncp h1] at hm;exact bput_ncp_w p q w hp hok hs h1 m k hm n hn
 ·rw [bput_pap h1] at hm;exact bput_pap_w p q w hp hok hs h1 m k hm n hn
 ·rw [bput_chap h1] at hm;exact bput_chap_w p q w hp hok hs h1 m k hm n hn
 ·rw [bput_lqr h1] at hm;exact bput_lqr_w p q w hp hok hs h1 m k hm n hn
 ·rw [bput_else hr h1] at hm
  cases h2:bareD p
  ·rw [h2,if_neg (by decide)] at hm
   injection hm with e1 e2
   subst e1;subst e2;subst hn
   exact bput_field_w p q w hp hok hs hr h1 h2
  ·rw [if_pos h2] at hm
   injection hm with e1 e2
   subst e1;subst e2
   exact bput_data_w p q w hp hok hs hr h1 h2 n hn
theorem bmget_lcp (t:Nat) (b:List Nat) (n c:Nat) (A:Option Addr) (w:World) (h:Rd w w.heap.size A b) (hb:By b) (hl:b.length=n) (hn:n≤1073741824) (hc:n≤c) (h65:t<65536) (y:Pk) (k:Nat) (hy:lgetB b=(y,k)) :
  Calls Tryz.prog 103 #[.agg #[],.slice A n c] w (GetN w y k):=by
 obtain ⟨w0,hw0⟩:∃ w0,w0=w.alloc (.cells #[] 136):=⟨_,rfl⟩
 have e0:=hI (show w.heap.size+1=w0.heap.size by rw [hw0];exact (World.size_alloc _ _).symm)
 have B0:=hI (show Below w.heap.size w w0 from hw0 ▸ (Below.refl _ _).alloc (Nat.le_refl _) _)
 have C:=hI (GeC.made 40 w0)
 have HR:=hI (h.ons B0.out)
 have HB:=hI hb
 have HL:=hI hl
 have HC:=hI hc
 have HY:=hI hy
 have H65:=hI h65
 clear h hb hl hc hy h65
 go_enter Tryz.func103,Tryz.ntmps103
 go_upto_region 1 with fail
 rw [←hw0,e0.out]
 clear hw0 e0
 with_reducible refine at_worldP (fun W=>Hid (GeC 40 w0 W)) C ?_
 clear C
 rintro W C
 go_wp2_with (go_at_call 105;(with_reducible refine (lgetN_any b n c A _ (HR.out.on C.out.bel) HB.out HL.out hn HC.out y k HY.out).mono ?_);rintro e wn ⟨q1,rfl,hp1,hb⟩;have P:=hI (hp1.mono (G:=fun i=>w0.heap.size<i) (fun i _ hi=>Nat.lt_of_lt_of_le C.out.res.lt hi));replace C:=hI (C.out.step hb);clear hb hp1;obtain ⟨y0,y1,y2,y3,y4,y5,y6,y7,y8,y9⟩:=C.out.res.all;obtain ⟨z0,z1,z2,z3,z4,z5,z6,z7,z8,z9⟩:=C.out.res.free)
 refine bodyPost_ret (v:=.tuple #[y.val q1,.int .i64 (k:Int)]) ?_ rfl (GetN.mk q1 rfl ((P.out.keep ((put10_keeps wn w0.heap.size y q1).less (fun i _ hi=>Nat.ne_of_gt hi))).mono (fun i _ hi=>Nat.le_of_lt (Nat.lt_of_le_of_lt B0.out.size hi))) (B0.out.trans ((put10_below C.out.bel (Nat.le_refl _) y q1).mono B0.out.size)))
 exact results_row_tmpP rfl _ _ _ w0.heap.size 40 _ _ _ rfl rfl (put10_px C.out.res y q1) Tryz.underlying40 (by kernel_rfl)
theorem bmget_ncp (t:Nat) (b:List Nat) (n c:Nat) (A:Option Addr) (w:World) (h:Rd w w.heap.size A b) (hb:By b) (hl:b.length=n) (hn:n≤1073741824) (hc:n≤c) (h65:t<65536) (y:Pk) (k:Nat) (hy:ngetB t b=(y,k)) :
  Calls Tryz.prog 132 #[.int .u16 (t:Int),.slice A n c] w (GetN w y k):=by
 have C:=hI (GeC.made 40 w)
 have HR:=hI (h)
 have HB:=hI hb
 have HL:=hI hl
 have HC:=hI hc
 have HY:=hI hy
 have H65:=hI h65
 clear h hb hl hc hy h65
 go_enter Tryz.func132,Tryz.ntmps132
 go_upto_region 1 with fail
 with_reducible refine at_worldP (fun W=>Hid (GeC 40 w W)) C ?_
 clear C
 rintro W C
 go_wp2_with (go_at_call 134;(with_reducible refine (nget_any t b n c A _ (HR.out.on C.out.bel) HB.out HL.out hn HC.out y k HY.out).mono ?_);rintro e wn ⟨q1,rfl,hp1,hb⟩;have P:=hI (hp1.mono (G:=fun i=>w.heap.size<i) (fun i _ hi=>Nat.lt_of_lt_of_le C.out.res.lt hi));replace C:=hI (C.out.step hb);clear hb hp1;obtain ⟨y0,y1,y2,y3,y4,y5,y6,y7,y8,y9⟩:=C.out.res.all;obtain ⟨z0,z1,z2,z3,z4,z5,z6,z7,z8,z9⟩:=C.out.res.free)
 refine bodyPost_ret (v:=.tuple #[y.val q1,.int .i64 (k:Int)]) ?_ rfl (GetN.mk q1 rfl ((P.out.keep ((put10_keeps wn w.heap.size y q1).less (fun i _ hi=>Nat.ne_of_gt hi))).mono (fun i _ hi=>Nat.le_of_lt hi)) (put10_below C.out.bel (Nat.le_refl _) y q1))
 exact results_row_tmpP rfl _ _ _ w.heap.size 40 _ _ _ rfl rfl (put10_px C.out.res y q1) Tryz.underlying40 (by kernel_rfl)
theorem bmget_pap (t:Nat) (b:List Nat) (n c:Nat) (A:Option Addr) (w:World) (h:Rd w w.heap.size A b) (hb:By b) (hl:b.length=n) (hn:n≤1073741824) (hc:n≤c) (h65:t<65536) (y:Pk) (k:Nat) (hy:agetB b=(y,k)) :
  Calls Tryz.prog 139 #[.agg #[],.slice A n c] w (GetN w y k):=by
 obtain ⟨w0,hw0⟩:∃ w0,w0=w.alloc (.cells #[] 138):=⟨_,rfl⟩
 have e0:=hI (show w.heap.size+1=w0.heap.size by rw [hw0];exact (World.size_alloc _ _).symm)
 have B0:=hI (show Below w.heap.size w w0 from hw0 ▸ (Below.refl _ _).alloc (Nat.le_refl _) _)
 have C:=hI (GeC.made 40 w0)
 have HR:=hI (h.ons B0.out)
 have HB:=hI hb
 have HL:=hI hl
 have HC:=hI hc
 have HY:=hI hy
 have H65:=hI h65
 clear h hb hl hc hy h65
 go_enter Tryz.func139,Tryz.ntmps139
 go_upto_region 1 with fail
 rw [←hw0,e0.out]
 clear hw0 e0
 with_reducible refine at_worldP (fun W=>Hid (GeC 40 w0 W)) C ?_
 clear C
 rintro W C
 go_wp2_with (go_at_call 141;(with_reducible refine (aget_any b n c A _ (HR.out.on C.out.bel) HB.out HL.out hn HC.out y k HY.out).mono ?_);rintro e wn ⟨q1,rfl,hp1,hb⟩;have P:=hI (hp1.mono (G:=fun i=>w0.heap.size<i) (fun i _ hi=>Nat.lt_of_lt_of_le C.out.res.lt hi));replace C:=hI (C.out.step hb);clear hb hp1;obtain ⟨y0,y1,y2,y3,y4,y5,y6,y7,y8,y9⟩:=C.out.res.all;obtain ⟨z0,z1,z2,z3,z4,z5,z6,z7,z8,z9⟩:=C.out.res.free)
 refine bodyPost_ret (v:=.tuple #[y.val q1,.int .i64 (k:Int)]) ?_ rfl (GetN.mk q1 rfl ((P.out.keep ((put10_keeps wn w0.heap.size y q1).less (fun i _ hi=>Nat.ne_of_gt hi))).mono (fun i _ hi=>Nat.le_of_lt (Nat.lt_of_le_of_lt B0.out.size hi))) (B0.out.trans ((put10_below C.out.bel (Nat.le_refl _) y q1).mono B0.out.size)))
 exact results_row_tmpP rfl _ _ _ w0.heap.size 40 _ _ _ rfl rfl (put10_px C.out.res y q1) Tryz.underlying40 (by kernel_rfl)
theorem bmget_chap (t:Nat) (b:List Nat) (n c:Nat) (A:Option Addr) (w:World) (h:Rd w w.heap.size A b) (hb:By b) (hl:b.length=n) (hn:n≤1073741824) (hc:n≤c) (h65:t<65536) (y:Pk) (k:Nat) (hy:chgetB b=(y,k)) :
  Calls Tryz.prog 148 #[.agg #[],.slice A n c] w (GetN w y k):=by
 obtain ⟨w0,hw0⟩:∃ w0,w0=w.alloc (.cells #[] 139):=⟨_,rfl⟩
 have e0:=hI (show w.heap.size+1=w0.heap.size by rw [hw0];exact (World.size_alloc _ _).symm)
 have B0:=hI (show Below w.heap.size w w0 from hw0 ▸ (Below.refl _ _).alloc (Nat.le_refl _) _)
 have C:=hI (GeC.made 40 w0)
 have HR:=hI (h.ons B0.out)
 have HB:=hI hb
 have HL:=hI hl
 have HC:=hI hc
 have HY:=hI hy
 have H65:=hI h65
 clear h hb hl hc hy h65
 go_enter Tryz.func148,Tryz.ntmps148
 go_upto_region 1 with fail
 rw [←hw0,e0.out]
 clear hw0 e0
 with_reducible refine at_worldP (fun W=>Hid (GeC 40 w0 W)) C ?_
 clear C
 rintro W C
 go_wp2_with (go_at_call 150;(with_reducible refine (chget_any b n c A _ (HR.out.on C.out.bel) HB.out HL.out hn HC.out y k HY.out).mono ?_);rintro e wn ⟨q1,rfl,hp1,hb⟩;have P:=hI (hp1.mono (G:=fun i=>w0.heap.size<i) (fun i _ hi=>Nat.lt_of_lt_of_le C.out.res.lt hi));replace C:=hI (C.out.step hb);clear hb hp1;obtain ⟨y0,y1,y2,y3,y4,y5,y6,y7,y8,y9⟩:=C.out.res.all;obtain ⟨z0,z1,z2,z3,z4,z5,z6,z7,z8,z9⟩:=C.out.res.free)
 refine bodyPost_ret (v:=.tuple #[y.val q1,.int .i64 (k:Int)]) ?_ rfl (GetN.mk q1 rfl ((P.out.keep ((put10_keeps wn w0.heap.size y q1).less (fun i _ hi=>Nat.ne_of_gt hi))).mono (fun i _ hi=>Nat.le_of_lt (Nat.lt_of_le_of_lt B0.out.size hi))) (B0.out.trans ((put10_below C.out.bel (Nat.le_refl _) y q1).mono B0.out.size)))
 exact results_row_tmpP rfl _ _ _ w0.heap.size 40 _ _ _ rfl rfl (put10_px C.out.res y q1) Tryz.underlying40 (by kernel_rfl)
theorem bmget_lqr (t:Nat) (b:List Nat) (n c:Nat) (A:Option Addr) (w:World) (h:Rd w w.heap.size A b) (hb:By b) (hl:b.length=n) (hn:n≤1073741824) (hc:n≤c) (h65:t<65536) (y:Pk) (k:Nat) (hy:lqgetB b=(y,k)) :
  Calls Tryz.prog 157 #[.agg #[],.slice A n c] w (GetN w y k):=by
 obtain ⟨w0,hw0⟩:∃ w0,w0=w.alloc (.cells #[] 140):=⟨_,rfl⟩
 have e0:=hI (show w.heap.size+1=w0.heap.size by rw [hw0];exact (World.size_alloc _ _).symm)
 have B0:=hI (show Below w.heap.size w w0 from hw0 ▸ (Below.refl _ _).alloc (Nat.le_refl _) _)
 have C:=hI (GeC.made 40 w0)
 have HR:=hI (h.ons B0.out)
 have HB:=hI hb
 have HL:=hI hl
 have HC:=hI hc
 have HY:=hI hy
 have H65:=hI h65
 clear h hb hl hc hy h65
 go_enter Tryz.func157,Tryz.ntmps157
 go_upto_region 1 with fail
 rw [←hw0,e0.out]
 clear hw0 e0
 with_reducible refine at_worldP (fun W=>Hid (GeC 40 w0 W)) C ?_
 clear C
 rintro W C
 go_wp2_with (go_at_call 159;(with_reducible refine (qget_any b n c A _ (HR.out.on C.out.bel) HB.out HL.out HC.out y k HY.out).mono ?_);rintro e wn ⟨q1,rfl,hp1,hb⟩;have P:=hI (hp1.mono (G:=fun i=>w0.heap.size<i) (fun i _ hi=>Nat.lt_of_lt_of_le C.out.res.lt hi));replace C:=hI (C.out.step hb);clear hb hp1;obtain ⟨y0,y1,y2,y3,y4,y5,y6,y7,y8,y9⟩:=C.out.res.all;obtain ⟨z0,z1,z2,z3,z4,z5,z6,z7,z8,z9⟩:=C.out.res.free)
 refine bodyPost_ret (v:=.tuple #[y.val q1,.int .i64 (k:Int)]) ?_ rfl (GetN.mk q1 rfl ((P.out.keep ((put10_keeps wn w0.heap.size y q1).less (fun i _ hi=>Nat.ne_of_gt hi))).mono (fun i _ hi=>Nat.le_of_lt (Nat.lt_of_le_of_lt B0.out.size hi))) (B0.out.trans ((put10_below C.out.bel (Nat.le_refl _) y q1).mono B0.out.size)))
 exact results_row_tmpP rfl _ _ _ w0.heap.size 40 _ _ _ rfl rfl (put10_px C.out.res y q1) Tryz.underlying40 (by kernel_rfl)
theorem bmget_data (t:Nat) (b:List Nat) (n c:Nat) (A:Option Addr) (w:World) (h:Rd w w.heap.size A b) (hb:By b) (hl:b.length=n) (hn:n≤1073741824) (hc:n≤c) :
  Calls Tryz.prog 163 #[.int .u16 (t:Int),.slice A n c] w (GetN w (datP t b) 0):=by
 have C:=hI (GeC.made 40 w)
 have HR:=hI h
 have HL:=hI hl
 have HN:=hI hn
 clear h hb hl hc hn
 go_enter Tryz.func163,Tryz.ntmps163
 go_upto_region 1 with fail
 with_reducible refine at_worldP (fun W=>Hid (GeC 40 w W)) C ?_
 clear C
 rintro W C
 go_wp2_with (first
  | (go_at_call 77;(with_reducible refine (clone_any b n _ _ _ (HR.out.ons C.out.bel) HL.out (by have:=HN.out;omega)).mono ?_);rintro e' w5 ⟨A5,c5,rfl,HN5⟩;have P:=hI (pwF_data t 0 0 0 0 HL.out ((RdF.own HN5.2.1).mono (G:=fun i=>w.heap.size<i) (fun i _ hi=>Nat.lt_of_lt_of_le C.out.res.lt hi)) (own_cap HN5.2.1));replace C:=hI (C.out.step HN5.2.2.2);clear HN5)
  | (go_at_call 164;(with_reducible refine (bpacket_any t b n c5 A5 _).mono ?_);rintro e wn ⟨rfl,hb⟩;replace P:=hI (P.out.keep ((Keeps.of_below hb).less (fun _ _ h=>h)));replace C:=hI (C.out.step hb);clear hb;obtain ⟨y0,y1,y2,y3,y4,y5,y6,y7,y8,y9⟩:=C.out.res.all;obtain ⟨z0,z1,z2,z3,z4,z5,z6,z7,z8,z9⟩:=C.out.res.free))
 refine bodyPost_ret (v:=.tuple #[(datP t b).val { pl0 with ad:=A5,nd:=n,cd:=c5 },.int .i64 (0:Int)]) ?_ rfl (GetN.mk { pl0 with ad:=A5,nd:=n,cd:=c5 } rfl ((P.out.keep ((put10_keeps wn w.heap.size (datP t b) { pl0 with ad:=A5,nd:=n,cd:=c5 }).less (fun i _ hi=>Nat.ne_of_gt hi))).mono (fun i _ hi=>Nat.le_of_lt hi)) (put10_below C.out.bel (Nat.le_refl _) (datP t b) { pl0 with ad:=A5,nd:=n,cd:=c5 }))
 exact results_row_tmpP rfl _ _ _ w.heap.size 40 _ _ _ rfl rfl (put10_px C.out.res (datP t b) { pl0 with ad:=A5,nd:=n,cd:=c5 }) Tryz.underlying40 (by kernel_rfl)
theorem bget_lcp_w (t:Nat) (b:List Nat) (n c:Nat) (A:Option Addr) (w:World) (h:Rd w w.heap.size A b) (hb:By b) (hl:b.length=n) (hn:n≤1073741824) (hc:n≤c) (h65:t<65536) (ht:t=49185) (y:Pk) (k:Nat) (hy:lgetB b=(y,k)) :
  Calls Tryz.prog 54 #[.int .u16 (t:Int),.slice A n c] w (GetN w y k):=by
 have C:=hI (GeC.made 40 w)
 have HR:=hI h
 have HB:=hI hb
 have HL:=hI hl
 have HC:=hI hc
 have H65:=hI h65
 have HY:=hI hy
 have HT:=hI ht
 clear h hb hl hc hy ht h65
 have fm:=fun (k:Nat) (W:World)=>bmeth_link_get k W
 go_enter Tryz.func54,Tryz.ntmps54
 go_upto_region 1 with fail
 with_reducible refine at_worldP (fun W=>Hid (GeC 40 w W)) C ?_
 clear C
 rintro W C
 go_wp2_with (first
  | (go_at_call 66;(with_reducible refine (bof_lcp t _ H65.out HT.out).mono ?_);rintro e wn ⟨rfl,hb⟩;replace C:=hI (C.out.step hb);clear hb)
  | (go_at_call 103;(with_reducible refine (bmget_lcp t b n c A _ (HR.out.ons C.out.bel) HB.out HL.out hn HC.out H65.out y k HY.out).mono ?_);rintro e wn ⟨q1,rfl,hp1,hb⟩;have P:=hI (hp1.mono (G:=fun i=>w.heap.size<i) (fun i _ hi=>Nat.lt_of_lt_of_le C.out.res.lt hi));replace C:=hI (C.out.step hb);clear hb hp1;obtain ⟨y0,y1,y2,y3,y4,y5,y6,y7,y8,y9⟩:=C.out.res.all;obtain ⟨z0,z1,z2,z3,z4,z5,z6,z7,z8,z9⟩:=C.out.res.free))
 refine bodyPost_ret (v:=.tuple #[y.val q1,.int .i64 (k:Int)]) ?_ rfl (GetN.mk q1 rfl ((P.out.keep ((put10_keeps wn w.heap.size y q1).less (fun i _ hi=>Nat.ne_of_gt hi))).mono (fun i _ hi=>Nat.le_of_lt hi)) (put10_below C.out.bel (Nat.le_refl _) y q1))
 exact results_row_tmpP rfl _ _ _ w.heap.size 40 _ _ _ rfl rfl (put10_px C.out.res y q1) Tryz.underlying40 (by kernel_rfl)
theorem bget_ncp_w (t:Nat) (b:List Nat) (n c:Nat) (A:Option Addr) (w:World) (h:Rd w w.heap.size A b) (hb:By b) (hl:b.length=n) (hn:n≤1073741824) (hc:n≤c) (h65:t<65536) (ht:t=32801∨t=32855) (y:Pk) (k:Nat) (hy:ngetB t b=(y,k)) :
  Calls Tryz.prog 54 #[.int .u16 (t:Int),.slice A n c] w (GetN w y k):=by
 have C:=hI (GeC.made 40 w)
 have HR:=hI h
 have HB:=hI hb
 have HL:=hI hl
 have HC:=hI hc
 have H65:=hI h65
 have HY:=hI hy
 have HT:=hI ht
 clear h hb hl hc hy ht h65
 have fm:=fun (k:Nat) (W:World)=>bmeth_network_get (t:Int) k W
 go_enter Tryz.func54,Tryz.ntmps54
 go_upto_region 1 with fail
 with_reducible refine at_worldP (fun W=>Hid (GeC 40 w W)) C ?_
 clear C
 rintro W C
 go_wp2_with (first
  | (go_at_call 66;(with_reducible refine (bof_ncp t _ H65.out HT.out).mono ?_);rintro e wn ⟨rfl,hb⟩;replace C:=hI (C.out.step hb);clear hb)
  | (go_at_call 132;(with_reducible refine (bmget_ncp t b n c A _ (HR.out.ons C.out.bel) HB.out HL.out hn HC.out H65.out y k HY.out).mono ?_);rintro e wn ⟨q1,rfl,hp1,hb⟩;have P:=hI (hp1.mono (G:=fun i=>w.heap.size<i) (fun i _ hi=>Nat.lt_of_lt_of_le C.out.res.lt hi));replace C:=hI (C.out.step hb);clear hb hp1;obtain ⟨y0,y1,y2,y3,y4,y5,y6,y7,y8,y9⟩:=C.out.res.all;obtain ⟨z0,z1,z2,z3,z4,z5,z6,z7,z8,z9⟩:=C.out.res.free))
 refine bodyPost_ret (v:=.tuple #[y.val q1,.int .i64 (k:Int)]) ?_ rfl (GetN.mk q1 rfl ((P.out.keep ((put10_keeps wn w.heap.size y q1).less (fun i _ hi=>Nat.ne_of_gt hi))).mono (fun i _ hi=>Nat.le_of_lt hi)) (put10_below C.out.bel (Nat.le_refl _) y q1))
 exact results_row_tmpP rfl _ _ _ w.heap.size 40 _ _ _ rfl rfl (put10_px C.out.res y q1) Tryz.underlying40 (by kernel_rfl)
theorem bget_pap_w (t:Nat) (b:List Nat) (n c:Nat) (A:Option Addr) (w:World) (h:Rd w w.heap.size A b) (hb:By b) (hl:b.length=n) (hn:n≤1073741824) (hc:n≤c) (h65:t<65536) (ht:t=49187) (y:Pk) (k:Nat) (hy:agetB b=(y,k)) :
  Calls Tryz.prog 54 #[.int .u16 (t:Int),.slice A n c] w (GetN w y k):=by
 have C:=hI (GeC.made 40 w)
 have HR:=hI h
 have HB:=hI hb
 have HL:=hI hl
 have HC:=hI hc
 have H65:=hI h65
 have HY:=hI hy
 have HT:=hI ht
 clear h hb hl hc hy ht h65
 have fm:=fun (k:Nat) (W:World)=>bmeth_password_get k W
 go_enter Tryz.func54,Tryz.ntmps54
 go_upto_region 1 with fail
 with_reducible refine at_worldP (fun W=>Hid (GeC 40 w W)) C ?_
 clear C
 rintro W C
 go_wp2_with (first
  | (go_at_call 66;(with_reducible refine (bof_pap t _ H65.out HT.out).mono ?_);rintro e wn ⟨rfl,hb⟩;replace C:=hI (C.out.step hb);clear hb)
  | (go_at_call 139;(with_reducible refine (bmget_pap t b n c A _ (HR.out.ons C.out.bel) HB.out HL.out hn HC.out H65.out y k HY.out).mono ?_);rintro e wn ⟨q1,rfl,hp1,hb⟩;have P:=hI (hp1.mono (G:=fun i=>w.heap.size<i) (fun i _ hi=>Nat.lt_of_lt_of_le C.out.res.lt hi));replace C:=hI (C.out.step hb);clear hb hp1;obtain ⟨y0,y1,y2,y3,y4,y5,y6,y7,y8,y9⟩:=C.out.res.all;obtain ⟨z0,z1,z2,z3,z4,z5,z6,z7,z8,z9⟩:=C.out.res.free))
 refine bodyPost_ret (v:=.tuple #[y.val q1,.int .i64 (k:Int)]) ?_ rfl (GetN.mk q1 rfl ((P.out.keep ((put10_keeps wn w.heap.size y q1).less (fun i _ hi=>Nat.ne_of_gt hi))).mono (fun i _ hi=>Nat.le_of_lt hi)) (put10_below C.out.bel (Nat.le_refl _) y q1))
 exact results_row_tmpP rfl _ _ _ w.heap.size 40 _ _ _ rfl rfl (put10_px C.out.res y q1) Tryz.underlying40 (by kernel_rfl)
theorem bget_chap_w (t:Nat) (b:List Nat) (n c:Nat) (A:Option Addr) (w:World) (h:Rd w w.heap.size A b) (hb:By b) (hl:b.length=n) (hn:n≤1073741824) (hc:n≤c) (h65:t<65536) (ht:t=49699) (y:Pk) (k:Nat) (hy:chgetB b=(y,k)) :
  Calls Tryz.prog 54 #[.int .u16 (t:Int),.slice A n c] w (GetN w y k):=by
 have C:=hI (GeC.made 40 w)
 have HR:=hI h
 have HB:=hI hb
 have HL:=hI hl
 have HC:=hI hc
 have H65:=hI h65
 have HY:=hI hy
 have HT:=hI ht
 clear h hb hl hc hy ht h65
 have fm:=fun (k:Nat) (W:World)=>bmeth_challenge_get k W
 go_enter Tryz.func54,Tryz.ntmps54
 go_upto_region 1 with fail
 with_reducible refine at_worldP (fun W=>Hid (GeC 40 w W)) C ?_
 clear C
 rintro W C
 go_wp2_with (first
  | (go_at_call 66;(with_reducible refine (bof_chap t _ H65.out HT.out).mono ?_);rintro e wn ⟨rfl,hb⟩;replace C:=hI (C.out.step hb);clear hb)
  | (go_at_call 148;(with_reducible refine (bmget_chap t b n c A _ (HR.out.ons C.out.bel) HB.out HL.out hn HC.out H65.out y k HY.out).mono ?_);rintro e wn ⟨q1,rfl,hp1,hb⟩;have P:=hI (hp1.mono (G:=fun i=>w.heap.size<i) (fun i _ hi=>Nat.lt_of_lt_of_le C.out.res.lt hi));replace C:=hI (C.out.step hb);clear hb hp1;obtain ⟨y0,y1,y2,y3,y4,y5,y6,y7,y8,y9⟩:=C.out.res.all;obtain ⟨z0,z1,z2,z3,z4,z5,z6,z7,z8,z9⟩:=C.out.res.free))
 refine bodyPost_ret (v:=.tuple #[y.val q1,.int .i64 (k:Int)]) ?_ rfl (GetN.mk q1 rfl ((P.out.keep ((put10_keeps wn w.heap.size y q1).less (fun i _ hi=>Nat.ne_of_gt hi))).mono (fun i _ hi=>Nat.le_of_lt hi)) (put10_below C.out.bel (Nat.le_refl _) y q1))
 exact results_row_tmpP rfl _ _ _ w.heap.size 40 _ _ _ rfl rfl (put10_px C.out.res y q1) Tryz.underlying40 (by kernel_rfl)
theorem bget_lqr_w (t:Nat) (b:List Nat) (n c:Nat) (A:Option Addr) (w:World) (h:Rd w w.heap.size A b) (hb:By b) (hl:b.length=n) (hn:n≤1073741824) (hc:n≤c) (h65:t<65536) (ht:t=49189) (y:Pk) (k:Nat) (hy:lqgetB b=(y,k)) :
  Calls Tryz.prog 54 #[.int .u16 (t:Int),.slice A n c] w (GetN w y k):=by
 have C:=hI (GeC.made 40 w)
 have HR:=hI h
 have HB:=hI hb
 have HL:=hI hl
 have HC:=hI hc
 have H65:=hI h65
 have HY:=hI hy
 have HT:=hI ht
 clear h hb hl hc hy ht h65
 have fm:=fun (k:Nat) (W:World)=>bmeth_report_get k W
 go_enter Tryz.func54,Tryz.ntmps54
 go_upto_region 1 with fail
 with_reducible refine at_worldP (fun W=>Hid (GeC 40 w W)) C ?_
 clear C
 rintro W C
 go_wp2_with (first
  | (go_at_call 66;(with_reducible refine (bof_lqr t _ H65.out HT.out).mono ?_);rintro e wn ⟨rfl,hb⟩;replace C:=hI (C.out.step hb);clear hb)
  | (go_at_call 157;(with_reducible refine (bmget_lqr t b n c A _ (HR.out.ons C.out.bel) HB.out HL.out hn HC.out H65.out y k HY.out).mono ?_);rintro e wn ⟨q1,rfl,hp1,hb⟩;have P:=hI (hp1.mono (G:=fun i=>w.heap.size<i) (fun i _ hi=>Nat.lt_of_lt_of_le C.out.res.lt hi));replace C:=hI (C.out.step hb);clear hb hp1;obtain ⟨y0,y1,y2,y3,y4,y5,y6,y7,y8,y9⟩:=C.out.res.all;obtain ⟨z0,z1,z2,z3,z4,z5,z6,z7,z8,z9⟩:=C.out.res.free))
 refine bodyPost_ret (v:=.tuple #[y.val q1,.int .i64 (k:Int)]) ?_ rfl (GetN.mk q1 rfl ((P.out.keep ((put10_keeps wn w.heap.size y q1).less (fun i _ hi=>Nat.ne_of_gt hi))).mono (fun i _ hi=>Nat.le_of_lt hi)) (put10_below C.out.bel (Nat.le_refl _) y q1))
 exact results_row_tmpP rfl _ _ _ w.heap.size 40 _ _ _ rfl rfl (put10_px C.out.res y q1) Tryz.underlying40 (by kernel_rfl)
theorem bget_none_w (t:Nat) (n c:Nat) (A:Option Addr) (w:World) (h65:t<65536) (h:rightB t=false) :
  Calls Tryz.prog 54 #[.int .u16 (t:Int),.slice A n c] w (GetN w pk0 7):=by
 have C:=hI (GeC.made 40 w)
 have H65:=hI h65
 have HQ:=hI h
 clear h h65
 go_enter Tryz.func54,Tryz.ntmps54
 go_upto_region 1 with fail
 with_reducible refine at_worldP (fun W=>Hid (GeC 40 w W)) C ?_
 clear C
 rintro W C
 go_wp2_with (go_at_call 66;(with_reducible refine (bof_none t _ H65.out HQ.out).mono ?_);rintro e wn ⟨rfl,hb⟩;replace C:=hI (C.out.step hb);clear hb;obtain ⟨y0,y1,y2,y3,y4,y5,y6,y7,y8,y9⟩:=C.out.res.all;obtain ⟨z0,z1,z2,z3,z4,z5,z6,z7,z8,z9⟩:=C.out.res.free)
 refine bodyPost_ret (v:=.tuple #[pk0.val pl0,.int .i64 7]) ?_ rfl (GetN.mk pl0 rfl pwF0 (put10_below C.out.bel (Nat.le_refl _) pk0 pl0))
 exact results_row_tmpP rfl _ _ _ w.heap.size 40 _ _ _ rfl rfl (put10_px C.out.res pk0 pl0) Tryz.underlying40 (by kernel_rfl)
theorem bget_data_w (t:Nat) (b:List Nat) (n c:Nat) (A:Option Addr) (w:World) (h:Rd w w.heap.size A b) (hb:By b) (hl:b.length=n) (hn:n≤1073741824) (hc:n≤c) (h65:t<65536) (hr:rightB t=true) (ht:¬ layB t) :
  Calls Tryz.prog 54 #[.int .u16 (t:Int),.slice A n c] w (GetN w (datP t b) 0):=by
 have C:=hI (GeC.made 40 w)
 have HR:=hI h
 have HB:=hI hb
 have HL:=hI hl
 have HC:=hI hc
 have H65:=hI h65
 have HQ:=hI hr
 have HT:=hI ht
 clear h hb hl hc hr ht h65
 have fm:=fun (k:Nat) (W:World)=>bmeth_other_get (t:Int) k W
 go_enter Tryz.func54,Tryz.ntmps54
 go_upto_region 1 with fail
 with_reducible refine at_worldP (fun W=>Hid (GeC 40 w W)) C ?_
 clear C
 rintro W C
 go_wp2_with (first
  | (go_at_call 66;(with_reducible refine (bof_other t _ H65.out HQ.out HT.out).mono ?_);rintro e wn ⟨rfl,hb⟩;replace C:=hI (C.out.step hb);clear hb)
  | (go_at_call 163;(with_reducible refine (bmget_data t b n c A _ (HR.out.ons C.out.bel) HB.out HL.out hn HC.out).mono ?_);rintro e wn ⟨q1,rfl,hp1,hb⟩;have P:=hI (hp1.mono (G:=fun i=>w.heap.size<i) (fun i _ hi=>Nat.lt_of_lt_of_le C.out.res.lt hi));replace C:=hI (C.out.step hb);clear hb hp1;obtain ⟨y0,y1,y2,y3,y4,y5,y6,y7,y8,y9⟩:=C.out.res.all;obtain ⟨z0,z1,z2,z3,z4,z5,z6,z7,z8,z9⟩:=C.out.res.free))
 refine bodyPost_ret (v:=.tuple #[(datP t b).val q1,.int .i64 (0:Int)]) ?_ rfl (GetN.mk q1 rfl ((P.out.keep ((put10_keeps wn w.heap.size (datP t b) q1).less (fun i _ hi=>Nat.ne_of_gt hi))).mono (fun i _ hi=>Nat.le_of_lt hi)) (put10_below C.out.bel (Nat.le_refl _) (datP t b) q1))
 exact results_row_tmpP rfl _ _ _ w.heap.size 40 _ _ _ rfl rfl (put10_px C.out.res (datP t b) q1) Tryz.underlying40 (by kernel_rfl)
theorem bget_any (t:Nat) (b:List Nat) (n c:Nat) (A:Option Addr) (w:World) (h:Rd w w.heap.size A b) (hb:By b) (hl:b.length=n) (hn:n≤1073741824) (hc:n≤c) (h65:t<65536) (y:Pk) (k:Nat) (hy:bgetB t b=(y,k)) :
  Calls Tryz.prog 54 #[.int .u16 (t:Int),.slice A n c] w (GetN w y k):=by
 rcases bways t with hr | ⟨hr,h1 | h1 | h1 | h1 | h1 | h1⟩
 ·rw [bget_none hr] at hy
  injection hy with e1 e2
  subst e1;subst e2
  exact bget_none_w t n c A w h65 hr
 ·rw [h1,bget_lcp] at hy;exact bget_lcp_w t b n c A w h hb hl hn hc h65 h1 y k hy
 ·rw [bget_ncp h1] at hy;exact bget_ncp_w t b n c A w h hb hl hn hc h65 h1 y k hy
 ·rw [h1,bget_pap] at hy;exact bget_pap_w t b n c A w h hb hl hn hc h65 h1 y k hy
 ·rw [h1,bget_chap] at hy;exact bget_chap_w t b n c A w h hb hl hn hc h65 h1 y k hy
 ·rw [h1,bget_lqr] at hy;exact bget_lqr_w t b n c A w h hb hl hn hc h65 h1 y k hy
 ·rw [bget_else hr h1] at hy
  injection hy with e1 e2
  subst e1;subst e2
  exact bget_data_w t b n c A w h hb hl hn hc h65 hr h1
end Go.Proofs.YtmhjnghomihjlaaGreat
