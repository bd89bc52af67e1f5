/-
  What the document's Get and Check of layer 20 answer. No condition beyond: at most 2^30 octets; packets that Go may have.
-/
import Derived.Test.YtmhjnghomihjlaaGreatBodR
import Derived.Test.YtmhjnghomihjlaaGreatLcpS
import Derived.Test.YtmhjnghomihjlaaGreatNcpS
import Derived.Test.YtmhjnghomihjlaaGreatPapS
import Derived.Test.YtmhjnghomihjlaaGreatChpS
import Derived.Test.YtmhjnghomihjlaaGreatLqrS
namespace Go.Proofs.YtmhjnghomihjlaaGreat
set_option maxRecDepth 8000
set_option maxHeartbeats 80000000
set_option linter.unusedVariables false
open Go.RowKit
theorem rbget_lcp (t:Nat) (b:List Nat) (n c:Nat) (A:Option Addr) (w:World) (F:Nat→Prop) (hF:∀ i,w.heap.size≤i→F i) (h:RdF F w A b) (hb:By b) (hl:b.length=n) (hn:n≤1073741824) (hc:n≤c) (ht:t=49185) (y:Pk) (k:Nat) (hy:lgetB b=(y,k)) :
  Calls Tryz.prog 32 #[.int .i64 (t:Int),.slice A n c] w (GetF F w y k):=by
 have C:=hI (GeC.made 29 w)
 have HR:=hI (h.mono (G:=fun i=>F i∧i≠w.heap.size) (fun i hi hf=>⟨hf,Nat.ne_of_lt hi⟩))
 have HFF:=hI hF
 have HB:=hI hb
 have HL:=hI hl
 have HC:=hI hc
 have HY:=hI hy
 have H65:=hI (show t<65536 by omega)
 have HQ:=hI (show rightB t=true by rw [ht];decide)
 have f0:((t:Int) == 49185)=true:=by simp;omega
 clear h hF hb hl hc hy ht
 go_enter Tryz.func32,Tryz.ntmps32
 go_upto_region 1 with fail
 with_reducible refine at_worldP (fun W=>Hid (GeC 29 w W)) C ?_
 clear C
 rintro W C
 obtain ⟨FW,hFW⟩:∃ G,Hid (G=fun i=>F i∧i≠w.heap.size):=⟨_,hI rfl⟩
 have HRW:=hI (show RdF FW W A b by rw [hFW.out];exact HR.out.keep (.of_below C.out.bel))
 have HFW:=hI (show ∀ i,W.heap.size≤i→FW i by rw [hFW.out];exact fun i hi=>⟨HFF.out i (Nat.le_trans C.out.bel.size hi),Nat.ne_of_gt (Nat.lt_of_lt_of_le C.out.res.lt hi)⟩)
 go_wp2_with (first
  | (go_at_call 47;(with_reducible refine (rright_v t true H65.out HQ.out _).mono ?_);rintro e wn ⟨rfl,rfl⟩)
  | (go_at_call 55;(with_reducible refine (lrgF_any b n c A _ FW HFW.out HRW.out HB.out HL.out hn HC.out y k HY.out).mono ?_);rintro e wn ⟨q1,rfl,hp1,hb⟩;rw [hFW.out] at hp1;have P:=hI hp1;replace C:=hI (C.out.step hb);clear hb hp1;obtain ⟨y0,y1,y2,y3,y4,y5,y6,y7,y8,y9⟩:=C.out.res.all;obtain ⟨z0,z1,z2,z3,z4,z5,z6,z7,z8,z9⟩:=C.out.res.free))
 refine bodyPost_ret (v:=.tuple #[y.val q1,.int .i64 (k:Int)]) ?_ rfl (GetF.mk q1 rfl ((P.out.keep ((put10_keeps wn w.heap.size y q1).less (fun i _ hi=>hi.2))).mono (fun i _ hi=>hi.1)) (put10_below C.out.bel (Nat.le_refl _) y q1))
 exact results_row_tmpP rfl _ _ _ w.heap.size 29 _ _ _ rfl rfl (put10_px C.out.res y q1) Tryz.underlying29 (by kernel_rfl)
theorem rbget_ipcp (t:Nat) (b:List Nat) (n c:Nat) (A:Option Addr) (w:World) (F:Nat→Prop) (hF:∀ i,w.heap.size≤i→F i) (h:RdF F w A b) (hb:By b) (hl:b.length=n) (hn:n≤1073741824) (hc:n≤c) (ht:t=32801) (y:Pk) (k:Nat) (hy:ngetB t b=(y,k)) :
  Calls Tryz.prog 32 #[.int .i64 (t:Int),.slice A n c] w (GetF F w y k):=by
 have C:=hI (GeC.made 29 w)
 have HR:=hI (h.mono (G:=fun i=>F i∧i≠w.heap.size) (fun i hi hf=>⟨hf,Nat.ne_of_lt hi⟩))
 have HFF:=hI hF
 have HB:=hI hb
 have HL:=hI hl
 have HC:=hI hc
 have HY:=hI hy
 have H65:=hI (show t<65536 by omega)
 have HQ:=hI (show rightB t=true by rw [ht];decide)
 have f0:((t:Int) == 49185)=false:=by simp;omega
 have f1:((t:Int) == 32801)=true:=by simp;omega
 clear h hF hb hl hc hy ht
 go_enter Tryz.func32,Tryz.ntmps32
 go_upto_region 1 with fail
 with_reducible refine at_worldP (fun W=>Hid (GeC 29 w W)) C ?_
 clear C
 rintro W C
 obtain ⟨FW,hFW⟩:∃ G,Hid (G=fun i=>F i∧i≠w.heap.size):=⟨_,hI rfl⟩
 have HRW:=hI (show RdF FW W A b by rw [hFW.out];exact HR.out.keep (.of_below C.out.bel))
 have HFW:=hI (show ∀ i,W.heap.size≤i→FW i by rw [hFW.out];exact fun i hi=>⟨HFF.out i (Nat.le_trans C.out.bel.size hi),Nat.ne_of_gt (Nat.lt_of_lt_of_le C.out.res.lt hi)⟩)
 go_wp2_with (first
  | (go_at_call 47;(with_reducible refine (rright_v t true H65.out HQ.out _).mono ?_);rintro e wn ⟨rfl,rfl⟩)
  | (go_at_call 56;(with_reducible refine (nrgF_any t b n c A _ FW HFW.out HRW.out HB.out HL.out hn HC.out y k HY.out).mono ?_);rintro e wn ⟨q1,rfl,hp1,hb⟩;rw [hFW.out] at hp1;have P:=hI hp1;replace C:=hI (C.out.step hb);clear hb hp1;obtain ⟨y0,y1,y2,y3,y4,y5,y6,y7,y8,y9⟩:=C.out.res.all;obtain ⟨z0,z1,z2,z3,z4,z5,z6,z7,z8,z9⟩:=C.out.res.free))
 refine bodyPost_ret (v:=.tuple #[y.val q1,.int .i64 (k:Int)]) ?_ rfl (GetF.mk q1 rfl ((P.out.keep ((put10_keeps wn w.heap.size y q1).less (fun i _ hi=>hi.2))).mono (fun i _ hi=>hi.1)) (put10_below C.out.bel (Nat.le_refl _) y q1))
 exact results_row_tmpP rfl _ _ _ w.heap.size 29 _ _ _ rfl rfl (put10_px C.out.res y q1) Tryz.underlying29 (by kernel_rfl)
theorem rbget_ip6cp (t:Nat) (b:List Nat) (n c:Nat) (A:Option Addr) (w:World) (F:Nat→Prop) (hF:∀ i,w.heap.size≤i→F i) (h:RdF F w A b) (hb:By b) (hl:b.length=n) (hn:n≤1073741824) (hc:n≤c) (ht:t=32855) (y:Pk) (k:Nat) (hy:ngetB t b=(y,k)) :
  Calls Tryz.prog 32 #[.int .i64 (t:Int),.slice A n c] w (GetF F w y k):=by
 have C:=hI (GeC.made 29 w)
 have HR:=hI (h.mono (G:=fun i=>F i∧i≠w.heap.size) (fun i hi hf=>⟨hf,Nat.ne_of_lt hi⟩))
 have HFF:=hI hF
 have HB:=hI hb
 have HL:=hI hl
 have HC:=hI hc
 have HY:=hI hy
 have H65:=hI (show t<65536 by omega)
 have HQ:=hI (show rightB t=true by rw [ht];decide)
 have f0:((t:Int) == 49185)=false:=by simp;omega
 have f1:((t:Int) == 32801)=false:=by simp;omega
 have f2:((t:Int) == 32855)=true:=by simp;omega
 clear h hF hb hl hc hy ht
 go_enter Tryz.func32,Tryz.ntmps32
 go_upto_region 1 with fail
 with_reducible refine at_worldP (fun W=>Hid (GeC 29 w W)) C ?_
 clear C
 rintro W C
 obtain ⟨FW,hFW⟩:∃ G,Hid (G=fun i=>F i∧i≠w.heap.size):=⟨_,hI rfl⟩
 have HRW:=hI (show RdF FW W A b by rw [hFW.out];exact HR.out.keep (.of_below C.out.bel))
 have HFW:=hI (show ∀ i,W.heap.size≤i→FW i by rw [hFW.out];exact fun i hi=>⟨HFF.out i (Nat.le_trans C.out.bel.size hi),Nat.ne_of_gt (Nat.lt_of_lt_of_le C.out.res.lt hi)⟩)
 go_wp2_with (first
  | (go_at_call 47;(with_reducible refine (rright_v t true H65.out HQ.out _).mono ?_);rintro e wn ⟨rfl,rfl⟩)
  | (go_at_call 56;(with_reducible refine (nrgF_any t b n c A _ FW HFW.out HRW.out HB.out HL.out hn HC.out y k HY.out).mono ?_);rintro e wn ⟨q1,rfl,hp1,hb⟩;rw [hFW.out] at hp1;have P:=hI hp1;replace C:=hI (C.out.step hb);clear hb hp1;obtain ⟨y0,y1,y2,y3,y4,y5,y6,y7,y8,y9⟩:=C.out.res.all;obtain ⟨z0,z1,z2,z3,z4,z5,z6,z7,z8,z9⟩:=C.out.res.free))
 refine bodyPost_ret (v:=.tuple #[y.val q1,.int .i64 (k:Int)]) ?_ rfl (GetF.mk q1 rfl ((P.out.keep ((put10_keeps wn w.heap.size y q1).less (fun i _ hi=>hi.2))).mono (fun i _ hi=>hi.1)) (put10_below C.out.bel (Nat.le_refl _) y q1))
 exact results_row_tmpP rfl _ _ _ w.heap.size 29 _ _ _ rfl rfl (put10_px C.out.res y q1) Tryz.underlying29 (by kernel_rfl)
theorem rbget_pap (t:Nat) (b:List Nat) (n c:Nat) (A:Option Addr) (w:World) (F:Nat→Prop) (hF:∀ i,w.heap.size≤i→F i) (h:RdF F w A b) (hb:By b) (hl:b.length=n) (hn:n≤1073741824) (hc:n≤c) (ht:t=49187) (y:Pk) (k:Nat) (hy:agetB b=(y,k)) :
  Calls Tryz.prog 32 #[.int .i64 (t:Int),.slice A n c] w (GetF F w y k):=by
 have C:=hI (GeC.made 29 w)
 have HR:=hI (h.mono (G:=fun i=>F i∧i≠w.heap.size) (fun i hi hf=>⟨hf,Nat.ne_of_lt hi⟩))
 have HFF:=hI hF
 have HB:=hI hb
 have HL:=hI hl
 have HC:=hI hc
 have HY:=hI hy
 have H65:=hI (show t<65536 by omega)
 have HQ:=hI (show rightB t=true by rw [ht];decide)
 have f0:((t:Int) == 49185)=false:=by simp;omega
 have f1:((t:Int) == 32801)=false:=by simp;omega
 have f2:((t:Int) == 32855)=false:=by simp;omega
 have f3:((t:Int) == 49187)=true:=by simp;omega
 clear h hF hb hl hc hy ht
 go_enter Tryz.func32,Tryz.ntmps32
 go_upto_region 1 with fail
 with_reducible refine at_worldP (fun W=>Hid (GeC 29 w W)) C ?_
 clear C
 rintro W C
 obtain ⟨FW,hFW⟩:∃ G,Hid (G=fun i=>F i∧i≠w.heap.size):=⟨_,hI rfl⟩
 have HRW:=hI (show RdF FW W A b by rw [hFW.out];exact HR.out.keep (.of_below C.out.bel))
 have HFW:=hI (show ∀ i,W.heap.size≤i→FW i by rw [hFW.out];exact fun i hi=>⟨HFF.out i (Nat.le_trans C.out.bel.size hi),Nat.ne_of_gt (Nat.lt_of_lt_of_le C.out.res.lt hi)⟩)
 go_wp2_with (first
  | (go_at_call 47;(with_reducible refine (rright_v t true H65.out HQ.out _).mono ?_);rintro e wn ⟨rfl,rfl⟩)
  | (go_at_call 57;(with_reducible refine (argF_any b n c A _ FW HFW.out HRW.out HB.out HL.out hn HC.out y k HY.out).mono ?_);rintro e wn ⟨q1,rfl,hp1,hb⟩;rw [hFW.out] at hp1;have P:=hI hp1;replace C:=hI (C.out.step hb);clear hb hp1;obtain ⟨y0,y1,y2,y3,y4,y5,y6,y7,y8,y9⟩:=C.out.res.all;obtain ⟨z0,z1,z2,z3,z4,z5,z6,z7,z8,z9⟩:=C.out.res.free))
 refine bodyPost_ret (v:=.tuple #[y.val q1,.int .i64 (k:Int)]) ?_ rfl (GetF.mk q1 rfl ((P.out.keep ((put10_keeps wn w.heap.size y q1).less (fun i _ hi=>hi.2))).mono (fun i _ hi=>hi.1)) (put10_below C.out.bel (Nat.le_refl _) y q1))
 exact results_row_tmpP rfl _ _ _ w.heap.size 29 _ _ _ rfl rfl (put10_px C.out.res y q1) Tryz.underlying29 (by kernel_rfl)
theorem rbget_chap (t:Nat) (b:List Nat) (n c:Nat) (A:Option Addr) (w:World) (F:Nat→Prop) (hF:∀ i,w.heap.size≤i→F i) (h:RdF F w A b) (hb:By b) (hl:b.length=n) (hn:n≤1073741824) (hc:n≤c) (ht:t=49699) (y:Pk) (k:Nat) (hy:chgetB b=(y,k)) :
  Calls Tryz.prog 32 #[.int .i64 (t:Int),.slice A n c] w (GetF F w y k):=by
 have C:=hI (GeC.made 29 w)
 have HR:=hI (h.mono (G:=fun i=>F i∧i≠w.heap.size) (fun i hi hf=>⟨hf,Nat.ne_of_lt hi⟩))
 have HFF:=hI hF
 have HB:=hI hb
 have HL:=hI hl
 have HC:=hI hc
 have HY:=hI hy
 have H65:=hI (show t<65536 by omega)
 have HQ:=hI (show rightB t=true by rw [ht];decide)
 have f0:((t:Int) == 49185)=false:=by simp;omega
 have f1:((t:Int) == 32801)=false:=by simp;omega
 have f2:((t:Int) == 32855)=false:=by simp;omega
 have f3:((t:Int) == 49187)=false:=by simp;omega
 have f4:((t:Int) == 49699)=true:=by simp;omega
 clear h hF hb hl hc hy ht
 go_enter Tryz.func32,Tryz.ntmps32
 go_upto_region 1 with fail
 with_reducible refine at_worldP (fun W=>Hid (GeC 29 w W)) C ?_
 clear C
 rintro W C
 obtain ⟨FW,hFW⟩:∃ G,Hid (G=fun i=>F i∧i≠w.heap.size):=⟨_,hI rfl⟩
 have HRW:=hI (show RdF FW W A b by rw [hFW.out];exact HR.out.keep (.of_below C.out.bel))
 have HFW:=hI (show ∀ i,W.heap.size≤i→FW i by rw [hFW.out];exact fun i hi=>⟨HFF.out i (Nat.le_trans C.out.bel.size hi),Nat.ne_of_gt (Nat.lt_of_lt_of_le C.out.res.lt hi)⟩)
 go_wp2_with (first
  | (go_at_call 47;(with_reducible refine (rright_v t true H65.out HQ.out _).mono ?_);rintro e wn ⟨rfl,rfl⟩)
  | (go_at_call 58;(with_reducible refine (chrgF_any b n c A _ FW HFW.out HRW.out HB.out HL.out hn HC.out y k HY.out).mono ?_);rintro e wn ⟨q1,rfl,hp1,hb⟩;rw [hFW.out] at hp1;have P:=hI hp1;replace C:=hI (C.out.step hb);clear hb hp1;obtain ⟨y0,y1,y2,y3,y4,y5,y6,y7,y8,y9⟩:=C.out.res.all;obtain ⟨z0,z1,z2,z3,z4,z5,z6,z7,z8,z9⟩:=C.out.res.free))
 refine bodyPost_ret (v:=.tuple #[y.val q1,.int .i64 (k:Int)]) ?_ rfl (GetF.mk q1 rfl ((P.out.keep ((put10_keeps wn w.heap.size y q1).less (fun i _ hi=>hi.2))).mono (fun i _ hi=>hi.1)) (put10_below C.out.bel (Nat.le_refl _) y q1))
 exact results_row_tmpP rfl _ _ _ w.heap.size 29 _ _ _ rfl rfl (put10_px C.out.res y q1) Tryz.underlying29 (by kernel_rfl)
theorem rbget_lqr (t:Nat) (b:List Nat) (n c:Nat) (A:Option Addr) (w:World) (F:Nat→Prop) (hF:∀ i,w.heap.size≤i→F i) (h:RdF F w A b) (hb:By b) (hl:b.length=n) (hn:n≤1073741824) (hc:n≤c) (ht:t=49189) (y:Pk) (k:Nat) (hy:lqgetB b=(y,k)) :
  Calls Tryz.prog 32 #[.int .i64 (t:Int),.slice A n c] w (GetF F w y k):=by
 have C:=hI (GeC.made 29 w)
 have HR:=hI (h.mono (G:=fun i=>F i∧i≠w.heap.size) (fun i hi hf=>⟨hf,Nat.ne_of_lt hi⟩))
 have HFF:=hI hF
 have HB:=hI hb
 have HL:=hI hl
 have HC:=hI hc
 have HY:=hI hy
 have H65:=hI (show t<65536 by omega)
 have HQ:=hI (show rightB t=true by rw [ht];decide)
 have f0:((t:Int) == 49185)=false:=by simp;omega
 have f1:((t:Int) == 32801)=false:=by simp;omega
 have f2:((t:Int) == 32855)=false:=by simp;omega
 have f3:((t:Int) == 49187)=false:=by simp;omega
 have f4:((t:Int) == 49699)=false:=by simp;omega
 have f5:((t:Int) == 49189)=true:=by simp;omega
 clear h hF hb hl hc hy ht
 go_enter Tryz.func32,Tryz.ntmps32
 go_upto_region 1 with fail
 with_reducible refine at_worldP (fun W=>Hid (GeC 29 w W)) C ?_
 clear C
 rintro W C
 obtain ⟨FW,hFW⟩:∃ G,Hid (G=fun i=>F i∧i≠w.heap.size):=⟨_,hI rfl⟩
 have HRW:=hI (show RdF FW W A b by rw [hFW.out];exact HR.out.keep (.of_below C.out.bel))
 have HFW:=hI (show ∀ i,W.heap.size≤i→FW i by rw [hFW.out];exact fun i hi=>⟨HFF.out i (Nat.le_trans C.out.bel.size hi),Nat.ne_of_gt (Nat.lt_of_lt_of_le C.out.res.lt hi)⟩)
 go_wp2_with (first
  | (go_at_call 47;(with_reducible refine (rright_v t true H65.out HQ.out _).mono ?_);rintro e wn ⟨rfl,rfl⟩)
  | (go_at_call 59;(with_reducible refine (rlget_any b n c A _ HRW.out.rd HB.out HL.out HC.out hn y k HY.out).mono ?_);rintro e wn hg;obtain ⟨q1,rfl,hp1,hb⟩:=GetN.getF hg (F:=FW) HFW.out;rw [hFW.out] at hp1;have P:=hI hp1;replace C:=hI (C.out.step hb);clear hb hp1;obtain ⟨y0,y1,y2,y3,y4,y5,y6,y7,y8,y9⟩:=C.out.res.all;obtain ⟨z0,z1,z2,z3,z4,z5,z6,z7,z8,z9⟩:=C.out.res.free))
 refine bodyPost_ret (v:=.tuple #[y.val q1,.int .i64 (k:Int)]) ?_ rfl (GetF.mk q1 rfl ((P.out.keep ((put10_keeps wn w.heap.size y q1).less (fun i _ hi=>hi.2))).mono (fun i _ hi=>hi.1)) (put10_below C.out.bel (Nat.le_refl _) y q1))
 exact results_row_tmpP rfl _ _ _ w.heap.size 29 _ _ _ rfl rfl (put10_px C.out.res y q1) Tryz.underlying29 (by kernel_rfl)
theorem rbget_none (t:Nat) (n c:Nat) (A:Option Addr) (w:World) (F:Nat→Prop) (h65:t<65536) (h:rightB t=false) :
  Calls Tryz.prog 32 #[.int .i64 (t:Int),.slice A n c] w (GetF F w pk0 7):=by
 have C:=hI (GeC.made 29 w)
 have H65:=hI h65
 have HQ:=hI h
 clear h h65
 go_enter Tryz.func32,Tryz.ntmps32
 go_upto_region 1 with fail
 with_reducible refine at_worldP (fun W=>Hid (GeC 29 w W)) C ?_
 clear C
 rintro W C
 obtain ⟨y0,y1,y2,y3,y4,y5,y6,y7,y8,y9⟩:=C.out.res.all;obtain ⟨z0,z1,z2,z3,z4,z5,z6,z7,z8,z9⟩:=C.out.res.free
 go_wp2_with ((go_at_call 47;(with_reducible refine (rright_v t false H65.out HQ.out _).mono ?_);rintro e wn ⟨rfl,rfl⟩))
 refine bodyPost_ret (v:=.tuple #[pk0.val pl0,.int .i64 7]) ?_ rfl (GetF.mk pl0 rfl pwF0 (put10_below C.out.bel (Nat.le_refl _) pk0 pl0))
 exact results_row_tmpP rfl _ _ _ w.heap.size 29 _ _ _ rfl rfl (put10_px C.out.res pk0 pl0) Tryz.underlying29 (by kernel_rfl)
theorem rbget_data (t:Nat) (b:List Nat) (n c:Nat) (A:Option Addr) (w:World) (F:Nat→Prop) (hF:∀ i,w.heap.size≤i→F i) (h:RdF F w A b) (hb:By b) (hl:b.length=n) (hn:n≤1073741824) (hc:n≤c) (h65:t<65536) (hr:rightB t=true) (ht:¬ layB t) :
  Calls Tryz.prog 32 #[.int .i64 (t:Int),.slice A n c] w (GetF F w (datP t b) 0):=by
 unfold layB at ht
 have C:=hI (GeC.made 29 w)
 have HR:=hI (h.mono (G:=fun i=>F i∧i≠w.heap.size) (fun i hi hf=>⟨hf,Nat.ne_of_lt hi⟩))
 have HL:=hI hl
 have HC:=hI hc
 have H65:=hI h65
 have HQ:=hI hr
 have wt:IntKind.u16.wrap (t:Int)=(t:Int):=by rw [IntKind.wrap_u16];omega
 have f0:((t:Int) == 49185)=false:=by simp;omega
 have f1:((t:Int) == 32801)=false:=by simp;omega
 have f2:((t:Int) == 32855)=false:=by simp;omega
 have f3:((t:Int) == 49187)=false:=by simp;omega
 have f4:((t:Int) == 49699)=false:=by simp;omega
 have f5:((t:Int) == 49189)=false:=by simp;omega
 clear h hF hb hl hc ht hr h65
 go_enter Tryz.func32,Tryz.ntmps32
 go_upto_region 1 with fail
 with_reducible refine at_worldP (fun W=>Hid (GeC 29 w W)) C ?_
 clear C
 rintro W C
 obtain ⟨y0,y1,y2,y3,y4,y5,y6,y7,y8,y9⟩:=C.out.res.all;obtain ⟨z0,z1,z2,z3,z4,z5,z6,z7,z8,z9⟩:=C.out.res.free
 go_wp2_with ((go_at_call 47;(with_reducible refine (rright_v t true H65.out HQ.out _).mono ?_);rintro e wn ⟨rfl,rfl⟩))
 refine bodyPost_ret (v:=.tuple #[(datP t b).val { pl0 with ad:=A,nd:=n,cd:=c },.int .i64 0]) ?_ rfl (GetF.mk { pl0 with ad:=A,nd:=n,cd:=c } rfl ?_ (put10_below C.out.bel (Nat.le_refl _) (datP t b) { pl0 with ad:=A,nd:=n,cd:=c }))
 ·exact results_row_tmpP rfl _ _ _ w.heap.size 29 _ _ _ rfl rfl (put10_px C.out.res (datP t b) { pl0 with ad:=A,nd:=n,cd:=c }) Tryz.underlying29 (by kernel_rfl)
 ·exact ((pwF_data t 0 0 0 0 HL.out (HR.out.keep (.of_below C.out.bel)) HC.out).keep ((put10_keeps W w.heap.size (datP t b) { pl0 with ad:=A,nd:=n,cd:=c }).less (fun i _ hi=>hi.2))).mono (fun i _ hi=>hi.1)
theorem rbget_any (t:Nat) (b:List Nat) (n c:Nat) (A:Option Addr) (w:World) (F:Nat→Prop) (hF:∀ i,w.heap.size≤i→F i) (h:RdF F w A b) (hb:By b) (hl:b.length=n) (hn:n≤1073741824) (hc:n≤c) (h65:t<65536) (y:Pk) (k:Nat) (hy:bgetB t b=(y,k)) :
  Calls Tryz.prog 32 #[.int .i64 (t:Int),.slice A n c] w (GetF F w y k):=by
 rcases bways t with hr | ⟨hr,h1 | (h1 | h1) | h1 | h1 | h1 | h1⟩
 ·rw [bget_none hr] at hy
  injection hy with e1 e2
  subst e1;subst e2
  exact rbget_none t n c A w F h65 hr
 ·rw [h1,bget_lcp] at hy;exact rbget_lcp t b n c A w F hF h hb hl hn hc h1 y k hy
 ·rw [bget_ncp (.inl h1)] at hy;exact rbget_ipcp t b n c A w F hF h hb hl hn hc h1 y k hy
 ·rw [bget_ncp (.inr h1)] at hy;exact rbget_ip6cp t b n c A w F hF h hb hl hn hc h1 y k hy
 ·rw [h1,bget_pap] at hy;exact rbget_pap t b n c A w F hF h hb hl hn hc h1 y k hy
 ·rw [h1,bget_chap] at hy;exact rbget_chap t b n c A w F hF h hb hl hn hc h1 y k hy
 ·rw [h1,bget_lqr] at hy;exact rbget_lqr t b n c A w F hF h hb hl hn hc h1 y k hy
 ·rw [bget_else hr h1] at hy
  injection hy with e1 e2
  subst e1;subst e2
  exact rbget_data t b n c A w F hF h hb hl hn hc h65 hr h1
end Go.Proofs.YtmhjnghomihjlaaGreat
