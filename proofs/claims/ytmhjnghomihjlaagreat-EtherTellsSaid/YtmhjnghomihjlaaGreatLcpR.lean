/-
  What the document's Put of layer 15 answers. No condition beyond: packets that Go may have, at most 2^30 elements in each slice.
-/
import Derived.Test.YtmhjnghomihjlaaGreatGLcq
import Derived.Test.YtmhjnghomihjlaaGreatGMat
import Derived.Deep.CutRange
import Derived.Deep.RegionHeld3
namespace Go.Proofs.YtmhjnghomihjlaaGreat
set_option maxRecDepth 8000
set_option maxHeartbeats 80000000
set_option linter.unusedVariables false
open Go.RowKit
theorem prput_lcp (l:List (Nat × List Nat)) (m:List Nat) (q:Nat) (hm:putO 49185 l=(m,q)) (k:Nat) (hk:m.length=k) (n c:Nat) (A:Option Addr) (F:Nat→Prop) (w:World) (h:Rws shO F w A l) (hl:l.length=n) (hn:n≤68719476736) (hd:datB l≤68719476736) :
  Calls Tryz.prog 67 #[.int .i64 49185,.slice A n c] w fun e w'=>∃ A' c',e=.returned (.tuple #[.slice A' k c',.int .i64 (q:Int)])∧Rd w' w'.heap.size A' m∧k≤c'∧Below w.heap.size w w' :=
 prput_any 49185 l m q hm k hk n c A F w h hl hn hd
theorem noth_rest (p:Pk):nothL (restL p)=true ↔ (hasL p.code≠1→p.opts.length=0)∧(hasL p.code=1→p.data.length=0)∧(hasL p.code≠2→p.sub=0)∧(hasL p.code≠3→p.magic=0)∧p.one.length=0∧p.two.length=0∧p.nums.length=0:=by
 unfold restL nothL
 rcases hasL_cases p.code with h | h | h | h
 all_goals
  rw [h]
  simp
  try (constructor <;> (intro h';simp_all))
theorem number_2 (v:Nat) (hv:v<4294967296) (w:World):Calls Tryz.prog 69 #[.int .i64 (v:Int),.int .i64 2] w fun e w'=>∃ A c,e=.returned (.slice A 2 c)∧w'.ownsRow w.heap.size 5 1 (.slice A 2 c) 2 (bvs (numB v 2))∧Below w.heap.size w w':=number_any v 2 hv (by decide) w
theorem number_4 (v:Nat) (hv:v<4294967296) (w:World):Calls Tryz.prog 69 #[.int .i64 (v:Int),.int .i64 4] w fun e w'=>∃ A c,e=.returned (.slice A 4 c)∧w'.ownsRow w.heap.size 5 1 (.slice A 4 c) 4 (bvs (numB v 4))∧Below w.heap.size w w':=number_any v 4 hv (by decide) w
theorem lrp_kind (p:Pk) (q:Pl) (w:World) (h1:¬ p.proto=49185) :
  Calls Tryz.prog 48 #[p.val q] w (PutR w [] 0 8):=by
 have C:=hI (BxC.made 29 w p q)
 have j1:((p.proto:Int) != 49185)=true:=by rw [bne_iff_ne];omega
 clear h1
 go_enter Tryz.func48,Tryz.ntmps48
 go_upto_region 1 with fail
 obtain ⟨wm,hwm⟩:∃ wm,wm=w.alloc (p.obj q 29):=⟨_,rfl⟩
 rw [←hwm] at C ⊢
 clear hwm
 obtain ⟨x0,x1,x2,x3,x4,x5,x6,x7,x8,x9⟩:=C.out.cf.all
 have b0:w.heap.size<wm.heap.size:=C.out.cf.lt
 go_wp2_with fail
 go_ret2
 exact PutR.mk none 0 rfl Rd.nil (Nat.le_refl _) C.out.bel
theorem lrp_bad_a (p : Pk) (q : Pl) (w : World) (h : Pw w p q) (hok : p.ok) (hs : p.sm) (h1 : p.proto = 49185) (hc : p.code = 0) (hr : nothL (restL p) = false) :
    Calls Tryz.prog 48 #[p.val q] w (PutR w [] 0 9) := by
  have C := Lib.hid (BxC.made 29 w p q)
  have j1 : ((p.proto : Int) != 49185) = false := by simp; omega
  have hk : hasL p.code = 0 := by unfold hasL; rw [if_neg (by omega), if_neg (by omega), if_neg (by omega)]
  have BAD := Lib.hid (show ¬ (q.no = 0 ∧ p.sub = 0 ∧ p.magic = 0 ∧ q.n1 = 0 ∧ q.n2 = 0 ∧ q.nn = 0) from fun hh => by
    have := (noth_rest p).2 ⟨fun _ => by rw [h.lo]; exact hh.1, fun _ => by omega, fun _ => by omega, fun _ => by omega, by rw [h.l1]; omega, by rw [h.l2]; omega, by rw [h.ln]; omega⟩
    rw [hr] at this
    cases this)
  have c1 : ¬ (1 : Int) ≤ (p.code : Int) := by omega
  have t8 : ((p.code : Int) == 8) = false := by simp; omega
  have n8 : ((p.code : Int) != 8) = true := by rw [bne, t8]; rfl
  have t9 : ((p.code : Int) == 9) = false := by simp; omega
  have t10 : ((p.code : Int) == 10) = false := by simp; omega
  have t11 : ((p.code : Int) == 11) = false := by simp; omega
  clear h1 hc hk hr h hs hok
  go_enter Tryz.func48, Tryz.ntmps48
  go_upto_region 1 with fail
  obtain ⟨wm, hwm⟩ : ∃ wm, wm = w.alloc (p.obj q 29) := ⟨_, rfl⟩
  rw [← hwm] at C ⊢
  clear hwm
  obtain ⟨x0, x1, x2, x3, x4, x5, x6, x7, x8, x9⟩ := C.out.cf.all
  have b0 : w.heap.size < wm.heap.size := C.out.cf.lt
  go_wp2_with fail
  all_goals first
    | (go_ret2
       exact PutR.mk none 0 rfl Rd.nil (Nat.le_refl _) C.out.bel)
    | (exfalso
       refine BAD.out ⟨?_, ?_, ?_, ?_, ?_, ?_⟩ <;> first | assumption | omega | (simp_all; done) | (simp_all; omega))
theorem lrp_ok_a (p:Pk) (q:Pl) (w:World) (h:Pw w p q) (hok:p.ok) (hs:p.sm) (h1:p.proto=49185) (hc:p.code=0) (hr:nothL (restL p)=true) (m:List Nat) (k:Nat) (hm:kputA p.code p.id ([] ++ p.data)=m) (he:kerrP ([] ++ p.data)=k) (n:Nat) (hn:m.length=n) :
  Calls Tryz.prog 48 #[p.val q] w (PutR w m n k):=by
 obtain ⟨i0,hi,hz0,hz1,hz2⟩:=info_parts byte_info
 have C:=hI (BxC.made 29 w p q)
 have H:=hI h
 have j1:((p.proto:Int) != 49185)=false:=by simp;omega
 have hk:hasL p.code=0:=by unfold hasL;rw [if_neg (by omega),if_neg (by omega),if_neg (by omega)]
 obtain ⟨g1,g2,g3,g4,g5,g6,g7⟩:=(noth_rest p).1 hr
 have d1:¬ (0:Int)<(q.no:Int):=by have:=g1 (by omega);rw [h.lo] at this;omega
 have d2:((p.sub:Int) != 0)=false:=by have:=g3 (by omega);simp;omega
 have d3:((p.magic:Int) != 0)=false:=by have:=g4 (by omega);simp;omega
 have d4:¬ (0:Int)<(q.n1:Int):=by rw [h.l1] at g5;omega
 have d5:¬ (0:Int)<(q.n2:Int):=by rw [h.l2] at g6;omega
 have d6:¬ (0:Int)<(q.nn:Int):=by rw [h.ln] at g7;omega
 have s8:q.nd≤1073741824:=by rw [←h.ld];exact hs.nd
 have c1:¬ (1:Int)≤(p.code:Int):=by omega
 have t8:((p.code:Int) == 8)=false:=by simp;omega
 have n8:((p.code:Int) != 8)=true:=by rw [bne,t8];rfl
 have t9:((p.code:Int) == 9)=false:=by simp;omega
 have t10:((p.code:Int) == 10)=false:=by simp;omega
 have t11:((p.code:Int) == 11)=false:=by simp;omega
 have HM:=hI hm
 have HE:=hI he
 have HN:=hI hn
 have HL:=hI (show ([] ++ p.data).length=q.nd by rw [List.nil_append,h.ld])
 clear h1 hc hk hr h hs hok g1 g2 g3 g4 g5 g6 g7 hm he hn
 go_enter Tryz.func48,Tryz.ntmps48
 go_upto_region 1 with fail
 obtain ⟨wm,hwm⟩:∃ wm,wm=w.alloc (p.obj q 29):=⟨_,rfl⟩
 rw [←hwm] at C ⊢
 clear hwm
 obtain ⟨x0,x1,x2,x3,x4,x5,x6,x7,x8,x9⟩:=C.out.cf.all
 have b0:w.heap.size<wm.heap.size:=C.out.cf.lt
 go_wp2_with fail
 have OW:=hI (own_lo (World.ownsRow_lit (base:=wm.heap.size) (e:=5) (size:=1) wm #[] 0 (Nat.le_refl _) (by unfold maxLen;omega) rfl) C.out.cf.lt)
 replace C:=hI (C.out.step ((Below.refl wm.heap.size wm).alloc (Nat.le_refl _) (.cells #[] 5)))
 obtain ⟨wb,hwb⟩:∃ wb,wb=wm.alloc (.cells #[] 5):=⟨_,rfl⟩
 obtain ⟨gb,hgb⟩:∃ gb,gb=wm.heap.size:=⟨_,rfl⟩
 rw [←hwb] at OW C ⊢
 rw [←hgb] at OW ⊢
 clear hwb hgb
 clear d1 d2 d3 d4 d5 d6 c1 t8 n8 t9 t10 t11 x0 x1 x2 x3 x4 x5 x6 x7 x8 x9
 obtain ⟨x1,x2,x8⟩:=C.out.c128
 go_region_held3 (fun W=>W.cell? ⟨w.heap.size,1,none⟩=some (.int .u8 (p.code:Int))∧W.cell? ⟨w.heap.size,2,none⟩=some (.int .u8 (p.id:Int))∧W.cell? ⟨w.heap.size,8,none⟩=some (.slice q.ad q.nd q.cd)) (first | (with_reducible exact C.out.c128) | (with_reducible exact (C.out.step (Below.refl _ _).drew).c128)) (first
  | (go_at_call 68;(with_reducible refine (krput_v p.code p.id ([] ++ p.data) _ HE.out m HM.out n HN.out _ _ _ _ X.out HL.out (by omega)).mono ?_);rintro e wn ⟨A5,c5,rfl,h5,h5c,hb⟩;replace C:=hI (C.out.step hb);clear X;have X:=hI h5;have K:=hI h5c;clear h5 h5c hb;dsimp only)
  | (have _g:=OW.out;clear _g;(refine step_app _ (by rfl) _ _ _ (by rfl) _ i0 Tryz.underlying26 hi hz0 hz1 hz2 (w.heap.size+1) _ 0 [] (by rfl) OW.out _ _ q.nd _ p.data (by rfl) (H.out.on C.out.bel).rd H.out.ld (by omega) (Nat.succ_le_of_lt C.out.cf.lt) ?_);intro A4 c4 w4 ho4 hg4;rw [Nat.zero_add];replace C:=hI (C.out.grown hg4 (fun g hg=>(OW.out.lt g hg).1));have X:=hI (Rd.own ho4);clear ho4 hg4 OW))
 all_goals
  go_wp2_with fail
  go_ret2
  exact PutR.mk _ _ rfl X.out K.out C.out.bel
theorem lrp_bad_b (p : Pk) (q : Pl) (w : World) (h : Pw w p q) (hok : p.ok) (hs : p.sm) (h1 : p.proto = 49185) (hc : 1 ≤ p.code ∧ p.code ≤ 4) (hr : nothL (restL p) = false) :
    Calls Tryz.prog 48 #[p.val q] w (PutR w [] 0 9) := by
  have C := Lib.hid (BxC.made 29 w p q)
  have j1 : ((p.proto : Int) != 49185) = false := by simp; omega
  have hk : hasL p.code = 1 := by unfold hasL; rw [if_pos (by omega)]
  have BAD := Lib.hid (show ¬ (q.nd = 0 ∧ p.sub = 0 ∧ p.magic = 0 ∧ q.n1 = 0 ∧ q.n2 = 0 ∧ q.nn = 0) from fun hh => by
    have := (noth_rest p).2 ⟨fun _ => by omega, fun _ => by rw [h.ld]; exact hh.1, fun _ => by omega, fun _ => by omega, by rw [h.l1]; omega, by rw [h.l2]; omega, by rw [h.ln]; omega⟩
    rw [hr] at this
    cases this)
  have c1 : (1 : Int) ≤ (p.code : Int) := by omega
  have c4 : (p.code : Int) ≤ 4 := by omega
  have t8 : ((p.code : Int) == 8) = false := by simp; omega
  have n8 : ((p.code : Int) != 8) = true := by rw [bne, t8]; rfl
  have t9 : ((p.code : Int) == 9) = false := by simp; omega
  have t10 : ((p.code : Int) == 10) = false := by simp; omega
  have t11 : ((p.code : Int) == 11) = false := by simp; omega
  clear h1 hc hk hr h hs hok
  go_enter Tryz.func48, Tryz.ntmps48
  go_upto_region 1 with fail
  obtain ⟨wm, hwm⟩ : ∃ wm, wm = w.alloc (p.obj q 29) := ⟨_, rfl⟩
  rw [← hwm] at C ⊢
  clear hwm
  obtain ⟨x0, x1, x2, x3, x4, x5, x6, x7, x8, x9⟩ := C.out.cf.all
  have b0 : w.heap.size < wm.heap.size := C.out.cf.lt
  go_wp2_with fail
  all_goals first
    | (go_ret2
       exact PutR.mk none 0 rfl Rd.nil (Nat.le_refl _) C.out.bel)
    | (exfalso
       refine BAD.out ⟨?_, ?_, ?_, ?_, ?_, ?_⟩ <;> first | assumption | omega | (simp_all; done) | (simp_all; omega))
theorem lrp_err_b (p:Pk) (q:Pl) (w:World) (h:Pw w p q) (hok:p.ok) (hs:p.sm) (h1:p.proto=49185) (hc:1≤p.code∧p.code≤4) (hr:nothL (restL p)=true) (m2:List Nat) (k2:Nat) (hw:putO 49185 p.opts=(m2,k2)) (hk2:¬ k2=0) :
  Calls Tryz.prog 48 #[p.val q] w (PutR w [] 0 k2):=by
 have C:=hI (BxC.made 29 w p q)
 have H:=hI h
 have j1:((p.proto:Int) != 49185)=false:=by simp;omega
 have hk:hasL p.code=1:=by unfold hasL;rw [if_pos (by omega)]
 obtain ⟨g1,g2,g3,g4,g5,g6,g7⟩:=(noth_rest p).1 hr
 have d1:¬ (0:Int)<(q.nd:Int):=by have:=g2 hk;rw [h.ld] at this;omega
 have d2:((p.sub:Int) != 0)=false:=by have:=g3 (by omega);simp;omega
 have d3:((p.magic:Int) != 0)=false:=by have:=g4 (by omega);simp;omega
 have d4:¬ (0:Int)<(q.n1:Int):=by rw [h.l1] at g5;omega
 have d5:¬ (0:Int)<(q.n2:Int):=by rw [h.l2] at g6;omega
 have d6:¬ (0:Int)<(q.nn:Int):=by rw [h.ln] at g7;omega
 have s8:q.nd≤1073741824:=by rw [←h.ld];exact hs.nd
 have HO:=hI hok.opts
 have HD:=hI (Nat.le_trans hs.d (by decide):datB p.opts≤68719476736)
 have s1:q.no≤68719476736:=by rw [←h.lo];exact Nat.le_trans hs.o (by decide)
 have c1:(1:Int)≤(p.code:Int):=by omega
 have c4:(p.code:Int)≤4:=by omega
 have t8:((p.code:Int) == 8)=false:=by simp;omega
 have n8:((p.code:Int) != 8)=true:=by rw [bne,t8];rfl
 have t9:((p.code:Int) == 9)=false:=by simp;omega
 have t10:((p.code:Int) == 10)=false:=by simp;omega
 have t11:((p.code:Int) == 11)=false:=by simp;omega
 have HW:=hI hw
 have j2:((k2:Int) != 0)=true:=by rw [bne_iff_ne];omega
 clear h1 hc hk hr h hs hok g1 g2 g3 g4 g5 g6 g7 hw hk2
 go_enter Tryz.func48,Tryz.ntmps48
 go_upto_region 1 with fail
 obtain ⟨wm,hwm⟩:∃ wm,wm=w.alloc (p.obj q 29):=⟨_,rfl⟩
 rw [←hwm] at C ⊢
 clear hwm
 obtain ⟨x0,x1,x2,x3,x4,x5,x6,x7,x8,x9⟩:=C.out.cf.all
 have b0:w.heap.size<wm.heap.size:=C.out.cf.lt
 go_wp2_with (first
  | (go_at_call 67;(with_reducible refine (prput_lcp p.opts m2 k2 HW.out m2.length rfl q.no q.co q.ao _ _ (H.out.on C.out.bel).ro H.out.lo s1 HD.out).mono ?_);rintro e wn ⟨A4,c4,rfl,h4,h4c,hb⟩;replace C:=hI (C.out.step hb);clear h4 h4c hb x0 x1 x2 x3 x4 x5 x6 x7 x8 x9))
 go_ret2
 exact PutR.mk none 0 rfl Rd.nil (Nat.le_refl _) C.out.bel
theorem lrp_ok_b (p:Pk) (q:Pl) (w:World) (h:Pw w p q) (hok:p.ok) (hs:p.sm) (h1:p.proto=49185) (hc:1≤p.code∧p.code≤4) (hr:nothL (restL p)=true) (m2:List Nat) (k2:Nat) (hw:putO 49185 p.opts=(m2,k2)) (hk2:k2=0) (m:List Nat) (k:Nat) (hm:kputA p.code p.id m2=m) (he:kerrP m2=k) (n:Nat) (hn:m.length=n) :
  Calls Tryz.prog 48 #[p.val q] w (PutR w m n k):=by
 have C:=hI (BxC.made 29 w p q)
 have H:=hI h
 have j1:((p.proto:Int) != 49185)=false:=by simp;omega
 have hk:hasL p.code=1:=by unfold hasL;rw [if_pos (by omega)]
 obtain ⟨g1,g2,g3,g4,g5,g6,g7⟩:=(noth_rest p).1 hr
 have d1:¬ (0:Int)<(q.nd:Int):=by have:=g2 hk;rw [h.ld] at this;omega
 have d2:((p.sub:Int) != 0)=false:=by have:=g3 (by omega);simp;omega
 have d3:((p.magic:Int) != 0)=false:=by have:=g4 (by omega);simp;omega
 have d4:¬ (0:Int)<(q.n1:Int):=by rw [h.l1] at g5;omega
 have d5:¬ (0:Int)<(q.n2:Int):=by rw [h.l2] at g6;omega
 have d6:¬ (0:Int)<(q.nn:Int):=by rw [h.ln] at g7;omega
 have s8:q.nd≤1073741824:=by rw [←h.ld];exact hs.nd
 have HO:=hI hok.opts
 have HD:=hI (Nat.le_trans hs.d (by decide):datB p.opts≤68719476736)
 have s1:q.no≤68719476736:=by rw [←h.lo];exact Nat.le_trans hs.o (by decide)
 have c1:(1:Int)≤(p.code:Int):=by omega
 have c4:(p.code:Int)≤4:=by omega
 have t8:((p.code:Int) == 8)=false:=by simp;omega
 have n8:((p.code:Int) != 8)=true:=by rw [bne,t8];rfl
 have t9:((p.code:Int) == 9)=false:=by simp;omega
 have t10:((p.code:Int) == 10)=false:=by simp;omega
 have t11:((p.code:Int) == 11)=false:=by simp;omega
 subst hk2
 have HW:=hI hw
 have HM:=hI hm
 have HE:=hI he
 have HN:=hI hn
 obtain ⟨n2,hn2⟩:∃ n2,Hid (m2.length=n2):=⟨_,hI rfl⟩
 have s2:n2≤274877906944:=by
  have e:=hw
  unfold putO at e
  split at e
  ·have e2:=(Prod.mk.inj e).1
   rw [←hn2.out,← e2,put_len]
   have:=hs.o;have:=hs.d;omega
  ·rw [←hn2.out,← (Prod.mk.inj e).1];simp
 clear h1 hc hk hr h hs hok g1 g2 g3 g4 g5 g6 g7 hw hm he hn
 go_enter Tryz.func48,Tryz.ntmps48
 go_upto_region 1 with fail
 obtain ⟨wm,hwm⟩:∃ wm,wm=w.alloc (p.obj q 29):=⟨_,rfl⟩
 rw [←hwm] at C ⊢
 clear hwm
 obtain ⟨x0,x1,x2,x3,x4,x5,x6,x7,x8,x9⟩:=C.out.cf.all
 have b0:w.heap.size<wm.heap.size:=C.out.cf.lt
 go_wp2_with (first
  | (go_at_call 67;(with_reducible refine (prput_lcp p.opts m2 _ HW.out n2 hn2.out q.no q.co q.ao _ _ (H.out.on C.out.bel).ro H.out.lo s1 HD.out).mono ?_);rintro e wn ⟨A4,c4,rfl,h4,h4c,hb⟩;replace C:=hI (C.out.step hb);have X:=hI h4;clear h4 h4c hb x0 x1 x2 x3 x4 x5 x6 x7 x8 x9;obtain ⟨x0,x1,x2,x3,x4,x5,x6,x7,x8,x9⟩:=C.out.cf.all)
  | (go_at_call 68;(with_reducible refine (krput_v p.code p.id m2 _ HE.out m HM.out n HN.out n2 _ _ _ X.out hn2.out s2).mono ?_);rintro e wn ⟨A5,c5,rfl,h5,h5c,hb⟩;replace C:=hI (C.out.step hb);clear X;have X:=hI h5;have K:=hI h5c;clear h5 h5c hb))
 go_ret2
 exact PutR.mk _ _ rfl X.out K.out C.out.bel
theorem lrp_bad_c (p : Pk) (q : Pl) (w : World) (h : Pw w p q) (hok : p.ok) (hs : p.sm) (h1 : p.proto = 49185) (hc : (5 ≤ p.code ∧ p.code ≤ 7) ∨ 12 ≤ p.code) (hr : nothL (restL p) = false) :
    Calls Tryz.prog 48 #[p.val q] w (PutR w [] 0 9) := by
  have C := Lib.hid (BxC.made 29 w p q)
  have j1 : ((p.proto : Int) != 49185) = false := by simp; omega
  have hk : hasL p.code = 0 := by unfold hasL; rw [if_neg (by omega), if_neg (by omega), if_neg (by omega)]
  have BAD := Lib.hid (show ¬ (q.no = 0 ∧ p.sub = 0 ∧ p.magic = 0 ∧ q.n1 = 0 ∧ q.n2 = 0 ∧ q.nn = 0) from fun hh => by
    have := (noth_rest p).2 ⟨fun _ => by rw [h.lo]; exact hh.1, fun _ => by omega, fun _ => by omega, fun _ => by omega, by rw [h.l1]; omega, by rw [h.l2]; omega, by rw [h.ln]; omega⟩
    rw [hr] at this
    cases this)
  have c1 : (1 : Int) ≤ (p.code : Int) := by omega
  have c4 : ¬ (p.code : Int) ≤ 4 := by omega
  have t8 : ((p.code : Int) == 8) = false := by simp; omega
  have n8 : ((p.code : Int) != 8) = true := by rw [bne, t8]; rfl
  have t9 : ((p.code : Int) == 9) = false := by simp; omega
  have t10 : ((p.code : Int) == 10) = false := by simp; omega
  have t11 : ((p.code : Int) == 11) = false := by simp; omega
  clear h1 hc hk hr h hs hok
  go_enter Tryz.func48, Tryz.ntmps48
  go_upto_region 1 with fail
  obtain ⟨wm, hwm⟩ : ∃ wm, wm = w.alloc (p.obj q 29) := ⟨_, rfl⟩
  rw [← hwm] at C ⊢
  clear hwm
  obtain ⟨x0, x1, x2, x3, x4, x5, x6, x7, x8, x9⟩ := C.out.cf.all
  have b0 : w.heap.size < wm.heap.size := C.out.cf.lt
  go_wp2_with fail
  all_goals first
    | (go_ret2
       exact PutR.mk none 0 rfl Rd.nil (Nat.le_refl _) C.out.bel)
    | (exfalso
       refine BAD.out ⟨?_, ?_, ?_, ?_, ?_, ?_⟩ <;> first | assumption | omega | (simp_all; done) | (simp_all; omega))
theorem lrp_ok_c (p:Pk) (q:Pl) (w:World) (h:Pw w p q) (hok:p.ok) (hs:p.sm) (h1:p.proto=49185) (hc:(5≤p.code∧p.code≤7)∨12≤p.code) (hr:nothL (restL p)=true) (m:List Nat) (k:Nat) (hm:kputA p.code p.id ([] ++ p.data)=m) (he:kerrP ([] ++ p.data)=k) (n:Nat) (hn:m.length=n) :
  Calls Tryz.prog 48 #[p.val q] w (PutR w m n k):=by
 obtain ⟨i0,hi,hz0,hz1,hz2⟩:=info_parts byte_info
 have C:=hI (BxC.made 29 w p q)
 have H:=hI h
 have j1:((p.proto:Int) != 49185)=false:=by simp;omega
 have hk:hasL p.code=0:=by unfold hasL;rw [if_neg (by omega),if_neg (by omega),if_neg (by omega)]
 obtain ⟨g1,g2,g3,g4,g5,g6,g7⟩:=(noth_rest p).1 hr
 have d1:¬ (0:Int)<(q.no:Int):=by have:=g1 (by omega);rw [h.lo] at this;omega
 have d2:((p.sub:Int) != 0)=false:=by have:=g3 (by omega);simp;omega
 have d3:((p.magic:Int) != 0)=false:=by have:=g4 (by omega);simp;omega
 have d4:¬ (0:Int)<(q.n1:Int):=by rw [h.l1] at g5;omega
 have d5:¬ (0:Int)<(q.n2:Int):=by rw [h.l2] at g6;omega
 have d6:¬ (0:Int)<(q.nn:Int):=by rw [h.ln] at g7;omega
 have s8:q.nd≤1073741824:=by rw [←h.ld];exact hs.nd
 have c1:(1:Int)≤(p.code:Int):=by omega
 have c4:¬ (p.code:Int)≤4:=by omega
 have t8:((p.code:Int) == 8)=false:=by simp;omega
 have n8:((p.code:Int) != 8)=true:=by rw [bne,t8];rfl
 have t9:((p.code:Int) == 9)=false:=by simp;omega
 have t10:((p.code:Int) == 10)=false:=by simp;omega
 have t11:((p.code:Int) == 11)=false:=by simp;omega
 have HM:=hI hm
 have HE:=hI he
 have HN:=hI hn
 have HL:=hI (show ([] ++ p.data).length=q.nd by rw [List.nil_append,h.ld])
 clear h1 hc hk hr h hs hok g1 g2 g3 g4 g5 g6 g7 hm he hn
 go_enter Tryz.func48,Tryz.ntmps48
 go_upto_region 1 with fail
 obtain ⟨wm,hwm⟩:∃ wm,wm=w.alloc (p.obj q 29):=⟨_,rfl⟩
 rw [←hwm] at C ⊢
 clear hwm
 obtain ⟨x0,x1,x2,x3,x4,x5,x6,x7,x8,x9⟩:=C.out.cf.all
 have b0:w.heap.size<wm.heap.size:=C.out.cf.lt
 go_wp2_with fail
 have OW:=hI (own_lo (World.ownsRow_lit (base:=wm.heap.size) (e:=5) (size:=1) wm #[] 0 (Nat.le_refl _) (by unfold maxLen;omega) rfl) C.out.cf.lt)
 replace C:=hI (C.out.step ((Below.refl wm.heap.size wm).alloc (Nat.le_refl _) (.cells #[] 5)))
 obtain ⟨wb,hwb⟩:∃ wb,wb=wm.alloc (.cells #[] 5):=⟨_,rfl⟩
 obtain ⟨gb,hgb⟩:∃ gb,gb=wm.heap.size:=⟨_,rfl⟩
 rw [←hwb] at OW C ⊢
 rw [←hgb] at OW ⊢
 clear hwb hgb
 clear d1 d2 d3 d4 d5 d6 c1 c4 t8 n8 t9 t10 t11 x0 x1 x2 x3 x4 x5 x6 x7 x8 x9
 obtain ⟨x1,x2,x8⟩:=C.out.c128
 go_region_held3 (fun W=>W.cell? ⟨w.heap.size,1,none⟩=some (.int .u8 (p.code:Int))∧W.cell? ⟨w.heap.size,2,none⟩=some (.int .u8 (p.id:Int))∧W.cell? ⟨w.heap.size,8,none⟩=some (.slice q.ad q.nd q.cd)) (first | (with_reducible exact C.out.c128) | (with_reducible exact (C.out.step (Below.refl _ _).drew).c128)) (first
  | (go_at_call 68;(with_reducible refine (krput_v p.code p.id ([] ++ p.data) _ HE.out m HM.out n HN.out _ _ _ _ X.out HL.out (by omega)).mono ?_);rintro e wn ⟨A5,c5,rfl,h5,h5c,hb⟩;replace C:=hI (C.out.step hb);clear X;have X:=hI h5;have K:=hI h5c;clear h5 h5c hb;dsimp only)
  | (have _g:=OW.out;clear _g;(refine step_app _ (by rfl) _ _ _ (by rfl) _ i0 Tryz.underlying26 hi hz0 hz1 hz2 (w.heap.size+1) _ 0 [] (by rfl) OW.out _ _ q.nd _ p.data (by rfl) (H.out.on C.out.bel).rd H.out.ld (by omega) (Nat.succ_le_of_lt C.out.cf.lt) ?_);intro A4 c4 w4 ho4 hg4;rw [Nat.zero_add];replace C:=hI (C.out.grown hg4 (fun g hg=>(OW.out.lt g hg).1));have X:=hI (Rd.own ho4);clear ho4 hg4 OW))
 all_goals
  go_wp2_with fail
  go_ret2
  exact PutR.mk _ _ rfl X.out K.out C.out.bel
theorem lrp_bad_d (p : Pk) (q : Pl) (w : World) (h : Pw w p q) (hok : p.ok) (hs : p.sm) (h1 : p.proto = 49185) (hc : p.code = 8) (hr : nothL (restL p) = false) :
    Calls Tryz.prog 48 #[p.val q] w (PutR w [] 0 9) := by
  have C := Lib.hid (BxC.made 29 w p q)
  have j1 : ((p.proto : Int) != 49185) = false := by simp; omega
  have hk : hasL p.code = 2 := by unfold hasL; rw [if_neg (by omega), if_pos (by omega)]
  have BAD := Lib.hid (show ¬ (q.no = 0 ∧ p.magic = 0 ∧ q.n1 = 0 ∧ q.n2 = 0 ∧ q.nn = 0) from fun hh => by
    have := (noth_rest p).2 ⟨fun _ => by rw [h.lo]; exact hh.1, fun _ => by omega, fun _ => by omega, fun _ => by omega, by rw [h.l1]; omega, by rw [h.l2]; omega, by rw [h.ln]; omega⟩
    rw [hr] at this
    cases this)
  have c1 : (1 : Int) ≤ (p.code : Int) := by omega
  have c4 : ¬ (p.code : Int) ≤ 4 := by omega
  have t8 : ((p.code : Int) == 8) = true := by simp; omega
  have n8 : ((p.code : Int) != 8) = false := by rw [bne, t8]; rfl
  have t9 : ((p.code : Int) == 9) = false := by simp; omega
  have t10 : ((p.code : Int) == 10) = false := by simp; omega
  have t11 : ((p.code : Int) == 11) = false := by simp; omega
  clear h1 hc hk hr h hs hok
  go_enter Tryz.func48, Tryz.ntmps48
  go_upto_region 1 with fail
  obtain ⟨wm, hwm⟩ : ∃ wm, wm = w.alloc (p.obj q 29) := ⟨_, rfl⟩
  rw [← hwm] at C ⊢
  clear hwm
  obtain ⟨x0, x1, x2, x3, x4, x5, x6, x7, x8, x9⟩ := C.out.cf.all
  have b0 : w.heap.size < wm.heap.size := C.out.cf.lt
  go_wp2_with fail
  all_goals first
    | (go_ret2
       exact PutR.mk none 0 rfl Rd.nil (Nat.le_refl _) C.out.bel)
    | (exfalso
       refine BAD.out ⟨?_, ?_, ?_, ?_, ?_⟩ <;> first | assumption | omega | (simp_all; done) | (simp_all; omega))
theorem lrp_ok_d (p:Pk) (q:Pl) (w:World) (h:Pw w p q) (hok:p.ok) (hs:p.sm) (h1:p.proto=49185) (hc:p.code=8) (hr:nothL (restL p)=true) (m:List Nat) (k:Nat) (hm:kputA p.code p.id ((numB p.sub 2) ++ p.data)=m) (he:kerrP ((numB p.sub 2) ++ p.data)=k) (n:Nat) (hn:m.length=n) :
  Calls Tryz.prog 48 #[p.val q] w (PutR w m n k):=by
 obtain ⟨i0,hi,hz0,hz1,hz2⟩:=info_parts byte_info
 have C:=hI (BxC.made 29 w p q)
 have H:=hI h
 have j1:((p.proto:Int) != 49185)=false:=by simp;omega
 have hk:hasL p.code=2:=by unfold hasL;rw [if_neg (by omega),if_pos (by omega)]
 obtain ⟨g1,g2,g3,g4,g5,g6,g7⟩:=(noth_rest p).1 hr
 have d1:¬ (0:Int)<(q.no:Int):=by have:=g1 (by omega);rw [h.lo] at this;omega
 have d3:((p.magic:Int) != 0)=false:=by have:=g4 (by omega);simp;omega
 have d4:¬ (0:Int)<(q.n1:Int):=by rw [h.l1] at g5;omega
 have d5:¬ (0:Int)<(q.n2:Int):=by rw [h.l2] at g6;omega
 have d6:¬ (0:Int)<(q.nn:Int):=by rw [h.ln] at g7;omega
 have s8:q.nd≤1073741824:=by rw [←h.ld];exact hs.nd
 have FB:=hI (show p.sub<4294967296 by have:=hok.sub;omega)
 have fz:IntKind.i64.wrap (p.sub:Int)=(p.sub:Int):=IntWalk.i64_in _ (by have:=hok.sub;omega)
 have c1:(1:Int)≤(p.code:Int):=by omega
 have c4:¬ (p.code:Int)≤4:=by omega
 have t8:((p.code:Int) == 8)=true:=by simp;omega
 have n8:((p.code:Int) != 8)=false:=by rw [bne,t8];rfl
 have t9:((p.code:Int) == 9)=false:=by simp;omega
 have t10:((p.code:Int) == 10)=false:=by simp;omega
 have t11:((p.code:Int) == 11)=false:=by simp;omega
 have HM:=hI hm
 have HE:=hI he
 have HN:=hI hn
 have HL:=hI (show ((numB p.sub 2) ++ p.data).length=2+q.nd by rw [List.length_append,h.ld,num_len])
 clear h1 hc hk hr h hs hok g1 g2 g3 g4 g5 g6 g7 hm he hn
 go_enter Tryz.func48,Tryz.ntmps48
 go_upto_region 1 with fail
 obtain ⟨wm,hwm⟩:∃ wm,wm=w.alloc (p.obj q 29):=⟨_,rfl⟩
 rw [←hwm] at C ⊢
 clear hwm
 obtain ⟨x0,x1,x2,x3,x4,x5,x6,x7,x8,x9⟩:=C.out.cf.all
 have b0:w.heap.size<wm.heap.size:=C.out.cf.lt
 go_wp2_with (go_at_call 69;(with_reducible refine (number_2 p.sub FB.out _).mono ?_);rintro e wb ⟨A7,c7,rfl,ho,hb⟩;have hba:=(Below.refl wm.heap.size wm).alloc (Nat.le_refl _) (.cells #[] 5);have OW:=hI (own_lo ho (Nat.le_trans C.out.cf.lt hba.size));replace C:=hI (C.out.step hb hba);clear ho hb hba x0 x1 x2 x3 x4 x5 x6 x7 x8 x9;obtain ⟨x0,x1,x2,x3,x4,x5,x6,x7,x8,x9⟩:=C.out.cf.all)
 clear d1 d3 d4 d5 d6 c1 c4 t8 n8 t9 t10 t11 x0 x1 x2 x3 x4 x5 x6 x7 x8 x9
 obtain ⟨x1,x2,x8⟩:=C.out.c128
 go_region_held3 (fun W=>W.cell? ⟨w.heap.size,1,none⟩=some (.int .u8 (p.code:Int))∧W.cell? ⟨w.heap.size,2,none⟩=some (.int .u8 (p.id:Int))∧W.cell? ⟨w.heap.size,8,none⟩=some (.slice q.ad q.nd q.cd)) (first | (with_reducible exact C.out.c128) | (with_reducible exact (C.out.step (Below.refl _ _).drew).c128)) (first
  | (go_at_call 68;(with_reducible refine (krput_v p.code p.id ((numB p.sub 2) ++ p.data) _ HE.out m HM.out n HN.out _ _ _ _ X.out HL.out (by omega)).mono ?_);rintro e wn ⟨A5,c5,rfl,h5,h5c,hb⟩;replace C:=hI (C.out.step hb);clear X;have X:=hI h5;have K:=hI h5c;clear h5 h5c hb;dsimp only)
  | (have _g:=OW.out;clear _g;(refine step_app _ (by rfl) _ _ _ (by rfl) _ i0 Tryz.underlying26 hi hz0 hz1 hz2 (w.heap.size+1) _ 2 (numB p.sub 2) (by rfl) OW.out _ _ q.nd _ p.data (by rfl) (H.out.on C.out.bel).rd H.out.ld (by omega) (Nat.succ_le_of_lt C.out.cf.lt) ?_);intro A4 c4 w4 ho4 hg4;replace C:=hI (C.out.grown hg4 (fun g hg=>(OW.out.lt g hg).1));have X:=hI (Rd.own ho4);clear ho4 hg4 OW))
 all_goals
  go_wp2_with fail
  go_ret2
  exact PutR.mk _ _ rfl X.out K.out C.out.bel
theorem lrp_bad_e (p : Pk) (q : Pl) (w : World) (h : Pw w p q) (hok : p.ok) (hs : p.sm) (h1 : p.proto = 49185) (hc : p.code = 9) (hr : nothL (restL p) = false) :
    Calls Tryz.prog 48 #[p.val q] w (PutR w [] 0 9) := by
  have C := Lib.hid (BxC.made 29 w p q)
  have j1 : ((p.proto : Int) != 49185) = false := by simp; omega
  have hk : hasL p.code = 3 := by unfold hasL; rw [if_neg (by omega), if_neg (by omega), if_pos (by omega)]
  have BAD := Lib.hid (show ¬ (q.no = 0 ∧ p.sub = 0 ∧ q.n1 = 0 ∧ q.n2 = 0 ∧ q.nn = 0) from fun hh => by
    have := (noth_rest p).2 ⟨fun _ => by rw [h.lo]; exact hh.1, fun _ => by omega, fun _ => by omega, fun _ => by omega, by rw [h.l1]; omega, by rw [h.l2]; omega, by rw [h.ln]; omega⟩
    rw [hr] at this
    cases this)
  have c1 : (1 : Int) ≤ (p.code : Int) := by omega
  have c4 : ¬ (p.code : Int) ≤ 4 := by omega
  have t8 : ((p.code : Int) == 8) = false := by simp; omega
  have n8 : ((p.code : Int) != 8) = true := by rw [bne, t8]; rfl
  have t9 : ((p.code : Int) == 9) = true := by simp; omega
  clear h1 hc hk hr h hs hok
  go_enter Tryz.func48, Tryz.ntmps48
  go_upto_region 1 with fail
  obtain ⟨wm, hwm⟩ : ∃ wm, wm = w.alloc (p.obj q 29) := ⟨_, rfl⟩
  rw [← hwm] at C ⊢
  clear hwm
  obtain ⟨x0, x1, x2, x3, x4, x5, x6, x7, x8, x9⟩ := C.out.cf.all
  have b0 : w.heap.size < wm.heap.size := C.out.cf.lt
  go_wp2_with fail
  all_goals first
    | (go_ret2
       exact PutR.mk none 0 rfl Rd.nil (Nat.le_refl _) C.out.bel)
    | (exfalso
       refine BAD.out ⟨?_, ?_, ?_, ?_, ?_⟩ <;> first | assumption | omega | (simp_all; done) | (simp_all; omega))
theorem lrp_ok_e (p:Pk) (q:Pl) (w:World) (h:Pw w p q) (hok:p.ok) (hs:p.sm) (h1:p.proto=49185) (hc:p.code=9) (hr:nothL (restL p)=true) (m:List Nat) (k:Nat) (hm:kputA p.code p.id ((numB p.magic 4) ++ p.data)=m) (he:kerrP ((numB p.magic 4) ++ p.data)=k) (n:Nat) (hn:m.length=n) :
  Calls Tryz.prog 48 #[p.val q] w (PutR w m n k):=by
 obtain ⟨i0,hi,hz0,hz1,hz2⟩:=info_parts byte_info
 have C:=hI (BxC.made 29 w p q)
 have H:=hI h
 have j1:((p.proto:Int) != 49185)=false:=by simp;omega
 have hk:hasL p.code=3:=by unfold hasL;rw [if_neg (by omega),if_neg (by omega),if_pos (by omega)]
 obtain ⟨g1,g2,g3,g4,g5,g6,g7⟩:=(noth_rest p).1 hr
 have d1:¬ (0:Int)<(q.no:Int):=by have:=g1 (by omega);rw [h.lo] at this;omega
 have d2:((p.sub:Int) != 0)=false:=by have:=g3 (by omega);simp;omega
 have d4:¬ (0:Int)<(q.n1:Int):=by rw [h.l1] at g5;omega
 have d5:¬ (0:Int)<(q.n2:Int):=by rw [h.l2] at g6;omega
 have d6:¬ (0:Int)<(q.nn:Int):=by rw [h.ln] at g7;omega
 have s8:q.nd≤1073741824:=by rw [←h.ld];exact hs.nd
 have FB:=hI (show p.magic<4294967296 by have:=hok.magic;omega)
 have fz:IntKind.i64.wrap (p.magic:Int)=(p.magic:Int):=IntWalk.i64_in _ (by have:=hok.magic;omega)
 have c1:(1:Int)≤(p.code:Int):=by omega
 have c4:¬ (p.code:Int)≤4:=by omega
 have t8:((p.code:Int) == 8)=false:=by simp;omega
 have n8:((p.code:Int) != 8)=true:=by rw [bne,t8];rfl
 have t9:((p.code:Int) == 9)=true:=by simp;omega
 have HM:=hI hm
 have HE:=hI he
 have HN:=hI hn
 have HL:=hI (show ((numB p.magic 4) ++ p.data).length=4+q.nd by rw [List.length_append,h.ld,num_len])
 clear h1 hc hk hr h hs hok g1 g2 g3 g4 g5 g6 g7 hm he hn
 go_enter Tryz.func48,Tryz.ntmps48
 go_upto_region 1 with fail
 obtain ⟨wm,hwm⟩:∃ wm,wm=w.alloc (p.obj q 29):=⟨_,rfl⟩
 rw [←hwm] at C ⊢
 clear hwm
 obtain ⟨x0,x1,x2,x3,x4,x5,x6,x7,x8,x9⟩:=C.out.cf.all
 have b0:w.heap.size<wm.heap.size:=C.out.cf.lt
 go_wp2_with (go_at_call 69;(with_reducible refine (number_4 p.magic FB.out _).mono ?_);rintro e wb ⟨A7,c7,rfl,ho,hb⟩;have hba:=(Below.refl wm.heap.size wm).alloc (Nat.le_refl _) (.cells #[] 5);have OW:=hI (own_lo ho (Nat.le_trans C.out.cf.lt hba.size));replace C:=hI (C.out.step hb hba);clear ho hb hba x0 x1 x2 x3 x4 x5 x6 x7 x8 x9;obtain ⟨x0,x1,x2,x3,x4,x5,x6,x7,x8,x9⟩:=C.out.cf.all)
 clear d1 d2 d4 d5 d6 c1 c4 t8 n8 t9 x0 x1 x2 x3 x4 x5 x6 x7 x8 x9
 obtain ⟨x1,x2,x8⟩:=C.out.c128
 go_region_held3 (fun W=>W.cell? ⟨w.heap.size,1,none⟩=some (.int .u8 (p.code:Int))∧W.cell? ⟨w.heap.size,2,none⟩=some (.int .u8 (p.id:Int))∧W.cell? ⟨w.heap.size,8,none⟩=some (.slice q.ad q.nd q.cd)) (first | (with_reducible exact C.out.c128) | (with_reducible exact (C.out.step (Below.refl _ _).drew).c128)) (first
  | (go_at_call 68;(with_reducible refine (krput_v p.code p.id ((numB p.magic 4) ++ p.data) _ HE.out m HM.out n HN.out _ _ _ _ X.out HL.out (by omega)).mono ?_);rintro e wn ⟨A5,c5,rfl,h5,h5c,hb⟩;replace C:=hI (C.out.step hb);clear X;have X:=hI h5;have K:=hI h5c;clear h5 h5c hb;dsimp only)
  | (have _g:=OW.out;clear _g;(refine step_app _ (by rfl) _ _ _ (by rfl) _ i0 Tryz.underlying26 hi hz0 hz1 hz2 (w.heap.size+1) _ 4 (numB p.magic 4) (by rfl) OW.out _ _ q.nd _ p.data (by rfl) (H.out.on C.out.bel).rd H.out.ld (by omega) (Nat.succ_le_of_lt C.out.cf.lt) ?_);intro A4 c4 w4 ho4 hg4;replace C:=hI (C.out.grown hg4 (fun g hg=>(OW.out.lt g hg).1));have X:=hI (Rd.own ho4);clear ho4 hg4 OW))
 all_goals
  go_wp2_with fail
  go_ret2
  exact PutR.mk _ _ rfl X.out K.out C.out.bel
theorem lrp_bad_f (p : Pk) (q : Pl) (w : World) (h : Pw w p q) (hok : p.ok) (hs : p.sm) (h1 : p.proto = 49185) (hc : p.code = 10) (hr : nothL (restL p) = false) :
    Calls Tryz.prog 48 #[p.val q] w (PutR w [] 0 9) := by
  have C := Lib.hid (BxC.made 29 w p q)
  have j1 : ((p.proto : Int) != 49185) = false := by simp; omega
  have hk : hasL p.code = 3 := by unfold hasL; rw [if_neg (by omega), if_neg (by omega), if_pos (by omega)]
  have BAD := Lib.hid (show ¬ (q.no = 0 ∧ p.sub = 0 ∧ q.n1 = 0 ∧ q.n2 = 0 ∧ q.nn = 0) from fun hh => by
    have := (noth_rest p).2 ⟨fun _ => by rw [h.lo]; exact hh.1, fun _ => by omega, fun _ => by omega, fun _ => by omega, by rw [h.l1]; omega, by rw [h.l2]; omega, by rw [h.ln]; omega⟩
    rw [hr] at this
    cases this)
  have c1 : (1 : Int) ≤ (p.code : Int) := by omega
  have c4 : ¬ (p.code : Int) ≤ 4 := by omega
  have t8 : ((p.code : Int) == 8) = false := by simp; omega
  have n8 : ((p.code : Int) != 8) = true := by rw [bne, t8]; rfl
  have t9 : ((p.code : Int) == 9) = false := by simp; omega
  have t10 : ((p.code : Int) == 10) = true := by simp; omega
  clear h1 hc hk hr h hs hok
  go_enter Tryz.func48, Tryz.ntmps48
  go_upto_region 1 with fail
  obtain ⟨wm, hwm⟩ : ∃ wm, wm = w.alloc (p.obj q 29) := ⟨_, rfl⟩
  rw [← hwm] at C ⊢
  clear hwm
  obtain ⟨x0, x1, x2, x3, x4, x5, x6, x7, x8, x9⟩ := C.out.cf.all
  have b0 : w.heap.size < wm.heap.size := C.out.cf.lt
  go_wp2_with fail
  all_goals first
    | (go_ret2
       exact PutR.mk none 0 rfl Rd.nil (Nat.le_refl _) C.out.bel)
    | (exfalso
       refine BAD.out ⟨?_, ?_, ?_, ?_, ?_⟩ <;> first | assumption | omega | (simp_all; done) | (simp_all; omega))
theorem lrp_ok_f (p:Pk) (q:Pl) (w:World) (h:Pw w p q) (hok:p.ok) (hs:p.sm) (h1:p.proto=49185) (hc:p.code=10) (hr:nothL (restL p)=true) (m:List Nat) (k:Nat) (hm:kputA p.code p.id ((numB p.magic 4) ++ p.data)=m) (he:kerrP ((numB p.magic 4) ++ p.data)=k) (n:Nat) (hn:m.length=n) :
  Calls Tryz.prog 48 #[p.val q] w (PutR w m n k):=by
 obtain ⟨i0,hi,hz0,hz1,hz2⟩:=info_parts byte_info
 have C:=hI (BxC.made 29 w p q)
 have H:=hI h
 have j1:((p.proto:Int) != 49185)=false:=by simp;omega
 have hk:hasL p.code=3:=by unfold hasL;rw [if_neg (by omega),if_neg (by omega),if_pos (by omega)]
 obtain ⟨g1,g2,g3,g4,g5,g6,g7⟩:=(noth_rest p).1 hr
 have d1:¬ (0:Int)<(q.no:Int):=by have:=g1 (by omega);rw [h.lo] at this;omega
 have d2:((p.sub:Int) != 0)=false:=by have:=g3 (by omega);simp;omega
 have d4:¬ (0:Int)<(q.n1:Int):=by rw [h.l1] at g5;omega
 have d5:¬ (0:Int)<(q.n2:Int):=by rw [h.l2] at g6;omega
 have d6:¬ (0:Int)<(q.nn:Int):=by rw [h.ln] at g7;omega
 have s8:q.nd≤1073741824:=by rw [←h.ld];exact hs.nd
 have FB:=hI (show p.magic<4294967296 by have:=hok.magic;omega)
 have fz:IntKind.i64.wrap (p.magic:Int)=(p.magic:Int):=IntWalk.i64_in _ (by have:=hok.magic;omega)
 have c1:(1:Int)≤(p.code:Int):=by omega
 have c4:¬ (p.code:Int)≤4:=by omega
 have t8:((p.code:Int) == 8)=false:=by simp;omega
 have n8:((p.code:Int) != 8)=true:=by rw [bne,t8];rfl
 have t9:((p.code:Int) == 9)=false:=by simp;omega
 have t10:((p.code:Int) == 10)=true:=by simp;omega
 have HM:=hI hm
 have HE:=hI he
 have HN:=hI hn
 have HL:=hI (show ((numB p.magic 4) ++ p.data).length=4+q.nd by rw [List.length_append,h.ld,num_len])
 clear h1 hc hk hr h hs hok g1 g2 g3 g4 g5 g6 g7 hm he hn
 go_enter Tryz.func48,Tryz.ntmps48
 go_upto_region 1 with fail
 obtain ⟨wm,hwm⟩:∃ wm,wm=w.alloc (p.obj q 29):=⟨_,rfl⟩
 rw [←hwm] at C ⊢
 clear hwm
 obtain ⟨x0,x1,x2,x3,x4,x5,x6,x7,x8,x9⟩:=C.out.cf.all
 have b0:w.heap.size<wm.heap.size:=C.out.cf.lt
 go_wp2_with (go_at_call 69;(with_reducible refine (number_4 p.magic FB.out _).mono ?_);rintro e wb ⟨A7,c7,rfl,ho,hb⟩;have hba:=(Below.refl wm.heap.size wm).alloc (Nat.le_refl _) (.cells #[] 5);have OW:=hI (own_lo ho (Nat.le_trans C.out.cf.lt hba.size));replace C:=hI (C.out.step hb hba);clear ho hb hba x0 x1 x2 x3 x4 x5 x6 x7 x8 x9;obtain ⟨x0,x1,x2,x3,x4,x5,x6,x7,x8,x9⟩:=C.out.cf.all)
 clear d1 d2 d4 d5 d6 c1 c4 t8 n8 t9 t10 x0 x1 x2 x3 x4 x5 x6 x7 x8 x9
 obtain ⟨x1,x2,x8⟩:=C.out.c128
 go_region_held3 (fun W=>W.cell? ⟨w.heap.size,1,none⟩=some (.int .u8 (p.code:Int))∧W.cell? ⟨w.heap.size,2,none⟩=some (.int .u8 (p.id:Int))∧W.cell? ⟨w.heap.size,8,none⟩=some (.slice q.ad q.nd q.cd)) (first | (with_reducible exact C.out.c128) | (with_reducible exact (C.out.step (Below.refl _ _).drew).c128)) (first
  | (go_at_call 68;(with_reducible refine (krput_v p.code p.id ((numB p.magic 4) ++ p.data) _ HE.out m HM.out n HN.out _ _ _ _ X.out HL.out (by omega)).mono ?_);rintro e wn ⟨A5,c5,rfl,h5,h5c,hb⟩;replace C:=hI (C.out.step hb);clear X;have X:=hI h5;have K:=hI h5c;clear h5 h5c hb;dsimp only)
  | (have _g:=OW.out;clear _g;(refine step_app _ (by rfl) _ _ _ (by rfl) _ i0 Tryz.underlying26 hi hz0 hz1 hz2 (w.heap.size+1) _ 4 (numB p.magic 4) (by rfl) OW.out _ _ q.nd _ p.data (by rfl) (H.out.on C.out.bel).rd H.out.ld (by omega) (Nat.succ_le_of_lt C.out.cf.lt) ?_);intro A4 c4 w4 ho4 hg4;replace C:=hI (C.out.grown hg4 (fun g hg=>(OW.out.lt g hg).1));have X:=hI (Rd.own ho4);clear ho4 hg4 OW))
 all_goals
  go_wp2_with fail
  go_ret2
  exact PutR.mk _ _ rfl X.out K.out C.out.bel
theorem lrp_bad_g (p : Pk) (q : Pl) (w : World) (h : Pw w p q) (hok : p.ok) (hs : p.sm) (h1 : p.proto = 49185) (hc : p.code = 11) (hr : nothL (restL p) = false) :
    Calls Tryz.prog 48 #[p.val q] w (PutR w [] 0 9) := by
  have C := Lib.hid (BxC.made 29 w p q)
  have j1 : ((p.proto : Int) != 49185) = false := by simp; omega
  have hk : hasL p.code = 3 := by unfold hasL; rw [if_neg (by omega), if_neg (by omega), if_pos (by omega)]
  have BAD := Lib.hid (show ¬ (q.no = 0 ∧ p.sub = 0 ∧ q.n1 = 0 ∧ q.n2 = 0 ∧ q.nn = 0) from fun hh => by
    have := (noth_rest p).2 ⟨fun _ => by rw [h.lo]; exact hh.1, fun _ => by omega, fun _ => by omega, fun _ => by omega, by rw [h.l1]; omega, by rw [h.l2]; omega, by rw [h.ln]; omega⟩
    rw [hr] at this
    cases this)
  have c1 : (1 : Int) ≤ (p.code : Int) := by omega
  have c4 : ¬ (p.code : Int) ≤ 4 := by omega
  have t8 : ((p.code : Int) == 8) = false := by simp; omega
  have n8 : ((p.code : Int) != 8) = true := by rw [bne, t8]; rfl
  have t9 : ((p.code : Int) == 9) = false := by simp; omega
  have t10 : ((p.code : Int) == 10) = false := by simp; omega
  have t11 : ((p.code : Int) == 11) = true := by simp; omega
  clear h1 hc hk hr h hs hok
  go_enter Tryz.func48, Tryz.ntmps48
  go_upto_region 1 with fail
  obtain ⟨wm, hwm⟩ : ∃ wm, wm = w.alloc (p.obj q 29) := ⟨_, rfl⟩
  rw [← hwm] at C ⊢
  clear hwm
  obtain ⟨x0, x1, x2, x3, x4, x5, x6, x7, x8, x9⟩ := C.out.cf.all
  have b0 : w.heap.size < wm.heap.size := C.out.cf.lt
  go_wp2_with fail
  all_goals first
    | (go_ret2
       exact PutR.mk none 0 rfl Rd.nil (Nat.le_refl _) C.out.bel)
    | (exfalso
       refine BAD.out ⟨?_, ?_, ?_, ?_, ?_⟩ <;> first | assumption | omega | (simp_all; done) | (simp_all; omega))
theorem lrp_ok_g (p:Pk) (q:Pl) (w:World) (h:Pw w p q) (hok:p.ok) (hs:p.sm) (h1:p.proto=49185) (hc:p.code=11) (hr:nothL (restL p)=true) (m:List Nat) (k:Nat) (hm:kputA p.code p.id ((numB p.magic 4) ++ p.data)=m) (he:kerrP ((numB p.magic 4) ++ p.data)=k) (n:Nat) (hn:m.length=n) :
  Calls Tryz.prog 48 #[p.val q] w (PutR w m n k):=by
 obtain ⟨i0,hi,hz0,hz1,hz2⟩:=info_parts byte_info
 have C:=hI (BxC.made 29 w p q)
 have H:=hI h
 have j1:((p.proto:Int) != 49185)=false:=by simp;omega
 have hk:hasL p.code=3:=by unfold hasL;rw [if_neg (by omega),if_neg (by omega),if_pos (by omega)]
 obtain ⟨g1,g2,g3,g4,g5,g6,g7⟩:=(noth_rest p).1 hr
 have d1:¬ (0:Int)<(q.no:Int):=by have:=g1 (by omega);rw [h.lo] at this;omega
 have d2:((p.sub:Int) != 0)=false:=by have:=g3 (by omega);simp;omega
 have d4:¬ (0:Int)<(q.n1:Int):=by rw [h.l1] at g5;omega
 have d5:¬ (0:Int)<(q.n2:Int):=by rw [h.l2] at g6;omega
 have d6:¬ (0:Int)<(q.nn:Int):=by rw [h.ln] at g7;omega
 have s8:q.nd≤1073741824:=by rw [←h.ld];exact hs.nd
 have FB:=hI (show p.magic<4294967296 by have:=hok.magic;omega)
 have fz:IntKind.i64.wrap (p.magic:Int)=(p.magic:Int):=IntWalk.i64_in _ (by have:=hok.magic;omega)
 have c1:(1:Int)≤(p.code:Int):=by omega
 have c4:¬ (p.code:Int)≤4:=by omega
 have t8:((p.code:Int) == 8)=false:=by simp;omega
 have n8:((p.code:Int) != 8)=true:=by rw [bne,t8];rfl
 have t9:((p.code:Int) == 9)=false:=by simp;omega
 have t10:((p.code:Int) == 10)=false:=by simp;omega
 have t11:((p.code:Int) == 11)=true:=by simp;omega
 have HM:=hI hm
 have HE:=hI he
 have HN:=hI hn
 have HL:=hI (show ((numB p.magic 4) ++ p.data).length=4+q.nd by rw [List.length_append,h.ld,num_len])
 clear h1 hc hk hr h hs hok g1 g2 g3 g4 g5 g6 g7 hm he hn
 go_enter Tryz.func48,Tryz.ntmps48
 go_upto_region 1 with fail
 obtain ⟨wm,hwm⟩:∃ wm,wm=w.alloc (p.obj q 29):=⟨_,rfl⟩
 rw [←hwm] at C ⊢
 clear hwm
 obtain ⟨x0,x1,x2,x3,x4,x5,x6,x7,x8,x9⟩:=C.out.cf.all
 have b0:w.heap.size<wm.heap.size:=C.out.cf.lt
 go_wp2_with (go_at_call 69;(with_reducible refine (number_4 p.magic FB.out _).mono ?_);rintro e wb ⟨A7,c7,rfl,ho,hb⟩;have hba:=(Below.refl wm.heap.size wm).alloc (Nat.le_refl _) (.cells #[] 5);have OW:=hI (own_lo ho (Nat.le_trans C.out.cf.lt hba.size));replace C:=hI (C.out.step hb hba);clear ho hb hba x0 x1 x2 x3 x4 x5 x6 x7 x8 x9;obtain ⟨x0,x1,x2,x3,x4,x5,x6,x7,x8,x9⟩:=C.out.cf.all)
 clear d1 d2 d4 d5 d6 c1 c4 t8 n8 t9 t10 t11 x0 x1 x2 x3 x4 x5 x6 x7 x8 x9
 obtain ⟨x1,x2,x8⟩:=C.out.c128
 go_region_held3 (fun W=>W.cell? ⟨w.heap.size,1,none⟩=some (.int .u8 (p.code:Int))∧W.cell? ⟨w.heap.size,2,none⟩=some (.int .u8 (p.id:Int))∧W.cell? ⟨w.heap.size,8,none⟩=some (.slice q.ad q.nd q.cd)) (first | (with_reducible exact C.out.c128) | (with_reducible exact (C.out.step (Below.refl _ _).drew).c128)) (first
  | (go_at_call 68;(with_reducible refine (krput_v p.code p.id ((numB p.magic 4) ++ p.data) _ HE.out m HM.out n HN.out _ _ _ _ X.out HL.out (by omega)).mono ?_);rintro e wn ⟨A5,c5,rfl,h5,h5c,hb⟩;replace C:=hI (C.out.step hb);clear X;have X:=hI h5;have K:=hI h5c;clear h5 h5c hb;dsimp only)
  | (have _g:=OW.out;clear _g;(refine step_app _ (by rfl) _ _ _ (by rfl) _ i0 Tryz.underlying26 hi hz0 hz1 hz2 (w.heap.size+1) _ 4 (numB p.magic 4) (by rfl) OW.out _ _ q.nd _ p.data (by rfl) (H.out.on C.out.bel).rd H.out.ld (by omega) (Nat.succ_le_of_lt C.out.cf.lt) ?_);intro A4 c4 w4 ho4 hg4;replace C:=hI (C.out.grown hg4 (fun g hg=>(OW.out.lt g hg).1));have X:=hI (Rd.own ho4);clear ho4 hg4 OW))
 all_goals
  go_wp2_with fail
  go_ret2
  exact PutR.mk _ _ rfl X.out K.out C.out.bel
theorem lrp_any (p:Pk) (q:Pl) (w:World) (h:Pw w p q) (hok:p.ok) (hs:p.sm) (m:List Nat) (k:Nat) (hm:lputB p=(m,k)) (n:Nat) (hn:m.length=n) :
  Calls Tryz.prog 48 #[p.val q] w (PutR w m n k):=by
 by_cases h1:p.proto=49185
 case neg =>
  rw [lputB,if_neg h1] at hm
  obtain ⟨rfl,rfl⟩:=Prod.mk.inj hm
  obtain rfl:0=n:=hn
  exact lrp_kind p q w h1
 cases hr:nothL (restL p)
 ·rw [lputB,if_pos h1,hr] at hm
  obtain ⟨rfl,rfl⟩:=Prod.mk.inj hm
  obtain rfl:0=n:=hn
  rcases (show p.code=0∨(1≤p.code∧p.code≤4)∨((5≤p.code∧p.code≤7)∨12≤p.code)∨p.code=8∨p.code=9∨p.code=10∨p.code=11 by omega) with hc | hc | hc | hc | hc | hc | hc
  ·exact lrp_bad_a p q w h hok hs h1 hc hr
  ·exact lrp_bad_b p q w h hok hs h1 hc hr
  ·exact lrp_bad_c p q w h hok hs h1 hc hr
  ·exact lrp_bad_d p q w h hok hs h1 hc hr
  ·exact lrp_bad_e p q w h hok hs h1 hc hr
  ·exact lrp_bad_f p q w h hok hs h1 hc hr
  ·exact lrp_bad_g p q w h hok hs h1 hc hr
 rw [lputB,if_pos h1,if_pos hr] at hm
 have key:∀ x:List Nat,wrL p=(x,0)→kputA p.code p.id x=m∧kerrP x=k:=by
  intro x hx
  rw [hx] at hm
  exact Prod.mk.inj hm
 rcases (show p.code=0∨(1≤p.code∧p.code≤4)∨((5≤p.code∧p.code≤7)∨12≤p.code)∨p.code=8∨p.code=9∨p.code=10∨p.code=11 by omega) with hc | hc | hc | hc | hc | hc | hc
 ·have hk:hasL p.code=0:=by unfold hasL;rw [if_neg (by omega),if_neg (by omega),if_neg (by omega)]
  obtain ⟨e1,e2⟩:=key ([] ++ p.data) (by rw [wrL,hk];rfl)
  exact lrp_ok_a p q w h hok hs h1 hc hr m k e1 e2 n hn
 ·have hk:hasL p.code=1:=by unfold hasL;rw [if_pos (by omega)]
  obtain ⟨m2,k2,hw⟩:∃ m2 k2,putO 49185 p.opts=(m2,k2):=⟨_,_,rfl⟩
  have hw2:wrL p=(m2,k2):=by rw [wrL,if_pos hk,hw]
  by_cases h2:k2=0
  ·obtain ⟨e1,e2⟩:=key m2 (by rw [hw2,h2])
   exact lrp_ok_b p q w h hok hs h1 hc hr m2 k2 hw h2 m k e1 e2 n hn
  ·rw [hw2] at hm
   dsimp only at hm
   rw [if_neg h2] at hm
   obtain ⟨rfl,rfl⟩:=Prod.mk.inj hm
   obtain rfl:0=n:=hn
   exact lrp_err_b p q w h hok hs h1 hc hr m2 k2 hw h2
 ·have hk:hasL p.code=0:=by unfold hasL;rw [if_neg (by omega),if_neg (by omega),if_neg (by omega)]
  obtain ⟨e1,e2⟩:=key ([] ++ p.data) (by rw [wrL,hk];rfl)
  exact lrp_ok_c p q w h hok hs h1 hc hr m k e1 e2 n hn
 ·have hk:hasL p.code=2:=by unfold hasL;rw [if_neg (by omega),if_pos (by omega)]
  obtain ⟨e1,e2⟩:=key (numB p.sub 2 ++ p.data) (by rw [wrL,hk];rfl)
  exact lrp_ok_d p q w h hok hs h1 hc hr m k e1 e2 n hn
 all_goals
  have hk:hasL p.code=3:=by unfold hasL;rw [if_neg (by omega),if_neg (by omega),if_pos (by omega)]
  obtain ⟨e1,e2⟩:=key (numB p.magic 4 ++ p.data) (by rw [wrL,hk];rfl)
 ·exact lrp_ok_e p q w h hok hs h1 hc hr m k e1 e2 n hn
 ·exact lrp_ok_f p q w h hok hs h1 hc hr m k e1 e2 n hn
 ·exact lrp_ok_g p q w h hok hs h1 hc hr m k e1 e2 n hn
end Go.Proofs.YtmhjnghomihjlaaGreat
