/-
  What the document's Get and Lost of layer 19 answer. No condition beyond: at most 2^30 octets; packets that Go may have.
-/
import Derived.Test.YtmhjnghomihjlaaGreatLqrG
import Derived.Test.YtmhjnghomihjlaaGreatGPkt
import Derived.Deep.CutRange
import Derived.Deep.RegionHeld3
namespace Go.Proofs.YtmhjnghomihjlaaGreat
set_option maxRecDepth 8000
set_option maxHeartbeats 80000000
set_option linter.unusedVariables false
open Go.RowKit
theorem GpC.grown {T:TypeId} {w W X W':World} {g:Nat} {p:Pk} {q:Pl} {row:Option Nat} (h:GpC T w W g p q) (hg:X.grownBy W' row) (hrow:∀ k,row=some k→g<k) (hX:Below W.heap.size W X):GpC T w W' g p q :=
 have h1:GpC T w X g p q:=h.step (X:=W) hX
 ⟨h1.bel.grown hg h1.bel.size (fun k hk=>Nat.le_of_lt (Nat.lt_trans h1.lt (hrow k hk))),(hg.block _ h1.res.lt (fun e=>Nat.lt_asymm h1.lt (hrow _ e.symm))).trans h1.res,h1.lt,(hg.block _ h1.cf.lt (fun e=>Nat.lt_irrefl _ (hrow _ e.symm))).trans h1.cf⟩
structure RgC (w W:World) (g:Nat) (l:List Nat) (k:Nat) (A:Option Addr) (c:Nat):Prop where
 pc:GpC 29 w W g (repP l) { pl0 with an:=A,nn:=k,cn:=c }
 own:Orw shN 25 (fun i=>i≠g) (g+1) W (.slice A k c) l
section
variable {w W X W' : World} {g k c : Nat} {l : List Nat} {A : Option Addr}
theorem RgC.step (h:RgC w W g l k A c) (hb:Below X.heap.size X W') (hX:Below W.heap.size W X:=by first | exact Below.refl _ _ | exact (Below.refl _ _).drew):RgC w W' g l k A c :=
 have hh:=hX.trans (hb.mono hX.size)
 ⟨h.pc.step (X:=W) hh,h.own.below hh⟩
theorem RgC.drew (h:RgC w W g l k A c):RgC w W.drew g l k A c:=h.step (X:=W) (Below.refl _ _).drew
theorem RgC.al (h:RgC w W g l k A c) (o:Obj):RgC w (W.alloc o) g l k A c:=h.step (X:=W) ((Below.refl _ _).alloc (Nat.le_refl _) o)
theorem RgC.cell (h:RgC w W g l k A c):W.cell? ⟨g,9,none⟩=some (.slice A k c):=h.pc.cf.all.2.2.2.2.2.2.2.2.2
theorem RgC.lt (h:RgC w W g l k A c):g<W.heap.size:=h.pc.cf.lt
end
structure RpC (w W:World) (g:Nat) (l l2:List Nat) (k:Nat) (A:Option Addr) (c:Nat) (k2:Nat) (A2:Option Addr) (c2:Nat):Prop where
 pc:GpC 29 w W g (repP l) { pl0 with an:=A,nn:=k,cn:=c }
 own:Orw shN 25 (fun i=>i≠g) (g+1) W (.slice A2 k2 c2) l2
theorem RpC.put {w W:World} {g k c k2 c2:Nat} {l l2:List Nat} {A A2:Option Addr} (h:RpC w W g l l2 k A c k2 A2 c2):RgC w (W.setCell ⟨g,9,none⟩ (.slice A2 k2 c2)) g l2 k2 A2 c2 :=
 ⟨h.pc.set 9 _ (h.pc.cf.setNums A2 k2 c2 l2),h.own.keep ((keeps_set W g 9 _).less (fun i _ hi=>hi.elim id (fun e=>Nat.ne_of_gt (h.own.lt e).1)))⟩
theorem RpC.cell {w W:World} {g k c k2 c2:Nat} {l l2:List Nat} {A A2:Option Addr} (h:RpC w W g l l2 k A c k2 A2 c2):W.cell? ⟨g,9,none⟩=some (.slice A k c)∧W.frozen? ⟨g,9,none⟩=false:=⟨h.pc.cf.all.2.2.2.2.2.2.2.2.2,h.pc.cf.free.2.2.2.2.2.2.2.2.2⟩
theorem RgC.push {w W W':World} {g k c:Nat} {l:List Nat} {A:Option Addr} {v:Value} {x:Nat} (h:RgC w W g l k A c) (hk:l.length=k) (ho:Orw shN 25 (fun i=>i≠g) (g+1) W' v (l ++ [x])) (hg:W.grownBy W' (Value.slice A k c).ownBlock):∃ A2 c2,v=.slice A2 (k+1) c2∧RpC w W' g l (l ++ [x]) k A c (k+1) A2 c2:=by
 obtain ⟨A2,c2,rfl,_,_⟩:=ho.shape
 rw [List.length_append,hk] at ho ⊢
 exact ⟨A2,c2,rfl,h.pc.grown hg (fun i hi=>(h.own.lt hi).1) (Below.refl _ _),ho⟩
theorem orwN_read {T:TypeId} {F:Nat→Prop} {B n c:Nat} {w:World} {A:Option Addr} {l:List Nat} (h:Orw shN T F B w (.slice A n c) l):Rws shN (fun b=>B≤b) w A l:=by
 obtain ⟨css,h1,h2,h3⟩:=h
 have h':Orw shN T (fun _=>False) B w (.slice A n c) l:=⟨css,h1,h2,fun k x cs hx hc=>show cs=_ from h3 k x cs hx hc⟩
 exact h'.read.mono fun _ _ hf=>hf.elim False.elim id
theorem litnR (w:World) (x:Nat):Rws shN (fun i=>w.heap.size≤i) (w.alloc (.cells #[.int .u32 (x:Int)] 25)) (some ⟨w.heap.size,0,none⟩) [x]:=by
 intro hl
 refine ⟨w.heap.size,0,rfl,by rw [World.size_alloc];omega,Nat.le_refl _,fun k y hy=>⟨[.int .u32 (y:Int)],rfl,fun j u hu=>?_⟩⟩
 match k,j,hy,hu with
 | 0,0,hy,hu =>
  injection hy with hy
  injection hu with hu
  subst hy;subst hu
  exact World.cell?_alloc_at _ _ _ _ rfl
 | 0,j+1,hy,hu=>simp at hu
 | k+1,j,hy,hu=>simp at hy
theorem litnG {w W:World} {g k c:Nat} {l:List Nat} {A:Option Addr} (h:RgC w W g l k A c) (x:Nat):Rws shN (fun i=>i≠g∧(Value.slice A k c).ownBlock≠some i) (W.alloc (.cells #[.int .u32 (x:Int)] 25)) (some ⟨W.heap.size,0,none⟩) [x] :=
 (litnR W x).mono fun i _ hi=>⟨Nat.ne_of_gt (Nat.lt_of_lt_of_le h.lt hi),fun e=>absurd (h.own.lt e).2 (Nat.not_lt.2 hi)⟩
theorem read_four (l:List Nat) (n c:Nat) (A:Option Addr) (w:World) (v:Nat) (hv:valN (l.take 4)=v) (h:Rd w w.heap.size A l) (hb:By l) (hl:l.length=n) (hzn:4≤n) :
  Calls Tryz.prog 73 #[.slice A n c,.int .i64 4] w fun e w'=>e=.returned (.int .i64 (v:Int))∧Below w.heap.size w w':=by
 subst hv
 exact read15_any l n c 4 A w h hb hl (by omega) hzn
theorem rlget_short (b:List Nat) (n c:Nat) (A:Option Addr) (w:World) (h:n<48) :
  Calls Tryz.prog 59 #[.slice A n c] w (GetN w pk0 2):=by
 have C:=hI (GeC.made 29 w)
 have j1:(n:Int)<48:=by omega
 clear h
 go_enter Tryz.func59,Tryz.ntmps59
 go_upto_region 1 with fail
 with_reducible refine at_worldP (fun W=>Hid (GeC 29 w W)) C ?_
 clear C
 rintro W C
 obtain ⟨y0,y1,y2,y3,y4,y5,y6,y7,y8,y9⟩:=C.out.res.all
 obtain ⟨z0,z1,z2,z3,z4,z5,z6,z7,z8,z9⟩:=C.out.res.free
 go_wp2_with fail
 refine bodyPost_ret (v:=.tuple #[pk0.val pl0,.int .i64 2]) ?_ rfl (GetN.mk pl0 rfl pwF0 (put10_below C.out.bel (Nat.le_refl _) pk0 pl0))
 exact results_row_tmpP rfl _ _ _ w.heap.size 29 _ _ _ rfl rfl (put10_px C.out.res pk0 pl0) Tryz.underlying29 (by kernel_rfl)
theorem rlget_ok (b:List Nat) (n c:Nat) (A:Option Addr) (w:World) (h:Rd w w.heap.size A b) (hb:By b) (hl:b.length=n) (hc:n≤c) (h48:48≤n) (hn:n≤1073741824) :
  Calls Tryz.prog 59 #[.slice A n c] w (GetN w (repP (rdN b 12)) 0):=by
 obtain ⟨i0,hi,hz0,hz1,hz2⟩:=info_parts word_info
 have C:=hI (GeC.made 29 w)
 have HR:=hI h
 have HB:=hI hb
 have HL:=hI hl
 have j1:¬ (n:Int)<48:=by omega
 clear h hb hl
 go_enter Tryz.func59,Tryz.ntmps59
 go_upto_region 4 with fail
 refine at_worldP (fun W=>∃ g,Hid (GpC 29 w W g (repP []) pl0)∧Hid (w.heap.size+1=g)) ⟨_,hI (C.out.pk (repP []) pl0),hI (World.size_alloc _ _).symm⟩ ?_
 clear C
 rintro wb ⟨g,P,hg⟩
 rw [hg.out]
 clear hg
 have HP:=hI (show RgC w wb g (rdN b 0) 0 none 0 from ⟨P.out,Orw.nil shN 25 _ _ wb⟩)
 clear P
 go_wp2_with fail
 go_loopw [5] (fun i wr=>∃ k:Nat,k≤12∧i=.int .i64 k∧∃ A c,Hid (RgC w wr g (rdN b k) k A c)) (fun i _=>12 - (intOf i).toNat)
 case atStart=>exact ⟨0,by omega,rfl,_,_,HP⟩
 case round =>
  clear HP
  obtain ⟨k,hk,rfl,A1,c1,C⟩:=hrel
  by_cases hlt:k<12
  ·obtain ⟨f,hf⟩:∃ f,Hid (4*k=f):=⟨_,hI rfl⟩
   have f1:4*(k:Int)=(f:Int):=by have:=hf.out;omega
   have f2:IntKind.i64.wrap (f:Int)=(f:Int):=IntWalk.i64_in _ (by have:=hf.out;omega)
   have f3:(0:Int)≤(f:Int):=by omega
   have f4:(f:Int)≤(n:Int):=by have:=hf.out;omega
   have f5:(f:Int)≤(c:Int):=by omega
   obtain ⟨v,hv⟩:∃ v,Hid (valN ((b.drop f).take 4)=v):=⟨_,hI rfl⟩
   have v9:(v:Int)<4294967296:=by have:=val4_lt (HB.out.drop f) 4 (Nat.le_refl _);rw [hv.out] at this;omega
   have hr:=HR.out.cut (k:=f) (c:=c) (by have:=hf.out;rw [HL.out];omega) (by rw [HL.out];exact hc)
   have HRD:=hI (show Rd wr wr.heap.size _ (b.drop f) from hr.ons C.out.pc.bel)
   have HLD:=hI (show (b.drop f).length=n - f by rw [List.length_drop,HL.out])
   have HN:=hI (show 4≤n - f by have:=hf.out;omega)
   have HK:=hI (show k<12 from hlt)
   have E:=hI (show rdN b (k+1)=rdN b k ++ [v] by rw [rdN_succ,hf.out,hv.out])
   clear hr
   clear f1 f2 f3 f4 f5 v9
   have i2:(k:Int)<12:=by omega
   go_wp2_with fail
   have x9:=C.out.cell
   have f1:4*(k:Int)=(f:Int):=by have:=hf.out;omega
   have f2:IntKind.i64.wrap (f:Int)=(f:Int):=IntWalk.i64_in _ (by have:=hf.out;omega)
   have f3:(0:Int)≤(f:Int):=by omega
   have f4:(f:Int)≤(n:Int):=by have:=hf.out;omega
   have f5:(f:Int)≤(c:Int):=by omega
   have v9:(v:Int)<4294967296:=by have:=val4_lt (HB.out.drop f) 4 (Nat.le_refl _);rw [hv.out] at this;omega
   have f6:IntKind.u32.wrap (v:Int)=(v:Int):=by rw [show IntKind.u32.wrap (v:Int)=(v:Int) % 4294967296 from rfl];omega
   -- REGION
   refine wp_region_held_drew (S:=(fun _=>True)) (by kernel_rfl) trivial (fun _=>?_)
   refine at_worldP (fun W=>Hid (RgC w W g (rdN b k) k A1 c1)∧Hid (Rd W W.heap.size (if c=f then A else A.map (·.add f)) (b.drop f))) ⟨hI C.out.drew,hI (HRD.out.ons (Below.refl _ _).drew)⟩ ?_
   clear C HRD x9
   rintro W ⟨C,HRD⟩
   refine wpAnyH_take (i:=0) (oi:=?ok1) (v:=?vk1) ?hik1 (by kernel_rfl) (by kernel_rfl) (by kernel_rfl) ?hqk1 (Or.inl ⟨?hwk1,?hyk1⟩) (by trivial) ?restk1
   case hik1=>(simp only [List.getElem?_toArray,List.getElem?_cons_zero];rfl)
   case hwk1=>(rfl)
   case hqk1=>(exact fun _ _ _ h=>h)
   case hyk1=>(intro w hSw;(try dsimp only at hSw);go_simp;(try with_reducible rfl))
   try simp only [Act.put,List.setIfInBounds_toArray,List.set_cons_zero,List.set_cons_succ]
   refine wpAnyH_take (i:=2) (oi:=?ok2) (v:=?vk2) ?hik2 (by kernel_rfl) (by kernel_rfl) (by kernel_rfl) ?hqk2 (Or.inl ⟨?hwk2,?hyk2⟩) (by trivial) ?restk2
   case hik2=>(simp only [List.getElem?_toArray,List.getElem?_cons_succ,List.getElem?_cons_zero];rfl)
   case hwk2=>(rfl)
   case hqk2=>(exact fun _ _ _ h=>h)
   case hyk2=>(intro w hSw;(try dsimp only at hSw);go_simp;(try with_reducible rfl))
   try simp only [Act.put,List.setIfInBounds_toArray,List.set_cons_zero,List.set_cons_succ]
   refine wpAnyH_take (i:=3) (oi:=?ok3) (v:=?vk3) ?hik3 (by kernel_rfl) (by kernel_rfl) (by kernel_rfl) ?hqk3 (Or.inl ⟨?hwk3,?hyk3⟩) (by trivial) ?restk3
   case hik3=>(simp only [List.getElem?_toArray,List.getElem?_cons_succ,List.getElem?_cons_zero];rfl)
   case hwk3=>(rfl)
   case hqk3=>(exact fun _ _ _ h=>h)
   case hyk3=>(intro w hSw;(try dsimp only at hSw);go_simp;(try with_reducible rfl))
   try simp only [Act.put,List.setIfInBounds_toArray,List.set_cons_zero,List.set_cons_succ]
   refine wpAnyH_take (i:=4) (oi:=?ok4) (v:=?vk4) ?hik4 (by kernel_rfl) (by kernel_rfl) (by kernel_rfl) ?hqk4 (Or.inl ⟨?hwk4,?hyk4⟩) (by trivial) ?restk4
   case hik4=>(simp only [List.getElem?_toArray,List.getElem?_cons_succ,List.getElem?_cons_zero];rfl)
   case hwk4=>(rfl)
   case hqk4=>(exact fun _ _ _ h=>h)
   case hyk4=>(intro w hSw;(try dsimp only at hSw);go_simp;(try with_reducible rfl))
   try simp only [Act.put,List.setIfInBounds_toArray,List.set_cons_zero,List.set_cons_succ]
   refine wpAnyH_take (i:=5) (oi:=?ok5) (v:=?vk5) ?hik5 (by kernel_rfl) (by kernel_rfl) (by kernel_rfl) ?hqk5 (Or.inl ⟨?hwk5,?hyk5⟩) (by trivial) ?restk5
   case hik5=>(simp only [List.getElem?_toArray,List.getElem?_cons_succ,List.getElem?_cons_zero];rfl)
   case hwk5=>(rfl)
   case hqk5=>(exact fun _ _ _ h=>h)
   case hyk5=>(intro w hSw;(try dsimp only at hSw);go_simp;(try with_reducible rfl))
   try simp only [Act.put,List.setIfInBounds_toArray,List.set_cons_zero,List.set_cons_succ]
   clear f1 f2 f3 f4 f5 i2
   refine wpAnyH_ready (rs:=[1,6]) (by kernel_rfl) (by simp) ?_
   refine (AllReadyH.cons (o:=?oz7) ?hiz7 (fun K hK=>?stz7) (AllReadyH.cons (o:=?oz6) ?hiz6 (fun K hK=>?stz6) AllReadyH.nil))
   case hiz7=>(simp only [List.getElem?_toArray,List.getElem?_cons_succ,List.getElem?_cons_zero];rfl)
   case hiz6=>(simp only [List.getElem?_toArray,List.getElem?_cons_succ,List.getElem?_cons_zero];rfl)
   case stz7 =>
    have x9:=C.out.cell
    go_simp
    refine hK.out _ _ (by trivial) (fun _=>?_)
    clear hK K x9
    try simp only [Act.put,List.setIfInBounds_toArray,List.set_cons_zero,List.set_cons_succ]
    refine wpAnyH_ready (rs:=[6]) (by kernel_rfl) (by simp) ?_
    refine (AllReadyH.cons (o:=?oz8) ?hiz8 (fun K hK=>?stz8) AllReadyH.nil)
    case hiz8=>(simp only [List.getElem?_toArray,List.getElem?_cons_succ,List.getElem?_cons_zero];rfl)
    case stz8 =>
     go_simp
     go_at_call 73
     with_reducible refine (read_four (b.drop f) (n - f) _ _ _ v hv.out HRD.out (HB.out.drop f) HLD.out HN.out).mono ?_
     rintro e wy ⟨rfl,hb⟩
     dsimp only
     refine hK.out _ _ (by trivial) (fun _=>?_)
     clear hK K
     try simp only [Act.put,List.setIfInBounds_toArray,List.set_cons_zero,List.set_cons_succ]
     refine at_worldP (fun W=>Hid (RgC w W g (rdN b k) k A1 c1)) (hI (C.out.step hb)) ?_
     clear C HRD hb
     rintro W C
     refine wpAnyH_take (i:=7) (oi:=?ok9) (v:=?vk9) ?hik9 (by kernel_rfl) (by kernel_rfl) (by kernel_rfl) ?hqk9 (Or.inl ⟨?hwk9,?hyk9⟩) (by trivial) ?restk9
     case hik9=>(simp only [List.getElem?_toArray,List.getElem?_cons_succ,List.getElem?_cons_zero];rfl)
     case hwk9=>(rfl)
     case hqk9=>(exact fun _ _ _ h=>h)
     case hyk9=>(intro w hSw;(try dsimp only at hSw);go_simp;(try with_reducible rfl))
     try simp only [Act.put,List.setIfInBounds_toArray,List.set_cons_zero,List.set_cons_succ]
     clear f6 v9
     refine wpAnyH_ready (rs:=[8]) (by kernel_rfl) (by simp) ?_
     refine (AllReadyH.cons (o:=?oz10) ?hiz10 (fun K hK=>?stz10) AllReadyH.nil)
     case hiz10=>(simp only [List.getElem?_toArray,List.getElem?_cons_succ,List.getElem?_cons_zero];rfl)
     case stz10 =>
      go_simp
      refine hK.out _ _ (by trivial) (fun _=>?_)
      clear hK K
      try simp only [Act.put,List.setIfInBounds_toArray,List.set_cons_zero,List.set_cons_succ]
      obtain ⟨z,hz⟩:∃ z,W.heap.size=z:=⟨_,rfl⟩
      rw [hz]
      refine at_worldP (fun W=>Hid (RgC w W g (rdN b k) k A1 c1)∧Hid (Rws shN (fun i=>i≠g∧(Value.slice A1 k c1).ownBlock≠some i) W (some ⟨z,0,none⟩) [v])) ⟨hI (C.out.al _),hI (hz ▸ litnG C.out v)⟩ ?_
      clear C hz
      rintro W ⟨C,F⟩
      refine wpAnyH_ready (rs:=[9]) (by kernel_rfl) (by simp) ?_
      refine (AllReadyH.cons (o:=?oz11) ?hiz11 (fun K hK=>?stz11) AllReadyH.nil)
      case hiz11=>(simp only [List.getElem?_toArray,List.getElem?_cons_succ,List.getElem?_cons_zero];rfl)
      case stz11 =>
       refine step_rows shN _ (by rfl) _ _ _ (by rfl) 25 i0 (.int .u32 0) 4 Tryz.underlying27 hi hz0 hz1 hz2 rfl (by decide) (fun i=>i≠g) _ (g+1) _ k (rdN b k) (by rfl) C.out.own (rdN_len b k) _ 1 1 [v] (by rfl) F.out rfl (fun i _ hi=>hi) (by unfold maxLen;have:=HK.out;omega) (by have:=HK.out;omega) C.out.lt ?_
       intro v7 w7 ho7 hg7 hm7
       refine hK.out _ _ (by trivial) (fun _=>?_)
       clear hK K hm7
       try simp only [Act.put,List.setIfInBounds_toArray,List.set_cons_zero,List.set_cons_succ]
       have Q:=C.out.push (rdN_len b k) ho7 hg7
       rw [←E.out] at Q
       clear C F ho7 hg7
       obtain ⟨A7,c7,rfl,Q'⟩:=Q
       have Q:=hI Q'
       clear Q'
       refine wpAnyH_take (i:=10) (oi:=?ok12) (v:=?vk12) ?hik12 (by kernel_rfl) (by kernel_rfl) (by kernel_rfl) ?hqk12 (Or.inl ⟨?hwk12,?hyk12⟩) (by trivial) ?restk12
       case hik12=>(simp only [List.getElem?_toArray,List.getElem?_cons_succ,List.getElem?_cons_zero];rfl)
       case hwk12=>(rfl)
       case hqk12=>(exact fun _ _ _ h=>h)
       case hyk12=>(intro w hSw;(try dsimp only at hSw);go_simp;(try with_reducible rfl))
       try simp only [Act.put,List.setIfInBounds_toArray,List.set_cons_zero,List.set_cons_succ]
       refine wpAnyH_ready (rs:=[11]) (by kernel_rfl) (by simp) ?_
       refine (AllReadyH.cons (o:=?oz13) ?hiz13 (fun K hK=>?stz13) AllReadyH.nil)
       case hiz13=>(simp only [List.getElem?_toArray,List.getElem?_cons_succ,List.getElem?_cons_zero];rfl)
       case stz13 =>
        obtain ⟨u9,z9⟩:=Q.out.cell
        go_simp
        refine hK.out _ _ (by trivial) (fun _=>?_)
        clear hK K u9 z9
        try simp only [Act.put,List.setIfInBounds_toArray,List.set_cons_zero,List.set_cons_succ]
        refine at_worldP (fun W=>Hid (RgC w W g (rdN b (k+1)) (k+1) A7 c7)) (hI Q.out.put) ?_
        clear Q
        rintro W C
        refine wpAnyH_done (by kernel_rfl) ?_ _
        go_wp2_with fail
        go_roundw
        case rel=>exact ⟨k+1,HK.out,by go_num,A7,c7,C⟩
        case measure=>simp [intOf];have:=HK.out;omega
   case stz6 =>
    go_simp
    go_at_call 73
    with_reducible refine (read_four (b.drop f) (n - f) _ _ _ v hv.out HRD.out (HB.out.drop f) HLD.out HN.out).mono ?_
    rintro e wy ⟨rfl,hb⟩
    dsimp only
    refine hK.out _ _ (by trivial) (fun _=>?_)
    clear hK K
    try simp only [Act.put,List.setIfInBounds_toArray,List.set_cons_zero,List.set_cons_succ]
    refine at_worldP (fun W=>Hid (RgC w W g (rdN b k) k A1 c1)) (hI (C.out.step hb)) ?_
    clear C HRD hb
    rintro W C
    refine wpAnyH_take (i:=7) (oi:=?ok14) (v:=?vk14) ?hik14 (by kernel_rfl) (by kernel_rfl) (by kernel_rfl) ?hqk14 (Or.inl ⟨?hwk14,?hyk14⟩) (by trivial) ?restk14
    case hik14=>(simp only [List.getElem?_toArray,List.getElem?_cons_succ,List.getElem?_cons_zero];rfl)
    case hwk14=>(rfl)
    case hqk14=>(exact fun _ _ _ h=>h)
    case hyk14=>(intro w hSw;(try dsimp only at hSw);go_simp;(try with_reducible rfl))
    try simp only [Act.put,List.setIfInBounds_toArray,List.set_cons_zero,List.set_cons_succ]
    clear f6 v9
    refine wpAnyH_ready (rs:=[1,8]) (by kernel_rfl) (by simp) ?_
    refine (AllReadyH.cons (o:=?oz16) ?hiz16 (fun K hK=>?stz16) (AllReadyH.cons (o:=?oz15) ?hiz15 (fun K hK=>?stz15) AllReadyH.nil))
    case hiz16=>(simp only [List.getElem?_toArray,List.getElem?_cons_succ,List.getElem?_cons_zero];rfl)
    case hiz15=>(simp only [List.getElem?_toArray,List.getElem?_cons_succ,List.getElem?_cons_zero];rfl)
    case stz16 =>
     have x9:=C.out.cell
     go_simp
     refine hK.out _ _ (by trivial) (fun _=>?_)
     clear hK K x9
     try simp only [Act.put,List.setIfInBounds_toArray,List.set_cons_zero,List.set_cons_succ]
     refine wpAnyH_ready (rs:=[8]) (by kernel_rfl) (by simp) ?_
     refine (AllReadyH.cons (o:=?oz17) ?hiz17 (fun K hK=>?stz17) AllReadyH.nil)
     case hiz17=>(simp only [List.getElem?_toArray,List.getElem?_cons_succ,List.getElem?_cons_zero];rfl)
     case stz17 =>
      go_simp
      refine hK.out _ _ (by trivial) (fun _=>?_)
      clear hK K
      try simp only [Act.put,List.setIfInBounds_toArray,List.set_cons_zero,List.set_cons_succ]
      obtain ⟨z,hz⟩:∃ z,W.heap.size=z:=⟨_,rfl⟩
      rw [hz]
      refine at_worldP (fun W=>Hid (RgC w W g (rdN b k) k A1 c1)∧Hid (Rws shN (fun i=>i≠g∧(Value.slice A1 k c1).ownBlock≠some i) W (some ⟨z,0,none⟩) [v])) ⟨hI (C.out.al _),hI (hz ▸ litnG C.out v)⟩ ?_
      clear C hz
      rintro W ⟨C,F⟩
      refine wpAnyH_ready (rs:=[9]) (by kernel_rfl) (by simp) ?_
      refine (AllReadyH.cons (o:=?oz18) ?hiz18 (fun K hK=>?stz18) AllReadyH.nil)
      case hiz18=>(simp only [List.getElem?_toArray,List.getElem?_cons_succ,List.getElem?_cons_zero];rfl)
      case stz18 =>
       refine step_rows shN _ (by rfl) _ _ _ (by rfl) 25 i0 (.int .u32 0) 4 Tryz.underlying27 hi hz0 hz1 hz2 rfl (by decide) (fun i=>i≠g) _ (g+1) _ k (rdN b k) (by rfl) C.out.own (rdN_len b k) _ 1 1 [v] (by rfl) F.out rfl (fun i _ hi=>hi) (by unfold maxLen;have:=HK.out;omega) (by have:=HK.out;omega) C.out.lt ?_
       intro v7 w7 ho7 hg7 hm7
       refine hK.out _ _ (by trivial) (fun _=>?_)
       clear hK K hm7
       try simp only [Act.put,List.setIfInBounds_toArray,List.set_cons_zero,List.set_cons_succ]
       have Q:=C.out.push (rdN_len b k) ho7 hg7
       rw [←E.out] at Q
       clear C F ho7 hg7
       obtain ⟨A7,c7,rfl,Q'⟩:=Q
       have Q:=hI Q'
       clear Q'
       refine wpAnyH_take (i:=10) (oi:=?ok19) (v:=?vk19) ?hik19 (by kernel_rfl) (by kernel_rfl) (by kernel_rfl) ?hqk19 (Or.inl ⟨?hwk19,?hyk19⟩) (by trivial) ?restk19
       case hik19=>(simp only [List.getElem?_toArray,List.getElem?_cons_succ,List.getElem?_cons_zero];rfl)
       case hwk19=>(rfl)
       case hqk19=>(exact fun _ _ _ h=>h)
       case hyk19=>(intro w hSw;(try dsimp only at hSw);go_simp;(try with_reducible rfl))
       try simp only [Act.put,List.setIfInBounds_toArray,List.set_cons_zero,List.set_cons_succ]
       refine wpAnyH_ready (rs:=[11]) (by kernel_rfl) (by simp) ?_
       refine (AllReadyH.cons (o:=?oz20) ?hiz20 (fun K hK=>?stz20) AllReadyH.nil)
       case hiz20=>(simp only [List.getElem?_toArray,List.getElem?_cons_succ,List.getElem?_cons_zero];rfl)
       case stz20 =>
        obtain ⟨u9,z9⟩:=Q.out.cell
        go_simp
        refine hK.out _ _ (by trivial) (fun _=>?_)
        clear hK K u9 z9
        try simp only [Act.put,List.setIfInBounds_toArray,List.set_cons_zero,List.set_cons_succ]
        refine at_worldP (fun W=>Hid (RgC w W g (rdN b (k+1)) (k+1) A7 c7)) (hI Q.out.put) ?_
        clear Q
        rintro W C
        refine wpAnyH_done (by kernel_rfl) ?_ _
        go_wp2_with fail
        go_roundw
        case rel=>exact ⟨k+1,HK.out,by go_num,A7,c7,C⟩
        case measure=>simp [intOf];have:=HK.out;omega
    case stz15 =>
     go_simp
     refine hK.out _ _ (by trivial) (fun _=>?_)
     clear hK K
     try simp only [Act.put,List.setIfInBounds_toArray,List.set_cons_zero,List.set_cons_succ]
     obtain ⟨z,hz⟩:∃ z,W.heap.size=z:=⟨_,rfl⟩
     rw [hz]
     refine at_worldP (fun W=>Hid (RgC w W g (rdN b k) k A1 c1)∧Hid (Rws shN (fun i=>i≠g∧(Value.slice A1 k c1).ownBlock≠some i) W (some ⟨z,0,none⟩) [v])) ⟨hI (C.out.al _),hI (hz ▸ litnG C.out v)⟩ ?_
     clear C hz
     rintro W ⟨C,F⟩
     refine wpAnyH_ready (rs:=[1]) (by kernel_rfl) (by simp) ?_
     refine (AllReadyH.cons (o:=?oz21) ?hiz21 (fun K hK=>?stz21) AllReadyH.nil)
     case hiz21=>(simp only [List.getElem?_toArray,List.getElem?_cons_succ,List.getElem?_cons_zero];rfl)
     case stz21 =>
      have x9:=C.out.cell
      go_simp
      refine hK.out _ _ (by trivial) (fun _=>?_)
      clear hK K x9
      try simp only [Act.put,List.setIfInBounds_toArray,List.set_cons_zero,List.set_cons_succ]
      refine wpAnyH_ready (rs:=[9]) (by kernel_rfl) (by simp) ?_
      refine (AllReadyH.cons (o:=?oz22) ?hiz22 (fun K hK=>?stz22) AllReadyH.nil)
      case hiz22=>(simp only [List.getElem?_toArray,List.getElem?_cons_succ,List.getElem?_cons_zero];rfl)
      case stz22 =>
       refine step_rows shN _ (by rfl) _ _ _ (by rfl) 25 i0 (.int .u32 0) 4 Tryz.underlying27 hi hz0 hz1 hz2 rfl (by decide) (fun i=>i≠g) _ (g+1) _ k (rdN b k) (by rfl) C.out.own (rdN_len b k) _ 1 1 [v] (by rfl) F.out rfl (fun i _ hi=>hi) (by unfold maxLen;have:=HK.out;omega) (by have:=HK.out;omega) C.out.lt ?_
       intro v7 w7 ho7 hg7 hm7
       refine hK.out _ _ (by trivial) (fun _=>?_)
       clear hK K hm7
       try simp only [Act.put,List.setIfInBounds_toArray,List.set_cons_zero,List.set_cons_succ]
       have Q:=C.out.push (rdN_len b k) ho7 hg7
       rw [←E.out] at Q
       clear C F ho7 hg7
       obtain ⟨A7,c7,rfl,Q'⟩:=Q
       have Q:=hI Q'
       clear Q'
       refine wpAnyH_take (i:=10) (oi:=?ok23) (v:=?vk23) ?hik23 (by kernel_rfl) (by kernel_rfl) (by kernel_rfl) ?hqk23 (Or.inl ⟨?hwk23,?hyk23⟩) (by trivial) ?restk23
       case hik23=>(simp only [List.getElem?_toArray,List.getElem?_cons_succ,List.getElem?_cons_zero];rfl)
       case hwk23=>(rfl)
       case hqk23=>(exact fun _ _ _ h=>h)
       case hyk23=>(intro w hSw;(try dsimp only at hSw);go_simp;(try with_reducible rfl))
       try simp only [Act.put,List.setIfInBounds_toArray,List.set_cons_zero,List.set_cons_succ]
       refine wpAnyH_ready (rs:=[11]) (by kernel_rfl) (by simp) ?_
       refine (AllReadyH.cons (o:=?oz24) ?hiz24 (fun K hK=>?stz24) AllReadyH.nil)
       case hiz24=>(simp only [List.getElem?_toArray,List.getElem?_cons_succ,List.getElem?_cons_zero];rfl)
       case stz24 =>
        obtain ⟨u9,z9⟩:=Q.out.cell
        go_simp
        refine hK.out _ _ (by trivial) (fun _=>?_)
        clear hK K u9 z9
        try simp only [Act.put,List.setIfInBounds_toArray,List.set_cons_zero,List.set_cons_succ]
        refine at_worldP (fun W=>Hid (RgC w W g (rdN b (k+1)) (k+1) A7 c7)) (hI Q.out.put) ?_
        clear Q
        rintro W C
        refine wpAnyH_done (by kernel_rfl) ?_ _
        go_wp2_with fail
        go_roundw
        case rel=>exact ⟨k+1,HK.out,by go_num,A7,c7,C⟩
        case measure=>simp [intOf];have:=HK.out;omega
   -- END
  ·have he:k=12:=by omega
   subst he
   have P:=hI C.out.pc
   have R:=hI ((orwN_read C.out.own).mono (G:=fun i=>w.heap.size<i) (fun i _ hi=>Nat.lt_trans P.out.lt hi))
   clear C
   obtain ⟨x0,x1,x2,x3,x4,x5,x6,x7,x8,x9⟩:=P.out.cf.all
   obtain ⟨y0,y1,y2,y3,y4,y5,y6,y7,y8,y9⟩:=P.out.res.all
   obtain ⟨z0,z1,z2,z3,z4,z5,z6,z7,z8,z9⟩:=P.out.res.free
   go_wp2_with fail
   refine bodyPost_ret (v:=.tuple #[Pk.val (repP (rdN b 12)) { pl0 with an:=A1,nn:=12,cn:=c1 },.int .i64 0]) ?_ rfl (GetN.mk { pl0 with an:=A1,nn:=12,cn:=c1 } rfl ?_ (put10_below P.out.bel (Nat.le_refl _) (repP (rdN b 12)) { pl0 with an:=A1,nn:=12,cn:=c1 }))
   ·exact results_row_tmpP rfl _ _ _ w.heap.size 29 _ _ _ rfl rfl (put10_px P.out.res (repP (rdN b 12)) { pl0 with an:=A1,nn:=12,cn:=c1 }) Tryz.underlying29 (by kernel_rfl)
   ·have hr:=R.out.keep ((put10_keeps wr w.heap.size (repP (rdN b 12)) { pl0 with an:=A1,nn:=12,cn:=c1 }).less (fun i _ hi=>Nat.ne_of_gt hi))
    exact ⟨rfl,Rws.nilO,rfl,RdF.nil,rfl,RdF.nil,rfl,RdF.nil,rdN_len b 12,hr.mono (fun i _ hi=>Nat.le_of_lt hi),Nat.le_refl _,Nat.le_refl _,Nat.le_refl _⟩
theorem rlget_any (b:List Nat) (n c:Nat) (A:Option Addr) (w:World) (h:Rd w w.heap.size A b) (hb:By b) (hl:b.length=n) (hc:n≤c) (hn:n≤1073741824) (y:Pk) (k:Nat) (hy:lqgetB b=(y,k)) :
  Calls Tryz.prog 59 #[.slice A n c] w (GetN w y k):=by
 unfold lqgetB at hy
 rcases Nat.lt_or_ge n 48 with h48 | h48
 ·rw [if_pos (by omega)] at hy
  injection hy with e1 e2
  subst e1;subst e2
  exact rlget_short b n c A w h48
 ·rw [if_neg (by omega)] at hy
  injection hy with e1 e2
  subst e1;subst e2
  exact rlget_ok b n c A w h hb hl hc h48 hn
end Go.Proofs.YtmhjnghomihjlaaGreat
