/-
  The document's Number and Read: a number as octets, octets as a number. No condition beyond: at most 4 octets read. Layer 15's answers as mathematics: what a code has, how a packet is written, what oc
-/
import Derived.Test.YtmhjnghomihjlaaGreatGOps
import Derived.Test.YtmhjnghomihjlaaGreatGWord
import Derived.Test.YtmhjnghomihjlaaGreatGPkt
import Derived.Test.YtmhjnghomihjlaaGreatGCtl
import Derived.Laws.BitsAll
import Derived.OwnWalk
namespace Go.Proofs.YtmhjnghomihjlaaGreat
set_option maxRecDepth 8000
set_option maxHeartbeats 80000000
set_option linter.unusedVariables false
section
open Go.RowKit
theorem number_any (v z:Nat) (hv:v<4294967296) (hz:z≤1073741824) (w:World) :
  Calls Tryz.prog 69 #[.int .i64 (v:Int),.int .i64 (z:Int)] w fun e w'=>∃ A c,e=.returned (.slice A z c)∧w'.ownsRow w.heap.size 5 1 (.slice A z c) z (bvs (numB v z))∧Below w.heap.size w w':=by
 obtain ⟨i0,hi,hz0,hz1,hz2⟩:=info_parts byte_info
 have O0:=hI (World.ownsRow_lit (base:=w.heap.size) (e:=5) (size:=1) w #[] 0 (Nat.le_refl _) (by unfold maxLen;omega) rfl)
 have B0:=hI ((Below.refl w.heap.size w).alloc (Nat.le_refl _) (.cells #[] 5))
 go_enter Tryz.func69,Tryz.ntmps69
 go_wp2_with fail
 go_loopw [0,5,6] (fun n v' i wr=>∃ k:Nat,k≤z∧i=.int .i64 k∧n=.int .i64 ((v / 256 ^ k:Nat):Int)∧∃ A c,v'=.slice A k c∧wr.ownsRow w.heap.size 5 1 (.slice A k c) k (bvs (numB v k))∧Hid (Below w.heap.size w wr)) (fun _ _ i _=>z - (intOf i).toNat)
 case atStart=>exact ⟨0,Nat.zero_le _,rfl,by simp,_,_,rfl,O0.out,B0⟩
 case round =>
  clear O0 B0
  obtain ⟨k,hk,rfl,rfl,A,c,rfl,hown,hbel⟩:=hrel
  obtain ⟨y,hy⟩:∃ y,Hid (v / 256 ^ k=y):=⟨_,hI rfl⟩
  rw [hy.out]
  have OW:=hI hown
  clear hown
  by_cases hlt:k<z
  ·obtain ⟨x,hx⟩:∃ x,y % 256=x:=⟨_,rfl⟩
   obtain ⟨y2,hy2⟩:∃ y2,y / 256=y2:=⟨_,rfl⟩
   have e1:(y:Int) % 256=(x:Int):=by omega
   have e2:(y:Int) / 256=(y2:Int):=by omega
   have E1:=hI (show numB v (k+1)=[x] ++ numB v k by rw [numB,hy.out,hx];rfl)
   have E2:=hI (show v / 256 ^ (k+1)=y2 by rw [Nat.pow_succ,← Nat.div_div_eq_div_mul,hy.out,hy2])
   have O1:=hI (show (wr.alloc (.cells #[.int .u8 (x:Int)] 5)).ownsRow wr.heap.size 5 1 (.slice (some ⟨wr.heap.size,0,none⟩) 1 1) 1 (bvs [x]) from World.ownsRow_lit (base:=wr.heap.size) (e:=5) (size:=1) wr #[.int .u8 (x:Int)] 1 (Nat.le_refl _) (by unfold maxLen;omega) rfl)
   have ba:=(Below.refl wr.heap.size wr).alloc (Nat.le_refl _) (.cells #[.int .u8 (x:Int)] 5)
   have R1:=hI ((Rd.own OW.out).on ba)
   have B1:=hI (hbel.out.trans (ba.mono hbel.out.size))
   have x8:(x:Int)<256:=by omega
   have y9:(y2:Int)<4294967296:=by have:=hy.out;have h1:=Nat.div_le_self v (256 ^ k);omega
   clear ba hx hy2
   have i1:(k:Int)<(z:Int):=by omega
   go_wp2_with (at_builtin;refine list_app rfl _ _ 26 rfl 5 i0 Tryz.underlying26 hi hz0 hz1 hz2 wr.heap.size _ 1 [x] rfl O1.out _ A k c (numB v k) rfl R1.out (num_len v k) (by omega) (by simp) ?_;intro A3 c3 w3 ho3 hg3;have R3:=hI (own_lo ho3 hbel.out.size);have B3:=hI (app_below B1.out hbel.out.size O1.out hg3);clear ho3 hg3)
   go_roundw
   case rel=>exact ⟨k+1,by omega,by go_num,by rw [E2.out],A3,c3,by rw [Nat.add_comm],by rw [E1.out];have:=R3.out;rw [Nat.add_comm 1 k] at this;exact this,B3⟩
   case measure=>simp [intOf];omega
  ·have he:k=z:=by omega
   subst he
   go_wp2_with fail
   go_ret
   exact ⟨A,c,rfl,OW.out,hbel.out⟩
theorem valN_at {l:List Nat} {k x:Nat} (hx:l[k]?=some x):valN (l.take (k+1))=256*valN (l.take k)+x:=by rw [valN_snoc hx];omega
theorem valN_le4 {l:List Nat} (hb:By l) (k:Nat) (hk:k≤4):valN (l.take k)<4294967296:=by
 have h:=valN_lt (hb.take k)
 have h1:(l.take k).length≤4:=by rw [List.length_take];omega
 have h2:(256:Nat) ^ (l.take k).length≤256 ^ 4:=Nat.pow_le_pow_right (by omega) h1
 have h3:(256:Nat) ^ 4=4294967296:=by decide
 omega
theorem read15_any (l:List Nat) (n c z:Nat) (A:Option Addr) (w:World) (h:Rd w w.heap.size A l) (hb:By l) (hl:l.length=n) (hz:z≤4) (hzn:z≤n) :
  Calls Tryz.prog 73 #[.slice A n c,.int .i64 (z:Int)] w fun e w'=>e=.returned (.int .i64 (valN (l.take z):Int))∧Below w.heap.size w w':=by
 have HR:=hI h
 have HB:=hI hb
 have HL:=hI hl
 clear h hb hl
 go_enter Tryz.func73,Tryz.ntmps73
 go_wp2_with fail
 go_loopw [5,6] (fun v i wr=>∃ k:Nat,k≤z∧i=.int .i64 k∧v=.int .i64 (valN (l.take k):Nat)∧Hid (Below w.heap.size w wr)) (fun _ i _=>z - (intOf i).toNat)
 case atStart=>exact ⟨0,Nat.zero_le _,rfl,rfl,hI (Below.refl _ _)⟩
 case round =>
  obtain ⟨k,hk,rfl,rfl,hbel⟩:=hrel
  obtain ⟨v,hv⟩:∃ v,Hid (valN (l.take k)=v):=⟨_,hI rfl⟩
  have v9:v<4294967296:=by rw [←hv.out];exact valN_le4 HB.out k (by omega)
  rw [hv.out]
  by_cases hlt:k<z
  ·obtain ⟨b,o,x,rfl,hbb,hx,hc⟩:=(HR.out.on hbel.out).at_ (k:=k) (by rw [HL.out];omega)
   have hx256:=HB.out.get hx
   have i1:(0:Int)≤k:=by omega
   have i2:(k:Int)<n:=by omega
   have i3:(k:Int)<(z:Int):=by omega
   have HS:=hI (valN_at hx)
   clear hx
   go_wp2_with fail
   go_roundw
   case rel=>exact ⟨k+1,by omega,by go_num,by rw [HS.out,hv.out];go_num,hbel⟩
   case measure=>simp [intOf];omega
  ·have he:k=z:=by omega
   subst he
   go_wp2_with fail
   go_ret
   exact ⟨by rw [hv.out];rfl,hbel.out⟩
end
section
def hasL (c:Nat):Nat:=if c=1∨c=2∨c=3∨c=4 then 1 else if c=8 then 2 else if c=9∨c=10∨c=11 then 3 else 0
theorem hasL_cases (c:Nat):hasL c=0∨hasL c=1∨hasL c=2∨hasL c=3:=by unfold hasL;split <;> (try split) <;> (try split) <;> simp
def restL (p:Pk):Pk :=
 if hasL p.code=1 then { p with opts:=[] } else if hasL p.code=2 then { p with sub:=0,data:=[] } else if hasL p.code=3 then { p with magic:=0,data:=[] } else { p with data:=[] }
def nothL (p:Pk):Bool :=
 decide (p.sub=0) && decide (p.magic=0) && decide (p.opts.length=0) && decide (p.nums.length=0) && decide (p.one.length=0) && decide (p.two.length=0) && decide (p.data.length=0)
def wrL (p:Pk):List Nat × Nat :=
 if hasL p.code=1 then putO 49185 p.opts else if hasL p.code=2 then (numB p.sub 2 ++ p.data,0) else if hasL p.code=3 then (numB p.magic 4 ++ p.data,0) else (p.data,0)
def lputB (p:Pk):List Nat × Nat :=
 if p.proto=49185 then (if nothL (restL p)=true then (if (wrL p).2=0 then (kputA p.code p.id (wrL p).1,kerrP (wrL p).1) else ([],(wrL p).2)) else ([],9)) else ([],8)
def lrdB (c i:Nat) (d:List Nat):Pk × Nat :=
 if hasL c=1 then (if (getO 49185 d).2=0 then (⟨49185,c,i,(getO 49185 d).1,0,0,[],[],[],[]⟩,0) else (pk0,(getO 49185 d).2))
 else if hasL c=2 then (if d.length<2 then (pk0,2) else (⟨49185,c,i,[],valN (d.take 2),0,[],[],d.drop 2,[]⟩,0))
 else if hasL c=3 then (if d.length<4 then (pk0,2) else (⟨49185,c,i,[],0,valN (d.take 4),[],[],d.drop 4,[]⟩,0))
 else (⟨49185,c,i,[],0,0,[],[],d,[]⟩,0)
def lgetB (b:List Nat):Pk × Nat:=if (kgetB b).2.2.2=0 then lrdB (kgetB b).1 (kgetB b).2.1 (kgetB b).2.2.1 else (pk0,(kgetB b).2.2.2)
theorem lget_of {b d:List Nat} {x y:Nat} (h:kgetB b=(x,y,d,0)):lgetB b=lrdB x y d:=by unfold lgetB;rw [h];rfl
theorem lget_no {b d:List Nat} {x y e:Nat} (h:kgetB b=(x,y,d,e)) (he:e≠0):lgetB b=(pk0,e):=by unfold lgetB;rw [h];exact if_neg he
theorem num_valN {l:List Nat} (hb:By l) (v:Nat):numB (v*256 ^ l.length+valN l) l.length=l:=by
 induction l generalizing v with
 | nil=>rfl
 | cons x l ih =>
  rw [List.length_cons,numB,valN_cons]
  have hx:x<256:=hb x (List.mem_cons_self ..)
  have hl:=valN_lt (fun y hy=>hb y (List.mem_cons_of_mem _ hy):By l)
  have hpos:0<256 ^ l.length:=Nat.pow_pos (by omega)
  have e:v*256 ^ (l.length+1)+(x*256 ^ l.length+valN l)=(v*256+x)*256 ^ l.length+valN l:=by
   rw [Nat.pow_succ,Nat.add_mul,Nat.mul_assoc,Nat.mul_comm 256 (256 ^ l.length)];omega
  rw [e,ih (fun y hy=>hb y (List.mem_cons_of_mem _ hy)) (v*256+x)]
  congr 1
  rw [Nat.add_comm,Nat.add_mul_div_right _ _ hpos,Nat.div_eq_of_lt hl]
  omega
theorem num_of_val {l:List Nat} (hb:By l) (k:Nat) (hk:l.length=k):numB (valN l) k=l:=by
 have:=num_valN hb 0
 rw [Nat.zero_mul,Nat.zero_add,hk] at this
 exact this
end
section
theorem lput_len {p:Pk} {m:List Nat} {k:Nat} (h:lputB p=(m,k)) (hf:fewP p=true):m.length≤2000:=by
 obtain ⟨⟨f1,f2⟩,f3,f4,f5,f6⟩:=fewP_of hf
 have key:(wrL p).1.length≤1200:=by
  unfold wrL
  split
  ·unfold putO
   split
   ·show (putB p.opts).length≤_
    rw [put_len];omega
   ·simp
  ·split
   ·show (numB p.sub 2 ++ p.data).length≤_
    rw [List.length_append,num_len];omega
   ·split
    ·show (numB p.magic 4 ++ p.data).length≤_
     rw [List.length_append,num_len];omega
    ·show p.data.length≤_
     omega
 unfold lputB at h
 split at h
 ·split at h
  ·split at h
   ·obtain ⟨h1,-⟩:=Prod.mk.inj h
    unfold kputA at h1
    split at h1
    ·rw [←h1,kput_len];omega
    ·rw [←h1];simp
   ·rw [←(Prod.mk.inj h).1];simp
  ·rw [←(Prod.mk.inj h).1];simp
 ·rw [←(Prod.mk.inj h).1];simp
theorem lput_ok {p:Pk} {m:List Nat} (h:lputB p=(m,0)):p.proto=49185∧nothL (restL p)=true∧(wrL p).2=0∧(wrL p).1.length≤65531∧m=kputB p.code p.id (wrL p).1:=by
 unfold lputB at h
 split at h
 ·rename_i h1
  split at h
  ·rename_i h2
   split at h
   ·rename_i h3
    obtain ⟨h4,h5⟩:=Prod.mk.inj h
    unfold kerrP at h5
    split at h5
    ·rename_i h6
     rw [kputA_ok _ _ h6] at h4
     exact ⟨h1,h2,h3,h6,h4.symm⟩
    ·exact absurd h5 (by decide)
   ·rename_i h3
    exact absurd (Prod.mk.inj h).2 h3
  ·exact absurd (Prod.mk.inj h).2 (by decide)
 ·exact absurd (Prod.mk.inj h).2 (by decide)
theorem lrd_ok {c i:Nat} {d:List Nat} (hc:c<256) (hi:i<256) (hb:By d) {y:Pk} {k:Nat} (h:lrdB c i d=(y,k)) :
  y.ok∧y.opts.length≤d.length∧datB y.opts≤d.length∧y.one=[]∧y.two=[]∧y.nums=[]∧y.data.length≤d.length∧(k=0→y.proto=49185∧y.code=c∧y.id=i∧nothL (restL y)=true∧wrL y=(d,0)):=by
 have ok0:pk0.ok:=⟨by decide,by decide,by decide,(fun _ h=>by cases h),by decide,by decide,By.nil,By.nil,By.nil,(fun _ h=>by cases h)⟩
 have z0:∀ k':Nat,k'≠0→pk0.ok∧pk0.opts.length≤d.length∧datB pk0.opts≤d.length∧pk0.one=[]∧pk0.two=[]∧pk0.nums=[]∧pk0.data.length≤d.length∧(k'=0→pk0.proto=49185∧pk0.code=c∧pk0.id=i∧nothL (restL pk0)=true∧wrL pk0=(d,0)):=fun k' hk' =>
  ⟨ok0,Nat.zero_le _,Nat.zero_le _,rfl,rfl,rfl,Nat.zero_le _,fun e=>absurd e hk'⟩
 unfold lrdB at h
 rcases hasL_cases c with hk | hk | hk | hk
 ·rw [hk] at h
  obtain ⟨rfl,rfl⟩:=Prod.mk.inj h
  refine ⟨⟨show (49185:Nat)<65536 by decide,hc,hi,(fun _ h=>by cases h),show (0:Nat)<65536 by decide,show (0:Nat)<4294967296 by decide,By.nil,By.nil,hb,(fun _ h=>by cases h)⟩,Nat.zero_le _,Nat.zero_le _,rfl,rfl,rfl,Nat.le_refl _,fun _=>⟨rfl,rfl,rfl,?_,?_⟩⟩
  ·simp only [restL,hk];rfl
  ·simp only [wrL,hk];rfl
 ·rw [if_pos hk] at h
  by_cases h0:(getO 49185 d).2=0
  ·rw [if_pos h0] at h
   obtain ⟨rfl,rfl⟩:=Prod.mk.inj h
   obtain ⟨l,hl⟩:∃ l,getO 49185 d=(l,0):=⟨(getO 49185 d).1,by rw [←h0]⟩
   rw [hl]
   have hg:(getB d).2=0∧okL (tabB 49185) (getB d).1=true∧l=(getB d).1:=by
    unfold getO at hl
    split at hl
    ·rename_i g1
     split at hl
     ·rename_i g2
      exact ⟨g1,g2,(Prod.mk.inj hl).1.symm⟩
     ·exact absurd (Prod.mk.inj hl).2 (by decide)
    ·rename_i g1
     exact absurd (Prod.mk.inj hl).2 g1
   obtain ⟨g1,g2,rfl⟩:=hg
   obtain ⟨p1,p2,p3⟩:=put_get d hb g1
   have hlen:=get_len d hb
   refine ⟨⟨show (49185:Nat)<65536 by decide,hc,hi,p3,show (0:Nat)<65536 by decide,show (0:Nat)<4294967296 by decide,By.nil,By.nil,By.nil,(fun _ h=>by cases h)⟩,by show (getB d).1.length≤_;omega,by show datB (getB d).1≤_;omega,rfl,rfl,rfl,Nat.zero_le _,fun _=>⟨rfl,rfl,rfl,?_,?_⟩⟩
   ·simp only [restL,hk];rfl
   ·simp only [wrL,hk,if_true,putO,g2,p1]
  ·rw [if_neg h0] at h
   obtain ⟨rfl,rfl⟩:=Prod.mk.inj h
   exact z0 _ h0
 ·rw [if_neg (by omega),if_pos hk] at h
  by_cases hz:d.length<2
  ·rw [if_pos hz] at h
   obtain ⟨rfl,rfl⟩:=Prod.mk.inj h
   exact z0 _ (by decide)
  ·rw [if_neg hz] at h
   obtain ⟨rfl,rfl⟩:=Prod.mk.inj h
   have ht:(d.take 2).length=2:=by rw [List.length_take];omega
   have hv:=valN_lt (hb.take 2)
   rw [ht] at hv
   refine ⟨⟨show (49185:Nat)<65536 by decide,hc,hi,(fun _ h=>by cases h),hv,show (0:Nat)<4294967296 by decide,By.nil,By.nil,hb.drop 2,(fun _ h=>by cases h)⟩,Nat.zero_le _,Nat.zero_le _,rfl,rfl,rfl,by show (d.drop 2).length≤_;rw [List.length_drop];omega,fun _=>⟨rfl,rfl,rfl,?_,?_⟩⟩
   ·simp only [restL,hk];rfl
   ·rw [wrL]
    dsimp only
    rw [if_neg (by omega),if_pos hk,num_of_val (hb.take 2) 2 ht,List.take_append_drop]
 ·rw [if_neg (by omega),if_neg (by omega),if_pos hk] at h
  by_cases hz:d.length<4
  ·rw [if_pos hz] at h
   obtain ⟨rfl,rfl⟩:=Prod.mk.inj h
   exact z0 _ (by decide)
  ·rw [if_neg hz] at h
   obtain ⟨rfl,rfl⟩:=Prod.mk.inj h
   have ht:(d.take 4).length=4:=by rw [List.length_take];omega
   have hv:=valN_lt (hb.take 4)
   rw [ht] at hv
   refine ⟨⟨show (49185:Nat)<65536 by decide,hc,hi,(fun _ h=>by cases h),show (0:Nat)<65536 by decide,hv,By.nil,By.nil,hb.drop 4,(fun _ h=>by cases h)⟩,Nat.zero_le _,Nat.zero_le _,rfl,rfl,rfl,by show (d.drop 4).length≤_;rw [List.length_drop];omega,fun _=>⟨rfl,rfl,rfl,?_,?_⟩⟩
   ·simp only [restL,hk];rfl
   ·rw [wrL]
    dsimp only
    rw [if_neg (by omega),if_neg (by omega),if_pos hk,num_of_val (hb.take 4) 4 ht,List.take_append_drop]
theorem lget_ok {b:List Nat} (hb:By b) {y:Pk} {k:Nat} (h:lgetB b=(y,k)) (hl:b.length≤1073741824):y.ok∧y.sm:=by
 obtain ⟨x,c,d,e,hg⟩:∃ x c d e,kgetB b=(x,c,d,e):=⟨_,_,_,_,rfl⟩
 by_cases he:e=0
 ·subst he
  rw [lget_of hg] at h
  obtain ⟨g1,g2,-,-,-⟩:=kput_get hb hg
  obtain ⟨g3,g4⟩:=kget_bytes hb hg
  obtain ⟨a1,a2,a3,a4,a5,a6,a7,-⟩:=lrd_ok g1 g2 g3 h
  exact ⟨a1,by omega,by omega,by rw [a4];simp,by rw [a5];simp,by omega,by rw [a6];simp⟩
 ·rw [lget_no hg he] at h
  obtain ⟨rfl,rfl⟩:=Prod.mk.inj h
  exact ⟨⟨by decide,by decide,by decide,(fun _ h=>by cases h),by decide,by decide,By.nil,By.nil,By.nil,(fun _ h=>by cases h)⟩,by decide,by decide,by decide,by decide,by decide,by decide⟩
theorem lput_get {b:List Nat} (hb:By b) {y:Pk} (h:lgetB b=(y,0)):∃ m,lputB y=(m,0)∧m.length≤b.length∧m=b.take m.length:=by
 obtain ⟨x,c,d,e,hg⟩:∃ x c d e,kgetB b=(x,c,d,e):=⟨_,_,_,_,rfl⟩
 by_cases he:e=0
 ·subst he
  rw [lget_of hg] at h
  obtain ⟨g1,g2,g5,g6,g7⟩:=kput_get hb hg
  obtain ⟨g3,g4⟩:=kget_bytes hb hg
  obtain ⟨-,-,-,-,-,-,-,a8⟩:=lrd_ok g1 g2 g3 h
  obtain ⟨e1,e2,e3,e4,e5⟩:=a8 rfl
  have hlen:(kputB x c d).length=b.length - kpadB b:=by rw [g7,List.length_take];omega
  refine ⟨kputB x c d,?_,by omega,by rw [hlen];exact g7⟩
  unfold lputB
  rw [if_pos e1,if_pos e4,e5]
  simp only [if_true]
  rw [e2,e3,kputA_ok _ _ g5,kerrP_ok g5]
 ·rw [lget_no hg he] at h
  exact absurd (Prod.mk.inj h).2 he
end
section
def restN (p:Pk):Pk:=if 1≤p.code∧p.code≤4 then { p with opts:=[] } else { p with data:=[] }
def wrN (p:Pk):List Nat × Nat:=if 1≤p.code∧p.code≤4 then putO p.proto p.opts else (p.data,0)
def nputB (p:Pk):List Nat × Nat :=
 if p.proto=32801∨p.proto=32855 then (if nothL (restN p)=true then (if (wrN p).2=0 then (kputA p.code p.id (wrN p).1,kerrP (wrN p).1) else ([],(wrN p).2)) else ([],9)) else ([],8)
def nrdB (t c i:Nat) (d:List Nat):Pk × Nat :=
 if 1≤c∧c≤4 then (if (getO t d).2=0 then (⟨t,c,i,(getO t d).1,0,0,[],[],[],[]⟩,0) else (pk0,(getO t d).2))
 else (⟨t,c,i,[],0,0,[],[],d,[]⟩,0)
def ngetB (t:Nat) (b:List Nat):Pk × Nat :=
 if t=32801∨t=32855 then (if (kgetB b).2.2.2=0 then nrdB t (kgetB b).1 (kgetB b).2.1 (kgetB b).2.2.1 else (pk0,(kgetB b).2.2.2)) else (pk0,8)
theorem nget_of {t:Nat} {b d:List Nat} {x y:Nat} (ht:t=32801∨t=32855) (h:kgetB b=(x,y,d,0)):ngetB t b=nrdB t x y d:=by unfold ngetB;rw [if_pos ht,h];rfl
theorem nget_no {t:Nat} {b d:List Nat} {x y e:Nat} (ht:t=32801∨t=32855) (h:kgetB b=(x,y,d,e)) (he:e≠0):ngetB t b=(pk0,e):=by unfold ngetB;rw [if_pos ht,h];exact if_neg he
theorem nget_kind {t:Nat} {b:List Nat} (ht:¬ (t=32801∨t=32855)):ngetB t b=(pk0,8):=by unfold ngetB;rw [if_neg ht]
theorem nput_kind {p:Pk} (h1:¬ (p.proto=32801∨p.proto=32855)):nputB p=([],8):=by
 unfold nputB
 rw [if_neg h1]
theorem nput_len {p:Pk} {m:List Nat} {k:Nat} (h:nputB p=(m,k)) (hf:fewP p=true):m.length≤2000:=by
 obtain ⟨⟨f1,f2⟩,f3,f4,f5,f6⟩:=fewP_of hf
 have key:(wrN p).1.length≤1200:=by
  unfold wrN
  split
  ·unfold putO
   split
   ·show (putB p.opts).length≤_
    rw [put_len];omega
   ·simp
  ·show p.data.length≤_
   omega
 unfold nputB at h
 split at h
 ·split at h
  ·split at h
   ·obtain ⟨h1,-⟩:=Prod.mk.inj h
    unfold kputA at h1
    split at h1
    ·rw [←h1,kput_len];omega
    ·rw [←h1];simp
   ·rw [←(Prod.mk.inj h).1];simp
  ·rw [←(Prod.mk.inj h).1];simp
 ·rw [←(Prod.mk.inj h).1];simp
theorem nrd_ok {t c i:Nat} {d:List Nat} (ht:t<65536) (hc:c<256) (hi:i<256) (hb:By d) {y:Pk} {k:Nat} (h:nrdB t c i d=(y,k)) :
  y.ok∧y.opts.length≤d.length∧datB y.opts≤d.length∧y.one=[]∧y.two=[]∧y.nums=[]∧y.data.length≤d.length∧(k=0→y.proto=t∧y.code=c∧y.id=i∧nothL (restN y)=true∧wrN y=(d,0)):=by
 have ok0:pk0.ok:=⟨by decide,by decide,by decide,(fun _ h=>by cases h),by decide,by decide,By.nil,By.nil,By.nil,(fun _ h=>by cases h)⟩
 have z0:∀ k':Nat,k'≠0→pk0.ok∧pk0.opts.length≤d.length∧datB pk0.opts≤d.length∧pk0.one=[]∧pk0.two=[]∧pk0.nums=[]∧pk0.data.length≤d.length∧(k'=0→pk0.proto=t∧pk0.code=c∧pk0.id=i∧nothL (restN pk0)=true∧wrN pk0=(d,0)):=fun k' hk' =>
  ⟨ok0,Nat.zero_le _,Nat.zero_le _,rfl,rfl,rfl,Nat.zero_le _,fun e=>absurd e hk'⟩
 unfold nrdB at h
 by_cases hk:1≤c∧c≤4
 ·rw [if_pos hk] at h
  by_cases h0:(getO t d).2=0
  ·rw [if_pos h0] at h
   obtain ⟨rfl,rfl⟩:=Prod.mk.inj h
   obtain ⟨l,hl⟩:∃ l,getO t d=(l,0):=⟨(getO t d).1,by rw [←h0]⟩
   rw [hl]
   have hg:(getB d).2=0∧okL (tabB t) (getB d).1=true∧l=(getB d).1:=by
    unfold getO at hl
    split at hl
    ·rename_i g1
     split at hl
     ·rename_i g2
      exact ⟨g1,g2,(Prod.mk.inj hl).1.symm⟩
     ·exact absurd (Prod.mk.inj hl).2 (by decide)
    ·rename_i g1
     exact absurd (Prod.mk.inj hl).2 g1
   obtain ⟨g1,g2,rfl⟩:=hg
   obtain ⟨p1,p2,p3⟩:=put_get d hb g1
   have hlen:=get_len d hb
   refine ⟨⟨ht,hc,hi,p3,show (0:Nat)<65536 by decide,show (0:Nat)<4294967296 by decide,By.nil,By.nil,By.nil,(fun _ h=>by cases h)⟩,by show (getB d).1.length≤_;omega,by show datB (getB d).1≤_;omega,rfl,rfl,rfl,Nat.zero_le _,fun _=>⟨rfl,rfl,rfl,?_,?_⟩⟩
   ·simp only [restN,hk,and_self,if_true];rfl
   ·simp only [wrN,hk,and_self,if_true,putO,g2,p1]
  ·rw [if_neg h0] at h
   obtain ⟨rfl,rfl⟩:=Prod.mk.inj h
   exact z0 _ h0
 ·rw [if_neg hk] at h
  obtain ⟨rfl,rfl⟩:=Prod.mk.inj h
  refine ⟨⟨ht,hc,hi,(fun _ h=>by cases h),show (0:Nat)<65536 by decide,show (0:Nat)<4294967296 by decide,By.nil,By.nil,hb,(fun _ h=>by cases h)⟩,Nat.zero_le _,Nat.zero_le _,rfl,rfl,rfl,Nat.le_refl _,fun _=>⟨rfl,rfl,rfl,?_,?_⟩⟩
  ·simp only [restN,hk,if_false];rfl
  ·simp only [wrN,hk,if_false]
theorem nget_ok {t:Nat} (ht:t<65536) {b:List Nat} (hb:By b) {y:Pk} {k:Nat} (h:ngetB t b=(y,k)) (hl:b.length≤1073741824):y.ok∧y.sm:=by
 have ok0:pk0.ok∧pk0.sm:=⟨⟨by decide,by decide,by decide,(fun _ h=>by cases h),by decide,by decide,By.nil,By.nil,By.nil,(fun _ h=>by cases h)⟩,by decide,by decide,by decide,by decide,by decide,by decide⟩
 by_cases h1:t=32801∨t=32855
 case neg =>
  rw [nget_kind h1] at h
  obtain ⟨rfl,rfl⟩:=Prod.mk.inj h
  exact ok0
 obtain ⟨x,c,d,e,hg⟩:∃ x c d e,kgetB b=(x,c,d,e):=⟨_,_,_,_,rfl⟩
 by_cases he:e=0
 ·subst he
  rw [nget_of h1 hg] at h
  obtain ⟨g1,g2,-,-,-⟩:=kput_get hb hg
  obtain ⟨g3,g4⟩:=kget_bytes hb hg
  obtain ⟨a1,a2,a3,a4,a5,a6,a7,-⟩:=nrd_ok ht g1 g2 g3 h
  exact ⟨a1,by omega,by omega,by rw [a4];simp,by rw [a5];simp,by omega,by rw [a6];simp⟩
 ·rw [nget_no h1 hg he] at h
  obtain ⟨rfl,rfl⟩:=Prod.mk.inj h
  exact ok0
theorem nput_get {t:Nat} (ht:t<65536) {b:List Nat} (hb:By b) {y:Pk} (h:ngetB t b=(y,0)):y.proto=t∧∃ m,nputB y=(m,0)∧m.length≤b.length∧m=b.take m.length:=by
 by_cases h1:t=32801∨t=32855
 case neg =>
  rw [nget_kind h1] at h
  exact absurd (Prod.mk.inj h).2 (by decide)
 obtain ⟨x,c,d,e,hg⟩:∃ x c d e,kgetB b=(x,c,d,e):=⟨_,_,_,_,rfl⟩
 by_cases he:e=0
 ·subst he
  rw [nget_of h1 hg] at h
  obtain ⟨g1,g2,g5,g6,g7⟩:=kput_get hb hg
  obtain ⟨g3,g4⟩:=kget_bytes hb hg
  obtain ⟨-,-,-,-,-,-,-,a8⟩:=nrd_ok ht g1 g2 g3 h
  obtain ⟨e1,e2,e3,e4,e5⟩:=a8 rfl
  have hlen:(kputB x c d).length=b.length - kpadB b:=by rw [g7,List.length_take];omega
  refine ⟨e1,kputB x c d,?_,by omega,by rw [hlen];exact g7⟩
  unfold nputB
  rw [e1,if_pos h1,if_pos e4,e5]
  simp only [if_true]
  rw [e2,e3,kputA_ok _ _ g5,kerrP_ok g5]
 ·rw [nget_no h1 hg he] at h
  exact absurd (Prod.mk.inj h).2 he
theorem nothN_iff (p:Pk):nothL (restN p)=true ↔ ((1≤p.code∧p.code≤4)→p.data.length=0)∧(¬ (1≤p.code∧p.code≤4)→p.opts.length=0)∧p.sub=0∧p.magic=0∧p.one.length=0∧p.two.length=0∧p.nums.length=0:=by
 unfold restN nothL
 by_cases hk:1≤p.code∧p.code≤4
 ·rw [if_pos hk]
  simp [hk]
  constructor <;> (intro h';simp_all)
 ·rw [if_neg hk]
  simp [hk]
  constructor <;> (intro h';simp_all)
end
section
def txtB (c:Nat):Nat:=if c=1 then 2 else if c=2∨c=3 then 1 else 0
theorem txtB_cases (c:Nat):(c=1∧txtB c=2)∨((c=2∨c=3)∧txtB c=1)∨(¬ (1≤c∧c≤3)∧txtB c=0):=by
 unfold txtB
 split
 ·exact .inl ⟨by assumption,rfl⟩
 ·split
  ·exact .inr (.inl ⟨by assumption,rfl⟩)
  ·exact .inr (.inr ⟨by omega,rfl⟩)
def lenT (l:List Nat):List Nat:=l.length :: l
def restA (p:Pk):Pk:=if txtB p.code=2 then { p with one:=[],two:=[] } else if txtB p.code=1 then { p with one:=[] } else { p with data:=[] }
def wrA (p:Pk):List Nat × Nat :=
 if txtB p.code=2 then (if p.one.length≤255∧p.two.length≤255 then (lenT p.one ++ lenT p.two,0) else ([],3))
 else if txtB p.code=1 then (if p.one.length≤255 then (lenT p.one,0) else ([],3)) else (p.data,0)
def aputB (p:Pk):List Nat × Nat :=
 if p.proto=49187 then (if nothL (restA p)=true then (if (wrA p).2=0 then (kputA p.code p.id (wrA p).1,kerrP (wrA p).1) else ([],(wrA p).2)) else ([],9)) else ([],8)
def cutT (d:List Nat):List Nat × List Nat × Nat :=
 match d with
 | []=>([],[],2)
 | n :: t=>if t.length<n then ([],[],2) else (t.take n,t.drop n,0)
def ardB (c i : Nat) (d : List Nat) : Pk × Nat :=
  if txtB c = 2 then
    (if (cutT d).2.2 = 0 then
      (if (cutT (cutT d).2.1).2.2 = 0 then
        (if (cutT (cutT d).2.1).2.1 = [] then (⟨49187, c, i, [], 0, 0, (cutT d).1, (cutT (cutT d).2.1).1, [], []⟩, 0) else (pk0, 4))
       else (pk0, 2))
     else (pk0, 2))
  else if txtB c = 1 then
    (if (cutT d).2.2 = 0 then (if (cutT d).2.1 = [] then (⟨49187, c, i, [], 0, 0, (cutT d).1, [], [], []⟩, 0) else (pk0, 4)) else (pk0, 2))
  else (⟨49187, c, i, [], 0, 0, [], [], d, []⟩, 0)
def agetB (b:List Nat):Pk × Nat:=if (kgetB b).2.2.2=0 then ardB (kgetB b).1 (kgetB b).2.1 (kgetB b).2.2.1 else (pk0,(kgetB b).2.2.2)
theorem aget_of {b d:List Nat} {x y:Nat} (h:kgetB b=(x,y,d,0)):agetB b=ardB x y d:=by unfold agetB;rw [h];rfl
theorem aget_no {b d:List Nat} {x y e:Nat} (h:kgetB b=(x,y,d,e)) (he:e≠0):agetB b=(pk0,e):=by unfold agetB;rw [h];exact if_neg he
theorem cutT_nil:cutT []=([],[],2):=rfl
theorem cutT_short {n:Nat} {t:List Nat} (h:t.length<n):cutT (n :: t)=([],[],2):=if_pos h
theorem cutT_ok {n:Nat} {t:List Nat} (h:n≤t.length):cutT (n :: t)=(t.take n,t.drop n,0):=if_neg (by omega)
theorem cutT_at {d:List Nat} {x n:Nat} (hx:d[0]?=some x) (hn:d.length=n):cutT d=if n<x+1 then ([],[],2) else ((d.take (x+1)).drop 1,d.drop (x+1),0):=by
 match d,hx with
 | y :: t,hx =>
  have e:y=x:=by simpa using hx
  subst e
  have e2:n=t.length+1:=by rw [←hn];rfl
  by_cases h:t.length<y
  ·rw [cutT_short h,if_pos (by omega)]
  ·rw [cutT_ok (by omega),if_neg (by omega)]
   rfl
theorem cutT_said {d l r:List Nat} (h:cutT d=(l,r,0)):d=lenT l ++ r:=by
 match d with
 | []=>exact absurd (Prod.mk.inj (Prod.mk.inj h).2).2 (by decide)
 | n :: t =>
  rcases Nat.lt_or_ge t.length n with h1 | h1
  ·rw [cutT_short h1] at h
   exact absurd (Prod.mk.inj (Prod.mk.inj h).2).2 (by decide)
  ·rw [cutT_ok h1] at h
   obtain ⟨h2,h3⟩:=Prod.mk.inj h
   obtain ⟨h3,-⟩:=Prod.mk.inj h3
   have hl:l.length=n:=by rw [←h2,List.length_take];omega
   show _=l.length :: (l ++ r)
   rw [hl,← h2,← h3,List.take_append_drop]
theorem cutT_err (d:List Nat):(cutT d).2.2=0∨cutT d=([],[],2):=by
 match d with
 | []=>exact .inr rfl
 | n :: t =>
  rcases Nat.lt_or_ge t.length n with h1 | h1
  ·exact .inr (cutT_short h1)
  ·exact .inl (by rw [cutT_ok h1])
theorem cutT_get (d:List Nat):(∃ l r,cutT d=(l,r,0)∧d=lenT l ++ r)∨cutT d=([],[],2):=by
 rcases cutT_err d with h | h
 ·refine .inl ⟨(cutT d).1,(cutT d).2.1,?_⟩
  have e:cutT d=((cutT d).1,(cutT d).2.1,0):=by rw [←h]
  exact ⟨e,cutT_said e⟩
 ·exact .inr h
theorem lenT_len (l:List Nat):(lenT l).length=l.length+1:=rfl
theorem aput_kind {p:Pk} (h1:¬ p.proto=49187):aputB p=([],8):=by
 unfold aputB
 rw [if_neg h1]
theorem wrA_len (p:Pk):(wrA p).1.length≤p.one.length+p.two.length+p.data.length+2:=by
 unfold wrA
 split
 ·split
  ·show (lenT p.one ++ lenT p.two).length≤_
   rw [List.length_append,lenT_len,lenT_len];omega
  ·show 0≤_;omega
 ·split
  ·split
   ·show (lenT p.one).length≤_
    rw [lenT_len];omega
   ·show 0≤_;omega
  ·show p.data.length≤_
   omega
theorem aput_len {p:Pk} {m:List Nat} {k:Nat} (h:aputB p=(m,k)) (hf:fewP p=true):m.length≤2000:=by
 obtain ⟨⟨f1,f2⟩,f3,f4,f5,f6⟩:=fewP_of hf
 have key:=wrA_len p
 unfold aputB at h
 split at h
 ·split at h
  ·split at h
   ·obtain ⟨h1,-⟩:=Prod.mk.inj h
    unfold kputA at h1
    split at h1
    ·rw [←h1,kput_len];omega
    ·rw [←h1];simp
   ·rw [←(Prod.mk.inj h).1];simp
  ·rw [←(Prod.mk.inj h).1];simp
 ·rw [←(Prod.mk.inj h).1];simp
theorem aput_ok {p:Pk} {m:List Nat} (h:aputB p=(m,0)):p.proto=49187∧nothL (restA p)=true∧(wrA p).2=0∧(wrA p).1.length≤65531∧m=kputB p.code p.id (wrA p).1:=by
 unfold aputB at h
 split at h
 ·rename_i h1
  split at h
  ·rename_i h2
   split at h
   ·rename_i h3
    obtain ⟨h4,h5⟩:=Prod.mk.inj h
    unfold kerrP at h5
    split at h5
    ·rename_i h6
     rw [kputA_ok _ _ h6] at h4
     exact ⟨h1,h2,h3,h6,h4.symm⟩
    ·exact absurd h5 (by decide)
   ·rename_i h3
    exact absurd (Prod.mk.inj h).2 h3
  ·exact absurd (Prod.mk.inj h).2 (by decide)
 ·exact absurd (Prod.mk.inj h).2 (by decide)
theorem ard_ok {c i:Nat} {d:List Nat} (hc:c<256) (hi:i<256) (hb:By d) {y:Pk} {k:Nat} (h:ardB c i d=(y,k)) :
  y.ok∧y.opts=[]∧y.nums=[]∧y.one.length≤d.length∧y.two.length≤d.length∧y.data.length≤d.length∧(k=0→y.proto=49187∧y.code=c∧y.id=i∧nothL (restA y)=true∧wrA y=(d,0)):=by
 have ok0:pk0.ok:=⟨by decide,by decide,by decide,(fun _ h=>by cases h),by decide,by decide,By.nil,By.nil,By.nil,(fun _ h=>by cases h)⟩
 have z0:∀ k':Nat,k'≠0→pk0.ok∧pk0.opts=[]∧pk0.nums=[]∧pk0.one.length≤d.length∧pk0.two.length≤d.length∧pk0.data.length≤d.length∧(k'=0→pk0.proto=49187∧pk0.code=c∧pk0.id=i∧nothL (restA pk0)=true∧wrA pk0=(d,0)):=fun k' hk' =>
  ⟨ok0,rfl,rfl,Nat.zero_le _,Nat.zero_le _,Nat.zero_le _,fun e=>absurd e hk'⟩
 have part:∀ {l r:List Nat},By (lenT l ++ r)→By l∧By r∧l.length≤255:=fun {l r} hh =>
  ⟨fun x hx=>hh x (List.mem_append_left _ (List.mem_cons_of_mem _ hx)),fun x hx=>hh x (List.mem_append_right _ hx),by have:=hh l.length (List.mem_append_left _ (List.mem_cons_self ..));omega⟩
 unfold ardB at h
 rcases txtB_cases c with ⟨-,hk⟩ | ⟨-,hk⟩ | ⟨-,hk⟩
 ·rw [if_pos hk] at h
  rcases cutT_get d with ⟨l,r,e1,e2⟩ | e1
  ·rw [e1] at h
   dsimp only at h
   rw [if_pos rfl] at h
   subst e2
   obtain ⟨b1,b2,b3⟩:=part hb
   rcases cutT_get r with ⟨l2,r2,e3,e4⟩ | e3
   ·rw [e3] at h
    dsimp only at h
    rw [if_pos rfl] at h
    subst e4
    obtain ⟨b4,b5,b6⟩:=part b2
    by_cases hr:r2=[]
    ·rw [if_pos hr] at h
     obtain ⟨rfl,rfl⟩:=Prod.mk.inj h
     subst hr
     refine ⟨⟨show (49187:Nat)<65536 by decide,hc,hi,(fun _ h=>by cases h),show (0:Nat)<65536 by decide,show (0:Nat)<4294967296 by decide,b1,b4,By.nil,(fun _ h=>by cases h)⟩,rfl,rfl,?_,?_,Nat.zero_le _,fun _=>⟨rfl,rfl,rfl,?_,?_⟩⟩
     ·show l.length≤_
      rw [List.length_append,lenT_len];omega
     ·show l2.length≤_
      rw [List.length_append,List.length_append,lenT_len];rw [lenT_len];omega
     ·simp only [restA,hk,if_true];rfl
     ·simp only [wrA,hk,if_true,b3,b6,and_self,List.append_nil]
    ·rw [if_neg hr] at h
     obtain ⟨rfl,rfl⟩:=Prod.mk.inj h
     exact z0 _ (by decide)
   ·rw [e3] at h
    dsimp only at h
    rw [if_neg (by decide)] at h
    obtain ⟨rfl,rfl⟩:=Prod.mk.inj h
    exact z0 _ (by decide)
  ·rw [e1] at h
   dsimp only at h
   rw [if_neg (by decide)] at h
   obtain ⟨rfl,rfl⟩:=Prod.mk.inj h
   exact z0 _ (by decide)
 ·rw [if_neg (by omega),if_pos hk] at h
  rcases cutT_get d with ⟨l,r,e1,e2⟩ | e1
  ·rw [e1] at h
   dsimp only at h
   rw [if_pos rfl] at h
   subst e2
   obtain ⟨b1,b2,b3⟩:=part hb
   by_cases hr:r=[]
   ·rw [if_pos hr] at h
    obtain ⟨rfl,rfl⟩:=Prod.mk.inj h
    subst hr
    refine ⟨⟨show (49187:Nat)<65536 by decide,hc,hi,(fun _ h=>by cases h),show (0:Nat)<65536 by decide,show (0:Nat)<4294967296 by decide,b1,By.nil,By.nil,(fun _ h=>by cases h)⟩,rfl,rfl,?_,Nat.zero_le _,Nat.zero_le _,fun _=>⟨rfl,rfl,rfl,?_,?_⟩⟩
    ·show l.length≤_
     rw [List.length_append,lenT_len];omega
    ·simp only [restA,hk,if_true,show ¬ (1:Nat)=2 by decide,if_false];rfl
    ·simp only [wrA,hk,if_true,show ¬ (1:Nat)=2 by decide,if_false,b3,List.append_nil]
   ·rw [if_neg hr] at h
    obtain ⟨rfl,rfl⟩:=Prod.mk.inj h
    exact z0 _ (by decide)
  ·rw [e1] at h
   dsimp only at h
   rw [if_neg (by decide)] at h
   obtain ⟨rfl,rfl⟩:=Prod.mk.inj h
   exact z0 _ (by decide)
 ·rw [if_neg (by omega),if_neg (by omega)] at h
  obtain ⟨rfl,rfl⟩:=Prod.mk.inj h
  refine ⟨⟨show (49187:Nat)<65536 by decide,hc,hi,(fun _ h=>by cases h),show (0:Nat)<65536 by decide,show (0:Nat)<4294967296 by decide,By.nil,By.nil,hb,(fun _ h=>by cases h)⟩,rfl,rfl,Nat.zero_le _,Nat.zero_le _,Nat.le_refl _,fun _=>⟨rfl,rfl,rfl,?_,?_⟩⟩
  ·simp only [restA,hk,show ¬ (0:Nat)=2 by decide,show ¬ (0:Nat)=1 by decide,if_false];rfl
  ·simp only [wrA,hk,show ¬ (0:Nat)=2 by decide,show ¬ (0:Nat)=1 by decide,if_false]
theorem aget_ok {b:List Nat} (hb:By b) {y:Pk} {k:Nat} (h:agetB b=(y,k)) (hl:b.length≤1073741824):y.ok∧y.sm:=by
 obtain ⟨x,c,d,e,hg⟩:∃ x c d e,kgetB b=(x,c,d,e):=⟨_,_,_,_,rfl⟩
 by_cases he:e=0
 ·subst he
  rw [aget_of hg] at h
  obtain ⟨g1,g2,-,-,-⟩:=kput_get hb hg
  obtain ⟨g3,g4⟩:=kget_bytes hb hg
  obtain ⟨a1,a2,a3,a4,a5,a6,-⟩:=ard_ok g1 g2 g3 h
  exact ⟨a1,by rw [a2];simp,by rw [a2];decide,by omega,by omega,by omega,by rw [a3];simp⟩
 ·rw [aget_no hg he] at h
  obtain ⟨rfl,rfl⟩:=Prod.mk.inj h
  exact ⟨⟨by decide,by decide,by decide,(fun _ h=>by cases h),by decide,by decide,By.nil,By.nil,By.nil,(fun _ h=>by cases h)⟩,by decide,by decide,by decide,by decide,by decide,by decide⟩
theorem aput_get {b:List Nat} (hb:By b) {y:Pk} (h:agetB b=(y,0)):∃ m,aputB y=(m,0)∧m.length≤b.length∧m=b.take m.length:=by
 obtain ⟨x,c,d,e,hg⟩:∃ x c d e,kgetB b=(x,c,d,e):=⟨_,_,_,_,rfl⟩
 by_cases he:e=0
 ·subst he
  rw [aget_of hg] at h
  obtain ⟨g1,g2,g5,g6,g7⟩:=kput_get hb hg
  obtain ⟨g3,g4⟩:=kget_bytes hb hg
  obtain ⟨-,-,-,-,-,-,a8⟩:=ard_ok g1 g2 g3 h
  obtain ⟨e1,e2,e3,e4,e5⟩:=a8 rfl
  have hlen:(kputB x c d).length=b.length - kpadB b:=by rw [g7,List.length_take];omega
  refine ⟨kputB x c d,?_,by omega,by rw [hlen];exact g7⟩
  unfold aputB
  rw [if_pos e1,if_pos e4,e5]
  simp only [if_true]
  rw [e2,e3,kputA_ok _ _ g5,kerrP_ok g5]
 ·rw [aget_no hg he] at h
  exact absurd (Prod.mk.inj h).2 he
theorem nothA_iff (p:Pk):nothL (restA p)=true ↔ ((1≤p.code∧p.code≤3)→p.data.length=0)∧(¬ p.code=1→p.two.length=0)∧(¬ (1≤p.code∧p.code≤3)→p.one.length=0)∧p.sub=0∧p.magic=0∧p.opts.length=0∧p.nums.length=0:=by
 unfold restA nothL
 rcases txtB_cases p.code with ⟨h1,hk⟩ | ⟨h1,hk⟩ | ⟨h1,hk⟩
 ·rw [if_pos hk]
  simp [h1]
  constructor <;> (intro h';simp_all)
 ·rw [if_neg (by omega),if_pos hk]
  have h2:1≤p.code∧p.code≤3:=by omega
  have h3:¬ p.code=1:=by omega
  simp [h3,h2]
  constructor <;> (intro h';simp_all)
 ·rw [if_neg (by omega),if_neg (by omega)]
  have h3:¬ p.code=1:=by omega
  simp only [h1,h3]
  simp
  constructor <;> (intro h';simp_all)
end
section
def isvB (c:Nat):Bool:=decide (c=1∨c=2)
theorem isvB_yes {c:Nat} (h:isvB c=true):c=1∨c=2:=of_decide_eq_true h
theorem isvB_no {c:Nat} (h:isvB c=false):¬ (c=1∨c=2):=of_decide_eq_false h
def restH (p:Pk):Pk:=if isvB p.code=true then { p with one:=[],two:=[] } else { p with data:=[] }
def wrH (p:Pk):List Nat × Nat :=
 if isvB p.code=true then (if p.one=[] then ([],4) else if p.one.length≤255 then (lenT p.one ++ p.two,0) else ([],3)) else (p.data,0)
def chputB (p:Pk):List Nat × Nat :=
 if p.proto=49699 then (if nothL (restH p)=true then (if (wrH p).2=0 then (kputA p.code p.id (wrH p).1,kerrP (wrH p).1) else ([],(wrH p).2)) else ([],9)) else ([],8)
def cutH (d:List Nat):List Nat × List Nat × Nat:=if d[0]?=some 0 then ([],[],4) else cutT d
def chrdB (c i:Nat) (d:List Nat):Pk × Nat :=
 if isvB c=true then
  (if (cutH d).2.2=0 then (⟨49699,c,i,[],0,0,(cutH d).1,(cutH d).2.1,[],[]⟩,0) else (pk0,(cutH d).2.2))
 else (⟨49699,c,i,[],0,0,[],[],d,[]⟩,0)
def chgetB (b:List Nat):Pk × Nat:=if (kgetB b).2.2.2=0 then chrdB (kgetB b).1 (kgetB b).2.1 (kgetB b).2.2.1 else (pk0,(kgetB b).2.2.2)
theorem chget_of {b d:List Nat} {x y:Nat} (h:kgetB b=(x,y,d,0)):chgetB b=chrdB x y d:=by unfold chgetB;rw [h];rfl
theorem chget_no {b d:List Nat} {x y e:Nat} (h:kgetB b=(x,y,d,e)) (he:e≠0):chgetB b=(pk0,e):=by unfold chgetB;rw [h];exact if_neg he
theorem cutH_zero {d:List Nat} (h:d[0]?=some 0):cutH d=([],[],4):=if_pos h
theorem cutH_some {d:List Nat} (h:¬ d[0]?=some 0):cutH d=cutT d:=if_neg h
theorem cutH_get (d:List Nat):(∃ l r,cutH d=(l,r,0)∧cutT d=(l,r,0)∧d=lenT l ++ r∧l≠[])∨(cutH d=([],[],2)∧cutT d=([],[],2)∧¬ d[0]?=some 0)∨(cutH d=([],[],4)∧d[0]?=some 0):=by
 by_cases h:d[0]?=some 0
 ·exact .inr (.inr ⟨cutH_zero h,h⟩)
 ·rw [cutH_some h]
  rcases cutT_get d with ⟨l,r,e1,e2⟩ | e1
  ·refine .inl ⟨l,r,e1,e1,e2,fun e=>h ?_⟩
   rw [e2,e]
   rfl
  ·exact .inr (.inl ⟨e1,e1,h⟩)
theorem chput_kind {p:Pk} (h1:¬ p.proto=49699):chputB p=([],8):=by
 unfold chputB
 rw [if_neg h1]
theorem wrH_len (p:Pk):(wrH p).1.length≤p.one.length+p.two.length+p.data.length+2:=by
 unfold wrH
 split
 ·split
  ·show 0≤_;omega
  ·split
   ·show (lenT p.one ++ p.two).length≤_
    rw [List.length_append,lenT_len];omega
   ·show 0≤_;omega
 ·show p.data.length≤_
  omega
theorem chput_len {p:Pk} {m:List Nat} {k:Nat} (h:chputB p=(m,k)) (hf:fewP p=true):m.length≤2000:=by
 obtain ⟨⟨f1,f2⟩,f3,f4,f5,f6⟩:=fewP_of hf
 have key:=wrH_len p
 unfold chputB at h
 split at h
 ·split at h
  ·split at h
   ·obtain ⟨h1,-⟩:=Prod.mk.inj h
    unfold kputA at h1
    split at h1
    ·rw [←h1,kput_len];omega
    ·rw [←h1];simp
   ·rw [←(Prod.mk.inj h).1];simp
  ·rw [←(Prod.mk.inj h).1];simp
 ·rw [←(Prod.mk.inj h).1];simp
theorem chput_ok {p:Pk} {m:List Nat} (h:chputB p=(m,0)):p.proto=49699∧nothL (restH p)=true∧(wrH p).2=0∧(wrH p).1.length≤65531∧m=kputB p.code p.id (wrH p).1:=by
 unfold chputB at h
 split at h
 ·rename_i h1
  split at h
  ·rename_i h2
   split at h
   ·rename_i h3
    obtain ⟨h4,h5⟩:=Prod.mk.inj h
    unfold kerrP at h5
    split at h5
    ·rename_i h6
     rw [kputA_ok _ _ h6] at h4
     exact ⟨h1,h2,h3,h6,h4.symm⟩
    ·exact absurd h5 (by decide)
   ·rename_i h3
    exact absurd (Prod.mk.inj h).2 h3
  ·exact absurd (Prod.mk.inj h).2 (by decide)
 ·exact absurd (Prod.mk.inj h).2 (by decide)
theorem chrd_ok {c i:Nat} {d:List Nat} (hc:c<256) (hi:i<256) (hb:By d) {y:Pk} {k:Nat} (h:chrdB c i d=(y,k)) :
  y.ok∧y.opts=[]∧y.nums=[]∧y.one.length≤d.length∧y.two.length≤d.length∧y.data.length≤d.length∧(k=0→y.proto=49699∧y.code=c∧y.id=i∧nothL (restH y)=true∧wrH y=(d,0)):=by
 have ok0:pk0.ok:=⟨by decide,by decide,by decide,(fun _ h=>by cases h),by decide,by decide,By.nil,By.nil,By.nil,(fun _ h=>by cases h)⟩
 have z0:∀ k':Nat,k'≠0→pk0.ok∧pk0.opts=[]∧pk0.nums=[]∧pk0.one.length≤d.length∧pk0.two.length≤d.length∧pk0.data.length≤d.length∧(k'=0→pk0.proto=49699∧pk0.code=c∧pk0.id=i∧nothL (restH pk0)=true∧wrH pk0=(d,0)):=fun k' hk' =>
  ⟨ok0,rfl,rfl,Nat.zero_le _,Nat.zero_le _,Nat.zero_le _,fun e=>absurd e hk'⟩
 have part:∀ {l r:List Nat},By (lenT l ++ r)→By l∧By r∧l.length≤255:=fun {l r} hh =>
  ⟨fun x hx=>hh x (List.mem_append_left _ (List.mem_cons_of_mem _ hx)),fun x hx=>hh x (List.mem_append_right _ hx),by have:=hh l.length (List.mem_append_left _ (List.mem_cons_self ..));omega⟩
 unfold chrdB at h
 cases hk:isvB c
 ·rw [hk,if_neg (by decide)] at h
  obtain ⟨rfl,rfl⟩:=Prod.mk.inj h
  refine ⟨⟨show (49699:Nat)<65536 by decide,hc,hi,(fun _ h=>by cases h),show (0:Nat)<65536 by decide,show (0:Nat)<4294967296 by decide,By.nil,By.nil,hb,(fun _ h=>by cases h)⟩,rfl,rfl,Nat.zero_le _,Nat.zero_le _,Nat.le_refl _,fun _=>⟨rfl,rfl,rfl,?_,?_⟩⟩
  ·simp only [restH,hk,Bool.false_eq_true,if_false];rfl
  ·simp only [wrH,hk,Bool.false_eq_true,if_false]
 ·rw [if_pos hk] at h
  rcases cutH_get d with ⟨l,r,e1,-,e2,e3⟩ | ⟨e1,-,-⟩ | ⟨e1,-⟩
  ·rw [e1] at h
   dsimp only at h
   rw [if_pos rfl] at h
   subst e2
   obtain ⟨b1,b2,b3⟩:=part hb
   obtain ⟨rfl,rfl⟩:=Prod.mk.inj h
   refine ⟨⟨show (49699:Nat)<65536 by decide,hc,hi,(fun _ h=>by cases h),show (0:Nat)<65536 by decide,show (0:Nat)<4294967296 by decide,b1,b2,By.nil,(fun _ h=>by cases h)⟩,rfl,rfl,?_,?_,Nat.zero_le _,fun _=>⟨rfl,rfl,rfl,?_,?_⟩⟩
   ·show l.length≤_
    rw [List.length_append,lenT_len];omega
   ·show r.length≤_
    rw [List.length_append];omega
   ·simp only [restH,hk,if_true];rfl
   ·simp only [wrH,hk,if_true,if_neg e3,b3]
  ·rw [e1] at h
   dsimp only at h
   rw [if_neg (by decide)] at h
   obtain ⟨rfl,rfl⟩:=Prod.mk.inj h
   exact z0 _ (by decide)
  ·rw [e1] at h
   dsimp only at h
   rw [if_neg (by decide)] at h
   obtain ⟨rfl,rfl⟩:=Prod.mk.inj h
   exact z0 _ (by decide)
theorem chget_ok {b:List Nat} (hb:By b) {y:Pk} {k:Nat} (h:chgetB b=(y,k)) (hl:b.length≤1073741824):y.ok∧y.sm:=by
 obtain ⟨x,c,d,e,hg⟩:∃ x c d e,kgetB b=(x,c,d,e):=⟨_,_,_,_,rfl⟩
 by_cases he:e=0
 ·subst he
  rw [chget_of hg] at h
  obtain ⟨g1,g2,-,-,-⟩:=kput_get hb hg
  obtain ⟨g3,g4⟩:=kget_bytes hb hg
  obtain ⟨a1,a2,a3,a4,a5,a6,-⟩:=chrd_ok g1 g2 g3 h
  exact ⟨a1,by rw [a2];simp,by rw [a2];decide,by omega,by omega,by omega,by rw [a3];simp⟩
 ·rw [chget_no hg he] at h
  obtain ⟨rfl,rfl⟩:=Prod.mk.inj h
  exact ⟨⟨by decide,by decide,by decide,(fun _ h=>by cases h),by decide,by decide,By.nil,By.nil,By.nil,(fun _ h=>by cases h)⟩,by decide,by decide,by decide,by decide,by decide,by decide⟩
theorem chput_get {b:List Nat} (hb:By b) {y:Pk} (h:chgetB b=(y,0)):∃ m,chputB y=(m,0)∧m.length≤b.length∧m=b.take m.length:=by
 obtain ⟨x,c,d,e,hg⟩:∃ x c d e,kgetB b=(x,c,d,e):=⟨_,_,_,_,rfl⟩
 by_cases he:e=0
 ·subst he
  rw [chget_of hg] at h
  obtain ⟨g1,g2,g5,g6,g7⟩:=kput_get hb hg
  obtain ⟨g3,g4⟩:=kget_bytes hb hg
  obtain ⟨-,-,-,-,-,-,a8⟩:=chrd_ok g1 g2 g3 h
  obtain ⟨e1,e2,e3,e4,e5⟩:=a8 rfl
  have hlen:(kputB x c d).length=b.length - kpadB b:=by rw [g7,List.length_take];omega
  refine ⟨kputB x c d,?_,by omega,by rw [hlen];exact g7⟩
  unfold chputB
  rw [if_pos e1,if_pos e4,e5]
  simp only [if_true]
  rw [e2,e3,kputA_ok _ _ g5,kerrP_ok g5]
 ·rw [chget_no hg he] at h
  exact absurd (Prod.mk.inj h).2 he
theorem nothH_iff (p:Pk):nothL (restH p)=true ↔ (isvB p.code=true→p.data.length=0)∧(¬ isvB p.code=true→p.one.length=0∧p.two.length=0)∧p.sub=0∧p.magic=0∧p.opts.length=0∧p.nums.length=0:=by
 unfold restH nothL
 cases hk:isvB p.code
 ·rw [if_neg (by decide)]
  simp
  constructor <;> (intro h';simp_all)
 ·rw [if_pos rfl]
  simp
  constructor <;> (intro h';simp_all)
end
section
open Go.RowKit
def octN (l:List Nat):List Nat:=(l.map fun n=>numB n 4).flatten
def N32 (l:List Nat):Prop:=∀ x ∈ l,x<4294967296
def rdN (b:List Nat) (k:Nat):List Nat:=(List.range k).map fun i=>valN ((b.drop (4*i)).take 4)
def acN (b:List Nat) (k j:Nat):Nat:=valN ((b.drop (4*j)).take (min 4 (k - 4*j)))
def acL (b:List Nat) (k:Nat):List Nat:=(List.range 12).map (acN b k)
def bareP (p:Pk):Bool:=decide (p.code=0) && decide (p.id=0) && decide (p.sub=0) && decide (p.magic=0) && decide (p.opts.length=0) && decide (p.one.length=0) && decide (p.two.length=0) && decide (p.data.length=0)
def lqputB (p:Pk):List Nat × Nat:=if p.proto=49189 then if bareP p=true then if p.nums.length=12 then (octN p.nums,0) else ([],5) else ([],9) else ([],8)
def repP (l:List Nat):Pk:=⟨49189,0,0,[],0,0,[],[],[],l⟩
def lqgetB (b:List Nat):Pk × Nat:=if b.length<48 then (pk0,2) else (repP (rdN b 12),0)
theorem octN_len (l:List Nat):(octN l).length=4*l.length:=by
 induction l with
 | nil=>rfl
 | cons x l ih =>
  unfold octN at ih ⊢
  rw [List.map_cons,List.flatten_cons,List.length_append,num_len,ih,List.length_cons]
  omega
theorem octN_snoc (l:List Nat) (x:Nat):octN (l ++ [x])=octN l ++ numB x 4:=by
 unfold octN
 rw [List.map_append,List.flatten_append]
 simp
theorem octN_take {l:List Nat} {k x:Nat} (hx:l[k]?=some x):octN (l.take (k+1))=octN (l.take k) ++ numB x 4:=by
 rw [List.take_add_one,hx,Option.toList_some,octN_snoc]
theorem num4 (n:Nat):numB n 4=[n / 16777216 % 256,n / 65536 % 256,n / 256 % 256,n % 256]:=by
 simp [numB]
theorem rdN_len (b:List Nat) (k:Nat):(rdN b k).length=k:=by simp [rdN]
theorem rdN_succ (b:List Nat) (k:Nat):rdN b (k+1)=rdN b k ++ [valN ((b.drop (4*k)).take 4)]:=by simp [rdN,List.range_succ]
theorem val4_lt {l:List Nat} (h:By l) (k:Nat) (hk:k≤4):valN (l.take k)<4294967296:=by
 have h1:=valN_lt (h.take k)
 have h2:(256:Nat) ^ (l.take k).length≤256 ^ 4:=Nat.pow_le_pow_right (by omega) (by rw [List.length_take];omega)
 have h3:(256:Nat) ^ 4=4294967296:=by decide
 omega
theorem val3_lt {l:List Nat} (h:By l) (k:Nat) (hk:k≤3):valN (l.take k)<16777216:=by
 have h1:=valN_lt (h.take k)
 have h2:(256:Nat) ^ (l.take k).length≤256 ^ 3:=Nat.pow_le_pow_right (by omega) (by rw [List.length_take];omega)
 have h3:(256:Nat) ^ 3=16777216:=by decide
 omega
theorem rdN_lt {b:List Nat} (h:By b) (k:Nat):N32 (rdN b k):=by
 intro x hx
 obtain ⟨i,_,rfl⟩:=List.mem_map.1 hx
 exact val4_lt (h.drop _) 4 (Nat.le_refl _)
theorem num_back4 {l:List Nat} (h:By l) (hl:l.length=4):numB (valN l) 4=l:=by
 match l,hl with
 | [a,b,c,d],_ =>
  have ha:=h a (by simp)
  have hb:=h b (by simp)
  have hc:=h c (by simp)
  have hd:=h d (by simp)
  rw [num4]
  simp only [valN,List.foldl_cons,List.foldl_nil]
  refine congr (congrArg List.cons ?_) (congr (congrArg List.cons ?_) (congr (congrArg List.cons ?_) (congrArg (fun x=>[x]) ?_))) <;> omega
theorem oct_rdN {b:List Nat} (h:By b):∀ k,4*k≤b.length→octN (rdN b k)=b.take (4*k)
 | 0,_=>rfl
 | k+1,hk=>by
  rw [rdN_succ,octN_snoc,oct_rdN h k (by omega),num_back4 ((h.drop _).take _) (by rw [List.length_take,List.length_drop];omega),show 4*(k+1)=4*k+4 by omega,List.take_add]
theorem acL_len (b:List Nat) (k:Nat):(acL b k).length=12:=by simp [acL]
theorem acL_zero (b:List Nat):acL b 0=List.replicate 12 0:=by
 unfold acL acN
 simp [valN]
 rfl
theorem acL_at (b:List Nat) (k j:Nat) (hj:j<12):(acL b k)[j]?=some (acN b k j):=by
 unfold acL
 rw [List.getElem?_map,List.getElem?_range hj]
 rfl
theorem acL_end (b:List Nat):acL b 48=rdN b 12:=by
 unfold acL rdN
 refine List.map_congr_left fun j hj=>?_
 have:j<12:=List.mem_range.1 hj
 unfold acN
 rw [show min 4 (48 - 4*j)=4 by omega]
theorem acN_step {b:List Nat} {k x:Nat} (hx:b[k]?=some x):acN b (k+1) (k / 4)=acN b k (k / 4)*256+x:=by
 unfold acN
 have e1:min 4 (k - 4*(k / 4))=k - 4*(k / 4):=by omega
 have e2:min 4 (k+1 - 4*(k / 4))=k - 4*(k / 4)+1:=by omega
 rw [e1,e2]
 refine valN_snoc ?_
 rw [List.getElem?_drop,show 4*(k / 4)+(k - 4*(k / 4))=k by omega]
 exact hx
theorem acN_lt {b:List Nat} (h:By b) (k:Nat):acN b k (k / 4)<16777216:=by
 unfold acN
 exact val3_lt (h.drop _) _ (by omega)
theorem acL_step {b:List Nat} {k x:Nat} (hx:b[k]?=some x) (hk:k<48):(acL b k).set (k / 4) (acN b k (k / 4)*256+x)=acL b (k+1):=by
 refine List.ext_getElem? fun j=>?_
 rw [List.getElem?_set,acL_len]
 by_cases hj:k / 4=j
 ·subst hj
  rw [if_pos rfl,if_pos (by omega),acL_at _ _ _ (by omega),acN_step hx]
 ·rw [if_neg hj]
  by_cases h12:j<12
  ·rw [acL_at _ _ _ h12,acL_at _ _ _ h12]
   congr 1
   unfold acN
   rw [show min 4 (k - 4*j)=min 4 (k+1 - 4*j) by omega]
  ·rw [List.getElem?_eq_none (by rw [acL_len];omega),List.getElem?_eq_none (by rw [acL_len];omega)]
theorem lqput_rep {l:List Nat} (h:l.length=12):lqputB (repP l)=(octN l,0):=by
 unfold lqputB
 rw [if_pos (show (repP l).proto=49189 from rfl),if_pos (show bareP (repP l)=true from rfl),if_pos (show (repP l).nums.length=12 from h)]
 rfl
theorem lqget_put {b:List Nat} (h:By b) (hb:48≤b.length):lqgetB b=(repP (rdN b 12),0)∧lqputB (repP (rdN b 12))=(b.take 48,0):=by
 refine ⟨by unfold lqgetB;rw [if_neg (by omega)],?_⟩
 rw [lqput_rep (rdN_len b 12),oct_rdN h 12 (by omega)]
end
section
open Go.RowKit
def rightB (p:Nat):Bool:=decide (p % 2=1) && (decide (p / 256 % 2=0) && decide (p≠255))
theorem New.lit (w:World) (l:List Nat) (n:Nat) (hn:l.length=n) (hl:n≤1099511627776):New w (w.alloc (.cells (bvs l).toArray 5)) (some ⟨w.heap.size,0,none⟩) n n l:=by
 refine ⟨hn,⟨by rw [bvs_len];omega,.inr ⟨w.heap.size,n,_,rfl,Nat.le_refl _,heap_alloc_new w _,Nat.le_refl _,by unfold maxLen;omega,by simp [bvs_len,hn],?_⟩⟩,Rd.lit_ w l,(Below.refl _ _).alloc (Nat.le_refl _) _⟩
 rw [show n*1=(bvs l).length by rw [bvs_len];omega]
 exact List.take_length
theorem odd_any (x:Nat) (hx:x<256) (w:World) :
  Calls Tryz.prog 86 #[.int .u8 (x:Int)] w fun e w'=>e=.returned (.bool (decide (x % 2=1)))∧w=w':=by
 go_enter Tryz.func86,Tryz.ntmps86
 go_wp2
 go_ret
 refine ⟨?_,rfl⟩
 have e:(bits .and .u8 (x:Int) 1 != 0)=decide (x % 2=1):=by
  have h:=u8_and_nat x 1 hx (by omega)
  rw [nat_mask1] at h
  rw [show (1:Int)=((1:Nat):Int) from rfl,h,Bool.eq_iff_iff]
  simp
  omega
 show Ending.returned (.bool (bits .and .u8 (x:Int) 1 != 0))=_
 rw [e]
theorem odd_v (x:Nat) (b:Bool) (hx:x<256) (hb:decide (x % 2=1)=b) (y:Int) (hy:y=(x:Int)) (w:World) :
  Calls Tryz.prog 86 #[.int .u8 y] w fun e w'=>e=.returned (.bool b)∧w=w':=hy ▸ hb ▸ odd_any x hx w
theorem byte_high (p:Nat):((p:Int) / 256)=((p / 256:Nat):Int):=by simp
theorem byte_low (p:Nat):((p:Int) % 256)=((p % 256:Nat):Int):=by simp
theorem right_any (p:Nat) (hp:p<65536) (w:World) :
  Calls Tryz.prog 80 #[.int .u16 (p:Int)] w fun e w'=>e=.returned (.bool (rightB p))∧w=w':=by
 obtain ⟨q1,h1⟩:∃ q,Hid (decide (p % 256 % 2=1)=q):=⟨_,hI rfl⟩
 obtain ⟨q2,h2⟩:∃ q,Hid (decide (p / 256 % 2=1)=q):=⟨_,hI rfl⟩
 obtain ⟨q3,h3⟩:∃ q,Hid (decide (p=255)=q):=⟨_,hI rfl⟩
 have e3:((p:Int) != 255)=!q3:=by rw [←h3.out,Bool.eq_iff_iff];simp;omega
 have E:Hid (rightB p=(q1 && (!q2 && !q3))):=hI (by
  rw [←h1.out,← h2.out,← h3.out,rightB]
  have:p % 256 % 2=p % 2:=by omega
  rw [this,Bool.eq_iff_iff]
  simp)
 rw [E.out]
 go_enter Tryz.func80,Tryz.ntmps80
 go_wp2_with (go_at_call 86;first | (with_reducible refine (odd_v (p % 256) q1 (by omega) h1.out _ (byte_low p) _).mono ?_;rintro e w' ⟨rfl,rfl⟩) | (with_reducible refine (odd_v (p / 256) q2 (by omega) h2.out _ (byte_high p) _).mono ?_;rintro e w' ⟨rfl,rfl⟩))
 all_goals
  go_ret
  refine ⟨?_,rfl⟩
  show Ending.returned (.bool _)=_
  congr 2
  simp_all
theorem right_v (p:Nat) (q:Bool) (hp:p<65536) (hq:rightB p=q) (w:World) :
  Calls Tryz.prog 80 #[.int .u16 (p:Int)] w fun e w'=>e=.returned (.bool q)∧w=w':=hq ▸ right_any p hp w
theorem rright_any (p:Nat) (hp:p<65536) (w:World) :
  Calls Tryz.prog 47 #[.int .i64 (p:Int)] w fun e w'=>e=.returned (.bool (rightB p))∧w=w':=by
 go_enter Tryz.func47,Tryz.ntmps47
 go_wp2
 all_goals
  go_ret
  refine ⟨?_,rfl⟩
  show Ending.returned (.bool _)=_
  congr 2
  rw [Bool.eq_iff_iff]
  simp [rightB]
  omega
theorem rright_v (p:Nat) (q:Bool) (hp:p<65536) (hq:rightB p=q) (w:World) :
  Calls Tryz.prog 47 #[.int .i64 (p:Int)] w fun e w'=>e=.returned (.bool q)∧w=w':=hq ▸ rright_any p hp w
theorem Rd.head {w:World} {B:Nat} {A:Option Addr} {x:Nat} {t:List Nat} (h:Rd w B A (x :: t)):∃ b off,A=some ⟨b,off,none⟩∧w.cell? ⟨b,off,none⟩=some (.int .u8 (x:Int)):=by
 obtain ⟨b,off,e,_,hc⟩:=h (by simp)
 exact ⟨b,off,e,hc 0 x rfl⟩
theorem Rd.two {w:World} {B:Nat} {A:Option Addr} {x y:Nat} {t:List Nat} (h:Rd w B A (x :: y :: t)):∃ b off,A=some ⟨b,off,none⟩∧w.cell? ⟨b,off,none⟩=some (.int .u8 (x:Int))∧w.cell? ⟨b,off+1,none⟩=some (.int .u8 (y:Int)):=by
 obtain ⟨b,off,e,_,hc⟩:=h (by simp)
 exact ⟨b,off,e,hc 0 x rfl,hc 1 y rfl⟩
end
section
open Go.RowKit
def bareD (p:Pk):Bool:=decide (p.code=0) && decide (p.id=0) && decide (p.sub=0) && decide (p.magic=0) && decide (p.opts.length=0) && decide (p.one.length=0) && decide (p.two.length=0) && decide (p.nums.length=0)
def datP (t:Nat) (b:List Nat):Pk:=⟨t,0,0,[],0,0,[],[],b,[]⟩
def bputB (p:Pk):List Nat × Nat :=
 if rightB p.proto=true then
  if p.proto=49185 then lputB p
  else if p.proto=32801∨p.proto=32855 then nputB p
  else if p.proto=49187 then aputB p
  else if p.proto=49699 then chputB p
  else if p.proto=49189 then lqputB p
  else if bareD p=true then (p.data,0) else ([],9)
 else ([],7)
def bgetB (t:Nat) (b:List Nat):Pk × Nat :=
 if rightB t=true then
  if t=49185 then lgetB b
  else if t=32801∨t=32855 then ngetB t b
  else if t=49187 then agetB b
  else if t=49699 then chgetB b
  else if t=49189 then lqgetB b
  else (datP t b,0)
 else (pk0,7)
theorem bput_lcp {p:Pk} (h:p.proto=49185):bputB p=lputB p:=by unfold bputB;rw [h,if_pos (by decide),if_pos rfl]
theorem bput_ncp {p:Pk} (h:p.proto=32801∨p.proto=32855):bputB p=nputB p:=by
 unfold bputB
 rcases h with h | h <;> rw [h,if_pos (by decide),if_neg (by decide),if_pos (by decide)]
theorem bput_pap {p:Pk} (h:p.proto=49187):bputB p=aputB p:=by unfold bputB;rw [h,if_pos (by decide),if_neg (by decide),if_neg (by decide),if_pos rfl]
theorem bput_chap {p:Pk} (h:p.proto=49699):bputB p=chputB p:=by unfold bputB;rw [h,if_pos (by decide),if_neg (by decide),if_neg (by decide),if_neg (by decide),if_pos rfl]
theorem bput_lqr {p:Pk} (h:p.proto=49189):bputB p=lqputB p:=by unfold bputB;rw [h,if_pos (by decide),if_neg (by decide),if_neg (by decide),if_neg (by decide),if_neg (by decide),if_pos rfl]
def layB (t:Nat):Prop:=t=49185∨(t=32801∨t=32855)∨t=49187∨t=49699∨t=49189
theorem bput_none {p:Pk} (h:rightB p.proto=false):bputB p=([],7):=by unfold bputB;rw [h];rfl
theorem bput_else {p:Pk} (hr:rightB p.proto=true) (h:¬ layB p.proto):bputB p=if bareD p=true then (p.data,0) else ([],9):=by
 unfold layB at h
 unfold bputB
 rw [if_pos hr,if_neg (fun e=>h (.inl e)),if_neg (fun e=>h (.inr (.inl e))),if_neg (fun e=>h (.inr (.inr (.inl e)))),if_neg (fun e=>h (.inr (.inr (.inr (.inl e))))),if_neg (fun e=>h (.inr (.inr (.inr (.inr e)))))]
theorem bget_lcp (b:List Nat):bgetB 49185 b=lgetB b:=by unfold bgetB;rw [if_pos (by decide),if_pos rfl]
theorem bget_ncp {t:Nat} (h:t=32801∨t=32855) (b:List Nat):bgetB t b=ngetB t b:=by
 unfold bgetB
 rcases h with rfl | rfl <;> rw [if_pos (by decide),if_neg (by decide),if_pos (by decide)]
theorem bget_pap (b:List Nat):bgetB 49187 b=agetB b:=by unfold bgetB;rw [if_pos (by decide),if_neg (by decide),if_neg (by decide),if_pos rfl]
theorem bget_chap (b:List Nat):bgetB 49699 b=chgetB b:=by unfold bgetB;rw [if_pos (by decide),if_neg (by decide),if_neg (by decide),if_neg (by decide),if_pos rfl]
theorem bget_lqr (b:List Nat):bgetB 49189 b=lqgetB b:=by unfold bgetB;rw [if_pos (by decide),if_neg (by decide),if_neg (by decide),if_neg (by decide),if_neg (by decide),if_pos rfl]
theorem bget_none {t:Nat} (h:rightB t=false) (b:List Nat):bgetB t b=(pk0,7):=by unfold bgetB;rw [h];rfl
theorem bget_else {t:Nat} (hr:rightB t=true) (h:¬ layB t) (b:List Nat):bgetB t b=(datP t b,0):=by
 unfold layB at h
 unfold bgetB
 rw [if_pos hr,if_neg (fun e=>h (.inl e)),if_neg (fun e=>h (.inr (.inl e))),if_neg (fun e=>h (.inr (.inr (.inl e)))),if_neg (fun e=>h (.inr (.inr (.inr (.inl e))))),if_neg (fun e=>h (.inr (.inr (.inr (.inr e)))))]
theorem bways (t:Nat):rightB t=false∨(rightB t=true∧(t=49185∨(t=32801∨t=32855)∨t=49187∨t=49699∨t=49189∨¬ layB t)):=by
 cases h:rightB t
 ·exact .inl rfl
 ·refine .inr ⟨rfl,?_⟩
  unfold layB
  omega
theorem bput_dat {t:Nat} (hr:rightB t=true) (h:¬ layB t) (b:List Nat):bputB (datP t b)=(b,0):=by
 rw [bput_else (p:=datP t b) hr h,if_pos (show bareD (datP t b)=true from rfl)]
 rfl
theorem bqput_len {p:Pk} {m:List Nat} {k:Nat} (h:lqputB p=(m,k)):m.length≤48:=by
 unfold lqputB at h
 by_cases h1:p.proto=49189
 ·rw [if_pos h1] at h
  by_cases h2:bareP p=true
  ·rw [if_pos h2] at h
   by_cases h3:p.nums.length=12
   ·rw [if_pos h3] at h
    injection h with e _
    subst e
    rw [octN_len,h3]
    omega
   ·rw [if_neg h3] at h
    injection h with e _
    subst e
    exact Nat.zero_le _
  ·rw [if_neg h2] at h
   injection h with e _
   subst e
   exact Nat.zero_le _
 ·rw [if_neg h1] at h
  injection h with e _
  subst e
  exact Nat.zero_le _
theorem bput_len {p:Pk} {m:List Nat} {k:Nat} (h:bputB p=(m,k)) (hf:fewP p=true):m.length≤2000:=by
 rcases bways p.proto with hr | ⟨hr,h1 | h1 | h1 | h1 | h1 | h1⟩
 ·rw [bput_none hr] at h
  injection h with e _
  subst e
  exact Nat.zero_le _
 ·rw [bput_lcp h1] at h;exact lput_len h hf
 ·rw [bput_ncp h1] at h;exact nput_len h hf
 ·rw [bput_pap h1] at h;exact aput_len h hf
 ·rw [bput_chap h1] at h;exact chput_len h hf
 ·rw [bput_lqr h1] at h
  exact Nat.le_trans (bqput_len h) (by omega)
 ·rw [bput_else hr h1] at h
  split at h
  ·injection h with e _
   subst e
   have:=(fewP_of hf).2.2.2.1
   omega
  ·injection h with e _
   subst e
   exact Nat.zero_le _
theorem bget_ok {t:Nat} (ht:t<65536) {b:List Nat} (hb:By b) {y:Pk} {k:Nat} (h:bgetB t b=(y,k)) (hl:b.length≤1073741824):y.ok∧y.sm:=by
 have ok0:pk0.ok:=⟨by decide,by decide,by decide,fun x hx=>(by cases hx),by decide,by decide,By.nil,By.nil,By.nil,fun x hx=>(by cases hx)⟩
 rcases bways t with hr | ⟨hr,rfl | h1 | rfl | rfl | rfl | h1⟩
 ·rw [bget_none hr] at h
  injection h with e _
  subst e
  exact ⟨ok0,sm0⟩
 ·rw [bget_lcp] at h;exact lget_ok hb h hl
 ·rw [bget_ncp h1] at h;exact nget_ok ht hb h hl
 ·rw [bget_pap] at h;exact aget_ok hb h hl
 ·rw [bget_chap] at h;exact chget_ok hb h hl
 ·rw [bget_lqr] at h
  unfold lqgetB at h
  split at h
  ·injection h with e _
   subst e
   exact ⟨ok0,sm0⟩
  ·injection h with e _
   subst e
   exact ⟨⟨by show 49189<65536;omega,by show 0<256;omega,by show 0<256;omega,fun x hx=>(by cases hx),by show 0<65536;omega,by show 0<4294967296;omega,By.nil,By.nil,By.nil,rdN_lt hb 12⟩,⟨Nat.zero_le _,Nat.zero_le _,Nat.zero_le _,Nat.zero_le _,Nat.zero_le _,by show (rdN b 12).length≤_;rw [rdN_len];omega⟩⟩
 ·rw [bget_else hr h1] at h
  injection h with e _
  subst e
  exact ⟨⟨ht,by show 0<256;omega,by show 0<256;omega,fun x hx=>(by cases hx),by show 0<65536;omega,by show 0<4294967296;omega,By.nil,By.nil,hb,fun x hx=>(by cases hx)⟩,⟨Nat.zero_le _,Nat.zero_le _,Nat.zero_le _,Nat.zero_le _,hl,Nat.zero_le _⟩⟩
theorem bput_get {t:Nat} (ht:t<65536) {b:List Nat} (hb:By b) {y:Pk} (h:bgetB t b=(y,0)):y.proto=t∧∃ m,bputB y=(m,0)∧m.length≤b.length∧m=b.take m.length:=by
 rcases bways t with hr | ⟨hr,rfl | h1 | rfl | rfl | rfl | h1⟩
 ·rw [bget_none hr] at h
  injection h with _ e
  exact absurd e (by decide)
 ·rw [bget_lcp] at h
  obtain ⟨m,h2,h3⟩:=lput_get hb h
  have h4:=(lput_ok h2).1
  exact ⟨h4,m,by rw [bput_lcp h4];exact h2,h3⟩
 ·rw [bget_ncp h1] at h
  obtain ⟨h4,m,h2,h3⟩:=nput_get ht hb h
  exact ⟨h4,m,by rw [bput_ncp (by rw [h4];exact h1)];exact h2,h3⟩
 ·rw [bget_pap] at h
  obtain ⟨m,h2,h3⟩:=aput_get hb h
  have h4:=(aput_ok h2).1
  exact ⟨h4,m,by rw [bput_pap h4];exact h2,h3⟩
 ·rw [bget_chap] at h
  obtain ⟨m,h2,h3⟩:=chput_get hb h
  have h4:=(chput_ok h2).1
  exact ⟨h4,m,by rw [bput_chap h4];exact h2,h3⟩
 ·rw [bget_lqr] at h
  rcases Nat.lt_or_ge b.length 48 with h48 | h48
  ·unfold lqgetB at h
   rw [if_pos h48] at h
   injection h with _ e
   exact absurd e (by decide)
  ·obtain ⟨g1,g2⟩:=lqget_put hb h48
   rw [g1] at h
   injection h with e _
   subst e
   refine ⟨rfl,b.take 48,by rw [bput_lqr rfl];exact g2,by rw [List.length_take];omega,?_⟩
   rw [List.length_take,Nat.min_eq_left h48]
 ·rw [bget_else hr h1] at h
  injection h with e _
  subst e
  exact ⟨rfl,b,bput_dat hr h1 b,Nat.le_refl _,(List.take_length).symm⟩
end
end Go.Proofs.YtmhjnghomihjlaaGreat
