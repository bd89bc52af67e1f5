/-
  EtherTells' walk. No condition.
-/
import Derived.Test.YtmhjnghomihjlaaGreatEthI
import Derived.Test.YtmhjnghomihjlaaGreatEthS
import Derived.Test.YtmhjnghomihjlaaGreatEthR
import Derived.Test.YtmhjnghomihjlaaGreatEthW
import Derived.Test.YtmhjnghomihjlaaGreatEthQ
import Derived.Test.YtmhjnghomihjlaaGreatEthY
import Derived.Test.YtmhjnghomihjlaaGreatEthO
import Derived.Test.YtmhjnghomihjlaaGreatEthH
import Derived.Test.YtmhjnghomihjlaaGreatEthN
import Derived.Deep.CutRange
import Derived.Deep.RegionHeld3
namespace Go.Proofs.YtmhjnghomihjlaaGreat
set_option maxRecDepth 8000
set_option maxHeartbeats 80000000
set_option linter.unusedVariables false
open Go.RowKit
theorem fewE_of {f:Fr} (h:fewE f=true):tgfew f.tags=true∧fewP f.pkt=true:=by
 unfold fewE at h
 simpa using h
theorem eto_w (f:Fr) (q:Fl) (w:World) (h:FwF (fun _=>True) w f q) (hn:f.tags.length≤1073741824) (hn2:f.pkt.opts.length≤1073741824) :
  Calls Tryz.prog 15 #[f.val q] w fun e w'=>∃ r,e=.returned (f.val r)∧FwF (fun _=>True) w' f r∧Below w.heap.size w w' :=
 etoF_any (fun _=>True) f q w (fun _ _=>trivial) h (by rw [←h.lt];exact hn) (by rw [←h.pk.lo];exact hn2)
structure EtL (w W:World) (g1 g2:Nat) (y:Fr) (q1 q2:Fl) (A B:Option Addr) (m:List Nat) (f o:Fr) (q r:Fl):Prop where
 x1:Fx W g1 42 y q1
 x2:Fx W g2 31 y q2
 p1:FwF (fun _=>True) W y q1
 p2:FwF (fun _=>True) W y q2
 ra:Rd W W.heap.size A m
 rb:Rd W W.heap.size B m
 an:TwF 31 w W f o q r
section
variable {w W X W' : World} {g1 g2 : Nat} {y f o : Fr} {q1 q2 q r : Fl} {A B : Option Addr} {m : List Nat}
theorem EtL.step (h:EtL w W g1 g2 y q1 q2 A B m f o q r) (hb:Below X.heap.size X W') (hX:Below W.heap.size W X:=by first | exact Below.refl _ _ | exact (Below.refl _ _).drew):EtL w W' g1 g2 y q1 q2 A B m f o q r :=
 have hh:=hX.trans (hb.mono hX.size)
 ⟨h.x1.below hh,h.x2.below hh,h.p1.on hh,h.p2.on hh,h.ra.on hh,h.rb.on hh,h.an.step hh⟩
theorem EtL.drew (h:EtL w W g1 g2 y q1 q2 A B m f o q r):EtL w W.drew g1 g2 y q1 q2 A B m f o q r:=h.step (X:=W) (Below.refl _ _).drew
theorem EtL.flat (h:EtL w W g1 g2 y q1 q2 A B m f o q r):W.cell? ⟨g1,0,none⟩=some (.int .u8 (y.code:Int))∧W.cell? ⟨g1,1,none⟩=some (.int .u16 (y.sess:Int))∧W.cell? ⟨g1,2,none⟩=some (.slice q1.at_ q1.nt q1.ct)∧W.cell? ⟨g1,3,none⟩=some (.int .u16 (y.pkt.proto:Int))∧W.cell? ⟨g1,4,none⟩=some (.int .u8 (y.pkt.code:Int))∧W.cell? ⟨g1,5,none⟩=some (.int .u8 (y.pkt.id:Int))∧W.cell? ⟨g1,6,none⟩=some (.slice q1.pl.ao q1.pl.no q1.pl.co)∧W.cell? ⟨g1,7,none⟩=some (.int .u16 (y.pkt.sub:Int))∧W.cell? ⟨g1,8,none⟩=some (.int .u32 (y.pkt.magic:Int))∧W.cell? ⟨g1,9,none⟩=some (.slice q1.pl.a1 q1.pl.n1 q1.pl.c1)∧W.cell? ⟨g1,10,none⟩=some (.slice q1.pl.a2 q1.pl.n2 q1.pl.c2)∧W.cell? ⟨g1,11,none⟩=some (.slice q1.pl.ad q1.pl.nd q1.pl.cd)∧W.cell? ⟨g1,12,none⟩=some (.slice q1.pl.an q1.pl.nn q1.pl.cn)∧W.cell? ⟨g2,0,none⟩=some (.int .u8 (y.code:Int))∧W.cell? ⟨g2,1,none⟩=some (.int .u16 (y.sess:Int))∧W.cell? ⟨g2,2,none⟩=some (.slice q2.at_ q2.nt q2.ct)∧W.cell? ⟨g2,3,none⟩=some (.int .u16 (y.pkt.proto:Int))∧W.cell? ⟨g2,4,none⟩=some (.int .u8 (y.pkt.code:Int))∧W.cell? ⟨g2,5,none⟩=some (.int .u8 (y.pkt.id:Int))∧W.cell? ⟨g2,6,none⟩=some (.slice q2.pl.ao q2.pl.no q2.pl.co)∧W.cell? ⟨g2,7,none⟩=some (.int .u16 (y.pkt.sub:Int))∧W.cell? ⟨g2,8,none⟩=some (.int .u32 (y.pkt.magic:Int))∧W.cell? ⟨g2,9,none⟩=some (.slice q2.pl.a1 q2.pl.n1 q2.pl.c1)∧W.cell? ⟨g2,10,none⟩=some (.slice q2.pl.a2 q2.pl.n2 q2.pl.c2)∧W.cell? ⟨g2,11,none⟩=some (.slice q2.pl.ad q2.pl.nd q2.pl.cd)∧W.cell? ⟨g2,12,none⟩=some (.slice q2.pl.an q2.pl.nn q2.pl.cn)∧W.cell? ⟨w.heap.size,0,none⟩=some (.int .u8 (f.code:Int))∧W.cell? ⟨w.heap.size,1,none⟩=some (.int .u16 (f.sess:Int))∧W.cell? ⟨w.heap.size,2,none⟩=some (.slice q.at_ q.nt q.ct)∧W.cell? ⟨w.heap.size,3,none⟩=some (.int .u16 (f.pkt.proto:Int))∧W.cell? ⟨w.heap.size,4,none⟩=some (.int .u8 (f.pkt.code:Int))∧W.cell? ⟨w.heap.size,5,none⟩=some (.int .u8 (f.pkt.id:Int))∧W.cell? ⟨w.heap.size,6,none⟩=some (.slice q.pl.ao q.pl.no q.pl.co)∧W.cell? ⟨w.heap.size,7,none⟩=some (.int .u16 (f.pkt.sub:Int))∧W.cell? ⟨w.heap.size,8,none⟩=some (.int .u32 (f.pkt.magic:Int))∧W.cell? ⟨w.heap.size,9,none⟩=some (.slice q.pl.a1 q.pl.n1 q.pl.c1)∧W.cell? ⟨w.heap.size,10,none⟩=some (.slice q.pl.a2 q.pl.n2 q.pl.c2)∧W.cell? ⟨w.heap.size,11,none⟩=some (.slice q.pl.ad q.pl.nd q.pl.cd)∧W.cell? ⟨w.heap.size,12,none⟩=some (.slice q.pl.an q.pl.nn q.pl.cn)∧W.cell? ⟨(w.heap.size+1),0,none⟩=some (.int .u8 (o.code:Int))∧W.cell? ⟨(w.heap.size+1),1,none⟩=some (.int .u16 (o.sess:Int))∧W.cell? ⟨(w.heap.size+1),2,none⟩=some (.slice r.at_ r.nt r.ct)∧W.cell? ⟨(w.heap.size+1),3,none⟩=some (.int .u16 (o.pkt.proto:Int))∧W.cell? ⟨(w.heap.size+1),4,none⟩=some (.int .u8 (o.pkt.code:Int))∧W.cell? ⟨(w.heap.size+1),5,none⟩=some (.int .u8 (o.pkt.id:Int))∧W.cell? ⟨(w.heap.size+1),6,none⟩=some (.slice r.pl.ao r.pl.no r.pl.co)∧W.cell? ⟨(w.heap.size+1),7,none⟩=some (.int .u16 (o.pkt.sub:Int))∧W.cell? ⟨(w.heap.size+1),8,none⟩=some (.int .u32 (o.pkt.magic:Int))∧W.cell? ⟨(w.heap.size+1),9,none⟩=some (.slice r.pl.a1 r.pl.n1 r.pl.c1)∧W.cell? ⟨(w.heap.size+1),10,none⟩=some (.slice r.pl.a2 r.pl.n2 r.pl.c2)∧W.cell? ⟨(w.heap.size+1),11,none⟩=some (.slice r.pl.ad r.pl.nd r.pl.cd)∧W.cell? ⟨(w.heap.size+1),12,none⟩=some (.slice r.pl.an r.pl.nn r.pl.cn):=by
 obtain ⟨x0,x1,x2,x3,x4,x5,x6,x7,x8,x9,x10,x11,x12⟩:=h.x1.all
 obtain ⟨y0,y1,y2,y3,y4,y5,y6,y7,y8,y9,y10,y11,y12⟩:=h.x2.all
 obtain ⟨z0,z1,z2,z3,z4,z5,z6,z7,z8,z9,z10,z11,z12⟩:=h.an.x.all
 exact ⟨x0,x1,x2,x3,x4,x5,x6,x7,x8,x9,x10,x11,x12,y0,y1,y2,y3,y4,y5,y6,y7,y8,y9,y10,y11,y12,z0,z1,z2,z3,z4,z5,z6,z7,z8,z9,z10,z11,z12,h.an.y.all⟩
end
theorem ettell_few1 (f:Fr) (q:Fl) (o:Fr) (r:Fl) (A1:Option Addr) (n1 c1:Nat) (w:World) (h:IsFr w f q) (h':IsFr w o r) (hf:fewE f=false) :
  Calls Tryz.prog 3 #[f.val q,o.val r,.slice A1 n1 c1] w fun e w'=>e=.returned (.bool true)∧Below w.heap.size w w':=by
 have C:=hI (TwF.made 31 w f o q r)
 have H:=hI h.fw
 have HI:=hI h
 have H2:=hI h'.fw
 have HI2:=hI h'
 have HF:=hI hf
 clear hf
 clear h h'
 go_enter Tryz.func3,Tryz.ntmps3
 go_wp2_with (first
  | (go_at_call 6;(with_reducible refine (speaks22 _).mono ?_);rintro e wn ⟨rfl,hb⟩;replace C:=hI (C.out.step hb);clear hb;(try clear x0 x1 x2 x3 x4 x5 x6 x7 x8 x9 x10 x11 x12 y0 y1 y2 y3 y4 y5 y6 y7 y8 y9 y10 y11 y12);obtain ⟨x0,x1,x2,x3,x4,x5,x6,x7,x8,x9,x10,x11,x12⟩:=C.out.x.all;obtain ⟨y0,y1,y2,y3,y4,y5,y6,y7,y8,y9,y10,y11,y12⟩:=C.out.y.all)
  | (go_at_call 7;(with_reducible refine (efew_any f q _ (fun _=>True) (H.out.on C.out.bel) HI.out.nt HI.out.td HI.out.no HI.out.od _ HF.out).mono ?_);rintro e wn ⟨rfl,hb⟩;replace C:=hI (C.out.step hb);clear hb;(try clear x0 x1 x2 x3 x4 x5 x6 x7 x8 x9 x10 x11 x12 y0 y1 y2 y3 y4 y5 y6 y7 y8 y9 y10 y11 y12);obtain ⟨x0,x1,x2,x3,x4,x5,x6,x7,x8,x9,x10,x11,x12⟩:=C.out.x.all;obtain ⟨y0,y1,y2,y3,y4,y5,y6,y7,y8,y9,y10,y11,y12⟩:=C.out.y.all))
 go_ret
 exact ⟨rfl,C.out.bel⟩
theorem ettell_few2 (f:Fr) (q:Fl) (o:Fr) (r:Fl) (A1:Option Addr) (n1 c1:Nat) (w:World) (h:IsFr w f q) (h':IsFr w o r) (hf:fewE f=true) (hf2:fewE o=false) :
  Calls Tryz.prog 3 #[f.val q,o.val r,.slice A1 n1 c1] w fun e w'=>e=.returned (.bool true)∧Below w.heap.size w w':=by
 have C:=hI (TwF.made 31 w f o q r)
 have H:=hI h.fw
 have HI:=hI h
 have H2:=hI h'.fw
 have HI2:=hI h'
 have HF:=hI hf
 have HF2:=hI hf2
 clear hf hf2
 clear h h'
 go_enter Tryz.func3,Tryz.ntmps3
 go_wp2_with (first
  | (go_at_call 6;(with_reducible refine (speaks22 _).mono ?_);rintro e wn ⟨rfl,hb⟩;replace C:=hI (C.out.step hb);clear hb;(try clear x0 x1 x2 x3 x4 x5 x6 x7 x8 x9 x10 x11 x12 y0 y1 y2 y3 y4 y5 y6 y7 y8 y9 y10 y11 y12);obtain ⟨x0,x1,x2,x3,x4,x5,x6,x7,x8,x9,x10,x11,x12⟩:=C.out.x.all;obtain ⟨y0,y1,y2,y3,y4,y5,y6,y7,y8,y9,y10,y11,y12⟩:=C.out.y.all)
  | (go_at_call 7;(with_reducible refine (efew_any f q _ (fun _=>True) (H.out.on C.out.bel) HI.out.nt HI.out.td HI.out.no HI.out.od _ HF.out).mono ?_);rintro e wn ⟨rfl,hb⟩;replace C:=hI (C.out.step hb);clear hb;(try clear x0 x1 x2 x3 x4 x5 x6 x7 x8 x9 x10 x11 x12 y0 y1 y2 y3 y4 y5 y6 y7 y8 y9 y10 y11 y12);obtain ⟨x0,x1,x2,x3,x4,x5,x6,x7,x8,x9,x10,x11,x12⟩:=C.out.x.all;obtain ⟨y0,y1,y2,y3,y4,y5,y6,y7,y8,y9,y10,y11,y12⟩:=C.out.y.all)
  | (go_at_call 7;(with_reducible refine (efew_any o r _ (fun _=>True) (H2.out.on C.out.bel) HI2.out.nt HI2.out.td HI2.out.no HI2.out.od _ HF2.out).mono ?_);rintro e wn ⟨rfl,hb⟩;replace C:=hI (C.out.step hb);clear hb;(try clear x0 x1 x2 x3 x4 x5 x6 x7 x8 x9 x10 x11 x12 y0 y1 y2 y3 y4 y5 y6 y7 y8 y9 y10 y11 y12);obtain ⟨x0,x1,x2,x3,x4,x5,x6,x7,x8,x9,x10,x11,x12⟩:=C.out.x.all;obtain ⟨y0,y1,y2,y3,y4,y5,y6,y7,y8,y9,y10,y11,y12⟩:=C.out.y.all))
 go_ret
 exact ⟨rfl,C.out.bel⟩
theorem ettell_long (f:Fr) (q:Fl) (o:Fr) (r:Fl) (A1:Option Addr) (n1 c1:Nat) (w:World) (h:IsFr w f q) (h':IsFr w o r) (hf:fewE f=true) (hf2:fewE o=true) (h1:¬ n1≤2000) :
  Calls Tryz.prog 3 #[f.val q,o.val r,.slice A1 n1 c1] w fun e w'=>e=.returned (.bool true)∧Below w.heap.size w w':=by
 have C:=hI (TwF.made 31 w f o q r)
 have H:=hI h.fw
 have HI:=hI h
 have H2:=hI h'.fw
 have HI2:=hI h'
 have HF:=hI hf
 have HF2:=hI hf2
 have j1:(2000:Int)<(n1:Int):=by omega
 clear hf hf2 h1
 clear h h'
 go_enter Tryz.func3,Tryz.ntmps3
 go_wp2_with (first
  | (go_at_call 6;(with_reducible refine (speaks22 _).mono ?_);rintro e wn ⟨rfl,hb⟩;replace C:=hI (C.out.step hb);clear hb;(try clear x0 x1 x2 x3 x4 x5 x6 x7 x8 x9 x10 x11 x12 y0 y1 y2 y3 y4 y5 y6 y7 y8 y9 y10 y11 y12);obtain ⟨x0,x1,x2,x3,x4,x5,x6,x7,x8,x9,x10,x11,x12⟩:=C.out.x.all;obtain ⟨y0,y1,y2,y3,y4,y5,y6,y7,y8,y9,y10,y11,y12⟩:=C.out.y.all)
  | (go_at_call 7;(with_reducible refine (efew_any f q _ (fun _=>True) (H.out.on C.out.bel) HI.out.nt HI.out.td HI.out.no HI.out.od _ HF.out).mono ?_);rintro e wn ⟨rfl,hb⟩;replace C:=hI (C.out.step hb);clear hb;(try clear x0 x1 x2 x3 x4 x5 x6 x7 x8 x9 x10 x11 x12 y0 y1 y2 y3 y4 y5 y6 y7 y8 y9 y10 y11 y12);obtain ⟨x0,x1,x2,x3,x4,x5,x6,x7,x8,x9,x10,x11,x12⟩:=C.out.x.all;obtain ⟨y0,y1,y2,y3,y4,y5,y6,y7,y8,y9,y10,y11,y12⟩:=C.out.y.all)
  | (go_at_call 7;(with_reducible refine (efew_any o r _ (fun _=>True) (H2.out.on C.out.bel) HI2.out.nt HI2.out.td HI2.out.no HI2.out.od _ HF2.out).mono ?_);rintro e wn ⟨rfl,hb⟩;replace C:=hI (C.out.step hb);clear hb;(try clear x0 x1 x2 x3 x4 x5 x6 x7 x8 x9 x10 x11 x12 y0 y1 y2 y3 y4 y5 y6 y7 y8 y9 y10 y11 y12);obtain ⟨x0,x1,x2,x3,x4,x5,x6,x7,x8,x9,x10,x11,x12⟩:=C.out.x.all;obtain ⟨y0,y1,y2,y3,y4,y5,y6,y7,y8,y9,y10,y11,y12⟩:=C.out.y.all))
 go_ret
 exact ⟨rfl,C.out.bel⟩
theorem ettell_walk (f:Fr) (q:Fl) (o:Fr) (r:Fl) (b:List Nat) (A1:Option Addr) (n1 c1:Nat) (w:World) (h:IsFr w f q) (h':IsFr w o r) (hR:Rd w w.heap.size A1 b) (hB:By b) (hL:b.length=n1) (hc1:n1≤c1) (hf:fewE f=true) (hf2:fewE o=true) (h1:n1≤2000) :
  Calls Tryz.prog 3 #[f.val q,o.val r,.slice A1 n1 c1] w fun e w'=>e=.returned (.bool true)∧Below w.heap.size w w':=by
 have C:=hI (TwF.made 31 w f o q r)
 have H:=hI h.fw
 have HI:=hI h
 have H2:=hI h'.fw
 have HI2:=hI h'
 have HF:=hI hf
 have HF2:=hI hf2
 obtain ⟨ht,hp⟩:=fewE_of hf
 obtain ⟨ht2,hp2⟩:=fewE_of hf2
 obtain ⟨hln,htd⟩:=tgfew_of ht
 obtain ⟨hln2,htd2⟩:=tgfew_of ht2
 have HOK:=hI h.ok
 have HOK2:=hI h'.ok
 have HS:=hI (fewP_sm hp)
 have HR:=hI hR
 have HB:=hI hB
 have HL:=hI hL
 have hnt:q.nt≤60:=by rw [←h.fw.lt];exact hln
 have hnt2:r.nt≤60:=by rw [←h'.fw.lt];exact hln2
 have QN:=hI (Nat.le_trans hnt (by decide):q.nt≤1073741824)
 have RN:=hI (Nat.le_trans hnt2 (by decide):r.nt≤1073741824)
 have QP:=hI (Nat.le_trans hnt (by decide):q.nt≤137438953472)
 have QA:=hI (Nat.le_trans hnt (by decide):q.nt≤274877906944)
 have RA:=hI (Nat.le_trans hnt2 (by decide):r.nt≤274877906944)
 have QO:=hI (show q.pl.no≤1073741824 by rw [←h.fw.pk.lo];exact (fewP_sm hp).o)
 have RO:=hI (show r.pl.no≤1073741824 by rw [←h'.fw.pk.lo];exact (fewP_sm hp2).o)
 have TD:=hI (Nat.le_trans htd (by decide):tgdat f.tags≤68719476736)
 have TX:=hI (show ∀ x ∈ f.tags,x.2.length≤274877906944 from fun x hx=>Nat.le_trans (Nat.le_trans (tgdat_le hx) htd) (by decide))
 have TX2:=hI (show ∀ x ∈ o.tags,x.2.length≤274877906944 from fun x hx=>Nat.le_trans (Nat.le_trans (tgdat_le hx) htd2) (by decide))
 have HLB:=hI (Nat.le_trans (bput_len (p:=f.pkt) (m:=(bputB f.pkt).1) (k:=(bputB f.pkt).2) rfl hp) (by decide):(bputB f.pkt).1.length≤549755813888)
 have j1:¬ (2000:Int)<(n1:Int):=by omega
 obtain ⟨m,k,hm⟩:∃ m k,Hid (eputB f=(m,k)):=⟨_,_,hI rfl⟩
 obtain ⟨n,hn⟩:∃ n,Hid (m.length=n):=⟨_,hI rfl⟩
 have n9:n≤1500:=by rw [←hn.out];exact eput_len hm.out
 have N9:=hI (Nat.le_trans n9 (by decide):n≤1099511627776)
 obtain ⟨y,mm,k2,hy⟩:∃ y mm k2,Hid (egetB b=(y,mm,k2)):=⟨_,_,_,hI rfl⟩
 obtain ⟨yg,ysm,yl,-,-⟩:=eget_sm hB (by omega) hy.out
 have YG:=hI yg
 have YS:=hI ysm
 have YL:=hI (show y.tags.length≤1073741824 by omega)
 have N1:=hI (Nat.le_trans h1 (by decide):n1≤1073741824)
 have HC1:=hI hc1
 obtain ⟨ans,hans⟩:∃ a,Hid (eansB f o=a):=⟨_,hI rfl⟩
 clear h h' hR hB hL hf hf2 ht hp ht2 hp2 hln htd hln2 htd2 hnt hnt2 yg ysm yl h1 n9 hc1
 go_enter Tryz.func3,Tryz.ntmps3
 go_upto_region 7 with (first
  | (go_at_call 6;(with_reducible refine (speaks22 _).mono ?_);rintro e wn ⟨rfl,hb⟩;replace C:=hI (C.out.step hb);clear hb;(try clear x0 x1 x2 x3 x4 x5 x6 x7 x8 x9 x10 x11 x12 y0 y1 y2 y3 y4 y5 y6 y7 y8 y9 y10 y11 y12);obtain ⟨x0,x1,x2,x3,x4,x5,x6,x7,x8,x9,x10,x11,x12⟩:=C.out.x.all;obtain ⟨y0,y1,y2,y3,y4,y5,y6,y7,y8,y9,y10,y11,y12⟩:=C.out.y.all)
  | (go_at_call 7;(with_reducible refine (efew_any f q _ (fun _=>True) (H.out.on C.out.bel) HI.out.nt HI.out.td HI.out.no HI.out.od _ HF.out).mono ?_);rintro e wn ⟨rfl,hb⟩;replace C:=hI (C.out.step hb);clear hb;(try clear x0 x1 x2 x3 x4 x5 x6 x7 x8 x9 x10 x11 x12 y0 y1 y2 y3 y4 y5 y6 y7 y8 y9 y10 y11 y12);obtain ⟨x0,x1,x2,x3,x4,x5,x6,x7,x8,x9,x10,x11,x12⟩:=C.out.x.all;obtain ⟨y0,y1,y2,y3,y4,y5,y6,y7,y8,y9,y10,y11,y12⟩:=C.out.y.all)
  | (go_at_call 7;(with_reducible refine (efew_any o r _ (fun _=>True) (H2.out.on C.out.bel) HI2.out.nt HI2.out.td HI2.out.no HI2.out.od _ HF2.out).mono ?_);rintro e wn ⟨rfl,hb⟩;replace C:=hI (C.out.step hb);clear hb;(try clear x0 x1 x2 x3 x4 x5 x6 x7 x8 x9 x10 x11 x12 y0 y1 y2 y3 y4 y5 y6 y7 y8 y9 y10 y11 y12);obtain ⟨x0,x1,x2,x3,x4,x5,x6,x7,x8,x9,x10,x11,x12⟩:=C.out.x.all;obtain ⟨y0,y1,y2,y3,y4,y5,y6,y7,y8,y9,y10,y11,y12⟩:=C.out.y.all)
  | (go_at_call 9;(with_reducible refine (eofF_any (fun _=>True) f q _ (fun _ _=>trivial) (H.out.on C.out.bel) QN.out QO.out).mono ?_);rintro e wn ⟨r3,rfl,hp,hb⟩;have P:=hI hp;replace C:=hI (C.out.step hb);clear hp hb;clear x0 x1 x2 x3 x4 x5 x6 x7 x8 x9 x10 x11 x12 y0 y1 y2 y3 y4 y5 y6 y7 y8 y9 y10 y11 y12;obtain ⟨x0,x1,x2,x3,x4,x5,x6,x7,x8,x9,x10,x11,x12⟩:=C.out.x.all;obtain ⟨y0,y1,y2,y3,y4,y5,y6,y7,y8,y9,y10,y11,y12⟩:=C.out.y.all)
  | (go_at_call 8;(with_reducible refine (eput_any f r3 _ P.out HOK.out HS.out (by rw [←P.out.lt,H.out.lt];exact QP.out) TD.out HLB.out m k hm.out n hn.out).mono ?_);rintro e wn ⟨A5,c5,rfl,h5,h5c,hb⟩;replace C:=hI (C.out.step hb);have X5:=hI h5;clear h5 h5c hb P;clear x0 x1 x2 x3 x4 x5 x6 x7 x8 x9 x10 x11 x12 y0 y1 y2 y3 y4 y5 y6 y7 y8 y9 y10 y11 y12;obtain ⟨x0,x1,x2,x3,x4,x5,x6,x7,x8,x9,x10,x11,x12⟩:=C.out.x.all;obtain ⟨y0,y1,y2,y3,y4,y5,y6,y7,y8,y9,y10,y11,y12⟩:=C.out.y.all)
  | (go_at_call 10;(with_reducible refine (erput_any f q _ (H.out.on C.out.bel) HOK.out HS.out QP.out TD.out HLB.out m k hm.out n hn.out).mono ?_);rintro e wn ⟨A6,c6,rfl,h6,h6c,hb⟩;replace C:=hI (C.out.step hb);replace X5:=hI (X5.out.on hb);have X6:=hI h6;clear h6 h6c hb;clear x0 x1 x2 x3 x4 x5 x6 x7 x8 x9 x10 x11 x12 y0 y1 y2 y3 y4 y5 y6 y7 y8 y9 y10 y11 y12)
  | (go_at_call 11;(with_reducible refine (eget_any b n1 c1 A1 _ (HR.out.on C.out.bel) HB.out HL.out N1.out HC1.out y mm k2 hy.out).mono ?_);rintro e w9 ⟨q1,rfl,hp1,hb⟩;have ba:=(Below.refl w9.heap.size w9).alloc (Nat.le_refl _) (y.obj q1 42);have P1:=hI (hp1.on ba);have XX1:=hI (fx_new w9 42 y q1);replace X5:=hI ((X5.out.on hb).on ba);replace X6:=hI ((X6.out.on hb).on ba);replace C:=hI ((C.out.step hb).step ba);clear hp1 hb ba)
  | (go_at_call 12;(with_reducible refine (erget_any b n1 c1 A1 _ (HR.out.on C.out.bel) HB.out HL.out N1.out HC1.out y mm k2 hy.out).mono ?_);rintro e w11 ⟨q2,rfl,hp2,hb⟩;have ba:=(Below.refl w11.heap.size w11).alloc (Nat.le_refl _) (y.obj q2 31);have Z:=hI (show EtL w (w11.alloc (y.obj q2 31)) w9.heap.size w11.heap.size y q1 q2 A5 A6 m f o q r from ⟨(XX1.out.below hb).below ba,fx_new w11 31 y q2,(P1.out.on hb).on ba,hp2.on ba,(X5.out.on hb).on ba,(X6.out.on hb).on ba,(C.out.step hb).step ba⟩);clear hp2 hb ba P1 XX1 X5 X6 C))
 obtain ⟨f0,f1,f2,f3,f4,f5,f6,f7,f8,f9,f10,f11,f12,f13,f14,f15,f16,f17,f18,f19,f20,f21,f22,f23,f24,f25,f26,f27,f28,f29,f30,f31,f32,f33,f34,f35,f36,f37,f38,f39,f40,f41,f42,f43,f44,f45,f46,f47,f48,f49,f50,f51⟩:=Z.out.flat
 go_region_held3 (fun W=>W.cell? ⟨w9.heap.size,0,none⟩=some (.int .u8 (y.code:Int))∧W.cell? ⟨w9.heap.size,1,none⟩=some (.int .u16 (y.sess:Int))∧W.cell? ⟨w9.heap.size,2,none⟩=some (.slice q1.at_ q1.nt q1.ct)∧W.cell? ⟨w9.heap.size,3,none⟩=some (.int .u16 (y.pkt.proto:Int))∧W.cell? ⟨w9.heap.size,4,none⟩=some (.int .u8 (y.pkt.code:Int))∧W.cell? ⟨w9.heap.size,5,none⟩=some (.int .u8 (y.pkt.id:Int))∧W.cell? ⟨w9.heap.size,6,none⟩=some (.slice q1.pl.ao q1.pl.no q1.pl.co)∧W.cell? ⟨w9.heap.size,7,none⟩=some (.int .u16 (y.pkt.sub:Int))∧W.cell? ⟨w9.heap.size,8,none⟩=some (.int .u32 (y.pkt.magic:Int))∧W.cell? ⟨w9.heap.size,9,none⟩=some (.slice q1.pl.a1 q1.pl.n1 q1.pl.c1)∧W.cell? ⟨w9.heap.size,10,none⟩=some (.slice q1.pl.a2 q1.pl.n2 q1.pl.c2)∧W.cell? ⟨w9.heap.size,11,none⟩=some (.slice q1.pl.ad q1.pl.nd q1.pl.cd)∧W.cell? ⟨w9.heap.size,12,none⟩=some (.slice q1.pl.an q1.pl.nn q1.pl.cn)∧W.cell? ⟨w11.heap.size,0,none⟩=some (.int .u8 (y.code:Int))∧W.cell? ⟨w11.heap.size,1,none⟩=some (.int .u16 (y.sess:Int))∧W.cell? ⟨w11.heap.size,2,none⟩=some (.slice q2.at_ q2.nt q2.ct)∧W.cell? ⟨w11.heap.size,3,none⟩=some (.int .u16 (y.pkt.proto:Int))∧W.cell? ⟨w11.heap.size,4,none⟩=some (.int .u8 (y.pkt.code:Int))∧W.cell? ⟨w11.heap.size,5,none⟩=some (.int .u8 (y.pkt.id:Int))∧W.cell? ⟨w11.heap.size,6,none⟩=some (.slice q2.pl.ao q2.pl.no q2.pl.co)∧W.cell? ⟨w11.heap.size,7,none⟩=some (.int .u16 (y.pkt.sub:Int))∧W.cell? ⟨w11.heap.size,8,none⟩=some (.int .u32 (y.pkt.magic:Int))∧W.cell? ⟨w11.heap.size,9,none⟩=some (.slice q2.pl.a1 q2.pl.n1 q2.pl.c1)∧W.cell? ⟨w11.heap.size,10,none⟩=some (.slice q2.pl.a2 q2.pl.n2 q2.pl.c2)∧W.cell? ⟨w11.heap.size,11,none⟩=some (.slice q2.pl.ad q2.pl.nd q2.pl.cd)∧W.cell? ⟨w11.heap.size,12,none⟩=some (.slice q2.pl.an q2.pl.nn q2.pl.cn)∧W.cell? ⟨w.heap.size,0,none⟩=some (.int .u8 (f.code:Int))∧W.cell? ⟨w.heap.size,1,none⟩=some (.int .u16 (f.sess:Int))∧W.cell? ⟨w.heap.size,2,none⟩=some (.slice q.at_ q.nt q.ct)∧W.cell? ⟨w.heap.size,3,none⟩=some (.int .u16 (f.pkt.proto:Int))∧W.cell? ⟨w.heap.size,4,none⟩=some (.int .u8 (f.pkt.code:Int))∧W.cell? ⟨w.heap.size,5,none⟩=some (.int .u8 (f.pkt.id:Int))∧W.cell? ⟨w.heap.size,6,none⟩=some (.slice q.pl.ao q.pl.no q.pl.co)∧W.cell? ⟨w.heap.size,7,none⟩=some (.int .u16 (f.pkt.sub:Int))∧W.cell? ⟨w.heap.size,8,none⟩=some (.int .u32 (f.pkt.magic:Int))∧W.cell? ⟨w.heap.size,9,none⟩=some (.slice q.pl.a1 q.pl.n1 q.pl.c1)∧W.cell? ⟨w.heap.size,10,none⟩=some (.slice q.pl.a2 q.pl.n2 q.pl.c2)∧W.cell? ⟨w.heap.size,11,none⟩=some (.slice q.pl.ad q.pl.nd q.pl.cd)∧W.cell? ⟨w.heap.size,12,none⟩=some (.slice q.pl.an q.pl.nn q.pl.cn)∧W.cell? ⟨(w.heap.size+1),0,none⟩=some (.int .u8 (o.code:Int))∧W.cell? ⟨(w.heap.size+1),1,none⟩=some (.int .u16 (o.sess:Int))∧W.cell? ⟨(w.heap.size+1),2,none⟩=some (.slice r.at_ r.nt r.ct)∧W.cell? ⟨(w.heap.size+1),3,none⟩=some (.int .u16 (o.pkt.proto:Int))∧W.cell? ⟨(w.heap.size+1),4,none⟩=some (.int .u8 (o.pkt.code:Int))∧W.cell? ⟨(w.heap.size+1),5,none⟩=some (.int .u8 (o.pkt.id:Int))∧W.cell? ⟨(w.heap.size+1),6,none⟩=some (.slice r.pl.ao r.pl.no r.pl.co)∧W.cell? ⟨(w.heap.size+1),7,none⟩=some (.int .u16 (o.pkt.sub:Int))∧W.cell? ⟨(w.heap.size+1),8,none⟩=some (.int .u32 (o.pkt.magic:Int))∧W.cell? ⟨(w.heap.size+1),9,none⟩=some (.slice r.pl.a1 r.pl.n1 r.pl.c1)∧W.cell? ⟨(w.heap.size+1),10,none⟩=some (.slice r.pl.a2 r.pl.n2 r.pl.c2)∧W.cell? ⟨(w.heap.size+1),11,none⟩=some (.slice r.pl.ad r.pl.nd r.pl.cd)∧W.cell? ⟨(w.heap.size+1),12,none⟩=some (.slice r.pl.an r.pl.nn r.pl.cn)) (first | (with_reducible exact Z.out.flat) | (with_reducible exact Z.out.drew.flat)) (first
  | (go_at_call 13;(first | (with_reducible refine (equal_yes m m n n _ _ _ _ _ Z.out.ra Z.out.rb hn.out hn.out N9.out rfl).mono ?_) | (with_reducible refine (equal_yes m m n n _ _ _ _ _ Z.out.drew.ra Z.out.drew.rb hn.out hn.out N9.out rfl).mono ?_));rintro e wn ⟨rfl,hb⟩;replace Z:=hI (Z.out.step hb);(try replace P4:=hI (P4.out.on hb));(try replace P5:=hI (P5.out.on hb));clear hb;dsimp only)
  | (go_at_call 15;(first | (with_reducible refine (eto_w y q1 _ Z.out.p1 YL.out YS.out.o).mono ?_) | (with_reducible refine (eto_w y q1 _ Z.out.drew.p1 YL.out YS.out.o).mono ?_));rintro e wn ⟨q3,rfl,hp3,hb⟩;replace Z:=hI (Z.out.step hb);(try replace P4:=hI (P4.out.on hb));(try replace P5:=hI (P5.out.on hb));have P3:=hI hp3;clear hb hp3;dsimp only)
  | (go_at_call 14;(with_reducible refine (esame_yes y q3 q2 _ (P3.out.on (Below.refl _ _)) Z.out.p2 YG.out YS.out (by rw [←P3.out.lt];exact Nat.le_trans YL.out (by decide))).mono ?_);rintro e wn ⟨rfl,hb⟩;replace Z:=hI (Z.out.step hb);(try replace P4:=hI (P4.out.on hb));(try replace P5:=hI (P5.out.on hb));clear hb P3;dsimp only)
  | (go_at_call 9;(first | (with_reducible refine (eofF_any (fun _=>True) f q _ (fun _ _=>trivial) (H.out.on Z.out.an.bel) QN.out QO.out).mono ?_) | (with_reducible refine (eofF_any (fun _=>True) f q _ (fun _ _=>trivial) (H.out.on Z.out.drew.an.bel) QN.out QO.out).mono ?_));rintro e wn ⟨q4,rfl,hp3,hb⟩;replace Z:=hI (Z.out.step hb);(try replace P4:=hI (P4.out.on hb));(try replace P5:=hI (P5.out.on hb));have P4:=hI hp3;(try replace P3:=hI (P3.out.on hb));clear hb hp3;dsimp only)
  | (go_at_call 9;(first | (with_reducible refine (eofF_any (fun _=>True) o r _ (fun _ _=>trivial) (H2.out.on Z.out.an.bel) RN.out RO.out).mono ?_) | (with_reducible refine (eofF_any (fun _=>True) o r _ (fun _ _=>trivial) (H2.out.on Z.out.drew.an.bel) RN.out RO.out).mono ?_));rintro e wn ⟨q5,rfl,hp3,hb⟩;replace Z:=hI (Z.out.step hb);(try replace P4:=hI (P4.out.on hb));(try replace P5:=hI (P5.out.on hb));have P5:=hI hp3;(try replace P3:=hI (P3.out.on hb));clear hb hp3;dsimp only)
  | (go_at_call 16;(with_reducible refine (eans_any f o q4 q5 _ P4.out P5.out HOK.out.tags HOK2.out.tags (by rw [←P4.out.lt,H.out.lt];exact QA.out) (by rw [←P5.out.lt,H2.out.lt];exact RA.out) TX.out TX2.out ans hans.out).mono ?_);rintro e wn ⟨rfl,hb⟩;replace Z:=hI (Z.out.step hb);(try replace P4:=hI (P4.out.on hb));(try replace P5:=hI (P5.out.on hb));clear hb;dsimp only)
  | (go_at_call 17;(first | (with_reducible refine (eansw_any f o q r _ (H.out.on Z.out.an.bel) (H2.out.on Z.out.an.bel) HOK.out.tags HOK2.out.tags QA.out RA.out ans hans.out).mono ?_) | (with_reducible refine (eansw_any f o q r _ (H.out.on Z.out.drew.an.bel) (H2.out.on Z.out.drew.an.bel) HOK.out.tags HOK2.out.tags QA.out RA.out ans hans.out).mono ?_));rintro e wn ⟨rfl,hb⟩;replace Z:=hI (Z.out.step hb);(try replace P4:=hI (P4.out.on hb));(try replace P5:=hI (P5.out.on hb));clear hb;dsimp only))
 all_goals go_wp2_with fail
 all_goals
  go_ret
  exact ⟨rfl,Z.out.an.bel⟩
theorem ettell_any (f:Fr) (q:Fl) (o:Fr) (r:Fl) (b:List Nat) (A1:Option Addr) (n1 c1:Nat) (w:World) (h:IsFr w f q) (h':IsFr w o r) (hR:Rd w w.heap.size A1 b) (hB:By b) (hL:b.length=n1) (hc1:n1≤c1) :
  Calls Tryz.prog 3 #[f.val q,o.val r,.slice A1 n1 c1] w fun e w'=>e=.returned (.bool true)∧Below w.heap.size w w':=by
 cases hf:fewE f
 ·exact ettell_few1 f q o r A1 n1 c1 w h h' hf
 cases hf2:fewE o
 ·exact ettell_few2 f q o r A1 n1 c1 w h h' hf hf2
 by_cases h1:n1≤2000
 ·exact ettell_walk f q o r b A1 n1 c1 w h h' hR hB hL hc1 hf hf2 h1
 ·exact ettell_long f q o r A1 n1 c1 w h h' hf hf2 h1
end Go.Proofs.YtmhjnghomihjlaaGreat
