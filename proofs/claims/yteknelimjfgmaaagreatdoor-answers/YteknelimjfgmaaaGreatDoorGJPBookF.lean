import Derived.Test.YteknelimjfgmaaaGreatDoorGJPBookA
import Derived.Deep.RegionHeld3
namespace Go.Proofs.YteknelimjfgmaaaGreatDoor
set_option maxHeartbeats 20000000
open Proofs.Tryz Go.RowKit
set_option maxRecDepth 100000
variable {es:List BE} {b:Nat} {w:World}
theorem Ql (S:ByteArray) (w:World) (h:S.size<=281474976710656):Calls prog 165 #[.string S] w fun e w'=>e = .returned (.string S)/\w.grownBy w' none:=by
 go_enter func165,ntmps165;go_wp2_with fail;refine (Tryz.stringslite_Clone S w h).mono ?_;rintro e w1 ⟨rfl,hb⟩;have G:w.grownBy w1 none:=⟨hb.os,hb.tape,hb.output,hb.size,fun b hb' _=>hb.block b hb'⟩
 clear hb;go_wp2;go_ret;exact ⟨rfl,G⟩
theorem je {o:Nat} {v:Value} (h:w.cell? ⟨b,o,none⟩=some v):b<w.heap.size:=by
 rcases Nat.lt_or_ge b w.heap.size with k | k
 ·exact k
 ·rw[World.cell?,eM k] at h;cases h
def yC (es:List BE) (a:jV):List BE×Int:=
 if cO a.name=false then (es,4) else if a.oN=false then (es,1) else if (BE.ny es a.name).isSome then (es,5) else if 20<=es.length then (es,7)
 else (es.take (BE.ins es a.name)++[BE.new a]++es.drop (BE.ins es a.name),0)
theorem Fj {a:jV} (h:cO a.name=false):yC es a=(es,4):=by rw[yC,if_pos h]
theorem Jt {a:jV} (h:cO a.name=true) (h2:a.oN=false):yC es a=(es,1):=by rw[yC,if_neg (by rw[h];simp),if_pos h2]
theorem Cc {a:jV} (h:cO a.name=true) (h2:a.oN=true) (h3:(BE.ny es a.name).isSome=true):yC es a=(es,5):=by rw[yC,if_neg (by rw[h];simp),if_neg (by rw[h2];simp),if_pos h3]
theorem Fp {a:jV} (h:cO a.name=true) (h2:a.oN=true) (h3:(BE.ny es a.name).isSome=false) (h4:20<=es.length):yC es a=(es,7):=by rw[yC,if_neg (by rw[h];simp),if_neg (by rw[h2];simp),if_neg (by rw[h3];simp),if_pos h4]
theorem XK {a:jV} (h:cO a.name=true) (h2:a.oN=true) (h3:(BE.ny es a.name).isSome=false) (h4:¬ 20<=es.length):yC es a=(es.take (BE.ins es a.name)++[BE.new a]++es.drop (BE.ins es a.name),0):=by rw[yC,if_neg (by rw[h];simp),if_neg (by rw[h2];simp),if_neg (by rw[h3];simp),if_neg h4]
def wN (w:World) (b:Nat) (a:jV):Prop:=w.cell? ⟨b,0,none⟩=some (.int .i64 a.kind)/\w.cell? ⟨b,1,none⟩=some (.string ⟨a.name.toArray⟩)/\w.cell? ⟨b,2,none⟩=some (.int .u64 (a.key.toNat:Int))/\w.cell? ⟨b,3,none⟩=some (.int .i64 a.bI)/\w.cell? ⟨b,4,none⟩=some (.int .i64 a.aD)/\w.cell? ⟨b,5,none⟩=some (.int .i64 a.bC)/\w.cell? ⟨b,6,none⟩=some (.int .i64 a.ay)
def Ce (w:World) (b:Nat) (a:jV):Prop:=w.cell? ⟨b,0,none⟩=some (.int .i64 a.bI)/\w.cell? ⟨b,1,none⟩=some (.int .i64 a.aD)/\w.cell? ⟨b,2,none⟩=some (.int .i64 a.bC)/\w.cell? ⟨b,3,none⟩=some (.int .i64 a.ay)
theorem wN.grown {w':World} {a:jV} (h:wN w b a) (g:w.grownBy w' none):wN w' b a:=⟨dR g h.1,dR g h.2.1,dR g h.2.2.1,dR g h.2.2.2.1,dR g h.2.2.2.2.1,dR g h.2.2.2.2.2.1,dR g h.2.2.2.2.2.2⟩
theorem Ce.grown {w':World} {a:jV} (h:Ce w b a) (g:w.grownBy w' none):Ce w' b a:=⟨dR g h.1,dR g h.2.1,dR g h.2.2.1,dR g h.2.2.2⟩
theorem Ce.new (w:World) (a:jV) (t:TypeId):Ce (w.alloc (.cells #[.int .i64 a.bI,.int .i64 a.aD,.int .i64 a.bC,.int .i64 a.ay] t)) w.heap.size a:=by
 simp[Ce,go_sem]
theorem wN.new (w:World) (a:jV) (t:TypeId):wN (w.alloc (.cells a.cells t)) w.heap.size a:=by
 simp[wN,jV.cells,go_sem]
theorem bY.added {w6 w8:World} {g o:Nat} (h:bY w g o es) (i n:Nat) (y:BE) (hn:es.length=n) (TS:n<20) (hi:i<=n) (h6:w6=w.setCells g (o+(i+1)*8) (dL (es.drop i))) (f:CF w6 w8 (fun b j=>b=g/\((o+i*8<=j/\j<o+(i+1)*8)\/j=o+160))) (hy:w8.rangeAt g (o+i*8) y.bG) (hc:w8.cell? ⟨g,o+160,none⟩=some (.int .i64 ((n:Int)+1))):bY w8 g o (es.take i++[y]++es.drop i)/\CF w w8 (GJ g o):=by
 have hlen:(dL (es.drop i)).length=(n-i)*8:=by rw[eG,cy,hn]
 have f6:CF w w6 (fun b j=>b=g/\o+(i+1)*8<=j/\j<o+160):=by
  rw[h6];exact ael
 have hL:(es.take i++[y]++es.drop i).length=n+1:=by simp only[bj,cG,cy,cN,List.length_nil,hn];omega
 have fA:CF w w8 (GJ g o):=(f6.mono (fun b j _ e=>⟨e.1,by omega,by omega⟩)).trans f (fun b j _ e=>⟨e.1,by omega,by omega⟩);refine ⟨⟨h.live.cf fA,?_,?_,by omega⟩,fA⟩
 ·rw[jl,jl];intro j u hu;have hT:(dL (es.take i)).length=i*8:=by rw[eG,cG,fY afp]
  have h1:(dL [y]).length=8:=by rw[eG];rfl
  have hT1:(dL (es.take i)++dL [y]).length=(i+1)*8:=by rw[bj,hT,h1];omega
  by_cases hj1:j<(i+1)*8
  ·rw[cF (by rw[hT1];exact hj1)] at hu;by_cases hj:j<i*8
   ·rw[cF (by rw[hT];exact hj)] at hu;have e:(dL es)[j]?=some u:=by
     conv=>lhs;rw[<-ey i es,jl]
     rw[cF (by rw[hT];exact hj)];exact hu
    exact f.cell (f6.cell (h.room j u e) (fun q=>by omega)) (fun q=>by omega)
   ·rw[cM (by rw[hT];omega),hT] at hu;have e:(dL [y])=y.bG:=(by simp[dL]);rw[e] at hu;have:=hy (j-i*8) u hu;rw[show o+i*8+(j-i*8)=o+j from by omega] at this;exact this
  ·rw[cM (by rw[hT1];omega),hT1] at hu;have hj2:j-(i+1)*8<(n-i)*8:=(by have:=(cq.1 hu).1;rwa [hlen] at this);have e:=World.cell?_setCells_in g (dL (es.drop i)) (o+(i+1)*8) w (fun q hq=>h.live.some _ (by rw[hlen] at hq;omega)) (j-(i+1)*8) (by rw[hlen];exact hj2);rw[<-h6,show o+(i+1)*8+(j-(i+1)*8)=o+j from by omega] at e;exact ae2
 ·rw[hL,show ((n+1:Nat):Int)=(n:Int)+1 from by omega];exact hc
theorem bY.aaT {w6:World} {g o:Nat} (h:bY w g o es) (i n:Nat) (y:BE) (hn:es.length=n) (TS:n<20) (hi:i<=n) (h6:w6=w.setCells g (o+(i+1)*8) (dL (es.drop i))) {u u0 u1 u2 u3 u4 u5 u6 u7:Value} (c6:w6.cell? ⟨g,o+160,none⟩=some u) (q0:w6.cell? ⟨g,o+i*8,none⟩=some u0) (q1:w6.cell? ⟨g,o+i*8+1,none⟩=some u1) (q2:w6.cell? ⟨g,o+i*8+2,none⟩=some u2) (q3:w6.cell? ⟨g,o+i*8+3,none⟩=some u3) (q4:w6.cell? ⟨g,o+i*8+4,none⟩=some u4) (q5:w6.cell? ⟨g,o+i*8+5,none⟩=some u5) (q6:w6.cell? ⟨g,o+i*8+6,none⟩=some u6) (q7:w6.cell? ⟨g,o+i*8+7,none⟩=some u7) {v0 v1 v2 v3 v4 v5 v6 v7:Value} (hv:y.bG=[v0,v1,v2,v3,v4,v5,v6,v7]) :
  bY (((((((((w6.setCell ⟨g,o+i*8,none⟩ v0).setCell ⟨g,o+i*8+1,none⟩ v1).setCell ⟨g,o+i*8+2,none⟩ v2).setCell ⟨g,o+i*8+3,none⟩ v3).setCell ⟨g,o+i*8+4,none⟩ v4).setCell ⟨g,o+i*8+5,none⟩ v5).setCell ⟨g,o+i*8+6,none⟩ v6).setCell ⟨g,o+i*8+7,none⟩ v7).setCell ⟨g,o+160,none⟩ (.int .i64 ((n:Int)+1))) g o (es.take i++[y]++es.drop i)/\CF w (((((((((w6.setCell ⟨g,o+i*8,none⟩ v0).setCell ⟨g,o+i*8+1,none⟩ v1).setCell ⟨g,o+i*8+2,none⟩ v2).setCell ⟨g,o+i*8+3,none⟩ v3).setCell ⟨g,o+i*8+4,none⟩ v4).setCell ⟨g,o+i*8+5,none⟩ v5).setCell ⟨g,o+i*8+6,none⟩ v6).setCell ⟨g,o+i*8+7,none⟩ v7).setCell ⟨g,o+160,none⟩ (.int .i64 ((n:Int)+1))) (GJ g o):=by
 refine h.added i n y hn TS hi h6 ?_ ?_ ?_
 ·exact (((((((((CF.refl _ _).setCell _ _ _ (fun _=>⟨rfl,by omega⟩)).setCell _ _ _ (fun _=>⟨rfl,by omega⟩)).setCell _ _ _ (fun _=>⟨rfl,by omega⟩)).setCell _ _ _ (fun _=>⟨rfl,by omega⟩)).setCell _ _ _ (fun _=>⟨rfl,by omega⟩)).setCell _ _ _ (fun _=>⟨rfl,by omega⟩)).setCell _ _ _ (fun _=>⟨rfl,by omega⟩)).setCell _ _ _ (fun _=>⟨rfl,by omega⟩)).setCell _ _ _ (fun _=>⟨rfl,by omega⟩)
 ·rw[hv];refine GI ?_ ?_ ?_ ?_ ?_ ?_ ?_ ?_
  ·exact ae _ (ae _ (ae _ (ae _ (ae _ (ae _ (ae _ (ae _ (dB _ q0) afp) afp) afp) afp) afp) afp) afp) afp
  ·exact ae _ (ae _ (ae _ (ae _ (ae _ (ae _ (ae _ (dB _ (ae _ q1 afp)) afp) afp) afp) afp) afp) afp) afp
  ·exact ae _ (ae _ (ae _ (ae _ (ae _ (ae _ (dB _ (ae _ (ae _ q2 afp) afp)) afp) afp) afp) afp) afp) afp
  ·exact ae _ (ae _ (ae _ (ae _ (ae _ (dB _ (ae _ (ae _ (ae _ q3 afp) afp) afp)) afp) afp) afp) afp) afp
  ·exact ae _ (ae _ (ae _ (ae _ (dB _ (ae _ (ae _ (ae _ (ae _ q4 afp) afp) afp) afp)) afp) afp) afp) afp
  ·exact ae _ (ae _ (ae _ (dB _ (ae _ (ae _ (ae _ (ae _ (ae _ q5 afp) afp) afp) afp) afp)) afp) afp) afp
  ·exact ae _ (ae _ (dB _ (ae _ (ae _ (ae _ (ae _ (ae _ (ae _ q6 afp) afp) afp) afp) afp) afp)) afp) afp
  ·exact ae _ (dB _ (ae _ (ae _ (ae _ (ae _ (ae _ (ae _ (ae _ q7 afp) afp) afp) afp) afp) afp) afp)) afp
 ·exact dB _ (ae _ (ae _ (ae _ (ae _ (ae _ (ae _ (ae _ (ae _ c6 afp) afp) afp) afp) afp) afp) afp) afp)
theorem XL (g o:Nat) (es:List BE) (a:jV) (w:World) (h:bY w g o es) (hs:es.Pairwise (fun x y=>Op.bytesLess x.name y.name=true)) (hf0:-9223372036854775808<=a.ay) (hf1:a.ay<=9223372036854775807) (hl:a.name.length<=9223372036854775807) :
  Calls prog 134 #[.pointer (some ⟨g,o,none⟩),.agg a.cells] w fun e w'=>e = .returned (.int .i64 (yC es a).2)/\bY w' g o (yC es a).1/\CF w w' (GJ g o):=by
 have Fa:=hid hs
 have hlt:=h.live.lt
 have G0:=hid (aE w (.cells a.cells 41) none)
 have Fg:=hid (h.grown G0.o)
 have HAd:=hid (wN.new w a 41)
 have HMb:=hid (fun w=>Ff a w hf0 hf1)
 have OJ:=hid (fun w=>yB a w)
 have HNm:=hid (fun w=>Cb a.name a.name.length ⟨a.name.toArray⟩ w (hid rfl) (hid rfl) hl)
 have HPl:=hid (fun w h=>sw g o es a.name ⟨a.name.toArray⟩ w h Fa.o (hid rfl))
 have hbig:(⟨a.name.toArray⟩:ByteArray).size=a.name.length:=by simp[ByteArray.size]
 have GL:=hid (fun w (hk:a.name.length<=16)=>Ql ⟨a.name.toArray⟩ w (by rw[hbig];omega))
 clear hs h hbig hf0 hf1 hl
 go_enter func134,ntmps134
 go_wp2_with fail
 refine (OJ.o _).mono ?_
 rintro e w1 ⟨rfl,hg1⟩
 have B1:=hid (Fg.o.grown hg1)
 have A1:=hid (HAd.o.grown hg1)
 have G1:=hid (aa G0.o hg1)
 have s1:w.heap.size+1<=w1.heap.size:=by have:=hg1.size;rw[ch] at this;exact this
 have g2:=aE w1 (.cells #[.int .i64 a.bI,.int .i64 a.aD,.int .i64 a.bC,.int .i64 a.ay] 124) none
 have B2:=hid (B1.o.grown g2)
 have A2:=A1.o.grown g2
 have P2:=hid (Ce.new w1 a 124)
 have G2:=hid (aa G1.o g2)
 have n2:=A2.2.1
 have HA2:=hid A2
 clear Fg HAd G0 hg1 B1 A1 G1 g2 A2
 go_wp2_with fail
 refine (HPl.o _ B2.o).mono ?_
 rintro e w3 ⟨rfl,hg3⟩
 have B3:=hid (B2.o.grown hg3)
 have IK:=hid (HA2.o.grown hg3)
 have P3:=hid (P2.o.grown hg3)
 have G3:=hid (aa G2.o hg3)
 have n3:=IK.o.2.1
 clear n2 B2 HA2 P2 G2 hg3 OJ HPl
 go_wp2_with fail
 refine (HNm.o _).mono ?_
 rintro e w' ⟨rfl,rfl⟩
 clear HNm
 cases hnm:cO a.name
 ·have HN:=hid hnm;go_wp2;go_ret;exact ⟨by rw[Fj HN.o];rfl,by rw[Fj HN.o];exact B3.o,CF.bN G3.o _⟩
 have HN:=hid hnm;have ahX:Hid (a.name.length<=16):=by
  have e:=hnm;rw[cO,ej,eL] at e;exact e.1.2
 clear hnm;obtain ⟨p0,p1,p2,p3⟩:=P3.o;go_wp2_with fail;refine (HMb.o _).mono ?_;rintro e w4 ⟨rfl,hg4⟩;have B4:=hid (B3.o.grown hg4);have HA4:=hid (IK.o.grown hg4);have P4:=hid (P3.o.grown hg4);have G4:=hid (aa G3.o hg4);clear n3 B3 IK P3 G3 hg4 HMb p0 p1 p2 p3;cases hp:a.oN
 ·have HP:=hid hp;go_wp2;go_ret;exact ⟨by rw[Jt HN.o HP.o];rfl,by rw[Jt HN.o HP.o];exact B4.o,CF.bN G4.o _⟩
 have HP:=hid hp;clear hp;cases ht:(BE.ny es a.name).isSome;rotate_left
 ·have HT:=hid ht;go_wp2;go_ret;exact ⟨by rw[Cc HN.o HP.o HT.o];rfl,by rw[Cc HN.o HP.o HT.o];exact B4.o,CF.bN G4.o _⟩
 have HT:=hid ht;clear ht;have hc4:=B4.o.count;have hl4:=B4.o.len;obtain ⟨n,Qm⟩:∃ n,Hid (es.length=n):=⟨_,hid rfl⟩
 rw[Qm.o] at hc4 hl4;by_cases hfull:n=20
 ·subst hfull;go_wp2;go_ret;exact ⟨by rw[Fp HN.o HP.o HT.o (by rw[Qm.o];exact bd _)];rfl,by rw[Fp HN.o HP.o HT.o (by rw[Qm.o];exact bd _)];exact B4.o,CF.bN G4.o _⟩
 have TS:n<20:=by omega
 have hnE:¬ (n:Int)=20:=by omega
 have hnB:((n:Int)==20)=false:=by rw[cg];exact hnE
 have n4:=HA4.o.2.1;have y4:=HA4.o.2.2.1;obtain ⟨p0,p1,p2,p3⟩:=P4.o;go_wp2_with fail;have b1:w1.heap.size<w4.heap.size:=je p0;have b0:w.heap.size<w4.heap.size:=je n4;have b1n:w4.heap.size≠w1.heap.size:=by omega
 have b0n:w4.heap.size≠w.heap.size:=by omega
 go_cut [8] (fun p wx=>∃ E,p = .pointer (some ⟨E,0,none⟩)/\w4.heap.size<=E/\wx.rangeAt E 0 (BE.new a).bG/\w4.grownBy wx none)
 case first=>
  clear hc4 hl4 hfull TS hnE hlt s1;go_region_held3 (fun w'=>w'.cell? ⟨w.heap.size,1,none⟩=some (.string ⟨a.name.toArray⟩)/\w'.cell? ⟨w.heap.size,2,none⟩=some (.int .u64 (a.key.toNat:Int))/\w'.cell? ⟨w1.heap.size,0,none⟩=some (.int .i64 a.bI)/\w'.cell? ⟨w1.heap.size,1,none⟩=some (.int .i64 a.aD)/\w'.cell? ⟨w1.heap.size,2,none⟩=some (.int .i64 a.bC)/\w'.cell? ⟨w1.heap.size,3,none⟩=some (.int .i64 a.ay)) (go_keep) (first|(go_at_call 165;refine (GL.o _ ahX.o).mono ?_;rintro e w5 ⟨rfl,hg5⟩;(first | have G5:w4.grownBy w5 none:=iN hg5|(have G5:w4.grownBy w5 none:=iN (aa (aE w4.drew _ none) hg5);have L5:Live w5 w4.heap.size 8:=(Live.new w4.drew noEntry 126).grown hg5;obtain ⟨d0,q0⟩:=bw.1 (L5.some 0 afq);obtain ⟨d1,q1⟩:=bw.1 (L5.some 1 afq);obtain ⟨d2,q2⟩:=bw.1 (L5.some 2 afq);obtain ⟨d3,q3⟩:=bw.1 (L5.some 3 afq);obtain ⟨d4,q4⟩:=bw.1 (L5.some 4 afq);obtain ⟨d5,q5⟩:=bw.1 (L5.some 5 afq);obtain ⟨d6,q6⟩:=bw.1 (L5.some 6 afq);obtain ⟨d7,q7⟩:=bw.1 (L5.some 7 afq);have f0:=L5.frozen 0;have f1:=L5.frozen 1;have f2:=L5.frozen 2;have f3:=L5.frozen 3;have f4:=L5.frozen 4;have f5:=L5.frozen 5;have f6:=L5.frozen 6;have f7:=L5.frozen 7));have n5:=dR G5 n4;have y5:=dR G5 y4;have z0:=dR G5 p0;have z1:=dR G5 p1;have z2:=dR G5 p2;have z3:=dR G5 p3;have c1:w1.heap.size<w5.heap.size:=je z0;have c0:w.heap.size<w5.heap.size:=je n5;have c1n:w5.heap.size≠w1.heap.size:=afp;have c0n:w5.heap.size≠w.heap.size:=afp;clear hg5));all_goals go_wp2
  all_goals go_meet
  ·exact ⟨_,rfl,G5.size,dX.range (g:=w5.heap.size) ⟨_,heap_alloc_new w5 _⟩,aR G5 _⟩
  ·refine ⟨_,rfl,bd _,oD w5 _ _ _ _ _ _ _ _ _ q0 q1 q2 q3 q4 q5 q6 q7,?_⟩;repeat refine az ?_ (bd _)
   exact G5
 case rest=>
  obtain ⟨E,rfl,hE,hnew,g5⟩:=hcut;have B5:=hid (B4.o.grown g5);have G5:=hid (aa G4.o g5);have c5:=dR g5 hc4;obtain ⟨i,HI⟩:∃ i,Hid (i=BE.ins es a.name):=⟨_,hid rfl⟩
  have hin:i<=n:=by rw[HI.o,<-Qm.o];exact Mo es a.name
  have hi0:(0:Int)<=(i:Int):=by omega
  have ZF:g≠E:=fun e=>by have:=G4.o.size;omega
  have e0:wc.cell? ⟨E,0,none⟩=some (.string ⟨a.name.toArray⟩):=hnew 0 _ rfl;have e1:wc.cell? ⟨E,1,none⟩=some (.int .i64 1):=hnew 1 _ rfl;have e2:wc.cell? ⟨E,2,none⟩=some (.int .u64 (a.key.toNat:Int)):=hnew 2 _ rfl;have e3:wc.cell? ⟨E,3,none⟩=some (.int .u64 0):=hnew 3 _ rfl;have e4:wc.cell? ⟨E,4,none⟩=some (.int .i64 a.bI):=hnew 4 _ rfl;have e5:wc.cell? ⟨E,5,none⟩=some (.int .i64 a.aD):=hnew 5 _ rfl;have e6:wc.cell? ⟨E,6,none⟩=some (.int .i64 a.bC):=hnew 6 _ rfl;have e7:wc.cell? ⟨E,7,none⟩=some (.int .i64 a.ay):=hnew 7 _ rfl;obtain ⟨d,hd,HD⟩:=Fh g o (i+1) afp;obtain ⟨s,hsl,HS2⟩:=OI g o i n hin afp;have hd':∀ w,(Instr.sliceAt 127 (.pointer (some ⟨g,o,none⟩)) (some (.int .i64 ((i:Int)+1))) none none).run prog w = .ok (.slice (some d) (19-i) (19-i)) w:=fun w=>by
   have:=hd w;rw[show ((i+1:Nat):Int)=(i:Int)+1 from by omega,show 20-(i+1)=19-i from by omega] at this;exact this
  have hw:IntKind.i64.wrap ((i:Int)+1)=(i:Int)+1:=by rw[IntKind.wrap_i64];omega
  have hw2:IntKind.i64.wrap ((n:Int)+1)=(n:Int)+1:=by rw[IntKind.wrap_i64];omega
  have CR:=(B5.o.drewN 1).copy 3 i (i+1) (19-i) (19-i) (n-i) (20-i) d s (fun h0=>⟨HD afp,HS2 afp⟩) (by rw[Qm.o];omega) afp afp;obtain ⟨w6,HW6⟩:∃ w6,Hid (w6=wc.drew.setCells g (o+(i+1)*8) (dL (es.drop i))):=⟨_,hid rfl⟩
  have CR2:(Builtin.copy_ #[287,287] 3 #[.slice (some d) (19-i) (19-i),.slice (some s) (n-i) (20-i)]).run prog wc.drew = .ok (.int .i64 ((n-i:Nat):Int)) w6:=by rw[HW6.o];exact CR
  have TT:CF wc w6 (fun b j=>b=g/\o+(i+1)*8<=j/\j<o+160):=by
   rw[HW6.o];exact CF.setCells g _ _ _ (CF.refl wc _).drew (fun j hj _=>⟨rfl,by omega,by rw[eG,cy,Qm.o] at hj;omega⟩)
  have c6:=TT.cell c5 (fun q=>by omega);have L6:=B5.o.live.cf TT;have x0:=TT.cell e0 (fun q=>ZF q.1.symm);have x1:=TT.cell e1 (fun q=>ZF q.1.symm);have x2:=TT.cell e2 (fun q=>ZF q.1.symm);have x3:=TT.cell e3 (fun q=>ZF q.1.symm);have x4:=TT.cell e4 (fun q=>ZF q.1.symm);have x5:=TT.cell e5 (fun q=>ZF q.1.symm);have x6:=TT.cell e6 (fun q=>ZF q.1.symm);have x7:=TT.cell e7 (fun q=>ZF q.1.symm);obtain ⟨u0,q0⟩:=bw.1 (L6.some (o+i*8) afp);obtain ⟨u1,q1⟩:=bw.1 (L6.some (o+i*8+1) afp);obtain ⟨u2,q2⟩:=bw.1 (L6.some (o+i*8+2) afp);obtain ⟨u3,q3⟩:=bw.1 (L6.some (o+i*8+3) afp);obtain ⟨u4,q4⟩:=bw.1 (L6.some (o+i*8+4) afp);obtain ⟨u5,q5⟩:=bw.1 (L6.some (o+i*8+5) afp);obtain ⟨u6,q6⟩:=bw.1 (L6.some (o+i*8+6) afp);obtain ⟨u7,q7⟩:=bw.1 (L6.some (o+i*8+7) afp);have z0:=L6.frozen (o+i*8);have z1:=L6.frozen (o+i*8+1);have z2:=L6.frozen (o+i*8+2);have z3:=L6.frozen (o+i*8+3);have z4:=L6.frozen (o+i*8+4);have z5:=L6.frozen (o+i*8+5);have z6:=L6.frozen (o+i*8+6);have z7:=L6.frozen (o+i*8+7);have z8:=L6.frozen (o+160);rw[<-HI.o];clear HD HS2 hd CR TT L6 hnew g5 n4 y4 p0 p1 p2 p3 hc4 e0 e1 e2 e3 e4 e5 e6 e7;go_wp2;go_region;go_wp2;go_region;go_wp2;go_ret;have R:=bY.aaT (B5.o.drewN 1) i n (BE.new a) Qm.o TS hin HW6.o c6 q0 q1 q2 q3 q4 q5 q6 q7 (v0:=.string ⟨a.name.toArray⟩) (v1:=.int .i64 1) (v2:=.int .u64 (a.key.toNat:Int)) (v3:=.int .u64 0) (v4:=.int .i64 a.bI) (v5:=.int .i64 a.aD) (v6:=.int .i64 a.bC) (v7:=.int .i64 a.ay) rfl;have e:yC es a=(es.take i++[BE.new a]++es.drop i,0):=by rw[HI.o];exact XK HN.o HP.o HT.o (by rw[Qm.o];omega)
  exact ⟨by rw[e];rfl,by rw[e];exact R.1.drewN 1,(CF.before G5.o R.2.mh).drew⟩
end Go.Proofs.YteknelimjfgmaaaGreatDoor
