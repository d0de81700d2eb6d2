/-
  
-/
import Derived.Test.YtpibgolaaaemnaaGreatDoorGUPBookA
import Derived.Deep.RegionHeld3
namespace Go.Proofs.YtpibgolaaaemnaaGreatDoor
open Go.RowKit
set_option maxRecDepth 100000
set_option maxHeartbeats 400000 in
theorem Oa (S:ByteArray) (w:World) (h:S.size≤281474976710656):Calls Tryz.prog 79 #[.string S] w fun e w'=>e = .returned (.string S)∧w.grownBy w' none:=by
 go_enter Tryz.func79,Tryz.ntmps79
 go_wp2_with fail
 refine (Tryz.stringslite_Clone S w h).mono ?_
 rintro e w1 ⟨rfl,hb⟩
 have G:w.grownBy w1 none:=⟨hb.os,hb.tape,hb.output,hb.size,fun b hb' _=>hb.block b hb'⟩
 clear hb
 go_wp2
 go_ret
 exact ⟨rfl,G⟩
theorem jh {w:World} {b o:Nat} {v:Value} (h:w.cell? ⟨b,o,none⟩=some v):b<w.heap.size:=by
 rcases Nat.lt_or_ge b w.heap.size with k | k
 ·exact k
 ·rw[World.cell?,Array.getElem?_eq_none k] at h;cases h
def wG (es:List BE) (a:jJ):List BE×Int:=
 if dH a.name=false then (es,4) else if a.xC=false then (es,1) else if (BE.lT es a.name).isSome then (es,5) else if 20≤es.length then (es,7)
 else (es.take (BE.ins es a.name)++[BE.new a]++es.drop (BE.ins es a.name),0)
theorem Dw {es:List BE} {a:jJ} (h:dH a.name=false):wG es a=(es,4):=by rw[wG,if_pos h]
theorem GK {es:List BE} {a:jJ} (h:dH a.name=true) (h2:a.xC=false):wG es a=(es,1):=by rw[wG,if_neg (by rw[h];simp),if_pos h2]
theorem Ak {es:List BE} {a:jJ} (h:dH a.name=true) (h2:a.xC=true) (h3:(BE.lT es a.name).isSome=true):wG es a=(es,5):=by rw[wG,if_neg (by rw[h];simp),if_neg (by rw[h2];simp),if_pos h3]
theorem Dx {es:List BE} {a:jJ} (h:dH a.name=true) (h2:a.xC=true) (h3:(BE.lT es a.name).isSome=false) (h4:20≤es.length):wG es a=(es,7):=by rw[wG,if_neg (by rw[h];simp),if_neg (by rw[h2];simp),if_neg (by rw[h3];simp),if_pos h4]
theorem VE {es:List BE} {a:jJ} (h:dH a.name=true) (h2:a.xC=true) (h3:(BE.lT es a.name).isSome=false) (h4:¬ 20≤es.length):wG es a=(es.take (BE.ins es a.name)++[BE.new a]++es.drop (BE.ins es a.name),0):=by rw[wG,if_neg (by rw[h];simp),if_neg (by rw[h2];simp),if_neg (by rw[h3];simp),if_neg h4]
def sK (w:World) (b:Nat) (a:jJ):Prop:=w.cell? ⟨b,0,none⟩=some (.int .i64 a.kind)∧w.cell? ⟨b,1,none⟩=some (.string ⟨a.name.toArray⟩)∧w.cell? ⟨b,2,none⟩=some (.int .u64 (a.key.toNat:Int))∧w.cell? ⟨b,3,none⟩=some (.int .i64 a.cO)∧w.cell? ⟨b,4,none⟩=some (.int .i64 a.aF)∧w.cell? ⟨b,5,none⟩=some (.int .i64 a.bU)∧w.cell? ⟨b,6,none⟩=some (.int .i64 a.ay)
def Al (w:World) (b:Nat) (a:jJ):Prop:=w.cell? ⟨b,0,none⟩=some (.int .i64 a.cO)∧w.cell? ⟨b,1,none⟩=some (.int .i64 a.aF)∧w.cell? ⟨b,2,none⟩=some (.int .i64 a.bU)∧w.cell? ⟨b,3,none⟩=some (.int .i64 a.ay)
theorem sK.grown {w w':World} {b:Nat} {a:jJ} (h:sK w b a) (g:w.grownBy w' none):sK w' b a:=⟨dI g h.1,dI g h.2.1,dI g h.2.2.1,dI g h.2.2.2.1,dI g h.2.2.2.2.1,dI g h.2.2.2.2.2.1,dI g h.2.2.2.2.2.2⟩
theorem Al.grown {w w':World} {b:Nat} {a:jJ} (h:Al w b a) (g:w.grownBy w' none):Al w' b a:=⟨dI g h.1,dI g h.2.1,dI g h.2.2.1,dI g h.2.2.2⟩
theorem Al.new (w:World) (a:jJ) (t:TypeId):Al (w.alloc (.cells #[.int .i64 a.cO,.int .i64 a.aF,.int .i64 a.bU,.int .i64 a.ay] t)) w.heap.size a:=by
 simp[Al,go_sem]
theorem sK.new (w:World) (a:jJ) (t:TypeId):sK (w.alloc (.cells a.cells t)) w.heap.size a:=by
 simp[sK,jJ.cells,go_sem]
theorem bE.added {w w6 w8:World} {g o:Nat} {es:List BE} (h:bE w g o es) (i n:Nat) (y:BE) (hn:es.length=n) (Ri:n<20) (hi:i≤n) (h6:w6=w.setCells g (o+(i+1)*8) (cK (es.drop i))) (f:CF w6 w8 (fun b j=>b=g∧((o+i*8≤j∧j<o+(i+1)*8)∨j=o+160))) (hy:w8.rangeAt g (o+i*8) y.aR) (hc:w8.cell? ⟨g,o+160,none⟩=some (.int .i64 ((n:Int)+1))):bE w8 g o (es.take i++[y]++es.drop i)∧CF w w8 (EM g o):=by
 have hlen:(cK (es.drop i)).length=(n-i)*8:=by rw[dP,List.length_drop,hn]
 have f6:CF w w6 (fun b j=>b=g∧o+(i+1)*8≤j∧j<o+160):=by
  rw[h6]
  exact CF.setCells g _ _ _ (CF.refl _ _) (fun j hj _=>⟨rfl,by omega,by rw[hlen] at hj;omega⟩)
 have hL:(es.take i++[y]++es.drop i).length=n+1:=by simp only[List.length_append,List.length_take,List.length_drop,List.length_cons,List.length_nil,hn];omega
 have fA:CF w w8 (EM g o):=(f6.mono (fun b j _ e=>⟨e.1,by omega,by omega⟩)).trans f (fun b j _ e=>⟨e.1,by omega,by omega⟩)
 refine ⟨⟨h.live.cf fA,?_,?_,by omega⟩,fA⟩
 ·rw[iD,iD]
  intro j u hu
  have hT:(cK (es.take i)).length=i*8:=by rw[dP,List.length_take,Nat.min_eq_left (by omega)]
  have h1:(cK [y]).length=8:=by rw[dP];rfl
  have hT1:(cK (es.take i)++cK [y]).length=(i+1)*8:=by rw[List.length_append,hT,h1];omega
  by_cases hj1:j<(i+1)*8
  ·rw[List.getElem?_append_left (by rw[hT1];exact hj1)] at hu
   by_cases hj:j<i*8
   ·rw[List.getElem?_append_left (by rw[hT];exact hj)] at hu
    have e:(cK es)[j]?=some u:=by
     conv=>lhs;rw[←List.take_append_drop i es,iD]
     rw[List.getElem?_append_left (by rw[hT];exact hj)]
     exact hu
    exact f.cell (f6.cell (h.room j u e) (fun q=>by omega)) (fun q=>by omega)
   ·rw[List.getElem?_append_right (by rw[hT];omega),hT] at hu
    have e:(cK [y])=y.aR:=by simp[cK]
    rw[e] at hu
    have:=hy (j-i*8) u hu
    rw[show o+i*8+(j-i*8)=o+j from by omega] at this
    exact this
  ·rw[List.getElem?_append_right (by rw[hT1];omega),hT1] at hu
   have hj2:j-(i+1)*8<(n-i)*8:=by have:=(List.getElem?_eq_some_iff.1 hu).1;rwa [hlen] at this
   have e:=World.cell?_setCells_in g (cK (es.drop i)) (o+(i+1)*8) w (fun q hq=>h.live.some _ (by rw[hlen] at hq;omega)) (j-(i+1)*8) (by rw[hlen];exact hj2)
   rw[←h6,show o+(i+1)*8+(j-(i+1)*8)=o+j from by omega] at e
   rw[List.getElem?_eq_getElem (by rw[hlen];exact hj2)] at hu
   exact f.cell (e.trans hu) (fun q=>by omega)
 ·rw[hL,show ((n+1:Nat):Int)=(n:Int)+1 from by omega];exact hc
theorem bE.YD {w w6:World} {g o:Nat} {es:List BE} (h:bE w g o es) (i n:Nat) (y:BE) (hn:es.length=n) (Ri:n<20) (hi:i≤n) (h6:w6=w.setCells g (o+(i+1)*8) (cK (es.drop i))) {u u0 u1 u2 u3 u4 u5 u6 u7:Value} (c6:w6.cell? ⟨g,o+160,none⟩=some u) (q0:w6.cell? ⟨g,o+i*8,none⟩=some u0) (q1:w6.cell? ⟨g,o+i*8+1,none⟩=some u1) (q2:w6.cell? ⟨g,o+i*8+2,none⟩=some u2) (q3:w6.cell? ⟨g,o+i*8+3,none⟩=some u3) (q4:w6.cell? ⟨g,o+i*8+4,none⟩=some u4) (q5:w6.cell? ⟨g,o+i*8+5,none⟩=some u5) (q6:w6.cell? ⟨g,o+i*8+6,none⟩=some u6) (q7:w6.cell? ⟨g,o+i*8+7,none⟩=some u7) {v0 v1 v2 v3 v4 v5 v6 v7:Value} (hv:y.aR=[v0,v1,v2,v3,v4,v5,v6,v7]) :
  bE (((((((((w6.setCell ⟨g,o+i*8,none⟩ v0).setCell ⟨g,o+i*8+1,none⟩ v1).setCell ⟨g,o+i*8+2,none⟩ v2).setCell ⟨g,o+i*8+3,none⟩ v3).setCell ⟨g,o+i*8+4,none⟩ v4).setCell ⟨g,o+i*8+5,none⟩ v5).setCell ⟨g,o+i*8+6,none⟩ v6).setCell ⟨g,o+i*8+7,none⟩ v7).setCell ⟨g,o+160,none⟩ (.int .i64 ((n:Int)+1))) g o (es.take i++[y]++es.drop i)∧CF w (((((((((w6.setCell ⟨g,o+i*8,none⟩ v0).setCell ⟨g,o+i*8+1,none⟩ v1).setCell ⟨g,o+i*8+2,none⟩ v2).setCell ⟨g,o+i*8+3,none⟩ v3).setCell ⟨g,o+i*8+4,none⟩ v4).setCell ⟨g,o+i*8+5,none⟩ v5).setCell ⟨g,o+i*8+6,none⟩ v6).setCell ⟨g,o+i*8+7,none⟩ v7).setCell ⟨g,o+160,none⟩ (.int .i64 ((n:Int)+1))) (EM g o):=by
 refine h.added i n y hn Ri hi h6 ?_ ?_ ?_
 ·exact (((((((((CF.refl _ _).setCell _ _ _ (fun _=>⟨rfl,by omega⟩)).setCell _ _ _ (fun _=>⟨rfl,by omega⟩)).setCell _ _ _ (fun _=>⟨rfl,by omega⟩)).setCell _ _ _ (fun _=>⟨rfl,by omega⟩)).setCell _ _ _ (fun _=>⟨rfl,by omega⟩)).setCell _ _ _ (fun _=>⟨rfl,by omega⟩)).setCell _ _ _ (fun _=>⟨rfl,by omega⟩)).setCell _ _ _ (fun _=>⟨rfl,by omega⟩)).setCell _ _ _ (fun _=>⟨rfl,by omega⟩)
 ·rw[hv]
  refine EL ?_ ?_ ?_ ?_ ?_ ?_ ?_ ?_
  ·exact aa _ (aa _ (aa _ (aa _ (aa _ (aa _ (aa _ (aa _ (bL _ q0) (by omega)) (by omega)) (by omega)) (by omega)) (by omega)) (by omega)) (by omega)) (by omega)
  ·exact aa _ (aa _ (aa _ (aa _ (aa _ (aa _ (aa _ (bL _ (aa _ q1 (by omega))) (by omega)) (by omega)) (by omega)) (by omega)) (by omega)) (by omega)) (by omega)
  ·exact aa _ (aa _ (aa _ (aa _ (aa _ (aa _ (bL _ (aa _ (aa _ q2 (by omega)) (by omega))) (by omega)) (by omega)) (by omega)) (by omega)) (by omega)) (by omega)
  ·exact aa _ (aa _ (aa _ (aa _ (aa _ (bL _ (aa _ (aa _ (aa _ q3 (by omega)) (by omega)) (by omega))) (by omega)) (by omega)) (by omega)) (by omega)) (by omega)
  ·exact aa _ (aa _ (aa _ (aa _ (bL _ (aa _ (aa _ (aa _ (aa _ q4 (by omega)) (by omega)) (by omega)) (by omega))) (by omega)) (by omega)) (by omega)) (by omega)
  ·exact aa _ (aa _ (aa _ (bL _ (aa _ (aa _ (aa _ (aa _ (aa _ q5 (by omega)) (by omega)) (by omega)) (by omega)) (by omega))) (by omega)) (by omega)) (by omega)
  ·exact aa _ (aa _ (bL _ (aa _ (aa _ (aa _ (aa _ (aa _ (aa _ q6 (by omega)) (by omega)) (by omega)) (by omega)) (by omega)) (by omega))) (by omega)) (by omega)
  ·exact aa _ (bL _ (aa _ (aa _ (aa _ (aa _ (aa _ (aa _ (aa _ q7 (by omega)) (by omega)) (by omega)) (by omega)) (by omega)) (by omega)) (by omega))) (by omega)
 ·exact bL _ (aa _ (aa _ (aa _ (aa _ (aa _ (aa _ (aa _ (aa _ c6 (by omega)) (by omega)) (by omega)) (by omega)) (by omega)) (by omega)) (by omega)) (by omega))
set_option maxHeartbeats 20000000 in
theorem VF (g o:Nat) (es:List BE) (a:jJ) (w:World) (h:bE w g o es) (hs:es.Pairwise (fun x y=>Op.bytesLess x.name y.name=true)) (hf0:-9223372036854775808≤a.ay) (hf1:a.ay≤9223372036854775807) (hl:a.name.length≤9223372036854775807) :
  Calls Tryz.prog 56 #[.pointer (some ⟨g,o,none⟩),.agg a.cells] w fun e w'=>e = .returned (.int .i64 (wG es a).2)∧bE w' g o (wG es a).1∧CF w w' (EM g o):=by
 have Dt:=hid hs
 have hlt:=h.live.lt
 have hne:w.heap.size≠g:=fun e=>by omega
 have G0:=hid (World.grownBy_alloc w (.cells a.cells 43) none)
 have F5:=hid (h.grown G0.out)
 have HAd:=hid (sK.new w a 43)
 have HMb:=hid (fun w=>Du a w hf0 hf1)
 have MM:=hid (fun w=>wF a w)
 have HNm:=hid (fun w=>Aj a.name a.name.length ⟨a.name.toArray⟩ w (hid rfl) (hid rfl) hl)
 have YE:=hid (fun w h=>pK g o es a.name ⟨a.name.toArray⟩ w h Dt.out (hid rfl))
 have hbig:(⟨a.name.toArray⟩:ByteArray).size=a.name.length:=by simp[ByteArray.size]
 have HCl:=hid (fun w (hk:a.name.length≤16)=>Oa ⟨a.name.toArray⟩ w (by rw[hbig];omega))
 clear hs h hbig hf0 hf1 hl
 go_enter Tryz.func56,Tryz.ntmps56
 go_wp2_with fail
 refine (MM.out _).mono ?_
 rintro e w1 ⟨rfl,hg1⟩
 have B1:=hid (F5.out.grown hg1)
 have A1:=hid (HAd.out.grown hg1)
 have G1:=hid (ae G0.out hg1)
 have s1:w.heap.size+1≤w1.heap.size:=by have:=hg1.size;rw[World.size_alloc] at this;exact this
 have g2:=World.grownBy_alloc w1 (.cells #[.int .i64 a.cO,.int .i64 a.aF,.int .i64 a.bU,.int .i64 a.ay] 85) none
 have B2:=hid (B1.out.grown g2)
 have A2:=A1.out.grown g2
 have P2:=hid (Al.new w1 a 85)
 have G2:=hid (ae G1.out g2)
 have n2:=A2.2.1
 have HA2:=hid A2
 clear F5 HAd G0 hg1 B1 A1 G1 g2 A2
 go_wp2_with fail
 refine (YE.out _ B2.out).mono ?_
 rintro e w3 ⟨rfl,hg3⟩
 have B3:=hid (B2.out.grown hg3)
 have Ci:=hid (HA2.out.grown hg3)
 have P3:=hid (P2.out.grown hg3)
 have G3:=hid (ae G2.out hg3)
 have n3:=Ci.out.2.1
 clear n2 B2 HA2 P2 G2 hg3 MM YE
 go_wp2_with fail
 refine (HNm.out _).mono ?_
 rintro e w' ⟨rfl,rfl⟩
 clear HNm
 cases hnm:dH a.name
 ·have HN:=hid hnm
  go_wp2
  go_ret
  exact ⟨by rw[Dw HN.out];rfl,by rw[Dw HN.out];exact B3.out,CF.aW G3.out _⟩
 have HN:=hid hnm
 have afA:Hid (a.name.length≤16):=by
  have e:=hnm
  rw[dH,Bool.and_eq_true,decide_eq_true_eq] at e
  exact e.1.2
 clear hnm
 obtain ⟨p0,p1,p2,p3⟩:=P3.out
 go_wp2_with fail
 refine (HMb.out _).mono ?_
 rintro e w4 ⟨rfl,hg4⟩
 have B4:=hid (B3.out.grown hg4)
 have HA4:=hid (Ci.out.grown hg4)
 have P4:=hid (P3.out.grown hg4)
 have G4:=hid (ae G3.out hg4)
 clear n3 B3 Ci P3 G3 hg4 HMb p0 p1 p2 p3
 cases hp:a.xC
 ·have HP:=hid hp
  go_wp2
  go_ret
  exact ⟨by rw[GK HN.out HP.out];rfl,by rw[GK HN.out HP.out];exact B4.out,CF.aW G4.out _⟩
 have HP:=hid hp
 clear hp
 cases ht:(BE.lT es a.name).isSome
 rotate_left
 ·have HT:=hid ht
  go_wp2
  go_ret
  exact ⟨by rw[Ak HN.out HP.out HT.out];rfl,by rw[Ak HN.out HP.out HT.out];exact B4.out,CF.aW G4.out _⟩
 have HT:=hid ht
 clear ht
 have hc4:=B4.out.count
 have hl4:=B4.out.len
 obtain ⟨n,Dy⟩:∃ n,Hid (es.length=n):=⟨_,hid rfl⟩
 rw[Dy.out] at hc4 hl4
 by_cases hfull:n=20
 ·subst hfull
  go_wp2
  go_ret
  exact ⟨by rw[Dx HN.out HP.out HT.out (by rw[Dy.out];exact Nat.le_refl _)];rfl,by rw[Dx HN.out HP.out HT.out (by rw[Dy.out];exact Nat.le_refl _)];exact B4.out,CF.aW G4.out _⟩
 have Ri:n<20:=by omega
 have hnI:(n:Int)<20:=by omega
 have hnE:¬ (n:Int)=20:=by omega
 have hnB:((n:Int)==20)=false:=by rw[beq_eq_false_iff_ne];exact hnE
 have n4:=HA4.out.2.1
 have y4:=HA4.out.2.2.1
 obtain ⟨p0,p1,p2,p3⟩:=P4.out
 go_wp2_with fail
 have b1:w1.heap.size<w4.heap.size:=jh p0
 have b0:w.heap.size<w4.heap.size:=jh n4
 have b1n:w4.heap.size≠w1.heap.size:=by omega
 have b0n:w4.heap.size≠w.heap.size:=by omega
 go_cut [8] (fun p wx=>∃ E,p = .pointer (some ⟨E,0,none⟩)∧w4.heap.size≤E∧wx.rangeAt E 0 (BE.new a).aR∧w4.grownBy wx none)
 case first=>
  clear hc4 hl4 hfull Ri hnI hnE hlt hne s1
  go_region_held3 (fun w'=>w'.cell? ⟨w.heap.size,1,none⟩=some (.string ⟨a.name.toArray⟩)∧w'.cell? ⟨w.heap.size,2,none⟩=some (.int .u64 (a.key.toNat:Int))∧w'.cell? ⟨w1.heap.size,0,none⟩=some (.int .i64 a.cO)∧w'.cell? ⟨w1.heap.size,1,none⟩=some (.int .i64 a.aF)∧w'.cell? ⟨w1.heap.size,2,none⟩=some (.int .i64 a.bU)∧w'.cell? ⟨w1.heap.size,3,none⟩=some (.int .i64 a.ay)) (go_keep) (first|(go_at_call 79;refine (HCl.out _ afA.out).mono ?_;rintro e w5 ⟨rfl,hg5⟩;(first | have G5:w4.grownBy w5 none:=gW hg5|(have G5:w4.grownBy w5 none:=gW (ae (World.grownBy_alloc w4.drew _ none) hg5);have L5:Live w5 w4.heap.size 8:=(Live.new w4.drew noEntry 87).grown hg5;obtain ⟨d0,q0⟩:=Option.isSome_iff_exists.1 (L5.some 0 (by decide));obtain ⟨d1,q1⟩:=Option.isSome_iff_exists.1 (L5.some 1 (by decide));obtain ⟨d2,q2⟩:=Option.isSome_iff_exists.1 (L5.some 2 (by decide));obtain ⟨d3,q3⟩:=Option.isSome_iff_exists.1 (L5.some 3 (by decide));obtain ⟨d4,q4⟩:=Option.isSome_iff_exists.1 (L5.some 4 (by decide));obtain ⟨d5,q5⟩:=Option.isSome_iff_exists.1 (L5.some 5 (by decide));obtain ⟨d6,q6⟩:=Option.isSome_iff_exists.1 (L5.some 6 (by decide));obtain ⟨d7,q7⟩:=Option.isSome_iff_exists.1 (L5.some 7 (by decide));have f0:=L5.frozen 0;have f1:=L5.frozen 1;have f2:=L5.frozen 2;have f3:=L5.frozen 3;have f4:=L5.frozen 4;have f5:=L5.frozen 5;have f6:=L5.frozen 6;have f7:=L5.frozen 7));have n5:=dI G5 n4;have y5:=dI G5 y4;have z0:=dI G5 p0;have z1:=dI G5 p1;have z2:=dI G5 p2;have z3:=dI G5 p3;have c1:w1.heap.size<w5.heap.size:=jh z0;have c0:w.heap.size<w5.heap.size:=jh n5;have c1n:w5.heap.size≠w1.heap.size:=(by omega);have c0n:w5.heap.size≠w.heap.size:=(by omega);clear hg5))
  all_goals go_wp2
  all_goals go_meet
  ·exact ⟨_,rfl,G5.size,bI.range (g:=w5.heap.size) ⟨_,heap_alloc_new w5 _⟩,aC G5 _⟩
  ·refine ⟨_,rfl,Nat.le_refl _,fw w5 _ _ _ _ _ _ _ _ _ q0 q1 q2 q3 q4 q5 q6 q7,?_⟩
   repeat refine aK ?_ (Nat.le_refl _)
   exact G5
 case rest=>
  obtain ⟨E,rfl,hE,hnew,g5⟩:=hcut
  have B5:=hid (B4.out.grown g5)
  have G5:=hid (ae G4.out g5)
  have c5:=dI g5 hc4
  obtain ⟨i,HI⟩:∃ i,Hid (i=BE.ins es a.name):=⟨_,hid rfl⟩
  have hin:i≤n:=by rw[HI.out,←Dy.out];exact Kl es a.name
  have abt:(i:Int)≤(n:Int):=by omega
  have hi0:(0:Int)≤(i:Int):=by omega
  have XI:g≠E:=fun e=>by have:=G4.out.size;omega
  have e0:wc.cell? ⟨E,0,none⟩=some (.string ⟨a.name.toArray⟩):=hnew 0 _ rfl
  have e1:wc.cell? ⟨E,1,none⟩=some (.int .i64 1):=hnew 1 _ rfl
  have e2:wc.cell? ⟨E,2,none⟩=some (.int .u64 (a.key.toNat:Int)):=hnew 2 _ rfl
  have e3:wc.cell? ⟨E,3,none⟩=some (.int .u64 0):=hnew 3 _ rfl
  have e4:wc.cell? ⟨E,4,none⟩=some (.int .i64 a.cO):=hnew 4 _ rfl
  have e5:wc.cell? ⟨E,5,none⟩=some (.int .i64 a.aF):=hnew 5 _ rfl
  have e6:wc.cell? ⟨E,6,none⟩=some (.int .i64 a.bU):=hnew 6 _ rfl
  have e7:wc.cell? ⟨E,7,none⟩=some (.int .i64 a.ay):=hnew 7 _ rfl
  obtain ⟨d,hd,HD⟩:=Dv g o (i+1) (by omega)
  obtain ⟨s,hsl,HS2⟩:=ML g o i n hin (by omega)
  have hd':∀ w,(Instr.sliceAt 88 (.pointer (some ⟨g,o,none⟩)) (some (.int .i64 ((i:Int)+1))) none none).run Tryz.prog w = .ok (.slice (some d) (19-i) (19-i)) w:=fun w=>by
   have:=hd w
   rw[show ((i+1:Nat):Int)=(i:Int)+1 from by omega,show 20-(i+1)=19-i from by omega] at this
   exact this
  have hw:IntKind.i64.wrap ((i:Int)+1)=(i:Int)+1:=by rw[IntKind.wrap_i64];omega
  have hw2:IntKind.i64.wrap ((n:Int)+1)=(n:Int)+1:=by rw[IntKind.wrap_i64];omega
  have CR:=(B5.out.drewN 1).copy 3 i (i+1) (19-i) (19-i) (n-i) (20-i) d s (fun h0=>⟨HD (by omega),HS2 (by omega)⟩) (by rw[Dy.out];omega) (by omega) (by omega)
  obtain ⟨w6,HW6⟩:∃ w6,Hid (w6=wc.drew.setCells g (o+(i+1)*8) (cK (es.drop i))):=⟨_,hid rfl⟩
  have CR2:(Builtin.copy_ #[180,180] 3 #[.slice (some d) (19-i) (19-i),.slice (some s) (n-i) (20-i)]).run Tryz.prog wc.drew = .ok (.int .i64 ((n-i:Nat):Int)) w6:=by rw[HW6.out];exact CR
  have Rj:CF wc w6 (fun b j=>b=g∧o+(i+1)*8≤j∧j<o+160):=by
   rw[HW6.out]
   exact CF.setCells g _ _ _ (CF.refl wc _).drew (fun j hj _=>⟨rfl,by omega,by rw[dP,List.length_drop,Dy.out] at hj;omega⟩)
  have c6:=Rj.cell c5 (fun q=>by omega)
  have L6:=B5.out.live.cf Rj
  have x0:=Rj.cell e0 (fun q=>XI q.1.symm)
  have x1:=Rj.cell e1 (fun q=>XI q.1.symm)
  have x2:=Rj.cell e2 (fun q=>XI q.1.symm)
  have x3:=Rj.cell e3 (fun q=>XI q.1.symm)
  have x4:=Rj.cell e4 (fun q=>XI q.1.symm)
  have x5:=Rj.cell e5 (fun q=>XI q.1.symm)
  have x6:=Rj.cell e6 (fun q=>XI q.1.symm)
  have x7:=Rj.cell e7 (fun q=>XI q.1.symm)
  obtain ⟨u0,q0⟩:=Option.isSome_iff_exists.1 (L6.some (o+i*8) (by omega))
  obtain ⟨u1,q1⟩:=Option.isSome_iff_exists.1 (L6.some (o+i*8+1) (by omega))
  obtain ⟨u2,q2⟩:=Option.isSome_iff_exists.1 (L6.some (o+i*8+2) (by omega))
  obtain ⟨u3,q3⟩:=Option.isSome_iff_exists.1 (L6.some (o+i*8+3) (by omega))
  obtain ⟨u4,q4⟩:=Option.isSome_iff_exists.1 (L6.some (o+i*8+4) (by omega))
  obtain ⟨u5,q5⟩:=Option.isSome_iff_exists.1 (L6.some (o+i*8+5) (by omega))
  obtain ⟨u6,q6⟩:=Option.isSome_iff_exists.1 (L6.some (o+i*8+6) (by omega))
  obtain ⟨u7,q7⟩:=Option.isSome_iff_exists.1 (L6.some (o+i*8+7) (by omega))
  have z0:=L6.frozen (o+i*8)
  have z1:=L6.frozen (o+i*8+1)
  have z2:=L6.frozen (o+i*8+2)
  have z3:=L6.frozen (o+i*8+3)
  have z4:=L6.frozen (o+i*8+4)
  have z5:=L6.frozen (o+i*8+5)
  have z6:=L6.frozen (o+i*8+6)
  have z7:=L6.frozen (o+i*8+7)
  have z8:=L6.frozen (o+160)
  rw[←HI.out]
  clear HD HS2 hd CR Rj L6 hnew g5 n4 y4 p0 p1 p2 p3 hc4 e0 e1 e2 e3 e4 e5 e6 e7
  go_wp2
  go_region
  go_wp2
  go_region
  go_wp2
  go_ret
  have R:=bE.YD (B5.out.drewN 1) i n (BE.new a) Dy.out Ri hin HW6.out c6 q0 q1 q2 q3 q4 q5 q6 q7 (v0:=.string ⟨a.name.toArray⟩) (v1:=.int .i64 1) (v2:=.int .u64 (a.key.toNat:Int)) (v3:=.int .u64 0) (v4:=.int .i64 a.cO) (v5:=.int .i64 a.aF) (v6:=.int .i64 a.bU) (v7:=.int .i64 a.ay) rfl
  have e:wG es a=(es.take i++[BE.new a]++es.drop i,0):=by rw[HI.out];exact VE HN.out HP.out HT.out (by rw[Dy.out];omega)
  exact ⟨by rw[e];rfl,by rw[e];exact R.1.drewN 1,(CF.before G5.out R.2.qm).drew⟩
end Go.Proofs.YtpibgolaaaemnaaGreatDoor
