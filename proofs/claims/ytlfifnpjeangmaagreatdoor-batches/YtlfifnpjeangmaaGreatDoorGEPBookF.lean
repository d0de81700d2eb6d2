import Derived.Test.YtlfifnpjeangmaaGreatDoorGEPBookA
import Derived.Deep.RegionHeld3
namespace Go.Proofs.YtlfifnpjeangmaaGreatDoor
set_option maxHeartbeats 20000000
open Proofs.Tryz Go.RowKit
set_option maxRecDepth 100000
variable {es:List BE}{b:Nat}{w:World}
theorem TZ(S)(w)(h:S.size<=281474976710656):Calls prog 163 #[.string S] w λe w'=>e=.returned (.string S)/\w.grownBy w' none:=by
 go_enter func163,ntmps163;go_wp2_with fail;refine(Tryz.stringslite_Clone S w h).mono ?_;rintro e d ⟨rfl,a⟩;have G:w.grownBy d none:=⟨a.os,a.tape,a.output,a.size,λb c _=>a.block b c⟩
 clear a;go_wp2;go_ret;exact⟨rfl,G⟩
theorem jE{o:Nat}{v:Value}(h:w.cell? (b,o)=some v):b<w.heap.size:=by
 rcases Nat.lt_or_ge b w.heap.size with k|k
 ·exact k
 ·rw[World.cell?,fm k]at h;cases h
def zC(es:List BE)(a:mW):List BE×Int:=
 if cO a.name=false then(es,4) else if a.ql=false then(es,1) else if (BE.o9 es a.name).isSome then(es,5) else if 20<=es.length then(es,7)
 else(es.take (BE.ins es a.name)++[BE.new a]++es.drop (BE.ins es a.name),0)
theorem Ij{a:mW}(h:cO a.name=false):zC es a=(es,4):=by rw[zC,if_pos h]
theorem LG{a:mW}(h:cO a.name=true)(c:a.ql=false):zC es a=(es,1):=by rw[zC,if_neg (by rw[h];simp),if_pos c]
theorem DW{a:mW}(h:cO a.name=true)(c:a.ql=true)(d:(BE.o9 es a.name).isSome=true):zC es a=(es,5):=by rw[zC,if_neg (by rw[h];simp),if_neg (by rw[c];simp),if_pos d]
theorem Ik{a:mW}(h:cO a.name=true)(c:a.ql=true)(d:(BE.o9 es a.name).isSome=false)(e:20<=es.length):zC es a=(es,7):=by rw[zC,if_neg (by rw[h];simp),if_neg (by rw[c];simp),if_neg (by rw[d];simp),if_pos e]
theorem abJ{a:mW}(h:cO a.name=true)(c:a.ql=true)(d:(BE.o9 es a.name).isSome=false)(e:¬ 20<=es.length):zC es a=(es.take (BE.ins es a.name)++[BE.new a]++es.drop (BE.ins es a.name),0):=by rw[zC,if_neg (by rw[h];simp),if_neg (by rw[c];simp),if_neg (by rw[d];simp),if_neg e]
def xL(w:World)(b:Nat)(a:mW):Prop:=w.cell? (b,0)=some (ι a.kind)/\w.cell? (b,1)=some (.string a.name)/\w.cell? (b,2)=some (υ a.key.toNat)/\w.cell? (b,3)=some (ι a.bI)/\w.cell? (b,4)=some (ι a.aC)/\w.cell? (b,5)=some (ι a.bB)/\w.cell? (b,6)=some (ι a.ae)
def DX(w:World)(b:Nat)(a:mW):Prop:=w.cell? (b,0)=some (ι a.bI)/\w.cell? (b,1)=some (ι a.aC)/\w.cell? (b,2)=some (ι a.bB)/\w.cell? (b,3)=some (ι a.ae)
theorem xL.grown{w':World}{a:mW}(h:xL w b a)(g:w.grownBy w' none):xL w' b a:=⟨bN g h.1,bN g h.2.1,bN g h.2.2.1,bN g h.2.2.2.1,bN g h.2.2.2.2.1,bN g h.2.2.2.2.2.1,bN g h.2.2.2.2.2.2⟩
theorem DX.grown{w':World}{a:mW}(h:DX w b a)(g:w.grownBy w' none):DX w' b a:=⟨bN g h.1,bN g h.2.1,bN g h.2.2.1,bN g h.2.2.2⟩
theorem DX.new(w:World)(a)(t):DX (w.alloc (.cells #[ι a.bI,ι a.aC,ι a.bB,ι a.ae] t)) w.heap.size a:=by
 simp[DX,go_sem]
theorem xL.new(w:World)(a)(t):xL (w.alloc (.cells a.cells t)) w.heap.size a:=by
 simp[xL,mW.cells,go_sem]
theorem bS.added{s k:World}{g o:Nat}(h:bS w g o es)(i n)(y)(hn:es.length=n)(E:n<20)(D:i<=n)(x:s=w.setCells g (o+(i+1)*8) (dP (es.drop i)))(f:CF s k (λb j=>b=g/\((o+i*8<=j/\j<o+(i+1)*8)\/j=o+160)))(hy:k.rangeAt g (o+i*8) y.bE)(B:k.cell? (g,o+160)=some (ι ((n:Int)+1))):bS k g o (es.take i++[y]++es.drop i)/\CF w k (KL g o):=by
 have a:(dP (es.drop i)).length=(n-i)*8:=by rw[eD,dr,hn]
 have v:CF w s (λb j=>b=g/\o+(i+1)*8<=j/\j<o+160):=by
  rw[x];exact CF.setCells g _ _ _ (CF.refl _ _) (λj p _=>⟨rfl,by omega,by rw[a]at p;omega⟩)
 have A:(es.take i++[y]++es.drop i).length=n+1:=by simp only[cD,ep,dr,de,List.length_nil,hn];omega
 have t:CF w k (KL g o):=(v.mono (λb j _ e=>⟨e.1,by omega,by omega⟩)).trans f (λb j _ e=>⟨e.1,by omega,by omega⟩);refine⟨⟨h.live.cf t,?_,?_,by omega⟩,t⟩
 ·rw[jP,jP];intro j u c;have l:(dP (es.take i)).length=i*8:=by rw[eD,ep,gh agE]
  have z:(dP [y]).length=8:=by rw[eD];rfl
  have d:(dP (es.take i)++dP [y]).length=(i+1)*8:=by rw[cD,l,z];omega
  by_cases r:j<(i+1)*8
  ·rw[cW (by rw[d];exact r)]at c;by_cases p:j<i*8
   ·rw[cW (by rw[l];exact p)]at c;have e:(dP es)[j]?=some u:=by
     conv=>lhs;rw[<-eN i es,jP]
     rw[cW (by rw[l];exact p)];exact c
    exact f.cell (v.cell (h.room j u e) (λq=>by omega)) (λq=>by omega)
   ·rw[cY (by rw[l];omega),l]at c;have e:(dP [y])=y.bE:=(by simp[dP]);rw[e]at c;have:=hy (j-i*8) u c;rw[show o+i*8+(j-i*8)=o+j from by omega]at this;exact this
  ·rw[cY (by rw[d];omega),d]at c;have m:j-(i+1)*8<(n-i)*8:=(by have:=(cM.1 c).1;rwa [a]at this);have e:=World.cell?_setCells_in g (dP (es.drop i)) (o+(i+1)*8) w (λq C=>h.live.some _ (by rw[a]at C;omega)) (j-(i+1)*8) (by rw[a];exact m);rw[<-x,show o+(i+1)*8+(j-(i+1)*8)=o+j from by omega]at e;rw[cL (by rw[a];exact m)]at c;exact f.cell (e.trans c) (λq=>by omega)
 ·rw[A,show((n+1:Nat):Int)=(n:Int)+1 from by omega];exact B
theorem bS.afi{a:World}{g o:Nat}(h:bS w g o es)(i n)(y)(hn:es.length=n)(d:n<20)(c:i<=n)(l:a=w.setCells g (o+(i+1)*8) (dP (es.drop i))){u u0 u1 u2 u3 u4 u5 u6 u7:Value}(f:a.cell? (g,o+160)=some u)(q:a.cell? (g,o+i*8)=some u0)(s:a.cell? (g,o+i*8+1)=some u1)(r:a.cell? (g,o+i*8+2)=some u2)(t:a.cell? (g,o+i*8+3)=some u3)(m:a.cell? (g,o+i*8+4)=some u4)(j:a.cell? (g,o+i*8+5)=some u5)(p:a.cell? (g,o+i*8+6)=some u6)(e:a.cell? (g,o+i*8+7)=some u7){v0 v1 v2 v3 v4 v5 v6 v7:Value}(k:y.bE=[v0,v1,v2,v3,v4,v5,v6,v7]):
  bS (((((((((a.setCell (g,o+i*8) v0).setCell (g,o+i*8+1) v1).setCell (g,o+i*8+2) v2).setCell (g,o+i*8+3) v3).setCell (g,o+i*8+4) v4).setCell (g,o+i*8+5) v5).setCell (g,o+i*8+6) v6).setCell (g,o+i*8+7) v7).setCell (g,o+160) (ι ((n:Int)+1))) g o (es.take i++[y]++es.drop i)/\CF w (((((((((a.setCell (g,o+i*8) v0).setCell (g,o+i*8+1) v1).setCell (g,o+i*8+2) v2).setCell (g,o+i*8+3) v3).setCell (g,o+i*8+4) v4).setCell (g,o+i*8+5) v5).setCell (g,o+i*8+6) v6).setCell (g,o+i*8+7) v7).setCell (g,o+160) (ι ((n:Int)+1))) (KL g o):=by
 refine h.added i n y hn d c l ?_ ?_ ?_
 ·exact(((((((((CF.refl _ _).setCell _ _ _ agE).setCell _ _ _ agE).setCell _ _ _ agE).setCell _ _ _ agE).setCell _ _ _ agE).setCell _ _ _ agE).setCell _ _ _ agE).setCell _ _ _ agE).setCell _ _ _ agE
 ·rw[k];refine JA ?_ ?_ ?_ ?_ ?_ ?_ ?_ ?_
  ·exact ax _ (ax _ (ax _ ai1 agE) agE) agE
  ·exact ax _ (ax _ ai1 agE) agE
  ·exact ax _ ai1 agE
  ·grind [di,ax]
  ·exact ax _ (ax _ (ax _ (ax _ (di _ (ax _ (ax _ (ax _ (ax _ m agE) agE) agE) agE)) agE) agE) agE) agE
  ·exact ax _ (ax _ (ax _ (di _ (ax _ (ax _ (ax _ (ax _ (ax _ j agE) agE) agE) agE) agE)) agE) agE) agE
  ·exact ax _ (ax _ (di _ (ax _ (ax _ (ax _ (ax _ (ax _ (ax _ p agE) agE) agE) agE) agE) agE)) agE) agE
  ·exact ax _ (di _ (ax _ (ax _ (ax _ (ax _ (ax _ (ax _ (ax _ e agE) agE) agE) agE) agE) agE) agE)) agE
 ·exact di _ (ax _ (ax _ (ax _ (ax _ (ax _ (ax _ (ax _ (ax _ f agE) agE) agE) agE) agE) agE) agE) agE)
theorem abK(g o:Nat)(es)(a)(w)(h:bS w g o es)(hs:es.Pairwise (λx y=>Op.bytesLess x.name y.name=true))(O:-9223372036854775808<=a.ae)(V:a.ae<=9223372036854775807)(hl:a.name.length<=9223372036854775807):
  Calls prog 132 #[(g,o),.agg a.cells] w λe w'=>e=.returned (ι (zC es a).2)/\bS w' g o (zC es a).1/\CF w w' (KL g o):=by
 have Ig:=hid hs
 have aj:=h.live.lt
 have ah:w.heap.size≠g:=λe=>by omega
 have G0:=hid (cx w (.cells a.cells 41) none)
 have JD:=hid (h.grown G0.o)
 have af:=hid (xL.new w a 41)
 have W:=hid (λw=>Ih a w O V)
 have Sm:=hid (λw=>zB a w)
 have Q:=hid (λw=>DV a.name a.name.length ⟨a.name.toArray⟩ w (hid rfl) (hid rfl) hl)
 have ab:=hid (λw h=>tQ g o es a.name ⟨a.name.toArray⟩ w h Ig.o (hid rfl))
 have G:(⟨a.name.toArray⟩:ByteArray).size=a.name.length:=by simp[ByteArray.size]
 have Gi:=hid (λw (hk:a.name.length<=16)=>TZ ⟨a.name.toArray⟩ w (by rw[G];omega))
 clear hs h G O V hl
 go_enter func132,ntmps132
 go_wp2_with fail
 refine(Sm.o _).mono ?_
 rintro e F ⟨rfl,z⟩
 have B1:=hid (JD.o.grown z)
 have A1:=hid (af.o.grown z)
 have G1:=hid (aa G0.o z)
 have s1:w.heap.size+1<=F.heap.size:=by have:=z.size;rw[cF]at this;exact this
 have g2:=cx F (.cells #[ι a.bI,ι a.aC,ι a.bB,ι a.ae] 124) none
 have B2:=hid (B1.o.grown g2)
 have A2:=A1.o.grown g2
 have P2:=hid (DX.new F a 124)
 have G2:=hid (aa G1.o g2)
 have n2:=A2.2.1
 have P:=hid A2
 clear JD af G0 z B1 A1 G1 g2 A2
 go_wp2_with fail
 refine(ab.o _ B2.o).mono ?_
 rintro e w3 ⟨rfl,v⟩
 have B3:=hid (B2.o.grown v)
 have KO:=hid (P.o.grown v)
 have P3:=hid (P2.o.grown v)
 have G3:=hid (aa G2.o v)
 have n3:=KO.o.2.1
 clear n2 B2 P P2 G2 v Sm ab
 go_wp2_with fail
 refine(Q.o _).mono ?_
 rintro e w' ⟨rfl,rfl⟩
 clear Q
 cases C:cO a.name
 ·have A:=hid C;go_wp2;go_ret;exact⟨by rw[Ij A.o];rfl,by rw[Ij A.o];exact B3.o,CF.bF G3.o _⟩
 have A:=hid C;have ag:Hid (a.name.length<=16):=by
  have e:=C;rw[cO,Bool.and_eq_true,decide_eq_true_eq]at e;exact e.1.2
 clear C;obtain⟨T,p1,p2,p3⟩:=P3.o;go_wp2_with fail;refine(W.o _).mono ?_;rintro e I ⟨rfl,r⟩;have M:=hid (B3.o.grown r);have Z:=hid (KO.o.grown r);have P4:=hid (P3.o.grown r);have U:=hid (aa G3.o r);clear n3 B3 KO P3 G3 r W T p1 p2 p3;cases hp:a.ql
 ·have H:=hid hp;go_wp2;go_ret;exact⟨by rw[LG A.o H.o];rfl,by rw[LG A.o H.o];exact M.o,CF.bF U.o _⟩
 have H:=hid hp;clear hp;cases ht:(BE.o9 es a.name).isSome;rotate_left
 ·have N:=hid ht;go_wp2;go_ret;exact⟨by rw[DW A.o H.o N.o];rfl,by rw[DW A.o H.o N.o];exact M.o,CF.bF U.o _⟩
 have N:=hid ht;clear ht;have D:=M.o.count;have Y:=M.o.len;obtain⟨n,J⟩:∃n,Hid (es.length=n):=⟨_,hid rfl⟩
 rw[J.o]at D Y;by_cases t:n=20
 ·subst t;go_wp2;go_ret;exact⟨by rw[Ik A.o H.o N.o (by rw[J.o];exact cy _)];rfl,by rw[Ik A.o H.o N.o (by rw[J.o];exact cy _)];exact M.o,CF.bF U.o _⟩
 have XJ:n<20:=agE;have ai:(n:Int)<20:=agE;have X:¬ (n:Int)=20:=agE;have av:((n:Int)==20)=false:=by rw[cJ];exact X
 have n4:=Z.o.2.1;have y4:=Z.o.2.2.1;obtain⟨T,p1,p2,p3⟩:=P4.o;go_wp2_with fail;have b1:=jE T;have b0:=jE n4;have al:I.heap.size≠F.heap.size:=agE;have ax:I.heap.size≠w.heap.size:=agE;go_cut [8] (λp wx=>∃E,p=.pointer (some ⟨E,0,none⟩)/\I.heap.size<=E/\wx.rangeAt E 0 (BE.new a).bE/\I.grownBy wx none)
 case first=>
  clear D Y t XJ ai X aj ah s1;go_region_held3 (λw'=>w'.cell? ⟨w.heap.size,1,none⟩=some (.string a.name)/\w'.cell? ⟨w.heap.size,2,none⟩=some (υ a.key.toNat)/\w'.cell? ⟨F.heap.size,0,none⟩=some (ι a.bI)/\w'.cell? ⟨F.heap.size,1,none⟩=some (ι a.aC)/\w'.cell? ⟨F.heap.size,2,none⟩=some (ι a.bB)/\w'.cell? ⟨F.heap.size,3,none⟩=some (ι a.ae)) (go_keep) (first|(go_at_call 163;refine(Gi.o _ ag.o).mono ?_;rintro e K ⟨rfl,B⟩;(first|have m:I.grownBy K none:=je B|(have m:=je (aa (cx I.drew _ none) B);have l:Live K I.heap.size 8:=(Live.new I.drew noEntry 126).grown B;obtain⟨d0,q0⟩:=cA.1 (l.some 0 agF);obtain⟨d1,q1⟩:=cA.1 (l.some 1 agF);obtain⟨d2,q2⟩:=cA.1 (l.some 2 agF);obtain⟨d3,q3⟩:=cA.1 (l.some 3 agF);obtain⟨d4,q4⟩:=cA.1 (l.some 4 agF);obtain⟨d5,q5⟩:=cA.1 (l.some 5 agF);obtain⟨d6,q6⟩:=cA.1 (l.some 6 agF);obtain⟨d7,q7⟩:=cA.1 (l.some 7 agF);have f0:=l.frozen 0;have f1:=l.frozen 1;have f2:=l.frozen 2;have f3:=l.frozen 3;have f4:=l.frozen 4;have f5:=l.frozen 5;have f6:=l.frozen 6;have f7:=l.frozen 7));have n5:=bN m n4;have y5:=bN m y4;have z0:=bN m T;have z1:=bN m p1;have z2:=bN m p2;have z3:=bN m p3;have c1:=jE z0;have c0:=jE n5;have aw:K.heap.size≠F.heap.size:=agE;have ay:K.heap.size≠w.heap.size:=agE;clear B));all_goals go_wp2
  all_goals go_meet
  ·exact⟨_,rfl,m.size,dB.range (g:=K.heap.size) ⟨_,heap_alloc_new K _⟩,aM m _⟩
  ·refine⟨_,rfl,cy _,jo K _ _ _ _ _ _ _ _ _ q0 q1 q2 q3 q4 q5 q6 q7,?_⟩;repeat refine az ?_ (cy _)
   exact m
 case rest=>
  obtain⟨E,rfl,hE,c,g5⟩:=hcut;have B5:=hid (M.o.grown g5);have m:=hid (aa U.o g5);have c5:=bN g5 D;obtain⟨i,HI⟩:∃i,Hid (i=BE.ins es a.name):=⟨_,hid rfl⟩
  have ad:i<=n:=by rw[HI.o,<-J.o];exact Pt es a.name
  have ao:(i:Int)<=(n:Int):=agE;have ar:(0:Int)<=(i:Int):=agE;have k:g≠E:=λe=>by have:=U.o.size;omega
  have e0:wc.cell? (E,0)=some (.string a.name):=c 0 _ rfl;have e1:wc.cell? (E,1)=some (ι 1):=c 1 _ rfl;have e2:wc.cell? (E,2)=some (υ a.key.toNat):=c 2 _ rfl;have e3:wc.cell? (E,3)=some (υ 0):=c 3 _ rfl;have e4:wc.cell? (E,4)=some (ι a.bI):=c 4 _ rfl;have e5:wc.cell? (E,5)=some (ι a.aC):=c 5 _ rfl;have e6:wc.cell? (E,6)=some (ι a.bB):=c 6 _ rfl;have e7:wc.cell? (E,7)=some (ι a.ae):=c 7 _ rfl;obtain⟨d,hd,HD⟩:=Ii g o (i+1) agE;obtain⟨s,ak,S⟩:=Sk g o i n ad agE;have aq:=λw=>by
   have:=hd w;rw[show((i+1:Nat):Int)=(i:Int)+1 from by omega,show 20-(i+1)=19-i from by omega]at this;exact this
  have hw:IntKind.i64.wrap ((i:Int)+1)=(i:Int)+1:=ag6;have au:IntKind.i64.wrap ((n:Int)+1)=(n:Int)+1:=ag6;have CR:=(B5.o.drewN 1).copy 3 i (i+1) (19-i) (19-i) (n-i) (20-i) d s (λh0=>⟨HD agE,S agE⟩) (by rw[J.o];omega) agE agE;obtain⟨w6,L⟩:∃w6,Hid (w6=wc.drew.setCells g (o+(i+1)*8) (dP (es.drop i))):=⟨_,hid rfl⟩
  have an:(Builtin.copy_ #[287,287] 3 #[.slice (some d) (19-i) (19-i),.slice (some s) (n-i) (20-i)]).run prog wc.drew=.ok (ι ((n-i:Nat):Int)) w6:=by rw[L.o];exact CR
  have u:CF wc w6 (λb j=>b=g/\o+(i+1)*8<=j/\j<o+160):=by
   rw[L.o];exact CF.setCells g _ _ _ (CF.refl wc _).drew (λj hj _=>⟨rfl,by omega,by rw[eD,dr,J.o]at hj;omega⟩)
  have c6:=u.cell c5 (λq=>by omega);have f:=B5.o.live.cf u;have x0:=u.cell e0 (λq=>k q.1.symm);have x1:=u.cell e1 (λq=>k q.1.symm);have x2:=u.cell e2 (λq=>k q.1.symm);have x3:=u.cell e3 (λq=>k q.1.symm);have x4:=u.cell e4 (λq=>k q.1.symm);have x5:=u.cell e5 (λq=>k q.1.symm);have x6:=u.cell e6 (λq=>k q.1.symm);have x7:=u.cell e7 (λq=>k q.1.symm);obtain⟨u0,q0⟩:=cA.1 (f.some (o+i*8) agE);obtain⟨u1,q1⟩:=cA.1 (f.some (o+i*8+1) agE);obtain⟨u2,q2⟩:=cA.1 (f.some (o+i*8+2) agE);obtain⟨u3,q3⟩:=cA.1 (f.some (o+i*8+3) agE);obtain⟨u4,q4⟩:=cA.1 (f.some (o+i*8+4) agE);obtain⟨u5,q5⟩:=cA.1 (f.some (o+i*8+5) agE);obtain⟨u6,q6⟩:=cA.1 (f.some (o+i*8+6) agE);obtain⟨u7,q7⟩:=cA.1 (f.some (o+i*8+7) agE);have z0:=f.frozen (o+i*8);have z1:=f.frozen (o+i*8+1);have z2:=f.frozen (o+i*8+2);have z3:=f.frozen (o+i*8+3);have z4:=f.frozen (o+i*8+4);have z5:=f.frozen (o+i*8+5);have z6:=f.frozen (o+i*8+6);have z7:=f.frozen (o+i*8+7);have z8:=f.frozen (o+160);rw[<-HI.o];clear HD S hd CR u f c g5 n4 y4 T p1 p2 p3 D e0 e1 e2 e3 e4 e5 e6 e7;go_wp2;go_region;go_wp2;go_region;go_wp2;go_ret;have R:=bS.afi (B5.o.drewN 1) i n (BE.new a) J.o XJ ad L.o c6 q0 q1 q2 q3 q4 q5 q6 q7 (v0:=.string a.name) (v1:=ι 1) (v2:=υ a.key.toNat) (v3:=υ 0) (v4:=ι a.bI) (v5:=ι a.aC) (v6:=ι a.bB) (v7:=ι a.ae) rfl;have e:zC es a=(es.take i++[BE.new a]++es.drop i,0):=by rw[HI.o];exact abJ A.o H.o N.o (by rw[J.o];omega)
  exact⟨by rw[e];rfl,by rw[e];exact R.1.drewN 1,(CF.before m.o R.2.jM).drew⟩
end Go.Proofs.YtlfifnpjeangmaaGreatDoor
