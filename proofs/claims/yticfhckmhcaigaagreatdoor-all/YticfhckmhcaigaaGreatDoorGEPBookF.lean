import Derived.Test.YticfhckmhcaigaaGreatDoorGEPBookA
import Derived.Deep.RegionHeld3
namespace Go.Proofs.YticfhckmhcaigaaGreatDoor
set_option maxHeartbeats 20000000
open Proofs.Tryz Go.RowKit
set_option maxRecDepth 100000
variable {es:List BE}{b:Nat}{w:World}
theorem WG(S)(w)(h:S.size<=281474976710656):Calls prog 163 #[.string S] w λe a=>e=.returned (.string S)/\w.grownBy a none:=by
 go_in;go_wp2_with fail;refine(Tryz.stringslite_Clone S w h).mono ?_;rintro e f ⟨rfl,a⟩;have G:w.grownBy f none:=⟨a.os,a.tape,a.output,a.size,λb d _=>a.block b d⟩
 clear a;go_wp2;go_ret;exact⟨rfl,G⟩
theorem jN{o:Nat}{v:Value}(h:w.cell? (F b o)=some v):b<w.1.size:=by
 rcases Nat.lt_or_ge b w.1.size with k|k
 .exact k
 .rw[World.cell?,fy k]at h;cases h
def Az(es:List BE)(a:nC):List BE×Int:=
 if dx a.name=false then(es,4) else if a.qQ=false then(es,1) else if (BE.pY es a.name).isSome then(es,5) else if 20<=es.length then(es,7)
 else(es.take (BE.ins es a.name)++[BE.new a]++es.drop (BE.ins es a.name),0)
theorem JU{a:nC}(h:dx a.name=false):Az es a=(es,4):=by rw[Az,dQ h]
theorem Oe{a:nC}(h:dx a.name=true)(b:a.qQ=false):Az es a=(es,1):=by rw[Az,b' (by rw[h];simp),dQ b]
theorem Fj{a:nC}(h:dx a.name=true)(b:a.qQ=true)(d:(BE.pY es a.name).isSome=true):Az es a=(es,5):=by rw[Az,b' (by rw[h];simp),b' (by rw[b];simp),dQ d]
theorem JV{a:nC}(h:dx a.name=true)(b:a.qQ=true)(d:(BE.pY es a.name).isSome=false)(e:20<=es.length):Az es a=(es,7):=by rw[Az,b' (by rw[h];simp),b' (by rw[b];simp),b' (by rw[d];simp),dQ e]
theorem Wf{a:nC}(h:dx a.name=true)(b:a.qQ=true)(d:(BE.pY es a.name).isSome=false)(e:¬ 20<=es.length):Az es a=(es.take (BE.ins es a.name)++[BE.new a]++es.drop (BE.ins es a.name),0):=by rw[Az,b' (by rw[h];simp),b' (by rw[b];simp),b' (by rw[d];simp),b' e]
def xe(w:World)(b:Nat)(a:nC):Prop:=w.cell? (F b 0)=some (Y a.kind)/\w.cell? (F b 1)=some (.string ⟨a.name.toArray⟩)/\w.cell? (F b 2)=some (O (a.key.toNat:Int))/\w.cell? (F b 3)=some (Y a.bH)/\w.cell? (F b 4)=some (Y a.aD)/\w.cell? (F b 5)=some (Y a.bB)/\w.cell? (F b 6)=some (Y a.ae)
def Fp(w:World)(b:Nat)(a:nC):Prop:=w.cell? (F b 0)=some (Y a.bH)/\w.cell? (F b 1)=some (Y a.aD)/\w.cell? (F b 2)=some (Y a.bB)/\w.cell? (F b 3)=some (Y a.ae)
theorem xe.grown{d:World}{a:nC}(h:xe w b a)(g:w.grownBy d none):xe d b a:=⟨bP g h.1,bP g h.2.1,bP g h.2.2.1,bP g h.2.2.2.1,bP g h.2.2.2.2.1,bP g h.2.2.2.2.2.1,bP g h.2.2.2.2.2.2⟩
theorem Fp.grown{d:World}{a:nC}(h:Fp w b a)(g:w.grownBy d none):Fp d b a:=⟨bP g h.1,bP g h.2.1,bP g h.2.2.1,bP g h.2.2.2⟩
theorem Fp.new(w:World)(a)(t):Fp (w.alloc (.cells #[Y a.bH,Y a.aD,Y a.bB,Y a.ae] t)) w.1.size a:=by
 simp[Fp,go_sem]
theorem xe.new(w:World)(a)(t):xe (w.alloc (.cells a.cells t)) w.1.size a:=by
 simp[xe,nC.cells,go_sem]
theorem bN.added{t l:World}{g o:Nat}(h:bN w g o es)(i n:Nat)(y)(B:es.length=n)(C:n<20)(P:i<=n)(A:t=w.setCells g (o+(i+1)*8) (dP (es.drop i)))(f:CF t l (λb j=>b=g/\((o+i*8<=j/\j<o+(i+1)*8)\/j=o+160)))(M:l.rangeAt g (o+i*8) y.bF)(K:l.c g (o+160)=some (Y ((n:Int)+1))):bN l g o (es.take i++[y]++es.drop i)/\CF w l (JR g o):=by
 have a:(dP (es.drop i)).length=(n-i)*8:=by rw[eQ,ef,B]
 have v:CF w t (λb j=>b=g/\o+(i+1)*8<=j/\j<o+160):=by
  rw[A];exact CF.setCells g _ _ _ (CF.refl _ _) (λj p _=>⟨rfl,by omega,by rw[a]at p;omega⟩)
 have J:(es.take i++[y]++es.drop i).length=n+1:=by simp only[cF,ew,ef,de,List.length_nil,B];omega
 have x:CF w l (JR g o):=(v.mono (λb j _ e=>⟨e.1,by omega,by omega⟩)).trans f (λb j _ e=>⟨e.1,by omega,by omega⟩);refine⟨⟨h.live.cf x,?_,?_,by omega⟩,x⟩
 .rw[jY,jY];intro j u d;have m:(dP (es.take i)).length=i*8:=by rw[eQ,ew,gn G]
  have D:(dP [y]).length=8:=by rw[eQ];rfl
  have k:(dP (es.take i)++dP [y]).length=(i+1)*8:=by rw[cF,m,D];omega
  by_cases r:j<(i+1)*8
  .rw[cX (by rw[k];exact r)]at d;by_cases p:j<i*8
   .rw[cX (by rw[m];exact p)]at d;have e:(dP es)[j]?=some u:=by
     conv=>lhs;rw[<-eK i es,jY]
     rw[cX (by rw[m];exact p)];exact d
    exact f.cell (v.cell (h.room j u e) (λq=>by omega)) (λq=>by omega)
   .rw[dr (by rw[m];omega),m]at d;have e:(dP [y])=y.bF:=(by simp[dP]);rw[e]at d;have:=M (j-i*8) u d;rw[show o+i*8+(j-i*8)=o+j from by omega]at this;exact this
  .rw[dr (by rw[k];omega),k]at d;have p:j-(i+1)*8<(n-i)*8:=(by have:=(cM.1 d).1;rwa [a]at this);have e:=World.cell?_setCells_in g (dP (es.drop i)) (o+(i+1)*8) w (λq L=>h.live.some _ (by rw[a]at L;omega)) (j-(i+1)*8) (by rw[a];exact p);rw[<-A,show o+(i+1)*8+(j-(i+1)*8)=o+j from by omega]at e;rw[cN (by rw[a];exact p)]at d;exact f.cell (e.trans d) (λq=>by omega)
 .rw[J,show((n+1:Nat):Int)=(n:Int)+1 from by omega];exact K
theorem bN.ahV{a:World}{g o:Nat}(h:bN w g o es)(i n:Nat)(y)(j:es.length=n)(b:n<20)(f:i<=n)(e:a=w.setCells g (o+(i+1)*8) (dP (es.drop i))){u u0 u1 u2 u3 u4 u5 u6 u7:Value}(d:a.c g (o+160)=some u)(r:a.c g (o+i*8)=some u0)(t:a.c g (o+i*8+1)=some u1)(v:a.c g (o+i*8+2)=some u2)(x:a.c g (o+i*8+3)=some u3)(l:a.c g (o+i*8+4)=some u4)(m:a.c g (o+i*8+5)=some u5)(p:a.c g (o+i*8+6)=some u6)(q:a.c g (o+i*8+7)=some u7){v0 v1 v2 v3 v4 v5 v6 v7:Value}(k:y.bF=[v0,v1,v2,v3,v4,v5,v6,v7]):
  bN (((((((((a.s g (o+i*8) v0).s g (o+i*8+1) v1).s g (o+i*8+2) v2).s g (o+i*8+3) v3).s g (o+i*8+4) v4).s g (o+i*8+5) v5).s g (o+i*8+6) v6).s g (o+i*8+7) v7).s g (o+160) (Y ((n:Int)+1))) g o (es.take i++[y]++es.drop i)/\CF w (((((((((a.s g (o+i*8) v0).s g (o+i*8+1) v1).s g (o+i*8+2) v2).s g (o+i*8+3) v3).s g (o+i*8+4) v4).s g (o+i*8+5) v5).s g (o+i*8+6) v6).s g (o+i*8+7) v7).s g (o+160) (Y ((n:Int)+1))) (JR g o):=by
 refine h.added i n y j b f e ?_ ?_ ?_
 .exact(((((((((CF.refl _ _).setCell _ _ _ G).setCell _ _ _ G).setCell _ _ _ G).setCell _ _ _ G).setCell _ _ _ G).setCell _ _ _ G).setCell _ _ _ G).setCell _ _ _ G).setCell _ _ _ G
 .rw[k];refine LG ?_ ?_ ?_ ?_ ?_ ?_ ?_ ?_
  .exact ay _ (ay _ (ay _ tw G) G) G
  .exact ay _ (ay _ tw G) G
  .exact ay _ tw G
  .grind [dA,ay]
  .exact ay _ (ay _ (ay _ (ay _ (dA _ (ay _ (ay _ (ay _ (ay _ l G) G) G) G)) G) G) G) G
  .exact ay _ (ay _ (ay _ (dA _ (ay _ (ay _ (ay _ (ay _ (ay _ m G) G) G) G) G)) G) G) G
  .exact ay _ (ay _ (dA _ (ay _ (ay _ (ay _ (ay _ (ay _ (ay _ p G) G) G) G) G) G)) G) G
  .exact ay _ (dA _ (ay _ (ay _ (ay _ (ay _ (ay _ (ay _ (ay _ q G) G) G) G) G) G) G)) G
 .exact dA _ (ay _ (ay _ (ay _ (ay _ (ay _ (ay _ (ay _ (ay _ d G) G) G) G) G) G) G) G)
theorem Wc(g o)(es)(a)(w)(h:bN w g o es)(p:es.Pairwise (λx y=>Op.bytesLess x.name y.name=true))(d:-9223372036854775808<=a.ae)(l:a.ae<=9223372036854775807)(m:a.name.length<=9223372036854775807):Calls prog 132 #[N g o,.agg a.cells] w λe t=>e=.returned (Y (Az es a).2)/\bN t g o (Az es a).1/\CF w t (JR g o):=by
 have JP:=I p
 have ad:=h.live.lt
 have af:w.1.size≠g:=λe=>by omega
 have n:=I (cy w (.cells a.cells 41) none)
 have x:=I (h.grown n)
 have f:=I (xe.new w a 41)
 have i:=I (λw=>JQ a w d l)
 have A:=I (λw=>Ay a w)
 have j:=I (λw=>Fh a.name a.name.length ⟨a.name.toArray⟩ w (I rfl) (I rfl) m)
 have k:=I (λw h=>uK g o es a.name ⟨a.name.toArray⟩ w h JP (I rfl))
 have b:(⟨a.name.toArray⟩:ByteArray).size=a.name.length:=by simp[ByteArray.size]
 have I4:=I (λw (q:a.name.length<=16)=>WG ⟨a.name.toArray⟩ w (by rw[b];omega))
 clear p h b d l m
 go_in
 go_wp2_with fail
 refine(A _).mono ?_
 rintro e v ⟨rfl,b⟩
 have q:=I (x.grown b)
 have p:=I (f.grown b)
 have r:=I (aa n b)
 have s1:w.1.size+1<=v.1.size:=by have:=b.size;rw[cG]at this;exact this
 have h:=cy v (.cells #[Y a.bH,Y a.aD,Y a.bB,Y a.ae] 124) none
 have m:=I (q.grown h)
 have l:=p.grown h
 have y:=I (Fp.new v a 124)
 have u:=I (aa r h)
 have B:=l.2.1
 have d:=I l
 clear x f n b q p r h l
 go_wp2_with fail
 refine(k _ m).mono ?_
 rintro e w3 ⟨rfl,b⟩
 have f:=I (m.grown b)
 have l:=I (d.grown b)
 have n:=I (y.grown b)
 have h:=I (aa u b)
 have p:=l.2.1
 clear B m d y u b A k
 go_wp2_with fail
 refine(j _).mono ?_
 rintro e t ⟨rfl,rfl⟩
 clear j
 cases b:dx a.name
 .have r:=I b;go_wp2;go_ret;exact⟨by rw[JU r.o];rfl,by rw[JU r.o];exact f,CF.bD h _⟩
 have r:=I b;have ab:Hid (a.name.length<=16):=by
  have e:=b;rw[dx,Bool.and_eq_true,decide_eq_true_eq]at e;exact e.1.2
 clear b;obtain⟨S,T,U,V⟩:=n.o;go_wp2_with fail;refine(i _).mono ?_;rintro e A ⟨rfl,b⟩;have B:=I (f.grown b);have J:=I (l.grown b);have P4:=I (n.grown b);have D:=I (aa h b);clear p f l n h b i S T U V;cases b:a.qQ
 .have y:=I b;go_wp2;go_ret;exact⟨by rw[Oe r.o y.o];rfl,by rw[Oe r.o y.o];exact B,CF.bD D _⟩
 have y:=I b;clear b;cases b:(BE.pY es a.name).isSome;rotate_left
 .have C:=I b;go_wp2;go_ret;exact⟨by rw[Fj r.o y.o C.o];rfl,by rw[Fj r.o y.o C.o];exact B,CF.bD D _⟩
 have C:=I b;clear b;have u:=B.count;have P:=B.len;obtain⟨n,x⟩:∃n,Hid (es.length=n):=⟨_,I rfl⟩
 rw[x]at u P;by_cases m:n=20
 .subst m;go_wp2;go_ret;exact⟨by rw[JV r.o y.o C.o (by rw[x];exact cA _)];rfl,by rw[JV r.o y.o C.o (by rw[x];exact cA _)];exact B,CF.bD D _⟩
 have L:n<20:=G;have ae:(n:Int)<20:=G;have Q:¬ (n:Int)=20:=G;have an:((n:Int)==20)=false:=by rw[cJ];exact Q
 have n4:=J.2.1;have y4:=J.2.2.1;obtain⟨S,T,U,V⟩:=P4.o;go_wp2_with fail;have b1:=jN S;have b0:=jN n4;have aj:A.1.size≠v.1.size:=G;have ai:A.1.size≠w.1.size:=G;go_cut [8] (λp b=>∃E,p = N E 0/\A.1.size<=E/\b.rangeAt E 0 (BE.new a).bF/\A.grownBy b none)
 case first=>
  clear u P m L ae Q ad af s1;go_region_held3 (λt=>t.c w.1.size 1=some (.string ⟨a.name.toArray⟩)/\t.c w.1.size 2=some (O (a.key.toNat:Int))/\t.c v.1.size 0=some (Y a.bH)/\t.c v.1.size 1=some (Y a.aD)/\t.c v.1.size 2=some (Y a.bB)/\t.c v.1.size 3=some (Y a.ae)) (go_keep) (first|(go_at_call 163;refine(I4 _ ab).mono ?_;rintro e f ⟨rfl,d⟩;(first|have l:A.grownBy f none:=iZ d|(have l:=iZ (aa (cy A.drew _ none) d);have b:b9 f A.1.size 8:=(b9.new A.drew lO 126).grown d;obtain⟨q,q0⟩:=cD.1 (b.some 0 H);obtain⟨K,q1⟩:=cD.1 (b.some 1 H);obtain⟨M,q2⟩:=cD.1 (b.some 2 H);obtain⟨R,q3⟩:=cD.1 (b.some 3 H);obtain⟨W,q4⟩:=cD.1 (b.some 4 H);obtain⟨X,q5⟩:=cD.1 (b.some 5 H);obtain⟨d6,q6⟩:=cD.1 (b.some 6 H);obtain⟨d7,q7⟩:=cD.1 (b.some 7 H);have f0:=b.frozen 0;have f1:=b.frozen 1;have f2:=b.frozen 2;have f3:=b.frozen 3;have f4:=b.frozen 4;have f5:=b.frozen 5;have f6:=b.frozen 6;have f7:=b.frozen 7));have j:=bP l n4;have y5:=bP l y4;have z0:=bP l S;have z1:=bP l T;have z2:=bP l U;have z3:=bP l V;have p:=jN z0;have k:=jN j;have i:f.1.size≠v.1.size:=G;have h:f.1.size≠w.1.size:=G;clear d));all_goals go_wp2
  all_goals go_meet
  .exact⟨_,rfl,l.size,dm.range (g:=f.1.size) ⟨_,heap_alloc_new f _⟩,aM l _⟩
  .refine⟨_,rfl,cA _,jE f _ _ _ _ _ _ _ _ _ q0 q1 q2 q3 q4 q5 q6 q7,?_⟩;repeat refine aB ?_ (cA _)
   exact l
 case rest=>
  obtain⟨E,rfl,hE,f,R⟩:=hcut;have X:=I (B.grown R);have l:=I (aa D R);have c5:=bP R u;obtain⟨i,HI⟩:∃i,Hid (i=BE.ins es a.name):=⟨_,I rfl⟩
  have M:i<=n:=by rw[HI,<-x];exact R9 es a.name
  have ah:(i:Int)<=(n:Int):=G;have al:(0:Int)<=(i:Int):=G;have k:g≠E:=λe=>by have:=D.size;omega
  have e0:wc.c E 0=some (.string ⟨a.name.toArray⟩):=f 0 _ rfl;have e1:wc.c E 1=some (Y 1):=f 1 _ rfl;have e2:wc.c E 2=some (O (a.key.toNat:Int)):=f 2 _ rfl;have e3:wc.c E 3=some (O 0):=f 3 _ rfl;have e4:wc.c E 4=some (Y a.bH):=f 4 _ rfl;have e5:wc.c E 5=some (Y a.aD):=f 5 _ rfl;have e6:wc.c E 6=some (Y a.bB):=f 6 _ rfl;have e7:wc.c E 7=some (Y a.ae):=f 7 _ rfl;obtain⟨d,hd,HD⟩:=JS g o (i+1) G;obtain⟨s,ao,K⟩:=Vb g o i n M G;have ak:=λw=>by
   have:=hd w;rw[show((i+1:Nat):Int)=(i:Int)+1 from by omega,show 20-(i+1)=19-i from by omega]at this;exact this
  have hw:IntKind.i64.wrap ((i:Int)+1)=(i:Int)+1:=pB;have ar:IntKind.i64.wrap ((n:Int)+1)=(n:Int)+1:=pB;have CR:=(X.drewN 1).copy 3 i (i+1) (19-i) (19-i) (n-i) (20-i) d s (λb=>⟨HD G,K G⟩) (by rw[x];omega) G G;obtain⟨W,p⟩:∃W,Hid (W=wc.drew.setCells g (o+(i+1)*8) (dP (es.drop i))):=⟨_,I rfl⟩
  have ag:(Builtin.copy_ #[287,287] 3 #[.slice (some d) (19-i) (19-i),.slice (some s) (n-i) (20-i)]).run prog wc.drew=.ok (Y ((n-i:Nat):Int)) W:=by rw[p];exact CR
  have h:CF wc W (λb j=>b=g/\o+(i+1)*8<=j/\j<o+160):=by
   rw[p];exact CF.setCells g _ _ _ (CF.refl wc _).drew (λj b _=>⟨rfl,by omega,by rw[eQ,ef,x.o]at b;omega⟩)
  have j:=h.cell c5 (λq=>by omega);have b:=X.live.cf h;have x0:=h.cell e0 (λq=>k q.1.symm);have x1:=h.cell e1 (λq=>k q.1.symm);have x2:=h.cell e2 (λq=>k q.1.symm);have x3:=h.cell e3 (λq=>k q.1.symm);have x4:=h.cell e4 (λq=>k q.1.symm);have x5:=h.cell e5 (λq=>k q.1.symm);have x6:=h.cell e6 (λq=>k q.1.symm);have x7:=h.cell e7 (λq=>k q.1.symm);obtain⟨u0,q0⟩:=cD.1 (b.some (o+i*8) G);obtain⟨u1,q1⟩:=cD.1 (b.some (o+i*8+1) G);obtain⟨u2,q2⟩:=cD.1 (b.some (o+i*8+2) G);obtain⟨u3,q3⟩:=cD.1 (b.some (o+i*8+3) G);obtain⟨u4,q4⟩:=cD.1 (b.some (o+i*8+4) G);obtain⟨u5,q5⟩:=cD.1 (b.some (o+i*8+5) G);obtain⟨u6,q6⟩:=cD.1 (b.some (o+i*8+6) G);obtain⟨u7,q7⟩:=cD.1 (b.some (o+i*8+7) G);have z0:=b.frozen (o+i*8);have z1:=b.frozen (o+i*8+1);have z2:=b.frozen (o+i*8+2);have z3:=b.frozen (o+i*8+3);have q:=b.frozen (o+i*8+4);have z5:=b.frozen (o+i*8+5);have z6:=b.frozen (o+i*8+6);have z7:=b.frozen (o+i*8+7);have z8:=b.frozen (o+160);rw[<-HI];clear HD K hd CR h b f R n4 y4 S T U V u e0 e1 e2 e3 e4 e5 e6 e7;go_wp2;go_region;go_wp2;go_region;go_wp2;go_ret;have R:=bN.ahV (X.drewN 1) i n (BE.new a) x L M p j q0 q1 q2 q3 q4 q5 q6 q7 (v0:=.string ⟨a.name.toArray⟩) (v1:=Y 1) (v2:=O (a.key.toNat:Int)) (v3:=O 0) (v4:=Y a.bH) (v5:=Y a.aD) (v6:=Y a.bB) (v7:=Y a.ae) rfl;have e:Az es a=(es.take i++[BE.new a]++es.drop i,0):=by rw[HI];exact Wf r y C (by rw[x];omega)
  exact⟨by rw[e];rfl,by rw[e];exact R.1.drewN 1,(CF.before l R.2.iE).drew⟩
