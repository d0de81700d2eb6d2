import Derived.Test.YtlfifnpjeangmaaGreatDoorGEPBookA
import Derived.Deep.RegionHeld3
namespace Go.Proofs.YtlfifnpjeangmaaGreatDoor
set_option maxHeartbeats 20000000
open Proofs.Tryz Go.RowKit
set_option maxRecDepth 100000
variable {es:List BE}{b:Nat}{w:World}
theorem Uj(S)(w)(h:S.size<=281474976710656):Calls prog 163 #[.string S] w λe a=>e=.returned (.string S)/\w.grownBy a none:=by
 go_in;go_wp2_with fail;refine(Tryz.stringslite_Clone S w h).mono ?_;rintro e f ⟨rfl,a⟩;have G:w.grownBy f none:=⟨a.os,a.tape,a.output,a.size,λb d _=>a.block b d⟩
 clear a;go_wp2;go_ret;exact⟨rfl,G⟩
theorem jF{o:Nat}{v:Value}(h:w.cell? (F b o)=some v):b<w.1.size:=by
 rcases Nat.lt_or_ge b w.1.size with k|k
 .exact k
 .rw[World.cell?,fm k]at h;cases h
def zF(es:List BE)(a:mE):List BE×Int:=
 if di a.name=false then(es,4) else if a.qm=false then(es,1) else if (BE.pq es a.name).isSome then(es,5) else if 20<=es.length then(es,7)
 else(es.take (BE.ins es a.name)++[BE.new a]++es.drop (BE.ins es a.name),0)
theorem Im{a:mE}(h:di a.name=false):zF es a=(es,4):=by rw[zF,dT h]
theorem LV{a:mE}(h:di a.name=true)(b:a.qm=false):zF es a=(es,1):=by rw[zF,cZ (by rw[h];simp),dT b]
theorem DY{a:mE}(h:di a.name=true)(b:a.qm=true)(d:(BE.pq es a.name).isSome=true):zF es a=(es,5):=by rw[zF,cZ (by rw[h];simp),cZ (by rw[b];simp),dT d]
theorem Io{a:mE}(h:di a.name=true)(b:a.qm=true)(d:(BE.pq es a.name).isSome=false)(e:20<=es.length):zF es a=(es,7):=by rw[zF,cZ (by rw[h];simp),cZ (by rw[b];simp),cZ (by rw[d];simp),dT e]
theorem Ts{a:mE}(h:di a.name=true)(b:a.qm=true)(d:(BE.pq es a.name).isSome=false)(e:¬ 20<=es.length):zF es a=(es.take (BE.ins es a.name)++[BE.new a]++es.drop (BE.ins es a.name),0):=by rw[zF,cZ (by rw[h];simp),cZ (by rw[b];simp),cZ (by rw[d];simp),cZ e]
def xO(w:World)(b:Nat)(a:mE):Prop:=w.cell? (F b 0)=some (Y a.kind)/\w.cell? (F b 1)=some (.string ⟨a.name.toArray⟩)/\w.cell? (F b 2)=some (H (a.key.toNat:Int))/\w.cell? (F b 3)=some (Y a.bI)/\w.cell? (F b 4)=some (Y a.aC)/\w.cell? (F b 5)=some (Y a.bB)/\w.cell? (F b 6)=some (Y a.ae)
def DZ(w:World)(b:Nat)(a:mE):Prop:=w.cell? (F b 0)=some (Y a.bI)/\w.cell? (F b 1)=some (Y a.aC)/\w.cell? (F b 2)=some (Y a.bB)/\w.cell? (F b 3)=some (Y a.ae)
theorem xO.grown{d:World}{a:mE}(h:xO w b a)(g:w.grownBy d none):xO d b a:=⟨bN g h.1,bN g h.2.1,bN g h.2.2.1,bN g h.2.2.2.1,bN g h.2.2.2.2.1,bN g h.2.2.2.2.2.1,bN g h.2.2.2.2.2.2⟩
theorem DZ.grown{d:World}{a:mE}(h:DZ w b a)(g:w.grownBy d none):DZ d b a:=⟨bN g h.1,bN g h.2.1,bN g h.2.2.1,bN g h.2.2.2⟩
theorem DZ.new(w:World)(a)(t):DZ (w.alloc (.cells #[Y a.bI,Y a.aC,Y a.bB,Y a.ae] t)) w.1.size a:=by
 simp[DZ,go_sem]
theorem xO.new(w:World)(a)(t):xO (w.alloc (.cells a.cells t)) w.1.size a:=by
 simp[xO,mE.cells,go_sem]
theorem bU.added{t l:World}{g o:Nat}(h:bU w g o es)(i n:Nat)(y)(B:es.length=n)(M:n<20)(P:i<=n)(A:t=w.setCells g (o+(i+1)*8) (dP (es.drop i)))(f:CF t l (λb j=>b=g/\((o+i*8<=j/\j<o+(i+1)*8)\/j=o+160)))(L:l.rangeAt g (o+i*8) y.bE)(J:l.c g (o+160)=some (Y ((n:Int)+1))):bU l g o (es.take i++[y]++es.drop i)/\CF w l (KT g o):=by
 have a:(dP (es.drop i)).length=(n-i)*8:=by rw[eG,dr,B]
 have v:CF w t (λb j=>b=g/\o+(i+1)*8<=j/\j<o+160):=by
  rw[A];exact CF.setCells g _ _ _ (CF.refl _ _) (λj p _=>⟨rfl,by omega,by rw[a]at p;omega⟩)
 have D:(es.take i++[y]++es.drop i).length=n+1:=by simp only[cD,ep,dr,de,List.length_nil,B];omega
 have x:CF w l (KT g o):=(v.mono (λb j _ e=>⟨e.1,by omega,by omega⟩)).trans f (λb j _ e=>⟨e.1,by omega,by omega⟩);refine⟨⟨h.live.cf x,?_,?_,by omega⟩,x⟩
 .rw[jQ,jQ];intro j u d;have m:(dP (es.take i)).length=i*8:=by rw[eG,ep,gh G]
  have C:(dP [y]).length=8:=by rw[eG];rfl
  have k:(dP (es.take i)++dP [y]).length=(i+1)*8:=by rw[cD,m,C];omega
  by_cases r:j<(i+1)*8
  .rw[cW (by rw[k];exact r)]at d;by_cases p:j<i*8
   .rw[cW (by rw[m];exact p)]at d;have e:(dP es)[j]?=some u:=by
     conv=>lhs;rw[<-eN i es,jQ]
     rw[cW (by rw[m];exact p)];exact d
    exact f.cell (v.cell (h.room j u e) (λq=>by omega)) (λq=>by omega)
   .rw[cY (by rw[m];omega),m]at d;have e:(dP [y])=y.bE:=(by simp[dP]);rw[e]at d;have:=L (j-i*8) u d;rw[show o+i*8+(j-i*8)=o+j from by omega]at this;exact this
  .rw[cY (by rw[k];omega),k]at d;have p:j-(i+1)*8<(n-i)*8:=(by have:=(cM.1 d).1;rwa [a]at this);have e:=World.cell?_setCells_in g (dP (es.drop i)) (o+(i+1)*8) w (λq K=>h.live.some _ (by rw[a]at K;omega)) (j-(i+1)*8) (by rw[a];exact p);rw[<-A,show o+(i+1)*8+(j-(i+1)*8)=o+j from by omega]at e;rw[cL (by rw[a];exact p)]at d;exact f.cell (e.trans d) (λq=>by omega)
 .rw[D,show((n+1:Nat):Int)=(n:Int)+1 from by omega];exact J
theorem bU.afs{a:World}{g o:Nat}(h:bU w g o es)(i n:Nat)(y)(j:es.length=n)(b:n<20)(f:i<=n)(e:a=w.setCells g (o+(i+1)*8) (dP (es.drop i))){u u0 u1 u2 u3 u4 u5 u6 u7:Value}(d:a.c g (o+160)=some u)(r:a.c g (o+i*8)=some u0)(t:a.c g (o+i*8+1)=some u1)(v:a.c g (o+i*8+2)=some u2)(x:a.c g (o+i*8+3)=some u3)(l:a.c g (o+i*8+4)=some u4)(m:a.c g (o+i*8+5)=some u5)(p:a.c g (o+i*8+6)=some u6)(q:a.c g (o+i*8+7)=some u7){v0 v1 v2 v3 v4 v5 v6 v7:Value}(k:y.bE=[v0,v1,v2,v3,v4,v5,v6,v7]):
  bU (((((((((a.s g (o+i*8) v0).s g (o+i*8+1) v1).s g (o+i*8+2) v2).s g (o+i*8+3) v3).s g (o+i*8+4) v4).s g (o+i*8+5) v5).s g (o+i*8+6) v6).s g (o+i*8+7) v7).s g (o+160) (Y ((n:Int)+1))) g o (es.take i++[y]++es.drop i)/\CF w (((((((((a.s g (o+i*8) v0).s g (o+i*8+1) v1).s g (o+i*8+2) v2).s g (o+i*8+3) v3).s g (o+i*8+4) v4).s g (o+i*8+5) v5).s g (o+i*8+6) v6).s g (o+i*8+7) v7).s g (o+160) (Y ((n:Int)+1))) (KT g o):=by
 refine h.added i n y j b f e ?_ ?_ ?_
 .exact(((((((((CF.refl _ _).setCell _ _ _ G).setCell _ _ _ G).setCell _ _ _ G).setCell _ _ _ G).setCell _ _ _ G).setCell _ _ _ G).setCell _ _ _ G).setCell _ _ _ G).setCell _ _ _ G
 .rw[k];refine JF ?_ ?_ ?_ ?_ ?_ ?_ ?_ ?_
  .exact ax _ (ax _ (ax _ ti G) G) G
  .exact ax _ (ax _ ti G) G
  .exact ax _ ti G
  .grind [dw,ax]
  .exact ax _ (ax _ (ax _ (ax _ (dw _ (ax _ (ax _ (ax _ (ax _ l G) G) G) G)) G) G) G) G
  .exact ax _ (ax _ (ax _ (dw _ (ax _ (ax _ (ax _ (ax _ (ax _ m G) G) G) G) G)) G) G) G
  .exact ax _ (ax _ (dw _ (ax _ (ax _ (ax _ (ax _ (ax _ (ax _ p G) G) G) G) G) G)) G) G
  .exact ax _ (dw _ (ax _ (ax _ (ax _ (ax _ (ax _ (ax _ (ax _ q G) G) G) G) G) G) G)) G
 .exact dw _ (ax _ (ax _ (ax _ (ax _ (ax _ (ax _ (ax _ (ax _ d G) G) G) G) G) G) G) G)
theorem Tr(g o)(es)(a)(w)(h:bU w g o es)(p:es.Pairwise (λx y=>Op.bytesLess x.name y.name=true))(d:-9223372036854775808<=a.ae)(l:a.ae<=9223372036854775807)(m:a.name.length<=9223372036854775807):Calls prog 132 #[π g o,.agg a.cells] w λe t=>e=.returned (Y (zF es a).2)/\bU t g o (zF es a).1/\CF w t (KT g o):=by
 have Ij:=I p
 have ad:=h.live.lt
 have af:w.1.size≠g:=λe=>by omega
 have n:=I (cx w (.cells a.cells 41) none)
 have x:=I (h.grown n)
 have f:=I (xO.new w a 41)
 have i:=I (λw=>Ik a w d l)
 have A:=I (λw=>zD a w)
 have j:=I (λw=>DX a.name a.name.length ⟨a.name.toArray⟩ w (I rfl) (I rfl) m)
 have k:=I (λw h=>tX g o es a.name ⟨a.name.toArray⟩ w h Ij (I rfl))
 have b:(⟨a.name.toArray⟩:ByteArray).size=a.name.length:=by simp[ByteArray.size]
 have Gl:=I (λw (q:a.name.length<=16)=>Uj ⟨a.name.toArray⟩ w (by rw[b];omega))
 clear p h b d l m
 go_in
 go_wp2_with fail
 refine(A _).mono ?_
 rintro e v ⟨rfl,b⟩
 have q:=I (x.grown b)
 have p:=I (f.grown b)
 have r:=I (aa n b)
 have s1:w.1.size+1<=v.1.size:=by have:=b.size;rw[cF]at this;exact this
 have h:=cx v (.cells #[Y a.bI,Y a.aC,Y a.bB,Y a.ae] 124) none
 have m:=I (q.grown h)
 have l:=p.grown h
 have y:=I (DZ.new v a 124)
 have u:=I (aa r h)
 have B:=l.2.1
 have d:=I l
 clear x f n b q p r h l
 go_wp2_with fail
 refine(k _ m).mono ?_
 rintro e w3 ⟨rfl,b⟩
 have f:=I (m.grown b)
 have l:=I (d.grown b)
 have n:=I (y.grown b)
 have h:=I (aa u b)
 have p:=l.2.1
 clear B m d y u b A k
 go_wp2_with fail
 refine(j _).mono ?_
 rintro e t ⟨rfl,rfl⟩
 clear j
 cases b:di a.name
 .have r:=I b;go_wp2;go_ret;exact⟨by rw[Im r.o];rfl,by rw[Im r.o];exact f,CF.bF h _⟩
 have r:=I b;have ab:Hid (a.name.length<=16):=by
  have e:=b;rw[di,Bool.and_eq_true,decide_eq_true_eq]at e;exact e.1.2
 clear b;obtain⟨Q,S,T,U⟩:=n.o;go_wp2_with fail;refine(i _).mono ?_;rintro e A ⟨rfl,b⟩;have B:=I (f.grown b);have J:=I (l.grown b);have P4:=I (n.grown b);have D:=I (aa h b);clear p f l n h b i Q S T U;cases b:a.qm
 .have y:=I b;go_wp2;go_ret;exact⟨by rw[LV r.o y.o];rfl,by rw[LV r.o y.o];exact B,CF.bF D _⟩
 have y:=I b;clear b;cases b:(BE.pq es a.name).isSome;rotate_left
 .have C:=I b;go_wp2;go_ret;exact⟨by rw[DY r.o y.o C.o];rfl,by rw[DY r.o y.o C.o];exact B,CF.bF D _⟩
 have C:=I b;clear b;have u:=B.count;have M:=B.len;obtain⟨n,x⟩:∃n,Hid (es.length=n):=⟨_,I rfl⟩
 rw[x]at u M;by_cases m:n=20
 .subst m;go_wp2;go_ret;exact⟨by rw[Io r.o y.o C.o (by rw[x];exact cy _)];rfl,by rw[Io r.o y.o C.o (by rw[x];exact cy _)];exact B,CF.bF D _⟩
 have X8:n<20:=G;have ae:(n:Int)<20:=G;have P:¬ (n:Int)=20:=G;have an:((n:Int)==20)=false:=by rw[cJ];exact P
 have n4:=J.2.1;have y4:=J.2.2.1;obtain⟨Q,S,T,U⟩:=P4.o;go_wp2_with fail;have b1:=jF Q;have b0:=jF n4;have aj:A.1.size≠v.1.size:=G;have ai:A.1.size≠w.1.size:=G;go_cut [8] (λp b=>∃E,p = π E 0/\A.1.size<=E/\b.rangeAt E 0 (BE.new a).bE/\A.grownBy b none)
 case first=>
  clear u M m X8 ae P ad af s1;go_region_held3 (λt=>t.c w.1.size 1=some (.string ⟨a.name.toArray⟩)/\t.c w.1.size 2=some (H (a.key.toNat:Int))/\t.c v.1.size 0=some (Y a.bI)/\t.c v.1.size 1=some (Y a.aC)/\t.c v.1.size 2=some (Y a.bB)/\t.c v.1.size 3=some (Y a.ae)) (go_keep) (first|(go_at_call 163;refine(Gl _ ab).mono ?_;rintro e f ⟨rfl,d⟩;(first|have k:A.grownBy f none:=jg d|(have k:=jg (aa (cx A.drew _ none) d);have b:b' f A.1.size 8:=(b'.new A.drew lB 126).grown d;obtain⟨q,q0⟩:=cA.1 (b.some 0 O);obtain⟨K,q1⟩:=cA.1 (b.some 1 O);obtain⟨L,q2⟩:=cA.1 (b.some 2 O);obtain⟨R,q3⟩:=cA.1 (b.some 3 O);obtain⟨V,q4⟩:=cA.1 (b.some 4 O);obtain⟨W,q5⟩:=cA.1 (b.some 5 O);obtain⟨X,q6⟩:=cA.1 (b.some 6 O);obtain⟨d7,q7⟩:=cA.1 (b.some 7 O);have f0:=b.frozen 0;have f1:=b.frozen 1;have f2:=b.frozen 2;have f3:=b.frozen 3;have f4:=b.frozen 4;have f5:=b.frozen 5;have f6:=b.frozen 6;have f7:=b.frozen 7));have j:=bN k n4;have y5:=bN k y4;have z0:=bN k Q;have z1:=bN k S;have z2:=bN k T;have z3:=bN k U;have p:=jF z0;have l:=jF j;have i:f.1.size≠v.1.size:=G;have h:f.1.size≠w.1.size:=G;clear d));all_goals go_wp2
  all_goals go_meet
  .exact⟨_,rfl,k.size,dz.range (g:=f.1.size) ⟨_,heap_alloc_new f _⟩,aM k _⟩
  .refine⟨_,rfl,cy _,jw f _ _ _ _ _ _ _ _ _ q0 q1 q2 q3 q4 q5 q6 q7,?_⟩;repeat refine az ?_ (cy _)
   exact k
 case rest=>
  obtain⟨E,rfl,hE,f,R⟩:=hcut;have W:=I (B.grown R);have k:=I (aa D R);have c5:=bN R u;obtain⟨i,X⟩:∃i,Hid (i=BE.ins es a.name):=⟨_,I rfl⟩
  have L:i<=n:=by rw[X,<-x];exact PI es a.name
  have ah:(i:Int)<=(n:Int):=G;have al:(0:Int)<=(i:Int):=G;have h:g≠E:=λe=>by have:=D.size;omega
  have e0:wc.c E 0=some (.string ⟨a.name.toArray⟩):=f 0 _ rfl;have e1:wc.c E 1=some (Y 1):=f 1 _ rfl;have e2:wc.c E 2=some (H (a.key.toNat:Int)):=f 2 _ rfl;have e3:wc.c E 3=some (H 0):=f 3 _ rfl;have e4:wc.c E 4=some (Y a.bI):=f 4 _ rfl;have e5:wc.c E 5=some (Y a.aC):=f 5 _ rfl;have e6:wc.c E 6=some (Y a.bB):=f 6 _ rfl;have e7:wc.c E 7=some (Y a.ae):=f 7 _ rfl;obtain⟨d,hd,HD⟩:=Il g o (i+1) G;obtain⟨s,ao,K⟩:=Sz g o i n L G;have ak:=λw=>by
   have:=hd w;rw[show((i+1:Nat):Int)=(i:Int)+1 from by omega,show 20-(i+1)=19-i from by omega]at this;exact this
  have hw:IntKind.i64.wrap ((i:Int)+1)=(i:Int)+1:=oE;have ar:IntKind.i64.wrap ((n:Int)+1)=(n:Int)+1:=oE;have CR:=(W.drewN 1).copy 3 i (i+1) (19-i) (19-i) (n-i) (20-i) d s (λb=>⟨HD G,K G⟩) (by rw[x];omega) G G;obtain⟨V,p⟩:∃V,Hid (V=wc.drew.setCells g (o+(i+1)*8) (dP (es.drop i))):=⟨_,I rfl⟩
  have ag:(Builtin.copy_ #[287,287] 3 #[.slice (some d) (19-i) (19-i),.slice (some s) (n-i) (20-i)]).run prog wc.drew=.ok (Y ((n-i:Nat):Int)) V:=by rw[p];exact CR
  have l:CF wc V (λb j=>b=g/\o+(i+1)*8<=j/\j<o+160):=by
   rw[p];exact CF.setCells g _ _ _ (CF.refl wc _).drew (λj b _=>⟨rfl,by omega,by rw[eG,dr,x.o]at b;omega⟩)
  have j:=l.cell c5 (λq=>by omega);have b:=W.live.cf l;have x0:=l.cell e0 (λq=>h q.1.symm);have x1:=l.cell e1 (λq=>h q.1.symm);have x2:=l.cell e2 (λq=>h q.1.symm);have x3:=l.cell e3 (λq=>h q.1.symm);have x4:=l.cell e4 (λq=>h q.1.symm);have x5:=l.cell e5 (λq=>h q.1.symm);have x6:=l.cell e6 (λq=>h q.1.symm);have x7:=l.cell e7 (λq=>h q.1.symm);obtain⟨u0,q0⟩:=cA.1 (b.some (o+i*8) G);obtain⟨u1,q1⟩:=cA.1 (b.some (o+i*8+1) G);obtain⟨u2,q2⟩:=cA.1 (b.some (o+i*8+2) G);obtain⟨u3,q3⟩:=cA.1 (b.some (o+i*8+3) G);obtain⟨u4,q4⟩:=cA.1 (b.some (o+i*8+4) G);obtain⟨u5,q5⟩:=cA.1 (b.some (o+i*8+5) G);obtain⟨u6,q6⟩:=cA.1 (b.some (o+i*8+6) G);obtain⟨u7,q7⟩:=cA.1 (b.some (o+i*8+7) G);have z0:=b.frozen (o+i*8);have z1:=b.frozen (o+i*8+1);have z2:=b.frozen (o+i*8+2);have z3:=b.frozen (o+i*8+3);have q:=b.frozen (o+i*8+4);have z5:=b.frozen (o+i*8+5);have z6:=b.frozen (o+i*8+6);have z7:=b.frozen (o+i*8+7);have z8:=b.frozen (o+160);rw[<-X];clear HD K hd CR l b f R n4 y4 Q S T U u e0 e1 e2 e3 e4 e5 e6 e7;go_wp2;go_region;go_wp2;go_region;go_wp2;go_ret;have R:=bU.afs (W.drewN 1) i n (BE.new a) x X8 L p j q0 q1 q2 q3 q4 q5 q6 q7 (v0:=.string ⟨a.name.toArray⟩) (v1:=Y 1) (v2:=H (a.key.toNat:Int)) (v3:=H 0) (v4:=Y a.bI) (v5:=Y a.aC) (v6:=Y a.bB) (v7:=Y a.ae) rfl;have e:zF es a=(es.take i++[BE.new a]++es.drop i,0):=by rw[X];exact Ts r y C (by rw[x];omega)
  exact⟨by rw[e];rfl,by rw[e];exact R.1.drewN 1,(CF.before k R.2.jN).drew⟩
