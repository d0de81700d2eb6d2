import Derived.Test.YtlfifnpjeangmaaGreatDoorGEPPrfA
import Derived.Deep.CutBlock
import Derived.Test.YtlfifnpjeangmaaGreatDoorGEPOpenB
namespace Go.Proofs.YtlfifnpjeangmaaGreatDoor
set_option maxHeartbeats 1000000
open Proofs.Tryz Go.RowKit
set_option maxRecDepth 100000
variable {b:Nat}{w:World}{p:Prop}
def rG(x:Option BE):List Value:=match x with|none=>lB.toList|some e=>e.bE
def nN(x:Option BE):Value:=.tuple #[.agg (rG x).toArray,.bool x.isSome]
def mC(T:Nat):Nat:=if T=247 then 281 else 277
theorem Bt(T)(a)(W):(callFunc (mC T) a).run prog W=.ok (.enter (mC T) a) W:=by
 unfold mC;split
 .kernel_rfl
 .kernel_rfl
structure Finds(ff:Nat)(J:World->Prop)(dQ sW:Nat->Nat->Prop)(rv:Value)(es:List BE):Prop where
 call:∀W,J W->∀l:E,Calls prog ff #[rv,.string ⟨l.toArray⟩] W λe w'=>e=.returned (nN (BE.find es l))/\J w'/\CF W w' dQ
 stay:∀W W',J W->CF W W' sW->J W'
theorem iM(x):∃a b d e f g h i,rG x=[.string a,Y b,H d,H e,Y f,Y g,Y h,Y i]:=by cases x<;>exact⟨_,_,_,_,_,_,_,_,rfl⟩
theorem gZ{d:World}{o:Nat}{a:List Value}(h:w.rangeAt b o a)(k:w.grownBy d none):d.rangeAt b o a:=λi v e=>k.cell (h i v e) Z
theorem gI(h:b' w b 8):(∃d,w.c b 0=some d)/\(∃d,w.c b 1=some d)/\(∃d,w.c b 2=some d)/\(∃d,w.c b 3=some d)/\(∃d,w.c b 4=some d)/\(∃d,w.c b 5=some d)/\(∃d,w.c b 6=some d)/\(∃d,w.c b 7=some d)/\w.z b 0=false/\w.z b 1=false/\w.z b 2=false/\w.z b 3=false/\w.z b 4=false/\w.z b 5=false/\w.z b 6=false/\w.z b 7=false:=by
 have a:=λj d=>cA.1 (h.some j d);exact⟨a 0 O,a 1 O,a 2 O,a 3 O,a 4 O,a 5 O,a 6 O,a 7 O,h.frozen 0,h.frozen 1,h.frozen 2,h.frozen 3,h.frozen 4,h.frozen 5,h.frozen 6,h.frozen 7⟩
theorem jY{a d e f g i j k:Value}(h:w.rangeAt b 0 [a,d,e,f,g,i,j,k]):w.cell? (F b 0)=some a/\w.cell? (F b 1)=some d/\w.cell? (F b 2)=some e/\w.cell? (F b 3)=some f/\w.cell? (F b 4)=some g/\w.cell? (F b 5)=some i/\w.cell? (F b 6)=some j/\w.cell? (F b 7)=some k:=
 ⟨h 0 _ rfl,h 1 _ rfl,h 2 _ rfl,h 3 _ rfl,h 4 _ rfl,h 5 _ rfl,h 6 _ rfl,h 7 _ rfl⟩
theorem rB(h:p:=by
 repeat refine CF.setCell ?_ _ _ _ (λ_=>rfl)
 exact CF.refl _ _):p:=h
theorem Yk(w)(b c)(m:b≠c)(a d f g h i j k u0 u1 u2 u3 u4 u5 u6 u7)(r:w.rangeAt b 0 [a,d,f,g,h,i,j,k])(t:w.rangeAt c 0 [u0,u1,u2,u3,u4,u5,u6,u7]):
  ((((((((((((((((w.setCell (F b 0) a).setCell (F b 1) d).setCell (F b 2) f).setCell (F b 3) g).setCell (F b 4) h).setCell (F b 5) i).setCell (F b 6) j).setCell (F b 7) k).setCell (F c 0) u0).setCell (F c 1) u1).setCell (F c 2) u2).setCell (F c 3) u3).setCell (F c 4) u4).setCell (F c 5) u5).setCell (F c 6) u6).setCell (F c 7) u7).rangeAt b 0 [a,d,f,g,h,i,j,k]/\((((((((((((((((w.setCell (F b 0) a).setCell (F b 1) d).setCell (F b 2) f).setCell (F b 3) g).setCell (F b 4) h).setCell (F b 5) i).setCell (F b 6) j).setCell (F b 7) k).setCell (F c 0) u0).setCell (F c 1) u1).setCell (F c 2) u2).setCell (F c 3) u3).setCell (F c 4) u4).setCell (F c 5) u5).setCell (F c 6) u6).setCell (F c 7) u7).rangeAt c 0 [u0,u1,u2,u3,u4,u5,u6,u7]/\CF w ((((((((((((((((w.setCell (F b 0) a).setCell (F b 1) d).setCell (F b 2) f).setCell (F b 3) g).setCell (F b 4) h).setCell (F b 5) i).setCell (F b 6) j).setCell (F b 7) k).setCell (F c 0) u0).setCell (F c 1) u1).setCell (F c 2) u2).setCell (F c 3) u3).setCell (F c 4) u4).setCell (F c 5) u5).setCell (F c 6) u6).setCell (F c 7) u7) (λx _=>x=b\/x=c):=by
 obtain⟨u,v,y,A,B,C,D,J⟩:=jY r
 have p:=jw w b a d f g h i j k u v y A B C D J
 unfold World.s at p
 have n:CF w ((((((((w.setCell (F b 0) a).setCell (F b 1) d).setCell (F b 2) f).setCell (F b 3) g).setCell (F b 4) h).setCell (F b 5) i).setCell (F b 6) j).setCell (F b 7) k) (λx _=>x=b):=by
  exact rB
 have l:=n.range t (λ_ _ e=>m e.symm)
 generalize ((((((((w.setCell (F b 0) a).setCell (F b 1) d).setCell (F b 2) f).setCell (F b 3) g).setCell (F b 4) h).setCell (F b 5) i).setCell (F b 6) j).setCell (F b 7) k)=W8 at *
 obtain⟨K,L,M,P,Q,R,S,T⟩:=jY l
 have q:=jw W8 c u0 u1 u2 u3 u4 u5 u6 u7 K L M P Q R S T
 have o:CF W8 ((((((((W8.setCell (F c 0) u0).setCell (F c 1) u1).setCell (F c 2) u2).setCell (F c 3) u3).setCell (F c 4) u4).setCell (F c 5) u5).setCell (F c 6) u6).setCell (F c 7) u7) (λx _=>x=c):=by
  exact rB
 exact⟨(by grind [CF.range]),q,(n.mono (λ_ _ _ e=>.inl e)).trans o (λ_ _ _ e=>.inr e)⟩
theorem Gr{k:Func}{a b u:Tmp}{e:TypeId}(h:k.results=#[.cell a e,.cell b e,.tmp u])(d)(P)(w)(f g)(hp:d.getD a undef = π f 0)(n:d.getD b undef = π g 0)(x y)(l:(loadVar e ⟨f,0,none⟩).run P w=.ok x w)(m:(loadVar e ⟨g,0,none⟩).run P w=.ok y w):
  (results k d).run P w=.ok (.tuple #[x,y,d.getD u undef]) w:=by
 have i:d[a]?.getD undef = π f 0:=rj
 have j:d[b]?.getD undef = π g 0:=by simpa using n
 simp[results,h,i,j,l,m,asAddr]
theorem A'(h:p:=by
 go_wp2_with (first|(go_at_call 207;refine yw.mono ?_;clear yw;rintro e w1 ⟨rfl,rfl⟩)|(go_at_call 207;refine FZ.mono ?_;clear FZ;rintro e w1 ⟨rfl,rfl⟩)|(go_at_call 208;refine HH1.mono ?_;clear HH1;rintro e w1 ⟨rfl,rfl⟩)|(go_at_call 208;refine Mo.mono ?_;clear Mo;rintro e w1 ⟨rfl,rfl⟩))
 go_meet
 exact⟨by rw[yP];simp,rfl⟩):p:=h
theorem tA(h:p:=by
 rw[cF]at h
 rw[hW0]
 exact h):p:=h
theorem DP(h:p:=by
 repeat refine CF.setCell ?_ _ _ _ (λ_=>H3 _ _ G)
 exact CF.refl _ _):p:=h
theorem Iy (u p T:Nat) (fv rv) (J:World->Prop) (t sW:Nat->Nat->Prop) (C) (g k) (l i q m a) (w)
  (hm:∀W,(method 520 T fv "Find").run prog W=.ok (mC T,rv) W) (hF:Finds (mC T) J t sW rv C) (hJ:J w)
  (c0:w.c u 0=some (.iface T fv)) (c4:w.c u 4=some (Y a)) (U:∀y,¬ t u y) (V:∀b y,p<=b->¬ t b y) (h3:∀b y,p<=b->sW b y) (D:p<=w.1.size) :Calls prog 171 #[π u 0,.agg #[.string ⟨g.toArray⟩,Y l,Y i],.agg #[.string ⟨k.toArray⟩,Y q,Y m]] w λe A=>e=.returned (.tuple #[.agg (rG (BE.find C g)).toArray,.agg (rG (BE.find C k)).toArray,Y (dS (BE.find C g) (BE.find C k) a l q i m)])/\J A/\CF w A t:=by
 obtain⟨r,hW0⟩:=aw ((((w.alloc (.cells #[.string ⟨g.toArray⟩,Y l,Y i] 328)).alloc (.cells #[.string ⟨k.toArray⟩,Y q,Y m] 328)).alloc (.cells lB 126)).alloc (.cells lB 126))
 have j:w.grownBy r none:=by rw[hW0];exact aM (aM (aM (cx w _ none) _) _) _
 have s0:r.1.size=w.1.size+4:=by rw[hW0];simp only[cF]
 have B:r.rangeAt w.1.size 0 [.string ⟨g.toArray⟩,Y l,Y i]:=by
  rw[hW0];exact gZ (aS w #[.string ⟨g.toArray⟩,Y l,Y i] _) (aM (aM (cx _ _ none) _) _)
 have RB:r.rangeAt (w.1.size+1) 0 [.string ⟨k.toArray⟩,Y q,Y m]:=by
  have h:=gZ (aS (w.alloc (.cells #[.string ⟨g.toArray⟩,Y l,Y i] 328)) #[.string ⟨k.toArray⟩,Y q,Y m] 328) (aM (cx _ (.cells lB 126) none) (.cells lB 126));exact tA
 have Q:b' r (w.1.size+1+1) 8:=by
  have h:=(b'.new ((w.alloc (.cells #[.string ⟨g.toArray⟩,Y l,Y i] 328)).alloc (.cells #[.string ⟨k.toArray⟩,Y q,Y m] 328)) lB 126).grown (cx _ (.cells lB 126) none);rw[cF,cF]at h;rw[hW0];exact h
 have LB:b' r (w.1.size+1+1+1) 8:=by
  have h:=b'.new (((w.alloc (.cells #[.string ⟨g.toArray⟩,Y l,Y i] 328)).alloc (.cells #[.string ⟨k.toArray⟩,Y q,Y m] 328)).alloc (.cells lB 126)) lB 126;rw[cF,cF,cF]at h;rw[hW0];exact h
 obtain⟨x,f⟩:=N (BE.find C g)
 obtain⟨y,n⟩:=N (BE.find C k)
 have X:=I (λW d=>hF.call W d g)
 have HB:=I (λW d=>hF.call W d k)
 rw[f]at X
 rw[n]at HB
 rw[f,n]
 clear f n
 obtain⟨v0,v1,v2,v3,v4,v5,v6,v7,L⟩:=iM x
 obtain⟨u0,u1,u2,u3,u4,u5,u6,u7,K⟩:=iM y
 obtain⟨ba,d⟩:=N x.isSome
 obtain⟨bb,f⟩:=N y.isSome
 unfold nN at X HB
 rw[L,d]at X
 rw[K,f]at HB
 have n:=I hF.stay
 have HJ:=I hJ
 have ab:=I hW0
 have Hv:=I L
 have Hu:=I K
 have R:=I d
 have S:=I f
 have sS:=I j
 have a0:=j.cell c0 Z
 have a1:r.c w.1.size 0=some (.string ⟨g.toArray⟩):=B 0 _ rfl
 have Iz:=I B
 have SB:=I RB
 have M:=I Q
 have P:=I LB
 have HN:Hid (w.1.size<=u->False):=λe=>by have:=jF c0;omega
 have n1:w.1.size+1+1≠u:=λe=>HN G
 have n2:w.1.size+1+1≠w.1.size:=G
 have n3:w.1.size+1+1+1≠u:=λe=>HN G
 have n4:w.1.size+1+1+1≠w.1.size+1:=G
 have H1:=I U
 have v:=I V
 have H3:=I h3
 clear hF hJ hW0 L K d f B RB Q LB U V h3 j
 have ad:=Bt T
 go_in
 go_wp2_with fail
 rw[<-ab]
 go_cut [9] (λc f=>c=.bool ba/\f.rangeAt (w.1.size+1+1) 0 [.string v0,Y v1,H v2,H v3,Y v4,Y v5,Y v6,Y v7]/\J f/\CF r f (λb y=>t b y\/b=w.1.size+1+1))
 case first=>
  go_region_held3 (λA=>A.c u 0=some (.iface T fv)/\A.c w.1.size 0=some (.string ⟨g.toArray⟩)) (go_keep) (first|((with_reducible show Calls _ (mC T) _ _ _);refine(X _ (n _ _ HJ (CF.bF (aR sS 1) _))).mono ?_;rintro e w1 ⟨rfl,V,d⟩;have b0:=d.dM.cell a0 (H1 0);have b1:=d.dM.cell a1 (v _ 0 D);have W:=I V;have K:=I d.dM;clear V d;have hL:=M.cf K.o;obtain⟨⟨d0,q0⟩,⟨d1,q1⟩,⟨d2,q2⟩,⟨d3,q3⟩,⟨d4,q4⟩,⟨d5,q5⟩,⟨d6,q6⟩,⟨d7,q7⟩,f0,f1,f2,f3,f4,f5,f6,f7⟩:=gI hL));go_wp2;go_meet;refine⟨rfl,jw _ _ _ _ _ _ _ _ _ _ q0 q1 q2 q3 q4 q5 q6 q7,?_,?_⟩
  .refine n _ _ W ?_;exact DP
  .repeat refine CF.setCell ?_ _ _ _ (λ_=>.inr rfl)
   exact K.mono (λ_ _ _ e=>.inl e)
 case rest=>
  obtain⟨rfl,U,B,j⟩:=hcut;have Q:=I U;have W:=I B;have K:=I j;have k0:=j.cell a0 (λe=>by rcases e with e|e;exact H1 _ e;exact HN G);have k1:wc.c (w.1.size+1) 0=some (.string ⟨k.toArray⟩):=j.cell (SB 0 _ rfl) (λe=>by rcases e with e|e;exact v _ _ G e;omega);clear U B j a0 a1;go_wp2_with fail;go_cut [10] (λc f=>c=.bool bb/\f.rangeAt (w.1.size+1+1+1) 0 [.string u0,Y u1,H u2,H u3,Y u4,Y u5,Y u6,Y u7]/\f.rangeAt (w.1.size+1+1) 0 [.string v0,Y v1,H v2,H v3,Y v4,Y v5,Y v6,Y v7]/\J f/\CF r f (λb y=>t b y\/b=w.1.size+1+1\/b=w.1.size+1+1+1))
  case first=>
   go_region_held3 (λA=>A.c u 0=some (.iface T fv)/\A.c (w.1.size+1) 0=some (.string ⟨k.toArray⟩)) (go_keep) (first|((with_reducible show Calls _ (mC T) _ _ _);refine(HB _ (n _ _ W (CF.bF (aR (cC _ _) 1) _))).mono ?_;rintro e w1 ⟨rfl,V,d⟩;have b0:=d.dM.cell k0 (H1 0);have b1:=d.dM.cell k1 (v _ 0 G);have B:=I V;have L:=I d.dM;clear V d;have hL:=(P.cf K).cf L.o;obtain⟨⟨d0,q0⟩,⟨d1,q1⟩,⟨d2,q2⟩,⟨d3,q3⟩,⟨d4,q4⟩,⟨d5,q5⟩,⟨d6,q6⟩,⟨d7,q7⟩,f0,f1,f2,f3,f4,f5,f6,f7⟩:=gI hL));go_wp2;go_meet;have d:=L.mono (ex':=λb y=>t b y\/b=w.1.size+1+1+1) (λ_ _ _ e=>.inl e);refine⟨rfl,jw _ _ _ _ _ _ _ _ _ _ q0 q1 q2 q3 q4 q5 q6 q7,?_,?_,?_⟩
   .refine CF.range (ex:=λb y=>t b y\/b=w.1.size+1+1+1) ?_ Q (λj _ e=>?_)
    .repeat refine CF.setCell ?_ _ _ _ (λ_=>.inr rfl)
     exact d
    .rcases e with e|e
     .exact v _ _ G e
     .omega
   .refine n _ _ B ?_;exact DP
   .refine(K.mono (λ_ _ _ e=>e.elim .inl (λe=>.inr (.inl e)))).trans (ex2:=λb y=>t b y\/b=w.1.size+1+1+1) ?_ (λ_ _ _ e=>e.elim .inl (λe=>.inr (.inr e)));repeat refine CF.setCell ?_ _ _ _ (λ_=>.inr rfl)
    exact d
  case rest=>
   obtain⟨rfl,WY,U,A,d⟩:=hcut;have V:=I U;have j:=I WY;have B:=I A;have L:=I d;clear W K Q k0 k1;have t1:wc.c w.1.size 1=some (Y l):=d.cell (Iz 1 _ rfl) (λe=>by rcases e with e|e|e;exact v _ _ G e;omega;omega);have t2:wc.c w.1.size 2=some (Y i):=d.cell (Iz 2 _ rfl) (λe=>by rcases e with e|e|e;exact v _ _ G e;omega;omega);have t3:wc.c (w.1.size+1) 1=some (Y q):=d.cell (SB 1 _ rfl) (λe=>by rcases e with e|e|e;exact v _ _ G e;omega;omega);have t4:wc.c (w.1.size+1) 2=some (Y m):=d.cell (SB 2 _ rfl) (λe=>by rcases e with e|e|e;exact v _ _ G e;omega;omega);have t5:=d.cell (sS.cell c4 Z) (λe=>by rcases e with e|e|e;exact H1 _ e;exact n1 e.symm;exact n3 e.symm);clear U WY A d;go_upto_block 0 with fail
   go_cut [8] (λc f=>c = Y (dS x y a l q i m)/\f=wc)
   case first=>
    cases x with
    |none=>
     obtain rfl:ba=false:=R.o.symm;go_wp2_with fail;go_meet;exact⟨rfl,rfl⟩
    |some e=>
     obtain rfl:ba=true:=R.o.symm;cases y with
     |none=>
      obtain rfl:bb=false:=S.o.symm;go_wp2_with fail;go_meet;exact⟨rfl,rfl⟩
     |some f=>
      obtain rfl:bb=true:=S.o.symm;have d:wc.rangeAt (w.1.size+1+1) 0 e.bE:=(by have h:=V.o;rw[<-Hv]at h;exact h);have A:wc.rangeAt (w.1.size+1+1+1) 0 f.bE:=(by have h:=j.o;rw[<-Hu]at h;exact h);have yw:=I (Ec (w.1.size+1+1) 4 e a wc (d 6 _ rfl));have FZ:=I (Ec (w.1.size+1+1+1) 4 f a wc (A 6 _ rfl));have HH1:=I (zI (w.1.size+1+1) 4 e 32 5 wc O O (d 7 _ rfl));have Mo:=I (zI (w.1.size+1+1+1) 4 f 32 5 wc O O (A 7 _ rfl));have yP:Hid (dS (some e) (some f) a l q i m=if e.gone a=true then i else if f.gone a=true then m else if e.has 32=true\/f.has 32=true then 12 else 0):=rfl;clear d A;generalize e.gone a=b1 at *;generalize f.gone a=b2 at *;generalize e.has 32=b3 at *;generalize f.has 32=b4 at *;generalize dS (some e) (some f) a l q i m=pc at *;cases b1 with
      |true=>
       go_wp2_with (first|(go_at_call 207;refine yw.mono ?_;clear yw;rintro e w1 ⟨rfl,rfl⟩))
       go_meet;exact⟨by rw[yP];rfl,rfl⟩
      |false=>
       cases b2 with
       |true=>
        go_wp2_with (first|(go_at_call 207;refine yw.mono ?_;clear yw;rintro e w1 ⟨rfl,rfl⟩)|(go_at_call 207;refine FZ.mono ?_;clear FZ;rintro e w1 ⟨rfl,rfl⟩))
        go_meet;exact⟨by rw[yP];rfl,rfl⟩
       |false=>
        cases b3 with
        |true=>
         exact A'
        |false=>
         cases b4 with
         |true=>
          exact A'
         |false=>
          exact A'
   case rest=>
    obtain⟨rfl,rfl⟩:=hcut;clear t1 t2 t3 t4 t5;obtain⟨p0,p1,p2,p3,p4,p5,p6,p7⟩:=jY V.o;obtain⟨r0,r1,r2,r3,r4,r5,r6,r7⟩:=jY j.o;have d:=(M.cf L)
    have f:=(P.cf L)
    obtain⟨_,_,_,_,_,_,_,_,f0,f1,f2,f3,f4,f5,f6,f7⟩:=gI d;obtain⟨_,_,_,_,_,_,_,_,A,g1,g2,g3,g4,g5,g6,g7⟩:=gI f;clear d f;go_wp2_with fail;have d:=Yk wc (w.1.size+1+1) (w.1.size+1+1+1) G _ _ _ _ _ _ _ _ _ _ _ _ _ _ _ _ V j.o;refine bodyPost_ret (Gr results171 _ _ _ (w.1.size+1+1) (w.1.size+1+1+1) rfl rfl _ _ (eP d.1 126 _ underlying126 rfl Tryz.iT) (eP d.2.1 126 _ underlying126 rfl Tryz.iT)) rfl ⟨by rw[Hv,Hu];rfl,?_,?_⟩
    .exact n _ _ B (d.2.2.mono (λb _ _ e=>H3 _ _ (by rcases e with e|e<;>omega)))
    .refine((CF.before sS L).trans d.2.2 (λ_ _ _ e=>e.elim (λe=>.inr (.inl e)) (λe=>.inr (.inr e)))).mono (λb _ f e=>?_);rcases e with e|e|e
     .exact e
     .omega
     .omega
theorem SC:∀(a)(l),((BE.pq a l).isSome=false->BE.find a l=none)/\∀i(b:i<a.length),BE.pq a l=some i->BE.find a l=some a[i]:=by
 intro a l;unfold BE.pq BE.find;induction a with
 |nil=>grind
 |cons e a f=>
  rw[List.findIdx?_cons,List.find?_cons];cases h:(e.name==l)with
  |true=>
   grind
  |false=>
   simp only[fL,if_false];refine⟨fA,λi b d=>?_⟩;rw[Option.map_eq_some_iff]at d;grind
theorem Qj(g)(a)(l)(w)(h:bU w g 2 a)(o:a.Pairwise (λx y=>Op.bytesLess x.name y.name=true)):Calls prog 278 #[π g 2,.string ⟨l.toArray⟩] w λe j=>e=.returned (nN (BE.find a l))/\w.grownBy j none:=by
 refine(X6 g 2 a l _ w h o (I rfl)).mono ?_
 rintro e j ⟨k,m,n⟩
 refine⟨?_,n⟩
 have d:=SC a l
 cases b:BE.pq a l with
 |none=>
  rw[d.1 (by rw[b];rfl)];exact k (by rw[b];rfl)
 |some i=>
  obtain⟨f,_⟩:=Cm b;rw[d.2 i f b];exact m i f b
theorem JL(g)(d)(l)(w)(h:bU w g 2 d)(k:d.Pairwise (λx y=>Op.bytesLess x.name y.name=true)):Calls prog 277 #[π g 0,.string ⟨l.toArray⟩] w λe a=>e=.returned (nN (BE.find d l))/\w.grownBy a none:=by
 have f:=cx w (.cells lB 126) none
 have b:=Qj g d l _ (h.grown f) k
 obtain⟨x,j⟩:=N (BE.find d l)
 rw[j]at b
 rw[j]
 obtain⟨V,W,X,v3,v4,v5,v6,v7,i⟩:=iM x
 unfold nN at b⊢
 rw[i]at b
 rw[i]
 obtain⟨u,a⟩:=N x.isSome
 rw[a]at b
 rw[a]
 have HB:=I b
 have m:=I f
 have n:=I (b'.new w lB 126)
 clear b f i a j h k
 go_in
 go_wp2_with (first|(go_at_call 278;refine HB.mono ?_;clear HB;rintro e t ⟨rfl,a⟩;have f:=I (aa m a);have b:=n.grown a;clear a;obtain⟨⟨v,h⟩,⟨y,i⟩,⟨A,j⟩,⟨B,k⟩,⟨C,o⟩,⟨D,p⟩,⟨J,q⟩,⟨K,r⟩,L,M,P,Q,R,S,T,U⟩:=gI b))
 refine bodyPost_ret (aG results277 _ _ _ w.1.size rfl _ (eP (jw t w.1.size _ _ _ _ _ _ _ _ h i j k o p q r) 126 _ underlying126 rfl Tryz.iT)) rfl ⟨rfl,?_⟩
 repeat refine az ?_ (cy _)
 exact f.o
def FQ.cells(q:FQ)(pn:Int)(v:Value):List Value:=[.string ⟨q.ay.toArray⟩,.string ⟨q.aV.toArray⟩,Y q.bV,Y q.ma,Y q.dI,Y q.bX,Y q.aO,.bool q.pre.isSome,Y pn,v]
def NQ.cells(q:NQ)(v u:Value):List Value:=[.string ⟨q.fU.toArray⟩,Y q.oC,v,u,.string ⟨q.aV.toArray⟩,Y q.bV,Y q.dI,Y q.bX,Y q.aO]
def TK.cells(t:TK):List Value:=[Y t.ae,H (t.aN.toNat:Int),.string ⟨t.ay.toArray⟩,Y t.dV,Y t.start,Y t.fin,Y t.aC]
theorem QF(b)(x s)(f)(k)(w)(nq)(a:f=2 ^ k)(d:k<63)(h:fo w b x s):Calls Tryz.prog 211 #[π b 0,Y f] (w.drewN nq) λr e=>r=.returned (.bool (x.has f&&s.has f))/\∃m,e=w.drewN m:=
 (qJ b x s f k _ a d (h.grown (aR (cC _ _) nq))).mono fA
theorem UL(d g)(a b t)(w:World)(nq)(h:w.c d 3=some (π g 0))(i:w.c d 4=some (Y a))(j:w.c g 0=some (Y b))(k:b9 a)(f:b9 b):Calls Tryz.prog 184 #[π d 0,Y t] (w.drewN nq) λe l=>e=.returned (.bool (decide (aW a b<t)))/\∃m,l=w.drewN m:=
 (Bp d g a b t _ ((aR (cC w none) nq).cell h Z) ((aR (cC w none) nq).cell i Z) ((aR (cC w none) nq).cell j Z) k f).mono (by grind [World.drewN_drewN])
theorem ug(s):b9 (bM s).1:=by
 grind [Dw,b9,bM]
theorem pE{p:Option Pl}{b:Nat}(h:l' p b)(o):¬ Pl.has p b o:=λ⟨q,a,d,_⟩=>h q a d
theorem SI{w:World}{v:Value}{p:Option Pl}{a:E}(h:f' w v p a)(o):¬ Pl.has p w.1.size o:=λe=>gC _ (h.lt e)
abbrev jA:Array Value:=#[Y 0,H 0,ε,Y 0,Y 0,Y 0,Y 0]
theorem AL(x):b9 (mG x):=by
 grind [b9,mG]
theorem QG(a b):gS a b=min a b:=by
 unfold gS;split<;>omega
def sI(r:Except Int TK):Value:=match r with|.error c=>.tuple #[.agg jA,Y c]|.ok t=>.tuple #[.agg t.cells.toArray,Y 0]
def yC(now:Int)(old:TK):Except Int TK:=if now<old.start then .error 33 else .ok {old with ae:=if aI old.ae 16=true then old.ae-16 else old.ae}
def yD(now:Int)(old:TK):Except Int TK:=if old.aC<=now then .error 32 else .ok {old with start:=now,fin:=gS old.aC (aW now (gq old.fin old.start))}
theorem Kp(h:p:=by
 clear G0 hW0 R0 hf HN s0
 go_in
 go_wp2_with (rw[<-HW0];fail_if_success done)
 go_wp2
 exact bodyPost_ret (aG results224 _ _ _ W0.1.size rfl _ ((dz.new W0 _ 333).load 333 _ underlying333 rfl Tryz.ji)) rfl ⟨rfl,aa HG (cx _ _ none)⟩):p:=h
theorem GD(d)(a)(w)(hf:b9 a.ae):Calls prog 224 #[Y d,.agg a.cells.toArray] w λe b=>e=.returned (sI (yC d a))/\w.grownBy b none:=by
 obtain⟨W0,hW0⟩:=aw (w.alloc (.cells a.cells.toArray 333))
 have G0:w.grownBy W0 none:=tp
 have R0:W0.rangeAt w.1.size 0 a.cells:=by rw[hW0];exact aS w a.cells.toArray _
 have s0:W0.1.size=w.1.size+1:=by rw[hW0];exact cF _ _
 have b:=cx W0 (.cells jA 333) none
 have f:=b.cell (R0 0 _ rfl) Z
 have g:=b.cell (R0 1 _ rfl) Z
 have h:=b.cell (R0 2 _ rfl) Z
 have i:=b.cell (R0 3 _ rfl) Z
 have j:=b.cell (R0 4 _ rfl) Z
 have k:=b.cell (R0 5 _ rfl) Z
 have l:=b.cell (R0 6 _ rfl) Z
 have HG:=I G0
 have HW0:=I hW0
 have HN:=I (zK a.ae hf)
 unfold yC
 rw[<-HN]
 by_cases e:d<a.start
 .rw[dT e];exact Kp
 .rw[cZ e];exact Kp
theorem MV(b)(a)(w)(n:b9 b)(q:b9 a.start)(p:b9 a.fin):Calls prog 225 #[Y b,.agg a.cells.toArray] w λe k=>e=.returned (sI (yD b a))/\w.grownBy k none:=by
 obtain⟨d,hW0⟩:=aw (w.alloc (.cells a.cells.toArray 333))
 have r:w.grownBy d none:=tp
 have f:d.rangeAt w.1.size 0 a.cells:=by rw[hW0];exact aS w a.cells.toArray _
 have u:d.1.size=w.1.size+1:=by rw[hW0];exact cF _ _
 have g:=cx d (.cells jA 333) none
 have y:=g.cell (f 0 _ rfl) Z
 have A:=g.cell (f 1 _ rfl) Z
 have B:=g.cell (f 2 _ rfl) Z
 have C:=g.cell (f 3 _ rfl) Z
 have D:=g.cell (f 4 _ rfl) Z
 have J:=g.cell (f 5 _ rfl) Z
 have K:=g.cell (f 6 _ rfl) Z
 have t:=I r
 have i:=I hW0
 have v:=I (λW=>rE a.fin a.start W p.1 p.2 q.1 q.2)
 have o:b9 (gq a.fin a.start):=AL _
 have x:=I (λW=>Cr b (gq a.fin a.start) W n.1 n.2 o.1 o.2)
 unfold yD
 by_cases j:a.aC<=b
 .rw[dT j];clear r hW0 f u o n q p;go_in;go_wp2_with (rw[<-i];fail_if_success done)
  go_wp2;exact bodyPost_ret (aG results225 _ _ _ d.1.size rfl _ ((dz.new d _ 333).load 333 _ underlying333 rfl Tryz.ji)) rfl ⟨rfl,aa t (cx _ _ none)⟩
 .rw[cZ j,QG];have h:Hid (d.c w.1.size 4=some (Y a.start)/\d.c w.1.size 5=some (Y a.fin)/\d.c w.1.size 6=some (Y a.aC)):=⟨f 4 _ rfl,f 5 _ rfl,f 6 _ rfl⟩
  generalize gq a.fin a.start=dd at *;generalize aW b dd=ss at *;clear r hW0 f u o n q p;go_in;go_wp2_with (rw[<-i];fail_if_success done)
  have l:=cx d (.cells #[Y a.ae,H (a.aN.toNat:Int),.string ⟨a.ay.toArray⟩,Y a.dV,Y b,Y a.fin,Y a.aC] 333) none;have Q:=l.cell h.1 Z;have R:=l.cell h.2.1 Z;have S:=l.cell h.2.2 Z;have m:=cx d (.cells #[Y a.ae,H (a.aN.toNat:Int),.string ⟨a.ay.toArray⟩,Y a.dV,Y b,Y (min a.aC ss),Y a.aC] 333) none;have L:=m.cell h.1 Z;have M:=m.cell h.2.1 Z;have P:=m.cell h.2.2 Z;clear g l m y A B C D J K;go_region_held3 (λk=>k.c w.1.size 4=some (Y a.start)/\k.c w.1.size 5=some (Y a.fin)/\k.c w.1.size 6=some (Y a.aC)) (go_keep) (first|(go_at_call 247;refine(v _).mono ?_;rintro e l ⟨rfl,rfl⟩)|(go_at_call 221;refine(x _).mono ?_;rintro e l ⟨rfl,rfl⟩));go_wp2;exact bodyPost_ret (aG results225 _ _ _ d.1.size rfl _ ((dz.new d _ 333).drew.load 333 _ underlying333 rfl Tryz.ji)) rfl ⟨rfl,bg (aa t (cx _ _ none))⟩
def Ex(o:Int)(old:TK)(x s:BE):Int:=bits .or .i64 (bits .and .i64 old.ae 448) (jH (bits .and .i64 o old.ae) x s)
def Ey(o:Int)(old:TK)(x s:BE):Int:=if aI o 64=true then bits .or .i64 (Ex o old x s) 128 else Ex o old x s
def vX(o:Int)(old:TK)(x s:BE):Int:=if aI o 128=true then bits .or .i64 (Ey o old x s) 256 else Ey o old x s
theorem O7:∀(i j k d e b l m),
  (let a:Int:=(if i=true then 64 else 0)+(if j=true then 128 else 0)+(if k=true then 256 else 0)
   let n:Int:=(if d=true then 1 else 0)+(if e=true then 2 else 0)+(if b=true then 4 else 0)
   let f:=bits .or .i64 a n
   let g:=if l=true then bits .or .i64 f 128 else f
   let h:=if m=true then bits .or .i64 g 256 else g
   h=(if i=true then 64 else 0)+(if (j||l)=true then 128 else 0)+(if (k||m)=true then 256 else 0)+((if d=true then 1 else 0)+(if e=true then 2 else 0)+(if b=true then 4 else 0))/\aI h 4=b):=by decide
theorem Ez(o)(a)(x s):vX o a x s=iL o a x s/\aI (vX o a x s) 4=(aI o 4&&aI a.ae 4&&(x.has 2&&s.has 2)):=by
 have h:=O7 (aI a.ae 64) (aI a.ae 128) (aI a.ae 256) (aI (bits .and .i64 o a.ae) 1&&(x.has 4&&s.has 4)) (aI (bits .and .i64 o a.ae) 2&&(x.has 8&&s.has 8)) (aI (bits .and .i64 o a.ae) 4&&(x.has 2&&s.has 2)) (aI o 64) (aI o 128)
 have e:vX o a x s=(let b:Int:=(if aI a.ae 64=true then 64 else 0)+(if aI a.ae 128=true then 128 else 0)+(if aI a.ae 256=true then 256 else 0)
   let g:Int:=jH (bits .and .i64 o a.ae) x s
   let d:=bits .or .i64 b g
   let f:=if aI o 64=true then bits .or .i64 d 128 else d
   if aI o 128=true then bits .or .i64 f 256 else f):=by
  unfold vX Ey Ex
  rw[Yt]
  rfl
 have d:=e.trans h.1;constructor
 .rw[d];unfold iL ig;rw[Yu,Yv,Mx];simp only[Bool.and_eq_true,Bool.or_eq_true,and_assoc]
 grind [Mx]
theorem rk(h:p:=by rw[HT8];exact cy _):p:=h
theorem jS{w:World}{b:Nat}{a d e f g i j:Value}(h:dz w b #[a,d,e,f,g,i,j]):(w.cell? (F b 0)=some a/\w.cell? (F b 1)=some d/\w.cell? (F b 2)=some e/\w.cell? (F b 3)=some f/\w.cell? (F b 4)=some g/\w.cell? (F b 5)=some i/\w.cell? (F b 6)=some j)/\w.frozen? (F b 0)=false/\w.frozen? (F b 1)=false/\w.frozen? (F b 2)=false/\w.frozen? (F b 3)=false/\w.frozen? (F b 4)=false/\w.frozen? (F b 5)=false/\w.frozen? (F b 6)=false:=
 ⟨⟨h.cell 0,h.cell 1,h.cell 2,h.cell 3,h.cell 4,h.cell 5,h.cell 6⟩,h.frozen 0,h.frozen 1,h.frozen 2,h.frozen 3,h.frozen 4,h.frozen 5,h.frozen 6⟩
def JZ(now:Int)(q:NQ)(old:TK)(x s:BE):Int:=min old.fin (gS (j9 q.dI) (gS (aW now x.bI) (aW now s.bI)))
def QH(now:Int)(q:NQ)(old:TK)(x s:BE):Int:=if aI (vX q.aO old x s) 4=true then min old.aC (gS (j9 q.bX) (gS (aW now x.aC) (aW now s.aC))) else 0
def QL(now:Int)(q:NQ)(old:TK)(x s:BE):Except Int TK:=if JZ now q old x s<=now then .error 11 else .ok ⟨vX q.aO old x s,0,old.ay,old.dV,now,JZ now q old x s,QH now q old x s⟩
theorem MX(pb)(b)(q)(v u)(a)(x s)(w)(hp:fo w pb x s)(D:b9 b)(y:b9 x.bI)(t:b9 s.bI)(M:b9 x.aC)(P:b9 s.aC):Calls prog 226 #[π pb 0,Y b,.agg (q.cells v u).toArray,.agg a.cells.toArray] w λe i=>e=.returned (sI (QL b q a x s))/\w.grownBy i none:=by
 obtain⟨d,hW0⟩:=aw ((w.alloc (.cells (q.cells v u).toArray 276)).alloc (.cells a.cells.toArray 333))
 have B:w.grownBy d none:=by rw[hW0];exact aM (cx w _ none) _
 have A:d.rangeAt w.1.size 0 (q.cells v u):=by rw[hW0];exact gZ (aS w (q.cells v u).toArray _) (cx _ _ none)
 have p:d.rangeAt (w.1.size+1) 0 a.cells:=by
  have h:=aS (w.alloc (.cells (q.cells v u).toArray 276)) a.cells.toArray 333;exact tA
 have Q:d.1.size=w.1.size+1+1:=by rw[hW0];simp only[cF]
 obtain⟨S,n⟩:=aw d.1.size
 obtain⟨W1,g⟩:=aw (d.alloc (.cells #[Y 0,H 0,.string ⟨a.ay.toArray⟩,Y a.dV,Y b,Y 0,Y 0] 333))
 have K:dz W1 S #[Y 0,H 0,.string ⟨a.ay.toArray⟩,Y a.dV,Y b,Y 0,Y 0]:=by rw[g,n];exact dz.new _ _ _
 have L:d.grownBy W1 none:=by rw[g];exact cx _ _ none
 have HP:Hid (∀W,d.grownBy W none->fo W pb x s):=λW f=>hp.grown (aa B f)
 have X:Hid (∀W,d.grownBy W none->W.c w.1.size 6=some (Y q.dI)/\W.c w.1.size 7=some (Y q.bX)/\W.c w.1.size 8=some (Y q.aO)/\W.c (w.1.size+1) 0=some (Y a.ae)/\W.c (w.1.size+1) 5=some (Y a.fin)/\W.c (w.1.size+1) 6=some (Y a.aC)):=
  λW f=>⟨f.cell (A 6 _ rfl) Z,f.cell (A 7 _ rfl) Z,f.cell (A 8 _ rfl) Z,f.cell (p 0 _ rfl) Z,f.cell (p 5 _ rfl) Z,f.cell (p 6 _ rfl) Z⟩
 have r2:d.c (w.1.size+1) 2=some (.string ⟨a.ay.toArray⟩):=p 2 _ rfl
 have r3:d.c (w.1.size+1) 3=some (Y a.dV):=p 3 _ rfl
 have J:=cx d (.cells jA 333) none
 have z2:=J.cell r2 Z
 have z3:=J.cell r3 Z
 have HE:Hid (∀W,d.grownBy W none->Calls prog 176 #[π pb 0,Y b,Y q.dI] W λr i=>r=.returned (Y (gS (j9 q.dI) (gS (aW b x.bI) (aW b s.bI))))/\∃m,i=W.drewN m):=λW f=>Mq pb x s b q.dI W (HP W f) D y t
 have HR:Hid (∀W,d.grownBy W none->Calls prog 179 #[π pb 0,Y b,Y q.bX] W λr i=>r=.returned (Y (gS (j9 q.bX) (gS (aW b x.aC) (aW b s.aC))))/\∃m,i=W.drewN m):=λW f=>Ee pb x s b q.bX W (HP W f) D M P
 have ae:Hid (∀W,d.grownBy W none->Calls prog 213 #[π pb 0,Y (bits .and .i64 q.aO a.ae)] W λr i=>r=.returned (Y (jH (bits .and .i64 q.aO a.ae) x s))/\W.grownBy i none):=λW f=>Bv pb x s _ W (HP W f)
 have ay:Hid (JZ b q a x s=min a.fin (gS (j9 q.dI) (gS (aW b x.bI) (aW b s.bI)))):=rfl
 have af:Hid (QH b q a x s=if aI (vX q.aO a x s) 4=true then min a.aC (gS (j9 q.bX) (gS (aW b x.aC) (aW b s.aC))) else 0):=rfl
 have ba:Hid (Ex q.aO a x s=bits .or .i64 (bits .and .i64 a.ae 448) (jH (bits .and .i64 q.aO a.ae) x s)):=rfl
 have qa:Hid (Ey q.aO a x s=if aI q.aO 64=true then bits .or .i64 (Ex q.aO a x s) 128 else Ex q.aO a x s):=rfl
 have ag:Hid (vX q.aO a x s=if aI q.aO 128=true then bits .or .i64 (Ey q.aO a x s) 256 else Ey q.aO a x s):=rfl
 have ah:=I (kH q.aO 64 6 O O)
 have ai:=I (kH q.aO 128 7 O O)
 have bb:=I (kH (vX q.aO a x s) 4 2 O O)
 unfold QL
 generalize gS (j9 q.dI) (gS (aW b x.bI) (aW b s.bI))=e0 at *
 generalize gS (j9 q.bX) (gS (aW b x.aC) (aW b s.aC))=e1 at *
 generalize jH (bits .and .i64 q.aO a.ae) x s=al at *
 generalize JZ b q a x s=E at *
 generalize QH b q a x s=R at *
 generalize Ex q.aO a x s=F1 at *
 generalize Ey q.aO a x s=F2 at *
 generalize vX q.aO a x s=F3 at *
 generalize aI q.aO 64=o6 at *
 generalize aI q.aO 128=o7 at *
 generalize aI F3 4=o4 at *
 obtain⟨dI,r⟩:=N q.dI
 obtain⟨bX,f⟩:=N q.bX
 obtain⟨aO,C⟩:=N q.aO
 rw[r]at HE
 rw[f]at HR
 rw[C]at ae ah ai
 rw[r,f,C]at X
 obtain⟨qc,l⟩:=N ((q.cells v u).toArray)
 obtain⟨oc,k⟩:=N a.cells.toArray
 rw[l,k]at hW0
 rw[l,k]
 obtain⟨mv,j⟩:=N (sI (if E<=b then .error 11 else .ok ⟨F3,0,a.ay,a.dV,b,E,R⟩))
 rw[j]
 have ab:=I j
 clear j
 have n1:S≠w.1.size:=G
 have n2:S≠w.1.size+1:=G
 have sS:=I B
 have kG:=I L
 have av:=I K
 have bc:=I hW0
 have bf:=I g
 have HT8:=I n
 have dZ:=I Q
 clear B L K hW0 g n Q hp D y t M P A p J r f C l k
 go_in
 go_wp2_with (rw[<-bc];fail_if_success done)
 rw[<-bf,<-HT8]
 go_cut [9] (λc n=>c = Y 0/\dz n S #[Y 0,H 0,.string ⟨a.ay.toArray⟩,Y a.dV,Y b,Y E,Y 0]/\d.grownBy n none)
 case first=>
  obtain⟨W,c7,c8,d0,d5,d6⟩:=X W1 kG.o;go_region_held3 (λi=>i.c w.1.size 6=some (Y dI)/\i.c (w.1.size+1) 5=some (Y a.fin)) (go_keep) (first|(go_at_call 176;refine(HE _ (bg kG)).mono ?_;rintro e T ⟨rfl,m,l⟩;have j:Hid (dz T S #[Y 0,H 0,.string ⟨a.ay.toArray⟩,Y a.dV,Y b,Y 0,Y 0]):=(by rw[l];exact av.drew.drewN m);have g:Hid (d.grownBy T none):=(by rw[l];exact aR (bg kG) m);clear l;obtain⟨aj,ak,an,ao,ar,au⟩:=X T g.o;obtain⟨⟨D,J,K,L,M,P,Q⟩,p,r,t,y,A,B,C⟩:=jS j));go_wp2;go_meet;exact⟨rfl,by rw[ay];exact j.set 5 (Y (min a.fin e0)),az g rk⟩
 case rest=>
  obtain⟨rfl,f,k⟩:=hcut;have j:=I f;have g:=I k;clear f k;obtain⟨W,c7,c8,d0,d5,d6⟩:=X _ g.o;obtain⟨⟨D,J,K,L,M,P,Q⟩,p,r,t,y,A,B,C⟩:=jS j.o;by_cases hE:E<=b
  .have ad:Hid (mv=sI (.error 11)):=(by rw[<-ab,dT hE];exact rfl);go_wp2_with fail;have B7:=((((((j.set 0 (Y 0)).set 1 (H 0)).set 2 ε).set 3 (Y 0)).set 4 (Y 0)).set 5 (Y 0)).set 6 (Y 0);refine bodyPost_ret (aG results226 _ _ _ S rfl _ (B7.load 333 _ underlying333 rfl Tryz.ji)) rfl ⟨by rw[ad];rfl,?_⟩;refine aa sS ?_;repeat refine az ?_ rk
   exact g.o
  .have ad:Hid (mv=sI (.ok ⟨F3,0,a.ay,a.dV,b,E,R⟩)):=(by rw[<-ab,cZ hE];exact rfl);clear ab;go_wp2_with fail;go_cut [9] (λc n=>c = Y 0/\dz n S #[Y F1,H 0,.string ⟨a.ay.toArray⟩,Y a.dV,Y b,Y E,Y 0]/\d.grownBy n none)
   case first=>
    clear D J K L M P Q p r t y A B C;go_region_held3 (λi=>i.c w.1.size 8=some (Y aO)/\i.c (w.1.size+1) 0=some (Y a.ae)) (go_keep) (first|(go_at_call 213;refine(ae _ (bg g)).mono ?_;rintro e T ⟨rfl,f⟩;have k:Hid (dz T S #[Y 0,H 0,.string ⟨a.ay.toArray⟩,Y a.dV,Y b,Y E,Y 0]):=j.drew.grown f Z;have kS:Hid (d.grownBy T none):=aa (bg g) f;clear f;obtain⟨aj,ak,an,ao,ar,au⟩:=X T kS.o;obtain⟨⟨D,J,K,L,M,P,Q⟩,p,r,t,y,A,B,C⟩:=jS k));go_wp2;go_meet;exact⟨rfl,by rw[ba];exact k.set 0 (Y (bits .or .i64 (bits .and .i64 a.ae 448) al)),az kS rk⟩
   case rest=>
    obtain⟨rfl,f,U⟩:=hcut;have k:=I f;have kS:=I U;clear f U j g W c7 c8 d0 d5 d6 D J K L M P Q p r t y A B C;obtain⟨W,c7,c8,d0,d5,d6⟩:=X _ kS.o;obtain⟨⟨D,J,K,L,M,P,Q⟩,p,r,t,y,A,B,C⟩:=jS k.o;go_upto_if 45 with fail
    go_cut [9] (λc n=>c = Y 0/\dz n S #[Y F2,H 0,.string ⟨a.ay.toArray⟩,Y a.dV,Y b,Y E,Y 0]/\d.grownBy n none)
    case first=>
     have f:=ah.o;cases o6 with
     |true=>
      rw[eV]at f;have hp:=cJ.1 f;clear f;go_wp2;go_meet;exact⟨rfl,by rw[qa];exact k.set 0 (Y (bits .or .i64 F1 128)),az kS rk⟩
     |false=>
      rw[eM]at f;have hp:=db.1 f;clear f;go_wp2;go_meet;exact⟨rfl,by rw[qa];exact k,kS⟩
    case rest=>
     obtain⟨rfl,V,g4⟩:=hcut;have U:=I V;have FJ:=I g4;clear V g4 k kS W c7 c8 d0 d5 d6 D J K L M P Q p r t y A B C;obtain⟨W,c7,c8,d0,d5,d6⟩:=X _ FJ.o;obtain⟨⟨D,J,K,L,M,P,Q⟩,p,r,t,y,A,B,C⟩:=jS U.o;go_upto_if 53 with fail
     go_cut [9] (λc n=>c = Y 0/\dz n S #[Y F3,H 0,.string ⟨a.ay.toArray⟩,Y a.dV,Y b,Y E,Y 0]/\d.grownBy n none)
     case first=>
      have f:=ai.o;cases o7 with
      |true=>
       rw[eV]at f;have hp:=cJ.1 f;clear f;go_wp2;go_meet;exact⟨rfl,by rw[ag];exact U.set 0 (Y (bits .or .i64 F2 256)),az FJ rk⟩
      |false=>
       rw[eM]at f;have hp:=db.1 f;clear f;go_wp2;go_meet;exact⟨rfl,by rw[ag];exact U,FJ⟩
     case rest=>
      obtain⟨rfl,B5,g5⟩:=hcut;have V:=I B5;have MZ:=I g5;clear B5 g5 U FJ W c7 c8 d0 d5 d6 D J K L M P Q p r t y A B C;obtain⟨W,c7,c8,d0,d5,d6⟩:=X _ MZ.o;obtain⟨⟨D,J,K,L,M,P,Q⟩,p,r,t,y,A,B,C⟩:=jS V.o;go_upto_if 61 with fail
      go_cut [9] (λc n=>c = Y 0/\dz n S #[Y F3,H 0,.string ⟨a.ay.toArray⟩,Y a.dV,Y b,Y E,Y R]/\d.grownBy n none)
      case first=>
       have f:=bb.o;cases o4 with
       |true=>
        rw[eV]at f;have hp:=cJ.1 f;clear f;go_wp2_with fail;clear D J K L M P Q p r t y A B C;go_region_held3 (λi=>i.c w.1.size 7=some (Y bX)/\i.c (w.1.size+1) 6=some (Y a.aC)) (go_keep) (first|(go_at_call 179;refine(HR _ (bg MZ)).mono ?_;rintro e T ⟨rfl,m,l⟩;have n:Hid (dz T S #[Y F3,H 0,.string ⟨a.ay.toArray⟩,Y a.dV,Y b,Y E,Y 0]):=(by rw[l];exact V.drew.drewN m);have O4:Hid (d.grownBy T none):=(by rw[l];exact aR (bg MZ) m);clear l;obtain⟨aj,ak,an,ao,ar,au⟩:=X T O4.o;obtain⟨⟨D,J,K,L,M,P,Q⟩,p,r,t,y,A,B,C⟩:=jS n));go_wp2;go_meet;exact⟨rfl,by rw[af];exact n.set 6 (Y (min a.aC e1)),az O4 rk⟩
       |false=>
        rw[eM]at f;have hp:=db.1 f;clear f;go_wp2;go_meet;exact⟨rfl,by rw[af];exact V,MZ⟩
      case rest=>
       obtain⟨rfl,e,f⟩:=hcut;have n:=I e;have O4:=I f;clear e f V MZ W c7 c8 d0 d5 d6 D J K L M P Q p r t y A B C;obtain⟨⟨D,J,K,L,M,P,Q⟩,p,r,t,y,A,B,C⟩:=jS n.o;go_wp2_with fail;have B7:=((((((n.set 0 (Y F3)).set 1 (H 0)).set 2 (.string ⟨a.ay.toArray⟩)).set 3 (Y a.dV)).set 4 (Y b)).set 5 (Y E)).set 6 (Y R);refine bodyPost_ret (aG results226 _ _ _ S rfl _ (B7.load 333 _ underlying333 rfl Tryz.ji)) rfl ⟨by rw[ad];rfl,?_⟩;refine aa sS ?_;repeat refine az ?_ rk
       exact O4.o
theorem uh(a b d f)(w):Calls Tryz.prog 222 #[H ((if a=true then 16 else 0)+(if b=true then 32 else 0)+(if d=true then 64 else 0)+(if f=true then 128 else 0))] w λe g=>e=.returned (Y ((if a=true then 1 else 0)+(if b=true then 1 else 0)+(if d=true then 1 else 0)+(if f=true then 1 else 0)))/\g=w:=by
 cases a<;>cases b<;>cases d<;>cases f
 all_goals
  simp only[if_true,if_false,fL,Int.add_zero,Int.zero_add]
  go_enter Tryz.func222,Tryz.ntmps222
  go_wp2
  go_ret
  exact⟨bD gJ,rfl⟩
theorem QM(o f)(h:¬ (0<=o/\o<256/\aI o 8=false)):ku o f=false:=by
 grind [ku]
theorem M0(o f)(h:0<=o/\o<256/\aI o 8=false):ku o f=if 1<vM o\/aI o 32=true/\o≠32 then false
  else if aI o 16=true/\aI f 4=false\/aI o 64=true/\aI f 1=false\/aI o 128=true/\aI f 2=false then false else !aI o 32||aI f 16:=by
 grind [ku]
theorem O2(o)(h:0<=o/\o<256/\aI o 8=false)(a:aI o 16=false)(b:aI o 32=true)(d:aI o 64=false)(e:aI o 128=false):(bits .and .i64 o 7==0)=decide (o=32):=by
 grind [L8,aI]
def we(b4 b5 b6 b7 no7:Bool)(f:Int):Bool:=
 if 1<(if b4=true then 1 else 0)+(if b5=true then 1 else 0)+(if b6=true then 1 else 0)+(if b7=true then(1:Int) else 0) then false
 else if b4=true then aI f 4 else if b5=true then no7&&aI f 16 else if b6=true then aI f 1 else if b7=true then aI f 2 else true
theorem SX(o f)(h:0<=o/\o<256/\aI o 8=false):ku o f=we (aI o 16) (aI o 32) (aI o 64) (aI o 128) (bits .and .i64 o 7==0) f:=by
 grind [O2,M0,we,vM]
theorem UM(n):bits .and .i64 n 240=(if aI n 16=true then 16 else 0)+(if aI n 32=true then 32 else 0)+(if aI n 64=true then 64 else 0)+(if aI n 128=true then 128 else 0):=Yr n
theorem L7(n):(bits .and .i64 n 0==0)=true:=by
 rw[db];refine Bu (Eh n 0) ⟨by decide,by decide⟩ (λj a=>?_);rw[jy n 0 j a,tZ,Bool.and_false]
theorem UN(o f)(w)(h:(bits .andNot .i64 o 247==0)=false):Calls prog 185 #[Y o,Y f] w λe a=>e=.returned (.bool false)/\a=w:=by
 have a:=cJ.1 h
 clear h
 go_in
 exact lO
theorem tI(h:p:=by
 go_in
 go_wp2_with (first
  |(go_at_call 222;refine HO.mono ?_;clear HO;rintro e w1 ⟨rfl,rfl⟩)
  |(go_at_call 223;refine HN.mono ?_;clear HN;rintro e w1 ⟨rfl,rfl⟩)
  |(go_at_call 223;refine HM.mono ?_;clear HM;rintro e w1 ⟨rfl,rfl⟩))
 go_wp2
 go_ret
 exact⟨fP HF,rfl⟩):p:=h
theorem SW(o f)(w)(h:(bits .andNot .i64 o 247==0)=true)(hw:bits .and .i64 o 240=0):Calls prog 185 #[Y o,Y f] w λe a=>e=.returned (.bool (true))/\a=w:=by
 have b:=db.1 h
 clear h
 have HO:Hid (Calls prog 222 #[H 0] w λe a=>e=.returned (Y 0)/\a=w):=uh false false false false w
 have HN:=I (gy 0 w)
 have HM:=I (gy 0 w)
 rw[show Br 0=0 from rfl]at HN HM
 have HF:=I (L7 f)
 exact tI
theorem YN(o f)(w)(h:(bits .andNot .i64 o 247==0)=true)(hw:bits .and .i64 o 240=16):Calls prog 185 #[Y o,Y f] w λe a=>e=.returned (.bool (aI f 4))/\a=w:=by
 have b:=db.1 h
 clear h
 have HO:Hid (Calls prog 222 #[H 16] w λe a=>e=.returned (Y 1)/\a=w):=uh true false false false w
 have HN:=I (gy 16 w)
 have HM:=I (gy 16 w)
 rw[show Br 16=4 from rfl]at HN HM
 have HF:=I (rF f 4 2 O O)
 exact tI
theorem YO(o f)(w)(h:(bits .andNot .i64 o 247==0)=true)(hw:bits .and .i64 o 240=64):Calls prog 185 #[Y o,Y f] w λe a=>e=.returned (.bool (aI f 1))/\a=w:=by
 have b:=db.1 h
 clear h
 have HO:Hid (Calls prog 222 #[H 64] w λe a=>e=.returned (Y 1)/\a=w):=uh false false true false w
 have HN:=I (gy 64 w)
 have HM:=I (gy 64 w)
 rw[show Br 64=1 from rfl]at HN HM
 have HF:=I (rF f 1 0 O O)
 exact tI
theorem UO(o f)(w)(h:(bits .andNot .i64 o 247==0)=true)(hw:bits .and .i64 o 240=128):Calls prog 185 #[Y o,Y f] w λe a=>e=.returned (.bool (aI f 2))/\a=w:=by
 have b:=db.1 h
 clear h
 have HO:Hid (Calls prog 222 #[H 128] w λe a=>e=.returned (Y 1)/\a=w):=uh false false false true w
 have HN:=I (gy 128 w)
 have HM:=I (gy 128 w)
 rw[show Br 128=2 from rfl]at HN HM
 have HF:=I (rF f 2 1 O O)
 exact tI
theorem YP(o f)(w)(h:(bits .andNot .i64 o 247==0)=true)(hw:bits .and .i64 o 240=32):Calls prog 185 #[Y o,Y f] w λe a=>e=.returned (.bool ((bits .and .i64 o 7==0)&&aI f 16))/\a=w:=by
 have b:=db.1 h
 clear h
 have HO:Hid (Calls prog 222 #[H 32] w λe a=>e=.returned (Y 1)/\a=w):=uh false true false false w
 have HN:=I (gy 32 w)
 have HM:=I (gy 32 w)
 rw[show Br 32=16 from rfl]at HN HM
 have HF:=I (rF f 16 4 O O)
 by_cases a:bits .and .i64 o 7=0
 .rw[a];exact tI
 .rw[cJ.2 a,gj];go_in
  go_wp2_with (first
   |(go_at_call 222;refine HO.mono ?_;clear HO;rintro e w1 ⟨rfl,rfl⟩))
  exact lO
theorem QN(o f)(a b d g)(w)(h:(bits .andNot .i64 o 247==0)=true)(hw:bits .and .i64 o 240=(if a=true then 16 else 0)+(if b=true then 32 else 0)+(if d=true then 64 else 0)+(if g=true then 128 else 0))(j:1<(if a=true then 1 else 0)+(if b=true then 1 else 0)+(if d=true then 1 else 0)+(if g=true then(1:Int) else 0)):Calls prog 185 #[Y o,Y f] w λe i=>e=.returned (.bool false)/\i=w:=by
 have m:=db.1 h
 clear h
 have h:=I (uh a b d g w)
 obtain⟨c,i⟩:=N ((if a=true then 1 else 0)+(if b=true then 1 else 0)+(if d=true then 1 else 0)+(if g=true then(1:Int) else 0))
 have k:0<=(if a=true then(16:Int) else 0)+(if b=true then 32 else 0)+(if d=true then 64 else 0)+(if g=true then 128 else 0)/\(if a=true then(16:Int) else 0)+(if b=true then 32 else 0)+(if d=true then 64 else 0)+(if g=true then 128 else 0)<=240:=by
  cases a<;>cases b<;>cases d<;>cases g<;>decide
 rw[i]at h j
 generalize (if a=true then(16:Int) else 0)+(if b=true then 32 else 0)+(if d=true then 64 else 0)+(if g=true then 128 else 0)=v at *
 clear i
 obtain⟨i,l⟩:=k
 go_in
 go_wp2_with (first
  |(go_at_call 222;refine h.mono ?_;clear h;rintro e n ⟨rfl,rfl⟩))
 exact lO
theorem M3(o f)(w)(g:b9 o):Calls prog 185 #[Y o,Y f] w λe a=>e=.returned (.bool (ku o f))/\a=w:=by
 have a:=Uy o g
 by_cases d:0<=o/\o<256/\aI o 8=false
 .rw[dk d]at a;rw[SX o f d];have hw:=UM o;by_cases b:1<(if aI o 16=true then 1 else 0)+(if aI o 32=true then 1 else 0)+(if aI o 64=true then 1 else 0)+(if aI o 128=true then(1:Int) else 0)
  .rw[we,dT b];exact QN o f _ _ _ _ w a hw b
  .rw[we,cZ b];generalize aI o 16=b4 at *;generalize aI o 32=b5 at *;generalize aI o 64=b6 at *;generalize aI o 128=b7 at *;cases b4 with
   |true=>
    cases b5 with
    |true=>exact absurd (by cases b6<;>cases b7<;>decide) b
    |false=>
     cases b6 with
     |true=>exact absurd (by cases b7<;>decide) b
     |false=>
      cases b7 with
      |true=>exact absurd O b
      |false=>exact YN o f w a hw
   |false=>
    cases b5 with
    |true=>
     cases b6 with
     |true=>exact absurd (by cases b7<;>decide) b
     |false=>
      cases b7 with
      |true=>exact absurd O b
      |false=>exact YP o f w a hw
    |false=>
     cases b6 with
     |true=>
      cases b7 with
      |true=>exact absurd O b
      |false=>exact YO o f w a hw
     |false=>
      cases b7 with
      |true=>exact UO o f w a hw
      |false=>exact SW o f w a hw
 .rw[cX d]at a;rw[QM o f d];exact UN o f w a
theorem pU(r):∃a b d e f g h m7,sI r=.tuple #[.agg #[Y a,H b,.string d,Y e,Y f,Y g,Y h],Y m7]:=by
 cases r with
 |error c=>exact⟨_,_,_,_,_,_,_,_,rfl⟩
 |ok t=>exact⟨_,_,_,_,_,_,_,_,rfl⟩
def oJ(now:Int)(q:NQ)(old:TK)(x s:BE):Except Int TK:=if Gv q.aO=32 then yC now old else if Gv q.aO=16 then yD now old else QL now q old x s
structure TK.In(t:TK):Prop where
 ae:b9 t.ae
 dV:b9 t.dV
 start:b9 t.start
 fin:b9 t.fin
 aC:b9 t.aC
theorem By(h:p:=by
 have B7:=((((((HB2.set 0 (Y m0)).set 1 (H m1)).set 2 (.string m2)).set 3 (Y m3)).set 4 (Y m4)).set 5 (Y m5)).set 6 (Y m6)
 refine bodyPost_ret (aG results186 _ _ _ (w.1.size+1+1) rfl _ (B7.load 333 _ underlying333 rfl Tryz.ji)) rfl ⟨by rw[Hm];rfl,?_⟩
 grind [Hid.o,aa,az]):p:=h
theorem UQ(X)(d)(q)(v u)(a)(x s)(w)(U:fo w X x s)(M:b9 d)(m:b9 x.bI)(l:b9 s.bI)(S:b9 x.aC)(T:b9 s.aC)(C:a.In):Calls prog 186 #[π X 0,Y d,.agg (q.cells v u).toArray,.agg a.cells.toArray] w λe b=>e=.returned (sI (oJ d q a x s))/\w.grownBy b none:=by
 obtain⟨B,j⟩:=aw ((w.alloc (.cells (q.cells v u).toArray 276)).alloc (.cells a.cells.toArray 333))
 have D:w.grownBy B none:=by grind [cx,aM]
 have K:B.rangeAt w.1.size 0 (q.cells v u):=by grind [aS,gZ,cx]
 have R:B.rangeAt (w.1.size+1) 0 a.cells:=by
  grind [aS,cF]
 have V:B.1.size=w.1.size+1+1:=rR
 obtain⟨L,h⟩:=aw (B.alloc (.cells jA 333))
 have Q:dz L (w.1.size+1+1) jA:=by grind [dz.new]
 have n:B.grownBy L none:=mL
 have c8:=n.cell (K 8 (Y q.aO) rfl) Z
 have f:=gZ K n
 have b:=gZ R n
 have k:=U.grown (aa D n)
 have sS:=I D
 have W:=I n
 have r:=I Q
 have ab:=I V.symm
 rw[j]at h
 have t:=I h
 unfold oJ
 rw[<-Yr]
 have e0:=b 0 _ rfl
 have e1:=b 1 _ rfl
 have e2:=b 2 _ rfl
 have e3:=b 3 _ rfl
 have e4:=b 4 _ rfl
 have e5:=b 5 _ rfl
 have e6:=b 6 _ rfl
 by_cases A:bits .and .i64 q.aO 240=32
 .rw[dT A];have p:=I (GD d a L C.ae);obtain⟨m0,m1,m2,m3,m4,m5,m6,m7,i⟩:=pU (yC d a);rw[i]at p;have Hm:=I i;clear i D n Q j h K R V U M m l S T C f b k;go_in
  go_wp2_with (first
   |(rw[<-t];fail_if_success done)
   |(go_at_call 224;refine p.mono ?_;rintro e P ⟨rfl,g⟩;have HB2:Hid (dz P (w.1.size+1+1) jA):=r.grown g Z;have J:=I (aa W g);clear g;obtain⟨⟨p0,p1,p2,p3,p4,p5,p6⟩,f0,f1,f2,f3,f4,f5,f6⟩:=jS HB2))
  exact By
 .rw[cZ A];have ae:=cJ.2 A;by_cases y:bits .and .i64 q.aO 240=16
  .rw[dT y];have p:=I (MV d a L M C.start C.fin);obtain⟨m0,m1,m2,m3,m4,m5,m6,m7,i⟩:=pU (yD d a);rw[i]at p;have Hm:=I i;clear i D n Q j h K R V U M m l S T C f b k;go_in
   go_wp2_with (first
    |(rw[<-t];fail_if_success done)
    |(go_at_call 225;refine p.mono ?_;rintro e P ⟨rfl,g⟩;have HB2:Hid (dz P (w.1.size+1+1) jA):=r.grown g Z;have J:=I (aa W g);clear g;obtain⟨⟨p0,p1,p2,p3,p4,p5,p6⟩,f0,f1,f2,f3,f4,f5,f6⟩:=jS HB2))
   exact By
  .rw[cZ y];have ad:=cJ.2 y;have p:=I (MX X d q v u a x s L k M m l S T);obtain⟨m0,m1,m2,m3,m4,m5,m6,m7,i⟩:=pU (QL d q a x s);rw[i]at p;have Hm:=I i;have k0:=f 0 _ rfl;have k1:=f 1 _ rfl;have k2:=f 2 _ rfl;have k3:=f 3 _ rfl;have k4:=f 4 _ rfl;have k5:=f 5 _ rfl;have k6:=f 6 _ rfl;have k7:=f 7 _ rfl;have k8:=f 8 _ rfl;clear i D n Q j h K R V U M m l S T C f b k;go_in
   go_wp2_with (first
    |(rw[<-t];fail_if_success done)
    |(go_at_call 226;refine p.mono ?_;rintro e P ⟨rfl,g⟩;have HB2:Hid (dz P (w.1.size+1+1) jA):=r.grown g Z;have J:=I (aa W g);clear g;obtain⟨⟨p0,p1,p2,p3,p4,p5,p6⟩,f0,f1,f2,f3,f4,f5,f6⟩:=jS HB2))
   exact By
theorem Cp(h:p:=by have h:=R0 7 (.bool q.pre.isSome) rfl;rw[hq]at h;exact h):p:=h
theorem I3(h:p:=by
 go_in
 go_wp2_with (first
  |(rw[<-HW0];fail_if_success done)
  |(go_at_call 208;refine HA.mono ?_;clear HA;rintro e w1 ⟨rfl,rfl⟩))
 go_wp2
 go_ret
 exact⟨bD (by rw[HE];rfl),HG⟩):p:=h
theorem GH(l i)(g a j)(v)(q:FQ)(x s)(w)(k:fo w i x s)(hq:q.pre=none):Calls prog 174 #[π l 0,π i 0,.agg (q.cells j v).toArray] w λe b=>e=.returned (Y (eY g a x q.pre))/\w.grownBy b none:=by
 obtain⟨d,b⟩:=aw (w.alloc (.cells (q.cells j v).toArray 269))
 have f:w.grownBy d none:=mL
 have R0:d.rangeAt w.1.size 0 (q.cells j v):=n'
 have m:d.c w.1.size 7=some (.bool false):=Cp
 have HA:=I (zI i 4 x 1 0 d O O ((k.grown f).c 7 _ rfl))
 have HG:=I f
 have HW0:=I b
 have HE:Hid (eY g a x q.pre=if x.has 1=true then 25 else 0):=by rw[hq];exact rfl
 generalize eY g a x q.pre=pc at *
 clear f b R0 k hq
 generalize x.has 1=b1 at *
 cases b1 with
 |true=>
  exact I3
 |false=>
  exact I3
theorem GI(v g B)(K)(p)(rb)(r a)(l)(z)(u)(n f)(q:FQ)(x s)(w)(R:fo w B x s)(hq:q.pre=some (l,z))(X:w.c v 1=some K)(c3:w.c v 3=some (π g 0))(c4:w.c v 4=some (Y a))(cs:w.c g 0=some (Y r))(dB:b9 a)(Q:f' w K p rb)(M:l' p v)(S:l' p B)(o3:∀j,j<188->¬ Pl.has p g j)(A:Hid (z.length=n))(J:n<=f)(hz:At w u z)(k:∀b e,u=some ⟨b,e,none⟩->∀j,j<z.length->¬ Pl.has p b (e+j)):Calls prog 174 #[π v 0,π B 0,.agg (q.cells l (.slice u n f)).toArray] w λe y=>e=.returned (Y (eY r a x q.pre))/\CF w y (Pl.has p):=by
 obtain⟨j,D⟩:=aw (w.alloc (.cells (q.cells l (.slice u n f)).toArray 269))
 have b:w.grownBy j none:=mL
 have R0:j.rangeAt w.1.size 0 (q.cells l (.slice u n f)):=n'
 have r7:j.c w.1.size 7=some (.bool true):=Cp
 have r8:j.c w.1.size 8=some (Y l):=R0 8 _ rfl
 have r9:j.c w.1.size 9=some (.slice u n f):=R0 9 _ rfl
 have k1:=b.cell X Z
 have p1:=(R.grown b).c 1 _ rfl
 have p2:=(R.grown b).c 2 _ rfl
 have V:=I (MI K p rb x.key u z n f j.drew (by grind [f'.grown,bg]) A J (hz.below (bg b)) k)
 have HG:=I b
 have P:=I D
 have U:Hid (∀W,CF j W (Pl.has p)->∀t,b9 t->Calls prog 210 #[π v 0,Y t] W λe y=>e=.returned (.bool (decide (r<dU t a)))/\∃m,y=W.drewN m):=
  λW i t L=>wY v g a r t W (i.cell (b.cell c3 Z) (pE M _)) (i.cell (b.cell c4 Z) (pE M _)) (by grind [CF.cell,World.grownBy.cell]) dB L
 have T:Hid (eY r a x q.pre=if iC (bM (dD x.key 1 z,false)).2=true then(if l≠x.aH then 24 else if r<dU (bM (dD x.key 1 z,false)).1 a then 37 else 0) else 24):=by
  refine I ?_;rw[hq];unfold eY;simp only[];rw[YH];cases C:iC (bM (dD x.key 1 z,false)).2<;>rfl
 have L:b9 (bM (dD x.key 1 z,false)).1:=ug _
 have HT:=I L
 have C:Hid (∀W,CF j W (Pl.has p)->W.c v 1=some K/\W.c B 1=some (Y x.aH)/\W.c B 2=some (H (x.key.toNat:Int))/\W.c w.1.size 8=some (Y l)/\W.c w.1.size 9=some (.slice u n f)):=
  λW i=>⟨i.cell k1 (pE M _),i.cell p1 (pE S _),i.cell p2 (pE S _),i.cell r8 (SI Q _),i.cell r9 (SI Q _)⟩
 generalize eY r a x q.pre=pc at *
 generalize (bM (dD x.key 1 z,false)).1=t at *
 generalize iC (bM (dD x.key 1 z,false)).2=d at *
 clear b D R0 R hq X c3 c4 cs dB Q M S o3 A hz k L
 go_in
 go_wp2_with (first|(rw[<-P];fail_if_success done))
 go_region_held3 (λy=>y.c v 1=some K/\y.c B 2=some (H (x.key.toNat:Int))/\y.c w.1.size 9=some (.slice u n f)) (go_keep) (first|(go_at_call 209;refine V.mono ?_;rintro e M ⟨rfl,b⟩;have D:=I b.dM;clear b;obtain⟨i,R,k,Q,L⟩:=C _ D))
 clear r7 r8 r9 k1 p1 p2 V C i k L
 cases d with
 |false=>
  go_wp2_with fail;go_quiet (fail)
  go_wp2;go_ret;exact⟨bD (by rw[T];rfl),(by grind [Hid.o,CF.before,CF.trans,CF.bF,aR,cC])⟩
 |true=>
  by_cases A:l=x.aH
  .have y:(l==x.aH)=true:=(by rw[db];exact A);have L:=I A;clear A;have i:=I (λk=>U (M.drewN k) (D.o.trans (by grind [cC,aR,CF.bF]) (λ_ _ _ e=>e)) t HT.o);have b:Hid (pc=if r<dU t a then 37 else 0):=fA;clear U T;by_cases k:r<dU t a
   .rw[dk k]at i;rw[dT k]at b;clear k;go_wp2_with fail;go_quiet (fail)
    go_wp2_with (first|(go_at_call 210;refine(i _).mono ?_;clear i;rintro e C ⟨rfl,m,rfl⟩))
    go_wp2;go_ret;exact⟨bD b.o.symm,(by grind [CF.bF,aR,cC,CF.trans,Hid.o,CF.before])⟩
   .rw[cX k]at i;rw[cZ k]at b;clear k;go_wp2_with fail;go_quiet (fail)
    go_wp2_with (first|(go_at_call 210;refine(i _).mono ?_;clear i;rintro e C ⟨rfl,m,rfl⟩))
    go_wp2;go_ret;exact⟨bD b.o.symm,(by grind [CF.before,CF.trans,Hid.o,CF.bF,aR,cC])⟩
  .have y:(l==x.aH)=false:=fA;have b:Hid (pc=24):=kA;go_wp2_with fail;go_quiet (fail)
   go_wp2;go_ret;exact⟨bD b.o.symm,(by grind [CF.bF,aR,cC,Hid.o,CF.trans,CF.before])⟩
def sJ(now aA:Int)(q:FQ)(x s:BE):Bool:=if aI q.aO 8=true then(x.has 16&&s.has 16) else !decide (aW now aA<q.ma)
theorem UR(k g n)(a h o)(v)(q)(x s)(w)(r:w.c k 3=some (π g 0))(t:w.c k 4=some (Y a))(u:w.c g 0=some (Y h))(y:b9 a)(j:b9 h)(l:fo w n x s):Calls prog 175 #[π k 0,π n 0,.agg (q.cells o v).toArray] w λe b=>e=.returned (.tuple #[Y (bH a q),.bool (sJ a h q x s)])/\w.grownBy b none:=by
 obtain⟨d,i⟩:=aw (w.alloc (.cells (q.cells o v).toArray 269))
 have b:w.grownBy d none:=mL
 have m:d.rangeAt w.1.size 0 (q.cells o v):=n'
 have C:d.c w.1.size 3=some (Y q.ma):=m 3 _ rfl
 have D:d.c w.1.size 6=some (Y q.aO):=m 6 _ rfl
 have B:=b.cell t Z
 have A:=I (λnq=>QF n x s 16 4 d nq O O (l.grown b))
 have HB:=I (λnq=>UL k g a h q.ma d nq (b.cell r Z) B (b.cell u Z) y j)
 have p:=I b
 have f:=I i
 have e:=kH q.aO 8 3 O O
 unfold bH sJ
 clear b i m r t u y j l
 generalize aI q.aO 8=b1 at *
 generalize (x.has 16&&s.has 16)=b2 at *
 generalize aW a h=sk at *
 cases b1 with
 |true=>
  rw[eV]at e;have l:=cJ.1 e;clear e;go_in;go_wp2_with (rw[<-f];fail_if_success done)
  go_quiet (first|(go_at_call 211;exact A _))
  go_wp2;go_ret2;exact⟨rfl,aR p _⟩
 |false=>
  rw[eM]at e;have l:=db.1 e;clear e;go_in;go_wp2_with (rw[<-f];fail_if_success done)
  go_quiet (first|(go_at_call 184;exact HB _))
  go_wp2;go_ret2;exact⟨rfl,aR p _⟩
def oK(q:FQ)(x s:BE):Int:=32+(if q.pre.isSome then 64 else 0)+(if aI q.aO 8=true then 24 else 0)+jH q.aO x s
theorem M4(o)(x s):jH o x s=ig o 7 x s:=by
 grind [aI,ig,jH]
theorem GJ(a)(q)(x s):(mI a q x s).ae=oK q x s:=by
 unfold mI oK;rw[M4]
theorem YQ:∀(a b d),(bits .or .i64 32 ((if a=true then 1 else 0)+(if b=true then 2 else 0)+(if d=true then 4 else 0))=32+((if a=true then 1 else 0)+(if b=true then 2 else 0)+(if d=true then 4 else 0)))/\(bits .or .i64 (32+((if a=true then 1 else 0)+(if b=true then 2 else 0)+(if d=true then 4 else 0))) 64=96+((if a=true then 1 else 0)+(if b=true then 2 else 0)+(if d=true then 4 else 0)))/\(bits .or .i64 (32+((if a=true then 1 else 0)+(if b=true then 2 else 0)+(if d=true then 4 else 0))) 24=56+((if a=true then 1 else 0)+(if b=true then 2 else 0)+(if d=true then 4 else 0)))/\(bits .or .i64 (96+((if a=true then 1 else 0)+(if b=true then 2 else 0)+(if d=true then 4 else 0))) 24=120+((if a=true then 1 else 0)+(if b=true then 2 else 0)+(if d=true then 4 else 0))):=by decide
theorem EA(u)(y)(v)(q)(x s)(w)(p:fo w u x s):Calls prog 178 #[π u 0,.agg (q.cells y v).toArray] w λe a=>e=.returned (Y (oK q x s))/\w.grownBy a none:=by
 obtain⟨j,a⟩:=aw (w.alloc (.cells (q.cells y v).toArray 269))
 have f:w.grownBy j none:=mL
 have g:j.rangeAt w.1.size 0 (q.cells y v):=n'
 have r:j.c w.1.size 6=some (Y q.aO):=g 6 _ rfl
 have t:j.c w.1.size 7=some (.bool q.pre.isSome):=g 7 _ rfl
 have d:=I (Bv u x s q.aO j (p.grown f))
 have l:=I f
 have b:=I a
 have i:=kH q.aO 8 3 O O
 have h:=YQ (aI q.aO 1&&(x.has 4&&s.has 4)) (aI q.aO 2&&(x.has 8&&s.has 8)) (aI q.aO 4&&(x.has 2&&s.has 2))
 unfold oK
 change bits .or .i64 32 (jH q.aO x s)=32+jH q.aO x s/\bits .or .i64 (32+jH q.aO x s) 64=96+jH q.aO x s/\bits .or .i64 (32+jH q.aO x s) 24=56+jH q.aO x s/\bits .or .i64 (96+jH q.aO x s) 24=120+jH q.aO x s at h
 have m:=I h
 clear f a g p h
 generalize aI q.aO 8=b1 at *
 generalize jH q.aO x s=al at *
 generalize q.pre.isSome=b2 at *
 cases b1 with
 |true=>
  rw[eV]at i;have p:=cJ.1 i;clear i;cases b2 with
  |true=>
   go_in
   go_wp2_with (first
    |(rw[<-b];fail_if_success done)
    |(go_at_call 213;refine d.mono ?_;clear d;rintro e A ⟨rfl,a⟩;have g:=a.cell r Z;have h:=a.cell t Z))
   go_wp2;go_ret;exact⟨bD (by obtain⟨f,k,n,o⟩:=m.o;rw[f,k,o]),aa l a⟩
  |false=>
   go_in
   go_wp2_with (first
    |(rw[<-b];fail_if_success done)
    |(go_at_call 213;refine d.mono ?_;clear d;rintro e A ⟨rfl,a⟩;have g:=a.cell r Z;have h:=a.cell t Z))
   go_wp2;go_ret;exact⟨bD (by obtain⟨f,k,n,o⟩:=m.o;rw[f,n]),aa l a⟩
 |false=>
  rw[eM]at i;have p:=db.1 i;clear i;cases b2 with
  |true=>
   go_in
   go_wp2_with (first
    |(rw[<-b];fail_if_success done)
    |(go_at_call 213;refine d.mono ?_;clear d;rintro e A ⟨rfl,a⟩;have g:=a.cell r Z;have h:=a.cell t Z))
   go_wp2;go_ret;exact⟨bD (by obtain⟨f,k,n,o⟩:=m.o;rw[f,k]),aa l a⟩
  |false=>
   go_in
   go_wp2_with (first
    |(rw[<-b];fail_if_success done)
    |(go_at_call 213;refine d.mono ?_;clear d;rintro e A ⟨rfl,a⟩;have g:=a.cell r Z;have h:=a.cell t Z))
   go_wp2;go_ret;exact⟨bD (by obtain⟨f,k,n,o⟩:=m.o;rw[f]),aa l a⟩
def jB(q:NQ):Bool:=(aI q.aO 16||aI q.aO 32)&&decide (q.fU=q.aV)
theorem EB(v u)(q)(w):Calls prog 216 #[.agg (q.cells v u).toArray] w λe a=>e=.returned (.bool (jB q))/\w.grownBy a none:=by
 obtain⟨d,e⟩:=aw (w.alloc (.cells (q.cells v u).toArray 276))
 have g:w.grownBy d none:=mL
 have f:d.rangeAt w.1.size 0 (q.cells v u):=n'
 have k:d.c w.1.size 0=some (.string ⟨q.fU.toArray⟩):=f 0 _ rfl
 have l:d.c w.1.size 4=some (.string ⟨q.aV.toArray⟩):=f 4 _ rfl
 have m:d.c w.1.size 8=some (Y q.aO):=f 8 _ rfl
 have i:=I g
 have b:=I e
 have a:=MD q.aO
 have h:Hid (jB q=((aI q.aO 16||aI q.aO 32)&&decide (q.fU=q.aV))):=rfl
 generalize jB q=sb at *
 have j:(!aI q.aO 16&&!aI q.aO 32)=!(aI q.aO 16||aI q.aO 32):=Z
 rw[j]at a
 clear g e f j
 generalize (aI q.aO 16||aI q.aO 32)=b1 at *
 cases b1 with
 |true=>
  rw[eV]at a;have e:=cJ.1 a;clear a;go_in;go_wp2_with (rw[<-b];fail_if_success done)
  go_wp2;go_ret;exact⟨fP (by rw[h,show(bits .and .i64 q.aO 48 != 0)=true from by simpa using e];simp[Bool.beq_eq_decide_eq]),i.o⟩
 |false=>
  rw[eM]at a;have e:=db.1 a;clear a;go_in;go_wp2_with (rw[<-b];fail_if_success done)
  go_wp2;go_ret;exact⟨fP (by rw[h];simp),i.o⟩
def RP.drawn(r:RP)(a b c:UInt64):RP:={r with t:={r.t with aN:=a},uY:=b,vP:=c}
theorem YR{w:World}{d:Nat}{r:RP}(h:nK w d r)(a b c):nK (((w.s d 1 (H (a.toNat:Int))).s d 10 (H (b.toNat:Int))).s d 14 (H (c.toNat:Int))) d (r.drawn a b c):=by
 intro i v g;have k:=h.at 14 _ rfl;have j:=h.at 10 _ rfl;have n:=h.at 1 _ rfl;rw[cN];by_cases f:i=14
 .subst f;obtain rfl:Value.int .u64 (c.toNat:Int)=v:=by simpa[RP.cells,RP.drawn]using g
  grind [ax,dw]
 by_cases e:i=10
 .subst e;obtain rfl:Value.int .u64 (b.toNat:Int)=v:=by simpa[RP.cells,RP.drawn]using g
  grind [ax,dw]
 by_cases l:i=1
 .grind [dw,ax,RP.cells,RP.drawn]
 have m:r.cells[i]?=some v:=by
  rw[<-g];rcases i with _|_|_|_|_|_|_|_|_|_|_|_|_|_|_|i;all_goals first|rfl|(exfalso;omega)
 grind [ax,nK.at]
theorem SK(p g i n d)(m)(r)(w)(o:w.c p 3=some (π g 0))(t:n<24)(q:w.c g 1=some (.slice m n d))(l:nK w i r)(h:b' w i 15):Calls prog 180 #[π p 0,π i 0] w λe a=>e=.returned (.bool false)/\CF w a (λb _=>b=i):=by
 obtain⟨b,f⟩:=aw (w.alloc (.cells #[H 0,H 0,H 0] 367))
 have a:w.grownBy b none:=mL
 have j:b.rangeAt w.1.size 0 [H 0,H 0,H 0]:=n'
 have u:=I (λk=>T7 g 1 n d w.1.size m (b.drewN k) t ((aR a k).cell q Z))
 have y:w.1.size≠i:=λe=>by have:=h.lt;omega
 have D:b.c w.1.size 0=some (H 0):=j 0 _ rfl
 have J:b.c w.1.size 1=some (H 0):=j 1 _ rfl
 have K:b.c w.1.size 2=some (H 0):=j 2 _ rfl
 have M:=a.cell o Z
 have P:=a.cell (l.at 1 _ rfl) Z
 have A:=a.cell (l.at 10 _ rfl) Z
 have B:=a.cell (l.at 14 _ rfl) Z
 have L:=(h.grown a).frozen 1
 have v:=(h.grown a).frozen 10
 have x:=(h.grown a).frozen 14
 have C:=I a
 have k:=I f
 clear a f j t l h q o
 go_in
 go_wp2_with (first|(rw[<-k];fail_if_success done))
 go_quiet (first|(go_at_call 214;refine(u _).mono ?_;rintro e a ⟨rfl,rfl⟩;exact⟨rfl,_,rfl⟩))
 go_wp2
 go_ret
 refine⟨rfl,?_⟩
 grind [CF.setCell,aR,CF.bF,Hid.o]
theorem M5(f g a)(q:Pl)(l)(n)(r)(w)(D:w.cell? (F f 3)=some (π g 0))(U:Hid (l.length=n))(Q:24<=n)(t:n<=q.cap)(k:q.cap<=9223372036854775807)(S:w.cell? (F g 1)=some (ς q.g q.off n q.cap))(h:b' w g 188)(T:w.rangeAt q.g q.off (l.map U8))(u:q.g≠g)(C:q.g<w.1.size)(V:nK w a r)(L:b' w a 15)(j:g≠a)(p:f≠a)(m:f≠g):Calls prog 180 #[π f 0,π a 0] w λe v=>e=.returned (.bool true)/\nK v a (r.drawn (eF l 0) (eF l 1) (eF l 2))/\(∃d,v.cell? (F g 1)=some (ς q.g d (n-24) (q.cap-24))/\(q.cap-24≠0->d=q.off+24)/\d<=q.off+24)/\CF w v (λb y=>b=g/\y=1\/b=a):=by
 obtain⟨B,i⟩:=aw (w.alloc (.cells #[H 0,H 0,H 0] 367))
 have b:w.grownBy B none:=mL
 have R:b' B w.1.size 3:=by grind [b'.new]
 have K:=h.lt
 have P:=L.lt
 have W:=I (Yd g 1 w.1.size q l n B.drew U Q t k ((bg b).cell S Z) ((h.grown (bg b)).mono G) (R.grown (bg (cC _ _))) (gZ T (bg b)) G u G)
 have M:w.1.size≠a:=λe=>by omega
 have k3:=b.cell D Z
 have y:=I (V.grown b)
 have HL:=I (L.grown b)
 have J:=jF D
 have x:Hid (f≠w.1.size/\g≠w.1.size/\g≠a/\f≠a/\f≠g):=⟨by omega,by omega,j,p,m⟩
 have X:=I b
 have A:=I i
 clear b i R U Q t k S h T u C V L j p m K P J D
 go_in
 go_wp2_with (first|(rw[<-A];fail_if_success done))
 go_region_held3 (λv=>v.cell? (F f 3)=some (π g 0)) (go_keep) (first|(go_at_call 214;refine W.mono ?_;rintro e J ⟨rfl,b,m,k⟩;have K:=I b;have p:=I k.dM;have L:=m 0 O;have P:=m 1 O;have Q:=m 2 O;clear b k m;have C:=p.cell k3 (λe=>by rcases e with e|e;exact x.2.2.2.2 e.1;exact x.1 e)))
 have k:=p.o
 have h:Hid (nK J a r):=λi v b=>k.cell (y i v b) kA
 have S:=h.at 1 _ rfl
 have v:=h.at 10 _ rfl
 have D:=h.at 14 _ rfl
 have b:=HL.cf k
 have R:=b.frozen 1
 have t:=b.frozen 10
 have u:=b.frozen 14
 have i:a≠w.1.size:=λe=>M e.symm
 clear k b
 go_wp2
 go_ret
 refine⟨rfl,?_,?_,?_⟩
 .grind [Hid.o,YR]
 .obtain⟨d,b,k,m⟩:=K.o;refine⟨d,?_,k,m⟩;have j:=x.2.2.1;rw[iA _ _ _ _ fA,iA _ _ _ _ fA,iA _ _ _ _ fA];exact b
 .repeat refine CF.setCell ?_ _ _ _ (λ_=>.inr rfl)
  exact(CF.before X p).mono G
variable {w':World}
structure yE(w:World)(hb g T:Nat)(fv ro rr:Value)(now:Int):Prop where
 c0:w.cell? (F hb 0)=some (.iface T fv)
 c1:w.cell? (F hb 1)=some ro
 c2:w.cell? (F hb 2)=some rr
 c3:w.cell? (F hb 3)=some (π g 0)
 c4:w.cell? (F hb 4)=some (Y now)
theorem yE.cf{ex:Nat->Nat->Prop}{d g T:Nat}{e f i:Value}{b:Int}(h:yE w d g T e f i b)(k:CF w w' ex)(a:∀y,¬ ex d y):yE w' d g T e f i b:=
 ⟨k.cell h.c0 (a 0),k.cell h.c1 (a 1),k.cell h.c2 (a 2),k.cell h.c3 (a 3),k.cell h.c4 (a 4)⟩
theorem yE.grown{d g T:Nat}{b f i:Value}{a:Int}(h:yE w d g T b f i a)(k:w.grownBy w' none):yE w' d g T b f i a:=h.cf (CF.bF k (λ_ _=>False)) (λ_ e=>e)
theorem vY{v:Value}{p:Option Pl}(h:f' w v p []):∃b a,v=.slice b 0 a/\∀w,(Instr.sliceAt 37 (.slice b 0 a) none (some (Y 0)) none).run prog w=.ok (.slice b 0 a) w:=by
 rcases h with⟨_,rfl,_⟩|⟨q,_,rfl,_,_,_,_⟩
 .exact⟨none,0,rfl,λw=>by kernel_rfl⟩
 .refine⟨_,_,rfl,λw=>?_⟩;have b:prog.elem 37=5:=by simp[Program.elem,underlying37]
  have a:prog.underlying 37=some (.slice (prog.elem 37)):=by rw[b];exact underlying37
  rw[run_sliceAt_slice w 37 _ _ _ _ a,run_slice_h w 37 _ _ q.cap a .i64 0 O G,b];have d:∀W,(sizeOf 5).run prog W=.ok 1 W:=λ_=>by kernel_rfl
  rw[d];simp only[Result.andThen,sliced,Int.toNat_zero,Nat.sub_zero,gf];split<;>first|rfl|simp[Addr.add_lit]
theorem EC{v:Value}{p:Option Pl}{a:E}(h:aU w.drew w' v p a):aU w w' v p a:=by
 obtain⟨g,b,d,e,f⟩:=h;exact⟨g,b,d.dM,e,f⟩
theorem yF(f g T)(x A m)(i)(d a)(w)(h:yE w f g T x A m d)(k:f' w m i [])(o:l' i f)(t:b9 d)(b:b9 a):Calls prog 141 #[π f 0,Y a] w λe w'=>∃n,e=.returned n/\aU w w' n i (aY d a):=by
 have p:=I (zy m i [] d a w.drew k.drew t b Z)
 obtain⟨u,j,l,y⟩:=vY k
 rw[l]at p
 have r:=h.c2
 rw[l]at r
 have v:=h.c4
 have q:=I o
 clear h k o t b l
 go_in
 go_wp2_with fail
 go_region_held3 (λw'=>w'.c f 2=some (.slice u 0 j)/\w'.c f 4=some (Y d)) (go_keep) (first|(go_at_call 188;refine p.mono ?_;rintro e o ⟨n,rfl,h⟩;have b:=I h;clear h;have k:=b.cf.dM.cell r (pE q _);have l:=b.cf.dM.cell v (pE q _)))
 go_wp2
 go_ret
 exact⟨_,rfl,EC b⟩
variable {M:DM}{now:Int}{es:List BE}{ask:List Value}{T g hb sb:Nat}{dQ sW:Nat->Nat->Prop}{dp po pr:Option Pl}{fv ro rr rv:Value}{W W':World}{J:World->Prop}
theorem Tryz.IL:(prog.info? 328).map (·.size)=some 3:=by kernel_rfl
theorem zR(S)(w):Calls prog 172 #[.string S] w λe a=>e=.returned (.agg #[.string S,Y 6,Y 1])/\w.grownBy a none:=by
 go_in
 go_wp2
 exact bodyPost_ret (sU results172 _ _ _ w.1.size rfl _ ((dz.new w _ 328).load 328 _ underlying328 rfl Tryz.IL)) rfl ⟨rfl,cx _ _ none⟩
theorem xS(S)(w):Calls prog 173 #[.string S] w λe a=>e=.returned (.agg #[.string S,Y 7,Y 2])/\w.grownBy a none:=by
 go_in
 go_wp2
 exact bodyPost_ret (sU results173 _ _ _ w.1.size rfl _ ((dz.new w _ 328).load 328 _ underlying328 rfl Tryz.IL)) rfl ⟨rfl,cx _ _ none⟩
structure BE.In(e:BE):Prop where
 aH:1<=e.aH/\e.aH<=4611686018427387904
 bI:b9 e.bI
 aC:b9 e.aC
 name:e.name.length<=1000
structure HS(hb g base T:Nat)(fv rv:Value)(po pr dp:Option Pl)(J:World->Prop)(dQ sW:Nat->Nat->Prop)(es:List BE):Prop where
 afQ:∀W,(method 520 T fv "Find").run prog W=.ok (mC T,rv) W
 finds:Finds (mC T) J dQ sW rv es
 hbF:∀y,¬ dQ hb y
 UT:∀b y,base<=b->¬ dQ b y
 AO:∀b y,base<=b->sW b y
 poJ:∀b y,Pl.has po b y->sW b y
 prJ:∀b y,Pl.has pr b y->sW b y
 aej:sW g 1
 acH:∀y,163<=y->y<188->sW g y
 poH:l' po hb
 prH:l' pr hb
 poG:∀j,j<188->¬ Pl.has po g j
 prG:∀j,j<188->¬ Pl.has pr g j
 aek:∀y,y<188->¬ dQ g y
 hbg:hb≠g
 M6:∀p,dp=some p->p.g≠g/\p.g≠hb/\p.g<base/\∀y,¬ dQ p.g y/\¬ Pl.has po p.g y/\¬ Pl.has pr p.g y
 gb:g<base
 hbb:hb<base
 sZ:∀e∈es,e.In
 sorted:es.Pairwise (λx y=>Op.bytesLess x.name y.name=true)
def pL(po:Option Pl)(dQ:Nat->Nat->Prop)(b y:Nat):Prop:=dQ b y\/Pl.has po b y
theorem mq{l:E}{e:BE}(h:BE.find es l=some e):e∈es:=List.mem_of_find?_eq_some h
theorem lV{l:E}{e:BE}(h:BE.find es l=some e):e.name=l:=by
 have:=List.find?_some h;simpa using this
theorem fo.cf{d:World}{ex:Nat->Nat->Prop}{b:Nat}{x s:BE}(h:fo w b x s)(k:CF w d ex)(a:∀y,¬ ex b y):fo d b x s:=
 ⟨k.range h.ay (λ_ _=>a _),k.range h.aV (λ_ _=>a _)⟩
theorem lH{d a b:Int}(e:b9 d):b9 (gS (j9 d) (gS (mG a) (mG b))):=by
 have f:=AL a;have g:=AL b;unfold b9 at *;unfold gS j9;(repeat' split)<;>omega
structure FX(w W:World)(hb g base T:Nat)(fv ro rr:Value)(po pr dp:Option Pl)(dQ:Nat->Nat->Prop)(M:DM)(now:Int)(sb:Nat)(ask:List Value):Prop where
 hear:yE W hb g T fv ro rr now
 bP:dE W g 0 dp M
 oq:f' W ro po []
 r:f' W rr pr []
 ask:W.rangeAt sb 0 ask
 big:w.1.size<=W.1.size
 cf:CF w W (pL po dQ)
theorem AD(h:p:=by
 rintro j _ ((e|e)|e)
 .exact S.UT _ _ G e
 .have:=hpo _ _ e;omega
 .omega):p:=h
theorem Hi(h:p:=by
 rintro q hq j hj ((e|e)|e)
 .exact((S.M6 q hq).2.2.2 _).1 e
 .exact((S.M6 q hq).2.2.2 _).2.1 e
 .have:=(S.M6 q hq).2.2.1;omega):p:=h
theorem Fk(h:p:=by
 rintro j _ h2 ((e|e)|e)
 .exact S.aek j G e
 .exact S.poG j G e
 .omega):p:=h
theorem FX.step{a:Nat}(h:FX w W hb g a T fv ro rr po pr dp dQ M now sb ask)(S:HS hb g a T fv rv po pr dp J dQ sW es)(k:CF W W' (λb y=>pL po dQ b y\/w.1.size<b))(i:sb=w.1.size)(d:a<=w.1.size)(hpo:∀b y,Pl.has po b y->b<w.1.size):FX w W' hb g a T fv ro rr po pr dp dQ M now sb ask:=by
 have b:=S.hbb;have f:=S.gb;refine⟨h.hear.cf k ?_,h.bP.cf k ?_ ?_,h.oq.cf k fA,h.r.cf k fA,k.range h.ask ?_,?_,?_⟩
 .rintro y ((e|e)|e)
  .exact S.hbF y e
  .exact pE S.poH y e
  .omega
 .exact Fk
 .exact Hi
 .exact AD
 .exact cE h.big k.size
 .exact h.cf.trans k fA
structure ED(J:World->Prop)(w W:World)(hb g base T:Nat)(fv ro rr:Value)(po pr dp:Option Pl)(dQ:Nat->Nat->Prop)(M:DM)(now:Int)(sb:Nat)(ask:List Value):Prop extends FX w W hb g base T fv ro rr po pr dp dQ M now sb ask where
 j:J W
theorem ED.step{a:Nat}(h:ED J w W hb g a T fv ro rr po pr dp dQ M now sb ask)(S:HS hb g a T fv rv po pr dp J dQ sW es)(k:CF W W' (λb y=>Pl.has po b y\/w.1.size<b))(i:sb=w.1.size)(d:a<=w.1.size)(f:∀b y,Pl.has po b y->b<w.1.size):ED J w W' hb g a T fv ro rr po pr dp dQ M now sb ask:=
 ⟨h.toFX.step S (k.mono (λ_ _ _ e=>e.elim (λe=>.inl (.inr e)) .inr)) i d f,S.finds.stay _ _ h.j (k.mono (λb y _ e=>e.elim (S.poJ b y) (λe=>S.AO b y G)))⟩
theorem ED.found{a:Nat}(h:ED J w W hb g a T fv ro rr po pr dp dQ M now sb ask)(S:HS hb g a T fv rv po pr dp J dQ sW es)(k:CF W W' dQ)(j:J W')(i:sb=w.1.size)(d:a<=w.1.size)(f:∀b y,Pl.has po b y->b<w.1.size):ED J w W' hb g a T fv ro rr po pr dp dQ M now sb ask:=
 ⟨h.toFX.step S (k.mono (λ_ _ _ e=>.inl (.inl e))) i d f,j⟩
variable {e f:BE}{q:FQ}{aA:Int}
theorem SN(x y)(now)(a b c d)(e:0<=a/\a<=100)(f:0<=b/\b<=100)(g:0<=c/\c<=100)(h:0<=d/\d<=100):b9 (dS x y now a b c d):=by
 unfold dS b9;grind
theorem IM{x y:Option BE}{a b c d:Int}(g:a≠0)(i:b≠0)(h:dS x y now a b c d=0):∃e f,x=some e/\y=some f:=by
 cases x with
 |none=>exact absurd h g
 |some e=>
  cases y with
  |none=>exact absurd h i
  |some f=>exact⟨e,f,rfl,rfl⟩
theorem QO{x y:Option BE}(a:BE.find M.aF q.ay=x)(b:BE.find M.aF q.aV=y)(h:dS x y now 6 7 1 2≠0):dA M now (mB M now q)=(aY now (dS x y now 6 7 1 2),M):=by
 unfold mB;rw[a,b];cases x with
 |none=>rfl
 |some e=>
  cases y with
  |none=>rfl
  |some f=>
   simp only[];rw[dT h];rfl
theorem uM(b:BE.find M.aF q.ay=some e)(d:BE.find M.aF q.aV=some f)(h:dS (some e) (some f) now 6 7 1 2=0)(a:cO M.aA now q e f≠0):dA M now (mB M now q)=(aY now (cO M.aA now q e f),M):=by
 unfold mB;rw[b,d];simp only[];rw[cZ (λn=>n h),dT a];rfl
theorem YS(b:BE.find M.aF q.ay=some e)(d:BE.find M.aF q.aV=some f)(h:dS (some e) (some f) now 6 7 1 2=0)(a:cO M.aA now q e f=0):dA M now (mB M now q)=if M.aL.length<24 then(aY now 60,M) else(lU 11 {mI now q e f with aN:=eF M.aL 0} f q.bV e.aH e.key 3 (eF M.aL 1) (eF M.aL 2),{M with aL:=M.aL.drop 24}):=by
 unfold mB;rw[b,d];simp only[];rw[cZ (λn=>n h),cZ (λn=>n a)];rfl
theorem YT(aA now)(x)(p):b9 (eY aA now x p):=by
 unfold eY b9;grind
theorem M7(h:eY aA now e q.pre≠0):cO aA now q e f=eY aA now e q.pre:=by
 unfold cO;rw[dT h]
theorem UU(h:eY aA now e q.pre=0)(b:b9 q.aO)(a:(bits .andNot .i64 q.aO 15==0)=false):cO aA now q e f=13:=by
 unfold cO;rw[Ei q.aO b,decide_eq_false_iff_not]at a;rw[cZ (λn=>n h),dT G]
theorem Hj(h:p:=by
 unfold cO
 rw[Ei q.aO ho,decide_eq_true_eq]at hb
 rw[cZ (λn=>n h),cZ G]
 unfold sJ at hs
 grind):p:=h
theorem QQ(h:eY aA now e q.pre=0)(ho:b9 q.aO)(hb:(bits .andNot .i64 q.aO 15==0)=true)(hs:sJ now aA q e f=false):cO aA now q e f=10:=by
 exact Hj
theorem YU(h:eY aA now e q.pre=0)(ho:b9 q.aO)(hb:(bits .andNot .i64 q.aO 15==0)=true)(hs:sJ now aA q e f=true):cO aA now q e f=if fO now q e f<=bH now q then 11 else 0:=by
 exact Hj
theorem O1(q)(x s):aI (oK q x s) 4=(aI q.aO 4&&(x.has 2&&s.has 2)):=by
 unfold oK jH;generalize q.pre.isSome=b1;generalize aI q.aO 8=b2;generalize (aI q.aO 1&&(x.has 4&&s.has 4))=b3;generalize (aI q.aO 2&&(x.has 8&&s.has 8))=b4;generalize (aI q.aO 4&&(x.has 2&&s.has 2))=b5;revert b1 b2 b3 b4 b5;decide
theorem YV(q)(x s):b9 (oK q x s):=by
 unfold oK jH b9;(repeat' split)<;>omega
def UW(now:Int)(q:FQ)(x s:BE):Int:=if aI (oK q x s) 4=true then gS (j9 q.bX) (gS (aW (bH now q) x.aC) (aW (bH now q) s.aC)) else 0
theorem QR(now)(q)(x s):mI now q x s=⟨oK q x s,0,q.ay,now,bH now q,fO now q x s,UW now q x s⟩:=by
 grind [O1,GJ,aI,UW,fB,mI]
theorem IP(h:dE W g 0 dp M)(d:24<=M.aL.length):∃a,dp=some a/\W.c g 1=some (ς a.g a.off M.aL.length a.cap)/\M.aL.length<=a.cap/\a.cap<=9223372036854775807/\W.rangeAt a.g a.off (M.aL.map U8)/\b' W a.g (a.off+a.cap):=by
 obtain⟨v,l,b⟩:=h.aL;rcases b with⟨_,_,e⟩|⟨q,k,rfl,f,a,i,j⟩
 .grind
 .unfold maxLen at a;grind
theorem M8(h:dE W g 0 dp M):∃b a,W.c g 1=some (.slice b M.aL.length a):=by
 grind [f'.shape,dE.aL]
theorem EE{W':World}{rb:Nat}{a:Pl}{off:Nat}(h:dE W g 0 dp M)(t:24<=M.aL.length)(u:M.aL.length<=a.cap)(n:a.cap<=9223372036854775807)(r:W.rangeAt a.g a.off (M.aL.map U8))(l:b' W a.g (a.off+a.cap))(m:W'.c g 1=some (ς a.g off (M.aL.length-24) (a.cap-24)))(p:a.cap-24≠0->off=a.off+24)(q:off<=a.off+24)(k:CF W W' (λb y=>b=g/\y=1\/b=rb))(o:a.g≠g)(f:a.g≠rb)(d:g≠rb):
  dE W' g 0 (some ⟨a.g,off,a.cap-24⟩) {M with aL:=M.aL.drop 24}:=by
 refine⟨h.live.cf k,k.cell h.aA (λe=>by rcases e with⟨_,e⟩|e;exact absurd e O;exact d e),⟨_,m,.inr ⟨_,rfl,?_,?_,?_,?_,?_⟩⟩,h.aF.cf k (λj b i e=>by rcases e with⟨_,e⟩|e;omega;exact d e),k.range h.aJ (λj _ e=>by rcases e with⟨_,e⟩|e;omega;exact d e),k.cell h.count (λe=>by rcases e with⟨_,e⟩|e;exact absurd e O;exact d e),h.few⟩
 .show Value.slice _ _ _=Value.slice _ _ _;rw[dr]
 .show(M.aL.drop 24).length<=a.cap-24;rw[dr];omega
 .show a.cap-24<=maxLen;unfold maxLen;omega
 .show b' W' a.g (off+(a.cap-24));exact(l.cf k).mono G
 .show W'.rangeAt a.g off ((M.aL.drop 24).map U8);by_cases i:a.cap-24=0
  .have:M.aL.drop 24=[]:=by
    apply fh;rw[dr];omega
   rw[this];intro j v b;simp at b
  .rw[p i];intro j v b;refine k.cell ?_ (λe=>by rcases e with⟨e,_⟩|e;exact o e;exact f e);have:=r (24+j) v (by rw[<-b,List.map_drop,List.getElem?_drop]);rw[gi];exact this
theorem EF{w:World}{b:Nat}{a:Array Value}(h:dz w b a)(n)(f:n<=a.size):b' w b n:=by
 obtain⟨e,d⟩:=h;exact⟨a,e,d,f⟩
theorem BB(a)(q)(e f)(h:b9 q.dI):b9 (fO a q e f):=lH h
theorem SU(a)(q)(e f)(h:b9 q.bX):b9 (UW a q e f):=by
 unfold UW;split
 .exact lH h
 .exact⟨by decide,by decide⟩
theorem QS{d:Int}{q:FQ}{e f:BE}{i:List BE}{m p:Int}{a b c:UInt64}{M:DM}{r:RP}(v:r=⟨⟨m,0,q.ay,d,bH d q,fO d q e f,p⟩,q.aV,f.aH,f.key,0,q.bV,e.aH,e.key,0⟩)(j:b9 m)(l:b9 p)(k:b9 d/\b9 M.aA/\b9 q.bV/\b9 q.ma/\b9 q.dI/\b9 q.bX/\b9 q.aO)(g:BE.find i q.ay=some e/\BE.find i q.aV=some f)(h:∀e∈i,e.In):(r.drawn a b c).Fits:=by
 subst v;have n:=h e (mq g.1);have o:=h f (mq g.2);have t:=lV g.1;have u:=lV g.2;have w:=n.aH;have x:=o.aH;refine⟨j,k.1,?_,BB d q e f k.2.2.2.2.1,l,?_,k.2.2.1,?_,?_,?_⟩
 .show b9 (bH d q);grind [bH]
 .show b9 f.aH;unfold b9;omega
 .show b9 e.aH;unfold b9;omega
 .show q.ay.length<=1000;rw[<-t];exact n.name
 .show q.aV.length<=1000;rw[<-u];exact o.name
theorem Na{d:Int}{q:FQ}{e f:BE}{g h:Int}{a b c:UInt64}{i:RP}(l:i=⟨⟨g,0,q.ay,d,bH d q,fO d q e f,h⟩,q.aV,f.aH,f.key,0,q.bV,e.aH,e.key,0⟩)(k:mI d q e f=⟨g,0,q.ay,d,bH d q,fO d q e f,h⟩)(j:f.name=q.aV):[]++(i.drawn a b c).uZ 11 3=lU 11 {mI d q e f with aN:=a} f q.bV e.aH e.key 3 b c:=by
 rw[<-RP.DV,l,k,<-j];rfl
variable {q:NQ}
def iH(M:DM)(now:Int)(q:NQ):Except Int TK×DM:=
 match iW M now q with
 |.error c=>(.error c,M)
 |.ok (t,p)=>if bL M.aA now M.aJ p≠0 then(.error (bL M.aA now M.aJ p),{M with aJ:=bJ M.aA now M.aJ p}) else(.ok t,{M with aJ:=bJ M.aA now M.aJ p})
theorem Nb(M)(now)(q):tT M now q=match (iH M now q).1 with
  |.error c=>(aY now c,(iH M now q).2)
  |.ok t=>dA (iH M now q).2 now (eu (iH M now q).2 now q t):=by
 unfold tT iH
 grind
theorem J3(l)(j):b9 (xR l j):=by unfold xR;exact ug _
theorem O0(l):b9 (UC l).1:=by unfold UC;exact ug _
theorem OX(l)(j):b9 (OY l j):=by unfold OY;exact ug _
theorem YW(l):(WA l).In:=by
 have a:=O0 l;have b:=J3 l 0;have d:=J3 l 1;have e:=J3 l 2;have f:=J3 l 3;unfold WA;generalize (UC l).1=a0 at *;generalize xR l 0=a1 at *;generalize xR l 1=a2 at *;generalize xR l 2=a3 at *;generalize xR l 3=a4 at *;exact⟨a,b,d,e,f⟩
theorem YX(l):b9 (YI l).time:=by
 grind [OX,YI]
theorem Nc(a:q.fU≠[116,103,115])(b:jB q=false):iH M now q=(.error 36,M):=by
 unfold iH iW;rw[dT ⟨a,(by grind [jB])⟩]
theorem xm(h:q.fU=[116,103,115]\/jB q=true):¬ (q.fU≠[116,103,115]/\¬ ((aI q.aO 16=true\/aI q.aO 32=true)/\q.fU=q.aV)):=by
 grind [jB]
theorem Nf(h:q.fU=[116,103,115]\/jB q=true)(a:BE.find M.aF q.fU=none):iH M now q=(.error 7,M):=by
 unfold iH iW;rw[cZ (xm h),a]
theorem SQ(h:q.fU=[116,103,115]\/jB q=true)(a:BE.find M.aF q.fU=some e)(b:e.keyOf q.oC=none):iH M now q=(.error 44,M):=by
 grind [xm,iW,iH]
theorem QT{a:UInt64}(h:q.fU=[116,103,115]\/jB q=true)(d:BE.find M.aF q.fU=some e)(f:e.keyOf q.oC=some a)(b:iC (UD (dD a 2 q.dO))=false):iH M now q=(.error 31,M):=by
 grind [sH,xm,iH,iW]
theorem UX{a:UInt64}(h:q.fU=[116,103,115]\/jB q=true)(d:BE.find M.aF q.fU=some e)(f:e.keyOf q.oC=some a)(b:iC (UD (dD a 2 q.dO))=true)(g:iC (Wx (dD (WA (dD a 2 q.dO)).aN 4 q.proof))=false):iH M now q=(.error 31,M):=by
 grind [xm,yB,sH,iH,iW]
theorem YY{a:UInt64}{t:TK}{p:PF}(h:q.fU=[116,103,115]\/jB q=true)(b:BE.find M.aF q.fU=some e)(g:e.keyOf q.oC=some a)(f:iC (UD (dD a 2 q.dO))=true)(j:WA (dD a 2 q.dO)=t)(i:iC (Wx (dD t.aN 4 q.proof))=true)(d:YI (dD t.aN 4 q.proof)=p):iH M now q=if p.ay≠t.ay then(.error 36,M) else if M.aA<dU p.time now then(.error 37,M) else if bL M.aA now M.aJ p≠0 then(.error (bL M.aA now M.aJ p),{M with aJ:=bJ M.aA now M.aJ p}) else(.ok t,{M with aJ:=bJ M.aA now M.aJ p}):=by
 unfold iH iW;rw[cZ (xm h),b];grind [yB,sH]
theorem YZ(l):(WA l).cells.toArray=#[Y (UC l).1,H ((oU l).1.toNat:Int),.string ⟨(JS l).1.toArray⟩,Y (xR l 0),Y (xR l 1),Y (xR l 2),Y (xR l 3)]:=by
 unfold WA;generalize (UC l).1=a0;generalize (oU l).1=a1;generalize (JS l).1=a2;generalize xR l 0=a3;generalize xR l 1=a4;generalize xR l 2=a5;generalize xR l 3=a6;rfl
theorem Y0(l):(YI l).bE.toArray=#[.string ⟨(Qv l).1.toArray⟩,Y (OY l 0),Y (OY l 1)]:=by
 unfold YI;generalize (Qv l).1=a0;generalize OY l 0=a1;generalize OY l 1=a2;rfl
theorem J4(k)(p)(l)(a)(i)(z)(n d)(w)(m:f' w k p l)(o:Hid (z.length=n))(f:n<=d)(q:At w i z)(g:∀b e,i=some ⟨b,e,none⟩->∀j,j<z.length->¬ Pl.has p b (e+j)):Calls Tryz.prog 218 #[k,H (a.toNat:Int),.slice i n d] w λe b=>e=.returned (.tuple #[.agg (WA (dD a 2 z)).cells.toArray,.bool (iC (UD (dD a 2 z)))])/\CF w b (Pl.has p):=by
 have h:=Es k p l a i z n d w m o f q g
 rw[<-YZ]at h
 exact h
theorem Ng(k)(p)(l)(a)(i)(z)(n d)(w)(m:f' w k p l)(o:Hid (z.length=n))(f:n<=d)(q:At w i z)(g:∀b e,i=some ⟨b,e,none⟩->∀j,j<z.length->¬ Pl.has p b (e+j)):Calls Tryz.prog 219 #[k,H (a.toNat:Int),.slice i n d] w λe b=>e=.returned (.tuple #[.agg (YI (dD a 4 z)).bE.toArray,.bool (iC (Wx (dD a 4 z)))])/\CF w b (Pl.has p):=by
 have h:=Gz k p l a i z n d w m o f q g
 rw[<-Y0]at h
 exact h
