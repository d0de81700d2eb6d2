import Derived.Test.YticfhckmhcaigaaGreatDoorGEPPrfA
import Derived.Deep.CutBlock
import Derived.Test.YticfhckmhcaigaaGreatDoorGEPOpenB
namespace Go.Proofs.YticfhckmhcaigaaGreatDoor
set_option maxHeartbeats 1000000
open Proofs.Tryz Go.RowKit
set_option maxRecDepth 100000
variable {b:Nat}{w:World}{p:Prop}
def sJ(x:Option BE):List Value:=match x with|none=>lO.toList|some e=>e.bF
def nZ(x:Option BE):Value:=.tuple #[.agg (sJ x).toArray,.bool x.isSome]
def mJ(T:Nat):Nat:=if T=247 then 281 else 277
theorem CW(T)(a)(W):(callFunc (mJ T) a).run prog W=.ok (.enter (mJ T) a) W:=by
 unfold mJ;split
 .kernel_rfl
 .kernel_rfl
structure Finds(ff:Nat)(J:World->Prop)(dS uo:Nat->Nat->Prop)(rv:Value)(es:List BE):Prop where
 call:∀W,J W->∀l:E,Calls prog ff #[rv,.string ⟨l.toArray⟩] W λe w'=>e=.returned (nZ (BE.find es l))/\J w'/\CF W w' dS
 stay:∀W W',J W->CF W W' uo->J W'
theorem iT(x):∃a b d e f g h i,sJ x=[.string a,Y b,O d,O e,Y f,Y g,Y h,Y i]:=by cases x<;>exact⟨_,_,_,_,_,_,_,_,rfl⟩
theorem iw{d:World}{o:Nat}{a:List Value}(h:w.rangeAt b o a)(k:w.grownBy d none):d.rangeAt b o a:=λi v e=>k.cell (h i v e) Z
theorem gP(h:b9 w b 8):(∃d,w.c b 0=some d)/\(∃d,w.c b 1=some d)/\(∃d,w.c b 2=some d)/\(∃d,w.c b 3=some d)/\(∃d,w.c b 4=some d)/\(∃d,w.c b 5=some d)/\(∃d,w.c b 6=some d)/\(∃d,w.c b 7=some d)/\w.z b 0=false/\w.z b 1=false/\w.z b 2=false/\w.z b 3=false/\w.z b 4=false/\w.z b 5=false/\w.z b 6=false/\w.z b 7=false:=by
 have a:=λj d=>cD.1 (h.some j d);exact⟨a 0 H,a 1 H,a 2 H,a 3 H,a 4 H,a 5 H,a 6 H,a 7 H,h.frozen 0,h.frozen 1,h.frozen 2,h.frozen 3,h.frozen 4,h.frozen 5,h.frozen 6,h.frozen 7⟩
theorem kI{a d e f g i j k:Value}(h:w.rangeAt b 0 [a,d,e,f,g,i,j,k]):w.cell? (F b 0)=some a/\w.cell? (F b 1)=some d/\w.cell? (F b 2)=some e/\w.cell? (F b 3)=some f/\w.cell? (F b 4)=some g/\w.cell? (F b 5)=some i/\w.cell? (F b 6)=some j/\w.cell? (F b 7)=some k:=
 ⟨h 0 _ rfl,h 1 _ rfl,h 2 _ rfl,h 3 _ rfl,h 4 _ rfl,h 5 _ rfl,h 6 _ rfl,h 7 _ rfl⟩
theorem rS(h:p:=by
 repeat refine CF.setCell ?_ _ _ _ (λ_=>rfl)
 exact CF.refl _ _):p:=h
theorem aaE(w)(b c)(m:b≠c)(a d f g h i j k u0 u1 u2 u3 u4 u5 u6 u7)(r:w.rangeAt b 0 [a,d,f,g,h,i,j,k])(t:w.rangeAt c 0 [u0,u1,u2,u3,u4,u5,u6,u7]):
  ((((((((((((((((w.setCell (F b 0) a).setCell (F b 1) d).setCell (F b 2) f).setCell (F b 3) g).setCell (F b 4) h).setCell (F b 5) i).setCell (F b 6) j).setCell (F b 7) k).setCell (F c 0) u0).setCell (F c 1) u1).setCell (F c 2) u2).setCell (F c 3) u3).setCell (F c 4) u4).setCell (F c 5) u5).setCell (F c 6) u6).setCell (F c 7) u7).rangeAt b 0 [a,d,f,g,h,i,j,k]/\((((((((((((((((w.setCell (F b 0) a).setCell (F b 1) d).setCell (F b 2) f).setCell (F b 3) g).setCell (F b 4) h).setCell (F b 5) i).setCell (F b 6) j).setCell (F b 7) k).setCell (F c 0) u0).setCell (F c 1) u1).setCell (F c 2) u2).setCell (F c 3) u3).setCell (F c 4) u4).setCell (F c 5) u5).setCell (F c 6) u6).setCell (F c 7) u7).rangeAt c 0 [u0,u1,u2,u3,u4,u5,u6,u7]/\CF w ((((((((((((((((w.setCell (F b 0) a).setCell (F b 1) d).setCell (F b 2) f).setCell (F b 3) g).setCell (F b 4) h).setCell (F b 5) i).setCell (F b 6) j).setCell (F b 7) k).setCell (F c 0) u0).setCell (F c 1) u1).setCell (F c 2) u2).setCell (F c 3) u3).setCell (F c 4) u4).setCell (F c 5) u5).setCell (F c 6) u6).setCell (F c 7) u7) (λx _=>x=b\/x=c):=by
 obtain⟨u,v,y,A,B,C,D,J⟩:=kI r
 have p:=jE w b a d f g h i j k u v y A B C D J
 unfold World.s at p
 have n:CF w ((((((((w.setCell (F b 0) a).setCell (F b 1) d).setCell (F b 2) f).setCell (F b 3) g).setCell (F b 4) h).setCell (F b 5) i).setCell (F b 6) j).setCell (F b 7) k) (λx _=>x=b):=by
  exact rS
 have l:=n.range t (λ_ _ e=>m e.symm)
 generalize ((((((((w.setCell (F b 0) a).setCell (F b 1) d).setCell (F b 2) f).setCell (F b 3) g).setCell (F b 4) h).setCell (F b 5) i).setCell (F b 6) j).setCell (F b 7) k)=W8 at *
 obtain⟨K,L,M,P,Q,R,S,T⟩:=kI l
 have q:=jE W8 c u0 u1 u2 u3 u4 u5 u6 u7 K L M P Q R S T
 have o:CF W8 ((((((((W8.setCell (F c 0) u0).setCell (F c 1) u1).setCell (F c 2) u2).setCell (F c 3) u3).setCell (F c 4) u4).setCell (F c 5) u5).setCell (F c 6) u6).setCell (F c 7) u7) (λx _=>x=c):=by
  exact rS
 exact⟨(by grind [CF.range]),q,(n.mono (λ_ _ _ e=>.inl e)).trans o (λ_ _ _ e=>.inr e)⟩
theorem I6{k:Func}{a b u:Tmp}{e:TypeId}(h:k.results=#[.cell a e,.cell b e,.tmp u])(d)(P)(w)(f g)(hp:d.getD a undef = N f 0)(n:d.getD b undef = N g 0)(x y)(l:(loadVar e ⟨f,0,none⟩).run P w=.ok x w)(m:(loadVar e ⟨g,0,none⟩).run P w=.ok y w):
  (results k d).run P w=.ok (.tuple #[x,y,d.getD u undef]) w:=by
 have i:d[a]?.getD undef = N f 0:=rI
 have j:d[b]?.getD undef = N g 0:=by simpa using n
 simp[results,h,i,j,l,m,asAddr]
theorem CV(h:p:=by
 go_wp2_with (first|(go_at_call 207;refine zB.mono ?_;clear zB;rintro e w1 ⟨rfl,rfl⟩)|(go_at_call 207;refine I7.mono ?_;clear I7;rintro e w1 ⟨rfl,rfl⟩)|(go_at_call 208;refine WR.mono ?_;clear WR;rintro e w1 ⟨rfl,rfl⟩)|(go_at_call 208;refine J6.mono ?_;clear J6;rintro e w1 ⟨rfl,rfl⟩))
 go_meet
 exact⟨by rw[zS];simp,rfl⟩):p:=h
theorem tR(h:p:=by
 rw[cG]at h
 rw[hW0]
 exact h):p:=h
theorem EV(h:p:=by
 repeat refine CF.setCell ?_ _ _ _ (λ_=>H3 _ _ G)
 exact CF.refl _ _):p:=h
theorem J7 (v p T:Nat) (fv rv) (J:World->Prop) (u uo:Nat->Nat->Prop) (D) (g k) (l i q m a) (w)
  (hm:∀W,(method 520 T fv "Find").run prog W=.ok (mJ T,rv) W) (hF:Finds (mJ T) J u uo rv D) (hJ:J w)
  (c0:w.c v 0=some (.iface T fv)) (c4:w.c v 4=some (Y a)) (R:∀y,¬ u v y) (V:∀b y,p<=b->¬ u b y) (h3:∀b y,p<=b->uo b y) (K:p<=w.1.size) :Calls prog 171 #[N v 0,.agg #[.string ⟨g.toArray⟩,Y l,Y i],.agg #[.string ⟨k.toArray⟩,Y q,Y m]] w λe B=>e=.returned (.tuple #[.agg (sJ (BE.find D g)).toArray,.agg (sJ (BE.find D k)).toArray,Y (dV (BE.find D g) (BE.find D k) a l q i m)])/\J B/\CF w B u:=by
 obtain⟨t,hW0⟩:=aw ((((w.alloc (.cells #[.string ⟨g.toArray⟩,Y l,Y i] 328)).alloc (.cells #[.string ⟨k.toArray⟩,Y q,Y m] 328)).alloc (.cells lO 126)).alloc (.cells lO 126))
 have j:w.grownBy t none:=by rw[hW0];exact aM (aM (aM (cy w _ none) _) _) _
 have s0:t.1.size=w.1.size+4:=by rw[hW0];simp only[cG]
 have r:t.rangeAt w.1.size 0 [.string ⟨g.toArray⟩,Y l,Y i]:=by
  rw[hW0];exact iw (aS w #[.string ⟨g.toArray⟩,Y l,Y i] _) (aM (aM (cy _ _ none) _) _)
 have RB:t.rangeAt (w.1.size+1) 0 [.string ⟨k.toArray⟩,Y q,Y m]:=by
  have h:=iw (aS (w.alloc (.cells #[.string ⟨g.toArray⟩,Y l,Y i] 328)) #[.string ⟨k.toArray⟩,Y q,Y m] 328) (aM (cy _ (.cells lO 126) none) (.cells lO 126));exact tR
 have M:b9 t (w.1.size+1+1) 8:=by
  have h:=(b9.new ((w.alloc (.cells #[.string ⟨g.toArray⟩,Y l,Y i] 328)).alloc (.cells #[.string ⟨k.toArray⟩,Y q,Y m] 328)) lO 126).grown (cy _ (.cells lO 126) none);rw[cG,cG]at h;rw[hW0];exact h
 have LB:b9 t (w.1.size+1+1+1) 8:=by
  have h:=b9.new (((w.alloc (.cells #[.string ⟨g.toArray⟩,Y l,Y i] 328)).alloc (.cells #[.string ⟨k.toArray⟩,Y q,Y m] 328)).alloc (.cells lO 126)) lO 126;rw[cG,cG,cG]at h;rw[hW0];exact h
 obtain⟨x,f⟩:=aq (BE.find D g)
 obtain⟨y,n⟩:=aq (BE.find D k)
 have X:=I (λW d=>hF.call W d g)
 have HB:=I (λW d=>hF.call W d k)
 rw[f]at X
 rw[n]at HB
 rw[f,n]
 clear f n
 obtain⟨v0,v1,v2,v3,v4,v5,v6,v7,L⟩:=iT x
 obtain⟨u0,u1,u2,u3,u4,u5,u6,u7,C⟩:=iT y
 obtain⟨ba,d⟩:=aq x.isSome
 obtain⟨bb,f⟩:=aq y.isSome
 unfold nZ at X HB
 rw[L,d]at X
 rw[C,f]at HB
 have n:=I hF.stay
 have HJ:=I hJ
 have ab:=I hW0
 have Hv:=I L
 have Hu:=I C
 have S:=I d
 have U:=I f
 have sV:=I j
 have a0:=j.cell c0 Z
 have a1:t.c w.1.size 0=some (.string ⟨g.toArray⟩):=r 0 _ rfl
 have Dz:=I r
 have Vd:=I RB
 have P:=I M
 have Q:=I LB
 have HN:Hid (w.1.size<=v->False):=λe=>by have:=jN c0;omega
 have n1:w.1.size+1+1≠v:=λe=>HN G
 have n2:w.1.size+1+1≠w.1.size:=G
 have n3:w.1.size+1+1+1≠v:=λe=>HN G
 have n4:w.1.size+1+1+1≠w.1.size+1:=G
 have H1:=I R
 have A:=I V
 have H3:=I h3
 clear hF hJ hW0 L C d f r RB M LB R V h3 j
 have ad:=CW T
 go_in
 go_wp2_with fail
 rw[<-ab]
 go_cut [9] (λc f=>c=.bool ba/\f.rangeAt (w.1.size+1+1) 0 [.string v0,Y v1,O v2,O v3,Y v4,Y v5,Y v6,Y v7]/\J f/\CF t f (λb y=>u b y\/b=w.1.size+1+1))
 case first=>
  go_region_held3 (λB=>B.c v 0=some (.iface T fv)/\B.c w.1.size 0=some (.string ⟨g.toArray⟩)) (go_keep) (first|((with_reducible show Calls _ (mJ T) _ _ _);refine(X _ (n _ _ HJ (CF.bD (aN sV 1) _))).mono ?_;rintro e w1 ⟨rfl,W,d⟩;have b0:=d.dE.cell a0 (H1 0);have b1:=d.dE.cell a1 (A _ 0 K);have r:=I W;have L:=I d.dE;clear W d;have hL:=P.cf L.o;obtain⟨⟨d0,q0⟩,⟨d1,q1⟩,⟨d2,q2⟩,⟨d3,q3⟩,⟨d4,q4⟩,⟨d5,q5⟩,⟨d6,q6⟩,⟨d7,q7⟩,f0,f1,f2,f3,f4,f5,f6,f7⟩:=gP hL));go_wp2;go_meet;refine⟨rfl,jE _ _ _ _ _ _ _ _ _ _ q0 q1 q2 q3 q4 q5 q6 q7,?_,?_⟩
  .refine n _ _ r ?_;exact EV
  .repeat refine CF.setCell ?_ _ _ _ (λ_=>.inr rfl)
   exact L.mono (λ_ _ _ e=>.inl e)
 case rest=>
  obtain⟨rfl,V,C,j⟩:=hcut;have R:=I V;have r:=I C;have L:=I j;have k0:=j.cell a0 (λe=>by rcases e with e|e;exact H1 _ e;exact HN G);have k1:wc.c (w.1.size+1) 0=some (.string ⟨k.toArray⟩):=j.cell (Vd 0 _ rfl) (λe=>by rcases e with e|e;exact A _ _ G e;omega);clear V C j a0 a1;go_wp2_with fail;go_cut [10] (λc f=>c=.bool bb/\f.rangeAt (w.1.size+1+1+1) 0 [.string u0,Y u1,O u2,O u3,Y u4,Y u5,Y u6,Y u7]/\f.rangeAt (w.1.size+1+1) 0 [.string v0,Y v1,O v2,O v3,Y v4,Y v5,Y v6,Y v7]/\J f/\CF t f (λb y=>u b y\/b=w.1.size+1+1\/b=w.1.size+1+1+1))
  case first=>
   go_region_held3 (λB=>B.c v 0=some (.iface T fv)/\B.c (w.1.size+1) 0=some (.string ⟨k.toArray⟩)) (go_keep) (first|((with_reducible show Calls _ (mJ T) _ _ _);refine(HB _ (n _ _ r (CF.bD (aN (cC _ _) 1) _))).mono ?_;rintro e w1 ⟨rfl,W,d⟩;have b0:=d.dE.cell k0 (H1 0);have b1:=d.dE.cell k1 (A _ 0 G);have C:=I W;have M:=I d.dE;clear W d;have hL:=(Q.cf L).cf M.o;obtain⟨⟨d0,q0⟩,⟨d1,q1⟩,⟨d2,q2⟩,⟨d3,q3⟩,⟨d4,q4⟩,⟨d5,q5⟩,⟨d6,q6⟩,⟨d7,q7⟩,f0,f1,f2,f3,f4,f5,f6,f7⟩:=gP hL));go_wp2;go_meet;have d:=M.mono (ex':=λb y=>u b y\/b=w.1.size+1+1+1) (λ_ _ _ e=>.inl e);refine⟨rfl,jE _ _ _ _ _ _ _ _ _ _ q0 q1 q2 q3 q4 q5 q6 q7,?_,?_,?_⟩
   .refine CF.range (ex:=λb y=>u b y\/b=w.1.size+1+1+1) ?_ R (λj _ e=>?_)
    .repeat refine CF.setCell ?_ _ _ _ (λ_=>.inr rfl)
     exact d
    .rcases e with e|e
     .exact A _ _ G e
     .omega
   .refine n _ _ C ?_;exact EV
   .refine(L.mono (λ_ _ _ e=>e.elim .inl (λe=>.inr (.inl e)))).trans (ex2:=λb y=>u b y\/b=w.1.size+1+1+1) ?_ (λ_ _ _ e=>e.elim .inl (λe=>.inr (.inr e)));repeat refine CF.setCell ?_ _ _ _ (λ_=>.inr rfl)
    exact d
  case rest=>
   obtain⟨rfl,W,V,B,d⟩:=hcut;have E:=I V;have j:=I W;have C:=I B;have M:=I d;clear r L R k0 k1;have t1:wc.c w.1.size 1=some (Y l):=d.cell (Dz 1 _ rfl) (λe=>by rcases e with e|e|e;exact A _ _ G e;omega;omega);have t2:wc.c w.1.size 2=some (Y i):=d.cell (Dz 2 _ rfl) (λe=>by rcases e with e|e|e;exact A _ _ G e;omega;omega);have t3:wc.c (w.1.size+1) 1=some (Y q):=d.cell (Vd 1 _ rfl) (λe=>by rcases e with e|e|e;exact A _ _ G e;omega;omega);have t4:wc.c (w.1.size+1) 2=some (Y m):=d.cell (Vd 2 _ rfl) (λe=>by rcases e with e|e|e;exact A _ _ G e;omega;omega);have t5:=d.cell (sV.cell c4 Z) (λe=>by rcases e with e|e|e;exact H1 _ e;exact n1 e.symm;exact n3 e.symm);clear V W B d;go_upto_block 0 with fail
   go_cut [8] (λc f=>c = Y (dV x y a l q i m)/\f=wc)
   case first=>
    cases x with
    |none=>
     obtain rfl:ba=false:=S.o.symm;go_wp2_with fail;go_meet;exact⟨rfl,rfl⟩
    |some e=>
     obtain rfl:ba=true:=S.o.symm;cases y with
     |none=>
      obtain rfl:bb=false:=U.o.symm;go_wp2_with fail;go_meet;exact⟨rfl,rfl⟩
     |some f=>
      obtain rfl:bb=true:=U.o.symm;have d:wc.rangeAt (w.1.size+1+1) 0 e.bF:=(by have h:=E.o;rw[<-Hv]at h;exact h);have B:wc.rangeAt (w.1.size+1+1+1) 0 f.bF:=(by have h:=j.o;rw[<-Hu]at h;exact h);have zB:=I (FE (w.1.size+1+1) 4 e a wc (d 6 _ rfl));have I7:=I (FE (w.1.size+1+1+1) 4 f a wc (B 6 _ rfl));have WR:=I (AB (w.1.size+1+1) 4 e 32 5 wc H H (d 7 _ rfl));have J6:=I (AB (w.1.size+1+1+1) 4 f 32 5 wc H H (B 7 _ rfl));have zS:Hid (dV (some e) (some f) a l q i m=if e.gone a=true then i else if f.gone a=true then m else if e.has 32=true\/f.has 32=true then 12 else 0):=rfl;clear d B;generalize e.gone a=b1 at *;generalize f.gone a=b2 at *;generalize e.has 32=b3 at *;generalize f.has 32=b4 at *;generalize dV (some e) (some f) a l q i m=pc at *;cases b1 with
      |true=>
       go_wp2_with (first|(go_at_call 207;refine zB.mono ?_;clear zB;rintro e w1 ⟨rfl,rfl⟩))
       go_meet;exact⟨by rw[zS];rfl,rfl⟩
      |false=>
       cases b2 with
       |true=>
        go_wp2_with (first|(go_at_call 207;refine zB.mono ?_;clear zB;rintro e w1 ⟨rfl,rfl⟩)|(go_at_call 207;refine I7.mono ?_;clear I7;rintro e w1 ⟨rfl,rfl⟩))
        go_meet;exact⟨by rw[zS];rfl,rfl⟩
       |false=>
        cases b3 with
        |true=>
         exact CV
        |false=>
         cases b4 with
         |true=>
          exact CV
         |false=>
          exact CV
   case rest=>
    obtain⟨rfl,rfl⟩:=hcut;clear t1 t2 t3 t4 t5;obtain⟨p0,p1,p2,p3,p4,p5,p6,p7⟩:=kI E.o;obtain⟨r0,r1,r2,r3,r4,r5,r6,r7⟩:=kI j.o;have d:=(P.cf M)
    have f:=(Q.cf M)
    obtain⟨_,_,_,_,_,_,_,_,f0,f1,f2,f3,f4,f5,f6,f7⟩:=gP d;obtain⟨_,_,_,_,_,_,_,_,B,W,g2,g3,g4,g5,g6,g7⟩:=gP f;clear d f;go_wp2_with fail;have d:=aaE wc (w.1.size+1+1) (w.1.size+1+1+1) G _ _ _ _ _ _ _ _ _ _ _ _ _ _ _ _ E j.o;refine bodyPost_ret (I6 results171 _ _ _ (w.1.size+1+1) (w.1.size+1+1+1) rfl rfl _ _ (eO d.1 126 _ underlying126 rfl Tryz.ja) (eO d.2.1 126 _ underlying126 rfl Tryz.ja)) rfl ⟨by rw[Hv,Hu];rfl,?_,?_⟩
    .exact n _ _ C (d.2.2.mono (λb _ _ e=>H3 _ _ (by rcases e with e|e<;>omega)))
    .refine((CF.before sV M).trans d.2.2 (λ_ _ _ e=>e.elim (λe=>.inr (.inl e)) (λe=>.inr (.inr e)))).mono (λb _ f e=>?_);rcases e with e|e|e
     .exact e
     .omega
     .omega
theorem Ve:∀(a)(l),((BE.pY a l).isSome=false->BE.find a l=none)/\∀i(b:i<a.length),BE.pY a l=some i->BE.find a l=some a[i]:=by
 intro a l;unfold BE.pY BE.find;induction a with
 |nil=>grind
 |cons e a f=>
  rw[List.findIdx?_cons,List.find?_cons];cases h:(e.name==l)with
  |true=>
   grind
  |false=>
   simp only[fS,if_false];refine⟨dT,λi b d=>?_⟩;rw[Option.map_eq_some_iff]at d;grind
theorem SK(g)(a)(l)(w)(h:bN w g 2 a)(o:a.Pairwise (λx y=>Op.bytesLess x.name y.name=true)):Calls prog 278 #[N g 2,.string ⟨l.toArray⟩] w λe j=>e=.returned (nZ (BE.find a l))/\w.grownBy j none:=by
 refine(aap g 2 a l _ w h o (I rfl)).mono ?_
 rintro e j ⟨k,m,n⟩
 refine⟨?_,n⟩
 have d:=Ve a l
 cases b:BE.pY a l with
 |none=>
  rw[d.1 (by rw[b];rfl)];exact k (by rw[b];rfl)
 |some i=>
  obtain⟨f,_⟩:=DZ b;rw[d.2 i f b];exact m i f b
theorem AJ(g)(d)(l)(w)(h:bN w g 2 d)(k:d.Pairwise (λx y=>Op.bytesLess x.name y.name=true)):Calls prog 277 #[N g 0,.string ⟨l.toArray⟩] w λe a=>e=.returned (nZ (BE.find d l))/\w.grownBy a none:=by
 have f:=cy w (.cells lO 126) none
 have b:=SK g d l _ (h.grown f) k
 obtain⟨x,j⟩:=aq (BE.find d l)
 rw[j]at b
 rw[j]
 obtain⟨V,W,X,v3,v4,v5,v6,v7,i⟩:=iT x
 unfold nZ at b⊢
 rw[i]at b
 rw[i]
 obtain⟨u,a⟩:=aq x.isSome
 rw[a]at b
 rw[a]
 have HB:=I b
 have m:=I f
 have n:=I (b9.new w lO 126)
 clear b f i a j h k
 go_in
 go_wp2_with (first|(go_at_call 278;refine HB.mono ?_;clear HB;rintro e t ⟨rfl,a⟩;have f:=I (aa m a);have b:=n.grown a;clear a;obtain⟨⟨v,h⟩,⟨y,i⟩,⟨A,j⟩,⟨B,k⟩,⟨C,o⟩,⟨D,p⟩,⟨J,q⟩,⟨K,r⟩,L,M,P,Q,R,S,T,U⟩:=gP b))
 refine bodyPost_ret (aG results277 _ _ _ w.1.size rfl _ (eO (jE t w.1.size _ _ _ _ _ _ _ _ h i j k o p q r) 126 _ underlying126 rfl Tryz.ja)) rfl ⟨rfl,?_⟩
 repeat refine aB ?_ (cA _)
 exact f.o
theorem OD(g)(a)(d:a.Pairwise (λx y=>Op.bytesLess x.name y.name=true)):Finds (mJ 210) (λW=>bN W g 2 a) (λ_ _=>False) (λb y=>¬ (b=g/\2<=y/\y<163)) (N g 0) a:=
 ⟨λW b l=>(AJ g a l W b d).mono (by grind [bN.grown,CF.bD]),(by grind [bN.cf])⟩
theorem SN(g):∀W,(method 520 210 (N g 0) "Find").run prog W=.ok (mJ 210,N g 0) W:=λ_=>by kernel_rfl
variable {ls:List BE}
theorem YW{a b:E}{S T:ByteArray}(d:S=⟨a.toArray⟩)(e:T=⟨b.toArray⟩):(S.toList==T.toList)=(a==b):=by
 subst d e;rw[ByteArray.toList_mk,ByteArray.toList_mk]
structure jO(w:World)(g o:Nat)(ls:List BE)(nx:Nat):Prop where
 live:b9 w g (o+34)
 ent:∀k(hk:k<ls.length),w.rangeAt g (o+k*8) ls[k].bF
 count:w.cell? (F g (o+32))=some (Y ls.length)
 next:w.cell? (F g (o+33))=some (Y nx)
 len:ls.length<=4
 nx4:nx<4
 nxl:ls.length<4->nx=ls.length
theorem jO.cf{w d:World}{ex:Nat->Nat->Prop}{g o:Nat}{b:Nat}(h:jO w g o ls b)(k:CF w d ex)(f:∀j,o<=j->j<o+34->¬ ex g j):jO d g o ls b:=
 ⟨h.live.cf k,λi e=>k.range (h.ent i e) (λj a=>f _ G (by have:=h.len;have a:j<8:=a;omega)),(by grind [CF.cell,jO.count]),(by grind [CF.cell,jO.next]),h.len,h.nx4,h.nxl⟩
theorem jO.grown{w b:World}{g o:Nat}{a:Nat}(h:jO w g o ls a)(k:w.grownBy b none):jO b g o ls a:=h.cf (CF.bD k (λ_ _=>False)) (λ_ _ _ e=>e)
theorem vF(e:BE):∃a b d f g h i j,e.bF=[.string a,Y b,O d,O f,Y g,Y h,Y i,Y j]/\a=⟨e.name.toArray⟩:=⟨_,_,_,_,_,_,_,_,rfl,rfl⟩
theorem LV{l:E}(h:∀j(b:j<ls.length),ls[j].name≠l):BE.find ls l=none:=by
 unfold BE.find;rw[List.find?_eq_none];intro e a d;obtain⟨j,b,rfl⟩:=List.getElem_of_mem a;grind
theorem LW{l:E}{k:Nat}(b:k<ls.length)(d:ls[k].name=l)(h:∀j(a:j<ls.length),j<k->ls[j].name≠l):BE.find ls l=some ls[k]:=by
 unfold BE.find;rw[List.find?_eq_some_iff_getElem];grind
theorem SQ(g o)(ls)(a)(w)(h:jO w g o ls a):Calls prog 120 #[N g o] w λe b=>e=.returned (Y ls.length)/\b=w:=by
 have b:=h.count
 clear h
 go_in
 exact lR
theorem J8(g o)(ls)(nx)(l)(w)(h:jO w g o ls nx):Calls prog 286 #[N g o,.string ⟨l.toArray⟩] w λe a=>e=.returned (nZ (BE.find ls l))/\w.grownBy a none:=by
 obtain⟨f,a⟩:=aw (w.alloc (.cells lO 126))
 have L:Hid (w.grownBy f none):=by show World.grownBy _ _ _;grind [cy]
 have n:Hid (b9 f w.1.size 8):=by show b9 _ _ _;rw[a];exact b9.new w lO _
 obtain⟨m,d⟩:=aq ls.length
 have T:=L.cell h.count Z
 rw[d]at T
 have X:m<=4:=by rw[<-d];exact h.len
 have M:Hid (∀k(r),f.rangeAt g (o+k*8) ls[k].bF):=λk r=>iw (h.ent k r) L.o
 obtain⟨S,i⟩:∃S:ByteArray,S=⟨l.toArray⟩:=⟨_,rfl⟩
 rw[<-i]
 obtain⟨⟨d0,x⟩,⟨d1,y⟩,⟨d2,A⟩,⟨d3,B⟩,⟨d4,C⟩,⟨d5,D⟩,⟨d6,J⟩,⟨d7,K⟩,f0,f1,f2,f3,f4,f5,f6,f7⟩:=gP n.o
 have b:g≠w.1.size:=λe=>by have:=h.live.lt;omega
 have HS:=I i
 have P:=I d
 have p:=I a
 have Q:=I b
 clear i d a h b
 go_in
 go_wp2_with (first|(rw[<-p];fail_if_success done)|fail)
 go_loopw [6,11] (λ_ i wr=>∃k:Nat,k<=m/\i = Y k/\wr=f/\Hid (∀j(v:j<ls.length),j<k->ls[j].name≠l)) (λ_ i _=>m-(intOf i).toNat)
 case atStart=>exact⟨0,cS _,rfl,rfl,λj _ v=>by omega⟩
 case round=>
  obtain⟨k,r,rfl,rfl,U⟩:=hrel;by_cases t:k<m
  .have nG:(k:Int)<(m:Int):=G;have W:(k:Int)<4:=G;have V:(0:Int)<=(k:Int):=G;have b:k<ls.length:=(by rw[P];exact t);obtain⟨e,q⟩:=aq (ls[k]);have a:=M k b;rw[q]at a;obtain⟨h,v1,v2,v3,v4,v5,v6,v7,u,d⟩:=vF e;have R:=I u;rw[u]at a;have x0:wr.c g (o+k*8)=some (.string h):=a 0 _ rfl;have x1:=a 1 _ rfl;have x2:=a 2 _ rfl;have x3:=a 3 _ rfl;have x4:=a 4 _ rfl;have x5:=a 5 _ rfl;have x6:=a 6 _ rfl;have x7:=a 7 _ rfl;have HEq:Hid ((h.toList==S.toList)=(e.name==l)):=YW d HS.o;have i:=I q;clear a u q d;by_cases d:(h.toList==S.toList)=true
   .go_wp2_with fail;have a:ls[k].name=l:=kO;have q:=LW b a U.o;rw[i]at q;rw[q];refine bodyPost_ret (aG results286 _ _ _ w.1.size rfl _ (eO (jE _ w.1.size _ _ _ _ _ _ _ _ x y A B C D J K) 126 _ underlying126 rfl Tryz.ja)) rfl ⟨by simp only[nZ,sJ];rw[R];rfl,?_⟩;grind [aB,Hid.o]
   .have u:(h.toList==S.toList)=false:=(by simpa using d);clear d;go_wp2;go_roundw
    case rel=>
     refine⟨k+1,by omega,by go_num,by first|rfl|trivial,λj v a=>?_⟩;grind [Hid.o]
    case measure=>simp[intOf];omega
  .have a:k=m:=G;subst a;go_wp2;rw[LV kO];refine bodyPost_ret (aG results286 _ _ _ w.1.size rfl _ (eO (jE _ w.1.size _ _ _ _ _ _ _ _ x y A B C D J K) 126 _ underlying126 rfl Tryz.ja)) rfl ⟨rfl,?_⟩;grind [Hid.o,aB]
def FQ.cells(q:FQ)(pn:Int)(v:Value):List Value:=[.string ⟨q.az.toArray⟩,.string ⟨q.aV.toArray⟩,Y q.bW,Y q.mG,Y q.dM,Y q.bY,Y q.aR,.bool q.pre.isSome,Y pn,v]
def NQ.cells(q:NQ)(v u:Value):List Value:=[.string ⟨q.gq.toArray⟩,Y q.oW,v,u,.string ⟨q.aV.toArray⟩,Y q.bW,Y q.dM,Y q.bY,Y q.aR]
def TK.cells(t:TK):List Value:=[Y t.ae,O (t.aO.toNat:Int),.string ⟨t.az.toArray⟩,Y t.dY,Y t.start,Y t.fin,Y t.aD]
theorem Ty(b)(x s)(f)(k)(w)(nq)(a:f=2 ^ k)(d:k<63)(h:fu w b x s):Calls Tryz.prog 211 #[N b 0,Y f] (w.drewN nq) λr e=>r=.returned (.bool (x.has f&&s.has f))/\∃m,e=w.drewN m:=
 (rC b x s f k _ a d (h.grown (aN (cC _ _) nq))).mono dT
theorem Xj(d g)(a b t)(w:World)(nq)(h:w.c d 3=some (N g 0))(i:w.c d 4=some (Y a))(k:w.c g 0=some (Y b))(j:bT a)(f:bT b):Calls Tryz.prog 184 #[N d 0,Y t] (w.drewN nq) λe l=>e=.returned (.bool (decide (aW a b<t)))/\∃m,l=w.drewN m:=
 (CJ d g a b t _ ((aN (cC w none) nq).cell h Z) ((aN (cC w none) nq).cell i Z) ((aN (cC w none) nq).cell k Z) j f).mono (by grind [World.drewN_drewN])
theorem uO(s):bT (bO s).1:=by
 grind [vz,bT,bO]
theorem qa{p:Option Pl}{b:Nat}(h:mL p b)(o):¬ Pl.has p b o:=λ⟨q,a,d,_⟩=>h q a d
theorem Vk{w:World}{v:Value}{p:Option Pl}{a:E}(h:fA w v p a)(o):¬ Pl.has p w.1.size o:=λe=>gS _ (h.lt e)
theorem vl(h:p:=by rw[hW0];exact cG _ _):p:=h
abbrev jH:Array Value:=#[Y 0,O 0,ε,Y 0,Y 0,Y 0,Y 0]
theorem BU(x):bT (m9 x):=by
 grind [bT,m9]
theorem Tz(a b):gU a b=min a b:=by
 unfold gU;split<;>omega
def tZ(r:Except Int TK):Value:=match r with|.error c=>.tuple #[.agg jH,Y c]|.ok t=>.tuple #[.agg t.cells.toArray,Y 0]
def zH(now:Int)(old:TK):Except Int TK:=if now<old.start then .error 33 else .ok {old with ae:=if aJ old.ae 16=true then old.ae-16 else old.ae}
def zI(now:Int)(old:TK):Except Int TK:=if old.aD<=now then .error 32 else .ok {old with start:=now,fin:=gU old.aD (aW now (gD old.fin old.start))}
theorem LL(h:p:=by
 clear G0 hW0 R0 hf HN s0
 go_in
 go_wp2_with (rw[<-HW0];fail_if_success done)
 go_wp2
 exact bodyPost_ret (aG results224 _ _ _ W0.1.size rfl _ ((dm.new W0 _ 333).load 333 _ underlying333 rfl Tryz.jy)) rfl ⟨rfl,aa HG (cy _ _ none)⟩):p:=h
theorem Jf(d)(a)(w)(hf:bT a.ae):Calls prog 224 #[Y d,.agg a.cells.toArray] w λe b=>e=.returned (tZ (zH d a))/\w.grownBy b none:=by
 obtain⟨W0,hW0⟩:=aw (w.alloc (.cells a.cells.toArray 333))
 have G0:w.grownBy W0 none:=tB
 have R0:W0.rangeAt w.1.size 0 a.cells:=by rw[hW0];exact aS w a.cells.toArray _
 have s0:W0.1.size=w.1.size+1:=vl
 have b:=cy W0 (.cells jH 333) none
 have f:=b.cell (R0 0 _ rfl) Z
 have g:=b.cell (R0 1 _ rfl) Z
 have h:=b.cell (R0 2 _ rfl) Z
 have i:=b.cell (R0 3 _ rfl) Z
 have j:=b.cell (R0 4 _ rfl) Z
 have k:=b.cell (R0 5 _ rfl) Z
 have l:=b.cell (R0 6 _ rfl) Z
 have HG:=I G0
 have HW0:=I hW0
 have HN:=I (AO a.ae hf)
 unfold zH
 rw[<-HN]
 by_cases e:d<a.start
 .rw[dQ e];exact LL
 .rw[b' e];exact LL
theorem Pf(b)(a)(w)(n:bT b)(q:bT a.start)(p:bT a.fin):Calls prog 225 #[Y b,.agg a.cells.toArray] w λe k=>e=.returned (tZ (zI b a))/\w.grownBy k none:=by
 obtain⟨d,hW0⟩:=aw (w.alloc (.cells a.cells.toArray 333))
 have r:w.grownBy d none:=tB
 have f:d.rangeAt w.1.size 0 a.cells:=by rw[hW0];exact aS w a.cells.toArray _
 have u:d.1.size=w.1.size+1:=vl
 have g:=cy d (.cells jH 333) none
 have y:=g.cell (f 0 _ rfl) Z
 have A:=g.cell (f 1 _ rfl) Z
 have B:=g.cell (f 2 _ rfl) Z
 have C:=g.cell (f 3 _ rfl) Z
 have D:=g.cell (f 4 _ rfl) Z
 have J:=g.cell (f 5 _ rfl) Z
 have K:=g.cell (f 6 _ rfl) Z
 have t:=I r
 have i:=I hW0
 have v:=I (λW=>sH a.fin a.start W p.1 p.2 q.1 q.2)
 have o:bT (gD a.fin a.start):=BU _
 have x:=I (λW=>D9 b (gD a.fin a.start) W n.1 n.2 o.1 o.2)
 unfold zI
 by_cases j:a.aD<=b
 .rw[dQ j];clear r hW0 f u o n q p;go_in;go_wp2_with (rw[<-i];fail_if_success done)
  go_wp2;exact bodyPost_ret (aG results225 _ _ _ d.1.size rfl _ ((dm.new d _ 333).load 333 _ underlying333 rfl Tryz.jy)) rfl ⟨rfl,aa t (cy _ _ none)⟩
 .rw[b' j,Tz];have h:Hid (d.c w.1.size 4=some (Y a.start)/\d.c w.1.size 5=some (Y a.fin)/\d.c w.1.size 6=some (Y a.aD)):=⟨f 4 _ rfl,f 5 _ rfl,f 6 _ rfl⟩
  generalize gD a.fin a.start=dd at *;generalize aW b dd=ss at *;clear r hW0 f u o n q p;go_in;go_wp2_with (rw[<-i];fail_if_success done)
  have l:=cy d (.cells #[Y a.ae,O (a.aO.toNat:Int),.string ⟨a.az.toArray⟩,Y a.dY,Y b,Y a.fin,Y a.aD] 333) none;have Q:=l.cell h.1 Z;have R:=l.cell h.2.1 Z;have S:=l.cell h.2.2 Z;have m:=cy d (.cells #[Y a.ae,O (a.aO.toNat:Int),.string ⟨a.az.toArray⟩,Y a.dY,Y b,Y (min a.aD ss),Y a.aD] 333) none;have L:=m.cell h.1 Z;have M:=m.cell h.2.1 Z;have P:=m.cell h.2.2 Z;clear g l m y A B C D J K;go_region_held3 (λk=>k.c w.1.size 4=some (Y a.start)/\k.c w.1.size 5=some (Y a.fin)/\k.c w.1.size 6=some (Y a.aD)) (go_keep) (first|(go_at_call 247;refine(v _).mono ?_;rintro e l ⟨rfl,rfl⟩)|(go_at_call 221;refine(x _).mono ?_;rintro e l ⟨rfl,rfl⟩));go_wp2;exact bodyPost_ret (aG results225 _ _ _ d.1.size rfl _ ((dm.new d _ 333).drew.load 333 _ underlying333 rfl Tryz.jy)) rfl ⟨rfl,bg (aa t (cy _ _ none))⟩
def Gj(o:Int)(old:TK)(x s:BE):Int:=bits .or .i64 (bits .and .i64 old.ae 448) (jP (bits .and .i64 o old.ae) x s)
def Gl(o:Int)(old:TK)(x s:BE):Int:=if aJ o 64=true then bits .or .i64 (Gj o old x s) 128 else Gj o old x s
def xw(o:Int)(old:TK)(x s:BE):Int:=if aJ o 128=true then bits .or .i64 (Gl o old x s) 256 else Gl o old x s
theorem R5:∀(i j k d e b l m),
  (let a:Int:=(if i=true then 64 else 0)+(if j=true then 128 else 0)+(if k=true then 256 else 0)
   let n:Int:=(if d=true then 1 else 0)+(if e=true then 2 else 0)+(if b=true then 4 else 0)
   let f:=bits .or .i64 a n
   let g:=if l=true then bits .or .i64 f 128 else f
   let h:=if m=true then bits .or .i64 g 256 else g
   h=(if i=true then 64 else 0)+(if (j||l)=true then 128 else 0)+(if (k||m)=true then 256 else 0)+((if d=true then 1 else 0)+(if e=true then 2 else 0)+(if b=true then 4 else 0))/\aJ h 4=b):=by decide
theorem Gm(o)(a)(x s):xw o a x s=iR o a x s/\aJ (xw o a x s) 4=(aJ o 4&&aJ a.ae 4&&(x.has 2&&s.has 2)):=by
 have h:=R5 (aJ a.ae 64) (aJ a.ae 128) (aJ a.ae 256) (aJ (bits .and .i64 o a.ae) 1&&(x.has 4&&s.has 4)) (aJ (bits .and .i64 o a.ae) 2&&(x.has 8&&s.has 8)) (aJ (bits .and .i64 o a.ae) 4&&(x.has 2&&s.has 2)) (aJ o 64) (aJ o 128)
 have e:xw o a x s=(let b:Int:=(if aJ a.ae 64=true then 64 else 0)+(if aJ a.ae 128=true then 128 else 0)+(if aJ a.ae 256=true then 256 else 0)
   let g:Int:=jP (bits .and .i64 o a.ae) x s
   let d:=bits .or .i64 b g
   let f:=if aJ o 64=true then bits .or .i64 d 128 else d
   if aJ o 128=true then bits .or .i64 f 256 else f):=by
  unfold xw Gl Gj
  rw[No]
  rfl
 have d:=e.trans h.1;constructor
 .rw[d];unfold iR iy;rw[aaN,aaO,OL];simp only[Bool.and_eq_true,Bool.or_eq_true,and_assoc]
 grind [OL]
theorem rK(h:p:=by rw[HT8];exact cA _):p:=h
theorem kC{w:World}{b:Nat}{a d e f g i j:Value}(h:dm w b #[a,d,e,f,g,i,j]):(w.cell? (F b 0)=some a/\w.cell? (F b 1)=some d/\w.cell? (F b 2)=some e/\w.cell? (F b 3)=some f/\w.cell? (F b 4)=some g/\w.cell? (F b 5)=some i/\w.cell? (F b 6)=some j)/\w.frozen? (F b 0)=false/\w.frozen? (F b 1)=false/\w.frozen? (F b 2)=false/\w.frozen? (F b 3)=false/\w.frozen? (F b 4)=false/\w.frozen? (F b 5)=false/\w.frozen? (F b 6)=false:=
 ⟨⟨h.cell 0,h.cell 1,h.cell 2,h.cell 3,h.cell 4,h.cell 5,h.cell 6⟩,h.frozen 0,h.frozen 1,h.frozen 2,h.frozen 3,h.frozen 4,h.frozen 5,h.frozen 6⟩
def Mh(now:Int)(q:NQ)(old:TK)(x s:BE):Int:=min old.fin (gU (kB q.dM) (gU (aW now x.bH) (aW now s.bH)))
def TA(now:Int)(q:NQ)(old:TK)(x s:BE):Int:=if aJ (xw q.aR old x s) 4=true then min old.aD (gU (kB q.bY) (gU (aW now x.aD) (aW now s.aD))) else 0
def TC(now:Int)(q:NQ)(old:TK)(x s:BE):Except Int TK:=if Mh now q old x s<=now then .error 11 else .ok ⟨xw q.aR old x s,0,old.az,old.dY,now,Mh now q old x s,TA now q old x s⟩
theorem Pg(pb)(b)(q)(v u)(a)(x s)(w)(hp:fu w pb x s)(L:bT b)(C:bT x.bH)(A:bT s.bH)(D:bT x.aD)(B:bT s.aD):Calls prog 226 #[N pb 0,Y b,.agg (q.cells v u).toArray,.agg a.cells.toArray] w λe i=>e=.returned (tZ (TC b q a x s))/\w.grownBy i none:=by
 obtain⟨d,hW0⟩:=aw ((w.alloc (.cells (q.cells v u).toArray 276)).alloc (.cells a.cells.toArray 333))
 have K:w.grownBy d none:=by rw[hW0];exact aM (cy w _ none) _
 have J:d.rangeAt w.1.size 0 (q.cells v u):=by rw[hW0];exact iw (aS w (q.cells v u).toArray _) (cy _ _ none)
 have y:d.rangeAt (w.1.size+1) 0 a.cells:=by
  have h:=aS (w.alloc (.cells (q.cells v u).toArray 276)) a.cells.toArray 333;exact tR
 have T:d.1.size=w.1.size+1+1:=by rw[hW0];simp only[cG]
 obtain⟨S,t⟩:=aw d.1.size
 obtain⟨W1,g⟩:=aw (d.alloc (.cells #[Y 0,O 0,.string ⟨a.az.toArray⟩,Y a.dY,Y b,Y 0,Y 0] 333))
 have P:dm W1 S #[Y 0,O 0,.string ⟨a.az.toArray⟩,Y a.dY,Y b,Y 0,Y 0]:=by rw[g,t];exact dm.new _ _ _
 have Q:d.grownBy W1 none:=by rw[g];exact cy _ _ none
 have HP:Hid (∀W,d.grownBy W none->fu W pb x s):=λW f=>hp.grown (aa K f)
 have X:Hid (∀W,d.grownBy W none->W.c w.1.size 6=some (Y q.dM)/\W.c w.1.size 7=some (Y q.bY)/\W.c w.1.size 8=some (Y q.aR)/\W.c (w.1.size+1) 0=some (Y a.ae)/\W.c (w.1.size+1) 5=some (Y a.fin)/\W.c (w.1.size+1) 6=some (Y a.aD)):=
  λW f=>⟨f.cell (J 6 _ rfl) Z,f.cell (J 7 _ rfl) Z,f.cell (J 8 _ rfl) Z,f.cell (y 0 _ rfl) Z,f.cell (y 5 _ rfl) Z,f.cell (y 6 _ rfl) Z⟩
 have r2:d.c (w.1.size+1) 2=some (.string ⟨a.az.toArray⟩):=y 2 _ rfl
 have r3:d.c (w.1.size+1) 3=some (Y a.dY):=y 3 _ rfl
 have M:=cy d (.cells jH 333) none
 have z2:=M.cell r2 Z
 have z3:=M.cell r3 Z
 have HE:Hid (∀W,d.grownBy W none->Calls prog 176 #[N pb 0,Y b,Y q.dM] W λr i=>r=.returned (Y (gU (kB q.dM) (gU (aW b x.bH) (aW b s.bH))))/\∃m,i=W.drewN m):=λW f=>OC pb x s b q.dM W (HP W f) L C A
 have HR:Hid (∀W,d.grownBy W none->Calls prog 179 #[N pb 0,Y b,Y q.bY] W λr i=>r=.returned (Y (gU (kB q.bY) (gU (aW b x.aD) (aW b s.aD))))/\∃m,i=W.drewN m):=λW f=>FI pb x s b q.bY W (HP W f) L D B
 have ae:Hid (∀W,d.grownBy W none->Calls prog 213 #[N pb 0,Y (bits .and .i64 q.aR a.ae)] W λr i=>r=.returned (Y (jP (bits .and .i64 q.aR a.ae) x s))/\W.grownBy i none):=λW f=>CY pb x s _ W (HP W f)
 have av:Hid (Mh b q a x s=min a.fin (gU (kB q.dM) (gU (aW b x.bH) (aW b s.bH)))):=rfl
 have af:Hid (TA b q a x s=if aJ (xw q.aR a x s) 4=true then min a.aD (gU (kB q.bY) (gU (aW b x.aD) (aW b s.aD))) else 0):=rfl
 have ax:Hid (Gj q.aR a x s=bits .or .i64 (bits .and .i64 a.ae 448) (jP (bits .and .i64 q.aR a.ae) x s)):=rfl
 have qN:Hid (Gl q.aR a x s=if aJ q.aR 64=true then bits .or .i64 (Gj q.aR a x s) 128 else Gj q.aR a x s):=rfl
 have JY:Hid (xw q.aR a x s=if aJ q.aR 128=true then bits .or .i64 (Gl q.aR a x s) 256 else Gl q.aR a x s):=rfl
 have ag:=I (kT q.aR 64 6 H H)
 have ah:=I (kT q.aR 128 7 H H)
 have az:=I (kT (xw q.aR a x s) 4 2 H H)
 unfold TC
 generalize gU (kB q.dM) (gU (aW b x.bH) (aW b s.bH))=e0 at *
 generalize gU (kB q.bY) (gU (aW b x.aD) (aW b s.aD))=e1 at *
 generalize jP (bits .and .i64 q.aR a.ae) x s=al at *
 generalize Mh b q a x s=E at *
 generalize TA b q a x s=R at *
 generalize Gj q.aR a x s=F1 at *
 generalize Gl q.aR a x s=F2 at *
 generalize xw q.aR a x s=F3 at *
 generalize aJ q.aR 64=o6 at *
 generalize aJ q.aR 128=o7 at *
 generalize aJ F3 4=o4 at *
 obtain⟨dM,j⟩:=aq q.dM
 obtain⟨bY,f⟩:=aq q.bY
 obtain⟨aR,k⟩:=aq q.aR
 rw[j]at HE
 rw[f]at HR
 rw[k]at ae ag ah
 rw[j,f,k]at X
 obtain⟨qc,p⟩:=aq ((q.cells v u).toArray)
 obtain⟨oc,n⟩:=aq a.cells.toArray
 rw[p,n]at hW0
 rw[p,n]
 obtain⟨mv,l⟩:=aq (tZ (if E<=b then .error 11 else .ok ⟨F3,0,a.az,a.dY,b,E,R⟩))
 rw[l]
 have ab:=I l
 clear l
 have n1:S≠w.1.size:=G
 have n2:S≠w.1.size+1:=G
 have sV:=I K
 have ku:=I Q
 have au:=I P
 have ba:=I hW0
 have bb:=I g
 have HT8:=I t
 have eu:=I T
 clear K Q P hW0 g t T hp L C A D B J y M j f k p n
 go_in
 go_wp2_with (rw[<-ba];fail_if_success done)
 rw[<-bb,<-HT8]
 go_cut [9] (λc n=>c = Y 0/\dm n S #[Y 0,O 0,.string ⟨a.az.toArray⟩,Y a.dY,Y b,Y E,Y 0]/\d.grownBy n none)
 case first=>
  obtain⟨W,c7,c8,d0,d5,d6⟩:=X W1 ku.o;go_region_held3 (λi=>i.c w.1.size 6=some (Y dM)/\i.c (w.1.size+1) 5=some (Y a.fin)) (go_keep) (first|(go_at_call 176;refine(HE _ (bg ku)).mono ?_;rintro e T ⟨rfl,m,l⟩;have j:Hid (dm T S #[Y 0,O 0,.string ⟨a.az.toArray⟩,Y a.dY,Y b,Y 0,Y 0]):=(by rw[l];exact au.drew.drewN m);have g:Hid (d.grownBy T none):=(by rw[l];exact aN (bg ku) m);clear l;obtain⟨ai,aj,ak,an,ao,ar⟩:=X T g.o;obtain⟨⟨D,J,K,L,M,P,Q⟩,p,r,t,y,A,B,C⟩:=kC j));go_wp2;go_meet;exact⟨rfl,by rw[av];exact j.set 5 (Y (min a.fin e0)),aB g rK⟩
 case rest=>
  obtain⟨rfl,f,k⟩:=hcut;have j:=I f;have g:=I k;clear f k;obtain⟨W,c7,c8,d0,d5,d6⟩:=X _ g.o;obtain⟨⟨D,J,K,L,M,P,Q⟩,p,r,t,y,A,B,C⟩:=kC j.o;by_cases hE:E<=b
  .have ad:Hid (mv=tZ (.error 11)):=(by rw[<-ab,dQ hE];exact rfl);go_wp2_with fail;have B7:=((((((j.set 0 (Y 0)).set 1 (O 0)).set 2 ε).set 3 (Y 0)).set 4 (Y 0)).set 5 (Y 0)).set 6 (Y 0);refine bodyPost_ret (aG results226 _ _ _ S rfl _ (B7.load 333 _ underlying333 rfl Tryz.jy)) rfl ⟨by rw[ad];rfl,?_⟩;refine aa sV ?_;repeat refine aB ?_ rK
   exact g.o
  .have ad:Hid (mv=tZ (.ok ⟨F3,0,a.az,a.dY,b,E,R⟩)):=(by rw[<-ab,b' hE];exact rfl);clear ab;go_wp2_with fail;go_cut [9] (λc n=>c = Y 0/\dm n S #[Y F1,O 0,.string ⟨a.az.toArray⟩,Y a.dY,Y b,Y E,Y 0]/\d.grownBy n none)
   case first=>
    clear D J K L M P Q p r t y A B C;go_region_held3 (λi=>i.c w.1.size 8=some (Y aR)/\i.c (w.1.size+1) 0=some (Y a.ae)) (go_keep) (first|(go_at_call 213;refine(ae _ (bg g)).mono ?_;rintro e T ⟨rfl,f⟩;have k:Hid (dm T S #[Y 0,O 0,.string ⟨a.az.toArray⟩,Y a.dY,Y b,Y E,Y 0]):=j.drew.grown f Z;have lh:Hid (d.grownBy T none):=aa (bg g) f;clear f;obtain⟨ai,aj,ak,an,ao,ar⟩:=X T lh.o;obtain⟨⟨D,J,K,L,M,P,Q⟩,p,r,t,y,A,B,C⟩:=kC k));go_wp2;go_meet;exact⟨rfl,by rw[ax];exact k.set 0 (Y (bits .or .i64 (bits .and .i64 a.ae 448) al)),aB lh rK⟩
   case rest=>
    obtain⟨rfl,f,U⟩:=hcut;have k:=I f;have lh:=I U;clear f U j g W c7 c8 d0 d5 d6 D J K L M P Q p r t y A B C;obtain⟨W,c7,c8,d0,d5,d6⟩:=X _ lh.o;obtain⟨⟨D,J,K,L,M,P,Q⟩,p,r,t,y,A,B,C⟩:=kC k.o;go_upto_if 45 with fail
    go_cut [9] (λc n=>c = Y 0/\dm n S #[Y F2,O 0,.string ⟨a.az.toArray⟩,Y a.dY,Y b,Y E,Y 0]/\d.grownBy n none)
    case first=>
     have f:=ag.o;cases o6 with
     |true=>
      rw[fk]at f;have hp:=cJ.1 f;clear f;go_wp2;go_meet;exact⟨rfl,by rw[qN];exact k.set 0 (Y (bits .or .i64 F1 128)),aB lh rK⟩
     |false=>
      rw[eV]at f;have hp:=db.1 f;clear f;go_wp2;go_meet;exact⟨rfl,by rw[qN];exact k,lh⟩
    case rest=>
     obtain⟨rfl,V,g4⟩:=hcut;have U:=I V;have Bt:=I g4;clear V g4 k lh W c7 c8 d0 d5 d6 D J K L M P Q p r t y A B C;obtain⟨W,c7,c8,d0,d5,d6⟩:=X _ Bt.o;obtain⟨⟨D,J,K,L,M,P,Q⟩,p,r,t,y,A,B,C⟩:=kC U.o;go_upto_if 53 with fail
     go_cut [9] (λc n=>c = Y 0/\dm n S #[Y F3,O 0,.string ⟨a.az.toArray⟩,Y a.dY,Y b,Y E,Y 0]/\d.grownBy n none)
     case first=>
      have f:=ah.o;cases o7 with
      |true=>
       rw[fk]at f;have hp:=cJ.1 f;clear f;go_wp2;go_meet;exact⟨rfl,by rw[JY];exact U.set 0 (Y (bits .or .i64 F2 256)),aB Bt rK⟩
      |false=>
       rw[eV]at f;have hp:=db.1 f;clear f;go_wp2;go_meet;exact⟨rfl,by rw[JY];exact U,Bt⟩
     case rest=>
      obtain⟨rfl,B5,g5⟩:=hcut;have V:=I B5;have Ph:=I g5;clear B5 g5 U Bt W c7 c8 d0 d5 d6 D J K L M P Q p r t y A B C;obtain⟨W,c7,c8,d0,d5,d6⟩:=X _ Ph.o;obtain⟨⟨D,J,K,L,M,P,Q⟩,p,r,t,y,A,B,C⟩:=kC V.o;go_upto_if 61 with fail
      go_cut [9] (λc n=>c = Y 0/\dm n S #[Y F3,O 0,.string ⟨a.az.toArray⟩,Y a.dY,Y b,Y E,Y R]/\d.grownBy n none)
      case first=>
       have f:=az.o;cases o4 with
       |true=>
        rw[fk]at f;have hp:=cJ.1 f;clear f;go_wp2_with fail;clear D J K L M P Q p r t y A B C;go_region_held3 (λi=>i.c w.1.size 7=some (Y bY)/\i.c (w.1.size+1) 6=some (Y a.aD)) (go_keep) (first|(go_at_call 179;refine(HR _ (bg Ph)).mono ?_;rintro e T ⟨rfl,m,l⟩;have n:Hid (dm T S #[Y F3,O 0,.string ⟨a.az.toArray⟩,Y a.dY,Y b,Y E,Y 0]):=(by rw[l];exact V.drew.drewN m);have Q8:Hid (d.grownBy T none):=(by rw[l];exact aN (bg Ph) m);clear l;obtain⟨ai,aj,ak,an,ao,ar⟩:=X T Q8.o;obtain⟨⟨D,J,K,L,M,P,Q⟩,p,r,t,y,A,B,C⟩:=kC n));go_wp2;go_meet;exact⟨rfl,by rw[af];exact n.set 6 (Y (min a.aD e1)),aB Q8 rK⟩
       |false=>
        rw[eV]at f;have hp:=db.1 f;clear f;go_wp2;go_meet;exact⟨rfl,by rw[af];exact V,Ph⟩
      case rest=>
       obtain⟨rfl,e,f⟩:=hcut;have n:=I e;have Q8:=I f;clear e f V Ph W c7 c8 d0 d5 d6 D J K L M P Q p r t y A B C;obtain⟨⟨D,J,K,L,M,P,Q⟩,p,r,t,y,A,B,C⟩:=kC n.o;go_wp2_with fail;have B7:=((((((n.set 0 (Y F3)).set 1 (O 0)).set 2 (.string ⟨a.az.toArray⟩)).set 3 (Y a.dY)).set 4 (Y b)).set 5 (Y E)).set 6 (Y R);refine bodyPost_ret (aG results226 _ _ _ S rfl _ (B7.load 333 _ underlying333 rfl Tryz.jy)) rfl ⟨by rw[ad];rfl,?_⟩;refine aa sV ?_;repeat refine aB ?_ rK
       exact Q8.o
theorem uP(a b d f)(w):Calls Tryz.prog 222 #[O ((if a=true then 16 else 0)+(if b=true then 32 else 0)+(if d=true then 64 else 0)+(if f=true then 128 else 0))] w λe g=>e=.returned (Y ((if a=true then 1 else 0)+(if b=true then 1 else 0)+(if d=true then 1 else 0)+(if f=true then 1 else 0)))/\g=w:=by
 cases a<;>cases b<;>cases d<;>cases f
 all_goals
  simp only[if_true,if_false,fS,Int.add_zero,Int.zero_add]
  go_enter Tryz.func222,Tryz.ntmps222
  go_wp2
  go_ret
  exact⟨bE f',rfl⟩
theorem TD(o f)(h:¬ (0<=o/\o<256/\aJ o 8=false)):kL o f=false:=by
 grind [kL]
theorem Pj(o f)(h:0<=o/\o<256/\aJ o 8=false):kL o f=if 1<wS o\/aJ o 32=true/\o≠32 then false
  else if aJ o 16=true/\aJ f 4=false\/aJ o 64=true/\aJ f 1=false\/aJ o 128=true/\aJ f 2=false then false else !aJ o 32||aJ f 16:=by
 grind [kL]
theorem R1(o)(h:0<=o/\o<256/\aJ o 8=false)(a:aJ o 16=false)(b:aJ o 32=true)(d:aJ o 64=false)(e:aJ o 128=false):(bits .and .i64 o 7==0)=decide (o=32):=by
 grind [O',aJ]
def xj(b4 b5 b6 b7 no7:Bool)(f:Int):Bool:=
 if 1<(if b4=true then 1 else 0)+(if b5=true then 1 else 0)+(if b6=true then 1 else 0)+(if b7=true then(1:Int) else 0) then false
 else if b4=true then aJ f 4 else if b5=true then no7&&aJ f 16 else if b6=true then aJ f 1 else if b7=true then aJ f 2 else true
theorem TM(o f)(h:0<=o/\o<256/\aJ o 8=false):kL o f=xj (aJ o 16) (aJ o 32) (aJ o 64) (aJ o 128) (bits .and .i64 o 7==0) f:=by
 grind [R1,Pj,xj,wS]
theorem Xk(n):bits .and .i64 n 240=(if aJ n 16=true then 16 else 0)+(if aJ n 32=true then 32 else 0)+(if aJ n 64=true then 64 else 0)+(if aJ n 128=true then 128 else 0):=Nx n
theorem O2(n):(bits .and .i64 n 0==0)=true:=by
 rw[db];refine CX (FM n 0) ⟨by decide,by decide⟩ (λj a=>?_);rw[jF n 0 j a,uM,Bool.and_false]
theorem Xl(o f)(w)(h:(bits .andNot .i64 o 247==0)=false):Calls prog 185 #[Y o,Y f] w λe a=>e=.returned (.bool false)/\a=w:=by
 have a:=cJ.1 h
 clear h
 go_in
 exact lR
theorem ur(h:p:=by
 go_in
 go_wp2_with (first
  |(go_at_call 222;refine HO.mono ?_;clear HO;rintro e w1 ⟨rfl,rfl⟩)
  |(go_at_call 223;refine HN.mono ?_;clear HN;rintro e w1 ⟨rfl,rfl⟩)
  |(go_at_call 223;refine HM.mono ?_;clear HM;rintro e w1 ⟨rfl,rfl⟩))
 go_wp2
 go_ret
 exact⟨fU HF,rfl⟩):p:=h
theorem Ts(o f)(w)(h:(bits .andNot .i64 o 247==0)=true)(hw:bits .and .i64 o 240=0):Calls prog 185 #[Y o,Y f] w λe a=>e=.returned (.bool (true))/\a=w:=by
 have b:=db.1 h
 clear h
 have HO:Hid (Calls prog 222 #[O 0] w λe a=>e=.returned (Y 0)/\a=w):=uP false false false false w
 have HN:=I (gH 0 w)
 have HM:=I (gH 0 w)
 rw[show CU 0=0 from rfl]at HN HM
 have HF:=I (O2 f)
 exact ur
theorem aa9(o f)(w)(h:(bits .andNot .i64 o 247==0)=true)(hw:bits .and .i64 o 240=16):Calls prog 185 #[Y o,Y f] w λe a=>e=.returned (.bool (aJ f 4))/\a=w:=by
 have b:=db.1 h
 clear h
 have HO:Hid (Calls prog 222 #[O 16] w λe a=>e=.returned (Y 1)/\a=w):=uP true false false false w
 have HN:=I (gH 16 w)
 have HM:=I (gH 16 w)
 rw[show CU 16=4 from rfl]at HN HM
 have HF:=I (sI f 4 2 H H)
 exact ur
theorem aba(o f)(w)(h:(bits .andNot .i64 o 247==0)=true)(hw:bits .and .i64 o 240=64):Calls prog 185 #[Y o,Y f] w λe a=>e=.returned (.bool (aJ f 1))/\a=w:=by
 have b:=db.1 h
 clear h
 have HO:Hid (Calls prog 222 #[O 64] w λe a=>e=.returned (Y 1)/\a=w):=uP false false true false w
 have HN:=I (gH 64 w)
 have HM:=I (gH 64 w)
 rw[show CU 64=1 from rfl]at HN HM
 have HF:=I (sI f 1 0 H H)
 exact ur
theorem Xm(o f)(w)(h:(bits .andNot .i64 o 247==0)=true)(hw:bits .and .i64 o 240=128):Calls prog 185 #[Y o,Y f] w λe a=>e=.returned (.bool (aJ f 2))/\a=w:=by
 have b:=db.1 h
 clear h
 have HO:Hid (Calls prog 222 #[O 128] w λe a=>e=.returned (Y 1)/\a=w):=uP false false false true w
 have HN:=I (gH 128 w)
 have HM:=I (gH 128 w)
 rw[show CU 128=2 from rfl]at HN HM
 have HF:=I (sI f 2 1 H H)
 exact ur
theorem abb(o f)(w)(h:(bits .andNot .i64 o 247==0)=true)(hw:bits .and .i64 o 240=32):Calls prog 185 #[Y o,Y f] w λe a=>e=.returned (.bool ((bits .and .i64 o 7==0)&&aJ f 16))/\a=w:=by
 have b:=db.1 h
 clear h
 have HO:Hid (Calls prog 222 #[O 32] w λe a=>e=.returned (Y 1)/\a=w):=uP false true false false w
 have HN:=I (gH 32 w)
 have HM:=I (gH 32 w)
 rw[show CU 32=16 from rfl]at HN HM
 have HF:=I (sI f 16 4 H H)
 by_cases a:bits .and .i64 o 7=0
 .rw[a];exact ur
 .rw[cJ.2 a,gE];go_in
  go_wp2_with (first
   |(go_at_call 222;refine HO.mono ?_;clear HO;rintro e w1 ⟨rfl,rfl⟩))
  exact lR
theorem TF(o f)(a b d g)(w)(h:(bits .andNot .i64 o 247==0)=true)(hw:bits .and .i64 o 240=(if a=true then 16 else 0)+(if b=true then 32 else 0)+(if d=true then 64 else 0)+(if g=true then 128 else 0))(j:1<(if a=true then 1 else 0)+(if b=true then 1 else 0)+(if d=true then 1 else 0)+(if g=true then(1:Int) else 0)):Calls prog 185 #[Y o,Y f] w λe i=>e=.returned (.bool false)/\i=w:=by
 have m:=db.1 h
 clear h
 have h:=I (uP a b d g w)
 obtain⟨c,i⟩:=aq ((if a=true then 1 else 0)+(if b=true then 1 else 0)+(if d=true then 1 else 0)+(if g=true then(1:Int) else 0))
 have k:0<=(if a=true then(16:Int) else 0)+(if b=true then 32 else 0)+(if d=true then 64 else 0)+(if g=true then 128 else 0)/\(if a=true then(16:Int) else 0)+(if b=true then 32 else 0)+(if d=true then 64 else 0)+(if g=true then 128 else 0)<=240:=by
  cases a<;>cases b<;>cases d<;>cases g<;>decide
 rw[i]at h j
 generalize (if a=true then(16:Int) else 0)+(if b=true then 32 else 0)+(if d=true then 64 else 0)+(if g=true then 128 else 0)=v at *
 clear i
 obtain⟨i,l⟩:=k
 go_in
 go_wp2_with (first
  |(go_at_call 222;refine h.mono ?_;clear h;rintro e n ⟨rfl,rfl⟩))
 exact lR
theorem Pk(o f)(w)(g:bT o):Calls prog 185 #[Y o,Y f] w λe a=>e=.returned (.bool (kL o f))/\a=w:=by
 have a:=WU o g
 by_cases d:0<=o/\o<256/\aJ o 8=false
 .rw[ee d]at a;rw[TM o f d];have hw:=Xk o;by_cases b:1<(if aJ o 16=true then 1 else 0)+(if aJ o 32=true then 1 else 0)+(if aJ o 64=true then 1 else 0)+(if aJ o 128=true then(1:Int) else 0)
  .rw[xj,dQ b];exact TF o f _ _ _ _ w a hw b
  .rw[xj,b' b];generalize aJ o 16=b4 at *;generalize aJ o 32=b5 at *;generalize aJ o 64=b6 at *;generalize aJ o 128=b7 at *;cases b4 with
   |true=>
    cases b5 with
    |true=>exact absurd (by cases b6<;>cases b7<;>decide) b
    |false=>
     cases b6 with
     |true=>exact absurd (by cases b7<;>decide) b
     |false=>
      cases b7 with
      |true=>exact absurd H b
      |false=>exact aa9 o f w a hw
   |false=>
    cases b5 with
    |true=>
     cases b6 with
     |true=>exact absurd (by cases b7<;>decide) b
     |false=>
      cases b7 with
      |true=>exact absurd H b
      |false=>exact abb o f w a hw
    |false=>
     cases b6 with
     |true=>
      cases b7 with
      |true=>exact absurd H b
      |false=>exact aba o f w a hw
     |false=>
      cases b7 with
      |true=>exact Xm o f w a hw
      |false=>exact Ts o f w a hw
 .rw[cY d]at a;rw[TD o f d];exact Xl o f w a
theorem qz(r):∃a b d e f g h m7,tZ r=.tuple #[.agg #[Y a,O b,.string d,Y e,Y f,Y g,Y h],Y m7]:=by
 cases r with
 |error c=>exact⟨_,_,_,_,_,_,_,_,rfl⟩
 |ok t=>exact⟨_,_,_,_,_,_,_,_,rfl⟩
def pF(now:Int)(q:NQ)(old:TK)(x s:BE):Except Int TK:=if Ja q.aR=32 then zH now old else if Ja q.aR=16 then zI now old else TC now q old x s
structure TK.In(t:TK):Prop where
 ae:bT t.ae
 dY:bT t.dY
 start:bT t.start
 fin:bT t.fin
 aD:bT t.aD
theorem C0(h:p:=by
 have B7:=((((((HB2.set 0 (Y m0)).set 1 (O m1)).set 2 (.string m2)).set 3 (Y m3)).set 4 (Y m4)).set 5 (Y m5)).set 6 (Y m6)
 refine bodyPost_ret (aG results186 _ _ _ (w.1.size+1+1) rfl _ (B7.load 333 _ underlying333 rfl Tryz.jy)) rfl ⟨by rw[Hm];rfl,?_⟩
 grind [Hid.o,aa,aB]):p:=h
theorem Xn(X)(d)(q)(v u)(a)(x s)(w)(U:fu w X x s)(Q:bT d)(n:bT x.bH)(l:bT s.bH)(p:bT x.aD)(m:bT s.aD)(J:a.In):Calls prog 186 #[N X 0,Y d,.agg (q.cells v u).toArray,.agg a.cells.toArray] w λe b=>e=.returned (tZ (pF d q a x s))/\w.grownBy b none:=by
 obtain⟨D,j⟩:=aw ((w.alloc (.cells (q.cells v u).toArray 276)).alloc (.cells a.cells.toArray 333))
 have K:w.grownBy D none:=by grind [cy,aM]
 have M:D.rangeAt w.1.size 0 (q.cells v u):=by grind [aS,iw,cy]
 have T:D.rangeAt (w.1.size+1) 0 a.cells:=by
  grind [aS,cG]
 have V:D.1.size=w.1.size+1+1:=rB
 obtain⟨P,h⟩:=aw (D.alloc (.cells jH 333))
 have S:dm P (w.1.size+1+1) jH:=by grind [dm.new]
 have r:D.grownBy P none:=mN
 have c8:=r.cell (M 8 (Y q.aR) rfl) Z
 have f:=iw M r
 have b:=iw T r
 have k:=U.grown (aa K r)
 have sV:=I K
 have W:=I r
 have y:=I S
 have ab:=I V.symm
 rw[j]at h
 have A:=I h
 unfold pF
 rw[<-Nx]
 have e0:=b 0 _ rfl
 have e1:=b 1 _ rfl
 have e2:=b 2 _ rfl
 have e3:=b 3 _ rfl
 have e4:=b 4 _ rfl
 have e5:=b 5 _ rfl
 have e6:=b 6 _ rfl
 by_cases C:bits .and .i64 q.aR 240=32
 .rw[dQ C];have t:=I (Jf d a P J.ae);obtain⟨m0,m1,m2,m3,m4,m5,m6,m7,i⟩:=qz (zH d a);rw[i]at t;have Hm:=I i;clear i K r S j h M T V U Q n l p m J f b k;go_in
  go_wp2_with (first
   |(rw[<-A];fail_if_success done)
   |(go_at_call 224;refine t.mono ?_;rintro e R ⟨rfl,g⟩;have HB2:Hid (dm R (w.1.size+1+1) jH):=y.grown g Z;have L:=I (aa W g);clear g;obtain⟨⟨p0,p1,p2,p3,p4,p5,p6⟩,f0,f1,f2,f3,f4,f5,f6⟩:=kC HB2))
  exact C0
 .rw[b' C];have ae:=cJ.2 C;by_cases B:bits .and .i64 q.aR 240=16
  .rw[dQ B];have t:=I (Pf d a P Q J.start J.fin);obtain⟨m0,m1,m2,m3,m4,m5,m6,m7,i⟩:=qz (zI d a);rw[i]at t;have Hm:=I i;clear i K r S j h M T V U Q n l p m J f b k;go_in
   go_wp2_with (first
    |(rw[<-A];fail_if_success done)
    |(go_at_call 225;refine t.mono ?_;rintro e R ⟨rfl,g⟩;have HB2:Hid (dm R (w.1.size+1+1) jH):=y.grown g Z;have L:=I (aa W g);clear g;obtain⟨⟨p0,p1,p2,p3,p4,p5,p6⟩,f0,f1,f2,f3,f4,f5,f6⟩:=kC HB2))
   exact C0
  .rw[b' B];have ad:=cJ.2 B;have t:=I (Pg X d q v u a x s P k Q n l p m);obtain⟨m0,m1,m2,m3,m4,m5,m6,m7,i⟩:=qz (TC d q a x s);rw[i]at t;have Hm:=I i;have k0:=f 0 _ rfl;have k1:=f 1 _ rfl;have k2:=f 2 _ rfl;have k3:=f 3 _ rfl;have k4:=f 4 _ rfl;have k5:=f 5 _ rfl;have k6:=f 6 _ rfl;have k7:=f 7 _ rfl;have k8:=f 8 _ rfl;clear i K r S j h M T V U Q n l p m J f b k;go_in
   go_wp2_with (first
    |(rw[<-A];fail_if_success done)
    |(go_at_call 226;refine t.mono ?_;rintro e R ⟨rfl,g⟩;have HB2:Hid (dm R (w.1.size+1+1) jH):=y.grown g Z;have L:=I (aa W g);clear g;obtain⟨⟨p0,p1,p2,p3,p4,p5,p6⟩,f0,f1,f2,f3,f4,f5,f6⟩:=kC HB2))
   exact C0
theorem DQ(h:p:=by have h:=R0 7 (.bool q.pre.isSome) rfl;rw[hq]at h;exact h):p:=h
theorem Lo(h:p:=by
 go_in
 go_wp2_with (first
  |(rw[<-HW0];fail_if_success done)
  |(go_at_call 208;refine HA.mono ?_;clear HA;rintro e w1 ⟨rfl,rfl⟩))
 go_wp2
 go_ret
 exact⟨bE (by rw[HE];rfl),HG⟩):p:=h
theorem Jg(l i)(g a j)(v)(q:FQ)(x s)(w)(k:fu w i x s)(hq:q.pre=none):Calls prog 174 #[N l 0,N i 0,.agg (q.cells j v).toArray] w λe b=>e=.returned (Y (fo g a x q.pre))/\w.grownBy b none:=by
 obtain⟨d,b⟩:=aw (w.alloc (.cells (q.cells j v).toArray 269))
 have f:w.grownBy d none:=mN
 have R0:d.rangeAt w.1.size 0 (q.cells j v):=oX
 have m:d.c w.1.size 7=some (.bool false):=DQ
 have HA:=I (AB i 4 x 1 0 d H H ((k.grown f).c 7 _ rfl))
 have HG:=I f
 have HW0:=I b
 have HE:Hid (fo g a x q.pre=if x.has 1=true then 25 else 0):=by rw[hq];exact rfl
 generalize fo g a x q.pre=pc at *
 clear f b R0 k hq
 generalize x.has 1=b1 at *
 cases b1 with
 |true=>
  exact Lo
 |false=>
  exact Lo
theorem Jh(v g B)(K)(p)(rb)(u a)(l)(z)(r)(n f)(q:FQ)(x s)(w)(R:fu w B x s)(hq:q.pre=some (l,z))(X:w.c v 1=some K)(c3:w.c v 3=some (N g 0))(c4:w.c v 4=some (Y a))(cs:w.c g 0=some (Y u))(cO:bT a)(Q:fA w K p rb)(M:mL p v)(S:mL p B)(o3:∀j,j<188->¬ Pl.has p g j)(A:Hid (z.length=n))(J:n<=f)(hz:At w r z)(k:∀b e,r=some ⟨b,e,none⟩->∀j,j<z.length->¬ Pl.has p b (e+j)):Calls prog 174 #[N v 0,N B 0,.agg (q.cells l (.slice r n f)).toArray] w λe y=>e=.returned (Y (fo u a x q.pre))/\CF w y (Pl.has p):=by
 obtain⟨j,D⟩:=aw (w.alloc (.cells (q.cells l (.slice r n f)).toArray 269))
 have b:w.grownBy j none:=mN
 have R0:j.rangeAt w.1.size 0 (q.cells l (.slice r n f)):=oX
 have r7:j.c w.1.size 7=some (.bool true):=DQ
 have r8:j.c w.1.size 8=some (Y l):=R0 8 _ rfl
 have r9:j.c w.1.size 9=some (.slice r n f):=R0 9 _ rfl
 have k1:=b.cell X Z
 have p1:=(R.grown b).c 1 _ rfl
 have p2:=(R.grown b).c 2 _ rfl
 have V:=I (OZ K p rb x.key r z n f j.drew (by grind [fA.grown,bg]) A J (hz.below (bg b)) k)
 have HG:=I b
 have P:=I D
 have U:Hid (∀W,CF j W (Pl.has p)->∀t,bT t->Calls prog 210 #[N v 0,Y t] W λe y=>e=.returned (.bool (decide (u<dW t a)))/\∃m,y=W.drewN m):=
  λW i t L=>yg v g a u t W (i.cell (b.cell c3 Z) (qa M _)) (i.cell (b.cell c4 Z) (qa M _)) (by grind [CF.cell,World.grownBy.cell]) cO L
 have T:Hid (fo u a x q.pre=if iG (bO (dH x.key 1 z,false)).2=true then(if l≠x.aH then 24 else if u<dW (bO (dH x.key 1 z,false)).1 a then 37 else 0) else 24):=by
  refine I ?_;rw[hq];unfold fo;simp only[];rw[aa3];cases C:iG (bO (dH x.key 1 z,false)).2<;>rfl
 have L:bT (bO (dH x.key 1 z,false)).1:=uO _
 have HT:=I L
 have C:Hid (∀W,CF j W (Pl.has p)->W.c v 1=some K/\W.c B 1=some (Y x.aH)/\W.c B 2=some (O (x.key.toNat:Int))/\W.c w.1.size 8=some (Y l)/\W.c w.1.size 9=some (.slice r n f)):=
  λW i=>⟨i.cell k1 (qa M _),i.cell p1 (qa S _),i.cell p2 (qa S _),i.cell r8 (Vk Q _),i.cell r9 (Vk Q _)⟩
 generalize fo u a x q.pre=pc at *
 generalize (bO (dH x.key 1 z,false)).1=t at *
 generalize iG (bO (dH x.key 1 z,false)).2=d at *
 clear b D R0 R hq X c3 c4 cs cO Q M S o3 A hz k L
 go_in
 go_wp2_with (first|(rw[<-P];fail_if_success done))
 go_region_held3 (λy=>y.c v 1=some K/\y.c B 2=some (O (x.key.toNat:Int))/\y.c w.1.size 9=some (.slice r n f)) (go_keep) (first|(go_at_call 209;refine V.mono ?_;rintro e M ⟨rfl,b⟩;have D:=I b.dE;clear b;obtain⟨i,R,k,Q,L⟩:=C _ D))
 clear r7 r8 r9 k1 p1 p2 V C i k L
 cases d with
 |false=>
  go_wp2_with fail;go_quiet (fail)
  go_wp2;go_ret;exact⟨bE (by rw[T];rfl),(by grind [Hid.o,CF.before,CF.trans,CF.bD,aN,cC])⟩
 |true=>
  by_cases A:l=x.aH
  .have y:(l==x.aH)=true:=(by rw[db];exact A);have L:=I A;clear A;have i:=I (λk=>U (M.drewN k) (D.o.trans (by grind [cC,aN,CF.bD]) (λ_ _ _ e=>e)) t HT.o);have b:Hid (pc=if u<dW t a then 37 else 0):=dT;clear U T;by_cases k:u<dW t a
   .rw[ee k]at i;rw[dQ k]at b;clear k;go_wp2_with fail;go_quiet (fail)
    go_wp2_with (first|(go_at_call 210;refine(i _).mono ?_;clear i;rintro e C ⟨rfl,m,rfl⟩))
    go_wp2;go_ret;exact⟨bE b.o.symm,(by grind [CF.bD,aN,cC,CF.trans,Hid.o,CF.before])⟩
   .rw[cY k]at i;rw[b' k]at b;clear k;go_wp2_with fail;go_quiet (fail)
    go_wp2_with (first|(go_at_call 210;refine(i _).mono ?_;clear i;rintro e C ⟨rfl,m,rfl⟩))
    go_wp2;go_ret;exact⟨bE b.o.symm,(by grind [CF.before,CF.trans,Hid.o,CF.bD,aN,cC])⟩
  .have y:(l==x.aH)=false:=dT;have b:Hid (pc=24):=kO;go_wp2_with fail;go_quiet (fail)
   go_wp2;go_ret;exact⟨bE b.o.symm,(by grind [CF.bD,aN,cC,Hid.o,CF.trans,CF.before])⟩
def uf(now ax:Int)(q:FQ)(x s:BE):Bool:=if aJ q.aR 8=true then(x.has 16&&s.has 16) else !decide (aW now ax<q.mG)
theorem Xo(k g n)(a h o)(v)(q)(x s)(w)(r:w.c k 3=some (N g 0))(t:w.c k 4=some (Y a))(y:w.c g 0=some (Y h))(u:bT a)(j:bT h)(l:fu w n x s):Calls prog 175 #[N k 0,N n 0,.agg (q.cells o v).toArray] w λe b=>e=.returned (.tuple #[Y (bI a q),.bool (uf a h q x s)])/\w.grownBy b none:=by
 obtain⟨d,i⟩:=aw (w.alloc (.cells (q.cells o v).toArray 269))
 have b:w.grownBy d none:=mN
 have m:d.rangeAt w.1.size 0 (q.cells o v):=oX
 have C:d.c w.1.size 3=some (Y q.mG):=m 3 _ rfl
 have D:d.c w.1.size 6=some (Y q.aR):=m 6 _ rfl
 have B:=b.cell t Z
 have A:=I (λnq=>Ty n x s 16 4 d nq H H (l.grown b))
 have HB:=I (λnq=>Xj k g a h q.mG d nq (b.cell r Z) B (b.cell y Z) u j)
 have p:=I b
 have f:=I i
 have e:=kT q.aR 8 3 H H
 unfold bI uf
 clear b i m r t y u j l
 generalize aJ q.aR 8=b1 at *
 generalize (x.has 16&&s.has 16)=b2 at *
 generalize aW a h=sk at *
 cases b1 with
 |true=>
  rw[fk]at e;have l:=cJ.1 e;clear e;go_in;go_wp2_with (rw[<-f];fail_if_success done)
  go_quiet (first|(go_at_call 211;exact A _))
  go_wp2;go_ret2;exact⟨rfl,aN p _⟩
 |false=>
  rw[eV]at e;have l:=db.1 e;clear e;go_in;go_wp2_with (rw[<-f];fail_if_success done)
  go_quiet (first|(go_at_call 184;exact HB _))
  go_wp2;go_ret2;exact⟨rfl,aN p _⟩
def pG(q:FQ)(x s:BE):Int:=32+(if q.pre.isSome then 64 else 0)+(if aJ q.aR 8=true then 24 else 0)+jP q.aR x s
theorem Pm(o)(x s):jP o x s=iy o 7 x s:=by
 grind [aJ,iy,jP]
theorem Ji(a)(q)(x s):(mZ a q x s).ae=pG q x s:=by
 unfold mZ pG;rw[Pm]
theorem abd:∀(a b d),(bits .or .i64 32 ((if a=true then 1 else 0)+(if b=true then 2 else 0)+(if d=true then 4 else 0))=32+((if a=true then 1 else 0)+(if b=true then 2 else 0)+(if d=true then 4 else 0)))/\(bits .or .i64 (32+((if a=true then 1 else 0)+(if b=true then 2 else 0)+(if d=true then 4 else 0))) 64=96+((if a=true then 1 else 0)+(if b=true then 2 else 0)+(if d=true then 4 else 0)))/\(bits .or .i64 (32+((if a=true then 1 else 0)+(if b=true then 2 else 0)+(if d=true then 4 else 0))) 24=56+((if a=true then 1 else 0)+(if b=true then 2 else 0)+(if d=true then 4 else 0)))/\(bits .or .i64 (96+((if a=true then 1 else 0)+(if b=true then 2 else 0)+(if d=true then 4 else 0))) 24=120+((if a=true then 1 else 0)+(if b=true then 2 else 0)+(if d=true then 4 else 0))):=by decide
theorem Gn(u)(y)(v)(q)(x s)(w)(p:fu w u x s):Calls prog 178 #[N u 0,.agg (q.cells y v).toArray] w λe a=>e=.returned (Y (pG q x s))/\w.grownBy a none:=by
 obtain⟨j,a⟩:=aw (w.alloc (.cells (q.cells y v).toArray 269))
 have f:w.grownBy j none:=mN
 have g:j.rangeAt w.1.size 0 (q.cells y v):=oX
 have r:j.c w.1.size 6=some (Y q.aR):=g 6 _ rfl
 have t:j.c w.1.size 7=some (.bool q.pre.isSome):=g 7 _ rfl
 have d:=I (CY u x s q.aR j (p.grown f))
 have l:=I f
 have b:=I a
 have i:=kT q.aR 8 3 H H
 have h:=abd (aJ q.aR 1&&(x.has 4&&s.has 4)) (aJ q.aR 2&&(x.has 8&&s.has 8)) (aJ q.aR 4&&(x.has 2&&s.has 2))
 unfold pG
 change bits .or .i64 32 (jP q.aR x s)=32+jP q.aR x s/\bits .or .i64 (32+jP q.aR x s) 64=96+jP q.aR x s/\bits .or .i64 (32+jP q.aR x s) 24=56+jP q.aR x s/\bits .or .i64 (96+jP q.aR x s) 24=120+jP q.aR x s at h
 have m:=I h
 clear f a g p h
 generalize aJ q.aR 8=b1 at *
 generalize jP q.aR x s=al at *
 generalize q.pre.isSome=b2 at *
 cases b1 with
 |true=>
  rw[fk]at i;have p:=cJ.1 i;clear i;cases b2 with
  |true=>
   go_in
   go_wp2_with (first
    |(rw[<-b];fail_if_success done)
    |(go_at_call 213;refine d.mono ?_;clear d;rintro e A ⟨rfl,a⟩;have g:=a.cell r Z;have h:=a.cell t Z))
   go_wp2;go_ret;exact⟨bE (by obtain⟨f,k,n,o⟩:=m.o;rw[f,k,o]),aa l a⟩
  |false=>
   go_in
   go_wp2_with (first
    |(rw[<-b];fail_if_success done)
    |(go_at_call 213;refine d.mono ?_;clear d;rintro e A ⟨rfl,a⟩;have g:=a.cell r Z;have h:=a.cell t Z))
   go_wp2;go_ret;exact⟨bE (by obtain⟨f,k,n,o⟩:=m.o;rw[f,n]),aa l a⟩
 |false=>
  rw[eV]at i;have p:=db.1 i;clear i;cases b2 with
  |true=>
   go_in
   go_wp2_with (first
    |(rw[<-b];fail_if_success done)
    |(go_at_call 213;refine d.mono ?_;clear d;rintro e A ⟨rfl,a⟩;have g:=a.cell r Z;have h:=a.cell t Z))
   go_wp2;go_ret;exact⟨bE (by obtain⟨f,k,n,o⟩:=m.o;rw[f,k]),aa l a⟩
  |false=>
   go_in
   go_wp2_with (first
    |(rw[<-b];fail_if_success done)
    |(go_at_call 213;refine d.mono ?_;clear d;rintro e A ⟨rfl,a⟩;have g:=a.cell r Z;have h:=a.cell t Z))
   go_wp2;go_ret;exact⟨bE (by obtain⟨f,k,n,o⟩:=m.o;rw[f]),aa l a⟩
def jI(q:NQ):Bool:=(aJ q.aR 16||aJ q.aR 32)&&decide (q.gq=q.aV)
theorem Gp(v u)(q)(w):Calls prog 216 #[.agg (q.cells v u).toArray] w λe a=>e=.returned (.bool (jI q))/\w.grownBy a none:=by
 obtain⟨d,e⟩:=aw (w.alloc (.cells (q.cells v u).toArray 276))
 have g:w.grownBy d none:=mN
 have f:d.rangeAt w.1.size 0 (q.cells v u):=oX
 have k:d.c w.1.size 0=some (.string ⟨q.gq.toArray⟩):=f 0 _ rfl
 have l:d.c w.1.size 4=some (.string ⟨q.aV.toArray⟩):=f 4 _ rfl
 have m:d.c w.1.size 8=some (Y q.aR):=f 8 _ rfl
 have i:=I g
 have b:=I e
 have a:=PC q.aR
 have h:Hid (jI q=((aJ q.aR 16||aJ q.aR 32)&&decide (q.gq=q.aV))):=rfl
 generalize jI q=sb at *
 have j:(!aJ q.aR 16&&!aJ q.aR 32)=!(aJ q.aR 16||aJ q.aR 32):=Z
 rw[j]at a
 clear g e f j
 generalize (aJ q.aR 16||aJ q.aR 32)=b1 at *
 cases b1 with
 |true=>
  rw[fk]at a;have e:=cJ.1 a;clear a;go_in;go_wp2_with (rw[<-b];fail_if_success done)
  go_wp2;go_ret;exact⟨fU (by rw[h,show(bits .and .i64 q.aR 48 != 0)=true from by simpa using e];simp[Bool.beq_eq_decide_eq]),i.o⟩
 |false=>
  rw[eV]at a;have e:=db.1 a;clear a;go_in;go_wp2_with (rw[<-b];fail_if_success done)
  go_wp2;go_ret;exact⟨fU (by rw[h];simp),i.o⟩
def RP.drawn(r:RP)(a b c:UInt64):RP:={r with t:={r.t with aO:=a},wm:=b,wW:=c}
theorem abe{w:World}{d:Nat}{r:RP}(h:nW w d r)(a b c):nW (((w.s d 1 (O (a.toNat:Int))).s d 10 (O (b.toNat:Int))).s d 14 (O (c.toNat:Int))) d (r.drawn a b c):=by
 intro i v g;have k:=h.at 14 _ rfl;have j:=h.at 10 _ rfl;have n:=h.at 1 _ rfl;rw[cR];by_cases f:i=14
 .subst f;obtain rfl:Value.int .u64 (c.toNat:Int)=v:=by simpa[RP.cells,RP.drawn]using g
  grind [ay,dA]
 by_cases e:i=10
 .subst e;obtain rfl:Value.int .u64 (b.toNat:Int)=v:=by simpa[RP.cells,RP.drawn]using g
  grind [ay,dA]
 by_cases l:i=1
 .grind [dA,ay,RP.cells,RP.drawn]
 have m:r.cells[i]?=some v:=by
  rw[<-g];rcases i with _|_|_|_|_|_|_|_|_|_|_|_|_|_|_|i;all_goals first|rfl|(exfalso;omega)
 grind [ay,nW.at]
theorem Vl(p g i n d)(m)(r)(w)(o:w.c p 3=some (N g 0))(t:n<24)(q:w.c g 1=some (.slice m n d))(l:nW w i r)(h:b9 w i 15):Calls prog 180 #[N p 0,N i 0] w λe a=>e=.returned (.bool false)/\CF w a (λb _=>b=i):=by
 obtain⟨b,f⟩:=aw (w.alloc (.cells #[O 0,O 0,O 0] 367))
 have a:w.grownBy b none:=mN
 have j:b.rangeAt w.1.size 0 [O 0,O 0,O 0]:=oX
 have u:=I (λk=>Wa g 1 n d w.1.size m (b.drewN k) t ((aN a k).cell q Z))
 have y:w.1.size≠i:=λe=>by have:=h.lt;omega
 have D:b.c w.1.size 0=some (O 0):=j 0 _ rfl
 have J:b.c w.1.size 1=some (O 0):=j 1 _ rfl
 have K:b.c w.1.size 2=some (O 0):=j 2 _ rfl
 have M:=a.cell o Z
 have P:=a.cell (l.at 1 _ rfl) Z
 have A:=a.cell (l.at 10 _ rfl) Z
 have B:=a.cell (l.at 14 _ rfl) Z
 have L:=(h.grown a).frozen 1
 have v:=(h.grown a).frozen 10
 have x:=(h.grown a).frozen 14
 have C:=I a
 have k:=I f
 clear a f j t l h q o
 go_in
 go_wp2_with (first|(rw[<-k];fail_if_success done))
 go_quiet (first|(go_at_call 214;refine(u _).mono ?_;rintro e a ⟨rfl,rfl⟩;exact⟨rfl,_,rfl⟩))
 go_wp2
 go_ret
 refine⟨rfl,?_⟩
 grind [CF.setCell,aN,CF.bD,Hid.o]
theorem Pn(f g a)(q:Pl)(l)(n)(r)(w)(D:w.cell? (F f 3)=some (N g 0))(U:Hid (l.length=n))(R:24<=n)(t:n<=q.cap)(k:q.cap<=9223372036854775807)(S:w.cell? (F g 1)=some (ς q.g q.off n q.cap))(h:b9 w g 188)(T:w.rangeAt q.g q.off (l.map U8))(u:q.g≠g)(C:q.g<w.1.size)(V:nW w a r)(L:b9 w a 15)(j:g≠a)(p:f≠a)(m:f≠g):Calls prog 180 #[N f 0,N a 0] w λe v=>e=.returned (.bool true)/\nW v a (r.drawn (eP l 0) (eP l 1) (eP l 2))/\(∃d,v.cell? (F g 1)=some (ς q.g d (n-24) (q.cap-24))/\(q.cap-24≠0->d=q.off+24)/\d<=q.off+24)/\CF w v (λb y=>b=g/\y=1\/b=a):=by
 obtain⟨B,i⟩:=aw (w.alloc (.cells #[O 0,O 0,O 0] 367))
 have b:w.grownBy B none:=mN
 have Q:b9 B w.1.size 3:=by grind [b9.new]
 have K:=h.lt
 have P:=L.lt
 have W:=I (aax g 1 w.1.size q l n B.drew U R t k ((bg b).cell S Z) ((h.grown (bg b)).mono G) (Q.grown (bg (cC _ _))) (iw T (bg b)) G u G)
 have M:w.1.size≠a:=λe=>by omega
 have k3:=b.cell D Z
 have y:=I (V.grown b)
 have HL:=I (L.grown b)
 have J:=jN D
 have x:Hid (f≠w.1.size/\g≠w.1.size/\g≠a/\f≠a/\f≠g):=⟨by omega,by omega,j,p,m⟩
 have X:=I b
 have A:=I i
 clear b i Q U R t k S h T u C V L j p m K P J D
 go_in
 go_wp2_with (first|(rw[<-A];fail_if_success done))
 go_region_held3 (λv=>v.cell? (F f 3)=some (N g 0)) (go_keep) (first|(go_at_call 214;refine W.mono ?_;rintro e J ⟨rfl,b,m,k⟩;have K:=I b;have p:=I k.dE;have L:=m 0 H;have P:=m 1 H;have Q:=m 2 H;clear b k m;have C:=p.cell k3 (λe=>by rcases e with e|e;exact x.2.2.2.2 e.1;exact x.1 e)))
 have k:=p.o
 have h:Hid (nW J a r):=λi v b=>k.cell (y i v b) kO
 have S:=h.at 1 _ rfl
 have v:=h.at 10 _ rfl
 have D:=h.at 14 _ rfl
 have b:=HL.cf k
 have R:=b.frozen 1
 have t:=b.frozen 10
 have u:=b.frozen 14
 have i:a≠w.1.size:=λe=>M e.symm
 clear k b
 go_wp2
 go_ret
 refine⟨rfl,?_,?_,?_⟩
 .grind [Hid.o,abe]
 .obtain⟨d,b,k,m⟩:=K.o;refine⟨d,?_,k,m⟩;have j:=x.2.2.1;rw[j9 _ _ _ _ dT,j9 _ _ _ _ dT,j9 _ _ _ _ dT];exact b
 .repeat refine CF.setCell ?_ _ _ _ (λ_=>.inr rfl)
  exact(CF.before X p).mono G
variable {w':World}
structure zJ(w:World)(hb g T:Nat)(fv ro rr:Value)(now:Int):Prop where
 c0:w.cell? (F hb 0)=some (.iface T fv)
 c1:w.cell? (F hb 1)=some ro
 c2:w.cell? (F hb 2)=some rr
 c3:w.cell? (F hb 3)=some (N g 0)
 c4:w.cell? (F hb 4)=some (Y now)
theorem zJ.cf{ex:Nat->Nat->Prop}{d g T:Nat}{e f i:Value}{b:Int}(h:zJ w d g T e f i b)(k:CF w w' ex)(a:∀y,¬ ex d y):zJ w' d g T e f i b:=
 ⟨k.cell h.c0 (a 0),k.cell h.c1 (a 1),k.cell h.c2 (a 2),k.cell h.c3 (a 3),k.cell h.c4 (a 4)⟩
theorem zJ.grown{d g T:Nat}{b f i:Value}{a:Int}(h:zJ w d g T b f i a)(k:w.grownBy w' none):zJ w' d g T b f i a:=h.cf (CF.bD k (λ_ _=>False)) (λ_ e=>e)
theorem xx{v:Value}{p:Option Pl}(h:fA w v p []):∃b a,v=.slice b 0 a/\∀w,(Instr.sliceAt 37 (.slice b 0 a) none (some (Y 0)) none).run prog w=.ok (.slice b 0 a) w:=by
 rcases h with⟨_,rfl,_⟩|⟨q,_,rfl,_,_,_,_⟩
 .exact⟨none,0,rfl,λw=>by kernel_rfl⟩
 .refine⟨_,_,rfl,λw=>?_⟩;have b:prog.elem 37=5:=by simp[Program.elem,underlying37]
  have a:prog.underlying 37=some (.slice (prog.elem 37)):=by rw[b];exact underlying37
  rw[run_sliceAt_slice w 37 _ _ _ _ a,run_slice_h w 37 _ _ q.cap a .i64 0 H G,b];have d:∀W,(sizeOf 5).run prog W=.ok 1 W:=λ_=>by kernel_rfl
  rw[d];simp only[Result.andThen,sliced,Int.toNat_zero,Nat.sub_zero,gj];split<;>first|rfl|simp[Addr.add_lit]
theorem Gr{v:Value}{p:Option Pl}{a:E}(h:aU w.drew w' v p a):aU w w' v p a:=by
 obtain⟨g,b,d,e,f⟩:=h;exact⟨g,b,d.dE,e,f⟩
theorem zK(f g T)(x A m)(i)(d a)(w)(h:zJ w f g T x A m d)(k:fA w m i [])(o:mL i f)(t:bT d)(b:bT a):Calls prog 141 #[N f 0,Y a] w λe w'=>∃n,e=.returned n/\aU w w' n i (aY d a):=by
 have p:=I (Ar m i [] d a w.drew k.drew t b Z)
 obtain⟨u,j,l,y⟩:=xx k
 rw[l]at p
 have r:=h.c2
 rw[l]at r
 have v:=h.c4
 have q:=I o
 clear h k o t b l
 go_in
 go_wp2_with fail
 go_region_held3 (λw'=>w'.c f 2=some (.slice u 0 j)/\w'.c f 4=some (Y d)) (go_keep) (first|(go_at_call 188;refine p.mono ?_;rintro e o ⟨n,rfl,h⟩;have b:=I h;clear h;have k:=b.cf.dE.cell r (qa q _);have l:=b.cf.dE.cell v (qa q _)))
 go_wp2
 go_ret
 exact⟨_,rfl,Gr b⟩
variable {M:DM}{now:Int}{es:List BE}{ask:List Value}{T g hb sb:Nat}{dS uo:Nat->Nat->Prop}{dp po pr:Option Pl}{fv ro rr:Value}{W W':World}{J:World->Prop}
theorem Tryz.Kj:(prog.info? 328).map (·.size)=some 3:=by kernel_rfl
theorem AZ(S)(w):Calls prog 172 #[.string S] w λe a=>e=.returned (.agg #[.string S,Y 6,Y 1])/\w.grownBy a none:=by
 go_in
 go_wp2
 exact bodyPost_ret (uk results172 _ _ _ w.1.size rfl _ ((dm.new w _ 328).load 328 _ underlying328 rfl Tryz.Kj)) rfl ⟨rfl,cy _ _ none⟩
theorem zg(S)(w):Calls prog 173 #[.string S] w λe a=>e=.returned (.agg #[.string S,Y 7,Y 2])/\w.grownBy a none:=by
 go_in
 go_wp2
 exact bodyPost_ret (uk results173 _ _ _ w.1.size rfl _ ((dm.new w _ 328).load 328 _ underlying328 rfl Tryz.Kj)) rfl ⟨rfl,cy _ _ none⟩
structure BE.In(e:BE):Prop where
 aH:1<=e.aH/\e.aH<=4611686018427387904
 bH:bT e.bH
 aD:bT e.aD
 name:e.name.length<=1000
structure HS(hb g base T:Nat)(fv rv:Value)(po pr dp:Option Pl)(J:World->Prop)(dS uo:Nat->Nat->Prop)(es:List BE):Prop where
 ais:∀W,(method 520 T fv "Find").run prog W=.ok (mJ T,rv) W
 finds:Finds (mJ T) J dS uo rv es
 hbF:∀y,¬ dS hb y
 Mi:∀b y,base<=b->¬ dS b y
 BV:∀b y,base<=b->uo b y
 poJ:∀b y,Pl.has po b y->uo b y
 prJ:∀b y,Pl.has pr b y->uo b y
 agQ:uo g 1
 afc:∀y,163<=y->y<188->uo g y
 poH:mL po hb
 prH:mL pr hb
 poG:∀j,j<188->¬ Pl.has po g j
 prG:∀j,j<188->¬ Pl.has pr g j
 Kk:∀y,y<188->¬ dS g y
 hbg:hb≠g
 Po:∀p,dp=some p->p.g≠g/\p.g≠hb/\p.g<base/\∀y,¬ dS p.g y/\¬ Pl.has po p.g y/\¬ Pl.has pr p.g y
 gb:g<base
 hbb:hb<base
 uq:∀e∈es,e.In
 sorted:es.Pairwise (λx y=>Op.bytesLess x.name y.name=true)
def qt(po:Option Pl)(dS:Nat->Nat->Prop)(b y:Nat):Prop:=dS b y\/Pl.has po b y
theorem mQ{l:E}{e:BE}(h:BE.find es l=some e):e∈es:=List.mem_of_find?_eq_some h
theorem mi{l:E}{e:BE}(h:BE.find es l=some e):e.name=l:=by
 have:=List.find?_some h;simpa using this
theorem fu.cf{d:World}{ex:Nat->Nat->Prop}{b:Nat}{x s:BE}(h:fu w b x s)(k:CF w d ex)(a:∀y,¬ ex b y):fu d b x s:=
 ⟨k.range h.az (λ_ _=>a _),k.range h.aV (λ_ _=>a _)⟩
theorem lU{d a b:Int}(e:bT d):bT (gU (kB d) (gU (m9 a) (m9 b))):=by
 have f:=BU a;have g:=BU b;unfold bT at *;unfold gU kB;(repeat' split)<;>omega
structure FX(w W:World)(hb g base T:Nat)(fv ro rr:Value)(po pr dp:Option Pl)(dS:Nat->Nat->Prop)(M:DM)(now:Int)(sb:Nat)(ask:List Value):Prop where
 hear:zJ W hb g T fv ro rr now
 bU:bX W g 0 dp M
 oq:fA W ro po []
 r:fA W rr pr []
 ask:W.rangeAt sb 0 ask
 big:w.1.size<=W.1.size
 cf:CF w W (qt po dS)
theorem By(h:p:=by
 rintro j _ ((e|e)|e)
 .exact S.Mi _ _ G e
 .have:=hpo _ _ e;omega
 .omega):p:=h
theorem Hh(h:p:=by
 rintro q hq j hj ((e|e)|e)
 .exact((S.Po q hq).2.2.2 _).1 e
 .exact((S.Po q hq).2.2.2 _).2.1 e
 .have:=(S.Po q hq).2.2.1;omega):p:=h
theorem E7(h:p:=by
 rintro j _ h2 ((e|e)|e)
 .exact S.Kk j G e
 .exact S.poG j G e
 .omega):p:=h
theorem FX.step{a:Nat}{l:Value}(h:FX w W hb g a T fv ro rr po pr dp dS M now sb ask)(S:HS hb g a T fv l po pr dp J dS uo es)(k:CF W W' (λb y=>qt po dS b y\/w.1.size<b))(i:sb=w.1.size)(d:a<=w.1.size)(hpo:∀b y,Pl.has po b y->b<w.1.size):FX w W' hb g a T fv ro rr po pr dp dS M now sb ask:=by
 have b:=S.hbb;have f:=S.gb;refine⟨h.hear.cf k ?_,h.bU.cf k ?_ ?_,h.oq.cf k dT,h.r.cf k dT,k.range h.ask ?_,?_,?_⟩
 .rintro y ((e|e)|e)
  .exact S.hbF y e
  .exact qa S.poH y e
  .omega
 .exact E7
 .exact Hh
 .exact By
 .exact cE h.big k.size
 .exact h.cf.trans k dT
structure Gt(J:World->Prop)(w W:World)(hb g base T:Nat)(fv ro rr:Value)(po pr dp:Option Pl)(dS:Nat->Nat->Prop)(M:DM)(now:Int)(sb:Nat)(ask:List Value):Prop extends FX w W hb g base T fv ro rr po pr dp dS M now sb ask where
 j:J W
theorem Gt.step{a:Nat}{j:Value}(h:Gt J w W hb g a T fv ro rr po pr dp dS M now sb ask)(S:HS hb g a T fv j po pr dp J dS uo es)(k:CF W W' (λb y=>Pl.has po b y\/w.1.size<b))(i:sb=w.1.size)(d:a<=w.1.size)(f:∀b y,Pl.has po b y->b<w.1.size):Gt J w W' hb g a T fv ro rr po pr dp dS M now sb ask:=
 ⟨h.toFX.step S (k.mono (λ_ _ _ e=>e.elim (λe=>.inl (.inr e)) .inr)) i d f,S.finds.stay _ _ h.j (k.mono (λb y _ e=>e.elim (S.poJ b y) (λe=>S.BV b y G)))⟩
theorem Gt.found{a:Nat}{l:Value}(h:Gt J w W hb g a T fv ro rr po pr dp dS M now sb ask)(S:HS hb g a T fv l po pr dp J dS uo es)(k:CF W W' dS)(j:J W')(i:sb=w.1.size)(d:a<=w.1.size)(f:∀b y,Pl.has po b y->b<w.1.size):Gt J w W' hb g a T fv ro rr po pr dp dS M now sb ask:=
 ⟨h.toFX.step S (k.mono (λ_ _ _ e=>.inl (.inl e))) i d f,j⟩
variable {e:BE}{q:FQ}{ax:Int}
theorem Vm(x y)(now)(a b c d)(e:0<=a/\a<=100)(f:0<=b/\b<=100)(g:0<=c/\c<=100)(h:0<=d/\d<=100):bT (dV x y now a b c d):=by
 unfold dV bT;grind
theorem Kl{x y:Option BE}{a b c d:Int}(g:a≠0)(i:b≠0)(h:dV x y now a b c d=0):∃e f,x=some e/\y=some f:=by
 cases x with
 |none=>exact absurd h g
 |some e=>
  cases y with
  |none=>exact absurd h i
  |some f=>exact⟨e,f,rfl,rfl⟩
theorem TG{x y:Option BE}(a:BE.find M.aC q.az=x)(b:BE.find M.aC q.aV=y)(h:dV x y now 6 7 1 2≠0):dD M now (mS M now q)=(aY now (dV x y now 6 7 1 2),M):=by
 unfold mS;rw[a,b];cases x with
 |none=>rfl
 |some e=>
  cases y with
  |none=>rfl
  |some f=>
   simp only[];rw[dQ h];rfl
theorem vL{f:BE}(b:BE.find M.aC q.az=some e)(d:BE.find M.aC q.aV=some f)(h:dV (some e) (some f) now 6 7 1 2=0)(a:di M.ax now q e f≠0):dD M now (mS M now q)=(aY now (di M.ax now q e f),M):=by
 unfold mS;rw[b,d];simp only[];rw[b' (λn=>n h),dQ a];rfl
theorem abf{f:BE}(b:BE.find M.aC q.az=some e)(d:BE.find M.aC q.aV=some f)(h:dV (some e) (some f) now 6 7 1 2=0)(a:di M.ax now q e f=0):dD M now (mS M now q)=if M.aL.length<24 then(aY now 60,M) else(mg 11 {mZ now q e f with aO:=eP M.aL 0} f q.bW e.aH e.key 3 (eP M.aL 1) (eP M.aL 2),{M with aL:=M.aL.drop 24}):=by
 unfold mS;rw[b,d];simp only[];rw[b' (λn=>n h),b' (λn=>n a)];rfl
theorem Mu(ax now)(x)(p):bT (fo ax now x p):=by
 unfold fo bT;grind
theorem Pp{f:BE}(h:fo ax now e q.pre≠0):di ax now q e f=fo ax now e q.pre:=by
 unfold di;rw[dQ h]
theorem Xp{f:BE}(h:fo ax now e q.pre=0)(b:bT q.aR)(a:(bits .andNot .i64 q.aR 15==0)=false):di ax now q e f=13:=by
 unfold di;rw[FN q.aR b,decide_eq_false_iff_not]at a;rw[b' (λn=>n h),dQ G]
theorem Hi(h:p:=by
 unfold di
 rw[FN q.aR ho,decide_eq_true_eq]at hb
 rw[b' (λn=>n h),b' G]
 unfold uf at hs
 grind):p:=h
theorem TH{f:BE}(h:fo ax now e q.pre=0)(ho:bT q.aR)(hb:(bits .andNot .i64 q.aR 15==0)=true)(hs:uf now ax q e f=false):di ax now q e f=10:=by
 exact Hi
theorem abh{f:BE}(h:fo ax now e q.pre=0)(ho:bT q.aR)(hb:(bits .andNot .i64 q.aR 15==0)=true)(hs:uf now ax q e f=true):di ax now q e f=if fT now q e f<=bI now q then 11 else 0:=by
 exact Hi
theorem RW(q)(x s):aJ (pG q x s) 4=(aJ q.aR 4&&(x.has 2&&s.has 2)):=by
 unfold pG jP;generalize q.pre.isSome=b1;generalize aJ q.aR 8=b2;generalize (aJ q.aR 1&&(x.has 4&&s.has 4))=b3;generalize (aJ q.aR 2&&(x.has 8&&s.has 8))=b4;generalize (aJ q.aR 4&&(x.has 2&&s.has 2))=b5;revert b1 b2 b3 b4 b5;decide
theorem abj(q)(x s):bT (pG q x s):=by
 unfold pG jP bT;(repeat' split)<;>omega
def Xq(now:Int)(q:FQ)(x s:BE):Int:=if aJ (pG q x s) 4=true then gU (kB q.bY) (gU (aW (bI now q) x.aD) (aW (bI now q) s.aD)) else 0
theorem TI(now)(q)(x s):mZ now q x s=⟨pG q x s,0,q.az,now,bI now q,fT now q x s,Xq now q x s⟩:=by
 grind [RW,Ji,aJ,Xq,fE,mZ]
theorem Km(h:bX W g 0 dp M)(d:24<=M.aL.length):∃a,dp=some a/\W.c g 1=some (ς a.g a.off M.aL.length a.cap)/\M.aL.length<=a.cap/\a.cap<=9223372036854775807/\W.rangeAt a.g a.off (M.aL.map U8)/\b9 W a.g (a.off+a.cap):=by
 obtain⟨v,l,b⟩:=h.aL;rcases b with⟨_,_,e⟩|⟨q,k,rfl,f,a,i,j⟩
 .grind
 .unfold maxLen at a;grind
theorem Pq(h:bX W g 0 dp M):∃b a,W.c g 1=some (.slice b M.aL.length a):=by
 grind [fA.shape,bX.aL]
theorem Gu{W':World}{rb:Nat}{a:Pl}{off:Nat}(h:bX W g 0 dp M)(t:24<=M.aL.length)(u:M.aL.length<=a.cap)(n:a.cap<=9223372036854775807)(r:W.rangeAt a.g a.off (M.aL.map U8))(l:b9 W a.g (a.off+a.cap))(m:W'.c g 1=some (ς a.g off (M.aL.length-24) (a.cap-24)))(p:a.cap-24≠0->off=a.off+24)(q:off<=a.off+24)(k:CF W W' (λb y=>b=g/\y=1\/b=rb))(o:a.g≠g)(f:a.g≠rb)(d:g≠rb):
  bX W' g 0 (some ⟨a.g,off,a.cap-24⟩) {M with aL:=M.aL.drop 24}:=by
 refine⟨h.live.cf k,k.cell h.ax (λe=>by rcases e with⟨_,e⟩|e;exact absurd e H;exact d e),⟨_,m,.inr ⟨_,rfl,?_,?_,?_,?_,?_⟩⟩,h.aC.cf k (λj b i e=>by rcases e with⟨_,e⟩|e;omega;exact d e),k.range h.aI (λj _ e=>by rcases e with⟨_,e⟩|e;omega;exact d e),k.cell h.count (λe=>by rcases e with⟨_,e⟩|e;exact absurd e H;exact d e),h.few⟩
 .show Value.slice _ _ _=Value.slice _ _ _;rw[ef]
 .show(M.aL.drop 24).length<=a.cap-24;rw[ef];omega
 .show a.cap-24<=maxLen;unfold maxLen;omega
 .show b9 W' a.g (off+(a.cap-24));exact(l.cf k).mono G
 .show W'.rangeAt a.g off ((M.aL.drop 24).map U8);by_cases i:a.cap-24=0
  .have:M.aL.drop 24=[]:=by
    apply eW;rw[ef];omega
   rw[this];intro j v b;simp at b
  .rw[p i];intro j v b;refine k.cell ?_ (λe=>by rcases e with⟨e,_⟩|e;exact o e;exact f e);have:=r (24+j) v (by rw[<-b,List.map_drop,List.getElem?_drop]);rw[gC];exact this
theorem A7{w:World}{b:Nat}{a:Array Value}(h:dm w b a)(n)(f:n<=a.size):b9 w b n:=by
 obtain⟨e,d⟩:=h;exact⟨a,e,d,f⟩
theorem Db(a)(q)(e f)(h:bT q.dM):bT (fT a q e f):=lU h
theorem Tr(a)(q)(e f)(h:bT q.bY):bT (Xq a q e f):=by
 unfold Xq;split
 .exact lU h
 .exact⟨by decide,by decide⟩
theorem TJ{d:Int}{q:FQ}{e f:BE}{i:List BE}{m p:Int}{a b c:UInt64}{M:DM}{r:RP}(v:r=⟨⟨m,0,q.az,d,bI d q,fT d q e f,p⟩,q.aV,f.aH,f.key,0,q.bW,e.aH,e.key,0⟩)(j:bT m)(l:bT p)(k:bT d/\bT M.ax/\bT q.bW/\bT q.mG/\bT q.dM/\bT q.bY/\bT q.aR)(g:BE.find i q.az=some e/\BE.find i q.aV=some f)(h:∀e∈i,e.In):(r.drawn a b c).Fits:=by
 subst v;have n:=h e (mQ g.1);have o:=h f (mQ g.2);have t:=mi g.1;have u:=mi g.2;have w:=n.aH;have x:=o.aH;refine⟨j,k.1,?_,Db d q e f k.2.2.2.2.1,l,?_,k.2.2.1,?_,?_,?_⟩
 .show bT (bI d q);grind [bI]
 .show bT f.aH;unfold bT;omega
 .show bT e.aH;unfold bT;omega
 .show q.az.length<=1000;rw[<-t];exact n.name
 .show q.aV.length<=1000;rw[<-u];exact o.name
theorem Ps{d:Int}{q:FQ}{e f:BE}{g h:Int}{a b c:UInt64}{i:RP}(l:i=⟨⟨g,0,q.az,d,bI d q,fT d q e f,h⟩,q.aV,f.aH,f.key,0,q.bW,e.aH,e.key,0⟩)(k:mZ d q e f=⟨g,0,q.az,d,bI d q,fT d q e f,h⟩)(j:f.name=q.aV):[]++(i.drawn a b c).wu 11 3=mg 11 {mZ d q e f with aO:=a} f q.bW e.aH e.key 3 b c:=by
 rw[<-RP.Ff,l,k,<-j];rfl
variable {q:NQ}
def iM(M:DM)(now:Int)(q:NQ):Except Int TK×DM:=
 match jg M now q with
 |.error c=>(.error c,M)
 |.ok (t,p)=>if bM M.ax now M.aI p≠0 then(.error (bM M.ax now M.aI p),{M with aI:=bK M.ax now M.aI p}) else(.ok t,{M with aI:=bK M.ax now M.aI p})
theorem Pt(M)(now)(q):uJ M now q=match (iM M now q).1 with
  |.error c=>(aY now c,(iM M now q).2)
  |.ok t=>dD (iM M now q).2 now (eF (iM M now q).2 now q t):=by
 unfold uJ iM
 grind
theorem Mj(l)(j):bT (zf l j):=by unfold zf;exact uO _
theorem RN(l):bT (Xa l).1:=by unfold Xa;exact uO _
theorem RM(l)(j):bT (Q5 l j):=by unfold Q5;exact uO _
theorem Mp(l):(Y0 l).In:=by
 have a:=RN l;have b:=Mj l 0;have d:=Mj l 1;have e:=Mj l 2;have f:=Mj l 3;unfold Y0;generalize (Xa l).1=a0 at *;generalize zf l 0=a1 at *;generalize zf l 1=a2 at *;generalize zf l 2=a3 at *;generalize zf l 3=a4 at *;exact⟨a,b,d,e,f⟩
theorem Mn(l):bT (o0 l).time:=by
 grind [RM,o0]
theorem Pv(a:q.gq≠[116,103,115])(b:jI q=false):iM M now q=(.error 36,M):=by
 unfold iM jg;rw[dQ ⟨a,(by grind [jI])⟩]
theorem ym(h:q.gq=[116,103,115]\/jI q=true):¬ (q.gq≠[116,103,115]/\¬ ((aJ q.aR 16=true\/aJ q.aR 32=true)/\q.gq=q.aV)):=by
 grind [jI]
theorem Pw(h:q.gq=[116,103,115]\/jI q=true)(a:BE.find M.aC q.gq=none):iM M now q=(.error 7,M):=by
 unfold iM jg;rw[b' (ym h),a]
theorem Vn(h:q.gq=[116,103,115]\/jI q=true)(a:BE.find M.aC q.gq=some e)(b:e.keyOf q.oW=none):iM M now q=(.error 44,M):=by
 grind [ym,jg,iM]
theorem TL{a:UInt64}(h:q.gq=[116,103,115]\/jI q=true)(d:BE.find M.aC q.gq=some e)(f:e.keyOf q.oW=some a)(b:iG (Xb (dH a 2 q.dR))=false):iM M now q=(.error 31,M):=by
 grind [tY,ym,iM,jg]
theorem Xr{a:UInt64}(h:q.gq=[116,103,115]\/jI q=true)(d:BE.find M.aC q.gq=some e)(f:e.keyOf q.oW=some a)(b:iG (Xb (dH a 2 q.dR))=true)(g:iG (YX (dH (Y0 (dH a 2 q.dR)).aO 4 q.proof))=false):iM M now q=(.error 31,M):=by
 grind [ym,zG,tY,iM,jg]
theorem abm{a:UInt64}{t:TK}{p:PF}(h:q.gq=[116,103,115]\/jI q=true)(b:BE.find M.aC q.gq=some e)(g:e.keyOf q.oW=some a)(f:iG (Xb (dH a 2 q.dR))=true)(j:Y0 (dH a 2 q.dR)=t)(i:iG (YX (dH t.aO 4 q.proof))=true)(d:o0 (dH t.aO 4 q.proof)=p):iM M now q=if p.az≠t.az then(.error 36,M) else if M.ax<dW p.time now then(.error 37,M) else if bM M.ax now M.aI p≠0 then(.error (bM M.ax now M.aI p),{M with aI:=bK M.ax now M.aI p}) else(.ok t,{M with aI:=bK M.ax now M.aI p}):=by
 unfold iM jg;rw[b' (ym h),b];grind [zG,tY]
theorem abn(l):(Y0 l).cells.toArray=#[Y (Xa l).1,O ((pL l).1.toNat:Int),.string ⟨(Mc l).1.toArray⟩,Y (zf l 0),Y (zf l 1),Y (zf l 2),Y (zf l 3)]:=by
 unfold Y0;generalize (Xa l).1=a0;generalize (pL l).1=a1;generalize (Mc l).1=a2;generalize zf l 0=a3;generalize zf l 1=a4;generalize zf l 2=a5;generalize zf l 3=a6;rfl
theorem abo(l):(o0 l).bF.toArray=#[.string ⟨(Tm l).1.toArray⟩,Y (Q5 l 0),Y (Q5 l 1)]:=by
 unfold o0;generalize (Tm l).1=a0;generalize Q5 l 0=a1;generalize Q5 l 1=a2;rfl
theorem Mk(k)(p)(l)(a)(i)(z)(n d)(w)(m:fA w k p l)(o:Hid (z.length=n))(f:n<=d)(q:At w i z)(g:∀b e,i=some ⟨b,e,none⟩->∀j,j<z.length->¬ Pl.has p b (e+j)):Calls Tryz.prog 218 #[k,O (a.toNat:Int),.slice i n d] w λe b=>e=.returned (.tuple #[.agg (Y0 (dH a 2 z)).cells.toArray,.bool (iG (Xb (dH a 2 z)))])/\CF w b (Pl.has p):=by
 have h:=Gd k p l a i z n d w m o f q g
 rw[<-abn]at h
 exact h
theorem Px(k)(p)(l)(a)(i)(z)(n d)(w)(m:fA w k p l)(o:Hid (z.length=n))(f:n<=d)(q:At w i z)(g:∀b e,i=some ⟨b,e,none⟩->∀j,j<z.length->¬ Pl.has p b (e+j)):Calls Tryz.prog 219 #[k,O (a.toNat:Int),.slice i n d] w λe b=>e=.returned (.tuple #[.agg (o0 (dH a 4 z)).bF.toArray,.bool (iG (YX (dH a 4 z)))])/\CF w b (Pl.has p):=by
 have h:=Je k p l a i z n d w m o f q g
 rw[<-abo]at h
 exact h
