import Derived.Test.YticfhckmhcaigaaGreatDoorGEQMany
namespace Go.Proofs.YticfhckmhcaigaaGreatDoor
open Go.RowKit
set_option maxRecDepth 100000
variable {r s:Bool}{base wb:Nat}{d d':BW r}{e:BW s}{w w':World}{p:Prop}
def zU(i:Nat×Nat):Prop:=i.1=0\/i.1=2\/i.1=3
abbrev BW.sync(e:BW s)(d:BW r):BW s:={e with pv:=d.pv,qv:=d.qv,lv:=d.lv,le:=d.le}
structure Both(base wb:Nat)(d:BW r)(e:BW s)(w:World):Prop where
 one:jS base wb d w
 two:jS base wb e w
 same:e=e.sync d
 meet:∀i j b,BW.F wb d i b->BW.F wb e j b->zU i
theorem IS(h:p:=by
 match i,h with
 |(0,_),_=>rfl
 |(1,_),h=>simp[zU]at h
 |(2,_),_=>rfl
 |(3,_),_=>rfl
 |(j+4,_),h=>simp[zU]at h):p:=h
theorem zU.f(e:BW s)(d:BW r){i:Nat×Nat}(h:zU i):BW.F wb (e.sync d) i=BW.F wb d i:=by
 exact IS
theorem zU.c(e:BW s)(d:BW r){i:Nat×Nat}(h:zU i):BW.C base wb (e.sync d) i=BW.C base wb d i:=by
 exact IS
theorem zU.not{e:BW s}{d:BW r}{i:Nat×Nat}(h:¬ zU i)(a:(e.sync d).rv=e.rv):BW.F wb (e.sync d) i=BW.F wb e i/\BW.C base wb (e.sync d) i=BW.C base wb e i:=by
 match i,h with
 |(0,_),h=>simp[zU]at h
 |(1,_),_=>exact⟨by funext b;simp only[BW.F];rw[a],by funext W;simp only[BW.C];rw[a]⟩
 |(2,_),h=>simp[zU]at h
 |(3,_),h=>simp[zU]at h
 |(j+4,_),_=>exact⟨rfl,rfl⟩
theorem Both.eq(h:Both base wb d e w){i j:Nat×Nat}{b:Nat}(a:BW.F wb d i b)(f:BW.F wb e j b):i=j:=by
 have g:=h.meet i j b a f;rw[<-g.f e d,<-h.same]at a;exact h.two.one i j b a f
theorem Both.symm(h:Both base wb d e w):Both base wb e d w:=⟨h.two,h.one,by rw[h.same],λi j b a f=>by rw[<-h.eq f a];exact h.meet j i b f a⟩
theorem Both.step(h:Both base wb d e w)(u:Us base wb w (j' wb d) d' w')(k:(e.sync d').rv=e.rv):Both base wb d' (e.sync d') w':=by
 have z:=u.uE.size;have own:∀i b,¬ zU i->BW.F wb e i b->b<w.1.size/\¬ j' wb d b:=λi b f a=>⟨h.two.lt i b a,λ⟨j,g⟩=>f (by rw[<-h.eq g a];exact h.meet j i b g a)⟩
 have l:∀i j b,¬ zU i->BW.F wb e i b->¬ BW.F wb d' j b:=λi j b f a g=>by
  have m:=own i b f a;rcases u.own b ⟨j,g⟩with q|q
  .exact m.2 q
  .omega
 refine⟨u.sep,⟨λi=>?_,λi b a=>?_,λi b a=>?_,λi j b f g=>?_,u.sep.room⟩,rfl,λi j b f g=>?_⟩
 .by_cases f:zU i
  .rw[f.c];exact u.sep.here i
  .rw[(zU.not f k).2];exact BW.loc base wb e i w w' (h.two.here i) (λb a=>u.uE.block b (own i b f a).1 (own i b f a).2)
 .by_cases f:zU i
  .rw[f.f]at a;exact u.sep.lt i b a
  .rw[(zU.not (base:=base) f k).1]at a;have:=(own i b f a).1;omega
 .by_cases f:zU i
  .rw[f.f]at a;exact u.sep.base i b a
  .rw[(zU.not (base:=base) f k).1]at a;exact h.two.base i b a
 .by_cases a:zU i<;>by_cases c:zU j
  .rw[a.f]at f;rw[c.f]at g;exact u.sep.one i j b f g
  .rw[a.f]at f;rw[(zU.not (base:=base) c k).1]at g;exact absurd f (l j i b c g)
  .rw[(zU.not (base:=base) a k).1]at f;rw[c.f]at g;exact absurd g (l i j b a f)
  .rw[(zU.not (base:=base) a k).1]at f;rw[(zU.not (base:=base) c k).1]at g;exact h.two.one i j b f g
 .by_cases c:zU j
  .rw[c.f]at g;rw[u.sep.one i j b f g];exact c
  .rw[(zU.not (base:=base) c k).1]at g;exact absurd f (l j i b c g)
set_option maxHeartbeats 1000000
open Proofs.Tryz
theorem D4(h:p:=by simp only[not_or];exact⟨⟨⟨HU _ HD.1.2.2.2.2.2,HD.2.2.2.2.2.2.2.2.1⟩,HD.2.2.2.2.2.2.2.2.2.1⟩,HD.2.2.2.2.2.2.2.2.2.2.1⟩):p:=h
theorem D0(h:p:=by simp only[not_or];exact⟨HU _ HD.1.2.2.2.2.1,HD.2.2.2.2.2.2.2.1.1⟩):p:=h
abbrev Kk(r:Bool):FuncId:=match r with
 |true=>10
 |false=>8
abbrev QZ(r:Bool):FuncId:=match r with
 |true=>42
 |false=>35
abbrev VD(r:Bool)(xb:Nat)(d:DM)(w:World):Prop:=
 Calls prog (QZ r) #[N xb 0] w λe w'=>∃bn bu,e=.returned (.agg #[ς bn 0 d.aC.length d.aC.length,ς bu 0 d.aC.length d.aC.length,Y d.aI.length,Y d.aL.length])/\w'.ownsRow w.1.size 9 1 (ς bn 0 d.aC.length d.aC.length) d.aC.length (d.aC.map λx=>.string ⟨x.name.toArray⟩)/\w'.ownsRow w.1.size 3 1 (ς bu 0 d.aC.length d.aC.length) d.aC.length (d.aC.map λx=>Y x.aH)/\w.grownBy w' none
theorem QC(r:Bool)(a:Nat)(b:Option Pl)(d:DM)(w:World)(h:bX w a 0 b d):VD r a d w:=by
 cases r
 .exact Fw a b d w h
 .exact DJ a b d w h
theorem H9(d:BW r)(k:Nat)(Q S:Nat)(dp:Option Pl)(yb:Nat)(rg:RG)(M:DM)(sv:Value)(kl:List KN)(m:Int)(D:Array Value)(w:World)(h0:D[0]?=some (Y m))(q:d.qs[k]?=some ⟨Q,S,dp,yb,rg,M,M,sv,kl⟩)(hr:Hid (r=true/\m=11\/r=false/\m=8))(p:jS base wb d w)(f:((d.le 2).length+2)*112<=140737488355328)(h:((d.le 1).length+2)*112<=140737488355328):Calls prog (Kk r) #[N wb 0,.agg D,N Q 0] w λe t=>oJ base wb 16 d w e t (λa=>a=d.qs):=by
 have i:=p.part q
 have l:=cy w (.cells D 48) none
 have a:∀j,QD.C r ⟨Q,S,dp,yb,rg,M,M,sv,kl⟩ j (w.alloc (.cells D 48)):=λj=>QD.loc (i j) (λb P=>l.block b (QD.lt (i j) P) Z)
 have k0:(w.alloc (.cells D 48)).cell? (F w.1.size 0)=some (Y m):=by rw[World.cell?_alloc_at (hn:=rfl)];exact h0
 have HP:Hid (∀W,(w.alloc (.cells D 48)).grownBy W none->∀j,QD.C r ⟨Q,S,dp,yb,rg,M,M,sv,kl⟩ j W):=λW g j=>QD.loc (a j) (λb P=>g.block b (QD.lt (a j) P) Z)
 have q0:(w.alloc (.cells D 48)).c Q 0=some (N S 0):=dm.cell (a 0) 0
 have ag:M.aC.length<=20:=(i 1).1.dk.aC.len
 have ah:Hid (∀e:jk,(((d.le 2)++[e]).length+1)*112<=140737488355328):=λe=>QA (d.le 2) f e
 have ai:Hid (∀e:jk,(((d.le 1)++[e]).length+1)*112<=140737488355328):=λe=>QA (d.le 1) h e
 have n:Hid (((d.le 2).length+1)*112<=140737488355328/\((d.le 1).length+1)*112<=140737488355328/\M.aC.length<=100000):=⟨by omega,by omega,by omega⟩
 clear f h
 have HI:=I p
 have HG:=I l
 have s0:(w.alloc (.cells D 48)).1.size=w.1.size+1:=cG _ _
 clear i a l p q
 have af:Hid (∀W,(w.alloc (.cells D 48)).grownBy W none->VD r S M W):=λW g=>QC r S dp M W (HP W g 1).1.dk
 rcases hr.o with⟨rfl,rfl⟩|⟨rfl,rfl⟩
 all_goals
  clear hr
  first
  |go_enter func10,ntmps10
  |go_enter func8,ntmps8
  go_wp2_with fail;refine(af _ (cC _ _)).mono ?_;rintro e p ⟨a,f,rfl,g,h,i⟩;have A:=cy p (.cells #[ς a 0 M.aC.length M.aC.length,ς f 0 M.aC.length M.aC.length,Y (M.aI.length:Int),Y (M.aL.length:Int)] 101) none;have Ga:=aa i A;have B:(p.alloc (.cells #[ς a 0 M.aC.length M.aC.length,ς f 0 M.aC.length M.aC.length,Y (M.aI.length:Int),Y (M.aL.length:Int)] 101)).c Q 0=some (N S 0):=dm.cell (HP _ Ga 0) 0;have s1:=i.size;have sa:(p.alloc (.cells #[ς a 0 M.aC.length M.aC.length,ς f 0 M.aC.length M.aC.length,Y (M.aI.length:Int),Y (M.aL.length:Int)] 101)).1.size=p.1.size+1:=cG _ _;have n1:=Dv g h H;obtain⟨B1,f1⟩:=El g;obtain⟨B2,f2⟩:=El h;have l1:=B1.lt;have l2:=B2.lt;have v:=dm.new p #[ς a 0 M.aC.length M.aC.length,ς f 0 M.aC.length M.aC.length,Y (M.aI.length:Int),Y (M.aL.length:Int)] 101;have T:=I (cZ B1 (cZ B2 v));clear q0 k0 g h i B1 B2 v;go_wp2_with fail;refine(af _ Ga).mono ?_;rintro e q ⟨h,i,rfl,j,l,x⟩;have y:=cy q (.cells #[ς h 0 M.aC.length M.aC.length,ς i 0 M.aC.length M.aC.length,Y (M.aI.length:Int),Y (M.aL.length:Int)] 101) none;have Gc:=aa Ga (aa x y);have q2:(q.alloc (.cells #[ς h 0 M.aC.length M.aC.length,ς i 0 M.aC.length M.aC.length,Y (M.aI.length:Int),Y (M.aL.length:Int)] 101)).c Q 1=some (N yb 0):=dm.cell (HP _ Gc 0) 1;have s2:=x.size;have n2:=Dv j l H;obtain⟨B3,f3⟩:=El j;obtain⟨B4,f4⟩:=El l;have l3:=B3.lt;have l4:=B4.lt;have u:=dm.new q #[ς h 0 M.aC.length M.aC.length,ς i 0 M.aC.length M.aC.length,Y (M.aI.length:Int),Y (M.aL.length:Int)] 101;have U:=I (cZ B3 (cZ B4 u));have H2:=I (aa A (aa x y));have g:=I (cZ x y);clear B j l B3 B4 u A x y;go_wp2_with fail;refine(Yr _ yb M rg (HP _ Gc 2) ag).mono ?_;rintro e w3 ⟨y,B,A,C,rfl,L,R,g3⟩;have gd:=cy w3 (.cells #[.slice y M.aC.length B,.slice A M.aC.length C,Y (M.aI.length:Int),Y (M.aL.length:Int)] 101) none;have J:=I (aa g3 gd);have vZ:=I (cZ (L.below gd) (R.below gd));have j:dm (w3.alloc (.cells #[.slice y M.aC.length B,.slice A M.aC.length C,Y (M.aI.length:Int),Y (M.aL.length:Int)] 101)) p.1.size #[ς a 0 M.aC.length M.aC.length,ς f 0 M.aC.length M.aC.length,Y (M.aI.length:Int),Y (M.aL.length:Int)]:=((T.2.2.grown g.1 Z).grown g.2 Z).grown J Z;have K:=dm.new w3 #[.slice y M.aC.length B,.slice A M.aC.length C,Y (M.aI.length:Int),Y (M.aL.length:Int)] 101;obtain⟨V,X,x2,x3⟩:=j.four;obtain⟨y0,y1,y2,y3⟩:=K.four;have G3:=aa Gc J.o;have ad:=I K;have ab:=I j;have e1:(M.aC.map (λx=>x.name)).map (λl=>Value.string ⟨l.toArray⟩)=M.aC.map λx=>Value.string ⟨x.name.toArray⟩:=by rw[List.map_map];rfl
  have e2:(M.aC.map (λx=>x.aH)).map (λx=>Value.int .i64 x)=M.aC.map λx=>Value.int .i64 x.aH:=by rw[List.map_map];rfl
  have HS:Hid (∀(W:World)(a1 a2:Option Addr)(l c2:Nat),(w3.alloc (.cells #[.slice y M.aC.length B,.slice A M.aC.length C,Y (M.aI.length:Int),Y (M.aL.length:Int)] 101)).grownBy W none->qR W a1 (M.aC.map λx=>Value.string ⟨x.name.toArray⟩)->qR W a2 (M.aC.map λx=>Value.int .i64 x.aH)->Calls prog 37 #[.agg #[.slice a1 M.aC.length l,.slice a2 M.aC.length c2,Y (M.aI.length:Int),Y (M.aL.length:Int)],.agg #[.slice y M.aC.length B,.slice A M.aC.length C,Y (M.aI.length:Int),Y (M.aL.length:Int)]] W λe t=>e=.returned (.bool true)/\W.grownBy t none):=by
   intro W a1 a2 l c2 gW h1 h2;exact IW (M.aC.map (λx=>x.name)) (M.aC.map (λx=>x.aH)) M.aC.length a1 a2 y A l c2 B C _ _ W (by show _=_;rw[cU]) (by show _=_;rw[cU]) G (by rw[e1];exact h1) (by rw[e1];exact vZ.1.below gW) (by rw[e2];exact h2) (by rw[e2];exact vZ.2.below gW)
  have Lx:Hid (qR (w3.alloc (.cells #[.slice y M.aC.length B,.slice A M.aC.length C,Y (M.aI.length:Int),Y (M.aL.length:Int)] 101)) (some ⟨a,0,none⟩) (M.aC.map λx=>Value.string ⟨x.name.toArray⟩)/\qR (w3.alloc (.cells #[.slice y M.aC.length B,.slice A M.aC.length C,Y (M.aI.length:Int),Y (M.aL.length:Int)] 101)) (some ⟨f,0,none⟩) (M.aC.map λx=>Value.int .i64 x.aH)):=⟨(T.1.cat.below H2).below J,(T.2.1.cat.below H2).below J⟩
  have Iy:Hid (qR (w3.alloc (.cells #[.slice y M.aC.length B,.slice A M.aC.length C,Y (M.aI.length:Int),Y (M.aL.length:Int)] 101)) (some ⟨h,0,none⟩) (M.aC.map λx=>Value.string ⟨x.name.toArray⟩)/\qR (w3.alloc (.cells #[.slice y M.aC.length B,.slice A M.aC.length C,Y (M.aI.length:Int),Y (M.aL.length:Int)] 101)) (some ⟨i,0,none⟩) (M.aC.map λx=>Value.int .i64 x.aH)):=⟨(U.1.cat.below g.2).below J,(U.2.1.cat.below g.2).below J⟩
  clear q2 L R g3 gd e1 e2 j K;go_wp2_with fail;refine(HS _ _ _ _ _ (cC _ _) Lx.1 Lx.2).mono ?_;rintro e w4 ⟨rfl,K⟩;have L:dm w4 q.1.size #[ς h 0 M.aC.length M.aC.length,ς i 0 M.aC.length M.aC.length,Y (M.aI.length:Int),Y (M.aL.length:Int)]:=(U.2.2.grown J Z).grown K Z;have W:=ad.grown K Z;clear V X x2 x3 y0 y1 y2 y3;obtain⟨V,X,x2,x3⟩:=L.four;obtain⟨y0,y1,y2,y3⟩:=W.four;go_wp2_with fail;refine(HS _ _ _ _ _ K (Iy.1.below K) (Iy.2.below K)).mono ?_;rintro e R ⟨rfl,g5⟩;clear V X x2 x3 y0 y1 y2 y3;have j:=aa J (aa K g5);have G5:=aa HG (aa Gc j);have aj:=I (Us.start (HI.grown G5));have ak:=HI.room;have B1:Hid (dm R a (M.aC.map λx=>Value.string ⟨x.name.toArray⟩).toArray):=(T.1.grown H2 Z).grown j Z;have B2:Hid (dm R f (M.aC.map λx=>Value.int .i64 x.aH).toArray):=(T.2.1.grown H2 Z).grown j Z;have B3:Hid (dm R h (M.aC.map λx=>Value.string ⟨x.name.toArray⟩).toArray):=(U.1.grown g.2 Z).grown j Z;have B4:Hid (dm R i (M.aC.map λx=>Value.int .i64 x.aH).toArray):=(U.2.1.grown g.2 Z).grown j Z;have v:Hid (dm R p.1.size #[ς a 0 M.aC.length M.aC.length,ς f 0 M.aC.length M.aC.length,Y (M.aI.length:Int),Y (M.aL.length:Int)]):=(ab.grown K Z).grown g5 Z;have u:Hid (dm R q.1.size #[ς h 0 M.aC.length M.aC.length,ς i 0 M.aC.length M.aC.length,Y (M.aI.length:Int),Y (M.aL.length:Int)]):=L.grown g5 Z;have HU:Hid (∀b,w.1.size<=b->¬ j' wb d b):=λb P e=>by have:=(HI.low e).2;omega
  have l:Hid (∀b,w.1.size<=b->base<=b):=λb P=>by omega
  have Ph:=I G5;rw[s0]at f1 f2;rw[sa]at f3 f4;have HD:Hid ((w.1.size<=a/\w.1.size<=f/\w.1.size<=h/\w.1.size<=i/\w.1.size<=p.1.size/\w.1.size<=q.1.size)/\f≠a/\h≠a/\h≠f/\i≠a/\i≠f/\i≠h/\(p.1.size≠a/\p.1.size≠f)/\q.1.size≠a/\q.1.size≠f/\q.1.size≠h/\q.1.size≠i):=by
   show _/\_;omega
  have D7:Hid ((M.aC.map λx=>Value.string ⟨x.name.toArray⟩).length=M.aC.length):=cU _;have ae:Hid ((M.aC.map λx=>Value.int .i64 x.aH).length=M.aC.length):=cU _;have V:=v.cell 0;simp only[cI,cH]at V;have C6:=I (L7 d a M.aC.length _ (R.drewN 1) (aj.grown (aN (cC _ none) 1)) D7 n.2.2 B1 (l _ HD.1.1) (HU _ HD.1.1) n.1);clear L W j G5 G3 Gc Ga K g5 HS Lx Iy vZ ad ab H2 g J T U HP n1 n2 f1 f2 f3 f4 l1 l2 l3 l4 s0 s1 s2 sa;go_wp2_with fail;go_region_held3 (λt=>t.c p.1.size 0=some (ς a 0 M.aC.length M.aC.length)) (go_keep) (first|(go_at_call 38;refine C6.mono ?_;rintro e w6 ⟨rfl,j,K,x⟩;have g:=(v.kept (x.free v.o.lt D0).2).cell 0;simp only[cI,cH]at g));have X:=(v.kept (x.free v.o.lt D0).2).cell 1;simp only[cI,cH,cL]at X;have T:=I (L8 _ f M.aC.length _ (w6.drewN 1) (x.grown (aN (cC _ none) 1)) ae n.2.2 B2 (l _ HD.1.2.1) (by simp only[not_or];exact⟨HU _ HD.1.2.1,HD.2.1⟩) n.2.1);clear g V C6 x;go_wp2_with fail;go_region_held3 (λt=>t.c p.1.size 1=some (ς f 0 M.aC.length M.aC.length)) (go_keep) (first|(go_at_call 39;refine T.mono ?_;rintro e w7 ⟨rfl,J,L,x⟩;have g:=(v.kept (x.free v.o.lt (by simp only[not_or];exact⟨⟨HU _ HD.1.2.2.2.2.1,HD.2.2.2.2.2.2.2.1.1⟩,HD.2.2.2.2.2.2.2.1.2⟩)).2).cell 1;simp only[cI,cH,cL]at g));have x2:=(u.kept (x.free u.o.lt (by simp only[not_or];exact⟨⟨HU _ HD.1.2.2.2.2.2,HD.2.2.2.2.2.2.2.2.1⟩,HD.2.2.2.2.2.2.2.2.2.1⟩)).2).cell 0;simp only[cI,cH]at x2;have U:=I (L7 _ h M.aC.length _ (w7.drewN 1) (x.grown (aN (cC _ none) 1)) D7 n.2.2 B3 (l _ HD.1.2.2.1) (by simp only[not_or];exact⟨⟨HU _ HD.1.2.2.1,HD.2.2.1⟩,HD.2.2.2.1⟩) (ah j));clear g X T x;go_wp2_with fail;go_region_held3 (λt=>t.c q.1.size 0=some (ς h 0 M.aC.length M.aC.length)) (go_keep) (first|(go_at_call 38;refine U.mono ?_;rintro e w8 ⟨rfl,V,W,x⟩;have g:=(u.kept (x.free u.o.lt D4).2).cell 0;simp only[cI,cH]at g));have x3:=(u.kept (x.free u.o.lt D4).2).cell 1;simp only[cI,cH,cL]at x3;have T:=I (L8 _ i M.aC.length _ (w8.drewN 1) (x.grown (aN (cC _ none) 1)) ae n.2.2 B4 (l _ HD.1.2.2.2.1) (by simp only[not_or];exact⟨⟨⟨HU _ HD.1.2.2.2.1,HD.2.2.2.2.1⟩,HD.2.2.2.2.2.1⟩,HD.2.2.2.2.2.2.1⟩) (ai J));clear g x2 U x;go_wp2_with fail;go_region_held3 (λt=>t.c q.1.size 1=some (ς i 0 M.aC.length M.aC.length)) (go_keep) (first|(go_at_call 39;refine T.mono ?_;rintro e w9 ⟨rfl,U,X,x⟩;have g:=(u.kept (x.free u.o.lt (by simp only[not_or];exact⟨⟨⟨⟨HU _ HD.1.2.2.2.2.2,HD.2.2.2.2.2.2.2.2.1⟩,HD.2.2.2.2.2.2.2.2.2.1⟩,HD.2.2.2.2.2.2.2.2.2.2.1⟩,HD.2.2.2.2.2.2.2.2.2.2.2⟩)).2).cell 1;simp only[cI,cH,cL]at g));clear g x3 T;go_wp2;go_ret;refine⟨rfl,_,Us.trans (iO.mY Ph _) x (λb P=>?_),⟨rfl,rfl⟩,rfl,λt=>?_⟩
  .have b:=HD.1;rcases P with(((e|e)|e)|e)|e
   .exact .inl e
   .exact .inr G
   .exact .inr G
   .exact .inr G
   .exact .inr G
  .have a1:=BW.uh (((d.add 2 K j).add 1 L J).add 2 W V) 1 X U t;have a2:=BW.uh ((d.add 2 K j).add 1 L J) 2 W V t;have b:=BW.uh (d.add 2 K j) 1 L J t;have g:=BW.uh d 2 K j t;omega
set_option maxHeartbeats 2000000
def wU(r:Bool)(ρ:Nat)(kind:Int):Prop:=r=true/\ρ=1/\(kind=10\/kind=11\/kind=12)\/r=false/\ρ=0/\(kind=6\/kind=7\/kind=8)
theorem wU.at{ρ:Nat}{a:Int}{d:BW r}{w:World}(h:wU r ρ a)(b:dm w wb d.cells):w.cell? (F wb ρ)=some d.rv:=by
 rcases h with⟨rfl,rfl,_⟩|⟨rfl,rfl,_⟩
 .exact b.cell 1
 .exact b.cell 0
def N5(wb ρ:Nat)(sl:Value)(o:Nat)(A:Int)(rb k pb:Nat)(cs:List Value)(w:World):Prop:=w.cell? (F wb ρ)=some sl/\w.cell? (F o 1)=some (Y A)/\w.cell? (F rb k)=some (N pb 0)/\w.rangeAt o 0 cs
theorem KD(d:BW r){ρ:Nat}(a:Int)(g:Array Value)(w:World)(h:Hid (wU r ρ a))(j:g[0]?=some (Y a))(k:jS base wb d w)(f:d.qs=[]):Calls prog 5 #[N wb 0,.agg g] w λe b=>e=.returned (.bool true)/\w.grownBy b none:=by
 have i:=I (cy w (.cells g 48) none)
 have b:=k.grown i.o
 obtain⟨m,n,e⟩:=bA b.row
 have l:=h.at b.blk
 rw[e,f,List.length_nil]at l
 have o:(w.alloc (.cells g 48)).cell? (F w.1.size 0)=some (Y a):=by rw[World.cell?_alloc_at (hn:=rfl)];exact j
 clear e b k f j
 rcases h.o with⟨rfl,rfl,rfl|rfl|rfl⟩|⟨rfl,rfl,rfl|rfl|rfl⟩
 all_goals
  clear h
  go_in
  go_wp2
  go_ret
  exact⟨rfl,i⟩
theorem KE(d:BW r)(u A:Int)(j:Array Value)(k:Nat)(p:QD)(x:Nat)(L:List QD->Prop)(w:World){ρ:Nat}(V:Hid (wU r ρ u))(T:j.size=41)(h0:j[0]?=some (Y u))(h1:j[1]?=some (Y A))(K:-9223372036854775808<=A)(M:A<=9223372036854775807)(hn:Hid (d.qs.length<=9223372036854775807))(R:Hid (wh A d.qs.length=k))(X:d.qs[k]?=some p)(hI:jS base wb d w)(P:∀e,L e->e.map QD.pb=d.qs.map QD.pb)(HC:∀W,w.grownBy W none->Calls prog (Kk r) #[N wb 0,.agg j,N p.pb 0] W λe w'=>oJ base wb x d W e w' L):Calls prog 5 #[N wb 0,.agg j] w λe w'=>oJ base wb x d w e w' L:=by
 have G0:=cy w (.cells j 48) none
 have Rf:Hid (Calls prog (Kk r) #[N wb 0,.agg j.toList.toArray,N p.pb 0] ((w.alloc (.cells j 48)).drewN 1) λe w'=>oJ base wb x d ((w.alloc (.cells j 48)).drewN 1) e w' L):=by
  show Calls _ _ _ _ _;rw[Array.toArray_toList];exact HC _ (aN G0 1)
 have B:=hI.grown G0
 have t:(w.alloc (.cells j 48)).ownsRow base (sd r) 1 d.rv d.qs.length (d.qs.map λp=>n8 p.pb):=B.row
 have Q:dm (w.alloc (.cells j 48)) wb d.cells:=B.blk
 have gN:k<d.qs.length:=(cM.1 X).1
 obtain⟨n,m⟩:=aq d.qs.length
 obtain⟨v,y,o⟩:∃v y,d.rv = ς v 0 n y:=by
  rcases t.2 with⟨_,e⟩|⟨g,q,C,D,_⟩
  .omega
  .exact⟨g,q,by rw[<-m];exact D⟩
 have l:=t
 rw[o,m]at l
 have c0:(w.alloc (.cells j 48)).cell? (F wb ρ)=some (ς v 0 n y):=by rw[<-o];exact V.at Q
 have k0:(w.alloc (.cells j 48)).cell? (F w.1.size 0)=some (Y u):=by rw[World.cell?_alloc_at (hn:=rfl)];exact h0
 have k1:(w.alloc (.cells j 48)).cell? (F w.1.size 1)=some (Y A):=by rw[World.cell?_alloc_at (hn:=rfl)];exact h1
 have hr:(w.alloc (.cells j 48)).cell? (F v k)=some (N p.pb 0):=by
  obtain⟨b,ae,g,D⟩:=nP l k (n8 p.pb) (by rw[eJ,X];rfl);injection g with g;injection g with g e3 _;subst g e3;rw[cR]at D;exact D
 have W:dm (w.alloc (.cells j 48)) w.1.size j:=dm.new w j 48
 have RO:(w.alloc (.cells j 48)).rangeAt w.1.size 0 j.toList:=W.range
 have ad:Hid ((prog.info? 48).map (·.size)=some j.toList.length):=by show _=_;rw[Tryz.KV,cV,T]
 have ab:Hid (∀e w',oJ base wb x d ((w.alloc (.cells j 48)).drewN 1) e w' L->N5 wb ρ (ς v 0 n y) w.1.size A v k p.pb j.toList w'):=by
  rintro e w' ⟨_,C,S,e0,D,_⟩;have g:C.rv=d.rv:=by cases r;exact e0.1;exact e0.2
  have eb:w'.1[w.1.size]?=(w.alloc (.cells j 48)).1[w.1.size]?:=(S.free (b:=w.1.size) (by show w.1.size<(w.alloc _).1.size;rw[cG];omega) (λe=>by have:=(hI.low e).2;omega)).2;have hm:=P _ D;have hl:C.qs.length=n:=by rw[<-m,<-cU (f:=QD.pb),hm,cU]
  refine⟨by rw[<-o,<-g];exact V.at S.sep.blk,?_,?_,(W.kept eb).range⟩
  .rw[World.cell?_of_block (a:=⟨w.1.size,1,none⟩) eb];exact k1
  .have J:=S.sep.row;rw[g,o,hl]at J
   obtain⟨b,ae,U,q2⟩:=nP J k (n8 p.pb) (by
    have h:(C.qs.map QD.pb)[k]?=some p.pb:=(by rw[hm,eJ,X];rfl);rw[eJ]at h⊢;cases hq:C.qs[k]? with
    |none=>rw[hq]at h;cases h
    |some q=>rw[hq]at h;have h:q.pb=p.pb:=(by injection h);show some (n8 q.pb)=_;rw[h])
   injection U with U;injection U with U q3 _;subst U q3;rw[cR]at q2;exact q2
 have ag:(0:Int)<(n:Int):=G
 have af:k<n:=G
 have U:(0:Int)<=(k:Int):=G
 have nG:(k:Int)<(n:Int):=G
 have J:=I (EZ A n ((w.alloc (.cells j 48)).drewN 1) K M G (by have:=hn.o;omega))
 have q:=R.o
 rw[m]at q
 rw[q]at J
 clear q R hn hI B t l Q o X gN m W HC K M h0 h1 T P
 rcases V.o with⟨rfl,rfl,rfl|rfl|rfl⟩|⟨rfl,rfl,rfl|rfl|rfl⟩
 all_goals
  clear V
  go_in
  go_wp2_with fail
  refine wp_region_held_drew (S:=(N5 wb _ (ς v 0 n y) w.1.size A v k p.pb j.toList)) f' ⟨c0,k1,hr,RO⟩ (λhHeld=>?_)
  refine xK 0 (N wb 0) ?_
  refine eH 1 (.agg j.toList.toArray) ?_ (hy:=yieldsIf_load_mid (by rfl) _ _ rfl w.1.size 0 rfl j.toList _ (λw' h=>h.2.2.2) underlying48 rfl ad)
  refine xK 2 (N wb 0) ?_
  refine xK 3 (N wb 0) ?_
  first|(have:=(c0:World.cell? _ ⟨wb,1,none⟩=_);refine xK 4 (N wb 1) ?_)|refine xK 4 (N wb 0) ?_
  refine xK 5 (ς v 0 n y) ?_
  refine xK 6 (N w.1.size 1) ?_
  refine xK 7 (Y A) ?_
  refine xK 8 (N wb 0) ?_
  refine xK 9 (N wb 0) ?_
  first|(have:=(c0:World.cell? _ ⟨wb,1,none⟩=_);refine xK 10 (N wb 1) ?_)|refine xK 10 (N wb 0) ?_
  refine xK 11 (ς v 0 n y) ?_
  refine xK 12 (Y (n:Int)) ?_
  refine mT (i:=13) rfl f' (λK hK=>?_)
  go_simp
  refine J.mono ?_
  rintro e w' ⟨rfl,rfl⟩
  go_wp2_with fail
  refine hK.out _ _ hHeld (λhHeld=>?_)
  clear hK K
  refine xK 14 (N v k) ?_
  refine xK 15 (N p.pb 0) ?_
  refine mT (i:=16) rfl f' (λK hK=>?_)
  go_simp
  refine Rf.mono ?_
  rintro e m l
  obtain rfl:=l.1
  go_wp2_with fail
  refine hK.out _ _ (ab _ _ l) (λhHeld=>?_)
  clear hK K
  refine xK 17 (.bool true) ?_
  refine wpAnyH_done f' ?_ _
  go_wp2
  go_ret
  obtain⟨_,C,S,g,D,e3⟩:=l
  exact⟨rfl,C,Us.trans (iO.mY (aN G0 1) _) S (λb e=>.inl e),g,D,e3⟩
theorem uV{a:Int}{b:Array Value}{w:World}{R:World->Prop}(j:Hid (a=1\/a=2\/a=3\/a=4\/a=5\/a=9))(f:b.size=41)(i:b[0]?=some (Y a))(h:∀W,w.grownBy W none->Calls prog 7 #[N wb 0,.agg b] W λe g=>e=.returned (.bool true)/\R g):Calls prog 5 #[N wb 0,.agg b] w λe g=>e=.returned (.bool true)/\R g:=by
 have k:=I (h _ (cy w (.cells b 48) none))
 have m:(w.alloc (.cells b 48)).cell? (F w.1.size 0)=some (Y a):=by rw[World.cell?_alloc_at (hn:=rfl)];exact i
 have d:(w.alloc (.cells b 48)).1[w.1.size]?=some (.cells b 48 (0,0)):=heap_alloc_new w _
 have l:Hid ((prog.info? 48).map (·.size)=some b.size):=by show _=_;rw[Tryz.KV,f]
 clear h i f
 rcases j.o with rfl|rfl|rfl|rfl|rfl|rfl
 all_goals
  clear j
  go_in
  go_wp2_with (refine wpList_load_row rfl 48 _ rfl w.1.size rfl 48 _ (0,0) _ d underlying48 rfl l ?_)
  refine k.mono ?_
  rintro e g ⟨rfl,R⟩
  clear k d
  go_wp2
  go_ret
  exact⟨rfl,R⟩
theorem Uz(d:BW true)(k:Nat)(p:QD)(b:Array Value)(w:World)(h:b[0]?=some (Y 12))(i:d.qs[k]?=some p)(g:jS base wb d w):Calls prog 10 #[N wb 0,.agg b,N p.pb 0] w λe f=>oJ base wb 16 d w e f (λa=>a=d.qs):=by
 have f:=cy w (.cells b 48) none
 have a:=g.grown f
 have n:(w.alloc (.cells b 48)).cell? (F w.1.size 0)=some (Y 12):=by rw[World.cell?_alloc_at (hn:=rfl)];exact h
 have o:(w.alloc (.cells b 48)).c p.pb 0=some (N p.xb 0):=dm.cell (a.part i 0) 0
 have j:=I (GL p.xb p.dp p.M _ (a.part i 1).1)
 have m:=I g
 have l:=I f
 clear g a f h
 go_in
 go_wp2_with fail
 refine j.mono ?_
 rintro e r ⟨q,h,rfl,a⟩
 have f:(0:Int)<=(q:Int):=G
 have g:(q:Int)<=4:=G
 go_wp2
 go_ret
 exact⟨rfl,d,(Us.start m).grown (aa (aa l a) (cy _ _ none)),⟨rfl,rfl⟩,rfl,λt=>by omega⟩
theorem Yt(d:BW true)(p:QD)(j:List QD->Prop)(a:Array Value)(w:World)(k:a[0]?=some (Y 10))(f:a.size=41)(i:∀W,w.grownBy W none->Calls prog 40 #[N wb 0,.agg a,N p.pb 0] W λe g=>oJ base wb 16 d W e g j):Calls prog 10 #[N wb 0,.agg a,N p.pb 0] w λe g=>oJ base wb 16 d w e g j:=by
 have h:=cy w (.cells a 48) none
 have o:(w.alloc (.cells a 48)).cell? (F w.1.size 0)=some (Y 10):=by rw[World.cell?_alloc_at (hn:=rfl)];exact k
 have b:(w.alloc (.cells a 48)).1[w.1.size]?=some (.cells a 48 (0,0)):=heap_alloc_new w _
 have n:Hid ((prog.info? 48).map (·.size)=some a.size):=by show _=_;rw[Tryz.KV,f]
 have l:=I (i _ h)
 have m:=I h
 clear i k f h
 go_in
 go_wp2_with (refine wpList_load_row rfl 48 _ rfl w.1.size rfl 48 _ (0,0) _ b underlying48 rfl n ?_)
 refine l.mono ?_
 rintro e g f
 obtain rfl:=f.1
 clear l b
 go_wp2
 go_ret
 obtain⟨_,h,S,i,k,l⟩:=f
 exact⟨rfl,h,Us.trans (iO.mY m _) S (λb e=>.inl e),i,k,l⟩
structure JX(w0 w:World)(xs:List LJ)(jb:Nat)(hv:Value):Prop where
 jr:w.rangeAt jb 0 (eX (xs.map LJ.Y8))
 j7:w.cell? (F jb (xs.length*9+7))=some (Y 77)/\w.cell? (F jb (xs.length*9+8))=some σ
 lv:b9 w jb ((xs.length+1)*9)
 jl:w0.1.size<=jb
 hrow:w.ownsRow w0.1.size 9 1 hv xs.length (xs.map λx=>.string ⟨x.r.toArray⟩)
 hne:hv.ownBlock≠some jb
 tq:∀x∈xs,lI w0 w x.a x.c x.r x.g/\x.r.length<=300000000
 dis:∀(i j:Nat)(x y:LJ),i<j->xs[i]?=some x->xs[j]?=some y->∀b,x.g=some b->y.g≠some b
 Yn:∀x∈xs,∀b,x.g=some b->b≠jb/\hv.ownBlock≠some b
theorem acO(a):(eX a).length=a.length*9:=by
 induction a with
 |nil=>rfl
 |cons j a b=>
  have e:eX (j::a)=j.cells++eX a:=rfl;rw[e,cF,b,de];show 9+_=_;omega
theorem Yu{w:World}{base:Nat}{e:TypeId}{g n c s:Nat}{k:List Value}(h:w.ownsRow base e s (ς g 0 n c) n k):b9 w g (n*s):=by
 rcases h.2 with⟨d,_⟩|⟨l,f,a,d,m,i,j,o,b,p⟩
 .cases d
 .injection d with e1 _ e3;injection e1 with e1;injection e1 with e1 _ _;subst e1 e3;exact⟨a,e,i,by rw[b];exact Nat.mul_le_mul_right _ j⟩
abbrev VG:List Value:=[Y 0,ε,O 0,Y 0,Y 0,Y 0,Y 0,Y 77,σ]
theorem JB.last{r w A n:World}{L:List lD}{d:List LJ}{m y:Value}{aj:Option Addr}{c:Nat}(h:JB r w L d m y)(g:w.grownBy A none)(t:n.ownsRow r.1.size 194 9 (.slice aj (d.length+1) c) (d.length+1) (eX (d.map LJ.Y8)++VG))(o:A.grownBy n m.ownBlock)(J:(Value.slice aj (d.length+1) c).ownBlock=m.ownBlock\/(Value.slice aj (d.length+1) c).ownBlock=some A.1.size):
  ∃a,aj=some ⟨a,0,none⟩/\JX r n d a y/\(r.grownBy w none->r.grownBy n none):=by
 have M:=g.size
 have P:=o.size
 obtain⟨a,rfl⟩:∃a,aj=some ⟨a,0,none⟩:=by
  rcases t.2 with⟨_,e⟩|⟨g,f,i,y,_⟩
  .omega
  .injection y with e;exact⟨g,e⟩
 have K:=λb e=>h.M4.lt b e
 have i:m.ownBlock=some a\/a=A.1.size:=by
  rcases J with e|e
  .exact .inl e.symm
  .injection e with e;exact .inr e
 have C:(eX (d.map LJ.Y8)).length=d.length*9:=by rw[acO,cU]
 have B:∀j u,(eX (d.map LJ.Y8)++VG)[j]?=some u->n.c a j=some u:=λj u v=>by
  obtain⟨b,p,f,l⟩:=nP t j u v;injection f with f;injection f with f e3 _;subst f e3;rw[cR]at l;exact l
 have k:∀b,b<w.1.size->m.ownBlock≠some b->n.1[b]?=w.1[b]?:=λb i e=>by rw[o.block b G (λq=>e q.symm),g.block b i Z]
 have p:∀b,b<w.1.size->m.ownBlock≠some b->b≠a:=λb l f e=>i.elim (λq=>f (by rw[e];exact q)) (λq=>by omega)
 have D:=λx f b e=>(h.tq x f).1.Yo b e
 refine⟨a,rfl,⟨λj u v=>?_,⟨?_,?_⟩,Yu t,(t.lt a rfl).1,dh h.hrow (λb i=>k b (h.hrow.lt b i).2 (λe=>h.jh b e i)),λe=>?_,λx f=>⟨(h.tq x f).1.kept (λb e=>k b (D x f b e).2 (h.Yn x f b e).1),(h.tq x f).2⟩,h.dis,λx f b e=>⟨p b (D x f b e).2 (h.Yn x f b e).1,(h.Yn x f b e).2⟩⟩,λl=>⟨?_,?_,?_,by have:=l.size;omega,λb i _=>?_⟩⟩
 .rw[cR];exact B j u (by rw[cX (cM.1 v).1];exact v)
 .exact B _ _ (by rw[dr G,C,show d.length*9+7-d.length*9=7 by omega];rfl)
 .exact B _ _ (by rw[dr G,C,show d.length*9+8-d.length*9=8 by omega];rfl)
 .exact p a (h.hrow.lt a e).2 (λq=>h.jh a q e) rfl
 .exact(o.os.trans g.os).trans l.os
 .exact(o.tape.trans g.tape).trans l.tape
 .exact(o.output.trans g.output).trans l.output
 .rw[k b (by have:=l.size;omega) (λe=>by have:=K b e;omega),l.block b i Z]
theorem JX.kept{i w p:World}{q:List LJ}{e:Nat}{n:Value}(h:JX i w q e n)(k:∀b,i.1.size<=b->b<w.1.size->p.1[b]?=w.1[b]?):JX i p q e n:=by
 have o:=k e h.jl h.lv.lt;have f:=λj=>World.cell?_of_block (a:=⟨e,j,none⟩) o;exact⟨λj u r=>(f _).trans (h.jr j u r),⟨(f _).trans h.j7.1,(f _).trans h.j7.2⟩,Co h.lv o,h.jl,dh h.hrow (λb l=>k b (h.hrow.lt b l).1 (h.hrow.lt b l).2),h.hne,λx d=>⟨(h.tq x d).1.kept (λg m=>k g ((h.tq x d).1.Yo g m).1 ((h.tq x d).1.Yo g m).2),(h.tq x d).2⟩,h.dis,h.Yn⟩
def Em(xb:Nat)(dp:Option Pl)(M:DM)(ms:List vT)(n:Nat)(w w':World)(lv:Value)(ev:Int):Prop:=
 CF w w' (λb _=>b=xb)/\((n<=16/\ev=0/\lv = ς w.1.size 0 n n/\∃ds,b9 w' w.1.size (n*2)/\ds.length=n/\QI w xb dp M ms ds w'/\w'.rangeAt w.1.size 0 (fG ds))\/(16<n/\ev=7/\lv = σ/\w.grownBy w' none))
theorem QI.iE{w W:World}{g n:Nat}{a:Option Pl}{M:DM}{d:List vT}{b:List (Value×Int)}(h:QI (w.drewN n) g a M d b W):QI w g a M d b W:=⟨h.len,h.bU,h.said,h.cf.iE⟩
theorem Em.iE{l n q:Nat}{f:Option Pl}{M:DM}{j:List vT}{w k:World}{i:Value}{g:Int}(h:Em l f M j n (w.drewN q) k i g):Em l f M j n w k i g:=by
 refine⟨h.1.iE,?_⟩;rcases h.2 with⟨a,b,d,m,e,o,p,r⟩|⟨a,b,d,e⟩
 .exact .inl ⟨a,b,d,m,e,o,p.iE,r⟩
 .exact .inr ⟨a,b,d,pR e⟩
theorem UA(D)(a)(n y f N d)(L)(m)(M)(w)(h:JX D w a y L)(C:fO w d m M/\∀q,m=some q->q.g≠d)(r:∀b,b=d\/Pl.blk m=some b->b<D.1.size)(J:dK M N)(u:1<=N)(K:N+16<=4611686018427387904)(B:a.length=n)(v:∀x∈a,x.t.Ok):Calls Tryz.prog 75 #[π d 0,ς y 0 n f] w λe A=>∃i g,e=.returned (.tuple #[i,Y g])/\Em d m M (a.map LJ.m) n w A i g:=by
 by_cases p:16<n
 .refine(Ql d n f _ w p).mono ?_;rintro e A ⟨rfl,g⟩;exact⟨_,_,rfl,CF.bD g _,.inr ⟨p,rfl,rfl,g⟩⟩
 .have P:=r d (.inl rfl);refine(Un d y n f N (a.map LJ.Y8) (a.map LJ.m) m M w C.1 C.2 (λq e=>by have:=r q.g (.inr (by rw[e];rfl));have:=h.lv.lt;have:=h.jl;omega) J u K (by show _=_;rw[cU];exact B) G (by rw[cU];exact B) (λj l=>?_) (λi k t=>?_) h.jr h.lv.lt (by have:=h.jl;omega)).mono ?_
  .obtain⟨x,r,rfl⟩:=List.mem_map.1 l;have o:=v x r;exact⟨o.bH,o.aD,o.ae,by have:=o.name;show x.t.a.name.length<=_;omega,o.now⟩
  .rw[cU]at k;simp only[List.getElem_map];have l:=h.tq a[i] (eh k);refine⟨rfl,rfl,a[i].a,a[i].c,rfl,l.1.at,⟨a[i].a,a[i].c,rfl,l.1.cap.1,l.1.cap.2,by have:=l.2;show a[i].r.length<=_;omega,λ_ h=>h⟩,λb j e=>?_⟩;rcases l.1 with⟨j,_⟩|⟨g,k,t,b,_⟩
   .rw[j]at e;cases e
   .rw[k]at e;injection e with e;injection e with e;omega
  .rintro e A ⟨x,i,rfl,rfl,k,t,b,o,q⟩;exact⟨_,_,rfl,q,.inl ⟨by omega,rfl,rfl,i,k,t,b,o⟩⟩
structure J2(w0 w9 wr:World)(xs:List LJ)(jb j:Nat):Prop where
 f:iO w9 wr (λb=>b=jb\/∃x∈xs,x.g=some b)
 lv:b9 wr jb ((xs.length+1)*9)
 jc:∀i o v,j<=i->o<9->w9.cell? (F jb (i*9+o))=some v->wr.cell? (F jb (i*9+o))=some v
 ln:∀i x,j<=i->xs[i]?=some x->lI w0 wr x.a x.c x.r x.g
theorem J2.start{d a:World}{e:List LJ}{b:Nat}{f:Value}(h:JX d a e b f):J2 d a a e b 0:=⟨iO.refl _ _,h.lv,λ_ _ _ _ _ h=>h,λ_ x _ g=>(h.tq x (eE g)).1⟩
theorem J2.low{d f wr:World}{i:List LJ}{g j:Nat}{k:Value}(h:J2 d f wr i g j)(a:JX d f i g k){b:Nat}(o:b<d.1.size):wr.1[b]?=f.1[b]?:=by
 have m:=a.jl;have n:=a.lv.lt;refine h.f.block b G (λe=>?_);rcases e with e|⟨x,l,e⟩
 .omega
 .have:=(a.tq x l).1.Yo b e;omega
theorem J2.Y8{g i wr:World}{d:List LJ}{b j:Nat}{m:Value}(h:J2 g i wr d b j)(k:JX g i d b m){x:LJ}(f:d[j]?=some x)(o)(v)(e:(gT x.t.a x.t.now (.slice x.a x.r.length x.c)).toList[o]?=some v):wr.cell? (F b (j*9+o))=some v:=by
 have l:=(cM.1 f).1;have a:o<9:=(cM.1 e).1;refine h.jc j o v (cA _) a ?_
 have:=k.jr (j*9+o) v (by
  rw[zi _ j o (by rw[cU];exact l) a,List.getElem_map,(cM.1 f).2]
  exact e)
 rwa [cR]at this
theorem J2.had{t u wr:World}{l:List LJ}{o j n c:Nat}{a:Option Addr}(h:J2 t u wr l o j)(k:JX t u l o (.slice a n c))(B:l.length=n){i:Nat}{x:LJ}(C:l[i]?=some x):∃d,a=some ⟨d,0,none⟩/\wr.c d i=some (.string ⟨x.r.toArray⟩)/\d≠o/\∀y∈l,y.g≠some d:=by
 subst B
 have r:=dh k.hrow (λb d=>h.f.block b (k.hrow.lt b d).2 (λe=>by
  rcases e with e|⟨y,m,e⟩
  .exact k.hne (by rw[<-e];exact d)
  .exact(k.Yn y m b e).2 d))
 obtain⟨b,p,d,q⟩:=nP r i (.string ⟨x.r.toArray⟩) (by rw[eJ,C];rfl);have A:p=0:=by
  rcases r.2 with⟨f,_⟩|⟨g,v,w,f,_⟩
  .injection f with f;rw[f]at d;cases d
  .injection f with f;rw[f]at d;injection d with d;injection d with _ d;exact d.symm
 subst d A;rw[cR]at q;exact⟨b,rfl,q,λe=>k.hne (by rw[<-e];rfl),λy m e=>(k.Yn y m b e).2 rfl⟩
theorem J2.next{D J wr P wc K:World}{u:List LJ}{d j:Nat}{U:Value}(h:J2 D J wr u d j)(A:JX D J u d U){x:LJ}(M:u[j]?=some x)(k:wr.grownBy P x.g)(g:P.grownBy wc none)(f:CF wc K (λb o=>b=d/\j*9<=o/\o<j*9+9)):J2 D J K u d (j+1):=by
 have r:=eE M;have W:=k.size;have X:=g.size;have s3:=f.size;have p:x.g≠some d:=λe=>(A.Yn x r d e).1 rfl;have V:=(VC h.lv k p).grown g;have t:∀b,b<wr.1.size->x.g≠some b->wc.1[b]?=wr.1[b]?:=λb n e=>by rw[g.block b G Z,k.block b n (λq=>e q.symm)]
 have m:∀b,b<wr.1.size->x.g≠some b->b≠d->K.1[b]?=wr.1[b]?:=λb n e Q=>by rw[f.block b G (λo q=>Q q.1),t b n e]
 refine⟨h.f.trans ⟨(f.os.trans g.os).trans k.os,(f.tape.trans g.tape).trans k.tape,(f.output.trans g.output).trans k.output,by omega,λb n L=>m b n (λe=>L (.inl (.inr ⟨x,r,e⟩))) (λe=>L (.inl (.inl e)))⟩,V.cf f,λi o v S T R=>?_,λi y S B=>?_⟩
 .refine f.cell ?_ (λe=>by omega);rw[World.cell?_of_block (w:=wr) (w':=wc) (a:=⟨d,i*9+o,none⟩) (t d h.lv.lt p)];exact h.jc i o v G T R
 .have l:=h.ln i y G B;have C:=eE B;exact l.kept (λb e=>m b (l.Yo b e).2 (λq=>A.dis j i x y G M B b q e) (A.Yn y C b e).1)
theorem qh.kept{base:Nat}{w g:World}{a:Option Addr}{f:List lD}(h:qh w a f)(l:∀b d,a=some ⟨b,d,none⟩->0<f.length->b<base)(p:w.1.size<=g.1.size)(k:∀b,b<base->g.1[b]?=w.1[b]?):qh g a f:=λi m=>by
 obtain⟨b,d,e,o,r⟩:=h i m
 exact⟨b,d,e,by omega,λj u n=>(World.cell?_of_block (k b (l b d e G))).trans (r j u n)⟩
theorem V'(W)(b o)(a d e f h j k l m):CF W (((((((((W.setCell (F b o) a).setCell (F b (o+1)) d).setCell (F b (o+2)) e).setCell (F b (o+3)) f).setCell (F b (o+4)) h).setCell (F b (o+5)) j).setCell (F b (o+6)) k).setCell (F b (o+7)) l).setCell (F b (o+8)) m) (λg i=>g=b/\o<=i/\i<o+9):=
 ((((((((((CF.refl W _).setCell b o a (λ_=>⟨rfl,by omega,by omega⟩)).setCell b (o+1) d (λ_=>⟨rfl,by omega,by omega⟩)).setCell b (o+2) e (λ_=>⟨rfl,by omega,by omega⟩)).setCell b (o+3) f (λ_=>⟨rfl,by omega,by omega⟩)).setCell b (o+4) h (λ_=>⟨rfl,by omega,by omega⟩)).setCell b (o+5) j (λ_=>⟨rfl,by omega,by omega⟩)).setCell b (o+6) k (λ_=>⟨rfl,by omega,by omega⟩)).setCell b (o+7) l (λ_=>⟨rfl,by omega,by omega⟩)).setCell b (o+8) m (λ_=>⟨rfl,by omega,by omega⟩))
theorem Yv{W:World}{b n o:Nat}(L:b9 W b n)(h:o+9<=n):(∃d,W.c b o=some d)/\(∃d,W.c b (o+1)=some d)/\(∃d,W.c b (o+2)=some d)/\(∃d,W.c b (o+3)=some d)/\(∃d,W.c b (o+4)=some d)/\(∃d,W.c b (o+5)=some d)/\(∃d,W.c b (o+6)=some d)/\(∃d,W.c b (o+7)=some d)/\(∃d,W.c b (o+8)=some d)/\W.z b o=false/\W.z b (o+1)=false/\W.z b (o+2)=false/\W.z b (o+3)=false/\W.z b (o+4)=false/\W.z b (o+5)=false/\W.z b (o+6)=false/\W.z b (o+7)=false/\W.z b (o+8)=false:=by
 have a:=λj d=>cD.1 (L.some j d);exact⟨a _ G,a _ G,a _ G,a _ G,a _ G,a _ G,a _ G,a _ G,a _ G,L.frozen _,L.frozen _,L.frozen _,L.frozen _,L.frozen _,L.frozen _,L.frozen _,L.frozen _,L.frozen _⟩
set_option maxHeartbeats 4000000
variable {w0:World}{U:Nat->Prop}
structure Ik(base wb:Nat)(w0:World)(U:Nat->Prop)(d:BW true)(ps:Nat->Option Pl)(k:Nat)(d1:BW true)(w:World):Prop where
 us:Us base wb w0 (λb=>U b\/∃i,i<k/\Pl.blk (ps i)=some b) d1 w
 qv:d1.pv=d.pv/\d1.qv=d.qv
 qs:d1.qs=d.qs
 l0:(d1.le 0).length=(d.le 0).length+k
 l3:∀t,t≠0->d1.le t=d.le t
theorem Ik.next{d e:BW true}{a:Nat->Option Pl}{k:Nat}{w f:World}{x:jk}{u:Value}(h:Ik base wb w0 U d a k e w)(s:Us base wb w0 (λb=>(U b\/∃i,i<k/\Pl.blk (a i)=some b)\/Pl.blk (a k)=some b) (e.add 0 u x) f):Ik base wb w0 U d a (k+1) (e.add 0 u x) f:=
 ⟨dT,h.qv,h.qs,by grind [Ik.l0,rD],(by grind [Ik.l3,Dj])⟩
def Cr(w:World)(ob k:Nat)(m:Int):Prop:=∀j,j<k->w.cell? (F ob (j*2))=some σ/\w.cell? (F ob (j*2+1))=some (Y m)
theorem Cr.next{w:World}{a k n:Nat}{m:Int}(h:Cr w a k m)(L:b9 w a n)(d:k*2+1<n):Cr ((w.setCell (F a (k*2)) σ).setCell (F a (k*2+1)) (Y m)) a (k+1) m:=by
 have b:∀i j,i≠j->(⟨a,i,none⟩:Addr)≠⟨a,j,none⟩:=dT;obtain⟨f,o⟩:=cD.1 (L.some (k*2) G);obtain⟨g,p⟩:=cD.1 (L.some (k*2+1) d);intro j l;by_cases e:j=k
 .exact Bk
 .rw[j9 _ _ _ _ (b _ _ G),j9 _ _ _ _ (b _ _ G),j9 _ _ _ _ (b _ _ G),j9 _ _ _ _ (b _ _ G)];exact h j G
theorem Cr.cat{w:World}{a n:Nat}{m:Int}(h:Cr w a n m):qR w (some ⟨a,0,none⟩) (rE n m):=by
 intro j u f;have g:=(cM.1 f).1;rw[Ij]at g;refine⟨a,0,rfl,?_⟩;have b:=h (j / 2) G;have d:=ac2 n (j / 2) m G;rw[cR,<-f];by_cases e:j % 2=0
 .rw[show j=j / 2*2 by omega,b.1,d.1]
 .rw[show j=j / 2*2+1 by omega,b.2,d.2]
theorem Pr{j q:Nat}(h:j<=16)(k:q<64):j+q+1<=maxLen/\(j+q+1)*32<=140737488355328:=⟨by unfold maxLen;omega,by omega⟩
theorem YG(d:BW true)(f n)(ds)(Q:Nat->Option Pl)(w)(h:Us base wb w0 U d w)(hn:Hid (ds.length=n))(ch:n<=16)(IB:w0.rangeAt f 0 (fG ds))(ca:b9 w0 f (n*2))(Qh:base<=f)(cm:¬ U f)(cl:∀i(hi:i<ds.length),∃bs,fA w0 ds[i].1 (Q i) bs/\bs.length<=900)(bb:∀i,i<n->∀b,Pl.blk (Q i)=some b->base<=b/\b<w0.1.size/\¬ U b/\b≠f)(ck:∀i j q r,i<j->j<n->Q i=some q->Q j=some r->q.g<r.g)(bx:((d.le 0).length+16)*112<=140737488355328)(bz:((d.le 3).length+1)*112<=140737488355328):Calls prog 76 #[N wb 2,ς f 0 n n] w λe w'=>e=.returned (.tuple #[])/\∃d':BW true,Us base wb w0 (λb=>(U b\/∃i,i<n/\Pl.blk (Q i)=some b)\/b=f) d' w'/\(d'.pv=d.pv/\d'.qv=d.qv)/\d'.qs=d.qs/\∀t,(d'.le t).length<=(d.le t).length+16:=by
 obtain⟨i0,ak,an,ao,ar⟩:=info_parts Tryz.agc
 obtain⟨ie,ec,dv,ea,eb⟩:=info_parts Tryz.ac3
 have eu:Hid (Ik base wb w0 U d Q 0 d w):=⟨h.mono (λb e=>.inl e),⟨rfl,rfl⟩,rfl,rfl,λ_ _=>rfl⟩
 have bc:Hid (∀k,k<=n->¬ (U f\/∃i,i<k/\Pl.blk (Q i)=some f)):=λk hk e=>by
  rcases e with e|⟨i,hi,e⟩
  .exact cm e
  .exact(bb i G f e).2.2.2 rfl
 have cu:=I cl
 have bf:=I bb
 have bk:=I ck
 have T:=I (cZ IB (cZ ca Qh))
 have HL:=I (cZ bx bz)
 clear h cl bb ck IB ca Qh cm bx bz
 go_in
 go_wp2
 go_loopw [4] (λi wr=>∃k:Nat,k<=n/\i = Y k/\∃P,Ik base wb w0 U d Q k P wr) (λi _=>n-(intOf i).toNat)
 case atStart=>exact⟨0,cS _,rfl,d,eu⟩
 case round=>
  obtain⟨k,hk,rfl,P,hL⟩:=hrel;have C:=I hL;clear hL eu;have X:=C.us.free T.2.1.lt (bc k hk);by_cases hlt:k<n
  .have nG:(k:Int)<(n:Int):=G;have gl:(0:Int)<=(k:Int):=G;have bu:k<ds.length:=nB;obtain⟨bs,hO,dt⟩:=cu k bu;have hc:wr.cell? (F f (k*2))=some ds[k].1:=by
    rw[World.cell?_of_block (w:=w0) (w':=wr) (a:=⟨f,k*2,none⟩) X.2];have:=T.1 (k*2) _ (xO ds k bu).1;rwa [cR]at this
   obtain⟨v,hv⟩:=aq (ds[k].1);rw[hv]at hO hc;obtain⟨a,c,hs,_⟩:=hO.shape;subst hs
   have CB:=I (M5 P (.slice a bs.length c) (Q k) bs bs.length wr C.us (hO.uE C.us.uE (λq hq e=>by
    rcases e with e|⟨i,hi,e⟩
    .exact(bf k hlt q.g (by rw[hq];rfl)).2.2.1 e
    .cases hp:Q i with
     |none=>rw[hp]at e;cases e
     |some r=>rw[hp]at e;have e:r.g=q.g:=nF;have:=bk i k r q hi hlt hp hq;omega)) (I rfl) G (λq hq=>by
      have e:Pl.blk (Q k)=some q.g:=(by rw[hq];rfl);have h1:=bf k hlt q.g e;refine⟨h1.1,h1.2.1,λe=>?_⟩;rcases e with e|⟨i,hi,e⟩
      .exact h1.2.2.1 e
      .cases hp:Q i with
       |none=>rw[hp]at e;cases e
       |some r=>rw[hp]at e;have e:r.g=q.g:=nF;have:=bk i k r q hi hlt hp hq;omega) (by have h1:=C.l0;have h2:=HL.1;omega))
   clear X hO hv dt;go_wp2_with (first|(go_at_call 21;refine CB.mono ?_;rintro e w2 ⟨rfl,x,u,S2⟩))
   go_roundw
   case rel=>exact⟨k+1,by omega,by go_num,_,C.next S2⟩
   case measure=>simp[intOf];omega
  .have en:k=n:=G;subst en;have nG:¬ (k:Int)<(k:Int):=G;obtain⟨W,hW⟩:=aw wr;have B:dm W wb P.cells:=(by rw[hW];exact C.us.sep.blk);have A:W.ownsRow base 68 5 (P.lv 3) (P.le 3).length (jU (P.le 3)):=(by rw[hW];exact C.us.sep.here (2,3));have df:=C.us.sep.vne 3;have fx:base<=W.1.size:=(by rw[hW];exact C.us.sep.room);obtain⟨ab,cb,M⟩:=bA A;obtain⟨L,aj⟩:=aq ((P.le 3).length);have fz:(L+1)*112<=140737488355328:=(by have h1:=C.l3 3 G;have h2:=HL.2;rw[h1]at aj;omega);rw[M,aj]at A;have V:=I (cZ M aj);rw[aj]at M;have Bv:W.cell? (F wb 5)=some (.slice ab L cb):=(by rw[<-M];exact B.cell 5);have bl:b9 W f (k*2):=(by rw[hW];exact Co T.2.1 X.2);have ax:=I X;rw[<-hW]at C ax⊢;obtain⟨m,hm⟩:∃m:Int,m=-1000-(L:Int):=⟨_,rfl⟩
   have HM:=I hm.symm;clear hW X hm;go_wp2;rw[HM];have gm:=bl.lt;have X0:(W.alloc (.cells #[σ,Y m] 110)).rangeAt W.1.size 0 [σ,Y m]:=aS W #[σ,Y m] 110;have cv:=I X0;have GX:=I (cy W (.cells #[σ,Y m] 110) (some f));have cp:Hid (b9 (W.alloc (.cells #[σ,Y m] 110)) f (k*2)):=bl.grown (cy W _ none);clear X0;go_loopw [7] (λi wr=>∃j:Nat,j<=k/\i = Y j/\W.grownBy wr (some f)/\wr.rangeAt W.1.size 0 [σ,Y m]/\b9 wr f (k*2)/\Cr wr f j m) (λi _=>k-(intOf i).toNat)
   case atStart=>exact⟨0,cS _,rfl,GX,cv,cp,λj hj=>by omega⟩
   case round=>
    obtain⟨j,hj,rfl,ad,al,D,af⟩:=hrel;have x0:wr.c W.1.size 0=some σ:=al 0 _ rfl;have x1:wr.c W.1.size 1=some (Y m):=al 1 _ rfl;have H2:=I (cZ ad (cZ al (cZ D af)));clear ad al af;by_cases bt:j<k
    .have N7:(j:Int)<(k:Int):=G;have ba:(0:Int)<=(j:Int):=G;obtain⟨d0,q0⟩:=cD.1 (D.some (j*2) G);obtain⟨e1,q1⟩:=cD.1 (D.some (j*2+1) G);have f0:=D.frozen (j*2);have f1:=D.frozen (j*2+1);clear D B A Bv;go_wp2;go_roundw
     case rel=>
      have cj:∀i o,(⟨f,i,none⟩:Addr)≠⟨W.1.size,o,none⟩:=λi o e=>by injection e with e;omega
      exact⟨j+1,by omega,by go_num,Ac (Ac H2.1),λi u hu=>(by rw[j9 _ _ _ _ (cj _ _),j9 _ _ _ _ (cj _ _)];exact H2.2.1 i u hu),KC (KC H2.2.2.1 _ _ _) _ _ _,H2.2.2.2.next H2.2.2.1 G⟩
     case measure=>simp[intOf];omega
    .have bt:j=k:=G;subst bt;have zu:=H2.2.2.2.cat;have bn:j+1<=1000000:=G;have dp:j+2<=1000000:=G;clear D B Bv;go_wp2_with (first|(at_builtin;refine vW _ rfl (.tmp 43) (.tmp 45) 66 rfl 110 i0 _ underlying66 ak an ao ar rfl f j m rfl (zu.below (cy _ _ _)) wr.1.size 1 1 rfl (Nat.succ_pos _) (Cp wr m _) bn ?_;intro v1 w1 ag bq;have K1:=aa (cy wr _ none) bq;have je:=zu.below K1;have y0:=bP K1 x0;have y1:=bP K1 x1)|(at_builtin;refine vW _ rfl (.tmp 47) (.tmp 50) 66 rfl 110 i0 _ underlying66 ak an ao ar rfl f j m rfl (je.below (cy _ _ _)) w1.1.size 2 2 rfl (Nat.succ_pos _) (Pu w1 m _) dp ?_;intro v2 w2 ah ad;have K2:=aa (cy w1 _ none) ad;have mH:=je.below K2))
     have kZ:=ag.kept K2 vy;have da:=aa K1 K2;have fc:=K1.size;have ff:=K2.size;have fi:=H2.1.size;have z0:=bP K2 y0;have z1:=bP K2 y1;clear ag bq ad zu je K1 K2 x0 x1 y0 y1;obtain⟨wo,fb⟩:∃wo,wo=wr:=⟨wr,rfl⟩
     subst fb;go_loopw [10,11] (λo i w3=>∃q:Nat,q<=64/\i = Y q/\((q=0/\o = ς f 0 j j)\/(0<q/\w3.ownsRow w2.1.size 110 2 o (j+q) (rE (j+q) m)))/\w2.grownBy w3 none) (λ_ i _=>64-(intOf i).toNat)
     case atStart=>exact⟨0,by omega,rfl,.inl ⟨rfl,rfl⟩,cC _ _⟩
     case round=>
      obtain⟨q,hq,rfl,ho,l⟩:=hrel;have fl:=l.size;by_cases J:q<64
      .obtain⟨dq,dc⟩:=Pr ch J;have x0:=bP l z0;have x1:=bP l z1;rcases ho with⟨ba,er⟩|⟨ba,p⟩
       .subst ba er;have kS:=mH.below l;go_wp2_with (at_builtin;refine vW _ rfl _ _ 66 rfl 110 i0 _ underlying66 ak an ao ar rfl f j m rfl (kS.below (cy _ _ _)) wr.1.size 1 1 rfl (Nat.succ_pos _) (Cp wr m _) bn ?_;intro v4 w4 jf ae)
        have R:w4.ownsRow w2.1.size 110 2 v4 (j+1) (rE (j+1) m)/\w2.grownBy w4 none:=⟨dw jf iS,aa (aM l _) ae⟩
        clear jf ae kS l x0 x1;exact Ls
       .have bo:=Cp wr m 110;go_wp2_with (at_builtin;refine fI _ rfl _ _ 66 rfl w2.1.size 110 i0 _ 2 32 underlying66 ak an ao ar rfl H _ _ _ rfl (p.alloc _) (some ⟨wr.1.size,0,none⟩) 1 1 (rE 1 m) rfl rfl bo pH (QQ 1 m) dq dc iS ?_;intro v4 w4 jf ae)
        have R:w4.ownsRow w2.1.size 110 2 v4 (j+(q+1)) (rE (j+(q+1)) m)/\w2.grownBy w4 none:=⟨by rw[<-gC,<-QP (j+q) 1 m];exact jf,gI (aM l _) ae (λi hi=>(p.lt i hi).1)⟩
        clear jf ae l p bo x0 x1;go_wp2;go_roundw
        case rel=>exact⟨q+1,by omega,by go_num,.inr ⟨by omega,R.1⟩,R.2⟩
        case measure=>simp[intOf];omega
      .have Tj:=Nat.le_antisymm hq (Nat.le_of_not_lt J);subst Tj;have p:wr.ownsRow w2.1.size 110 2 u10 (j+64) (rE (j+64) m):=by
        rcases ho with⟨h,_⟩|⟨_,h⟩
        .exact absurd h H
        .exact h
       clear ho J hq;have K3:=aa da l;have xL:=kZ.kept l vy;have xM:=ah.kept l (by cases h:v2.ownBlock<;>simp);have kS:=mH.below l;clear kZ ah mH l z0 z1;have Fr:=(iO.bD H2.1).trans (iO.mY K3 _);have Jc:=C.us.sep.lt (0,0) wb ⟨rfl,rfl⟩;have Bj:∀g,some f=some g->g≠wb/\(Value.slice ab L cb).ownBlock≠some g:=by
        intro g hg;injection hg with hg;subst hg;exact⟨λe=>ax.1 ⟨(0,0),rfl,e⟩,λe=>ax.1 ⟨(2,3),by show(P.lv 3).ownBlock=_;rw[V.1,V.2];exact e⟩⟩
       have bm:=C.us.sep.blk.kept (Fr.block wb Jc (λe=>(Bj _ e).1 rfl));have FZ:=dh A (λb hb=>Fr.block b (A.lt b hb).2 (λe=>(Bj _ e).2 hb));have fv:=K3.size;obtain⟨p1,c1,et,cc,au⟩:=xP xL G;obtain⟨p2,c2,ev,af,av⟩:=xP xM G;obtain⟨p3,c3,fa,cd,Jd⟩:=xP p G;subst et ev fa;obtain⟨x,hx⟩:∃x:jk,x=⟨(some ⟨f,0,none⟩,j,j),(p1,j+1,c1),(p2,j+2,c2),(p3,j+64,c3),Y m⟩:=⟨_,rfl⟩
       have F8:x.okD wr:=(by subst hx;exact⟨⟨by show j<=_;omega,kS⟩,cc,af,cd⟩);have HX:Hid (x.cells=[ς f 0 j j,.slice p1 (j+1) c1,.slice p2 (j+2) c2,.slice p3 (j+64) c3,Y m]):=(by subst hx;rfl);have cr:Hid (WX x.mark):=(by subst hx;exact⟨_,rfl⟩);have cz:vf x (some f) W.1.size:=by
        intro b hb;rw[hx]at hb;rcases hb with h|h|h|h
        .obtain⟨gp,e1,e2⟩:=h;injection e1 with e1;injection e1 with e1;exact .inl (by rw[e1])
        .have:=(au b h).2;simp at this;exact .inr G
        .have:=(av b h).2;simp at this;exact .inr G
        .have:=(Jd b h).2;exact .inr G
       have ui:L+1<=maxLen:=lA;have Tk:(L+1)*104<=140737488355328:=G;have ga:base<=wr.1.size:=G;have cn:(Value.slice ab L cb).ownBlock≠some wb:=(by rw[<-M];exact df);have bp:P.cells[5]?=some (.slice ab L cb):=(by rw[<-M];rfl);have gd:=(bm.cell 5).trans bp;have dd:=I Bj;have HR:=I (cZ A Fr);clear hx cc af cd au av Jd xL xM p kS Bj A Fr;go_wp2_with (at_builtin;refine dN _ rfl _ _ 32 rfl base 68 ie _ 5 104 underlying32 ec dv ea eb rfl H _ _ _ rfl (FZ.alloc _) ⟨wr.1.size,0,none⟩ 1 1 [ς f 0 j j,.slice p1 (j+1) c1,.slice p2 (j+2) c2,.slice p3 (j+64) c3,Y m] rfl rfl (gX wr _ _) D3 G ui Tk iS ?_;intro Q4 w5 K az B;obtain⟨Zw,dn,Ma⟩:=bA K;subst Ma;have ai:=(bm.alloc (.cells #[ς f 0 j j,.slice p1 (j+1) c1,.slice p2 (j+2) c2,.slice p3 (j+64) c3,Y m] 68)).grown az (λe=>cn e.symm);have Bv:=((ai.cell 5).trans bp);have gg:=ai.frozen 5)
       have R:sM jk.okD base wb 5 68 WX (some f) (.slice ab L cb) P.cells (P.le 3) W (w5.setCell (F wb 5) (.slice Zw (L+1) dn)):=sM.push HR.1.lt cn Jc HR.2 F8 (λ_ _ h k=>Hz (t:=3) h k) (λ_ h=>L' (t:=3) F8 h) HX cz dd (cy wr _ _) az ai (by rw[V.2];exact K) B cr.o;clear B K az ai;go_end0;have R2:=C.us.more (t:=3) (gB:=some f) G (λg e=>by injection e with e;subst e;exact⟨T.2.2,T.2.1.lt,bc j (cA _)⟩) (by rw[V.1,V.2];exact R);obtain⟨y,u,S⟩:=R2;refine⟨rfl,_,S.mono (λb e=>e.imp id (λe=>by injection e with e;exact e.symm)),C.qv,C.qs,λt=>?_⟩;by_cases e3:t=3
       .subst e3;simp only[rD,cF,eL,C.o.l3 3 G];omega
       .simp only[Dj _ _ _ e3];by_cases e0:t=0
        .subst e0;rw[C.l0];omega
        .rw[C.l3 t e0];omega
