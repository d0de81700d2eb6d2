import Derived.Test.YticfhckmhcaigaaGreatDoorGEPFindA
namespace Go.Proofs.YticfhckmhcaigaaGreatDoor
set_option maxHeartbeats 20000000
open Proofs.Tryz Go.RowKit
set_option maxRecDepth 100000
variable {p:Prop}
theorem sL(h:p:=by have:=HN.1;omega):p:=h
theorem vx(h:p:=by have:=Vt.size;omega):p:=h
variable {b g:Nat}{dS:Nat->Nat->Prop}{dp po pr:Option Pl}{v':Value}{w:World}
abbrev Ml:Array Value:=#[ε,Y 0,O 0,O 0,Y 0,Y 0,Y 0,Y 0,ε,Y 0,O 0,O 0,Y 0,Y 0,Y 0,Y 0]
def Vo(w:World)(po:Option Pl)(dS:Nat->Nat->Prop)(q:FQ)(pn:Int)(v:Value):Prop:=
 q.pre=none\/∃z ao cap,q.pre=some (pn,z)/\v=.slice ao z.length cap/\z.length<=cap/\At w ao z/\∀b off,ao=some ⟨b,off,none⟩->∀j,j<z.length->¬ Pl.has po b (off+j)/\¬ dS b (off+j)/\b<w.1.size
structure Fin(w w':World)(g:Nat)(po pr dp:Option Pl)(dS:Nat->Nat->Prop)(v':Value)(R:E×DM):Prop where
 out:∃p',fA w' v' p' R.1/\(p'=pr\/Pl.fresh w.1.size p')
 bU:∃ni,bX w' g 0 ni R.2/\∀q',ni=some q'->∃q,dp=some q/\q.g=q'.g
 cf:CF w w' (λb y=>b=g/\(y=1\/163<=y/\y<188)\/qt po dS b y\/Pl.has pr b y)
theorem Fin.o{w':World}{R:E×DM}(h:Fin w w' g po pr dp dS v' R):∃a,fA w' v' a R.1/\(a=pr\/Pl.fresh w.1.size a):=h.out
theorem jQ:∀(a)(o)(w)(b n),b9 w b n->o+a.length<=n->(w.setCells b o a).rangeAt b o a:=by
 intro a;induction a with
 |nil=>intro o w b n _ _ j v e;simp at e
 |cons x r i=>
  intro o w b n g h j v e;rw[de]at h;have f:b9 (w.setCell (F b o) x) b n:=g.cf (ex:=λ_ _=>True) (by grind [CF.setCell,CF.refl]);cases j with
  |zero=>
   obtain rfl:x=v:=by simpa using e
   show((w.setCell (F b o) x).setCells b (o+1) r).cell? _=_;rw[World.cell?_setCells_out b r (o+1) _ ⟨b,o+0,none⟩ dT];obtain⟨d,k⟩:=cD.1 (g.some o G);exact we
  |succ j=>
   have:=i (o+1) (w.setCell (F b o) x) b n f G j v (by simpa using e);rw[show o+(j+1)=o+1+j from by omega];exact this
theorem A8(h:b9 w b 16):(∀j,j<16->∃d,w.c b j=some d)/\∀j,w.z b j=false:=⟨λj a=>cD.1 (h.some j a),λj=>h.frozen j⟩
theorem Om{d e f g i k l m:Value}{a:List Value}(h:w.rangeAt b 0 (d::e::f::g::i::k::l::m::a)):w.rangeAt b 0 [d,e,f,g,i,k,l,m]/\w.rangeAt b 8 a:=by
 constructor
 .intro j v n;refine h j v ?_;grind
 .intro j v n;have:=h (8+j) v dT;rwa [cR]at this
theorem jA{q:FQ}{a:Int}{v:Value}(h:w.rangeAt b 0 (q.cells a v)):w.cell? (F b 0)=some (.string ⟨q.az.toArray⟩)/\w.cell? (F b 1)=some (.string ⟨q.aV.toArray⟩)/\w.cell? (F b 2)=some (Y q.bW)/\w.cell? (F b 3)=some (Y q.mG)/\w.cell? (F b 4)=some (Y q.dM)/\w.cell? (F b 5)=some (Y q.bY)/\w.cell? (F b 6)=some (Y q.aR)/\w.cell? (F b 7)=some (.bool q.pre.isSome)/\w.cell? (F b 8)=some (Y a)/\w.cell? (F b 9)=some v:=
 ⟨h 0 _ rfl,h 1 _ rfl,h 2 _ rfl,h 3 _ rfl,h 4 _ rfl,h 5 _ rfl,h 6 _ rfl,h 7 _ rfl,h 8 _ rfl,h 9 _ rfl⟩
theorem lq{X o:Nat}{l m n p q r t v y A a d e f g u:Value}(j:b≠X)(h:w.c b o=some u):(((((((((((((((w.setCell (F X 0) l).setCell (F X 1) m).setCell (F X 2) n).setCell (F X 3) p).setCell (F X 4) q).setCell (F X 5) r).setCell (F X 6) t).setCell (F X 7) v).setCell (F X 8) y).setCell (F X 9) A).setCell (F X 10) a).setCell (F X 11) d).setCell (F X 12) e).setCell (F X 13) f).setCell (F X 14) g).cell? (F b o)=some u:=by
 have k:∀(W:World)(i)(x),W.cell? (F b o)=some u->(W.setCell (F X i) x).cell? (F b o)=some u:=(by grind [j9])
 grind
theorem CI{X:Nat}{P M L K J D C B A v b p a l i:Value}(h:dm w X #[P,M,L,K,J,D,C,B,A,v,b,p,a,l,i])(d e g k m o q t u y f j n r x):dm (((((((((((((((w.s X 0 d).s X 1 e).s X 2 g).s X 3 k).s X 4 m).s X 5 o).s X 6 q).s X 7 t).s X 8 u).s X 9 y).s X 10 f).s X 11 j).s X 12 n).s X 13 r).s X 14 x) X #[d,e,g,k,m,o,q,t,u,y,f,j,n,r,x]:=by
 have h:dm _ X #[d,M,L,K,J,D,C,B,A,v,b,p,a,l,i]:=h.set 0 d;have h:dm _ X #[d,e,L,K,J,D,C,B,A,v,b,p,a,l,i]:=h.set 1 e;have h:dm _ X #[d,e,g,K,J,D,C,B,A,v,b,p,a,l,i]:=h.set 2 g;have h:dm _ X #[d,e,g,k,J,D,C,B,A,v,b,p,a,l,i]:=h.set 3 k;have h:dm _ X #[d,e,g,k,m,D,C,B,A,v,b,p,a,l,i]:=h.set 4 m;have h:dm _ X #[d,e,g,k,m,o,C,B,A,v,b,p,a,l,i]:=h.set 5 o;have h:dm _ X #[d,e,g,k,m,o,q,B,A,v,b,p,a,l,i]:=h.set 6 q;have h:dm _ X #[d,e,g,k,m,o,q,t,A,v,b,p,a,l,i]:=h.set 7 t;have h:dm _ X #[d,e,g,k,m,o,q,t,u,v,b,p,a,l,i]:=h.set 8 u;have h:dm _ X #[d,e,g,k,m,o,q,t,u,y,b,p,a,l,i]:=h.set 9 y;have h:dm _ X #[d,e,g,k,m,o,q,t,u,y,f,p,a,l,i]:=h.set 10 f;have h:dm _ X #[d,e,g,k,m,o,q,t,u,y,f,j,a,l,i]:=h.set 11 j;have h:dm _ X #[d,e,g,k,m,o,q,t,u,y,f,j,n,l,i]:=h.set 12 n;have h:dm _ X #[d,e,g,k,m,o,q,t,u,y,f,j,n,r,i]:=h.set 13 r;have h:dm _ X #[d,e,g,k,m,o,q,t,u,y,f,j,n,r,x]:=h.set 14 x;exact h
theorem AE(w)(X)(g:Nat->Nat->Prop)(i j k l m n o p q r a b d e f)(h:∀y,g X y):CF w (((((((((((((((w.s X 0 i).s X 1 j).s X 2 k).s X 3 l).s X 4 m).s X 5 n).s X 6 o).s X 7 p).s X 8 q).s X 9 r).s X 10 a).s X 11 b).s X 12 d).s X 13 e).s X 14 f) g:=by
 repeat refine CF.setCell ?_ _ _ _ (λ_=>h _)
 exact CF.refl _ _
theorem E4(h:p:=by
 injection hq with hq
 subst hq
 rw[hg]at e
 exact((S.Po qd hdp).2.2.2 _).2.2 e):p:=h
theorem abr{W f l:World}{A a T B:Nat}{x U Q R:Value}{J:World->Prop}{uo:Nat->Nat->Prop}{M u:DM}{t:Int}{V:Nat}{m:List Value}{v:E}{qd r:Pl}(X:Gt J w W A g a T x Q R po pr dp dS M t V m)(k:CF W f (λb y=>b=g/\y=1\/b=B))(L:w.1.size<=B)(p:a<=w.1.size)(h:aU f l v' pr v)(S:HS A g a T x U po pr dp J dS uo M.aC)(K:bX f g 0 (some r) u)(hdp:dp=some qd)(hg:r.g=qd.g):Fin w l g po pr dp dS v' (v,u)/\J l:=by
 obtain⟨P,C,n,D,_⟩:=h;refine⟨?_,S.finds.stay _ _ (S.finds.stay _ _ X.j (k.mono (λb y _ e=>by rcases e with e|e;rw[e.1,e.2];exact S.agQ;rw[e];exact S.BV _ _ G))) (n.mono (λb y _ e=>S.prJ b y e))⟩;refine⟨⟨P,C,D.imp id (λq=>kK q (cE X.big k.size))⟩,⟨some r,K.cf n (λj _ i e=>S.prG j G e) (λq hq j _ e=>?_),λo d=>⟨qd,hdp,?_⟩⟩,?_⟩
 .exact E4
 .injection d with d;subst d;exact hg.symm
 .exact((X.cf.mono (λ_ _ _ e=>.inr (.inl e))).trans k (λi o j e=>by rcases e with e|e;exact .inl ⟨e.1,.inl e.2⟩;omega)).trans n (λ_ _ _ e=>.inr (.inr e))
theorem TN{W f:World}{n a T:Nat}{l x u v:Value}{J:World->Prop}{A:Nat->Nat->Prop}{M:DM}{d b:Int}{y:Nat}{i:List Value}(X:Gt J w W n g a T l u v po pr dp dS M d y i)(h:aU W f v' pr (aY d b))(S:HS n g a T l x po pr dp J dS A M.aC):Fin w f g po pr dp dS v' (aY d b,M)/\J f:=by
 obtain⟨t,o,m,p,_⟩:=h;refine⟨?_,S.finds.stay _ _ X.j (by grind [CF.mono,HS.prJ])⟩;refine⟨⟨t,o,p.imp id (λk=>kK k X.big)⟩,⟨dp,X.bU.cf m (by grind [HS.prG]) (λq r j _ e=>((S.Po q r).2.2.2 _).2.2 e),dT⟩,?_⟩;exact(X.cf.mono dT).trans m dT
theorem oA(h:p:=by
 go_meet
 grind [Hid.o]):p:=h
theorem DD(t g i T)(Q rv R U)(po pr dp)(J:World->Prop)(dS uo:Nat->Nat->Prop)(M)(d A)(q)(v)(w)(S:HS t g i T Q rv po pr dp J dS uo M.aC)(h:zJ w t g T Q R U d)(hd:bX w g 0 dp M)(hJ:J w)(ho:fA w R po [])(hr:fA w U pr [])(B:Vo w po dS q A v)(cO:bT d)(K:bT M.ax)(er:bT q.bW)(et:bT q.mG)(eu:bT q.dM)(ev:bT q.bY)(fa:bT q.aR)(L:i<=w.1.size):Calls prog 138 #[N t 0,.agg (q.cells A v).toArray] w λe l=>∃v',e=.returned v'/\Fin w l g po pr dp dS v' (dD M d (mS M d q))/\J l:=by
 have mc:=S.hbb
 have me:=S.gb
 obtain⟨W0,hW0⟩:=aw ((w.alloc (.cells (q.cells A v).toArray 269)).alloc (.cells Ml 324))
 have C:w.grownBy W0 none:=by grind [aM,cy]
 have s0:W0.1.size=w.1.size+1+1:=rB
 have RQ:W0.rangeAt w.1.size 0 (q.cells A v):=by grind [cy,iw,aS]
 have LP:b9 W0 (w.1.size+1) 16:=by
  have h:=b9.new (w.alloc (.cells (q.cells A v).toArray 269)) Ml 324;exact tR
 have D:∀b y,Pl.has po b y->b<w.1.size:=λb y e=>ho.lt e
 have en:∀b y,Pl.has pr b y->b<w.1.size:=λb y e=>hr.lt e
 have dn:=λp hp=>hr.Iw p hp
 have jb:=I dn
 have X0:Gt J w W0 t g i T Q R U po pr dp dS M d w.1.size (q.cells A v):=⟨⟨h.grown C,hd.grown C,ho.grown C,hr.grown C,RQ,C.size,CF.bD C _⟩,S.finds.stay _ _ hJ (CF.bD C _)⟩
 obtain⟨x,hx⟩:=aq (BE.find M.aC q.az)
 obtain⟨y,hy⟩:=aq (BE.find M.aC q.aV)
 have bl:Hid (∀W,J W->Gt J w W t g i T Q R U po pr dp dS M d w.1.size (q.cells A v)->Calls prog 171 #[N t 0,.agg #[.string ⟨q.az.toArray⟩,Y 6,Y 1],.agg #[.string ⟨q.aV.toArray⟩,Y 7,Y 2]] W λe l=>e=.returned (.tuple #[.agg (sJ x).toArray,.agg (sJ y).toArray,Y (dV x y d 6 7 1 2)])/\J l/\CF W l dS):=by
  intro W j a;have:=J7 t i T Q rv J dS uo M.aC q.az q.aV 6 1 7 2 d W S.ais S.finds j a.hear.c0 a.hear.c4 S.hbF S.Mi S.BV (cE L a.big);rw[hx,hy]at this;exact this
 have da:=I S.finds.stay
 have ba:=I X0
 have HJ:=I hJ
 have xy:=I S
 have cv:=I LP
 have sV:=I C
 have dc:=I hW0
 have HQ:Hid (bT d/\bT M.ax/\bT q.bW/\bT q.mG/\bT q.dM/\bT q.bY/\bT q.aR):=⟨cO,K,er,et,eu,ev,fa⟩
 have Q0:=I D
 have ks:=I en
 have kx:=I B
 have zh:=I (cZ hx hy)
 have HN:Hid (t<w.1.size/\g<w.1.size):=⟨by omega,by omega⟩
 have kU:Hid (∀W W',Gt J w W t g i T Q R U po pr dp dS M d w.1.size (q.cells A v)->CF W W' (λb y=>Pl.has po b y\/w.1.size<b)->Gt J w W' t g i T Q R U po pr dp dS M d w.1.size (q.cells A v)):=λW W' h k=>h.step S k rfl L D
 have BZ:Hid (∀W W',Gt J w W t g i T Q R U po pr dp dS M d w.1.size (q.cells A v)->CF W W' dS->J W'->Gt J w W' t g i T Q R U po pr dp dS M d w.1.size (q.cells A v)):=λW W' h k j=>h.found S k j rfl L D
 have ir:=I L
 have cu:Hid (∀e f W,Gt J w W t g i T Q R U po pr dp dS M d w.1.size (q.cells A v)->fu W (w.1.size+1) e f->Calls prog 174 #[N t 0,N (w.1.size+1) 0,.agg (q.cells A v).toArray] W λr l=>r=.returned (Y (fo M.ax d e q.pre))/\CF W l (Pl.has po)):=by
  intro e f W X P;rcases B with V|⟨z,ao,ab,h1,rfl,h3,u,m⟩
  .exact(Jg t (w.1.size+1) M.ax d A v q e f W P V).mono λ_ _ ⟨a,b⟩=>⟨a,CF.bD b _⟩
  .exact Jh t g (w.1.size+1) R po [] M.ax d A z ao z.length ab q e f W P h1 X.hear.c1 X.hear.c3 X.hear.c4 X.bU.ax cO X.oq S.poH (λp hp e=>by have:=ho.Iw p hp;omega) S.poG (I rfl) h3 (u.cf X.cf (λb off e j hj n=>by rcases n with n|n;exact(m b off e j hj).2.1 n;exact(m b off e j hj).1 n)) (λb off e j hj=>(m b off e j hj).1)
 have dq:Hid (∀e f W,Gt J w W t g i T Q R U po pr dp dS M d w.1.size (q.cells A v)->fu W (w.1.size+1) e f->Calls prog 175 #[N t 0,N (w.1.size+1) 0,.agg (q.cells A v).toArray] W λr l=>r=.returned (.tuple #[Y (bI d q),.bool (uf d M.ax q e f)])/\W.grownBy l none):=
  λe f W X P=>Xo t g (w.1.size+1) d M.ax A v q e f W X.hear.c3 X.hear.c4 X.bU.ax cO K P
 have V:bT (bI d q):=by unfold bI;split<;>assumption
 have bo:Hid (∀e f W,e∈M.aC->f∈M.aC->fu W (w.1.size+1) e f->Calls prog 176 #[N (w.1.size+1) 0,Y (bI d q),Y q.dM] W λr l=>r=.returned (Y (fT d q e f))/\∃m,l=W.drewN m):=
  λe f W he hf P=>OC (w.1.size+1) e f (bI d q) q.dM W P V (S.uq e he).bH (S.uq f hf).bH
 have dt:Hid (∀e f W,e∈M.aC->f∈M.aC->fu W (w.1.size+1) e f->Calls prog 179 #[N (w.1.size+1) 0,Y (bI d q),Y q.bY] W λr l=>r=.returned (Y (gU (kB q.bY) (gU (aW (bI d q) e.aD) (aW (bI d q) f.aD))))/\∃m,l=W.drewN m):=
  λe f W he hf P=>FI (w.1.size+1) e f (bI d q) q.bY W P V (S.uq e he).aD (S.uq f hf).aD
 have u:Hid (∀e f W W',Gt J w W t g i T Q R U po pr dp dS M d w.1.size (q.cells A v)->fu W (w.1.size+1) e f->CF W W' (λb y=>Pl.has po b y\/w.1.size+1<b)->Gt J w W' t g i T Q R U po pr dp dS M d w.1.size (q.cells A v)/\fu W' (w.1.size+1) e f):=by
  intro e f W W' X P k;grind [Gt.step,CF.mono,fu.cf]
 obtain⟨FR,Q9⟩:=aq (dD M d (mS M d q))
 have Vq:=I Q9
 rw[Q9]
 obtain⟨v0,v1,v2,v3,v4,v5,v6,v7,hv⟩:=iT x
 obtain⟨u0,u1,u2,u3,u4,u5,u6,u7,k⟩:=iT y
 have Hv:=I hv
 have Hu:=I k
 rw[hv,k]at bl
 clear V hv k Q9 h hd hJ ho hr B cO K er et eu ev fa hW0 C RQ LP X0 D en dn S hx hy s0
 have n1:w.1.size+1≠w.1.size:=G
 go_in
 go_wp2_with fail
 go_step3
 go_wp2_with fail
 go_step3
 go_upto_block 0 with fail
 go_cut [5] (λc wx=>∃S,c = Y S/\bT S/\FR=(aY d S,M)/\Gt J w wx t g i T Q R U po pr dp dS M d w.1.size (q.cells A v))
 case first=>
  go_wp2_with (rw[<-dc];fail_if_success done)
  have a0:W0.c w.1.size 0=some (.string ⟨q.az.toArray⟩):=ba.ask 0 _ rfl;have a1:W0.c w.1.size 1=some (.string ⟨q.aV.toArray⟩):=ba.ask 1 _ rfl;go_cut [5] (λc wx=>c = Y (dV x y d 6 7 1 2)/\wx.rangeAt (w.1.size+1) 0 [.string v0,Y v1,O v2,O v3,Y v4,Y v5,Y v6,Y v7]/\wx.rangeAt (w.1.size+1) 8 [.string u0,Y u1,O u2,O u3,Y u4,Y u5,Y u6,Y u7]/\J wx/\Gt J w wx t g i T Q R U po pr dp dS M d w.1.size (q.cells A v))
  case first=>
   go_region_held3 (λl=>l.c w.1.size 0=some (.string ⟨q.az.toArray⟩)/\l.c w.1.size 1=some (.string ⟨q.aV.toArray⟩)) (go_keep) (first
    |(go_at_call 172;refine(AZ _ _).mono ?_;rintro e w1 ⟨rfl,X⟩;have ku:=I (iZ X);have sZ:=I (kU _ _ ba (CF.bD (iZ X) _));clear X;have kt:=sZ.ask 0 _ rfl;have kv:=sZ.ask 1 _ rfl)
    |(go_at_call 173;refine(zg _ _).mono ?_;rintro e w2 ⟨rfl,g2⟩;have C:=I (aa ku g2);have K:=I (kU _ _ sZ (CF.bD g2 _));clear g2;have kz:=K.ask 0 _ rfl;have la:=K.ask 1 _ rfl)
    |(go_at_call 171;refine(bl _ (da _ _ HJ (CF.bD (aa sV C) _)) K).mono ?_;rintro e w3 ⟨rfl,j3,P⟩;have vZ:=I P;have V:=I j3;have B:=I (BZ _ _ K P j3);clear P j3;have ld:=B.ask 0 _ rfl;have lf:=B.ask 1 _ rfl;have D:=I ((cv.grown C).cf vZ);have k:=A8 D.o;obtain⟨d0,q0⟩:=k.1 0 H;have f0:=k.2 0;obtain⟨d1,q1⟩:=k.1 1 H;have f1:=k.2 1;obtain⟨d2,q2⟩:=k.1 2 H;have f2:=k.2 2;obtain⟨d3,q3⟩:=k.1 3 H;have f3:=k.2 3;obtain⟨d4,q4⟩:=k.1 4 H;have f4:=k.2 4;obtain⟨d5,q5⟩:=k.1 5 H;have f5:=k.2 5;obtain⟨d6,q6⟩:=k.1 6 H;have f6:=k.2 6;obtain⟨d7,q7⟩:=k.1 7 H;have f7:=k.2 7;obtain⟨d8,q8⟩:=k.1 8 H;have f8:=k.2 8;obtain⟨d9,q9⟩:=k.1 9 H;have f9:=k.2 9;obtain⟨lj,mu⟩:=k.1 10 H;have lr:=k.2 10;obtain⟨lk,mv⟩:=k.1 11 H;have lv:=k.2 11;obtain⟨ll,mw⟩:=k.1 12 H;have lx:=k.2 12;obtain⟨ln,mx⟩:=k.1 13 H;have ly:=k.2 13;obtain⟨lo,my⟩:=k.1 14 H;have lz:=k.2 14;obtain⟨lp,mz⟩:=k.1 15 H;have mb:=k.2 15;clear k))
   go_wp2;go_meet;have k:=Om (jQ ([.string v0,Y v1,O v2,O v3,Y v4,Y v5,Y v6,Y v7]++[.string u0,Y u1,O u2,O u3,Y u4,Y u5,Y u6,Y u7]) 0 w3 (w.1.size+1) 16 D Z);refine⟨rfl,k.1,k.2,?_,?_⟩
   .refine da _ _ V ?_;repeat refine CF.setCell ?_ _ _ _ (λ_=>xy.BV _ _ G)
    exact CF.refl _ _
   .refine kU _ _ B ?_;repeat refine CF.setCell ?_ _ _ _ (λ_=>.inr G)
    exact CF.refl _ _
  case rest=>
   obtain⟨rfl,k,B,hj,hX⟩:=hcut;have P:=I hX;have Dz:=I k;have Vd:=I B;clear k B hj hX a0 a1 bl ba HJ cv sV dc;obtain⟨k0,k1,k2,k3,k4,k5,k6,k7,k8,k9⟩:=jA P.ask;by_cases ae:dV x y d 6 7 1 2=0
   .obtain⟨e,f,rfl,rfl⟩:=Kl H H ae;have he:=mQ zh.1;have hf:=mQ zh.2;have eb:fu wc (w.1.size+1) e f:=⟨by have h:=Dz.o;rw[<-Hv]at h;exact h,by have h:=Vd.o;rw[<-Hu]at h;exact h⟩
    have V:=I eb;have zS:=I ae;rw[ae];clear ae eb Dz Vd Hv Hu;have Ra:=I (Mu M.ax d e q.pre);obtain⟨pc,Gv⟩:=aq (fo M.ax d e q.pre);have bm:=I Gv;have TP:=I (cu e f);rw[Gv]at TP;by_cases h0:pc=0
    .subst h0;clear Ra;cases IB:(bits .andNot .i64 q.aR 15==0)with
     |false=>
      have X:Hid (FR=(aY d 13,M)):=by
       have hc:=Xp (f:=f) bm HQ.2.2.2.2.2.2 IB;rw[<-Vq,vL zh.o.1 zh.o.2 zS.o (by rw[hc];decide),hc];exact rfl
      have jt:=cJ.1 IB;clear Gv IB;go_wp2_with (first|(go_at_call 174;refine(TP _ P V).mono ?_;rintro r w5 ⟨rfl,C⟩;have B:=I (u e f _ _ P V (C.mono (λ_ _ _ n=>.inl n))).1;have Vr:=I (u e f _ _ P V (C.mono (λ_ _ _ n=>.inl n))).2;clear C;obtain⟨ag,ah,ai,aj,ak,al,an,ar,au,av⟩:=jA B.ask))
      go_meet;exact⟨_,rfl,⟨by decide,by decide⟩,X,B⟩
     |true=>
      have jt:=db.1 IB;have ad:=I (dq e f);obtain⟨sk,Xt⟩:=aq (uf d M.ax q e f);rw[Xt]at ad;cases sk with
      |false=>
       have X:Hid (FR=(aY d 10,M)):=by
        have hc:=TH bm HQ.2.2.2.2.2.2 IB Xt;rw[<-Vq,vL zh.o.1 zh.o.2 zS.o (by rw[hc];decide),hc];exact rfl
       clear Gv IB Xt;go_wp2_with (first|(go_at_call 174;refine(TP _ P V).mono ?_;rintro r w5 ⟨rfl,C⟩;have B:=I (u e f _ _ P V (C.mono (λ_ _ _ n=>.inl n))).1;have Vr:=I (u e f _ _ P V (C.mono (λ_ _ _ n=>.inl n))).2;clear C;obtain⟨ag,ah,ai,aj,ak,al,an,ar,au,av⟩:=jA B.ask)|(go_at_call 175;refine(ad _ B Vr).mono ?_;rintro r w6 ⟨rfl,g6⟩;have TQ:=I (u e f _ _ B Vr (CF.bD g6 _)).1;have D:=I (u e f _ _ B Vr (CF.bD g6 _)).2;clear g6;obtain⟨cb,cc,cd,ch,cj,ck,cl,cm,cn,cp⟩:=jA TQ.ask))
       go_meet;exact⟨_,rfl,⟨by decide,by decide⟩,X,TQ⟩
      |true=>
       have K:=abh bm HQ.2.2.2.2.2.2 IB Xt;by_cases ec:fT d q e f<=bI d q
       .rw[dQ ec]at K;have X:Hid (FR=(aY d 11,M)):=by
         rw[<-Vq,vL zh.o.1 zh.o.2 zS.o (by rw[K];decide),K];exact rfl
        clear Gv IB Xt K;go_wp2_with (first|(go_at_call 174;refine(TP _ P V).mono ?_;rintro r w5 ⟨rfl,C⟩;have B:=I (u e f _ _ P V (C.mono (λ_ _ _ n=>.inl n))).1;have Vr:=I (u e f _ _ P V (C.mono (λ_ _ _ n=>.inl n))).2;clear C;obtain⟨ag,ah,ai,aj,ak,al,an,ar,au,av⟩:=jA B.ask)|(go_at_call 175;refine(ad _ B Vr).mono ?_;rintro r w6 ⟨rfl,g6⟩;have TQ:=I (u e f _ _ B Vr (CF.bD g6 _)).1;have D:=I (u e f _ _ B Vr (CF.bD g6 _)).2;clear g6;obtain⟨cb,cc,cd,ch,cj,ck,cl,cm,cn,cp⟩:=jA TQ.ask)|(go_at_call 176;refine(bo e f _ he hf D).mono ?_;rintro r k ⟨rfl,m,af⟩;have g7:=I (af▸aN (cC w6 none) m:w6.grownBy k none);clear af;have zT:=I (u e f _ _ TQ D (CF.bD g7 _)).1;have Py:=I (u e f _ _ TQ D (CF.bD g7 _)).2;clear g7;obtain⟨fc,ff,fi,fx,fz,ga,gd,gg,gl,gm⟩:=jA zT.ask))
        go_meet;exact⟨_,rfl,⟨by decide,by decide⟩,X,zT⟩
       .rw[b' ec]at K;have X:=I (abf zh.1 zh.2 zS K);rw[Vq]at X;clear Gv IB Xt K;go_wp2_with (first|(go_at_call 174;refine(TP _ P V).mono ?_;rintro r w5 ⟨rfl,C⟩;have B:=I (u e f _ _ P V (C.mono (λ_ _ _ n=>.inl n))).1;have Vr:=I (u e f _ _ P V (C.mono (λ_ _ _ n=>.inl n))).2;clear C;obtain⟨ag,ah,ai,aj,ak,al,an,ar,au,av⟩:=jA B.ask)|(go_at_call 175;refine(ad _ B Vr).mono ?_;rintro r w6 ⟨rfl,g6⟩;have TQ:=I (u e f _ _ B Vr (CF.bD g6 _)).1;have D:=I (u e f _ _ B Vr (CF.bD g6 _)).2;clear g6;obtain⟨cb,cc,cd,ch,cj,ck,cl,cm,cn,cp⟩:=jA TQ.ask)|(go_at_call 176;refine(bo e f _ he hf D).mono ?_;rintro r k ⟨rfl,m,af⟩;have g7:=I (af▸aN (cC w6 none) m:w6.grownBy k none);clear af;have zT:=I (u e f _ _ TQ D (CF.bD g7 _)).1;have Py:=I (u e f _ _ TQ D (CF.bD g7 _)).2;clear g7;obtain⟨fc,ff,fi,fx,fz,ga,gd,gg,gl,gm⟩:=jA zT.ask))
        clear k0 k1 k2 k3 k4 k5 k6 k7 k8 k9 ag ah ai aj ak al an ar au av cb cc cd ch cj ck cl cm cn cp fx fz ga gd gg gl gm P B TQ V Vr D cu TP dq ad bo;have l4:=zT.hear.c4;go_cut [10] (λp wx=>∃rb,p = N rb 0/\w.1.size+1<rb/\dm wx rb #[Y 0,O 0,.string ⟨q.az.toArray⟩,Y d,Y (bI d q),Y (fT d q e f),Y 0,.string ⟨q.aV.toArray⟩,Y f.aH,O (f.key.toNat:Int),O 0,Y q.bW,Y e.aH,O (e.key.toNat:Int),O 0]/\Gt J w wx t g i T Q R U po pr dp dS M d w.1.size (q.cells A v)/\fu wx (w.1.size+1) e f)
        case first=>
         have jr:=jN (Py.c 0 _ rfl);have na:w.1.size≠k.1.size:=G;have nb:t≠k.1.size:=sL;have ml:k.1.size≠w.1.size:=λe=>na e.symm;have mm:k.1.size≠t:=λe=>nb e.symm;have Vs:Hid (∀W,k.grownBy W none->W.c w.1.size 0=some (.string ⟨q.az.toArray⟩)/\W.c w.1.size 1=some (.string ⟨q.aV.toArray⟩)/\W.c w.1.size 2=some (Y q.bW)/\W.c t 4=some (Y d)):=λW K=>⟨K.cell (zT.ask 0 _ rfl) Z,K.cell (zT.ask 1 _ rfl) Z,K.cell (zT.ask 2 _ rfl) Z,K.cell zT.hear.c4 Z⟩
         have bp:∀W,k.grownBy W none->Calls prog 177 #[N (w.1.size+1) 8] W λr l=>r=.returned (.agg #[Y f.aH,O (f.key.toNat:Int)])/\W.grownBy l none:=λW K=>um (w.1.size+1) 8 f W (K.cell (Py.s 1 _ rfl) Z) (K.cell (Py.s 2 _ rfl) Z);have bc:∀W,k.grownBy W none->Calls prog 177 #[N (w.1.size+1) 0] W λr l=>r=.returned (.agg #[Y e.aH,O (e.key.toNat:Int)])/\W.grownBy l none:=λW K=>um (w.1.size+1) 0 e W (K.cell (Py.c 1 _ rfl) Z) (K.cell (Py.c 2 _ rfl) Z);have hi:Hid (Calls prog 177 #[N (w.1.size+1) 8] k.drew λr l=>r=.returned (.agg #[Y f.aH,O (f.key.toNat:Int)])/\k.grownBy l none):=(bp _ (bg (cC _ _))).mono λ_ _ ⟨a,b⟩=>⟨a,iZ b⟩
         have Xu:Hid (Calls prog 177 #[N (w.1.size+1) 8] ((k.alloc (.cells #[Y 0,O 0,ε,Y 0,Y 0,Y 0,Y 0,ε,Y 0,O 0,O 0,Y 0,Y 0,O 0,O 0] 338)).drew) λr l=>r=.returned (.agg #[Y f.aH,O (f.key.toNat:Int)])/\k.grownBy l none/\dm l k.1.size #[Y 0,O 0,ε,Y 0,Y 0,Y 0,Y 0,ε,Y 0,O 0,O 0,Y 0,Y 0,O 0,O 0]):=(bp _ (bg (cy _ _ none))).mono λ_ _ ⟨a,b⟩=>⟨a,aa (bg (cy _ _ none)) b,(dm.new k _ _).drew.grown b Z⟩
         have hk:Hid (∀W,k.grownBy W none->Calls prog 177 #[N (w.1.size+1) 0] W λr l=>r=.returned (.agg #[Y e.aH,O (e.key.toNat:Int)])/\k.grownBy l none):=λW K=>(bc W K).mono λ_ _ ⟨a,b⟩=>⟨a,aa K b⟩
         have hl:Hid (∀W,k.grownBy W none->Calls prog 177 #[N (w.1.size+1) 0] (W.alloc (.cells #[Y 0,O 0,ε,Y 0,Y 0,Y 0,Y 0,ε,Y 0,O 0,O 0,Y 0,Y 0,O 0,O 0] 338)) λr l=>r=.returned (.agg #[Y e.aH,O (e.key.toNat:Int)])/\k.grownBy l none/\dm l W.1.size #[Y 0,O 0,ε,Y 0,Y 0,Y 0,Y 0,ε,Y 0,O 0,O 0,Y 0,Y 0,O 0,O 0]):=λW K=>(bc _ (aM K _)).mono λ_ _ ⟨a,b⟩=>⟨a,aa (aM K _) b,(dm.new W _ _).grown b Z⟩
         have hs:Hid (∀W,k.grownBy W none->dm W k.1.size #[Y 0,O 0,ε,Y 0,Y 0,Y 0,Y 0,ε,Y 0,O 0,O 0,Y 0,Y 0,O 0,O 0]->Calls prog 177 #[N (w.1.size+1) 0] W λr l=>r=.returned (.agg #[Y e.aH,O (e.key.toNat:Int)])/\k.grownBy l none/\dm l k.1.size #[Y 0,O 0,ε,Y 0,Y 0,Y 0,Y 0,ε,Y 0,O 0,O 0,Y 0,Y 0,O 0,O 0]):=λW K hB=>(bc W K).mono λ_ _ ⟨a,b⟩=>⟨a,aa K b,hB.grown b Z⟩
         clear bp bc;obtain⟨x0,x1,x2,x4⟩:=Vs _ (cy k (.cells #[Y 0,O 0,ε,Y 0,Y 0,Y 0,Y 0,ε,Y 0,O 0,O 0,Y 0,Y 0,O 0,O 0] 338) none)
         go_region_held3 (λl=>l.c w.1.size 0=some (.string ⟨q.az.toArray⟩)/\l.c w.1.size 1=some (.string ⟨q.aV.toArray⟩)/\l.c w.1.size 2=some (Y q.bW)/\l.c t 4=some (Y d)) (first|(with_reducible exact⟨lq na z0,lq na z1,lq na z2,lq nb z4⟩)|(with_reducible exact⟨lq JG z0,lq JG z1,lq JG z2,lq ds z4⟩)|go_keep) (first
          |(go_at_call 177;(with_reducible apply Calls.mono hi.o);rintro r w8 ⟨rfl,g8⟩;have Vt:=I g8;clear g8;obtain⟨y0,y1,y2,y4⟩:=Vs w8 Vt.o;obtain⟨kl,kn,ko,kq⟩:=Vs _ (aM Vt (.cells #[.int .i64 0,.int .u64 0,.string ⟨#[]⟩,.int .i64 0,.int .i64 0,.int .i64 0,.int .i64 0,.string ⟨#[]⟩,.int .i64 0,.int .u64 0,.int .u64 0,.int .i64 0,.int .i64 0,.int .u64 0,.int .u64 0] 338));have JG:w.1.size≠w8.1.size:=vx;have ds:t≠w8.1.size:=(by have:=Vt.size;have:=HN.1;omega);have ht:=I (hk w8 Vt);have hz:=I (hl w8 Vt))
          |(go_at_call 177;(with_reducible apply Calls.mono Xu.o);rintro r w8 ⟨rfl,g8,bz⟩;have ha:=I bz;clear bz;have Vt:=I g8;clear g8;obtain⟨y0,y1,y2,y4⟩:=Vs w8 Vt.o;obtain⟨kl,kn,ko,kq⟩:=Vs _ (aM Vt (.cells #[.int .i64 0,.int .u64 0,.string ⟨#[]⟩,.int .i64 0,.int .i64 0,.int .i64 0,.int .i64 0,.string ⟨#[]⟩,.int .i64 0,.int .u64 0,.int .u64 0,.int .i64 0,.int .i64 0,.int .u64 0,.int .u64 0] 338));have JG:w.1.size≠w8.1.size:=vx;have ds:t≠w8.1.size:=(by have:=Vt.size;have:=HN.1;omega);have ib:=I (hs w8 Vt ha))
          |(go_at_call 177;(with_reducible apply Calls.mono ht.o);rintro r w9 ⟨rfl,K⟩;have b:=I K;clear K;obtain⟨z0,z1,z2,z4⟩:=Vs w9 b.o;obtain⟨gv,gw,gx,gz⟩:=Vs _ (aM b (.cells #[.int .i64 0,.int .u64 0,.string ⟨#[]⟩,.int .i64 0,.int .i64 0,.int .i64 0,.int .i64 0,.string ⟨#[]⟩,.int .i64 0,.int .u64 0,.int .u64 0,.int .i64 0,.int .i64 0,.int .u64 0,.int .u64 0] 338));obtain⟨gp,gq,gr,gu⟩:=Vs _ (aM b (.cells #[.int .i64 0,.int .u64 0,.string ⟨q.az.toArray⟩,.int .i64 d,.int .i64 (bI d q),.int .i64 (fT d q e f),.int .i64 0,.string ⟨q.aV.toArray⟩,.int .i64 f.aH,.int .u64 (f.key.toNat:Int),.int .u64 0,.int .i64 q.bW,.int .i64 e.aH,.int .u64 (e.key.toNat:Int),.int .u64 0] 338)))
          |(go_at_call 177;(with_reducible apply Calls.mono hz.o);rintro r w9 ⟨rfl,K,bz⟩;have b:=I K;have a:=I bz;clear K bz;have t0:=a.cell 0;have kb:=a.frozen 0;have t1:=a.cell 1;have kc:=a.frozen 1;have t2:=a.cell 2;have kd:=a.frozen 2;have t3:=a.cell 3;have ke:=a.frozen 3;have t4:=a.cell 4;have kf:=a.frozen 4;have t5:=a.cell 5;have kg:=a.frozen 5;have t6:=a.cell 6;have kh:=a.frozen 6;have t7:=a.cell 7;have ki:=a.frozen 7;have t8:=a.cell 8;have kj:=a.frozen 8;have t9:=a.cell 9;have kk:=a.frozen 9;have ju:=a.cell 10;have jc:=a.frozen 10;have jv:=a.cell 11;have je:=a.frozen 11;have jx:=a.cell 12;have jf:=a.frozen 12;have jz:=a.cell 13;have jh:=a.frozen 13;have ka:=a.cell 14;have jj:=a.frozen 14;obtain⟨z0,z1,z2,z4⟩:=Vs w9 b.o;obtain⟨gv,gw,gx,gz⟩:=Vs _ (aM b (.cells #[.int .i64 0,.int .u64 0,.string ⟨#[]⟩,.int .i64 0,.int .i64 0,.int .i64 0,.int .i64 0,.string ⟨#[]⟩,.int .i64 0,.int .u64 0,.int .u64 0,.int .i64 0,.int .i64 0,.int .u64 0,.int .u64 0] 338));obtain⟨gp,gq,gr,gu⟩:=Vs _ (aM b (.cells #[.int .i64 0,.int .u64 0,.string ⟨q.az.toArray⟩,.int .i64 d,.int .i64 (bI d q),.int .i64 (fT d q e f),.int .i64 0,.string ⟨q.aV.toArray⟩,.int .i64 f.aH,.int .u64 (f.key.toNat:Int),.int .u64 0,.int .i64 q.bW,.int .i64 e.aH,.int .u64 (e.key.toNat:Int),.int .u64 0] 338)))
          |(go_at_call 177;(with_reducible apply Calls.mono ib.o);rintro r w9 ⟨rfl,K,bz⟩;have b:=I K;have a:=I bz;clear K bz;have t0:=a.cell 0;have kb:=a.frozen 0;have t1:=a.cell 1;have kc:=a.frozen 1;have t2:=a.cell 2;have kd:=a.frozen 2;have t3:=a.cell 3;have ke:=a.frozen 3;have t4:=a.cell 4;have kf:=a.frozen 4;have t5:=a.cell 5;have kg:=a.frozen 5;have t6:=a.cell 6;have kh:=a.frozen 6;have t7:=a.cell 7;have ki:=a.frozen 7;have t8:=a.cell 8;have kj:=a.frozen 8;have t9:=a.cell 9;have kk:=a.frozen 9;have ju:=a.cell 10;have jc:=a.frozen 10;have jv:=a.cell 11;have je:=a.frozen 11;have jx:=a.cell 12;have jf:=a.frozen 12;have jz:=a.cell 13;have jh:=a.frozen 13;have ka:=a.cell 14;have jj:=a.frozen 14;obtain⟨z0,z1,z2,z4⟩:=Vs w9 b.o;obtain⟨gv,gw,gx,gz⟩:=Vs _ (aM b (.cells #[.int .i64 0,.int .u64 0,.string ⟨#[]⟩,.int .i64 0,.int .i64 0,.int .i64 0,.int .i64 0,.string ⟨#[]⟩,.int .i64 0,.int .u64 0,.int .u64 0,.int .i64 0,.int .i64 0,.int .u64 0,.int .u64 0] 338));obtain⟨gp,gq,gr,gu⟩:=Vs _ (aM b (.cells #[.int .i64 0,.int .u64 0,.string ⟨q.az.toArray⟩,.int .i64 d,.int .i64 (bI d q),.int .i64 (fT d q e f),.int .i64 0,.string ⟨q.aV.toArray⟩,.int .i64 f.aH,.int .u64 (f.key.toNat:Int),.int .u64 0,.int .i64 q.bW,.int .i64 e.aH,.int .u64 (e.key.toNat:Int),.int .u64 0] 338))))
         all_goals go_wp2
         all_goals go_meet
         all_goals have qb:=u e f _ _ zT Py (CF.bD b _)
         .exact⟨_,rfl,(by have:=b.size;omega),dm.new _ _ _,u.o e f _ _ qb.1 qb.2 (CF.bD (cy _ _ none) _)⟩
         .exact⟨w8.1.size,rfl,vx,CI a _ _ _ _ _ _ _ _ _ _ _ _ _ _ _,u e f _ _ qb.1 qb.2 (AE w9 w8.1.size _ _ _ _ _ _ _ _ _ _ _ _ _ _ _ _ (λ_=>.inr vx))⟩
         .exact⟨k.1.size,rfl,jr,CI a _ _ _ _ _ _ _ _ _ _ _ _ _ _ _,u e f _ _ qb.1 qb.2 (AE w9 k.1.size _ _ _ _ _ _ _ _ _ _ _ _ _ _ _ _ (λ_=>.inr G))⟩
        case rest=>
         obtain⟨rb,rfl,fb,hB,hX,hP⟩:=hcut;have bb:=I hX;have az:=I hP;have WW:=I hB;clear hX hP hB fc ff fi l4 zT Py;obtain⟨k0,k1,k2,k3,k4,k5,k6,k7,k8,k9⟩:=jA bb.ask;have IC:=I (Gn (w.1.size+1) A v q e f wc az);have bk:Hid (Xq d q e f=if aJ (pG q e f) 4=true then gU (kB q.bY) (gU (aW (bI d q) e.aD) (aW (bI d q) f.aD)) else 0):=rfl;have cr:=I (kT (pG q e f) 4 2 H H);have il:=I (TI d q e f);have hh:=I (abj q e f);have dv:=I (dt e f);have ij:=I (Tr d q e f HQ.2.2.2.2.2.1);generalize pG q e f=fl at *;generalize Xq d q e f=rn at *
         go_upto_if 78 with(first
          |(go_at_call 178;refine IC.mono ?_;clear IC;rintro r w9 ⟨rfl,K⟩;have Y3:=I (WW.grown K Z);have qb:=I (u e f _ _ bb az (CF.bD K _)).1;have cz:=I (u e f _ _ bb az (CF.bD K _)).2;clear K;have b0:=Y3.cell 0;have jn:=Y3.frozen 0))
         have nr:rb≠w.1.size:=G;have mn:w.1.size≠rb:=G;go_cut [5] (λc wx=>c = Y 11/\dm wx rb #[Y fl,O 0,.string ⟨q.az.toArray⟩,Y d,Y (bI d q),Y (fT d q e f),Y rn,.string ⟨q.aV.toArray⟩,Y f.aH,O (f.key.toNat:Int),O 0,Y q.bW,Y e.aH,O (e.key.toNat:Int),O 0]/\Gt J w wx t g i T Q R U po pr dp dS M d w.1.size (q.cells A v)/\fu wx (w.1.size+1) e f)
         case first=>
          have hS:=u e f _ (w9.setCell (F rb 0) (Y fl)) qb cz ((CF.refl _ _).setCell _ _ _ (λ_=>.inr fb));have a:=I hS.1;have b:=I hS.2;have Pz:Hid (dm (w9.setCell (F rb 0) (Y fl)) rb #[Y fl,O 0,.string ⟨q.az.toArray⟩,Y d,Y (bI d q),Y (fT d q e f),Y 0,.string ⟨q.aV.toArray⟩,Y f.aH,O (f.key.toNat:Int),O 0,Y q.bW,Y e.aH,O (e.key.toNat:Int),O 0]):=Y3.set 0 (Y fl);have hq:=cr.o;have u5:=qb.ask 5 _ rfl;clear hS;generalize aJ fl 4=o4 at *;cases o4 with
          |true=>
           rw[fk]at hq;have hp:=cJ.1 hq;clear hq;have ea:=I (dv _ he hf b)
           go_wp2_with (first
            |(go_at_call 179;refine ea.mono ?_;clear ea;rintro r ax ⟨rfl,m,K⟩;have bn:Hid (dm ax rb #[.int .i64 fl,.int .u64 0,.string ⟨q.az.toArray⟩,.int .i64 d,.int .i64 (bI d q),.int .i64 (fT d q e f),.int .i64 0,.string ⟨q.aV.toArray⟩,.int .i64 f.aH,.int .u64 (f.key.toNat:Int),.int .u64 0,.int .i64 q.bW,.int .i64 e.aH,.int .u64 (e.key.toNat:Int),.int .u64 0]):=(by rw[K];exact Pz.drewN m);have jl:Hid ((w9.setCell (F rb 0) (.int .i64 fl)).grownBy ax none):=(by rw[K];exact aN (cC _ _) m);clear K;have b6:=bn.cell 6;have lb:=bn.frozen 6))
           go_meet;have hS:=u e f _ _ a b (CF.bD jl _);exact⟨rfl,by rw[bk];exact bn.set 6 _,u e f _ _ hS.1 hS.2 ((CF.refl _ _).setCell _ _ _ (λ_=>.inr fb))⟩
          |false=>
           rw[eV]at hq;have hp:=db.1 hq;clear hq;go_wp2_with fail;go_meet;exact⟨rfl,by rw[bk];exact Pz,a,b⟩
         case rest=>
          obtain⟨rfl,hB,hX,hP⟩:=hcut;have a:=I hX;have Pz:=I hB;clear hX hP hB bb az WW qb cz Y3 k0 k1 k2 k3 k4 k5 k6 k7 k8 k9 b0 jn dt dv bk cr;obtain⟨rp,rH⟩:∃r:RP,r=⟨⟨fl,0,q.az,d,bI d q,fT d q e f,rn⟩,q.aV,f.aH,f.key,0,q.bW,e.aH,e.key,0⟩:=⟨_,rfl⟩
          have bf:nW wc rb rp:=(by rw[rH];exact Pz.range);have K:=A7 Pz 15 (cA 15);by_cases LM:M.aL.length<24
          .obtain⟨ao,ab,hc⟩:=Pq a.bU;have HD:=I (Vl t g rb M.aL.length ab ao rp wc a.hear.c3 LM hc bf K);rw[dQ LM]at X;clear hc bf K rH LM
           go_wp2_with (first
            |(go_at_call 180;refine HD.mono ?_;clear HD;rintro r ax ⟨rfl,b⟩;have zL:=I b;clear b))
           go_meet;exact⟨_,rfl,⟨by decide,by decide⟩,X,kU _ _ a (zL.mono (λ_ _ _ e=>.inr G))⟩
          .obtain⟨qd,ca,hc,bs,bt,bu,bq⟩:=Km a.bU G;have bx:=xy.Po qd ca;have js:=HN.2;have HD:=I (Pn t g rb qd M.aL M.aL.length rp wc a.hear.c3 (I rfl) G bs bt hc (by have:=a.bU.live;rwa [cR]at this) bu bx.1 (bq.lt) bf K G sL xy.hbg);have hg:=I (λW' off=>Gu (W':=W') (rb:=rb) (off:=off) a.bU G bs bt bu bq);rw[b' LM]at X;obtain⟨ao,ab,hv,mj⟩:=xx a.o.r;subst hv;have c2:=a.o.hear.c2;have df:=I rH;have im:=I ca;have dd:=I bx;have kr:Hid (t≠rb):=(by have:=HN.1;exact I G);have ie:=I K.lt;have HOr:Hid (mL pr rb):=λp hp e=>by have:=jb p hp;omega
           have iu:Hid (∀W,nW W rb (rp.drawn (eP M.aL 0) (eP M.aL 1) (eP M.aL 2))->fA W (.slice ao 0 ab) pr []->rb<W.1.size->Calls prog 181 #[N rb 0,.slice ao 0 ab] W λe l=>∃v',e=.returned v'/\aU W l v' pr ([]++(rp.drawn (eP M.aL 0) (eP M.aL 1) (eP M.aL 2)).wu 11 3)):=
            λW h1 l h3=>Aw (.slice ao 0 ab) pr [] rb _ W l h1 h3 HOr (TJ df hh ij HQ zh xy.uq) Z
           clear hc bs bt bu bq bx js bf K rH ca LM
           go_wp2_with (first
            |(go_at_call 180;refine HD.mono ?_;clear HD;rintro r ax ⟨rfl,p,W,b⟩;have iv:=I p;have ix:=I W;have zL:=I b;clear p W b;have lh:=zL.cell c2 (λe=>by omega);have ih:=I (fW ie zL.size))
            |(go_at_call 181;refine(iu _ iv (a.r.cf zL (λ_ _ j hj=>absurd hj Z)) ih).mono ?_;rintro r nc ⟨v',rfl,l⟩;have iz:=I l;clear l))
           first|go_ret|(rw[Exit.noGoto_ret];go_ret)
           refine⟨_,rfl,?_⟩;rw[X];obtain⟨off,k1,k2,k3⟩:=ix.o;have b:=iz.o;rw[Ps df.o il.o (mi zh.o.2)]at b;exact abr a zL G ir b xy (hg ax off k1 k2 k3 zL dd.1 (by have:=dd.2.2.1;omega) (by have:=HN.2;omega)) im.o rfl
    .have X:Hid (FR=(aY d pc,M)):=by
      rw[<-Vq,vL zh.o.1 zh.o.2 zS.o (by rw[Pp (by rw[Gv];exact h0),Gv];exact h0),Pp (by rw[Gv];exact h0),Gv];exact rfl
     clear Gv;go_wp2_with (first|(go_at_call 174;refine(TP _ P V).mono ?_;rintro r w5 ⟨rfl,C⟩;have B:=I (u e f _ _ P V (C.mono (λ_ _ _ n=>.inl n))).1;have Vr:=I (u e f _ _ P V (C.mono (λ_ _ _ n=>.inl n))).2;clear C;obtain⟨ag,ah,ai,aj,ak,al,an,ar,au,av⟩:=jA B.ask))
     exact oA
   .have Ra:=I (Vm x y d 6 7 1 2 H H H H);have X:Hid (FR=(aY d (dV x y d 6 7 1 2),M)):=(by rw[<-Vq];exact TG zh.1 zh.2 ae);generalize dV x y d 6 7 1 2=pcd at *;go_wp2_with fail;exact oA
 case rest=>
  obtain⟨S,rfl,b,a,hX⟩:=hcut;have j:=I (zK t g T Q R U pr d S _ hX.hear hX.r xy.prH HQ.1 b);have qb:=I hX;have X:=I a;clear hX a b;go_wp2_with (first|(go_at_call 141;refine j.mono ?_;rintro e w9 ⟨v',rfl,a⟩;have b:=I a;clear a))
  rw[Exit.noGoto_ret];go_ret;refine⟨_,rfl,?_⟩;rw[X];exact TN qb b xy.o
