import Derived.Test.YtlfifnpjeangmaaGreatDoorGEPFindA
namespace Go.Proofs.YtlfifnpjeangmaaGreatDoor
set_option maxHeartbeats 20000000
open Proofs.Tryz Go.RowKit
set_option maxRecDepth 100000
variable {p:Prop}
theorem rS(h:p:=by have:=HN.1;omega):p:=h
theorem uc(h:p:=by have:=Td.size;omega):p:=h
variable {b g:Nat}{dQ:Nat->Nat->Prop}{dp po pr:Option Pl}{v':Value}{w:World}
abbrev J5:Array Value:=#[ε,Y 0,H 0,H 0,Y 0,Y 0,Y 0,Y 0,ε,Y 0,H 0,H 0,Y 0,Y 0,Y 0,Y 0]
def SV(w:World)(po:Option Pl)(dQ:Nat->Nat->Prop)(q:FQ)(pn:Int)(v:Value):Prop:=
 q.pre=none\/∃z ao cap,q.pre=some (pn,z)/\v=.slice ao z.length cap/\z.length<=cap/\At w ao z/\∀b off,ao=some ⟨b,off,none⟩->∀j,j<z.length->¬ Pl.has po b (off+j)/\¬ dQ b (off+j)/\b<w.1.size
structure Fin(w w':World)(g:Nat)(po pr dp:Option Pl)(dQ:Nat->Nat->Prop)(v':Value)(R:E×DM):Prop where
 out:∃p',f' w' v' p' R.1/\(p'=pr\/Pl.fresh w.1.size p')
 bP:∃pX,dE w' g 0 pX R.2/\∀q',pX=some q'->∃q,dp=some q/\q.g=q'.g
 cf:CF w w' (λb y=>b=g/\(y=1\/163<=y/\y<188)\/pL po dQ b y\/Pl.has pr b y)
theorem Fin.o{w':World}{R:E×DM}(h:Fin w w' g po pr dp dQ v' R):∃a,f' w' v' a R.1/\(a=pr\/Pl.fresh w.1.size a):=h.out
theorem jI:∀(a)(o)(w)(b n),b' w b n->o+a.length<=n->(w.setCells b o a).rangeAt b o a:=by
 intro a;induction a with
 |nil=>intro o w b n _ _ j v e;simp at e
 |cons x r i=>
  intro o w b n g h j v e;rw[de]at h;have f:b' (w.setCell (F b o) x) b n:=g.cf (ex:=λ_ _=>True) (by grind [CF.setCell,CF.refl]);cases j with
  |zero=>
   obtain rfl:x=v:=by simpa using e
   show((w.setCell (F b o) x).setCells b (o+1) r).cell? _=_;rw[World.cell?_setCells_out b r (o+1) _ ⟨b,o+0,none⟩ fA];obtain⟨d,k⟩:=cA.1 (g.some o G);exact vp
  |succ j=>
   have:=i (o+1) (w.setCell (F b o) x) b n f G j v (by simpa using e);rw[show o+(j+1)=o+1+j from by omega];exact this
theorem zS(h:b' w b 16):(∀j,j<16->∃d,w.c b j=some d)/\∀j,w.z b j=false:=⟨λj a=>cA.1 (h.some j a),λj=>h.frozen j⟩
theorem LH{d e f g i k l m:Value}{a:List Value}(h:w.rangeAt b 0 (d::e::f::g::i::k::l::m::a)):w.rangeAt b 0 [d,e,f,g,i,k,l,m]/\w.rangeAt b 8 a:=by
 constructor
 .intro j v n;refine h j v ?_;grind
 .intro j v n;have:=h (8+j) v fA;rwa [cN]at this
theorem jk{q:FQ}{a:Int}{v:Value}(h:w.rangeAt b 0 (q.cells a v)):w.cell? (F b 0)=some (.string ⟨q.ay.toArray⟩)/\w.cell? (F b 1)=some (.string ⟨q.aV.toArray⟩)/\w.cell? (F b 2)=some (Y q.bV)/\w.cell? (F b 3)=some (Y q.ma)/\w.cell? (F b 4)=some (Y q.dI)/\w.cell? (F b 5)=some (Y q.bX)/\w.cell? (F b 6)=some (Y q.aO)/\w.cell? (F b 7)=some (.bool q.pre.isSome)/\w.cell? (F b 8)=some (Y a)/\w.cell? (F b 9)=some v:=
 ⟨h 0 _ rfl,h 1 _ rfl,h 2 _ rfl,h 3 _ rfl,h 4 _ rfl,h 5 _ rfl,h 6 _ rfl,h 7 _ rfl,h 8 _ rfl,h 9 _ rfl⟩
theorem kT{X o:Nat}{l m n p q r t v y A a d e f g u:Value}(j:b≠X)(h:w.c b o=some u):(((((((((((((((w.setCell (F X 0) l).setCell (F X 1) m).setCell (F X 2) n).setCell (F X 3) p).setCell (F X 4) q).setCell (F X 5) r).setCell (F X 6) t).setCell (F X 7) v).setCell (F X 8) y).setCell (F X 9) A).setCell (F X 10) a).setCell (F X 11) d).setCell (F X 12) e).setCell (F X 13) f).setCell (F X 14) g).cell? (F b o)=some u:=by
 have k:∀(W:World)(i)(x),W.cell? (F b o)=some u->(W.setCell (F X i) x).cell? (F b o)=some u:=(by grind [iA])
 grind
theorem Y1{X:Nat}{P M L K J D C B A v q o a k g:Value}(h:dz w X #[P,M,L,K,J,D,C,B,A,v,q,o,a,k,g])(b d f j l n p t u y e i m r x):dz (((((((((((((((w.s X 0 b).s X 1 d).s X 2 f).s X 3 j).s X 4 l).s X 5 n).s X 6 p).s X 7 t).s X 8 u).s X 9 y).s X 10 e).s X 11 i).s X 12 m).s X 13 r).s X 14 x) X #[b,d,f,j,l,n,p,t,u,y,e,i,m,r,x]:=by
 have h:dz _ X #[b,M,L,K,J,D,C,B,A,v,q,o,a,k,g]:=h.set 0 b;have h:dz _ X #[b,d,L,K,J,D,C,B,A,v,q,o,a,k,g]:=h.set 1 d;have h:dz _ X #[b,d,f,K,J,D,C,B,A,v,q,o,a,k,g]:=h.set 2 f;have h:dz _ X #[b,d,f,j,J,D,C,B,A,v,q,o,a,k,g]:=h.set 3 j;have h:dz _ X #[b,d,f,j,l,D,C,B,A,v,q,o,a,k,g]:=h.set 4 l;have h:dz _ X #[b,d,f,j,l,n,C,B,A,v,q,o,a,k,g]:=h.set 5 n;have h:dz _ X #[b,d,f,j,l,n,p,B,A,v,q,o,a,k,g]:=h.set 6 p;have h:dz _ X #[b,d,f,j,l,n,p,t,A,v,q,o,a,k,g]:=h.set 7 t;have h:dz _ X #[b,d,f,j,l,n,p,t,u,v,q,o,a,k,g]:=h.set 8 u;have h:dz _ X #[b,d,f,j,l,n,p,t,u,y,q,o,a,k,g]:=h.set 9 y;have h:dz _ X #[b,d,f,j,l,n,p,t,u,y,e,o,a,k,g]:=h.set 10 e;have h:dz _ X #[b,d,f,j,l,n,p,t,u,y,e,i,a,k,g]:=h.set 11 i;have h:dz _ X #[b,d,f,j,l,n,p,t,u,y,e,i,m,k,g]:=h.set 12 m;have h:dz _ X #[b,d,f,j,l,n,p,t,u,y,e,i,m,r,g]:=h.set 13 r;have h:dz _ X #[b,d,f,j,l,n,p,t,u,y,e,i,m,r,x]:=h.set 14 x;exact h
theorem zj(w)(X)(g:Nat->Nat->Prop)(i j k l m n o p q r a b d e f)(h:∀y,g X y):CF w (((((((((((((((w.s X 0 i).s X 1 j).s X 2 k).s X 3 l).s X 4 m).s X 5 n).s X 6 o).s X 7 p).s X 8 q).s X 9 r).s X 10 a).s X 11 b).s X 12 d).s X 13 e).s X 14 f) g:=by
 repeat refine CF.setCell ?_ _ _ _ (λ_=>h _)
 exact CF.refl _ _
theorem D2(h:p:=by
 injection hq with hq
 subst hq
 rw[hg]at e
 exact((S.M6 qd hdp).2.2.2 _).2.2 e):p:=h
theorem Y3{W f l:World}{A a T B:Nat}{x U Q R:Value}{J:World->Prop}{V:Nat->Nat->Prop}{M u:DM}{r:Int}{sb:Nat}{m:List Value}{v:E}{qd t:Pl}(X:ED J w W A g a T x Q R po pr dp dQ M r sb m)(k:CF W f (λb y=>b=g/\y=1\/b=B))(L:w.1.size<=B)(p:a<=w.1.size)(h:aU f l v' pr v)(S:HS A g a T x U po pr dp J dQ V M.aF)(K:dE f g 0 (some t) u)(hdp:dp=some qd)(hg:t.g=qd.g):Fin w l g po pr dp dQ v' (v,u)/\J l:=by
 obtain⟨P,C,n,D,_⟩:=h;refine⟨?_,S.finds.stay _ _ (S.finds.stay _ _ X.j (k.mono (λb y _ e=>by rcases e with e|e;rw[e.1,e.2];exact S.aej;rw[e];exact S.AO _ _ G))) (n.mono (λb y _ e=>S.prJ b y e))⟩;refine⟨⟨P,C,D.imp id (λq=>mJ q (cE X.big k.size))⟩,⟨some t,K.cf n (λj _ i e=>S.prG j G e) (λq hq j _ e=>?_),λo d=>⟨qd,hdp,?_⟩⟩,?_⟩
 .exact D2
 .injection d with d;subst d;exact hg.symm
 .exact((X.cf.mono (λ_ _ _ e=>.inr (.inl e))).trans k (λi o j e=>by rcases e with e|e;exact .inl ⟨e.1,.inl e.2⟩;omega)).trans n (λ_ _ _ e=>.inr (.inr e))
theorem QV{W f:World}{n a T:Nat}{l x u v:Value}{J:World->Prop}{y:Nat->Nat->Prop}{M:DM}{d b:Int}{A:Nat}{i:List Value}(X:ED J w W n g a T l u v po pr dp dQ M d A i)(h:aU W f v' pr (aY d b))(S:HS n g a T l x po pr dp J dQ y M.aF):Fin w f g po pr dp dQ v' (aY d b,M)/\J f:=by
 obtain⟨t,o,m,p,_⟩:=h;refine⟨?_,S.finds.stay _ _ X.j (by grind [CF.mono,HS.prJ])⟩;refine⟨⟨t,o,p.imp id (λk=>mJ k X.big)⟩,⟨dp,X.bP.cf m (by grind [HS.prG]) (λq r j _ e=>((S.M6 q r).2.2.2 _).2.2 e),fA⟩,?_⟩;exact(X.cf.mono fA).trans m fA
theorem m'(h:p:=by
 go_meet
 grind [Hid.o]):p:=h
theorem BZ(t g i T)(Q rv R U)(po pr dp)(J:World->Prop)(dQ sW:Nat->Nat->Prop)(M)(d A)(q)(v)(w)(S:HS t g i T Q rv po pr dp J dQ sW M.aF)(h:yE w t g T Q R U d)(hd:dE w g 0 dp M)(hJ:J w)(ho:f' w R po [])(hr:f' w U pr [])(B:SV w po dQ q A v)(dB:b9 d)(K:b9 M.aA)(ea:b9 q.bV)(eb:b9 q.ma)(ec:b9 q.dI)(ed:b9 q.bX)(ei:b9 q.aO)(L:i<=w.1.size):Calls prog 138 #[π t 0,.agg (q.cells A v).toArray] w λe l=>∃v',e=.returned v'/\Fin w l g po pr dp dQ v' (dA M d (mB M d q))/\J l:=by
 have lv:=S.hbb
 have lx:=S.gb
 obtain⟨W0,hW0⟩:=aw ((w.alloc (.cells (q.cells A v).toArray 269)).alloc (.cells J5 324))
 have C:w.grownBy W0 none:=by grind [aM,cx]
 have s0:W0.1.size=w.1.size+1+1:=rR
 have RQ:W0.rangeAt w.1.size 0 (q.cells A v):=by grind [cx,gZ,aS]
 have LP:b' W0 (w.1.size+1) 16:=by
  have h:=b'.new (w.alloc (.cells (q.cells A v).toArray 269)) J5 324;exact tA
 have D:∀b y,Pl.has po b y->b<w.1.size:=λb y e=>ho.lt e
 have dv:∀b y,Pl.has pr b y->b<w.1.size:=λb y e=>hr.lt e
 have Y4:=λp hp=>hr.K8 p hp
 have im:=I Y4
 have X0:ED J w W0 t g i T Q R U po pr dp dQ M d w.1.size (q.cells A v):=⟨⟨h.grown C,hd.grown C,ho.grown C,hr.grown C,RQ,C.size,CF.bF C _⟩,S.finds.stay _ _ hJ (CF.bF C _)⟩
 obtain⟨x,hx⟩:=N (BE.find M.aF q.ay)
 obtain⟨y,hy⟩:=N (BE.find M.aF q.aV)
 have Y5:Hid (∀W,J W->ED J w W t g i T Q R U po pr dp dQ M d w.1.size (q.cells A v)->Calls prog 171 #[π t 0,.agg #[.string ⟨q.ay.toArray⟩,Y 6,Y 1],.agg #[.string ⟨q.aV.toArray⟩,Y 7,Y 2]] W λe l=>e=.returned (.tuple #[.agg (rG x).toArray,.agg (rG y).toArray,Y (dS x y d 6 7 1 2)])/\J l/\CF W l dQ):=by
  intro W j a;have:=Iy t i T Q rv J dQ sW M.aF q.ay q.aV 6 1 7 2 d W S.afQ S.finds j a.hear.c0 a.hear.c4 S.hbF S.UT S.AO (cE L a.big);rw[hx,hy]at this;exact this
 have cv:=I S.finds.stay
 have ay:=I X0
 have HJ:=I hJ
 have vZ:=I S
 have cr:=I LP
 have sS:=I C
 have cz:=I hW0
 have HQ:Hid (b9 d/\b9 M.aA/\b9 q.bV/\b9 q.ma/\b9 q.dI/\b9 q.bX/\b9 q.aO):=⟨dB,K,ea,eb,ec,ed,ei⟩
 have SA:=I D
 have kl:=I dv
 have kp:=I B
 have xU:=I (dN hx hy)
 have HN:Hid (t<w.1.size/\g<w.1.size):=⟨by omega,by omega⟩
 have kI:Hid (∀W W',ED J w W t g i T Q R U po pr dp dQ M d w.1.size (q.cells A v)->CF W W' (λb y=>Pl.has po b y\/w.1.size<b)->ED J w W' t g i T Q R U po pr dp dQ M d w.1.size (q.cells A v)):=λW W' h k=>h.step S k rfl L D
 have AP:Hid (∀W W',ED J w W t g i T Q R U po pr dp dQ M d w.1.size (q.cells A v)->CF W W' dQ->J W'->ED J w W' t g i T Q R U po pr dp dQ M d w.1.size (q.cells A v)):=λW W' h k j=>h.found S k j rfl L D
 have Y6:=I L
 have cp:Hid (∀e f W,ED J w W t g i T Q R U po pr dp dQ M d w.1.size (q.cells A v)->fo W (w.1.size+1) e f->Calls prog 174 #[π t 0,π (w.1.size+1) 0,.agg (q.cells A v).toArray] W λr l=>r=.returned (Y (eY M.aA d e q.pre))/\CF W l (Pl.has po)):=by
  intro e f W X P;rcases B with V|⟨z,ao,ab,h1,rfl,h3,u,m⟩
  .exact(GH t (w.1.size+1) M.aA d A v q e f W P V).mono λ_ _ ⟨a,b⟩=>⟨a,CF.bF b _⟩
  .exact GI t g (w.1.size+1) R po [] M.aA d A z ao z.length ab q e f W P h1 X.hear.c1 X.hear.c3 X.hear.c4 X.bP.aA dB X.oq S.poH (λp hp e=>by have:=ho.K8 p hp;omega) S.poG (I rfl) h3 (u.cf X.cf (λb off e j hj n=>by rcases n with n|n;exact(m b off e j hj).2.1 n;exact(m b off e j hj).1 n)) (λb off e j hj=>(m b off e j hj).1)
 have Y7:Hid (∀e f W,ED J w W t g i T Q R U po pr dp dQ M d w.1.size (q.cells A v)->fo W (w.1.size+1) e f->Calls prog 175 #[π t 0,π (w.1.size+1) 0,.agg (q.cells A v).toArray] W λr l=>r=.returned (.tuple #[Y (bH d q),.bool (sJ d M.aA q e f)])/\W.grownBy l none):=
  λe f W X P=>UR t g (w.1.size+1) d M.aA A v q e f W X.hear.c3 X.hear.c4 X.bP.aA dB K P
 have V:b9 (bH d q):=by unfold bH;split<;>assumption
 have bl:Hid (∀e f W,e∈M.aF->f∈M.aF->fo W (w.1.size+1) e f->Calls prog 176 #[π (w.1.size+1) 0,Y (bH d q),Y q.dI] W λr l=>r=.returned (Y (fO d q e f))/\∃m,l=W.drewN m):=
  λe f W he hf P=>Mq (w.1.size+1) e f (bH d q) q.dI W P V (S.sZ e he).bI (S.sZ f hf).bI
 have dd:Hid (∀e f W,e∈M.aF->f∈M.aF->fo W (w.1.size+1) e f->Calls prog 179 #[π (w.1.size+1) 0,Y (bH d q),Y q.bX] W λr l=>r=.returned (Y (gS (j9 q.bX) (gS (aW (bH d q) e.aC) (aW (bH d q) f.aC))))/\∃m,l=W.drewN m):=
  λe f W he hf P=>Ee (w.1.size+1) e f (bH d q) q.bX W P V (S.sZ e he).aC (S.sZ f hf).aC
 have u:Hid (∀e f W W',ED J w W t g i T Q R U po pr dp dQ M d w.1.size (q.cells A v)->fo W (w.1.size+1) e f->CF W W' (λb y=>Pl.has po b y\/w.1.size+1<b)->ED J w W' t g i T Q R U po pr dp dQ M d w.1.size (q.cells A v)/\fo W' (w.1.size+1) e f):=by
  intro e f W W' X P k;grind [ED.step,CF.mono,fo.cf]
 obtain⟨FR,O5⟩:=N (dA M d (mB M d q))
 have SY:=I O5
 rw[O5]
 obtain⟨v0,v1,v2,v3,v4,v5,v6,v7,hv⟩:=iM x
 obtain⟨u0,u1,u2,u3,u4,u5,u6,u7,k⟩:=iM y
 have Hv:=I hv
 have Hu:=I k
 rw[hv,k]at Y5
 clear V hv k O5 h hd hJ ho hr B dB K ea eb ec ed ei hW0 C RQ LP X0 D dv Y4 S hx hy s0
 have n1:w.1.size+1≠w.1.size:=G
 go_in
 go_wp2_with fail
 go_step3
 go_wp2_with fail
 go_step3
 go_upto_block 0 with fail
 go_cut [5] (λc wx=>∃S,c = Y S/\b9 S/\FR=(aY d S,M)/\ED J w wx t g i T Q R U po pr dp dQ M d w.1.size (q.cells A v))
 case first=>
  go_wp2_with (rw[<-cz];fail_if_success done)
  have a0:W0.c w.1.size 0=some (.string ⟨q.ay.toArray⟩):=ay.ask 0 _ rfl;have a1:W0.c w.1.size 1=some (.string ⟨q.aV.toArray⟩):=ay.ask 1 _ rfl;go_cut [5] (λc wx=>c = Y (dS x y d 6 7 1 2)/\wx.rangeAt (w.1.size+1) 0 [.string v0,Y v1,H v2,H v3,Y v4,Y v5,Y v6,Y v7]/\wx.rangeAt (w.1.size+1) 8 [.string u0,Y u1,H u2,H u3,Y u4,Y u5,Y u6,Y u7]/\J wx/\ED J w wx t g i T Q R U po pr dp dQ M d w.1.size (q.cells A v))
  case first=>
   go_region_held3 (λl=>l.c w.1.size 0=some (.string ⟨q.ay.toArray⟩)/\l.c w.1.size 1=some (.string ⟨q.aV.toArray⟩)) (go_keep) (first
    |(go_at_call 172;refine(zR _ _).mono ?_;rintro e w1 ⟨rfl,X⟩;have kG:=I (jg X);have tH:=I (kI _ _ ay (CF.bF (jg X) _));clear X;have kn:=tH.ask 0 _ rfl;have ko:=tH.ask 1 _ rfl)
    |(go_at_call 173;refine(xS _ _).mono ?_;rintro e w2 ⟨rfl,g2⟩;have C:=I (aa kG g2);have K:=I (kI _ _ tH (CF.bF g2 _));clear g2;have kq:=K.ask 0 _ rfl;have kr:=K.ask 1 _ rfl)
    |(go_at_call 171;refine(Y5 _ (cv _ _ HJ (CF.bF (aa sS C) _)) K).mono ?_;rintro e w3 ⟨rfl,j3,P⟩;have yj:=I P;have V:=I j3;have B:=I (AP _ _ K P j3);clear P j3;have kt:=B.ask 0 _ rfl;have kv:=B.ask 1 _ rfl;have D:=I ((cr.grown C).cf yj);have k:=zS D.o;obtain⟨d0,q0⟩:=k.1 0 O;have f0:=k.2 0;obtain⟨d1,q1⟩:=k.1 1 O;have f1:=k.2 1;obtain⟨d2,q2⟩:=k.1 2 O;have f2:=k.2 2;obtain⟨d3,q3⟩:=k.1 3 O;have f3:=k.2 3;obtain⟨d4,q4⟩:=k.1 4 O;have f4:=k.2 4;obtain⟨d5,q5⟩:=k.1 5 O;have f5:=k.2 5;obtain⟨d6,q6⟩:=k.1 6 O;have f6:=k.2 6;obtain⟨d7,q7⟩:=k.1 7 O;have f7:=k.2 7;obtain⟨d8,q8⟩:=k.1 8 O;have f8:=k.2 8;obtain⟨d9,q9⟩:=k.1 9 O;have f9:=k.2 9;obtain⟨kz,mc⟩:=k.1 10 O;have lk:=k.2 10;obtain⟨la,me⟩:=k.1 11 O;have ll:=k.2 11;obtain⟨lb,mj⟩:=k.1 12 O;have ln:=k.2 12;obtain⟨ld,ml⟩:=k.1 13 O;have lo:=k.2 13;obtain⟨lf,mm⟩:=k.1 14 O;have lp:=k.2 14;obtain⟨lj,mn⟩:=k.1 15 O;have lr:=k.2 15;clear k))
   go_wp2;go_meet;have k:=LH (jI ([.string v0,Y v1,H v2,H v3,Y v4,Y v5,Y v6,Y v7]++[.string u0,Y u1,H u2,H u3,Y u4,Y u5,Y u6,Y u7]) 0 w3 (w.1.size+1) 16 D Z);refine⟨rfl,k.1,k.2,?_,?_⟩
   .refine cv _ _ V ?_;repeat refine CF.setCell ?_ _ _ _ (λ_=>vZ.AO _ _ G)
    exact CF.refl _ _
   .refine kI _ _ B ?_;repeat refine CF.setCell ?_ _ _ _ (λ_=>.inr G)
    exact CF.refl _ _
  case rest=>
   obtain⟨rfl,k,B,hj,hX⟩:=hcut;have P:=I hX;have Iz:=I k;have SB:=I B;clear k B hj hX a0 a1 Y5 ay HJ cr sS cz;obtain⟨k0,k1,k2,k3,k4,k5,k6,k7,k8,k9⟩:=jk P.ask;by_cases ad:dS x y d 6 7 1 2=0
   .obtain⟨e,f,rfl,rfl⟩:=IM O O ad;have he:=mq xU.1;have hf:=mq xU.2;have ds:fo wc (w.1.size+1) e f:=⟨by have h:=Iz.o;rw[<-Hv]at h;exact h,by have h:=SB.o;rw[<-Hu]at h;exact h⟩
    have V:=I ds;have yP:=I ad;rw[ad];clear ad ds Iz SB Hv Hu;have O6:=I (YT M.aA d e q.pre);obtain⟨pc,EG⟩:=N (eY M.aA d e q.pre);have Y8:=I EG;have QW:=I (cp e f);rw[EG]at QW;by_cases h0:pc=0
    .subst h0;clear O6;cases FN:(bits .andNot .i64 q.aO 15==0)with
     |false=>
      have X:Hid (FR=(aY d 13,M)):=by
       have hc:=UU (f:=f) Y8 HQ.2.2.2.2.2.2 FN;rw[<-SY,uM xU.o.1 xU.o.2 yP.o (by rw[hc];decide),hc];exact rfl
      have jl:=cJ.1 FN;clear EG FN;go_wp2_with (first|(go_at_call 174;refine(QW _ P V).mono ?_;rintro r w5 ⟨rfl,C⟩;have B:=I (u e f _ _ P V (C.mono (λ_ _ _ n=>.inl n))).1;have Ta:=I (u e f _ _ P V (C.mono (λ_ _ _ n=>.inl n))).2;clear C;obtain⟨af,ag,ah,ai,aj,ak,al,an,ar,au⟩:=jk B.ask))
      go_meet;exact⟨_,rfl,⟨by decide,by decide⟩,X,B⟩
     |true=>
      have jl:=db.1 FN;have Y9:=I (Y7 e f);obtain⟨sk,UY⟩:=N (sJ d M.aA q e f);rw[UY]at Y9;cases sk with
      |false=>
       have X:Hid (FR=(aY d 10,M)):=by
        have hc:=QQ Y8 HQ.2.2.2.2.2.2 FN UY;rw[<-SY,uM xU.o.1 xU.o.2 yP.o (by rw[hc];decide),hc];exact rfl
       clear EG FN UY;go_wp2_with (first|(go_at_call 174;refine(QW _ P V).mono ?_;rintro r w5 ⟨rfl,C⟩;have B:=I (u e f _ _ P V (C.mono (λ_ _ _ n=>.inl n))).1;have Ta:=I (u e f _ _ P V (C.mono (λ_ _ _ n=>.inl n))).2;clear C;obtain⟨af,ag,ah,ai,aj,ak,al,an,ar,au⟩:=jk B.ask)|(go_at_call 175;refine(Y9 _ B Ta).mono ?_;rintro r w6 ⟨rfl,g6⟩;have QX:=I (u e f _ _ B Ta (CF.bF g6 _)).1;have D:=I (u e f _ _ B Ta (CF.bF g6 _)).2;clear g6;obtain⟨bu,bx,ca,cb,cc,cd,ch,cj,ck,cl⟩:=jk QX.ask))
       go_meet;exact⟨_,rfl,⟨by decide,by decide⟩,X,QX⟩
      |true=>
       have K:=YU Y8 HQ.2.2.2.2.2.2 FN UY;by_cases dt:fO d q e f<=bH d q
       .rw[dT dt]at K;have X:Hid (FR=(aY d 11,M)):=by
         rw[<-SY,uM xU.o.1 xU.o.2 yP.o (by rw[K];decide),K];exact rfl
        clear EG FN UY K;go_wp2_with (first|(go_at_call 174;refine(QW _ P V).mono ?_;rintro r w5 ⟨rfl,C⟩;have B:=I (u e f _ _ P V (C.mono (λ_ _ _ n=>.inl n))).1;have Ta:=I (u e f _ _ P V (C.mono (λ_ _ _ n=>.inl n))).2;clear C;obtain⟨af,ag,ah,ai,aj,ak,al,an,ar,au⟩:=jk B.ask)|(go_at_call 175;refine(Y9 _ B Ta).mono ?_;rintro r w6 ⟨rfl,g6⟩;have QX:=I (u e f _ _ B Ta (CF.bF g6 _)).1;have D:=I (u e f _ _ B Ta (CF.bF g6 _)).2;clear g6;obtain⟨bu,bx,ca,cb,cc,cd,ch,cj,ck,cl⟩:=jk QX.ask)|(go_at_call 176;refine(bl e f _ he hf D).mono ?_;rintro r k ⟨rfl,m,ae⟩;have g7:=I (ae▸aR (cC w6 none) m:w6.grownBy k none);clear ae;have yQ:=I (u e f _ _ QX D (CF.bF g7 _)).1;have Nh:=I (u e f _ _ QX D (CF.bF g7 _)).2;clear g7;obtain⟨et,ev,fa,fb,fc,ff,fi,fx,fz,ga⟩:=jk yQ.ask))
        go_meet;exact⟨_,rfl,⟨by decide,by decide⟩,X,yQ⟩
       .rw[cZ dt]at K;have X:=I (YS xU.1 xU.2 yP K);rw[SY]at X;clear EG FN UY K;go_wp2_with (first|(go_at_call 174;refine(QW _ P V).mono ?_;rintro r w5 ⟨rfl,C⟩;have B:=I (u e f _ _ P V (C.mono (λ_ _ _ n=>.inl n))).1;have Ta:=I (u e f _ _ P V (C.mono (λ_ _ _ n=>.inl n))).2;clear C;obtain⟨af,ag,ah,ai,aj,ak,al,an,ar,au⟩:=jk B.ask)|(go_at_call 175;refine(Y9 _ B Ta).mono ?_;rintro r w6 ⟨rfl,g6⟩;have QX:=I (u e f _ _ B Ta (CF.bF g6 _)).1;have D:=I (u e f _ _ B Ta (CF.bF g6 _)).2;clear g6;obtain⟨bu,bx,ca,cb,cc,cd,ch,cj,ck,cl⟩:=jk QX.ask)|(go_at_call 176;refine(bl e f _ he hf D).mono ?_;rintro r k ⟨rfl,m,ae⟩;have g7:=I (ae▸aR (cC w6 none) m:w6.grownBy k none);clear ae;have yQ:=I (u e f _ _ QX D (CF.bF g7 _)).1;have Nh:=I (u e f _ _ QX D (CF.bF g7 _)).2;clear g7;obtain⟨et,ev,fa,fb,fc,ff,fi,fx,fz,ga⟩:=jk yQ.ask))
        clear k0 k1 k2 k3 k4 k5 k6 k7 k8 k9 af ag ah ai aj ak al an ar au bu bx ca cb cc cd ch cj ck cl fb fc ff fi fx fz ga P B QX V Ta D cp QW Y7 Y9 bl;have l4:=yQ.hear.c4;go_cut [10] (λp wx=>∃rb,p = π rb 0/\w.1.size+1<rb/\dz wx rb #[Y 0,H 0,.string ⟨q.ay.toArray⟩,Y d,Y (bH d q),Y (fO d q e f),Y 0,.string ⟨q.aV.toArray⟩,Y f.aH,H (f.key.toNat:Int),H 0,Y q.bV,Y e.aH,H (e.key.toNat:Int),H 0]/\ED J w wx t g i T Q R U po pr dp dQ M d w.1.size (q.cells A v)/\fo wx (w.1.size+1) e f)
        case first=>
         have jh:=jF (Nh.c 0 _ rfl);have na:w.1.size≠k.1.size:=G;have nb:t≠k.1.size:=rS;have lz:k.1.size≠w.1.size:=λe=>na e.symm;have ma:k.1.size≠t:=λe=>nb e.symm;have Tc:Hid (∀W,k.grownBy W none->W.c w.1.size 0=some (.string ⟨q.ay.toArray⟩)/\W.c w.1.size 1=some (.string ⟨q.aV.toArray⟩)/\W.c w.1.size 2=some (Y q.bV)/\W.c t 4=some (Y d)):=λW K=>⟨K.cell (yQ.ask 0 _ rfl) Z,K.cell (yQ.ask 1 _ rfl) Z,K.cell (yQ.ask 2 _ rfl) Z,K.cell yQ.hear.c4 Z⟩
         have bm:∀W,k.grownBy W none->Calls prog 177 #[π (w.1.size+1) 8] W λr l=>r=.returned (.agg #[Y f.aH,H (f.key.toNat:Int)])/\W.grownBy l none:=λW K=>sV (w.1.size+1) 8 f W (K.cell (Nh.s 1 _ rfl) Z) (K.cell (Nh.s 2 _ rfl) Z);have bb:∀W,k.grownBy W none->Calls prog 177 #[π (w.1.size+1) 0] W λr l=>r=.returned (.agg #[Y e.aH,H (e.key.toNat:Int)])/\W.grownBy l none:=λW K=>sV (w.1.size+1) 0 e W (K.cell (Nh.c 1 _ rfl) Z) (K.cell (Nh.c 2 _ rfl) Z);have hg:Hid (Calls prog 177 #[π (w.1.size+1) 8] k.drew λr l=>r=.returned (.agg #[Y f.aH,H (f.key.toNat:Int)])/\k.grownBy l none):=(bm _ (bg (cC _ _))).mono λ_ _ ⟨a,b⟩=>⟨a,jg b⟩
         have UZ:Hid (Calls prog 177 #[π (w.1.size+1) 8] ((k.alloc (.cells #[Y 0,H 0,ε,Y 0,Y 0,Y 0,Y 0,ε,Y 0,H 0,H 0,Y 0,Y 0,H 0,H 0] 338)).drew) λr l=>r=.returned (.agg #[Y f.aH,H (f.key.toNat:Int)])/\k.grownBy l none/\dz l k.1.size #[Y 0,H 0,ε,Y 0,Y 0,Y 0,Y 0,ε,Y 0,H 0,H 0,Y 0,Y 0,H 0,H 0]):=(bm _ (bg (cx _ _ none))).mono λ_ _ ⟨a,b⟩=>⟨a,aa (bg (cx _ _ none)) b,(dz.new k _ _).drew.grown b Z⟩
         have hh:Hid (∀W,k.grownBy W none->Calls prog 177 #[π (w.1.size+1) 0] W λr l=>r=.returned (.agg #[Y e.aH,H (e.key.toNat:Int)])/\k.grownBy l none):=λW K=>(bb W K).mono λ_ _ ⟨a,b⟩=>⟨a,aa K b⟩
         have hi:Hid (∀W,k.grownBy W none->Calls prog 177 #[π (w.1.size+1) 0] (W.alloc (.cells #[Y 0,H 0,ε,Y 0,Y 0,Y 0,Y 0,ε,Y 0,H 0,H 0,Y 0,Y 0,H 0,H 0] 338)) λr l=>r=.returned (.agg #[Y e.aH,H (e.key.toNat:Int)])/\k.grownBy l none/\dz l W.1.size #[Y 0,H 0,ε,Y 0,Y 0,Y 0,Y 0,ε,Y 0,H 0,H 0,Y 0,Y 0,H 0,H 0]):=λW K=>(bb _ (aM K _)).mono λ_ _ ⟨a,b⟩=>⟨a,aa (aM K _) b,(dz.new W _ _).grown b Z⟩
         have hk:Hid (∀W,k.grownBy W none->dz W k.1.size #[Y 0,H 0,ε,Y 0,Y 0,Y 0,Y 0,ε,Y 0,H 0,H 0,Y 0,Y 0,H 0,H 0]->Calls prog 177 #[π (w.1.size+1) 0] W λr l=>r=.returned (.agg #[Y e.aH,H (e.key.toNat:Int)])/\k.grownBy l none/\dz l k.1.size #[Y 0,H 0,ε,Y 0,Y 0,Y 0,Y 0,ε,Y 0,H 0,H 0,Y 0,Y 0,H 0,H 0]):=λW K hB=>(bb W K).mono λ_ _ ⟨a,b⟩=>⟨a,aa K b,hB.grown b Z⟩
         clear bm bb;obtain⟨x0,x1,x2,x4⟩:=Tc _ (cx k (.cells #[Y 0,H 0,ε,Y 0,Y 0,Y 0,Y 0,ε,Y 0,H 0,H 0,Y 0,Y 0,H 0,H 0] 338) none)
         go_region_held3 (λl=>l.c w.1.size 0=some (.string ⟨q.ay.toArray⟩)/\l.c w.1.size 1=some (.string ⟨q.aV.toArray⟩)/\l.c w.1.size 2=some (Y q.bV)/\l.c t 4=some (Y d)) (first|(with_reducible exact⟨kT na z0,kT na z1,kT na z2,kT nb z4⟩)|(with_reducible exact⟨kT H9 z0,kT H9 z1,kT H9 z2,kT df z4⟩)|go_keep) (first
          |(go_at_call 177;(with_reducible apply Calls.mono hg.o);rintro r w8 ⟨rfl,g8⟩;have Td:=I g8;clear g8;obtain⟨y0,y1,y2,y4⟩:=Tc w8 Td.o;obtain⟨kg,kh,ki,kj⟩:=Tc _ (aM Td (.cells #[.int .i64 0,.int .u64 0,.string ⟨#[]⟩,.int .i64 0,.int .i64 0,.int .i64 0,.int .i64 0,.string ⟨#[]⟩,.int .i64 0,.int .u64 0,.int .u64 0,.int .i64 0,.int .i64 0,.int .u64 0,.int .u64 0] 338));have H9:w.1.size≠w8.1.size:=uc;have df:t≠w8.1.size:=(by have:=Td.size;have:=HN.1;omega);have hl:=I (hh w8 Td);have hs:=I (hi w8 Td))
          |(go_at_call 177;(with_reducible apply Calls.mono UZ.o);rintro r w8 ⟨rfl,g8,bz⟩;have gx:=I bz;clear bz;have Td:=I g8;clear g8;obtain⟨y0,y1,y2,y4⟩:=Tc w8 Td.o;obtain⟨kg,kh,ki,kj⟩:=Tc _ (aM Td (.cells #[.int .i64 0,.int .u64 0,.string ⟨#[]⟩,.int .i64 0,.int .i64 0,.int .i64 0,.int .i64 0,.string ⟨#[]⟩,.int .i64 0,.int .u64 0,.int .u64 0,.int .i64 0,.int .i64 0,.int .u64 0,.int .u64 0] 338));have H9:w.1.size≠w8.1.size:=uc;have df:t≠w8.1.size:=(by have:=Td.size;have:=HN.1;omega);have ht:=I (hk w8 Td gx))
          |(go_at_call 177;(with_reducible apply Calls.mono hl.o);rintro r w9 ⟨rfl,K⟩;have b:=I K;clear K;obtain⟨z0,z1,z2,z4⟩:=Tc w9 b.o;obtain⟨gp,gr,gv,gw⟩:=Tc _ (aM b (.cells #[.int .i64 0,.int .u64 0,.string ⟨#[]⟩,.int .i64 0,.int .i64 0,.int .i64 0,.int .i64 0,.string ⟨#[]⟩,.int .i64 0,.int .u64 0,.int .u64 0,.int .i64 0,.int .i64 0,.int .u64 0,.int .u64 0] 338));obtain⟨gd,gg,gl,gm⟩:=Tc _ (aM b (.cells #[.int .i64 0,.int .u64 0,.string ⟨q.ay.toArray⟩,.int .i64 d,.int .i64 (bH d q),.int .i64 (fO d q e f),.int .i64 0,.string ⟨q.aV.toArray⟩,.int .i64 f.aH,.int .u64 (f.key.toNat:Int),.int .u64 0,.int .i64 q.bV,.int .i64 e.aH,.int .u64 (e.key.toNat:Int),.int .u64 0] 338)))
          |(go_at_call 177;(with_reducible apply Calls.mono hs.o);rintro r w9 ⟨rfl,K,bz⟩;have b:=I K;have a:=I bz;clear K bz;have t0:=a.cell 0;have ju:=a.frozen 0;have t1:=a.cell 1;have jv:=a.frozen 1;have t2:=a.cell 2;have jx:=a.frozen 2;have t3:=a.cell 3;have jz:=a.frozen 3;have t4:=a.cell 4;have ka:=a.frozen 4;have t5:=a.cell 5;have kb:=a.frozen 5;have t6:=a.cell 6;have kc:=a.frozen 6;have t7:=a.cell 7;have kd:=a.frozen 7;have t8:=a.cell 8;have ke:=a.frozen 8;have t9:=a.cell 9;have kf:=a.frozen 9;have jm:=a.cell 10;have ir:=a.frozen 10;have jn:=a.cell 11;have iu:=a.frozen 11;have jr:=a.cell 12;have iv:=a.frozen 12;have js:=a.cell 13;have ix:=a.frozen 13;have jt:=a.cell 14;have iz:=a.frozen 14;obtain⟨z0,z1,z2,z4⟩:=Tc w9 b.o;obtain⟨gp,gr,gv,gw⟩:=Tc _ (aM b (.cells #[.int .i64 0,.int .u64 0,.string ⟨#[]⟩,.int .i64 0,.int .i64 0,.int .i64 0,.int .i64 0,.string ⟨#[]⟩,.int .i64 0,.int .u64 0,.int .u64 0,.int .i64 0,.int .i64 0,.int .u64 0,.int .u64 0] 338));obtain⟨gd,gg,gl,gm⟩:=Tc _ (aM b (.cells #[.int .i64 0,.int .u64 0,.string ⟨q.ay.toArray⟩,.int .i64 d,.int .i64 (bH d q),.int .i64 (fO d q e f),.int .i64 0,.string ⟨q.aV.toArray⟩,.int .i64 f.aH,.int .u64 (f.key.toNat:Int),.int .u64 0,.int .i64 q.bV,.int .i64 e.aH,.int .u64 (e.key.toNat:Int),.int .u64 0] 338)))
          |(go_at_call 177;(with_reducible apply Calls.mono ht.o);rintro r w9 ⟨rfl,K,bz⟩;have b:=I K;have a:=I bz;clear K bz;have t0:=a.cell 0;have ju:=a.frozen 0;have t1:=a.cell 1;have jv:=a.frozen 1;have t2:=a.cell 2;have jx:=a.frozen 2;have t3:=a.cell 3;have jz:=a.frozen 3;have t4:=a.cell 4;have ka:=a.frozen 4;have t5:=a.cell 5;have kb:=a.frozen 5;have t6:=a.cell 6;have kc:=a.frozen 6;have t7:=a.cell 7;have kd:=a.frozen 7;have t8:=a.cell 8;have ke:=a.frozen 8;have t9:=a.cell 9;have kf:=a.frozen 9;have jm:=a.cell 10;have ir:=a.frozen 10;have jn:=a.cell 11;have iu:=a.frozen 11;have jr:=a.cell 12;have iv:=a.frozen 12;have js:=a.cell 13;have ix:=a.frozen 13;have jt:=a.cell 14;have iz:=a.frozen 14;obtain⟨z0,z1,z2,z4⟩:=Tc w9 b.o;obtain⟨gp,gr,gv,gw⟩:=Tc _ (aM b (.cells #[.int .i64 0,.int .u64 0,.string ⟨#[]⟩,.int .i64 0,.int .i64 0,.int .i64 0,.int .i64 0,.string ⟨#[]⟩,.int .i64 0,.int .u64 0,.int .u64 0,.int .i64 0,.int .i64 0,.int .u64 0,.int .u64 0] 338));obtain⟨gd,gg,gl,gm⟩:=Tc _ (aM b (.cells #[.int .i64 0,.int .u64 0,.string ⟨q.ay.toArray⟩,.int .i64 d,.int .i64 (bH d q),.int .i64 (fO d q e f),.int .i64 0,.string ⟨q.aV.toArray⟩,.int .i64 f.aH,.int .u64 (f.key.toNat:Int),.int .u64 0,.int .i64 q.bV,.int .i64 e.aH,.int .u64 (e.key.toNat:Int),.int .u64 0] 338))))
         all_goals go_wp2
         all_goals go_meet
         all_goals have pF:=u e f _ _ yQ Nh (CF.bF b _)
         .exact⟨_,rfl,(by have:=b.size;omega),dz.new _ _ _,u.o e f _ _ pF.1 pF.2 (CF.bF (cx _ _ none) _)⟩
         .exact⟨w8.1.size,rfl,uc,Y1 a _ _ _ _ _ _ _ _ _ _ _ _ _ _ _,u e f _ _ pF.1 pF.2 (zj w9 w8.1.size _ _ _ _ _ _ _ _ _ _ _ _ _ _ _ _ (λ_=>.inr uc))⟩
         .exact⟨k.1.size,rfl,jh,Y1 a _ _ _ _ _ _ _ _ _ _ _ _ _ _ _,u e f _ _ pF.1 pF.2 (zj w9 k.1.size _ _ _ _ _ _ _ _ _ _ _ _ _ _ _ _ (λ_=>.inr G))⟩
        case rest=>
         obtain⟨rb,rfl,er,hB,hX,hP⟩:=hcut;have ba:=I hX;have av:=I hP;have cn:=I hB;clear hX hP hB et ev fa l4 yQ Nh;obtain⟨k0,k1,k2,k3,k4,k5,k6,k7,k8,k9⟩:=jk ba.ask;have FO:=I (EA (w.1.size+1) A v q e f wc av);have bc:Hid (UW d q e f=if aI (oK q e f) 4=true then gS (j9 q.bX) (gS (aW (bH d q) e.aC) (aW (bH d q) f.aC)) else 0):=rfl;have cm:=I (kH (oK q e f) 4 2 O O);have ib:=I (QR d q e f);have ha:=I (YV q e f);have dn:=I (dd e f);have ia:=I (SU d q e f HQ.2.2.2.2.2.1);generalize oK q e f=fl at *;generalize UW d q e f=rn at *
         go_upto_if 78 with(first
          |(go_at_call 178;refine FO.mono ?_;clear FO;rintro r w9 ⟨rfl,K⟩;have WE:=I (cn.grown K Z);have pF:=I (u e f _ _ ba av (CF.bF K _)).1;have cu:=I (u e f _ _ ba av (CF.bF K _)).2;clear K;have b0:=WE.cell 0;have jc:=WE.frozen 0))
         have nr:rb≠w.1.size:=G;have mb:w.1.size≠rb:=G;go_cut [5] (λc wx=>c = Y 11/\dz wx rb #[Y fl,H 0,.string ⟨q.ay.toArray⟩,Y d,Y (bH d q),Y (fO d q e f),Y rn,.string ⟨q.aV.toArray⟩,Y f.aH,H (f.key.toNat:Int),H 0,Y q.bV,Y e.aH,H (e.key.toNat:Int),H 0]/\ED J w wx t g i T Q R U po pr dp dQ M d w.1.size (q.cells A v)/\fo wx (w.1.size+1) e f)
         case first=>
          have hS:=u e f _ (w9.setCell (F rb 0) (Y fl)) pF cu ((CF.refl _ _).setCell _ _ _ (λ_=>.inr er));have a:=I hS.1;have K:=I hS.2;have Ni:Hid (dz (w9.setCell (F rb 0) (Y fl)) rb #[Y fl,H 0,.string ⟨q.ay.toArray⟩,Y d,Y (bH d q),Y (fO d q e f),Y 0,.string ⟨q.aV.toArray⟩,Y f.aH,H (f.key.toNat:Int),H 0,Y q.bV,Y e.aH,H (e.key.toNat:Int),H 0]):=WE.set 0 (Y fl);have hq:=cm.o;have u5:=pF.ask 5 _ rfl;clear hS;generalize aI fl 4=o4 at *;cases o4 with
          |true=>
           rw[eV]at hq;have hp:=cJ.1 hq;clear hq;have dq:=I (dn _ he hf K)
           go_wp2_with (first
            |(go_at_call 179;refine dq.mono ?_;clear dq;rintro r b ⟨rfl,m,bf⟩;have bk:Hid (dz b rb #[.int .i64 fl,.int .u64 0,.string ⟨q.ay.toArray⟩,.int .i64 d,.int .i64 (bH d q),.int .i64 (fO d q e f),.int .i64 0,.string ⟨q.aV.toArray⟩,.int .i64 f.aH,.int .u64 (f.key.toNat:Int),.int .u64 0,.int .i64 q.bV,.int .i64 e.aH,.int .u64 (e.key.toNat:Int),.int .u64 0]):=(by rw[bf];exact Ni.drewN m);have jb:Hid ((w9.setCell (F rb 0) (.int .i64 fl)).grownBy b none):=(by rw[bf];exact aR (cC _ _) m);clear bf;have b6:=bk.cell 6;have ks:=bk.frozen 6))
           go_meet;have hS:=u e f _ _ a K (CF.bF jb _);exact⟨rfl,by rw[bc];exact bk.set 6 _,u e f _ _ hS.1 hS.2 ((CF.refl _ _).setCell _ _ _ (λ_=>.inr er))⟩
          |false=>
           rw[eM]at hq;have hp:=db.1 hq;clear hq;go_wp2_with fail;go_meet;exact⟨rfl,by rw[bc];exact Ni,a,K⟩
         case rest=>
          obtain⟨rfl,hB,hX,hP⟩:=hcut;have a:=I hX;have Ni:=I hB;clear hX hP hB ba av cn pF cu WE k0 k1 k2 k3 k4 k5 k6 k7 k8 k9 b0 jc dd dn bc cm;obtain⟨rp,qO⟩:∃r:RP,r=⟨⟨fl,0,q.ay,d,bH d q,fO d q e f,rn⟩,q.aV,f.aH,f.key,0,q.bV,e.aH,e.key,0⟩:=⟨_,rfl⟩
          have K:nK wc rb rp:=(by rw[qO];exact Ni.range);have Za:=EF Ni 15 (cy 15);by_cases JJ:M.aL.length<24
          .obtain⟨ao,ab,hc⟩:=M8 a.bP;have HD:=I (SK t g rb M.aL.length ab ao rp wc a.hear.c3 JJ hc K Za);rw[dT JJ]at X;clear hc K Za qO JJ
           go_wp2_with (first
            |(go_at_call 180;refine HD.mono ?_;clear HD;rintro r b ⟨rfl,Zb⟩;have yG:=I Zb;clear Zb))
           go_meet;exact⟨_,rfl,⟨by decide,by decide⟩,X,kI _ _ a (yG.mono (λ_ _ _ e=>.inr G))⟩
          .obtain⟨qd,bt,hc,bo,bp,bq,bn⟩:=IP a.bP G;have bs:=vZ.M6 qd bt;have jj:=HN.2;have HD:=I (M5 t g rb qd M.aL M.aL.length rp wc a.hear.c3 (I rfl) G bo bp hc (by have:=a.bP.live;rwa [cN]at this) bq bs.1 (bn.lt) K Za G rS vZ.hbg);have gz:=I (λW' off=>EE (W':=W') (rb:=rb) (off:=off) a.bP G bo bp bq bn);rw[cZ JJ]at X;obtain⟨ao,ab,hv,ly⟩:=vY a.o.r;subst hv;have c2:=a.o.hear.c2;have dc:=I qO;have ie:=I bt;have da:=I bs;have kk:Hid (t≠rb):=(by have:=HN.1;exact I G);have hz:=I Za.lt;have HOr:Hid (l' pr rb):=λp hp e=>by have:=im p hp;omega
           have ih:Hid (∀W,nK W rb (rp.drawn (eF M.aL 0) (eF M.aL 1) (eF M.aL 2))->f' W (.slice ao 0 ab) pr []->rb<W.1.size->Calls prog 181 #[π rb 0,.slice ao 0 ab] W λe l=>∃v',e=.returned v'/\aU W l v' pr ([]++(rp.drawn (eF M.aL 0) (eF M.aL 1) (eF M.aL 2)).uZ 11 3)):=
            λW h1 l h3=>zC (.slice ao 0 ab) pr [] rb _ W l h1 h3 HOr (QS dc ha ia HQ xU vZ.sZ) Z
           clear hc bo bp bq bn bs jj K Za qO bt JJ
           go_wp2_with (first
            |(go_at_call 180;refine HD.mono ?_;clear HD;rintro r b ⟨rfl,Zc,Zd,Zb⟩;have W:=I Zc;have ij:=I Zd;have yG:=I Zb;clear Zc Zd Zb;have kx:=yG.cell c2 (λe=>by omega);have p:=I (fN hz yG.size))
            |(go_at_call 181;refine(ih _ W (a.r.cf yG (λ_ _ j hj=>absurd hj Z)) p).mono ?_;rintro r mu ⟨v',rfl,l⟩;have il:=I l;clear l))
           first|go_ret|(rw[Exit.noGoto_ret];go_ret)
           refine⟨_,rfl,?_⟩;rw[X];obtain⟨off,k1,k2,k3⟩:=ij.o;have j:=il.o;rw[Na dc.o ib.o (lV xU.o.2)]at j;exact Y3 a yG G Y6 j vZ (gz b off k1 k2 k3 yG da.1 (by have:=da.2.2.1;omega) (by have:=HN.2;omega)) ie.o rfl
    .have X:Hid (FR=(aY d pc,M)):=by
      rw[<-SY,uM xU.o.1 xU.o.2 yP.o (by rw[M7 (by rw[EG];exact h0),EG];exact h0),M7 (by rw[EG];exact h0),EG];exact rfl
     clear EG;go_wp2_with (first|(go_at_call 174;refine(QW _ P V).mono ?_;rintro r w5 ⟨rfl,C⟩;have B:=I (u e f _ _ P V (C.mono (λ_ _ _ n=>.inl n))).1;have Ta:=I (u e f _ _ P V (C.mono (λ_ _ _ n=>.inl n))).2;clear C;obtain⟨af,ag,ah,ai,aj,ak,al,an,ar,au⟩:=jk B.ask))
     exact m'
   .have O6:=I (SN x y d 6 7 1 2 O O O O);have X:Hid (FR=(aY d (dS x y d 6 7 1 2),M)):=(by rw[<-SY];exact QO xU.1 xU.2 ad);generalize dS x y d 6 7 1 2=pcd at *;go_wp2_with fail;exact m'
 case rest=>
  obtain⟨S,rfl,a,j,hX⟩:=hcut;have b:=I (yF t g T Q R U pr d S _ hX.hear hX.r vZ.prH HQ.1 a);have pF:=I hX;have X:=I j;clear hX j a;go_wp2_with (first|(go_at_call 141;refine b.mono ?_;rintro e w9 ⟨v',rfl,a⟩;have j:=I a;clear a))
  rw[Exit.noGoto_ret];go_ret;refine⟨_,rfl,?_⟩;rw[X];exact QV pF j vZ.o
