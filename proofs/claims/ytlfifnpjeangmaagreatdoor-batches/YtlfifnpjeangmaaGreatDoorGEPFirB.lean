import Derived.Test.YtlfifnpjeangmaaGreatDoorGEPFindA
namespace Go.Proofs.YtlfifnpjeangmaaGreatDoor
set_option maxHeartbeats 20000000
open Proofs.Tryz Go.RowKit
set_option maxRecDepth 100000
variable {p:Prop}
theorem ahI(h:p:=by have:=HN.o.1;omega):p:=h
theorem aiP(h:p:=by have:=SI.o.size;omega):p:=h
variable {b g:Nat}{dQ:Nat->Nat->Prop}{dp po pr:Option Pl}{v':Value}{w:World}
abbrev JY:Array Value:=#[.string ⟨#[]⟩,ι 0,υ 0,υ 0,ι 0,ι 0,ι 0,ι 0,.string ⟨#[]⟩,ι 0,υ 0,υ 0,ι 0,ι 0,ι 0,ι 0]
def SC(w:World)(po:Option Pl)(dQ:Nat->Nat->Prop)(q:FQ)(pn:Int)(v:Value):Prop:=
 q.pre=none\/∃z ao cap,q.pre=some (pn,z)/\v=.slice ao z.length cap/\z.length<=cap/\At w ao z/\∀b off,ao=some ⟨b,off,none⟩->∀j,j<z.length->¬ Pl.has po b (off+j)/\¬ dQ b (off+j)/\b<w.heap.size
structure Fin(w w':World)(g:Nat)(po pr dp:Option Pl)(dQ:Nat->Nat->Prop)(v':Value)(R:List UInt8×DM):Prop where
 out:∃p',Out w' v' p' R.1/\(p'=pr\/Pl.fresh w.heap.size p')
 bP:∃pV,dE w' g 0 pV R.2/\∀q',pV=some q'->∃q,dp=some q/\q.g=q'.g
 cf:CF w w' (λb y=>b=g/\(y=1\/163<=y/\y<188)\/exX po dQ b y\/Pl.has pr b y)
theorem Fin.o{w':World}{R:List UInt8×DM}(h:Fin w w' g po pr dp dQ v' R):∃p',Out w' v' p' R.1/\(p'=pr\/Pl.fresh w.heap.size p'):=h.out
theorem jH:∀(a)(o)(w)(b n),Live w b n->o+a.length<=n->(w.setCells b o a).rangeAt b o a:=by
 intro a;induction a with
 |nil=>intro o w b n _ _ j v c;simp at c
 |cons x r h=>
  intro o w b n f hn j v c;rw[de]at hn;have e:Live (w.setCell (b,o) x) b n:=f.cf (ex:=λ_ _=>True) (by grind [CF.setCell,CF.refl]);cases j with
  |zero=>
   obtain rfl:x=v:=by simpa using c
   show((w.setCell (b,o) x).setCells b (o+1) r).cell? _=_;rw[World.cell?_setCells_out b r (o+1) _ ⟨b,o+0,none⟩ agM];obtain⟨d,i⟩:=cA.1 (f.some o agE);exact agq
  |succ j=>
   have:=h (o+1) (w.setCell (b,o) x) b n e agE j v (by simpa using c);rw[show o+(j+1)=o+1+j from by omega];exact this
theorem zQ(h:Live w b 16):(∀j,j<16->∃d,w.cell? ⟨b,j,none⟩=some d)/\∀j,w.frozen? ⟨b,j,none⟩=false:=⟨λj a=>cA.1 (h.some j a),λj=>h.frozen j⟩
theorem range_split{v0 v1 v2 v3 v4 v5 v6 v7:Value}{us:List Value}(h:w.rangeAt b 0 (v0::v1::v2::v3::v4::v5::v6::v7::us)):w.rangeAt b 0 [v0,v1,v2,v3,v4,v5,v6,v7]/\w.rangeAt b 8 us:=by
 constructor
 ·intro j v a;refine h j v ?_;grind
 ·intro j v a;have:=h (8+j) v agM;rwa [cN]at this
theorem jg{q:FQ}{a:Int}{v:Value}(h:w.rangeAt b 0 (q.cells a v)):w.cell? (b,0)=some (.string q.ay)/\w.cell? (b,1)=some (.string q.aV)/\w.cell? (b,2)=some (ι q.bU)/\w.cell? (b,3)=some (ι q.ma)/\w.cell? (b,4)=some (ι q.dI)/\w.cell? (b,5)=some (ι q.bW)/\w.cell? (b,6)=some (ι q.aO)/\w.cell? (b,7)=some (.bool q.pre.isSome)/\w.cell? (b,8)=some (ι a)/\w.cell? (b,9)=some v:=
 ⟨h 0 _ rfl,h 1 _ rfl,h 2 _ rfl,h 3 _ rfl,h 4 _ rfl,h 5 _ rfl,h 6 _ rfl,h 7 _ rfl,h 8 _ rfl,h 9 _ rfl⟩
theorem kS{X o:Nat}{v0 v1 v2 v3 v4 v5 v6 v7 m l a e c d f u:Value}(j:b≠X)(h:w.cell? (b,o)=some u):(((((((((((((((w.setCell (X,0) v0).setCell (X,1) v1).setCell (X,2) v2).setCell (X,3) v3).setCell (X,4) v4).setCell (X,5) v5).setCell (X,6) v6).setCell (X,7) v7).setCell (X,8) m).setCell (X,9) l).setCell (X,10) a).setCell (X,11) e).setCell (X,12) c).setCell (X,13) d).setCell (X,14) f).cell? (b,o)=some u:=by
 have k:∀(W:World)(i)(x),W.cell? (b,o)=some u->(W.setCell ⟨X,i,none⟩ x).cell? (b,o)=some u:=(by grind [World.cell?_setCell_other])
 grind
theorem YH{X:Nat}{z y x v u t s r p m l j a f e:Value}(h:dB w X #[z,y,x,v,u,t,s,r,p,m,l,j,a,f,e])(v0 v1 v2 v3 v4 v5 v6 v7 n q c d i k o):dB (((((((((((((((w.setCell (X,0) v0).setCell (X,1) v1).setCell (X,2) v2).setCell (X,3) v3).setCell (X,4) v4).setCell (X,5) v5).setCell (X,6) v6).setCell (X,7) v7).setCell (X,8) n).setCell (X,9) q).setCell (X,10) c).setCell (X,11) d).setCell (X,12) i).setCell (X,13) k).setCell (X,14) o) X #[v0,v1,v2,v3,v4,v5,v6,v7,n,q,c,d,i,k,o]:=by
 have h:dB _ X #[v0,y,x,v,u,t,s,r,p,m,l,j,a,f,e]:=h.set 0 v0;have h:dB _ X #[v0,v1,x,v,u,t,s,r,p,m,l,j,a,f,e]:=h.set 1 v1;have h:dB _ X #[v0,v1,v2,v,u,t,s,r,p,m,l,j,a,f,e]:=h.set 2 v2;have h:dB _ X #[v0,v1,v2,v3,u,t,s,r,p,m,l,j,a,f,e]:=h.set 3 v3;have h:dB _ X #[v0,v1,v2,v3,v4,t,s,r,p,m,l,j,a,f,e]:=h.set 4 v4;have h:dB _ X #[v0,v1,v2,v3,v4,v5,s,r,p,m,l,j,a,f,e]:=h.set 5 v5;have h:dB _ X #[v0,v1,v2,v3,v4,v5,v6,r,p,m,l,j,a,f,e]:=h.set 6 v6;have h:dB _ X #[v0,v1,v2,v3,v4,v5,v6,v7,p,m,l,j,a,f,e]:=h.set 7 v7;have h:dB _ X #[v0,v1,v2,v3,v4,v5,v6,v7,n,m,l,j,a,f,e]:=h.set 8 n;have h:dB _ X #[v0,v1,v2,v3,v4,v5,v6,v7,n,q,l,j,a,f,e]:=h.set 9 q;have h:dB _ X #[v0,v1,v2,v3,v4,v5,v6,v7,n,q,c,j,a,f,e]:=h.set 10 c;have h:dB _ X #[v0,v1,v2,v3,v4,v5,v6,v7,n,q,c,d,a,f,e]:=h.set 11 d;have h:dB _ X #[v0,v1,v2,v3,v4,v5,v6,v7,n,q,c,d,i,f,e]:=h.set 12 i;have h:dB _ X #[v0,v1,v2,v3,v4,v5,v6,v7,n,q,c,d,i,k,e]:=h.set 13 k;have h:dB _ X #[v0,v1,v2,v3,v4,v5,v6,v7,n,q,c,d,i,k,o]:=h.set 14 o;exact h
theorem afK(w)(X:Nat)(ex:Nat->Nat->Prop)(v0 v1 v2 v3 v4 v5 v6 v7 j i a e c d f)(h:∀y,ex X y):CF w (((((((((((((((w.setCell (X,0) v0).setCell (X,1) v1).setCell (X,2) v2).setCell (X,3) v3).setCell (X,4) v4).setCell (X,5) v5).setCell (X,6) v6).setCell (X,7) v7).setCell (X,8) j).setCell (X,9) i).setCell (X,10) a).setCell (X,11) e).setCell (X,12) c).setCell (X,13) d).setCell (X,14) f) ex:=by
 repeat refine CF.setCell ?_ _ _ _ (λ_=>h _)
 exact CF.refl _ _
theorem agx(h:p:=by
 injection hq with hq
 subst hq
 rw[hg]at e
 exact((S.MX qd hdp).2.2.2 _).2.2 e):p:=h
theorem YJ{W n m:World}{t base T rb:Nat}{p z x C:Value}{J:World->Prop}{A:Nat->Nat->Prop}{M r:DM}{now:Int}{v:Nat}{f:List Value}{s:List UInt8}{qd c:Pl}(X:EB J w W t g base T p x C po pr dp dQ M now v f)(k:CF W n (λb y=>b=g/\y=1\/b=rb))(u:w.heap.size<=rb)(l:base<=w.heap.size)(h:aU n m v' pr s)(S:HS t g base T p z po pr dp J dQ A M.aG)(D:dE n g 0 (some c) r)(hdp:dp=some qd)(hg:c.g=qd.g):Fin w m g po pr dp dQ v' (s,r)/\J m:=by
 obtain⟨p',B,d,E,_⟩:=h;refine⟨?_,S.finds.stay _ _ (S.finds.stay _ _ X.j (k.mono (λb y _ e=>by rcases e with e|e;rw[e.1,e.2];exact S.ad7;rw[e];exact S.AA _ _ agE))) (d.mono (λb y _ e=>S.prJ b y e))⟩;refine⟨⟨p',B,E.imp id (λq=>mI q (cE X.big k.size))⟩,⟨some c,D.cf d (λj _ F e=>S.prG j agE e) (λq hq j _ e=>?_),λG a=>⟨qd,hdp,?_⟩⟩,?_⟩
 ·exact agx
 ·injection a with a;subst a;exact hg.symm
 ·exact((X.cf.mono (λ_ _ _ e=>.inr (.inl e))).trans k (λi o H e=>by rcases e with e|e;exact .inl ⟨e.1,.inl e.2⟩;omega)).trans d (λ_ _ _ e=>.inr (.inr e))
theorem QH{W W':World}{d base T:Nat}{i o m n:Value}{J:World->Prop}{t:Nat->Nat->Prop}{M:DM}{now a:Int}{s:Nat}{c:List Value}(X:EB J w W d g base T i m n po pr dp dQ M now s c)(h:aU W W' v' pr (aY now a))(S:HS d g base T i o po pr dp J dQ t M.aG):Fin w W' g po pr dp dQ v' (aY now a,M)/\J W':=by
 obtain⟨p',l,f,r,_⟩:=h;refine⟨?_,S.finds.stay _ _ X.j (by grind [CF.mono,HS.prJ])⟩;refine⟨⟨p',l,r.imp id (λk=>mI k X.big)⟩,⟨dp,X.bP.cf f (by grind [HS.prG]) (λq p j _ e=>((S.MX q p).2.2.2 _).2.2 e),agM⟩,?_⟩;exact(X.cf.mono agM).trans f agM
theorem ab8(h:p:=by
 go_meet
 grind [RowKit.Hid.o]):p:=h
theorem BR(i g base T:Nat)(H rv G I)(po pr dp)(J:World->Prop)(dQ sU:Nat->Nat->Prop)(M)(now A)(q)(v)(w)(S:HS i g base T H rv po pr dp J dQ sU M.aG)(h:yB w i g T H G I now)(hd:dE w g 0 dp M)(hJ:J w)(ho:Out w G po [])(hr:Out w I pr [])(ar:SC w po dQ q A v)(dA:In64 now)(bk:In64 M.aA)(bV:In64 q.bU)(cg:In64 q.ma)(cb:In64 q.dI)(ch:In64 q.bW)(bx:In64 q.aO)(D:base<=w.heap.size):
  Calls prog 138 #[(i,0),.agg (q.cells A v).toArray] w λe w'=>∃v',e=.returned v'/\Fin w w' g po pr dp dQ v' (dz M now (firstM M now q))/\J w':=by
 have eh:=S.hbb
 have dJ:=S.gb
 obtain⟨W0,hW0⟩:=aw ((w.alloc (.cells (q.cells A v).toArray 269)).alloc (.cells JY 324))
 have G0:w.grownBy W0 none:=by grind [aM,cx]
 have s0:W0.heap.size=w.heap.size+1+1:=aiZ
 have RQ:W0.rangeAt w.heap.size 0 (q.cells A v):=by grind [cx,gX,aS]
 have LP:Live W0 (w.heap.size+1) 16:=by
  have h:=Live.new (w.alloc (.cells (q.cells A v).toArray 269)) JY 324;exact af5
 have az:∀b y,Pl.has po b y->b<w.heap.size:=λb y e=>ho.lt e
 have bM:∀b y,Pl.has pr b y->b<w.heap.size:=λb y e=>hr.lt e
 have YK:=λp hp=>hr.KU p hp
 have du:=hid YK
 have X0:EB J w W0 i g base T H G I po pr dp dQ M now w.heap.size (q.cells A v):=⟨⟨h.grown G0,hd.grown G0,ho.grown G0,hr.grown G0,RQ,G0.size,CF.bF G0 _⟩,S.finds.stay _ _ hJ (CF.bF G0 _)⟩
 obtain⟨x,hx⟩:=aq (BE.find M.aG q.ay)
 obtain⟨y,hy⟩:=aq (BE.find M.aG q.aV)
 have YL:Hid (∀W,J W->EB J w W i g base T H G I po pr dp dQ M now w.heap.size (q.cells A v)->Calls prog 171 #[(i,0),.agg #[.string q.ay,ι 6,ι 1],.agg #[.string q.aV,ι 7,ι 2]] W λe w'=>e=.returned (.tuple #[.agg (rE x).toArray,.agg (rE y).toArray,ι (dS x y now 6 7 1 2)])/\J w'/\CF W w' dQ):=by
  intro W de XW;have:=Ir i base T H rv J dQ sU M.aG q.ay q.aV 6 1 7 2 now W S.afG S.finds de XW.hear.c0 XW.hear.c4 S.hbF S.UG S.AA (cE D XW.big);rw[hx,hy]at this;exact this
 have b7:=hid S.finds.stay
 have ax:=hid X0
 have HJ:=hid hJ
 have vV:=hid S
 have bO:=hid LP
 have sP:=hid G0
 have cc:=hid hW0
 have HQ:Hid (In64 now/\In64 M.aA/\In64 q.bU/\In64 q.ma/\In64 q.dI/\In64 q.bW/\In64 q.aO):=⟨dA,bk,bV,cg,cb,ch,bx⟩
 have Sm:=hid az
 have dX:=hid bM
 have dG:=hid ar
 have N:=hid (And.intro hx hy)
 have HN:Hid (i<w.heap.size/\g<w.heap.size):=⟨by omega,by omega⟩
 have kH:Hid (∀W W',EB J w W i g base T H G I po pr dp dQ M now w.heap.size (q.cells A v)->CF W W' (λb y=>Pl.has po b y\/w.heap.size<b)->EB J w W' i g base T H G I po pr dp dQ M now w.heap.size (q.cells A v)):=λW W' h k=>h.step S k rfl D az
 have AB:Hid (∀W W',EB J w W i g base T H G I po pr dp dQ M now w.heap.size (q.cells A v)->CF W W' dQ->J W'->EB J w W' i g base T H G I po pr dp dQ M now w.heap.size (q.cells A v)):=λW W' h k j=>h.found S k j rfl D az
 have YM:=hid D
 have cj:Hid (∀e f W,EB J w W i g base T H G I po pr dp dQ M now w.heap.size (q.cells A v)->eZ W (w.heap.size+1) e f->Calls prog 174 #[(i,0),(w.heap.size+1,0),.agg (q.cells A v).toArray] W λr w'=>r=.returned (ι (eT M.aA now e q.pre))/\CF W w' (Pl.has po)):=by
  intro e f W X P;rcases ar with hn|⟨z,ao,cap,h1,rfl,h3,h4,h5⟩
  ·exact(Gz i (w.heap.size+1) M.aA now A v q e f W P hn).mono λ_ _ ⟨a,b⟩=>⟨a,CF.bF b _⟩
  ·exact GD i g (w.heap.size+1) G po [] M.aA now A z ao z.length cap q e f W P h1 X.hear.c1 X.hear.c3 X.hear.c4 X.bP.aA dA X.o S.poH (λp hp e=>by have:=ho.KU p hp;omega) S.poG (hid rfl) h3 (h4.cf X.cf (λb off e j hj n=>by rcases n with n|n;exact(h5 b off e j hj).2.1 n;exact(h5 b off e j hj).1 n)) (λb off e j hj=>(h5 b off e j hj).1)
 have YN:Hid (∀e f W,EB J w W i g base T H G I po pr dp dQ M now w.heap.size (q.cells A v)->eZ W (w.heap.size+1) e f->Calls prog 175 #[(i,0),(w.heap.size+1,0),.agg (q.cells A v).toArray] W λr w'=>r=.returned (.tuple #[ι (bH now q),.bool (sH now M.aA q e f)])/\W.grownBy w' none):=
  λe f W X P=>UF i g (w.heap.size+1) now M.aA A v q e f W X.hear.c3 X.hear.c4 X.bP.aA dA bk P
 have aZ:In64 (bH now q):=by unfold bH;split<;>assumption
 have aN:Hid (∀e f W,e∈M.aG->f∈M.aG->eZ W (w.heap.size+1) e f->Calls prog 176 #[(w.heap.size+1,0),ι (bH now q),ι q.dI] W λr w'=>r=.returned (ι (fK now q e f))/\∃m,w'=W.drewN m):=
  λe f W he hf P=>Mi (w.heap.size+1) e f (bH now q) q.dI W P aZ (S.sV e he).bI (S.sV f hf).bI
 have b8:Hid (∀e f W,e∈M.aG->f∈M.aG->eZ W (w.heap.size+1) e f->Calls prog 179 #[(w.heap.size+1,0),ι (bH now q),ι q.bW] W λr w'=>r=.returned (ι (lesser (asked q.bW) (lesser (aW (bH now q) e.aC) (aW (bH now q) f.aC))))/\∃m,w'=W.drewN m):=
  λe f W he hf P=>Ec (w.heap.size+1) e f (bH now q) q.bW W P aZ (S.sV e he).aC (S.sV f hf).aC
 have t:Hid (∀e f W W',EB J w W i g base T H G I po pr dp dQ M now w.heap.size (q.cells A v)->eZ W (w.heap.size+1) e f->CF W W' (λb y=>Pl.has po b y\/w.heap.size+1<b)->EB J w W' i g base T H G I po pr dp dQ M now w.heap.size (q.cells A v)/\eZ W' (w.heap.size+1) e f):=by
  intro e f W W' X P k;grind [EB.step,CF.mono,eZ.cf]
 obtain⟨FR,OT⟩:=aq (dz M now (firstM M now q))
 have SF:=hid OT
 rw[OT]
 obtain⟨v0,v1,v2,v3,v4,v5,v6,v7,hv⟩:=iM x
 obtain⟨u0,u1,u2,u3,u4,u5,u6,u7,hu⟩:=iM y
 have Hv:=hid hv
 have Hu:=hid hu
 rw[hv,hu]at YL
 clear aZ hv hu OT h hd hJ ho hr ar dA bk bV cg cb ch bx hW0 G0 RQ LP X0 az bM YK S hx hy s0
 have n1:w.heap.size+1≠w.heap.size:=agE
 go_enter func138,ntmps138
 go_wp2_with fail
 go_step3
 go_wp2_with fail
 go_step3
 go_upto_block 0 with fail
 go_cut [5] (λc Z=>∃K,c = ι K/\In64 K/\FR=(aY now K,M)/\EB J w Z i g base T H G I po pr dp dQ M now w.heap.size (q.cells A v))
 case first=>
  go_wp2_with (rw[<-cc.o];fail_if_success done)
  have a0:W0.cell? (w,0)=some (.string q.ay):=ax.o.ask 0 _ rfl;have a1:W0.cell? (w,1)=some (.string q.aV):=ax.o.ask 1 _ rfl;go_cut [5] (λc Z=>c = ι (dS x y now 6 7 1 2)/\Z.rangeAt (w.heap.size+1) 0 [.string v0,ι v1,υ v2,υ v3,ι v4,ι v5,ι v6,ι v7]/\Z.rangeAt (w.heap.size+1) 8 [.string u0,ι u1,υ u2,υ u3,ι u4,ι u5,ι u6,ι u7]/\J Z/\EB J w Z i g base T H G I po pr dp dQ M now w.heap.size (q.cells A v))
  case first=>
   go_region_held3 (λw'=>w'.cell? ⟨w.heap.size,0,none⟩=some (.string q.ay)/\w'.cell? ⟨w.heap.size,1,none⟩=some (.string q.aV)) (go_keep) (first
    |(go_at_call 172;refine(zP _ _).mono ?_;rintro e w1 ⟨rfl,g1⟩;have kF:=hid (je g1);have tC:=hid (kH.o _ _ ax.o (CF.bF (je g1) _));clear g1;have ei:=tC.o.ask 0 _ rfl;have dH:=tC.o.ask 1 _ rfl)
    |(go_at_call 173;refine(xP _ _).mono ?_;rintro e w2 ⟨rfl,g2⟩;have br:=hid (aa kF.o g2);have vE:=hid (kH.o _ _ tC.o (CF.bF g2 _));clear g2;have dF:=vE.o.ask 0 _ rfl;have eb:=vE.o.ask 1 _ rfl)
    |(go_at_call 171;refine(YL.o _ (b7.o _ _ HJ.o (CF.bF (aa sP.o br.o) _)) vE.o).mono ?_;rintro e w3 ⟨rfl,j3,C3⟩;have yf:=hid C3;have c5:=hid j3;have bc:=hid (AB.o _ _ vE.o C3 j3);clear C3 j3;have ea:=bc.o.ask 0 _ rfl;have dY:=bc.o.ask 1 _ rfl;have bC:=hid ((bO.o.grown br.o).cf yf.o);have l:=zQ bC.o;obtain⟨d0,q0⟩:=l.1 0 agF;have f0:=l.2 0;obtain⟨d1,q1⟩:=l.1 1 agF;have f1:=l.2 1;obtain⟨d2,q2⟩:=l.1 2 agF;have f2:=l.2 2;obtain⟨d3,q3⟩:=l.1 3 agF;have f3:=l.2 3;obtain⟨d4,q4⟩:=l.1 4 agF;have f4:=l.2 4;obtain⟨d5,q5⟩:=l.1 5 agF;have f5:=l.2 5;obtain⟨d6,q6⟩:=l.1 6 agF;have f6:=l.2 6;obtain⟨d7,q7⟩:=l.1 7 agF;have f7:=l.2 7;obtain⟨d8,q8⟩:=l.1 8 agF;have f8:=l.2 8;obtain⟨d9,q9⟩:=l.1 9 agF;have f9:=l.2 9;obtain⟨dU,eo⟩:=l.1 10 agF;have ee:=l.2 10;obtain⟨ed,en⟩:=l.1 11 agF;have dM:=l.2 11;obtain⟨ek,dK⟩:=l.1 12 agF;have dP:=l.2 12;obtain⟨ep,dD⟩:=l.1 13 agF;have dy:=l.2 13;obtain⟨dZ,dL⟩:=l.1 14 agF;have dW:=l.2 14;obtain⟨dV,ef⟩:=l.1 15 agF;have eg:=l.2 15;clear l))
   go_wp2;go_meet;have HR:=range_split (jH ([.string v0,ι v1,υ v2,υ v3,ι v4,ι v5,ι v6,ι v7]++[.string u0,ι u1,υ u2,υ u3,ι u4,ι u5,ι u6,ι u7]) 0 w3 (w.heap.size+1) 16 bC.o agI);refine⟨rfl,HR.1,HR.2,?_,?_⟩
   ·refine b7.o _ _ c5.o ?_;repeat refine CF.setCell ?_ _ _ _ (λ_=>vV.o.AA _ _ agE)
    exact CF.refl _ _
   ·refine kH.o _ _ bc.o ?_;repeat refine CF.setCell ?_ _ _ _ (λ_=>.inr agE)
    exact CF.refl _ _
  case rest=>
   obtain⟨rfl,Pb,WC,hj,hX⟩:=hcut;have L:=hid hX;have Iu:=hid Pb;have Sn:=hid WC;clear Pb WC hj hX a0 a1 YL ax HJ bO sP cc;obtain⟨k0,k1,k2,k3,k4,k5,k6,k7,k8,k9⟩:=jg L.o.ask;by_cases ah:dS x y now 6 7 1 2=0
   ·obtain⟨e,f,rfl,rfl⟩:=IJ agF agF ah;have he:=mq N.o.1;have hf:=mq N.o.2;have bw:eZ wc (w.heap.size+1) e f:=⟨by have h:=Iu.o;rw[<-Hv.o]at h;exact h,by have h:=Sn.o;rw[<-Hu.o]at h;exact h⟩
    have O:=hid bw;have yM:=hid ah;rw[ah];clear ah bw Iu Sn Hv Hu;have OV:=hid (Yz M.aA now e q.pre);obtain⟨pc,EE⟩:=aq (eT M.aA now e q.pre);have YO:=hid EE;have QL:=hid (cj.o e f);rw[EE]at QL;by_cases h0:pc=0
    ·subst h0;clear OV;cases FK:(bits .andNot .i64 q.aO 15==0)with
     |false=>
      have Q:Hid (FR=(aY now 13,M)):=by
       have hc:=UH (f:=f) YO.o HQ.o.2.2.2.2.2.2 FK;rw[<-SF.o,uI N.o.1 N.o.2 yM.o (by rw[hc];decide),hc];exact rfl
      have cG:=cJ.1 FK;clear EE FK;go_wp2_with (first|(go_at_call 174;refine(QL.o _ L.o O.o).mono ?_;rintro r w5 ⟨rfl,C⟩;have B:=hid (t.o e f _ _ L.o O.o (C.mono (λ_ _ _ n=>.inl n))).1;have U:=hid (t.o e f _ _ L.o O.o (C.mono (λ_ _ _ n=>.inl n))).2;clear C;obtain⟨ae,ag,av,al,ak,af,ai,ab,an,aj⟩:=jg B.o.ask))
      go_meet;exact⟨_,rfl,⟨by decide,by decide⟩,Q.o,B.o⟩
     |true=>
      have cG:=db.1 FK;have YP:=hid (YN.o e f);obtain⟨sk,UK⟩:=aq (sH now M.aA q e f);rw[UK]at YP;cases sk with
      |false=>
       have Q:Hid (FR=(aY now 10,M)):=by
        have hc:=QB YO.o HQ.o.2.2.2.2.2.2 FK UK;rw[<-SF.o,uI N.o.1 N.o.2 yM.o (by rw[hc];decide),hc];exact rfl
       clear EE FK UK;go_wp2_with (first|(go_at_call 174;refine(QL.o _ L.o O.o).mono ?_;rintro r w5 ⟨rfl,C⟩;have B:=hid (t.o e f _ _ L.o O.o (C.mono (λ_ _ _ n=>.inl n))).1;have U:=hid (t.o e f _ _ L.o O.o (C.mono (λ_ _ _ n=>.inl n))).2;clear C;obtain⟨ae,ag,av,al,ak,af,ai,ab,an,aj⟩:=jg B.o.ask)|(go_at_call 175;refine(YP.o _ B.o U.o).mono ?_;rintro r w6 ⟨rfl,g6⟩;have QM:=hid (t.o e f _ _ B.o U.o (CF.bF g6 _)).1;have E:=hid (t.o e f _ _ B.o U.o (CF.bF g6 _)).2;clear g6;obtain⟨aX,a8,aP,aJ,bo,a6,bj,bh,aK,bq⟩:=jg QM.o.ask))
       go_meet;exact⟨_,rfl,⟨by decide,by decide⟩,Q.o,QM.o⟩
      |true=>
       have R:=YA YO.o HQ.o.2.2.2.2.2.2 FK UK;by_cases b5:fK now q e f<=bH now q
       ·rw[if_pos b5]at R;have Q:Hid (FR=(aY now 11,M)):=by
         rw[<-SF.o,uI N.o.1 N.o.2 yM.o (by rw[R];decide),R];exact rfl
        clear EE FK UK R;go_wp2_with (first|(go_at_call 174;refine(QL.o _ L.o O.o).mono ?_;rintro r w5 ⟨rfl,C⟩;have B:=hid (t.o e f _ _ L.o O.o (C.mono (λ_ _ _ n=>.inl n))).1;have U:=hid (t.o e f _ _ L.o O.o (C.mono (λ_ _ _ n=>.inl n))).2;clear C;obtain⟨ae,ag,av,al,ak,af,ai,ab,an,aj⟩:=jg B.o.ask)|(go_at_call 175;refine(YP.o _ B.o U.o).mono ?_;rintro r w6 ⟨rfl,g6⟩;have QM:=hid (t.o e f _ _ B.o U.o (CF.bF g6 _)).1;have E:=hid (t.o e f _ _ B.o U.o (CF.bF g6 _)).2;clear g6;obtain⟨aX,a8,aP,aJ,bo,a6,bj,bh,aK,bq⟩:=jg QM.o.ask)|(go_at_call 176;refine(aN.o e f _ he hf E.o).mono ?_;rintro r u ⟨rfl,m,au⟩;have g7:=hid (au▸aR (cC w6 none) m:w6.grownBy u none);clear au;have yN:=hid (t.o e f _ _ QM.o E.o (CF.bF g7.o _)).1;have M8:=hid (t.o e f _ _ QM.o E.o (CF.bF g7.o _)).2;clear g7;obtain⟨bt,cd,b1,b3,b4,b9,cm,bA,bK,bN⟩:=jg yN.o.ask))
        go_meet;exact⟨_,rfl,⟨by decide,by decide⟩,Q.o,yN.o⟩
       ·rw[if_neg b5]at R;have Q:=hid (Yy N.o.1 N.o.2 yM.o R);rw[SF.o]at Q;clear EE FK UK R;go_wp2_with (first|(go_at_call 174;refine(QL.o _ L.o O.o).mono ?_;rintro r w5 ⟨rfl,C⟩;have B:=hid (t.o e f _ _ L.o O.o (C.mono (λ_ _ _ n=>.inl n))).1;have U:=hid (t.o e f _ _ L.o O.o (C.mono (λ_ _ _ n=>.inl n))).2;clear C;obtain⟨ae,ag,av,al,ak,af,ai,ab,an,aj⟩:=jg B.o.ask)|(go_at_call 175;refine(YP.o _ B.o U.o).mono ?_;rintro r w6 ⟨rfl,g6⟩;have QM:=hid (t.o e f _ _ B.o U.o (CF.bF g6 _)).1;have E:=hid (t.o e f _ _ B.o U.o (CF.bF g6 _)).2;clear g6;obtain⟨aX,a8,aP,aJ,bo,a6,bj,bh,aK,bq⟩:=jg QM.o.ask)|(go_at_call 176;refine(aN.o e f _ he hf E.o).mono ?_;rintro r u ⟨rfl,m,au⟩;have g7:=hid (au▸aR (cC w6 none) m:w6.grownBy u none);clear au;have yN:=hid (t.o e f _ _ QM.o E.o (CF.bF g7.o _)).1;have M8:=hid (t.o e f _ _ QM.o E.o (CF.bF g7.o _)).2;clear g7;obtain⟨bt,cd,b1,b3,b4,b9,cm,bA,bK,bN⟩:=jg yN.o.ask))
        clear k0 k1 k2 k3 k4 k5 k6 k7 k8 k9 ae ag av al ak af ai ab an aj aX a8 aP aJ bo a6 bj bh aK bq b3 b4 b9 cm bA bK bN L B QM O U E cj QL YN YP aN;have l4:=yN.o.hear.c4;go_cut [10] (λp Z=>∃rb,p=.pointer (some ⟨rb,0,none⟩)/\w.heap.size+1<rb/\dB Z rb #[ι 0,υ 0,.string q.ay,ι now,ι (bH now q),ι (fK now q e f),ι 0,.string q.aV,ι f.aH,υ f.key.toNat,υ 0,ι q.bU,ι e.aH,υ e.key.toNat,υ 0]/\EB J w Z i g base T H G I po pr dp dQ M now w.heap.size (q.cells A v)/\eZ Z (w.heap.size+1) e f)
        case first=>
         have cn:=jE (M8.o.c 0 _ rfl);have na:w.heap.size≠u.heap.size:=agE;have nb:i≠u.heap.size:=ahI;have dO:u.heap.size≠w.heap.size:=λe=>na e.symm;have ec:u.heap.size≠i:=λe=>nb e.symm;have Y:Hid (∀W,u.grownBy W none->W.cell? (w,0)=some (.string q.ay)/\W.cell? (w,1)=some (.string q.aV)/\W.cell? (w,2)=some (ι q.bU)/\W.cell? (i,4)=some (ι now)):=λW F=>⟨F.cell (yN.o.ask 0 _ rfl) agI,F.cell (yN.o.ask 1 _ rfl) agI,F.cell (yN.o.ask 2 _ rfl) agI,F.cell yN.o.hear.c4 agI⟩
         have bd:∀W,u.grownBy W none->Calls prog 177 #[(w.heap.size+1,8)] W λr w'=>r=.returned (.agg #[ι f.aH,υ f.key.toNat])/\W.grownBy w' none:=λW F=>sS (w.heap.size+1) 8 f W (F.cell (M8.o.s 1 _ rfl) agI) (F.cell (M8.o.s 2 _ rfl) agI);have aB:∀W,u.grownBy W none->Calls prog 177 #[(w.heap.size+1,0)] W λr w'=>r=.returned (.agg #[ι e.aH,υ e.key.toNat])/\W.grownBy w' none:=λW F=>sS (w.heap.size+1) 0 e W (F.cell (M8.o.c 1 _ rfl) agI) (F.cell (M8.o.c 2 _ rfl) agI);have dk:Hid (Calls prog 177 #[(w.heap.size+1,8)] u.drew λr w'=>r=.returned (.agg #[ι f.aH,υ f.key.toNat])/\u.grownBy w' none):=(bd _ (bg (cC _ _))).mono λ_ _ ⟨a,b⟩=>⟨a,je b⟩
         have UL:Hid (Calls prog 177 #[(w.heap.size+1,8)] ((u.alloc (.cells #[ι 0,υ 0,.string ⟨#[]⟩,ι 0,ι 0,ι 0,ι 0,.string ⟨#[]⟩,ι 0,υ 0,υ 0,ι 0,ι 0,υ 0,υ 0] 338)).drew) λr w'=>r=.returned (.agg #[ι f.aH,υ f.key.toNat])/\u.grownBy w' none/\dB w' u.heap.size #[ι 0,υ 0,.string ⟨#[]⟩,ι 0,ι 0,ι 0,ι 0,.string ⟨#[]⟩,ι 0,υ 0,υ 0,ι 0,ι 0,υ 0,υ 0]):=(bd _ (bg (cx _ _ none))).mono λ_ _ ⟨a,b⟩=>⟨a,aa (bg (cx _ _ none)) b,(dB.new u _ _).drew.grown b agI⟩
         have cW:Hid (∀W,u.grownBy W none->Calls prog 177 #[(w.heap.size+1,0)] W λr w'=>r=.returned (.agg #[ι e.aH,υ e.key.toNat])/\u.grownBy w' none):=λW F=>(aB W F).mono λ_ _ ⟨a,b⟩=>⟨a,aa F b⟩
         have cX:Hid (∀W,u.grownBy W none->Calls prog 177 #[(w.heap.size+1,0)] (W.alloc (.cells #[ι 0,υ 0,.string ⟨#[]⟩,ι 0,ι 0,ι 0,ι 0,.string ⟨#[]⟩,ι 0,υ 0,υ 0,ι 0,ι 0,υ 0,υ 0] 338)) λr w'=>r=.returned (.agg #[ι e.aH,υ e.key.toNat])/\u.grownBy w' none/\dB w' W.heap.size #[ι 0,υ 0,.string ⟨#[]⟩,ι 0,ι 0,ι 0,ι 0,.string ⟨#[]⟩,ι 0,υ 0,υ 0,ι 0,ι 0,υ 0,υ 0]):=λW F=>(aB _ (aM F _)).mono λ_ _ ⟨a,b⟩=>⟨a,aa (aM F _) b,(dB.new W _ _).grown b agI⟩
         have cK:Hid (∀W,u.grownBy W none->dB W u.heap.size #[ι 0,υ 0,.string ⟨#[]⟩,ι 0,ι 0,ι 0,ι 0,.string ⟨#[]⟩,ι 0,υ 0,υ 0,ι 0,ι 0,υ 0,υ 0]->Calls prog 177 #[(w.heap.size+1,0)] W λr w'=>r=.returned (.agg #[ι e.aH,υ e.key.toNat])/\u.grownBy w' none/\dB w' u.heap.size #[ι 0,υ 0,.string ⟨#[]⟩,ι 0,ι 0,ι 0,ι 0,.string ⟨#[]⟩,ι 0,υ 0,υ 0,ι 0,ι 0,υ 0,υ 0]):=λW F hB=>(aB W F).mono λ_ _ ⟨a,b⟩=>⟨a,aa F b,hB.grown b agI⟩
         clear bd aB;obtain⟨x0,x1,x2,x4⟩:=Y.o _ (cx u (.cells #[ι 0,υ 0,.string ⟨#[]⟩,ι 0,ι 0,ι 0,ι 0,.string ⟨#[]⟩,ι 0,υ 0,υ 0,ι 0,ι 0,υ 0,υ 0] 338) none)
         go_region_held3 (λw'=>w'.cell? ⟨w.heap.size,0,none⟩=some (.string q.ay)/\w'.cell? ⟨w.heap.size,1,none⟩=some (.string q.aV)/\w'.cell? ⟨w.heap.size,2,none⟩=some (ι q.bU)/\w'.cell? ⟨i,4,none⟩=some (ι now)) (first|(with_reducible exact⟨kS na z0,kS na z1,kS na z2,kS nb z4⟩)|(with_reducible exact⟨kS Hy z0,kS Hy z1,kS Hy z2,kS bs z4⟩)|go_keep) (first
          |(go_at_call 177;(with_reducible apply Calls.mono dk.o);rintro r w8 ⟨rfl,g8⟩;have SI:=hid g8;clear g8;obtain⟨y0,y1,y2,y4⟩:=Y.o w8 SI.o;obtain⟨cV,cp,cY,dm⟩:=Y.o _ (aM SI.o (.cells #[.int .i64 0,.int .u64 0,.string ⟨#[]⟩,.int .i64 0,.int .i64 0,.int .i64 0,.int .i64 0,.string ⟨#[]⟩,.int .i64 0,.int .u64 0,.int .u64 0,.int .i64 0,.int .i64 0,.int .u64 0,.int .u64 0] 338));have Hy:w.heap.size≠w8.heap.size:=aiP;have bs:i≠w8.heap.size:=(by have:=SI.o.size;have:=HN.o.1;omega);have dc:=hid (cW.o w8 SI.o);have dd:=hid (cX.o w8 SI.o))
          |(go_at_call 177;(with_reducible apply Calls.mono UL.o);rintro r w8 ⟨rfl,g8,bz⟩;have cT:=hid bz;clear bz;have SI:=hid g8;clear g8;obtain⟨y0,y1,y2,y4⟩:=Y.o w8 SI.o;obtain⟨cV,cp,cY,dm⟩:=Y.o _ (aM SI.o (.cells #[.int .i64 0,.int .u64 0,.string ⟨#[]⟩,.int .i64 0,.int .i64 0,.int .i64 0,.int .i64 0,.string ⟨#[]⟩,.int .i64 0,.int .u64 0,.int .u64 0,.int .i64 0,.int .i64 0,.int .u64 0,.int .u64 0] 338));have Hy:w.heap.size≠w8.heap.size:=aiP;have bs:i≠w8.heap.size:=(by have:=SI.o.size;have:=HN.o.1;omega);have dq:=hid (cK.o w8 SI.o cT.o))
          |(go_at_call 177;(with_reducible apply Calls.mono dc.o);rintro r w9 ⟨rfl,g9⟩;have OY:=hid g9;clear g9;obtain⟨z0,z1,z2,z4⟩:=Y.o w9 OY.o;obtain⟨bG,bY,bZ,bE⟩:=Y.o _ (aM OY.o (.cells #[.int .i64 0,.int .u64 0,.string ⟨#[]⟩,.int .i64 0,.int .i64 0,.int .i64 0,.int .i64 0,.string ⟨#[]⟩,.int .i64 0,.int .u64 0,.int .u64 0,.int .i64 0,.int .i64 0,.int .u64 0,.int .u64 0] 338));obtain⟨bD,bB,bu,b2⟩:=Y.o _ (aM OY.o (.cells #[.int .i64 0,.int .u64 0,.string ⟨q.ay.toArray⟩,.int .i64 now,.int .i64 (bH now q),.int .i64 (fK now q e f),.int .i64 0,.string ⟨q.aV.toArray⟩,.int .i64 f.aH,.int .u64 (f.key.toNat:Int),.int .u64 0,.int .i64 q.bU,.int .i64 e.aH,.int .u64 (e.key.toNat:Int),.int .u64 0] 338)))
          |(go_at_call 177;(with_reducible apply Calls.mono dd.o);rintro r w9 ⟨rfl,g9,bz⟩;have OY:=hid g9;have d:=hid bz;clear g9 bz;have t0:=d.o.cell 0;have cz:=d.o.frozen 0;have t1:=d.o.cell 1;have cq:=d.o.frozen 1;have t2:=d.o.cell 2;have cZ:=d.o.frozen 2;have t3:=d.o.cell 3;have cr:=d.o.frozen 3;have t4:=d.o.cell 4;have cu:=d.o.frozen 4;have t5:=d.o.cell 5;have cR:=d.o.frozen 5;have t6:=d.o.cell 6;have dv:=d.o.frozen 6;have t7:=d.o.cell 7;have ct:=d.o.frozen 7;have t8:=d.o.cell 8;have cP:=d.o.frozen 8;have t9:=d.o.cell 9;have dn:=d.o.frozen 9;have cO:=d.o.cell 10;have cD:=d.o.frozen 10;have cv:=d.o.cell 11;have cQ:=d.o.frozen 11;have cL:=d.o.cell 12;have ds:=d.o.frozen 12;have cU:=d.o.cell 13;have df:=d.o.frozen 13;have cB:=d.o.cell 14;have c8:=d.o.frozen 14;obtain⟨z0,z1,z2,z4⟩:=Y.o w9 OY.o;obtain⟨bG,bY,bZ,bE⟩:=Y.o _ (aM OY.o (.cells #[.int .i64 0,.int .u64 0,.string ⟨#[]⟩,.int .i64 0,.int .i64 0,.int .i64 0,.int .i64 0,.string ⟨#[]⟩,.int .i64 0,.int .u64 0,.int .u64 0,.int .i64 0,.int .i64 0,.int .u64 0,.int .u64 0] 338));obtain⟨bD,bB,bu,b2⟩:=Y.o _ (aM OY.o (.cells #[.int .i64 0,.int .u64 0,.string ⟨q.ay.toArray⟩,.int .i64 now,.int .i64 (bH now q),.int .i64 (fK now q e f),.int .i64 0,.string ⟨q.aV.toArray⟩,.int .i64 f.aH,.int .u64 (f.key.toNat:Int),.int .u64 0,.int .i64 q.bU,.int .i64 e.aH,.int .u64 (e.key.toNat:Int),.int .u64 0] 338)))
          |(go_at_call 177;(with_reducible apply Calls.mono dq.o);rintro r w9 ⟨rfl,g9,bz⟩;have OY:=hid g9;have d:=hid bz;clear g9 bz;have t0:=d.o.cell 0;have cz:=d.o.frozen 0;have t1:=d.o.cell 1;have cq:=d.o.frozen 1;have t2:=d.o.cell 2;have cZ:=d.o.frozen 2;have t3:=d.o.cell 3;have cr:=d.o.frozen 3;have t4:=d.o.cell 4;have cu:=d.o.frozen 4;have t5:=d.o.cell 5;have cR:=d.o.frozen 5;have t6:=d.o.cell 6;have dv:=d.o.frozen 6;have t7:=d.o.cell 7;have ct:=d.o.frozen 7;have t8:=d.o.cell 8;have cP:=d.o.frozen 8;have t9:=d.o.cell 9;have dn:=d.o.frozen 9;have cO:=d.o.cell 10;have cD:=d.o.frozen 10;have cv:=d.o.cell 11;have cQ:=d.o.frozen 11;have cL:=d.o.cell 12;have ds:=d.o.frozen 12;have cU:=d.o.cell 13;have df:=d.o.frozen 13;have cB:=d.o.cell 14;have c8:=d.o.frozen 14;obtain⟨z0,z1,z2,z4⟩:=Y.o w9 OY.o;obtain⟨bG,bY,bZ,bE⟩:=Y.o _ (aM OY.o (.cells #[.int .i64 0,.int .u64 0,.string ⟨#[]⟩,.int .i64 0,.int .i64 0,.int .i64 0,.int .i64 0,.string ⟨#[]⟩,.int .i64 0,.int .u64 0,.int .u64 0,.int .i64 0,.int .i64 0,.int .u64 0,.int .u64 0] 338));obtain⟨bD,bB,bu,b2⟩:=Y.o _ (aM OY.o (.cells #[.int .i64 0,.int .u64 0,.string ⟨q.ay.toArray⟩,.int .i64 now,.int .i64 (bH now q),.int .i64 (fK now q e f),.int .i64 0,.string ⟨q.aV.toArray⟩,.int .i64 f.aH,.int .u64 (f.key.toNat:Int),.int .u64 0,.int .i64 q.bU,.int .i64 e.aH,.int .u64 (e.key.toNat:Int),.int .u64 0] 338))))
         all_goals go_wp2
         all_goals go_meet
         all_goals have pq:=t.o e f _ _ yN.o M8.o (CF.bF OY.o _)
         ·exact⟨_,rfl,(by have:=OY.o.size;omega),dB.new _ _ _,t.o e f _ _ pq.1 pq.2 (CF.bF (cx _ _ none) _)⟩
         ·exact⟨w8.heap.size,rfl,aiP,YH d.o _ _ _ _ _ _ _ _ _ _ _ _ _ _ _,t.o e f _ _ pq.1 pq.2 (afK w9 w8.heap.size _ _ _ _ _ _ _ _ _ _ _ _ _ _ _ _ (λ_=>.inr aiP))⟩
         ·exact⟨u.heap.size,rfl,cn,YH d.o _ _ _ _ _ _ _ _ _ _ _ _ _ _ _,t.o e f _ _ pq.1 pq.2 (afK w9 u.heap.size _ _ _ _ _ _ _ _ _ _ _ _ _ _ _ _ (λ_=>.inr agE))⟩
        case rest=>
         obtain⟨rb,rfl,bJ,hB,hX,hP⟩:=hcut;have aF:=hid hX;have aD:=hid hP;have cl:=hid hB;clear hX hP hB bt cd b1 l4 yN M8;obtain⟨k0,k1,k2,k3,k4,k5,k6,k7,k8,k9⟩:=jg aF.o.ask;have FM:=hid (Ey (w.heap.size+1) A v q e f wc aD.o);have bp:Hid (UI now q e f=if aI (oI q e f) 4=true then lesser (asked q.bW) (lesser (aW (bH now q) e.aC) (aW (bH now q) f.aC)) else 0):=rfl;have ca:=hid (kG (oI q e f) 4 2 agF agF);have cA:=hid (QC now q e f);have da:=hid (YB q e f);have bQ:=hid (b8.o e f);have cS:=hid (acx now q e f HQ.o.2.2.2.2.2.1);generalize oI q e f=fl at *;generalize UI now q e f=rn at *
         go_upto_if 78 with(first
          |(go_at_call 178;refine FM.o.mono ?_;clear FM;rintro r w9 ⟨rfl,g9⟩;have Wm:=hid (cl.o.grown g9 agI);have pq:=hid (t.o e f _ _ aF.o aD.o (CF.bF g9 _)).1;have bR:=hid (t.o e f _ _ aF.o aD.o (CF.bF g9 _)).2;clear g9;have b0:=Wm.o.cell 0;have dj:=Wm.o.frozen 0))
         have nr:rb≠w.heap.size:=agE;have dT:w.heap.size≠rb:=agE;go_cut [5] (λc Z=>c = ι 11/\dB Z rb #[ι fl,υ 0,.string q.ay,ι now,ι (bH now q),ι (fK now q e f),ι rn,.string q.aV,ι f.aH,υ f.key.toNat,υ 0,ι q.bU,ι e.aH,υ e.key.toNat,υ 0]/\EB J w Z i g base T H G I po pr dp dQ M now w.heap.size (q.cells A v)/\eZ Z (w.heap.size+1) e f)
         case first=>
          have hS:=t.o e f _ (w9.setCell (rb,0) (ι fl)) pq.o bR.o ((CF.refl _ _).setCell _ _ _ (λ_=>.inr bJ));have V:=hid hS.1;have bf:=hid hS.2;have Na:Hid (dB (w9.setCell (rb,0) (ι fl)) rb #[ι fl,υ 0,.string q.ay,ι now,ι (bH now q),ι (fK now q e f),ι 0,.string q.aV,ι f.aH,υ f.key.toNat,υ 0,ι q.bU,ι e.aH,υ e.key.toNat,υ 0]):=Wm.o.set 0 (ι fl);have hq:=ca.o;have u5:=pq.o.ask 5 _ rfl;clear hS;generalize aI fl 4=o4 at *;cases o4 with
          |true=>
           rw[eV]at hq;have hp:=cJ.1 hq;clear hq;have ck:=hid (bQ.o _ he hf bf.o)
           go_wp2_with (first
            |(go_at_call 179;refine ck.o.mono ?_;clear ck;rintro r ad ⟨rfl,m,bl⟩;have bm:Hid (dB ad rb #[.int .i64 fl,.int .u64 0,.string ⟨q.ay.toArray⟩,.int .i64 now,.int .i64 (bH now q),.int .i64 (fK now q e f),.int .i64 0,.string ⟨q.aV.toArray⟩,.int .i64 f.aH,.int .u64 (f.key.toNat:Int),.int .u64 0,.int .i64 q.bU,.int .i64 e.aH,.int .u64 (e.key.toNat:Int),.int .u64 0]):=(by rw[bl];exact Na.o.drewN m);have di:Hid ((w9.setCell ⟨rb,0,none⟩ (.int .i64 fl)).grownBy ad none):=(by rw[bl];exact aR (cC _ _) m);clear bl;have b6:=bm.o.cell 6;have dC:=bm.o.frozen 6))
           go_meet;have hS:=t.o e f _ _ V.o bf.o (CF.bF di.o _);exact⟨rfl,by rw[bp.o];exact bm.o.set 6 _,t.o e f _ _ hS.1 hS.2 ((CF.refl _ _).setCell _ _ _ (λ_=>.inr bJ))⟩
          |false=>
           rw[eM]at hq;have hp:=db.1 hq;clear hq;go_wp2_with fail;go_meet;exact⟨rfl,by rw[bp.o];exact Na.o,V.o,bf.o⟩
         case rest=>
          obtain⟨rfl,hB,hX,hP⟩:=hcut;have V:=hid hX;have Na:=hid hB;clear hX hP hB aF aD cl pq bR Wm k0 k1 k2 k3 k4 k5 k6 k7 k8 k9 b0 dj b8 bQ bp ca;obtain⟨rp,qM⟩:∃r:RP,r=⟨⟨fl,0,q.ay,now,bH now q,fK now q e f,rn⟩,q.aV,f.aH,f.key,0,q.bU,e.aH,e.key,0⟩:=⟨_,rfl⟩
          have aE:nJ wc rb rp:=(by rw[qM];exact Na.o.range);have YQ:=ED Na.o 15 (cy 15);by_cases JF:M.aL.length<24
          ·obtain⟨ao,cap,hc⟩:=M0 V.o.bP;have HD:=hid (Sz i g rb M.aL.length cap ao rp wc V.o.hear.c3 JF hc aE YQ);rw[if_pos JF]at Q;clear hc aE YQ qM JF
           go_wp2_with (first
            |(go_at_call 180;refine HD.o.mono ?_;clear HD;rintro r ad ⟨rfl,YR⟩;have yD:=hid YR;clear YR))
           go_meet;exact⟨_,rfl,⟨by decide,by decide⟩,Q.o,kH.o _ _ V.o (yD.o.mono (λ_ _ _ e=>.inr agE))⟩
          ·obtain⟨qd,aQ,hc,bb,ba,aT,a7⟩:=IK V.o.bP agE;have bn:=vV.o.MX qd aQ;have dt:=HN.o.2;have HD:=hid (MV i g rb qd M.aL M.aL.length rp wc V.o.hear.c3 (hid rfl) agE bb ba hc (by have:=V.o.bP.live;rwa [cN]at this) aT bn.1 (a7.lt) aE YQ agE ahI vV.o.hbg);have cI:=hid (λW' off=>EC (W':=W') (rb:=rb) (off:=off) V.o.bP agE bb ba aT a7);rw[if_neg JF]at Q;obtain⟨ao,cap,hv,dw⟩:=vU V.o.r;subst hv;have c2:=V.o.hear.c2;have bT:=hid qM;have c9:=hid aQ;have bL:=hid bn;have ej:Hid (i≠rb):=(by have:=HN.o.1;exact hid agE);have cM:=hid YQ.lt;have HOr:Hid (Off pr rb):=λp hp e=>by have:=du.o p hp;omega
           have dr:Hid (∀W,nJ W rb (rp.drawn (eB M.aL 0) (eB M.aL 1) (eB M.aL 2))->Out W (.slice ao 0 cap) pr []->rb<W.heap.size->Calls prog 181 #[(rb,0),.slice ao 0 cap] W λe w'=>∃v',e=.returned v'/\aU W w' v' pr ([]++(rp.drawn (eB M.aL 0) (eB M.aL 1) (eB M.aL 2)).uW 11 3)):=
            λW h1 h2 h3=>zA (.slice ao 0 cap) pr [] rb _ W h2 h1 h3 HOr.o (QE bT.o da.o cS.o HQ.o N.o vV.o.sV) agI
           clear hc bb ba aT a7 bn dt aE YQ qM aQ JF
           go_wp2_with (first
            |(go_at_call 180;refine HD.o.mono ?_;clear HD;rintro r ad ⟨rfl,YS,YT,YR⟩;have c6:=hid YS;have cw:=hid YT;have yD:=hid YR;clear YS YT YR;have dR:=yD.o.cell c2 (λe=>by omega);have c7:=hid (fN cM.o yD.o.size))
            |(go_at_call 181;refine(dr.o _ c6.o (V.o.r.cf yD.o (λ_ _ j hj=>absurd hj agI)) c7.o).mono ?_;rintro r dx ⟨v',rfl,bS⟩;have cH:=hid bS;clear bS))
           first|go_ret|(rw[Exit.noGoto_ret];go_ret)
           refine⟨_,rfl,?_⟩;rw[Q.o];obtain⟨off,k1,k2,k3⟩:=cw.o;have hM:=cH.o;rw[M3 bT.o cA.o (lV N.o.2)]at hM;exact YJ V.o yD.o agE YM.o hM vV.o (cI.o ad off k1 k2 k3 yD.o bL.o.1 (by have:=bL.o.2.2.1;omega) (by have:=HN.o.2;omega)) c9.o rfl
    ·have Q:Hid (FR=(aY now pc,M)):=by
      rw[<-SF.o,uI N.o.1 N.o.2 yM.o (by rw[MZ (by rw[EE];exact h0),EE];exact h0),MZ (by rw[EE];exact h0),EE];exact rfl
     clear EE;go_wp2_with (first|(go_at_call 174;refine(QL.o _ L.o O.o).mono ?_;rintro r w5 ⟨rfl,C⟩;have B:=hid (t.o e f _ _ L.o O.o (C.mono (λ_ _ _ n=>.inl n))).1;have U:=hid (t.o e f _ _ L.o O.o (C.mono (λ_ _ _ n=>.inl n))).2;clear C;obtain⟨ae,ag,av,al,ak,af,ai,ab,an,aj⟩:=jg B.o.ask))
     exact ab8
   ·have OV:=hid (SA x y now 6 7 1 2 agF agF agF agF);have Q:Hid (FR=(aY now (dS x y now 6 7 1 2),M)):=(by rw[<-SF.o];exact QA N.o.1 N.o.2 ah);generalize dS x y now 6 7 1 2=pcd at *;go_wp2_with fail;exact ab8
 case rest=>
  obtain⟨K,rfl,bX,YU,hX⟩:=hcut;have dh:=hid (yC i g T H G I pr now K _ hX.hear hX.r vV.o.prH HQ.o.1 bX);have pq:=hid hX;have Q:=hid YU;clear hX YU bX;go_wp2_with (first|(go_at_call 141;refine dh.o.mono ?_;rintro e w9 ⟨v',rfl,M9⟩;have SK:=hid M9;clear M9))
  rw[Exit.noGoto_ret];go_ret;refine⟨_,rfl,?_⟩;rw[Q.o];exact QH pq.o SK.o vV.o
end Go.Proofs.YtlfifnpjeangmaaGreatDoor
