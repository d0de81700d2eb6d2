import Derived.Test.YtlfifnpjeangmaaGreatDoorGEQLookB
import Derived.Test.YtlfifnpjeangmaaGreatDoorGEDeskI
namespace Go.Proofs.YtlfifnpjeangmaaGreatDoor
set_option maxHeartbeats 4000000
open Proofs.Tryz Go.RowKit
set_option maxRecDepth 100000
variable {p:Prop}
theorem wu{p:Pc}{y:E}(h:dm p.pair=some y):y=p.ins:=by
 unfold dm at h;split at h
 .injection h with h;exact h.symm
 .cases h
def CD(p:PF):Prop:=b9 p.time/\b9 p.count
theorem oM:CD ⟨[],0,0⟩:=⟨gP,gP⟩
theorem td(h:p:=by
 go_wp2
 refine bodyPost_ret (aG results145 _ _ _ w.1.size rfl _ (oL (fF HC _ _ _))) rfl ?_
 exact⟨⟨[],0,0⟩,by rw[HO];rfl,λq hq=>(by rw[HO]at hq;cases hq),oM,az (az (az (HG) (cy _)) (cy _)) (cy _)⟩):p:=h
theorem NK(k)(v)(w)(h:gN w v k)(d:k.length<=100000):Calls prog 145 #[v] w λe a=>∃p,e=.returned (.tuple #[.agg p.cells.toArray,.bool (fI k).isSome])/\(∀q,fI k=some q->p=q)/\CD p/\w.grownBy a none:=by
 have u:Hid (fI k=((uO 48 k).bind Box.dF).bind tQ):=by show _=_;unfold fI;rw[uP]
 obtain⟨O,b⟩:=aq (fI k)
 rw[b]at u⊢
 clear b
 have HG:=I (cx w (.cells #[ε,Y 0,Y 0] 283) none)
 have HC:=I (b'.new w #[ε,Y 0,Y 0] 283)
 have H1:Hid (Calls prog 65 #[v,.int .u8 48] (w.alloc (.cells #[ε,Y 0,Y 0] 283)) λe a=>∃x i,e=.returned (.tuple #[x,.bool (uO 48 k).isSome])/\gN a x i/\i.length<=65535/\(∀j,uO 48 k=some j->j=i)/\(w.alloc (.cells #[ε,Y 0,Y 0] 283)).grownBy a none):=zU 48 k v _ (h.grown HG) G
 obtain⟨OM,b⟩:=aq (uO 48 k)
 rw[b]at u H1
 clear h d b
 go_in
 go_wp2_with (go_at_call 65;refine H1.mono ?_;clear H1;rintro e w1 ⟨x1,i,rfl,b,g,h,d⟩;have l:=I (aa HG d);have m:=I (HC.grown d);have S:=I h;have HI:=I g;have f:=I (qR i x1 w1 b.prt G);clear HG HC d b h g)
 refine f.mono ?_
 rintro e w2 ⟨x,rfl,D,J,b⟩
 have HG:=I (aa l b)
 have HC:=I (m.grown b)
 clear f b l m
 obtain⟨⟨e0,k0⟩,⟨e1,k1⟩,⟨e2,k2⟩,f0,f1,f2⟩:=IV HC.o
 cases OM with
 |none=>
  have HO:Hid (O=none):=u.o;clear u D J S;simp only[Option.isSome_none];exact td
 |some j=>
  obtain rfl:=S j rfl;simp only[dj];have f:Hid (O=(Box.dF j).bind tQ):=u.o;clear u S;have Q:Hid (∀C,Box.dF j=some C->∀q∈C,q.2.length<=65535):=λC h q hq=>cE (Box.lX h q hq) HI.o;obtain⟨cl,b⟩:=aq (Box.dF j);rw[b]at f D J Q⊢;clear b HI;cases cl with
  |none=>
   have HO:Hid (O=none):=f.o;obtain rfl:=J rfl;clear f D J;simp only[Option.isSome_none];exact td
  |some C=>
   obtain⟨l,X,h,_⟩:=D C rfl;clear D J;simp only[dj];by_cases K:l.length=3
   .obtain⟨d,p,r,rfl⟩:=ES K;have Uc:Hid (∀q∈[d,p,r],q.ins.length<=65535):=λq hq=>Q C rfl q.pair (by rw[<-h];exact eK hq);clear Q;obtain⟨g,c,rfl,L⟩:=X.some Z;have Ce:=I L;have m:Hid (O=(dm d.pair).bind λc=>(bG p.pair).bind λt=>(bG r.pair).bind λn=>some ⟨c,t,n⟩):=by
     show _=_;rw[f,<-h];rfl
    have t:w2.c g 0=some (.int .u8 (d.tag.toNat:Int)):=L.tag 0 Z;have A:w2.c g 1=some (.slice d.ad d.ins.length d.cap):=L.ins 0 Z;have b:=I (qU d w2 (L.2 d Z).1 (cE (Uc d Z) a7));have HV:Hid (∀W,jK W g [d,p,r]->Calls prog 97 #[ς g 0 3 c,Y 1,Y 3] W λe a=>∃o R,e=.returned (.tuple #[o,.bool ((bG p.pair).isSome&&(bG r.pair).isSome)])/\rJ [p,r] R/\a.ownsRow W.1.size 2 1 o R.length (R.map tf)/\W.grownBy a none):=λW n=>by
     have:=uQ 1 3 3 g c [d,p,r] W (I rfl) a7 a7 a7 n;simpa[jT]using this
    have n:Hid (∀y,dm d.pair=some y->y=d.ins):=λy a=>wu a;obtain⟨N,a⟩:=aq (dm d.pair);rw[a]at b m n;clear f h K X L a;simp only[de,List.length_nil];go_wp2_with (go_at_call 96;refine b.mono ?_;clear b;rintro e w3 ⟨rfl,a⟩;have vz:=I (Ce.grown a);have kS:=I (aa HG a);have yj:=I (HC.grown a);clear Ce HG HC a t A k0 k1 k2 f0 f1 f2)
    refine(HV _ vz).mono ?_;rintro e w4 ⟨o,R,rfl,W,b,T⟩;obtain⟨M,P,rfl,q1,q2⟩:=W.two;obtain⟨go,co,rfl,a,_⟩:=jJ b Z;have r0:w4.c go 0=some (Y M):=a 0 _ rfl;have r1:w4.c go 1=some (Y P):=a 1 _ rfl;have HG:=I (aa kS T);have HC:=I (yj.grown T);obtain⟨⟨e0,k0⟩,⟨e1,k1⟩,⟨e2,k2⟩,f0,f1,f2⟩:=IV HC.o;have t:Hid ((b9 M/\∀y,bG p.pair=some y->M=y)/\(b9 P/\∀y,bG r.pair=some y->P=y)):=⟨q1,q2⟩
    obtain⟨A,U⟩:=aq (bG p.pair);obtain⟨B,V⟩:=aq (bG r.pair);rw[U,V]at m t;rw[U,V];simp only[de,List.length_nil];clear HV vz kS yj T a b W q1 q2 U V Uc;cases N with
    |none=>
     have HO:Hid (O=none):=m.o;clear m;simp only[Option.isSome_none];exact td
    |some y=>
     obtain rfl:=n y rfl;simp only[dj];cases A with
     |none=>
      have HO:Hid (O=none):=m.o;clear m;simp only[Option.isSome_none,gj];exact td
     |some a=>
      obtain rfl:=t.1.2 a rfl;cases B with
      |none=>
       have HO:Hid (O=none):=m.o;clear m;simp only[Option.isSome_none,dj,Bool.and_false];exact td
      |some b=>
       obtain rfl:=t.2.2 b rfl;have HO:Hid (O=some ⟨d.ins,M,P⟩):=m.o;clear m;simp only[dj,fW];go_wp2_with fail;go_region;go_wp2;(try simp only[Exit.inBlock,Exit.then]);refine bodyPost_ret (aG results145 _ _ _ w.1.size rfl _ (oL (fF HC _ _ _))) rfl ?_;exact⟨⟨d.ins,M,P⟩,by rw[HO];rfl,λq hq=>(by rw[HO]at hq;injection hq),⟨t.1.1,t.2.1⟩,bg (az (az (az (HG) (cy _)) (cy _)) (cy _))⟩
   .have HO:Hid (O=none):=by
     show _=_;rw[f,<-h];exact EU _ (by rw[cR];exact K)
    obtain⟨b,c,rfl,_⟩:=X;obtain⟨m,a⟩:=aq l.length;rw[a]at K⊢;have d:((m:Int) != 3)=true:=oS;clear f h K a Q;exact td
variable {b:Nat}{w:World}
theorem Kk(g b d h i j l)(m n o p u)(B:iI g m)(C:iI h n)(D:iI i o)(J:iI j p)(Q:iI l u):
  (jP ([g,b,d,h,i,j,l].map Pc.pair)).isSome=((bG g.pair).isSome&&((dm d.pair).isSome&&(jT [h,i,j,l]&&(decide (b.tag.toNat=4)&&decide (b.ins.length=8)))))/\∀t,jP ([g,b,d,h,i,j,l].map Pc.pair)=some t->t=⟨m,Pure.joinL 0 b.ins,d.ins,n,o,p,u⟩:=by
 have e:jP ([g,b,d,h,i,j,l].map Pc.pair)=(bG g.pair).bind λf=>(P6 b.pair).bind λk=>(dm d.pair).bind λc=>(bG h.pair).bind λa=>(bG i.pair).bind λs=>(bG j.pair).bind λe=>(bG l.pair).bind λr=>some ⟨f,k,c,a,s,e,r⟩:=rfl
 have K:P6 b.pair=if b.tag.toNat=4/\b.ins.length=8 then some (Pure.joinL 0 b.ins) else none:=rfl
 have L:∀y,dm d.pair=some y->y=d.ins:=λy a=>wu a
 rw[e,K]
 unfold iI at *
 simp only[jT,List.all_cons,List.all_nil,fW]
 cases v:bG g.pair with
 |none=>grind
 |some a=>
  have R:=B.2 a v;by_cases q:b.tag.toNat=4/\b.ins.length=8
  .rw[dT q];cases w:dm d.pair with
   |none=>grind
   |some f=>
    have S:=L f w;cases x:bG h.pair with
    |none=>grind
    |some k=>
     have T:=C.2 k x;cases y:bG i.pair with
     |none=>grind
     |some r=>
      have U:=D.2 r y;cases A:bG j.pair with
      |none=>grind
      |some t=>
       have V:=J.2 t A;cases P:bG l.pair with
       |none=>grind
       |some M=>
        grind
  grind
theorem Rc{g j k:Nat}(h:b≠g)(v):(w.setCell (F b k) v).cell? (F g j)=w.cell? (F g j):=World.cell?_setCell_far _ _ _ _ h
theorem Vr(w:World)(a):w.drew.cell? a=w.cell? a:=rfl
theorem ZF{g j:Nat}(h:b≠g)(a d e f i k l):(((((((w.setCell (F b 0) a).setCell (F b 1) d).setCell (F b 2) e).setCell (F b 3) f).setCell (F b 4) i).setCell (F b 5) k).setCell (F b 6) l).drew.cell? (F g j)=w.cell? (F g j):=by
 rw[Vr,Rc h,Rc h,Rc h,Rc h,Rc h,Rc h,Rc h]
theorem Re{o:Nat}{a:List Value}(h:w.rangeAt b o a):w.drew.rangeAt b o a:=h
theorem rO:TK.In ⟨0,0,[],0,0,0,0⟩:=⟨gP,gP,gP,gP,gP⟩
theorem nB(h:p:=by
 go_wp2
 go_meet
 case rel=>exact⟨by rw[HS];rfl,rfl⟩):p:=h
theorem Bx(h:p:=by
 go_wp2
 refine bodyPost_ret (aG results113 _ _ _ w.1.size rfl _ (iF (fq HC _ _ _ _ _ _ _))) rfl ?_
 exact⟨⟨0,0,[],0,0,0,0⟩,by rw[HO];rfl,λq hq=>(by rw[HO]at hq;cases hq),rO,az (az (az (az (az (az (az (HG) (cy _)) (cy _)) (cy _)) (cy _)) (cy _)) (cy _)) (cy _)⟩):p:=h
theorem zX(r)(v)(w)(h:gN w v r)(b:r.length<=100000):Calls prog 113 #[v] w λe d=>∃p,e=.returned (.tuple #[.agg p.cells.toArray,.bool (dR r).isSome])/\(∀q,dR r=some q->p=q)/\p.In/\w.grownBy d none:=by
 have P:Hid (dR r=((uO 48 r).bind Box.dF).bind jP):=by show _=_;unfold dR;rw[uP]
 obtain⟨O,a⟩:=N (dR r)
 rw[a]at P⊢
 clear a
 have HG:=I (cx w (.cells #[Y 0,H 0,ε,Y 0,Y 0,Y 0,Y 0] 43) none)
 have HC:=I (b'.new w #[Y 0,H 0,ε,Y 0,Y 0,Y 0,Y 0] 43)
 have H1:Hid (Calls prog 65 #[v,.int .u8 48] (w.alloc (.cells #[Y 0,H 0,ε,Y 0,Y 0,Y 0,Y 0] 43)) λe d=>∃x i,e=.returned (.tuple #[x,.bool (uO 48 r).isSome])/\gN d x i/\i.length<=65535/\(∀j,uO 48 r=some j->j=i)/\(w.alloc (.cells #[Y 0,H 0,ε,Y 0,Y 0,Y 0,Y 0] 43)).grownBy d none):=zU 48 r v _ (h.grown HG) G
 obtain⟨OM,a⟩:=N (uO 48 r)
 rw[a]at P H1
 clear h b a
 go_in
 go_wp2_with (go_at_call 65;refine H1.mono ?_;clear H1;rintro e w1 ⟨x1,i,rfl,a,h,k,b⟩;have l:=I (aa HG b);have f:=I (HC.grown b);have HJ:=I k;have HI:=I h;have g:=I (qR i x1 w1 a.prt G);clear HG HC b a k h)
 refine g.mono ?_
 rintro e w2 ⟨x,rfl,h1,h2,a⟩
 have HG:=I (aa l a)
 have HC:=I (f.grown a)
 have ah:=f.o.lt
 clear g a l f
 obtain⟨⟨e0,k0⟩,⟨e1,k1⟩,⟨e2,k2⟩,⟨e3,k3⟩,⟨e4,k4⟩,⟨e5,k5⟩,⟨e6,k6⟩,f0,f1,f2,f3,f4,f5,f6⟩:=pV HC.o
 cases OM with
 |none=>
  have HO:Hid (O=none):=P.o;clear P h1 h2 HJ;simp only[Option.isSome_none];exact Bx
 |some j=>
  obtain rfl:=HJ j rfl;simp only[dj];have k:Hid (O=(Box.dF j).bind jP):=P.o;clear P HJ;have JD:Hid (∀R,Box.dF j=some R->∀q∈R,q.2.length<=65535):=λR n q hq=>cE (Box.lX n q hq) HI.o;obtain⟨cl,a⟩:=N (Box.dF j);rw[a]at k h1 h2 JD⊢;clear a HI;cases cl with
  |none=>
   have HO:Hid (O=none):=k.o;obtain rfl:=h2 rfl;clear k h1 h2;simp only[Option.isSome_none];exact Bx
  |some R=>
   obtain⟨l,hv,n,_,L⟩:=h1 R rfl;clear h1 h2;simp only[dj];by_cases hn:l.length=7
   .obtain⟨m,a,b,p,u,y,A,rfl⟩:=Ra hn;have Uc:Hid (∀q∈[m,a,b,p,u,y,A],q.ins.length<=65535):=λq hq=>JD R rfl q.pair (by rw[<-n];exact eK hq);clear JD;obtain⟨g,c,rfl,nX⟩:=hv.some Z;have f:=L g c rfl;have ae:w.1.size≠g:=G;have ag:g≠w.1.size:=G;clear L f;have D:=I nX;have yw:Hid (O=jP ([m,a,b,p,u,y,A].map Pc.pair)):=by
     show _=_;rw[k,<-n];rfl
    have U:w2.c g 0=some (.int .u8 (m.tag.toNat:Int)):=nX.tag 0 Z;have V:w2.c g 1=some (.slice m.ad m.ins.length m.cap):=nX.ins 0 Z;have f:=I (uj m w2 (nX.2 m Z).1);have Q:Hid (∀W,jK W g [m,a,b,p,u,y,A]->Calls prog 96 #[.agg #[.int .u8 (b.tag.toNat:Int),.slice b.ad b.ins.length b.cap]] W λe d=>e=.returned (.tuple #[.string ⟨b.ins.toArray⟩,.bool (dm b.pair).isSome])/\W.grownBy d none):=λW h=>qU b W (h.2 b Z).1 (cE (Uc b Z) a7);have HV:Hid (∀W,jK W g [m,a,b,p,u,y,A]->Calls prog 97 #[ς g 0 7 c,Y 3,Y 7] W λe d=>∃o vs,e=.returned (.tuple #[o,.bool (jT [p,u,y,A])])/\rJ [p,u,y,A] vs/\d.ownsRow W.1.size 2 1 o vs.length (vs.map tf)/\W.grownBy d none):=λW h=>uQ 3 7 7 g c [m,a,b,p,u,y,A] W (I rfl) a7 a7 a7 h;have HK:Hid (∀W,jK W g [m,a,b,p,u,y,A]->Calls prog 85 #[.slice a.ad a.ins.length a.cap] W λe d=>e=.returned (H ((Pure.joinL 0 a.ins).toNat:Int))/\W=d):=λW h=>vD a.ins a.ins.length a.ad a.cap W (I rfl) (cE (Uc a Z) a7) (h.2 a Z).1;clear k n hn hv nX;obtain⟨bn,B⟩:=N ((dm b.pair).isSome);obtain⟨ba,t⟩:=N (jT [p,u,y,A]);obtain⟨b0,h⟩:=N ((bG m.pair).isSome);rw[h]at f;rw[B]at Q;rw[t]at HV;have ab:=I B;have X:=I t;have W:=I h;clear B t h;simp only[de,List.length_nil];go_wp2_with (first|(go_at_call 68;refine f.mono ?_;clear f;rintro e w3 ⟨v0,rfl,h,C⟩;have J:=I h;have B:=I (D.grown C);have S:=I (aa HG C);have T:=I (HC.grown C);have c4:w3.c g 4=some (.int .u8 (b.tag.toNat:Int)):=B.tag 2 Z;have c5:w3.c g 5=some (.slice b.ad b.ins.length b.cap):=B.ins 2 Z;clear D HG HC C U V h k0 k1 k2 k3 k4 k5 k6 f0 f1 f2 f3 f4 f5 f6)|(go_at_call 96;refine(Q _ B).mono ?_;clear Q;rintro e w5 ⟨rfl,M⟩;have K:=I (B.grown M);have MZ:=I (aa S M);have t:=I (T.grown M);clear B S T M c4 c5))
    refine(HV _ K).mono ?_;rintro e M ⟨o,vs,rfl,ZE,C,g4⟩;obtain⟨S,T,U,V,rfl,q3,q4,q5,q6⟩:=ZE.four;obtain⟨f,co,rfl,h,Q⟩:=jJ C Z;have B:w.1.size≠f:=(by have:=t.o.lt;omega);have af:f≠w.1.size:=(by have:=t.o.lt;omega);clear Q;have GV:Hid (M.c f 0=some (Y S)/\M.c f 1=some (Y T)/\M.c f 2=some (Y U)/\M.c f 3=some (Y V)):=⟨h 0 _ rfl,h 1 _ rfl,h 2 _ rfl,h 3 _ rfl⟩
    have HG:=I (aa MZ g4);have HC:=I (t.grown g4);have D:=I (K.grown g4);have Q:=I (Kk m a b p u y A v0 S T U V J q3 q4 q5 q6);have O6:Hid (TK.In ⟨v0,Pure.joinL 0 a.ins,b.ins,S,T,U,V⟩):=⟨J.1,q3.1,q4.1,q5.1,q6.1⟩
    rw[<-yw,ab,X,W]at Q;simp only[de,List.length_nil];clear HV K MZ t g4 h C ZE q3 q4 q5 q6 Uc ab X W yw J;obtain⟨h,gO⟩:=N a.ins.length;obtain⟨K,t⟩:=N a.tag.toNat;have c2:M.c g 2=some (.int .u8 (a.tag.toNat:Int)):=D.tag 1 Z;have J:M.c g 3=some (.slice a.ad a.ins.length a.cap):=D.ins 1 Z;rw[t]at c2;rw[gO]at J;rw[gO]at HK;rw[gO,t]at Q;clear gO t;go_upto_region 8 with fail
    go_cut [79] (λz t=>z=.bool (!O.isSome)/\t=M)
    case first=>
     have HB:Hid (O.isSome=(b0&&(bn&&(ba&&(decide (K=4)&&decide (h=8)))))):=Q.1;clear Q;cases b0 with
     |false=>
      have HS:Hid (O.isSome=false):=HB.o;clear HB;exact nB
     |true=>
      cases bn with
      |false=>
       have HS:Hid (O.isSome=false):=HB.o;clear HB;exact nB
      |true=>
       cases ba with
       |false=>
        have HS:Hid (O.isSome=false):=HB.o;clear HB;exact nB
       |true=>
        by_cases t:K=4
        .have W:((K:Int) != 4)=false:=tx;by_cases C:h=8
         .have X:((h:Int) != 8)=false:=tx;have HS:Hid (O.isSome=true):=(by show _=_;rw[HB];simp[t,C]);clear HB t C;exact nB
         .have X:((h:Int) != 8)=true:=oS;have HS:Hid (O.isSome=false):=(by show _=_;rw[HB];simp[C]);clear HB t C;exact nB
        .have W:((K:Int) != 4)=true:=oS;have HS:Hid (O.isSome=false):=(by show _=_;rw[HB];simp[t]);clear HB t;exact nB
    case rest=>
     obtain⟨rfl,rfl⟩:=hcut;have C:=I Q.2;clear Q c2;obtain⟨⟨e0,k0⟩,⟨e1,k1⟩,⟨e2,k2⟩,⟨e3,k3⟩,⟨e4,k4⟩,⟨e5,k5⟩,⟨e6,k6⟩,f0,f1,f2,f3,f4,f5,f6⟩:=pV HC.o;cases O with
     |none=>
      clear C HK J;simp only[Option.isSome_none,eM];go_wp2;refine bodyPost_ret (aG results113 _ _ _ w.1.size rfl _ (iF (fq HC _ _ _ _ _ _ _))) rfl ?_;exact⟨⟨0,0,[],0,0,0,0⟩,rfl,λq hq=>(by cases hq),rO,az (az (az (az (az (az (az (HG) (cy _)) (cy _)) (cy _)) (cy _)) (cy _)) (cy _)) (cy _)⟩
     |some t=>
      obtain rfl:=C t rfl;clear C;simp only[dj,eV];have W:Hid (Calls prog 85 #[.slice a.ad h a.cap] (wc.drew) λe d=>e=.returned (H ((Pure.joinL 0 a.ins).toNat:Int))/\wc.drew=d):=HK _ (D.grown (bg (cC _ _)));obtain⟨r0,r1,r2,r3⟩:=GV.o;have X:Hid (wc.drew.c g 3=some (.slice a.ad h a.cap)/\wc.drew.c f 0=some (Y S)/\wc.drew.c f 1=some (Y T)/\wc.drew.c f 2=some (Y U)/\wc.drew.c f 3=some (Y V)):=⟨J,r0,r1,r2,r3⟩
      have ad:Hid (∀u0 u1 u2 u3 u4 u5 u6,(((((((wc.setCell (F w.1.size 0) u0).setCell (F w.1.size 1) u1).setCell (F w.1.size 2) u2).setCell (F w.1.size 3) u3).setCell (F w.1.size 4) u4).setCell (F w.1.size 5) u5).setCell (F w.1.size 6) u6).drew.c g 3=some (.slice a.ad h a.cap)/\(((((((wc.setCell (F w.1.size 0) u0).setCell (F w.1.size 1) u1).setCell (F w.1.size 2) u2).setCell (F w.1.size 3) u3).setCell (F w.1.size 4) u4).setCell (F w.1.size 5) u5).setCell (F w.1.size 6) u6).drew.c f 0=some (Y S)/\(((((((wc.setCell (F w.1.size 0) u0).setCell (F w.1.size 1) u1).setCell (F w.1.size 2) u2).setCell (F w.1.size 3) u3).setCell (F w.1.size 4) u4).setCell (F w.1.size 5) u5).setCell (F w.1.size 6) u6).drew.c f 1=some (Y T)/\(((((((wc.setCell (F w.1.size 0) u0).setCell (F w.1.size 1) u1).setCell (F w.1.size 2) u2).setCell (F w.1.size 3) u3).setCell (F w.1.size 4) u4).setCell (F w.1.size 5) u5).setCell (F w.1.size 6) u6).drew.c f 2=some (Y U)/\(((((((wc.setCell (F w.1.size 0) u0).setCell (F w.1.size 1) u1).setCell (F w.1.size 2) u2).setCell (F w.1.size 3) u3).setCell (F w.1.size 4) u4).setCell (F w.1.size 5) u5).setCell (F w.1.size 6) u6).drew.c f 3=some (Y V)):=λu0 u1 u2 u3 u4 u5 u6=>⟨(ZF ae _ _ _ _ _ _ _).trans J,(ZF B _ _ _ _ _ _ _).trans r0,(ZF B _ _ _ _ _ _ _).trans r1,(ZF B _ _ _ _ _ _ _).trans r2,(ZF B _ _ _ _ _ _ _).trans r3⟩
      clear HK D;go_wp2_with fail;go_region_held3 (λd=>d.c g 3=some (.slice a.ad h a.cap)/\d.c f 0=some (Y S)/\d.c f 1=some (Y T)/\d.c f 2=some (Y U)/\d.c f 3=some (Y V)) (first|(with_reducible exact X.o)|(with_reducible exact⟨J,r0,r1,r2,r3⟩)|(with_reducible exact ad.o _ _ _ _ _ _ _)|go_keep) (first|(go_at_call 85;refine W.mono ?_;rintro e w6 ⟨rfl,rfl⟩));go_wp2;(try simp only[Exit.inBlock,Exit.then]);refine bodyPost_ret (aG results113 _ _ _ w.1.size rfl _ (iF (Re (fq HC _ _ _ _ _ _ _)))) rfl ?_;exact⟨_,rfl,λq hq=>(by injection hq),O6,bg (az (az (az (az (az (az (az (HG) (cy _)) (cy _)) (cy _)) (cy _)) (cy _)) (cy _)) (cy _))⟩
   .have HO:Hid (O=none):=by
     show _=_;rw[k,<-n];exact Cf _ (by rw[cR];exact hn)
    obtain⟨b,c,rfl,_⟩:=hv;obtain⟨m,a⟩:=N l.length;rw[a]at hn⊢;have d:((m:Int) != 7)=true:=oS;clear k n hn a JD L;exact Bx
theorem ZG{a b:Int}(h:0<=a):a.tdiv b=a / b:=Int.tdiv_eq_ediv_of_nonneg h
theorem ZH{a b:Int}(h:0<=a):a.tmod b=a % b:=fk h
theorem lJ(e:RE)(f)(w)(p:0<f)(a:0<=e.ae)(h:e.ae<64):Calls prog 100 #[.agg e.arr,Y f] w λr b=>r=.returned (.bool (e.be.has f))/\w.grownBy b none:=by
 have g:=cx w (.cells e.arr 166) none
 have b:=I g
 have HB:Hid (e.be.has f=decide (e.ae / f % 2=1)):=rfl
 obtain⟨x,i⟩:=N e.ae
 unfold RE.arr at b⊢
 rw[i]at b a h HB⊢
 have k:(f==0)=false:=fA
 have d:0<=x / f:=Int.ediv_nonneg a G
 have j:x / f<64:=Int.lt_of_le_of_lt (Int.ediv_le_self _ a) h
 have n:x.tdiv f=x / f:=ZG a
 have o:(x / f).tmod 2=x / f % 2:=ZH d
 have l:¬ f=0:=G
 have hw:wrap64 (x / f)=x / f:=n8
 have m:wrap64 (x / f % 2)=x / f % 2:=n8
 clear i g
 go_in
 go_wp2
 go_ret
 exact⟨fP (by rw[HB];first|rfl|(rw[Bool.eq_iff_iff];simp)),b.o⟩
theorem IW(e:RE)(a)(w):Calls prog 142 #[.agg e.arr,Y a] w λr b=>r=.returned (.bool (e.be.gone a))/\w.grownBy b none:=by
 have b:=I (cx w (.cells e.arr 166) none)
 have HB:Hid (e.be.gone a=decide (e.bB≠0/\e.bB<=a)):=rfl
 obtain⟨x,d⟩:=N e.bB
 unfold RE.arr at b⊢
 rw[d]at b HB⊢
 clear d
 by_cases d:x=0
 .subst d;go_in;go_wp2;go_ret;exact⟨fP (by rw[HB];simp),b.o⟩
 .go_in;go_wp2;go_ret;exact⟨fP (by rw[HB];simp[d]),b.o⟩
theorem vA(h:p:=by
 go_in
 go_wp2
 go_ret2
 exact⟨by rw[HE];rfl,HG⟩):p:=h
theorem EW(e:RE)(n)(w)(d:1<=e.aH)(f:e.aH<=9223372036854775807):Calls prog 112 #[.agg e.arr,Y n] w λr a=>r=.returned (.tuple #[H (((e.be.keyOf n).getD 0).toNat:Int),.bool (e.be.keyOf n).isSome])/\w.grownBy a none:=by
 have HG:=I (cx w (.cells e.arr 166) none)
 have HB:Hid (e.be.keyOf n=if n=e.aH then some e.key else if n=e.aH-1/\1<e.aH then some e.before else none):=rfl
 obtain⟨R,a⟩:=N (e.be.keyOf n)
 rw[a]at HB⊢
 obtain⟨x,b⟩:=N e.aH
 unfold RE.arr at HG⊢
 rw[b]at HG HB d f⊢
 have hw:wrap64 (x-1)=x-1:=n8
 clear b a
 by_cases b:n=x
 .have HE:Hid (R=some e.key):=by show _=_;rw[HB,dT b]
  clear HB;subst b;exact vA
 .by_cases a:n=x-1
  .by_cases g:1<x
   .have HE:Hid (R=some e.before):=(by show _=_;rw[HB,cZ b,dT ⟨a,g⟩]);clear HB;have i:(n==x)=false:=fA;have h:(n==x-1)=true:=(by rw[db];exact a);clear a;exact vA
   .have HE:Hid (R=none):=(by show _=_;rw[HB,cZ b,cZ (λq=>g q.2)]);clear HB;have h:(n==x-1)=true:=(by rw[db];exact a);clear a;exact vA
  .have HE:Hid (R=none):=(by show _=_;rw[HB,cZ b,cZ (λq=>a q.1)]);clear HB;exact vA
def nQ(x y:BE)(now a b:Int):Int:=if x.gone now=true then a else if y.gone now=true then b else if x.has 32=true\/y.has 32=true then 12 else 0
theorem Cd(h:p:=by first|with_reducible rfl|(simp only[cF];done)|(simp only[cF];omega)):p:=h
variable {g:Nat}
theorem eB{b:Nat}{e:RE}(h:w.rangeAt b 0 e.cells):w.cell? (F b 0)=some (Y e.k)/\w.cell? (F b 1)=some (.string ⟨e.name.toArray⟩)/\w.cell? (F b 2)=some (H (e.zm.toNat:Int))/\w.cell? (F b 3)=some (Y e.bI)/\w.cell? (F b 4)=some (Y e.aC)/\w.cell? (F b 5)=some (Y e.bB)/\w.cell? (F b 6)=some (Y e.ae)/\w.cell? (F b 7)=some (Y e.aH)/\w.cell? (F b 8)=some (H (e.key.toNat:Int))/\w.cell? (F b 9)=some (H (e.before.toNat:Int)):=
 ⟨h 0 _ rfl,h 1 _ rfl,h 2 _ rfl,h 3 _ rfl,h 4 _ rfl,h 5 _ rfl,h 6 _ rfl,h 7 _ rfl,h 8 _ rfl,h 9 _ rfl⟩
theorem wy(w:World)(e:RE):(w.alloc (.cells e.arr 166)).rangeAt w.1.size 0 e.cells:=aS w e.arr 166
theorem aB{d:World}{b o:Nat}{a:List Value}(h:w.rangeAt b o a)(k:w.grownBy d none):d.rangeAt b o a:=λi v e=>k.cell (h i v e) Z
theorem tD(h:p:=by
 clear HR
 go_wp2
 go_ret
 exact⟨bD HS.o.symm,FJ⟩):p:=h
theorem zY(d)(x y:RE)(f a b)(w)(l:0<=x.ae/\x.ae<64)(r:0<=y.ae/\y.ae<64):Calls Tryz.prog 99 #[d,.agg x.arr,.agg y.arr,Y f,Y a,Y b] w λe g=>e=.returned (Y (nQ x.be y.be f a b))/\w.grownBy g none:=by
 have u:=I (aB (wy w x) (cx _ (.cells y.arr 166) none))
 have v:Hid (((w.alloc (.cells x.arr 166)).alloc (.cells y.arr 166)).rangeAt (w.1.size+1) 0 y.cells):=by
  have h:=wy (w.alloc (.cells x.arr 166)) y;rw[cF]at h;exact h
 have t:=I (aM (cx w (.cells x.arr 166) none) (.cells y.arr 166))
 have i:=I (λW=>IW x f W)
 have J:=I (λW=>IW y f W)
 have K:=I (λW=>lJ x 32 W O l.1 l.2)
 have L:=I (λW=>lJ y 32 W O r.1 r.2)
 have HR:Hid (nQ x.be y.be f a b=if x.be.gone f=true then a else if y.be.gone f=true then b else if x.be.has 32=true\/y.be.has 32=true then 12 else 0):=rfl
 obtain⟨R,A⟩:=N (nQ x.be y.be f a b)
 rw[A]at HR⊢
 obtain⟨p,j⟩:=N (x.be.gone f)
 obtain⟨q,k⟩:=N (y.be.gone f)
 obtain⟨m,g⟩:=N (x.be.has 32)
 obtain⟨n,h⟩:=N (y.be.has 32)
 rw[j,k,g,h]at HR
 rw[j]at i
 rw[k]at J
 rw[g]at K
 rw[h]at L
 clear j k g h A l r
 go_enter Tryz.func99,Tryz.ntmps99
 go_wp2_with fail
 refine(i _).mono ?_
 rintro e S ⟨rfl,h⟩
 have P:=I (aB u h)
 have g:=I (aB v h)
 have M:=I (aa t h)
 clear u v t h i
 obtain⟨j,k,l,r,t,u,v,A,B,C⟩:=eB g.o
 go_wp2_with fail
 refine(J _).mono ?_
 rintro e T ⟨rfl,D⟩
 have Q:=I (aB P D)
 have i:=I (aB g D)
 have h:=I (aa M D)
 clear P g M D J j k l r t u v A B C
 obtain⟨j,k,l,r,t,u,v,A,B,C⟩:=eB Q.o
 go_wp2_with fail
 refine(K _).mono ?_
 rintro e w3 ⟨rfl,D⟩
 have g:=I (aB i D)
 have J:=I (aa h D)
 clear Q i h D K j k l r t u v A B C
 obtain⟨j,k,l,r,t,u,v,A,B,C⟩:=eB g.o
 go_wp2_with fail
 refine(L _).mono ?_
 rintro e i ⟨rfl,h⟩
 have FJ:=I (aa J h)
 clear g J h L j k l r t u v A B C
 cases p with
 |true=>
  have HS:Hid (R=a):=HR.o;exact tD
 |false=>
  cases q with
  |true=>
   have HS:Hid (R=b):=HR.o;exact tD
  |false=>
   cases m with
   |true=>
    have HS:Hid (R=12):=(by show _=_;rw[HR];simp);exact tD
   |false=>
    cases n with
    |true=>
     have HS:Hid (R=12):=(by show _=_;rw[HR];simp);exact tD
    |false=>
     have HS:Hid (R=0):=(by show _=_;rw[HR];simp);exact tD
theorem S4{a:Array Value}{e:TypeId}{l:List Value}(b:a.toList=l)(h:g=w.1.size):(w.alloc (.cells a e)).rangeAt g 0 l:=by
 grind [aS]
theorem ZI{a:Array Value}{e:TypeId}{n:Nat}(b:a.size=n)(h:g=w.1.size):b' (w.alloc (.cells a e)) g n:=by
 grind [b'.new]
theorem TK.oO(t:TK):t.cells.toArray=#[Y t.ae,H (t.aN.toNat:Int),.string ⟨t.ay.toArray⟩,Y t.dV,Y t.start,Y t.fin,Y t.aC]:=rfl
theorem Vs{W:World}{b d e f i j k:Value}(h:w.grownBy W none)(a:w.1.size<=g):w.grownBy (((((((W.s g 0 b).s g 1 d).s g 2 e).s g 3 f).s g 4 i).s g 5 j).s g 6 k) none:=
 az (az (by grind [az]) a) a
theorem Kl(h:p:=by repeat (first|exact S4 rfl Cd|exact ZI rfl Cd|exact cx _ _ none|refine aB ?_ (cx _ _ none)|refine b'.grown ?_ (cx _ _ none)|refine aM ?_ _)):p:=h
theorem yk(h:p:=by rw[<-hn];exact EX _ B (λx hx=>(h x (List.mem_reverse.1 hx)).2)):p:=h
variable {L:List (Value×E)}{B:Nat}{W:World}
def lA(W:World)(B:Nat)(L:List (Value×E)):Prop:=∀x∈L,gN W x.1 x.2/\x.2.length<=B
theorem lA.nil(W)(B):lA W B []:=λ_ h=>by simp at h
theorem gN.shape{v:Value}{z:E}(h:gN W v z):∃a c,v=.slice a z.length c:=by
 obtain⟨a,c,b,_⟩:=h;exact⟨a,c,b⟩
theorem lA.grown{a:World}(h:lA W B L)(k:W.grownBy a none):lA a B L:=λx b=>⟨(h x b).1.grown k,(h x b).2⟩
theorem lA.push{a:World}{o:Value}{z:E}(h:lA W B L)(k:W.grownBy a none)(q:gN a o z)(d:z.length<=B):lA a B ((o,z)::L):=by
 intro x b;rcases List.mem_cons.1 b with e|e
 .subst e;exact⟨q,d⟩
 .exact h.grown k x e
theorem EX:∀(L)(B),(∀x∈L,x.2.length<=B)->(pW L).length<=L.length*B:=by
 intro L B;unfold pW;induction L with
 |nil=>intro _;simp
 |cons a L d=>
  intro h;have e:=h a Z;have f:=d (λx b=>h x (by simp[b]));rw[eE,eI,cD,de,Nat.succ_mul];omega
theorem oP(a)(l):(Box.box a l).length<=l.length+4:=by
 grind [Box.lg]
theorem jU(v)(B)(h:10<=B):(bS v).length<=B:=(by grind [fu])
theorem fK(l)(B)(h:l.length+4<=B):(dx l).length<=B:=cE (oP 4 l) h
theorem IX(k)(B)(h:12<=B):(nD k).length<=B:=cE (oP 4 _) (by rw[Pure.bQ];exact h)
theorem Fi(h:p:=by
 rintro e w' ⟨o,q1,q2,q3⟩
 exact⟨o,q1,q2,cE (oP 48 _) (Nat.add_le_add_right hc 4),q3⟩):p:=h
theorem lA.list(h:lA W B L)(b)(n)(a:b=(L.reverse.map λx=>x.1).toArray)(hn:L.reverse.length=n)(d:n<=1000)(f:n*B<=140737488351232):Calls prog 60 #[ς W.1.size 0 n n] (W.alloc (.cells b 37)) λe w'=>∃o,e=.returned o/\gN w' o (jO (L.reverse.map λx=>x.2))/\(jO (L.reverse.map λx=>x.2)).length<=n*B+4/\W.grownBy w' none:=by
 have hc:(pW L.reverse).length<=n*B:=yk
 refine(Vm L.reverse b n W (λx hx=>(h x (List.mem_reverse.1 hx)).1) a hn d G).mono ?_
 exact Fi
theorem RD.drawn{w p:World}{f d:Nat}{M:DM}{g:RG}(i:RD w f d M g){v:Value}{q:E}(o:w.grownBy W none)(l:W.ownsRow w.1.size 5 1 v q.length (q.map U8))(hw:p=W.setCell (F d 3) v)(a:f<=w.1.size):
  RD p f d {M with aL:=q} {g with dv:=v}/\w.grownBy p (some d)/\k' w.1.size v:=by
 have t:=i.bP.blk.lt
 have k:k' w.1.size v:=λb a=>(l.lt b a).1
 have m:=i.keep (λb a=>o.block b (i.lt b a).2 Z)
 have j:∀b,g.foot d b->v.ownBlock≠some b:=λb a e=>by have:=k b e;have:=(i.lt b a).2;omega
 have r:w.grownBy p (some d):=by
  subst hw;refine⟨o.os,o.tape,o.output,?_,λb a h=>?_⟩
  .rw[show(W.setCell (F d 3) v).1.size=W.1.size from by simp[World.setCell]];exact o.size
  .have n:b≠d:=λe=>h (by rw[e]);rw[show(W.setCell (F d 3) v).1[b]?=W.1[b]? from by simp[World.setCell,Array.getElem?_modify,Ne.symm n]];exact o.block b a Z
 have h:∀b,b≠d->p.1[b]?=W.1[b]?:=λb n=>by
  subst hw;simp[World.setCell,Array.getElem?_modify,Ne.symm n]
 refine⟨⟨⟨?_,cB m.bP.aF (λb a=>h b (λe=>i.bP.bne (by rw[a,e]))),dC (cB l (λb a=>h b (λe=>j d (.inl rfl) (by rw[a,e])))) a,i.bP.here,i.bP.bne,j d (.inl rfl),?_⟩,i.aF,cB m.aJ (by grind [RD.pne]),i.pne,i.pb,?_⟩,r,k⟩
 .subst hw;have:=m.bP.blk.set 3 v;simpa using this
 .cases n:g.bv.ownBlock with
  |none=>exact .inl rfl
  |some b=>exact .inr (λe=>j b (.inr (.inl n)) e.symm)
 .cases n:g.pv.ownBlock with
  |none=>exact .inl rfl
  |some b=>exact .inr (λe=>j b (.inr (.inr (.inl n))) e.symm)
theorem A8(a y)(M)(g)(w)(t:RD w a y M g)(x:8<=M.aL.length)(u:M.aL.length<=140737488355328)(j:a<=w.1.size):Calls prog 144 #[π y 0] w λe K=>e=.returned (H ((Pure.joinL 0 (M.aL.take 8)).toNat:Int))/\∃v,RD K a y {M with aL:=M.aL.drop 8} {g with dv:=v}/\w.grownBy K (some y)/\k' w.1.size v:=by
 obtain⟨D,l,B,m,C⟩:=info_parts Tryz.info5
 obtain⟨r,d,k,h,A,_,f⟩:=iZ t.bP.aL
 obtain⟨n,o⟩:=N M.aL.length
 rw[o]at x u k h
 have J:=t.bP.blk.cell 3
 have W:=t.bP.blk.frozen 3
 rw[k]at J
 simp only[cH,cG,cI]at J
 obtain⟨U,e1,S⟩:=yV (P:=prog) 37 5 D underlying37 l m r n d (I o) h 8 (8:Int) rfl x
 have V:∀w,(Instr.sliceAt 37 (.slice r n d) (some (Y 8)) none none).run prog w=.ok (.slice (sl r d 8) (n-8) (d-8)) w:=xJ (P:=prog) 37 5 D underlying37 l m r n d 8 x
 have v:=f.part d 8 (by rw[o];exact h)
 obtain⟨R,i⟩:=N (sl r d 8)
 have T:Hid (R=none->d-8=0):=by
  intro e;obtain⟨b,p,q,_⟩:=f.addr (by rw[o];omega);rw[<-i,q]at e;unfold sl at e;split at e<;>cases e
 rw[i]at V v
 have Q:=I t
 have L:=I (vD (M.aL.take 8) 8 U d w fA O (S w f))
 obtain⟨j8,q⟩:=N (Pure.joinL 0 (M.aL.take 8))
 rw[q]at L⊢
 have b:(M.aL.drop 8).length=n-8:=by rw[dr,o]
 have p:=I b
 have X:n-8<=140737488355328:=G
 clear t f S q k o b i x u h A
 go_in
 go_wp2_with (first|(go_at_call 85;refine L.mono ?_;rintro e K ⟨rfl,rfl⟩)|(at_builtin;refine bW _ rfl _ _ 37 rfl w.1.size 5 D underlying37 l B m C _ 0 [] rfl (World.ownsRow_nil _ _ _ _) R (n-8) (d-8) (M.aL.drop 8) rfl p T v G (cy _) ?_))
 intro q t b hg1 _
 have k:Hid (t.ownsRow w.1.size 5 1 q (M.aL.drop 8).length ((M.aL.drop 8).map U8)):=I (by rw[p];simpa using b)
 have i:=I xj
 obtain⟨u,x,rfl⟩:=bA k.o
 have f:=Q.bP.blk.grown i Z
 have h:=f.cell 3
 have o:=f.frozen 3
 simp only[cH,cG,cI]at h
 clear b hg1 f J W v
 go_wp2
 go_ret
 exact⟨rfl,_,Q.drawn i k (by rw[dr]) j⟩
set_option maxHeartbeats 8000000
theorem yn(h:p:=by show _=_;cases c0<;>cases c1<;>cases c2<;>simp[ik]<;>omega):p:=h
theorem sy(h:p:=by show _=_;rw[FO];simp):p:=h
variable {fl rn:Int}{k:Nat}{x:RE}{t:TK}
def zZ(aO old:Int)(x s:BE)(b f:Int):Bool:=aI aO b&&(aI old b&&(x.has f&&s.has f))
def ik(c0 c1 c2:Bool)(k:Nat):Int:=(if c0=true then(if 0<k then 1 else 0) else 0)+(if c1=true then(if 1<k then 2 else 0) else 0)+(if c2=true then(if 2<k then 4 else 0) else 0)
theorem Vv(b a)(x s):ik (zZ b a x s 1 4) (zZ b a x s 2 8) (zZ b a x s 4 2) 3=ig b a x s:=by
 grind [zZ,ik,ig]
theorem uS(e d)(x s)(a b):fB e d x s a b=if zZ e d x s 4 2=true then gS b (gS (aW a x.aC) (aW a s.aC)) else 0:=by
 grind [fB,zZ]
def TK.more(t:TK)(f r:Int):TK:={t with ae:=t.ae+f,aC:=r}
theorem Vw{f:Int}(e:0<=f)(g:f<4096)(a b d)(k):0<=f+ik a b d k/\f+ik a b d k<8192:=by
 unfold ik;(repeat' split)<;>omega
structure MW(w wr:World)(t:TK)(x s:RE)(fl rn:Int):Prop where
 t:wr.rangeAt w.1.size 0 [Y fl,H (t.aN.toNat:Int),.string ⟨t.ay.toArray⟩,Y t.dV,Y t.start,Y t.fin,Y rn]
 lt:b' wr w.1.size 7
 x:wr.rangeAt (w.1.size+1) 0 x.cells
 s:wr.rangeAt (w.1.size+2) 0 s.cells
 r:b' wr (w.1.size+3) 7
 b:wr.rangeAt (w.1.size+4) 0 [Y 1,Y 2,Y 4]
 f:wr.rangeAt (w.1.size+5) 0 [Y 4,Y 8,Y 2]
 g:w.grownBy wr none
theorem MW.grown{a:World}{s:RE}(h:MW w W t x s fl rn)(k:W.grownBy a none):MW w a t x s fl rn:=
 ⟨aB h.t k,h.lt.grown k,aB h.x k,aB h.s k,h.r.grown k,aB h.b k,aB h.f k,aa h.g k⟩
theorem MW.drew{s:RE}(h:MW w W t x s fl rn):MW w W.drew t x s fl rn:=h.grown (bg (cC _ _))
theorem gQ{g o:Nat}{a:List Value}(h:w.rangeAt g o a)(d:b≠g)(v):(w.setCell (F b k) v).rangeAt g o a:=λj u e=>by
 rw[World.cell?_setCell_far _ _ _ _ d]
 exact h j u e
theorem qK{d:List Value}(h:w.rangeAt b 0 d)(f:k<d.length)(v):(w.setCell (F b k) v).rangeAt b 0 (d.set k v):=by
 intro j x a;rw[List.getElem?_set]at a;by_cases e:k=j
 .subst e;rw[dT rfl,dT f]at a;injection a with a;subst a;have:=h k d[k] (cL f);exact vp
 .rw[cZ e]at a;rw[iA _ _ _ _ fA];exact h j x a
theorem dH{g n:Nat}(h:b' w b n)(v):b' (w.setCell (F g k) v) b n:=h.cf (ex:=λ_ _=>True) (by grind [CF.setCell,CF.refl])
theorem MW.agn{s:RE}(h:MW w W t x s fl rn)(v):MW w (W.setCell (F w.1.size 0) (Y v)) t x s v rn:=
 ⟨qK h.t Z _,dH h.lt _,gQ h.x G _,gQ h.s G _,dH h.r _,gQ h.b G _,gQ h.f G _,az h.g (cy _)⟩
theorem MW.agp{s:RE}(h:MW w W t x s fl rn)(v):MW w (W.setCell (F w.1.size 6) (Y v)) t x s fl v:=
 ⟨qK h.t Z _,dH h.lt _,gQ h.x G _,gQ h.s G _,dH h.r _,gQ h.b G _,gQ h.f G _,az h.g (cy _)⟩
theorem MW.sx{s:RE}(h:MW w W t x s fl rn)(k)(v)(a:[Value.int .i64 4,Y 8,Y 2][k]?=some v):W.cell? (F (w.1.size+1) 0)=some (Y x.k)/\W.cell? (F (w.1.size+1) 1)=some (.string ⟨x.name.toArray⟩)/\W.cell? (F (w.1.size+1) 2)=some (H (x.zm.toNat:Int))/\W.cell? (F (w.1.size+1) 3)=some (Y x.bI)/\W.cell? (F (w.1.size+1) 4)=some (Y x.aC)/\W.cell? (F (w.1.size+1) 5)=some (Y x.bB)/\W.cell? (F (w.1.size+1) 6)=some (Y x.ae)/\W.cell? (F (w.1.size+1) 7)=some (Y x.aH)/\W.cell? (F (w.1.size+1) 8)=some (H (x.key.toNat:Int))/\W.cell? (F (w.1.size+1) 9)=some (H (x.before.toNat:Int))/\W.cell? (F (w.1.size+5) k)=some v:=by
 obtain⟨b,d,e,f,g,i,j,l,m,n⟩:=eB h.x;have:=h.f k v a;grind
theorem MW.ss{s:RE}(h:MW w W t x s fl rn)(k)(v)(a:[Value.int .i64 4,Y 8,Y 2][k]?=some v):W.cell? (F (w.1.size+2) 0)=some (Y s.k)/\W.cell? (F (w.1.size+2) 1)=some (.string ⟨s.name.toArray⟩)/\W.cell? (F (w.1.size+2) 2)=some (H (s.zm.toNat:Int))/\W.cell? (F (w.1.size+2) 3)=some (Y s.bI)/\W.cell? (F (w.1.size+2) 4)=some (Y s.aC)/\W.cell? (F (w.1.size+2) 5)=some (Y s.bB)/\W.cell? (F (w.1.size+2) 6)=some (Y s.ae)/\W.cell? (F (w.1.size+2) 7)=some (Y s.aH)/\W.cell? (F (w.1.size+2) 8)=some (H (s.key.toNat:Int))/\W.cell? (F (w.1.size+2) 9)=some (H (s.before.toNat:Int))/\W.cell? (F (w.1.size+5) k)=some v:=by
 obtain⟨b,d,e,f,g,i,j,l,m,n⟩:=eB h.s;have:=h.f k v a;grind
theorem MW.s3{s:RE}(h:MW w W t x s fl rn):W.cell? (F w.1.size 4)=some (Y t.start)/\W.cell? (F (w.1.size+1) 4)=some (Y x.aC)/\W.cell? (F (w.1.size+2) 4)=some (Y s.aC):=⟨h.t 4 _ rfl,h.x 4 _ rfl,h.s 4 _ rfl⟩
theorem N0(h:p:=by
  have HX:=I HC.o
  simp only[gj,gn,Bool.and_false]at HX
  clear HC
  go_wp2_with (go_at_call 102;(first|(with_reducible refine Calls.mono (C3.o _) ?_)|(with_reducible refine Calls.mono (C4.o _) ?_));rintro e w' ⟨rfl,rfl⟩)
  go_meet
  case rel=>exact⟨by rw[HX],rfl⟩):p:=h
theorem sX(h:p:=by
 go_wp2
 go_roundw
 case rel=>grind [Hid.o]
 case measure=>decide):p:=h
theorem yp(h:p:=by
 cases bo<;>cases bl<;>cases p<;>exact N0):p:=h
theorem NT(t:TK)(n b l)(x s:RE)(w)(hx:0<=x.ae/\x.ae<64)(hs:0<=s.ae/\s.ae<64)(YJ:b9 x.aC)(YK:b9 s.aC)(ae:b9 t.start)(d:0<=t.ae)(f:t.ae<4096):Calls Tryz.prog 106 #[.agg t.cells.toArray,Y n,Y b,.agg x.arr,.agg s.arr,Y l] w λe w'=>e=.returned (.agg (t.more (ig n b x.be s.be) (if zZ n b x.be s.be 4 2=true then fB n b x.be s.be t.start l else t.aC)).cells.toArray)/\w.grownBy w' none:=by
 rw[<-Vv,uS]
 obtain⟨c0,r⟩:=N (zZ n b x.be s.be 1 4)
 obtain⟨c1,u⟩:=N (zZ n b x.be s.be 2 8)
 obtain⟨c2,v⟩:=N (zZ n b x.be s.be 4 2)
 rw[r,u,v]
 have X:=I (Vw d f c0 c1 c2)
 obtain⟨rn,a⟩:=N (gS l (gS (aW t.start x.be.aC) (aW t.start s.be.aC)))
 rw[a]
 obtain⟨FR,h⟩:=N ((if c2=true then rn else t.aC))
 have g:(if c2=true then(if c2=true then rn else 0) else t.aC)=(if c2=true then rn else t.aC):=by cases c2<;>rfl
 rw[g,h]
 clear g
 have SY:=I h
 have ab:=I a
 clear a d f h
 rw[TK.oO t]
 have a:MW w ((((((w.alloc (.cells #[Y t.ae,H (t.aN.toNat:Int),.string ⟨t.ay.toArray⟩,Y t.dV,Y t.start,Y t.fin,Y t.aC] 43)).alloc (.cells x.arr 166)).alloc (.cells s.arr 166)).alloc (.cells #[Y 0,H 0,ε,Y 0,Y 0,Y 0,Y 0] 43)).alloc (.cells #[Y 1,Y 2,Y 4] 2)).alloc (.cells #[Y 4,Y 8,Y 2] 3)) t x s t.ae t.aC:=by
  exact⟨Kl,Kl,Kl,Kl,Kl,Kl,Kl,Kl⟩
 have j:=I a
 clear a
 go_enter Tryz.func106,Tryz.ntmps106
 go_wp2
 go_loopw [15] (λi wr=>∃k:Nat,k<=3/\i = Y k/\MW w wr t x s (t.ae+ik c0 c1 c2 k) (if c2=true/\k=3 then rn else t.aC)) (λi _=>3-(intOf i).toNat)
 case atStart=>
  refine⟨0,by decide,rfl,?_⟩;rw[cZ (λh=>by omega)];have a:t.ae+ik c0 c1 c2 0=t.ae:=by cases c0<;>cases c1<;>cases c2<;>simp[ik]
  rw[a];exact j.o
 case round=>
  clear j;obtain⟨k,hk,rfl,d⟩:=hrel;have a:=I d;clear d;have ag:k=0\/k=1\/k=2\/k=3:=G;rcases ag with rfl|rfl|rfl|rfl
  .obtain⟨bo,B⟩:=N (aI n 1);obtain⟨bl,g⟩:=N (aI b 1);obtain⟨p,D⟩:=N (x.be.has 4);obtain⟨q,J⟩:=N (s.be.has 4);have y:=I (λW=>lJ x 4 W O hx.1 hx.2);have A:=I (λW=>lJ s 4 W O hs.1 hs.2);have C3:=I (λW=>eT n 1 0 W O O);have C4:=I (λW=>eT b 1 0 W O O);rw[D]at y;rw[J]at A;rw[B]at C3;rw[g]at C4;have HC:Hid (c0=(bo&&(bl&&(p&&q)))):=(by show _=_;rw[<-r,<-B,<-g,<-D,<-J];rfl);have FO:Hid (t.ae+ik c0 c1 c2 1=t.ae+ik c0 c1 c2 0+(if c0=true then 1 else 0)):=yn;have HB:=I (dN (X 0) (X 1));clear B g D J r u v X;obtain⟨f,d⟩:=N (t.ae+ik c0 c1 c2 0);rw[d]at a FO HB;clear d;rw[cZ G]at a;have j:=a;have a:=I j.o.drew;obtain⟨K,L,M,P,Q,R,S,T,U,V,C⟩:=a.o.sx 0 _ rfl;go_wp2_with fail;go_region_held3 (λw'=>w'.c (w.1.size+1) 0=some (Y x.k)/\w'.c (w.1.size+1) 1=some (.string ⟨x.name.toArray⟩)/\w'.c (w.1.size+1) 2=some (H (x.zm.toNat:Int))/\w'.c (w.1.size+1) 3=some (Y x.bI)/\w'.c (w.1.size+1) 4=some (Y x.aC)/\w'.c (w.1.size+1) 5=some (Y x.bB)/\w'.c (w.1.size+1) 6=some (Y x.ae)/\w'.c (w.1.size+1) 7=some (Y x.aH)/\w'.c (w.1.size+1) 8=some (H (x.key.toNat:Int))/\w'.c (w.1.size+1) 9=some (H (x.before.toNat:Int))/\w'.c (w.1.size+5) 0=some (Y 4)) (first|(with_reducible exact MW.sx a.o 0 _ rfl)|(with_reducible exact MW.sx a.o.drew 0 _ rfl)|go_keep) (first|(go_at_call 100;refine(y _).mono ?_;rintro e w5 ⟨rfl,g5⟩;have h:=I (a.grown g5);clear a g5 y;have a:=h;clear h));clear K L M P Q R S T U V C j;have j:=a;have a:=I j.drew;obtain⟨K,L,M,P,Q,R,S,T,U,V,C⟩:=a.ss 0 _ rfl;go_wp2_with fail;go_region_held3 (λw'=>w'.c (w.1.size+2) 0=some (Y s.k)/\w'.c (w.1.size+2) 1=some (.string ⟨s.name.toArray⟩)/\w'.c (w.1.size+2) 2=some (H (s.zm.toNat:Int))/\w'.c (w.1.size+2) 3=some (Y s.bI)/\w'.c (w.1.size+2) 4=some (Y s.aC)/\w'.c (w.1.size+2) 5=some (Y s.bB)/\w'.c (w.1.size+2) 6=some (Y s.ae)/\w'.c (w.1.size+2) 7=some (Y s.aH)/\w'.c (w.1.size+2) 8=some (H (s.key.toNat:Int))/\w'.c (w.1.size+2) 9=some (H (s.before.toNat:Int))/\w'.c (w.1.size+5) 0=some (Y 4)) (first|(with_reducible exact MW.ss a.o 0 _ rfl)|(with_reducible exact MW.ss a.o.drew 0 _ rfl)|go_keep) (first|(go_at_call 100;refine(A _).mono ?_;rintro e w6 ⟨rfl,g6⟩;have i:=I (a.grown g6);clear a g6 A;have a:=i;clear i));clear K L M P Q R S T U V C j;have z0:w6.c (w.1.size+4) 0=some (Y 1):=a.b 0 _ rfl;go_upto_region 8 with fail
   go_cut [55] (λz wx=>z=.bool c0/\wx=w6)
   case first=>
    exact yp
   case rest=>
    obtain⟨rfl,rfl⟩:=hcut;clear HC C3 C4;cases c0 with
    |false=>
     have qa:Hid (t.ae+ik false c1 c2 1=f):=sy;clear FO;exact sX
    |true=>
     have qa:Hid (t.ae+ik true c1 c2 1=f+1):=sy;rw[qa]at HB;obtain⟨⟨b0,b1⟩,b2,b3⟩:=HB.o;have af:wrap64 (f+1)=f+1:=n8;clear FO b0 b1 b2 b3 HB;have t0:wc.c w.1.size 0=some (Y f):=a.t 0 _ rfl;have WI:=a.o.lt.frozen 0;have ad:w.1.size≠w.1.size+4:=G;go_wp2_with fail;go_region;have m:=I (a.agn (f+1)).drew;clear a t0 WI;have z1:=m.b 0 _ rfl;exact sX
  .obtain⟨bo,B⟩:=N (aI n 2);obtain⟨bl,g⟩:=N (aI b 2);obtain⟨p,D⟩:=N (x.be.has 8);obtain⟨q,J⟩:=N (s.be.has 8);have y:=I (λW=>lJ x 8 W O hx.1 hx.2);have A:=I (λW=>lJ s 8 W O hs.1 hs.2);have C3:=I (λW=>eT n 2 1 W O O);have C4:=I (λW=>eT b 2 1 W O O);rw[D]at y;rw[J]at A;rw[B]at C3;rw[g]at C4;have HC:Hid (c1=(bo&&(bl&&(p&&q)))):=(by show _=_;rw[<-u,<-B,<-g,<-D,<-J];rfl);have FO:Hid (t.ae+ik c0 c1 c2 2=t.ae+ik c0 c1 c2 1+(if c1=true then 2 else 0)):=yn;have HB:=I (dN (X 1) (X 2));clear B g D J r u v X;obtain⟨f,d⟩:=N (t.ae+ik c0 c1 c2 1);rw[d]at a FO HB;clear d;rw[cZ G]at a;have j:=a;have a:=I j.o.drew;obtain⟨K,L,M,P,Q,R,S,T,U,V,C⟩:=a.o.sx 1 _ rfl;go_wp2_with fail;go_region_held3 (λw'=>w'.c (w.1.size+1) 0=some (Y x.k)/\w'.c (w.1.size+1) 1=some (.string ⟨x.name.toArray⟩)/\w'.c (w.1.size+1) 2=some (H (x.zm.toNat:Int))/\w'.c (w.1.size+1) 3=some (Y x.bI)/\w'.c (w.1.size+1) 4=some (Y x.aC)/\w'.c (w.1.size+1) 5=some (Y x.bB)/\w'.c (w.1.size+1) 6=some (Y x.ae)/\w'.c (w.1.size+1) 7=some (Y x.aH)/\w'.c (w.1.size+1) 8=some (H (x.key.toNat:Int))/\w'.c (w.1.size+1) 9=some (H (x.before.toNat:Int))/\w'.c (w.1.size+5) 1=some (Y 8)) (first|(with_reducible exact MW.sx a.o 1 _ rfl)|(with_reducible exact MW.sx a.o.drew 1 _ rfl)|go_keep) (first|(go_at_call 100;refine(y _).mono ?_;rintro e w5 ⟨rfl,g5⟩;have h:=I (a.grown g5);clear a g5 y;have a:=h;clear h));clear K L M P Q R S T U V C j;have j:=a;have a:=I j.drew;obtain⟨K,L,M,P,Q,R,S,T,U,V,C⟩:=a.ss 1 _ rfl;go_wp2_with fail;go_region_held3 (λw'=>w'.c (w.1.size+2) 0=some (Y s.k)/\w'.c (w.1.size+2) 1=some (.string ⟨s.name.toArray⟩)/\w'.c (w.1.size+2) 2=some (H (s.zm.toNat:Int))/\w'.c (w.1.size+2) 3=some (Y s.bI)/\w'.c (w.1.size+2) 4=some (Y s.aC)/\w'.c (w.1.size+2) 5=some (Y s.bB)/\w'.c (w.1.size+2) 6=some (Y s.ae)/\w'.c (w.1.size+2) 7=some (Y s.aH)/\w'.c (w.1.size+2) 8=some (H (s.key.toNat:Int))/\w'.c (w.1.size+2) 9=some (H (s.before.toNat:Int))/\w'.c (w.1.size+5) 1=some (Y 8)) (first|(with_reducible exact MW.ss a.o 1 _ rfl)|(with_reducible exact MW.ss a.o.drew 1 _ rfl)|go_keep) (first|(go_at_call 100;refine(A _).mono ?_;rintro e w6 ⟨rfl,g6⟩;have i:=I (a.grown g6);clear a g6 A;have a:=i;clear i));clear K L M P Q R S T U V C j;have z0:w6.c (w.1.size+4) 1=some (Y 2):=a.b 1 _ rfl;go_upto_region 8 with fail
   go_cut [55] (λz wx=>z=.bool c1/\wx=w6)
   case first=>
    exact yp
   case rest=>
    obtain⟨rfl,rfl⟩:=hcut;clear HC C3 C4;cases c1 with
    |false=>
     have qa:Hid (t.ae+ik c0 false c2 2=f):=sy;clear FO;exact sX
    |true=>
     have qa:Hid (t.ae+ik c0 true c2 2=f+2):=sy;rw[qa]at HB;obtain⟨⟨b0,b1⟩,b2,b3⟩:=HB.o;have af:wrap64 (f+2)=f+2:=n8;clear FO b0 b1 b2 b3 HB;have t0:wc.c w.1.size 0=some (Y f):=a.t 0 _ rfl;have WI:=a.o.lt.frozen 0;have ad:w.1.size≠w.1.size+4:=G;go_wp2_with fail;go_region;have m:=I (a.agn (f+2)).drew;clear a t0 WI;have z1:=m.b 1 _ rfl;exact sX
  .obtain⟨bo,B⟩:=N (aI n 4);obtain⟨bl,g⟩:=N (aI b 4);obtain⟨p,D⟩:=N (x.be.has 2);obtain⟨q,J⟩:=N (s.be.has 2);have y:=I (λW=>lJ x 2 W O hx.1 hx.2);have A:=I (λW=>lJ s 2 W O hs.1 hs.2);have C3:=I (λW=>eT n 4 2 W O O);have C4:=I (λW=>eT b 4 2 W O O);rw[D]at y;rw[J]at A;rw[B]at C3;rw[g]at C4;have HC:Hid (c2=(bo&&(bl&&(p&&q)))):=(by show _=_;rw[<-v,<-B,<-g,<-D,<-J];rfl);have FO:Hid (t.ae+ik c0 c1 c2 3=t.ae+ik c0 c1 c2 2+(if c2=true then 4 else 0)):=yn;have HB:=I (dN (X 2) (X 3));clear B g D J r u v X;obtain⟨f,d⟩:=N (t.ae+ik c0 c1 c2 2);rw[d]at a FO HB;clear d;rw[cZ G]at a;have j:=a;have a:=I j.o.drew;obtain⟨K,L,M,P,Q,R,S,T,U,V,C⟩:=a.o.sx 2 _ rfl;go_wp2_with fail;go_region_held3 (λw'=>w'.c (w.1.size+1) 0=some (Y x.k)/\w'.c (w.1.size+1) 1=some (.string ⟨x.name.toArray⟩)/\w'.c (w.1.size+1) 2=some (H (x.zm.toNat:Int))/\w'.c (w.1.size+1) 3=some (Y x.bI)/\w'.c (w.1.size+1) 4=some (Y x.aC)/\w'.c (w.1.size+1) 5=some (Y x.bB)/\w'.c (w.1.size+1) 6=some (Y x.ae)/\w'.c (w.1.size+1) 7=some (Y x.aH)/\w'.c (w.1.size+1) 8=some (H (x.key.toNat:Int))/\w'.c (w.1.size+1) 9=some (H (x.before.toNat:Int))/\w'.c (w.1.size+5) 2=some (Y 2)) (first|(with_reducible exact MW.sx a.o 2 _ rfl)|(with_reducible exact MW.sx a.o.drew 2 _ rfl)|go_keep) (first|(go_at_call 100;refine(y _).mono ?_;rintro e w5 ⟨rfl,g5⟩;have h:=I (a.grown g5);clear a g5 y;have a:=h;clear h));clear K L M P Q R S T U V C j;have j:=a;have a:=I j.drew;obtain⟨K,L,M,P,Q,R,S,T,U,V,C⟩:=a.ss 2 _ rfl;go_wp2_with fail;go_region_held3 (λw'=>w'.c (w.1.size+2) 0=some (Y s.k)/\w'.c (w.1.size+2) 1=some (.string ⟨s.name.toArray⟩)/\w'.c (w.1.size+2) 2=some (H (s.zm.toNat:Int))/\w'.c (w.1.size+2) 3=some (Y s.bI)/\w'.c (w.1.size+2) 4=some (Y s.aC)/\w'.c (w.1.size+2) 5=some (Y s.bB)/\w'.c (w.1.size+2) 6=some (Y s.ae)/\w'.c (w.1.size+2) 7=some (Y s.aH)/\w'.c (w.1.size+2) 8=some (H (s.key.toNat:Int))/\w'.c (w.1.size+2) 9=some (H (s.before.toNat:Int))/\w'.c (w.1.size+5) 2=some (Y 2)) (first|(with_reducible exact MW.ss a.o 2 _ rfl)|(with_reducible exact MW.ss a.o.drew 2 _ rfl)|go_keep) (first|(go_at_call 100;refine(A _).mono ?_;rintro e w6 ⟨rfl,g6⟩;have i:=I (a.grown g6);clear a g6 A;have a:=i;clear i));clear K L M P Q R S T U V C j;have z0:w6.c (w.1.size+4) 2=some (Y 4):=a.b 2 _ rfl;go_upto_region 8 with fail
   go_cut [55] (λz wx=>z=.bool c2/\wx=w6)
   case first=>
    exact yp
   case rest=>
    obtain⟨rfl,rfl⟩:=hcut;clear HC C3 C4;cases c2 with
    |false=>
     have qa:Hid (t.ae+ik c0 c1 false 3=f):=sy;clear FO;exact sX
    |true=>
     have qa:Hid (t.ae+ik c0 c1 true 3=f+4):=sy;rw[qa]at HB;obtain⟨⟨b0,b1⟩,b2,b3⟩:=HB.o;have af:wrap64 (f+4)=f+4:=n8;clear FO b0 b1 b2 b3 HB;have t0:wc.c w.1.size 0=some (Y f):=a.t 0 _ rfl;have WI:=a.o.lt.frozen 0;have ad:w.1.size≠w.1.size+4:=G;go_wp2_with fail;go_region;have m:=I (a.agn (f+4)).drew;clear a t0 WI;obtain⟨M,g⟩:=N ((wc.setCell (F w.1.size 0) (Y (f+4))).drew);rw[g]at m⊢;clear g;have z1:M.c (w.1.size+4) 2=some (Y 4):=m.b 2 _ rfl;have g:=I (λW=>mr t.start x.aC W ae YJ);have h:=I (λW=>mr t.start s.aC W ae YK);obtain⟨A,J⟩:=N (aW t.start x.aC);obtain⟨B,K⟩:=N (aW t.start s.aC);rw[J]at g;rw[K]at h;have i:=I (λW=>kC A B W);obtain⟨D,L⟩:=N (gS A B);rw[L]at i;have y:=I (λW=>kC l D W);have C:Hid (gS l D=rn):=(by show _=_;rw[<-L,<-J,<-K];exact ab);rw[C]at y;clear J K L ab;obtain⟨P,Q,R⟩:=m.s3;have K:M.c w.1.size 6=some (Y t.aC):=m.t 6 _ rfl;have J:=m.o.lt.frozen 6;go_wp2_with fail;go_region_held3 (λw'=>w'.c w.1.size 4=some (Y t.start)/\w'.c (w.1.size+1) 4=some (Y x.aC)/\w'.c (w.1.size+2) 4=some (Y s.aC)) (first|(with_reducible exact MW.s3 m.o)|(with_reducible exact MW.s3 m.o.drew)|(with_reducible exact MW.s3 (m.o.agp _))|(with_reducible exact MW.s3 (m.o.agp _).drew)|go_keep) (first|(go_at_call 103;(first|(with_reducible refine Calls.mono (g.o _) ?_)|(with_reducible refine Calls.mono (h.o _) ?_));rintro e w' ⟨rfl,rfl⟩)|(go_at_call 104;(first|(with_reducible refine Calls.mono (i.o _) ?_)|(with_reducible refine Calls.mono (y.o _) ?_));rintro e w' ⟨rfl,rfl⟩));have L:=I (m.agp rn).drew;clear m P Q R K J z1 g h i y;exact sX
  .have g:(if c2=true/\(3:Nat)=3 then rn else t.aC)=(if c2=true then rn else t.aC):=Z;rw[g,SY]at a;obtain⟨f,d⟩:=N (t.ae+ik c0 c1 c2 3);have FO:=I d;rw[d]at a;clear d g r u v X ab hk;have t0:wr.c w.1.size 0=some (Y f):=a.t 0 _ rfl;have W:wr.c w.1.size 1=some (H (t.aN.toNat:Int)):=a.t 1 _ rfl;have t2:wr.c w.1.size 2=some (.string ⟨t.ay.toArray⟩):=a.t 2 _ rfl;have t3:wr.c w.1.size 3=some (Y t.dV):=a.t 3 _ rfl;have t4:wr.c w.1.size 4=some (Y t.start):=a.t 4 _ rfl;have t5:wr.c w.1.size 5=some (Y t.fin):=a.t 5 _ rfl;have K:wr.c w.1.size 6=some (Y FR):=a.t 6 _ rfl;obtain⟨⟨d,P⟩,⟨g,Q⟩,⟨h,R⟩,⟨i,S⟩,⟨m,T⟩,⟨q,U⟩,⟨y,V⟩,A,B,C,D,J,L,M⟩:=pV a.r;go_wp2;refine bodyPost_ret (jE Tryz.results106 _ _ _ (w.1.size+3) rfl _ (iF (fq a.r _ _ _ _ _ _ _))) rfl ?_;refine⟨?_,az (az (az (az (az (az (az a.g G) G) G) G) G) G) G⟩;rw[<-FO];rfl
