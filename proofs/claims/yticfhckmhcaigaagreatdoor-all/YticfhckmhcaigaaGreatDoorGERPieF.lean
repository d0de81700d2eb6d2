import Derived.Test.YticfhckmhcaigaaGreatDoorGEQLookB
import Derived.Test.YticfhckmhcaigaaGreatDoorGEDeskI
namespace Go.Proofs.YticfhckmhcaigaaGreatDoor
set_option maxHeartbeats 4000000
open Proofs.Tryz Go.RowKit
set_option maxRecDepth 100000
variable {p:Prop}
theorem xB{p:Pc}{y:E}(h:dz p.pair=some y):y=p.ins:=by
 unfold dz at h;split at h
 .injection h with h;exact h.symm
 .cases h
def DE(p:PF):Prop:=bT p.time/\bT p.count
theorem pJ:DE ⟨[],0,0⟩:=⟨gY,gY⟩
theorem tj(h:p:=by
 go_wp2
 refine bodyPost_ret (aG results145 _ _ _ w.1.size rfl _ (pI (fH HC _ _ _))) rfl ?_
 exact⟨⟨[],0,0⟩,by rw[HO];rfl,λq hq=>(by rw[HO]at hq;cases hq),pJ,aB (aB (aB (HG) (cA _)) (cA _)) (cA _)⟩):p:=h
theorem P9(k)(v)(w)(h:gQ w v k)(d:k.length<=100000):Calls prog 145 #[v] w λe a=>∃p,e=.returned (.tuple #[.agg p.cells.toArray,.bool (fJ k).isSome])/\(∀q,fJ k=some q->p=q)/\DE p/\w.grownBy a none:=by
 have u:Hid (fJ k=((vN 48 k).bind Box.dG).bind uI):=by show _=_;unfold fJ;rw[vO]
 obtain⟨O,b⟩:=aq (fJ k)
 rw[b]at u⊢
 clear b
 have HG:=I (cy w (.cells #[ε,Y 0,Y 0] 283) none)
 have HC:=I (b9.new w #[ε,Y 0,Y 0] 283)
 have H1:Hid (Calls prog 65 #[v,.int .u8 48] (w.alloc (.cells #[ε,Y 0,Y 0] 283)) λe a=>∃x i,e=.returned (.tuple #[x,.bool (vN 48 k).isSome])/\gQ a x i/\i.length<=65535/\(∀j,vN 48 k=some j->j=i)/\(w.alloc (.cells #[ε,Y 0,Y 0] 283)).grownBy a none):=Bb 48 k v _ (h.grown HG) G
 obtain⟨OM,b⟩:=aq (vN 48 k)
 rw[b]at u H1
 clear h d b
 go_in
 go_wp2_with (go_at_call 65;refine H1.mono ?_;clear H1;rintro e w1 ⟨x1,i,rfl,b,g,h,d⟩;have l:=I (aa HG d);have m:=I (HC.grown d);have T:=I h;have HI:=I g;have f:=I (rM i x1 w1 b.prt G);clear HG HC d b h g)
 refine f.mono ?_
 rintro e w2 ⟨x,rfl,D,J,b⟩
 have HG:=I (aa l b)
 have HC:=I (m.grown b)
 clear f b l m
 obtain⟨⟨e0,k0⟩,⟨e1,k1⟩,⟨e2,k2⟩,f0,f1,f2⟩:=Kr HC.o
 cases OM with
 |none=>
  have HO:Hid (O=none):=u.o;clear u D J T;simp only[Option.isSome_none];exact tj
 |some j=>
  obtain rfl:=T j rfl;simp only[du];have f:Hid (O=(Box.dG j).bind uI):=u.o;clear u T;have R:Hid (∀C,Box.dG j=some C->∀q∈C,q.2.length<=65535):=λC h q hq=>cE (Box.mq h q hq) HI.o;obtain⟨cl,b⟩:=aq (Box.dG j);rw[b]at f D J R⊢;clear b HI;cases cl with
  |none=>
   have HO:Hid (O=none):=f.o;obtain rfl:=J rfl;clear f D J;simp only[Option.isSome_none];exact tj
  |some C=>
   obtain⟨l,X,h,_⟩:=D C rfl;clear D J;simp only[du];by_cases L:l.length=3
   .obtain⟨d,p,r,rfl⟩:=GV L;have Ww:Hid (∀q∈[d,p,r],q.ins.length<=65535):=λq hq=>R C rfl q.pair (by rw[<-h];exact eS hq);clear R;obtain⟨g,c,rfl,M⟩:=X.some Z;have DL:=I M;have m:Hid (O=(dz d.pair).bind λc=>(bG p.pair).bind λt=>(bG r.pair).bind λn=>some ⟨c,t,n⟩):=by
     show _=_;rw[f,<-h];rfl
    have t:w2.c g 0=some (.int .u8 (d.tag.toNat:Int)):=M.tag 0 Z;have A:w2.c g 1=some (.slice d.ad d.ins.length d.cap):=M.ins 0 Z;have b:=I (rO d w2 (M.2 d Z).1 (cE (Ww d Z) H));have HV:Hid (∀W,jT W g [d,p,r]->Calls prog 97 #[ς g 0 3 c,Y 1,Y 3] W λe a=>∃o S,e=.returned (.tuple #[o,.bool ((bG p.pair).isSome&&(bG r.pair).isSome)])/\sN [p,r] S/\a.ownsRow W.1.size 2 1 o S.length (S.map tn)/\W.grownBy a none):=λW n=>by
     have:=vP 1 3 3 g c [d,p,r] W (I rfl) H H H n;simpa[kD]using this
    have n:Hid (∀y,dz d.pair=some y->y=d.ins):=λy a=>xB a;obtain⟨N,a⟩:=aq (dz d.pair);rw[a]at b m n;clear f h L X M a;simp only[de,List.length_nil];go_wp2_with (go_at_call 96;refine b.mono ?_;clear b;rintro e w3 ⟨rfl,a⟩;have wC:=I (DL.grown a);have lh:=I (aa HG a);have vZ:=I (HC.grown a);clear DL HG HC a t A k0 k1 k2 f0 f1 f2)
    refine(HV _ wC).mono ?_;rintro e w4 ⟨o,S,rfl,K,b,U⟩;obtain⟨P,Q,rfl,q1,q2⟩:=K.two;obtain⟨go,co,rfl,a,_⟩:=jR b Z;have r0:w4.c go 0=some (Y P):=a 0 _ rfl;have r1:w4.c go 1=some (Y Q):=a 1 _ rfl;have HG:=I (aa lh U);have HC:=I (vZ.grown U);obtain⟨⟨e0,k0⟩,⟨e1,k1⟩,⟨e2,k2⟩,f0,f1,f2⟩:=Kr HC.o;have t:Hid ((bT P/\∀y,bG p.pair=some y->P=y)/\(bT Q/\∀y,bG r.pair=some y->Q=y)):=⟨q1,q2⟩
    obtain⟨A,V⟩:=aq (bG p.pair);obtain⟨B,W⟩:=aq (bG r.pair);rw[V,W]at m t;rw[V,W];simp only[de,List.length_nil];clear HV wC lh vZ U a b K q1 q2 V W Ww;cases N with
    |none=>
     have HO:Hid (O=none):=m.o;clear m;simp only[Option.isSome_none];exact tj
    |some y=>
     obtain rfl:=n y rfl;simp only[du];cases A with
     |none=>
      have HO:Hid (O=none):=m.o;clear m;simp only[Option.isSome_none,gE];exact tj
     |some a=>
      obtain rfl:=t.1.2 a rfl;cases B with
      |none=>
       have HO:Hid (O=none):=m.o;clear m;simp only[Option.isSome_none,du,Bool.and_false];exact tj
      |some b=>
       obtain rfl:=t.2.2 b rfl;have HO:Hid (O=some ⟨d.ins,P,Q⟩):=m.o;clear m;simp only[du,gh];go_wp2_with fail;go_region;go_wp2;(try simp only[Exit.inBlock,Exit.then]);refine bodyPost_ret (aG results145 _ _ _ w.1.size rfl _ (pI (fH HC _ _ _))) rfl ?_;exact⟨⟨d.ins,P,Q⟩,by rw[HO];rfl,λq hq=>(by rw[HO]at hq;injection hq),⟨t.1.1,t.2.1⟩,bg (aB (aB (aB (HG) (cA _)) (cA _)) (cA _))⟩
   .have HO:Hid (O=none):=by
     show _=_;rw[f,<-h];exact GZ _ (by rw[cU];exact L)
    obtain⟨b,c,rfl,_⟩:=X;obtain⟨m,a⟩:=aq l.length;rw[a]at L⊢;have d:((m:Int) != 3)=true:=pC;clear f h L a R;exact tj
variable {b:Nat}{w:World}
theorem ME(g b d h i j l)(m n o p u)(B:iN g m)(C:iN h n)(D:iN i o)(J:iN j p)(Q:iN l u):
  (jX ([g,b,d,h,i,j,l].map Pc.pair)).isSome=((bG g.pair).isSome&&((dz d.pair).isSome&&(kD [h,i,j,l]&&(decide (b.tag.toNat=4)&&decide (b.ins.length=8)))))/\∀t,jX ([g,b,d,h,i,j,l].map Pc.pair)=some t->t=⟨m,Pure.joinL 0 b.ins,d.ins,n,o,p,u⟩:=by
 have e:jX ([g,b,d,h,i,j,l].map Pc.pair)=(bG g.pair).bind λf=>(Su b.pair).bind λk=>(dz d.pair).bind λc=>(bG h.pair).bind λa=>(bG i.pair).bind λs=>(bG j.pair).bind λe=>(bG l.pair).bind λr=>some ⟨f,k,c,a,s,e,r⟩:=rfl
 have K:Su b.pair=if b.tag.toNat=4/\b.ins.length=8 then some (Pure.joinL 0 b.ins) else none:=rfl
 have L:∀y,dz d.pair=some y->y=d.ins:=λy a=>xB a
 rw[e,K]
 unfold iN at *
 simp only[kD,List.all_cons,List.all_nil,gh]
 cases v:bG g.pair with
 |none=>grind
 |some a=>
  have R:=B.2 a v;by_cases q:b.tag.toNat=4/\b.ins.length=8
  .rw[dQ q];cases w:dz d.pair with
   |none=>grind
   |some f=>
    have S:=L f w;cases x:bG h.pair with
    |none=>grind
    |some k=>
     have T:=C.2 k x;cases y:bG i.pair with
     |none=>grind
     |some r=>
      have U:=D.2 r y;cases A:bG j.pair with
      |none=>grind
      |some t=>
       have V:=J.2 t A;cases P:bG l.pair with
       |none=>grind
       |some M=>
        grind
  grind
theorem Uf{g j k:Nat}(h:b≠g)(v):(w.setCell (F b k) v).cell? (F g j)=w.cell? (F g j):=World.cell?_setCell_far _ _ _ _ h
theorem XU(w:World)(a):w.drew.cell? a=w.cell? a:=rfl
theorem ue{g j:Nat}(h:b≠g)(a d e f i k l):(((((((w.setCell (F b 0) a).setCell (F b 1) d).setCell (F b 2) e).setCell (F b 3) f).setCell (F b 4) i).setCell (F b 5) k).setCell (F b 6) l).drew.cell? (F g j)=w.cell? (F g j):=by
 rw[XU,Uf h,Uf h,Uf h,Uf h,Uf h,Uf h,Uf h]
theorem Ug{o:Nat}{a:List Value}(h:w.rangeAt b o a):w.drew.rangeAt b o a:=h
theorem sP:TK.In ⟨0,0,[],0,0,0,0⟩:=⟨gY,gY,gY,gY,gY⟩
theorem oB(h:p:=by
 go_wp2
 go_meet
 case rel=>exact⟨by rw[HS];rfl,rfl⟩):p:=h
theorem CD(h:p:=by
 go_wp2
 refine bodyPost_ret (aG results113 _ _ _ w.1.size rfl _ (iK (fw HC _ _ _ _ _ _ _))) rfl ?_
 exact⟨⟨0,0,[],0,0,0,0⟩,by rw[HO];rfl,λq hq=>(by rw[HO]at hq;cases hq),sP,aB (aB (aB (aB (aB (aB (aB (HG) (cA _)) (cA _)) (cA _)) (cA _)) (cA _)) (cA _)) (cA _)⟩):p:=h
theorem Be(r)(v)(w)(h:gQ w v r)(b:r.length<=100000):Calls prog 113 #[v] w λe d=>∃p,e=.returned (.tuple #[.agg p.cells.toArray,.bool (dU r).isSome])/\(∀q,dU r=some q->p=q)/\p.In/\w.grownBy d none:=by
 have M:Hid (dU r=((vN 48 r).bind Box.dG).bind jX):=by show _=_;unfold dU;rw[vO]
 obtain⟨O,a⟩:=aq (dU r)
 rw[a]at M⊢
 clear a
 have HG:=I (cy w (.cells #[Y 0,υ 0,ε,Y 0,Y 0,Y 0,Y 0] 43) none)
 have HC:=I (b9.new w #[Y 0,υ 0,ε,Y 0,Y 0,Y 0,Y 0] 43)
 have H1:Hid (Calls prog 65 #[v,.int .u8 48] (w.alloc (.cells #[Y 0,υ 0,ε,Y 0,Y 0,Y 0,Y 0] 43)) λe d=>∃x i,e=.returned (.tuple #[x,.bool (vN 48 r).isSome])/\gQ d x i/\i.length<=65535/\(∀j,vN 48 r=some j->j=i)/\(w.alloc (.cells #[Y 0,υ 0,ε,Y 0,Y 0,Y 0,Y 0] 43)).grownBy d none):=Bb 48 r v _ (h.grown HG) G
 obtain⟨OM,a⟩:=aq (vN 48 r)
 rw[a]at M H1
 clear h b a
 go_in
 go_wp2_with (go_at_call 65;refine H1.mono ?_;clear H1;rintro e w1 ⟨x1,i,rfl,a,h,k,b⟩;have l:=I (aa HG b);have f:=I (HC.grown b);have HJ:=I k;have HI:=I h;have g:=I (rM i x1 w1 a.prt G);clear HG HC b a k h)
 refine g.mono ?_
 rintro e w2 ⟨x,rfl,h1,h2,a⟩
 have HG:=I (aa l a)
 have HC:=I (f.grown a)
 have ah:=f.o.lt
 clear g a l f
 obtain⟨⟨e0,k0⟩,⟨e1,k1⟩,⟨e2,k2⟩,⟨e3,k3⟩,⟨e4,k4⟩,⟨e5,k5⟩,⟨e6,k6⟩,f0,f1,f2,f3,f4,f5,f6⟩:=qD HC.o
 cases OM with
 |none=>
  have HO:Hid (O=none):=M.o;clear M h1 h2 HJ;simp only[Option.isSome_none];exact CD
 |some j=>
  obtain rfl:=HJ j rfl;simp only[du];have k:Hid (O=(Box.dG j).bind jX):=M.o;clear M HJ;have LC:Hid (∀Q,Box.dG j=some Q->∀q∈Q,q.2.length<=65535):=λQ n q hq=>cE (Box.mq n q hq) HI.o;obtain⟨cl,a⟩:=aq (Box.dG j);rw[a]at k h1 h2 LC⊢;clear a HI;cases cl with
  |none=>
   have HO:Hid (O=none):=k.o;obtain rfl:=h2 rfl;clear k h1 h2;simp only[Option.isSome_none];exact CD
  |some Q=>
   obtain⟨l,hv,n,_,K⟩:=h1 Q rfl;clear h1 h2;simp only[du];by_cases hn:l.length=7
   .obtain⟨m,a,b,p,u,y,A,rfl⟩:=Ud hn;have Ww:Hid (∀q∈[m,a,b,p,u,y,A],q.ins.length<=65535):=λq hq=>LC Q rfl q.pair (by rw[<-n];exact eS hq);clear LC;obtain⟨g,c,rfl,oI⟩:=hv.some Z;have f:=K g c rfl;have ae:w.1.size≠g:=G;have ag:g≠w.1.size:=G;clear K f;have C:=I oI;have zB:Hid (O=jX ([m,a,b,p,u,y,A].map Pc.pair)):=by
     show _=_;rw[k,<-n];rfl
    have T:w2.c g 0=some (.int .u8 (m.tag.toNat:Int)):=oI.tag 0 Z;have U:w2.c g 1=some (.slice m.ad m.ins.length m.cap):=oI.ins 0 Z;have f:=I (uR m w2 (oI.2 m Z).1);have P:Hid (∀W,jT W g [m,a,b,p,u,y,A]->Calls prog 96 #[.agg #[.int .u8 (b.tag.toNat:Int),.slice b.ad b.ins.length b.cap]] W λe d=>e=.returned (.tuple #[.string ⟨b.ins.toArray⟩,.bool (dz b.pair).isSome])/\W.grownBy d none):=λW h=>rO b W (h.2 b Z).1 (cE (Ww b Z) H);have HV:Hid (∀W,jT W g [m,a,b,p,u,y,A]->Calls prog 97 #[ς g 0 7 c,Y 3,Y 7] W λe d=>∃o vs,e=.returned (.tuple #[o,.bool (kD [p,u,y,A])])/\sN [p,u,y,A] vs/\d.ownsRow W.1.size 2 1 o vs.length (vs.map tn)/\W.grownBy d none):=λW h=>vP 3 7 7 g c [m,a,b,p,u,y,A] W (I rfl) H H H h;have HK:Hid (∀W,jT W g [m,a,b,p,u,y,A]->Calls prog 85 #[.slice a.ad a.ins.length a.cap] W λe d=>e=.returned (υ ((Pure.joinL 0 a.ins).toNat:Int))/\W=d):=λW h=>tF a.ins a.ins.length a.ad a.cap W (I rfl) (cE (Ww a Z) H) (h.2 a Z).1;clear k n hn hv oI;obtain⟨bn,B⟩:=aq ((dz b.pair).isSome);obtain⟨ba,t⟩:=aq (kD [p,u,y,A]);obtain⟨b0,h⟩:=aq ((bG m.pair).isSome);rw[h]at f;rw[B]at P;rw[t]at HV;have X:=I B;have W:=I t;have V:=I h;clear B t h;simp only[de,List.length_nil];go_wp2_with (first|(go_at_call 68;refine f.mono ?_;clear f;rintro e w3 ⟨v0,rfl,h,B⟩;have D:=I h;have t:=I (C.grown B);have R:=I (aa HG B);have S:=I (HC.grown B);have c4:w3.c g 4=some (.int .u8 (b.tag.toNat:Int)):=t.tag 2 Z;have c5:w3.c g 5=some (.slice b.ad b.ins.length b.cap):=t.ins 2 Z;clear C HG HC B T U h k0 k1 k2 k3 k4 k5 k6 f0 f1 f2 f3 f4 f5 f6)|(go_at_call 96;refine(P _ t).mono ?_;clear P;rintro e w5 ⟨rfl,L⟩;have J:=I (t.grown L);have Ph:=I (aa R L);have XV:=I (S.grown L);clear t R S L c4 c5))
    refine(HV _ J).mono ?_;rintro e L ⟨o,vs,rfl,ab,t,g4⟩;obtain⟨R,S,T,U,rfl,q3,q4,q5,q6⟩:=ab.four;obtain⟨f,co,rfl,h,P⟩:=jR t Z;have B:w.1.size≠f:=(by have:=XV.o.lt;omega);have af:f≠w.1.size:=(by have:=XV.o.lt;omega);clear P;have Jm:Hid (L.c f 0=some (Y R)/\L.c f 1=some (Y S)/\L.c f 2=some (Y T)/\L.c f 3=some (Y U)):=⟨h 0 _ rfl,h 1 _ rfl,h 2 _ rfl,h 3 _ rfl⟩
    have HG:=I (aa Ph g4);have HC:=I (XV.grown g4);have C:=I (J.grown g4);have P:=I (ME m a b p u y A v0 R S T U D q3 q4 q5 q6);have Ra:Hid (TK.In ⟨v0,Pure.joinL 0 a.ins,b.ins,R,S,T,U⟩):=⟨D.1,q3.1,q4.1,q5.1,q6.1⟩
    rw[<-zB,X,W,V]at P;simp only[de,List.length_nil];clear HV J Ph XV g4 h t ab q3 q4 q5 q6 Ww X W V zB D;obtain⟨h,gN⟩:=aq a.ins.length;obtain⟨V,t⟩:=aq a.tag.toNat;have c2:L.c g 2=some (.int .u8 (a.tag.toNat:Int)):=C.tag 1 Z;have J:L.c g 3=some (.slice a.ad a.ins.length a.cap):=C.ins 1 Z;rw[t]at c2;rw[gN]at J;rw[gN]at HK;rw[gN,t]at P;clear gN t;go_upto_region 8 with fail
    go_cut [79] (λz t=>z=.bool (!O.isSome)/\t=L)
    case first=>
     have HB:Hid (O.isSome=(b0&&(bn&&(ba&&(decide (V=4)&&decide (h=8)))))):=P.1;clear P;cases b0 with
     |false=>
      have HS:Hid (O.isSome=false):=HB.o;clear HB;exact oB
     |true=>
      cases bn with
      |false=>
       have HS:Hid (O.isSome=false):=HB.o;clear HB;exact oB
      |true=>
       cases ba with
       |false=>
        have HS:Hid (O.isSome=false):=HB.o;clear HB;exact oB
       |true=>
        by_cases t:V=4
        .have W:((V:Int) != 4)=false:=tM;by_cases D:h=8
         .have X:((h:Int) != 8)=false:=tM;have HS:Hid (O.isSome=true):=(by show _=_;rw[HB];simp[t,D]);clear HB t D;exact oB
         .have X:((h:Int) != 8)=true:=pC;have HS:Hid (O.isSome=false):=(by show _=_;rw[HB];simp[D]);clear HB t D;exact oB
        .have W:((V:Int) != 4)=true:=pC;have HS:Hid (O.isSome=false):=(by show _=_;rw[HB];simp[t]);clear HB t;exact oB
    case rest=>
     obtain⟨rfl,rfl⟩:=hcut;have D:=I P.2;clear P c2;obtain⟨⟨e0,k0⟩,⟨e1,k1⟩,⟨e2,k2⟩,⟨e3,k3⟩,⟨e4,k4⟩,⟨e5,k5⟩,⟨e6,k6⟩,f0,f1,f2,f3,f4,f5,f6⟩:=qD HC.o;cases O with
     |none=>
      clear D HK J;simp only[Option.isSome_none,eV];go_wp2;refine bodyPost_ret (aG results113 _ _ _ w.1.size rfl _ (iK (fw HC _ _ _ _ _ _ _))) rfl ?_;exact⟨⟨0,0,[],0,0,0,0⟩,rfl,λq hq=>(by cases hq),sP,aB (aB (aB (aB (aB (aB (aB (HG) (cA _)) (cA _)) (cA _)) (cA _)) (cA _)) (cA _)) (cA _)⟩
     |some t=>
      obtain rfl:=D t rfl;clear D;simp only[du,fk];have W:Hid (Calls prog 85 #[.slice a.ad h a.cap] (wc.drew) λe d=>e=.returned (υ ((Pure.joinL 0 a.ins).toNat:Int))/\wc.drew=d):=HK _ (C.grown (bg (cC _ _)));obtain⟨r0,r1,r2,r3⟩:=Jm.o;have X:Hid (wc.drew.c g 3=some (.slice a.ad h a.cap)/\wc.drew.c f 0=some (Y R)/\wc.drew.c f 1=some (Y S)/\wc.drew.c f 2=some (Y T)/\wc.drew.c f 3=some (Y U)):=⟨J,r0,r1,r2,r3⟩
      have ad:Hid (∀u0 u1 u2 u3 u4 u5 u6,(((((((wc.setCell (F w.1.size 0) u0).setCell (F w.1.size 1) u1).setCell (F w.1.size 2) u2).setCell (F w.1.size 3) u3).setCell (F w.1.size 4) u4).setCell (F w.1.size 5) u5).setCell (F w.1.size 6) u6).drew.c g 3=some (.slice a.ad h a.cap)/\(((((((wc.setCell (F w.1.size 0) u0).setCell (F w.1.size 1) u1).setCell (F w.1.size 2) u2).setCell (F w.1.size 3) u3).setCell (F w.1.size 4) u4).setCell (F w.1.size 5) u5).setCell (F w.1.size 6) u6).drew.c f 0=some (Y R)/\(((((((wc.setCell (F w.1.size 0) u0).setCell (F w.1.size 1) u1).setCell (F w.1.size 2) u2).setCell (F w.1.size 3) u3).setCell (F w.1.size 4) u4).setCell (F w.1.size 5) u5).setCell (F w.1.size 6) u6).drew.c f 1=some (Y S)/\(((((((wc.setCell (F w.1.size 0) u0).setCell (F w.1.size 1) u1).setCell (F w.1.size 2) u2).setCell (F w.1.size 3) u3).setCell (F w.1.size 4) u4).setCell (F w.1.size 5) u5).setCell (F w.1.size 6) u6).drew.c f 2=some (Y T)/\(((((((wc.setCell (F w.1.size 0) u0).setCell (F w.1.size 1) u1).setCell (F w.1.size 2) u2).setCell (F w.1.size 3) u3).setCell (F w.1.size 4) u4).setCell (F w.1.size 5) u5).setCell (F w.1.size 6) u6).drew.c f 3=some (Y U)):=λu0 u1 u2 u3 u4 u5 u6=>⟨(ue ae _ _ _ _ _ _ _).trans J,(ue B _ _ _ _ _ _ _).trans r0,(ue B _ _ _ _ _ _ _).trans r1,(ue B _ _ _ _ _ _ _).trans r2,(ue B _ _ _ _ _ _ _).trans r3⟩
      clear HK C;go_wp2_with fail;go_region_held3 (λd=>d.c g 3=some (.slice a.ad h a.cap)/\d.c f 0=some (Y R)/\d.c f 1=some (Y S)/\d.c f 2=some (Y T)/\d.c f 3=some (Y U)) (first|(with_reducible exact X.o)|(with_reducible exact⟨J,r0,r1,r2,r3⟩)|(with_reducible exact ad.o _ _ _ _ _ _ _)|go_keep) (first|(go_at_call 85;refine W.mono ?_;rintro e w6 ⟨rfl,rfl⟩));go_wp2;(try simp only[Exit.inBlock,Exit.then]);refine bodyPost_ret (aG results113 _ _ _ w.1.size rfl _ (iK (Ug (fw HC _ _ _ _ _ _ _)))) rfl ?_;exact⟨_,rfl,λq hq=>(by injection hq),Ra,bg (aB (aB (aB (aB (aB (aB (aB (HG) (cA _)) (cA _)) (cA _)) (cA _)) (cA _)) (cA _)) (cA _))⟩
   .have HO:Hid (O=none):=by
     show _=_;rw[k,<-n];exact DN _ (by rw[cU];exact hn)
    obtain⟨b,c,rfl,_⟩:=hv;obtain⟨m,a⟩:=aq l.length;rw[a]at hn⊢;have d:((m:Int) != 7)=true:=pC;clear k n hn a LC K;exact CD
theorem ab3{a b:Int}(h:0<=a):a.tdiv b=a / b:=Int.tdiv_eq_ediv_of_nonneg h
theorem ab4{a b:Int}(h:0<=a):a.tmod b=a % b:=ft h
theorem lW(e:RE)(f)(w)(p:0<f)(a:0<=e.ae)(h:e.ae<64):Calls prog 100 #[.agg e.arr,Y f] w λr b=>r=.returned (.bool (e.be.has f))/\w.grownBy b none:=by
 have g:=cy w (.cells e.arr 166) none
 have b:=I g
 have HB:Hid (e.be.has f=decide (e.ae / f % 2=1)):=rfl
 obtain⟨x,i⟩:=aq e.ae
 unfold RE.arr at b⊢
 rw[i]at b a h HB⊢
 have k:(f==0)=false:=dT
 have d:0<=x / f:=Int.ediv_nonneg a G
 have j:x / f<64:=Int.lt_of_le_of_lt (Int.ediv_le_self _ a) h
 have n:x.tdiv f=x / f:=ab3 a
 have o:(x / f).tmod 2=x / f % 2:=ab4 d
 have l:¬ f=0:=G
 have hw:wrap64 (x / f)=x / f:=oR
 have m:wrap64 (x / f % 2)=x / f % 2:=oR
 clear i g
 go_in
 go_wp2
 go_ret
 exact⟨fU (by rw[HB];first|rfl|(rw[Bool.eq_iff_iff];simp)),b.o⟩
theorem Kt(e:RE)(a)(w):Calls prog 142 #[.agg e.arr,Y a] w λr b=>r=.returned (.bool (e.be.gone a))/\w.grownBy b none:=by
 have b:=I (cy w (.cells e.arr 166) none)
 have HB:Hid (e.be.gone a=decide (e.bB≠0/\e.bB<=a)):=rfl
 obtain⟨x,d⟩:=aq e.bB
 unfold RE.arr at b⊢
 rw[d]at b HB⊢
 clear d
 by_cases d:x=0
 .subst d;go_in;go_wp2;go_ret;exact⟨fU (by rw[HB];simp),b.o⟩
 .go_in;go_wp2;go_ret;exact⟨fU (by rw[HB];simp[d]),b.o⟩
theorem xd(h:p:=by
 go_in
 go_wp2
 go_ret2
 exact⟨by rw[HE];rfl,HG⟩):p:=h
theorem G8(e:RE)(n)(w)(d:1<=e.aH)(f:e.aH<=9223372036854775807):Calls prog 112 #[.agg e.arr,Y n] w λr a=>r=.returned (.tuple #[O (((e.be.keyOf n).getD 0).toNat:Int),.bool (e.be.keyOf n).isSome])/\w.grownBy a none:=by
 have HG:=I (cy w (.cells e.arr 166) none)
 have HB:Hid (e.be.keyOf n=if n=e.aH then some e.key else if n=e.aH-1/\1<e.aH then some e.before else none):=rfl
 obtain⟨R,a⟩:=aq (e.be.keyOf n)
 rw[a]at HB⊢
 obtain⟨x,b⟩:=aq e.aH
 unfold RE.arr at HG⊢
 rw[b]at HG HB d f⊢
 have hw:wrap64 (x-1)=x-1:=oR
 clear b a
 by_cases b:n=x
 .have HE:Hid (R=some e.key):=by show _=_;rw[HB,dQ b]
  clear HB;subst b;exact xd
 .by_cases a:n=x-1
  .by_cases g:1<x
   .have HE:Hid (R=some e.before):=(by show _=_;rw[HB,b' b,dQ ⟨a,g⟩]);clear HB;have i:(n==x)=false:=dT;have h:(n==x-1)=true:=(by rw[db];exact a);clear a;exact xd
   .have HE:Hid (R=none):=(by show _=_;rw[HB,b' b,b' (λq=>g q.2)]);clear HB;have h:(n==x-1)=true:=(by rw[db];exact a);clear a;exact xd
  .have HE:Hid (R=none):=(by show _=_;rw[HB,b' b,b' (λq=>a q.1)]);clear HB;exact xd
def ou(x y:BE)(now a b:Int):Int:=if x.gone now=true then a else if y.gone now=true then b else if x.has 32=true\/y.has 32=true then 12 else 0
theorem DP(h:p:=by first|with_reducible rfl|(simp only[cG];done)|(simp only[cG];omega)):p:=h
variable {g:Nat}
theorem eG{b:Nat}{e:RE}(h:w.rangeAt b 0 e.cells):w.cell? (F b 0)=some (Y e.k)/\w.cell? (F b 1)=some (.string ⟨e.name.toArray⟩)/\w.cell? (F b 2)=some (O (e.Ak.toNat:Int))/\w.cell? (F b 3)=some (Y e.bH)/\w.cell? (F b 4)=some (Y e.aD)/\w.cell? (F b 5)=some (Y e.bB)/\w.cell? (F b 6)=some (Y e.ae)/\w.cell? (F b 7)=some (Y e.aH)/\w.cell? (F b 8)=some (O (e.key.toNat:Int))/\w.cell? (F b 9)=some (O (e.before.toNat:Int)):=
 ⟨h 0 _ rfl,h 1 _ rfl,h 2 _ rfl,h 3 _ rfl,h 4 _ rfl,h 5 _ rfl,h 6 _ rfl,h 7 _ rfl,h 8 _ rfl,h 9 _ rfl⟩
theorem xC(w:World)(e:RE):(w.alloc (.cells e.arr 166)).rangeAt w.1.size 0 e.cells:=aS w e.arr 166
theorem aA{d:World}{b o:Nat}{a:List Value}(h:w.rangeAt b o a)(k:w.grownBy d none):d.rangeAt b o a:=λi v e=>k.cell (h i v e) Z
theorem tS(h:p:=by
 clear HR
 go_wp2
 go_ret
 exact⟨bE HS.o.symm,Bt⟩):p:=h
theorem Bf(d)(x y:RE)(f a b)(w)(l:0<=x.ae/\x.ae<64)(r:0<=y.ae/\y.ae<64):Calls Tryz.prog 99 #[d,.agg x.arr,.agg y.arr,Y f,Y a,Y b] w λe g=>e=.returned (Y (ou x.be y.be f a b))/\w.grownBy g none:=by
 have u:=I (aA (xC w x) (cy _ (.cells y.arr 166) none))
 have v:Hid (((w.alloc (.cells x.arr 166)).alloc (.cells y.arr 166)).rangeAt (w.1.size+1) 0 y.cells):=by
  have h:=xC (w.alloc (.cells x.arr 166)) y;rw[cG]at h;exact h
 have t:=I (aM (cy w (.cells x.arr 166) none) (.cells y.arr 166))
 have i:=I (λW=>Kt x f W)
 have J:=I (λW=>Kt y f W)
 have K:=I (λW=>lW x 32 W H l.1 l.2)
 have L:=I (λW=>lW y 32 W H r.1 r.2)
 have HR:Hid (ou x.be y.be f a b=if x.be.gone f=true then a else if y.be.gone f=true then b else if x.be.has 32=true\/y.be.has 32=true then 12 else 0):=rfl
 obtain⟨R,A⟩:=aq (ou x.be y.be f a b)
 rw[A]at HR⊢
 obtain⟨p,j⟩:=aq (x.be.gone f)
 obtain⟨q,k⟩:=aq (y.be.gone f)
 obtain⟨m,g⟩:=aq (x.be.has 32)
 obtain⟨n,h⟩:=aq (y.be.has 32)
 rw[j,k,g,h]at HR
 rw[j]at i
 rw[k]at J
 rw[g]at K
 rw[h]at L
 clear j k g h A l r
 go_enter Tryz.func99,Tryz.ntmps99
 go_wp2_with fail
 refine(i _).mono ?_
 rintro e S ⟨rfl,h⟩
 have P:=I (aA u h)
 have g:=I (aA v h)
 have M:=I (aa t h)
 clear u v t h i
 obtain⟨j,k,l,r,t,u,v,A,B,C⟩:=eG g.o
 go_wp2_with fail
 refine(J _).mono ?_
 rintro e T ⟨rfl,D⟩
 have Q:=I (aA P D)
 have i:=I (aA g D)
 have h:=I (aa M D)
 clear P g M D J j k l r t u v A B C
 obtain⟨j,k,l,r,t,u,v,A,B,C⟩:=eG Q.o
 go_wp2_with fail
 refine(K _).mono ?_
 rintro e w3 ⟨rfl,D⟩
 have g:=I (aA i D)
 have J:=I (aa h D)
 clear Q i h D K j k l r t u v A B C
 obtain⟨j,k,l,r,t,u,v,A,B,C⟩:=eG g.o
 go_wp2_with fail
 refine(L _).mono ?_
 rintro e i ⟨rfl,h⟩
 have Bt:=I (aa J h)
 clear g J h L j k l r t u v A B C
 cases p with
 |true=>
  have HS:Hid (R=a):=HR.o;exact tS
 |false=>
  cases q with
  |true=>
   have HS:Hid (R=b):=HR.o;exact tS
  |false=>
   cases m with
   |true=>
    have HS:Hid (R=12):=(by show _=_;rw[HR];simp);exact tS
   |false=>
    cases n with
    |true=>
     have HS:Hid (R=12):=(by show _=_;rw[HR];simp);exact tS
    |false=>
     have HS:Hid (R=0):=(by show _=_;rw[HR];simp);exact tS
theorem Vc{a:Array Value}{e:TypeId}{l:List Value}(b:a.toList=l)(h:g=w.1.size):(w.alloc (.cells a e)).rangeAt g 0 l:=by
 grind [aS]
theorem ab5{a:Array Value}{e:TypeId}{n:Nat}(b:a.size=n)(h:g=w.1.size):b9 (w.alloc (.cells a e)) g n:=by
 grind [b9.new]
theorem TK.pK(t:TK):t.cells.toArray=#[Y t.ae,O (t.aO.toNat:Int),.string ⟨t.az.toArray⟩,Y t.dY,Y t.start,Y t.fin,Y t.aD]:=rfl
theorem XX{W:World}{b d e f i j k:Value}(h:w.grownBy W none)(a:w.1.size<=g):w.grownBy (((((((W.s g 0 b).s g 1 d).s g 2 e).s g 3 f).s g 4 i).s g 5 j).s g 6 k) none:=
 aB (aB (by grind [aB]) a) a
theorem MG(h:p:=by repeat (first|exact Vc rfl DP|exact ab5 rfl DP|exact cy _ _ none|refine aA ?_ (cy _ _ none)|refine b9.grown ?_ (cy _ _ none)|refine aM ?_ _)):p:=h
theorem Ax(h:p:=by rw[<-hn];exact G9 _ B (λx hx=>(h x (List.mem_reverse.1 hx)).2)):p:=h
variable {L:List (Value×E)}{B:Nat}{W:World}
def lF(W:World)(B:Nat)(L:List (Value×E)):Prop:=∀x∈L,gQ W x.1 x.2/\x.2.length<=B
theorem lF.nil(W)(B):lF W B []:=λ_ h=>by simp at h
theorem gQ.shape{v:Value}{z:E}(h:gQ W v z):∃a c,v=.slice a z.length c:=by
 obtain⟨a,c,b,_⟩:=h;exact⟨a,c,b⟩
theorem lF.grown{a:World}(h:lF W B L)(k:W.grownBy a none):lF a B L:=λx b=>⟨(h x b).1.grown k,(h x b).2⟩
theorem lF.push{a:World}{o:Value}{z:E}(h:lF W B L)(k:W.grownBy a none)(q:gQ a o z)(d:z.length<=B):lF a B ((o,z)::L):=by
 intro x b;rcases List.mem_cons.1 b with e|e
 .subst e;exact⟨q,d⟩
 .exact h.grown k x e
theorem G9:∀(L)(B),(∀x∈L,x.2.length<=B)->(qG L).length<=L.length*B:=by
 intro L B;unfold qG;induction L with
 |nil=>intro _;simp
 |cons a L d=>
  intro h;have e:=h a Z;have f:=d (λx b=>h x (by simp[b]));rw[eN,eR,cF,de,Nat.succ_mul];omega
theorem pM(a)(l):(Box.box a l).length<=l.length+4:=by
 grind [Box.lJ]
theorem kE(v)(B)(h:10<=B):(bV v).length<=B:=(by grind [fB])
theorem fP(l)(B)(h:l.length+4<=B):(dC l).length<=B:=cE (pM 4 l) h
theorem Ku(k)(B)(h:12<=B):(nQ k).length<=B:=cE (pM 4 _) (by rw[Pure.dB];exact h)
theorem E6(h:p:=by
 rintro e w' ⟨o,q1,q2,q3⟩
 exact⟨o,q1,q2,cE (pM 48 _) (Nat.add_le_add_right hc 4),q3⟩):p:=h
theorem lF.list(h:lF W B L)(b)(n)(a:b=(L.reverse.map λx=>x.1).toArray)(hn:L.reverse.length=n)(d:n<=1000)(f:n*B<=140737488351232):Calls prog 60 #[ς W.1.size 0 n n] (W.alloc (.cells b 37)) λe w'=>∃o,e=.returned o/\gQ w' o (jW (L.reverse.map λx=>x.2))/\(jW (L.reverse.map λx=>x.2)).length<=n*B+4/\W.grownBy w' none:=by
 have hc:(qG L.reverse).length<=n*B:=Ax
 refine(XO L.reverse b n W (λx hx=>(h x (List.mem_reverse.1 hx)).1) a hn d G).mono ?_
 exact E6
theorem RD.drawn{w p:World}{f d:Nat}{M:DM}{g:RG}(i:RD w f d M g){v:Value}{q:E}(o:w.grownBy W none)(l:W.ownsRow w.1.size 5 1 v q.length (q.map U8))(hw:p=W.setCell (F d 3) v)(a:f<=w.1.size):
  RD p f d {M with aL:=q} {g with dv:=v}/\w.grownBy p (some d)/\lE w.1.size v:=by
 have t:=i.bU.blk.lt
 have k:lE w.1.size v:=λb a=>(l.lt b a).1
 have m:=i.keep (λb a=>o.block b (i.lt b a).2 Z)
 have j:∀b,g.foot d b->v.ownBlock≠some b:=λb a e=>by have:=k b e;have:=(i.lt b a).2;omega
 have r:w.grownBy p (some d):=by
  subst hw;refine⟨o.os,o.tape,o.output,?_,λb a h=>?_⟩
  .rw[show(W.setCell (F d 3) v).1.size=W.1.size from by simp[World.setCell]];exact o.size
  .have n:b≠d:=λe=>h (by rw[e]);rw[show(W.setCell (F d 3) v).1[b]?=W.1[b]? from by simp[World.setCell,Array.getElem?_modify,Ne.symm n]];exact o.block b a Z
 have h:∀b,b≠d->p.1[b]?=W.1[b]?:=λb n=>by
  subst hw;simp[World.setCell,Array.getElem?_modify,Ne.symm n]
 refine⟨⟨⟨?_,dh m.bU.aC (λb a=>h b (λe=>i.bU.bne (by rw[a,e]))),dw (dh l (λb a=>h b (λe=>j d (.inl rfl) (by rw[a,e])))) a,i.bU.here,i.bU.bne,j d (.inl rfl),?_⟩,i.aC,dh m.aI (by grind [RD.pne]),i.pne,i.pb,?_⟩,r,k⟩
 .subst hw;have:=m.bU.blk.set 3 v;simpa using this
 .cases n:g.bv.ownBlock with
  |none=>exact .inl rfl
  |some b=>exact .inr (λe=>j b (.inr (.inl n)) e.symm)
 .cases n:g.pv.ownBlock with
  |none=>exact .inl rfl
  |some b=>exact .inr (λe=>j b (.inr (.inr (.inl n))) e.symm)
theorem Ci(a y)(M)(g)(w)(t:RD w a y M g)(x:8<=M.aL.length)(u:M.aL.length<=140737488355328)(k:a<=w.1.size):Calls prog 144 #[N y 0] w λe K=>e=.returned (O ((Pure.joinL 0 (M.aL.take 8)).toNat:Int))/\∃v,RD K a y {M with aL:=M.aL.drop 8} {g with dv:=v}/\w.grownBy K (some y)/\lE w.1.size v:=by
 obtain⟨D,m,B,o,C⟩:=info_parts Tryz.info5
 obtain⟨r,d,l,h,A,_,f⟩:=ig t.bU.aL
 obtain⟨n,p⟩:=aq M.aL.length
 rw[p]at x u l h
 have J:=t.bU.blk.cell 3
 have W:=t.bU.blk.frozen 3
 rw[l]at J
 simp only[cI,cH,cL]at J
 obtain⟨U,e1,S⟩:=zZ (P:=prog) 37 5 D underlying37 m o r n d (I p) h 8 (8:Int) rfl x
 have V:∀w,(Instr.sliceAt 37 (.slice r n d) (some (Y 8)) none none).run prog w=.ok (.slice (sl r d 8) (n-8) (d-8)) w:=yO (P:=prog) 37 5 D underlying37 m o r n d 8 x
 have i:=f.part d 8 (by rw[p];exact h)
 obtain⟨R,j⟩:=aq (sl r d 8)
 have T:Hid (R=none->d-8=0):=by
  intro e;obtain⟨b,v,q,_⟩:=f.addr (by rw[p];omega);rw[<-j,q]at e;unfold sl at e;split at e<;>cases e
 rw[j]at V i
 have Q:=I t
 have L:=I (tF (M.aL.take 8) 8 U d w dT H (S w f))
 obtain⟨j8,v⟩:=aq (Pure.joinL 0 (M.aL.take 8))
 rw[v]at L⊢
 have b:(M.aL.drop 8).length=n-8:=by rw[ef,p]
 have q:=I b
 have X:n-8<=140737488355328:=G
 clear t f S v l p b j x u h A
 go_in
 go_wp2_with (first|(go_at_call 85;refine L.mono ?_;rintro e K ⟨rfl,rfl⟩)|(at_builtin;refine bJ _ rfl _ _ 37 rfl w.1.size 5 D underlying37 m B o C _ 0 [] rfl (World.ownsRow_nil _ _ _ _) R (n-8) (d-8) (M.aL.drop 8) rfl q T i G (cA _) ?_))
 intro t u b hg1 _
 have l:Hid (u.ownsRow w.1.size 5 1 t (M.aL.drop 8).length ((M.aL.drop 8).map U8)):=I (by rw[q];simpa using b)
 have j:=I yk
 obtain⟨v,x,rfl⟩:=bA l.o
 have f:=Q.bU.blk.grown j Z
 have h:=f.cell 3
 have p:=f.frozen 3
 simp only[cI,cH,cL]at h
 clear b hg1 f J W i
 go_wp2
 go_ret
 exact⟨rfl,_,Q.drawn j l (by rw[ef]) k⟩
set_option maxHeartbeats 8000000
theorem AD(h:p:=by show _=_;cases c0<;>cases c1<;>cases c2<;>simp[iB]<;>omega):p:=h
theorem td(h:p:=by show _=_;rw[IC];simp):p:=h
variable {fl rn:Int}{x:RE}{t:TK}
def Bg(aR old:Int)(x s:BE)(b f:Int):Bool:=aJ aR b&&(aJ old b&&(x.has f&&s.has f))
def iB(c0 c1 c2:Bool)(k:Nat):Int:=(if c0=true then(if 0<k then 1 else 0) else 0)+(if c1=true then(if 1<k then 2 else 0) else 0)+(if c2=true then(if 2<k then 4 else 0) else 0)
theorem X3(b a)(x s):iB (Bg b a x s 1 4) (Bg b a x s 2 8) (Bg b a x s 4 2) 3=iy b a x s:=by
 grind [Bg,iB,iy]
theorem vR(e d)(x s)(a b):fE e d x s a b=if Bg e d x s 4 2=true then gU b (gU (aW a x.aD) (aW a s.aD)) else 0:=by
 grind [fE,Bg]
def TK.more(t:TK)(f r:Int):TK:={t with ae:=t.ae+f,aD:=r}
theorem X4{f:Int}(e:0<=f)(g:f<4096)(a b d)(k):0<=f+iB a b d k/\f+iB a b d k<8192:=by
 unfold iB;(repeat' split)<;>omega
structure MW(w wr:World)(t:TK)(x s:RE)(fl rn:Int):Prop where
 t:wr.rangeAt w.1.size 0 [Y fl,O (t.aO.toNat:Int),.string ⟨t.az.toArray⟩,Y t.dY,Y t.start,Y t.fin,Y rn]
 lt:b9 wr w.1.size 7
 x:wr.rangeAt (w.1.size+1) 0 x.cells
 s:wr.rangeAt (w.1.size+2) 0 s.cells
 r:b9 wr (w.1.size+3) 7
 b:wr.rangeAt (w.1.size+4) 0 [Y 1,Y 2,Y 4]
 f:wr.rangeAt (w.1.size+5) 0 [Y 4,Y 8,Y 2]
 g:w.grownBy wr none
theorem MW.grown{a:World}{s:RE}(h:MW w W t x s fl rn)(k:W.grownBy a none):MW w a t x s fl rn:=
 ⟨aA h.t k,h.lt.grown k,aA h.x k,aA h.s k,h.r.grown k,aA h.b k,aA h.f k,aa h.g k⟩
theorem MW.drew{s:RE}(h:MW w W t x s fl rn):MW w W.drew t x s fl rn:=h.grown (bg (cC _ _))
theorem gZ{g k o:Nat}{a:List Value}(h:w.rangeAt g o a)(d:b≠g)(v):(w.setCell (F b k) v).rangeAt g o a:=λj u e=>by
 rw[World.cell?_setCell_far _ _ _ _ d]
 exact h j u e
theorem rj{k:Nat}{d:List Value}(h:w.rangeAt b 0 d)(f:k<d.length)(v):(w.setCell (F b k) v).rangeAt b 0 (d.set k v):=by
 intro j x a;rw[List.getElem?_set]at a;by_cases e:k=j
 .subst e;rw[dQ rfl,dQ f]at a;injection a with a;subst a;have:=h k d[k] (cN f);exact we
 .rw[b' e]at a;rw[j9 _ _ _ _ dT];exact h j x a
theorem dL{g k n:Nat}(h:b9 w b n)(v):b9 (w.setCell (F g k) v) b n:=h.cf (ex:=λ_ _=>True) (by grind [CF.setCell,CF.refl])
theorem MW.aiY{s:RE}(h:MW w W t x s fl rn)(v):MW w (W.setCell (F w.1.size 0) (Y v)) t x s v rn:=
 ⟨rj h.t Z _,dL h.lt _,gZ h.x G _,gZ h.s G _,dL h.r _,gZ h.b G _,gZ h.f G _,aB h.g (cA _)⟩
theorem MW.aiZ{s:RE}(h:MW w W t x s fl rn)(v):MW w (W.setCell (F w.1.size 6) (Y v)) t x s fl v:=
 ⟨rj h.t Z _,dL h.lt _,gZ h.x G _,gZ h.s G _,dL h.r _,gZ h.b G _,gZ h.f G _,aB h.g (cA _)⟩
theorem MW.sx{s:RE}(h:MW w W t x s fl rn)(k)(v)(a:[Value.int .i64 4,Y 8,Y 2][k]?=some v):W.cell? (F (w.1.size+1) 0)=some (Y x.k)/\W.cell? (F (w.1.size+1) 1)=some (.string ⟨x.name.toArray⟩)/\W.cell? (F (w.1.size+1) 2)=some (O (x.Ak.toNat:Int))/\W.cell? (F (w.1.size+1) 3)=some (Y x.bH)/\W.cell? (F (w.1.size+1) 4)=some (Y x.aD)/\W.cell? (F (w.1.size+1) 5)=some (Y x.bB)/\W.cell? (F (w.1.size+1) 6)=some (Y x.ae)/\W.cell? (F (w.1.size+1) 7)=some (Y x.aH)/\W.cell? (F (w.1.size+1) 8)=some (O (x.key.toNat:Int))/\W.cell? (F (w.1.size+1) 9)=some (O (x.before.toNat:Int))/\W.cell? (F (w.1.size+5) k)=some v:=by
 obtain⟨b,d,e,f,g,i,j,l,m,n⟩:=eG h.x;have:=h.f k v a;grind
theorem MW.ss{s:RE}(h:MW w W t x s fl rn)(k)(v)(a:[Value.int .i64 4,Y 8,Y 2][k]?=some v):W.cell? (F (w.1.size+2) 0)=some (Y s.k)/\W.cell? (F (w.1.size+2) 1)=some (.string ⟨s.name.toArray⟩)/\W.cell? (F (w.1.size+2) 2)=some (O (s.Ak.toNat:Int))/\W.cell? (F (w.1.size+2) 3)=some (Y s.bH)/\W.cell? (F (w.1.size+2) 4)=some (Y s.aD)/\W.cell? (F (w.1.size+2) 5)=some (Y s.bB)/\W.cell? (F (w.1.size+2) 6)=some (Y s.ae)/\W.cell? (F (w.1.size+2) 7)=some (Y s.aH)/\W.cell? (F (w.1.size+2) 8)=some (O (s.key.toNat:Int))/\W.cell? (F (w.1.size+2) 9)=some (O (s.before.toNat:Int))/\W.cell? (F (w.1.size+5) k)=some v:=by
 obtain⟨b,d,e,f,g,i,j,l,m,n⟩:=eG h.s;have:=h.f k v a;grind
theorem MW.s3{s:RE}(h:MW w W t x s fl rn):W.cell? (F w.1.size 4)=some (Y t.start)/\W.cell? (F (w.1.size+1) 4)=some (Y x.aD)/\W.cell? (F (w.1.size+2) 4)=some (Y s.aD):=⟨h.t 4 _ rfl,h.x 4 _ rfl,h.s 4 _ rfl⟩
theorem Ss(h:p:=by
  have HX:=I HC.o
  simp only[gE,gO,Bool.and_false]at HX
  clear HC
  go_wp2_with (go_at_call 102;(first|(with_reducible refine Calls.mono (C3.o _) ?_)|(with_reducible refine Calls.mono (C4.o _) ?_));rintro e w' ⟨rfl,rfl⟩)
  go_meet
  case rel=>exact⟨by rw[HX],rfl⟩):p:=h
theorem tg(h:p:=by
 go_wp2
 go_roundw
 case rel=>grind [Hid.o]
 case measure=>decide):p:=h
theorem AH(h:p:=by
 cases bo<;>cases bl<;>cases p<;>exact Ss):p:=h
theorem Qg(t:TK)(r b m)(x s:RE)(w)(hx:0<=x.ae/\x.ae<64)(hs:0<=s.ae/\s.ae<64)(ai:bT x.aD)(ah:bT s.aD)(ae:bT t.start)(d:0<=t.ae)(f:t.ae<4096):Calls Tryz.prog 106 #[.agg t.cells.toArray,Y r,Y b,.agg x.arr,.agg s.arr,Y m] w λe w'=>e=.returned (.agg (t.more (iy r b x.be s.be) (if Bg r b x.be s.be 4 2=true then fE r b x.be s.be t.start m else t.aD)).cells.toArray)/\w.grownBy w' none:=by
 rw[<-X3,vR]
 obtain⟨c0,u⟩:=aq (Bg r b x.be s.be 1 4)
 obtain⟨c1,v⟩:=aq (Bg r b x.be s.be 2 8)
 obtain⟨c2,y⟩:=aq (Bg r b x.be s.be 4 2)
 rw[u,v,y]
 have X:=I (X4 d f c0 c1 c2)
 obtain⟨rn,a⟩:=aq (gU m (gU (aW t.start x.be.aD) (aW t.start s.be.aD)))
 rw[a]
 obtain⟨FR,h⟩:=aq ((if c2=true then rn else t.aD))
 have g:(if c2=true then(if c2=true then rn else 0) else t.aD)=(if c2=true then rn else t.aD):=by cases c2<;>rfl
 rw[g,h]
 clear g
 have Vq:=I h
 have ab:=I a
 clear a d f h
 rw[TK.pK t]
 have a:MW w ((((((w.alloc (.cells #[Y t.ae,O (t.aO.toNat:Int),.string ⟨t.az.toArray⟩,Y t.dY,Y t.start,Y t.fin,Y t.aD] 43)).alloc (.cells x.arr 166)).alloc (.cells s.arr 166)).alloc (.cells #[Y 0,O 0,ε,Y 0,Y 0,Y 0,Y 0] 43)).alloc (.cells #[Y 1,Y 2,Y 4] 2)).alloc (.cells #[Y 4,Y 8,Y 2] 3)) t x s t.ae t.aD:=by
  exact⟨MG,MG,MG,MG,MG,MG,MG,MG⟩
 have j:=I a
 clear a
 go_enter Tryz.func106,Tryz.ntmps106
 go_wp2
 go_loopw [15] (λi wr=>∃k:Nat,k<=3/\i = Y k/\MW w wr t x s (t.ae+iB c0 c1 c2 k) (if c2=true/\k=3 then rn else t.aD)) (λi _=>3-(intOf i).toNat)
 case atStart=>
  refine⟨0,by decide,rfl,?_⟩;rw[b' (λh=>by omega)];have a:t.ae+iB c0 c1 c2 0=t.ae:=by cases c0<;>cases c1<;>cases c2<;>simp[iB]
  rw[a];exact j.o
 case round=>
  clear j;obtain⟨k,hk,rfl,d⟩:=hrel;have a:=I d;clear d;have ag:k=0\/k=1\/k=2\/k=3:=G;rcases ag with rfl|rfl|rfl|rfl
  .obtain⟨bo,C⟩:=aq (aJ r 1);obtain⟨bl,g⟩:=aq (aJ b 1);obtain⟨p,D⟩:=aq (x.be.has 4);obtain⟨q,J⟩:=aq (s.be.has 4);have A:=I (λW=>lW x 4 W H hx.1 hx.2);have B:=I (λW=>lW s 4 W H hs.1 hs.2);have C3:=I (λW=>eZ r 1 0 W H H);have C4:=I (λW=>eZ b 1 0 W H H);rw[D]at A;rw[J]at B;rw[C]at C3;rw[g]at C4;have HC:Hid (c0=(bo&&(bl&&(p&&q)))):=(by show _=_;rw[<-u,<-C,<-g,<-D,<-J];rfl);have IC:Hid (t.ae+iB c0 c1 c2 1=t.ae+iB c0 c1 c2 0+(if c0=true then 1 else 0)):=AD;have HB:=I (cZ (X 0) (X 1));clear C g D J u v y X;obtain⟨f,d⟩:=aq (t.ae+iB c0 c1 c2 0);rw[d]at a IC HB;clear d;rw[b' G]at a;have j:=a;have a:=I j.o.drew;obtain⟨K,L,M,P,Q,R,S,T,U,V,h⟩:=a.o.sx 0 _ rfl;go_wp2_with fail;go_region_held3 (λw'=>w'.c (w.1.size+1) 0=some (Y x.k)/\w'.c (w.1.size+1) 1=some (.string ⟨x.name.toArray⟩)/\w'.c (w.1.size+1) 2=some (O (x.Ak.toNat:Int))/\w'.c (w.1.size+1) 3=some (Y x.bH)/\w'.c (w.1.size+1) 4=some (Y x.aD)/\w'.c (w.1.size+1) 5=some (Y x.bB)/\w'.c (w.1.size+1) 6=some (Y x.ae)/\w'.c (w.1.size+1) 7=some (Y x.aH)/\w'.c (w.1.size+1) 8=some (O (x.key.toNat:Int))/\w'.c (w.1.size+1) 9=some (O (x.before.toNat:Int))/\w'.c (w.1.size+5) 0=some (Y 4)) (first|(with_reducible exact MW.sx a.o 0 _ rfl)|(with_reducible exact MW.sx a.o.drew 0 _ rfl)|go_keep) (first|(go_at_call 100;refine(A _).mono ?_;rintro e w5 ⟨rfl,g5⟩;have i:=I (a.grown g5);clear a g5 A;have a:=i;clear i));clear K L M P Q R S T U V h j;have j:=a;have a:=I j.drew;obtain⟨K,L,M,P,Q,R,S,T,U,V,h⟩:=a.ss 0 _ rfl;go_wp2_with fail;go_region_held3 (λw'=>w'.c (w.1.size+2) 0=some (Y s.k)/\w'.c (w.1.size+2) 1=some (.string ⟨s.name.toArray⟩)/\w'.c (w.1.size+2) 2=some (O (s.Ak.toNat:Int))/\w'.c (w.1.size+2) 3=some (Y s.bH)/\w'.c (w.1.size+2) 4=some (Y s.aD)/\w'.c (w.1.size+2) 5=some (Y s.bB)/\w'.c (w.1.size+2) 6=some (Y s.ae)/\w'.c (w.1.size+2) 7=some (Y s.aH)/\w'.c (w.1.size+2) 8=some (O (s.key.toNat:Int))/\w'.c (w.1.size+2) 9=some (O (s.before.toNat:Int))/\w'.c (w.1.size+5) 0=some (Y 4)) (first|(with_reducible exact MW.ss a.o 0 _ rfl)|(with_reducible exact MW.ss a.o.drew 0 _ rfl)|go_keep) (first|(go_at_call 100;refine(B _).mono ?_;rintro e w6 ⟨rfl,g6⟩;have l:=I (a.grown g6);clear a g6 B;have a:=l;clear l));clear K L M P Q R S T U V h j;have z0:w6.c (w.1.size+4) 0=some (Y 1):=a.b 0 _ rfl;go_upto_region 8 with fail
   go_cut [55] (λz wx=>z=.bool c0/\wx=w6)
   case first=>
    exact AH
   case rest=>
    obtain⟨rfl,rfl⟩:=hcut;clear HC C3 C4;cases c0 with
    |false=>
     have qN:Hid (t.ae+iB false c1 c2 1=f):=td;clear IC;exact tg
    |true=>
     have qN:Hid (t.ae+iB true c1 c2 1=f+1):=td;rw[qN]at HB;obtain⟨⟨b0,b1⟩,b2,b3⟩:=HB.o;have af:wrap64 (f+1)=f+1:=oR;clear IC b0 b1 b2 b3 HB;have t0:wc.c w.1.size 0=some (Y f):=a.t 0 _ rfl;have Y4:=a.o.lt.frozen 0;have ad:w.1.size≠w.1.size+4:=G;go_wp2_with fail;go_region;have n:=I (a.aiY (f+1)).drew;clear a t0 Y4;have z1:=n.b 0 _ rfl;exact tg
  .obtain⟨bo,C⟩:=aq (aJ r 2);obtain⟨bl,g⟩:=aq (aJ b 2);obtain⟨p,D⟩:=aq (x.be.has 8);obtain⟨q,J⟩:=aq (s.be.has 8);have A:=I (λW=>lW x 8 W H hx.1 hx.2);have B:=I (λW=>lW s 8 W H hs.1 hs.2);have C3:=I (λW=>eZ r 2 1 W H H);have C4:=I (λW=>eZ b 2 1 W H H);rw[D]at A;rw[J]at B;rw[C]at C3;rw[g]at C4;have HC:Hid (c1=(bo&&(bl&&(p&&q)))):=(by show _=_;rw[<-v,<-C,<-g,<-D,<-J];rfl);have IC:Hid (t.ae+iB c0 c1 c2 2=t.ae+iB c0 c1 c2 1+(if c1=true then 2 else 0)):=AD;have HB:=I (cZ (X 1) (X 2));clear C g D J u v y X;obtain⟨f,d⟩:=aq (t.ae+iB c0 c1 c2 1);rw[d]at a IC HB;clear d;rw[b' G]at a;have j:=a;have a:=I j.o.drew;obtain⟨K,L,M,P,Q,R,S,T,U,V,h⟩:=a.o.sx 1 _ rfl;go_wp2_with fail;go_region_held3 (λw'=>w'.c (w.1.size+1) 0=some (Y x.k)/\w'.c (w.1.size+1) 1=some (.string ⟨x.name.toArray⟩)/\w'.c (w.1.size+1) 2=some (O (x.Ak.toNat:Int))/\w'.c (w.1.size+1) 3=some (Y x.bH)/\w'.c (w.1.size+1) 4=some (Y x.aD)/\w'.c (w.1.size+1) 5=some (Y x.bB)/\w'.c (w.1.size+1) 6=some (Y x.ae)/\w'.c (w.1.size+1) 7=some (Y x.aH)/\w'.c (w.1.size+1) 8=some (O (x.key.toNat:Int))/\w'.c (w.1.size+1) 9=some (O (x.before.toNat:Int))/\w'.c (w.1.size+5) 1=some (Y 8)) (first|(with_reducible exact MW.sx a.o 1 _ rfl)|(with_reducible exact MW.sx a.o.drew 1 _ rfl)|go_keep) (first|(go_at_call 100;refine(A _).mono ?_;rintro e w5 ⟨rfl,g5⟩;have i:=I (a.grown g5);clear a g5 A;have a:=i;clear i));clear K L M P Q R S T U V h j;have j:=a;have a:=I j.drew;obtain⟨K,L,M,P,Q,R,S,T,U,V,h⟩:=a.ss 1 _ rfl;go_wp2_with fail;go_region_held3 (λw'=>w'.c (w.1.size+2) 0=some (Y s.k)/\w'.c (w.1.size+2) 1=some (.string ⟨s.name.toArray⟩)/\w'.c (w.1.size+2) 2=some (O (s.Ak.toNat:Int))/\w'.c (w.1.size+2) 3=some (Y s.bH)/\w'.c (w.1.size+2) 4=some (Y s.aD)/\w'.c (w.1.size+2) 5=some (Y s.bB)/\w'.c (w.1.size+2) 6=some (Y s.ae)/\w'.c (w.1.size+2) 7=some (Y s.aH)/\w'.c (w.1.size+2) 8=some (O (s.key.toNat:Int))/\w'.c (w.1.size+2) 9=some (O (s.before.toNat:Int))/\w'.c (w.1.size+5) 1=some (Y 8)) (first|(with_reducible exact MW.ss a.o 1 _ rfl)|(with_reducible exact MW.ss a.o.drew 1 _ rfl)|go_keep) (first|(go_at_call 100;refine(B _).mono ?_;rintro e w6 ⟨rfl,g6⟩;have l:=I (a.grown g6);clear a g6 B;have a:=l;clear l));clear K L M P Q R S T U V h j;have z0:w6.c (w.1.size+4) 1=some (Y 2):=a.b 1 _ rfl;go_upto_region 8 with fail
   go_cut [55] (λz wx=>z=.bool c1/\wx=w6)
   case first=>
    exact AH
   case rest=>
    obtain⟨rfl,rfl⟩:=hcut;clear HC C3 C4;cases c1 with
    |false=>
     have qN:Hid (t.ae+iB c0 false c2 2=f):=td;clear IC;exact tg
    |true=>
     have qN:Hid (t.ae+iB c0 true c2 2=f+2):=td;rw[qN]at HB;obtain⟨⟨b0,b1⟩,b2,b3⟩:=HB.o;have af:wrap64 (f+2)=f+2:=oR;clear IC b0 b1 b2 b3 HB;have t0:wc.c w.1.size 0=some (Y f):=a.t 0 _ rfl;have Y4:=a.o.lt.frozen 0;have ad:w.1.size≠w.1.size+4:=G;go_wp2_with fail;go_region;have n:=I (a.aiY (f+2)).drew;clear a t0 Y4;have z1:=n.b 1 _ rfl;exact tg
  .obtain⟨bo,C⟩:=aq (aJ r 4);obtain⟨bl,g⟩:=aq (aJ b 4);obtain⟨p,D⟩:=aq (x.be.has 2);obtain⟨q,J⟩:=aq (s.be.has 2);have A:=I (λW=>lW x 2 W H hx.1 hx.2);have B:=I (λW=>lW s 2 W H hs.1 hs.2);have C3:=I (λW=>eZ r 4 2 W H H);have C4:=I (λW=>eZ b 4 2 W H H);rw[D]at A;rw[J]at B;rw[C]at C3;rw[g]at C4;have HC:Hid (c2=(bo&&(bl&&(p&&q)))):=(by show _=_;rw[<-y,<-C,<-g,<-D,<-J];rfl);have IC:Hid (t.ae+iB c0 c1 c2 3=t.ae+iB c0 c1 c2 2+(if c2=true then 4 else 0)):=AD;have HB:=I (cZ (X 2) (X 3));clear C g D J u v y X;obtain⟨f,d⟩:=aq (t.ae+iB c0 c1 c2 2);rw[d]at a IC HB;clear d;rw[b' G]at a;have j:=a;have a:=I j.o.drew;obtain⟨K,L,M,P,Q,R,S,T,U,V,h⟩:=a.o.sx 2 _ rfl;go_wp2_with fail;go_region_held3 (λw'=>w'.c (w.1.size+1) 0=some (Y x.k)/\w'.c (w.1.size+1) 1=some (.string ⟨x.name.toArray⟩)/\w'.c (w.1.size+1) 2=some (O (x.Ak.toNat:Int))/\w'.c (w.1.size+1) 3=some (Y x.bH)/\w'.c (w.1.size+1) 4=some (Y x.aD)/\w'.c (w.1.size+1) 5=some (Y x.bB)/\w'.c (w.1.size+1) 6=some (Y x.ae)/\w'.c (w.1.size+1) 7=some (Y x.aH)/\w'.c (w.1.size+1) 8=some (O (x.key.toNat:Int))/\w'.c (w.1.size+1) 9=some (O (x.before.toNat:Int))/\w'.c (w.1.size+5) 2=some (Y 2)) (first|(with_reducible exact MW.sx a.o 2 _ rfl)|(with_reducible exact MW.sx a.o.drew 2 _ rfl)|go_keep) (first|(go_at_call 100;refine(A _).mono ?_;rintro e w5 ⟨rfl,g5⟩;have i:=I (a.grown g5);clear a g5 A;have a:=i;clear i));clear K L M P Q R S T U V h j;have j:=a;have a:=I j.drew;obtain⟨K,L,M,P,Q,R,S,T,U,V,h⟩:=a.ss 2 _ rfl;go_wp2_with fail;go_region_held3 (λw'=>w'.c (w.1.size+2) 0=some (Y s.k)/\w'.c (w.1.size+2) 1=some (.string ⟨s.name.toArray⟩)/\w'.c (w.1.size+2) 2=some (O (s.Ak.toNat:Int))/\w'.c (w.1.size+2) 3=some (Y s.bH)/\w'.c (w.1.size+2) 4=some (Y s.aD)/\w'.c (w.1.size+2) 5=some (Y s.bB)/\w'.c (w.1.size+2) 6=some (Y s.ae)/\w'.c (w.1.size+2) 7=some (Y s.aH)/\w'.c (w.1.size+2) 8=some (O (s.key.toNat:Int))/\w'.c (w.1.size+2) 9=some (O (s.before.toNat:Int))/\w'.c (w.1.size+5) 2=some (Y 2)) (first|(with_reducible exact MW.ss a.o 2 _ rfl)|(with_reducible exact MW.ss a.o.drew 2 _ rfl)|go_keep) (first|(go_at_call 100;refine(B _).mono ?_;rintro e w6 ⟨rfl,g6⟩;have l:=I (a.grown g6);clear a g6 B;have a:=l;clear l));clear K L M P Q R S T U V h j;have z0:w6.c (w.1.size+4) 2=some (Y 4):=a.b 2 _ rfl;go_upto_region 8 with fail
   go_cut [55] (λz wx=>z=.bool c2/\wx=w6)
   case first=>
    exact AH
   case rest=>
    obtain⟨rfl,rfl⟩:=hcut;clear HC C3 C4;cases c2 with
    |false=>
     have qN:Hid (t.ae+iB c0 c1 false 3=f):=td;clear IC;exact tg
    |true=>
     have qN:Hid (t.ae+iB c0 c1 true 3=f+4):=td;rw[qN]at HB;obtain⟨⟨b0,b1⟩,b2,b3⟩:=HB.o;have af:wrap64 (f+4)=f+4:=oR;clear IC b0 b1 b2 b3 HB;have t0:wc.c w.1.size 0=some (Y f):=a.t 0 _ rfl;have Y4:=a.o.lt.frozen 0;have ad:w.1.size≠w.1.size+4:=G;go_wp2_with fail;go_region;have n:=I (a.aiY (f+4)).drew;clear a t0 Y4;obtain⟨M,g⟩:=aq ((wc.setCell (F w.1.size 0) (Y (f+4))).drew);rw[g]at n⊢;clear g;have z1:M.c (w.1.size+4) 2=some (Y 4):=n.b 2 _ rfl;have g:=I (λW=>mR t.start x.aD W ae ai);have h:=I (λW=>mR t.start s.aD W ae ah);obtain⟨A,J⟩:=aq (aW t.start x.aD);obtain⟨B,K⟩:=aq (aW t.start s.aD);rw[J]at g;rw[K]at h;have i:=I (λW=>kN A B W);obtain⟨D,L⟩:=aq (gU A B);rw[L]at i;have l:=I (λW=>kN m D W);have C:Hid (gU m D=rn):=(by show _=_;rw[<-L,<-J,<-K];exact ab);rw[C]at l;clear J K L ab;obtain⟨P,Q,R⟩:=n.s3;have K:M.c w.1.size 6=some (Y t.aD):=n.t 6 _ rfl;have J:=n.o.lt.frozen 6;go_wp2_with fail;go_region_held3 (λw'=>w'.c w.1.size 4=some (Y t.start)/\w'.c (w.1.size+1) 4=some (Y x.aD)/\w'.c (w.1.size+2) 4=some (Y s.aD)) (first|(with_reducible exact MW.s3 n.o)|(with_reducible exact MW.s3 n.o.drew)|(with_reducible exact MW.s3 (n.o.aiZ _))|(with_reducible exact MW.s3 (n.o.aiZ _).drew)|go_keep) (first|(go_at_call 103;(first|(with_reducible refine Calls.mono (g.o _) ?_)|(with_reducible refine Calls.mono (h.o _) ?_));rintro e w' ⟨rfl,rfl⟩)|(go_at_call 104;(first|(with_reducible refine Calls.mono (i.o _) ?_)|(with_reducible refine Calls.mono (l.o _) ?_));rintro e w' ⟨rfl,rfl⟩));have L:=I (n.aiZ rn).drew;clear n P Q R K J z1 g h i l;exact tg
  .have g:(if c2=true/\(3:Nat)=3 then rn else t.aD)=(if c2=true then rn else t.aD):=Z;rw[g,Vq]at a;obtain⟨f,d⟩:=aq (t.ae+iB c0 c1 c2 3);have IC:=I d;rw[d]at a;clear d g u v y X ab hk;have t0:wr.c w.1.size 0=some (Y f):=a.t 0 _ rfl;have W:wr.c w.1.size 1=some (O (t.aO.toNat:Int)):=a.t 1 _ rfl;have t2:wr.c w.1.size 2=some (.string ⟨t.az.toArray⟩):=a.t 2 _ rfl;have t3:wr.c w.1.size 3=some (Y t.dY):=a.t 3 _ rfl;have t4:wr.c w.1.size 4=some (Y t.start):=a.t 4 _ rfl;have t5:wr.c w.1.size 5=some (Y t.fin):=a.t 5 _ rfl;have K:wr.c w.1.size 6=some (Y FR):=a.t 6 _ rfl;obtain⟨⟨d,P⟩,⟨g,Q⟩,⟨h,R⟩,⟨i,S⟩,⟨l,T⟩,⟨n,U⟩,⟨q,V⟩,A,B,C,D,J,L,M⟩:=qD a.r;go_wp2;refine bodyPost_ret (jM Tryz.results106 _ _ _ (w.1.size+3) rfl _ (iK (fw a.r _ _ _ _ _ _ _))) rfl ?_;refine⟨?_,aB (aB (aB (aB (aB (aB (aB a.g G) G) G) G) G) G) G⟩;rw[<-IC];rfl
