import Derived.Test.YticfhckmhcaigaaGreatDoorGERFstC
namespace Go.Proofs.YticfhckmhcaigaaGreatDoor
set_option maxHeartbeats 8000000
open Proofs.Tryz Go.RowKit
set_option maxRecDepth 100000
set_option linter.unusedSimpArgs false
variable {p:Prop}
theorem y'(h:p:=by show _=_;rw[xN,dQ (by rw[hfc];decide),hfc]):p:=h
theorem Cl(h:p:=by
 have HS:Hid (R=.error 10):=y'
 clear xN
 go_wp2
 go_ret2
 exact⟨_,_,rfl,by rw[HS];exact iL H HD (aa pU.f.g HT.g)⟩):p:=h
theorem Jn(h:p:=by
 have HS:Hid (R=.error 13):=y'
 clear xN
 go_wp2
 go_ret2
 exact⟨_,_,rfl,by rw[HS];exact iL H HD pU.f.g⟩):p:=h
theorem EU(h:p:=by
 go_wp2
 go_ret2
 exact⟨_,_,rfl,by rw[HS];exact iL H HD HF.g⟩):p:=h
theorem M7(j T)(M)(g)(d)(gl c)(p0 l r p3 p4 p5 p6 p7 C)(w)(hD:RD w j T M g)(af:gy 4611686018427387904 M.aC)(bu:j<=w.1.size)(a:jT w gl [p0,l,r,p3,p4,p5,p6,p7,C])(b:∀q∈[p0,l,r,p3,p4,p5,p6,p7,C],q.ins.length<=900)(m:bG p0.pair=some 10)(cO:bT d)(gq:bT M.ax)(dt:∀e∈M.aC,bT e.bH/\bT e.aD)(fz:M.aL.length<=140737488355328):Calls prog 69 #[N T 0,Y d,ς gl 0 9 c] w λe X=>∃o k,e=.returned (.tuple #[o,Y k])/\Ee j T M g (ow M d ([p0,l,r,p3,p4,p5,p6,p7,C].map Pc.pair)) w X o k:=by
 have y:w.c gl 2=some (.int .u8 (l.tag.toNat:Int)):=a.tag 1 Z
 have A:w.c gl 3=some (.slice l.ad l.ins.length l.cap):=a.ins 1 Z
 have u:=I a
 have Ww:=I b
 have C1:=I (rO l w (a.2 l Z).1 (cE (b l Z) H))
 have C2:Hid (∀W,jT W gl [p0,l,r,p3,p4,p5,p6,p7,C]->Calls prog 96 #[.agg #[.int .u8 (r.tag.toNat:Int),.slice r.ad r.ins.length r.cap]] W λe X=>e=.returned (.tuple #[.string ⟨r.ins.toArray⟩,.bool (dz r.pair).isSome])/\W.grownBy X none):=λW hW=>rO r W (hW.2 r Z).1 (cE (b r Z) H)
 have C3:Hid (∀W,jT W gl [p0,l,r,p3,p4,p5,p6,p7,C]->Calls prog 97 #[ς gl 0 9 c,Y 3,Y 8] W λe X=>∃o vs,e=.returned (.tuple #[o,.bool (kD [p3,p4,p5,p6,p7])])/\sN [p3,p4,p5,p6,p7] vs/\X.ownsRow W.1.size 2 1 o vs.length (vs.map tn)/\W.grownBy X none):=λW hW=>vP 3 8 9 gl c [p0,l,r,p3,p4,p5,p6,p7,C] W (I rfl) H H H hW
 have C4:Hid (∀W,jT W gl [p0,l,r,p3,p4,p5,p6,p7,C]->Calls prog 98 #[.agg #[.int .u8 (C.tag.toNat:Int),.slice C.ad C.ins.length C.cap]] W λe X=>∃n z t,e=.returned (.tuple #[Y n,z,.bool t,.bool (mO C.pair).isSome])/\bT n/\MC X (mO C.pair) n z t/\W.grownBy X none):=λW hW=>Vp C W (hW.2 C Z).1 (hW.2 C Z).2.1 (hW.2 C Z).2.2 (cE (b C Z) H)
 obtain⟨b1,h1⟩:=aq ((dz l.pair).isSome)
 obtain⟨b2,h2⟩:=aq ((dz r.pair).isSome)
 obtain⟨b3,h3⟩:=aq (kD [p3,p4,p5,p6,p7])
 obtain⟨o8,h8⟩:=aq (mO C.pair)
 rw[h1]at C1
 rw[h2]at C2
 rw[h3]at C3
 rw[h8]at C4
 have HB:=I (cZ h1 (cZ h2 (cZ h3 h8)))
 have fv:Hid (∀x,o8=some (some x)->x.2.length<=900):=λx hx=>cE (X6 (p:=C.pair) (by rw[h8];exact hx)) (b C Z)
 clear h1 h2 h3 h8 a b
 have HD:=I hD
 obtain⟨R,b⟩:=aq (ow M d ([p0,l,r,p3,p4,p5,p6,p7,C].map Pc.pair))
 rw[b]
 have HR:=I b
 clear b hD
 go_in
 go_wp2_with (first|(go_at_call 96;(first|refine C1.mono ?_;clear C1;rintro e w1 ⟨rfl,g1⟩;have b:=I (u.grown g1);have n:=I g1;have t:w1.c gl 4=some (.int .u8 (r.tag.toNat:Int)):=b.tag 2 Z;have B:w1.c gl 5=some (.slice r.ad r.ins.length r.cap):=b.ins 2 Z;clear u g1 y A|(refine(C2 _ b).mono ?_;clear C2;rintro e w2 ⟨rfl,g2⟩;have v:=I (b.grown g2);have i:=I (aa n g2);clear b n g2 t B))))
 refine(C3 _ v).mono ?_
 rintro e w3 ⟨o,vs,rfl,t,b,g3⟩
 obtain⟨J,u,L,Q,n,rfl,P,U,V,q6,q7⟩:=t.five
 obtain⟨gv,cv,rfl,ab,_⟩:=jR b Z
 have y:=I (v.grown g3)
 have D:=I (aa i g3)
 have Jm:=I ab
 have UB:=I (X5 p0 l r p3 p4 p5 p6 p7 C J u L Q n m P U V q6 q7)
 have HI:=I (cZ P.1 (cZ U.1 (cZ V.1 (cZ q6.1 q7.1))))
 rw[HB.1,HB.2.1,HB.2.2.1,HB.2.2.2]at UB
 have A:w3.c gl 16=some (.int .u8 (C.tag.toNat:Int)):=y.tag 8 Z
 have B:w3.c gl 17=some (.slice C.ad C.ins.length C.cap):=y.ins 8 Z
 simp only[de,List.length_nil]
 clear C3 v i g3 t b ab P U V q6 q7 m HB
 go_wp2_with fail
 refine(C4 _ y).mono ?_
 rintro e w4 ⟨pn,pz,pt,rfl,m,ai,v⟩
 have av:Hid (∀t,o8=some t->FS w w4 j T M g gv J u L Q n pz t/\pt=t.isSome/\∀x,t=some x->pn=x.1):=by
  intro t i;obtain⟨V,U⟩:=ai t i;have P:=aa D v;exact⟨⟨HD.keep (λb hb=>P.block b (HD.o.lt b hb).2 Z),aA Jm v,λx hx=>⟨(U x hx).2.1,fv x (by rw[i,hx])⟩,P⟩,V,λx hx=>(U x hx).1⟩
 have Bt:=I (aa D v)
 have gx:=I m
 obtain⟨P,a⟩:=aq (lM ([p0,l,r,p3,p4,p5,p6,p7,C].map Pc.pair))
 unfold ow at HR
 rw[a]at UB HR
 clear a C4 y D Jm A B v ai m
 go_upto_region 5 with fail
 go_cut [70] (λz A=>z=.bool (!P.isSome)/\A=w4)
 case first=>
  have v:Hid (P.isSome=(b1&&(b2&&(b3&&o8.isSome)))):=UB.1;clear UB HR av;cases b1 with
  |false=>
   have HS:Hid (P.isSome=false):=v.o;clear v;exact oB
  |true=>
   cases b2 with
   |false=>
    have HS:Hid (P.isSome=false):=v.o;clear v;exact oB
   |true=>
    cases b3 with
    |false=>
     have HS:Hid (P.isSome=false):=v.o;clear v;exact oB
    |true=>
     have HS:Hid (P.isSome=o8.isSome):=v.o;clear v;go_wp2;go_meet
     case rel=>exact⟨by rw[HS];cases o8<;>rfl,rfl⟩
 case rest=>
  obtain⟨rfl,rfl⟩:=hcut;cases P with
  |none=>
   have HS:Hid (R=.error 60):=HR.o.symm;clear HR UB av;simp only[Option.isSome_none,eV];go_wp2;go_ret2;exact⟨_,_,rfl,by rw[HS];exact iL H HD Bt⟩
  |some q=>
   obtain⟨t,i,hq⟩:=UB.2 q rfl;obtain⟨a,gp,m⟩:=av t i;have HS:Hid (R=mS M d q):=HR.o.symm;subst hq gp;have HF:=I a;have bl:=I m;clear HR UB av a m i Bt;simp only[du,fk];have y:=I (λW (hW:RD W j T M g)=>yx j T M g l.ins W hW af.len);have CB:=I (λW (hW:RD W j T M g)=>yx j T M g r.ins W hW af.len);have a:=uS g.es l.ins;have m:=uS g.es r.ins;rw[HD.aC]at a m;have xN:Hid (R=match BE.find M.aC l.ins,BE.find M.aC r.ins with|none,_=>.error 6|some _,none=>.error 7|some x,some s=>if ou x s d 1 2≠0 then .error (ou x s d 1 2) else if di M.ax d ⟨l.ins,r.ins,J,u,L,Q,n,t⟩ x s≠0 then .error (di M.ax d ⟨l.ins,r.ins,J,u,L,Q,n,t⟩ x s) else .ok ⟨11,mZ d ⟨l.ins,r.ins,J,u,L,Q,n,t⟩ x s,s,J,x.aH,x.key,3⟩):=HS.o;obtain⟨fa,B⟩:=aq (gG g.es l.ins);obtain⟨fb,i⟩:=aq (gG g.es r.ins);rw[B]at y a;rw[i]at CB m;have HA:=I a;have au:=I m;clear a m B i HS;go_wp2_with fail;refine(y _ HF.d).mono ?_;rintro e w5 ⟨rfl,g5⟩;have a:=I (HF.grown g5);clear HF g5 y;go_wp2_with fail;refine(CB _ a.d).mono ?_;rintro e w6 ⟨rfl,i⟩;have HF:=I (a.grown i);clear a i CB;rcases HA.o with⟨hm,ao⟩|⟨i,hi,ds,hx⟩
   .have HS:Hid (R=.error 6):=(by show _=_;rw[xN,ao]);subst hm;clear xN HA au ao;exact EU
   .rcases au.o with⟨hm,ao⟩|⟨k,hk,gm,hs⟩
    .have HS:Hid (R=.error 7):=(by show _=_;rw[xN,hx,ao]);have dq:¬ (i:Int)<0:=G;subst hm ds;clear xN HA au ao hx;exact EU
    .rw[hx,hs]at xN;have dq:¬ (i:Int)<0:=G;have gd:¬ (k:Int)<0:=G;have ga:(0:Int)<=(i:Int):=G;have gg:(0:Int)<=(k:Int):=G;obtain⟨gb,cb,bz,ab⟩:=uT HF.d G;obtain⟨m,hm⟩:=aq g.es.length;have QX:(i:Int)<(m:Int):=G;have nG:(k:Int)<(m:Int):=G;have y1:w6.cell? (F T 1)=some (ς gb 0 m cb):=by
      have:=HF.d.bU.blk.cell 1;rw[bz,hm]at this;simpa using this
     have Jm:=I ab;obtain⟨x,cj⟩:=aq (g.es[i]);obtain⟨s,ch⟩:=aq (g.es[k]);have B:x.be∈M.aC:=(by rw[<-HD.aC,<-cj];exact eS (eh hi));have a:s.be∈M.aC:=(by rw[<-HD.aC,<-ch];exact eS (eh hk));obtain⟨x0,x1,x2,x3,x4,x5,x6,x7,x8,x9⟩:=vS ab i hi;rw[cj]at x0 x1 x2 x3 x4 x5 x6 x7 x8 x9 xN;rw[ch]at xN;subst ds gm;have y:=I bz;have ff:Hid (x.name=l.ins):=by
      show _=_;rw[<-cj];exact mi hx
     have az:=I B;have ax:=I a;clear hx hs ab HA au bz B a;go_upto_region 14 with fail
     refine Ef (λV=>FS w V j T M g gv J u L Q n pz t/\V.rangeAt w6.1.size 0 x.cells/\V.rangeAt gb 0 (bL g.es)) ⟨HF.grown (cy w6 _ none),xC w6 x,aA Jm (cy w6 _ none)⟩ ?_;rintro V ⟨U,D,B⟩;clear x0 x1 x2 x3 x4 x5 x6 x7 x8 x9 y1 HF Jm;have y1:V.cell? (F T 1)=some (ς gb 0 m cb):=by
      have:=U.d.bU.blk.cell 1;rw[y,hm]at this;simpa using this
     obtain⟨s0,s1,s2,s3,s4,s5,s6,s7,s8,s9⟩:=vS B k hk;rw[ch]at s0 s1 s2 s3 s4 s5 s6 s7 s8 s9;have HV:=I U;have a:=I D;clear U D B y;obtain⟨bx,y⟩:=aq w6.1.size;rw[y]at a⊢;clear y;go_upto_region 15 with fail
     refine Ef (λU=>F2 w U j T M g gv J u L Q n pz t x s bx V.1.size) ⟨HV.grown (cy V _ none),aA a (cy V _ none),xC V s⟩ ?_;intro U y;have HU:=I y;clear y;obtain⟨bs,y⟩:=aq V.1.size;rw[y]at HU⊢;clear y s0 s1 s2 s3 s4 s5 s6 s7 s8 s9 y1 HV a dq gd ga gg QX nG;as_aux_lemma=>
      have a:=af.qQ x.be az.o;have ai:=af.qQ s.be ax.o;have ah:=I (cZ a.2.2.1 a.2.2.2);have ba:=I (cZ ai.2.2.1 ai.2.2.2);clear a ai;have a:=I (λW=>Bf (N T 0) x s d 1 2 W ah ba);obtain⟨ca,y⟩:=aq (ou x.be s.be d 1 2);rw[y]at a xN;clear y;obtain⟨e0,e1,e2,e3,e4,e5,e6,e7,e8,e9⟩:=eG HU.x;obtain⟨B,D,f2,f3,f4,f5,f6,f7,f8,f9⟩:=eG HU.s;go_wp2_with fail;refine(a _).mono ?_;rintro e U1 ⟨rfl,g1⟩;have y:=I (HU.grown g1);clear HU g1 e0 e1 e2 e3 e4 e5 e6 e7 e8 e9 B D f2 f3 f4 f5 f6 f7 f8 f9 a;by_cases hz:ca=0;rotate_left
      .have HS:Hid (R=.error ca):=(by show _=_;rw[xN,dQ hz]);clear xN;go_wp2;go_ret2;exact⟨_,_,rfl,by rw[HS];exact iL hz HD y.f.g⟩
      subst hz;rw[b' (λh=>h rfl)]at xN;have B:=I (λW=>lW x 1 W H ah.1 ah.2);obtain⟨mb,a⟩:=aq (x.be.has 1);rw[a]at B;have bf:=I a;clear a;obtain⟨e0,e1,e2,e3,e4,e5,e6,e7,e8,e9⟩:=eG y.x;go_wp2_with fail;refine(B _).mono ?_;rintro e U2 ⟨rfl,g2⟩;have ae:=I (y.grown g2);clear y g2 e0 e1 e2 e3 e4 e5 e6 e7 e8 e9 B;obtain⟨B,hB⟩:=aq ((mb&&!t.isSome));have bc:=I hB;go_upto_region 19 with fail
      go_cut [111] (λz A=>z=.bool B/\U2=A)
      case first=>
       have v:=I hB;clear hB xN bl;cases mb with
       |true=>
        go_wp2;go_meet
        case rel=>exact⟨by rw[<-v];cases t<;>rfl,rfl⟩
       |false=>
        go_wp2;go_meet
        case rel=>exact⟨by rw[<-v];rfl,rfl⟩
      case rest=>
       obtain⟨rfl,rfl⟩:=hcut;clear hB;cases B with
       |true=>
        have hfc:di M.ax d ⟨l.ins,r.ins,J,u,L,Q,n,t⟩ x.be s.be=25:=by
         have hb:=bc.o;have hm:=bf.o;cases t with
         |some y=>simp at hb
         |none=>
          have:fo M.ax d x.be none=25:=by
           show(if x.be.has 1=true then(25:Int) else 0)=25;rw[hm];simp at hb;rw[hb];rfl
          rw[L5 (by show fo M.ax d x.be none≠0;rw[this];decide)];exact this
        have HS:Hid (R=.error 25):=y';clear xN;go_wp2;go_ret2;exact⟨_,_,rfl,by rw[HS];exact iL H HD ae.f.g⟩
       |false=>
        obtain⟨pc,a⟩:=aq (fo M.ax d x.be t);have zS:=I a;clear a;go_upto_if 112 with fail
        go_cut [] (λA=>F2 w A j T M g gv J u L Q n pz t x s bx bs/\pc=0)
        case first=>
         cases t with
         |none=>
          have a:pc=0:=by
           have hb:=bc.o;have hm:=bf.o;simp at hb;rw[hb]at hm;rw[<-zS];show(if x.be.has 1=true then(25:Int) else 0)=0;rw[hm];rfl
          have HH:=I a;clear a xN zS;simp only[Option.isSome_none];go_wp2;go_meet
          case rel=>exact⟨ae,HH⟩
         |some nz=>
          obtain⟨gw,a⟩:=nz;have cz:=bl (gw,a) rfl;simp only at cz;subst cz;obtain⟨ea,eb⟩:=ae.f.z _ rfl;have CP:=I (λW (hW:RD W j T M g) (D:xA W pz a)=>Qf j T M g x d pn a pz W hW D eb cO);have da:Hid (xD M.ax d x.be pn a=pc):=zS.o;rw[da]at CP;have D:=I ea;clear da ea eb;obtain⟨e0,e1,e2,e3,e4,e5,e6,e7,e8,e9⟩:=eG ae.x;simp only[du];go_wp2_with fail;refine(CP _ ae.f.d D).mono ?_;rintro e U3 ⟨rfl,g3⟩;have pU:=I (ae.grown g3);clear ae g3 e0 e1 e2 e3 e4 e5 e6 e7 e8 e9 CP D;by_cases hz:pc=0
          .clear xN;go_wp2;go_meet
           case rel=>exact⟨pU,hz⟩
          .have hfc:di M.ax d ⟨l.ins,r.ins,J,u,L,Q,n,some (pn,a)⟩ x.be s.be=pc:=by
            rw[L5 (by show fo M.ax d x.be (some (pn,a))≠0;rw[zS];exact hz)];exact zS.o
           have HS:Hid (R=.error pc):=(by show _=_;rw[xN,dQ (by rw[hfc];exact hz),hfc]);clear xN hfc;go_wp2;go_ret2;exact⟨_,_,rfl,by rw[HS];exact iL hz HD pU.f.g⟩
        case rest=>
         obtain⟨a,D⟩:=hcut;rw[D]at zS;refine Kw (λV=>F2 w V j T M g gv J u L Q n pz t x s bx bs) a ?_;clear D a ae bc bf pc;intro U3 a;have pU:=I a;have gr:U3.c gv 1=some (Y u):=a.f.v 1 _ rfl;have gu:U3.c gv 4=some (Y n):=a.f.v 4 _ rfl;clear a;as_aux_lemma=>
          by_cases a:n<0
          .have hfc:di M.ax d ⟨l.ins,r.ins,J,u,L,Q,n,t⟩ x.be s.be=13:=L4 zS (.inl a);exact Jn
          by_cases D:15<n
          .have hfc:di M.ax d ⟨l.ins,r.ins,J,u,L,Q,n,t⟩ x.be s.be=13:=L4 zS (.inr D);exact Jn
          have ak:Hid (¬ (n<0\/15<n)):=λh=>h.elim a D;go_upto_if 138 with fail
          refine Ef (λW=>FT U3 W 32 0 l.ins d d 0 0) (FT.new U3 _ _ _ _ _ _ _) ?_;intro W hT;have HT:=I hT;clear hT gr gu a D;obtain⟨fl,D⟩:∃a:Int,32+(if t.isSome=true then 64 else 0)=a:=⟨_,rfl⟩
          have aj:=I D;have dc:0<=fl/\fl<=96:=(by rw[<-D];split<;>omega);clear D;go_cut [] (λA=>FT U3 A fl 0 l.ins d d 0 0)
          case first=>
           clear xN bl zS dc;cases t with
           |none=>
            have v:Hid (fl=32):=aj.o.symm;clear aj;simp only[Option.isSome_none];go_wp2;go_meet
            case rel=>rw[v];exact HT.o
           |some y=>
            have v:Hid (fl=96):=aj.o.symm;clear aj;obtain⟨t0,t1,t2,t3,t4,t5,t6⟩:=HT.tc;have Y4:=HT.l.frozen 0;simp only[du];go_wp2;go_meet
            case rel=>rw[v];exact HT.Di 96
          case rest=>
           refine Kw (λV=>FT U3 V fl 0 l.ins d d 0 0) hcut ?_;clear hcut HT W;intro W hT;have HT:=I hT;have cr:W.cell? (F T 0)=some (Y M.ax):=by
            have:=(pU.f.grown hT.g).d.bU.blk.cell 0;simpa using this
           clear hT;have CB:=I (λW=>eZ n 8 3 W H H);have CS:=I (λW=>mR d M.ax W cO gq);obtain⟨b8,h8⟩:=aq (aJ n 8);obtain⟨A1,v⟩:=aq (aW d M.ax);obtain⟨ST,bt⟩:=aq (bI d ⟨l.ins,r.ins,J,u,L,Q,n,t⟩);obtain⟨y,D⟩:=aq (fl+(if b8=true then 24 else 0));rw[h8]at CB;rw[v]at CS;have H8:=I h8;have ar:=I v;have ag:=I bt;have al:=I D;have an:bT ST:=by
            rw[<-bt];unfold bI;split
            .exact HI.2.1
            .exact cO
           have bb:0<=y/\y<=200:=(by rw[<-D];split<;>omega);clear h8 v bt D;go_upto_if 144 with(go_at_call 102;refine(CB _).mono ?_;rintro e X ⟨rfl,rfl⟩)
           go_cut [] (λA=>FT U3 A y 0 l.ins d ST 0 0/\Vz M.ax d ⟨l.ins,r.ins,J,u,L,Q,n,t⟩ x.be s.be)
           case first=>
            cases b8 with
            |true=>
             have sZ:Hid (ST=u):=(by show _=_;rw[<-ag];show(if aJ n 8=true then u else d)=u;rw[H8];rfl);have wO:Hid (y=fl+8+16):=(by show _=_;rw[<-al,dQ rfl];omega);have C1:=I (λW=>lW x 16 W H ah.1 ah.2);have C2:=I (λW=>lW s 16 W H ba.1 ba.2);obtain⟨bp,v⟩:=aq (x.be.has 16);obtain⟨bq,A⟩:=aq (s.be.has 16);rw[v]at C1;rw[A]at C2;have D:=I v;have ck:=I A;clear v A ag al an bb CS ar;obtain⟨e0,e1,e2,e3,e4,e5,e6,e7,e8,e9⟩:=eG (aA pU.x HT.g);go_wp2_with fail;refine(C1 _).mono ?_;rintro e w1 ⟨rfl,g1⟩;have v:=I (HT.grown g1);clear HT g1 e0 e1 e2 e3 e4 e5 e6 e7 e8 e9 C1 cr;obtain⟨e0,e1,e2,e3,e4,e5,e6,e7,e8,e9⟩:=eG (aA pU.s v.g);go_wp2_with fail;refine(C2 _).mono ?_;rintro e w2 ⟨rfl,g2⟩;have HT:=I (v.grown g2);clear v g2 e0 e1 e2 e3 e4 e5 e6 e7 e8 e9 C2;cases bp with
             |false=>
              have hfc:di M.ax d ⟨l.ins,r.ins,J,u,L,Q,n,t⟩ x.be s.be=10:=Vy zS ak H8 (λh=>by have:=h.1;rw[D]at this;cases this);exact Cl
             |true=>
              cases bq with
              |false=>
               have hfc:di M.ax d ⟨l.ins,r.ins,J,u,L,Q,n,t⟩ x.be s.be=10:=Vy zS ak H8 (λh=>by have:=h.2;rw[ck]at this;cases this);exact Cl
              |true=>
               obtain⟨t0,t1,t2,t3,t4,t5,t6⟩:=HT.tc;have Y4:=HT.l.frozen 0;have v:=HT.l.frozen 4;clear xN;go_wp2;go_meet
               case rel=>
                rw[sZ,wO];exact⟨(HT.setSt u).Di _,λ_=>⟨D,ck⟩,λh=>by have:=H8.o.symm.trans h;cases this⟩
            |false=>
             have sZ:Hid (ST=d):=(by show _=_;rw[<-ag];show(if aJ n 8=true then u else d)=d;rw[H8];rfl);have wO:Hid (y=fl):=(by show _=_;rw[<-al];simp);clear ag al an bb;go_wp2_with fail;refine(CS _).mono ?_;rintro e w1 ⟨rfl,rfl⟩;by_cases v:A1<u
             .have hfc:di M.ax d ⟨l.ins,r.ins,J,u,L,Q,n,t⟩ x.be s.be=10:=U' zS ak H8 (by rw[ar];exact v);exact Cl
             .have A:=I (fh.1 v);clear xN;go_wp2;go_meet
              case rel=>
               rw[sZ,wO];exact⟨HT,λh=>(by have:=H8.o.symm.trans h;cases this),λ_=>(by rw[ar];exact fh.2 A)⟩
           case rest=>
            obtain⟨A,v⟩:=hcut;refine Kw (λV=>FT U3 V y 0 l.ins d ST 0 0) A ?_;have cm:=I v;clear A v HT X cr CS ar dc;intro W hT;have HT:=I hT;clear hT;as_aux_lemma=>
             have hfc:di M.ax d ⟨l.ins,r.ins,J,u,L,Q,n,t⟩ x.be s.be=if fT d ⟨l.ins,r.ins,J,u,L,Q,n,t⟩ x.be s.be<=ST then 11 else 0:=(by rw[<-ag];exact Sp zS ak cm);have v:=I hfc;clear hfc zS ak cm;obtain⟨er,et⟩:=dt x.be az.o;obtain⟨ec,en⟩:=dt s.be ax.o;have cl:=I (cZ et en);have C1:=I (λW=>vQ L W);obtain⟨A,hA⟩:=aq (kB L);rw[hA]at C1;have C2:=I (λW=>mR ST x.bH W an er);obtain⟨X1,hX⟩:=aq (aW ST x.bH);rw[hX]at C2;have C3:=I (λW=>mR ST s.bH W an ec);obtain⟨S1,hS⟩:=aq (aW ST s.bH);rw[hS]at C3;have C4:=I (λW=>kN X1 S1 W);obtain⟨E1,hE⟩:=aq (gU X1 S1);rw[hE]at C4;have C5:=I (λW=>kN A E1 W);obtain⟨D,hD⟩:=aq (gU A E1);rw[hD]at C5;have bn:fT d ⟨l.ins,r.ins,J,u,L,Q,n,t⟩ x.be s.be=D:=by
              rw[<-hD,<-hE,<-hA,<-hX,<-hS,<-ag];rfl
             rw[bn]at v;have fc:=I bn;clear hA hX hS hE hD bn er et ec en;have z5:=HT.tc.2.2.2.2.2.1;have fx:=HT.l.frozen 5;obtain⟨y0,y1,y2,y3⟩:=FT.c41 pU HT.o;go_wp2_with fail;go_region_held3 (λW'=>W'.c gv 2=some (Y L)/\W'.c U3.1.size 4=some (Y ST)/\W'.c bx 3=some (Y x.bH)/\W'.c bs 3=some (Y s.bH)) (first|(with_reducible exact FT.c41 pU.o HT.o)|(with_reducible exact FT.c41 pU.o HT.o.drew)|(with_reducible exact FT.c41 pU.o (HT.o.zk _))|(with_reducible exact FT.c41 pU.o (HT.o.zk _).drew)|go_keep) (first|(go_at_call 105;(with_reducible refine Calls.mono (C1.o _) ?_);rintro e X ⟨rfl,rfl⟩)|(go_at_call 103;(first|(with_reducible refine Calls.mono (C2.o _) ?_)|(with_reducible refine Calls.mono (C3.o _) ?_));rintro e X ⟨rfl,rfl⟩)|(go_at_call 104;(first|(with_reducible refine Calls.mono (C4.o _) ?_)|(with_reducible refine Calls.mono (C5.o _) ?_));rintro e X ⟨rfl,rfl⟩));have bm:=I (HT.zk D).drew;obtain⟨W3,dn⟩:∃W',(W.setCell (F U3.1.size 5) (Y D)).drew=W':=⟨_,rfl⟩
             rw[dn]at bm⊢;clear dn HT z5 fx y0 y1 y2 y3 C1 C2 C3 C4 C5;have HT:=bm;clear bm;obtain⟨t0,t1,t2,t3,t4,t5,t6⟩:=HT.tc;by_cases dd:D<=ST
             .rw[dQ dd]at v;have HS:Hid (R=.error 11):=(by show _=_;rw[xN,dQ (by rw[v];decide),v]);clear xN;go_wp2;go_ret2;exact⟨_,_,rfl,by rw[HS];exact iL H HD (aa pU.f.g HT.g)⟩
             rw[b' dd]at v;have HS:Hid (R=.ok ⟨11,mZ d ⟨l.ins,r.ins,J,u,L,Q,n,t⟩ x.be s.be,s.be,J,x.aH,x.key,3⟩):=by
              show _=_;rw[xN,b' (λh=>h v.o)];rfl
             clear xN v;have C1:=I (λW=>vQ Q W);obtain⟨A,hA⟩:=aq (kB Q);rw[hA]at C1;obtain⟨MF,v⟩:=aq (iy n 7 x.be s.be);obtain⟨MR,bo⟩:=aq (fE n 7 x.be s.be ST A);have C2:Hid (∀W,Calls prog 106 #[.agg #[Y y,O 0,.string ⟨l.ins.toArray⟩,Y d,Y ST,Y D,Y 0],Y n,Y 7,.agg x.arr,.agg s.arr,Y A] W λe X=>e=.returned (.agg #[Y (y+MF),O 0,.string ⟨l.ins.toArray⟩,Y d,Y ST,Y D,Y MR])/\W.grownBy X none):=by
              intro W;have h:=Qg ⟨y,0,l.ins,d,ST,D,0⟩ n 7 A x s W ah ba cl.1 cl.2 an bb.1 (by have:=bb.2;show y<4096;omega);dsimp only at h;rw[MI,v,bo]at h;exact h
             have cp:Hid (mZ d ⟨l.ins,r.ins,J,u,L,Q,n,t⟩ x.be s.be=⟨y+MF,0,l.ins,d,ST,D,MR⟩):=by
              show _=_;rw[<-v,<-bo,<-hA,<-fc,<-ag,<-al,<-aj,<-H8];rfl
             clear hA v bo;have fi:Hid (TK.In ⟨y+MF,0,l.ins,d,ST,D,MR⟩):=by
              show TK.In _;rw[<-cp];exact Ul cO HI.2.1 HI.2.2.1 HI.2.2.2.1
             go_wp2_with fail;refine aF.start (S:=λV=>FT U3 V y 0 l.ins d ST D 0) 9 f' ?_;have eu:=I HT.drew;clear t0 t1 t2 t3 t4 t5 t6 HT;refine aF.tk 0 [8,0] ?_ (hy:=by intro W hW;obtain⟨t0,t1,t2,t3,t4,t5,t6⟩:=hW.tc;exact kV);refine aF.tk 1 [8,1] ?_;refine aF.tk 2 [8,2] ?_ (hy:=by intro W hW;obtain⟨e0,e1,e2,e3,e4,e5,e6,e7,e8,e9⟩:=eG (aA pU.x hW.g);exact kV);refine aF.tk 3 [8,3] ?_ (hy:=by intro W hW;obtain⟨e0,e1,e2,e3,e4,e5,e6,e7,e8,e9⟩:=eG (aA pU.s hW.g);exact kV);refine aF.tk 4 [8,7,6,5,4] ?_;refine aF.tk 5 [8,7,6,5] ?_;refine aF.tk 6 [8,7,6] ?_ (hy:=by intro W hW;have e3:=(aA pU.f.v hW.g) 3 _ rfl;exact kV);refine aF.on 7 ?_;intro K hK;refine Calls.mono (C1 _) ?_;rintro e X ⟨rfl,rfl⟩;go_wp2_with fail;refine qF ?_;clear hK K C1;refine aF.on 8 ?_;intro K hK;refine Calls.mono (C2 _) ?_;rintro e w5 ⟨rfl,g5⟩;have v:=I (eu.grown g5);clear g5;go_wp2_with fail;refine mA v ?_;clear hK K C2 eu;obtain⟨⟨e0,j0⟩,⟨e1,j1⟩,⟨e2,j2⟩,⟨e3,j3⟩,⟨e4,j4⟩,⟨e5,j5⟩,⟨e6,j6⟩,l0,l1,l2,l3,l4,l5,l6⟩:=qD v.l;refine aF.on 9 ?_;intro K hK;refine hK.out _ _ (.inl f') ?_;clear hK K;refine aF.Hd (λV=>FT U3 V (y+MF) 0 l.ins d ST D MR) f' (v.Uk (y+MF) 0 l.ins d ST D MR) ?_;clear e0 e1 e2 e3 e4 e5 e6 j0 j1 j2 j3 j4 j5 j6 l0 l1 l2 l3 l4 l5 l6 v;intro W hT;have HT:=I hT;clear hT;as_aux_lemma=>
              obtain⟨ad,cd,dp⟩:=bA pU.f.d.bU.aL;obtain⟨nd,v⟩:=aq M.aL.length;have y3:W.cell? (F T 3)=some (.slice ad nd cd):=by
               have:=(pU.f.grown HT.g).d.bU.blk.cell 3;rw[dp,v]at this;simpa using this
              have bk:=I v;clear dp v;by_cases hd:(nd:Int)<24
              .go_wp2;go_ret2;exact⟨_,_,rfl,by rw[HS];exact Qi (by rw[bk];omega) HD.o (aa pU.f.g HT.g)⟩
              have ev:Hid (j<=W.1.size):=cE bu (aa pU.f.g HT.g).size;have cu:=af.num x.be az.o;have QE:=af.num s.be ax.o;have QF:=af.name x.be az.o;have QG:=af.name s.be ax.o;have I4:Hid (l.ins.length<=90):=by
               show _<=_;rw[<-ff];exact yz QF
              have cn:Hid (s.name.length<=90):=yz QG;have CG:Hid (∀W,RD W j T M g->j<=W.1.size->Calls prog 107 #[N T 0,Y 11,.agg #[Y (y+MF),O 0,.string ⟨l.ins.toArray⟩,Y d,Y ST,Y D,Y MR],.agg s.arr,Y J,Y x.aH,O (x.key.toNat:Int),Y 3] W λe X=>∃o,e=.returned o/\mB W.1.size X o (mg 11 {(⟨y+MF,0,l.ins,d,ST,D,MR⟩:TK)with aO:=eP M.aL 0} s.be J x.aH x.key 3 (eP M.aL 1) (eP M.aL 2))/\(∃v,RD X j T {M with aL:=M.aL.drop 24} {g with dv:=v}/\lE W.1.size v)/\W.grownBy X (some T)):=by
               intro W hW hb;exact Qb j T M g 11 J x.aH ⟨y+MF,0,l.ins,d,ST,D,MR⟩ s x.key 3 3 W hW (by rw[bk];omega) fz hb H H rfl ⟨by decide,by decide⟩ HI.1 (He cu) (He QE) fi.o I4.o cn.o
              clear cu QE QF QG I4 cn;go_wp2_with fail;refine aF.start (S:=λV=>FT U3 V (y+MF) 0 l.ins d ST D MR) 11 f' ?_;have eu:=I HT.drew;clear y3;refine aF.tk 0 [0] ?_;refine aF.tk 1 [1] ?_ (hy:=by intro W hW;obtain⟨t0,t1,t2,t3,t4,t5,t6⟩:=hW.tc;exact kV);refine aF.tk 2 [2] ?_ (hy:=by intro W hW;obtain⟨e0,e1,e2,e3,e4,e5,e6,e7,e8,e9⟩:=eG (aA pU.s hW.g);exact kV);refine aF.tk 3 [5,4,3] ?_;refine aF.tk 4 [5,4] ?_;refine aF.tk 5 [5] ?_ (hy:=by intro W hW;have e3:=(aA pU.f.v hW.g) 0 _ rfl;exact kV);refine aF.tk 6 [7,6] ?_;refine aF.tk 7 [7] ?_ (hy:=by intro W hW;obtain⟨e0,e1,e2,e3,e4,e5,e6,e7,e8,e9⟩:=eG (aA pU.x hW.g);exact kV);refine aF.tk 8 [10,9,8] ?_;refine aF.tk 9 [10,9] ?_;refine aF.tk 10 [10] ?_ (hy:=by intro W hW;obtain⟨e0,e1,e2,e3,e4,e5,e6,e7,e8,e9⟩:=eG (aA pU.x hW.g);exact kV);refine aF.on 11 ?_;intro K hK;refine Calls.mono (CG _ (pU.f.grown eu.g).d ev) ?_;rintro e w5 ⟨o,rfl,uy,⟨v,df,Qq⟩,g5⟩;have HH:=I (cZ uy (cZ df (cZ Qq g5)));clear uy df Qq g5;go_wp2_with fail;refine gN ?_;clear hK K CG;refine aF.fr 12 ?_;refine aF.fr 13 ?_;refine aF.done f' ?_;go_wp2;go_ret2;refine⟨_,_,rfl,?_⟩;rw[HS];obtain⟨h1,h2,h3,h4⟩:=HH.o;have cc:=aa pU.f.g eu.g;refine⟨?_,λh=>absurd rfl h,λ_=>⟨_,v,rfl,?_,h2,λb hb=>cE cc.size (h3 b hb),iH (mK cc T) h4⟩⟩
              .show _=if M.aL.length<24 then 60 else 0;rw[b' (by rw[bk];omega)]
              .unfold GR.box;dsimp only;rw[cp];exact h1.base cc.size
