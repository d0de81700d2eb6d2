import Derived.Test.YtlfifnpjeangmaaGreatDoorGERFstC
namespace Go.Proofs.YtlfifnpjeangmaaGreatDoor
set_option maxHeartbeats 8000000
open Proofs.Tryz Go.RowKit
set_option maxRecDepth 100000
set_option linter.unusedSimpArgs false
variable {p:Prop}
theorem xF(h:p:=by show _=_;rw[wJ,dT (by rw[hfc];decide),hfc]):p:=h
theorem AW(h:p:=by
 have HS:Hid (R=.error 10):=xF
 clear wJ
 go_wp2
 go_ret2
 exact⟨_,_,rfl,by rw[HS];exact iG O HD (aa pY.f.g HT.g)⟩):p:=h
theorem Gk(h:p:=by
 have HS:Hid (R=.error 13):=xF
 clear wJ
 go_wp2
 go_ret2
 exact⟨_,_,rfl,by rw[HS];exact iG O HD pY.f.g⟩):p:=h
theorem DO(h:p:=by
 go_wp2
 go_ret2
 exact⟨_,_,rfl,by rw[HS];exact iG O HD HF.g⟩):p:=h
theorem KL(j T)(M)(g)(d)(gl c)(p0 l r p3 p4 p5 p6 p7 C)(w)(hD:RD w j T M g)(af:fZ 4611686018427387904 M.aF)(bu:j<=w.1.size)(a:jK w gl [p0,l,r,p3,p4,p5,p6,p7,C])(b:∀q∈[p0,l,r,p3,p4,p5,p6,p7,C],q.ins.length<=900)(m:bG p0.pair=some 10)(dB:b9 d)(gm:b9 M.aA)(ds:∀e∈M.aF,b9 e.bI/\b9 e.aC)(fv:M.aL.length<=140737488355328):Calls prog 69 #[π T 0,Y d,ς gl 0 9 c] w λe X=>∃o k,e=.returned (.tuple #[o,Y k])/\Cw j T M g (nR M d ([p0,l,r,p3,p4,p5,p6,p7,C].map Pc.pair)) w X o k:=by
 have v:w.c gl 2=some (.int .u8 (l.tag.toNat:Int)):=a.tag 1 Z
 have y:w.c gl 3=some (.slice l.ad l.ins.length l.cap):=a.ins 1 Z
 have u:=I a
 have Uc:=I b
 have C1:=I (qU l w (a.2 l Z).1 (cE (b l Z) O))
 have C2:Hid (∀W,jK W gl [p0,l,r,p3,p4,p5,p6,p7,C]->Calls prog 96 #[.agg #[.int .u8 (r.tag.toNat:Int),.slice r.ad r.ins.length r.cap]] W λe X=>e=.returned (.tuple #[.string ⟨r.ins.toArray⟩,.bool (dm r.pair).isSome])/\W.grownBy X none):=λW hW=>qU r W (hW.2 r Z).1 (cE (b r Z) O)
 have C3:Hid (∀W,jK W gl [p0,l,r,p3,p4,p5,p6,p7,C]->Calls prog 97 #[ς gl 0 9 c,Y 3,Y 8] W λe X=>∃o vs,e=.returned (.tuple #[o,.bool (jT [p3,p4,p5,p6,p7])])/\rJ [p3,p4,p5,p6,p7] vs/\X.ownsRow W.1.size 2 1 o vs.length (vs.map tf)/\W.grownBy X none):=λW hW=>uQ 3 8 9 gl c [p0,l,r,p3,p4,p5,p6,p7,C] W (I rfl) O O O hW
 have C4:Hid (∀W,jK W gl [p0,l,r,p3,p4,p5,p6,p7,C]->Calls prog 98 #[.agg #[.int .u8 (C.tag.toNat:Int),.slice C.ad C.ins.length C.cap]] W λe X=>∃n z t,e=.returned (.tuple #[Y n,z,.bool t,.bool (mi C.pair).isSome])/\b9 n/\Kj X (mi C.pair) n z t/\W.grownBy X none):=λW hW=>S5 C W (hW.2 C Z).1 (hW.2 C Z).2.1 (hW.2 C Z).2.2 (cE (b C Z) O)
 obtain⟨b1,h1⟩:=N ((dm l.pair).isSome)
 obtain⟨b2,h2⟩:=N ((dm r.pair).isSome)
 obtain⟨b3,h3⟩:=N (jT [p3,p4,p5,p6,p7])
 obtain⟨o8,h8⟩:=N (mi C.pair)
 rw[h1]at C1
 rw[h2]at C2
 rw[h3]at C3
 rw[h8]at C4
 have HB:=I (dN h1 (dN h2 (dN h3 h8)))
 have ff:Hid (∀x,o8=some (some x)->x.2.length<=900):=λx hx=>cE (Vy (p:=C.pair) (by rw[h8];exact hx)) (b C Z)
 clear h1 h2 h3 h8 a b
 have HD:=I hD
 obtain⟨R,b⟩:=N (nR M d ([p0,l,r,p3,p4,p5,p6,p7,C].map Pc.pair))
 rw[b]
 have HR:=I b
 clear b hD
 go_in
 go_wp2_with (first|(go_at_call 96;(first|refine C1.mono ?_;clear C1;rintro e w1 ⟨rfl,g1⟩;have b:=I (u.grown g1);have n:=I g1;have A:w1.c gl 4=some (.int .u8 (r.tag.toNat:Int)):=b.tag 2 Z;have B:w1.c gl 5=some (.slice r.ad r.ins.length r.cap):=b.ins 2 Z;clear u g1 v y|(refine(C2 _ b).mono ?_;clear C2;rintro e w2 ⟨rfl,g2⟩;have t:=I (b.grown g2);have i:=I (aa n g2);clear b n g2 A B))))
 refine(C3 _ t).mono ?_
 rintro e w3 ⟨o,vs,rfl,ZE,b,g3⟩
 obtain⟨J,u,L,Q,n,rfl,v,P,U,V,q7⟩:=ZE.five
 obtain⟨gv,cv,rfl,ab,_⟩:=jJ b Z
 have y:=I (t.grown g3)
 have D:=I (aa i g3)
 have GV:=I ab
 have RN:=I (Vx p0 l r p3 p4 p5 p6 p7 C J u L Q n m v P U V q7)
 have HI:=I (dN v.1 (dN P.1 (dN U.1 (dN V.1 q7.1))))
 rw[HB.1,HB.2.1,HB.2.2.1,HB.2.2.2]at RN
 have A:w3.c gl 16=some (.int .u8 (C.tag.toNat:Int)):=y.tag 8 Z
 have B:w3.c gl 17=some (.slice C.ad C.ins.length C.cap):=y.ins 8 Z
 simp only[de,List.length_nil]
 clear C3 t i g3 ZE b ab v P U V q7 m HB
 go_wp2_with fail
 refine(C4 _ y).mono ?_
 rintro e w4 ⟨pn,pz,pt,rfl,m,ai,v⟩
 have au:Hid (∀t,o8=some t->FS w w4 j T M g gv J u L Q n pz t/\pt=t.isSome/\∀x,t=some x->pn=x.1):=by
  intro t i;obtain⟨V,U⟩:=ai t i;have P:=aa D v;exact⟨⟨HD.keep (λb hb=>P.block b (HD.o.lt b hb).2 Z),aB GV v,λx hx=>⟨(U x hx).2.1,ff x (by rw[i,hx])⟩,P⟩,V,λx hx=>(U x hx).1⟩
 have FJ:=I (aa D v)
 have gx:=I m
 obtain⟨P,a⟩:=N (lu ([p0,l,r,p3,p4,p5,p6,p7,C].map Pc.pair))
 unfold nR at HR
 rw[a]at RN HR
 clear a C4 y D GV A B v ai m
 go_upto_region 5 with fail
 go_cut [70] (λz A=>z=.bool (!P.isSome)/\A=w4)
 case first=>
  have v:Hid (P.isSome=(b1&&(b2&&(b3&&o8.isSome)))):=RN.1;clear RN HR au;cases b1 with
  |false=>
   have HS:Hid (P.isSome=false):=v.o;clear v;exact nB
  |true=>
   cases b2 with
   |false=>
    have HS:Hid (P.isSome=false):=v.o;clear v;exact nB
   |true=>
    cases b3 with
    |false=>
     have HS:Hid (P.isSome=false):=v.o;clear v;exact nB
    |true=>
     have HS:Hid (P.isSome=o8.isSome):=v.o;clear v;go_wp2;go_meet
     case rel=>exact⟨by rw[HS];cases o8<;>rfl,rfl⟩
 case rest=>
  obtain⟨rfl,rfl⟩:=hcut;cases P with
  |none=>
   have HS:Hid (R=.error 60):=HR.o.symm;clear HR RN au;simp only[Option.isSome_none,eM];go_wp2;go_ret2;exact⟨_,_,rfl,by rw[HS];exact iG O HD FJ⟩
  |some q=>
   obtain⟨t,i,hq⟩:=RN.2 q rfl;obtain⟨a,gg,m⟩:=au t i;have HS:Hid (R=mB M d q):=HR.o.symm;subst hq gg;have HF:=I a;have bl:=I m;clear HR RN au a m i FJ;simp only[dj,eV];have y:=I (λW (hW:RD W j T M g)=>xw j T M g l.ins W hW af.len);have CB:=I (λW (hW:RD W j T M g)=>xw j T M g r.ins W hW af.len);have a:=uk g.es l.ins;have m:=uk g.es r.ins;rw[HD.aF]at a m;have wJ:Hid (R=match BE.find M.aF l.ins,BE.find M.aF r.ins with|none,_=>.error 6|some _,none=>.error 7|some x,some s=>if nQ x s d 1 2≠0 then .error (nQ x s d 1 2) else if cO M.aA d ⟨l.ins,r.ins,J,u,L,Q,n,t⟩ x s≠0 then .error (cO M.aA d ⟨l.ins,r.ins,J,u,L,Q,n,t⟩ x s) else .ok ⟨11,mI d ⟨l.ins,r.ins,J,u,L,Q,n,t⟩ x s,s,J,x.aH,x.key,3⟩):=HS.o;obtain⟨fa,B⟩:=N (gu g.es l.ins);obtain⟨fb,i⟩:=N (gu g.es r.ins);rw[B]at y a;rw[i]at CB m;have HA:=I a;have Z5:=I m;clear a m B i HS;go_wp2_with fail;refine(y _ HF.d).mono ?_;rintro e w5 ⟨rfl,g5⟩;have a:=I (HF.grown g5);clear HF g5 y;go_wp2_with fail;refine(CB _ a.d).mono ?_;rintro e w6 ⟨rfl,i⟩;have HF:=I (a.grown i);clear a i CB;rcases HA.o with⟨hm,ao⟩|⟨i,hi,dq,hx⟩
   .have HS:Hid (R=.error 6):=(by show _=_;rw[wJ,ao]);subst hm;clear wJ HA Z5 ao;exact DO
   .rcases Z5.o with⟨hm,ao⟩|⟨k,hk,gd,hs⟩
    .have HS:Hid (R=.error 7):=(by show _=_;rw[wJ,hx,ao]);have dp:¬ (i:Int)<0:=G;subst hm dq;clear wJ HA Z5 ao hx;exact DO
    .rw[hx,hs]at wJ;have dp:¬ (i:Int)<0:=G;have fz:¬ (k:Int)<0:=G;have fx:(0:Int)<=(i:Int):=G;have ga:(0:Int)<=(k:Int):=G;obtain⟨gb,cb,bz,ab⟩:=um HF.d G;obtain⟨m,hm⟩:=N g.es.length;have OL:(i:Int)<(m:Int):=G;have mW:(k:Int)<(m:Int):=G;have y1:w6.cell? (F T 1)=some (ς gb 0 m cb):=by
      have:=HF.d.bP.blk.cell 1;rw[bz,hm]at this;simpa using this
     have GV:=I ab;obtain⟨x,cj⟩:=N (g.es[i]);obtain⟨s,ch⟩:=N (g.es[k]);have B:x.be∈M.aF:=(by rw[<-HD.aF,<-cj];exact eK (eg hi));have a:s.be∈M.aF:=(by rw[<-HD.aF,<-ch];exact eK (eg hk));obtain⟨x0,x1,x2,x3,x4,x5,x6,x7,x8,x9⟩:=uT ab i hi;rw[cj]at x0 x1 x2 x3 x4 x5 x6 x7 x8 x9 wJ;rw[ch]at wJ;subst dq gd;have y:=I bz;have ev:Hid (x.name=l.ins):=by
      show _=_;rw[<-cj];exact lV hx
     have ay:=I B;have av:=I a;clear hx hs ab HA Z5 bz B a;go_upto_region 14 with fail
     refine Cx (λV=>FS w V j T M g gv J u L Q n pz t/\V.rangeAt w6.1.size 0 x.cells/\V.rangeAt gb 0 (bK g.es)) ⟨HF.grown (cx w6 _ none),wy w6 x,aB GV (cx w6 _ none)⟩ ?_;rintro V ⟨U,D,B⟩;clear x0 x1 x2 x3 x4 x5 x6 x7 x8 x9 y1 HF GV;have y1:V.cell? (F T 1)=some (ς gb 0 m cb):=by
      have:=U.d.bP.blk.cell 1;rw[y,hm]at this;simpa using this
     obtain⟨s0,s1,s2,s3,s4,s5,s6,s7,s8,s9⟩:=uT B k hk;rw[ch]at s0 s1 s2 s3 s4 s5 s6 s7 s8 s9;have HV:=I U;have a:=I D;clear U D B y;obtain⟨bx,y⟩:=N w6.1.size;rw[y]at a⊢;clear y;go_upto_region 15 with fail
     refine Cx (λU=>F2 w U j T M g gv J u L Q n pz t x s bx V.1.size) ⟨HV.grown (cx V _ none),aB a (cx V _ none),wy V s⟩ ?_;intro U y;have HU:=I y;clear y;obtain⟨bs,y⟩:=N V.1.size;rw[y]at HU⊢;clear y s0 s1 s2 s3 s4 s5 s6 s7 s8 s9 y1 HV a dp fz fx ga OL mW;as_aux_lemma=>
      have a:=af.qm x.be ay.o;have ai:=af.qm s.be av.o;have ah:=I (dN a.2.2.1 a.2.2.2);have ba:=I (dN ai.2.2.1 ai.2.2.2);clear a ai;have a:=I (λW=>zY (π T 0) x s d 1 2 W ah ba);obtain⟨ca,y⟩:=N (nQ x.be s.be d 1 2);rw[y]at a wJ;clear y;obtain⟨e0,e1,e2,e3,e4,e5,e6,e7,e8,e9⟩:=eB HU.x;obtain⟨B,D,f2,f3,f4,f5,f6,f7,f8,f9⟩:=eB HU.s;go_wp2_with fail;refine(a _).mono ?_;rintro e U1 ⟨rfl,g1⟩;have y:=I (HU.grown g1);clear HU g1 e0 e1 e2 e3 e4 e5 e6 e7 e8 e9 B D f2 f3 f4 f5 f6 f7 f8 f9 a;by_cases hz:ca=0;rotate_left
      .have HS:Hid (R=.error ca):=(by show _=_;rw[wJ,dT hz]);clear wJ;go_wp2;go_ret2;exact⟨_,_,rfl,by rw[HS];exact iG hz HD y.f.g⟩
      subst hz;rw[cZ (λh=>h rfl)]at wJ;have B:=I (λW=>lJ x 1 W O ah.1 ah.2);obtain⟨mb,a⟩:=N (x.be.has 1);rw[a]at B;have bf:=I a;clear a;obtain⟨e0,e1,e2,e3,e4,e5,e6,e7,e8,e9⟩:=eB y.x;go_wp2_with fail;refine(B _).mono ?_;rintro e U2 ⟨rfl,g2⟩;have ae:=I (y.grown g2);clear y g2 e0 e1 e2 e3 e4 e5 e6 e7 e8 e9 B;obtain⟨B,hB⟩:=N ((mb&&!t.isSome));have bc:=I hB;go_upto_region 19 with fail
      go_cut [111] (λz A=>z=.bool B/\U2=A)
      case first=>
       have v:=I hB;clear hB wJ bl;cases mb with
       |true=>
        go_wp2;go_meet
        case rel=>exact⟨by rw[<-v];cases t<;>rfl,rfl⟩
       |false=>
        go_wp2;go_meet
        case rel=>exact⟨by rw[<-v];rfl,rfl⟩
      case rest=>
       obtain⟨rfl,rfl⟩:=hcut;clear hB;cases B with
       |true=>
        have hfc:cO M.aA d ⟨l.ins,r.ins,J,u,L,Q,n,t⟩ x.be s.be=25:=by
         have hb:=bc.o;have hm:=bf.o;cases t with
         |some y=>simp at hb
         |none=>
          have:eY M.aA d x.be none=25:=by
           show(if x.be.has 1=true then(25:Int) else 0)=25;rw[hm];simp at hb;rw[hb];rfl
          rw[ZQ (by show eY M.aA d x.be none≠0;rw[this];decide)];exact this
        have HS:Hid (R=.error 25):=xF;clear wJ;go_wp2;go_ret2;exact⟨_,_,rfl,by rw[HS];exact iG O HD ae.f.g⟩
       |false=>
        obtain⟨pc,a⟩:=N (eY M.aA d x.be t);have yP:=I a;clear a;go_upto_if 112 with fail
        go_cut [] (λA=>F2 w A j T M g gv J u L Q n pz t x s bx bs/\pc=0)
        case first=>
         cases t with
         |none=>
          have a:pc=0:=by
           have hb:=bc.o;have hm:=bf.o;simp at hb;rw[hb]at hm;rw[<-yP];show(if x.be.has 1=true then(25:Int) else 0)=0;rw[hm];rfl
          have HH:=I a;clear a wJ yP;simp only[Option.isSome_none];go_wp2;go_meet
          case rel=>exact⟨ae,HH⟩
         |some nz=>
          obtain⟨gw,a⟩:=nz;have cu:=bl (gw,a) rfl;simp only at cu;subst cu;obtain⟨dt,ea⟩:=ae.f.z _ rfl;have CP:=I (λW (hW:RD W j T M g) (D:wm W pz a)=>NS j T M g x d pn a pz W hW D ea dB);have cz:Hid (wz M.aA d x.be pn a=pc):=yP.o;rw[cz]at CP;have D:=I dt;clear cz dt ea;obtain⟨e0,e1,e2,e3,e4,e5,e6,e7,e8,e9⟩:=eB ae.x;simp only[dj];go_wp2_with fail;refine(CP _ ae.f.d D).mono ?_;rintro e U3 ⟨rfl,g3⟩;have pY:=I (ae.grown g3);clear ae g3 e0 e1 e2 e3 e4 e5 e6 e7 e8 e9 CP D;by_cases hz:pc=0
          .clear wJ;go_wp2;go_meet
           case rel=>exact⟨pY,hz⟩
          .have hfc:cO M.aA d ⟨l.ins,r.ins,J,u,L,Q,n,some (pn,a)⟩ x.be s.be=pc:=by
            rw[ZQ (by show eY M.aA d x.be (some (pn,a))≠0;rw[yP];exact hz)];exact yP.o
           have HS:Hid (R=.error pc):=(by show _=_;rw[wJ,dT (by rw[hfc];exact hz),hfc]);clear wJ hfc;go_wp2;go_ret2;exact⟨_,_,rfl,by rw[HS];exact iG hz HD pY.f.g⟩
        case rest=>
         obtain⟨a,D⟩:=hcut;rw[D]at yP;refine IZ (λV=>F2 w V j T M g gv J u L Q n pz t x s bx bs) a ?_;clear D a ae bc bf pc;intro U3 a;have pY:=I a;have gp:U3.c gv 1=some (Y u):=a.f.v 1 _ rfl;have gr:U3.c gv 4=some (Y n):=a.f.v 4 _ rfl;clear a;as_aux_lemma=>
          by_cases a:n<0
          .have hfc:cO M.aA d ⟨l.ins,r.ins,J,u,L,Q,n,t⟩ x.be s.be=13:=ZR yP (.inl a);exact Gk
          by_cases D:15<n
          .have hfc:cO M.aA d ⟨l.ins,r.ins,J,u,L,Q,n,t⟩ x.be s.be=13:=ZR yP (.inr D);exact Gk
          have ak:Hid (¬ (n<0\/15<n)):=λh=>h.elim a D;go_upto_if 138 with fail
          refine Cx (λW=>FT U3 W 32 0 l.ins d d 0 0) (FT.new U3 _ _ _ _ _ _ _) ?_;intro W hT;have HT:=I hT;clear hT gp gr a D;obtain⟨fl,D⟩:∃a:Int,32+(if t.isSome=true then 64 else 0)=a:=⟨_,rfl⟩
          have aj:=I D;have da:0<=fl/\fl<=96:=(by rw[<-D];split<;>omega);clear D;go_cut [] (λA=>FT U3 A fl 0 l.ins d d 0 0)
          case first=>
           clear wJ bl yP da;cases t with
           |none=>
            have v:Hid (fl=32):=aj.o.symm;clear aj;simp only[Option.isSome_none];go_wp2;go_meet
            case rel=>rw[v];exact HT.o
           |some y=>
            have v:Hid (fl=96):=aj.o.symm;clear aj;obtain⟨t0,t1,t2,t3,t4,t5,t6⟩:=HT.tc;have WI:=HT.l.frozen 0;simp only[dj];go_wp2;go_meet
            case rel=>rw[v];exact HT.BG 96
          case rest=>
           refine IZ (λV=>FT U3 V fl 0 l.ins d d 0 0) hcut ?_;clear hcut HT W;intro W hT;have HT:=I hT;have ZW:W.cell? (F T 0)=some (Y M.aA):=by
            have:=(pY.f.grown hT.g).d.bP.blk.cell 0;simpa using this
           clear hT;have CB:=I (λW=>eT n 8 3 W O O);have CS:=I (λW=>mr d M.aA W dB gm);obtain⟨b8,h8⟩:=N (aI n 8);obtain⟨A1,v⟩:=N (aW d M.aA);obtain⟨ST,bt⟩:=N (bH d ⟨l.ins,r.ins,J,u,L,Q,n,t⟩);obtain⟨y,D⟩:=N (fl+(if b8=true then 24 else 0));rw[h8]at CB;rw[v]at CS;have H8:=I h8;have ar:=I v;have ag:=I bt;have al:=I D;have an:b9 ST:=by
            rw[<-bt];unfold bH;split
            .exact HI.2.1
            .exact dB
           have bb:0<=y/\y<=200:=(by rw[<-D];split<;>omega);clear h8 v bt D;go_upto_if 144 with(go_at_call 102;refine(CB _).mono ?_;rintro e X ⟨rfl,rfl⟩)
           go_cut [] (λA=>FT U3 A y 0 l.ins d ST 0 0/\Tm M.aA d ⟨l.ins,r.ins,J,u,L,Q,n,t⟩ x.be s.be)
           case first=>
            cases b8 with
            |true=>
             have tH:Hid (ST=u):=(by show _=_;rw[<-ag];show(if aI n 8=true then u else d)=u;rw[H8];rfl);have vI:Hid (y=fl+8+16):=(by show _=_;rw[<-al,dT rfl];omega);have C1:=I (λW=>lJ x 16 W O ah.1 ah.2);have C2:=I (λW=>lJ s 16 W O ba.1 ba.2);obtain⟨bp,v⟩:=N (x.be.has 16);obtain⟨bq,A⟩:=N (s.be.has 16);rw[v]at C1;rw[A]at C2;have D:=I v;have ck:=I A;clear v A ag al an bb CS ar;obtain⟨e0,e1,e2,e3,e4,e5,e6,e7,e8,e9⟩:=eB (aB pY.x HT.g);go_wp2_with fail;refine(C1 _).mono ?_;rintro e w1 ⟨rfl,g1⟩;have v:=I (HT.grown g1);clear HT g1 e0 e1 e2 e3 e4 e5 e6 e7 e8 e9 C1 ZW;obtain⟨e0,e1,e2,e3,e4,e5,e6,e7,e8,e9⟩:=eB (aB pY.s v.g);go_wp2_with fail;refine(C2 _).mono ?_;rintro e w2 ⟨rfl,g2⟩;have HT:=I (v.grown g2);clear v g2 e0 e1 e2 e3 e4 e5 e6 e7 e8 e9 C2;cases bp with
             |false=>
              have hfc:cO M.aA d ⟨l.ins,r.ins,J,u,L,Q,n,t⟩ x.be s.be=10:=Tk yP ak H8 (λh=>by have:=h.1;rw[D]at this;cases this);exact AW
             |true=>
              cases bq with
              |false=>
               have hfc:cO M.aA d ⟨l.ins,r.ins,J,u,L,Q,n,t⟩ x.be s.be=10:=Tk yP ak H8 (λh=>by have:=h.2;rw[ck]at this;cases this);exact AW
              |true=>
               obtain⟨t0,t1,t2,t3,t4,t5,t6⟩:=HT.tc;have WI:=HT.l.frozen 0;have v:=HT.l.frozen 4;clear wJ;go_wp2;go_meet
               case rel=>
                rw[tH,vI];exact⟨(HT.setSt u).BG _,λ_=>⟨D,ck⟩,λh=>by have:=H8.o.symm.trans h;cases this⟩
            |false=>
             have tH:Hid (ST=d):=(by show _=_;rw[<-ag];show(if aI n 8=true then u else d)=d;rw[H8];rfl);have vI:Hid (y=fl):=(by show _=_;rw[<-al];simp);clear ag al an bb;go_wp2_with fail;refine(CS _).mono ?_;rintro e w1 ⟨rfl,rfl⟩;by_cases v:A1<u
             .have hfc:cO M.aA d ⟨l.ins,r.ins,J,u,L,Q,n,t⟩ x.be s.be=10:=RC yP ak H8 (by rw[ar];exact v);exact AW
             .have A:=I (eS.1 v);clear wJ;go_wp2;go_meet
              case rel=>
               rw[tH,vI];exact⟨HT,λh=>(by have:=H8.o.symm.trans h;cases this),λ_=>(by rw[ar];exact eS.2 A)⟩
           case rest=>
            obtain⟨A,v⟩:=hcut;refine IZ (λV=>FT U3 V y 0 l.ins d ST 0 0) A ?_;have cm:=I v;clear A v HT X ZW CS ar da;intro W hT;have HT:=I hT;clear hT;as_aux_lemma=>
             have hfc:cO M.aA d ⟨l.ins,r.ins,J,u,L,Q,n,t⟩ x.be s.be=if fO d ⟨l.ins,r.ins,J,u,L,Q,n,t⟩ x.be s.be<=ST then 11 else 0:=(by rw[<-ag];exact NO yP ak cm);have v:=I hfc;clear hfc yP ak cm;obtain⟨ed,ei⟩:=ds x.be ay.o;obtain⟨eb,ec⟩:=ds s.be av.o;have cl:=I (dN ei ec);have C1:=I (λW=>uR L W);obtain⟨A,hA⟩:=N (j9 L);rw[hA]at C1;have C2:=I (λW=>mr ST x.bI W an ed);obtain⟨X1,hX⟩:=N (aW ST x.bI);rw[hX]at C2;have C3:=I (λW=>mr ST s.bI W an eb);obtain⟨S1,hS⟩:=N (aW ST s.bI);rw[hS]at C3;have C4:=I (λW=>kC X1 S1 W);obtain⟨E1,hE⟩:=N (gS X1 S1);rw[hE]at C4;have C5:=I (λW=>kC A E1 W);obtain⟨D,hD⟩:=N (gS A E1);rw[hD]at C5;have bn:fO d ⟨l.ins,r.ins,J,u,L,Q,n,t⟩ x.be s.be=D:=by
              rw[<-hD,<-hE,<-hA,<-hX,<-hS,<-ag];rfl
             rw[bn]at v;have et:=I bn;clear hA hX hS hE hD bn ed ei eb ec;have z5:=HT.tc.2.2.2.2.2.1;have fi:=HT.l.frozen 5;obtain⟨y0,y1,y2,y3⟩:=FT.c41 pY HT.o;go_wp2_with fail;go_region_held3 (λW'=>W'.c gv 2=some (Y L)/\W'.c U3.1.size 4=some (Y ST)/\W'.c bx 3=some (Y x.bI)/\W'.c bs 3=some (Y s.bI)) (first|(with_reducible exact FT.c41 pY.o HT.o)|(with_reducible exact FT.c41 pY.o HT.o.drew)|(with_reducible exact FT.c41 pY.o (HT.o.xW _))|(with_reducible exact FT.c41 pY.o (HT.o.xW _).drew)|go_keep) (first|(go_at_call 105;(with_reducible refine Calls.mono (C1.o _) ?_);rintro e X ⟨rfl,rfl⟩)|(go_at_call 103;(first|(with_reducible refine Calls.mono (C2.o _) ?_)|(with_reducible refine Calls.mono (C3.o _) ?_));rintro e X ⟨rfl,rfl⟩)|(go_at_call 104;(first|(with_reducible refine Calls.mono (C4.o _) ?_)|(with_reducible refine Calls.mono (C5.o _) ?_));rintro e X ⟨rfl,rfl⟩));have bm:=I (HT.xW D).drew;obtain⟨W3,df⟩:∃W',(W.setCell (F U3.1.size 5) (Y D)).drew=W':=⟨_,rfl⟩
             rw[df]at bm⊢;clear df HT z5 fi y0 y1 y2 y3 C1 C2 C3 C4 C5;have HT:=bm;clear bm;obtain⟨t0,t1,t2,t3,t4,t5,t6⟩:=HT.tc;by_cases dc:D<=ST
             .rw[dT dc]at v;have HS:Hid (R=.error 11):=(by show _=_;rw[wJ,dT (by rw[v];decide),v]);clear wJ;go_wp2;go_ret2;exact⟨_,_,rfl,by rw[HS];exact iG O HD (aa pY.f.g HT.g)⟩
             rw[cZ dc]at v;have HS:Hid (R=.ok ⟨11,mI d ⟨l.ins,r.ins,J,u,L,Q,n,t⟩ x.be s.be,s.be,J,x.aH,x.key,3⟩):=by
              show _=_;rw[wJ,cZ (λh=>h v.o)];rfl
             clear wJ v;have C1:=I (λW=>uR Q W);obtain⟨A,hA⟩:=N (j9 Q);rw[hA]at C1;obtain⟨MF,v⟩:=N (ig n 7 x.be s.be);obtain⟨MR,bo⟩:=N (fB n 7 x.be s.be ST A);have C2:Hid (∀W,Calls prog 106 #[.agg #[Y y,H 0,.string ⟨l.ins.toArray⟩,Y d,Y ST,Y D,Y 0],Y n,Y 7,.agg x.arr,.agg s.arr,Y A] W λe X=>e=.returned (.agg #[Y (y+MF),H 0,.string ⟨l.ins.toArray⟩,Y d,Y ST,Y D,Y MR])/\W.grownBy X none):=by
              intro W;have h:=NT ⟨y,0,l.ins,d,ST,D,0⟩ n 7 A x s W ah ba cl.1 cl.2 an bb.1 (by have:=bb.2;show y<4096;omega);dsimp only at h;rw[Kn,v,bo]at h;exact h
             have cp:Hid (mI d ⟨l.ins,r.ins,J,u,L,Q,n,t⟩ x.be s.be=⟨y+MF,0,l.ins,d,ST,D,MR⟩):=by
              show _=_;rw[<-v,<-bo,<-hA,<-et,<-ag,<-al,<-aj,<-H8];rfl
             clear hA v bo;have fc:Hid (TK.In ⟨y+MF,0,l.ins,d,ST,D,MR⟩):=by
              show TK.In _;rw[<-cp];exact Rk dB HI.2.1 HI.2.2.1 HI.2.2.2.1
             go_wp2_with fail;refine aD.start (S:=λV=>FT U3 V y 0 l.ins d ST D 0) 9 gJ ?_;have dZ:=I HT.drew;clear t0 t1 t2 t3 t4 t5 t6 HT;refine aD.tk 0 [8,0] ?_ (hy:=by intro W hW;obtain⟨t0,t1,t2,t3,t4,t5,t6⟩:=hW.tc;exact kJ);refine aD.tk 1 [8,1] ?_;refine aD.tk 2 [8,2] ?_ (hy:=by intro W hW;obtain⟨e0,e1,e2,e3,e4,e5,e6,e7,e8,e9⟩:=eB (aB pY.x hW.g);exact kJ);refine aD.tk 3 [8,3] ?_ (hy:=by intro W hW;obtain⟨e0,e1,e2,e3,e4,e5,e6,e7,e8,e9⟩:=eB (aB pY.s hW.g);exact kJ);refine aD.tk 4 [8,7,6,5,4] ?_;refine aD.tk 5 [8,7,6,5] ?_;refine aD.tk 6 [8,7,6] ?_ (hy:=by intro W hW;have e3:=(aB pY.f.v hW.g) 3 _ rfl;exact kJ);refine aD.on 7 ?_;intro K hK;refine Calls.mono (C1 _) ?_;rintro e X ⟨rfl,rfl⟩;go_wp2_with fail;refine pZ ?_;clear hK K C1;refine aD.on 8 ?_;intro K hK;refine Calls.mono (C2 _) ?_;rintro e w5 ⟨rfl,g5⟩;have v:=I (dZ.grown g5);clear g5;go_wp2_with fail;refine l7 v ?_;clear hK K C2 dZ;obtain⟨⟨e0,j0⟩,⟨e1,j1⟩,⟨e2,j2⟩,⟨e3,j3⟩,⟨e4,j4⟩,⟨e5,j5⟩,⟨e6,j6⟩,l0,l1,l2,l3,l4,l5,l6⟩:=pV v.l;refine aD.on 9 ?_;intro K hK;refine hK.out _ _ (.inl gJ) ?_;clear hK K;refine aD.EZ (λV=>FT U3 V (y+MF) 0 l.ins d ST D MR) gJ (v.Rj (y+MF) 0 l.ins d ST D MR) ?_;clear e0 e1 e2 e3 e4 e5 e6 j0 j1 j2 j3 j4 j5 j6 l0 l1 l2 l3 l4 l5 l6 v;intro W hT;have HT:=I hT;clear hT;as_aux_lemma=>
              obtain⟨ad,cd,dn⟩:=bA pY.f.d.bP.aL;obtain⟨nd,v⟩:=N M.aL.length;have y3:W.cell? (F T 3)=some (.slice ad nd cd):=by
               have:=(pY.f.grown HT.g).d.bP.blk.cell 3;rw[dn,v]at this;simpa using this
              have bk:=I v;clear dn v;by_cases hd:(nd:Int)<24
              .go_wp2;go_ret2;exact⟨_,_,rfl,by rw[HS];exact NV (by rw[bk];omega) HD.o (aa pY.f.g HT.g)⟩
              have er:Hid (j<=W.1.size):=cE bu (aa pY.f.g HT.g).size;have cr:=af.num x.be ay.o;have Ou:=af.num s.be av.o;have Ov:=af.name x.be ay.o;have Ow:=af.name s.be av.o;have Gl:Hid (l.ins.length<=90):=by
               show _<=_;rw[<-ev];exact xx Ov
              have cn:Hid (s.name.length<=90):=xx Ow;have CG:Hid (∀W,RD W j T M g->j<=W.1.size->Calls prog 107 #[π T 0,Y 11,.agg #[Y (y+MF),H 0,.string ⟨l.ins.toArray⟩,Y d,Y ST,Y D,Y MR],.agg s.arr,Y J,Y x.aH,H (x.key.toNat:Int),Y 3] W λe X=>∃o,e=.returned o/\l8 W.1.size X o (lU 11 {(⟨y+MF,0,l.ins,d,ST,D,MR⟩:TK)with aN:=eF M.aL 0} s.be J x.aH x.key 3 (eF M.aL 1) (eF M.aL 2))/\(∃v,RD X j T {M with aL:=M.aL.drop 24} {g with dv:=v}/\k' W.1.size v)/\W.grownBy X (some T)):=by
               intro W hW hb;exact NM j T M g 11 J x.aH ⟨y+MF,0,l.ins,d,ST,D,MR⟩ s x.key 3 3 W hW (by rw[bk];omega) fv hb O O rfl ⟨by decide,by decide⟩ HI.1 (E5 cr) (E5 Ou) fc.o Gl.o cn.o
              clear cr Ou Ov Ow Gl cn;go_wp2_with fail;refine aD.start (S:=λV=>FT U3 V (y+MF) 0 l.ins d ST D MR) 11 gJ ?_;have dZ:=I HT.drew;clear y3;refine aD.tk 0 [0] ?_;refine aD.tk 1 [1] ?_ (hy:=by intro W hW;obtain⟨t0,t1,t2,t3,t4,t5,t6⟩:=hW.tc;exact kJ);refine aD.tk 2 [2] ?_ (hy:=by intro W hW;obtain⟨e0,e1,e2,e3,e4,e5,e6,e7,e8,e9⟩:=eB (aB pY.s hW.g);exact kJ);refine aD.tk 3 [5,4,3] ?_;refine aD.tk 4 [5,4] ?_;refine aD.tk 5 [5] ?_ (hy:=by intro W hW;have e3:=(aB pY.f.v hW.g) 0 _ rfl;exact kJ);refine aD.tk 6 [7,6] ?_;refine aD.tk 7 [7] ?_ (hy:=by intro W hW;obtain⟨e0,e1,e2,e3,e4,e5,e6,e7,e8,e9⟩:=eB (aB pY.x hW.g);exact kJ);refine aD.tk 8 [10,9,8] ?_;refine aD.tk 9 [10,9] ?_;refine aD.tk 10 [10] ?_ (hy:=by intro W hW;obtain⟨e0,e1,e2,e3,e4,e5,e6,e7,e8,e9⟩:=eB (aB pY.x hW.g);exact kJ);refine aD.on 11 ?_;intro K hK;refine Calls.mono (CG _ (pY.f.grown dZ.g).d er) ?_;rintro e w5 ⟨o,rfl,tC,⟨v,dd,Ob⟩,g5⟩;have HH:=I (dN tC (dN dd (dN Ob g5)));clear tC dd Ob g5;go_wp2_with fail;refine gO ?_;clear hK K CG;refine aD.fr 12 ?_;refine aD.fr 13 ?_;refine aD.done gJ ?_;go_wp2;go_ret2;refine⟨_,_,rfl,?_⟩;rw[HS];obtain⟨h1,h2,h3,h4⟩:=HH.o;have cc:=aa pY.f.g dZ.g;refine⟨?_,λh=>absurd rfl h,λ_=>⟨_,v,rfl,?_,h2,λb hb=>cE cc.size (h3 b hb),iD (mh cc T) h4⟩⟩
              .show _=if M.aL.length<24 then 60 else 0;rw[cZ (by rw[bk];omega)]
              .unfold GR.box;dsimp only;rw[cp];exact h1.base cc.size
