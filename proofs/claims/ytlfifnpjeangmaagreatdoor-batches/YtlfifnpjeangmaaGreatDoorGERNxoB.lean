import Derived.Test.YtlfifnpjeangmaaGreatDoorGERFstC
namespace Go.Proofs.YtlfifnpjeangmaaGreatDoor
set_option maxHeartbeats 16000000
open Proofs.Tryz Go.RowKit
set_option maxRecDepth 100000
set_option linter.unusedSimpArgs false
theorem Ln{p:Prop}(h:p:=by
 by_cases hlt:A1<t.start
 .have HL:=I hlt
  go_quiet (first|(go_at_call 102;(first|(with_reducible refine Calls.mono (RU.o _) ?_)|(with_reducible refine Calls.mono (RV.o _) ?_));rintro e w' ⟨rfl,rfl⟩;exact⟨rfl,_,rfl⟩)|(go_at_call 103;(with_reducible refine Calls.mono (CS.o _) ?_);rintro e w' ⟨rfl,rfl⟩;exact⟨rfl,_,rfl⟩))
  go_wp2
  go_meet
  case rel=>exact⟨by rw[<-Tg,dk HL.o];rfl,_,rfl⟩
 .have HL:=I (eS.1 hlt)
  go_quiet (first|(go_at_call 102;(first|(with_reducible refine Calls.mono (RU.o _) ?_)|(with_reducible refine Calls.mono (RV.o _) ?_));rintro e w' ⟨rfl,rfl⟩;exact⟨rfl,_,rfl⟩)|(go_at_call 103;(with_reducible refine Calls.mono (CS.o _) ?_);rintro e w' ⟨rfl,rfl⟩;exact⟨rfl,_,rfl⟩))
  go_wp2
  go_meet
  case rel=>exact⟨by rw[<-Tg,cX (eS.2 HL.o)];rfl,_,rfl⟩):p:=h
theorem vy{p:Prop}(h:p:=by
 go_wp2
 go_ret2
 exact⟨_,_,rfl,by rw[HS];exact uU O HW.d KJ HW.g⟩):p:=h
theorem Oq(a D)(M)(g)(now)(gl c)(p0 Q l r p4 p5 p6 p7)(w)(A:RD w a D M g)(cj:fZ 4611686018427387904 M.aF)(an:a<=w.1.size)(f:jK w gl [p0,Q,l,r,p4,p5,p6,p7])(m:∀q∈[p0,Q,l,r,p4,p5,p6,p7],q.ins.length<=900)(B:bG p0.pair=some 12)(dB:b9 now)(ga:b9 M.aA)(fl:∀e∈M.aF,b9 e.bI/\b9 e.aC)(ff:M.aL.length<=140737488355328)(fz:M.aJ.length<=1000)(Ai:∀y∈M.aJ,b9 y.time):Calls prog 70 #[π D 0,Y now,ς gl 0 8 c] w λe w'=>∃o k,e=.returned (.tuple #[o,Y k])/\CJ a D g (nU M now ([p0,Q,l,r,p4,p5,p6,p7].map Pc.pair)) w w' o k:=by
 have c2:w.c gl 2=some (.int .u8 (Q.tag.toNat:Int)):=f.tag 1 Z
 have V:w.c gl 3=some (.slice Q.ad Q.ins.length Q.cap):=f.ins 1 Z
 have u:=I f
 have Uc:=I m
 have n:=I (zW Q w (f.2 Q Z).1 (f.2 Q Z).2.1 (f.2 Q Z).2.2 (cE (m Q Z) O))
 have L:Hid (∀W,jK W gl [p0,Q,l,r,p4,p5,p6,p7]->Calls prog 96 #[.agg #[.int .u8 (r.tag.toNat:Int),.slice r.ad r.ins.length r.cap]] W λe w'=>e=.returned (.tuple #[.string ⟨r.ins.toArray⟩,.bool (dm r.pair).isSome])/\W.grownBy w' none):=λW hW=>qU r W (hW.2 r Z).1 (cE (m r Z) O)
 have U:Hid (∀W,jK W gl [p0,Q,l,r,p4,p5,p6,p7]->Calls prog 97 #[ς gl 0 8 c,Y 4,Y 8] W λe w'=>∃o vs,e=.returned (.tuple #[o,.bool (jT [p4,p5,p6,p7])])/\rJ [p4,p5,p6,p7] vs/\w'.ownsRow W.1.size 2 1 o vs.length (vs.map tf)/\W.grownBy w' none):=λW hW=>uQ 4 8 8 gl c [p0,Q,l,r,p4,p5,p6,p7] W (I rfl) O O O hW
 obtain⟨oT,h1⟩:=N (gY Q.pair)
 obtain⟨b2,h2⟩:=N ((dm r.pair).isSome)
 obtain⟨b3,h3⟩:=N (jT [p4,p5,p6,p7])
 have ba:Hid (∀x,oT=some x->x.2.2.length<=900):=λx hx=>cE (BI (p:=Q.pair) (by rw[h1];exact hx)) (m Q Z)
 rw[h1]at n
 rw[h2]at L
 rw[h3]at U
 have HB:=I (dN h1 (dN h2 h3))
 clear h1 h2 h3 f m
 have HD:=I A
 obtain⟨R,m⟩:=N (nU M now ([p0,Q,l,r,p4,p5,p6,p7].map Pc.pair))
 rw[m]
 have C:=I m
 clear m A
 go_in
 go_wp2_with fail
 refine n.mono ?_
 clear n
 rintro e w1 ⟨cs,cn,cz,rfl,n,bl,m,g1⟩
 have T:=I (u.grown g1)
 have X:=I g1
 have J:=I m
 have gw:=I n
 clear u g1 c2 V m n
 have m:=I6 (P:=prog) (b'.new w1 #[.string ⟨cs.toArray⟩,Y cn,σ] 233) 2 Z cz bl
 go_upto_region 2 with fail
 refine kF (λV=>w1.grownBy V none/\V.rangeAt w1.1.size 0 [.string ⟨cs.toArray⟩,Y cn,cz]) ⟨cx w1 _ none,aS w1 #[.string ⟨cs.toArray⟩,Y cn,cz] _⟩ ?_
 clear m
 rintro V ⟨gV,m⟩
 obtain⟨bc,u⟩:=N w1.1.size
 rw[u]at m⊢
 have KJ:=I (T.grown gV)
 have KY:=I (aa X gV)
 have n:=I m
 have A:Hid (∀q,oT=some q->cs=q.1/\cn=q.2.1/\wm V cz q.2.2):=λq hq=>⟨(J q hq).1,(J q hq).2.1,(J q hq).2.2.1.grown gV⟩
 have c6:V.c gl 6=some (.int .u8 (r.tag.toNat:Int)):=KJ.tag 3 Z
 have c7:V.c gl 7=some (.slice r.ad r.ins.length r.cap):=KJ.ins 3 Z
 clear u gV m T X J
 go_wp2_with fail
 refine(L _ KJ).mono ?_
 rintro e w2 ⟨rfl,g2⟩
 have Wt:=I (KJ.grown g2)
 have u:=I (aa KY g2)
 have yO:=I (aB n g2)
 have m:Hid (∀q,oT=some q->cs=q.1/\cn=q.2.1/\wm w2 cz q.2.2):=λq hq=>⟨(A q hq).1,(A q hq).2.1,(A q hq).2.2.grown g2⟩
 clear c6 c7 KJ KY n A g2 L
 go_wp2_with fail
 refine(U _ Wt).mono ?_
 rintro e w3 ⟨o,vs,rfl,ZE,n,A⟩
 obtain⟨L,T,X,J,rfl,q4,q5,q6,q7⟩:=ZE.four
 obtain⟨gv,cv,rfl,ah,ag⟩:=jJ n Z
 have ds:Hid (w.1.size<=gv):=cE u.size ag
 have JC:Hid (∀x,oT=some x->cs=x.1/\cn=x.2.1/\wm w3 cz x.2.2):=λq hq=>⟨(m q hq).1,(m q hq).2.1,(m q hq).2.2.grown A⟩
 have kS:=I (aa u A)
 have HN:Hid (N1 w w3 a D M g gv L T X J gl [p0,Q,l,r,p4,p5,p6,p7] bc [.string ⟨cs.toArray⟩,Y cn,cz]):=
  ⟨HD.keep (λb hb=>kS.block b (HD.o.lt b hb).2 Z),ah,Wt.grown A,aB yO A,kS⟩
 have RN:=I (VJ p0 Q l r p4 p5 p6 p7 L T X J B q4 q5 q6 q7)
 have HI:=I (dN q4.1 (dN q5.1 (dN q6.1 q7.1)))
 rw[HB.1,HB.2.1,HB.2.2]at RN
 have c4:w3.c gl 4=some (.int .u8 (l.tag.toNat:Int)):=HN.p.tag 2 Z
 simp only[de,List.length_nil]
 clear U Wt u kS yO m A ZE n ah ag q4 q5 q6 q7 B HB
 obtain⟨P,f⟩:=N (lC ([p0,Q,l,r,p4,p5,p6,p7].map Pc.pair))
 unfold nU at C
 rw[f]at RN C
 clear f
 go_upto_region 4 with fail
 go_cut [58] (λz wx=>z=.bool (!P.isSome)/\w3=wx)
 case first=>
  have f:Hid (P.isSome=(oT.isSome&&(b2&&(b3&&decide (l.tag.toNat=4))))):=RN.1;clear RN C ba JC;cases oT with
  |none=>
   have HS:Hid (P.isSome=false):=f.o;clear f;simp only[Option.isSome_none];exact nB
  |some A=>
   simp only[dj];cases b2 with
   |false=>
    have HS:Hid (P.isSome=false):=f.o;clear f;exact nB
   |true=>
    cases b3 with
    |false=>
     have HS:Hid (P.isSome=false):=f.o;clear f;exact nB
    |true=>
     by_cases m:l.tag.toNat=4
     .have HS:Hid (P.isSome=true):=(by show _=_;rw[f,dk m];rfl);have u:((l.tag.toNat:Int)==4)=true:=(by rw[m];rfl);have n:(l.tag.toNat:Int)=4:=G;clear f m;exact nB
     .have HS:Hid (P.isSome=false):=(by show _=_;rw[f,cX m];rfl);have n:¬ (l.tag.toNat:Int)=4:=G;clear f m;go_wp2;go_meet
      case rel=>exact⟨by rw[HS];congr 1;simpa using n,rfl⟩
 case rest=>
  obtain⟨rfl,rfl⟩:=hcut;cases P with
  |none=>
   have HS:Hid (R=(.error 60,M)):=C.o.symm;clear C RN JC ba;simp only[Option.isSome_none,eM];go_wp2;go_ret2;exact⟨_,_,rfl,by rw[HS];exact uU (v:=g.pv) O HN.d (.inl rfl) (mh HN.g D)⟩
  |some q=>
   obtain⟨B,f,hq⟩:=RN.2 q rfl;obtain⟨h1,h2,h3⟩:=JC B f;have n:=ba B f;subst hq h1 h2;obtain⟨za,zc,jc,m,A,U⟩:=h3;subst jc;obtain⟨zn,cl⟩:=N B.2.2.length;rw[cl]at HN m;have HZ:Hid (∀V,w3.grownBy V none->wm V (.slice za zn zc) B.2.2):=by
    intro V u;rw[<-cl];exact wm.grown ⟨za,zc,rfl,by rw[cl];exact m,A,U⟩ u
   clear RN JC ba m A U f bl gw;simp only[dj,eV];have cp:Hid (l.ins.length<=900):=Uc l Z;have jt:D<w.1.size:=(HD.o.lt D (.inl rfl)).2;have JD:=I n;obtain⟨A,f⟩:=N (iH M now ⟨B.1,B.2.1,B.2.2,l.ins,r.ins,L,T,X,J⟩);have CO:Hid (∀V,(N1 w V a D M g gv L T X J gl [p0,Q,l,r,p4,p5,p6,p7] bc [.string ⟨B.1.toArray⟩,Y B.2.1,.slice za zn zc]/\w3.grownBy V none)->Calls prog 109 #[π D 0,Y now,.agg #[.string ⟨B.1.toArray⟩,Y B.2.1,.slice za zn zc],.slice l.ad l.ins.length l.cap,.string ⟨r.ins.toArray⟩,Y J] V λe w'=>∃t c,e=.returned (.tuple #[.agg t.cells.toArray,Y c])/\nS a D g A V w' t c):=by
    intro V u;rw[<-f];exact VB a D M g now ⟨B.1,B.2.1,B.2.2,l.ins,r.ins,L,T,X,J⟩ (.slice za zn zc) (.slice l.ad l.ins.length l.cap) V u.1.d cj (cE an u.1.g.size) (HZ V u.2) JD ⟨l.ad,l.cap,rfl,(u.1.p.2 l Z).2.1,(u.1.p.2 l Z).2.2,(u.1.p.2 l Z).1⟩ cp dB fz Ai
   have aj:Hid (R=match A.1 with|.error c=>(.error c,A.2)|.ok t=>(eu A.2 now ⟨B.1,B.2.1,B.2.2,l.ins,r.ins,L,T,X,J⟩ t,A.2)):=by
    show _=_;rw[<-f];exact C.o.symm
   have au:=I f;clear C f n;have f:w3.c gv 3=some (Y J):=HN.v 3 _ rfl;have dt:gv≠D:=(by have:=ds.o;omega);go_upto_region 7 with fail
   clear c4 f;go_cut [15,16] (λp k wx=>∃bo t c,p = π bo 0/\k = Y c/\wx.rangeAt bo 0 t.cells/\wx.rangeAt gv 0 [Y L,Y T,Y X,Y J]/\nS a D g A w wx t c)
   case first=>
    as_aux_lemma=>
     clear aj au HI;refine aD.start (S:=λV=>N1 w V a D M g gv L T X J gl [p0,Q,l,r,p4,p5,p6,p7] bc [.string ⟨B.1.toArray⟩,Y B.2.1,.slice za zn zc]/\w3.grownBy V none) 9 gJ ?_;have dZ:Hid (N1 w w3.drew a D M g gv L T X J gl [p0,Q,l,r,p4,p5,p6,p7] bc [.string ⟨B.1.toArray⟩,Y B.2.1,.slice za zn zc]/\w3.grownBy w3.drew none):=⟨HN.grown (bg (cC _ _)),bg (cC _ _)⟩
     refine aD.tk 0 [0] ?_;refine aD.tk 1 [1] ?_;refine aD.tk 2 [2] ?_ (hy:=by intro W hW;have c0:W.c bc 0=some (.string ⟨B.1.toArray⟩):=hW.1.c 0 _ rfl;have c1:W.c bc 1=some (Y B.2.1):=hW.1.c 1 _ rfl;have c2:W.c bc 2=some (.slice za zn zc):=hW.1.c 2 _ rfl;exact kJ);refine aD.tk 3 [6,5,4,3] ?_;refine aD.tk 4 [6,5,4] ?_;refine aD.tk 5 [6,5] ?_;refine aD.tk 6 [6] ?_ (hy:=by intro W hW;have c5:W.c gl 5=some (.slice l.ad l.ins.length l.cap):=hW.1.p.ins 2 Z;exact kJ);refine aD.tk 7 [7] ?_;refine aD.tk 8 [8] ?_;refine aD.two (i:=9) (j:=13) gJ rfl rfl (by rfl) (by rfl) (λK hK=>?_) (λK hK=>?_)
     .go_simp;refine Calls.mono (CO _ dZ) ?_;rintro e Wr ⟨t,c,rfl,hO⟩;have ag:=xA dZ.1.v hO.2.2.2.2 dt;rw[TK.oO t];have f:=I hO;have KY:=I ag;clear hO ag;go_wp2_with fail;refine gO ?_;clear hK K;refine aD.fr 10 ?_;refine aD.fr 11 ?_;refine aD.fr 12 ?_;refine aD.on 13 ?_;intro K hK;refine gO ?_;clear hK K;refine aD.on 14 ?_;intro K hK;refine gO ?_;clear hK K;refine aD.fr 15 ?_;refine aD.done gJ ?_;go_wp2_with fail;go_meet
      case rel=>
       have k:=cx Wr (.cells #[Y t.ae,H (t.aN.toNat:Int),.string ⟨t.ay.toArray⟩,Y t.dV,Y t.start,Y t.fin,Y t.aC] 43) none;exact⟨Wr.1.size,t,c,rfl,rfl,aS Wr #[Y t.ae,H (t.aN.toNat:Int),.string ⟨t.ay.toArray⟩,Y t.dV,Y t.start,Y t.fin,Y t.aC] _,aB KY k,G8 (KC f dZ.1.g) k⟩
     .go_simp;have kz:=cx w3.drew (.cells #[Y 0,H 0,ε,Y 0,Y 0,Y 0,Y 0] 43) none;have bm:=I (b'.new w3.drew #[Y 0,H 0,ε,Y 0,Y 0,Y 0,Y 0] 43);have n:Hid ((w3.drew.alloc (.cells #[Y 0,H 0,ε,Y 0,Y 0,Y 0,Y 0] 43)).1.size=w3.1.size+1):=cF _ _;have m:Hid (N1 w (w3.drew.alloc (.cells #[Y 0,H 0,ε,Y 0,Y 0,Y 0,Y 0] 43)) a D M g gv L T X J gl [p0,Q,l,r,p4,p5,p6,p7] bc [.string ⟨B.1.toArray⟩,Y B.2.1,.slice za zn zc]/\w3.grownBy (w3.drew.alloc (.cells #[Y 0,H 0,ε,Y 0,Y 0,Y 0,Y 0] 43)) none):=⟨dZ.1.grown kz,aa dZ.2 kz⟩
      refine l7 m ?_;clear hK K kz;refine aD.on 9 ?_;intro K hK;refine Calls.mono (CO _ m) ?_;rintro e Wr ⟨t,c,rfl,hO⟩;have ag:=xA m.1.v hO.2.2.2.2 dt;rw[TK.oO t];have f:=I hO;have KY:=I ag;clear hO ag;go_wp2_with fail;refine gO ?_;clear hK K;have Ml:Hid (b' Wr w3.1.size 7):=N9 (b:=w3.1.size) bm f.2.2.2.2 (by have:=HN.g.size;omega);refine aD.fr 10 ?_;refine aD.fr 11 ?_;refine aD.fr 12 ?_;obtain⟨⟨hh,jh⟩,⟨hj,jj⟩,⟨hn,jl⟩,⟨ho,jm⟩,⟨hp,jn⟩,⟨hv,jr⟩,⟨ia,js⟩,ib,ie,ih,ij,il,im,ir⟩:=pV Ml.o;refine aD.on 14 ?_;intro K hK;refine gO ?_;clear hK K;refine aD.fr 15 ?_;refine aD.done gJ ?_;go_wp2_with fail;go_meet
      case rel=>
       have U:gv<w3.1.size:=Oh HN.v;have jb:=n.o;exact⟨w3.1.size,t,c,rfl,rfl,fq Ml _ _ _ _ _ _ _,Rv KY (Nat.ne_of_gt U) _ _ _ _ _ _ _,KD f m.1.g (λb hb=>(HN.d.lt b hb).2) HN.g.size (Nat.lt_of_lt_of_eq (fY w3.1.size) jb.symm) _ _ _ _ _ _ _⟩
   case rest=>
    obtain⟨bo,t,k1,rfl,rfl,NU,dp,hO⟩:=hcut;obtain⟨ec,hE,n,⟨pv,ai,f⟩,hG⟩:=hO;have KJ:=I f;clear f;obtain⟨ps,ae⟩:=Ru M now ⟨B.1,B.2.1,B.2.2,l.ins,r.ins,L,T,X,J⟩;rw[au]at ae;obtain⟨f,m⟩:=N A.2;rw[m]at ai aj ae;have ab:fZ 4611686018427387904 f.aF:=(by rw[ae];exact cj);have hf:b9 f.aA:=(by rw[ae];exact ga);have bk:∀e∈f.aF,b9 e.bI/\b9 e.aC:=(by rw[ae];exact fl);have hg:f.aL.length<=140737488355328:=(by rw[ae];exact ff);have dd:=I ec;have U:a<=wc.1.size:=cE an hG.size;clear ae cj ga fl ff fz Ai ec JD cp ds HZ HN CO m;by_cases hk:k1=0;rotate_left
    .have HS:Hid (R=(.error k1,f)):=by
      show _=_;rw[aj];cases m:A.1 with
      |ok t'=>exact absurd (n t' m).1 hk
      |error c'=>rw[hE c' m]
     clear aj;go_wp2;go_ret2;exact⟨_,_,rfl,by rw[HS];exact uU hk ai KJ hG⟩
    have C:Hid (R=(eu f now ⟨B.1,B.2.1,B.2.2,l.ins,r.ins,L,T,X,J⟩ t,f)):=by
     show _=_;rw[aj];cases m:A.1 with
     |ok t'=>rw[(n t' m).2]
     |error c'=>
      have h1:=hE c' m;have h2:=AU (M:=M) (now:=now) (q:=⟨B.1,B.2.1,B.2.2,l.ins,r.ins,L,T,X,J⟩) (c:=c') (by rw[au];exact m);omega
    refine IZ (λV=>N2 w V a D f {g with pv:=pv} gv L T X J bo t/\a<=V.1.size) ⟨⟨ai,dp,NU,hG⟩,U⟩ ?_;clear aj au hE n ai dp NU hG U;subst hk;rintro W ⟨hW,al⟩;have HW:=I hW;have af:=I al;clear hW al;as_aux_lemma=>
     have RU:=I (λW=>eT t.ae 16 4 W O O);have RV:=I (λW=>eT J 32 5 W O O);have CS:=I (λW=>mr now f.aA W dB hf);obtain⟨ea,n⟩:=N (aI t.ae 16);obtain⟨gr,U⟩:=N (aI J 32);obtain⟨A1,m⟩:=N (aW now f.aA);rw[n]at RU;rw[U]at RV;rw[m]at CS;obtain⟨er,cc⟩:=N (((ea&&!gr)||decide (A1<t.start)));have Tg:=I cc;have av:Hid ((aI t.ae 16=true/\aI J 32=false\/aW now f.aA<t.start)↔er=true):=by
      show _↔_;rw[n,U,m,<-cc];simp
     clear n U m cc;obtain⟨t0,t1,t2,t3,t4,t5,t6⟩:=lZ HW.oq;have y0:W.cell? (F D 0)=some (Y f.aA):=by
      have:=HW.d.bP.blk.cell 0;simpa using this
     go_upto_region 10 with fail
     go_cut [78] (λz wx=>z=.bool er/\∃n,W.drewN n=wx)
     case first=>
      clear C av;cases ea with
      |true=>
       cases gr with
       |false=>
        go_quiet (first|(go_at_call 102;(first|(with_reducible refine Calls.mono (RU.o _) ?_)|(with_reducible refine Calls.mono (RV.o _) ?_));rintro e w' ⟨rfl,rfl⟩;exact⟨rfl,_,rfl⟩)|(go_at_call 103;(with_reducible refine Calls.mono (CS.o _) ?_);rintro e w' ⟨rfl,rfl⟩;exact⟨rfl,_,rfl⟩))
        go_wp2;go_meet
        case rel=>exact⟨by rw[<-Tg];rfl,_,rfl⟩
       |true=>
        exact Ln
      |false=>
       exact Ln
     case rest=>
      obtain⟨rfl,n,rfl⟩:=hcut;refine IZ (λV=>N2 w V a D f {g with pv:=pv} gv L T X J bo t/\a<=V.1.size) ⟨HW.grown (aR (cC _ _) n),af⟩ ?_;clear Tg RU RV CS y0 t0 t1 t2 t3 t4 t5 t6 HW af;rintro W ⟨hW,al⟩;have HW:=I hW;have af:=I al;clear hW al;cases er with
      |true=>
       have m:=US (M:=f) (q:=⟨B.1,B.2.1,B.2.2,l.ins,r.ins,L,T,X,J⟩) (av.2 rfl);have HS:Hid (R=(.error 33,f)):=(by show _=_;rw[C,m]);clear C;exact vy
      |false=>
      have Ue:Hid (¬ (aI t.ae 16=true/\aI J 32=false\/aW now f.aA<t.start)):=λh=>by have:=av.1 h;cases this
      clear av;obtain⟨t0,t1,t2,t3,t4,t5,t6⟩:=lZ HW.oq;by_cases bf:t.fin<now
      .have m:=P0 (M:=f) (q:=⟨B.1,B.2.1,B.2.2,l.ins,r.ins,L,T,X,J⟩) Ue bf;have HS:Hid (R=(.error 32,f)):=(by show _=_;rw[C,m]);clear C;exact vy
      have U:Hid (R=(match BE.find f.aF r.ins,BE.find f.aF t.ay with
         |none,_=>.error 7
         |some _,none=>.error 6
         |some s,some x=>
         if nQ s x now 2 1≠0 then .error (nQ s x now 2 1)
         else if ku J t.ae=false then .error 13
         else match fresh now t x s T X J with
         |.error c=>.error c
         |.ok t2=>.ok ⟨13,t2,s,L,0,t.aN,5⟩,f)):=by
       show _=_
       rw[C,PX Ue.o bf]
       rfl
      clear C Ue;have C:=U;clear U;have CA:=I (λW (hW:RD W a D f {g with pv:=pv})=>xw a D f {g with pv:=pv} r.ins W hW ab.len);have CB:=I (λW (hW:RD W a D f {g with pv:=pv})=>xw a D f {g with pv:=pv} t.ay W hW ab.len);have m:=uk g.es r.ins;have Uo:=uk g.es t.ay;have JH:Hid (g.es.map RE.be=f.aF):=HW.d.aF;rw[JH]at m Uo;obtain⟨fa,Ff⟩:=N (gu g.es r.ins);obtain⟨fb,U⟩:=N (gu g.es t.ay);dsimp only at CA CB;rw[Ff]at CA m;rw[U]at CB Uo;have HA:=I m;have Z5:=I Uo;clear m Uo Ff U;go_wp2_with fail;refine(CA _ HW.d).mono ?_;rintro e W1 ⟨rfl,g1⟩;have m:=I (HW.grown g1);have U:Hid (a<=W1.1.size):=cE af g1.size;clear HW g1 CA t0 t1 t2 t3 t4 t5 t6 af;obtain⟨t0,t1,t2,t3,t4,t5,t6⟩:=lZ m.oq;go_wp2_with fail;refine(CB _ m.d).mono ?_;rintro e W2 ⟨rfl,g2⟩;have HW:=I (m.grown g2);have af:Hid (a<=W2.1.size):=cE U g2.size;clear m g2 CB t0 t1 t2 t3 t4 t5 t6 U;rcases HA.o with⟨hm,ao⟩|⟨k,hk,fx,hs⟩
      .have HS:Hid (R=(.error 7,f)):=(by show _=_;rw[C,ao]);subst hm;clear C HA Z5 ao;exact vy
      .rcases Z5.o with⟨hm,ao⟩|⟨i,hi,ix,hx⟩
       .have HS:Hid (R=(.error 6,f)):=(by show _=_;rw[C,hs,ao]);have fv:¬ (k:Int)<0:=G;subst hm fx;clear C HA Z5 ao hs;exact vy
       .rw[hs,hx]at C;have iu:¬ (i:Int)<0:=G;have fv:¬ (k:Int)<0:=G;have iv:(0:Int)<=(i:Int):=G;have iz:(0:Int)<=(k:Int):=G;obtain⟨gb,cb,ev,ah⟩:=um HW.d (by show 0<g.es.length;omega);obtain⟨m,hm⟩:=N g.es.length;have OL:(i:Int)<(m:Int):=G;have mW:(k:Int)<(m:Int):=G;have wD:Hid (∀V,W2.grownBy V none->V.cell? (F D 1)=some (ς gb 0 m cb)/\V.rangeAt gb 0 (bK g.es)):=by
         intro V u;refine⟨?_,aB ah u⟩;have:=(HW.grown u).d.bP.blk.cell 1;rw[ev,hm]at this;simpa using this
        obtain⟨x,ar⟩:=N (g.es[i]'hi);obtain⟨s,ck⟩:=N (g.es[k]'hk);have bn:Hid (x.be∈f.aF):=(by show _∈_;rw[<-JH,<-ar];exact eK (eg hi));have ay:Hid (s.be∈f.aF):=(by show _∈_;rw[<-JH,<-ck];exact eK (eg hk));have gz:Hid (x.name=t.ay):=(by show _=_;rw[<-ar];exact lV hx);obtain⟨y1,u⟩:=wD W2 (cC _ _);obtain⟨s0,s1,s2,s3,s4,s5,s6,s7,s8,s9⟩:=uT u k hk;rw[ck]at s0 s1 s2 s3 s4 s5 s6 s7 s8 s9 C;rw[ar]at C;subst ix fx;clear hx hs ah HA Z5 ev u;go_upto_region 21 with fail
        refine kF (λV=>W2.grownBy V none/\V.rangeAt W2.1.size 0 s.cells) ⟨cx W2 _ none,wy W2 s⟩ ?_;rintro V ⟨gV,U⟩;clear s0 s1 s2 s3 s4 s5 s6 s7 s8 s9 y1;obtain⟨y1,u⟩:=wD V gV;obtain⟨s0,s1,s2,s3,s4,s5,s6,s7,s8,s9⟩:=uT u i hi;rw[ar]at s0 s1 s2 s3 s4 s5 s6 s7 s8 s9;have HV:=I (HW.grown gV);have bq:=I U;have dn:Hid (a<=V.1.size):=cE af gV.size;clear U u wD gV;obtain⟨bs,u⟩:=N W2.1.size;rw[u]at bq⊢;clear u HW af;go_upto_region 22 with fail
        refine kF (λU=>N3 w U a D f {g with pv:=pv} gv L T X J bo t x s V.1.size bs/\a<=U.1.size) ⟨⟨HV.grown (cx V _ none),wy V x,aB bq (cx V _ none)⟩,cE dn (cx V _ none).size⟩ ?_;rintro U ⟨hU,u⟩;have HU:=I hU;have df:=I u;clear hU u;obtain⟨bx,u⟩:=N V.1.size;rw[u]at HU⊢;clear u s0 s1 s2 s3 s4 s5 s6 s7 s8 s9 y1 HV bq dn iu fv iv iz OL mW ar ck hm;as_aux_lemma=>
         have u:=ab.qm x.be bn.o;have ae:=ab.qm s.be ay.o;have da:=I (dN u.2.2.1 u.2.2.2);have cu:=I (dN ae.2.2.1 ae.2.2.2);clear u ae;have u:=I (λW=>zY (π D 0) s x now 2 1 W cu da);obtain⟨ca,fc⟩:=N (nQ s.be x.be now 2 1);rw[fc]at u C;clear fc;obtain⟨e0,e1,e2,e3,e4,e5,e6,e7,e8,e9⟩:=eB HU.x;obtain⟨f0,f1,f2,f3,f4,f5,f6,f7,f8,f9⟩:=eB HU.s;go_wp2_with fail;refine(u _).mono ?_;rintro e U1 ⟨rfl,g1⟩;have VY:=I (HU.grown g1);have dq:Hid (a<=U1.1.size):=cE df g1.size;clear HU g1 e0 e1 e2 e3 e4 e5 e6 e7 e8 e9 f0 f1 f2 f3 f4 f5 f6 f7 f8 f9 u df;by_cases hz:ca=0;rotate_left
         .have HS:Hid (R=(.error ca,f)):=(by show _=_;rw[C,dT hz]);clear C;go_wp2;go_ret2;exact⟨_,_,rfl,by rw[HS];exact uU hz VY.n.d KJ VY.n.g⟩
         rw[cZ (λh=>h hz)]at C;have u:=I (λW=>KA J t.ae W);obtain⟨ob,FN⟩:=N (ku J t.ae);rw[FN]at u C;have cr:=I FN;clear FN;obtain⟨t0,t1,t2,t3,t4,t5,t6⟩:=lZ VY.n.oq;go_wp2_with fail;refine(u _).mono ?_;rintro e U2 ⟨rfl,rfl⟩;clear u hz t0 t1 t2 t3 t4 t5 t6;cases ob with
         |false=>
          have HS:Hid (R=(.error 13,f)):=(by show _=_;rw[C,dT rfl]);clear C;go_wp2;go_ret2;exact⟨_,_,rfl,by rw[HS];exact uU O VY.n.d KJ VY.n.g⟩
         |true=>
         rw[cZ O]at C;obtain⟨gm,gp⟩:=bk x.be bn.o;obtain⟨u,gg⟩:=bk s.be ay.o;have ak:=I (λW=>VH (π D 0) now t x s T X J W da cu gp gg gm u dB dd);rw[TK.oO t]at ak;obtain⟨FR,O5⟩:=N (fresh now t x.be s.be T X J);rw[O5]at ak C;have SY:=I O5;clear O5 gm gp u gg;go_upto_region 28 with fail
         go_cut [22,16] (λp k wx=>∃bt t2 c2,p = π bt 0/\k = Y c2/\wx.rangeAt bt 0 t2.cells/\CE FR t2 c2/\U2.grownBy wx none)
         case first=>
          clear C SY cr;as_aux_lemma=>
           refine aD.start (S:=λV=>N3 w V a D f {g with pv:=pv} gv L T X J bo t x s bx bs) 12 gJ ?_;have dZ:=I (VY.grown (bg (cC _ _)));refine aD.tk 0 [0] ?_;refine aD.tk 1 [1] ?_;refine aD.tk 2 [2] ?_ (hy:=by intro W hW;obtain⟨t0,t1,t2,t3,t4,t5,t6⟩:=lZ hW.n.oq;exact kJ);refine aD.tk 3 [3] ?_ (hy:=by intro W hW;obtain⟨e0,e1,e2,e3,e4,e5,e6,e7,e8,e9⟩:=eB hW.x;exact kJ);refine aD.tk 4 [4] ?_ (hy:=by intro W hW;obtain⟨e0,e1,e2,e3,e4,e5,e6,e7,e8,e9⟩:=eB hW.s;exact kJ);refine aD.tk 5 [7,6,5] ?_;refine aD.tk 6 [7,6] ?_;refine aD.tk 7 [7] ?_ (hy:=by intro W hW;have e3:=hW.n.v 1 _ rfl;exact kJ);refine aD.tk 8 [10,9,8] ?_;refine aD.tk 9 [10,9] ?_;refine aD.tk 10 [10] ?_ (hy:=by intro W hW;have e3:=hW.n.v 2 _ rfl;exact kJ);refine aD.tk 11 [11] ?_;refine aD.two (i:=12) (j:=16) gJ rfl rfl (by rfl) (by rfl) (λK hK=>?_) (λK hK=>?_)
           .go_simp;refine Calls.mono (ak _) ?_;rintro e Wr ⟨u,c2,rfl,hF,gF⟩;rw[TK.oO u];have HF:=I (dN hF (aa (bg (cC U2 none)) gF));clear hF gF;go_wp2_with fail;refine gO ?_;clear hK K;refine aD.fr 13 ?_;refine aD.fr 14 ?_;refine aD.fr 15 ?_;refine aD.on 16 ?_;intro K hK;refine gO ?_;clear hK K;refine aD.on 17 ?_;intro K hK;refine gO ?_;clear hK K;refine aD.fr 18 ?_;refine aD.done gJ ?_;go_wp2_with fail;go_meet
            case rel=>exact⟨Wr.1.size,u,c2,rfl,rfl,aS Wr #[Y u.ae,H (u.aN.toNat:Int),.string ⟨u.ay.toArray⟩,Y u.dV,Y u.start,Y u.fin,Y u.aC] _,HF.1,aM HF.2 _⟩
           .go_simp;have kz:=cx U2.drew (.cells #[Y 0,H 0,ε,Y 0,Y 0,Y 0,Y 0] 43) none;have bm:=I (b'.new U2.drew #[Y 0,H 0,ε,Y 0,Y 0,Y 0,Y 0] 43);refine hK.out _ _ (.inr (dZ.grown kz)) ?_;have gx:=I kz;clear hK K kz;try simp only[Act.put,List.getElem_toArray,List.getElem_cons_zero,List.getElem_cons_succ,eh,ej,eJ]
            refine aD.on 12 ?_;intro K hK;refine Calls.mono (ak _) ?_;rintro e Wr ⟨u,c2,rfl,hF,gF⟩;rw[TK.oO u];have Ml:Hid (b' Wr U2.1.size 7):=bm.grown gF;have HF:=I (dN hF (aa (aa (bg (cC U2 none)) gx) gF));clear hF gF;go_wp2_with fail;refine gO ?_;clear hK K;refine aD.fr 13 ?_;refine aD.fr 14 ?_;refine aD.fr 15 ?_;obtain⟨⟨hh,jh⟩,⟨hj,jj⟩,⟨hn,jl⟩,⟨ho,jm⟩,⟨hp,jn⟩,⟨hv,jr⟩,⟨ia,js⟩,ib,ie,ih,ij,il,im,ir⟩:=pV Ml.o;refine aD.on 17 ?_;intro K hK;refine gO ?_;clear hK K;refine aD.fr 18 ?_;refine aD.done gJ ?_;go_wp2_with fail;go_meet
            case rel=>exact⟨U2.1.size,u,c2,rfl,rfl,fq Ml _ _ _ _ _ _ _,HF.1,az (az (az (az (az (az (az HF.2 (cy _)) (cy _)) (cy _)) (cy _)) (cy _)) (cy _)) (cy _)⟩
         case rest=>
          obtain⟨bt,u,c2,rfl,rfl,et,hF,gF⟩:=hcut;refine IZ (λV=>(N3 w V a D f {g with pv:=pv} gv L T X J bo t x s bx bs/\a<=V.1.size)/\V.rangeAt bt 0 u.cells) ⟨⟨VY.grown gF,cE dq gF.size⟩,et⟩ ?_;clear et gF ak VY dq;rintro W3 ⟨⟨ed,ei⟩,gd⟩;have pY:=I ed;have ha:=I ei;have hc:=I gd;clear ed ei gd;as_aux_lemma=>
           by_cases bz:c2=0;rotate_left
           .have HS:Hid (R=(.error c2,f)):=by
             show _=_;rw[C];cases hr:FR with
             |error c'=>rw[hF.1 c' hr]
             |ok t'=>exact absurd (hF.2 t' hr).1 bz
            clear C;go_wp2;go_ret2;exact⟨_,_,rfl,by rw[HS];exact uU bz pY.n.d KJ pY.n.g⟩
           have eb:FR=.ok u\/∃c',FR=.error c'/\c'=0:=by
            cases hr:FR with
            |error c'=>exact .inr ⟨c',rfl,by rw[<-hF.1 c' hr];exact bz⟩
            |ok t'=>exact .inl (by rw[(hF.2 t' hr).2])
           have bu:FR=.ok u:=by
            rcases eb with h|⟨c',h,h0⟩
            .exact h
            .exact absurd (SY.o.trans h) (Og h0)
           have bb:=I (UP dd dB HI.2.1 HI.2.2.1 (SY.o.trans bu));have HS:Hid (R=(.ok ⟨13,u,s.be,L,0,t.aN,5⟩,f)):=by
            show _=_;rw[C,bu]
           clear C SY hF eb bu cr;obtain⟨ad,cd,fi⟩:=bA pY.n.d.bP.aL;obtain⟨nd,ch⟩:=N f.aL.length;have y3:W3.cell? (F D 3)=some (.slice ad nd cd):=by
            have:=pY.n.d.bP.blk.cell 3;rw[fi,ch]at this;simpa using this
           have bp:=I ch;clear fi ch;by_cases hd:(nd:Int)<24
           .go_wp2;go_ret2;exact⟨_,_,rfl,by rw[HS];exact P1 (by rw[bp];omega) pY.n.d KJ.o pY.n.g⟩
           have Ou:=ab.num s.be ay.o;have Ov:=ab.name x.be bn.o;have Ow:=ab.name s.be ay.o;have Gl:Hid (u.ay.length<=90):=by
            show _<=_;rw[bb.2,<-gz];exact xx Ov
           have dc:Hid (s.name.length<=90):=xx Ow;have CG:Hid (∀W,RD W a D f {g with pv:=pv}->a<=W.1.size->Calls prog 107 #[π D 0,Y 13,.agg #[Y u.ae,H (u.aN.toNat:Int),.string ⟨u.ay.toArray⟩,Y u.dV,Y u.start,Y u.fin,Y u.aC],.agg s.arr,Y L,Y 0,H (t.aN.toNat:Int),Y 5] W λe w'=>∃o,e=.returned o/\l8 W.1.size w' o (lU 13 {u with aN:=eF f.aL 0} s.be L 0 t.aN 5 (eF f.aL 1) (eF f.aL 2))/\(∃v,RD w' a D {f with aL:=f.aL.drop 24} {g with pv:=pv,dv:=v}/\k' W.1.size v)/\W.grownBy w' (some D)):=by
            intro W hW hb;exact NM a D f {g with pv:=pv} 13 L 0 u s t.aN 5 5 W hW (by rw[bp];omega) hg hb O O rfl ⟨by decide,by decide⟩ HI.1 gP (E5 Ou) bb.1 Gl.o dc.o
           clear Ou Ov Ow Gl dc;go_wp2_with fail;refine aD.start (S:=λV=>N3 w V a D f {g with pv:=pv} gv L T X J bo t x s bx bs/\V.rangeAt bt 0 u.cells) 8 gJ ?_;have dZ:Hid (N3 w W3.drew a D f {g with pv:=pv} gv L T X J bo t x s bx bs/\W3.drew.rangeAt bt 0 u.cells):=⟨pY.grown (bg (cC _ _)),aB hc (bg (cC _ _))⟩
           clear y3;refine aD.tk 0 [0] ?_;refine aD.tk 1 [1] ?_ (hy:=by intro W hW;obtain⟨t0,t1,t2,t3,t4,t5,t6⟩:=lZ hW.2;exact kJ);refine aD.tk 2 [2] ?_ (hy:=by intro W hW;obtain⟨e0,e1,e2,e3,e4,e5,e6,e7,e8,e9⟩:=eB hW.1.s;exact kJ);refine aD.tk 3 [5,4,3] ?_;refine aD.tk 4 [5,4] ?_;refine aD.tk 5 [5] ?_ (hy:=by intro W hW;have e3:=hW.1.n.v 0 _ rfl;exact kJ);refine aD.tk 6 [7,6] ?_;refine aD.tk 7 [7] ?_ (hy:=by intro W hW;obtain⟨t0,t1,t2,t3,t4,t5,t6⟩:=lZ hW.1.n.oq;exact kJ);refine aD.on 8 ?_;intro K hK;refine Calls.mono (CG _ dZ.1.n.d ha) ?_;rintro e w5 ⟨o,rfl,tC,⟨v,ai,Ob⟩,g5⟩;have HH:=I (dN tC (dN ai (dN g5 Ob)));clear tC ai g5 Ob;go_wp2_with fail;refine gO ?_;clear hK K CG;refine aD.fr 9 ?_;refine aD.fr 10 ?_;refine aD.done gJ ?_;go_wp2;go_ret2;refine⟨_,_,rfl,?_⟩;rw[HS];obtain⟨h1,h2,h3,h4⟩:=HH.o;refine⟨?_,⟨pv,KJ,λh=>absurd rfl h,λ_=>⟨_,v,rfl,h1.base dZ.o.1.n.g.size,h2,λb hb=>cE dZ.o.1.n.g.size (h4 b hb)⟩⟩,iD dZ.1.n.g h3⟩;show _=if f.aL.length<24 then 60 else 0;rw[cZ (by rw[bp];omega)]
