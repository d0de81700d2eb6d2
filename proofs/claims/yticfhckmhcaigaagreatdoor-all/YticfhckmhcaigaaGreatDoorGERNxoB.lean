import Derived.Test.YticfhckmhcaigaaGreatDoorGERFstC
namespace Go.Proofs.YticfhckmhcaigaaGreatDoor
set_option maxHeartbeats 16000000
open Proofs.Tryz Go.RowKit
set_option maxRecDepth 100000
set_option linter.unusedSimpArgs false
theorem NO{p:Prop}(h:p:=by
 by_cases hlt:A1<t.start
 .have HL:=I hlt
  go_quiet (first|(go_at_call 102;(first|(with_reducible refine Calls.mono (UC.o _) ?_)|(with_reducible refine Calls.mono (UD.o _) ?_));rintro e w' ⟨rfl,rfl⟩;exact⟨rfl,_,rfl⟩)|(go_at_call 103;(with_reducible refine Calls.mono (CS.o _) ?_);rintro e w' ⟨rfl,rfl⟩;exact⟨rfl,_,rfl⟩))
  go_wp2
  go_meet
  case rel=>exact⟨by rw[<-Vv,ee HL.o];rfl,_,rfl⟩
 .have HL:=I (fh.1 hlt)
  go_quiet (first|(go_at_call 102;(first|(with_reducible refine Calls.mono (UC.o _) ?_)|(with_reducible refine Calls.mono (UD.o _) ?_));rintro e w' ⟨rfl,rfl⟩;exact⟨rfl,_,rfl⟩)|(go_at_call 103;(with_reducible refine Calls.mono (CS.o _) ?_);rintro e w' ⟨rfl,rfl⟩;exact⟨rfl,_,rfl⟩))
  go_wp2
  go_meet
  case rel=>exact⟨by rw[<-Vv,cY (fh.2 HL.o)];rfl,_,rfl⟩):p:=h
theorem xp{p:Prop}(h:p:=by
 go_wp2
 go_ret2
 exact⟨_,_,rfl,by rw[HS];exact vU H HW.d M6 HW.g⟩):p:=h
theorem QB(a D)(M)(g)(now)(gl c)(p0 Q l r p4 p5 p6 p7)(w)(A:RD w a D M g)(cj:gy 4611686018427387904 M.aC)(an:a<=w.1.size)(f:jT w gl [p0,Q,l,r,p4,p5,p6,p7])(m:∀q∈[p0,Q,l,r,p4,p5,p6,p7],q.ins.length<=900)(B:bG p0.pair=some 12)(cO:bT now)(gd:bT M.ax)(fv:∀e∈M.aC,bT e.bH/\bT e.aD)(fi:M.aL.length<=140737488355328)(ga:M.aI.length<=1000)(yo:∀y∈M.aI,bT y.time):Calls prog 70 #[N D 0,Y now,ς gl 0 8 c] w λe w'=>∃o k,e=.returned (.tuple #[o,Y k])/\Ei a D g (oF M now ([p0,Q,l,r,p4,p5,p6,p7].map Pc.pair)) w w' o k:=by
 have c2:w.c gl 2=some (.int .u8 (Q.tag.toNat:Int)):=f.tag 1 Z
 have V:w.c gl 3=some (.slice Q.ad Q.ins.length Q.cap):=f.ins 1 Z
 have u:=I f
 have Ww:=I m
 have n:=I (Bd Q w (f.2 Q Z).1 (f.2 Q Z).2.1 (f.2 Q Z).2.2 (cE (m Q Z) H))
 have L:Hid (∀W,jT W gl [p0,Q,l,r,p4,p5,p6,p7]->Calls prog 96 #[.agg #[.int .u8 (r.tag.toNat:Int),.slice r.ad r.ins.length r.cap]] W λe w'=>e=.returned (.tuple #[.string ⟨r.ins.toArray⟩,.bool (dz r.pair).isSome])/\W.grownBy w' none):=λW hW=>rO r W (hW.2 r Z).1 (cE (m r Z) H)
 have C3:Hid (∀W,jT W gl [p0,Q,l,r,p4,p5,p6,p7]->Calls prog 97 #[ς gl 0 8 c,Y 4,Y 8] W λe w'=>∃o vs,e=.returned (.tuple #[o,.bool (kD [p4,p5,p6,p7])])/\sN [p4,p5,p6,p7] vs/\w'.ownsRow W.1.size 2 1 o vs.length (vs.map tn)/\W.grownBy w' none):=λW hW=>vP 4 8 8 gl c [p0,Q,l,r,p4,p5,p6,p7] W (I rfl) H H H hW
 obtain⟨oT,h1⟩:=aq (ik Q.pair)
 obtain⟨b2,h2⟩:=aq ((dz r.pair).isSome)
 obtain⟨b3,h3⟩:=aq (kD [p4,p5,p6,p7])
 have ba:Hid (∀x,oT=some x->x.2.2.length<=900):=λx hx=>cE (Dk (p:=Q.pair) (by rw[h1];exact hx)) (m Q Z)
 rw[h1]at n
 rw[h2]at L
 rw[h3]at C3
 have HB:=I (cZ h1 (cZ h2 h3))
 clear h1 h2 h3 f m
 have HD:=I A
 obtain⟨R,m⟩:=aq (oF M now ([p0,Q,l,r,p4,p5,p6,p7].map Pc.pair))
 rw[m]
 have C:=I m
 clear m A
 go_in
 go_wp2_with fail
 refine n.mono ?_
 clear n
 rintro e w1 ⟨cs,cn,cz,rfl,n,bl,m,g1⟩
 have T:=I (u.grown g1)
 have U:=I g1
 have J:=I m
 have gu:=I n
 clear u g1 c2 V m n
 have m:=KA (P:=prog) (b9.new w1 #[.string ⟨cs.toArray⟩,Y cn,σ] 233) 2 Z cz bl
 go_upto_region 2 with fail
 refine kR (λV=>w1.grownBy V none/\V.rangeAt w1.1.size 0 [.string ⟨cs.toArray⟩,Y cn,cz]) ⟨cy w1 _ none,aS w1 #[.string ⟨cs.toArray⟩,Y cn,cz] _⟩ ?_
 clear m
 rintro V ⟨gV,m⟩
 obtain⟨bc,u⟩:=aq w1.1.size
 rw[u]at m⊢
 have M6:=I (T.grown gV)
 have Nh:=I (aa U gV)
 have n:=I m
 have A:Hid (∀q,oT=some q->cs=q.1/\cn=q.2.1/\xA V cz q.2.2):=λq hq=>⟨(J q hq).1,(J q hq).2.1,(J q hq).2.2.1.grown gV⟩
 have X:V.c gl 6=some (.int .u8 (r.tag.toNat:Int)):=M6.tag 3 Z
 have c7:V.c gl 7=some (.slice r.ad r.ins.length r.cap):=M6.ins 3 Z
 clear u gV m T U J
 go_wp2_with fail
 refine(L _ M6).mono ?_
 rintro e w2 ⟨rfl,g2⟩
 have YT:=I (M6.grown g2)
 have u:=I (aa Nh g2)
 have yI:=I (aA n g2)
 have m:Hid (∀q,oT=some q->cs=q.1/\cn=q.2.1/\xA w2 cz q.2.2):=λq hq=>⟨(A q hq).1,(A q hq).2.1,(A q hq).2.2.grown g2⟩
 clear X c7 M6 Nh n A g2 L
 go_wp2_with fail
 refine(C3 _ YT).mono ?_
 rintro e w3 ⟨o,vs,rfl,U,n,A⟩
 obtain⟨L,T,X,J,rfl,q4,q5,q6,q7⟩:=U.four
 obtain⟨gv,cv,rfl,ah,ag⟩:=jR n Z
 have dp:Hid (w.1.size<=gv):=cE u.size ag
 have Lx:Hid (∀x,oT=some x->cs=x.1/\cn=x.2.1/\xA w3 cz x.2.2):=λq hq=>⟨(m q hq).1,(m q hq).2.1,(m q hq).2.2.grown A⟩
 have lh:=I (aa u A)
 have HN:Hid (N1 w w3 a D M g gv L T X J gl [p0,Q,l,r,p4,p5,p6,p7] bc [.string ⟨cs.toArray⟩,Y cn,cz]):=
  ⟨HD.keep (λb hb=>lh.block b (HD.o.lt b hb).2 Z),ah,YT.grown A,aA yI A,lh⟩
 have UB:=I (Yh p0 Q l r p4 p5 p6 p7 L T X J B q4 q5 q6 q7)
 have HI:=I (cZ q4.1 (cZ q5.1 (cZ q6.1 q7.1)))
 rw[HB.1,HB.2.1,HB.2.2]at UB
 have c4:w3.c gl 4=some (.int .u8 (l.tag.toNat:Int)):=HN.p.tag 2 Z
 simp only[de,List.length_nil]
 clear C3 YT u lh yI m A U n ah ag q4 q5 q6 q7 B HB
 obtain⟨P,f⟩:=aq (lN ([p0,Q,l,r,p4,p5,p6,p7].map Pc.pair))
 unfold oF at C
 rw[f]at UB C
 clear f
 go_upto_region 4 with fail
 go_cut [58] (λz wx=>z=.bool (!P.isSome)/\w3=wx)
 case first=>
  have f:Hid (P.isSome=(oT.isSome&&(b2&&(b3&&decide (l.tag.toNat=4))))):=UB.1;clear UB C ba Lx;cases oT with
  |none=>
   have HS:Hid (P.isSome=false):=f.o;clear f;simp only[Option.isSome_none];exact oB
  |some A=>
   simp only[du];cases b2 with
   |false=>
    have HS:Hid (P.isSome=false):=f.o;clear f;exact oB
   |true=>
    cases b3 with
    |false=>
     have HS:Hid (P.isSome=false):=f.o;clear f;exact oB
    |true=>
     by_cases m:l.tag.toNat=4
     .have HS:Hid (P.isSome=true):=(by show _=_;rw[f,ee m];rfl);have u:((l.tag.toNat:Int)==4)=true:=(by rw[m];rfl);have n:(l.tag.toNat:Int)=4:=G;clear f m;exact oB
     .have HS:Hid (P.isSome=false):=(by show _=_;rw[f,cY m];rfl);have n:¬ (l.tag.toNat:Int)=4:=G;clear f m;go_wp2;go_meet
      case rel=>exact⟨by rw[HS];congr 1;simpa using n,rfl⟩
 case rest=>
  obtain⟨rfl,rfl⟩:=hcut;cases P with
  |none=>
   have HS:Hid (R=(.error 60,M)):=C.o.symm;clear C UB Lx ba;simp only[Option.isSome_none,eV];go_wp2;go_ret2;exact⟨_,_,rfl,by rw[HS];exact vU (v:=g.pv) H HN.d (.inl rfl) (mK HN.g D)⟩
  |some q=>
   obtain⟨B,f,hq⟩:=UB.2 q rfl;obtain⟨h1,h2,h3⟩:=Lx B f;have n:=ba B f;subst hq h1 h2;obtain⟨za,zc,jc,m,A,U⟩:=h3;subst jc;obtain⟨zn,cl⟩:=aq B.2.2.length;rw[cl]at HN m;have HZ:Hid (∀V,w3.grownBy V none->xA V (.slice za zn zc) B.2.2):=by
    intro V u;rw[<-cl];exact xA.grown ⟨za,zc,rfl,by rw[cl];exact m,A,U⟩ u
   clear UB Lx ba m A U f bl gu;simp only[du,fk];have cp:Hid (l.ins.length<=900):=Ww l Z;have js:D<w.1.size:=(HD.o.lt D (.inl rfl)).2;have LC:=I n;obtain⟨A,f⟩:=aq (iM M now ⟨B.1,B.2.1,B.2.2,l.ins,r.ins,L,T,X,J⟩);have CO:Hid (∀V,(N1 w V a D M g gv L T X J gl [p0,Q,l,r,p4,p5,p6,p7] bc [.string ⟨B.1.toArray⟩,Y B.2.1,.slice za zn zc]/\w3.grownBy V none)->Calls prog 109 #[N D 0,Y now,.agg #[.string ⟨B.1.toArray⟩,Y B.2.1,.slice za zn zc],.slice l.ad l.ins.length l.cap,.string ⟨r.ins.toArray⟩,Y J] V λe w'=>∃t c,e=.returned (.tuple #[.agg t.cells.toArray,Y c])/\oC a D g A V w' t c):=by
    intro V u;rw[<-f];exact X9 a D M g now ⟨B.1,B.2.1,B.2.2,l.ins,r.ins,L,T,X,J⟩ (.slice za zn zc) (.slice l.ad l.ins.length l.cap) V u.1.d cj (cE an u.1.g.size) (HZ V u.2) LC ⟨l.ad,l.cap,rfl,(u.1.p.2 l Z).2.1,(u.1.p.2 l Z).2.2,(u.1.p.2 l Z).1⟩ cp cO ga yo
   have aj:Hid (R=match A.1 with|.error c=>(.error c,A.2)|.ok t=>(eF A.2 now ⟨B.1,B.2.1,B.2.2,l.ins,r.ins,L,T,X,J⟩ t,A.2)):=by
    show _=_;rw[<-f];exact C.o.symm
   have au:=I f;clear C f n;have f:w3.c gv 3=some (Y J):=HN.v 3 _ rfl;have dq:gv≠D:=(by have:=dp.o;omega);go_upto_region 7 with fail
   clear c4 f;go_cut [15,16] (λp k wx=>∃bo t c,p = N bo 0/\k = Y c/\wx.rangeAt bo 0 t.cells/\wx.rangeAt gv 0 [Y L,Y T,Y X,Y J]/\oC a D g A w wx t c)
   case first=>
    as_aux_lemma=>
     clear aj au HI;refine aF.start (S:=λV=>N1 w V a D M g gv L T X J gl [p0,Q,l,r,p4,p5,p6,p7] bc [.string ⟨B.1.toArray⟩,Y B.2.1,.slice za zn zc]/\w3.grownBy V none) 9 f' ?_;have eu:Hid (N1 w w3.drew a D M g gv L T X J gl [p0,Q,l,r,p4,p5,p6,p7] bc [.string ⟨B.1.toArray⟩,Y B.2.1,.slice za zn zc]/\w3.grownBy w3.drew none):=⟨HN.grown (bg (cC _ _)),bg (cC _ _)⟩
     refine aF.tk 0 [0] ?_;refine aF.tk 1 [1] ?_;refine aF.tk 2 [2] ?_ (hy:=by intro W hW;have c0:W.c bc 0=some (.string ⟨B.1.toArray⟩):=hW.1.c 0 _ rfl;have c1:W.c bc 1=some (Y B.2.1):=hW.1.c 1 _ rfl;have c2:W.c bc 2=some (.slice za zn zc):=hW.1.c 2 _ rfl;exact kV);refine aF.tk 3 [6,5,4,3] ?_;refine aF.tk 4 [6,5,4] ?_;refine aF.tk 5 [6,5] ?_;refine aF.tk 6 [6] ?_ (hy:=by intro W hW;have c5:W.c gl 5=some (.slice l.ad l.ins.length l.cap):=hW.1.p.ins 2 Z;exact kV);refine aF.tk 7 [7] ?_;refine aF.tk 8 [8] ?_;refine aF.two (i:=9) (j:=13) f' rfl rfl (by rfl) (by rfl) (λK hK=>?_) (λK hK=>?_)
     .go_simp;refine Calls.mono (CO _ eu) ?_;rintro e Wr ⟨t,c,rfl,hO⟩;have ag:=yD eu.1.v hO.2.2.2.2 dq;rw[TK.pK t];have f:=I hO;have Nh:=I ag;clear hO ag;go_wp2_with fail;refine gN ?_;clear hK K;refine aF.fr 10 ?_;refine aF.fr 11 ?_;refine aF.fr 12 ?_;refine aF.on 13 ?_;intro K hK;refine gN ?_;clear hK K;refine aF.on 14 ?_;intro K hK;refine gN ?_;clear hK K;refine aF.fr 15 ?_;refine aF.done f' ?_;go_wp2_with fail;go_meet
      case rel=>
       have k:=cy Wr (.cells #[Y t.ae,O (t.aO.toNat:Int),.string ⟨t.az.toArray⟩,Y t.dY,Y t.start,Y t.fin,Y t.aD] 43) none;exact⟨Wr.1.size,t,c,rfl,rfl,aS Wr #[Y t.ae,O (t.aO.toNat:Int),.string ⟨t.az.toArray⟩,Y t.dY,Y t.start,Y t.fin,Y t.aD] _,aA Nh k,Jq (MV f eu.1.g) k⟩
     .go_simp;have kz:=cy w3.drew (.cells #[Y 0,O 0,ε,Y 0,Y 0,Y 0,Y 0] 43) none;have bm:=I (b9.new w3.drew #[Y 0,O 0,ε,Y 0,Y 0,Y 0,Y 0] 43);have n:Hid ((w3.drew.alloc (.cells #[Y 0,O 0,ε,Y 0,Y 0,Y 0,Y 0] 43)).1.size=w3.1.size+1):=cG _ _;have m:Hid (N1 w (w3.drew.alloc (.cells #[Y 0,O 0,ε,Y 0,Y 0,Y 0,Y 0] 43)) a D M g gv L T X J gl [p0,Q,l,r,p4,p5,p6,p7] bc [.string ⟨B.1.toArray⟩,Y B.2.1,.slice za zn zc]/\w3.grownBy (w3.drew.alloc (.cells #[Y 0,O 0,ε,Y 0,Y 0,Y 0,Y 0] 43)) none):=⟨eu.1.grown kz,aa eu.2 kz⟩
      refine mA m ?_;clear hK K kz;refine aF.on 9 ?_;intro K hK;refine Calls.mono (CO _ m) ?_;rintro e Wr ⟨t,c,rfl,hO⟩;have ag:=yD m.1.v hO.2.2.2.2 dq;rw[TK.pK t];have f:=I hO;have Nh:=I ag;clear hO ag;go_wp2_with fail;refine gN ?_;clear hK K;have OA:Hid (b9 Wr w3.1.size 7):=Qo (b:=w3.1.size) bm f.2.2.2.2 (by have:=HN.g.size;omega);refine aF.fr 10 ?_;refine aF.fr 11 ?_;refine aF.fr 12 ?_;obtain⟨⟨hg,je⟩,⟨hh,jf⟩,⟨hj,jh⟩,⟨hn,jj⟩,⟨ho,jl⟩,⟨hp,jn⟩,⟨hv,jr⟩,ib,ie,ih,ij,il,im,ir⟩:=qD OA.o;refine aF.on 14 ?_;intro K hK;refine gN ?_;clear hK K;refine aF.fr 15 ?_;refine aF.done f' ?_;go_wp2_with fail;go_meet
      case rel=>
       have U:gv<w3.1.size:=Qv HN.v;have jb:=n.o;exact⟨w3.1.size,t,c,rfl,rfl,fw OA _ _ _ _ _ _ _,Ux Nh (Nat.ne_of_gt U) _ _ _ _ _ _ _,MX f m.1.g (λb hb=>(HN.d.lt b hb).2) HN.g.size (Nat.lt_of_lt_of_eq (fX w3.1.size) jb.symm) _ _ _ _ _ _ _⟩
   case rest=>
    obtain⟨bo,t,k1,rfl,rfl,Qh,ds,hO⟩:=hcut;obtain⟨ec,hE,n,⟨pv,ai,f⟩,hG⟩:=hO;have M6:=I f;clear f;obtain⟨ps,ae⟩:=Uw M now ⟨B.1,B.2.1,B.2.2,l.ins,r.ins,L,T,X,J⟩;rw[au]at ae;obtain⟨f,m⟩:=aq A.2;rw[m]at ai aj ae;have ab:gy 4611686018427387904 f.aC:=(by rw[ae];exact cj);have hc:bT f.ax:=(by rw[ae];exact gd);have bk:∀e∈f.aC,bT e.bH/\bT e.aD:=(by rw[ae];exact fv);have hf:f.aL.length<=140737488355328:=(by rw[ae];exact fi);have dd:=I ec;have U:a<=wc.1.size:=cE an hG.size;clear ae cj gd fv fi ga yo ec LC cp dp HZ HN CO m;by_cases hk:k1=0;rotate_left
    .have HS:Hid (R=(.error k1,f)):=by
      show _=_;rw[aj];cases m:A.1 with
      |ok t'=>exact absurd (n t' m).1 hk
      |error c'=>rw[hE c' m]
     clear aj;go_wp2;go_ret2;exact⟨_,_,rfl,by rw[HS];exact vU hk ai M6 hG⟩
    have C:Hid (R=(eF f now ⟨B.1,B.2.1,B.2.2,l.ins,r.ins,L,T,X,J⟩ t,f)):=by
     show _=_;rw[aj];cases m:A.1 with
     |ok t'=>rw[(n t' m).2]
     |error c'=>
      have h1:=hE c' m;have h2:=Cb (M:=M) (now:=now) (q:=⟨B.1,B.2.1,B.2.2,l.ins,r.ins,L,T,X,J⟩) (c:=c') (by rw[au];exact m);omega
    refine Kw (λV=>N2 w V a D f {g with pv:=pv} gv L T X J bo t/\a<=V.1.size) ⟨⟨ai,ds,Qh,hG⟩,U⟩ ?_;clear aj au hE n ai ds Qh hG U;subst hk;rintro W ⟨hW,al⟩;have HW:=I hW;have af:=I al;clear hW al;as_aux_lemma=>
     have UC:=I (λW=>eZ t.ae 16 4 W H H);have UD:=I (λW=>eZ J 32 5 W H H);have CS:=I (λW=>mR now f.ax W cO hc);obtain⟨ea,n⟩:=aq (aJ t.ae 16);obtain⟨gr,U⟩:=aq (aJ J 32);obtain⟨A1,m⟩:=aq (aW now f.ax);rw[n]at UC;rw[U]at UD;rw[m]at CS;obtain⟨er,cc⟩:=aq (((ea&&!gr)||decide (A1<t.start)));have Vv:=I cc;have ax:Hid ((aJ t.ae 16=true/\aJ J 32=false\/aW now f.ax<t.start)↔er=true):=by
      show _↔_;rw[n,U,m,<-cc];simp
     clear n U m cc;obtain⟨t0,t1,t2,t3,t4,t5,t6⟩:=mE HW.oq;have y0:W.cell? (F D 0)=some (Y f.ax):=by
      have:=HW.d.bU.blk.cell 0;simpa using this
     go_upto_region 10 with fail
     go_cut [78] (λz wx=>z=.bool er/\∃n,W.drewN n=wx)
     case first=>
      clear C ax;cases ea with
      |true=>
       cases gr with
       |false=>
        go_quiet (first|(go_at_call 102;(first|(with_reducible refine Calls.mono (UC.o _) ?_)|(with_reducible refine Calls.mono (UD.o _) ?_));rintro e w' ⟨rfl,rfl⟩;exact⟨rfl,_,rfl⟩)|(go_at_call 103;(with_reducible refine Calls.mono (CS.o _) ?_);rintro e w' ⟨rfl,rfl⟩;exact⟨rfl,_,rfl⟩))
        go_wp2;go_meet
        case rel=>exact⟨by rw[<-Vv];rfl,_,rfl⟩
       |true=>
        exact NO
      |false=>
       exact NO
     case rest=>
      obtain⟨rfl,n,rfl⟩:=hcut;refine Kw (λV=>N2 w V a D f {g with pv:=pv} gv L T X J bo t/\a<=V.1.size) ⟨HW.grown (aN (cC _ _) n),af⟩ ?_;clear Vv UC UD CS y0 t0 t1 t2 t3 t4 t5 t6 HW af;rintro W ⟨hW,al⟩;have HW:=I hW;have af:=I al;clear hW al;cases er with
      |true=>
       have m:=acB (M:=f) (q:=⟨B.1,B.2.1,B.2.2,l.ins,r.ins,L,T,X,J⟩) (ax.2 rfl);have HS:Hid (R=(.error 33,f)):=(by show _=_;rw[C,m]);clear C;exact xp
      |false=>
      have Wy:Hid (¬ (aJ t.ae 16=true/\aJ J 32=false\/aW now f.ax<t.start)):=λh=>by have:=ax.1 h;cases this
      clear ax;obtain⟨t0,t1,t2,t3,t4,t5,t6⟩:=mE HW.oq;by_cases bf:t.fin<now
      .have m:=T1 (M:=f) (q:=⟨B.1,B.2.1,B.2.2,l.ins,r.ins,L,T,X,J⟩) Wy bf;have HS:Hid (R=(.error 32,f)):=(by show _=_;rw[C,m]);clear C;exact xp
      have U:Hid (R=(match BE.find f.aC r.ins,BE.find f.aC t.az with
         |none,_=>.error 7
         |some _,none=>.error 6
         |some s,some x=>
         if ou s x now 2 1≠0 then .error (ou s x now 2 1)
         else if kL J t.ae=false then .error 13
         else match fresh now t x s T X J with
         |.error c=>.error c
         |.ok t2=>.ok ⟨13,t2,s,L,0,t.aO,5⟩,f)):=by
       show _=_
       rw[C,TX Wy.o bf]
       rfl
      clear C Wy;have C:=U;clear U;have CA:=I (λW (hW:RD W a D f {g with pv:=pv})=>yx a D f {g with pv:=pv} r.ins W hW ab.len);have CB:=I (λW (hW:RD W a D f {g with pv:=pv})=>yx a D f {g with pv:=pv} t.az W hW ab.len);have m:=uS g.es r.ins;have WL:=uS g.es t.az;have LK:Hid (g.es.map RE.be=f.aC):=HW.d.aC;rw[LK]at m WL;obtain⟨fa,Ht⟩:=aq (gG g.es r.ins);obtain⟨fb,U⟩:=aq (gG g.es t.az);dsimp only at CA CB;rw[Ht]at CA m;rw[U]at CB WL;have HA:=I m;have av:=I WL;clear m WL Ht U;go_wp2_with fail;refine(CA _ HW.d).mono ?_;rintro e W1 ⟨rfl,g1⟩;have m:=I (HW.grown g1);have U:Hid (a<=W1.1.size):=cE af g1.size;clear HW g1 CA t0 t1 t2 t3 t4 t5 t6 af;obtain⟨t0,t1,t2,t3,t4,t5,t6⟩:=mE m.oq;go_wp2_with fail;refine(CB _ m.d).mono ?_;rintro e W2 ⟨rfl,g2⟩;have HW:=I (m.grown g2);have af:Hid (a<=W2.1.size):=cE U g2.size;clear m g2 CB t0 t1 t2 t3 t4 t5 t6 U;rcases HA.o with⟨hm,ao⟩|⟨k,hk,fz,hs⟩
      .have HS:Hid (R=(.error 7,f)):=(by show _=_;rw[C,ao]);subst hm;clear C HA av ao;exact xp
      .rcases av.o with⟨hm,ao⟩|⟨i,hi,ix,hx⟩
       .have HS:Hid (R=(.error 6,f)):=(by show _=_;rw[C,hs,ao]);have fx:¬ (k:Int)<0:=G;subst hm fz;clear C HA av ao hs;exact xp
       .rw[hs,hx]at C;have iu:¬ (i:Int)<0:=G;have fx:¬ (k:Int)<0:=G;have iv:(0:Int)<=(i:Int):=G;have iz:(0:Int)<=(k:Int):=G;obtain⟨gb,cb,fc,ah⟩:=uT HW.d (by show 0<g.es.length;omega);obtain⟨m,hm⟩:=aq g.es.length;have QX:(i:Int)<(m:Int):=G;have nG:(k:Int)<(m:Int):=G;have xH:Hid (∀V,W2.grownBy V none->V.cell? (F D 1)=some (ς gb 0 m cb)/\V.rangeAt gb 0 (bL g.es)):=by
         intro V u;refine⟨?_,aA ah u⟩;have:=(HW.grown u).d.bU.blk.cell 1;rw[fc,hm]at this;simpa using this
        obtain⟨x,ar⟩:=aq (g.es[i]'hi);obtain⟨s,ck⟩:=aq (g.es[k]'hk);have bn:Hid (x.be∈f.aC):=(by show _∈_;rw[<-LK,<-ar];exact eS (eh hi));have az:Hid (s.be∈f.aC):=(by show _∈_;rw[<-LK,<-ck];exact eS (eh hk));have gx:Hid (x.name=t.az):=(by show _=_;rw[<-ar];exact mi hx);obtain⟨y1,u⟩:=xH W2 (cC _ _);obtain⟨s0,s1,s2,s3,s4,s5,s6,s7,s8,s9⟩:=vS u k hk;rw[ck]at s0 s1 s2 s3 s4 s5 s6 s7 s8 s9 C;rw[ar]at C;subst ix fz;clear hx hs ah HA av fc u;go_upto_region 21 with fail
        refine kR (λV=>W2.grownBy V none/\V.rangeAt W2.1.size 0 s.cells) ⟨cy W2 _ none,xC W2 s⟩ ?_;rintro V ⟨gV,U⟩;clear s0 s1 s2 s3 s4 s5 s6 s7 s8 s9 y1;obtain⟨y1,u⟩:=xH V gV;obtain⟨s0,s1,s2,s3,s4,s5,s6,s7,s8,s9⟩:=vS u i hi;rw[ar]at s0 s1 s2 s3 s4 s5 s6 s7 s8 s9;have HV:=I (HW.grown gV);have bq:=I U;have dn:Hid (a<=V.1.size):=cE af gV.size;clear U u xH gV;obtain⟨bs,u⟩:=aq W2.1.size;rw[u]at bq⊢;clear u HW af;go_upto_region 22 with fail
        refine kR (λU=>N3 w U a D f {g with pv:=pv} gv L T X J bo t x s V.1.size bs/\a<=U.1.size) ⟨⟨HV.grown (cy V _ none),xC V x,aA bq (cy V _ none)⟩,cE dn (cy V _ none).size⟩ ?_;rintro U ⟨hU,u⟩;have HU:=I hU;have df:=I u;clear hU u;obtain⟨bx,u⟩:=aq V.1.size;rw[u]at HU⊢;clear u s0 s1 s2 s3 s4 s5 s6 s7 s8 s9 y1 HV bq dn iu fx iv iz QX nG ar ck hm;as_aux_lemma=>
         have u:=ab.qQ x.be bn.o;have ae:=ab.qQ s.be az.o;have da:=I (cZ u.2.2.1 u.2.2.2);have cu:=I (cZ ae.2.2.1 ae.2.2.2);clear u ae;have u:=I (λW=>Bf (N D 0) s x now 2 1 W cu da);obtain⟨ca,ff⟩:=aq (ou s.be x.be now 2 1);rw[ff]at u C;clear ff;obtain⟨e0,e1,e2,e3,e4,e5,e6,e7,e8,e9⟩:=eG HU.x;obtain⟨f0,f1,f2,f3,f4,f5,f6,f7,f8,f9⟩:=eG HU.s;go_wp2_with fail;refine(u _).mono ?_;rintro e U1 ⟨rfl,g1⟩;have Yw:=I (HU.grown g1);have dt:Hid (a<=U1.1.size):=cE df g1.size;clear HU g1 e0 e1 e2 e3 e4 e5 e6 e7 e8 e9 f0 f1 f2 f3 f4 f5 f6 f7 f8 f9 u df;by_cases hz:ca=0;rotate_left
         .have HS:Hid (R=(.error ca,f)):=(by show _=_;rw[C,dQ hz]);clear C;go_wp2;go_ret2;exact⟨_,_,rfl,by rw[HS];exact vU hz Yw.n.d M6 Yw.n.g⟩
         rw[b' (λh=>h hz)]at C;have u:=I (λW=>MU J t.ae W);obtain⟨ob,IB⟩:=aq (kL J t.ae);rw[IB]at u C;have cr:=I IB;clear IB;obtain⟨t0,t1,t2,t3,t4,t5,t6⟩:=mE Yw.n.oq;go_wp2_with fail;refine(u _).mono ?_;rintro e U2 ⟨rfl,rfl⟩;clear u hz t0 t1 t2 t3 t4 t5 t6;cases ob with
         |false=>
          have HS:Hid (R=(.error 13,f)):=(by show _=_;rw[C,dQ rfl]);clear C;go_wp2;go_ret2;exact⟨_,_,rfl,by rw[HS];exact vU H Yw.n.d M6 Yw.n.g⟩
         |true=>
         rw[b' H]at C;obtain⟨gp,gq⟩:=bk x.be bn.o;obtain⟨u,gm⟩:=bk s.be az.o;have ak:=I (λW=>Yf (N D 0) now t x s T X J W da cu gq gm gp u cO dd);rw[TK.pK t]at ak;obtain⟨FR,Q9⟩:=aq (fresh now t x.be s.be T X J);rw[Q9]at ak C;have Vq:=I Q9;clear Q9 gp gq u gm;go_upto_region 28 with fail
         go_cut [22,16] (λp k wx=>∃bt t2 c2,p = N bt 0/\k = Y c2/\wx.rangeAt bt 0 t2.cells/\Eh FR t2 c2/\U2.grownBy wx none)
         case first=>
          clear C Vq cr;as_aux_lemma=>
           refine aF.start (S:=λV=>N3 w V a D f {g with pv:=pv} gv L T X J bo t x s bx bs) 12 f' ?_;have eu:=I (Yw.grown (bg (cC _ _)));refine aF.tk 0 [0] ?_;refine aF.tk 1 [1] ?_;refine aF.tk 2 [2] ?_ (hy:=by intro W hW;obtain⟨t0,t1,t2,t3,t4,t5,t6⟩:=mE hW.n.oq;exact kV);refine aF.tk 3 [3] ?_ (hy:=by intro W hW;obtain⟨e0,e1,e2,e3,e4,e5,e6,e7,e8,e9⟩:=eG hW.x;exact kV);refine aF.tk 4 [4] ?_ (hy:=by intro W hW;obtain⟨e0,e1,e2,e3,e4,e5,e6,e7,e8,e9⟩:=eG hW.s;exact kV);refine aF.tk 5 [7,6,5] ?_;refine aF.tk 6 [7,6] ?_;refine aF.tk 7 [7] ?_ (hy:=by intro W hW;have e3:=hW.n.v 1 _ rfl;exact kV);refine aF.tk 8 [10,9,8] ?_;refine aF.tk 9 [10,9] ?_;refine aF.tk 10 [10] ?_ (hy:=by intro W hW;have e3:=hW.n.v 2 _ rfl;exact kV);refine aF.tk 11 [11] ?_;refine aF.two (i:=12) (j:=16) f' rfl rfl (by rfl) (by rfl) (λK hK=>?_) (λK hK=>?_)
           .go_simp;refine Calls.mono (ak _) ?_;rintro e Wr ⟨u,c2,rfl,hF,gF⟩;rw[TK.pK u];have HF:=I (cZ hF (aa (bg (cC U2 none)) gF));clear hF gF;go_wp2_with fail;refine gN ?_;clear hK K;refine aF.fr 13 ?_;refine aF.fr 14 ?_;refine aF.fr 15 ?_;refine aF.on 16 ?_;intro K hK;refine gN ?_;clear hK K;refine aF.on 17 ?_;intro K hK;refine gN ?_;clear hK K;refine aF.fr 18 ?_;refine aF.done f' ?_;go_wp2_with fail;go_meet
            case rel=>exact⟨Wr.1.size,u,c2,rfl,rfl,aS Wr #[Y u.ae,O (u.aO.toNat:Int),.string ⟨u.az.toArray⟩,Y u.dY,Y u.start,Y u.fin,Y u.aD] _,HF.1,aM HF.2 _⟩
           .go_simp;have kz:=cy U2.drew (.cells #[Y 0,O 0,ε,Y 0,Y 0,Y 0,Y 0] 43) none;have bm:=I (b9.new U2.drew #[Y 0,O 0,ε,Y 0,Y 0,Y 0,Y 0] 43);refine hK.out _ _ (.inr (eu.grown kz)) ?_;have gw:=I kz;clear hK K kz;try simp only[Act.put,List.getElem_toArray,List.getElem_cons_zero,List.getElem_cons_succ,ei,eo,eM]
            refine aF.on 12 ?_;intro K hK;refine Calls.mono (ak _) ?_;rintro e Wr ⟨u,c2,rfl,hF,gF⟩;rw[TK.pK u];have OA:Hid (b9 Wr U2.1.size 7):=bm.grown gF;have HF:=I (cZ hF (aa (aa (bg (cC U2 none)) gw) gF));clear hF gF;go_wp2_with fail;refine gN ?_;clear hK K;refine aF.fr 13 ?_;refine aF.fr 14 ?_;refine aF.fr 15 ?_;obtain⟨⟨hg,je⟩,⟨hh,jf⟩,⟨hj,jh⟩,⟨hn,jj⟩,⟨ho,jl⟩,⟨hp,jn⟩,⟨hv,jr⟩,ib,ie,ih,ij,il,im,ir⟩:=qD OA.o;refine aF.on 17 ?_;intro K hK;refine gN ?_;clear hK K;refine aF.fr 18 ?_;refine aF.done f' ?_;go_wp2_with fail;go_meet
            case rel=>exact⟨U2.1.size,u,c2,rfl,rfl,fw OA _ _ _ _ _ _ _,HF.1,aB (aB (aB (aB (aB (aB (aB HF.2 (cA _)) (cA _)) (cA _)) (cA _)) (cA _)) (cA _)) (cA _)⟩
         case rest=>
          obtain⟨bt,u,c2,rfl,rfl,ev,hF,gF⟩:=hcut;refine Kw (λV=>(N3 w V a D f {g with pv:=pv} gv L T X J bo t x s bx bs/\a<=V.1.size)/\V.rangeAt bt 0 u.cells) ⟨⟨Yw.grown gF,cE dt gF.size⟩,ev⟩ ?_;clear ev gF ak Yw dt;rintro W3 ⟨⟨en,et⟩,gg⟩;have pU:=I en;have gz:=I et;have ha:=I gg;clear en et gg;as_aux_lemma=>
           by_cases bz:c2=0;rotate_left
           .have HS:Hid (R=(.error c2,f)):=by
             show _=_;rw[C];cases hr:FR with
             |error c'=>rw[hF.1 c' hr]
             |ok t'=>exact absurd (hF.2 t' hr).1 bz
            clear C;go_wp2;go_ret2;exact⟨_,_,rfl,by rw[HS];exact vU bz pU.n.d M6 pU.n.g⟩
           have eb:FR=.ok u\/∃c',FR=.error c'/\c'=0:=by
            cases hr:FR with
            |error c'=>exact .inr ⟨c',rfl,by rw[<-hF.1 c' hr];exact bz⟩
            |ok t'=>exact .inl (by rw[(hF.2 t' hr).2])
           have bu:FR=.ok u:=by
            rcases eb with h|⟨c',h,h0⟩
            .exact h
            .exact absurd (Vq.o.trans h) (Qu h0)
           have bb:=I (acC dd cO HI.2.1 HI.2.2.1 (Vq.o.trans bu));have HS:Hid (R=(.ok ⟨13,u,s.be,L,0,t.aO,5⟩,f)):=by
            show _=_;rw[C,bu]
           clear C Vq hF eb bu cr;obtain⟨ad,cd,fl⟩:=bA pU.n.d.bU.aL;obtain⟨nd,ch⟩:=aq f.aL.length;have y3:W3.cell? (F D 3)=some (.slice ad nd cd):=by
            have:=pU.n.d.bU.blk.cell 3;rw[fl,ch]at this;simpa using this
           have bp:=I ch;clear fl ch;by_cases hd:(nd:Int)<24
           .go_wp2;go_ret2;exact⟨_,_,rfl,by rw[HS];exact T2 (by rw[bp];omega) pU.n.d M6.o pU.n.g⟩
           have QE:=ab.num s.be az.o;have QF:=ab.name x.be bn.o;have QG:=ab.name s.be az.o;have I4:Hid (u.az.length<=90):=by
            show _<=_;rw[bb.2,<-gx];exact yz QF
           have dc:Hid (s.name.length<=90):=yz QG;have CG:Hid (∀W,RD W a D f {g with pv:=pv}->a<=W.1.size->Calls prog 107 #[N D 0,Y 13,.agg #[Y u.ae,O (u.aO.toNat:Int),.string ⟨u.az.toArray⟩,Y u.dY,Y u.start,Y u.fin,Y u.aD],.agg s.arr,Y L,Y 0,O (t.aO.toNat:Int),Y 5] W λe w'=>∃o,e=.returned o/\mB W.1.size w' o (mg 13 {u with aO:=eP f.aL 0} s.be L 0 t.aO 5 (eP f.aL 1) (eP f.aL 2))/\(∃v,RD w' a D {f with aL:=f.aL.drop 24} {g with pv:=pv,dv:=v}/\lE W.1.size v)/\W.grownBy w' (some D)):=by
            intro W hW hb;exact Qb a D f {g with pv:=pv} 13 L 0 u s t.aO 5 5 W hW (by rw[bp];omega) hf hb H H rfl ⟨by decide,by decide⟩ HI.1 gY (He QE) bb.1 I4.o dc.o
           clear QE QF QG I4 dc;go_wp2_with fail;refine aF.start (S:=λV=>N3 w V a D f {g with pv:=pv} gv L T X J bo t x s bx bs/\V.rangeAt bt 0 u.cells) 8 f' ?_;have eu:Hid (N3 w W3.drew a D f {g with pv:=pv} gv L T X J bo t x s bx bs/\W3.drew.rangeAt bt 0 u.cells):=⟨pU.grown (bg (cC _ _)),aA ha (bg (cC _ _))⟩
           clear y3;refine aF.tk 0 [0] ?_;refine aF.tk 1 [1] ?_ (hy:=by intro W hW;obtain⟨t0,t1,t2,t3,t4,t5,t6⟩:=mE hW.2;exact kV);refine aF.tk 2 [2] ?_ (hy:=by intro W hW;obtain⟨e0,e1,e2,e3,e4,e5,e6,e7,e8,e9⟩:=eG hW.1.s;exact kV);refine aF.tk 3 [5,4,3] ?_;refine aF.tk 4 [5,4] ?_;refine aF.tk 5 [5] ?_ (hy:=by intro W hW;have e3:=hW.1.n.v 0 _ rfl;exact kV);refine aF.tk 6 [7,6] ?_;refine aF.tk 7 [7] ?_ (hy:=by intro W hW;obtain⟨t0,t1,t2,t3,t4,t5,t6⟩:=mE hW.1.n.oq;exact kV);refine aF.on 8 ?_;intro K hK;refine Calls.mono (CG _ eu.1.n.d gz) ?_;rintro e w5 ⟨o,rfl,uy,⟨v,ai,Qq⟩,g5⟩;have HH:=I (cZ uy (cZ ai (cZ g5 Qq)));clear uy ai g5 Qq;go_wp2_with fail;refine gN ?_;clear hK K CG;refine aF.fr 9 ?_;refine aF.fr 10 ?_;refine aF.done f' ?_;go_wp2;go_ret2;refine⟨_,_,rfl,?_⟩;rw[HS];obtain⟨h1,h2,h3,h4⟩:=HH.o;refine⟨?_,⟨pv,M6,λh=>absurd rfl h,λ_=>⟨_,v,rfl,h1.base eu.o.1.n.g.size,h2,λb hb=>cE eu.o.1.n.g.size (h4 b hb)⟩⟩,iH eu.1.n.g h3⟩;show _=if f.aL.length<24 then 60 else 0;rw[b' (by rw[bp];omega)]
