import Derived.Test.YtlfifnpjeangmaaGreatDoorGERFstC
namespace Go.Proofs.YtlfifnpjeangmaaGreatDoor
set_option maxHeartbeats 16000000
open Proofs.Tryz Go.RowKit
set_option maxRecDepth 100000
set_option linter.unusedSimpArgs false
theorem aaD{p:Prop}(h:p:=by
 by_cases hlt:A1<t.start
 ·have HL:=hid hlt
  go_quiet (first|(go_at_call 102;(first|(with_reducible refine Calls.mono (Rw.o _) ?_)|(with_reducible refine Calls.mono (Rx.o _) ?_));rintro e w' ⟨rfl,rfl⟩;exact⟨rfl,_,rfl⟩)|(go_at_call 103;(with_reducible refine Calls.mono (CS.o _) ?_);rintro e w' ⟨rfl,rfl⟩;exact⟨rfl,_,rfl⟩))
  go_wp2
  go_meet
  case rel=>exact⟨by rw[<-SQ.o,dk HL.o];rfl,_,rfl⟩
 ·have HL:=hid (eS.1 hlt)
  go_quiet (first|(go_at_call 102;(first|(with_reducible refine Calls.mono (Rw.o _) ?_)|(with_reducible refine Calls.mono (Rx.o _) ?_));rintro e w' ⟨rfl,rfl⟩;exact⟨rfl,_,rfl⟩)|(go_at_call 103;(with_reducible refine Calls.mono (CS.o _) ?_);rintro e w' ⟨rfl,rfl⟩;exact⟨rfl,_,rfl⟩))
  go_wp2
  go_meet
  case rel=>exact⟨by rw[<-SQ.o,cX (eS.2 HL.o)];rfl,_,rfl⟩):p:=h
theorem abU{p:Prop}(h:p:=by
 go_wp2
 go_ret2
 exact⟨_,_,rfl,by rw[HS.o];exact uR agF HW.o.d KE.o HW.o.g⟩):p:=h
theorem Oh(base B:Nat)(M)(g)(now)(I c:Nat)(p0 D f l Q X O N)(w)(hD:RD w base B M g)(bh:fU 4611686018427387904 M.aG)(ag:base<=w.heap.size)(hP:jJ w I [p0,D,f,l,Q,X,O,N])(hl:∀q∈[p0,D,f,l,Q,X,O,N],q.ins.length<=900)(b7:bG p0.pair=some 12)(dA:In64 now)(cg:In64 M.aA)(bE:∀e∈M.aG,In64 e.bI/\In64 e.aC)(b6:M.aL.length<=140737488355328)(bS:M.aJ.length<=1000)(Ag:∀y∈M.aJ,In64 y.time):
  Calls prog 70 #[(B,0),ι now,.slice (some (I,0)) 8 c] w λe w'=>∃o k,e=.returned (.tuple #[o,ι k])/\Cx base B g (nT M now ([p0,D,f,l,Q,X,O,N].map Pc.pair)) w w' o k:=by
 have c2:w.cell? (I,2)=some (.int .u8 D.tag.toNat):=hP.tag 1 agI
 have c3:w.cell? (I,3)=some (.slice D.ad D.ins.length D.cap):=hP.ins 1 agI
 have BZ:=hid hP
 have TR:=hid hl
 have C1:=hid (zU D w (hP.2 D agI).1 (hP.2 D agI).2.1 (hP.2 D agI).2.2 (cE (hl D agI) agF))
 have C2:Hid (∀W,jJ W I [p0,D,f,l,Q,X,O,N]->Calls prog 96 #[.agg #[.int .u8 l.tag.toNat,.slice l.ad l.ins.length l.cap]] W λe w'=>e=.returned (.tuple #[.string l.ins,.bool (dh l.pair).isSome])/\W.grownBy w' none):=λW hW=>qQ l W (hW.2 l agI).1 (cE (hl l agI) agF)
 have C3:Hid (∀W,jJ W I [p0,D,f,l,Q,X,O,N]->Calls prog 97 #[.slice (some (I,0)) 8 c,ι 4,ι 8] W λe w'=>∃o vs,e=.returned (.tuple #[o,.bool (jS [Q,X,O,N])])/\rG [Q,X,O,N] vs/\w'.ownsRow W.heap.size 2 1 o vs.length (vs.map I64)/\W.grownBy w' none):=λW hW=>uM 4 8 8 I c [p0,D,f,l,Q,X,O,N] W (hid rfl) agF agF agF hW
 obtain⟨oT,h1⟩:=aq (gT D.pair)
 obtain⟨b2,h2⟩:=aq ((dh l.pair).isSome)
 obtain⟨b3,h3⟩:=aq (jS [Q,X,O,N])
 have av:Hid (∀x,oT=some x->x.2.2.length<=900):=λx hx=>cE (BD (p:=D.pair) (by rw[h1];exact hx)) (hl D agI)
 rw[h1]at C1
 rw[h2]at C2
 rw[h3]at C3
 have HB:=hid (And.intro h1 (And.intro h2 h3))
 clear h1 h2 h3 hP hl
 have HD:=hid hD
 obtain⟨R,hR⟩:=aq (nT M now ([p0,D,f,l,Q,X,O,N].map Pc.pair))
 rw[hR]
 have C:=hid hR
 clear hR hD
 go_enter func70,ntmps70
 go_wp2_with fail
 refine C1.o.mono ?_
 clear C1
 rintro e w1 ⟨cs,cn,cz,rfl,bz,aE,bQ,g1⟩
 have Oi:=hid (BZ.o.grown g1)
 have kF:=hid g1
 have Nf:=hid bQ
 have du:=hid bz
 clear BZ g1 c2 c3 bQ bz
 have cR:=I1 (P:=prog) (Live.new w1 #[.string cs,ι cn,.slice none 0 0] 233) 2 agI cz aE
 go_upto_region 2 with fail
 refine kE (λV=>w1.grownBy V none/\V.rangeAt w1.heap.size 0 [.string cs,ι cn,cz]) ⟨cx w1 _ none,aS w1 #[.string cs,ι cn,cz] _⟩ ?_
 clear cR
 rintro V ⟨gV,bl⟩
 obtain⟨bc,bu⟩:=aq w1.heap.size
 rw[bu]at bl⊢
 have KE:=hid (Oi.o.grown gV)
 have KR:=hid (aa kF.o gV)
 have cu:=hid bl
 have Kz:Hid (∀q,oT=some q->cs=q.1/\cn=q.2.1/\vX V cz q.2.2):=λq hq=>⟨(Nf.o q hq).1,(Nf.o q hq).2.1,(Nf.o q hq).2.2.1.grown gV⟩
 have c6:V.cell? (I,6)=some (.int .u8 l.tag.toNat):=KE.o.tag 3 agI
 have c7:V.cell? (I,7)=some (.slice l.ad l.ins.length l.cap):=KE.o.ins 3 agI
 clear bu gV bl Oi kF Nf
 go_wp2_with fail
 refine(C2.o _ KE.o).mono ?_
 rintro e w2 ⟨rfl,g2⟩
 have V3:=hid (KE.o.grown g2)
 have aO:=hid (aa KR.o g2)
 have yL:=hid (aB cu.o g2)
 have ar:Hid (∀q,oT=some q->cs=q.1/\cn=q.2.1/\vX w2 cz q.2.2):=λq hq=>⟨(Kz.o q hq).1,(Kz.o q hq).2.1,(Kz.o q hq).2.2.grown g2⟩
 clear c6 c7 KE KR cu Kz g2 C2
 go_wp2_with fail
 refine(C3.o _ V3.o).mono ?_
 rintro e w3 ⟨o,vs,rfl,Zi,ax,g3⟩
 obtain⟨v4,v5,v6,v7,rfl,q4,q5,q6,q7⟩:=Zi.four
 obtain⟨L,cv,rfl,T,J⟩:=jI ax agI
 have cw:Hid (w.heap.size<=L):=cE aO.o.size J
 have Jw:Hid (∀x,oT=some x->cs=x.1/\cn=x.2.1/\vX w3 cz x.2.2):=λq hq=>⟨(ar.o q hq).1,(ar.o q hq).2.1,(ar.o q hq).2.2.grown g3⟩
 have kR:=hid (aa aO.o g3)
 have HN:Hid (N1 w w3 base B M g L v4 v5 v6 v7 I [p0,D,f,l,Q,X,O,N] bc [.string cs,ι cn,cz]):=
  ⟨HD.o.keep (λb hb=>kR.o.block b (HD.o.lt b hb).2 agI),T,V3.o.grown g3,aB yL.o g3,kR.o⟩
 have Rv:=hid (Vy p0 D f l Q X O N v4 v5 v6 v7 b7 q4 q5 q6 q7)
 have HI:=hid (And.intro q4.1 (And.intro q5.1 (And.intro q6.1 q7.1)))
 rw[HB.o.1,HB.o.2.1,HB.o.2.2]at Rv
 have c4:w3.cell? (I,4)=some (.int .u8 f.tag.toNat):=HN.o.p.tag 2 agI
 simp only[de,List.length_nil]
 clear C3 V3 aO kR yL ar g3 Zi ax T J q4 q5 q6 q7 b7 HB
 obtain⟨P,hP⟩:=aq (lu ([p0,D,f,l,Q,X,O,N].map Pc.pair))
 unfold nT at C
 rw[hP]at Rv C
 clear hP
 go_upto_region 4 with fail
 go_cut [58] (λz wx=>z=.bool (!P.isSome)/\w3=wx)
 case first=>
  have HX:Hid (P.isSome=(oT.isSome&&(b2&&(b3&&decide (f.tag.toNat=4))))):=Rv.o.1;clear Rv C av Jw;cases oT with
  |none=>
   have HS:Hid (P.isSome=false):=HX.o;clear HX;simp only[Option.isSome_none];exact aaM
  |some x0=>
   simp only[dj];cases b2 with
   |false=>
    have HS:Hid (P.isSome=false):=HX.o;clear HX;exact aaM
   |true=>
    cases b3 with
    |false=>
     have HS:Hid (P.isSome=false):=HX.o;clear HX;exact aaM
    |true=>
     by_cases ht:f.tag.toNat=4
     ·have HS:Hid (P.isSome=true):=(by show _=_;rw[HX.o,dk ht];rfl);have dy:((f.tag.toNat:Int)==4)=true:=(by rw[ht];rfl);have b8:(f.tag.toNat:Int)=4:=agE;clear HX ht;exact aaM
     ·have HS:Hid (P.isSome=false):=(by show _=_;rw[HX.o,cX ht];rfl);have b8:¬ (f.tag.toNat:Int)=4:=agE;clear HX ht;go_wp2;go_meet
      case rel=>exact⟨by rw[HS.o];congr 1;simpa using b8,rfl⟩
 case rest=>
  obtain⟨rfl,rfl⟩:=hcut;cases P with
  |none=>
   have HS:Hid (R=(.error 60,M)):=C.o.symm;clear C Rv Jw av;simp only[Option.isSome_none,eM];go_wp2;go_ret2;exact⟨_,_,rfl,by rw[HS.o];exact uR (v:=g.pv) agF HN.o.d (.inl rfl) (mh HN.o.g B)⟩
  |some q=>
   obtain⟨r,a6,hq⟩:=Rv.o.2 q rfl;obtain⟨h1,h2,h3⟩:=Jw.o r a6;have bY:=av.o r a6;subst hq h1 h2;obtain⟨za,zc,cO,aT,bH,Ut⟩:=h3;subst cO;obtain⟨zn,aP⟩:=aq r.2.2.length;rw[aP]at HN aT;have HZ:Hid (∀V,w3.grownBy V none->vX V (.slice za zn zc) r.2.2):=by
    intro V hV;rw[<-aP];exact vX.grown ⟨za,zc,rfl,by rw[aP];exact aT,bH,Ut⟩ hV
   clear Rv Jw av aT bH Ut a6 aE du;simp only[dj,eV];have ct:Hid (f.ins.length<=900):=TR.o f agI;have dz:B<w.heap.size:=(HD.o.lt B (.inl rfl)).2;have Jy:=hid bY;obtain⟨A,hA⟩:=aq (iH M now ⟨r.1,r.2.1,r.2.2,f.ins,l.ins,v4,v5,v6,v7⟩);have CO:Hid (∀V,(N1 w V base B M g L v4 v5 v6 v7 I [p0,D,f,l,Q,X,O,N] bc [.string r.1,ι r.2.1,.slice za zn zc]/\w3.grownBy V none)->Calls prog 109 #[(B,0),ι now,.agg #[.string r.1,ι r.2.1,.slice za zn zc],.slice f.ad f.ins.length f.cap,.string l.ins,ι v7] V λe w'=>∃t c,e=.returned (.tuple #[.agg t.cells.toArray,ι c])/\nR base B g A V w' t c):=by
    intro V hV;rw[<-hA];exact Vq base B M g now ⟨r.1,r.2.1,r.2.2,f.ins,l.ins,v4,v5,v6,v7⟩ (.slice za zn zc) (.slice f.ad f.ins.length f.cap) V hV.1.d bh (cE ag hV.1.g.size) (HZ.o V hV.2) Jy.o ⟨f.ad,f.cap,rfl,(hV.1.p.2 f agI).2.1,(hV.1.p.2 f agI).2.2,(hV.1.p.2 f agI).1⟩ ct.o dA bS Ag
   have ab:Hid (R=match A.1 with|.error c=>(.error c,A.2)|.ok t=>(ek A.2 now ⟨r.1,r.2.1,r.2.2,f.ins,l.ins,v4,v5,v6,v7⟩ t,A.2)):=by
    show _=_;rw[<-hA];exact C.o.symm
   have au:=hid hA;clear C hA bY;have dx:w3.cell? (L,3)=some (ι v7):=HN.o.v 3 _ rfl;have bN:L≠B:=(by have:=cw.o;omega);go_upto_region 7 with fail
   clear c4 dx;go_cut [15,16] (λp k wx=>∃bo t c,p=.pointer (some ⟨bo,0,none⟩)/\k = ι c/\wx.rangeAt bo 0 t.cells/\wx.rangeAt L 0 [ι v4,ι v5,ι v6,ι v7]/\nR base B g A w wx t c)
   case first=>
    as_aux_lemma=>
     clear ab au HI;refine aD.start (S:=λV=>N1 w V base B M g L v4 v5 v6 v7 I [p0,D,f,l,Q,X,O,N] bc [.string r.1,ι r.2.1,.slice za zn zc]/\w3.grownBy V none) 9 agP ?_;have dY:Hid (N1 w w3.drew base B M g L v4 v5 v6 v7 I [p0,D,f,l,Q,X,O,N] bc [.string r.1,ι r.2.1,.slice za zn zc]/\w3.grownBy w3.drew none):=⟨HN.o.grown (bg (cC _ _)),bg (cC _ _)⟩
     refine aD.tk 0 [0] ?_;refine aD.tk 1 [1] ?_;refine aD.tk 2 [2] ?_ (hy:=by intro W hW;have c0:W.cell? (bc,0)=some (.string r.1):=hW.1.c 0 _ rfl;have c1:W.cell? (bc,1)=some (ι r.2.1):=hW.1.c 1 _ rfl;have c2:W.cell? (bc,2)=some (.slice za zn zc):=hW.1.c 2 _ rfl;exact kI);refine aD.tk 3 [6,5,4,3] ?_;refine aD.tk 4 [6,5,4] ?_;refine aD.tk 5 [6,5] ?_;refine aD.tk 6 [6] ?_ (hy:=by intro W hW;have c5:W.cell? (I,5)=some (.slice f.ad f.ins.length f.cap):=hW.1.p.ins 2 agI;exact kI);refine aD.tk 7 [7] ?_;refine aD.tk 8 [8] ?_;refine aD.two (i:=9) (j:=13) agP rfl rfl (by rfl) (by rfl) (λK hK=>?_) (λK hK=>?_)
     ·go_simp;refine Calls.mono (CO.o _ dY.o) ?_;rintro e Wr ⟨t,c,rfl,hO⟩;have J:=xx dY.o.1.v hO.2.2.2.2 bN;rw[TK.oL t];have HO:=hid hO;have KR:=hid J;clear hO J;go_wp2_with fail;refine hkl ?_;clear hK K;refine aD.fr 10 ?_;refine aD.fr 11 ?_;refine aD.fr 12 ?_;refine aD.on 13 ?_;intro K hK;refine hkl ?_;clear hK K;refine aD.on 14 ?_;intro K hK;refine hkl ?_;clear hK K;refine aD.fr 15 ?_;refine aD.done agP ?_;go_wp2_with fail;go_meet
      case rel=>
       have k:=cx Wr (.cells #[ι t.ae,υ t.aN.toNat,.string t.ay,ι t.dV,ι t.start,ι t.fin,ι t.aC] 43) none;exact⟨Wr.heap.size,t,c,rfl,rfl,aS Wr #[ι t.ae,υ t.aN.toNat,.string t.ay,ι t.dV,ι t.start,ι t.fin,ι t.aC] _,aB KR.o k,GY (Kw HO.o dY.o.1.g) k⟩
     ·go_simp;have kz:=cx w3.drew (.cells #[ι 0,υ 0,.string ⟨#[]⟩,ι 0,ι 0,ι 0,ι 0] 43) none;have aV:=hid (Live.new w3.drew #[ι 0,υ 0,.string ⟨#[]⟩,ι 0,ι 0,ι 0,ι 0] 43);have dp:Hid ((w3.drew.alloc (.cells #[ι 0,υ 0,.string ⟨#[]⟩,ι 0,ι 0,ι 0,ι 0] 43)).heap.size=w3.heap.size+1):=cF _ _;have Mt:Hid (N1 w (w3.drew.alloc (.cells #[ι 0,υ 0,.string ⟨#[]⟩,ι 0,ι 0,ι 0,ι 0] 43)) base B M g L v4 v5 v6 v7 I [p0,D,f,l,Q,X,O,N] bc [.string r.1,ι r.2.1,.slice za zn zc]/\w3.grownBy (w3.drew.alloc (.cells #[ι 0,υ 0,.string ⟨#[]⟩,ι 0,ι 0,ι 0,ι 0] 43)) none):=⟨dY.o.1.grown kz,aa dY.o.2 kz⟩
      refine hkx Mt.o ?_;clear hK K kz;refine aD.on 9 ?_;intro K hK;refine Calls.mono (CO.o _ Mt.o) ?_;rintro e Wr ⟨t,c,rfl,hO⟩;have J:=xx Mt.o.1.v hO.2.2.2.2 bN;rw[TK.oL t];have HO:=hid hO;have KR:=hid J;clear hO J;go_wp2_with fail;refine hkl ?_;clear hK K;have Mf:Hid (Live Wr w3.heap.size 7):=NV (b:=w3.heap.size) aV.o HO.o.2.2.2.2 (by have:=HN.o.g.size;omega);refine aD.fr 10 ?_;refine aD.fr 11 ?_;refine aD.fr 12 ?_;obtain⟨⟨cL,df⟩,⟨cP,da⟩,⟨cH,dc⟩,⟨dq,cV⟩,⟨cD,dn⟩,⟨cG,cS⟩,⟨cZ,dr⟩,cW,dd,cJ,cQ,c9,cU,cK⟩:=pR Mf.o;refine aD.on 14 ?_;intro K hK;refine hkl ?_;clear hK K;refine aD.fr 15 ?_;refine aD.done agP ?_;go_wp2_with fail;go_meet
      case rel=>
       have cN:L<w3.heap.size:=Oa HN.o.v;have cI:=dp.o;exact⟨w3.heap.size,t,c,rfl,rfl,fe Mf.o _ _ _ _ _ _ _,Rk KR.o (Nat.ne_of_gt cN) _ _ _ _ _ _ _,Ky HO.o Mt.o.1.g (λb hb=>(HN.o.d.lt b hb).2) HN.o.g.size (Nat.lt_of_lt_of_eq (fY w3.heap.size) cI.symm) _ _ _ _ _ _ _⟩
   case rest=>
    obtain⟨bo,t,k1,rfl,rfl,NM,bW,hO⟩:=hcut;obtain⟨bw,hE,bj,⟨pv,Z,cc⟩,hG⟩:=hO;have KE:=hid cc;clear cc;obtain⟨ps,F⟩:=Rj M now ⟨r.1,r.2.1,r.2.2,f.ins,l.ins,v4,v5,v6,v7⟩;rw[au.o]at F;obtain⟨a,bR⟩:=aq A.2;rw[bR]at Z ab F;have E:fU 4611686018427387904 a.aG:=(by rw[F];exact bh);have cM:In64 a.aA:=(by rw[F];exact cg);have aF:∀e∈a.aG,In64 e.bI/\In64 e.aC:=(by rw[F];exact bE);have cT:a.aL.length<=140737488355328:=(by rw[F];exact b6);have bp:=hid bw;have b0:base<=wc.heap.size:=cE ag hG.size;clear F bh cg bE b6 bS Ag bw Jy ct cw HZ HN CO bR;by_cases hk:k1=0;rotate_left
    ·have HS:Hid (R=(.error k1,a)):=by
      show _=_;rw[ab.o];cases G:A.1 with
      |ok t'=>exact absurd (bj t' G).1 hk
      |error c'=>rw[hE c' G]
     clear ab;go_wp2;go_ret2;exact⟨_,_,rfl,by rw[HS.o];exact uR hk Z KE.o hG⟩
    have C:Hid (R=(ek a now ⟨r.1,r.2.1,r.2.2,f.ins,l.ins,v4,v5,v6,v7⟩ t,a)):=by
     show _=_;rw[ab.o];cases G:A.1 with
     |ok t'=>rw[(bj t' G).2]
     |error c'=>
      have h1:=hE c' G;have h2:=AL (M:=M) (now:=now) (q:=⟨r.1,r.2.1,r.2.2,f.ins,l.ins,v4,v5,v6,v7⟩) (c:=c') (by rw[au.o];exact G);omega
    refine IW (λV=>N2 w V base B a {g with pv:=pv} L v4 v5 v6 v7 bo t/\base<=V.heap.size) ⟨⟨Z,bW,NM,hG⟩,b0⟩ ?_;clear ab au hE bj Z bW NM hG b0;subst hk;rintro W ⟨hW,ak⟩;have HW:=hid hW;have H:=hid ak;clear hW ak;as_aux_lemma=>
     have Rw:=hid (λW=>eO t.ae 16 4 W agF agF);have Rx:=hid (λW=>eO v7 32 5 W agF agF);have CS:=hid (λW=>mr now a.aA W dA cM);obtain⟨ch,bd⟩:=aq (aI t.ae 16);obtain⟨bD,bm⟩:=aq (aI v7 32);obtain⟨A1,G⟩:=aq (aW now a.aA);rw[bd]at Rw;rw[bm]at Rx;rw[G]at CS;obtain⟨er,bk⟩:=aq (((ch&&!bD)||decide (A1<t.start)));have SQ:=hid bk;have al:Hid ((aI t.ae 16=true/\aI v7 32=false\/aW now a.aA<t.start)↔er=true):=by
      show _↔_;rw[bd,bm,G,<-bk];simp
     clear bd bm G bk;obtain⟨t0,t1,Y,t3,t4,t5,t6⟩:=lZ HW.o.o;have y0:W.cell? (B,0)=some (ι a.aA):=by
      have:=HW.o.d.bP.blk.cell 0;simpa using this
     go_upto_region 10 with fail
     go_cut [78] (λz wx=>z=.bool er/\∃n,W.drewN n=wx)
     case first=>
      clear C al;cases ch with
      |true=>
       cases bD with
       |false=>
        go_quiet (first|(go_at_call 102;(first|(with_reducible refine Calls.mono (Rw.o _) ?_)|(with_reducible refine Calls.mono (Rx.o _) ?_));rintro e w' ⟨rfl,rfl⟩;exact⟨rfl,_,rfl⟩)|(go_at_call 103;(with_reducible refine Calls.mono (CS.o _) ?_);rintro e w' ⟨rfl,rfl⟩;exact⟨rfl,_,rfl⟩))
        go_wp2;go_meet
        case rel=>exact⟨by rw[<-SQ.o];rfl,_,rfl⟩
       |true=>
        exact aaD
      |false=>
       exact aaD
     case rest=>
      obtain⟨rfl,n,rfl⟩:=hcut;refine IW (λV=>N2 w V base B a {g with pv:=pv} L v4 v5 v6 v7 bo t/\base<=V.heap.size) ⟨HW.o.grown (aR (cC _ _) n),H.o⟩ ?_;clear SQ Rw Rx CS y0 t0 t1 Y t3 t4 t5 t6 HW H;rintro W ⟨hW,ak⟩;have HW:=hid hW;have H:=hid ak;clear hW ak;cases er with
      |true=>
       have aQ:=ZQ (M:=a) (q:=⟨r.1,r.2.1,r.2.2,f.ins,l.ins,v4,v5,v6,v7⟩) (al.o.2 rfl);have HS:Hid (R=(.error 33,a)):=(by show _=_;rw[C.o,aQ]);clear C;exact abU
      |false=>
      have TT:Hid (¬ (aI t.ae 16=true/\aI v7 32=false\/aW now a.aA<t.start)):=λh=>by have:=al.o.1 h;cases this
      clear al;obtain⟨t0,t1,Y,t3,t4,t5,t6⟩:=lZ HW.o.o;by_cases aK:t.fin<now
      ·have aQ:=adf (M:=a) (q:=⟨r.1,r.2.1,r.2.2,f.ins,l.ins,v4,v5,v6,v7⟩) TT.o aK;have HS:Hid (R=(.error 32,a)):=(by show _=_;rw[C.o,aQ]);clear C;exact abU
      have bn:Hid (R=(match BE.find a.aG l.ins,BE.find a.aG t.ay with
         |none,_=>.error 7
         |some _,none=>.error 6
         |some s,some x=>
         if nP s x now 2 1≠0 then .error (nP s x now 2 1)
         else if jZ v7 t.ae=false then .error 13
         else match fresh now t x s v5 v6 v7 with
         |.error c=>.error c
         |.ok Y=>.ok ⟨13,Y,s,v4,0,t.aN,5⟩,a)):=by
       show _=_
       rw[C.o,adg TT.o aK]
       rfl
      clear C TT;have C:=bn;clear bn;have CA:=hid (λW (hW:RD W base B a {g with pv:=pv})=>xm base B a {g with pv:=pv} l.ins W hW E.len);have CB:=hid (λW (hW:RD W base B a {g with pv:=pv})=>xm base B a {g with pv:=pv} t.ay W hW E.len);have aw:=ui g.es l.ins;have Ud:=ui g.es t.ay;have JD:Hid (g.es.map RE.be=a.aG):=HW.o.d.aG;rw[JD.o]at aw Ud;obtain⟨fa,Fb⟩:=aq (fZ g.es l.ins);obtain⟨fb,ck⟩:=aq (fZ g.es t.ay);dsimp only at CA CB;rw[Fb]at CA aw;rw[ck]at CB Ud;have HA:=hid aw;have ZH:=hid Ud;clear aw Ud Fb ck;go_wp2_with fail;refine(CA.o _ HW.o.d).mono ?_;rintro e W1 ⟨rfl,g1⟩;have ao:=hid (HW.o.grown g1);have bJ:Hid (base<=W1.heap.size):=cE H.o g1.size;clear HW g1 CA t0 t1 Y t3 t4 t5 t6 H;obtain⟨t0,t1,Y,t3,t4,t5,t6⟩:=lZ ao.o.o;go_wp2_with fail;refine(CB.o _ ao.o.d).mono ?_;rintro e W2 ⟨rfl,g2⟩;have HW:=hid (ao.o.grown g2);have H:Hid (base<=W2.heap.size):=cE bJ.o g2.size;clear ao g2 CB t0 t1 Y t3 t4 t5 t6 bJ;rcases HA.o with⟨hm,af⟩|⟨k,hk,b5,hs⟩
      ·have HS:Hid (R=(.error 7,a)):=(by show _=_;rw[C.o,af]);subst hm;clear C HA ZH af;exact abU
      ·rcases ZH.o with⟨hm,af⟩|⟨i,hi,dm,hx⟩
       ·have HS:Hid (R=(.error 6,a)):=(by show _=_;rw[C.o,hs,af]);have br:¬ (k:Int)<0:=agE;subst hm b5;clear C HA ZH af hs;exact abU
       ·rw[hs,hx]at C;have di:¬ (i:Int)<0:=agE;have br:¬ (k:Int)<0:=agE;have db:(0:Int)<=(i:Int):=agE;have c8:(0:Int)<=(k:Int):=agE;obtain⟨gb,cb,bX,T⟩:=uj HW.o.d (by show 0<g.es.length;omega);obtain⟨m,hm⟩:=aq g.es.length;have OD:(i:Int)<(m:Int):=agE;have mU:(k:Int)<(m:Int):=agE;have wy:Hid (∀V,W2.grownBy V none->V.cell? (B,1)=some (.slice (some (gb,0)) m cb)/\V.rangeAt gb 0 (bK g.es)):=by
         intro V hV;refine⟨?_,aB T hV⟩;have:=(HW.o.grown hV).d.bP.blk.cell 1;rw[bX,hm]at this;simpa using this
        obtain⟨x,ai⟩:=aq (g.es[i]'hi);obtain⟨s,aU⟩:=aq (g.es[k]'hk);have aX:Hid (x.be∈a.aG):=(by show _∈_;rw[<-JD.o,<-ai];exact eK (ef hi));have an:Hid (s.be∈a.aG):=(by show _∈_;rw[<-JD.o,<-aU];exact eK (ef hk));have cY:Hid (x.name=t.ay):=(by show _=_;rw[<-ai];exact lV hx);obtain⟨y1,aj⟩:=wy.o W2 (cC _ _);obtain⟨s0,s1,s2,s3,s4,s5,s6,s7,s8,s9⟩:=uP aj k hk;rw[aU]at s0 s1 s2 s3 s4 s5 s6 s7 s8 s9 C;rw[ai]at C;subst dm b5;clear hx hs T HA ZH bX aj;go_upto_region 21 with fail
        refine kE (λV=>W2.grownBy V none/\V.rangeAt W2.heap.size 0 s.cells) ⟨cx W2 _ none,vZ W2 s⟩ ?_;rintro V ⟨gV,bU⟩;clear s0 s1 s2 s3 s4 s5 s6 s7 s8 s9 y1;obtain⟨y1,aj⟩:=wy.o V gV;obtain⟨s0,s1,s2,s3,s4,s5,s6,s7,s8,s9⟩:=uP aj i hi;rw[ai]at s0 s1 s2 s3 s4 s5 s6 s7 s8 s9;have HV:=hid (HW.o.grown gV);have ba:=hid bU;have bT:Hid (base<=V.heap.size):=cE H.o gV.size;clear bU aj wy gV;obtain⟨bs,cB⟩:=aq W2.heap.size;rw[cB]at ba⊢;clear cB HW H;go_upto_region 22 with fail
        refine kE (λU=>N3 w U base B a {g with pv:=pv} L v4 v5 v6 v7 bo t x s V.heap.size bs/\base<=U.heap.size) ⟨⟨HV.o.grown (cx V _ none),vZ V x,aB ba.o (cx V _ none)⟩,cE bT.o (cx V _ none).size⟩ ?_;rintro U ⟨hU,bB⟩;have HU:=hid hU;have cl:=hid bB;clear hU bB;obtain⟨bx,cr⟩:=aq V.heap.size;rw[cr]at HU⊢;clear cr s0 s1 s2 s3 s4 s5 s6 s7 s8 s9 y1 HV ba bT di br db c8 OD mU ai aU hm;as_aux_lemma=>
         have aY:=E.ql x.be aX.o;have F:=E.ql s.be an.o;have cf:=hid (And.intro aY.2.2.1 aY.2.2.2);have bq:=hid (And.intro F.2.2.1 F.2.2.2);clear aY F;have a7:=hid (λW=>zW (.pointer (some (B,0))) s x now 2 1 W bq.o cf.o);obtain⟨ca,bF⟩:=aq (nP s.be x.be now 2 1);rw[bF]at a7 C;clear bF;obtain⟨e0,e1,e2,e3,e4,e5,e6,e7,e8,e9⟩:=eu HU.o.x;obtain⟨f0,f1,f2,f3,f4,f5,f6,f7,f8,f9⟩:=eu HU.o.s;go_wp2_with fail;refine(a7.o _).mono ?_;rintro e U1 ⟨rfl,g1⟩;have VQ:=hid (HU.o.grown g1);have bM:Hid (base<=U1.heap.size):=cE cl.o g1.size;clear HU g1 e0 e1 e2 e3 e4 e5 e6 e7 e8 e9 f0 f1 f2 f3 f4 f5 f6 f7 f8 f9 a7 cl;by_cases hz:ca=0;rotate_left
         ·have HS:Hid (R=(.error ca,a)):=(by show _=_;rw[C.o,if_pos hz]);clear C;go_wp2;go_ret2;exact⟨_,_,rfl,by rw[HS.o];exact uR hz VQ.o.n.d KE.o VQ.o.n.g⟩
         rw[if_neg (λh=>h hz)]at C;have a8:=hid (λW=>Kv v7 t.ae W);obtain⟨ob,FK⟩:=aq (jZ v7 t.ae);rw[FK]at a8 C;have cq:=hid FK;clear FK;obtain⟨t0,t1,Y,t3,t4,t5,t6⟩:=lZ VQ.o.n.o;go_wp2_with fail;refine(a8.o _).mono ?_;rintro e U2 ⟨rfl,rfl⟩;clear a8 hz t0 t1 Y t3 t4 t5 t6;cases ob with
         |false=>
          have HS:Hid (R=(.error 13,a)):=(by show _=_;rw[C.o,if_pos rfl]);clear C;go_wp2;go_ret2;exact⟨_,_,rfl,by rw[HS.o];exact uR agF VQ.o.n.d KE.o VQ.o.n.g⟩
         |true=>
         rw[if_neg agF]at C;obtain⟨bL,bV⟩:=aF x.be aX.o;obtain⟨b4,bO⟩:=aF s.be an.o;have ah:=hid (λW=>Vw (.pointer (some (B,0))) now t x s v5 v6 v7 W cf.o bq.o bV bO bL b4 dA bp.o);rw[TK.oL t]at ah;obtain⟨FR,OT⟩:=aq (fresh now t x.be s.be v5 v6 v7);rw[OT]at ah C;have SF:=hid OT;clear OT bL bV b4 bO;go_upto_region 28 with fail
         go_cut [22,16] (λp k wx=>∃bt Y c2,p=.pointer (some ⟨bt,0,none⟩)/\k = ι c2/\wx.rangeAt bt 0 Y.cells/\Cw FR Y c2/\U2.grownBy wx none)
         case first=>
          clear C SF cq;as_aux_lemma=>
           refine aD.start (S:=λV=>N3 w V base B a {g with pv:=pv} L v4 v5 v6 v7 bo t x s bx bs) 12 agP ?_;have dY:=hid (VQ.o.grown (bg (cC _ _)));refine aD.tk 0 [0] ?_;refine aD.tk 1 [1] ?_;refine aD.tk 2 [2] ?_ (hy:=by intro W hW;obtain⟨t0,t1,Y,t3,t4,t5,t6⟩:=lZ hW.n.o;exact kI);refine aD.tk 3 [3] ?_ (hy:=by intro W hW;obtain⟨e0,e1,e2,e3,e4,e5,e6,e7,e8,e9⟩:=eu hW.x;exact kI);refine aD.tk 4 [4] ?_ (hy:=by intro W hW;obtain⟨e0,e1,e2,e3,e4,e5,e6,e7,e8,e9⟩:=eu hW.s;exact kI);refine aD.tk 5 [7,6,5] ?_;refine aD.tk 6 [7,6] ?_;refine aD.tk 7 [7] ?_ (hy:=by intro W hW;have e3:=hW.n.v 1 _ rfl;exact kI);refine aD.tk 8 [10,9,8] ?_;refine aD.tk 9 [10,9] ?_;refine aD.tk 10 [10] ?_ (hy:=by intro W hW;have e3:=hW.n.v 2 _ rfl;exact kI);refine aD.tk 11 [11] ?_;refine aD.two (i:=12) (j:=16) agP rfl rfl (by rfl) (by rfl) (λK hK=>?_) (λK hK=>?_)
           ·go_simp;refine Calls.mono (ah.o _) ?_;rintro e Wr ⟨u,c2,rfl,hF,gF⟩;rw[TK.oL u];have HF:=hid (And.intro hF (aa (bg (cC U2 none)) gF));clear hF gF;go_wp2_with fail;refine hkl ?_;clear hK K;refine aD.fr 13 ?_;refine aD.fr 14 ?_;refine aD.fr 15 ?_;refine aD.on 16 ?_;intro K hK;refine hkl ?_;clear hK K;refine aD.on 17 ?_;intro K hK;refine hkl ?_;clear hK K;refine aD.fr 18 ?_;refine aD.done agP ?_;go_wp2_with fail;go_meet
            case rel=>exact⟨Wr.heap.size,u,c2,rfl,rfl,aS Wr #[ι u.ae,υ u.aN.toNat,.string u.ay,ι u.dV,ι u.start,ι u.fin,ι u.aC] _,HF.o.1,aM HF.o.2 _⟩
           ·go_simp;have kz:=cx U2.drew (.cells #[ι 0,υ 0,.string ⟨#[]⟩,ι 0,ι 0,ι 0,ι 0] 43) none;have aV:=hid (Live.new U2.drew #[ι 0,υ 0,.string ⟨#[]⟩,ι 0,ι 0,ι 0,ι 0] 43);refine hK.out _ _ (.inr (dY.o.grown kz)) ?_;have ds:=hid kz;clear hK K kz;try simp only[Act.put,List.getElem_toArray,List.getElem_cons_zero,List.getElem_cons_succ,eh,ej,eJ]
            refine aD.on 12 ?_;intro K hK;refine Calls.mono (ah.o _) ?_;rintro e Wr ⟨u,c2,rfl,hF,gF⟩;rw[TK.oL u];have Mf:Hid (Live Wr U2.heap.size 7):=aV.o.grown gF;have HF:=hid (And.intro hF (aa (aa (bg (cC U2 none)) ds.o) gF));clear hF gF;go_wp2_with fail;refine hkl ?_;clear hK K;refine aD.fr 13 ?_;refine aD.fr 14 ?_;refine aD.fr 15 ?_;obtain⟨⟨cL,df⟩,⟨cP,da⟩,⟨cH,dc⟩,⟨dq,cV⟩,⟨cD,dn⟩,⟨cG,cS⟩,⟨cZ,dr⟩,cW,dd,cJ,cQ,c9,cU,cK⟩:=pR Mf.o;refine aD.on 17 ?_;intro K hK;refine hkl ?_;clear hK K;refine aD.fr 18 ?_;refine aD.done agP ?_;go_wp2_with fail;go_meet
            case rel=>exact⟨U2.heap.size,u,c2,rfl,rfl,fe Mf.o _ _ _ _ _ _ _,HF.o.1,az (az (az (az (az (az (az HF.o.2 (cy _)) (cy _)) (cy _)) (cy _)) (cy _)) (cy _)) (cy _)⟩
         case rest=>
          obtain⟨bt,u,c2,rfl,rfl,cj,hF,gF⟩:=hcut;refine IW (λV=>(N3 w V base B a {g with pv:=pv} L v4 v5 v6 v7 bo t x s bx bs/\base<=V.heap.size)/\V.rangeAt bt 0 u.cells) ⟨⟨VQ.o.grown gF,cE bM.o gF.size⟩,cj⟩ ?_;clear cj gF ah VQ bM;rintro W3 ⟨⟨cA,b9⟩,bZ⟩;have pW:=hid cA;have dt:=hid b9;have dw:=hid bZ;clear cA b9 bZ;as_aux_lemma=>
           by_cases aZ:c2=0;rotate_left
           ·have HS:Hid (R=(.error c2,a)):=by
             show _=_;rw[C.o];cases hr:FR with
             |error c'=>rw[hF.1 c' hr]
             |ok t'=>exact absurd (hF.2 t' hr).1 aZ
            clear C;go_wp2;go_ret2;exact⟨_,_,rfl,by rw[HS.o];exact uR aZ pW.o.n.d KE.o pW.o.n.g⟩
           have cp:FR=.ok u\/∃c',FR=.error c'/\c'=0:=by
            cases hr:FR with
            |error c'=>exact .inr ⟨c',rfl,by rw[<-hF.1 c' hr];exact aZ⟩
            |ok t'=>exact .inl (by rw[(hF.2 t' hr).2])
           have bf:FR=.ok u:=by
            rcases cp with h|⟨c',h,h0⟩
            ·exact h
            ·exact absurd (SF.o.trans h) (N9 h0)
           have aH:=hid (ZR bp.o dA HI.o.2.1 HI.o.2.2.1 (SF.o.trans bf));have HS:Hid (R=(.ok ⟨13,u,s.be,v4,0,t.aN,5⟩,a)):=by
            show _=_;rw[C.o,bf]
           clear C SF hF cp bf cq;obtain⟨ad,cd,b1⟩:=bA pW.o.n.d.bP.aL;obtain⟨nd,a1⟩:=aq a.aL.length;have y3:W3.cell? (B,3)=some (.slice ad nd cd):=by
            have:=pW.o.n.d.bP.blk.cell 3;rw[b1,a1]at this;simpa using this
           have bb:=hid a1;clear b1 a1;by_cases hd:(nd:Int)<24
           ·go_wp2;go_ret2;exact⟨_,_,rfl,by rw[HS.o];exact ade (by rw[bb.o];omega) pW.o.n.d KE.o pW.o.n.g⟩
           have Oj:=E.num s.be an.o;have Ol:=E.name x.be aX.o;have Om:=E.name s.be an.o;have Gi:Hid (u.ay.length<=90):=by
            show _<=_;rw[aH.o.2,<-cY.o];exact xq Ol
           have bC:Hid (s.name.length<=90):=xq Om;have CG:Hid (∀W,RD W base B a {g with pv:=pv}->base<=W.heap.size->Calls prog 107 #[(B,0),ι 13,.agg #[ι u.ae,υ u.aN.toNat,.string u.ay,ι u.dV,ι u.start,ι u.fin,ι u.aC],.agg s.arr,ι v4,ι 0,υ t.aN.toNat,ι 5] W λe w'=>∃o,e=.returned o/\Made W.heap.size w' o (lU 13 {u with aN:=eB a.aL 0} s.be v4 0 t.aN 5 (eB a.aL 1) (eB a.aL 2))/\(∃v,RD w' base B {a with aL:=a.aL.drop 24} {g with pv:=pv,dv:=v}/\NewAt W.heap.size v)/\W.grownBy w' (some B)):=by
            intro W hW hb;exact NG base B a {g with pv:=pv} 13 v4 0 u s t.aN 5 5 W hW (by rw[bb.o];omega) cT hb agF agF rfl ⟨by decide,by decide⟩ HI.o.1 gL (EY Oj) aH.o.1 Gi.o bC.o
           clear Oj Ol Om Gi bC;go_wp2_with fail;refine aD.start (S:=λV=>N3 w V base B a {g with pv:=pv} L v4 v5 v6 v7 bo t x s bx bs/\V.rangeAt bt 0 u.cells) 8 agP ?_;have dY:Hid (N3 w W3.drew base B a {g with pv:=pv} L v4 v5 v6 v7 bo t x s bx bs/\W3.drew.rangeAt bt 0 u.cells):=⟨pW.o.grown (bg (cC _ _)),aB dw.o (bg (cC _ _))⟩
           clear y3;refine aD.tk 0 [0] ?_;refine aD.tk 1 [1] ?_ (hy:=by intro W hW;obtain⟨t0,t1,Y,t3,t4,t5,t6⟩:=lZ hW.2;exact kI);refine aD.tk 2 [2] ?_ (hy:=by intro W hW;obtain⟨e0,e1,e2,e3,e4,e5,e6,e7,e8,e9⟩:=eu hW.1.s;exact kI);refine aD.tk 3 [5,4,3] ?_;refine aD.tk 4 [5,4] ?_;refine aD.tk 5 [5] ?_ (hy:=by intro W hW;have e3:=hW.1.n.v 0 _ rfl;exact kI);refine aD.tk 6 [7,6] ?_;refine aD.tk 7 [7] ?_ (hy:=by intro W hW;obtain⟨t0,t1,Y,t3,t4,t5,t6⟩:=lZ hW.1.n.o;exact kI);refine aD.on 8 ?_;intro K hK;refine Calls.mono (CG.o _ dY.o.1.n.d dt.o) ?_;rintro e w5 ⟨o,rfl,tq,⟨v,Z,NY⟩,g5⟩;have HH:=hid (And.intro tq (And.intro Z (And.intro g5 NY)));clear tq Z g5 NY;go_wp2_with fail;refine hkl ?_;clear hK K CG;refine aD.fr 9 ?_;refine aD.fr 10 ?_;refine aD.done agP ?_;go_wp2;go_ret2;refine⟨_,_,rfl,?_⟩;rw[HS.o];obtain⟨h1,h2,h3,h4⟩:=HH.o;refine⟨?_,⟨pv,KE.o,λh=>absurd rfl h,λ_=>⟨_,v,rfl,h1.base dY.o.1.n.g.size,h2,λb hb=>cE dY.o.1.n.g.size (h4 b hb)⟩⟩,iC dY.o.1.n.g h3⟩;show _=if a.aL.length<24 then 60 else 0;rw[if_neg (by rw[bb.o];omega)]
end Go.Proofs.YtlfifnpjeangmaaGreatDoor
