import Derived.Test.YtlfifnpjeangmaaGreatDoorGERFstC
namespace Go.Proofs.YtlfifnpjeangmaaGreatDoor
set_option maxHeartbeats 8000000
open Proofs.Tryz Go.RowKit
set_option maxRecDepth 100000
set_option linter.unusedSimpArgs false
variable {p:Prop}
theorem ahX(h:p:=by show _=_;rw[wF.o,if_pos (by rw[hfc];decide),hfc]):p:=h
theorem aaZ(h:p:=by
 have HS:Hid (R=.error 10):=ahX
 clear wF
 go_wp2
 go_ret2
 exact⟨_,_,rfl,by rw[HS.o];exact iF agF HD.o (aa pW.o.f.g HT.o.g)⟩):p:=h
theorem adV(h:p:=by
 have HS:Hid (R=.error 13):=ahX
 clear wF
 go_wp2
 go_ret2
 exact⟨_,_,rfl,by rw[HS.o];exact iF agF HD.o pW.o.f.g⟩):p:=h
theorem agm(h:p:=by
 go_wp2
 go_ret2
 exact⟨_,_,rfl,by rw[HS.o];exact iF agF HD.o HF.o.g⟩):p:=h
theorem KF(base E:Nat)(M)(g)(now)(gl c:Nat)(p0 j r p3 p4 p5 p6 p7 C)(w)(hD:RD w base E M g)(J:fU 4611686018427387904 M.aG)(aS:base<=w.heap.size)(hP:jJ w gl [p0,j,r,p3,p4,p5,p6,p7,C])(hl:∀q∈[p0,j,r,p3,p4,p5,p6,p7,C],q.ins.length<=900)(b5:bG p0.pair=some 10)(dA:In64 now)(cK:In64 M.aA)(bC:∀e∈M.aG,In64 e.bI/\In64 e.aC)(cJ:M.aL.length<=140737488355328):
  Calls prog 69 #[(E,0),ι now,.slice (some (gl,0)) 9 c] w λe w'=>∃o k,e=.returned (.tuple #[o,ι k])/\Cs base E M g (nQ M now ([p0,j,r,p3,p4,p5,p6,p7,C].map Pc.pair)) w w' o k:=by
 have c2:w.cell? (gl,2)=some (.int .u8 j.tag.toNat):=hP.tag 1 agI
 have c3:w.cell? (gl,3)=some (.slice j.ad j.ins.length j.cap):=hP.ins 1 agI
 have BZ:=hid hP
 have TR:=hid hl
 have Z:=hid (qQ j w (hP.2 j agI).1 (cE (hl j agI) agF))
 have C2:Hid (∀W,jJ W gl [p0,j,r,p3,p4,p5,p6,p7,C]->Calls prog 96 #[.agg #[.int .u8 r.tag.toNat,.slice r.ad r.ins.length r.cap]] W λe w'=>e=.returned (.tuple #[.string r.ins,.bool (dh r.pair).isSome])/\W.grownBy w' none):=λW hW=>qQ r W (hW.2 r agI).1 (cE (hl r agI) agF)
 have C3:Hid (∀W,jJ W gl [p0,j,r,p3,p4,p5,p6,p7,C]->Calls prog 97 #[.slice (some (gl,0)) 9 c,ι 3,ι 8] W λe w'=>∃o vs,e=.returned (.tuple #[o,.bool (jS [p3,p4,p5,p6,p7])])/\rG [p3,p4,p5,p6,p7] vs/\w'.ownsRow W.heap.size 2 1 o vs.length (vs.map I64)/\W.grownBy w' none):=λW hW=>uM 3 8 9 gl c [p0,j,r,p3,p4,p5,p6,p7,C] W (hid rfl) agF agF agF hW
 have C4:Hid (∀W,jJ W gl [p0,j,r,p3,p4,p5,p6,p7,C]->Calls prog 98 #[.agg #[.int .u8 C.tag.toNat,.slice C.ad C.ins.length C.cap]] W λe w'=>∃n z t,e=.returned (.tuple #[ι n,z,.bool t,.bool (mi C.pair).isSome])/\In64 n/\Ke w' (mi C.pair) n z t/\W.grownBy w' none):=λW hW=>acU C W (hW.2 C agI).1 (hW.2 C agI).2.1 (hW.2 C agI).2.2 (cE (hl C agI) agF)
 obtain⟨b1,h1⟩:=aq ((dh j.pair).isSome)
 obtain⟨b2,h2⟩:=aq ((dh r.pair).isSome)
 obtain⟨b3,h3⟩:=aq (jS [p3,p4,p5,p6,p7])
 obtain⟨o8,h8⟩:=aq (mi C.pair)
 rw[h1]at Z
 rw[h2]at C2
 rw[h3]at C3
 rw[h8]at C4
 have HB:=hid (And.intro h1 (And.intro h2 (And.intro h3 h8)))
 have cy:Hid (∀x,o8=some (some x)->x.2.length<=900):=λx hx=>cE (Vn (p:=C.pair) (by rw[h8];exact hx)) (hl C agI)
 clear h1 h2 h3 h8 hP hl
 have HD:=hid hD
 obtain⟨R,hR⟩:=aq (nQ M now ([p0,j,r,p3,p4,p5,p6,p7,C].map Pc.pair))
 rw[hR]
 have HR:=hid hR
 clear hR hD
 go_enter func69,ntmps69
 go_wp2_with (first|(go_at_call 96;(first|refine Z.o.mono ?_;clear Z;rintro e w1 ⟨rfl,g1⟩;have Oi:=hid (BZ.o.grown g1);have kF:=hid g1;have c4:w1.cell? (gl,4)=some (.int .u8 r.tag.toNat):=Oi.o.tag 2 agI;have c5:w1.cell? (gl,5)=some (.slice r.ad r.ins.length r.cap):=Oi.o.ins 2 agI;clear BZ g1 c2 c3|(refine(C2.o _ Oi.o).mono ?_;clear C2;rintro e w2 ⟨rfl,g2⟩;have Ve:=hid (Oi.o.grown g2);have bn:=hid (aa kF.o g2);clear Oi kF g2 c4 c5))))
 refine(C3.o _ Ve.o).mono ?_
 rintro e w3 ⟨o,vs,rfl,Zi,az,g3⟩
 obtain⟨v3,v4,v5,v6,v7,rfl,q3,q4,q5,q6,q7⟩:=Zi.five
 obtain⟨gv,cv,rfl,F,_⟩:=jI az agI
 have vg:=hid (Ve.o.grown g3)
 have kR:=hid (aa bn.o g3)
 have GN:=hid F
 have Rv:=hid (Vm p0 j r p3 p4 p5 p6 p7 C v3 v4 v5 v6 v7 b5 q3 q4 q5 q6 q7)
 have HI:=hid (And.intro q3.1 (And.intro q4.1 (And.intro q5.1 (And.intro q6.1 q7.1))))
 rw[HB.o.1,HB.o.2.1,HB.o.2.2.1,HB.o.2.2.2]at Rv
 have cH:w3.cell? (gl,16)=some (.int .u8 C.tag.toNat):=vg.o.tag 8 agI
 have cq:w3.cell? (gl,17)=some (.slice C.ad C.ins.length C.cap):=vg.o.ins 8 agI
 simp only[de,List.length_nil]
 clear C3 Ve bn g3 Zi az F q3 q4 q5 q6 q7 b5 HB
 go_wp2_with fail
 refine(C4.o _ vg.o).mono ?_
 rintro e w4 ⟨pn,pz,pt,rfl,bQ,ah,g4⟩
 have au:Hid (∀u,o8=some u->FS w w4 base E M g gv v3 v4 v5 v6 v7 pz u/\pt=u.isSome/\∀x,u=some x->pn=x.1):=by
  intro u ho;obtain⟨r1,r2⟩:=ah u ho;have hg:=aa kR.o g4;exact⟨⟨HD.o.keep (λb hb=>hg.block b (HD.o.lt b hb).2 agI),aB GN.o g4,λx hx=>⟨(r2 x hx).2.1,cy.o x (by rw[ho,hx])⟩,hg⟩,r1,λx hx=>(r2 x hx).1⟩
 have FH:=hid (aa kR.o g4)
 have cM:=hid bQ
 obtain⟨P,hP⟩:=aq (lq ([p0,j,r,p3,p4,p5,p6,p7,C].map Pc.pair))
 unfold nQ at HR
 rw[hP]at Rv HR
 clear hP C4 vg kR GN cH cq g4 ah bQ
 go_upto_region 5 with fail
 go_cut [70] (λz wx=>z=.bool (!P.isSome)/\wx=w4)
 case first=>
  have Y:Hid (P.isSome=(b1&&(b2&&(b3&&o8.isSome)))):=Rv.o.1;clear Rv HR au;cases b1 with
  |false=>
   have HS:Hid (P.isSome=false):=Y.o;clear Y;exact aaM
  |true=>
   cases b2 with
   |false=>
    have HS:Hid (P.isSome=false):=Y.o;clear Y;exact aaM
   |true=>
    cases b3 with
    |false=>
     have HS:Hid (P.isSome=false):=Y.o;clear Y;exact aaM
    |true=>
     have HS:Hid (P.isSome=o8.isSome):=Y.o;clear Y;go_wp2;go_meet
     case rel=>exact⟨by rw[HS.o];cases o8<;>rfl,rfl⟩
 case rest=>
  obtain⟨rfl,rfl⟩:=hcut;cases P with
  |none=>
   have HS:Hid (R=.error 60):=HR.o.symm;clear HR Rv au;simp only[Option.isSome_none,eM];go_wp2;go_ret2;exact⟨_,_,rfl,by rw[HS.o];exact iF agF HD.o FH.o⟩
  |some q=>
   obtain⟨u,ho,hq⟩:=Rv.o.2 q rfl;obtain⟨bL,cu,b6⟩:=au.o u ho;have HS:Hid (R=firstM M now q):=HR.o.symm;subst hq cu;have HF:=hid bL;have aK:=hid b6;clear HR Rv au bL b6 ho FH;simp only[dj,eV];have CA:=hid (λW (hW:RD W base E M g)=>xm base E M g j.ins W hW J.len);have CB:=hid (λW (hW:RD W base E M g)=>xm base E M g r.ins W hW J.len);have ax:=ui g.es j.ins;have Ud:=ui g.es r.ins;rw[HD.o.aG]at ax Ud;have wF:Hid (R=match BE.find M.aG j.ins,BE.find M.aG r.ins with|none,_=>.error 6|some _,none=>.error 7|some x,some s=>if nP x s now 1 2≠0 then .error (nP x s now 1 2) else if cB M.aA now ⟨j.ins,r.ins,v3,v4,v5,v6,v7,u⟩ x s≠0 then .error (cB M.aA now ⟨j.ins,r.ins,v3,v4,v5,v6,v7,u⟩ x s) else .ok ⟨11,mH now ⟨j.ins,r.ins,v3,v4,v5,v6,v7,u⟩ x s,s,v3,x.aH,x.key,3⟩):=HS.o;obtain⟨fa,Fb⟩:=aq (fZ g.es j.ins);obtain⟨fb,b7⟩:=aq (fZ g.es r.ins);rw[Fb]at CA ax;rw[b7]at CB Ud;have HA:=hid ax;have ZH:=hid Ud;clear ax Ud Fb b7 HS;go_wp2_with fail;refine(CA.o _ HF.o.d).mono ?_;rintro e w5 ⟨rfl,g5⟩;have aU:=hid (HF.o.grown g5);clear HF g5 CA;go_wp2_with fail;refine(CB.o _ aU.o.d).mono ?_;rintro e w6 ⟨rfl,g6⟩;have HF:=hid (aU.o.grown g6);clear aU g6 CB;rcases HA.o with⟨hm,aj⟩|⟨i,hi,bZ,hx⟩
   ·have HS:Hid (R=.error 6):=(by show _=_;rw[wF.o,aj]);subst hm;clear wF HA ZH aj;exact agm
   ·rcases ZH.o with⟨hm,aj⟩|⟨k,hk,cG,hs⟩
    ·have HS:Hid (R=.error 7):=(by show _=_;rw[wF.o,hx,aj]);have bV:¬ (i:Int)<0:=agE;subst hm bZ;clear wF HA ZH aj hx;exact agm
    ·rw[hx,hs]at wF;have bV:¬ (i:Int)<0:=agE;have ct:¬ (k:Int)<0:=agE;have cF:(0:Int)<=(i:Int):=agE;have cC:(0:Int)<=(k:Int):=agE;obtain⟨gb,cb,aX,F⟩:=uj HF.o.d agE;obtain⟨m,hm⟩:=aq g.es.length;have OD:(i:Int)<(m:Int):=agE;have mU:(k:Int)<(m:Int):=agE;have y1:w6.cell? (E,1)=some (.slice (some (gb,0)) m cb):=by
      have:=HF.o.d.bP.blk.cell 1;rw[aX,hm]at this;simpa using this
     have GN:=hid F;obtain⟨x,a8⟩:=aq (g.es[i]);obtain⟨s,aO⟩:=aq (g.es[k]);have bY:x.be∈M.aG:=(by rw[<-HD.o.aG,<-a8];exact eK (ef hi));have bT:s.be∈M.aG:=(by rw[<-HD.o.aG,<-aO];exact eK (ef hk));obtain⟨x0,x1,x2,x3,x4,x5,x6,x7,x8,x9⟩:=uP F i hi;rw[a8]at x0 x1 x2 x3 x4 x5 x6 x7 x8 x9 wF;rw[aO]at wF;subst bZ cG;have bR:=hid aX;have cA:Hid (x.name=j.ins):=by
      show _=_;rw[<-a8];exact lV hx
     have aw:=hid bY;have ar:=hid bT;clear hx hs F HA ZH aX bY bT;go_upto_region 14 with fail
     refine Ct (λV=>FS w V base E M g gv v3 v4 v5 v6 v7 pz u/\V.rangeAt w6.heap.size 0 x.cells/\V.rangeAt gb 0 (bK g.es)) ⟨HF.o.grown (cx w6 _ none),vZ w6 x,aB GN.o (cx w6 _ none)⟩ ?_;rintro V ⟨hV,b9,bm⟩;clear x0 x1 x2 x3 x4 x5 x6 x7 x8 x9 y1 HF GN;have y1:V.cell? (E,1)=some (.slice (some (gb,0)) m cb):=by
      have:=hV.d.bP.blk.cell 1;rw[bR.o,hm]at this;simpa using this
     obtain⟨s0,s1,s2,s3,s4,s5,s6,s7,s8,s9⟩:=uP bm k hk;rw[aO]at s0 s1 s2 s3 s4 s5 s6 s7 s8 s9;have HV:=hid hV;have aJ:=hid b9;clear hV b9 bm bR;obtain⟨bx,cf⟩:=aq w6.heap.size;rw[cf]at aJ⊢;clear cf;go_upto_region 15 with fail
     refine Ct (λU=>F2 w U base E M g gv v3 v4 v5 v6 v7 pz u x s bx V.heap.size) ⟨HV.o.grown (cx V _ none),aB aJ.o (cx V _ none),vZ V s⟩ ?_;intro U hU;have HU:=hid hU;clear hU;obtain⟨bs,cl⟩:=aq V.heap.size;rw[cl]at HU⊢;clear cl s0 s1 s2 s3 s4 s5 s6 s7 s8 s9 y1 HV aJ bV ct cF cC OD mU;as_aux_lemma=>
      have aR:=J.ql x.be aw.o;have ah:=J.ql s.be ar.o;have ag:=hid (And.intro aR.2.2.1 aR.2.2.2);have ao:=hid (And.intro ah.2.2.1 ah.2.2.2);clear aR ah;have a1:=hid (λW=>zW (.pointer (some (E,0))) x s now 1 2 W ag.o ao.o);obtain⟨ca,bD⟩:=aq (nP x.be s.be now 1 2);rw[bD]at a1 wF;clear bD;obtain⟨Q,N,X,H,L,O,T,e7,e8,e9⟩:=eu HU.o.x;obtain⟨f0,f1,f2,f3,f4,f5,f6,f7,f8,f9⟩:=eu HU.o.s;go_wp2_with fail;refine(a1.o _).mono ?_;rintro e U1 ⟨rfl,g1⟩;have VQ:=hid (HU.o.grown g1);clear HU g1 Q N X H L O T e7 e8 e9 f0 f1 f2 f3 f4 f5 f6 f7 f8 f9 a1;by_cases hz:ca=0;rotate_left
      ·have HS:Hid (R=.error ca):=(by show _=_;rw[wF.o,if_pos hz]);clear wF;go_wp2;go_ret2;exact⟨_,_,rfl,by rw[HS.o];exact iF hz HD.o VQ.o.f.g⟩
      subst hz;rw[if_neg (λh=>h rfl)]at wF;have CH:=hid (λW=>lI x 1 W agF ag.o.1 ag.o.2);obtain⟨mb,aT⟩:=aq (x.be.has 1);rw[aT]at CH;have bf:=hid aT;clear aT;obtain⟨Q,N,X,H,L,O,T,e7,e8,e9⟩:=eu VQ.o.x;go_wp2_with fail;refine(CH.o _).mono ?_;rintro e U2 ⟨rfl,g2⟩;have I:=hid (VQ.o.grown g2);clear VQ g2 Q N X H L O T e7 e8 e9 CH;obtain⟨B,hB⟩:=aq ((mb&&!u.isSome));have a7:=hid hB;go_upto_region 19 with fail
      go_cut [111] (λz wx=>z=.bool B/\U2=wx)
      case first=>
       have Y:=hid hB;clear hB wF aK;cases mb with
       |true=>
        go_wp2;go_meet
        case rel=>exact⟨by rw[<-Y.o];cases u<;>rfl,rfl⟩
       |false=>
        go_wp2;go_meet
        case rel=>exact⟨by rw[<-Y.o];rfl,rfl⟩
      case rest=>
       obtain⟨rfl,rfl⟩:=hcut;clear hB;cases B with
       |true=>
        have hfc:cB M.aA now ⟨j.ins,r.ins,v3,v4,v5,v6,v7,u⟩ x.be s.be=25:=by
         have hb:=a7.o;have hm:=bf.o;cases u with
         |some y=>simp at hb
         |none=>
          have:eT M.aA now x.be none=25:=by
           show(if x.be.has 1=true then(25:Int) else 0)=25;rw[hm];simp at hb;rw[hb];rfl
          rw[Zv (by show eT M.aA now x.be none≠0;rw[this];decide)];exact this
        have HS:Hid (R=.error 25):=ahX;clear wF;go_wp2;go_ret2;exact⟨_,_,rfl,by rw[HS.o];exact iF agF HD.o I.o.f.g⟩
       |false=>
        obtain⟨pc,bE⟩:=aq (eT M.aA now x.be u);have yM:=hid bE;clear bE;go_upto_if 112 with fail
        go_cut [] (λwx=>F2 w wx base E M g gv v3 v4 v5 v6 v7 pz u x s bx bs/\pc=0)
        case first=>
         cases u with
         |none=>
          have h0:pc=0:=by
           have hb:=a7.o;have hm:=bf.o;simp at hb;rw[hb]at hm;rw[<-yM.o];show(if x.be.has 1=true then(25:Int) else 0)=0;rw[hm];rfl
          have HH:=hid h0;clear h0 wF yM;simp only[Option.isSome_none];go_wp2;go_meet
          case rel=>exact⟨I.o,HH.o⟩
         |some nz=>
          obtain⟨cI,z'⟩:=nz;have ch:=aK.o (cI,z') rfl;simp only at ch;subst ch;obtain⟨bt,bJ⟩:=I.o.f.z _ rfl;have CP:=hid (λW (hW:RD W base E M g) (cn:vX W pz z')=>NK base E M g x now pn z' pz W hW cn bJ dA);have cg:Hid (wh M.aA now x.be pn z'=pc):=yM.o;rw[cg.o]at CP;have cj:=hid bt;clear cg bt bJ;obtain⟨Q,N,X,H,L,O,T,e7,e8,e9⟩:=eu I.o.x;simp only[dj];go_wp2_with fail;refine(CP.o _ I.o.f.d cj.o).mono ?_;rintro e U3 ⟨rfl,g3⟩;have pW:=hid (I.o.grown g3);clear I g3 Q N X H L O T e7 e8 e9 CP cj;by_cases hz:pc=0
          ·clear wF;go_wp2;go_meet
           case rel=>exact⟨pW.o,hz⟩
          ·have hfc:cB M.aA now ⟨j.ins,r.ins,v3,v4,v5,v6,v7,some (pn,z')⟩ x.be s.be=pc:=by
            rw[Zv (by show eT M.aA now x.be (some (pn,z'))≠0;rw[yM.o];exact hz)];exact yM.o
           have HS:Hid (R=.error pc):=(by show _=_;rw[wF.o,if_pos (by rw[hfc];exact hz),hfc]);clear wF hfc;go_wp2;go_ret2;exact⟨_,_,rfl,by rw[HS.o];exact iF hz HD.o pW.o.f.g⟩
        case rest=>
         obtain⟨af,bo⟩:=hcut;rw[bo]at yM;refine IW (λV=>F2 w V base E M g gv v3 v4 v5 v6 v7 pz u x s bx bs) af ?_;clear bo af I a7 bf pc;intro U3 af;have pW:=hid af;have cr:U3.cell? (gv,1)=some (ι v4):=af.f.v 1 _ rfl;have cw:U3.cell? (gv,4)=some (ι v7):=af.f.v 4 _ rfl;clear af;as_aux_lemma=>
          by_cases aZ:v7<0
          ·have hfc:cB M.aA now ⟨j.ins,r.ins,v3,v4,v5,v6,v7,u⟩ x.be s.be=13:=Zw yM.o (.inl aZ);exact adV
          by_cases aQ:15<v7
          ·have hfc:cB M.aA now ⟨j.ins,r.ins,v3,v4,v5,v6,v7,u⟩ x.be s.be=13:=Zw yM.o (.inr aQ);exact adV
          have an:Hid (¬ (v7<0\/15<v7)):=λh=>h.elim aZ aQ;go_upto_if 138 with fail
          refine Ct (λW=>FT U3 W 32 0 j.ins now now 0 0) (FT.new U3 _ _ _ _ _ _ _) ?_;intro W hT;have HT:=hid hT;clear hT cr cw aZ aQ;obtain⟨fl,bg⟩:∃a:Int,32+(if u.isSome=true then 64 else 0)=a:=⟨_,rfl⟩
          have al:=hid bg;have cc:0<=fl/\fl<=96:=(by rw[<-bg];split<;>omega);clear bg;go_cut [] (λwx=>FT U3 wx fl 0 j.ins now now 0 0)
          case first=>
           clear wF aK yM cc;cases u with
           |none=>
            have Y:Hid (fl=32):=al.o.symm;clear al;simp only[Option.isSome_none];go_wp2;go_meet
            case rel=>rw[Y.o];exact HT.o
           |some y=>
            have Y:Hid (fl=96):=al.o.symm;clear al;obtain⟨t0,t1,t2,t3,t4,t5,t6⟩:=HT.o.tc;have Wp:=HT.o.l.frozen 0;simp only[dj];go_wp2;go_meet
            case rel=>rw[Y.o];exact HT.o.Bz 96
          case rest=>
           refine IW (λV=>FT U3 V fl 0 j.ins now now 0 0) hcut ?_;clear hcut HT W;intro W hT;have HT:=hid hT;have ZA:W.cell? (E,0)=some (ι M.aA):=by
            have:=(pW.o.f.grown hT.g).d.bP.blk.cell 0;simpa using this
           clear hT;have CB:=hid (λW=>eO v7 8 3 W agF agF);have CS:=hid (λW=>mr now M.aA W dA cK);obtain⟨b8,h8⟩:=aq (aI v7 8);obtain⟨A1,aE⟩:=aq (aW now M.aA);obtain⟨ST,aF⟩:=aq (bH now ⟨j.ins,r.ins,v3,v4,v5,v6,v7,u⟩);obtain⟨G,a6⟩:=aq (fl+(if b8=true then 24 else 0));rw[h8]at CB;rw[aE]at CS;have H8:=hid h8;have av:=hid aE;have ae:=hid aF;have ai:=hid a6;have ak:In64 ST:=by
            rw[<-aF];unfold bH;split
            ·exact HI.o.2.1
            ·exact dA
           have ay:0<=G/\G<=200:=(by rw[<-a6];split<;>omega);clear h8 aE aF a6;go_upto_if 144 with(go_at_call 102;refine(CB.o _).mono ?_;rintro e w' ⟨rfl,rfl⟩)
           go_cut [] (λwx=>FT U3 wx G 0 j.ins now ST 0 0/\Ta M.aA now ⟨j.ins,r.ins,v3,v4,v5,v6,v7,u⟩ x.be s.be)
           case first=>
            cases b8 with
            |true=>
             have tC:Hid (ST=v4):=(by show _=_;rw[<-ae.o];show(if aI v7 8=true then v4 else now)=v4;rw[H8.o];rfl);have vE:Hid (G=fl+8+16):=(by show _=_;rw[<-ai.o,if_pos rfl];omega);have Z:=hid (λW=>lI x 16 W agF ag.o.1 ag.o.2);have C2:=hid (λW=>lI s 16 W agF ao.o.1 ao.o.2);obtain⟨bp,bb⟩:=aq (x.be.has 16);obtain⟨bq,aP⟩:=aq (s.be.has 16);rw[bb]at Z;rw[aP]at C2;have b0:=hid bb;have bU:=hid aP;clear bb aP ae ai ak ay CS av;obtain⟨Q,N,X,H,L,O,T,e7,e8,e9⟩:=eu (aB pW.o.x HT.o.g);go_wp2_with fail;refine(Z.o _).mono ?_;rintro e w1 ⟨rfl,g1⟩;have ba:=hid (HT.o.grown g1);clear HT g1 Q N X H L O T e7 e8 e9 Z ZA;obtain⟨Q,N,X,H,L,O,T,e7,e8,e9⟩:=eu (aB pW.o.s ba.o.g);go_wp2_with fail;refine(C2.o _).mono ?_;rintro e w2 ⟨rfl,g2⟩;have HT:=hid (ba.o.grown g2);clear ba g2 Q N X H L O T e7 e8 e9 C2;cases bp with
             |false=>
              have hfc:cB M.aA now ⟨j.ins,r.ins,v3,v4,v5,v6,v7,u⟩ x.be s.be=10:=SY yM.o an.o H8.o (λh=>by have:=h.1;rw[b0.o]at this;cases this);exact aaZ
             |true=>
              cases bq with
              |false=>
               have hfc:cB M.aA now ⟨j.ins,r.ins,v3,v4,v5,v6,v7,u⟩ x.be s.be=10:=SY yM.o an.o H8.o (λh=>by have:=h.2;rw[bU.o]at this;cases this);exact aaZ
              |true=>
               obtain⟨t0,t1,t2,t3,t4,t5,t6⟩:=HT.o.tc;have Wp:=HT.o.l.frozen 0;have cN:=HT.o.l.frozen 4;clear wF;go_wp2;go_meet
               case rel=>
                rw[tC.o,vE.o];exact⟨(HT.o.setSt v4).Bz _,λ_=>⟨b0.o,bU.o⟩,λh=>by have:=H8.o.symm.trans h;cases this⟩
            |false=>
             have tC:Hid (ST=now):=(by show _=_;rw[<-ae.o];show(if aI v7 8=true then v4 else now)=now;rw[H8.o];rfl);have vE:Hid (G=fl):=(by show _=_;rw[<-ai.o];simp);clear ae ai ak ay;go_wp2_with fail;refine(CS.o _).mono ?_;rintro e w1 ⟨rfl,rfl⟩;by_cases b4:A1<v4
             ·have hfc:cB M.aA now ⟨j.ins,r.ins,v3,v4,v5,v6,v7,u⟩ x.be s.be=10:=acY yM.o an.o H8.o (by rw[av.o];exact b4);exact aaZ
             ·have cL:=hid (eS.1 b4);clear wF;go_wp2;go_meet
              case rel=>
               rw[tC.o,vE.o];exact⟨HT.o,λh=>(by have:=H8.o.symm.trans h;cases this),λ_=>(by rw[av.o];exact eS.2 cL.o)⟩
           case rest=>
            obtain⟨bk,bF⟩:=hcut;refine IW (λV=>FT U3 V G 0 j.ins now ST 0 0) bk ?_;have bl:=hid bF;clear bk bF HT w' ZA CS av cc;intro W hT;have HT:=hid hT;clear hT;as_aux_lemma=>
             have hfc:cB M.aA now ⟨j.ins,r.ins,v3,v4,v5,v6,v7,u⟩ x.be s.be=if fK now ⟨j.ins,r.ins,v3,v4,v5,v6,v7,u⟩ x.be s.be<=ST then 11 else 0:=(by rw[<-ae.o];exact agh yM.o an.o bl.o);have ab:=hid hfc;clear hfc yM an bl;obtain⟨bM,bS⟩:=bC x.be aw.o;obtain⟨bX,bO⟩:=bC s.be ar.o;have ck:=hid (And.intro bS bO);have Z:=hid (λW=>uN v5 W);obtain⟨A,hA⟩:=aq (asked v5);rw[hA]at Z;have C2:=hid (λW=>mr ST x.bI W ak bM);obtain⟨X1,hX⟩:=aq (aW ST x.bI);rw[hX]at C2;have C3:=hid (λW=>mr ST s.bI W ak bX);obtain⟨S1,hS⟩:=aq (aW ST s.bI);rw[hS]at C3;have C4:=hid (λW=>ky X1 S1 W);obtain⟨E1,hE⟩:=aq (lesser X1 S1);rw[hE]at C4;have C5:=hid (λW=>ky A E1 W);obtain⟨D,hD⟩:=aq (lesser A E1);rw[hD]at C5;have aM:fK now ⟨j.ins,r.ins,v3,v4,v5,v6,v7,u⟩ x.be s.be=D:=by
              rw[<-hD,<-hE,<-hA,<-hX,<-hS,<-ae.o];rfl
             rw[aM]at ab;have cz:=hid aM;clear hA hX hS hE hD aM bM bS bX bO;have z5:=HT.o.tc.2.2.2.2.2.1;have cD:=HT.o.l.frozen 5;obtain⟨y0,y1,y2,y3⟩:=FT.c41 pW.o HT.o;go_wp2_with fail;go_region_held3 (λW'=>W'.cell? ⟨gv,2,none⟩=some (ι v5)/\W'.cell? ⟨U3.heap.size,4,none⟩=some (ι ST)/\W'.cell? ⟨bx,3,none⟩=some (ι x.bI)/\W'.cell? ⟨bs,3,none⟩=some (ι s.bI)) (first|(with_reducible exact FT.c41 pW.o HT.o)|(with_reducible exact FT.c41 pW.o HT.o.drew)|(with_reducible exact FT.c41 pW.o (HT.o.xS _))|(with_reducible exact FT.c41 pW.o (HT.o.xS _).drew)|go_keep) (first|(go_at_call 105;(with_reducible refine Calls.mono (Z.o _) ?_);rintro e w' ⟨rfl,rfl⟩)|(go_at_call 103;(first|(with_reducible refine Calls.mono (C2.o _) ?_)|(with_reducible refine Calls.mono (C3.o _) ?_));rintro e w' ⟨rfl,rfl⟩)|(go_at_call 104;(first|(with_reducible refine Calls.mono (C4.o _) ?_)|(with_reducible refine Calls.mono (C5.o _) ?_));rintro e w' ⟨rfl,rfl⟩));have bh:=hid (HT.o.xS D).drew;obtain⟨W3,br⟩:∃W',(W.setCell ⟨U3.heap.size,5,none⟩ (ι D)).drew=W':=⟨_,rfl⟩
             rw[br]at bh⊢;clear br HT z5 cD y0 y1 y2 y3 Z C2 C3 C4 C5;have HT:=bh;clear bh;obtain⟨t0,t1,t2,t3,t4,t5,t6⟩:=HT.o.tc;by_cases bz:D<=ST
             ·rw[if_pos bz]at ab;have HS:Hid (R=.error 11):=(by show _=_;rw[wF.o,if_pos (by rw[ab.o];decide),ab.o]);clear wF;go_wp2;go_ret2;exact⟨_,_,rfl,by rw[HS.o];exact iF agF HD.o (aa pW.o.f.g HT.o.g)⟩
             rw[if_neg bz]at ab;have HS:Hid (R=.ok ⟨11,mH now ⟨j.ins,r.ins,v3,v4,v5,v6,v7,u⟩ x.be s.be,s.be,v3,x.aH,x.key,3⟩):=by
              show _=_;rw[wF.o,if_neg (λh=>h ab.o)];rfl
             clear wF ab;have Z:=hid (λW=>uN v6 W);obtain⟨A,hA⟩:=aq (asked v6);rw[hA]at Z;obtain⟨MF,aY⟩:=aq (gY v7 7 x.be s.be);obtain⟨MR,bc⟩:=aq (fu v7 7 x.be s.be ST A);have C2:Hid (∀W,Calls prog 106 #[.agg #[ι G,υ 0,.string j.ins,ι now,ι ST,ι D,ι 0],ι v7,ι 7,.agg x.arr,.agg s.arr,ι A] W λe w'=>e=.returned (.agg #[ι (G+MF),υ 0,.string j.ins,ι now,ι ST,ι D,ι MR])/\W.grownBy w' none):=by
              intro W;have h:=NL ⟨G,0,j.ins,now,ST,D,0⟩ v7 7 A x s W ag.o ao.o ck.o.1 ck.o.2 ak ay.1 (by have:=ay.2;show G<4096;omega);dsimp only at h;rw[Kj,aY,bc]at h;exact h
             have bw:Hid (mH now ⟨j.ins,r.ins,v3,v4,v5,v6,v7,u⟩ x.be s.be=⟨G+MF,0,j.ins,now,ST,D,MR⟩):=by
              show _=_;rw[<-aY,<-bc,<-hA,<-cz.o,<-ae.o,<-ai.o,<-al.o,<-H8.o];rfl
             clear hA aY bc;have cm:Hid (TK.In ⟨G+MF,0,j.ins,now,ST,D,MR⟩):=by
              show TK.In _;rw[<-bw.o];exact Q8 dA HI.o.2.1 HI.o.2.2.1 HI.o.2.2.2.1
             go_wp2_with fail;refine aD.start (S:=λV=>FT U3 V G 0 j.ins now ST D 0) 9 agP ?_;have dY:=hid HT.o.drew;clear t0 t1 t2 t3 t4 t5 t6 HT;refine aD.tk 0 [8,0] ?_ (hy:=by intro W hW;obtain⟨t0,t1,t2,t3,t4,t5,t6⟩:=hW.tc;exact kI);refine aD.tk 1 [8,1] ?_;refine aD.tk 2 [8,2] ?_ (hy:=by intro W hW;obtain⟨Q,N,X,H,L,O,T,e7,e8,e9⟩:=eu (aB pW.o.x hW.g);exact kI);refine aD.tk 3 [8,3] ?_ (hy:=by intro W hW;obtain⟨Q,N,X,H,L,O,T,e7,e8,e9⟩:=eu (aB pW.o.s hW.g);exact kI);refine aD.tk 4 [8,7,6,5,4] ?_;refine aD.tk 5 [8,7,6,5] ?_;refine aD.tk 6 [8,7,6] ?_ (hy:=by intro W hW;have H:=(aB pW.o.f.v hW.g) 3 _ rfl;exact kI);refine aD.on 7 ?_;intro K hK;refine Calls.mono (Z.o _) ?_;rintro e w' ⟨rfl,rfl⟩;go_wp2_with fail;refine hkr ?_;clear hK K Z;refine aD.on 8 ?_;intro K hK;refine Calls.mono (C2.o _) ?_;rintro e w5 ⟨rfl,g5⟩;have Sr:=hid (dY.o.grown g5);clear g5;go_wp2_with fail;refine hkx Sr.o ?_;clear hK K C2 dY;obtain⟨⟨Q,j0⟩,⟨N,j1⟩,⟨X,j2⟩,⟨H,j3⟩,⟨L,j4⟩,⟨O,j5⟩,⟨T,j6⟩,l0,l1,l2,l3,l4,l5,l6⟩:=pR Sr.o.l;refine aD.on 9 ?_;intro K hK;refine hK.out _ _ (.inl agP) ?_;clear hK K;refine aD.EX (λV=>FT U3 V (G+MF) 0 j.ins now ST D MR) agP (Sr.o.Q7 (G+MF) 0 j.ins now ST D MR) ?_;clear Q N X H L O T j0 j1 j2 j3 j4 j5 j6 l0 l1 l2 l3 l4 l5 l6 Sr;intro W hT;have HT:=hid hT;clear hT;as_aux_lemma=>
              obtain⟨ad,cd,bW⟩:=bA pW.o.f.d.bP.aL;obtain⟨nd,aV⟩:=aq M.aL.length;have y3:W.cell? (E,3)=some (.slice ad nd cd):=by
               have:=(pW.o.f.grown HT.o.g).d.bP.blk.cell 3;rw[bW,aV]at this;simpa using this
              have bd:=hid aV;clear bW aV;by_cases hd:(nd:Int)<24
              ·go_wp2;go_ret2;exact⟨_,_,rfl,by rw[HS.o];exact NN (by rw[bd.o];omega) HD.o (aa pW.o.f.g HT.o.g)⟩
              have cp:Hid (base<=W.heap.size):=cE aS (aa pW.o.f.g HT.o.g).size;have bu:=J.num x.be aw.o;have Oj:=J.num s.be ar.o;have Ol:=J.name x.be aw.o;have Om:=J.name s.be ar.o;have Gi:Hid (j.ins.length<=90):=by
               show _<=_;rw[<-cA.o];exact xq Ol
              have bB:Hid (s.name.length<=90):=xq Om;have CG:Hid (∀W,RD W base E M g->base<=W.heap.size->Calls prog 107 #[(E,0),ι 11,.agg #[ι (G+MF),υ 0,.string j.ins,ι now,ι ST,ι D,ι MR],.agg s.arr,ι v3,ι x.aH,υ x.key.toNat,ι 3] W λe w'=>∃o,e=.returned o/\Made W.heap.size w' o (lU 11 {(⟨G+MF,0,j.ins,now,ST,D,MR⟩:TK)with aN:=eB M.aL 0} s.be v3 x.aH x.key 3 (eB M.aL 1) (eB M.aL 2))/\(∃v,RD w' base E {M with aL:=M.aL.drop 24} {g with dv:=v}/\NewAt W.heap.size v)/\W.grownBy w' (some E)):=by
               intro W hW hb;exact NG base E M g 11 v3 x.aH ⟨G+MF,0,j.ins,now,ST,D,MR⟩ s x.key 3 3 W hW (by rw[bd.o];omega) cJ hb agF agF rfl ⟨by decide,by decide⟩ HI.o.1 (EY bu) (EY Oj) cm.o Gi.o bB.o
              clear bu Oj Ol Om Gi bB;go_wp2_with fail;refine aD.start (S:=λV=>FT U3 V (G+MF) 0 j.ins now ST D MR) 11 agP ?_;have dY:=hid HT.o.drew;clear y3;refine aD.tk 0 [0] ?_;refine aD.tk 1 [1] ?_ (hy:=by intro W hW;obtain⟨t0,t1,t2,t3,t4,t5,t6⟩:=hW.tc;exact kI);refine aD.tk 2 [2] ?_ (hy:=by intro W hW;obtain⟨Q,N,X,H,L,O,T,e7,e8,e9⟩:=eu (aB pW.o.s hW.g);exact kI);refine aD.tk 3 [5,4,3] ?_;refine aD.tk 4 [5,4] ?_;refine aD.tk 5 [5] ?_ (hy:=by intro W hW;have H:=(aB pW.o.f.v hW.g) 0 _ rfl;exact kI);refine aD.tk 6 [7,6] ?_;refine aD.tk 7 [7] ?_ (hy:=by intro W hW;obtain⟨Q,N,X,H,L,O,T,e7,e8,e9⟩:=eu (aB pW.o.x hW.g);exact kI);refine aD.tk 8 [10,9,8] ?_;refine aD.tk 9 [10,9] ?_;refine aD.tk 10 [10] ?_ (hy:=by intro W hW;obtain⟨Q,N,X,H,L,O,T,e7,e8,e9⟩:=eu (aB pW.o.x hW.g);exact kI);refine aD.on 11 ?_;intro K hK;refine Calls.mono (CG.o _ (pW.o.f.grown dY.o.g).d cp.o) ?_;rintro e w5 ⟨o,rfl,tq,⟨v,bN,NY⟩,g5⟩;have HH:=hid (And.intro tq (And.intro bN (And.intro NY g5)));clear tq bN NY g5;go_wp2_with fail;refine hkl ?_;clear hK K CG;refine aD.fr 12 ?_;refine aD.fr 13 ?_;refine aD.done agP ?_;go_wp2;go_ret2;refine⟨_,_,rfl,?_⟩;rw[HS.o];obtain⟨h1,h2,h3,h4⟩:=HH.o;have bj:=aa pW.o.f.g dY.o.g;refine⟨?_,λh=>absurd rfl h,λ_=>⟨_,v,rfl,?_,h2,λb hb=>cE bj.size (h3 b hb),iC (mh bj E) h4⟩⟩
              ·show _=if M.aL.length<24 then 60 else 0;rw[if_neg (by rw[bd.o];omega)]
              ·unfold GR.box;dsimp only;rw[bw.o];exact h1.base bj.size
end Go.Proofs.YtlfifnpjeangmaaGreatDoor
