import Derived.Test.YtlfifnpjeangmaaGreatDoorGEQLookA
namespace Go.Proofs.YtlfifnpjeangmaaGreatDoor
set_option maxHeartbeats 20000000
open Proofs.Tryz Go.RowKit
set_option maxRecDepth 100000
variable {p:Prop}
theorem aiF(h:p:=by rw[Y2.o.1];exact xQ.o.2):p:=h
theorem aiG(h:p:=by rw[Y2.o.1];exact xQ.o.1):p:=h
variable {w:World}
theorem UW(M)(now)(q):(iH M now q).2.aG=M.aG/\(iH M now q).2.aA=M.aA/\(iH M now q).2.aL=M.aL:=by
 grind [iH]
theorem acI{M:DM}{now:Int}{q:NQ}{t:TK}(h:(iH M now q).1=.ok t):t.In:=by
 unfold iH iV at h;split at h
 ·cases h
 grind [YC,sF]
theorem Nh{now c:Int}{q:NQ}{old:TK}{x s:BE}(h:oH now q old x s=.error c):c=33\/c=32\/c=11:=by
 unfold oH yz yA Qx at h;grind
theorem UX{W r p:World}{H g base T rb:Nat}{C D v:Value}{s n dp:Option Pl}{J:World->Prop}{l E:Nat->Nat->Prop}{x:DM}{F:List BE}{z:List UInt8}{qd d:Pl}(c:w.heap.size<=W.heap.size)(t:CF w W (exA g s l))(k:CF W r (λb y=>b=g/\y=1\/b=rb))(B:w.heap.size<=rb)(m:base<=w.heap.size)(u:J W)(h:aU r p v n z)(S:HS H g base T C D s n dp J l E F)(I:dE r g 0 (some d) x)(hdp:dp=some qd)(hg:d.g=qd.g):Fin w p g s n dp l v (z,x)/\J p:=by
 obtain⟨p',G,f,A,_⟩:=h;refine⟨?_,S.finds.stay _ _ (S.finds.stay _ _ u (k.mono (λb y _ e=>by rcases e with e|e;rw[e.1,e.2];exact S.ad7;rw[e];exact S.AA _ _ agE))) (f.mono (λb y _ e=>S.prJ b y e))⟩;refine⟨⟨p',G,A.imp id (λq=>mI q (cE c k.size))⟩,⟨some d,I.cf f (λj _ u e=>S.prG j agE e) (λq hq j _ e=>?_),λK a=>⟨qd,hdp,?_⟩⟩,?_⟩
 ·exact agx
 ·injection a with a;subst a;exact hg.symm
 ·exact((t.mono (λ_ _ _ e=>by rcases e with e|e;exact .inr (.inl e);exact .inl ⟨e.1,.inr e.2⟩)).trans k (λi o L e=>by rcases e with e|e;exact .inl ⟨e.1,.inl e.2⟩;omega)).trans f (λ_ _ _ e=>.inr (.inr e))
theorem vW.grown{w':World}{d:Option Pl}{f:Nat->Nat->Prop}{z:List UInt8}{v:Value}(h:vW w d f z v)(k:w.grownBy w' none):vW w' d f z v:=by
 obtain⟨i,cap,g,l,m,c⟩:=h;exact⟨i,cap,g,l,m.below k,λb off e j a=>⟨(c b off e j a).1,(c b off e j a).2.1,fN (c b off e j a).2.2 k.size⟩⟩
theorem pR{b:Nat}(h:Live w b 7):(∃d,w.cell? (b,0)=some d)/\(∃d,w.cell? (b,1)=some d)/\(∃d,w.cell? (b,2)=some d)/\(∃d,w.cell? (b,3)=some d)/\(∃d,w.cell? (b,4)=some d)/\(∃d,w.cell? (b,5)=some d)/\(∃d,w.cell? (b,6)=some d)/\w.frozen? (b,0)=false/\w.frozen? (b,1)=false/\w.frozen? (b,2)=false/\w.frozen? (b,3)=false/\w.frozen? (b,4)=false/\w.frozen? (b,5)=false/\w.frozen? (b,6)=false:=by
 have a:=λj c=>cA.1 (h.some j c);exact⟨a 0 agF,a 1 agF,a 2 agF,a 3 agF,a 4 agF,a 5 agF,a 6 agF,h.frozen 0,h.frozen 1,h.frozen 2,h.frozen 3,h.frozen 4,h.frozen 5,h.frozen 6⟩
theorem aer(h:p:=by
 simp only[sG]at this
 injection this with this
 have h2:=congrArg (λa:Array Value=>a[1]?) this
 simpa using h2.symm):p:=h
theorem EI(i g base T:Nat)(F rv H G)(C A dp)(J:World->Prop)(B sU:Nat->Nat->Prop)(M)(now)(q)(v u)(w)(S:HS i g base T F rv C A dp J B sU M.aG)(h:yB w i g T F H G now)(hd:dE w g 0 dp M)(hJ:J w)(ho:Out w H C [])(hr:Out w G A [])(hv:vW w C B q.dO v)(hu:vW w C B q.proof u)(dA:In64 now)(cb:In64 M.aA)(Ag:∀y∈M.aJ,In64 y.time)(b0:In64 q.bU)(cj:In64 q.dI)(cc:In64 q.bW)(ck:In64 q.aO)(E:base<=w.heap.size):
  Calls prog 140 #[(i,0),.agg (q.cells v u).toArray] w λe w'=>∃v',e=.returned v'/\Fin w w' g C A dp B v' (tO M now q)/\J w':=by
 have eP:=S.hbb
 have dv:=S.gb
 obtain⟨W0,hW0⟩:=aw (((w.alloc (.cells (q.cells v u).toArray 276)).alloc (.cells jy 333)).alloc (.cells jy 333))
 have V:w.grownBy W0 none:=by grind [aM,cx]
 have RQ:W0.rangeAt w.heap.size 0 (q.cells v u):=by grind [gX,aS,aM,cx]
 have L1:Live W0 (w.heap.size+1) 7:=by
  have h:=(Live.new (w.alloc (.cells (q.cells v u).toArray 276)) jy 333).grown (cx _ (.cells jy 333) none);exact af5
 have L2:Live W0 (w.heap.size+2) 7:=by
  have h:=Live.new ((w.alloc (.cells (q.cells v u).toArray 276)).alloc (.cells jy 333)) jy 333;rw[cF,cF]at h;rw[hW0];exact h
 have al:∀b y,Pl.has C b y->b<w.heap.size:=λb y e=>ho.lt e
 have YK:=λp hp=>hr.KU p hp
 obtain⟨AR,aE⟩:=aq (iH M now q)
 have az:=UN i g base T F rv H G C A dp J B sU M now q v u W0 S (h.grown V) (hd.grown V) (S.finds.stay _ _ hJ (CF.bF V _)) (ho.grown V) (hr.grown V) (hv.grown V) (hu.grown V) dA Ag (cE E V.size)
 rw[aE]at az
 obtain⟨m0,m1,m2,m3,m4,m5,m6,m7,O⟩:=pQ AR.1
 rw[O]at az
 have br:∀W,dE W g 0 dp AR.2->CF W0 W (λb y=>exA g C B b y\/b=w.heap.size+1)->J W->∀old,W.rangeAt (w.heap.size+1) 0 old->KP J w W i g T F H G C A dp B AR.2 now (q.cells v u) old:=by
  intro W hD hC cw old hO;refine⟨⟨(h.grown V).cf hC ?_,hD,(ho.grown V).cf hC agM,(hr.grown V).cf hC agM,hC.range RQ ?_,hO,L2.cf hC,cE V.size hC.size,(CF.before V hC).mono agM⟩,cw⟩
  ·rintro y (((e|e)|e)|e)
   ·exact S.hbF y e
   ·exact pg S.poH y e
   ·exact S.hbg e.1
   ·omega
  ·rintro j _ (((e|e)|e)|e)
   ·exact S.UG _ _ agE e
   ·have:=al _ _ e;omega
   ·omega
   ·omega
 have kH:Hid (∀W W' M1 old,KP J w W i g T F H G C A dp B M1 now (q.cells v u) old->CF W W' (λb y=>Pl.has C b y\/w.heap.size+1<b)->KP J w W' i g T F H G C A dp B M1 now (q.cells v u) old):=λW W' M1 old h k=>h.step S k E al
 have AB:Hid (∀W W' M1 old,KP J w W i g T F H G C A dp B M1 now (q.cells v u) old->CF W W' B->J W'->KP J w W' i g T F H G C A dp B M1 now (q.cells v u) old):=λW W' M1 old h k j=>⟨h.toNX.step S (k.mono (λ_ _ _ e=>.inl (.inl e))) E al,j⟩
 have YM:=hid E
 have bR:=hid br
 have bj:=hid az
 have HM:=hid O
 have YW:=hid aE
 have Dc:=hid L1
 have ag:=hid S.finds.stay
 have I:=hid S
 have cg:=hid hW0
 have sP:=hid V
 have Sm:=hid al
 have cP:=hid YK
 have bD:Hid (AR.2.aG=M.aG/\AR.2.aA=M.aA/\AR.2.aL=M.aL):=by grind [UW]
 have HQ:Hid (In64 now/\In64 M.aA/\In64 q.bU/\In64 q.dI/\In64 q.bW/\In64 q.aO):=⟨dA,cb,b0,cj,cc,ck⟩
 have HN:Hid (i<w.heap.size/\g<w.heap.size):=⟨by omega,by omega⟩
 have O4:=hid RQ
 obtain⟨FR,OT⟩:=aq (tO M now q)
 rw[OT]
 have SF:=hid OT
 have bk:=M4 M now q
 rw[OT,aE]at bk
 have aF:=hid bk
 clear bk OT aE O az br h hd hJ ho hr hv hu dA cb Ag b0 cj cc ck hW0 V RQ L1 L2 al YK S
 go_enter func140,ntmps140
 go_wp2_with fail
 go_step3
 go_wp2_with fail
 go_step3
 go_upto_block 0 with fail
 go_cut [5] (λc D=>∃Q M1,c = ι Q/\In64 Q/\FR=(aY now Q,M1)/\yB D i g T F H G now/\dE D g 0 dp M1/\Out D G A []/\w.heap.size<=D.heap.size/\CF w D (exA g C B)/\J D)
 case first=>
  go_upto_region 3 with fail
  rw[<-cg.o];obtain⟨k0,k1,k2,k3,k4,k5,k6,k7,k8⟩:=lH O4.o;go_cut [5] (λc D=>c = ι m7/\KP J w D i g T F H G C A dp B AR.2 now (q.cells v u) [ι m0,υ m1,.string m2,ι m3,ι m4,ι m5,ι m6]/\J D)
  case first=>
   go_wp2_with (first|(go_at_call 183;refine bj.o.mono ?_;clear bj;rintro r w1 ⟨rfl,D1,j1,C1⟩;have cR:=hid D1;have XY:=hid j1;have sO:=hid C1;have bN:=hid (Dc.o.cf C1);clear D1 j1 C1;obtain⟨⟨d0,q0⟩,⟨d1,q1⟩,⟨d2,q2⟩,⟨d3,q3⟩,⟨d4,q4⟩,⟨d5,q5⟩,⟨d6,q6⟩,f0,f1,f2,f3,f4,f5,f6⟩:=pR bN.o))
   go_meet;have C2:=ug w1 (w.heap.size+1) (ι m0) (υ m1) (.string m2) (ι m3) (ι m4) (ι m5) (ι m6);have J2:=ag.o _ _ XY.o (C2.mono (λb y _ e=>I.o.AA b y agE));refine⟨rfl,bR.o _ ?_ ?_ J2 _ (jH [ι m0,υ m1,.string m2,ι m3,ι m4,ι m5,ι m6] 0 w1 (w.heap.size+1) 7 bN.o (cy 7)),?_⟩
   ·exact cR.o.cf C2 agE (λp hp j _ e=>by have:=(I.o.MX p hp).2.2.1;omega)
   ·exact(sO.o.mono (λ_ _ _ e=>.inl e)).trans C2 (λ_ _ _ e=>.inr e)
   ·exact J2
  case rest=>
   obtain⟨rfl,hX,hj⟩:=hcut;have N:=hid hX;have XY:=hid hj;clear hX hj k0 k1 k2 k3 k4 k5 k6 k7 k8 bj bR Dc cg sP O4;obtain⟨A1,n,hA⟩:∃a b,AR=(a,b):=⟨AR.1,AR.2,rfl⟩
   subst hA;cases A1 with
   |error cd=>
    have ba:=AL (c:=cd) (by rw[YW.o]);have YU:FR=(aY now cd,n):=aF.o;have bm:m7=cd:=by
     have:=HM.o;exact aer
    subst bm;have AJ:=hid YU;clear YU HM aF YW;rcases ba with rfl|rfl|rfl|rfl|rfl|rfl|rfl
    all_goals
     go_wp2_with fail
     go_meet
     exact⟨_,_,rfl,⟨by decide,by decide⟩,AJ.o,N.o.hear,N.o.bP,N.o.r,N.o.big,N.o.cf,N.o.j⟩
   |ok t=>
    have O:=HM.o;simp only[sG]at O;have bo:=hid (acI (t:=t) (by rw[YW.o]));have YU:FR=dz n now (ek n now q t):=aF.o;have AJ:=hid YU;injection O with O;have e0:Value.agg t.cells.toArray=Value.agg #[ι m0,υ m1,.string m2,ι m3,ι m4,ι m5,ι m6]:=Option.some.inj (congrArg (λa:Array Value=>a[0]?) O);have e1:Value.int .i64 0=Value.int .i64 m7:=Option.some.inj (congrArg (λa:Array Value=>a[1]?) O);injection e0 with e0;injection e1 with _ e1;have e0:t.cells=[ι m0,υ m1,.string m2,ι m3,ι m4,ι m5,ι m6]:=congrArg Array.toList e0;subst e1;rw[<-e0]at N;clear O e0 YU HM aF;have N:Hid (KP J w wc i g T F H G C A dp B n now (q.cells v u) t.cells):=N.o;have bt:n.aG=M.aG/\n.aA=M.aA/\n.aL=M.aL:=bD.o;have Y2:=hid bt;clear bt bD YW;have bA:Hid (∀W,KP J w W i g T F H G C A dp B n now (q.cells v u) t.cells->Calls prog 184 #[(i,0),ι t.start] W λe w'=>e=.returned (.bool (decide (aW now M.aA<t.start)))/\∃m,w'=W.drewN m):=λW X=>by
     have hs:=X.bP.aA;rw[Y2.o.2.1]at hs;exact Bj i g now M.aA t.start W X.hear.c3 X.hear.c4 hs HQ.o.1 HQ.o.2.1
    obtain⟨k0,k1,k2,k3,k4,k5,k6,k7,k8⟩:=lH N.o.ask;have t0:wc.cell? (w.heap.size+1,0)=some (ι t.ae):=N.o.old 0 _ rfl;have t4:wc.cell? (w.heap.size+1,4)=some (ι t.start):=N.o.old 4 _ rfl;have b3:=hid (kG t.ae 16 4 agF agF);have bu:=hid (kG q.aO 32 5 agF agF);obtain⟨er,ch⟩:=aq ((aI t.ae 16&&!aI q.aO 32||decide (aW now M.aA<t.start)));have SQ:=hid ch;clear ch;go_upto_region 6 with fail
    go_cut [33] (λc D=>c=.bool er/\KP J w D i g T F H G C A dp B n now (q.cells v u) t.cells/\J D)
    case first=>
     have U:=b3.o;have Z:=bu.o;have a8:=bA.o wc N.o;obtain⟨ah,bs⟩:=aq (decide (aW now M.aA<t.start));rw[bs]at a8 SQ;have aK:=hid a8;clear a8 bs;generalize aI t.ae 16=b16 at *;generalize aI q.aO 32=b32 at *;cases b16 with
     |true=>
      rw[eV]at U;have cq:=cJ.1 U;cases b32 with
      |false=>
       rw[eM]at Z;have b9:=db.1 Z;clear U Z;go_wp2_with fail;go_meet;exact⟨by rw[<-SQ.o];rfl,N.o,XY.o⟩
      |true=>
       rw[eV]at Z;have b9:=cJ.1 Z;clear U Z;go_wp2_with (first|(go_at_call 184;refine aK.o.mono ?_;clear aK;rintro r w2 ⟨rfl,m,au⟩;have aj:Hid (wc.grownBy w2 none):=(by rw[au];exact aR (cC _ _) m);clear au))
       go_meet;exact⟨by rw[<-SQ.o];simp[b9],kH.o _ _ _ _ N.o (CF.bF aj.o _),ag.o _ _ XY.o (CF.bF aj.o _)⟩
     |false=>
      rw[eM]at U;have cq:=db.1 U;clear U Z;go_wp2_with (first|(go_at_call 184;refine aK.o.mono ?_;clear aK;rintro r w2 ⟨rfl,m,au⟩;have aj:Hid (wc.grownBy w2 none):=(by rw[au];exact aR (cC _ _) m);clear au))
      go_meet;exact⟨by rw[<-SQ.o];simp,kH.o _ _ _ _ N.o (CF.bF aj.o _),ag.o _ _ XY.o (CF.bF aj.o _)⟩
    case rest=>
     obtain⟨rfl,hX,hj⟩:=hcut;have vE:=hid hX;have cm:=hid hj;clear hX hj N XY k0 k1 k2 k3 k4 k5 k6 k7 k8 t0 t4 b3 bu bA;obtain⟨k0,k1,k2,k3,k4,k5,k6,k7,k8⟩:=lH vE.o.ask;cases er with
     |true=>
      have p9:Hid (FR=(aY now 33,n)):=by
       rw[AJ.o,QR]
       ·exact rfl
       ·have:=SQ.o;rw[Y2.o.2.1];simpa using this
      go_wp2_with fail;go_meet;exact⟨_,_,rfl,⟨by decide,by decide⟩,p9.o,vE.o.hear,vE.o.bP,vE.o.r,vE.o.big,vE.o.cf,vE.o.j⟩
     |false=>
      have TT:Hid (¬ (aI t.ae 16=true/\aI q.aO 32=false\/aW now n.aA<t.start)):=by
       refine hid ?_;have:=SQ.o;rw[Y2.o.2.1];simpa using this
      have t5:wc.cell? (w.heap.size+1,5)=some (ι t.fin):=vE.o.old 5 _ rfl;have c4:=vE.o.hear.c4;by_cases ar:t.fin<now
      ·have p9:Hid (FR=(aY now 32,n)):=(by rw[AJ.o,UQ TT.o ar];exact rfl);go_wp2_with fail;go_quiet (fail)
       go_wp2;go_meet;have hS:=kH.o wc (wc.drewN nq) _ _ vE.o (CF.bF (aR (cC _ _) nq) _);exact⟨_,_,rfl,⟨by decide,by decide⟩,p9.o,hS.hear,hS.bP,hS.r,hS.big,hS.cf,hS.j⟩
      ·have Ni:=hid ar;go_wp2_with fail;go_quiet (fail)
       go_wp2_with fail;obtain⟨W2,av⟩:=aw ((wc.drewN nq).alloc (.cells JY 324));have G2:wc.grownBy W2 none:=(by rw[av];exact aM (aR (cC _ _) nq) _);obtain⟨z,aB⟩:=aw wc.heap.size;have LP:Live W2 z 16:=(by rw[av,aB];exact Live.new (wc.drewN nq) JY _);have dZ:w.heap.size+2<z:=(by rw[aB];exact vE.o.made.lt);have aD:=hid (kH.o _ _ _ _ vE.o (CF.bF G2 _));have b4:=hid (ag.o _ _ cm.o (CF.bF G2 _));have bS:=hid LP;rw[<-av,<-aB];clear av G2 LP aB vE cm k0 k1 k2 k3 k4 k5 k6 k7 k8 t5 c4;obtain⟨y,hy⟩:=aq (BE.find M.aG q.aV);obtain⟨x,hx⟩:=aq (BE.find M.aG t.ay);have aX:∀W,J W->KP J w W i g T F H G C A dp B n now (q.cells v u) t.cells->Calls prog 171 #[(i,0),.agg #[.string q.aV,ι 7,ι 2],.agg #[.string t.ay,ι 6,ι 1]] W λe w'=>e=.returned (.tuple #[.agg (rE y).toArray,.agg (rE x).toArray,ι (dS y x now 7 6 2 1)])/\J w'/\CF W w' B:=by
        intro W cH XW;have:=Ir i base T F rv J B sU M.aG q.aV t.ay 7 2 6 1 now W I.o.afG I.o.finds cH XW.hear.c0 XW.hear.c4 I.o.hbF I.o.UG I.o.AA (cE E XW.big);rw[hy,hx]at this;exact this
       obtain⟨v0,v1,v2,v3,v4,v5,v6,v7,hv⟩:=iM x;obtain⟨u0,u1,u2,u3,u4,u5,u6,u7,hu⟩:=iM y;rw[hv,hu]at aX;have b7:=hid aX;have HV:=hid hv;have HU:=hid hu;have xQ:=hid (And.intro hx hy);clear aX hv hu hx hy;have na:z≠w.heap.size:=agE;have nb:z≠w.heap.size+1:=agE;have a0:W2.cell? (w,4)=some (.string q.aV):=aD.o.ask 4 _ rfl;have a1:W2.cell? (w.heap.size+1,2)=some (.string t.ay):=aD.o.old 2 _ rfl;go_cut [5] (λc D=>c = ι (dS y x now 7 6 2 1)/\D.rangeAt z 0 [.string v0,ι v1,υ v2,υ v3,ι v4,ι v5,ι v6,ι v7]/\D.rangeAt z 8 [.string u0,ι u1,υ u2,υ u3,ι u4,ι u5,ι u6,ι u7]/\KP J w D i g T F H G C A dp B n now (q.cells v u) t.cells/\J D)
       case first=>
        go_region_held3 (λw'=>w'.cell? ⟨w.heap.size,4,none⟩=some (.string q.aV)/\w'.cell? ⟨w.heap.size+1,2,none⟩=some (.string t.ay)) (go_keep) (first
         |(go_at_call 173;refine(xP _ _).mono ?_;rintro e w4 ⟨rfl,g4⟩;have FH:=hid (je g4);have GI:=hid (kH.o _ _ _ _ aD.o (CF.bF (je g4) _));clear g4;have eU:=GI.o.ask 4 _ rfl;have dr:w4.cell? ⟨w.heap.size+1,2,none⟩=some (.string ⟨t.ay.toArray⟩):=GI.o.old 2 _ rfl)
         |(go_at_call 172;refine(zP _ _).mono ?_;rintro e w5 ⟨rfl,g5⟩;have MP:=hid (aa FH.o g5);have BS:=hid (kH.o _ _ _ _ GI.o (CF.bF g5 _));clear g5;have dk:=BS.o.ask 4 _ rfl;have et:w5.cell? ⟨w.heap.size+1,2,none⟩=some (.string ⟨t.ay.toArray⟩):=BS.o.old 2 _ rfl)
         |(go_at_call 171;refine(b7.o _ (ag.o _ _ b4.o (CF.bF MP.o _)) BS.o).mono ?_;rintro e w6 ⟨rfl,j6,C6⟩;have cn:=hid j6;have QM:=hid (AB.o _ _ _ _ BS.o C6 j6);have Nc:=hid ((bS.o.grown MP.o).cf C6);clear C6 j6;have ep:=QM.o.ask 4 _ rfl;have en:w6.cell? ⟨w.heap.size+1,2,none⟩=some (.string ⟨t.ay.toArray⟩):=QM.o.old 2 _ rfl;have d:=zQ Nc.o;obtain⟨d0,q0⟩:=d.1 0 agF;have f0:=d.2 0;obtain⟨d1,q1⟩:=d.1 1 agF;have f1:=d.2 1;obtain⟨d2,q2⟩:=d.1 2 agF;have f2:=d.2 2;obtain⟨d3,q3⟩:=d.1 3 agF;have f3:=d.2 3;obtain⟨d4,q4⟩:=d.1 4 agF;have f4:=d.2 4;obtain⟨d5,q5⟩:=d.1 5 agF;have f5:=d.2 5;obtain⟨d6,q6⟩:=d.1 6 agF;have f6:=d.2 6;obtain⟨d7,q7⟩:=d.1 7 agF;have f7:=d.2 7;obtain⟨d8,q8⟩:=d.1 8 agF;have f8:=d.2 8;obtain⟨d9,q9⟩:=d.1 9 agF;have f9:=d.2 9;obtain⟨ea,e5⟩:=d.1 10 agF;have eA:=d.2 10;obtain⟨ev,e4⟩:=d.1 11 agF;have dH:=d.2 11;obtain⟨e3,dx⟩:=d.1 12 agF;have dK:=d.2 12;obtain⟨e6,de⟩:=d.1 13 agF;have c6:=d.2 13;obtain⟨eo,dy⟩:=d.1 14 agF;have ej:=d.2 14;obtain⟨eg,eF⟩:=d.1 15 agF;have eL:=d.2 15;clear d))
        go_wp2;go_meet;have R8:=jH [.string u0,ι u1,υ u2,υ u3,ι u4,ι u5,ι u6,ι u7] 8 w6 z 16 Nc.o agI;have C8:CF w6 (w6.setCells z 8 [.string u0,ι u1,υ u2,υ u3,ι u4,ι u5,ι u6,ι u7]) (λb _=>b=z):=CF.setCells z _ 8 w6 (CF.refl _ _) (λ_ _ _=>rfl);have C0:CF (w6.setCells z 8 [.string u0,ι u1,υ u2,υ u3,ι u4,ι u5,ι u6,ι u7]) ((w6.setCells z 8 [.string u0,ι u1,υ u2,υ u3,ι u4,ι u5,ι u6,ι u7]).setCells z 0 [.string v0,ι v1,υ v2,υ v3,ι v4,ι v5,ι v6,ι v7]) (λb y=>b=z/\y<8):=CF.setCells z _ 0 _ (CF.refl _ _) (λj hj _=>⟨rfl,by simp at hj;omega⟩);have R0:=jH [.string v0,ι v1,υ v2,υ v3,ι v4,ι v5,ι v6,ι v7] 0 _ z 16 (Nc.o.cf C8) agI;refine⟨rfl,R0,C0.range R8 (λ_ _ e=>by omega),kH.o _ _ _ _ QM.o ((C8.mono (λb _ _ e=>.inr agE)).trans C0 (λ_ _ _ e=>.inr agE)),?_⟩;exact ag.o _ _ cn.o ((C8.mono (λb y _ e=>I.o.AA b y agE)).trans C0 (λb y _ e=>I.o.AA b y agE))
       case rest=>
        obtain⟨rfl,Pb,WC,hX,hj⟩:=hcut;have L:=hid hX;have cz:=hid hj;have Iu:=hid Pb;have Sn:=hid WC;clear hX hj Pb WC a0 a1 aD b4 bS b7;obtain⟨k0,k1,k2,k3,k4,k5,k6,k7,k8⟩:=lH L.o.ask;have t0:wc.cell? (w.heap.size+1,0)=some (ι t.ae):=L.o.old 0 _ rfl;by_cases an:dS y x now 7 6 2 1=0
        ·obtain⟨sv,cl,rfl,rfl⟩:=IJ agF agF an;have hP:eZ wc z cl sv:=⟨by have h:=Iu.o;rw[<-HV.o]at h;exact h,by have h:=Sn.o;rw[<-HU.o]at h;exact h⟩
         have M8:=hid hP;have yM:=hid an;rw[an];clear an hP Iu Sn HV HU;have ab:=hid (MS q.aO t.ae wc HQ.o.2.2.2.2.2);cases ai:jZ q.aO t.ae with
         |false=>
          rw[ai]at ab;have p9:Hid (FR=(aY now 13,n)):=by
           rw[AJ.o,UT TT.o (eS.2 Ni.o) aiF aiG yM.o ai];exact rfl
          clear ai;go_wp2_with (first|(go_at_call 185;refine ab.o.mono ?_;clear ab;rintro r w8 ⟨rfl,rfl⟩))
          go_meet;exact⟨_,_,rfl,⟨by decide,by decide⟩,p9.o,L.o.hear,L.o.bP,L.o.r,L.o.big,L.o.cf,L.o.j⟩
         |true=>
          rw[ai]at ab;have qa:=hid ai;clear ai;go_wp2_with (first|(go_at_call 185;refine ab.o.mono ?_;clear ab;rintro r w8 ⟨rfl,rfl⟩))
          clear k0 k1 k2 k3 k4 k5 k6 k7 k8 t0;have aT:Hid (∀W,eZ W z cl sv->Calls prog 186 #[(z,0),ι now,.agg (q.cells v u).toArray,.agg t.cells.toArray] W λe w'=>e=.returned (sG (oH now q t cl sv))/\W.grownBy w' none):=λW P=>by
           have i1:=I.o.sV cl (mq xQ.o.1);have i2:=I.o.sV sv (mq xQ.o.2);exact UE z now q v u t cl sv W P HQ.o.1 i1.bI i2.bI i1.aC i2.aC bo.o
          obtain⟨GM,bh⟩:=aq (oH now q t cl sv);obtain⟨n0,n1,n2,n3,n4,n5,n6,n7,hn⟩:=pQ GM;rw[bh,hn]at aT;have ad:=hid bh;have SV:=hid hn;clear bh hn;have ax:Hid (∀W,KP J w W i g T F H G C A dp B n now (q.cells v u) t.cells->W.cell? (i,4)=some (ι now)/\W.cell? (w,0)=some (.string q.fQ)/\W.cell? (w,1)=some (ι q.ou)/\W.cell? (w,2)=some (v)/\W.cell? (w,3)=some (u)/\W.cell? (w,4)=some (.string q.aV)/\W.cell? (w,5)=some (ι q.bU)/\W.cell? (w,6)=some (ι q.dI)/\W.cell? (w,7)=some (ι q.bW)/\W.cell? (w,8)=some (ι q.aO)/\W.cell? (w.heap.size+1,0)=some (ι t.ae)/\W.cell? (w.heap.size+1,1)=some (υ t.aN.toNat)/\W.cell? (w.heap.size+1,2)=some (.string t.ay)/\W.cell? (w.heap.size+1,3)=some (ι t.dV)/\W.cell? (w.heap.size+1,4)=some (ι t.start)/\W.cell? (w.heap.size+1,5)=some (ι t.fin)/\W.cell? (w.heap.size+1,6)=some (ι t.aC)):=λW X=>⟨X.hear.c4,X.ask 0 _ rfl,X.ask 1 _ rfl,X.ask 2 _ rfl,X.ask 3 _ rfl,X.ask 4 _ rfl,X.ask 5 _ rfl,X.ask 6 _ rfl,X.ask 7 _ rfl,X.ask 8 _ rfl,X.old 0 _ rfl,X.old 1 _ rfl,X.old 2 _ rfl,X.old 3 _ rfl,X.old 4 _ rfl,X.old 5 _ rfl,X.old 6 _ rfl⟩
          have bH:=hid (λW (X:KP J w W i g T F H G C A dp B n now (q.cells v u) t.cells)=>ax.o _ (kH.o _ _ _ _ X ((ug W (w.heap.size+2) (ι n0) (υ n1) (.string n2) (ι n3) (ι n4) (ι n5) (ι n6)).mono (λb _ _ e=>.inr agE))));obtain⟨x4,b5,b1,bw,bx,bV,ca,bX,bM,bG,bB,b8,bE,b6,bp,bQ,bK⟩:=ax.o _ L.o;obtain⟨W7,a7⟩:=aw w8;rw[<-a7]at L cz M8 x4 b5 b1 bw bx bV ca bX bM bG bB b8 bE b6 bp bQ bK;rw[<-a7];clear a7;go_cut [5] (λc D=>c = ι n7/\D.rangeAt (w.heap.size+2) 0 [ι n0,υ n1,.string n2,ι n3,ι n4,ι n5,ι n6]/\KP J w D i g T F H G C A dp B n now (q.cells v u) t.cells/\eZ D z cl sv)
          case first=>
           have bC:=M8.o.grown (bg (cC _ _));have OY:=hid (aT.o _ bC);clear bC
           go_region_held3 (λw'=>w'.cell? ⟨i,4,none⟩=some (ι now)/\w'.cell? ⟨w.heap.size,0,none⟩=some (.string q.fQ)/\w'.cell? ⟨w.heap.size,1,none⟩=some (ι q.ou)/\w'.cell? ⟨w.heap.size,2,none⟩=some (v)/\w'.cell? ⟨w.heap.size,3,none⟩=some (u)/\w'.cell? ⟨w.heap.size,4,none⟩=some (.string q.aV)/\w'.cell? ⟨w.heap.size,5,none⟩=some (ι q.bU)/\w'.cell? ⟨w.heap.size,6,none⟩=some (ι q.dI)/\w'.cell? ⟨w.heap.size,7,none⟩=some (ι q.bW)/\w'.cell? ⟨w.heap.size,8,none⟩=some (ι q.aO)/\w'.cell? ⟨w.heap.size+1,0,none⟩=some (ι t.ae)/\w'.cell? ⟨w.heap.size+1,1,none⟩=some (υ t.aN.toNat)/\w'.cell? ⟨w.heap.size+1,2,none⟩=some (.string t.ay)/\w'.cell? ⟨w.heap.size+1,3,none⟩=some (ι t.dV)/\w'.cell? ⟨w.heap.size+1,4,none⟩=some (ι t.start)/\w'.cell? ⟨w.heap.size+1,5,none⟩=some (ι t.fin)/\w'.cell? ⟨w.heap.size+1,6,none⟩=some (ι t.aC)) (first|(with_reducible exact bH.o _ K.o)|go_keep) (first
            |(go_at_call 186;refine OY.o.mono ?_;clear OY;rintro r w9 ⟨rfl,g9⟩;have K:=hid (kH.o _ _ _ _ L.o (CF.bF (je g9) _));have af:=hid (M8.o.grown (je g9));clear g9;obtain⟨y4,dj,ey,cX,dD,dM,cW,eN,eC,eH,eK,eG,eD,c7,dt,df,ei⟩:=ax.o _ K.o;obtain⟨⟨d0,q0⟩,⟨d1,q1⟩,⟨d2,q2⟩,⟨d3,q3⟩,⟨d4,q4⟩,⟨d5,q5⟩,⟨d6,q6⟩,f0,f1,f2,f3,f4,f5,f6⟩:=pR K.o.made))
           go_wp2;go_meet;have C9:=ug w9 (w.heap.size+2) (ι n0) (υ n1) (.string n2) (ι n3) (ι n4) (ι n5) (ι n6);exact⟨rfl,jH [ι n0,υ n1,.string n2,ι n3,ι n4,ι n5,ι n6] 0 w9 (w.heap.size+2) 7 K.o.made (cy 7),kH.o _ _ _ _ K.o (C9.mono (λb _ _ e=>.inr agE)),af.o.cf C9 (λ_ e=>by omega)⟩
          case rest=>
           obtain⟨rfl,hM,hX,hP⟩:=hcut;have K:=hid hX;have af:=hid hP;have SK:=hid hM;clear hX hP hM x4 b5 b1 bw bx bV ca bX bM bG bB b8 bE b6 bp bQ bK L M8 aT;cases GM with
           |error cd=>
            have bm:n7=cd:=by
             have:=SV.o;exact aer
            subst bm;have p9:Hid (FR=(aY now n7,n)):=by
             rw[AJ.o,Y0 TT.o (eS.2 Ni.o) aiF aiG yM.o qa.o ad.o];exact rfl
            have ba:=Nh ad.o;clear SV ad;rcases ba with rfl|rfl|rfl
            all_goals
             go_wp2_with fail
             go_meet
             exact⟨_,_,rfl,⟨by decide,by decide⟩,p9.o,K.o.hear,K.o.bP,K.o.r,K.o.big,K.o.cf,K.o.j⟩
           |ok l=>
            have O:=SV.o;simp only[sG]at O;injection O with O;have e0:Value.agg l.cells.toArray=Value.agg #[ι n0,υ n1,.string n2,ι n3,ι n4,ι n5,ι n6]:=Option.some.inj (congrArg (λa:Array Value=>a[0]?) O);have e1:Value.int .i64 0=Value.int .i64 n7:=Option.some.inj (congrArg (λa:Array Value=>a[1]?) O);injection e0 with e0;injection e1 with _ e1;have e0:l.cells=[ι n0,υ n1,.string n2,ι n3,ι n4,ι n5,ι n6]:=congrArg Array.toList e0;subst e1;rw[<-e0]at SK;have Y3:=hid (acH TT.o (eS.2 Ni.o) aiF aiG yM.o qa.o ad.o);have bJ:=hid (Y1 bo.o HQ.o.1 HQ.o.2.2.2.1 HQ.o.2.2.2.2.1 ad.o);rw[<-AJ.o]at Y3;clear O e0 SV ad AJ TT Ni SQ ax bH;have Nj:Hid (∀W,wc.grownBy W none->W.cell? (w.heap.size+2,0)=some (ι l.ae)/\W.cell? (w.heap.size+2,1)=some (υ l.aN.toNat)/\W.cell? (w.heap.size+2,2)=some (.string l.ay)/\W.cell? (w.heap.size+2,3)=some (ι l.dV)/\W.cell? (w.heap.size+2,4)=some (ι l.start)/\W.cell? (w.heap.size+2,5)=some (ι l.fin)/\W.cell? (w.heap.size+2,6)=some (ι l.aC)/\W.cell? (w,4)=some (.string q.aV)/\W.cell? (w,5)=some (ι q.bU)/\W.cell? (w.heap.size+1,1)=some (υ t.aN.toNat)):=λW hW=>⟨hW.cell (SK.o 0 _ rfl) agI,hW.cell (SK.o 1 _ rfl) agI,hW.cell (SK.o 2 _ rfl) agI,hW.cell (SK.o 3 _ rfl) agI,hW.cell (SK.o 4 _ rfl) agI,hW.cell (SK.o 5 _ rfl) agI,hW.cell (SK.o 6 _ rfl) agI,hW.cell (K.o.ask 4 _ rfl) agI,hW.cell (K.o.ask 5 _ rfl) agI,hW.cell (K.o.old 1 _ rfl) agI⟩
            obtain⟨x0,x1,x2,x3,x4,x5,x6,x7,x8,x9⟩:=Nj.o _ (cC _ _);go_wp2_with fail;obtain⟨W9,bn⟩:=aw wc;rw[<-bn]at K af SK Nj x0 x1 x2 x3 x4 x5 x6 x7 x8 x9;rw[<-bn];clear bn;go_cut [9] (λp D=>∃rb,p=.pointer (some ⟨rb,0,none⟩)/\w.heap.size+2<rb/\dB D rb #[ι l.ae,υ l.aN.toNat,.string l.ay,ι l.dV,ι l.start,ι l.fin,ι l.aC,.string q.aV,ι sv.aH,υ sv.key.toNat,υ 0,ι q.bU,ι 0,υ t.aN.toNat,υ 0]/\KP J w D i g T F H G C A dp B n now (q.cells v u) t.cells)
            case first=>
             have cI:=K.o.made.lt;have bL:w.heap.size≠W9.heap.size:=agE;have cu:w.heap.size+1≠W9.heap.size:=agE;have Y:w.heap.size+2≠W9.heap.size:=agE;have bf:∀W,W9.grownBy W none->Calls prog 177 #[(z,8)] W λr w'=>r=.returned (.agg #[ι sv.aH,υ sv.key.toNat])/\W.grownBy w' none:=λW hW=>sS z 8 sv W (hW.cell (af.o.s 1 _ rfl) agI) (hW.cell (af.o.s 2 _ rfl) agI);have cL:Hid (Calls prog 177 #[(z,8)] W9.drew λr w'=>r=.returned (.agg #[ι sv.aH,υ sv.key.toNat])/\W9.grownBy w' none):=(bf _ (bg (cC _ _))).mono λ_ _ ⟨a,b⟩=>⟨a,je b⟩
             have UL:Hid (Calls prog 177 #[(z,8)] ((W9.alloc (.cells #[ι 0,υ 0,.string ⟨#[]⟩,ι 0,ι 0,ι 0,ι 0,.string ⟨#[]⟩,ι 0,υ 0,υ 0,ι 0,ι 0,υ 0,υ 0] 338)).drew) λr w'=>r=.returned (.agg #[ι sv.aH,υ sv.key.toNat])/\W9.grownBy w' none/\dB w' W9.heap.size #[ι 0,υ 0,.string ⟨#[]⟩,ι 0,ι 0,ι 0,ι 0,.string ⟨#[]⟩,ι 0,υ 0,υ 0,ι 0,ι 0,υ 0,υ 0]):=(bf _ (bg (cx _ _ none))).mono λ_ _ ⟨a,b⟩=>⟨a,aa (bg (cx _ _ none)) b,(dB.new W9 _ _).drew.grown b agI⟩
             clear bf;obtain⟨ef,eO,eb,dT,eI,eQ,cT,dq,dw,c9⟩:=Nj.o _ (cx W9 (.cells #[ι 0,υ 0,.string ⟨#[]⟩,ι 0,ι 0,ι 0,ι 0,.string ⟨#[]⟩,ι 0,υ 0,υ 0,ι 0,ι 0,υ 0,υ 0] 338) none)
             go_region_held3 (λw'=>w'.cell? ⟨w.heap.size+2,0,none⟩=some (ι l.ae)/\w'.cell? ⟨w.heap.size+2,1,none⟩=some (υ l.aN.toNat)/\w'.cell? ⟨w.heap.size+2,2,none⟩=some (.string l.ay)/\w'.cell? ⟨w.heap.size+2,3,none⟩=some (ι l.dV)/\w'.cell? ⟨w.heap.size+2,4,none⟩=some (ι l.start)/\w'.cell? ⟨w.heap.size+2,5,none⟩=some (ι l.fin)/\w'.cell? ⟨w.heap.size+2,6,none⟩=some (ι l.aC)/\w'.cell? ⟨w.heap.size,4,none⟩=some (.string q.aV)/\w'.cell? ⟨w.heap.size,5,none⟩=some (ι q.bU)/\w'.cell? ⟨w.heap.size+1,1,none⟩=some (υ t.aN.toNat)) (first|(with_reducible exact⟨kS Y z0,kS Y z1,kS Y z2,kS Y z3,kS Y z4,kS Y z5,kS Y z6,kS bL z7,kS bL z8,kS cu z9⟩)|go_keep) (first
              |(go_at_call 177;(with_reducible apply Calls.mono cL.o);rintro r xe ⟨rfl,ak⟩;have QT:=hid ak;clear ak;obtain⟨y0,y1,y2,y3,y4,y5,y6,y7,y8,y9⟩:=Nj.o _ QT.o;obtain⟨eh,dm,dR,e7,c8,dL,dY,ed,eR,eT⟩:=Nj.o _ (aM QT.o (.cells #[.int .i64 0,.int .u64 0,.string ⟨#[]⟩,.int .i64 0,.int .i64 0,.int .i64 0,.int .i64 0,.string ⟨#[]⟩,.int .i64 0,.int .u64 0,.int .u64 0,.int .i64 0,.int .i64 0,.int .u64 0,.int .u64 0] 338));obtain⟨eW,da,dF,ew,cZ,ez,eE,du,dX,ee⟩:=Nj.o _ (aM QT.o (.cells #[.int .i64 l.ae,.int .u64 (l.aN.toNat:Int),.string ⟨l.ay.toArray⟩,.int .i64 l.dV,.int .i64 l.start,.int .i64 l.fin,.int .i64 l.aC,.string ⟨q.aV.toArray⟩,.int .i64 sv.aH,.int .u64 (sv.key.toNat:Int),.int .u64 0,.int .i64 q.bU,.int .i64 0,.int .u64 (t.aN.toNat:Int),.int .u64 0] 338)))
              |(go_at_call 177;(with_reducible apply Calls.mono UL.o);rintro r xe ⟨rfl,ak,bz⟩;have QT:=hid ak;have f:=hid bz;clear ak bz;have t0:=f.o.cell 0;have dd:=f.o.frozen 0;have t1:=f.o.cell 1;have cU:=f.o.frozen 1;have t2:=f.o.cell 2;have ec:=f.o.frozen 2;have t3:=f.o.cell 3;have cV:=f.o.frozen 3;have t4:=f.o.cell 4;have c5:=f.o.frozen 4;have t5:=f.o.cell 5;have dP:=f.o.frozen 5;have t6:=f.o.cell 6;have e2:=f.o.frozen 6;have t7:=f.o.cell 7;have cY:=f.o.frozen 7;have t8:=f.o.cell 8;have dG:=f.o.frozen 8;have t9:=f.o.cell 9;have eX:=f.o.frozen 9;have dC:=f.o.cell 10;have di:=f.o.frozen 10;have dc:=f.o.cell 11;have dJ:=f.o.frozen 11;have ds:=f.o.cell 12;have eY:=f.o.frozen 12;have dW:=f.o.cell 13;have eJ:=f.o.frozen 13;have dh:=f.o.cell 14;have eu:=f.o.frozen 14;obtain⟨z0,z1,z2,z3,z4,z5,z6,z7,z8,z9⟩:=Nj.o _ QT.o))
             all_goals go_wp2
             all_goals go_meet
             all_goals have R:=kH.o _ _ _ _ K.o (CF.bF QT.o _)
             ·exact⟨_,rfl,(by have:=QT.o.size;omega),dB.new _ _ _,kH.o _ _ _ _ R (CF.bF (cx _ _ none) _)⟩
             ·exact⟨W9.heap.size,rfl,cI,YH f.o _ _ _ _ _ _ _ _ _ _ _ _ _ _ _,kH.o _ _ _ _ R (afK xe W9.heap.size _ _ _ _ _ _ _ _ _ _ _ _ _ _ _ _ (λ_=>.inr agE))⟩
            case rest=>
             obtain⟨rb,rfl,dn,hB,hX⟩:=hcut;have R:=hid hX;have Na:=hid hB;clear hX hB K af SK Nj x0 x1 x2 x3 x4 x5 x6 x7 x8 x9;obtain⟨rp,qM⟩:∃r:RP,r=⟨l,q.aV,sv.aH,sv.key,0,q.bU,0,t.aN,0⟩:=⟨_,rfl⟩
             have aP:nJ wc rb rp:=(by rw[qM];exact Na.o.range);have YQ:=ED Na.o 15 (cy 15);by_cases JF:n.aL.length<24
             ·obtain⟨ao,cap,hc⟩:=M0 R.o.bP;have HD:=hid (Sz i g rb n.aL.length cap ao rp wc R.o.hear.c3 JF hc aP YQ);rw[if_pos JF]at Y3;clear hc aP YQ qM JF
              go_wp2_with (first
               |(go_at_call 180;refine HD.o.mono ?_;clear HD;rintro r bq ⟨rfl,YR⟩;have yD:=hid YR;clear YR))
              go_meet;have hS:=kH.o _ _ _ _ R.o (yD.o.mono (λ_ _ _ e=>.inr agE));exact⟨_,_,rfl,⟨by decide,by decide⟩,Y3.o,hS.hear,hS.bP,hS.r,hS.big,hS.cf,hS.j⟩
             ·obtain⟨qd,aZ,hc,bd,bc,a6,bb⟩:=IK R.o.bP agE;have bl:=I.o.MX qd aZ;have cO:=HN.o.2;have HD:=hid (MV i g rb qd n.aL n.aL.length rp wc R.o.hear.c3 (hid rfl) agE bd bc hc (by have:=R.o.bP.live;rwa [cN]at this) a6 bl.1 (bb.lt) aP YQ agE ahI I.o.hbg);have ct:=hid (λW' off=>EC (W':=W') (rb:=rb) (off:=off) R.o.bP agE bd bc a6 bb);rw[if_neg JF]at Y3;obtain⟨ao,cap,hv,cS⟩:=vU R.o.r;subst hv;have c2:=R.o.hear.c2;have bZ:=hid qM;have cD:=hid aZ;have bO:=hid bl;have cQ:Hid (i≠rb):=(by have:=HN.o.1;exact hid agE);have cv:=hid YQ.lt;have HOr:Hid (Off A rb):=λp hp e=>by have:=cP.o p hp;omega
              have cM:Hid (∀W,nJ W rb (rp.drawn (eB n.aL 0) (eB n.aL 1) (eB n.aL 2))->Out W (.slice ao 0 cap) A []->rb<W.heap.size->Calls prog 187 #[(rb,0),.slice ao 0 cap] W λe w'=>∃v',e=.returned v'/\aU W w' v' A ([]++(rp.drawn (eB n.aL 0) (eB n.aL 1) (eB n.aL 2)).uW 13 5)):=
               λW h1 h2 h3=>Al (.slice ao 0 cap) A [] rb _ W h2 h1 h3 HOr.o (UU bZ.o bJ.o.1 HQ.o.2.2.1 (I.o.sV sv (mq xQ.o.2)) (lV xQ.o.2) (by rw[bJ.o.2,<-lV xQ.o.1];exact(I.o.sV cl (mq xQ.o.1)).name)) agI
              clear hc bd bc a6 bb bl cO aP YQ qM aZ JF
              go_wp2_with (first
               |(go_at_call 180;refine HD.o.mono ?_;clear HD;rintro r bq ⟨rfl,YS,YT,YR⟩;have cA:=hid YS;have cp:=hid YT;have yD:=hid YR;clear YS YT YR;have dU:=yD.o.cell c2 (λe=>by rcases e with⟨e,_⟩|e;exact I.o.hbg e;exact cQ.o e);have cB:=hid (fN cv.o yD.o.size))
               |(go_at_call 187;refine(cM.o _ cA.o (R.o.r.cf yD.o (λ_ _ j hj=>absurd hj agI)) cB.o).mono ?_;rintro r c1 ⟨v',rfl,bY⟩;have cr:=hid bY;clear bY))
              first|go_ret|(rw[Exit.noGoto_ret];go_ret)
              refine⟨_,rfl,?_⟩;rw[Y3.o];obtain⟨off,k1,k2,k3⟩:=cp.o;have hM:=cr.o;rw[QS bZ.o (lV xQ.o.2)]at hM;exact UX R.o.big R.o.cf yD.o agE YM.o R.o.j hM I.o (ct.o bq off k1 k2 k3 yD.o bO.o.1 (by have:=bO.o.2.2.1;omega) (by have:=HN.o.2;omega)) cD.o rfl
        ·have OV:=hid (SA y x now 7 6 2 1 agF agF agF agF);have p9:Hid (FR=(aY now (dS y x now 7 6 2 1),n)):=by
          rw[AJ.o,UR TT.o (eS.2 Ni.o) aiF aiG an];exact rfl
         generalize dS y x now 7 6 2 1=pcd at *;go_wp2_with fail;go_meet;exact⟨_,_,rfl,OV.o,p9.o,L.o.hear,L.o.bP,L.o.r,L.o.big,L.o.cf,L.o.j⟩
 case rest=>
  obtain⟨Q,M1,rfl,b2,YU,hH,hD,hO,aQ,hC,bT⟩:=hcut;have cG:=hid bT;clear bT;have cK:=hid (yC i g T F H G A now Q _ hH hO I.o.prH HQ.o.1 b2);have AJ:=hid YU;have HD:=hid hD;have HC:=hid hC;have HB:=hid aQ;clear hH hO b2 YU hD hC aQ;go_wp2_with (first|(go_at_call 141;refine cK.o.mono ?_;rintro e w9 ⟨v',rfl,M9⟩;have SK:=hid M9;clear M9))
  rw[Exit.noGoto_ret];go_ret;refine⟨_,rfl,?_⟩;rw[AJ.o];exact Ng HD.o HB.o HC.o SK.o I.o cG.o
end Go.Proofs.YtlfifnpjeangmaaGreatDoor
