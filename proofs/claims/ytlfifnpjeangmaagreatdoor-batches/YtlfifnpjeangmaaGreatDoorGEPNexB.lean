import Derived.Test.YtlfifnpjeangmaaGreatDoorGEQLookA
namespace Go.Proofs.YtlfifnpjeangmaaGreatDoor
set_option maxHeartbeats 20000000
open Proofs.Tryz Go.RowKit
set_option maxRecDepth 100000
variable {p:Prop}
theorem vf(h:p:=by rw[Zm.1];exact xU.2):p:=h
theorem vd(h:p:=by rw[Zm.1];exact xU.1):p:=h
variable {w:World}
theorem Vb(M)(a)(q):(iH M a q).2.aF=M.aF/\(iH M a q).2.aA=M.aA/\(iH M a q).2.aL=M.aL:=by
 grind [iH]
theorem SM{M:DM}{a:Int}{q:NQ}{t:TK}(h:(iH M a q).1=.ok t):t.In:=by
 unfold iH iW at h;split at h
 .cases h
 grind [YW,sH]
theorem Np{a c:Int}{q:NQ}{b:TK}{x s:BE}(h:oJ a q b x s=.error c):c=33\/c=32\/c=11:=by
 unfold oJ yC yD QL at h;grind
theorem Vd{W f l:World}{R g a T D:Nat}{M rv K:Value}{v x n:Option Pl}{J:World->Prop}{m sW:Nat->Nat->Prop}{A:DM}{L:List BE}{B:E}{qd u:Pl}(d:w.1.size<=W.1.size)(t:CF w W (th g v m))(k:CF W f (λb y=>b=g/\y=1\/b=D))(V:w.1.size<=D)(r:a<=w.1.size)(C:J W)(h:aU f l K x B)(S:HS R g a T M rv v x n J m sW L)(U:dE f g 0 (some u) A)(hdp:n=some qd)(hg:u.g=qd.g):Fin w l g v x n m K (B,A)/\J l:=by
 obtain⟨X,P,p,Q,_⟩:=h;refine⟨?_,S.finds.stay _ _ (S.finds.stay _ _ C (k.mono (λb y _ e=>by rcases e with e|e;rw[e.1,e.2];exact S.aej;rw[e];exact S.AO _ _ G))) (p.mono (λb y _ e=>S.prJ b y e))⟩;refine⟨⟨X,P,Q.imp id (λq=>mJ q (cE d k.size))⟩,⟨some u,U.cf p (λj _ C e=>S.prG j G e) (λq hq j _ e=>?_),λi b=>⟨qd,hdp,?_⟩⟩,?_⟩
 .exact D2
 .injection b with b;subst b;exact hg.symm
 .exact((t.mono (λ_ _ _ e=>by rcases e with e|e;exact .inr (.inl e);exact .inl ⟨e.1,.inr e.2⟩)).trans k (λi o j e=>by rcases e with e|e;exact .inl ⟨e.1,.inl e.2⟩;omega)).trans p (λ_ _ _ e=>.inr (.inr e))
theorem wh.grown{m:World}{l:Option Pl}{i:Nat->Nat->Prop}{z:E}{v:Value}(h:wh w l i z v)(k:w.grownBy m none):wh m l i z v:=by
 obtain⟨n,d,o,p,q,f⟩:=h;exact⟨n,d,o,p,q.below k,λb a e j g=>⟨(f b a e j g).1,(f b a e j g).2.1,fN (f b a e j g).2.2 k.size⟩⟩
theorem pV{b:Nat}(h:b' w b 7):(∃d,w.c b 0=some d)/\(∃d,w.c b 1=some d)/\(∃d,w.c b 2=some d)/\(∃d,w.c b 3=some d)/\(∃d,w.c b 4=some d)/\(∃d,w.c b 5=some d)/\(∃d,w.c b 6=some d)/\w.z b 0=false/\w.z b 1=false/\w.z b 2=false/\w.z b 3=false/\w.z b 4=false/\w.z b 5=false/\w.z b 6=false:=by
 have a:=λj d=>cA.1 (h.some j d);exact⟨a 0 O,a 1 O,a 2 O,a 3 O,a 4 O,a 5 O,a 6 O,h.frozen 0,h.frozen 1,h.frozen 2,h.frozen 3,h.frozen 4,h.frozen 5,h.frozen 6⟩
theorem GU(h:p:=by
 simp only[sI]at this
 injection this with this
 have h2:=congrArg (λa:Array Value=>a[1]?) this
 simpa using h2.symm):p:=h
theorem EK(l g ad T)(Q rv U R)(B C L)(J:World->Prop)(n sW:Nat->Nat->Prop)(M)(d)(q)(v u)(w)(S:HS l g ad T Q rv B C L J n sW M.aF)(h:yE w l g T Q U R d)(hd:dE w g 0 L M)(hJ:J w)(ho:f' w U B [])(hr:f' w R C [])(hv:wh w B n q.dO v)(hu:wh w B n q.proof u)(dB:b9 d)(cu:b9 M.aA)(Ai:∀y∈M.aJ,b9 y.time)(P:b9 q.bV)(X:b9 q.dI)(cp:b9 q.bX)(cr:b9 q.aO)(K:ad<=w.1.size):Calls prog 140 #[π l 0,.agg (q.cells v u).toArray] w λe f=>∃v',e=.returned v'/\Fin w f g B C L n v' (tT M d q)/\J f:=by
 have jb:=S.hbb
 have jc:=S.gb
 obtain⟨W0,hW0⟩:=aw (((w.alloc (.cells (q.cells v u).toArray 276)).alloc (.cells jA 333)).alloc (.cells jA 333))
 have m:w.grownBy W0 none:=by grind [aM,cx]
 have RQ:W0.rangeAt w.1.size 0 (q.cells v u):=by grind [gZ,aS,aM,cx]
 have L1:b' W0 (w.1.size+1) 7:=by
  have h:=(b'.new (w.alloc (.cells (q.cells v u).toArray 276)) jA 333).grown (cx _ (.cells jA 333) none);exact tA
 have L2:b' W0 (w.1.size+2) 7:=by
  have h:=b'.new ((w.alloc (.cells (q.cells v u).toArray 276)).alloc (.cells jA 333)) jA 333;rw[cF,cF]at h;rw[hW0];exact h
 have r:∀b y,Pl.has B b y->b<w.1.size:=λb y e=>ho.lt e
 have Y4:=λp hp=>hr.K8 p hp
 obtain⟨AR,x⟩:=N (iH M d q)
 have A:=U4 l g ad T Q rv U R B C L J n sW M d q v u W0 S (h.grown m) (hd.grown m) (S.finds.stay _ _ hJ (CF.bF m _)) (ho.grown m) (hr.grown m) (hv.grown m) (hu.grown m) dB Ai (cE K m.size)
 rw[x]at A
 obtain⟨m0,m1,m2,m3,m4,m5,m6,m7,hm⟩:=pU AR.1
 rw[hm]at A
 have D:∀W,dE W g 0 L AR.2->CF W0 W (λb y=>th g B n b y\/b=w.1.size+1)->J W->∀i,W.rangeAt (w.1.size+1) 0 i->KV J w W l g T Q U R B C L n AR.2 d (q.cells v u) i:=by
  intro W hD hC V i hO;refine⟨⟨(h.grown m).cf hC ?_,hD,(ho.grown m).cf hC fA,(hr.grown m).cf hC fA,hC.range RQ ?_,hO,L2.cf hC,cE m.size hC.size,(CF.before m hC).mono fA⟩,V⟩
  .rintro y (((e|e)|e)|e)
   .exact S.hbF y e
   .exact pE S.poH y e
   .exact S.hbg e.1
   .omega
  .rintro j _ (((e|e)|e)|e)
   .exact S.UT _ _ G e
   .have:=r _ _ e;omega
   .omega
   .omega
 have kI:Hid (∀W W' M1 i,KV J w W l g T Q U R B C L n M1 d (q.cells v u) i->CF W W' (λb y=>Pl.has B b y\/w.1.size+1<b)->KV J w W' l g T Q U R B C L n M1 d (q.cells v u) i):=λW W' M1 i h k=>h.step S k K r
 have AP:Hid (∀W W' M1 i,KV J w W l g T Q U R B C L n M1 d (q.cells v u) i->CF W W' n->J W'->KV J w W' l g T Q U R B C L n M1 d (q.cells v u) i):=λW W' M1 i h k j=>⟨h.toNX.step S (k.mono (λ_ _ _ e=>.inl (.inl e))) K r,j⟩
 have Y6:=I K
 have bx:=I D
 have av:=I A
 have HM:=I hm
 have Zg:=I x
 have Dh:=I L1
 have ai:=I S.finds.stay
 have V:=I S
 have cb:=I hW0
 have sS:=I m
 have SA:=I r
 have gl:=I Y4
 have cj:Hid (AR.2.aF=M.aF/\AR.2.aA=M.aA/\AR.2.aL=M.aL):=by grind [Vb]
 have HQ:Hid (b9 d/\b9 M.aA/\b9 q.bV/\b9 q.dI/\b9 q.bX/\b9 q.aO):=⟨dB,cu,P,X,cp,cr⟩
 have HN:Hid (l<w.1.size/\g<w.1.size):=⟨by omega,by omega⟩
 have Pb:=I RQ
 obtain⟨FR,k⟩:=N (tT M d q)
 rw[k]
 have SY:=I k
 have i:=Nb M d q
 rw[k,x]at i
 have an:=I i
 clear i k x hm A D h hd hJ ho hr hv hu dB cu Ai P X cp cr hW0 m RQ L1 L2 r Y4 S
 go_in
 go_wp2_with fail
 go_step3
 go_wp2_with fail
 go_step3
 go_upto_block 0 with fail
 go_cut [5] (λc D=>∃ab M1,c = Y ab/\b9 ab/\FR=(aY d ab,M1)/\yE D l g T Q U R d/\dE D g 0 L M1/\f' D R C []/\w.1.size<=D.1.size/\CF w D (th g B n)/\J D)
 case first=>
  go_upto_region 3 with fail
  rw[<-cb];obtain⟨k0,k1,k2,k3,k4,k5,k6,k7,k8⟩:=lI Pb.o;go_cut [5] (λc D=>c = Y m7/\KV J w D l g T Q U R B C L n AR.2 d (q.cells v u) [Y m0,H m1,.string m2,Y m3,Y m4,Y m5,Y m6]/\J D)
  case first=>
   go_wp2_with (first|(go_at_call 183;refine av.mono ?_;clear av;rintro r P ⟨rfl,x,A,k⟩;have m:=I x;have Yl:=I A;have S:=I k;have i:=I (Dh.cf k);clear x A k;obtain⟨⟨d0,q0⟩,⟨d1,q1⟩,⟨d2,q2⟩,⟨d3,q3⟩,⟨d4,q4⟩,⟨d5,q5⟩,⟨d6,q6⟩,f0,f1,f2,f3,f4,f5,f6⟩:=pV i))
   go_meet;have k:=ui P (w.1.size+1) (Y m0) (H m1) (.string m2) (Y m3) (Y m4) (Y m5) (Y m6);have J2:=ai _ _ Yl (k.mono (λb y _ e=>V.AO b y G));refine⟨rfl,bx _ ?_ ?_ J2 _ (jI [Y m0,H m1,.string m2,Y m3,Y m4,Y m5,Y m6] 0 P (w.1.size+1) 7 i (cy 7)),?_⟩
   .exact m.cf k G (λp hp j _ e=>by have:=(V.M6 p hp).2.2.1;omega)
   .exact(S.mono (λ_ _ _ e=>.inl e)).trans k (λ_ _ _ e=>.inr e)
   .exact J2
  case rest=>
   obtain⟨rfl,hX,hj⟩:=hcut;have tH:=I hX;have Yl:=I hj;clear hX hj k0 k1 k2 k3 k4 k5 k6 k7 k8 av bx Dh cb sS Pb;obtain⟨A1,k,hA⟩:∃a b,AR=(a,b):=⟨AR.1,AR.2,rfl⟩
   subst hA;cases A1 with
   |error cd=>
    have bk:=AU (c:=cd) (by rw[Zg]);have Ze:FR=(aY d cd,k):=an.o;have bm:m7=cd:=by
     have:=HM.o;exact GU
    subst bm;have AQ:=I Ze;clear Ze HM an Zg;rcases bk with rfl|rfl|rfl|rfl|rfl|rfl|rfl
    all_goals
     go_wp2_with fail
     go_meet
     exact⟨_,_,rfl,⟨by decide,by decide⟩,AQ,tH.hear,tH.bP,tH.r,tH.big,tH.cf,tH.j⟩
   |ok t=>
    have hm:=HM.o;simp only[sI]at hm;have ca:=I (SM (t:=t) (by rw[Zg]));have Ze:FR=dA k d (eu k d q t):=an.o;have AQ:=I Ze;injection hm with hm;have e0:Value.agg t.cells.toArray=Value.agg #[Y m0,H m1,.string m2,Y m3,Y m4,Y m5,Y m6]:=Option.some.inj (congrArg (λa:Array Value=>a[0]?) hm);have e1:Value.int .i64 0=Value.int .i64 m7:=Option.some.inj (congrArg (λa:Array Value=>a[1]?) hm);injection e0 with e0;injection e1 with _ e1;have e0:t.cells=[Y m0,H m1,.string m2,Y m3,Y m4,Y m5,Y m6]:=congrArg Array.toList e0;subst e1;rw[<-e0]at tH;clear hm e0 Ze HM an;have tH:Hid (KV J w wc l g T Q U R B C L n k d (q.cells v u) t.cells):=tH.o;have i:k.aF=M.aF/\k.aA=M.aA/\k.aL=M.aL:=cj.o;have Zm:=I i;clear i cj Zg;have bo:Hid (∀W,KV J w W l g T Q U R B C L n k d (q.cells v u) t.cells->Calls prog 184 #[π l 0,Y t.start] W λe f=>e=.returned (.bool (decide (aW d M.aA<t.start)))/\∃m,f=W.drewN m):=λW X=>by
     have i:=X.bP.aA;rw[Zm.2.1]at i;exact Bp l g d M.aA t.start W X.hear.c3 X.hear.c4 i HQ.1 HQ.2.1
    obtain⟨k0,k1,k2,k3,k4,k5,k6,k7,k8⟩:=lI tH.ask;have t0:wc.c (w.1.size+1) 0=some (Y t.ae):=tH.old 0 _ rfl;have t4:wc.c (w.1.size+1) 4=some (Y t.start):=tH.old 4 _ rfl;have ck:=I (kH t.ae 16 4 O O);have cm:=I (kH q.aO 32 5 O O);obtain⟨er,i⟩:=N ((aI t.ae 16&&!aI q.aO 32||decide (aW d M.aA<t.start)));have Tg:=I i;clear i;go_upto_region 6 with fail
    go_cut [33] (λc D=>c=.bool er/\KV J w D l g T Q U R B C L n k d (q.cells v u) t.cells/\J D)
    case first=>
     have i:=ck.o;have x:=cm.o;have A:=bo wc tH.o;obtain⟨ah,P⟩:=N (decide (aW d M.aA<t.start));rw[P]at A Tg;have S:=I A;clear A P;generalize aI t.ae 16=b16 at *;generalize aI q.aO 32=b32 at *;cases b16 with
     |true=>
      rw[eV]at i;have gv:=cJ.1 i;cases b32 with
      |false=>
       rw[eM]at x;have cz:=db.1 x;clear i x;go_wp2_with fail;go_meet;exact⟨by rw[<-Tg];rfl,tH,Yl⟩
      |true=>
       rw[eV]at x;have cz:=cJ.1 x;clear i x;go_wp2_with (first|(go_at_call 184;refine S.mono ?_;clear S;rintro r w2 ⟨rfl,m,P⟩;have A:Hid (wc.grownBy w2 none):=(by rw[P];exact aR (cC _ _) m);clear P))
       go_meet;exact⟨by rw[<-Tg];simp[cz],kI.o _ _ _ _ tH.o (CF.bF A.o _),ai.o _ _ Yl.o (CF.bF A.o _)⟩
     |false=>
      rw[eM]at i;have gv:=db.1 i;clear i x;go_wp2_with (first|(go_at_call 184;refine S.mono ?_;clear S;rintro r w2 ⟨rfl,m,P⟩;have A:Hid (wc.grownBy w2 none):=(by rw[P];exact aR (cC _ _) m);clear P))
      go_meet;exact⟨by rw[<-Tg];simp,kI.o _ _ _ _ tH.o (CF.bF A.o _),ai.o _ _ Yl.o (CF.bF A.o _)⟩
    case rest=>
     obtain⟨rfl,hX,hj⟩:=hcut;have vI:=I hX;have bs:=I hj;clear hX hj tH Yl k0 k1 k2 k3 k4 k5 k6 k7 k8 t0 t4 ck cm bo;obtain⟨k0,k1,k2,k3,k4,k5,k6,k7,k8⟩:=lI vI.ask;cases er with
     |true=>
      have qa:Hid (FR=(aY d 33,k)):=by
       rw[AQ,Q3]
       .exact rfl
       .have:=Tg.o;rw[Zm.2.1];simpa using this
      go_wp2_with fail;go_meet;exact⟨_,_,rfl,⟨by decide,by decide⟩,qa,vI.hear,vI.bP,vI.r,vI.big,vI.cf,vI.j⟩
     |false=>
      have Ue:Hid (¬ (aI t.ae 16=true/\aI q.aO 32=false\/aW d k.aA<t.start)):=by
       refine I ?_;have:=Tg.o;rw[Zm.2.1];simpa using this
      have t5:wc.c (w.1.size+1) 5=some (Y t.fin):=vI.old 5 _ rfl;have c4:=vI.hear.c4;by_cases ak:t.fin<d
      .have qa:Hid (FR=(aY d 32,k)):=(by rw[AQ,U6 Ue.o ak];exact rfl);go_wp2_with fail;go_quiet (fail)
       go_wp2;go_meet;have hS:=kI wc (wc.drewN nq) _ _ vI (CF.bF (aR (cC _ _) nq) _);exact⟨_,_,rfl,⟨by decide,by decide⟩,qa,hS.hear,hS.bP,hS.r,hS.big,hS.cf,hS.j⟩
      .have Nq:=I ak;go_wp2_with fail;go_quiet (fail)
       go_wp2_with fail;obtain⟨W2,i⟩:=aw ((wc.drewN nq).alloc (.cells J5 324));have x:wc.grownBy W2 none:=(by rw[i];exact aM (aR (cC _ _) nq) _);obtain⟨A,m⟩:=aw wc.1.size;have P:b' W2 A 16:=(by rw[i,m];exact b'.new (wc.drewN nq) J5 _);have hi:w.1.size+2<A:=(by rw[m];exact vI.made.lt);have ar:=I (kI _ _ _ _ vI (CF.bF x _));have bt:=I (ai _ _ bs (CF.bF x _));have bu:=I P;rw[<-i,<-m];clear i x P m vI bs k0 k1 k2 k3 k4 k5 k6 k7 k8 t5 c4;obtain⟨y,hy⟩:=N (BE.find M.aF q.aV);obtain⟨x,S⟩:=N (BE.find M.aF t.ay);have i:∀W,J W->KV J w W l g T Q U R B C L n k d (q.cells v u) t.cells->Calls prog 171 #[π l 0,.agg #[.string ⟨q.aV.toArray⟩,Y 7,Y 2],.agg #[.string ⟨t.ay.toArray⟩,Y 6,Y 1]] W λe f=>e=.returned (.tuple #[.agg (rG y).toArray,.agg (rG x).toArray,Y (dS y x d 7 6 2 1)])/\J f/\CF W f n:=by
        intro W P m;have:=Iy l ad T Q rv J n sW M.aF q.aV t.ay 7 2 6 1 d W V.afQ V.finds P m.hear.c0 m.hear.c4 V.hbF V.UT V.AO (cE K m.big);rw[hy,S]at this;exact this
       obtain⟨v0,v1,v2,v3,v4,v5,v6,v7,hv⟩:=iM x;obtain⟨u0,u1,u2,u3,u4,u5,u6,u7,hu⟩:=iM y;rw[hv,hu]at i;have bp:=I i;have HV:=I hv;have HU:=I hu;have xU:=I (dN S hy);clear i hv hu S hy;have na:A≠w.1.size:=G;have nb:A≠w.1.size+1:=G;have a0:W2.c w.1.size 4=some (.string ⟨q.aV.toArray⟩):=ar.ask 4 _ rfl;have a1:W2.c (w.1.size+1) 2=some (.string ⟨t.ay.toArray⟩):=ar.old 2 _ rfl;go_cut [5] (λc D=>c = Y (dS y x d 7 6 2 1)/\D.rangeAt A 0 [.string v0,Y v1,H v2,H v3,Y v4,Y v5,Y v6,Y v7]/\D.rangeAt A 8 [.string u0,Y u1,H u2,H u3,Y u4,Y u5,Y u6,Y u7]/\KV J w D l g T Q U R B C L n k d (q.cells v u) t.cells/\J D)
       case first=>
        go_region_held3 (λf=>f.c w.1.size 4=some (.string ⟨q.aV.toArray⟩)/\f.c (w.1.size+1) 2=some (.string ⟨t.ay.toArray⟩)) (go_keep) (first
         |(go_at_call 173;refine(xS _ _).mono ?_;rintro e w4 ⟨rfl,g4⟩;have FJ:=I (jg g4);have GK:=I (kI _ _ _ _ ar (CF.bF (jg g4) _));clear g4;have gw:=GK.ask 4 _ rfl;have gx:w4.cell? ⟨w.1.size+1,2,none⟩=some (.string ⟨t.ay.toArray⟩):=GK.old 2 _ rfl)
         |(go_at_call 172;refine(zR _ _).mono ?_;rintro e w5 ⟨rfl,g5⟩;have MZ:=I (aa FJ g5);have P:=I (kI _ _ _ _ GK (CF.bF g5 _));clear g5;have hk:=P.ask 4 _ rfl;have hl:w5.cell? ⟨w.1.size+1,2,none⟩=some (.string ⟨t.ay.toArray⟩):=P.old 2 _ rfl)
         |(go_at_call 171;refine(bp _ (ai _ _ bt (CF.bF MZ _)) P).mono ?_;rintro e m ⟨rfl,j6,S⟩;have ff:=I j6;have QX:=I (AP _ _ _ _ P S j6);have Nk:=I ((bu.grown MZ).cf S);clear S j6;have hq:=QX.ask 4 _ rfl;have ht:m.cell? ⟨w.1.size+1,2,none⟩=some (.string ⟨t.ay.toArray⟩):=QX.old 2 _ rfl;have i:=zS Nk.o;obtain⟨d0,q0⟩:=i.1 0 O;have f0:=i.2 0;obtain⟨d1,q1⟩:=i.1 1 O;have f1:=i.2 1;obtain⟨d2,q2⟩:=i.1 2 O;have f2:=i.2 2;obtain⟨d3,q3⟩:=i.1 3 O;have f3:=i.2 3;obtain⟨d4,q4⟩:=i.1 4 O;have f4:=i.2 4;obtain⟨d5,q5⟩:=i.1 5 O;have f5:=i.2 5;obtain⟨d6,q6⟩:=i.1 6 O;have f6:=i.2 6;obtain⟨d7,q7⟩:=i.1 7 O;have f7:=i.2 7;obtain⟨d8,q8⟩:=i.1 8 O;have f8:=i.2 8;obtain⟨d9,q9⟩:=i.1 9 O;have f9:=i.2 9;obtain⟨ia,jl⟩:=i.1 10 O;have im:=i.2 10;obtain⟨ib,jm⟩:=i.1 11 O;have ir:=i.2 11;obtain⟨ie,jn⟩:=i.1 12 O;have iu:=i.2 12;obtain⟨ih,jr⟩:=i.1 13 O;have iv:=i.2 13;obtain⟨ij,js⟩:=i.1 14 O;have ix:=i.2 14;obtain⟨il,jt⟩:=i.1 15 O;have iz:=i.2 15;clear i))
        go_wp2;go_meet;have S:=jI [.string u0,Y u1,H u2,H u3,Y u4,Y u5,Y u6,Y u7] 8 m A 16 Nk Z;have P:CF m (m.setCells A 8 [.string u0,Y u1,H u2,H u3,Y u4,Y u5,Y u6,Y u7]) (λb _=>b=A):=CF.setCells A _ 8 m (CF.refl _ _) (λ_ _ _=>rfl);have i:CF (m.setCells A 8 [.string u0,Y u1,H u2,H u3,Y u4,Y u5,Y u6,Y u7]) ((m.setCells A 8 [.string u0,Y u1,H u2,H u3,Y u4,Y u5,Y u6,Y u7]).setCells A 0 [.string v0,Y v1,H v2,H v3,Y v4,Y v5,Y v6,Y v7]) (λb y=>b=A/\y<8):=CF.setCells A _ 0 _ (CF.refl _ _) (λj hj _=>⟨rfl,by simp at hj;omega⟩);have m:=jI [.string v0,Y v1,H v2,H v3,Y v4,Y v5,Y v6,Y v7] 0 _ A 16 (Nk.cf P) Z;refine⟨rfl,m,i.range S (λ_ _ e=>by omega),kI.o _ _ _ _ QX.o ((P.mono (λb _ _ e=>.inr G)).trans i (λ_ _ _ e=>.inr G)),?_⟩;exact ai _ _ ff ((P.mono (λb y _ e=>V.AO b y G)).trans i (λb y _ e=>V.AO b y G))
       case rest=>
        obtain⟨rfl,i,m,hX,hj⟩:=hcut;have yQ:=I hX;have fi:=I hj;have Iz:=I i;have SB:=I m;clear hX hj i m a0 a1 ar bt bu bp;obtain⟨k0,k1,k2,k3,k4,k5,k6,k7,k8⟩:=lI yQ.ask;have t0:wc.c (w.1.size+1) 0=some (Y t.ae):=yQ.old 0 _ rfl;by_cases al:dS y x d 7 6 2 1=0
        .obtain⟨S,cl,rfl,rfl⟩:=IM O O al;have hP:fo wc A cl S:=⟨by have h:=Iz.o;rw[<-HV]at h;exact h,by have h:=SB.o;rw[<-HU]at h;exact h⟩
         have Nh:=I hP;have yP:=I al;rw[al];clear al hP Iz SB HV HU;have af:=I (M3 q.aO t.ae wc HQ.2.2.2.2.2);cases aj:ku q.aO t.ae with
         |false=>
          rw[aj]at af;have qa:Hid (FR=(aY d 13,k)):=by
           rw[AQ,U9 Ue.o (eS.2 Nq.o) vf vd yP.o aj];exact rfl
          clear aj;go_wp2_with (first|(go_at_call 185;refine af.mono ?_;clear af;rintro r w8 ⟨rfl,rfl⟩))
          go_meet;exact⟨_,_,rfl,⟨by decide,by decide⟩,qa,yQ.hear,yQ.bP,yQ.r,yQ.big,yQ.cf,yQ.j⟩
         |true=>
          rw[aj]at af;have qf:=I aj;clear aj;go_wp2_with (first|(go_at_call 185;refine af.mono ?_;clear af;rintro r w8 ⟨rfl,rfl⟩))
          clear k0 k1 k2 k3 k4 k5 k6 k7 k8 t0;have ay:Hid (∀W,fo W A cl S->Calls prog 186 #[π A 0,Y d,.agg (q.cells v u).toArray,.agg t.cells.toArray] W λe f=>e=.returned (sI (oJ d q t cl S))/\W.grownBy f none):=λW P=>by
           have m:=V.sZ cl (mq xU.1);have i2:=V.sZ S (mq xU.2);exact UQ A d q v u t cl S W P HQ.1 m.bI i2.bI m.aC i2.aC ca.o
          obtain⟨GM,i⟩:=N (oJ d q t cl S);obtain⟨n0,n1,n2,n3,n4,n5,n6,n7,m⟩:=pU GM;rw[i,m]at ay;have ae:=I i;have Ti:=I m;clear i m;have au:Hid (∀W,KV J w W l g T Q U R B C L n k d (q.cells v u) t.cells->W.c l 4=some (Y d)/\W.c w.1.size 0=some (.string ⟨q.fU.toArray⟩)/\W.c w.1.size 1=some (Y q.oC)/\W.c w.1.size 2=some (v)/\W.c w.1.size 3=some (u)/\W.c w.1.size 4=some (.string ⟨q.aV.toArray⟩)/\W.c w.1.size 5=some (Y q.bV)/\W.c w.1.size 6=some (Y q.dI)/\W.c w.1.size 7=some (Y q.bX)/\W.c w.1.size 8=some (Y q.aO)/\W.c (w.1.size+1) 0=some (Y t.ae)/\W.c (w.1.size+1) 1=some (H (t.aN.toNat:Int))/\W.c (w.1.size+1) 2=some (.string ⟨t.ay.toArray⟩)/\W.c (w.1.size+1) 3=some (Y t.dV)/\W.c (w.1.size+1) 4=some (Y t.start)/\W.c (w.1.size+1) 5=some (Y t.fin)/\W.c (w.1.size+1) 6=some (Y t.aC)):=λW X=>⟨X.hear.c4,X.ask 0 _ rfl,X.ask 1 _ rfl,X.ask 2 _ rfl,X.ask 3 _ rfl,X.ask 4 _ rfl,X.ask 5 _ rfl,X.ask 6 _ rfl,X.ask 7 _ rfl,X.ask 8 _ rfl,X.old 0 _ rfl,X.old 1 _ rfl,X.old 2 _ rfl,X.old 3 _ rfl,X.old 4 _ rfl,X.old 5 _ rfl,X.old 6 _ rfl⟩
          have cn:=I (λW (X:KV J w W l g T Q U R B C L n k d (q.cells v u) t.cells)=>au _ (kI _ _ _ _ X ((ui W (w.1.size+2) (Y n0) (H n1) (.string n2) (Y n3) (Y n4) (Y n5) (Y n6)).mono (λb _ _ e=>.inr G))));obtain⟨x4,dc,dd,df,dn,dq,ds,dt,dv,ea,eb,ec,ed,ei,et,ev,fa⟩:=au _ yQ.o;obtain⟨W7,i⟩:=aw w8;rw[<-i]at yQ fi Nh x4 dc dd df dn dq ds dt dv ea eb ec ed ei et ev fa;rw[<-i];clear i;go_cut [5] (λc D=>c = Y n7/\D.rangeAt (w.1.size+2) 0 [Y n0,H n1,.string n2,Y n3,Y n4,Y n5,Y n6]/\KV J w D l g T Q U R B C L n k d (q.cells v u) t.cells/\fo D A cl S)
          case first=>
           have i:=Nh.grown (bg (cC _ _));have m:=I (ay _ i);clear i
           go_region_held3 (λf=>f.c l 4=some (Y d)/\f.c w.1.size 0=some (.string ⟨q.fU.toArray⟩)/\f.c w.1.size 1=some (Y q.oC)/\f.c w.1.size 2=some (v)/\f.c w.1.size 3=some (u)/\f.c w.1.size 4=some (.string ⟨q.aV.toArray⟩)/\f.c w.1.size 5=some (Y q.bV)/\f.c w.1.size 6=some (Y q.dI)/\f.c w.1.size 7=some (Y q.bX)/\f.c w.1.size 8=some (Y q.aO)/\f.c (w.1.size+1) 0=some (Y t.ae)/\f.c (w.1.size+1) 1=some (H (t.aN.toNat:Int))/\f.c (w.1.size+1) 2=some (.string ⟨t.ay.toArray⟩)/\f.c (w.1.size+1) 3=some (Y t.dV)/\f.c (w.1.size+1) 4=some (Y t.start)/\f.c (w.1.size+1) 5=some (Y t.fin)/\f.c (w.1.size+1) 6=some (Y t.aC)) (first|(with_reducible exact cn.o _ P.o)|go_keep) (first
            |(go_at_call 186;refine m.mono ?_;clear m;rintro r w9 ⟨rfl,i⟩;have P:=I (kI _ _ _ _ yQ (CF.bF (jg i) _));have ag:=I (Nh.grown (jg i));clear i;obtain⟨y4,X,la,lb,ld,lf,lj,lk,ll,ln,lo,lp,lr,lv,lx,ly,lz⟩:=au _ P.o;obtain⟨⟨d0,q0⟩,⟨d1,q1⟩,⟨d2,q2⟩,⟨d3,q3⟩,⟨d4,q4⟩,⟨d5,q5⟩,⟨d6,q6⟩,f0,f1,f2,f3,f4,f5,f6⟩:=pV P.made))
           go_wp2;go_meet;have i:=ui w9 (w.1.size+2) (Y n0) (H n1) (.string n2) (Y n3) (Y n4) (Y n5) (Y n6);exact⟨rfl,jI [Y n0,H n1,.string n2,Y n3,Y n4,Y n5,Y n6] 0 w9 (w.1.size+2) 7 P.made (cy 7),kI _ _ _ _ P (i.mono (λb _ _ e=>.inr G)),ag.cf i (λ_ e=>by omega)⟩
          case rest=>
           obtain⟨rfl,hM,hX,hP⟩:=hcut;have P:=I hX;have ag:=I hP;have Te:=I hM;clear hX hP hM x4 dc dd df dn dq ds dt dv ea eb ec ed ei et ev fa yQ Nh ay;cases GM with
           |error cd=>
            have bm:n7=cd:=by
             have:=Ti.o;exact GU
            subst bm;have qa:Hid (FR=(aY d n7,k)):=by
             rw[AQ,Zk Ue.o (eS.2 Nq.o) vf vd yP.o qf.o ae.o];exact rfl
            have bk:=Np ae.o;clear Ti ae;rcases bk with rfl|rfl|rfl
            all_goals
             go_wp2_with fail
             go_meet
             exact⟨_,_,rfl,⟨by decide,by decide⟩,qa,P.hear,P.bP,P.r,P.big,P.cf,P.j⟩
           |ok m=>
            have hm:=Ti.o;simp only[sI]at hm;injection hm with hm;have e0:Value.agg m.cells.toArray=Value.agg #[Y n0,H n1,.string n2,Y n3,Y n4,Y n5,Y n6]:=Option.some.inj (congrArg (λa:Array Value=>a[0]?) hm);have e1:Value.int .i64 0=Value.int .i64 n7:=Option.some.inj (congrArg (λa:Array Value=>a[1]?) hm);injection e0 with e0;injection e1 with _ e1;have e0:m.cells=[Y n0,H n1,.string n2,Y n3,Y n4,Y n5,Y n6]:=congrArg Array.toList e0;subst e1;rw[<-e0]at Te;have Zn:=I (SO Ue (eS.2 Nq) vf vd yP qf ae);have bq:=I (Zl ca HQ.1 HQ.2.2.2.1 HQ.2.2.2.2.1 ae);rw[<-AQ]at Zn;clear hm e0 Ti ae AQ Ue Nq Tg au cn;have Nr:Hid (∀W,wc.grownBy W none->W.c (w.1.size+2) 0=some (Y m.ae)/\W.c (w.1.size+2) 1=some (H (m.aN.toNat:Int))/\W.c (w.1.size+2) 2=some (.string ⟨m.ay.toArray⟩)/\W.c (w.1.size+2) 3=some (Y m.dV)/\W.c (w.1.size+2) 4=some (Y m.start)/\W.c (w.1.size+2) 5=some (Y m.fin)/\W.c (w.1.size+2) 6=some (Y m.aC)/\W.c w.1.size 4=some (.string ⟨q.aV.toArray⟩)/\W.c w.1.size 5=some (Y q.bV)/\W.c (w.1.size+1) 1=some (H (t.aN.toNat:Int))):=λW i=>⟨i.cell (Te 0 _ rfl) Z,i.cell (Te 1 _ rfl) Z,i.cell (Te 2 _ rfl) Z,i.cell (Te 3 _ rfl) Z,i.cell (Te 4 _ rfl) Z,i.cell (Te 5 _ rfl) Z,i.cell (Te 6 _ rfl) Z,i.cell (P.ask 4 _ rfl) Z,i.cell (P.ask 5 _ rfl) Z,i.cell (P.old 1 _ rfl) Z⟩
            obtain⟨x0,x1,x2,x3,x4,x5,x6,x7,x8,x9⟩:=Nr _ (cC _ _);go_wp2_with fail;obtain⟨W9,X⟩:=aw wc;rw[<-X]at P ag Te Nr x0 x1 x2 x3 x4 x5 x6 x7 x8 x9;rw[<-X];clear X;go_cut [9] (λp D=>∃rb,p = π rb 0/\w.1.size+2<rb/\dz D rb #[Y m.ae,H (m.aN.toNat:Int),.string ⟨m.ay.toArray⟩,Y m.dV,Y m.start,Y m.fin,Y m.aC,.string ⟨q.aV.toArray⟩,Y S.aH,H (S.key.toNat:Int),H 0,Y q.bV,Y 0,H (t.aN.toNat:Int),H 0]/\KV J w D l g T Q U R B C L n k d (q.cells v u) t.cells)
            case first=>
             have gm:=P.made.lt;have cv:w.1.size≠W9.1.size:=G;have gr:w.1.size+1≠W9.1.size:=G;have X:w.1.size+2≠W9.1.size:=G;have D:∀W,W9.grownBy W none->Calls prog 177 #[π A 8] W λr f=>r=.returned (.agg #[Y S.aH,H (S.key.toNat:Int)])/\W.grownBy f none:=λW i=>sV A 8 S W (i.cell (ag.s 1 _ rfl) Z) (i.cell (ag.s 2 _ rfl) Z);have fl:Hid (Calls prog 177 #[π A 8] W9.drew λr f=>r=.returned (.agg #[Y S.aH,H (S.key.toNat:Int)])/\W9.grownBy f none):=(D _ (bg (cC _ _))).mono λ_ _ ⟨a,b⟩=>⟨a,jg b⟩
             have UZ:Hid (Calls prog 177 #[π A 8] ((W9.alloc (.cells #[Y 0,H 0,ε,Y 0,Y 0,Y 0,Y 0,ε,Y 0,H 0,H 0,Y 0,Y 0,H 0,H 0] 338)).drew) λr f=>r=.returned (.agg #[Y S.aH,H (S.key.toNat:Int)])/\W9.grownBy f none/\dz f W9.1.size #[Y 0,H 0,ε,Y 0,Y 0,Y 0,Y 0,ε,Y 0,H 0,H 0,Y 0,Y 0,H 0,H 0]):=(D _ (bg (cx _ _ none))).mono λ_ _ ⟨a,b⟩=>⟨a,aa (bg (cx _ _ none)) b,(dz.new W9 _ _).drew.grown b Z⟩
             clear D;obtain⟨kn,ko,kp,kq,kr,ks,kt,kv,kx,kz⟩:=Nr _ (cx W9 (.cells #[Y 0,H 0,ε,Y 0,Y 0,Y 0,Y 0,ε,Y 0,H 0,H 0,Y 0,Y 0,H 0,H 0] 338) none)
             go_region_held3 (λf=>f.c (w.1.size+2) 0=some (Y m.ae)/\f.c (w.1.size+2) 1=some (H (m.aN.toNat:Int))/\f.c (w.1.size+2) 2=some (.string ⟨m.ay.toArray⟩)/\f.c (w.1.size+2) 3=some (Y m.dV)/\f.c (w.1.size+2) 4=some (Y m.start)/\f.c (w.1.size+2) 5=some (Y m.fin)/\f.c (w.1.size+2) 6=some (Y m.aC)/\f.c w.1.size 4=some (.string ⟨q.aV.toArray⟩)/\f.c w.1.size 5=some (Y q.bV)/\f.c (w.1.size+1) 1=some (H (t.aN.toNat:Int))) (first|(with_reducible exact⟨kT X z0,kT X z1,kT X z2,kT X z3,kT X z4,kT X z5,kT X z6,kT cv z7,kT cv z8,kT gr z9⟩)|go_keep) (first
              |(go_at_call 177;(with_reducible apply Calls.mono fl.o);rintro r xq ⟨rfl,D⟩;have Q5:=I D;clear D;obtain⟨y0,y1,y2,y3,y4,y5,y6,y7,y8,y9⟩:=Nr _ Q5.o;obtain⟨mw,mx,my,mz,nc,nd,nf,ng,nh,nj⟩:=Nr _ (aM Q5 (.cells #[.int .i64 0,.int .u64 0,.string ⟨#[]⟩,.int .i64 0,.int .i64 0,.int .i64 0,.int .i64 0,.string ⟨#[]⟩,.int .i64 0,.int .u64 0,.int .u64 0,.int .i64 0,.int .i64 0,.int .u64 0,.int .u64 0] 338));obtain⟨ma,mb,mc,me,mj,ml,mm,mn,mu,mv⟩:=Nr _ (aM Q5 (.cells #[.int .i64 m.ae,.int .u64 (m.aN.toNat:Int),.string ⟨m.ay.toArray⟩,.int .i64 m.dV,.int .i64 m.start,.int .i64 m.fin,.int .i64 m.aC,.string ⟨q.aV.toArray⟩,.int .i64 S.aH,.int .u64 (S.key.toNat:Int),.int .u64 0,.int .i64 q.bV,.int .i64 0,.int .u64 (t.aN.toNat:Int),.int .u64 0] 338)))
              |(go_at_call 177;(with_reducible apply Calls.mono UZ.o);rintro r xq ⟨rfl,D,bz⟩;have Q5:=I D;have i:=I bz;clear D bz;have t0:=i.cell 0;have kb:=i.frozen 0;have t1:=i.cell 1;have kc:=i.frozen 1;have t2:=i.cell 2;have kd:=i.frozen 2;have t3:=i.cell 3;have ke:=i.frozen 3;have t4:=i.cell 4;have kf:=i.frozen 4;have t5:=i.cell 5;have kg:=i.frozen 5;have t6:=i.cell 6;have kh:=i.frozen 6;have t7:=i.cell 7;have ki:=i.frozen 7;have t8:=i.cell 8;have kj:=i.frozen 8;have t9:=i.cell 9;have kk:=i.frozen 9;have ju:=i.cell 10;have gz:=i.frozen 10;have jv:=i.cell 11;have ha:=i.frozen 11;have jx:=i.cell 12;have hf:=i.frozen 12;have jz:=i.cell 13;have hg:=i.frozen 13;have ka:=i.cell 14;have hh:=i.frozen 14;obtain⟨z0,z1,z2,z3,z4,z5,z6,z7,z8,z9⟩:=Nr _ Q5))
             all_goals go_wp2
             all_goals go_meet
             all_goals have D:=kI _ _ _ _ P (CF.bF Q5 _)
             .exact⟨_,rfl,(by have:=Q5.size;omega),dz.new _ _ _,kI.o _ _ _ _ D (CF.bF (cx _ _ none) _)⟩
             .exact⟨W9.1.size,rfl,gm,Y1 i _ _ _ _ _ _ _ _ _ _ _ _ _ _ _,kI _ _ _ _ D (zj xq W9.1.size _ _ _ _ _ _ _ _ _ _ _ _ _ _ _ _ (λ_=>.inr G))⟩
            case rest=>
             obtain⟨rb,rfl,jh,i,hX⟩:=hcut;have D:=I hX;have Ni:=I i;clear hX i P ag Te Nr x0 x1 x2 x3 x4 x5 x6 x7 x8 x9;obtain⟨rp,qO⟩:∃r:RP,r=⟨m,q.aV,S.aH,S.key,0,q.bV,0,t.aN,0⟩:=⟨_,rfl⟩
             have X:nK wc rb rp:=(by rw[qO];exact Ni.range);have Za:=EF Ni 15 (cy 15);by_cases JJ:k.aL.length<24
             .obtain⟨ao,i,hc⟩:=M8 D.bP;have HD:=I (SK l g rb k.aL.length i ao rp wc D.hear.c3 JJ hc X Za);rw[dT JJ]at Zn;clear hc X Za qO JJ
              go_wp2_with (first
               |(go_at_call 180;refine HD.mono ?_;clear HD;rintro r da ⟨rfl,Zb⟩;have yG:=I Zb;clear Zb))
              go_meet;have hS:=kI _ _ _ _ D (yG.mono (λ_ _ _ e=>.inr G));exact⟨_,_,rfl,⟨by decide,by decide⟩,Zn,hS.hear,hS.bP,hS.r,hS.big,hS.cf,hS.j⟩
             .obtain⟨qd,bn,hc,bb,bc,bf,ba⟩:=IP D.bP G;have bl:=V.M6 qd bn;have gp:=HN.2;have HD:=I (M5 l g rb qd k.aL k.aL.length rp wc D.hear.c3 (I rfl) G bb bc hc (by have:=D.bP.live;rwa [cN]at this) bf bl.1 (ba.lt) X Za G rS V.hbg);have fb:=I (λW' off=>EE (W':=W') (rb:=rb) (off:=off) D.bP G bb bc bf ba);rw[cZ JJ]at Zn;obtain⟨ao,i,hv,jj⟩:=vY D.o.r;subst hv;have c2:=D.o.hear.c2;have ch:=I qO;have fz:=I bn;have cc:=I bl;have fc:Hid (l≠rb):=(by have:=HN.1;exact I G);have fx:=I Za.lt;have HOr:Hid (l' C rb):=λp hp e=>by have:=gl p hp;omega
              have ga:Hid (∀W,nK W rb (rp.drawn (eF k.aL 0) (eF k.aL 1) (eF k.aL 2))->f' W (.slice ao 0 i) C []->rb<W.1.size->Calls prog 187 #[π rb 0,.slice ao 0 i] W λe f=>∃v',e=.returned v'/\aU W f v' C ([]++(rp.drawn (eF k.aL 0) (eF k.aL 1) (eF k.aL 2)).uZ 13 5)):=
               λW f h2 p=>Aq (.slice ao 0 i) C [] rb _ W h2 f p HOr (Va ch bq.1 HQ.2.2.1 (V.sZ S (mq xU.2)) (lV xU.2) (by rw[bq.2,<-lV xU.o.1];exact(V.sZ cl (mq xU.1)).name)) Z
              clear hc bb bc bf ba bl gp X Za qO bn JJ
              go_wp2_with (first
               |(go_at_call 180;refine HD.mono ?_;clear HD;rintro r da ⟨rfl,Zc,Zd,Zb⟩;have W:=I Zc;have gd:=I Zd;have yG:=I Zb;clear Zc Zd Zb;have hz:=yG.cell c2 (λe=>by rcases e with⟨e,_⟩|e;exact V.hbg e;exact fc e);have p:=I (fN fx yG.size))
               |(go_at_call 187;refine(ga _ W (D.r.cf yG (λ_ _ j hj=>absurd hj Z)) p).mono ?_;rintro r kl ⟨v',rfl,f⟩;have gg:=I f;clear f))
              first|go_ret|(rw[Exit.noGoto_ret];go_ret)
              refine⟨_,rfl,?_⟩;rw[Zn];obtain⟨off,k1,k2,k3⟩:=gd.o;have hM:=gg.o;rw[Q4 ch.o (lV xU.o.2)]at hM;exact Vd D.big D.cf yG G Y6 D.j hM V (fb da off k1 k2 k3 yG cc.1 (by have:=cc.2.2.1;omega) (by have:=HN.2;omega)) fz.o rfl
        .have f:=I (SN y x d 7 6 2 1 O O O O);have qa:Hid (FR=(aY d (dS y x d 7 6 2 1),k)):=by
          rw[AQ,U7 Ue.o (eS.2 Nq.o) vf vd al];exact rfl
         generalize dS y x d 7 6 2 1=pcd at *;go_wp2_with fail;go_meet;exact⟨_,_,rfl,f,qa,yQ.hear,yQ.bP,yQ.r,yQ.big,yQ.cf,yQ.j⟩
 case rest=>
  obtain⟨ab,M1,rfl,f,Ze,k,hD,hO,b,hC,i⟩:=hcut;have j:=I i;clear i;have i:=I (yF l g T Q U R C d ab _ k hO V.prH HQ.1 f);have AQ:=I Ze;have HD:=I hD;have m:=I hC;have HB:=I b;clear k hO f Ze hD hC b;go_wp2_with (first|(go_at_call 141;refine i.mono ?_;rintro e w9 ⟨v',rfl,b⟩;have Te:=I b;clear b))
  rw[Exit.noGoto_ret];go_ret;refine⟨_,rfl,?_⟩;rw[AQ];exact Nn HD HB m Te V j.o
