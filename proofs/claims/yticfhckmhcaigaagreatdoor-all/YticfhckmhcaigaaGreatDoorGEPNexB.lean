import Derived.Test.YticfhckmhcaigaaGreatDoorGEPNexA
namespace Go.Proofs.YticfhckmhcaigaaGreatDoor
set_option maxHeartbeats 20000000
open Proofs.Tryz Go.RowKit
set_option maxRecDepth 100000
variable {p:Prop}
theorem vp(h:p:=by rw[HKp.1];exact zh.2):p:=h
theorem vm(h:p:=by rw[HKp.1];exact zh.1):p:=h
variable {w:World}
theorem XC(M)(a)(q):(iM M a q).2.aC=M.aC/\(iM M a q).2.ax=M.ax/\(iM M a q).2.aL=M.aL:=by
 grind [iM]
theorem Tb{M:DM}{a:Int}{q:NQ}{t:TK}(h:(iM M a q).1=.ok t):t.In:=by
 unfold iM jg at h;split at h
 .cases h
 grind [Mp,tY]
theorem PI{a c:Int}{q:NQ}{b:TK}{x s:BE}(h:pF a q b x s=.error c):c=33\/c=32\/c=11:=by
 unfold pF zH zI TC at h;grind
theorem XD{W f l:World}{R g a T D:Nat}{M rv K:Value}{v x n:Option Pl}{J:World->Prop}{m uo:Nat->Nat->Prop}{A:DM}{L:List BE}{B:E}{qd u:Pl}(d:w.1.size<=W.1.size)(t:CF w W (tt g v m))(k:CF W f (λb y=>b=g/\y=1\/b=D))(V:w.1.size<=D)(r:a<=w.1.size)(C:J W)(h:aU f l K x B)(S:HS R g a T M rv v x n J m uo L)(U:bX f g 0 (some u) A)(hdp:n=some qd)(hg:u.g=qd.g):Fin w l g v x n m K (B,A)/\J l:=by
 obtain⟨X,P,p,Q,_⟩:=h;refine⟨?_,S.finds.stay _ _ (S.finds.stay _ _ C (k.mono (λb y _ e=>by rcases e with e|e;rw[e.1,e.2];exact S.agQ;rw[e];exact S.BV _ _ G))) (p.mono (λb y _ e=>S.prJ b y e))⟩;refine⟨⟨X,P,Q.imp id (λq=>kK q (cE d k.size))⟩,⟨some u,U.cf p (λj _ C e=>S.prG j G e) (λq hq j _ e=>?_),λi b=>⟨qd,hdp,?_⟩⟩,?_⟩
 .exact E4
 .injection b with b;subst b;exact hg.symm
 .exact((t.mono (λ_ _ _ e=>by rcases e with e|e;exact .inr (.inl e);exact .inl ⟨e.1,.inr e.2⟩)).trans k (λi o j e=>by rcases e with e|e;exact .inl ⟨e.1,.inl e.2⟩;omega)).trans p (λ_ _ _ e=>.inr (.inr e))
theorem xz.grown{m:World}{l:Option Pl}{i:Nat->Nat->Prop}{z:E}{v:Value}(h:xz w l i z v)(k:w.grownBy m none):xz m l i z v:=by
 obtain⟨n,d,o,p,q,f⟩:=h;exact⟨n,d,o,p,q.below k,λb a e j g=>⟨(f b a e j g).1,(f b a e j g).2.1,fW (f b a e j g).2.2 k.size⟩⟩
theorem qD{b:Nat}(h:b9 w b 7):(∃d,w.c b 0=some d)/\(∃d,w.c b 1=some d)/\(∃d,w.c b 2=some d)/\(∃d,w.c b 3=some d)/\(∃d,w.c b 4=some d)/\(∃d,w.c b 5=some d)/\(∃d,w.c b 6=some d)/\w.z b 0=false/\w.z b 1=false/\w.z b 2=false/\w.z b 3=false/\w.z b 4=false/\w.z b 5=false/\w.z b 6=false:=by
 have a:=λj d=>cD.1 (h.some j d);exact⟨a 0 H,a 1 H,a 2 H,a 3 H,a 4 H,a 5 H,a 6 H,h.frozen 0,h.frozen 1,h.frozen 2,h.frozen 3,h.frozen 4,h.frozen 5,h.frozen 6⟩
theorem H5(h:p:=by
 simp only[tZ]at this
 injection this with this
 have h2:=congrArg (λa:Array Value=>a[1]?) this
 simpa using h2.symm):p:=h
theorem GH(l g ae T)(Q rv U R)(B C L)(J:World->Prop)(n uo:Nat->Nat->Prop)(M)(d)(q)(v u)(w)(S:HS l g ae T Q rv B C L J n uo M.aC)(h:zJ w l g T Q U R d)(hd:bX w g 0 L M)(hJ:J w)(ho:fA w U B [])(hr:fA w R C [])(hv:xz w B n q.dR v)(hu:xz w B n q.proof u)(cO:bT d)(df:bT M.ax)(yo:∀y∈M.aI,bT y.time)(X:bT q.bW)(da:bT q.dM)(dc:bT q.bY)(dd:bT q.aR)(K:ae<=w.1.size):Calls prog 140 #[N l 0,.agg (q.cells v u).toArray] w λe f=>∃v',e=.returned v'/\Fin w f g B C L n v' (uJ M d q)/\J f:=by
 have jr:=S.hbb
 have js:=S.gb
 obtain⟨W0,hW0⟩:=aw (((w.alloc (.cells (q.cells v u).toArray 276)).alloc (.cells jH 333)).alloc (.cells jH 333))
 have m:w.grownBy W0 none:=by grind [aM,cy]
 have RQ:W0.rangeAt w.1.size 0 (q.cells v u):=by grind [iw,aS,aM,cy]
 have L1:b9 W0 (w.1.size+1) 7:=by
  have h:=(b9.new (w.alloc (.cells (q.cells v u).toArray 276)) jH 333).grown (cy _ (.cells jH 333) none);exact tR
 have L2:b9 W0 (w.1.size+2) 7:=by
  have h:=b9.new ((w.alloc (.cells (q.cells v u).toArray 276)).alloc (.cells jH 333)) jH 333;rw[cG,cG]at h;rw[hW0];exact h
 have r:∀b y,Pl.has B b y->b<w.1.size:=λb y e=>ho.lt e
 have D:=λp hp=>hr.Iw p hp
 obtain⟨AR,x⟩:=aq (iM M d q)
 have A:=Xw l g ae T Q rv U R B C L J n uo M d q v u W0 S (h.grown m) (hd.grown m) (S.finds.stay _ _ hJ (CF.bD m _)) (ho.grown m) (hr.grown m) (hv.grown m) (hu.grown m) cO yo (cE K m.size)
 rw[x]at A
 obtain⟨m0,m1,m2,m3,m4,m5,m6,m7,hm⟩:=qz AR.1
 rw[hm]at A
 have P:∀W,bX W g 0 L AR.2->CF W0 W (λb y=>tt g B n b y\/b=w.1.size+1)->J W->∀i,W.rangeAt (w.1.size+1) 0 i->Ng J w W l g T Q U R B C L n AR.2 d (q.cells v u) i:=by
  intro W hD hC V i hO;refine⟨⟨(h.grown m).cf hC ?_,hD,(ho.grown m).cf hC dT,(hr.grown m).cf hC dT,hC.range RQ ?_,hO,L2.cf hC,cE m.size hC.size,(CF.before m hC).mono dT⟩,V⟩
  .rintro y (((e|e)|e)|e)
   .exact S.hbF y e
   .exact qa S.poH y e
   .exact S.hbg e.1
   .omega
  .rintro j _ (((e|e)|e)|e)
   .exact S.Mi _ _ G e
   .have:=r _ _ e;omega
   .omega
   .omega
 have kU:Hid (∀W W' M1 i,Ng J w W l g T Q U R B C L n M1 d (q.cells v u) i->CF W W' (λb y=>Pl.has B b y\/w.1.size+1<b)->Ng J w W' l g T Q U R B C L n M1 d (q.cells v u) i):=λW W' M1 i h k=>h.step S k K r
 have BZ:Hid (∀W W' M1 i,Ng J w W l g T Q U R B C L n M1 d (q.cells v u) i->CF W W' n->J W'->Ng J w W' l g T Q U R B C L n M1 d (q.cells v u) i):=λW W' M1 i h k j=>⟨h.toNX.step S (k.mono (λ_ _ _ e=>.inl (.inl e))) K r,j⟩
 have gr:=I K
 have cj:=I P
 have bf:=I A
 have HM:=I hm
 have ax:=I x
 have Ey:=I L1
 have ak:=I S.finds.stay
 have V:=I S
 have cm:=I hW0
 have sV:=I m
 have Q0:=I r
 have gz:=I D
 have cr:Hid (AR.2.aC=M.aC/\AR.2.ax=M.ax/\AR.2.aL=M.aL):=by grind [XC]
 have HQ:Hid (bT d/\bT M.ax/\bT q.bW/\bT q.dM/\bT q.bY/\bT q.aR):=⟨cO,df,X,da,dc,dd⟩
 have HN:Hid (l<w.1.size/\g<w.1.size):=⟨by omega,by omega⟩
 have Re:=I RQ
 obtain⟨FR,k⟩:=aq (uJ M d q)
 rw[k]
 have Vq:=I k
 have i:=Pt M d q
 rw[k,x]at i
 have az:=I i
 clear i k x hm A P h hd hJ ho hr hv hu cO df yo X da dc dd hW0 m RQ L1 L2 r D S
 go_in
 go_wp2_with fail
 go_step3
 go_wp2_with fail
 go_step3
 go_upto_block 0 with fail
 go_cut [5] (λc D=>∃ab M1,c = Y ab/\bT ab/\FR=(aY d ab,M1)/\zJ D l g T Q U R d/\bX D g 0 L M1/\fA D R C []/\w.1.size<=D.1.size/\CF w D (tt g B n)/\J D)
 case first=>
  go_upto_region 3 with fail
  rw[<-cm];obtain⟨k0,k1,k2,k3,k4,k5,k6,k7,k8⟩:=lV Re.o;go_cut [5] (λc D=>c = Y m7/\Ng J w D l g T Q U R B C L n AR.2 d (q.cells v u) [Y m0,O m1,.string m2,Y m3,Y m4,Y m5,Y m6]/\J D)
  case first=>
   go_wp2_with (first|(go_at_call 183;refine bf.mono ?_;clear bf;rintro r P ⟨rfl,x,A,k⟩;have m:=I x;have ag:=I A;have S:=I k;have i:=I (Ey.cf k);clear x A k;obtain⟨⟨d0,q0⟩,⟨d1,q1⟩,⟨d2,q2⟩,⟨d3,q3⟩,⟨d4,q4⟩,⟨d5,q5⟩,⟨d6,q6⟩,f0,f1,f2,f3,f4,f5,f6⟩:=qD i))
   go_meet;have k:=uQ P (w.1.size+1) (Y m0) (O m1) (.string m2) (Y m3) (Y m4) (Y m5) (Y m6);have J2:=ak _ _ ag (k.mono (λb y _ e=>V.BV b y G));refine⟨rfl,cj _ ?_ ?_ J2 _ (jQ [Y m0,O m1,.string m2,Y m3,Y m4,Y m5,Y m6] 0 P (w.1.size+1) 7 i (cA 7)),?_⟩
   .exact m.cf k G (λp hp j _ e=>by have:=(V.Po p hp).2.2.1;omega)
   .exact(S.mono (λ_ _ _ e=>.inl e)).trans k (λ_ _ _ e=>.inr e)
   .exact J2
  case rest=>
   obtain⟨rfl,hX,hj⟩:=hcut;have sZ:=I hX;have ag:=I hj;clear hX hj k0 k1 k2 k3 k4 k5 k6 k7 k8 bf cj Ey cm sV Re;obtain⟨A1,k,hA⟩:∃a b,AR=(a,b):=⟨AR.1,AR.2,rfl⟩
   subst hA;cases A1 with
   |error cd=>
    have bp:=Cb (c:=cd) (by rw[ax]);have ad:FR=(aY d cd,k):=az.o;have bs:m7=cd:=by
     have:=HM.o;exact H5
    subst bs;have Ca:=I ad;clear ad HM az ax;rcases bp with rfl|rfl|rfl|rfl|rfl|rfl|rfl
    all_goals
     go_wp2_with fail
     go_meet
     exact⟨_,_,rfl,⟨by decide,by decide⟩,Ca,sZ.hear,sZ.bU,sZ.r,sZ.big,sZ.cf,sZ.j⟩
   |ok t=>
    have hm:=HM.o;simp only[tZ]at hm;have ck:=I (Tb (t:=t) (by rw[ax]));have ad:FR=dD k d (eF k d q t):=az.o;have Ca:=I ad;injection hm with hm;have e0:Value.agg t.cells.toArray=Value.agg #[Y m0,O m1,.string m2,Y m3,Y m4,Y m5,Y m6]:=Option.some.inj (congrArg (λa:Array Value=>a[0]?) hm);have e1:Value.int .i64 0=Value.int .i64 m7:=Option.some.inj (congrArg (λa:Array Value=>a[1]?) hm);injection e0 with e0;injection e1 with _ e1;have e0:t.cells=[Y m0,O m1,.string m2,Y m3,Y m4,Y m5,Y m6]:=congrArg Array.toList e0;subst e1;rw[<-e0]at sZ;clear hm e0 ad HM az;have sZ:Hid (Ng J w wc l g T Q U R B C L n k d (q.cells v u) t.cells):=sZ.o;have i:k.aC=M.aC/\k.ax=M.ax/\k.aL=M.aL:=cr.o;have HKp:=I i;clear i cr ax;have bu:Hid (∀W,Ng J w W l g T Q U R B C L n k d (q.cells v u) t.cells->Calls prog 184 #[N l 0,Y t.start] W λe f=>e=.returned (.bool (decide (aW d M.ax<t.start)))/\∃m,f=W.drewN m):=λW X=>by
     have i:=X.bU.ax;rw[HKp.2.1]at i;exact CJ l g d M.ax t.start W X.hear.c3 X.hear.c4 i HQ.1 HQ.2.1
    obtain⟨k0,k1,k2,k3,k4,k5,k6,k7,k8⟩:=lV sZ.ask;have t0:wc.c (w.1.size+1) 0=some (Y t.ae):=sZ.old 0 _ rfl;have t4:wc.c (w.1.size+1) 4=some (Y t.start):=sZ.old 4 _ rfl;have cu:=I (kT t.ae 16 4 H H);have cv:=I (kT q.aR 32 5 H H);obtain⟨er,i⟩:=aq ((aJ t.ae 16&&!aJ q.aR 32||decide (aW d M.ax<t.start)));have Vv:=I i;clear i;go_upto_region 6 with fail
    go_cut [33] (λc D=>c=.bool er/\Ng J w D l g T Q U R B C L n k d (q.cells v u) t.cells/\J D)
    case first=>
     have i:=cu.o;have x:=cv.o;have A:=bu wc sZ.o;obtain⟨ah,P⟩:=aq (decide (aW d M.ax<t.start));rw[P]at A Vv;have S:=I A;clear A P;generalize aJ t.ae 16=b16 at *;generalize aJ q.aR 32=b32 at *;cases b16 with
     |true=>
      rw[fk]at i;have hh:=cJ.1 i;cases b32 with
      |false=>
       rw[eV]at x;have dq:=db.1 x;clear i x;go_wp2_with fail;go_meet;exact⟨by rw[<-Vv];rfl,sZ,ag⟩
      |true=>
       rw[fk]at x;have dq:=cJ.1 x;clear i x;go_wp2_with (first|(go_at_call 184;refine S.mono ?_;clear S;rintro r w2 ⟨rfl,m,P⟩;have A:Hid (wc.grownBy w2 none):=(by rw[P];exact aN (cC _ _) m);clear P))
       go_meet;exact⟨by rw[<-Vv];simp[dq],kU.o _ _ _ _ sZ.o (CF.bD A.o _),ak.o _ _ ag.o (CF.bD A.o _)⟩
     |false=>
      rw[eV]at i;have hh:=db.1 i;clear i x;go_wp2_with (first|(go_at_call 184;refine S.mono ?_;clear S;rintro r w2 ⟨rfl,m,P⟩;have A:Hid (wc.grownBy w2 none):=(by rw[P];exact aN (cC _ _) m);clear P))
      go_meet;exact⟨by rw[<-Vv];simp,kU.o _ _ _ _ sZ.o (CF.bD A.o _),ak.o _ _ ag.o (CF.bD A.o _)⟩
    case rest=>
     obtain⟨rfl,hX,hj⟩:=hcut;have wO:=I hX;have cb:=I hj;clear hX hj sZ ag k0 k1 k2 k3 k4 k5 k6 k7 k8 t0 t4 cu cv bu;obtain⟨k0,k1,k2,k3,k4,k5,k6,k7,k8⟩:=lV wO.ask;cases er with
     |true=>
      have qN:Hid (FR=(aY d 33,k)):=by
       rw[Ca,TU]
       .exact rfl
       .have:=Vv.o;rw[HKp.2.1];simpa using this
      go_wp2_with fail;go_meet;exact⟨_,_,rfl,⟨by decide,by decide⟩,qN,wO.hear,wO.bU,wO.r,wO.big,wO.cf,wO.j⟩
     |false=>
      have Wy:Hid (¬ (aJ t.ae 16=true/\aJ q.aR 32=false\/aW d k.ax<t.start)):=by
       refine I ?_;have:=Vv.o;rw[HKp.2.1];simpa using this
      have t5:wc.c (w.1.size+1) 5=some (Y t.fin):=wO.old 5 _ rfl;have c4:=wO.hear.c4;by_cases au:t.fin<d
      .have qN:Hid (FR=(aY d 32,k)):=(by rw[Ca,Xy Wy.o au];exact rfl);go_wp2_with fail;go_quiet (fail)
       go_wp2;go_meet;have hS:=kU wc (wc.drewN nq) _ _ wO (CF.bD (aN (cC _ _) nq) _);exact⟨_,_,rfl,⟨by decide,by decide⟩,qN,hS.hear,hS.bU,hS.r,hS.big,hS.cf,hS.j⟩
      .have PK:=I au;go_wp2_with fail;go_quiet (fail)
       go_wp2_with fail;obtain⟨W2,i⟩:=aw ((wc.drewN nq).alloc (.cells Ml 324));have x:wc.grownBy W2 none:=(by rw[i];exact aM (aN (cC _ _) nq) _);obtain⟨A,m⟩:=aw wc.1.size;have P:b9 W2 A 16:=(by rw[i,m];exact b9.new (wc.drewN nq) Ml _);have ie:w.1.size+2<A:=(by rw[m];exact wO.made.lt);have ba:=I (kU _ _ _ _ wO (CF.bD x _));have cc:=I (ak _ _ cb (CF.bD x _));have ch:=I P;rw[<-i,<-m];clear i x P m wO cb k0 k1 k2 k3 k4 k5 k6 k7 k8 t5 c4;obtain⟨y,hy⟩:=aq (BE.find M.aC q.aV);obtain⟨x,S⟩:=aq (BE.find M.aC t.az);have i:∀W,J W->Ng J w W l g T Q U R B C L n k d (q.cells v u) t.cells->Calls prog 171 #[N l 0,.agg #[.string ⟨q.aV.toArray⟩,Y 7,Y 2],.agg #[.string ⟨t.az.toArray⟩,Y 6,Y 1]] W λe f=>e=.returned (.tuple #[.agg (sJ y).toArray,.agg (sJ x).toArray,Y (dV y x d 7 6 2 1)])/\J f/\CF W f n:=by
        intro W P m;have:=J7 l ae T Q rv J n uo M.aC q.aV t.az 7 2 6 1 d W V.ais V.finds P m.hear.c0 m.hear.c4 V.hbF V.Mi V.BV (cE K m.big);rw[hy,S]at this;exact this
       obtain⟨v0,v1,v2,v3,v4,v5,v6,v7,hv⟩:=iT x;obtain⟨u0,u1,u2,u3,u4,u5,u6,u7,hu⟩:=iT y;rw[hv,hu]at i;have bx:=I i;have HV:=I hv;have HU:=I hu;have zh:=I (cZ S hy);clear i hv hu S hy;have na:A≠w.1.size:=G;have nb:A≠w.1.size+1:=G;have a0:W2.c w.1.size 4=some (.string ⟨q.aV.toArray⟩):=ba.ask 4 _ rfl;have a1:W2.c (w.1.size+1) 2=some (.string ⟨t.az.toArray⟩):=ba.old 2 _ rfl;go_cut [5] (λc D=>c = Y (dV y x d 7 6 2 1)/\D.rangeAt A 0 [.string v0,Y v1,O v2,O v3,Y v4,Y v5,Y v6,Y v7]/\D.rangeAt A 8 [.string u0,Y u1,O u2,O u3,Y u4,Y u5,Y u6,Y u7]/\Ng J w D l g T Q U R B C L n k d (q.cells v u) t.cells/\J D)
       case first=>
        go_region_held3 (λf=>f.c w.1.size 4=some (.string ⟨q.aV.toArray⟩)/\f.c (w.1.size+1) 2=some (.string ⟨t.az.toArray⟩)) (go_keep) (first
         |(go_at_call 173;refine(zg _ _).mono ?_;rintro e w4 ⟨rfl,g4⟩;have Bt:=I (iZ g4);have Jj:=I (kU _ _ _ _ ba (CF.bD (iZ g4) _));clear g4;have hi:=Jj.ask 4 _ rfl;have hk:w4.cell? ⟨w.1.size+1,2,none⟩=some (.string ⟨t.az.toArray⟩):=Jj.old 2 _ rfl)
         |(go_at_call 172;refine(AZ _ _).mono ?_;rintro e w5 ⟨rfl,g5⟩;have Ph:=I (aa Bt g5);have P:=I (kU _ _ _ _ Jj (CF.bD g5 _));clear g5;have ih:=P.ask 4 _ rfl;have ij:w5.cell? ⟨w.1.size+1,2,none⟩=some (.string ⟨t.az.toArray⟩):=P.old 2 _ rfl)
         |(go_at_call 171;refine(bx _ (ak _ _ cc (CF.bD Ph _)) P).mono ?_;rintro e m ⟨rfl,j6,S⟩;have gd:=I j6;have TQ:=I (BZ _ _ _ _ P S j6);have PE:=I ((ch.grown Ph).cf S);clear S j6;have il:=TQ.ask 4 _ rfl;have im:m.cell? ⟨w.1.size+1,2,none⟩=some (.string ⟨t.az.toArray⟩):=TQ.old 2 _ rfl;have i:=A8 PE.o;obtain⟨d0,q0⟩:=i.1 0 H;have f0:=i.2 0;obtain⟨d1,q1⟩:=i.1 1 H;have f1:=i.2 1;obtain⟨d2,q2⟩:=i.1 2 H;have f2:=i.2 2;obtain⟨d3,q3⟩:=i.1 3 H;have f3:=i.2 3;obtain⟨d4,q4⟩:=i.1 4 H;have f4:=i.2 4;obtain⟨d5,q5⟩:=i.1 5 H;have f5:=i.2 5;obtain⟨d6,q6⟩:=i.1 6 H;have f6:=i.2 6;obtain⟨d7,q7⟩:=i.1 7 H;have f7:=i.2 7;obtain⟨d8,q8⟩:=i.1 8 H;have f8:=i.2 8;obtain⟨d9,q9⟩:=i.1 9 H;have f9:=i.2 9;obtain⟨iu,jv⟩:=i.1 10 H;have je:=i.2 10;obtain⟨iv,jx⟩:=i.1 11 H;have jf:=i.2 11;obtain⟨ix,jz⟩:=i.1 12 H;have jh:=i.2 12;obtain⟨iz,ka⟩:=i.1 13 H;have jj:=i.2 13;obtain⟨jb,kb⟩:=i.1 14 H;have jl:=i.2 14;obtain⟨jc,kc⟩:=i.1 15 H;have jn:=i.2 15;clear i))
        go_wp2;go_meet;have S:=jQ [.string u0,Y u1,O u2,O u3,Y u4,Y u5,Y u6,Y u7] 8 m A 16 PE Z;have P:CF m (m.setCells A 8 [.string u0,Y u1,O u2,O u3,Y u4,Y u5,Y u6,Y u7]) (λb _=>b=A):=CF.setCells A _ 8 m (CF.refl _ _) (λ_ _ _=>rfl);have i:CF (m.setCells A 8 [.string u0,Y u1,O u2,O u3,Y u4,Y u5,Y u6,Y u7]) ((m.setCells A 8 [.string u0,Y u1,O u2,O u3,Y u4,Y u5,Y u6,Y u7]).setCells A 0 [.string v0,Y v1,O v2,O v3,Y v4,Y v5,Y v6,Y v7]) (λb y=>b=A/\y<8):=CF.setCells A _ 0 _ (CF.refl _ _) (λj hj _=>⟨rfl,by simp at hj;omega⟩);have m:=jQ [.string v0,Y v1,O v2,O v3,Y v4,Y v5,Y v6,Y v7] 0 _ A 16 (PE.cf P) Z;refine⟨rfl,m,i.range S (λ_ _ e=>by omega),kU.o _ _ _ _ TQ.o ((P.mono (λb _ _ e=>.inr G)).trans i (λ_ _ _ e=>.inr G)),?_⟩;exact ak _ _ gd ((P.mono (λb y _ e=>V.BV b y G)).trans i (λb y _ e=>V.BV b y G))
       case rest=>
        obtain⟨rfl,i,m,hX,hj⟩:=hcut;have zT:=I hX;have gg:=I hj;have Dz:=I i;have Vd:=I m;clear hX hj i m a0 a1 ba cc ch bx;obtain⟨k0,k1,k2,k3,k4,k5,k6,k7,k8⟩:=lV zT.ask;have t0:wc.c (w.1.size+1) 0=some (Y t.ae):=zT.old 0 _ rfl;by_cases av:dV y x d 7 6 2 1=0
        .obtain⟨S,cl,rfl,rfl⟩:=Kl H H av;have hP:fu wc A cl S:=⟨by have h:=Dz.o;rw[<-HV]at h;exact h,by have h:=Vd.o;rw[<-HU]at h;exact h⟩
         have Py:=I hP;have zS:=I av;rw[av];clear av hP Dz Vd HV HU;have ai:=I (Pk q.aR t.ae wc HQ.2.2.2.2.2);cases al:kL q.aR t.ae with
         |false=>
          rw[al]at ai;have qN:Hid (FR=(aY d 13,k)):=by
           rw[Ca,XA Wy.o (fh.2 PK.o) vp vm zS.o al];exact rfl
          clear al;go_wp2_with (first|(go_at_call 185;refine ai.mono ?_;clear ai;rintro r w8 ⟨rfl,rfl⟩))
          go_meet;exact⟨_,_,rfl,⟨by decide,by decide⟩,qN,zT.hear,zT.bU,zT.r,zT.big,zT.cf,zT.j⟩
         |true=>
          rw[al]at ai;have qw:=I al;clear al;go_wp2_with (first|(go_at_call 185;refine ai.mono ?_;clear ai;rintro r w8 ⟨rfl,rfl⟩))
          clear k0 k1 k2 k3 k4 k5 k6 k7 k8 t0;have bk:Hid (∀W,fu W A cl S->Calls prog 186 #[N A 0,Y d,.agg (q.cells v u).toArray,.agg t.cells.toArray] W λe f=>e=.returned (tZ (pF d q t cl S))/\W.grownBy f none):=λW P=>by
           have m:=V.uq cl (mQ zh.1);have i2:=V.uq S (mQ zh.2);exact Xn A d q v u t cl S W P HQ.1 m.bH i2.bH m.aD i2.aD ck.o
          obtain⟨GM,i⟩:=aq (pF d q t cl S);obtain⟨n0,n1,n2,n3,n4,n5,n6,n7,m⟩:=qz GM;rw[i,m]at bk;have af:=I i;have Ko:=I m;clear i m;have bb:Hid (∀W,Ng J w W l g T Q U R B C L n k d (q.cells v u) t.cells->W.c l 4=some (Y d)/\W.c w.1.size 0=some (.string ⟨q.gq.toArray⟩)/\W.c w.1.size 1=some (Y q.oW)/\W.c w.1.size 2=some (v)/\W.c w.1.size 3=some (u)/\W.c w.1.size 4=some (.string ⟨q.aV.toArray⟩)/\W.c w.1.size 5=some (Y q.bW)/\W.c w.1.size 6=some (Y q.dM)/\W.c w.1.size 7=some (Y q.bY)/\W.c w.1.size 8=some (Y q.aR)/\W.c (w.1.size+1) 0=some (Y t.ae)/\W.c (w.1.size+1) 1=some (O (t.aO.toNat:Int))/\W.c (w.1.size+1) 2=some (.string ⟨t.az.toArray⟩)/\W.c (w.1.size+1) 3=some (Y t.dY)/\W.c (w.1.size+1) 4=some (Y t.start)/\W.c (w.1.size+1) 5=some (Y t.fin)/\W.c (w.1.size+1) 6=some (Y t.aD)):=λW X=>⟨X.hear.c4,X.ask 0 _ rfl,X.ask 1 _ rfl,X.ask 2 _ rfl,X.ask 3 _ rfl,X.ask 4 _ rfl,X.ask 5 _ rfl,X.ask 6 _ rfl,X.ask 7 _ rfl,X.ask 8 _ rfl,X.old 0 _ rfl,X.old 1 _ rfl,X.old 2 _ rfl,X.old 3 _ rfl,X.old 4 _ rfl,X.old 5 _ rfl,X.old 6 _ rfl⟩
          have cz:=I (λW (X:Ng J w W l g T Q U R B C L n k d (q.cells v u) t.cells)=>bb _ (kU _ _ _ _ X ((uQ W (w.1.size+2) (Y n0) (O n1) (.string n2) (Y n3) (Y n4) (Y n5) (Y n6)).mono (λb _ _ e=>.inr G))));obtain⟨x4,dt,dv,ea,eb,ec,en,et,eu,ev,fa,fb,fc,ff,fi,fl,fx⟩:=bb _ zT.o;obtain⟨W7,i⟩:=aw w8;rw[<-i]at zT gg Py x4 dt dv ea eb ec en et eu ev fa fb fc ff fi fl fx;rw[<-i];clear i;go_cut [5] (λc D=>c = Y n7/\D.rangeAt (w.1.size+2) 0 [Y n0,O n1,.string n2,Y n3,Y n4,Y n5,Y n6]/\Ng J w D l g T Q U R B C L n k d (q.cells v u) t.cells/\fu D A cl S)
          case first=>
           have i:=Py.grown (bg (cC _ _));have m:=I (bk _ i);clear i
           go_region_held3 (λf=>f.c l 4=some (Y d)/\f.c w.1.size 0=some (.string ⟨q.gq.toArray⟩)/\f.c w.1.size 1=some (Y q.oW)/\f.c w.1.size 2=some (v)/\f.c w.1.size 3=some (u)/\f.c w.1.size 4=some (.string ⟨q.aV.toArray⟩)/\f.c w.1.size 5=some (Y q.bW)/\f.c w.1.size 6=some (Y q.dM)/\f.c w.1.size 7=some (Y q.bY)/\f.c w.1.size 8=some (Y q.aR)/\f.c (w.1.size+1) 0=some (Y t.ae)/\f.c (w.1.size+1) 1=some (O (t.aO.toNat:Int))/\f.c (w.1.size+1) 2=some (.string ⟨t.az.toArray⟩)/\f.c (w.1.size+1) 3=some (Y t.dY)/\f.c (w.1.size+1) 4=some (Y t.start)/\f.c (w.1.size+1) 5=some (Y t.fin)/\f.c (w.1.size+1) 6=some (Y t.aD)) (first|(with_reducible exact cz.o _ P.o)|go_keep) (first
            |(go_at_call 186;refine m.mono ?_;clear m;rintro r w9 ⟨rfl,i⟩;have P:=I (kU _ _ _ _ zT (CF.bD (iZ i) _));have aj:=I (Py.grown (iZ i));clear i;obtain⟨y4,X,ll,ln,lo,lp,lr,lv,lx,ly,lz,mb,mc,me,mj,ml,mm⟩:=bb _ P.o;obtain⟨⟨d0,q0⟩,⟨d1,q1⟩,⟨d2,q2⟩,⟨d3,q3⟩,⟨d4,q4⟩,⟨d5,q5⟩,⟨d6,q6⟩,f0,f1,f2,f3,f4,f5,f6⟩:=qD P.made))
           go_wp2;go_meet;have i:=uQ w9 (w.1.size+2) (Y n0) (O n1) (.string n2) (Y n3) (Y n4) (Y n5) (Y n6);exact⟨rfl,jQ [Y n0,O n1,.string n2,Y n3,Y n4,Y n5,Y n6] 0 w9 (w.1.size+2) 7 P.made (cA 7),kU _ _ _ _ P (i.mono (λb _ _ e=>.inr G)),aj.cf i (λ_ e=>by omega)⟩
          case rest=>
           obtain⟨rfl,hM,hX,hP⟩:=hcut;have P:=I hX;have aj:=I hP;have Vu:=I hM;clear hX hP hM x4 dt dv ea eb ec en et eu ev fa fb fc ff fi fl fx zT Py bk;cases GM with
           |error cd=>
            have bs:n7=cd:=by
             have:=Ko.o;exact H5
            subst bs;have qN:Hid (FR=(aY d n7,k)):=by
             rw[Ca,abK Wy.o (fh.2 PK.o) vp vm zS.o qw.o af.o];exact rfl
            have bp:=PI af.o;clear Ko af;rcases bp with rfl|rfl|rfl
            all_goals
             go_wp2_with fail
             go_meet
             exact⟨_,_,rfl,⟨by decide,by decide⟩,qN,P.hear,P.bU,P.r,P.big,P.cf,P.j⟩
           |ok m=>
            have hm:=Ko.o;simp only[tZ]at hm;injection hm with hm;have e0:Value.agg m.cells.toArray=Value.agg #[Y n0,O n1,.string n2,Y n3,Y n4,Y n5,Y n6]:=Option.some.inj (congrArg (λa:Array Value=>a[0]?) hm);have e1:Value.int .i64 0=Value.int .i64 n7:=Option.some.inj (congrArg (λa:Array Value=>a[1]?) hm);injection e0 with e0;injection e1 with _ e1;have e0:m.cells=[Y n0,O n1,.string n2,Y n3,Y n4,Y n5,Y n6]:=congrArg Array.toList e0;subst e1;rw[<-e0]at Vu;have an:=I (Th Wy (fh.2 PK) vp vm zS qw af);have ca:=I (abL ck HQ.1 HQ.2.2.2.1 HQ.2.2.2.2.1 af);rw[<-Ca]at an;clear hm e0 Ko af Ca Wy PK Vv bb cz;have PM:Hid (∀W,wc.grownBy W none->W.c (w.1.size+2) 0=some (Y m.ae)/\W.c (w.1.size+2) 1=some (O (m.aO.toNat:Int))/\W.c (w.1.size+2) 2=some (.string ⟨m.az.toArray⟩)/\W.c (w.1.size+2) 3=some (Y m.dY)/\W.c (w.1.size+2) 4=some (Y m.start)/\W.c (w.1.size+2) 5=some (Y m.fin)/\W.c (w.1.size+2) 6=some (Y m.aD)/\W.c w.1.size 4=some (.string ⟨q.aV.toArray⟩)/\W.c w.1.size 5=some (Y q.bW)/\W.c (w.1.size+1) 1=some (O (t.aO.toNat:Int))):=λW i=>⟨i.cell (Vu 0 _ rfl) Z,i.cell (Vu 1 _ rfl) Z,i.cell (Vu 2 _ rfl) Z,i.cell (Vu 3 _ rfl) Z,i.cell (Vu 4 _ rfl) Z,i.cell (Vu 5 _ rfl) Z,i.cell (Vu 6 _ rfl) Z,i.cell (P.ask 4 _ rfl) Z,i.cell (P.ask 5 _ rfl) Z,i.cell (P.old 1 _ rfl) Z⟩
            obtain⟨x0,x1,x2,x3,x4,x5,x6,x7,x8,x9⟩:=PM _ (cC _ _);go_wp2_with fail;obtain⟨W9,X⟩:=aw wc;rw[<-X]at P aj Vu PM x0 x1 x2 x3 x4 x5 x6 x7 x8 x9;rw[<-X];clear X;go_cut [9] (λp D=>∃rb,p = N rb 0/\w.1.size+2<rb/\dm D rb #[Y m.ae,O (m.aO.toNat:Int),.string ⟨m.az.toArray⟩,Y m.dY,Y m.start,Y m.fin,Y m.aD,.string ⟨q.aV.toArray⟩,Y S.aH,O (S.key.toNat:Int),O 0,Y q.bW,Y 0,O (t.aO.toNat:Int),O 0]/\Ng J w D l g T Q U R B C L n k d (q.cells v u) t.cells)
            case first=>
             have ha:=P.made.lt;have dn:w.1.size≠W9.1.size:=G;have hg:w.1.size+1≠W9.1.size:=G;have X:w.1.size+2≠W9.1.size:=G;have D:∀W,W9.grownBy W none->Calls prog 177 #[N A 8] W λr f=>r=.returned (.agg #[Y S.aH,O (S.key.toNat:Int)])/\W.grownBy f none:=λW i=>um A 8 S W (i.cell (aj.s 1 _ rfl) Z) (i.cell (aj.s 2 _ rfl) Z);have gl:Hid (Calls prog 177 #[N A 8] W9.drew λr f=>r=.returned (.agg #[Y S.aH,O (S.key.toNat:Int)])/\W9.grownBy f none):=(D _ (bg (cC _ _))).mono λ_ _ ⟨a,b⟩=>⟨a,iZ b⟩
             have Xu:Hid (Calls prog 177 #[N A 8] ((W9.alloc (.cells #[Y 0,O 0,ε,Y 0,Y 0,Y 0,Y 0,ε,Y 0,O 0,O 0,Y 0,Y 0,O 0,O 0] 338)).drew) λr f=>r=.returned (.agg #[Y S.aH,O (S.key.toNat:Int)])/\W9.grownBy f none/\dm f W9.1.size #[Y 0,O 0,ε,Y 0,Y 0,Y 0,Y 0,ε,Y 0,O 0,O 0,Y 0,Y 0,O 0,O 0]):=(D _ (bg (cy _ _ none))).mono λ_ _ ⟨a,b⟩=>⟨a,aa (bg (cy _ _ none)) b,(dm.new W9 _ _).drew.grown b Z⟩
             clear D;obtain⟨kv,kx,kz,la,lb,ld,lf,lh,lj,lk⟩:=PM _ (cy W9 (.cells #[Y 0,O 0,ε,Y 0,Y 0,Y 0,Y 0,ε,Y 0,O 0,O 0,Y 0,Y 0,O 0,O 0] 338) none)
             go_region_held3 (λf=>f.c (w.1.size+2) 0=some (Y m.ae)/\f.c (w.1.size+2) 1=some (O (m.aO.toNat:Int))/\f.c (w.1.size+2) 2=some (.string ⟨m.az.toArray⟩)/\f.c (w.1.size+2) 3=some (Y m.dY)/\f.c (w.1.size+2) 4=some (Y m.start)/\f.c (w.1.size+2) 5=some (Y m.fin)/\f.c (w.1.size+2) 6=some (Y m.aD)/\f.c w.1.size 4=some (.string ⟨q.aV.toArray⟩)/\f.c w.1.size 5=some (Y q.bW)/\f.c (w.1.size+1) 1=some (O (t.aO.toNat:Int))) (first|(with_reducible exact⟨lq X z0,lq X z1,lq X z2,lq X z3,lq X z4,lq X z5,lq X z6,lq dn z7,lq dn z8,lq hg z9⟩)|go_keep) (first
              |(go_at_call 177;(with_reducible apply Calls.mono gl.o);rintro r yu ⟨rfl,D⟩;have TW:=I D;clear D;obtain⟨y0,y1,y2,y3,y4,y5,y6,y7,y8,y9⟩:=PM _ TW.o;obtain⟨ng,nh,ni,nj,nm,nn,np,nr,ns,nt⟩:=PM _ (aM TW (.cells #[.int .i64 0,.int .u64 0,.string ⟨#[]⟩,.int .i64 0,.int .i64 0,.int .i64 0,.int .i64 0,.string ⟨#[]⟩,.int .i64 0,.int .u64 0,.int .u64 0,.int .i64 0,.int .i64 0,.int .u64 0,.int .u64 0] 338));obtain⟨mn,mu,mv,mw,mx,my,mz,nc,nd,nf⟩:=PM _ (aM TW (.cells #[.int .i64 m.ae,.int .u64 (m.aO.toNat:Int),.string ⟨m.az.toArray⟩,.int .i64 m.dY,.int .i64 m.start,.int .i64 m.fin,.int .i64 m.aD,.string ⟨q.aV.toArray⟩,.int .i64 S.aH,.int .u64 (S.key.toNat:Int),.int .u64 0,.int .i64 q.bW,.int .i64 0,.int .u64 (t.aO.toNat:Int),.int .u64 0] 338)))
              |(go_at_call 177;(with_reducible apply Calls.mono Xu.o);rintro r yu ⟨rfl,D,bz⟩;have TW:=I D;have i:=I bz;clear D bz;have t0:=i.cell 0;have ki:=i.frozen 0;have t1:=i.cell 1;have kj:=i.frozen 1;have t2:=i.cell 2;have kk:=i.frozen 2;have t3:=i.cell 3;have kl:=i.frozen 3;have t4:=i.cell 4;have kn:=i.frozen 4;have t5:=i.cell 5;have ko:=i.frozen 5;have t6:=i.cell 6;have kq:=i.frozen 6;have t7:=i.cell 7;have kr:=i.frozen 7;have t8:=i.cell 8;have ks:=i.frozen 8;have t9:=i.cell 9;have kt:=i.frozen 9;have kd:=i.cell 10;have hl:=i.frozen 10;have ke:=i.cell 11;have hq:=i.frozen 11;have kf:=i.cell 12;have ht:=i.frozen 12;have kg:=i.cell 13;have hz:=i.frozen 13;have kh:=i.cell 14;have ib:=i.frozen 14;obtain⟨z0,z1,z2,z3,z4,z5,z6,z7,z8,z9⟩:=PM _ TW))
             all_goals go_wp2
             all_goals go_meet
             all_goals have D:=kU _ _ _ _ P (CF.bD TW _)
             .exact⟨_,rfl,(by have:=TW.size;omega),dm.new _ _ _,kU.o _ _ _ _ D (CF.bD (cy _ _ none) _)⟩
             .exact⟨W9.1.size,rfl,ha,CI i _ _ _ _ _ _ _ _ _ _ _ _ _ _ _,kU _ _ _ _ D (AE yu W9.1.size _ _ _ _ _ _ _ _ _ _ _ _ _ _ _ _ (λ_=>.inr G))⟩
            case rest=>
             obtain⟨rb,rfl,jt,i,hX⟩:=hcut;have D:=I hX;have Pz:=I i;clear hX i P aj Vu PM x0 x1 x2 x3 x4 x5 x6 x7 x8 x9;obtain⟨rp,rH⟩:∃r:RP,r=⟨m,q.aV,S.aH,S.key,0,q.bW,0,t.aO,0⟩:=⟨_,rfl⟩
             have bc:nW wc rb rp:=(by rw[rH];exact Pz.range);have ar:=A7 Pz 15 (cA 15);by_cases LM:k.aL.length<24
             .obtain⟨ao,X,hc⟩:=Pq D.bU;have HD:=I (Vl l g rb k.aL.length X ao rp wc D.hear.c3 LM hc bc ar);rw[dQ LM]at an;clear hc bc ar rH LM
              go_wp2_with (first
               |(go_at_call 180;refine HD.mono ?_;clear HD;rintro r ds ⟨rfl,i⟩;have zL:=I i;clear i))
              go_meet;have hS:=kU _ _ _ _ D (zL.mono (λ_ _ _ e=>.inr G));exact⟨_,_,rfl,⟨by decide,by decide⟩,an,hS.hear,hS.bU,hS.r,hS.big,hS.cf,hS.j⟩
             .obtain⟨qd,bt,hc,bm,bn,bo,bl⟩:=Km D.bU G;have bq:=V.Po qd bt;have hf:=HN.2;have HD:=I (Pn l g rb qd k.aL k.aL.length rp wc D.hear.c3 (I rfl) G bm bn hc (by have:=D.bU.live;rwa [cR]at this) bo bq.1 (bl.lt) bc ar G sL V.hbg);have fz:=I (λW' off=>Gu (W':=W') (rb:=rb) (off:=off) D.bU G bm bn bo bl);rw[b' LM]at an;obtain⟨ao,X,hv,ju⟩:=xx D.o.r;subst hv;have c2:=D.o.hear.c2;have cp:=I rH;have gq:=I bt;have cn:=I bq;have ga:Hid (l≠rb):=(by have:=HN.1;exact I G);have gm:=I ar.lt;have HOr:Hid (mL C rb):=λp hp e=>by have:=gz p hp;omega
              have gu:Hid (∀W,nW W rb (rp.drawn (eP k.aL 0) (eP k.aL 1) (eP k.aL 2))->fA W (.slice ao 0 X) C []->rb<W.1.size->Calls prog 187 #[N rb 0,.slice ao 0 X] W λe f=>∃v',e=.returned v'/\aU W f v' C ([]++(rp.drawn (eP k.aL 0) (eP k.aL 1) (eP k.aL 2)).wu 13 5)):=
               λW f h2 p=>BJ (.slice ao 0 X) C [] rb _ W h2 f p HOr (XB cp ca.1 HQ.2.2.1 (V.uq S (mQ zh.2)) (mi zh.2) (by rw[ca.2,<-mi zh.o.1];exact(V.uq cl (mQ zh.1)).name)) Z
              clear hc bm bn bo bl bq hf bc ar rH bt LM
              go_wp2_with (first
               |(go_at_call 180;refine HD.mono ?_;clear HD;rintro r ds ⟨rfl,p,W,i⟩;have gv:=I p;have gw:=I W;have zL:=I i;clear p W i;have ir:=zL.cell c2 (λe=>by rcases e with⟨e,_⟩|e;exact V.hbg e;exact ga e);have gp:=I (fW gm zL.size))
               |(go_at_call 187;refine(gu _ gv (D.r.cf zL (λ_ _ j hj=>absurd hj Z)) gp).mono ?_;rintro r ku ⟨v',rfl,f⟩;have gx:=I f;clear f))
              first|go_ret|(rw[Exit.noGoto_ret];go_ret)
              refine⟨_,rfl,?_⟩;rw[an];obtain⟨off,k1,k2,k3⟩:=gw.o;have hM:=gx.o;rw[TV cp.o (mi zh.o.2)]at hM;exact XD D.big D.cf zL G gr D.j hM V (fz ds off k1 k2 k3 zL cn.1 (by have:=cn.2.2.1;omega) (by have:=HN.2;omega)) gq.o rfl
        .have f:=I (Vm y x d 7 6 2 1 H H H H);have qN:Hid (FR=(aY d (dV y x d 7 6 2 1),k)):=by
          rw[Ca,Xz Wy.o (fh.2 PK.o) vp vm av];exact rfl
         generalize dV y x d 7 6 2 1=pcd at *;go_wp2_with fail;go_meet;exact⟨_,_,rfl,f,qN,zT.hear,zT.bU,zT.r,zT.big,zT.cf,zT.j⟩
 case rest=>
  obtain⟨ab,M1,rfl,f,ad,k,hD,hO,b,hC,i⟩:=hcut;have j:=I i;clear i;have i:=I (zK l g T Q U R C d ab _ k hO V.prH HQ.1 f);have Ca:=I ad;have HD:=I hD;have m:=I hC;have HB:=I b;clear k hO f ad hD hC b;go_wp2_with (first|(go_at_call 141;refine i.mono ?_;rintro e w9 ⟨v',rfl,b⟩;have Vu:=I b;clear b))
  rw[Exit.noGoto_ret];go_ret;refine⟨_,rfl,?_⟩;rw[Ca];exact PH HD HB m Vu V j.o
