import Derived.Test.YtlfifnpjeangmaaGreatDoorGEPFirB
namespace Go.Proofs.YtlfifnpjeangmaaGreatDoor
set_option maxHeartbeats 20000000
open Proofs.Tryz Go.RowKit
set_option maxRecDepth 100000
variable {b:Nat}{w:World}{p:Prop}
def wh(w:World)(po:Option Pl)(dQ:Nat->Nat->Prop)(z:E)(v:Value):Prop:=
 ∃ao cap,v=.slice ao z.length cap/\z.length<=cap/\At w ao z/\∀b off,ao=some ⟨b,off,none⟩->∀j,j<z.length->¬ Pl.has po b (off+j)/\¬ dQ b (off+j)/\b<w.1.size
theorem lI{q:NQ}{v u:Value}(h:w.rangeAt b 0 (q.cells v u)):w.cell? (F b 0)=some (.string ⟨q.fU.toArray⟩)/\w.cell? (F b 1)=some (Y q.oC)/\w.cell? (F b 2)=some v/\w.cell? (F b 3)=some u/\w.cell? (F b 4)=some (.string ⟨q.aV.toArray⟩)/\w.cell? (F b 5)=some (Y q.bV)/\w.cell? (F b 6)=some (Y q.dI)/\w.cell? (F b 7)=some (Y q.bX)/\w.cell? (F b 8)=some (Y q.aO):=
 ⟨h 0 _ rfl,h 1 _ rfl,h 2 _ rfl,h 3 _ rfl,h 4 _ rfl,h 5 _ rfl,h 6 _ rfl,h 7 _ rfl,h 8 _ rfl⟩
theorem EH(h:b' w b 7):(∀j,j<7->∃d,w.c b j=some d)/\∀j,w.z b j=false:=⟨λj a=>cA.1 (h.some j a),λj=>h.frozen j⟩
theorem IQ(w)(b)(h:b' w b 7)(t:TK):(((((((w.s b 0 (Y t.ae)).s b 1 (H (t.aN.toNat:Int))).s b 2 (.string ⟨t.ay.toArray⟩)).s b 3 (Y t.dV)).s b 4 (Y t.start)).s b 5 (Y t.fin)).s b 6 (Y t.aC)).rangeAt b 0 t.cells:=jI [Y t.ae,H (t.aN.toNat:Int),.string ⟨t.ay.toArray⟩,Y t.dV,Y t.start,Y t.fin,Y t.aC] 0 w b 7 h (cy 7)
theorem QY(w)(b)(h:b' w b 7):(((((((w.s b 0 (Y 0)).s b 1 (H 0)).s b 2 ε).s b 3 (Y 0)).s b 4 (Y 0)).s b 5 (Y 0)).s b 6 (Y 0)).rangeAt b 0 [Y 0,H 0,ε,Y 0,Y 0,Y 0,Y 0]:=jI [Y 0,H 0,ε,Y 0,Y 0,Y 0,Y 0] 0 w b 7 h (cy 7)
theorem U0(w)(b)(h:b' w b 3)(p:PF):(((w.s b 0 (.string ⟨p.ay.toArray⟩)).s b 1 (Y p.time)).s b 2 (Y p.count)).rangeAt b 0 p.bE:=jI [.string ⟨p.ay.toArray⟩,Y p.time,Y p.count] 0 w b 3 h (cy 3)
theorem ui(w)(b)(a d e f g h i):CF w (((((((w.setCell (F b 0) (a)).setCell (F b 1) (d)).setCell (F b 2) (e)).setCell (F b 3) (f)).setCell (F b 4) (g)).setCell (F b 5) (h)).setCell (F b 6) (i)) (λx _=>x=b):=by
 exact rB
theorem Zf{t:TK}(h:w.rangeAt b 0 t.cells)(a:b' w b 7):(w.cell? (F b 0)=some (Y t.ae)/\w.cell? (F b 1)=some (H (t.aN.toNat:Int))/\w.cell? (F b 2)=some (.string ⟨t.ay.toArray⟩)/\w.cell? (F b 3)=some (Y t.dV)/\w.cell? (F b 4)=some (Y t.start)/\w.cell? (F b 5)=some (Y t.fin)/\w.cell? (F b 6)=some (Y t.aC))/\w.frozen? (F b 0)=false/\w.frozen? (F b 1)=false/\w.frozen? (F b 2)=false/\w.frozen? (F b 3)=false/\w.frozen? (F b 4)=false/\w.frozen? (F b 5)=false/\w.frozen? (F b 6)=false:=
 ⟨⟨h 0 _ rfl,h 1 _ rfl,h 2 _ rfl,h 3 _ rfl,h 4 _ rfl,h 5 _ rfl,h 6 _ rfl⟩,a.frozen 0,a.frozen 1,a.frozen 2,a.frozen 3,a.frozen 4,a.frozen 5,a.frozen 6⟩
theorem ve(b a)(l)(p):bL b a l p=34\/bL b a l p=60\/bL b a l p=0:=by
 grind [bL]
theorem EI(b a)(l)(p)(h:l.length<=8):(bJ b a l p).length<=8:=by
 grind [iQ,bL,bJ]
theorem Nj{W a:World}{g:Nat}{d:Option Pl}{M:DM}{l:List PF}(h:dE W g 0 d M)(k:CF W a (λb y=>b=g/\163<=y/\y<188))(i:a.rangeAt g 163 (bZ l))(f:a.c g 187=some (Y l.length))(o:∀q,d=some q->q.g≠g)(m:l.length<=8):dE a g 0 d {M with aJ:=l}:=by
 obtain⟨v,n,p⟩:=h.aL;exact⟨h.live.cf k,k.cell h.aA (λe=>by omega),⟨v,k.cell n (λe=>by omega),(by grind [f'.cf])⟩,h.aF.cf k (λj _ f e=>by omega),by rw[cN];exact i,by rw[cN];exact f,m⟩
theorem II(h:p:=by
 clear h0 Nl
 go_wp2_with (first|(go_at_call 220;refine HC.mono ?_;clear HC;rintro r w8 ⟨rfl,h1,h2,C8⟩;have HD8:=I (HDk _ h1 h2 C8);have O9:=I (HCf _ C8);clear h1 h2 C8))
 go_meet
 exact⟨_,_,rfl,Cn,O9.2.2.1,HD8,O9.1,O9.2.1⟩):p:=h
theorem Hp(h:p:=by
 go_wp2_with fail
 go_meet
 exact⟨_,_,rfl,Cn,O8.2.2,O8.1.bP,O8.2.1,O8.1.cf.mono (λ_ _ _ e=>.inl e)⟩):p:=h
theorem D4(h:p:=by
 go_meet
 exact⟨_,_,rfl,Cn,KU.2.2,KU.1.bP,KU.2.1,KU.1.cf.mono (λ_ _ _ e=>.inl e)⟩):p:=h
theorem U4(m g d T)(P rv t R)(l Q D)(J:World->Prop)(B sW:Nat->Nat->Prop)(M)(now)(q)(v u)(w)(S:HS m g d T P rv l Q D J B sW M.aF)(h:yE w m g T P t R now)(hd:dE w g 0 D M)(hJ:J w)(ho:f' w t l [])(hr:f' w R Q [])(hv:wh w l B q.dO v)(hu:wh w l B q.proof u)(V:b9 now)(Ai:∀y∈M.aJ,b9 y.time)(ad:d<=w.1.size):Calls prog 183 #[π m 0,.agg (q.cells v u).toArray] w λe f=>e=.returned (sI (iH M now q).1)/\dE f g 0 D (iH M now q).2/\J f/\CF w f (λb y=>pL l B b y\/b=g/\163<=y/\y<188):=by
 have cp:=S.hbb
 have cv:=S.gb
 obtain⟨W0,hW0⟩:=aw ((w.alloc (.cells (q.cells v u).toArray 276)).alloc (.cells jA 333))
 have A:w.grownBy W0 none:=by grind [cx,aM]
 have s0:W0.1.size=w.1.size+1+1:=rR
 have RQ:W0.rangeAt w.1.size 0 (q.cells v u):=by grind [aS,gZ,cx]
 have LT:b' W0 (w.1.size+1) 7:=by
  have h:=b'.new (w.alloc (.cells (q.cells v u).toArray 276)) jA 333;exact tA
 have a:∀b y,Pl.has l b y->b<w.1.size:=λb y e=>ho.lt e
 have X0:FX w W0 m g d T P t R l Q D B M now w.1.size (q.cells v u):=⟨h.grown A,hd.grown A,ho.grown A,hr.grown A,RQ,A.size,CF.bF A _⟩
 have kI:Hid (∀W i,FX w W m g d T P t R l Q D B M now w.1.size (q.cells v u)->CF W i (λb y=>pL l B b y\/w.1.size<b)->FX w i m g d T P t R l Q D B M now w.1.size (q.cells v u)):=λW i h k=>h.step S k rfl ad a
 obtain⟨AR,L⟩:=N (iH M now q)
 rw[L]
 have Zg:=I L
 have Zh:Hid (∀W,Calls prog 216 #[.agg (q.cells v u).toArray] W λe f=>e=.returned (.bool (jB q))/\W.grownBy f none):=λW=>EB v u q W
 have af:=I S.finds.stay
 obtain⟨x,hx⟩:=N (BE.find M.aF q.fU)
 have ag:=I hx
 have bc:Hid (∀W,J W->Calls prog (mC T) #[rv,.string ⟨q.fU.toArray⟩] W λe f=>e=.returned (nN x)/\J f/\CF W f B):=λW hW=>by rw[<-hx];exact S.finds.call W hW q.fU
 have hm:=S.afQ
 have tq:Hid (∀W i,(FX w W m g d T P t R l Q D B M now w.1.size (q.cells v u)/\J W/\b' W (w.1.size+1) 7)->W.grownBy i none->(FX w i m g d T P t R l Q D B M now w.1.size (q.cells v u)/\J i/\b' i (w.1.size+1) 7)):=λW i h k=>⟨(by grind [FX.step,CF.bF]),S.finds.stay _ _ h.2.1 (CF.bF k _),h.2.2.grown k⟩
 have QZ:Hid (∀W i,(FX w W m g d T P t R l Q D B M now w.1.size (q.cells v u)/\J W/\b' W (w.1.size+1) 7)->CF W i (Pl.has l)->(FX w i m g d T P t R l Q D B M now w.1.size (q.cells v u)/\J i/\b' i (w.1.size+1) 7)):=λW i h k=>⟨h.1.step S (k.mono (λ_ _ _ e=>.inl (.inr e))) rfl ad a,S.finds.stay _ _ h.2.1 (by grind [CF.mono,HS.poJ]),h.2.2.cf k⟩
 have Q0:Hid (∀W i X,(FX w W m g d T P t R l Q D B M now w.1.size (q.cells v u)/\J W/\b' W (w.1.size+1) 7)->w.1.size<X->CF W i (λb _=>b=X)->(FX w i m g d T P t R l Q D B M now w.1.size (q.cells v u)/\J i/\b' i (w.1.size+1) 7)):=λW i X h j k=>⟨(by grind [CF.mono,FX.step]),S.finds.stay _ _ h.2.1 (k.mono (λb y _ e=>S.AO b y G)),h.2.2.cf k⟩
 have AP:Hid (∀W i,(FX w W m g d T P t R l Q D B M now w.1.size (q.cells v u)/\J W/\b' W (w.1.size+1) 7)->CF W i B->J i->(FX w i m g d T P t R l Q D B M now w.1.size (q.cells v u)/\J i/\b' i (w.1.size+1) 7)):=λW i h k j=>⟨h.1.step S (k.mono (λ_ _ _ e=>.inl (.inl e))) rfl ad a,j,h.2.2.cf k⟩
 have bn:Hid (∀W C,FX w W m g d T P t R l Q D B M now w.1.size (q.cells v u)->Calls prog 218 #[t,H (UInt64.toNat C:Int),v] W λe f=>e=.returned (.tuple #[.agg (WA (dD C 2 q.dO)).cells.toArray,.bool (iC (UD (dD C 2 q.dO)))])/\CF W f (Pl.has l)):=by
  intro W C X;obtain⟨ao,K,rfl,h2,h3,U⟩:=hv;exact J4 t l [] C ao q.dO q.dO.length K W X.oq (I rfl) h2 (h3.cf X.cf (λb p e j hj n=>by rcases n with n|n;exact(U b p e j hj).2.1 n;exact(U b p e j hj).1 n)) fA
 have bk:Hid (∀W C,FX w W m g d T P t R l Q D B M now w.1.size (q.cells v u)->Calls prog 219 #[t,H (UInt64.toNat C:Int),u] W λe f=>e=.returned (.tuple #[.agg (YI (dD C 4 q.proof)).bE.toArray,.bool (iC (Wx (dD C 4 q.proof)))])/\CF W f (Pl.has l)):=by
  intro W C X;obtain⟨ao,K,rfl,h2,h3,U⟩:=hu;exact Ng t l [] C ao q.proof q.proof.length K W X.oq (I rfl) h2 (h3.cf X.cf (λb p e j hj n=>by rcases n with n|n;exact(U b p e j hj).2.1 n;exact(U b p e j hj).1 n)) fA
 have cb:Hid (∀(W)(p:PF),FX w W m g d T P t R l Q D B M now w.1.size (q.cells v u)->b9 p.time->M.aA<dU p.time now->Calls prog 220 #[π m 0,.agg p.bE.toArray] W λe f=>e=.returned (Y 37)/\W.grownBy f none):=λW p X h1 h2=>Eb m g now M.aA p W X.hear.c3 X.hear.c4 X.bP.aA V h1 h2
 have ca:Hid (∀(W)(p),FX w W m g d T P t R l Q D B M now w.1.size (q.cells v u)->b9 p.time->¬ M.aA<dU p.time now->Calls prog 220 #[π m 0,.agg p.bE.toArray] W λe f=>e=.returned (Y (bL M.aA now M.aJ p))/\f.rangeAt g 163 (bZ (bJ M.aA now M.aJ p))/\f.c g 187=some (Y (bJ M.aA now M.aJ p).length)/\CF W f (λb y=>b=g/\163<=y/\y<188)):=λW p X h1 h2=>by
  have hD:=X.bP;have e1:=hD.aJ;have e2:=hD.count;rw[cN]at e1 e2;exact BU m g now M.aA M.aJ p W X.hear.c3 X.hear.c4 hD.aA S.hbg V h1 Ai hD.few (by have:=hD.live;rwa [cN]at this) e1 e2 h2
 have vZ:=I S
 have bp:=I X0
 have HJ:=I hJ
 have bs:=I LT
 have sS:=I A
 have bu:=I hW0
 have HV:=I hv
 have HU:=I hu
 have SA:=I a
 have cl:=I Ai
 have cm:=I V
 have HN:Hid (m<w.1.size/\g<w.1.size):=⟨by omega,by omega⟩
 have cn:Hid (∀p,l=some p->p.g<w.1.size):=λp K=>ho.K8 p K
 clear hx L S h hd hJ ho hr hv hu V Ai hW0 A RQ LT X0 a s0
 have n1:w.1.size+1≠w.1.size:=G
 have cr:=Bt T
 go_in
 go_wp2_with (rw[<-bu];fail_if_success done)
 go_step3
 go_wp2_with fail
 go_step3
 go_upto_block 0 with fail
 go_cut [5] (λc U=>∃ah M',c = Y ah/\AR=(.error ah,M')/\b' U (w.1.size+1) 7/\dE U g 0 D M'/\J U/\CF w U (λb y=>pL l B b y\/b=g/\163<=y/\y<188))
 case first=>
  have a:(FX w W0 m g d T P t R l Q D B M now w.1.size (q.cells v u)/\J W0/\b' W0 (w.1.size+1) 7):=⟨bp,af _ _ HJ (CF.bF sS _),bs⟩
  have ak:=I a;clear a;obtain⟨k0,k1,k2,k3,k4,k5,k6,k7,k8⟩:=lI bp.ask;go_upto_region 2 with fail
  go_cut [18] (λc U=>c=.bool (!decide (q.fU=[116,103,115])&&!jB q)/\(FX w U m g d T P t R l Q D B M now w.1.size (q.cells v u)/\J U/\b' U (w.1.size+1) 7))
  case first=>
   by_cases a:q.fU=[116,103,115]
   .have K:=db.2 a;have A:=I a;clear a;go_wp2_with fail;go_meet;exact⟨by rw[dk A.o];rfl,ak⟩
   .have K:=cJ.2 a;obtain⟨V,A⟩:=N (jB q);rw[A]at Zh;go_wp2_with (first|(go_at_call 216;refine(Zh _).mono ?_;clear Zh;rintro r X ⟨rfl,L⟩;have S:=I L;clear L))
    go_meet;exact⟨by rw[cX a,A];rfl,tq _ _ ak S⟩
  case rest=>
   obtain⟨rfl,hA⟩:=hcut;have S:=I hA;clear hA ak k0 k1 k2 k3 k4 k5 k6 k7 k8;by_cases ab:¬ (q.fU=[116,103,115]\/jB q=true)
   .have Cn:Hid (AR=(.error 36,M)):=(by rw[<-Zg];exact Nc (λe=>ab (.inl e)) (by cases h:jB q with|false=>rfl|true=>exact absurd (.inr h) ab));have e1:(!decide (q.fU=[116,103,115])&&!jB q)=true:=by
     cases h:jB q with
     |true=>exact absurd (.inr h) ab
     |false=>rw[cX (λe=>ab (.inl e))];rfl
    rw[e1];clear e1;go_wp2_with fail;go_meet;exact⟨_,_,rfl,Cn,S.2.2,S.1.bP,S.2.1,S.1.cf.mono (λ_ _ _ e=>.inl e)⟩
   .have ab:=Classical.not_not.1 ab;have e1:(!decide (q.fU=[116,103,115])&&!jB q)=false:=by
     rcases ab with h|h
     .rw[dk h];rfl
     .rw[h];simp
    rw[e1];have qf:=I ab;clear e1 ab;obtain⟨k0,k1,k2,k3,k4,k5,k6,k7,k8⟩:=lI S.1.ask;go_wp2_with fail;obtain⟨v0,v1,v2,v3,v4,v5,v6,v7,K⟩:=iM x;have ar:=I K;have a:=bc.o;unfold nN at a;rw[K]at a;obtain⟨bx,A⟩:=N x.isSome;rw[A]at a;have ai:=I a;have ba:=I A;clear A K a;have c0:=S.1.hear.c0;obtain⟨W1,a⟩:=aw wc;rw[<-a]at S c0 k0 k1 k2 k3 k4 k5 k6 k7 k8;rw[<-a];clear a;go_cut [6,7] (λp c U=>∃eb,p = π eb 0/\w.1.size+1<eb/\c=.bool bx/\U.rangeAt eb 0 (rG x)/\(FX w U m g d T P t R l Q D B M now w.1.size (q.cells v u)/\J U/\b' U (w.1.size+1) 7))
    case first=>
     have X:=S.2.2.lt;have na:w.1.size≠W1.1.size:=G;have nb:m≠W1.1.size:=rS;have ch:W1.1.size≠w.1.size:=λe=>na e.symm;have cj:W1.1.size≠m:=λe=>nb e.symm;have an:Hid (Calls prog (mC T) #[rv,.string ⟨q.fU.toArray⟩] W1.drew λe f=>e=.returned (.tuple #[.agg #[.string v0,Y v1,H v2,H v3,Y v4,Y v5,Y v6,Y v7],.bool bx])/\(FX w f m g d T P t R l Q D B M now w.1.size (q.cells v u)/\J f/\b' f (w.1.size+1) 7)/\W1.1.size<=f.1.size):=(ai _ (af _ _ S.2.1 (CF.bF (bg (cC _ _)) _))).mono λ_ _ ⟨a,b,c⟩=>⟨a,AP _ _ S c.dM b,c.size⟩
     have UZ:Hid (Calls prog (mC T) #[rv,.string ⟨q.fU.toArray⟩] ((W1.alloc (.cells #[ε,Y 0,H 0,H 0,Y 0,Y 0,Y 0,Y 0] 126)).drew) λe f=>e=.returned (.tuple #[.agg #[.string v0,Y v1,H v2,H v3,Y v4,Y v5,Y v6,Y v7],.bool bx])/\(FX w f m g d T P t R l Q D B M now w.1.size (q.cells v u)/\J f/\b' f (w.1.size+1) 7)/\b' f W1.1.size 8):=(ai _ (af _ _ S.2.1 (CF.bF (bg (cx _ _ none)) _))).mono λ_ _ ⟨a,b,c⟩=>⟨a,AP _ _ (tq _ _ S (cx _ _ none)) c.dM b,(b'.new W1 #[ε,Y 0,H 0,H 0,Y 0,Y 0,Y 0,Y 0] _).cf c.dM⟩
     clear ai;have ga:=cx W1 (.cells #[ε,Y 0,H 0,H 0,Y 0,Y 0,Y 0,Y 0] 126) none;have x0:=ga.cell k0 Z;have xc:=ga.cell c0 Z;clear ga
     go_region_held3 (λf=>f.c m 0=some (.iface T P)/\f.c w.1.size 0=some (.string ⟨q.fU.toArray⟩)) (go_keep) (first
      |((with_reducible show Calls _ (mC T) _ _ _);(with_reducible apply Calls.mono an.o);rintro r w2 ⟨rfl,K,z2⟩;have A:=I K;have V:=I z2;clear K z2;have y0:=A.1.ask 0 _ rfl;have yc:=A.1.hear.c0;have g2:=cx w2 (.cells #[.string ⟨#[]⟩,.int .i64 0,.int .u64 0,.int .u64 0,.int .i64 0,.int .i64 0,.int .i64 0,.int .i64 0] 126) none;have ec:=g2.cell y0 Z;have er:=g2.cell yc Z;have g3:=cx w2 (.cells #[.string v0,.int .i64 v1,.int .u64 v2,.int .u64 v3,.int .i64 v4,.int .i64 v5,.int .i64 v6,.int .i64 v7] 126) none;have df:=g3.cell y0 Z;have dv:=g3.cell yc Z;clear g2 g3)
      |((with_reducible show Calls _ (mC T) _ _ _);(with_reducible apply Calls.mono UZ.o);rintro r w2 ⟨rfl,K,l2⟩;have A:=I K;have L:=I l2;clear K l2;have y0:=A.1.ask 0 _ rfl;have yc:=A.1.hear.c0;obtain⟨⟨d0,q0⟩,⟨d1,q1⟩,⟨d2,q2⟩,⟨d3,q3⟩,⟨d4,q4⟩,⟨d5,q5⟩,⟨d6,q6⟩,⟨d7,q7⟩,f0,f1,f2,f3,f4,f5,f6,f7⟩:=gI L))
     all_goals go_wp2
     all_goals go_meet
     .exact⟨_,rfl,(by have:=V.o;omega),rfl,by rw[ar.o];exact(dz.new _ _ _).range,tq _ _ A (cx _ _ none)⟩
     .refine⟨W1.1.size,rfl,X,rfl,by rw[ar];exact jw _ _ _ _ _ _ _ _ _ _ q0 q1 q2 q3 q4 q5 q6 q7,Q0 _ _ W1.1.size A G ?_⟩;exact rB
    case rest=>
     obtain⟨eb,rfl,cu,rfl,A,hA⟩:=hcut;have KU:=I hA;have HE:=I A;clear hA A S c0 k0 k1 k2 k3 k4 k5 k6 k7 k8 ai bc;obtain⟨k0,k1,k2,k3,k4,k5,k6,k7,k8⟩:=lI KU.1.ask;cases x with
     |none=>
      obtain rfl:bx=false:=ba.o.symm;have Cn:Hid (AR=(.error 7,M)):=(by rw[<-Zg];exact Nf qf ag);go_wp2_with fail;exact D4
     |some e=>
      obtain rfl:bx=true:=ba.o.symm;have A:=vZ.sZ e (mq ag);have K:=Uu eb 0 e q.oC wc (HE 1 _ rfl) (HE 2 _ rfl) (HE 3 _ rfl) A.aH.1 (by have:=A.aH.2;omega);have ae:=I K;clear K A ar;cases hk:e.keyOf q.oC with
      |none=>
       rw[hk]at ae;have Cn:Hid (AR=(.error 44,M)):=(by rw[<-Zg];exact SQ qf ag hk);clear hk;go_wp2_with (first|(go_at_call 217;refine ae.mono ?_;clear ae;rintro r w4 ⟨rfl,rfl⟩))
       exact D4
      |some C=>
       rw[hk]at ae;have HK:=I hk;clear hk;go_wp2_with (first|(go_at_call 217;refine ae.mono ?_;clear ae;rintro r w4 ⟨rfl,rfl⟩))
       have nh:w.1.size+1≠m:=rS;have dd:m≠w.1.size+1:=λe=>nh e.symm;have da:w.1.size≠w.1.size+1:=G;obtain⟨A,K⟩:=N (WA (dD C 2 q.dO));obtain⟨dt,V⟩:=N (iC (UD (dD C 2 q.dO)));have L:=λW=>bn W C;rw[K,V]at L;have bq:Hid (∀W,FX w W m g d T P t R l Q D B M now w.1.size (q.cells v u)->Calls prog 218 #[t,H (UInt64.toNat C:Int),v] W λe f=>e=.returned (.tuple #[.agg #[Y A.ae,H (A.aN.toNat:Int),.string ⟨A.ay.toArray⟩,Y A.dV,Y A.start,Y A.fin,Y A.aC],.bool dt])/\CF W f (Pl.has l)):=L;have ck:Hid A.In:=(by rw[<-K];exact YW _);have bm:=I K;have al:=I V;have c1:=KU.1.hear.c1;clear L K V HE bn;obtain⟨W3,K⟩:=aw w4;rw[<-K]at KU c1 k0 k1 k2 k3 k4 k5 k6 k7 k8;rw[<-K];clear K;go_cut [7] (λc U=>c=.bool dt/\U.rangeAt (w.1.size+1) 0 A.cells/\(FX w U m g d T P t R l Q D B M now w.1.size (q.cells v u)/\J U/\b' U (w.1.size+1) 7))
       case first=>
        have L:=I (tq _ _ KU (bg (cC _ _))).1
        go_region_held3 (λf=>f.c m 1=some t/\f.c w.1.size 2=some v) (go_keep) (first
         |(go_at_call 218;refine(bq _ L).mono ?_;rintro r w5 ⟨rfl,X⟩;have V:=I (QZ _ _ KU X.dM);clear X;have y1:=V.1.hear.c1;have y2:=V.1.ask 2 _ rfl;have K:=EH V.2.2;obtain⟨d0,q0⟩:=K.1 0 O;have f0:=K.2 0;obtain⟨d1,q1⟩:=K.1 1 O;have f1:=K.2 1;obtain⟨d2,q2⟩:=K.1 2 O;have f2:=K.2 2;obtain⟨d3,q3⟩:=K.1 3 O;have f3:=K.2 3;obtain⟨d4,q4⟩:=K.1 4 O;have f4:=K.2 4;obtain⟨d5,q5⟩:=K.1 5 O;have f5:=K.2 5;obtain⟨d6,q6⟩:=K.1 6 O;have f6:=K.2 6;clear K))
        go_wp2;go_meet;exact⟨rfl,IQ w5 (w.1.size+1) V.2.2 A,Q0 _ _ (w.1.size+1) V G (ui w5 (w.1.size+1) _ _ _ _ _ _ _)⟩
       case rest=>
        obtain⟨rfl,hT,hA⟩:=hcut;have V:=I hA;have HT:=I hT;clear hA hT KU c1 k0 k1 k2 k3 k4 k5 k6 k7 k8 bq;obtain⟨k0,k1,k2,k3,k4,k5,k6,k7,k8⟩:=lI V.1.ask;cases dt with
        |false=>
         have Cn:Hid (AR=(.error 31,M)):=(by rw[<-Zg];exact QT qf ag HK al);go_wp2_with fail;go_meet;exact⟨_,_,rfl,Cn,V.2.2,V.1.bP,V.2.1,V.1.cf.mono (λ_ _ _ e=>.inl e)⟩
        |true=>
         obtain⟨L,X⟩:=N (YI (dD A.aN 4 q.proof));obtain⟨dq,ay⟩:=N (iC (Wx (dD A.aN 4 q.proof)));have au:=λW=>bk W A.aN;rw[X,ay]at au;have aj:∀W,FX w W m g d T P t R l Q D B M now w.1.size (q.cells v u)->Calls prog 219 #[t,H (UInt64.toNat A.aN:Int),u] W λe f=>e=.returned (.tuple #[.agg #[.string ⟨L.ay.toArray⟩,Y L.time,Y L.count],.bool dq])/\CF W f (Pl.has l):=au;have bf:Hid (b9 L.time):=(by rw[<-X];exact YX _);have bt:=I X;have bb:=I ay;have c1:=V.1.hear.c1;have ts:wc.c (w.1.size+1) 1=some (H (A.aN.toNat:Int)):=HT 1 _ rfl;clear au X ay bk;go_wp2_with fail;obtain⟨X,av⟩:=aw wc;rw[<-av]at V HT c1 ts k0 k1 k2 k3 k4 k5 k6 k7 k8;rw[<-av];clear av;go_cut [9,7] (λp c U=>∃pb,p = π pb 0/\w.1.size+1<pb/\c=.bool dq/\U.rangeAt pb 0 L.bE/\U.rangeAt (w.1.size+1) 0 A.cells/\(FX w U m g d T P t R l Q D B M now w.1.size (q.cells v u)/\J U/\b' U (w.1.size+1) 7))
         case first=>
          have cc:=V.2.2.lt;have na:w.1.size≠X.1.size:=G;have nb:m≠X.1.size:=rS;have nc:w.1.size+1≠X.1.size:=G;have ch:X.1.size≠w.1.size:=λe=>na e.symm;have cj:X.1.size≠m:=λe=>nb e.symm;have dc:X.1.size≠w.1.size+1:=λe=>nc e.symm;have bo:Hid (∀W i,(FX w W m g d T P t R l Q D B M now w.1.size (q.cells v u)/\J W/\b' W (w.1.size+1) 7)->W.rangeAt (w.1.size+1) 0 A.cells->CF W i (Pl.has l)->i.rangeAt (w.1.size+1) 0 A.cells):=λW i _ h k=>k.range h (λ_ _ e=>by have:=SA _ _ e;omega);have an:Hid (Calls prog 219 #[t,H (UInt64.toNat A.aN:Int),u] X.drew λe f=>e=.returned (.tuple #[.agg #[.string ⟨L.ay.toArray⟩,Y L.time,Y L.count],.bool dq])/\(FX w f m g d T P t R l Q D B M now w.1.size (q.cells v u)/\J f/\b' f (w.1.size+1) 7)/\f.rangeAt (w.1.size+1) 0 A.cells/\X.1.size<=f.1.size):=(aj _ (tq _ _ V (bg (cC _ _))).1).mono λ_ _ ⟨a,c⟩=>⟨a,QZ _ _ V c.dM,bo _ _ V HT c.dM,c.size⟩
          have UZ:Hid (Calls prog 219 #[t,H (UInt64.toNat A.aN:Int),u] ((X.alloc (.cells #[ε,Y 0,Y 0] 131)).drew) λe f=>e=.returned (.tuple #[.agg #[.string ⟨L.ay.toArray⟩,Y L.time,Y L.count],.bool dq])/\(FX w f m g d T P t R l Q D B M now w.1.size (q.cells v u)/\J f/\b' f (w.1.size+1) 7)/\f.rangeAt (w.1.size+1) 0 A.cells/\b' f X.1.size 3):=(aj _ (tq _ _ V (bg (cx _ _ none))).1).mono λ_ _ ⟨a,c⟩=>⟨a,QZ _ _ (tq _ _ V (cx _ _ none)) c.dM,bo _ _ (tq _ _ V (cx _ _ none)) (gZ HT (cx _ _ none)) c.dM,(b'.new X #[ε,Y 0,Y 0] _).cf c.dM⟩
          clear aj;have ga:=cx X (.cells #[ε,Y 0,Y 0] 131) none;have x1:=ga.cell c1 Z;have x3:=ga.cell k3 Z;have xs:=ga.cell ts Z;clear ga
          go_region_held3 (λf=>f.c m 1=some t/\f.c w.1.size 3=some u/\f.c (w.1.size+1) 1=some (H (A.aN.toNat:Int))) (go_keep) (first
           |(go_at_call 219;(with_reducible apply Calls.mono an.o);rintro r p ⟨rfl,a6,t6,z6⟩;have U:=I a6;have OZ:=I t6;have bz:=I z6;have y1:=U.1.hear.c1;have y3:=U.1.ask 3 _ rfl;have ys:p.cell? ⟨w.1.size+1,1,none⟩=some (.int .u64 (A.aN.toNat:Int)):=t6 1 _ rfl;clear a6 t6 z6;have g2:=cx p (.cells #[.string ⟨#[]⟩,.int .i64 0,.int .i64 0] 131) none;have ed:=g2.cell y1 Z;have ei:=g2.cell y3 Z;have et:=g2.cell ys Z;have g3:=cx p (.cells #[.string ⟨L.ay.toArray⟩,.int .i64 L.time,.int .i64 L.count] 131) none;have dn:=g3.cell y1 Z;have ds:=g3.cell y3 Z;have ea:=g3.cell ys Z;clear g2 g3)
           |(go_at_call 219;(with_reducible apply Calls.mono UZ.o);rintro r p ⟨rfl,a6,t6,a⟩;have U:=I a6;have OZ:=I t6;have Nk:=I a;have y1:=U.1.hear.c1;have y3:=U.1.ask 3 _ rfl;have ys:p.cell? ⟨w.1.size+1,1,none⟩=some (.int .u64 (A.aN.toNat:Int)):=t6 1 _ rfl;obtain⟨d0,q0⟩:=cA.1 (a.some 0 O);obtain⟨d1,q1⟩:=cA.1 (a.some 1 O);obtain⟨d2,q2⟩:=cA.1 (a.some 2 O);have f0:=a.frozen 0;have f1:=a.frozen 1;have f2:=a.frozen 2;clear a6 t6 a))
          all_goals go_wp2
          all_goals go_meet
          .exact⟨_,rfl,(by have:=bz.o;omega),rfl,(dz.new _ _ _).range,gZ OZ.o (cx _ _ none),tq.o _ _ U.o (cx _ _ none)⟩
          .have a:CF p (((p.setCell (F X.1.size 0) (.string ⟨L.ay.toArray⟩)).setCell (F X.1.size 1) (Y L.time)).setCell (F X.1.size 2) (Y L.count)) (λb _=>b=X.1.size):=by
            exact rB
           exact⟨X.1.size,rfl,cc,rfl,U0 p X.1.size Nk L,a.range OZ (λ_ _ e=>by omega),Q0.o _ _ X.1.size U.o G a⟩
         case rest=>
          obtain⟨pb,rfl,cz,rfl,a,hT,hA⟩:=hcut;have O8:=I hA;have bl:=I hT;have Nh:=I a;clear hA hT a V HT c1 ts k0 k1 k2 k3 k4 k5 k6 k7 k8 aj;cases dq with
          |false=>
           have Cn:Hid (AR=(.error 31,M)):=(by rw[<-Zg];exact UX qf ag HK al (by rw[bm];exact bb));exact Hp
          |true=>
           have a:=YY (M:=M) (now:=now) qf ag HK al bm bb bt.o;rw[Zg]at a;have p0:wc.c pb 0=some (.string ⟨L.ay.toArray⟩):=Nh 0 _ rfl;have p1:wc.c pb 1=some (Y L.time):=Nh 1 _ rfl;have p2:wc.c pb 2=some (Y L.count):=Nh 2 _ rfl;have r2:wc.c (w.1.size+1) 2=some (.string ⟨A.ay.toArray⟩):=bl 2 _ rfl;by_cases f:L.ay=A.ay
           .have cd:=db.2 f;rw[cZ (λn=>n f)]at a;clear f;by_cases U:M.aA<dU L.time now
            .rw[dT U]at a;have Cn:=I a;have HC:=I (cb wc L O8.1 bf U);clear a U;go_wp2_with (first|(go_at_call 220;refine HC.mono ?_;clear HC;rintro r w8 ⟨rfl,g8⟩;have p:=I (tq _ _ O8 g8);clear g8))
             go_meet;exact⟨_,_,rfl,Cn,p.2.2,p.1.bP,p.2.1,p.1.cf.mono (λ_ _ _ e=>.inl e)⟩
            .rw[cZ U]at a;have HC:=I (ca wc L O8.1 bf (eS.1 U));have HDk:Hid (∀i,i.rangeAt g 163 (bZ (bJ M.aA now M.aJ L))->i.c g 187=some (Y (bJ M.aA now M.aJ L).length)->CF wc i (λb y=>b=g/\163<=y/\y<188)->dE i g 0 D {M with aJ:=bJ M.aA now M.aJ L}):=λi h1 h2 k=>Nj O8.1.bP k h1 h2 (λq hq e=>(vZ.M6 q hq).1 e) (EI _ _ _ _ O8.1.bP.few);have HCf:Hid (∀i,CF wc i (λb y=>b=g/\163<=y/\y<188)->J i/\CF w i (λb y=>pL l B b y\/b=g/\163<=y/\y<188)/\b' i (w.1.size+1) 7/\i.rangeAt (w.1.size+1) 0 A.cells):=λi k=>⟨af _ _ O8.2.1 (k.mono (λb y _ e=>by obtain⟨rfl,h1,h2⟩:=e;exact vZ.acH y h1 h2)),(O8.1.cf.mono (λ_ _ _ e=>.inl e)).trans k (λ_ _ _ e=>.inr e),O8.2.2.cf k,k.range bl (λ_ _ e=>by have:=HN.2;omega)⟩
             obtain⟨p,i⟩:=N (bL M.aA now M.aJ L);obtain⟨pn,k⟩:=N (bJ M.aA now M.aJ L);have Nl:=I (ve M.aA now M.aJ L);rw[i]at Nl;rw[i,k]at HC a;rw[k]at HDk;clear i k U;by_cases h0:p=0
             .subst h0;rw[cZ (λn=>n rfl)]at a;have Cn:=I a;clear a;go_wp2_with (first|(go_at_call 220;refine HC.mono ?_;clear HC;rintro r w8 ⟨rfl,h1,h2,C8⟩;have HD8:=I (HDk _ h1 h2 C8);have O9:=I (HCf _ C8);clear h1 h2 C8;obtain⟨⟨s0,s1,s2,s3,s4,s5,s6⟩,n,e1,e2,e3,e4,e5,e6⟩:=Zf O9.2.2.2 O9.2.2.1))
              try rw[Exit.noGoto_ret]
              have k:=ui w8 (w.1.size+1) (Y A.ae) (H (A.aN.toNat:Int)) (.string ⟨A.ay.toArray⟩) (Y A.dV) (Y A.start) (Y A.fin) (Y A.aC);refine bodyPost_ret (aG results183 _ _ _ (w.1.size+1) rfl _ (eP (cs:=A.cells) (IQ w8 (w.1.size+1) O9.2.2.1 A) 333 _ underlying333 rfl Tryz.ji)) rfl ⟨by rw[Cn];rfl,?_,?_,?_⟩
              .rw[Cn];exact HD8.cf k (λj _ _ e=>by have:=HN.2;omega) (λq hq j _ e=>by have:=(vZ.M6 q hq).2.2.1;omega)
              .exact af _ _ O9.1 (k.mono (λb y _ e=>vZ.AO b y G))
              .exact O9.2.1.trans k (λi _ hi e=>by omega)
             .rw[dT h0]at a;have Cn:=I a;clear a;rcases Nl.o with rfl|rfl|rfl
              .exact II
              .exact II
              .exact absurd rfl h0
           .have cd:=cJ.2 f;rw[dT f]at a;have Cn:=I a;clear a;exact Hp
 case rest=>
  obtain⟨ah,M',rfl,a,C,hD,hj,A⟩:=hcut;have Cn:=I a;have p:=I C;have L:=I hD;have n:=I hj;have f:=I A;clear a C hD hj A;have K:=EH p.o;obtain⟨d0,q0⟩:=K.1 0 O;have f0:=K.2 0;obtain⟨d1,q1⟩:=K.1 1 O;have f1:=K.2 1;obtain⟨d2,q2⟩:=K.1 2 O;have f2:=K.2 2;obtain⟨d3,q3⟩:=K.1 3 O;have f3:=K.2 3;obtain⟨d4,q4⟩:=K.1 4 O;have f4:=K.2 4;obtain⟨d5,q5⟩:=K.1 5 O;have f5:=K.2 5;obtain⟨d6,q6⟩:=K.1 6 O;have f6:=K.2 6;clear K;go_wp2_with fail;try rw[Exit.noGoto_ret]
  have k:=ui wc (w.1.size+1) (Y 0) (H 0) ε (Y 0) (Y 0) (Y 0) (Y 0);refine bodyPost_ret (aG results183 _ _ _ (w.1.size+1) rfl _ (eP (QY wc (w.1.size+1) p) 333 _ underlying333 rfl Tryz.ji)) rfl ⟨by rw[Cn];rfl,?_,?_,?_⟩
  .rw[Cn];exact L.cf k (λj _ _ e=>by have:=HN.2;omega) (λq hq j _ e=>by have:=(vZ.M6 q hq).2.2.1;omega)
  .exact af _ _ n (k.mono (λb y _ e=>vZ.AO b y G))
  .exact f.o.trans k (λi _ hi e=>by omega)
