import Derived.Test.YticfhckmhcaigaaGreatDoorGEPFirB
namespace Go.Proofs.YticfhckmhcaigaaGreatDoor
set_option maxHeartbeats 20000000
open Proofs.Tryz Go.RowKit
set_option maxRecDepth 100000
variable {b:Nat}{w:World}{p:Prop}
def xz(w:World)(po:Option Pl)(dS:Nat->Nat->Prop)(z:E)(v:Value):Prop:=
 ∃ao cap,v=.slice ao z.length cap/\z.length<=cap/\At w ao z/\∀b off,ao=some ⟨b,off,none⟩->∀j,j<z.length->¬ Pl.has po b (off+j)/\¬ dS b (off+j)/\b<w.1.size
theorem lV{q:NQ}{v u:Value}(h:w.rangeAt b 0 (q.cells v u)):w.cell? (F b 0)=some (.string ⟨q.gq.toArray⟩)/\w.cell? (F b 1)=some (Y q.oW)/\w.cell? (F b 2)=some v/\w.cell? (F b 3)=some u/\w.cell? (F b 4)=some (.string ⟨q.aV.toArray⟩)/\w.cell? (F b 5)=some (Y q.bW)/\w.cell? (F b 6)=some (Y q.dM)/\w.cell? (F b 7)=some (Y q.bY)/\w.cell? (F b 8)=some (Y q.aR):=
 ⟨h 0 _ rfl,h 1 _ rfl,h 2 _ rfl,h 3 _ rfl,h 4 _ rfl,h 5 _ rfl,h 6 _ rfl,h 7 _ rfl,h 8 _ rfl⟩
theorem Gy(h:b9 w b 7):(∀j,j<7->∃d,w.c b j=some d)/\∀j,w.z b j=false:=⟨λj a=>cD.1 (h.some j a),λj=>h.frozen j⟩
theorem Kn(w)(b)(h:b9 w b 7)(t:TK):(((((((w.s b 0 (Y t.ae)).s b 1 (O (t.aO.toNat:Int))).s b 2 (.string ⟨t.az.toArray⟩)).s b 3 (Y t.dY)).s b 4 (Y t.start)).s b 5 (Y t.fin)).s b 6 (Y t.aD)).rangeAt b 0 t.cells:=jQ [Y t.ae,O (t.aO.toNat:Int),.string ⟨t.az.toArray⟩,Y t.dY,Y t.start,Y t.fin,Y t.aD] 0 w b 7 h (cA 7)
theorem TR(w)(b)(h:b9 w b 7):(((((((w.s b 0 (Y 0)).s b 1 (O 0)).s b 2 ε).s b 3 (Y 0)).s b 4 (Y 0)).s b 5 (Y 0)).s b 6 (Y 0)).rangeAt b 0 [Y 0,O 0,ε,Y 0,Y 0,Y 0,Y 0]:=jQ [Y 0,O 0,ε,Y 0,Y 0,Y 0,Y 0] 0 w b 7 h (cA 7)
theorem Xv(w)(b)(h:b9 w b 3)(p:PF):(((w.s b 0 (.string ⟨p.az.toArray⟩)).s b 1 (Y p.time)).s b 2 (Y p.count)).rangeAt b 0 p.bF:=jQ [.string ⟨p.az.toArray⟩,Y p.time,Y p.count] 0 w b 3 h (cA 3)
theorem uQ(w)(b)(a d e f g h i):CF w (((((((w.setCell (F b 0) (a)).setCell (F b 1) (d)).setCell (F b 2) (e)).setCell (F b 3) (f)).setCell (F b 4) (g)).setCell (F b 5) (h)).setCell (F b 6) (i)) (λx _=>x=b):=by
 exact rS
theorem abF{t:TK}(h:w.rangeAt b 0 t.cells)(a:b9 w b 7):(w.cell? (F b 0)=some (Y t.ae)/\w.cell? (F b 1)=some (O (t.aO.toNat:Int))/\w.cell? (F b 2)=some (.string ⟨t.az.toArray⟩)/\w.cell? (F b 3)=some (Y t.dY)/\w.cell? (F b 4)=some (Y t.start)/\w.cell? (F b 5)=some (Y t.fin)/\w.cell? (F b 6)=some (Y t.aD))/\w.frozen? (F b 0)=false/\w.frozen? (F b 1)=false/\w.frozen? (F b 2)=false/\w.frozen? (F b 3)=false/\w.frozen? (F b 4)=false/\w.frozen? (F b 5)=false/\w.frozen? (F b 6)=false:=
 ⟨⟨h 0 _ rfl,h 1 _ rfl,h 2 _ rfl,h 3 _ rfl,h 4 _ rfl,h 5 _ rfl,h 6 _ rfl⟩,a.frozen 0,a.frozen 1,a.frozen 2,a.frozen 3,a.frozen 4,a.frozen 5,a.frozen 6⟩
theorem wy(b a)(l)(p):bM b a l p=34\/bM b a l p=60\/bM b a l p=0:=by
 grind [bM]
theorem Gz(b a)(l)(p)(h:l.length<=8):(bK b a l p).length<=8:=by
 grind [iX,bM,bK]
theorem PD{W a:World}{g:Nat}{d:Option Pl}{M:DM}{l:List PF}(h:bX W g 0 d M)(k:CF W a (λb y=>b=g/\163<=y/\y<188))(i:a.rangeAt g 163 (cB l))(f:a.c g 187=some (Y l.length))(o:∀q,d=some q->q.g≠g)(m:l.length<=8):bX a g 0 d {M with aI:=l}:=by
 obtain⟨v,n,p⟩:=h.aL;exact⟨h.live.cf k,k.cell h.ax (λe=>by omega),⟨v,k.cell n (λe=>by omega),(by grind [fA.cf])⟩,h.aC.cf k (λj _ f e=>by omega),by rw[cR];exact i,by rw[cR];exact f,m⟩
theorem LA(h:p:=by
 clear h0 PG
 go_wp2_with (first|(go_at_call 220;refine HC.mono ?_;clear HC;rintro r w8 ⟨rfl,h1,h2,C8⟩;have HD8:=I (HDk _ h1 h2 C8);have Mm:=I (HCf _ C8);clear h1 h2 C8))
 go_meet
 exact⟨_,_,rfl,D5,Mm.2.2.1,HD8,Mm.1,Mm.2.1⟩):p:=h
theorem Hl(h:p:=by
 go_wp2_with fail
 go_meet
 exact⟨_,_,rfl,D5,Rc.2.2,Rc.1.bU,Rc.2.1,Rc.1.cf.mono (λ_ _ _ e=>.inl e)⟩):p:=h
theorem Fm(h:p:=by
 go_meet
 exact⟨_,_,rfl,D5,IM.2.2,IM.1.bU,IM.2.1,IM.1.cf.mono (λ_ _ _ e=>.inl e)⟩):p:=h
theorem Xw(m g d T)(P rv t R)(l Q D)(J:World->Prop)(B uo:Nat->Nat->Prop)(M)(now)(q)(v u)(w)(S:HS m g d T P rv l Q D J B uo M.aC)(h:zJ w m g T P t R now)(hd:bX w g 0 D M)(hJ:J w)(ho:fA w t l [])(hr:fA w R Q [])(hv:xz w l B q.dR v)(hu:xz w l B q.proof u)(V:bT now)(yo:∀y∈M.aI,bT y.time)(ad:d<=w.1.size):Calls prog 183 #[N m 0,.agg (q.cells v u).toArray] w λe f=>e=.returned (tZ (iM M now q).1)/\bX f g 0 D (iM M now q).2/\J f/\CF w f (λb y=>qt l B b y\/b=g/\163<=y/\y<188):=by
 have cr:=S.hbb
 have cz:=S.gb
 obtain⟨W0,hW0⟩:=aw ((w.alloc (.cells (q.cells v u).toArray 276)).alloc (.cells jH 333))
 have A:w.grownBy W0 none:=by grind [cy,aM]
 have s0:W0.1.size=w.1.size+1+1:=rB
 have RQ:W0.rangeAt w.1.size 0 (q.cells v u):=by grind [aS,iw,cy]
 have LT:b9 W0 (w.1.size+1) 7:=by
  have h:=b9.new (w.alloc (.cells (q.cells v u).toArray 276)) jH 333;exact tR
 have a:∀b y,Pl.has l b y->b<w.1.size:=λb y e=>ho.lt e
 have X0:FX w W0 m g d T P t R l Q D B M now w.1.size (q.cells v u):=⟨h.grown A,hd.grown A,ho.grown A,hr.grown A,RQ,A.size,CF.bD A _⟩
 have kU:Hid (∀W i,FX w W m g d T P t R l Q D B M now w.1.size (q.cells v u)->CF W i (λb y=>qt l B b y\/w.1.size<b)->FX w i m g d T P t R l Q D B M now w.1.size (q.cells v u)):=λW i h k=>h.step S k rfl ad a
 obtain⟨AR,L⟩:=aq (iM M now q)
 rw[L]
 have ae:=I L
 have av:Hid (∀W,Calls prog 216 #[.agg (q.cells v u).toArray] W λe f=>e=.returned (.bool (jI q))/\W.grownBy f none):=λW=>Gp v u q W
 have ag:=I S.finds.stay
 obtain⟨x,hx⟩:=aq (BE.find M.aC q.gq)
 have ah:=I hx
 have bf:Hid (∀W,J W->Calls prog (mJ T) #[rv,.string ⟨q.gq.toArray⟩] W λe f=>e=.returned (nZ x)/\J f/\CF W f B):=λW hW=>by rw[<-hx];exact S.finds.call W hW q.gq
 have hm:=S.ais
 have uu:Hid (∀W i,(FX w W m g d T P t R l Q D B M now w.1.size (q.cells v u)/\J W/\b9 W (w.1.size+1) 7)->W.grownBy i none->(FX w i m g d T P t R l Q D B M now w.1.size (q.cells v u)/\J i/\b9 i (w.1.size+1) 7)):=λW i h k=>⟨(by grind [FX.step,CF.bD]),S.finds.stay _ _ h.2.1 (CF.bD k _),h.2.2.grown k⟩
 have TS:Hid (∀W i,(FX w W m g d T P t R l Q D B M now w.1.size (q.cells v u)/\J W/\b9 W (w.1.size+1) 7)->CF W i (Pl.has l)->(FX w i m g d T P t R l Q D B M now w.1.size (q.cells v u)/\J i/\b9 i (w.1.size+1) 7)):=λW i h k=>⟨h.1.step S (k.mono (λ_ _ _ e=>.inl (.inr e))) rfl ad a,S.finds.stay _ _ h.2.1 (by grind [CF.mono,HS.poJ]),h.2.2.cf k⟩
 have TT:Hid (∀W i X,(FX w W m g d T P t R l Q D B M now w.1.size (q.cells v u)/\J W/\b9 W (w.1.size+1) 7)->w.1.size<X->CF W i (λb _=>b=X)->(FX w i m g d T P t R l Q D B M now w.1.size (q.cells v u)/\J i/\b9 i (w.1.size+1) 7)):=λW i X h j k=>⟨(by grind [CF.mono,FX.step]),S.finds.stay _ _ h.2.1 (k.mono (λb y _ e=>S.BV b y G)),h.2.2.cf k⟩
 have BZ:Hid (∀W i,(FX w W m g d T P t R l Q D B M now w.1.size (q.cells v u)/\J W/\b9 W (w.1.size+1) 7)->CF W i B->J i->(FX w i m g d T P t R l Q D B M now w.1.size (q.cells v u)/\J i/\b9 i (w.1.size+1) 7)):=λW i h k j=>⟨h.1.step S (k.mono (λ_ _ _ e=>.inl (.inl e))) rfl ad a,j,h.2.2.cf k⟩
 have bo:Hid (∀W C,FX w W m g d T P t R l Q D B M now w.1.size (q.cells v u)->Calls prog 218 #[t,O (UInt64.toNat C:Int),v] W λe f=>e=.returned (.tuple #[.agg (Y0 (dH C 2 q.dR)).cells.toArray,.bool (iG (Xb (dH C 2 q.dR)))])/\CF W f (Pl.has l)):=by
  intro W C X;obtain⟨ao,K,rfl,h2,h3,U⟩:=hv;exact Mk t l [] C ao q.dR q.dR.length K W X.oq (I rfl) h2 (h3.cf X.cf (λb p e j hj n=>by rcases n with n|n;exact(U b p e j hj).2.1 n;exact(U b p e j hj).1 n)) dT
 have bl:Hid (∀W C,FX w W m g d T P t R l Q D B M now w.1.size (q.cells v u)->Calls prog 219 #[t,O (UInt64.toNat C:Int),u] W λe f=>e=.returned (.tuple #[.agg (o0 (dH C 4 q.proof)).bF.toArray,.bool (iG (YX (dH C 4 q.proof)))])/\CF W f (Pl.has l)):=by
  intro W C X;obtain⟨ao,K,rfl,h2,h3,U⟩:=hu;exact Px t l [] C ao q.proof q.proof.length K W X.oq (I rfl) h2 (h3.cf X.cf (λb p e j hj n=>by rcases n with n|n;exact(U b p e j hj).2.1 n;exact(U b p e j hj).1 n)) dT
 have cc:Hid (∀(W)(p:PF),FX w W m g d T P t R l Q D B M now w.1.size (q.cells v u)->bT p.time->M.ax<dW p.time now->Calls prog 220 #[N m 0,.agg p.bF.toArray] W λe f=>e=.returned (Y 37)/\W.grownBy f none):=λW p X h1 h2=>FD m g now M.ax p W X.hear.c3 X.hear.c4 X.bU.ax V h1 h2
 have cb:Hid (∀(W)(p),FX w W m g d T P t R l Q D B M now w.1.size (q.cells v u)->bT p.time->¬ M.ax<dW p.time now->Calls prog 220 #[N m 0,.agg p.bF.toArray] W λe f=>e=.returned (Y (bM M.ax now M.aI p))/\f.rangeAt g 163 (cB (bK M.ax now M.aI p))/\f.c g 187=some (Y (bK M.ax now M.aI p).length)/\CF W f (λb y=>b=g/\163<=y/\y<188)):=λW p X h1 h2=>by
  have hD:=X.bU;have e1:=hD.aI;have e2:=hD.count;rw[cR]at e1 e2;exact Dy m g now M.ax M.aI p W X.hear.c3 X.hear.c4 hD.ax S.hbg V h1 yo hD.few (by have:=hD.live;rwa [cR]at this) e1 e2 h2
 have xy:=I S
 have bq:=I X0
 have HJ:=I hJ
 have bt:=I LT
 have sV:=I A
 have bz:=I hW0
 have HV:=I hv
 have HU:=I hu
 have Q0:=I a
 have cm:=I yo
 have cn:=I V
 have HN:Hid (m<w.1.size/\g<w.1.size):=⟨by omega,by omega⟩
 have cp:Hid (∀p,l=some p->p.g<w.1.size):=λp K=>ho.Iw p K
 clear hx L S h hd hJ ho hr hv hu V yo hW0 A RQ LT X0 a s0
 have n1:w.1.size+1≠w.1.size:=G
 have cu:=CW T
 go_in
 go_wp2_with (rw[<-bz];fail_if_success done)
 go_step3
 go_wp2_with fail
 go_step3
 go_upto_block 0 with fail
 go_cut [5] (λc U=>∃ai M',c = Y ai/\AR=(.error ai,M')/\b9 U (w.1.size+1) 7/\bX U g 0 D M'/\J U/\CF w U (λb y=>qt l B b y\/b=g/\163<=y/\y<188))
 case first=>
  have a:(FX w W0 m g d T P t R l Q D B M now w.1.size (q.cells v u)/\J W0/\b9 W0 (w.1.size+1) 7):=⟨bq,ag _ _ HJ (CF.bD sV _),bt⟩
  have al:=I a;clear a;obtain⟨k0,k1,k2,k3,k4,k5,k6,k7,k8⟩:=lV bq.ask;go_upto_region 2 with fail
  go_cut [18] (λc U=>c=.bool (!decide (q.gq=[116,103,115])&&!jI q)/\(FX w U m g d T P t R l Q D B M now w.1.size (q.cells v u)/\J U/\b9 U (w.1.size+1) 7))
  case first=>
   by_cases a:q.gq=[116,103,115]
   .have K:=db.2 a;have A:=I a;clear a;go_wp2_with fail;go_meet;exact⟨by rw[ee A.o];rfl,al⟩
   .have K:=cJ.2 a;obtain⟨V,A⟩:=aq (jI q);rw[A]at av;go_wp2_with (first|(go_at_call 216;refine(av _).mono ?_;clear av;rintro r X ⟨rfl,L⟩;have S:=I L;clear L))
    go_meet;exact⟨by rw[cY a,A];rfl,uu _ _ al S⟩
  case rest=>
   obtain⟨rfl,hA⟩:=hcut;have S:=I hA;clear hA al k0 k1 k2 k3 k4 k5 k6 k7 k8;by_cases ab:¬ (q.gq=[116,103,115]\/jI q=true)
   .have D5:Hid (AR=(.error 36,M)):=(by rw[<-ae];exact Pv (λe=>ab (.inl e)) (by cases h:jI q with|false=>rfl|true=>exact absurd (.inr h) ab));have e1:(!decide (q.gq=[116,103,115])&&!jI q)=true:=by
     cases h:jI q with
     |true=>exact absurd (.inr h) ab
     |false=>rw[cY (λe=>ab (.inl e))];rfl
    rw[e1];clear e1;go_wp2_with fail;go_meet;exact⟨_,_,rfl,D5,S.2.2,S.1.bU,S.2.1,S.1.cf.mono (λ_ _ _ e=>.inl e)⟩
   .have ab:=Classical.not_not.1 ab;have e1:(!decide (q.gq=[116,103,115])&&!jI q)=false:=by
     rcases ab with h|h
     .rw[ee h];rfl
     .rw[h];simp
    rw[e1];have qw:=I ab;clear e1 ab;obtain⟨k0,k1,k2,k3,k4,k5,k6,k7,k8⟩:=lV S.1.ask;go_wp2_with fail;obtain⟨v0,v1,v2,v3,v4,v5,v6,v7,K⟩:=iT x;have au:=I K;have a:=bf.o;unfold nZ at a;rw[K]at a;obtain⟨bx,A⟩:=aq x.isSome;rw[A]at a;have aj:=I a;have bb:=I A;clear A K a;have c0:=S.1.hear.c0;obtain⟨W1,a⟩:=aw wc;rw[<-a]at S c0 k0 k1 k2 k3 k4 k5 k6 k7 k8;rw[<-a];clear a;go_cut [6,7] (λp c U=>∃eb,p = N eb 0/\w.1.size+1<eb/\c=.bool bx/\U.rangeAt eb 0 (sJ x)/\(FX w U m g d T P t R l Q D B M now w.1.size (q.cells v u)/\J U/\b9 U (w.1.size+1) 7))
    case first=>
     have X:=S.2.2.lt;have na:w.1.size≠W1.1.size:=G;have nb:m≠W1.1.size:=sL;have cj:W1.1.size≠w.1.size:=λe=>na e.symm;have ck:W1.1.size≠m:=λe=>nb e.symm;have ar:Hid (Calls prog (mJ T) #[rv,.string ⟨q.gq.toArray⟩] W1.drew λe f=>e=.returned (.tuple #[.agg #[.string v0,Y v1,O v2,O v3,Y v4,Y v5,Y v6,Y v7],.bool bx])/\(FX w f m g d T P t R l Q D B M now w.1.size (q.cells v u)/\J f/\b9 f (w.1.size+1) 7)/\W1.1.size<=f.1.size):=(aj _ (ag _ _ S.2.1 (CF.bD (bg (cC _ _)) _))).mono λ_ _ ⟨a,b,c⟩=>⟨a,BZ _ _ S c.dE b,c.size⟩
     have Xu:Hid (Calls prog (mJ T) #[rv,.string ⟨q.gq.toArray⟩] ((W1.alloc (.cells #[ε,Y 0,O 0,O 0,Y 0,Y 0,Y 0,Y 0] 126)).drew) λe f=>e=.returned (.tuple #[.agg #[.string v0,Y v1,O v2,O v3,Y v4,Y v5,Y v6,Y v7],.bool bx])/\(FX w f m g d T P t R l Q D B M now w.1.size (q.cells v u)/\J f/\b9 f (w.1.size+1) 7)/\b9 f W1.1.size 8):=(aj _ (ag _ _ S.2.1 (CF.bD (bg (cy _ _ none)) _))).mono λ_ _ ⟨a,b,c⟩=>⟨a,BZ _ _ (uu _ _ S (cy _ _ none)) c.dE b,(b9.new W1 #[ε,Y 0,O 0,O 0,Y 0,Y 0,Y 0,Y 0] _).cf c.dE⟩
     clear aj;have ga:=cy W1 (.cells #[ε,Y 0,O 0,O 0,Y 0,Y 0,Y 0,Y 0] 126) none;have x0:=ga.cell k0 Z;have xc:=ga.cell c0 Z;clear ga
     go_region_held3 (λf=>f.c m 0=some (.iface T P)/\f.c w.1.size 0=some (.string ⟨q.gq.toArray⟩)) (go_keep) (first
      |((with_reducible show Calls _ (mJ T) _ _ _);(with_reducible apply Calls.mono ar.o);rintro r w2 ⟨rfl,K,z2⟩;have A:=I K;have V:=I z2;clear K z2;have y0:=A.1.ask 0 _ rfl;have yc:=A.1.hear.c0;have g2:=cy w2 (.cells #[.string ⟨#[]⟩,.int .i64 0,.int .u64 0,.int .u64 0,.int .i64 0,.int .i64 0,.int .i64 0,.int .i64 0] 126) none;have en:=g2.cell y0 Z;have ev:=g2.cell yc Z;have g3:=cy w2 (.cells #[.string v0,.int .i64 v1,.int .u64 v2,.int .u64 v3,.int .i64 v4,.int .i64 v5,.int .i64 v6,.int .i64 v7] 126) none;have dn:=g3.cell y0 Z;have ea:=g3.cell yc Z;clear g2 g3)
      |((with_reducible show Calls _ (mJ T) _ _ _);(with_reducible apply Calls.mono Xu.o);rintro r w2 ⟨rfl,K,l2⟩;have A:=I K;have L:=I l2;clear K l2;have y0:=A.1.ask 0 _ rfl;have yc:=A.1.hear.c0;obtain⟨⟨d0,q0⟩,⟨d1,q1⟩,⟨d2,q2⟩,⟨d3,q3⟩,⟨d4,q4⟩,⟨d5,q5⟩,⟨d6,q6⟩,⟨d7,q7⟩,f0,f1,f2,f3,f4,f5,f6,f7⟩:=gP L))
     all_goals go_wp2
     all_goals go_meet
     .exact⟨_,rfl,(by have:=V.o;omega),rfl,by rw[au.o];exact(dm.new _ _ _).range,uu _ _ A (cy _ _ none)⟩
     .refine⟨W1.1.size,rfl,X,rfl,by rw[au];exact jE _ _ _ _ _ _ _ _ _ _ q0 q1 q2 q3 q4 q5 q6 q7,TT _ _ W1.1.size A G ?_⟩;exact rS
    case rest=>
     obtain⟨eb,rfl,cv,rfl,A,hA⟩:=hcut;have IM:=I hA;have HE:=I A;clear hA A S c0 k0 k1 k2 k3 k4 k5 k6 k7 k8 aj bf;obtain⟨k0,k1,k2,k3,k4,k5,k6,k7,k8⟩:=lV IM.1.ask;cases x with
     |none=>
      obtain rfl:bx=false:=bb.o.symm;have D5:Hid (AR=(.error 7,M)):=(by rw[<-ae];exact Pw qw ah);go_wp2_with fail;exact Fm
     |some e=>
      obtain rfl:bx=true:=bb.o.symm;have A:=xy.uq e (mQ ah);have K:=WQ eb 0 e q.oW wc (HE 1 _ rfl) (HE 2 _ rfl) (HE 3 _ rfl) A.aH.1 (by have:=A.aH.2;omega);have af:=I K;clear K A au;cases hk:e.keyOf q.oW with
      |none=>
       rw[hk]at af;have D5:Hid (AR=(.error 44,M)):=(by rw[<-ae];exact Vn qw ah hk);clear hk;go_wp2_with (first|(go_at_call 217;refine af.mono ?_;clear af;rintro r w4 ⟨rfl,rfl⟩))
       exact Fm
      |some C=>
       rw[hk]at af;have HK:=I hk;clear hk;go_wp2_with (first|(go_at_call 217;refine af.mono ?_;clear af;rintro r w4 ⟨rfl,rfl⟩))
       have nh:w.1.size+1≠m:=sL;have df:m≠w.1.size+1:=λe=>nh e.symm;have dc:w.1.size≠w.1.size+1:=G;obtain⟨A,K⟩:=aq (Y0 (dH C 2 q.dR));obtain⟨dt,V⟩:=aq (iG (Xb (dH C 2 q.dR)));have L:=λW=>bo W C;rw[K,V]at L;have bs:Hid (∀W,FX w W m g d T P t R l Q D B M now w.1.size (q.cells v u)->Calls prog 218 #[t,O (UInt64.toNat C:Int),v] W λe f=>e=.returned (.tuple #[.agg #[Y A.ae,O (A.aO.toNat:Int),.string ⟨A.az.toArray⟩,Y A.dY,Y A.start,Y A.fin,Y A.aD],.bool dt])/\CF W f (Pl.has l)):=L;have cl:Hid A.In:=(by rw[<-K];exact Mp _);have bn:=I K;have an:=I V;have c1:=IM.1.hear.c1;clear L K V HE bo;obtain⟨W3,K⟩:=aw w4;rw[<-K]at IM c1 k0 k1 k2 k3 k4 k5 k6 k7 k8;rw[<-K];clear K;go_cut [7] (λc U=>c=.bool dt/\U.rangeAt (w.1.size+1) 0 A.cells/\(FX w U m g d T P t R l Q D B M now w.1.size (q.cells v u)/\J U/\b9 U (w.1.size+1) 7))
       case first=>
        have L:=I (uu _ _ IM (bg (cC _ _))).1
        go_region_held3 (λf=>f.c m 1=some t/\f.c w.1.size 2=some v) (go_keep) (first
         |(go_at_call 218;refine(bs _ L).mono ?_;rintro r w5 ⟨rfl,X⟩;have V:=I (TS _ _ IM X.dE);clear X;have y1:=V.1.hear.c1;have y2:=V.1.ask 2 _ rfl;have K:=Gy V.2.2;obtain⟨d0,q0⟩:=K.1 0 H;have f0:=K.2 0;obtain⟨d1,q1⟩:=K.1 1 H;have f1:=K.2 1;obtain⟨d2,q2⟩:=K.1 2 H;have f2:=K.2 2;obtain⟨d3,q3⟩:=K.1 3 H;have f3:=K.2 3;obtain⟨d4,q4⟩:=K.1 4 H;have f4:=K.2 4;obtain⟨d5,q5⟩:=K.1 5 H;have f5:=K.2 5;obtain⟨d6,q6⟩:=K.1 6 H;have f6:=K.2 6;clear K))
        go_wp2;go_meet;exact⟨rfl,Kn w5 (w.1.size+1) V.2.2 A,TT _ _ (w.1.size+1) V G (uQ w5 (w.1.size+1) _ _ _ _ _ _ _)⟩
       case rest=>
        obtain⟨rfl,hT,hA⟩:=hcut;have V:=I hA;have HT:=I hT;clear hA hT IM c1 k0 k1 k2 k3 k4 k5 k6 k7 k8 bs;obtain⟨k0,k1,k2,k3,k4,k5,k6,k7,k8⟩:=lV V.1.ask;cases dt with
        |false=>
         have D5:Hid (AR=(.error 31,M)):=(by rw[<-ae];exact TL qw ah HK an);go_wp2_with fail;go_meet;exact⟨_,_,rfl,D5,V.2.2,V.1.bU,V.2.1,V.1.cf.mono (λ_ _ _ e=>.inl e)⟩
        |true=>
         obtain⟨L,X⟩:=aq (o0 (dH A.aO 4 q.proof));obtain⟨dq,ba⟩:=aq (iG (YX (dH A.aO 4 q.proof)));have ax:=λW=>bl W A.aO;rw[X,ba]at ax;have ak:∀W,FX w W m g d T P t R l Q D B M now w.1.size (q.cells v u)->Calls prog 219 #[t,O (UInt64.toNat A.aO:Int),u] W λe f=>e=.returned (.tuple #[.agg #[.string ⟨L.az.toArray⟩,Y L.time,Y L.count],.bool dq])/\CF W f (Pl.has l):=ax;have bk:Hid (bT L.time):=(by rw[<-X];exact Mn _);have bu:=I X;have bc:=I ba;have c1:=V.1.hear.c1;have ts:wc.c (w.1.size+1) 1=some (O (A.aO.toNat:Int)):=HT 1 _ rfl;clear ax X ba bl;go_wp2_with fail;obtain⟨X,az⟩:=aw wc;rw[<-az]at V HT c1 ts k0 k1 k2 k3 k4 k5 k6 k7 k8;rw[<-az];clear az;go_cut [9,7] (λp c U=>∃pb,p = N pb 0/\w.1.size+1<pb/\c=.bool dq/\U.rangeAt pb 0 L.bF/\U.rangeAt (w.1.size+1) 0 A.cells/\(FX w U m g d T P t R l Q D B M now w.1.size (q.cells v u)/\J U/\b9 U (w.1.size+1) 7))
         case first=>
          have cd:=V.2.2.lt;have na:w.1.size≠X.1.size:=G;have nb:m≠X.1.size:=sL;have nc:w.1.size+1≠X.1.size:=G;have cj:X.1.size≠w.1.size:=λe=>na e.symm;have ck:X.1.size≠m:=λe=>nb e.symm;have dd:X.1.size≠w.1.size+1:=λe=>nc e.symm;have bp:Hid (∀W i,(FX w W m g d T P t R l Q D B M now w.1.size (q.cells v u)/\J W/\b9 W (w.1.size+1) 7)->W.rangeAt (w.1.size+1) 0 A.cells->CF W i (Pl.has l)->i.rangeAt (w.1.size+1) 0 A.cells):=λW i _ h k=>k.range h (λ_ _ e=>by have:=Q0 _ _ e;omega);have ar:Hid (Calls prog 219 #[t,O (UInt64.toNat A.aO:Int),u] X.drew λe f=>e=.returned (.tuple #[.agg #[.string ⟨L.az.toArray⟩,Y L.time,Y L.count],.bool dq])/\(FX w f m g d T P t R l Q D B M now w.1.size (q.cells v u)/\J f/\b9 f (w.1.size+1) 7)/\f.rangeAt (w.1.size+1) 0 A.cells/\X.1.size<=f.1.size):=(ak _ (uu _ _ V (bg (cC _ _))).1).mono λ_ _ ⟨a,c⟩=>⟨a,TS _ _ V c.dE,bp _ _ V HT c.dE,c.size⟩
          have Xu:Hid (Calls prog 219 #[t,O (UInt64.toNat A.aO:Int),u] ((X.alloc (.cells #[ε,Y 0,Y 0] 131)).drew) λe f=>e=.returned (.tuple #[.agg #[.string ⟨L.az.toArray⟩,Y L.time,Y L.count],.bool dq])/\(FX w f m g d T P t R l Q D B M now w.1.size (q.cells v u)/\J f/\b9 f (w.1.size+1) 7)/\f.rangeAt (w.1.size+1) 0 A.cells/\b9 f X.1.size 3):=(ak _ (uu _ _ V (bg (cy _ _ none))).1).mono λ_ _ ⟨a,c⟩=>⟨a,TS _ _ (uu _ _ V (cy _ _ none)) c.dE,bp _ _ (uu _ _ V (cy _ _ none)) (iw HT (cy _ _ none)) c.dE,(b9.new X #[ε,Y 0,Y 0] _).cf c.dE⟩
          clear ak;have ga:=cy X (.cells #[ε,Y 0,Y 0] 131) none;have x1:=ga.cell c1 Z;have x3:=ga.cell k3 Z;have xs:=ga.cell ts Z;clear ga
          go_region_held3 (λf=>f.c m 1=some t/\f.c w.1.size 3=some u/\f.c (w.1.size+1) 1=some (O (A.aO.toNat:Int))) (go_keep) (first
           |(go_at_call 219;(with_reducible apply Calls.mono ar.o);rintro r p ⟨rfl,a6,t6,z6⟩;have U:=I a6;have Q6:=I t6;have ca:=I z6;have y1:=U.1.hear.c1;have y3:=U.1.ask 3 _ rfl;have ys:p.cell? ⟨w.1.size+1,1,none⟩=some (.int .u64 (A.aO.toNat:Int)):=t6 1 _ rfl;clear a6 t6 z6;have g2:=cy p (.cells #[.string ⟨#[]⟩,.int .i64 0,.int .i64 0] 131) none;have er:=g2.cell y1 Z;have et:=g2.cell y3 Z;have fa:=g2.cell ys Z;have g3:=cy p (.cells #[.string ⟨L.az.toArray⟩,.int .i64 L.time,.int .i64 L.count] 131) none;have ds:=g3.cell y1 Z;have dv:=g3.cell y3 Z;have ec:=g3.cell ys Z;clear g2 g3)
           |(go_at_call 219;(with_reducible apply Calls.mono Xu.o);rintro r p ⟨rfl,a6,t6,a⟩;have U:=I a6;have Q6:=I t6;have PE:=I a;have y1:=U.1.hear.c1;have y3:=U.1.ask 3 _ rfl;have ys:p.cell? ⟨w.1.size+1,1,none⟩=some (.int .u64 (A.aO.toNat:Int)):=t6 1 _ rfl;obtain⟨d0,q0⟩:=cD.1 (a.some 0 H);obtain⟨d1,q1⟩:=cD.1 (a.some 1 H);obtain⟨d2,q2⟩:=cD.1 (a.some 2 H);have f0:=a.frozen 0;have f1:=a.frozen 1;have f2:=a.frozen 2;clear a6 t6 a))
          all_goals go_wp2
          all_goals go_meet
          .exact⟨_,rfl,(by have:=ca.o;omega),rfl,(dm.new _ _ _).range,iw Q6.o (cy _ _ none),uu.o _ _ U.o (cy _ _ none)⟩
          .have a:CF p (((p.setCell (F X.1.size 0) (.string ⟨L.az.toArray⟩)).setCell (F X.1.size 1) (Y L.time)).setCell (F X.1.size 2) (Y L.count)) (λb _=>b=X.1.size):=by
            exact rS
           exact⟨X.1.size,rfl,cd,rfl,Xv p X.1.size PE L,a.range Q6 (λ_ _ e=>by omega),TT.o _ _ X.1.size U.o G a⟩
         case rest=>
          obtain⟨pb,rfl,da,rfl,a,hT,hA⟩:=hcut;have Rc:=I hA;have bm:=I hT;have Py:=I a;clear hA hT a V HT c1 ts k0 k1 k2 k3 k4 k5 k6 k7 k8 ak;cases dq with
          |false=>
           have D5:Hid (AR=(.error 31,M)):=(by rw[<-ae];exact Xr qw ah HK an (by rw[bn];exact bc));exact Hl
          |true=>
           have a:=abm (M:=M) (now:=now) qw ah HK an bn bc bu.o;rw[ae]at a;have p0:wc.c pb 0=some (.string ⟨L.az.toArray⟩):=Py 0 _ rfl;have p1:wc.c pb 1=some (Y L.time):=Py 1 _ rfl;have p2:wc.c pb 2=some (Y L.count):=Py 2 _ rfl;have r2:wc.c (w.1.size+1) 2=some (.string ⟨A.az.toArray⟩):=bm 2 _ rfl;by_cases f:L.az=A.az
           .have ch:=db.2 f;rw[b' (λn=>n f)]at a;clear f;by_cases U:M.ax<dW L.time now
            .rw[dQ U]at a;have D5:=I a;have HC:=I (cc wc L Rc.1 bk U);clear a U;go_wp2_with (first|(go_at_call 220;refine HC.mono ?_;clear HC;rintro r w8 ⟨rfl,g8⟩;have p:=I (uu _ _ Rc g8);clear g8))
             go_meet;exact⟨_,_,rfl,D5,p.2.2,p.1.bU,p.2.1,p.1.cf.mono (λ_ _ _ e=>.inl e)⟩
            .rw[b' U]at a;have HC:=I (cb wc L Rc.1 bk (fh.1 U));have HDk:Hid (∀i,i.rangeAt g 163 (cB (bK M.ax now M.aI L))->i.c g 187=some (Y (bK M.ax now M.aI L).length)->CF wc i (λb y=>b=g/\163<=y/\y<188)->bX i g 0 D {M with aI:=bK M.ax now M.aI L}):=λi h1 h2 k=>PD Rc.1.bU k h1 h2 (λq hq e=>(xy.Po q hq).1 e) (Gz _ _ _ _ Rc.1.bU.few);have HCf:Hid (∀i,CF wc i (λb y=>b=g/\163<=y/\y<188)->J i/\CF w i (λb y=>qt l B b y\/b=g/\163<=y/\y<188)/\b9 i (w.1.size+1) 7/\i.rangeAt (w.1.size+1) 0 A.cells):=λi k=>⟨ag _ _ Rc.2.1 (k.mono (λb y _ e=>by obtain⟨rfl,h1,h2⟩:=e;exact xy.afc y h1 h2)),(Rc.1.cf.mono (λ_ _ _ e=>.inl e)).trans k (λ_ _ _ e=>.inr e),Rc.2.2.cf k,k.range bm (λ_ _ e=>by have:=HN.2;omega)⟩
             obtain⟨p,i⟩:=aq (bM M.ax now M.aI L);obtain⟨pn,k⟩:=aq (bK M.ax now M.aI L);have PG:=I (wy M.ax now M.aI L);rw[i]at PG;rw[i,k]at HC a;rw[k]at HDk;clear i k U;by_cases h0:p=0
             .subst h0;rw[b' (λn=>n rfl)]at a;have D5:=I a;clear a;go_wp2_with (first|(go_at_call 220;refine HC.mono ?_;clear HC;rintro r w8 ⟨rfl,h1,h2,C8⟩;have HD8:=I (HDk _ h1 h2 C8);have Mm:=I (HCf _ C8);clear h1 h2 C8;obtain⟨⟨s0,s1,s2,s3,s4,s5,s6⟩,n,e1,e2,e3,e4,e5,e6⟩:=abF Mm.2.2.2 Mm.2.2.1))
              try rw[Exit.noGoto_ret]
              have k:=uQ w8 (w.1.size+1) (Y A.ae) (O (A.aO.toNat:Int)) (.string ⟨A.az.toArray⟩) (Y A.dY) (Y A.start) (Y A.fin) (Y A.aD);refine bodyPost_ret (aG results183 _ _ _ (w.1.size+1) rfl _ (eO (cs:=A.cells) (Kn w8 (w.1.size+1) Mm.2.2.1 A) 333 _ underlying333 rfl Tryz.jy)) rfl ⟨by rw[D5];rfl,?_,?_,?_⟩
              .rw[D5];exact HD8.cf k (λj _ _ e=>by have:=HN.2;omega) (λq hq j _ e=>by have:=(xy.Po q hq).2.2.1;omega)
              .exact ag _ _ Mm.1 (k.mono (λb y _ e=>xy.BV b y G))
              .exact Mm.2.1.trans k (λi _ hi e=>by omega)
             .rw[dQ h0]at a;have D5:=I a;clear a;rcases PG.o with rfl|rfl|rfl
              .exact LA
              .exact LA
              .exact absurd rfl h0
           .have ch:=cJ.2 f;rw[dQ f]at a;have D5:=I a;clear a;exact Hl
 case rest=>
  obtain⟨ai,M',rfl,a,C,hD,hj,A⟩:=hcut;have D5:=I a;have p:=I C;have L:=I hD;have n:=I hj;have f:=I A;clear a C hD hj A;have K:=Gy p.o;obtain⟨d0,q0⟩:=K.1 0 H;have f0:=K.2 0;obtain⟨d1,q1⟩:=K.1 1 H;have f1:=K.2 1;obtain⟨d2,q2⟩:=K.1 2 H;have f2:=K.2 2;obtain⟨d3,q3⟩:=K.1 3 H;have f3:=K.2 3;obtain⟨d4,q4⟩:=K.1 4 H;have f4:=K.2 4;obtain⟨d5,q5⟩:=K.1 5 H;have f5:=K.2 5;obtain⟨d6,q6⟩:=K.1 6 H;have f6:=K.2 6;clear K;go_wp2_with fail;try rw[Exit.noGoto_ret]
  have k:=uQ wc (w.1.size+1) (Y 0) (O 0) ε (Y 0) (Y 0) (Y 0) (Y 0);refine bodyPost_ret (aG results183 _ _ _ (w.1.size+1) rfl _ (eO (TR wc (w.1.size+1) p) 333 _ underlying333 rfl Tryz.jy)) rfl ⟨by rw[D5];rfl,?_,?_,?_⟩
  .rw[D5];exact L.cf k (λj _ _ e=>by have:=HN.2;omega) (λq hq j _ e=>by have:=(xy.Po q hq).2.2.1;omega)
  .exact ag _ _ n (k.mono (λb y _ e=>xy.BV b y G))
  .exact f.o.trans k (λi _ hi e=>by omega)
