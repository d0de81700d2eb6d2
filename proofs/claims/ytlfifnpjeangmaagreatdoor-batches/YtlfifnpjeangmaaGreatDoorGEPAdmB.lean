import Derived.Test.YtlfifnpjeangmaaGreatDoorGEPFirB
namespace Go.Proofs.YtlfifnpjeangmaaGreatDoor
set_option maxHeartbeats 20000000
open Proofs.Tryz Go.RowKit
set_option maxRecDepth 100000
variable {b:Nat}{w:World}{p:Prop}
def vW(w:World)(po:Option Pl)(dQ:Nat->Nat->Prop)(z:List UInt8)(v:Value):Prop:=
 ∃ao cap,v=.slice ao z.length cap/\z.length<=cap/\At w ao z/\∀b off,ao=some ⟨b,off,none⟩->∀j,j<z.length->¬ Pl.has po b (off+j)/\¬ dQ b (off+j)/\b<w.heap.size
theorem lH{q:NQ}{v u:Value}(h:w.rangeAt b 0 (q.cells v u)):w.cell? (b,0)=some (.string q.fQ)/\w.cell? (b,1)=some (ι q.ou)/\w.cell? (b,2)=some v/\w.cell? (b,3)=some u/\w.cell? (b,4)=some (.string q.aV)/\w.cell? (b,5)=some (ι q.bU)/\w.cell? (b,6)=some (ι q.dI)/\w.cell? (b,7)=some (ι q.bW)/\w.cell? (b,8)=some (ι q.aO):=
 ⟨h 0 _ rfl,h 1 _ rfl,h 2 _ rfl,h 3 _ rfl,h 4 _ rfl,h 5 _ rfl,h 6 _ rfl,h 7 _ rfl,h 8 _ rfl⟩
theorem EF(h:Live w b 7):(∀j,j<7->∃d,w.cell? ⟨b,j,none⟩=some d)/\∀j,w.frozen? ⟨b,j,none⟩=false:=⟨λj a=>cA.1 (h.some j a),λj=>h.frozen j⟩
theorem IL(w)(b:Nat)(h:Live w b 7)(t:TK):(((((((w.setCell (b,0) (ι t.ae)).setCell (b,1) (υ t.aN.toNat)).setCell (b,2) (.string t.ay)).setCell (b,3) (ι t.dV)).setCell (b,4) (ι t.start)).setCell (b,5) (ι t.fin)).setCell (b,6) (ι t.aC)).rangeAt b 0 t.cells:=jH [ι t.ae,υ t.aN.toNat,.string t.ay,ι t.dV,ι t.start,ι t.fin,ι t.aC] 0 w b 7 h (cy 7)
theorem QN(w)(b:Nat)(h:Live w b 7):(((((((w.setCell (b,0) (ι 0)).setCell (b,1) (υ 0)).setCell (b,2) (.string ⟨#[]⟩)).setCell (b,3) (ι 0)).setCell (b,4) (ι 0)).setCell (b,5) (ι 0)).setCell (b,6) (ι 0)).rangeAt b 0 [ι 0,υ 0,.string ⟨#[]⟩,ι 0,ι 0,ι 0,ι 0]:=jH [ι 0,υ 0,.string ⟨#[]⟩,ι 0,ι 0,ι 0,ι 0] 0 w b 7 h (cy 7)
theorem UM(w)(b:Nat)(h:Live w b 3)(p:PF):(((w.setCell (b,0) (.string p.ay)).setCell (b,1) (ι p.time)).setCell (b,2) (ι p.count)).rangeAt b 0 p.bE:=jH [.string p.ay,ι p.time,ι p.count] 0 w b 3 h (cy 3)
theorem ug(w)(b:Nat)(v0 v1 v2 v3 v4 v5 v6):CF w (((((((w.setCell (b,0) (v0)).setCell (b,1) (v1)).setCell (b,2) (v2)).setCell (b,3) (v3)).setCell (b,4) (v4)).setCell (b,5) (v5)).setCell (b,6) (v6)) (λx _=>x=b):=by
 exact aa2
theorem YV{t:TK}(h:w.rangeAt b 0 t.cells)(a:Live w b 7):(w.cell? (b,0)=some (ι t.ae)/\w.cell? (b,1)=some (υ t.aN.toNat)/\w.cell? (b,2)=some (.string t.ay)/\w.cell? (b,3)=some (ι t.dV)/\w.cell? (b,4)=some (ι t.start)/\w.cell? (b,5)=some (ι t.fin)/\w.cell? (b,6)=some (ι t.aC))/\w.frozen? (b,0)=false/\w.frozen? (b,1)=false/\w.frozen? (b,2)=false/\w.frozen? (b,3)=false/\w.frozen? (b,4)=false/\w.frozen? (b,5)=false/\w.frozen? (b,6)=false:=
 ⟨⟨h 0 _ rfl,h 1 _ rfl,h 2 _ rfl,h 3 _ rfl,h 4 _ rfl,h 5 _ rfl,h 6 _ rfl⟩,a.frozen 0,a.frozen 1,a.frozen 2,a.frozen 3,a.frozen 4,a.frozen 5,a.frozen 6⟩
theorem uX(aA now)(l)(p):bL aA now l p=34\/bL aA now l p=60\/bL aA now l p=0:=by
 grind [bL]
theorem EG(aA now)(l)(p)(h:l.length<=8):(bJ aA now l p).length<=8:=by
 grind [iQ,bL,bJ]
theorem Nb{W W':World}{g:Nat}{dp:Option Pl}{M:DM}{l:List PF}(h:dE W g 0 dp M)(k:CF W W' (λb y=>b=g/\163<=y/\y<188))(c:W'.rangeAt g 163 (bY l))(a:W'.cell? (g,187)=some (ι l.length))(m:∀q,dp=some q->q.g≠g)(d:l.length<=8):dE W' g 0 dp {M with aJ:=l}:=by
 obtain⟨v,f,i⟩:=h.aL;exact⟨h.live.cf k,k.cell h.aA (λe=>by omega),⟨v,k.cell f (λe=>by omega),(by grind [Out.cf])⟩,h.aG.cf k (λj _ a e=>by omega),by rw[cN];exact c,by rw[cN];exact a,d⟩
theorem abO(h:p:=by
 clear h0 Nf
 go_wp2_with (first|(go_at_call 220;refine HC.o.mono ?_;clear HC;rintro r w8 ⟨rfl,h1,h2,C8⟩;have HD8:=hid (HDk.o _ h1 h2 C8);have O3:=hid (HCf.o _ C8);clear h1 h2 C8))
 go_meet
 exact⟨_,_,rfl,Ci.o,O3.o.2.2.1,HD8.o,O3.o.1,O3.o.2.1⟩):p:=h
theorem aew(h:p:=by
 go_wp2_with fail
 go_meet
 exact⟨_,_,rfl,Ci.o,OZ.o.2.2,OZ.o.1.bP,OZ.o.2.1,OZ.o.1.cf.mono (λ_ _ _ e=>.inl e)⟩):p:=h
theorem afb(h:p:=by
 go_meet
 exact⟨_,_,rfl,Ci.o,KO.o.2.2,KO.o.1.bP,KO.o.2.1,KO.o.1.cf.mono (λ_ _ _ e=>.inl e)⟩):p:=h
theorem UN(f g base T:Nat)(z rv l A)(d B dp)(J:World->Prop)(m sU:Nat->Nat->Prop)(M)(now)(q)(v u)(w)(S:HS f g base T z rv d B dp J m sU M.aG)(h:yB w f g T z l A now)(hd:dE w g 0 dp M)(hJ:J w)(ho:Out w l d [])(hr:Out w A B [])(hv:vW w d m q.dO v)(hu:vW w d m q.proof u)(dA:In64 now)(Ag:∀y∈M.aJ,In64 y.time)(K:base<=w.heap.size):
  Calls prog 183 #[(f,0),.agg (q.cells v u).toArray] w λe w'=>e=.returned (sG (iH M now q).1)/\dE w' g 0 dp (iH M now q).2/\J w'/\CF w w' (λb y=>exX d m b y\/b=g/\163<=y/\y<188):=by
 have bR:=S.hbb
 have bW:=S.gb
 obtain⟨W0,hW0⟩:=aw ((w.alloc (.cells (q.cells v u).toArray 276)).alloc (.cells jy 333))
 have G0:w.grownBy W0 none:=by grind [cx,aM]
 have s0:W0.heap.size=w.heap.size+1+1:=aiZ
 have RQ:W0.rangeAt w.heap.size 0 (q.cells v u):=by grind [aS,gX,cx]
 have LT:Live W0 (w.heap.size+1) 7:=by
  have h:=Live.new (w.alloc (.cells (q.cells v u).toArray 276)) jy 333;exact af5
 have aa:∀b y,Pl.has d b y->b<w.heap.size:=λb y e=>ho.lt e
 have X0:FX w W0 f g base T z l A d B dp m M now w.heap.size (q.cells v u):=⟨h.grown G0,hd.grown G0,ho.grown G0,hr.grown G0,RQ,G0.size,CF.bF G0 _⟩
 have kH:Hid (∀W W',FX w W f g base T z l A d B dp m M now w.heap.size (q.cells v u)->CF W W' (λb y=>exX d m b y\/w.heap.size<b)->FX w W' f g base T z l A d B dp m M now w.heap.size (q.cells v u)):=λW W' h k=>h.step S k rfl K aa
 obtain⟨AR,av⟩:=aq (iH M now q)
 rw[av]
 have YW:=hid av
 have YX:Hid (∀W,Calls prog 216 #[.agg (q.cells v u).toArray] W λe w'=>e=.returned (.bool (jA q))/\W.grownBy w' none):=λW=>Ez v u q W
 have N:=hid S.finds.stay
 obtain⟨x,hx⟩:=aq (BE.find M.aG q.fQ)
 have L:=hid hx
 have a7:Hid (∀W,J W->Calls prog (findF T) #[rv,.string q.fQ] W λe w'=>e=.returned (nM x)/\J w'/\CF W w' m):=λW hW=>by rw[<-hx];exact S.finds.call W hW q.fQ
 have hm:=S.afG
 have sW:Hid (∀W W',(FX w W f g base T z l A d B dp m M now w.heap.size (q.cells v u)/\J W/\Live W (w.heap.size+1) 7)->W.grownBy W' none->(FX w W' f g base T z l A d B dp m M now w.heap.size (q.cells v u)/\J W'/\Live W' (w.heap.size+1) 7)):=λW W' h k=>⟨(by grind [FX.step,CF.bF]),S.finds.stay _ _ h.2.1 (CF.bF k _),h.2.2.grown k⟩
 have QO:Hid (∀W W',(FX w W f g base T z l A d B dp m M now w.heap.size (q.cells v u)/\J W/\Live W (w.heap.size+1) 7)->CF W W' (Pl.has d)->(FX w W' f g base T z l A d B dp m M now w.heap.size (q.cells v u)/\J W'/\Live W' (w.heap.size+1) 7)):=λW W' h k=>⟨h.1.step S (k.mono (λ_ _ _ e=>.inl (.inr e))) rfl K aa,S.finds.stay _ _ h.2.1 (by grind [CF.mono,HS.poJ]),h.2.2.cf k⟩
 have QQ:Hid (∀W W' X,(FX w W f g base T z l A d B dp m M now w.heap.size (q.cells v u)/\J W/\Live W (w.heap.size+1) 7)->w.heap.size<X->CF W W' (λb _=>b=X)->(FX w W' f g base T z l A d B dp m M now w.heap.size (q.cells v u)/\J W'/\Live W' (w.heap.size+1) 7)):=λW W' X h hX k=>⟨(by grind [CF.mono,FX.step]),S.finds.stay _ _ h.2.1 (k.mono (λb y _ e=>S.AA b y agE)),h.2.2.cf k⟩
 have AB:Hid (∀W W',(FX w W f g base T z l A d B dp m M now w.heap.size (q.cells v u)/\J W/\Live W (w.heap.size+1) 7)->CF W W' m->J W'->(FX w W' f g base T z l A d B dp m M now w.heap.size (q.cells v u)/\J W'/\Live W' (w.heap.size+1) 7)):=λW W' h k bk=>⟨h.1.step S (k.mono (λ_ _ _ e=>.inl (.inl e))) rfl K aa,bk,h.2.2.cf k⟩
 have aW:Hid (∀W key,FX w W f g base T z l A d B dp m M now w.heap.size (q.cells v u)->Calls prog 218 #[l,υ (UInt64.toNat key:Int),v] W λe w'=>e=.returned (.tuple #[.agg (Wi (dD key 2 q.dO)).cells.toArray,.bool (iB (Ur (dD key 2 q.dO)))])/\CF W w' (Pl.has d)):=by
  intro W key X;obtain⟨ao,cap,rfl,h2,h3,h4⟩:=hv;exact JW l d [] key ao q.dO q.dO.length cap W X.o (hid rfl) h2 (h3.cf X.cf (λb off e j hj n=>by rcases n with n|n;exact(h4 b off e j hj).2.1 n;exact(h4 b off e j hj).1 n)) agM
 have aR:Hid (∀W key,FX w W f g base T z l A d B dp m M now w.heap.size (q.cells v u)->Calls prog 219 #[l,υ (UInt64.toNat key:Int),u] W λe w'=>e=.returned (.tuple #[.agg (Yn (dD key 4 q.proof)).bE.toArray,.bool (iB (Wd (dD key 4 q.proof)))])/\CF W w' (Pl.has d)):=by
  intro W key X;obtain⟨ao,cap,rfl,h2,h3,h4⟩:=hu;exact M7 l d [] key ao q.proof q.proof.length cap W X.o (hid rfl) h2 (h3.cf X.cf (λb off e j hj n=>by rcases n with n|n;exact(h4 b off e j hj).2.1 n;exact(h4 b off e j hj).1 n)) agM
 have bt:Hid (∀(W)(p:PF),FX w W f g base T z l A d B dp m M now w.heap.size (q.cells v u)->In64 p.time->M.aA<dU p.time now->Calls prog 220 #[(f,0),.agg p.bE.toArray] W λe w'=>e=.returned (ι 37)/\W.grownBy w' none):=λW p X h1 h2=>D9 f g now M.aA p W X.hear.c3 X.hear.c4 X.bP.aA dA h1 h2
 have bw:Hid (∀(W)(p),FX w W f g base T z l A d B dp m M now w.heap.size (q.cells v u)->In64 p.time->¬ M.aA<dU p.time now->Calls prog 220 #[(f,0),.agg p.bE.toArray] W λe w'=>e=.returned (ι (bL M.aA now M.aJ p))/\w'.rangeAt g 163 (bY (bJ M.aA now M.aJ p))/\w'.cell? (g,187)=some (ι (bJ M.aA now M.aJ p).length)/\CF W w' (λb y=>b=g/\163<=y/\y<188)):=λW p X h1 h2=>by
  have hD:=X.bP;have e1:=hD.aJ;have e2:=hD.count;rw[cN]at e1 e2;exact BP f g now M.aA M.aJ p W X.hear.c3 X.hear.c4 hD.aA S.hbg dA h1 Ag hD.few (by have:=hD.live;rwa [cN]at this) e1 e2 h2
 have vV:=hid S
 have aV:=hid X0
 have HJ:=hid hJ
 have bj:=hid LT
 have sP:=hid G0
 have br:=hid hW0
 have HV:=hid hv
 have HU:=hid hu
 have Sm:=hid aa
 have b0:=hid Ag
 have bK:=hid dA
 have HN:Hid (f<w.heap.size/\g<w.heap.size):=⟨by omega,by omega⟩
 have bX:Hid (∀p,d=some p->p.g<w.heap.size):=λp hp=>ho.KU p hp
 clear hx av S h hd hJ ho hr hv hu dA Ag hW0 G0 RQ LT X0 aa s0
 have n1:w.heap.size+1≠w.heap.size:=agE
 have b2:=Bo T
 go_enter func183,ntmps183
 go_wp2_with (rw[<-br.o];fail_if_success done)
 go_step3
 go_wp2_with fail
 go_step3
 go_upto_block 0 with fail
 go_cut [5] (λc D=>∃ab M',c = ι ab/\AR=(.error ab,M')/\Live D (w.heap.size+1) 7/\dE D g 0 dp M'/\J D/\CF w D (λb y=>exX d m b y\/b=g/\163<=y/\y<188))
 case first=>
  have aY:(FX w W0 f g base T z l A d B dp m M now w.heap.size (q.cells v u)/\J W0/\Live W0 (w.heap.size+1) 7):=⟨aV.o,N.o _ _ HJ.o (CF.bF sP.o _),bj.o⟩
  have ax:=hid aY;clear aY;obtain⟨Y,k1,k2,U,k4,k5,k6,k7,k8⟩:=lH aV.o.ask;go_upto_region 2 with fail
  go_cut [18] (λc D=>c=.bool (!decide (q.fQ=[116,103,115])&&!jA q)/\(FX w D f g base T z l A d B dp m M now w.heap.size (q.cells v u)/\J D/\Live D (w.heap.size+1) 7))
  case first=>
   by_cases Z:q.fQ=[116,103,115]
   ·have bd:=db.2 Z;have bl:=hid Z;clear Z;go_wp2_with fail;go_meet;exact⟨by rw[dk bl.o];rfl,ax.o⟩
   ·have bd:=cJ.2 Z;obtain⟨sb,aQ⟩:=aq (jA q);rw[aQ]at YX;go_wp2_with (first|(go_at_call 216;refine(YX.o _).mono ?_;clear YX;rintro r w1 ⟨rfl,g1⟩;have kF:=hid g1;clear g1))
    go_meet;exact⟨by rw[cX Z,aQ];rfl,sW.o _ _ ax.o kF.o⟩
  case rest=>
   obtain⟨rfl,Q⟩:=hcut;have C:=hid Q;clear Q ax Y k1 k2 U k4 k5 k6 k7 k8;by_cases G:¬ (q.fQ=[116,103,115]\/jA q=true)
   ·have Ci:Hid (AR=(.error 36,M)):=(by rw[<-YW.o];exact M5 (λe=>G (.inl e)) (by cases h:jA q with|false=>rfl|true=>exact absurd (.inr h) G));have e1:(!decide (q.fQ=[116,103,115])&&!jA q)=true:=by
     cases h:jA q with
     |true=>exact absurd (.inr h) G
     |false=>rw[cX (λe=>G (.inl e))];rfl
    rw[e1];clear e1;go_wp2_with fail;go_meet;exact⟨_,_,rfl,Ci.o,C.o.2.2,C.o.1.bP,C.o.2.1,C.o.1.cf.mono (λ_ _ _ e=>.inl e)⟩
   ·have G:=Classical.not_not.1 G;have e1:(!decide (q.fQ=[116,103,115])&&!jA q)=false:=by
     rcases G with h|h
     ·rw[dk h];rfl
     ·rw[h];simp
    rw[e1];have qa:=hid G;clear e1 G;obtain⟨Y,k1,k2,U,k4,k5,k6,k7,k8⟩:=lH C.o.1.ask;go_wp2_with fail;obtain⟨v0,v1,v2,v3,v4,v5,v6,v7,aK⟩:=iM x;have aE:=hid aK;have V:=a7.o;unfold nM at V;rw[aK]at V;obtain⟨bx,az⟩:=aq x.isSome;rw[az]at V;have ad:=hid V;have a8:=hid az;clear az aK V;have c0:=C.o.1.hear.c0;obtain⟨P,aI⟩:=aw wc;rw[<-aI]at C c0 Y k1 k2 U k4 k5 k6 k7 k8;rw[<-aI];clear aI;go_cut [6,7] (λp c D=>∃eb,p=.pointer (some ⟨eb,0,none⟩)/\w.heap.size+1<eb/\c=.bool bx/\D.rangeAt eb 0 (rE x)/\(FX w D f g base T z l A d B dp m M now w.heap.size (q.cells v u)/\J D/\Live D (w.heap.size+1) 7))
    case first=>
     have bz:=C.o.2.2.lt;have na:w.heap.size≠P.heap.size:=agE;have nb:f≠P.heap.size:=ahI;have bn:P.heap.size≠w.heap.size:=λe=>na e.symm;have bm:P.heap.size≠f:=λe=>nb e.symm;have aD:Hid (Calls prog (findF T) #[rv,.string q.fQ] P.drew λe w'=>e=.returned (.tuple #[.agg #[.string v0,ι v1,υ v2,υ v3,ι v4,ι v5,ι v6,ι v7],.bool bx])/\(FX w w' f g base T z l A d B dp m M now w.heap.size (q.cells v u)/\J w'/\Live w' (w.heap.size+1) 7)/\P.heap.size<=w'.heap.size):=(ad.o _ (N.o _ _ C.o.2.1 (CF.bF (bg (cC _ _)) _))).mono λ_ _ ⟨a,b,c⟩=>⟨a,AB.o _ _ C.o c.dM b,c.size⟩
     have UL:Hid (Calls prog (findF T) #[rv,.string q.fQ] ((P.alloc (.cells #[.string ⟨#[]⟩,ι 0,υ 0,υ 0,ι 0,ι 0,ι 0,ι 0] 126)).drew) λe w'=>e=.returned (.tuple #[.agg #[.string v0,ι v1,υ v2,υ v3,ι v4,ι v5,ι v6,ι v7],.bool bx])/\(FX w w' f g base T z l A d B dp m M now w.heap.size (q.cells v u)/\J w'/\Live w' (w.heap.size+1) 7)/\Live w' P.heap.size 8):=(ad.o _ (N.o _ _ C.o.2.1 (CF.bF (bg (cx _ _ none)) _))).mono λ_ _ ⟨a,b,c⟩=>⟨a,AB.o _ _ (sW.o _ _ C.o (cx _ _ none)) c.dM b,(Live.new P #[.string ⟨#[]⟩,ι 0,υ 0,υ 0,ι 0,ι 0,ι 0,ι 0] _).cf c.dM⟩
     clear ad;have ga:=cx P (.cells #[.string ⟨#[]⟩,ι 0,υ 0,υ 0,ι 0,ι 0,ι 0,ι 0] 126) none;have x0:=ga.cell Y agI;have xc:=ga.cell c0 agI;clear ga
     go_region_held3 (λw'=>w'.cell? ⟨f,0,none⟩=some (.iface T z)/\w'.cell? ⟨w.heap.size,0,none⟩=some (.string q.fQ)) (go_keep) (first
      |((with_reducible show Calls _ (findF T) _ _ _);(with_reducible apply Calls.mono aD.o);rintro r w2 ⟨rfl,a2,z2⟩;have I:=hid a2;have bf:=hid z2;clear a2 z2;have y0:=I.o.1.ask 0 _ rfl;have yc:=I.o.1.hear.c0;have g2:=cx w2 (.cells #[.string ⟨#[]⟩,.int .i64 0,.int .u64 0,.int .u64 0,.int .i64 0,.int .i64 0,.int .i64 0,.int .i64 0] 126) none;have bV:=g2.cell y0 agI;have bN:=g2.cell yc agI;have g3:=cx w2 (.cells #[.string v0,.int .i64 v1,.int .u64 v2,.int .u64 v3,.int .i64 v4,.int .i64 v5,.int .i64 v6,.int .i64 v7] 126) none;have b1:=g3.cell y0 agI;have bT:=g3.cell yc agI;clear g2 g3)
      |((with_reducible show Calls _ (findF T) _ _ _);(with_reducible apply Calls.mono UL.o);rintro r w2 ⟨rfl,a2,l2⟩;have I:=hid a2;have bp:=hid l2;clear a2 l2;have y0:=I.o.1.ask 0 _ rfl;have yc:=I.o.1.hear.c0;obtain⟨⟨d0,q0⟩,⟨d1,q1⟩,⟨d2,q2⟩,⟨d3,q3⟩,⟨d4,q4⟩,⟨d5,q5⟩,⟨d6,q6⟩,⟨d7,q7⟩,f0,f1,f2,f3,f4,f5,f6,f7⟩:=gG bp.o))
     all_goals go_wp2
     all_goals go_meet
     ·exact⟨_,rfl,(by have:=bf.o;omega),rfl,by rw[aE.o];exact(dB.new _ _ _).range,sW.o _ _ I.o (cx _ _ none)⟩
     ·refine⟨P.heap.size,rfl,bz,rfl,by rw[aE.o];exact jo _ _ _ _ _ _ _ _ _ _ q0 q1 q2 q3 q4 q5 q6 q7,QQ.o _ _ P.heap.size I.o agE ?_⟩;exact aa2
    case rest=>
     obtain⟨eb,rfl,bZ,rfl,hE,Q⟩:=hcut;have KO:=hid Q;have HE:=hid hE;clear Q hE C c0 Y k1 k2 U k4 k5 k6 k7 k8 ad a7;obtain⟨Y,k1,k2,U,k4,k5,k6,k7,k8⟩:=lH KO.o.1.ask;cases x with
     |none=>
      obtain rfl:bx=false:=a8.o.symm;have Ci:Hid (AR=(.error 7,M)):=(by rw[<-YW.o];exact M6 qa.o L.o);go_wp2_with fail;exact afb
     |some e=>
      obtain rfl:bx=true:=a8.o.symm;have aP:=vV.o.sV e (mq L.o);have ba:=Uh eb 0 e q.ou wc (HE.o 1 _ rfl) (HE.o 2 _ rfl) (HE.o 3 _ rfl) aP.aH.1 (by have:=aP.aH.2;omega);have O:=hid ba;clear ba aP aE;cases hk:e.keyOf q.ou with
      |none=>
       rw[hk]at O;have Ci:Hid (AR=(.error 44,M)):=(by rw[<-YW.o];exact SB qa.o L.o hk);clear hk;go_wp2_with (first|(go_at_call 217;refine O.o.mono ?_;clear O;rintro r w4 ⟨rfl,rfl⟩))
       exact afb
      |some key=>
       rw[hk]at O;have HK:=hid hk;clear hk;go_wp2_with (first|(go_at_call 217;refine O.o.mono ?_;clear O;rintro r w4 ⟨rfl,rfl⟩))
       have nh:w.heap.size+1≠f:=ahI;have bU:f≠w.heap.size+1:=λe=>nh e.symm;have bS:w.heap.size≠w.heap.size+1:=agE;obtain⟨tk,ai⟩:=aq (Wi (dD key 2 q.dO));obtain⟨dt,ak⟩:=aq (iB (Ur (dD key 2 q.dO)));have al:=λW=>aW.o W key;rw[ai,ak]at al;have aU:Hid (∀W,FX w W f g base T z l A d B dp m M now w.heap.size (q.cells v u)->Calls prog 218 #[l,υ (UInt64.toNat key:Int),v] W λe w'=>e=.returned (.tuple #[.agg #[ι tk.ae,υ tk.aN.toNat,.string tk.ay,ι tk.dV,ι tk.start,ι tk.fin,ι tk.aC],.bool dt])/\CF W w' (Pl.has d)):=al;have bG:Hid tk.In:=(by rw[<-ai];exact YC _);have aX:=hid ai;have aL:=hid ak;have c1:=KO.o.1.hear.c1;clear al ai ak HE aW;obtain⟨W3,an⟩:=aw w4;rw[<-an]at KO c1 Y k1 k2 U k4 k5 k6 k7 k8;rw[<-an];clear an;go_cut [7] (λc D=>c=.bool dt/\D.rangeAt (w.heap.size+1) 0 tk.cells/\(FX w D f g base T z l A d B dp m M now w.heap.size (q.cells v u)/\J D/\Live D (w.heap.size+1) 7))
       case first=>
        have bh:=hid (sW.o _ _ KO.o (bg (cC _ _))).1
        go_region_held3 (λw'=>w'.cell? ⟨f,1,none⟩=some l/\w'.cell? ⟨w.heap.size,2,none⟩=some v) (go_keep) (first
         |(go_at_call 218;refine(aU.o _ bh.o).mono ?_;rintro r w5 ⟨rfl,C5⟩;have E:=hid (QO.o _ _ KO.o C5.dM);clear C5;have y1:=E.o.1.hear.c1;have y2:=E.o.1.ask 2 _ rfl;have s:=EF E.o.2.2;obtain⟨d0,q0⟩:=s.1 0 agF;have f0:=s.2 0;obtain⟨d1,q1⟩:=s.1 1 agF;have f1:=s.2 1;obtain⟨d2,q2⟩:=s.1 2 agF;have f2:=s.2 2;obtain⟨d3,q3⟩:=s.1 3 agF;have f3:=s.2 3;obtain⟨d4,q4⟩:=s.1 4 agF;have f4:=s.2 4;obtain⟨d5,q5⟩:=s.1 5 agF;have f5:=s.2 5;obtain⟨d6,q6⟩:=s.1 6 agF;have f6:=s.2 6;clear s))
        go_wp2;go_meet;exact⟨rfl,IL w5 (w.heap.size+1) E.o.2.2 tk,QQ.o _ _ (w.heap.size+1) E.o agE (ug w5 (w.heap.size+1) _ _ _ _ _ _ _)⟩
       case rest=>
        obtain⟨rfl,hT,Q⟩:=hcut;have E:=hid Q;have HT:=hid hT;clear Q hT KO c1 Y k1 k2 U k4 k5 k6 k7 k8 aU;obtain⟨Y,k1,k2,U,k4,k5,k6,k7,k8⟩:=lH E.o.1.ask;cases dt with
        |false=>
         have Ci:Hid (AR=(.error 31,M)):=(by rw[<-YW.o];exact QF qa.o L.o HK.o aL.o);go_wp2_with fail;go_meet;exact⟨_,_,rfl,Ci.o,E.o.2.2,E.o.1.bP,E.o.2.1,E.o.1.cf.mono (λ_ _ _ e=>.inl e)⟩
        |true=>
         obtain⟨t,af⟩:=aq (Yn (dD tk.aN 4 q.proof));obtain⟨dq,aB⟩:=aq (iB (Wd (dD tk.aN 4 q.proof)));have ar:=λW=>aR.o W tk.aN;rw[af,aB]at ar;have ag:∀W,FX w W f g base T z l A d B dp m M now w.heap.size (q.cells v u)->Calls prog 219 #[l,υ (UInt64.toNat tk.aN:Int),u] W λe w'=>e=.returned (.tuple #[.agg #[.string t.ay,ι t.time,ι t.count],.bool dq])/\CF W w' (Pl.has d):=ar;have bb:Hid (In64 t.time):=(by rw[<-af];exact YD _);have bo:=hid af;have a1:=hid aB;have c1:=E.o.1.hear.c1;have ts:wc.cell? (w.heap.size+1,1)=some (υ tk.aN.toNat):=HT.o 1 _ rfl;clear ar af aB aR;go_wp2_with fail;obtain⟨F,aO⟩:=aw wc;rw[<-aO]at E HT c1 ts Y k1 k2 U k4 k5 k6 k7 k8;rw[<-aO];clear aO;go_cut [9,7] (λp c D=>∃pb,p=.pointer (some ⟨pb,0,none⟩)/\w.heap.size+1<pb/\c=.bool dq/\D.rangeAt pb 0 t.bE/\D.rangeAt (w.heap.size+1) 0 tk.cells/\(FX w D f g base T z l A d B dp m M now w.heap.size (q.cells v u)/\J D/\Live D (w.heap.size+1) 7))
         case first=>
          have bs:=E.o.2.2.lt;have na:w.heap.size≠F.heap.size:=agE;have nb:f≠F.heap.size:=ahI;have nc:w.heap.size+1≠F.heap.size:=agE;have bn:F.heap.size≠w.heap.size:=λe=>na e.symm;have bm:F.heap.size≠f:=λe=>nb e.symm;have bD:F.heap.size≠w.heap.size+1:=λe=>nc e.symm;have aZ:Hid (∀W W',(FX w W f g base T z l A d B dp m M now w.heap.size (q.cells v u)/\J W/\Live W (w.heap.size+1) 7)->W.rangeAt (w.heap.size+1) 0 tk.cells->CF W W' (Pl.has d)->W'.rangeAt (w.heap.size+1) 0 tk.cells):=λW W' _ h k=>k.range h (λ_ _ e=>by have:=Sm.o _ _ e;omega);have aD:Hid (Calls prog 219 #[l,υ (UInt64.toNat tk.aN:Int),u] F.drew λe w'=>e=.returned (.tuple #[.agg #[.string t.ay,ι t.time,ι t.count],.bool dq])/\(FX w w' f g base T z l A d B dp m M now w.heap.size (q.cells v u)/\J w'/\Live w' (w.heap.size+1) 7)/\w'.rangeAt (w.heap.size+1) 0 tk.cells/\F.heap.size<=w'.heap.size):=(ag _ (sW.o _ _ E.o (bg (cC _ _))).1).mono λ_ _ ⟨a,c⟩=>⟨a,QO.o _ _ E.o c.dM,aZ.o _ _ E.o HT.o c.dM,c.size⟩
          have UL:Hid (Calls prog 219 #[l,υ (UInt64.toNat tk.aN:Int),u] ((F.alloc (.cells #[.string ⟨#[]⟩,ι 0,ι 0] 131)).drew) λe w'=>e=.returned (.tuple #[.agg #[.string t.ay,ι t.time,ι t.count],.bool dq])/\(FX w w' f g base T z l A d B dp m M now w.heap.size (q.cells v u)/\J w'/\Live w' (w.heap.size+1) 7)/\w'.rangeAt (w.heap.size+1) 0 tk.cells/\Live w' F.heap.size 3):=(ag _ (sW.o _ _ E.o (bg (cx _ _ none))).1).mono λ_ _ ⟨a,c⟩=>⟨a,QO.o _ _ (sW.o _ _ E.o (cx _ _ none)) c.dM,aZ.o _ _ (sW.o _ _ E.o (cx _ _ none)) (gX HT.o (cx _ _ none)) c.dM,(Live.new F #[.string ⟨#[]⟩,ι 0,ι 0] _).cf c.dM⟩
          clear ag;have ga:=cx F (.cells #[.string ⟨#[]⟩,ι 0,ι 0] 131) none;have x1:=ga.cell c1 agI;have x3:=ga.cell U agI;have xs:=ga.cell ts agI;clear ga
          go_region_held3 (λw'=>w'.cell? ⟨f,1,none⟩=some l/\w'.cell? ⟨w.heap.size,3,none⟩=some u/\w'.cell? ⟨w.heap.size+1,1,none⟩=some (υ tk.aN.toNat)) (go_keep) (first
           |(go_at_call 219;(with_reducible apply Calls.mono aD.o);rintro r w6 ⟨rfl,a6,t6,z6⟩;have SN:=hid a6;have OO:=hid t6;have bu:=hid z6;have y1:=SN.o.1.hear.c1;have y3:=SN.o.1.ask 3 _ rfl;have ys:w6.cell? ⟨w.heap.size+1,1,none⟩=some (.int .u64 (tk.aN.toNat:Int)):=t6 1 _ rfl;clear a6 t6 z6;have g2:=cx w6 (.cells #[.string ⟨#[]⟩,.int .i64 0,.int .i64 0] 131) none;have bI:=g2.cell y1 agI;have b3:=g2.cell y3 agI;have bC:=g2.cell ys agI;have g3:=cx w6 (.cells #[.string ⟨t.ay.toArray⟩,.int .i64 t.time,.int .i64 t.count] 131) none;have bH:=g3.cell y1 agI;have bM:=g3.cell y3 agI;have bQ:=g3.cell ys agI;clear g2 g3)
           |(go_at_call 219;(with_reducible apply Calls.mono UL.o);rintro r w6 ⟨rfl,a6,t6,l6⟩;have SN:=hid a6;have OO:=hid t6;have Nc:=hid l6;have y1:=SN.o.1.hear.c1;have y3:=SN.o.1.ask 3 _ rfl;have ys:w6.cell? ⟨w.heap.size+1,1,none⟩=some (.int .u64 (tk.aN.toNat:Int)):=t6 1 _ rfl;obtain⟨d0,q0⟩:=cA.1 (l6.some 0 agF);obtain⟨d1,q1⟩:=cA.1 (l6.some 1 agF);obtain⟨d2,q2⟩:=cA.1 (l6.some 2 agF);have f0:=l6.frozen 0;have f1:=l6.frozen 1;have f2:=l6.frozen 2;clear a6 t6 l6))
          all_goals go_wp2
          all_goals go_meet
          ·exact⟨_,rfl,(by have:=bu.o;omega),rfl,(dB.new _ _ _).range,gX OO.o (cx _ _ none),sW.o _ _ SN.o (cx _ _ none)⟩
          ·have C7:CF w6 (((w6.setCell (F,0) (.string t.ay)).setCell (F,1) (ι t.time)).setCell (F,2) (ι t.count)) (λb _=>b=F.heap.size):=by
            exact aa2
           exact⟨F.heap.size,rfl,bs,rfl,UM w6 F.heap.size Nc.o t,C7.range OO.o (λ_ _ e=>by omega),QQ.o _ _ F.heap.size SN.o agE C7⟩
         case rest=>
          obtain⟨pb,rfl,bO,rfl,hP,hT,Q⟩:=hcut;have OZ:=hid Q;have bc:=hid hT;have M8:=hid hP;clear Q hT hP E HT c1 ts Y k1 k2 U k4 k5 k6 k7 k8 ag;cases dq with
          |false=>
           have Ci:Hid (AR=(.error 31,M)):=(by rw[<-YW.o];exact UJ qa.o L.o HK.o aL.o (by rw[aX.o];exact a1.o));exact aew
          |true=>
           have H:=YE (M:=M) (now:=now) qa.o L.o HK.o aL.o aX.o a1.o bo.o;rw[YW.o]at H;have p0:wc.cell? (pb,0)=some (.string t.ay):=M8.o 0 _ rfl;have p1:wc.cell? (pb,1)=some (ι t.time):=M8.o 1 _ rfl;have p2:wc.cell? (pb,2)=some (ι t.count):=M8.o 2 _ rfl;have r2:wc.cell? (w.heap.size+1,2)=some (.string tk.ay):=bc.o 2 _ rfl;by_cases R:t.ay=tk.ay
           ·have bq:=db.2 R;rw[if_neg (λn=>n R)]at H;clear R;by_cases rP:M.aA<dU t.time now
            ·rw[if_pos rP]at H;have Ci:=hid H;have HC:=hid (bt.o wc t OZ.o.1 bb.o rP);clear H rP;go_wp2_with (first|(go_at_call 220;refine HC.o.mono ?_;clear HC;rintro r w8 ⟨rfl,g8⟩;have ah:=hid (sW.o _ _ OZ.o g8);clear g8))
             go_meet;exact⟨_,_,rfl,Ci.o,ah.o.2.2,ah.o.1.bP,ah.o.2.1,ah.o.1.cf.mono (λ_ _ _ e=>.inl e)⟩
            ·rw[if_neg rP]at H;have HC:=hid (bw.o wc t OZ.o.1 bb.o (eS.1 rP));have HDk:Hid (∀W',W'.rangeAt g 163 (bY (bJ M.aA now M.aJ t))->W'.cell? (g,187)=some (ι (bJ M.aA now M.aJ t).length)->CF wc W' (λb y=>b=g/\163<=y/\y<188)->dE W' g 0 dp {M with aJ:=bJ M.aA now M.aJ t}):=λW' h1 h2 k=>Nb OZ.o.1.bP k h1 h2 (λq hq e=>(vV.o.MX q hq).1 e) (EG _ _ _ _ OZ.o.1.bP.few);have HCf:Hid (∀W',CF wc W' (λb y=>b=g/\163<=y/\y<188)->J W'/\CF w W' (λb y=>exX d m b y\/b=g/\163<=y/\y<188)/\Live W' (w.heap.size+1) 7/\W'.rangeAt (w.heap.size+1) 0 tk.cells):=λW' k=>⟨N.o _ _ OZ.o.2.1 (k.mono (λb y _ e=>by obtain⟨rfl,h1,h2⟩:=e;exact vV.o.acv y h1 h2)),(OZ.o.1.cf.mono (λ_ _ _ e=>.inl e)).trans k (λ_ _ _ e=>.inr e),OZ.o.2.2.cf k,k.range bc.o (λ_ _ e=>by have:=HN.o.2;omega)⟩
             obtain⟨pc,aj⟩:=aq (bL M.aA now M.aJ t);obtain⟨pn,au⟩:=aq (bJ M.aA now M.aJ t);have Nf:=hid (uX M.aA now M.aJ t);rw[aj]at Nf;rw[aj,au]at HC H;rw[au]at HDk;clear aj au rP;by_cases h0:pc=0
             ·subst h0;rw[if_neg (λn=>n rfl)]at H;have Ci:=hid H;clear H;go_wp2_with (first|(go_at_call 220;refine HC.o.mono ?_;clear HC;rintro r w8 ⟨rfl,h1,h2,C8⟩;have HD8:=hid (HDk.o _ h1 h2 C8);have O3:=hid (HCf.o _ C8);clear h1 h2 C8;obtain⟨⟨s0,s1,s2,s3,s4,s5,s6⟩,e0,e1,e2,e3,e4,e5,e6⟩:=YV O3.o.2.2.2 O3.o.2.2.1))
              try rw[Exit.noGoto_ret]
              have C9:=ug w8 (w.heap.size+1) (ι tk.ae) (υ tk.aN.toNat) (.string tk.ay) (ι tk.dV) (ι tk.start) (ι tk.fin) (ι tk.aC);refine bodyPost_ret (aF results183 _ _ _ (w.heap.size+1) rfl _ (eG (cs:=tk.cells) (IL w8 (w.heap.size+1) O3.o.2.2.1 tk) 333 _ underlying333 rfl Tryz.jf)) rfl ⟨by rw[Ci.o];rfl,?_,?_,?_⟩
              ·rw[Ci.o];exact HD8.o.cf C9 (λj _ _ e=>by have:=HN.o.2;omega) (λq hq j _ e=>by have:=(vV.o.MX q hq).2.2.1;omega)
              ·exact N.o _ _ O3.o.1 (C9.mono (λb y _ e=>vV.o.AA b y agE))
              ·exact O3.o.2.1.trans C9 (λi _ hi e=>by omega)
             ·rw[if_pos h0]at H;have Ci:=hid H;clear H;rcases Nf.o with rfl|rfl|rfl
              ·exact abO
              ·exact abO
              ·exact absurd rfl h0
           ·have bq:=cJ.2 R;rw[if_pos R]at H;have Ci:=hid H;clear H;exact aew
 case rest=>
  obtain⟨ab,M',rfl,aT,hL,hD,hj,hC⟩:=hcut;have Ci:=hid aT;have HL:=hid hL;have HD:=hid hD;have bB:=hid hj;have bA:=hid hC;clear aT hL hD hj hC;have s:=EF HL.o;obtain⟨d0,q0⟩:=s.1 0 agF;have f0:=s.2 0;obtain⟨d1,q1⟩:=s.1 1 agF;have f1:=s.2 1;obtain⟨d2,q2⟩:=s.1 2 agF;have f2:=s.2 2;obtain⟨d3,q3⟩:=s.1 3 agF;have f3:=s.2 3;obtain⟨d4,q4⟩:=s.1 4 agF;have f4:=s.2 4;obtain⟨d5,q5⟩:=s.1 5 agF;have f5:=s.2 5;obtain⟨d6,q6⟩:=s.1 6 agF;have f6:=s.2 6;clear s;go_wp2_with fail;try rw[Exit.noGoto_ret]
  have C9:=ug wc (w.heap.size+1) (ι 0) (υ 0) (.string ⟨#[]⟩) (ι 0) (ι 0) (ι 0) (ι 0);refine bodyPost_ret (aF results183 _ _ _ (w.heap.size+1) rfl _ (eG (QN wc (w.heap.size+1) HL.o) 333 _ underlying333 rfl Tryz.jf)) rfl ⟨by rw[Ci.o];rfl,?_,?_,?_⟩
  ·rw[Ci.o];exact HD.o.cf C9 (λj _ _ e=>by have:=HN.o.2;omega) (λq hq j _ e=>by have:=(vV.o.MX q hq).2.2.1;omega)
  ·exact N.o _ _ bB.o (C9.mono (λb y _ e=>vV.o.AA b y agE))
  ·exact bA.o.trans C9 (λi _ hi e=>by omega)
end Go.Proofs.YtlfifnpjeangmaaGreatDoor
