import Derived.Test.YticfhckmhcaigaaGreatDoorGEPReadA
namespace Go.Proofs.YticfhckmhcaigaaGreatDoor
set_option maxHeartbeats 1000000
open Proofs.Tryz Go.RowKit
set_option maxRecDepth 100000
variable {p:Prop}
def dH(key use:UInt64)(z:E):E:=if 16<=z.length/\z.length<=216/\Pure.opens key use z=true then Pure.dI key use z else []
def F9(w w':World)(p:Option Pl)(e:Ending)(l:E):Prop:=∃a c,e=.returned (.slice a l.length c)/\l.length<=c/\c<=9223372036854775807/\l.length<=200/\At w' a l/\CF w w' (Pl.has p)/\∀g,g<w.1.size->Pl.blk p≠some g->iY (a,l) g
theorem F9.nil{w a:World}{p:Option Pl}(c:CF w a (Pl.has p)):F9 w a p (.returned σ) []:=⟨none,0,rfl,by simp,by decide,by simp,At.nil _ _,c,λg _ _ q=>by simp at q⟩
theorem BP(v)(p)(K)(a d)(x)(l)(z)(n i)(w)(q:fA w v p K)(C:wF x=true)(Q:Hid (x=d.toNat))(hn:Hid (z.length=n))(m:n<=i)(r:At w l z)(f:∀b h,l=some ⟨b,h,none⟩->∀j,j<z.length->¬ Pl.has p b (h+j)):Calls prog 235 #[v,O (a.toNat:Int),Y x,.slice l n i] w λe y=>F9 w y p e (dH a d z):=by
 by_cases g:n<16\/216<n
 .have k:Hid (dH a d z=[]):=by show _=_;rw[dH,b' kO]
  have u:=I (Ju v (a.toNat:Int) x l n i w C g);clear q r f g;go_in;go_wp2_with (go_at_call 84;refine u.mono ?_;rintro e y ⟨rfl,rfl⟩)
  go_ret;rw[k];exact F9.nil (CF.refl _ _)
 .have u:=I (EB v p K a d x l z n i w q C Q hn G G m r f);have j:16<=z.length/\z.length<=216:=qE;clear q r f g;cases f:Pure.opens a d z
  .have k:Hid (dH a d z=[]):=(by show _=_;rw[dH,b' dT]);have A:=I f;clear f;go_in;go_wp2_with (go_at_call 84;refine u.mono ?_;rintro e y ⟨_,q⟩;obtain⟨rfl,g⟩:=q A)
   go_ret;rw[k];exact F9.nil g
  .have k:Hid (dH a d z=Pure.dI a d z):=(by show _=_;rw[dH,dQ ⟨j.1,j.2,f⟩]);have L:Hid ((Pure.dI a d z).length<=200):=(by show _<=_;rw[Pure.jd];omega);have A:=I f;clear f;go_in;go_wp2_with (go_at_call 84;refine u.mono ?_;rintro e y ⟨U,_⟩;obtain⟨X,rfl,J⟩:=U A.o;obtain⟨W,D,_,r,_⟩:=id J;obtain⟨B,M,rfl,R,S,T,_⟩:=D.shape)
   go_ret;rw[k];refine⟨B,M,rfl,R,S,L,T,J.cf,λg t P V b h e q=>?_⟩;have e:B=some ⟨b,h,none⟩:=e;subst e;rcases D with⟨_,h,_⟩|⟨t,b,g,_⟩
   .cases h
   .injection g with e1 _ _;injection e1 with e1;injection e1 with e1 _ _;rcases r with r|r
    .exact P (by rw[<-r,b];exact congrArg some (e1.symm.trans q))
    .have:=r t b;omega
def sW(s:E×Bool):UInt64×(E×Bool):=
 (Pure.joinL 0 (bC 4 s.1 s.2).1,if (bC 4 s.1 s.2).1.length=8 then(bC 4 s.1 s.2).2 else([],true))
theorem WY(S)(g)(s)(w)(b:At w S.1 S.2)(d:iY S g)(h:Rd w S g s.1 s.2):Calls prog 241 #[N g 0] w λe a=>e=.returned (O ((sW s).1.toNat:Int))/\Rd a S g (sW s).2.1 (sW s).2.2/\CF w a (LY g):=by
 have f:=I (AP S g s.1 s.2 w b h)
 obtain⟨q,a⟩:=aq (bC 4 s.1 s.2)
 have m:Hid (sW s=(Pure.joinL 0 q.1,if q.1.length=8 then q.2 else([],true))):=by show _=_;rw[sW,a]
 rw[a]at f
 have HS:=I (cZ b d)
 clear h b d a
 go_in
 go_wp2_with fail
 refine f.mono ?_
 rintro e u ⟨v,rfl,b,j,h⟩
 obtain⟨p,r,rfl,_⟩:=id b
 have a:=iY.at HS.1 h.zD (λ_ e=>e▸HS.2)
 have o:=b.at a
 obtain⟨ok,t⟩:∃ok:Bool,(((q.1.length:Int)==8)=ok):=⟨_,rfl⟩
 have i:=I (uN S g _ _ ok u j)
 have l:=I h
 have HB:=I (λ(W:World) (k:At W S.1 S.2)=>(b.at k).2.2.2)
 have n:Hid (∀W,Rd W S g (if ok=true then q.2.1 else []) (if ok=true then q.2.2 else true)->Rd W S g (sW s).2.1 (sW s).2.2):=by
  intro W k;grind [Hid.o]
 have d:=I a
 clear f b j h a o
 go_wp2_with fail
 refine i.mono ?_
 rintro e b ⟨rfl,h,f⟩
 have a:=iY.at d f.zD (λ_ e=>e▸HS.2)
 have k:=I (Nk 0 q.1 p r b (HB b a).1 (HB b a).2)
 have j:=I (l.o.trans f (λ_ _ _ e=>e))
 have o:=I (n b h)
 clear h f a i
 go_wp2_with fail
 refine k.mono ?_
 rintro e a ⟨rfl,rfl⟩
 go_wp2
 go_ret
 exact⟨by rw[m];rfl,o,j⟩
theorem vr(h:p:=by rw[bC,hc];simp only[e,if_false]):p:=h
theorem vq(h:p:=by rw[bC,hc];simp only[e,if_true]):p:=h
def st(s:E×Bool):Option E:=if s.2=true then none else some s.1
def lY(s:E×Bool):Prop:=s.2=true->s.1=[]
theorem XS:Box.cut []=none:=by
 grind [Box.cut]
theorem pE(a)(f):bC a [] f=([],[],true):=by rw[bC,XS]
theorem lY.take{s:E×Bool}(h:lY s)(a):lY (bC a s.1 s.2).2:=λe=>(pg a s.1 s.2 h e).2
theorem lY.step{s:E×Bool}(h:lY s):lY (bO s).2:=Kc h
theorem lY.name{s:E×Bool}(h:lY s):lY (fM s).2:=by
 unfold fM;simp only;split
 .exact h.take 4
 .exact λ_=>rfl
variable {β:Type}
theorem yj{s:E×Bool}(h:lY s)(k:E->E->Option β):(st s).bind (dO dz k)=(st (fM s).2).bind (k (fM s).1):=by
 obtain⟨l,f⟩:=s;cases f
 .cases hc:Box.cut l with
  |none=>
   have a:bC 4 l false=([],[],true):=(by rw[bC,hc]);simp[st,dO,hc,fM,a]
  |some q=>
   obtain⟨t,i,r⟩:=q;by_cases e:t.toNat=4
   .have a:bC 4 l false=(i,r,false):=vq;cases b:dx i<;>simp[st,dO,hc,fM,a,dz,e,b]
   .have a:bC 4 l false=([],[],true):=vr;simp[st,dO,hc,fM,a,dz,e]
 .have b:l=[]:=h rfl;subst b;simp[st,fM,pE]
theorem kM{s:E×Bool}(h:lY s)(k:Int->E->Option β):(st s).bind (dO bG k)=(st (bO s).2).bind (k (bO s).1):=by
 obtain⟨l,f⟩:=s;cases f
 .cases a:Box.cut l with
  |none=>
   grind [bC,st,dO,bO]
  |some q=>
   grind [dO,bC,bO,bG,st]
 .have b:l=[]:=h rfl;grind [pE,st,bO]
theorem Vh{s:E×Bool}(h:lY s)(k:E->E->Option β):(st s).bind (dO jD k)=(st (bC 4 s.1 s.2).2).bind (k (bC 4 s.1 s.2).1):=by
 obtain⟨l,f⟩:=s;cases f
 .cases hc:Box.cut l with
  |none=>
   have a:bC 4 l false=([],[],true):=(by rw[bC,hc]);simp[st,dO,hc,a]
  |some q=>
   obtain⟨t,i,r⟩:=q;by_cases e:t.toNat=4
   .have a:bC 4 l false=(i,r,false):=vq;simp[st,dO,hc,a,jD,e]
   .have a:bC 4 l false=([],[],true):=vr;simp[st,dO,hc,a,jD,e]
 .have b:l=[]:=h rfl;subst b;simp[st,pE]
theorem Vi{α:Type}{s:E×Bool}(h:lY s)(f:ry->Option α)(c:E->Option α)(b:∀t i,f (t,i)=if t.toNat=48 then c i else none)(k:α->E->Option β):
  (st s).bind (dO f k)=(st (bC 48 s.1 s.2).2).bind (λr=>(c (bC 48 s.1 s.2).1).bind λa=>k a r):=by
 obtain⟨l,d⟩:=s
 cases d
 .cases hc:Box.cut l with
  |none=>
   have a:bC 48 l false=([],[],true):=(by rw[bC,hc]);simp[st,dO,hc,a]
  |some q=>
   obtain⟨t,i,r⟩:=q;by_cases e:t.toNat=48
   .have a:bC 48 l false=(i,r,false):=vq;simp[st,dO,hc,a,b,e]
   .have a:bC 48 l false=([],[],true):=vr;simp[st,dO,hc,a,b,e]
 .have g:l=[]:=h rfl;subst g;simp[st,pE]
theorem xu(s)(b:β):(st s).bind (wB b)=if (!s.2&&decide (s.1=[]))=true then some b else none:=by
 grind [wB,st]
theorem AV(a):lL a=(st (bQ a)).bind Box.dG:=by
 grind [bC,st,bQ,lL]
theorem vK(a):lY (bQ a):=mP a
theorem Kh(b)(a):lY (jq b a):=zF b a
theorem O3(b)(a)(f:List ry->Option β)(k:E->Option β)(e:∀l,k l=(Box.dG l).bind f):
  (if b.length<=300 then(lL b).bind (bZ bG λn=>if n=a then f else λ_=>none) else none)=(st (jq b a)).bind k:=by
 have d:(lL b).bind (bZ bG λn=>if n=a then f else λ_=>none)=(st (bQ b)).bind (dO bG λn=>if n=a then k else λ_=>none):=by
  rw[AV,Option.bind_assoc];congr 1;grind [aag,eD]
 grind [kM,vK,st,jq]
def Md:E->Option (Int×E):=dO bG λn=>dO jD λz=>wB (n,z)
theorem Tn(l):Md l=(Box.dG l).bind rz:=
 eD _ _ _ (λn l=>eD _ _ _ (λz l=>xY (n,z) l) l) l
theorem Ki{s:E×Bool}(h:lY s)(k:Int×E->E->Option β):(st s).bind (dO bG λn=>dO jD λz=>k (n,z))=(st (jG s).2).bind (k (jG s).1):=by
 rw[kM h,Vh h.step];rfl
def O4(i:E):Option (Option (Int×E)):=if i=[] then some none else(Md i).map some
theorem aaW(t)(i):mO (t,i)=if t.toNat=48 then O4 i else none:=by
 unfold mO Ap O4;by_cases e:t.toNat=48
 .simp only[e,if_true];by_cases d:i=[]
  .subst d;rw[dQ rfl,Box.xV rfl]
  .rw[b' d,Tn];cases a:Box.dG i with
   |none=>rfl
   |some g=>
    cases g with
    |nil=>
     exfalso;cases b:Box.cut i with
     |none=>rw[Box.nA (gi.2 d) b]at a;cases a
     |some q=>
      obtain⟨k,j,h⟩:=q;rw[Box.oO b]at a;cases f:Box.dG h with
      |none=>rw[f]at a;cases a
      |some z=>rw[f]at a;simp at a
    |cons p g=>rfl
 .simp only[e,if_false]
theorem n'(h:p:=by grind [lY.step]):p:=h
theorem sr(h:p:=by grind [lY.name]):p:=h
def Nm:List ry->Option FQ:=bZ dz λc=>bZ dz λs=>bZ bG λn=>bZ bG λf=>bZ bG λt=>bZ bG λr=>bZ bG λo=>bZ mO λp=>yK ⟨c,s,n,f,t,r,o,p⟩
def Gf:E->Option FQ:=dO dz λc=>dO dz λs=>dO bG λn=>dO bG λf=>dO bG λt=>dO bG λr=>dO bG λo=>dO mO λp=>wB ⟨c,s,n,f,t,r,o,p⟩
theorem Xd(l):Gf l=(Box.dG l).bind Nm:=
 eD _ _ _ (λc l=>eD _ _ _ (λs l=>eD _ _ _ (λn l=>eD _ _ _ (λf l=>eD _ _ _ (by grind [eD,xY]) l) l) l) l) l
theorem Tp{g h i j k l f:E×Bool}{a b:E}{m:E×Bool}{q t u v w:Int}{d:E×(E×Bool)}(M:lY g)(P:fM g=(a,m))(Q:fM m=(b,h))(C:bO h=(q,i))(D:bO i=(t,j))(J:bO j=(u,k))(K:bO k=(v,l))(L:bO l=(w,f))(o:bC 48 f.1 f.2=d):
  lY (d.1,d.2.2)/\(st g).bind Gf=(st d.2).bind (λr=>(O4 d.1).bind λp=>wB ⟨a,b,q,t,u,v,w,p⟩ r):=by
 have B:lY m:=sr
 have p:lY h:=sr
 have r:lY i:=n'
 have x:lY j:=n'
 have y:lY k:=n'
 have A:lY l:=n'
 have n:lY f:=n'
 refine⟨λe=>?_,?_⟩
 .rw[<-o]at e⊢;exact(pg 48 _ _ n e).1
 .unfold Gf;rw[yj M,P,yj B,Q,kM p,C,kM r,D,kM x,J,kM y,K,kM A,L,Vi n mO O4 aaW,o]
def Vj(aX:E):FQ:=⟨(pZ aX).1,(BN aX).1,Bu aX 0,Bu aX 1,Bu aX 2,Bu aX 3,Bu aX 4,if (Ea aX).1=[] then none else some (IA aX).1⟩
theorem og(s)(k):bO (iV s k)=((bO (iV s k)).1,iV s (k+1)):=rfl
theorem yl(s):bO s=((bO (iV s 0)).1,iV s 1):=rfl
theorem aaY(a):nR a=(st (jq a 10)).bind Gf:=by
 rw[<-O3 a 10 Nm Gf Xd];rfl
theorem Tq(d):nR d=if vI d=true then some (Vj d) else none:=by
 have m:=aaY d;have t:=Kh d 10;have n:fM (jq d 10)=pZ d:=rfl;have o:fM (pZ d).2=BN d:=rfl;have g:bO (BN d).2=(Bu d 0,iV (BN d).2 1):=yl _;have h:bO (iV (BN d).2 1)=(Bu d 1,iV (BN d).2 2):=og _ 1;have i:bO (iV (BN d).2 2)=(Bu d 2,iV (BN d).2 3):=og _ 2;have l:bO (iV (BN d).2 3)=(Bu d 3,iV (BN d).2 4):=og _ 3;have j:bO (iV (BN d).2 4)=(Bu d 4,iV (BN d).2 5):=og _ 4;have f:bC 48 (iV (BN d).2 5).1 (iV (BN d).2 5).2=Ea d:=rfl;have k:IA d=if (Ea d).1=[] then((0,[]),((Ea d).1,(Ea d).2.2)) else jG ((Ea d).1,(Ea d).2.2):=rfl;have q:vI d=((!(IA d).2.2&&decide ((IA d).2.1=[]))&&(!(Ea d).2.2&&decide ((Ea d).2.1=[]))):=rfl;have r:Vj d=⟨(pZ d).1,(BN d).1,Bu d 0,Bu d 1,Bu d 2,Bu d 3,Bu d 4,if (Ea d).1=[] then none else some (IA d).1⟩:=rfl;generalize iV (BN d).2 1=s1 at *;generalize iV (BN d).2 2=s2 at *;generalize iV (BN d).2 3=s3 at *;generalize iV (BN d).2 4=s4 at *;generalize iV (BN d).2 5=s5 at *;generalize Bu d 0=n0 at *;generalize Bu d 1=n1 at *;generalize Bu d 2=n2 at *;generalize Bu d 3=n3 at *;generalize Bu d 4=n4 at *;generalize Vj d=Q at *;generalize vI d=ok at *;generalize IA d=P at *;generalize Ea d=C at *;generalize BN d=qB at *;generalize pZ d=qA at *;generalize jq d 10=q0 at *;obtain⟨a,v⟩:=qA;obtain⟨b,u⟩:=qB;obtain⟨p,e⟩:=Tp t n o g h i l j f;rw[m,e,q,r];clear e n o g h i l j f m q r;by_cases e:C.1=[]
 .rw[dQ e]at k⊢;have f:O4 C.1=some none:=by rw[O4,dQ e]
  have g:((!P.2.2&&decide (P.2.1=[]))&&(!C.2.2&&decide (C.2.1=[])))=(!C.2.2&&decide (C.2.1=[])):=by
   rw[k];simp only[e,decide_true,gh];cases C.2.2<;>simp
  rw[f,g,<-xu];rfl
 .rw[b' e]at k⊢;have i:C.2.2=false:=by
   cases h:C.2.2
   .rfl
   .exact absurd (p h) e
  have f:O4 C.1=if (!P.2.2&&decide (P.2.1=[]))=true then some (some P.1) else none:=by
   have g:Md C.1=(st (C.1,C.2.2)).bind (dO bG λn=>dO jD λz=>wB (n,z)):=(by rw[i];rfl);rw[O4,b' e,g,Ki p (λa=>wB a),<-k,xu];split<;>rfl
  rw[f];cases g:(!P.2.2&&decide (P.2.1=[]))
  .simp only[gE,fS,if_false];cases st C.2<;>rfl
  .simp only[gO,if_true];rw[<-xu];rfl
set_option maxHeartbeats 2000000
variable {w W W':World}{ex:Nat->Nat->Prop}{S:l'}{g g' fb:Nat}{s s':E×Bool}{cs cs':Array Value}
theorem RS.beside{d:List (Nat×Nat)}(h:RS w W ex S g s fb cs)(a:RS w W' ex S g' s' fb cs')(c:CF W W' (rk g' d))(f:∀p∈d,p.1=fb)(b:g≠g'):RS w W' ex S g s fb cs':=by
 refine⟨h.rd.keep (c.block g h.rd.lt (λo e=>?_)),a.blk,a.cf,a.src,h.ng,a.nf,a.hf,h.hg,h.ne⟩;rcases e with e|e
 .exact b e
 .exact h.ne (f _ e).symm
def aaZ(W:World)(g:Nat)(c0 c1 c2 c3 c4 c5 c6 c7 c8:Value):World:=(((((((((W.setCell (F g 0) c0).setCell (F g 1) c1).setCell (F g 2) c2).setCell (F g 3) c3).setCell (F g 4) c4).setCell (F g 5) c5).setCell (F g 6) c6).setCell (F g 7) c7).setCell (F g 8) c8)
theorem Tryz.O5:(prog.info? 276).map (·.size)=some 9:=by kernel_rfl
theorem dm.nine{w:World}{g:Nat}{a b d e f i j k l:Value}(h:dm w g #[a,b,d,e,f,i,j,k,l]):w.cell? (F g 0)=some a/\w.cell? (F g 1)=some b/\w.cell? (F g 2)=some d/\w.cell? (F g 3)=some e/\w.cell? (F g 4)=some f/\w.cell? (F g 5)=some i/\w.cell? (F g 6)=some j/\w.cell? (F g 7)=some k/\w.cell? (F g 8)=some l:=⟨h.cell 0,h.cell 1,h.cell 2,h.cell 3,h.cell 4,h.cell 5,h.cell 6,h.cell 7,h.cell 8⟩
theorem RS.aaZ{n o p q r t u v x:Value}(h:RS w W ex S g s fb #[n,o,p,q,r,t,u,v,x])(a b d e f i j l m):RS w (aaZ W fb a b d e f i j l m) ex S g s fb #[a,b,d,e,f,i,j,l,m]:=by
 have k:=((((((((h.store 0 a).store 1 b).store 2 d).store 3 e).store 4 f).store 5 i).store 6 j).store 7 l).store 8 m;exact wg
theorem RS.aa0{a b d e f i j k l:Value}(h:RS w W ex S g s fb #[a,b,d,e,f,i,j,k,l]):(loadVar 276 ⟨fb,0,none⟩).run prog W=.ok (.agg #[a,b,d,e,f,i,j,k,l]) W:=h.blk.load 276 _ underlying276 rfl Tryz.O5
def YZ(aX:E):E×(E×Bool):=bC 48 (jq aX 12).1 (jq aX 12).2
def pT(aX:E):E×(E×Bool):=fM ((YZ aX).1,(YZ aX).2.2)
def Q7(aX:E):(Int×E)×(E×Bool):=jG (pT aX).2
def oY(aX:E):E×(E×Bool):=bC 4 (YZ aX).2.1 (YZ aX).2.2
def Eb(aX:E):E×(E×Bool):=fM (oY aX).2
def Gg(aX:E)(j:Nat):Int:=(bO (iV (Eb aX).2 j)).1
def AX(aX:E):Bool:=(!(Q7 aX).2.2&&decide ((Q7 aX).2.1=[]))&&(!(iV (Eb aX).2 4).2&&decide ((iV (Eb aX).2 4).1=[]))
abbrev AY:Array Value:=#[ε,Y 0,σ,σ,ε,Y 0,Y 0,Y 0,Y 0]
def BQ(aX:E)(v u:Value):List Value:=[.string ⟨(pT aX).1.toArray⟩,Y (Q7 aX).1.1,v,u,.string ⟨(Eb aX).1.toArray⟩,Y (Gg aX 0),Y (Gg aX 1),Y (Gg aX 2),Y (Gg aX 3)]
theorem Ks(h:p:=by
 go_wp2
 refine bodyPost_ret (aG results139 _ _ _ w.1.size rfl _ HZ.aa0) rfl ⟨_,by rw[qw];rfl,λe=>(by rw[qw]at e;cases e),⟨rfl,rfl⟩,HZ.cf.gb (λ_ _ _ e=>e)⟩):p:=h
theorem Me(S)(b)(n)(ao)(J)(w)(L:Hid (b.length=n))(K:At w S.1 S.2)(h:Bs S (.slice ao n J) b):Calls prog 139 #[.slice ao n J] w λe a=>∃cs,e=.returned (.tuple #[.agg cs,.bool (AX b)])/\(AX b=true->∃v u,cs=(BQ b v u).toArray/\Bs S v (Q7 b).1.2/\Bs S u (oY b).1)/\(cs.size=9/\cs.toList.all (·.oneCell')=true)/\w.grownBy a none:=by
 have d:=cy w (.cells AY 276) none
 have M:(w.alloc (.cells AY 276)).1.size=w.1.size+1:=cG _ _
 have k:=I (Kb S b n ao J 12 _ L (K.below d) h)
 have HB0:=I (cZ (dm.new w AY 276) d)
 have eu:=I K
 have hbad:=zF b 12
 obtain⟨t,g⟩:=aq (jq b 12)
 obtain⟨f,y⟩:=aq (bC 48 t.1 t.2)
 obtain⟨i,x⟩:=aq (fM (f.1,f.2.2))
 obtain⟨a,D⟩:=aq (jG i.2)
 obtain⟨l,r⟩:=aq (bC 4 f.2.1 f.2.2)
 obtain⟨m,A⟩:=aq (fM l.2)
 obtain⟨N,q⟩:∃N:Nat->Int,∀j,(bO (iV m.2 j)).1=N j:=⟨_,λ_=>rfl⟩
 obtain⟨V,p⟩:=aq (iV m.2 4)
 have T:Hid (YZ b=f):=by show _=_;rw[YZ,g,y]
 have R:Hid (pT b=i):=by show _=_;rw[pT,T,x]
 have C:Hid (Q7 b=a):=by show _=_;rw[Q7,R,D]
 have Q:Hid (oY b=l):=by show _=_;rw[oY,T,r]
 have B:Hid (Eb b=m):=by show _=_;rw[Eb,Q,A]
 have Ti:Hid (∀j,Gg b j=N j):=λj=>by rw[Gg,B,q]
 have HOK:Hid (AX b=((!a.2.2&&decide (a.2.1=[]))&&(!V.2&&decide (V.1=[])))):=by show _=_;rw[AX,C,B,p]
 have u:=I (cZ y (cZ x (cZ D (cZ r (cZ A (cZ q p))))))
 rw[g]at k hbad
 clear K h d g y x D r A q p L
 go_in
 go_wp2_with fail
 refine k.mono ?_
 rintro e w1 ⟨v,rfl,b1,g1⟩
 obtain⟨a1,c1,rfl,_⟩:=id b1
 have d:RS w (w1.alloc (.cells #[.slice a1 t.1.length c1,.bool t.2] 314)) (λ_ _=>False) S w1.1.size t w.1.size AY:=by
  exact Ly
 have g:=I (FP S w1.1.size t.1 t.2 _ d.src d.rd)
 have h:=I (pg 48 t.1 t.2 hbad)
 rw[u.1]at g h
 have H1:=I d
 clear b1 g1 HB0 k d hbad M
 go_wp2_with fail
 refine g.mono ?_
 rintro e k ⟨v2,rfl,D,L,K⟩
 obtain⟨aT,cT,rfl,_⟩:=id D
 have x:=H1.read K L
 have M:=x.size
 have r:=Rd.new (w:=k) D (λe=>(h e).1) 314
 have A:=I (iY.new x.src (cA k.1.size))
 have q:=x.alloc (.cells #[.slice aT f.1.length cT,.bool f.2.2] 314)
 have d:RS w (k.alloc (.cells #[.slice aT f.1.length cT,.bool f.2.2] 314)) (λ_ _=>False) S k.1.size (f.1,f.2.2) w.1.size AY:=⟨r,q.blk,q.cf,q.src,A,q.nf,cA _,by omega,by omega⟩
 have p:=I (pq S k.1.size (f.1,f.2.2) _ d.src d.ng d.rd)
 rw[u.2.1]at p
 have y:=I (cZ q d)
 have zz:w.1.size<k.1.size/\w1.1.size<k.1.size:=G
 clear D L K g H1 h x q d r M
 go_wp2_with fail
 refine p.mono ?_
 rintro e w4 ⟨rfl,D,r⟩
 have g:=y.1.other r A G G G
 have q:=y.2.read r D
 obtain⟨⟨d4,X⟩,Xc⟩:=g.slot 0 (by show 0<9;decide)
 have h:RS w (w4.setCell (F w.1.size 0) (.string ⟨i.1.toArray⟩)) (λ_ _=>False) S w1.1.size f.2 w.1.size #[.string ⟨i.1.toArray⟩,Y 0,σ,σ,ε,Y 0,Y 0,Y 0,Y 0]:=g.store 0 _
 have d:RS w (w4.setCell (F w.1.size 0) (.string ⟨i.1.toArray⟩)) (λ_ _=>False) S k.1.size i.2 w.1.size #[.string ⟨i.1.toArray⟩,Y 0,σ,σ,ε,Y 0,Y 0,Y 0,Y 0]:=q.store 0 _
 have x:=I (AU S k.1.size i.2 _ d.src d.ng d.rd)
 rw[u.2.2.1]at x
 have L:=I (cZ h d)
 clear D r p y g q h d
 go_wp2_with fail
 refine x.mono ?_
 rintro e w5 ⟨v5,rfl,y,r5,M⟩
 obtain⟨q,r,rfl,_⟩:=id y
 have h:=L.1.other M A G G G
 have d:=L.2.read M r5
 obtain⟨⟨d5,ab⟩,af⟩:=h.slot 1 (by show 1<9;decide)
 obtain⟨⟨ai,U⟩,W⟩:=h.slot 2 (by show 2<9;decide)
 have g:RS w ((w5.setCell (F w.1.size 1) (Y a.1.1)).setCell (F w.1.size 2) (.slice q a.1.2.length r)) (λ_ _=>False) S w1.1.size f.2 w.1.size #[.string ⟨i.1.toArray⟩,Y a.1.1,.slice q a.1.2.length r,σ,ε,Y 0,Y 0,Y 0,Y 0]:=(h.store 1 _).store 2 _
 have p:RS w ((w5.setCell (F w.1.size 1) (Y a.1.1)).setCell (F w.1.size 2) (.slice q a.1.2.length r)) (λ_ _=>False) S k.1.size a.2 w.1.size #[.string ⟨i.1.toArray⟩,Y a.1.1,.slice q a.1.2.length r,σ,ε,Y 0,Y 0,Y 0,Y 0]:=(d.store 1 _).store 2 _
 have P:=I y
 have D:=I (AP S w1.1.size f.2.1 f.2.2 _ g.src g.rd)
 rw[u.2.2.2.1]at D
 have K:=I (cZ g p)
 clear r5 M y x L h d g p X Xc
 go_wp2_with fail
 refine D.mono ?_
 rintro e w6 ⟨v6,rfl,X,r6,f6⟩
 obtain⟨x,y,rfl,_⟩:=id X
 have g:=K.1.read f6 r6
 have p:=K.2.other f6 K.1.ng G (λe=>K.1.ne e.symm) K.1.hg
 obtain⟨⟨d6,ad⟩,ag⟩:=g.slot 3 (by show 3<9;decide)
 have d:RS w (w6.setCell (F w.1.size 3) (.slice x l.1.length y)) (λ_ _=>False) S w1.1.size l.2 w.1.size #[.string ⟨i.1.toArray⟩,Y a.1.1,.slice q a.1.2.length r,.slice x l.1.length y,ε,Y 0,Y 0,Y 0,Y 0]:=g.store 3 _
 have h:RS w (w6.setCell (F w.1.size 3) (.slice x l.1.length y)) (λ_ _=>False) S k.1.size a.2 w.1.size #[.string ⟨i.1.toArray⟩,Y a.1.1,.slice q a.1.2.length r,.slice x l.1.length y,ε,Y 0,Y 0,Y 0,Y 0]:=p.store 3 _
 have M:=I X
 have Vg:=I (pq S w1.1.size l.2 _ d.src d.ng d.rd)
 rw[u.2.2.2.2.1]at Vg
 have L:=I (cZ d h)
 clear r6 f6 X D K g p d h ab af U W
 go_wp2_with fail
 refine Vg.mono ?_
 rintro e w7 ⟨rfl,r7,f7⟩
 have d:=L.1.read f7 r7
 have h:=L.2.other f7 L.1.ng G (λe=>L.1.ne e.symm) L.1.hg
 obtain⟨⟨d7,ae⟩,ah⟩:=d.slot 4 (by show 4<9;decide)
 have D:RS w (w7.setCell (F w.1.size 4) (.string ⟨m.1.toArray⟩)) (λ_ _=>False) S w1.1.size m.2 w.1.size #[.string ⟨i.1.toArray⟩,Y a.1.1,.slice q a.1.2.length r,.slice x l.1.length y,.string ⟨m.1.toArray⟩,Y 0,Y 0,Y 0,Y 0]:=d.store 4 _
 have W:RS w (w7.setCell (F w.1.size 4) (.string ⟨m.1.toArray⟩)) (λ_ _=>False) S k.1.size a.2 w.1.size #[.string ⟨i.1.toArray⟩,Y a.1.1,.slice q a.1.2.length r,.slice x l.1.length y,.string ⟨m.1.toArray⟩,Y 0,Y 0,Y 0,Y 0]:=h.store 4 _
 have K:=I (cZ P.o M)
 have pl:=D.places [5,6,7,8] (λj hj=>by show j<9;simp at hj;omega) H 319
 rw[World.size_setCell]at pl
 have p:=D.alloc (.cells #[π w.1.size 5,π w.1.size 6,π w.1.size 7,π w.1.size 8] 319)
 have U:=W.alloc (.cells #[π w.1.size 5,π w.1.size 6,π w.1.size 7,π w.1.size 8] 319)
 have X:=I (kX S w1.1.size w7.1.size _ 4 m.2 _ (I rfl) G (p.stays [5,6,7,8]) p.rd pl)
 simp only[u.o.2.2.2.2.2.1]at X
 rw[u.2.2.2.2.2.2]at X
 have g:=I (cZ p U)
 clear r7 f7 d h D W Vg L pl p U ad ag P M
 go_wp2_with fail
 refine X.mono ?_
 rintro e W ⟨rfl,U,L,d⟩
 have D:∀p∈([5,6,7,8].map λj=>(w.1.size,j)),p.1=w.1.size:=λp hp=>by
  exact tf
 have p:RS w W (λ_ _=>False) S w1.1.size V w.1.size #[.string ⟨i.1.toArray⟩,Y a.1.1,.slice q a.1.2.length r,.slice x l.1.length y,.string ⟨m.1.toArray⟩,Y (N 0),Y (N 1),Y (N 2),Y (N 3)]:=by
  refine g.1.nums d U D rfl (λj hj=>?_)
  .have h:j<9:=hj;match j,h with
   |0,_=>exact d.cell (g.1.blk.cell 0) (λe=>by rcases e with e|e;exact g.1.ne e;simp at e)
   |1,_=>exact d.cell (g.1.blk.cell 1) (λe=>by rcases e with e|e;exact g.1.ne e;simp at e)
   |2,_=>exact d.cell (g.1.blk.cell 2) (λe=>by rcases e with e|e;exact g.1.ne e;simp at e)
   |3,_=>exact d.cell (g.1.blk.cell 3) (λe=>by rcases e with e|e;exact g.1.ne e;simp at e)
   |4,_=>exact d.cell (g.1.blk.cell 4) (λe=>by rcases e with e|e;exact g.1.ne e;simp at e)
   |5,_=>exact L 0 (w.1.size,5) rfl
   |6,_=>exact L 1 (w.1.size,6) rfl
   |7,_=>exact L 2 (w.1.size,7) rfl
   |8,_=>exact L 3 (w.1.size,8) rfl
 have M:=g.2.beside p d D G
 have P:=I K.o
 have h:=I (cZ p M)
 clear U L d p M D X g K u ae ah
 obtain⟨y0,y1,y2,y3,y4,y5,y6,y7,y8⟩:=h.1.blk.nine
 have D:=(h.1.slot 0 (by show 0<9;decide)).2
 have K:=(h.1.slot 1 (by show 1<9;decide)).2
 have L:=(h.1.slot 2 (by show 2<9;decide)).2
 have M:=(h.1.slot 3 (by show 3<9;decide)).2
 have U:=(h.1.slot 4 (by show 4<9;decide)).2
 have X:=(h.1.slot 5 (by show 5<9;decide)).2
 have aj:=(h.1.slot 6 (by show 6<9;decide)).2
 have ak:=(h.1.slot 7 (by show 7<9;decide)).2
 have al:=(h.1.slot 8 (by show 8<9;decide)).2
 have d:=I (ky S k.1.size _ _ _ h.2.rd)
 have g:=I (ky S w1.1.size _ _ _ h.1.rd)
 have HZ:=I (h.1.aaZ ε (Y 0) σ σ ε (Y 0) (Y 0) (Y 0) (Y 0))
 have p:=I (h.1.aaZ (.string ⟨i.1.toArray⟩) (Y a.1.1) (.slice q a.1.2.length r) (.slice x l.1.length y) (.string ⟨m.1.toArray⟩) (Y (N 0)) (Y (N 1)) (Y (N 2)) (Y (N 3)))
 unfold aaZ at HZ p
 cases hq1:(!a.2.2&&decide (a.2.1=[]))
 .have qw:Hid (AX b=false):=by show _=_;rw[HOK,hq1];rfl
  rw[hq1]at d;go_wp2_with fail;refine d.mono ?_;rintro e u ⟨rfl,rfl⟩;clear d g p hq1;exact Ks
 .rw[hq1]at d;cases hq2:(!V.2&&decide (V.1=[]))
  .have qw:Hid (AX b=false):=sY;rw[hq2]at g;go_wp2_with fail;refine d.mono ?_;rintro e u ⟨rfl,rfl⟩;go_wp2_with fail;refine g.mono ?_;rintro e u ⟨rfl,rfl⟩;clear d g p hq1 hq2;exact Ks
  .have qw:Hid (AX b=true):=sY;rw[hq2]at g;go_wp2_with fail;refine d.mono ?_;rintro e u ⟨rfl,rfl⟩;go_wp2_with fail;refine g.mono ?_;rintro e u ⟨rfl,rfl⟩;clear d g HZ hq1 hq2;go_wp2;refine bodyPost_ret (aG results139 _ _ _ w.1.size rfl _ p.aa0) rfl ⟨_,by rw[qw];rfl,λ_=>?_,⟨rfl,rfl⟩,p.cf.gb (λ_ _ _ e=>e)⟩;refine⟨_,_,by rw[BQ,R,C,B,Ti,Ti,Ti,Ti],?_,?_⟩
   .rw[C];exact P.1
   .rw[Q];exact P.2
def Hr:List ry->Option NQ:=bZ ik λc=>bZ jD λp=>bZ dz λs=>bZ bG λn=>bZ bG λt=>bZ bG λr=>bZ bG λo=>yK ⟨c.1,c.2.1,c.2.2,p,s,n,t,r,o⟩
def O6:E->Option NQ:=dO ik λc=>dO jD λp=>dO dz λs=>dO bG λn=>dO bG λt=>dO bG λr=>dO bG λo=>wB ⟨c.1,c.2.1,c.2.2,p,s,n,t,r,o⟩
theorem aa2(l):O6 l=(Box.dG l).bind Hr:=
 eD _ _ _ (λc l=>eD _ _ _ (λp l=>eD _ _ _ (λs l=>eD _ _ _ (λn l=>eD _ _ _ (by grind [eD,xY]) l) l) l) l) l
def tX:E->Option (E×Int×E):=dO dz λs=>dO bG λn=>dO jD λz=>wB (s,n,z)
theorem Tt(l):tX l=(Box.dG l).bind rA:=
 eD _ _ _ (λs l=>eD _ _ _ (λn l=>eD _ _ _ (λz l=>xY (s,n,z) l) l) l) l
theorem O7(t)(i):ik (t,i)=if t.toNat=48 then tX i else none:=by
 grind [Tt,Ap,ik]
def pP(aX:E):NQ:=⟨(pT aX).1,(Q7 aX).1.1,(Q7 aX).1.2,(oY aX).1,(Eb aX).1,Gg aX 0,Gg aX 1,Gg aX 2,Gg aX 3⟩
theorem Xf{α β γ:Type}(x:Option α)(y:Option β)(f:β->α->Option γ):x.bind (λa=>y.bind λb=>f b a)=y.bind λb=>x.bind (f b):=by cases x<;>cases y<;>rfl
theorem Xg{g B w x y A f C:E×Bool}{b:E×(E×Bool)}{a:E}{d:(Int×E)×(E×Bool)}{p v:E}{l m q u:Int}(D:lY g)(J:bC 48 g.1 g.2=b)(hS:fM (b.1,b.2.2)=(a,C))(hZ:jG C=d)(X:bC 4 b.2.1 b.2.2=(p,B))(hV:fM B=(v,w))(T:bO w=(l,x))(U:bO x=(m,y))(V:bO y=(q,A))(W:bO A=(u,f)):
  (st g).bind O6=if ((!d.2.2&&decide (d.2.1=[]))&&(!f.2&&decide (f.1=[])))=true then some ⟨a,d.1.1,d.1.2,p,v,l,m,q,u⟩ else none:=by
 have L:lY (b.1,b.2.2):=λe=>by rw[<-J]at e⊢;exact(pg 48 _ _ D e).1
 have h:lY b.2:=by grind [lY.take]
 have K:lY C:=sr
 have M:lY B:=by grind [lY.take]
 have P:lY w:=sr
 have Q:lY x:=n'
 have R:lY y:=n'
 have S:lY A:=n'
 have k:∀c:E×Int×E,(st b.2).bind (dO jD λp=>dO dz λs=>dO bG λn=>dO bG λt=>dO bG λr=>dO bG λo=>wB (⟨c.1,c.2.1,c.2.2,p,s,n,t,r,o⟩:NQ))=if (!f.2&&decide (f.1=[]))=true then some ⟨c.1,c.2.1,c.2.2,p,v,l,m,q,u⟩ else none:=by
  intro c;rw[Vh h,X,yj M,hV,kM P,T,kM Q,U,kM R,V,kM S,W,xu]
 have e:(st (b.1,b.2.2)).bind tX=if (!d.2.2&&decide (d.2.1=[]))=true then some (a,d.1.1,d.1.2) else none:=by
  unfold tX;rw[yj L,hS,Ki K (λc=>wB (a,c.1,c.2)),hZ,xu]
 unfold O6
 rw[Vi D ik tX O7,J,Xf]
 cases j:b.2.2
 .have i:tX b.1=(st (b.1,b.2.2)).bind tX:=by rw[j];rfl
  rw[i,e];cases n:(!d.2.2&&decide (d.2.1=[]))
  .grind
  .simp only[gO,if_true];exact k (a,d.1.1,d.1.2)
 .have i:(st (b.1,b.2.2))=none:=by rw[j];rfl
  rw[i]at e;have n:(!d.2.2&&decide (d.2.1=[]))=false:=by
   grind
  rw[n];have o:st b.2=none:=by rw[st,dQ j]
  rw[o];simp only[gE,fS,if_false];cases tX b.1<;>rfl
theorem ZS(a):sF a=(st (jq a 12)).bind O6:=by
 rw[<-O3 a 12 Hr O6 aa2];rfl
theorem Xh(b):sF b=if AX b=true then some (pP b) else none:=by
 have i:=ZS b;have h:=Kh b 12;have n:bC 48 (jq b 12).1 (jq b 12).2=YZ b:=rfl;have m:fM ((YZ b).1,(YZ b).2.2)=pT b:=rfl;have q:jG (pT b).2=Q7 b:=rfl;have k:bC 4 (YZ b).2.1 (YZ b).2.2=oY b:=rfl;have o:fM (oY b).2=Eb b:=rfl;have d:bO (Eb b).2=(Gg b 0,iV (Eb b).2 1):=yl _;have e:bO (iV (Eb b).2 1)=(Gg b 1,iV (Eb b).2 2):=og _ 1;have f:bO (iV (Eb b).2 2)=(Gg b 2,iV (Eb b).2 3):=og _ 2;have g:bO (iV (Eb b).2 3)=(Gg b 3,iV (Eb b).2 4):=og _ 3;have j:AX b=((!(Q7 b).2.2&&decide ((Q7 b).2.1=[]))&&(!(iV (Eb b).2 4).2&&decide ((iV (Eb b).2 4).1=[]))):=rfl;have l:pP b=⟨(pT b).1,(Q7 b).1.1,(Q7 b).1.2,(oY b).1,(Eb b).1,Gg b 0,Gg b 1,Gg b 2,Gg b 3⟩:=rfl;generalize iV (Eb b).2 1=s1 at *;generalize iV (Eb b).2 2=s2 at *;generalize iV (Eb b).2 3=s3 at *;generalize iV (Eb b).2 4=s4 at *;generalize Gg b 0=n0 at *;generalize Gg b 1=n1 at *;generalize Gg b 2=n2 at *;generalize Gg b 3=n3 at *;generalize pP b=Q at *;generalize AX b=ok at *;generalize Eb b=qV at *;generalize oY b=qP at *;generalize Q7 b=qZ at *;generalize pT b=qS at *;generalize YZ b=qT at *;generalize jq b 12=q0 at *;obtain⟨a,u⟩:=qS;obtain⟨p,t⟩:=qP;obtain⟨v,r⟩:=qV;rw[i,Xg h n m q k o d e f g,j,l]
def iN(p:Pc)(v:Int):Prop:=bT v/\∀y,bG p.pair=some y->v=y
theorem uR(p)(w)(h:At w p.ad p.ins):Calls prog 68 #[.agg #[.int .u8 (p.tag.toNat:Int),.slice p.ad p.ins.length p.cap]] w λe m=>∃v,e=.returned (.tuple #[Y v,.bool (bG p.pair).isSome])/\iN p v/\w.grownBy m none:=by
 refine(EM p.tag p.ad p.ins p.ins.length p.cap w (I rfl) h).mono ?_
 rintro e m ⟨⟨n,k⟩,f⟩
 unfold iN
 obtain⟨o,a⟩:=aq (bG p.pair)
 rw[a]
 unfold bG at a
 by_cases l:p.tag.toNat=2
 .rw[dQ (by grind [Pc.pair])]at a;cases b:Box.num p.ins with
  |none=>
   obtain⟨v,g,i,j⟩:=k (.inr b);have:o=none:=by rw[<-a];exact b
   subst this;exact⟨v,j,⟨⟨g,i⟩,λy d=>(by cases d)⟩,f⟩
  |some x=>
   have:o=some x:=by rw[<-a];exact b
   subst this;refine⟨x,n x l b,⟨?_,λy d=>(by injection d)⟩,f⟩;exact vz b
 .rw[b' (by grind [Pc.pair])]at a;subst a;obtain⟨v,g,i,j⟩:=k (.inl l);exact⟨v,j,⟨⟨g,i⟩,λy d=>(by cases d)⟩,f⟩
theorem Kf(h:p:=by
 clear h4 HP
 go_in
 go_wp2_with (go_at_call 56;refine(HN _).mono ?_;rintro e w' ⟨rfl,rfl⟩)
 go_quiet (fail)
 go_wp2
 go_ret2
 exact⟨by rw[YT];rfl,aN HG _⟩):p:=h
theorem rO(p:Pc)(w)(h:At w p.ad p.ins)(n:p.ins.length<=140737488355328):Calls prog 96 #[.agg #[.int .u8 (p.tag.toNat:Int),.slice p.ad p.ins.length p.cap]] w λe w'=>e=.returned (.tuple #[.string ⟨p.ins.toArray⟩,.bool (dz p.pair).isSome])/\w.grownBy w' none:=by
 have j:=cy w (.cells #[.int .u8 (p.tag.toNat:Int),.slice p.ad p.ins.length p.cap] 117) none
 have g:=ek (P:=prog) (w.alloc (.cells #[.int .u8 (p.tag.toNat:Int),.slice p.ad p.ins.length p.cap] 117)) 37 9 5 underlying37 underlying5 underlying9 p.ad p.cap p.ins (h.below j)
 have HN:=I (λW=>wQ p.ins p.ins.length ⟨p.ins.toArray⟩ W (I rfl) (I rfl) G)
 have HP:Hid ((dz p.pair).isSome=(dx p.ins&&decide (p.tag.toNat=4))):=by
  show _=_;unfold dz;show(if p.tag.toNat=4/\dx p.ins=true then some p.ins else none).isSome=_;grind
 obtain⟨o,k⟩:=aq ((dz p.pair).isSome)
 rw[k]at HP⊢
 obtain⟨b,i⟩:=aq (dx p.ins)
 rw[i]at HP HN
 have HG:=I j
 obtain⟨t,l⟩:=aq p.tag.toNat
 rw[l]at HP HG g⊢
 obtain⟨r,f⟩:=aq p.ad
 obtain⟨q,a⟩:=aq p.ins
 obtain⟨m,d⟩:=aq p.cap
 rw[f,a,d]at HG g⊢
 rw[a]at HN
 clear j i k l h f a d n
 cases b with
 |false=>
  go_in;go_wp2_with (go_at_call 56;refine(HN _).mono ?_;rintro e w' ⟨rfl,rfl⟩)
  go_quiet (fail)
  go_wp2;go_ret2;exact⟨by rw[HP];rfl,aN HG _⟩
 |true=>
  by_cases h4:t=4
  .have i:((t:Int)==4)=true:=oU;have YT:Hid (o=true):=dT;exact Kf
  .have i:((t:Int)==4)=false:=dT;have YT:Hid (o=false):=dT;exact Kf
def sN:List Pc->List Int->Prop
 | [],[]=>True
 |p::l,v::vs=>iN p v/\sN l vs
 |_,_=>False
theorem sN.length:∀{l:List Pc}{a:List Int},sN l a->a.length=l.length
 | [],[],_=>rfl
 |_::_,_::_,h=>by simp only[de];rw[sN.length h.2]
 | [],_::_,h=>h.elim
 |_::_,[],h=>h.elim
theorem sN.snoc:∀{l:List Pc}{a:List Int}{p:Pc}{v:Int},sN l a->iN p v->sN (l++[p]) (a++[v])
 | [],[],_,_,_,h=>⟨h,trivial⟩
 |_::_,_::_,_,_,h,a=>⟨h.1,sN.snoc h.2 a⟩
 | [],_::_,_,_,h,_=>h.elim
 |_::_,[],_,_,h,_=>h.elim
def tn(x:Int):Value:=Y x
def kD(l:List Pc):Bool:=l.all λp=>(bG p.pair).isSome
theorem Tryz.afB:(prog.info? 2).map (λi=>(i.zero,i.size,i.bytes))=some (some (Y 0),1,8):=by kernel_rfl
theorem XQ{l:List Pc}{a k:Nat}(b:a<=k)(d:k<l.length):(l.drop a).take (k+1-a)=(l.drop a).take (k-a)++[l[k]]:=by
 rw[show k+1-a=(k-a)+1 from by omega,dy (by rw[ef];omega),List.getElem_drop];grind
theorem NS(h:p:=by
 clear HA
 go_wp2_with (at_builtin;refine dN _ rfl _ _ 220 rfl w.1.size 2 i0 _ 1 8 underlying220 hif hz0 hz1 hz2 rfl H _ _ _ rfl (hown1.alloc _) ⟨w1.1.size,0,none⟩ 1 1 [Y v] rfl rfl ?q1 (by intro u hu;simp at hu;rcases hu with rfl;rfl) G ui hll iS ?_)
 case q1=>grind [gX]
 intro v2 w2 hown2 hg2 _
 have G2:=gI (aM G1 _) hg2 (λj hj=>(hown1.lt j hj).1)
 clear hown1 hg2 G1
 go_wp2
 go_roundw
 case rel=>exact⟨k+1,vs++[v],by omega,by omega,by go_num,I (by rw[HA2.o]),HV2,by rw[cF,ej];exact hown2,G2⟩
 case measure=>simp[intOf];omega):p:=h
theorem vP(a b m g c:Nat)(l)(w)(J:Hid (l.length=m))(X:m<=1000)(y:a<=b)(P:b<=m)(h:jT w g l):Calls prog 97 #[ς g 0 m c,Y (a:Int),Y (b:Int)] w λe d=>∃o vs,e=.returned (.tuple #[o,.bool (kD ((l.drop a).take (b-a)))])/\sN ((l.drop a).take (b-a)) vs/\d.ownsRow w.1.size 2 1 o vs.length (vs.map tn)/\w.grownBy d none:=by
 obtain⟨i0,hif,hz0,hz1,hz2⟩:=info_parts Tryz.afB
 go_in
 go_wp2
 go_loopw [8,9,10] (λo ok i wr=>∃(k:Nat) (vs:List Int),a<=k/\k<=b/\i = Y k/\Hid (ok=.bool (kD ((l.drop a).take (k-a))))/\Hid (sN ((l.drop a).take (k-a)) vs)/\wr.ownsRow w.1.size 2 1 o vs.length (vs.map tn)/\w.grownBy wr none) (λ_ _ i _=>b-(intOf i).toNat)
 case atStart=>exact⟨a,[],cA _,y,rfl,by show _=_;rw[ia];rfl,by show sN _ _;rw[ia];trivial,World.ownsRow_nil _ _ _ _,cC _ _⟩
 case round=>
  obtain⟨k,vs,A,R,rfl,B,t,d,i⟩:=hrel;obtain rfl:=B.o;obtain⟨ok,q⟩:=aq (kD ((l.drop a).take (k-a)));rw[q]at B⊢;by_cases S:k<b
  .have V:(k:Int)<(b:Int):=G;have W:k<m:=G;have gN:k<l.length:=(by rw[J];omega);have x:=h.grown i;have C:=x.tag k gN;have D:=x.ins k gN;obtain⟨n,_,_⟩:=x.2 (l[k]) (eh gN);have r:=I (uR (l[k]) wr n);have HS:=I (XQ A gN);obtain⟨p,K⟩:=aq (l[k]);rw[K]at C D r HS;have HA:Hid (kD ((l.drop a).take (k+1-a))=(ok&&(bG p.pair).isSome)):=by
    grind [Hid.o,kD]
   obtain⟨M,f⟩:=aq ((bG p.pair).isSome);rw[f]at r HA;have Q:(0:Int)<=(k:Int):=G;have T:vs.length<=1000:=by
    rw[t.length,ew,ef];have:=J.o;omega
   have ui:vs.length+1<=maxLen:=lA;have hll:(vs.length+1)*8<=140737488355328:=G;clear x n K q B f;go_wp2_with fail;refine r.mono ?_;rintro e w1 ⟨v,rfl,U,f⟩;have hown1:=d.kept f (fm _);have G1:=aa i f;have L:=G1.size;have HV2:Hid (sN ((l.drop a).take (k+1-a)) (vs++[v])):=(by grind [sN.snoc,Hid.o]);clear d f r U t HS C D;cases ok with
   |false=>
    have HA2:Hid (kD ((l.drop a).take (k+1-a))=false):=(by show _=_;rw[HA];rfl);exact NS
   |true=>
    have HA2:Hid (kD ((l.drop a).take (k+1-a))=M):=(by show _=_;rw[HA,gO]);exact NS
  .have f:k=b:=G;subst f;have V:¬ (k:Int)<(k:Int):=G;have e:=t;clear t;go_wp2;go_ret2;exact⟨_,rfl,vs,e,d,i⟩
theorem gY:bT 0:=⟨by decide,by decide⟩
theorem Sn:∀{b:List (UInt8×E)}{p:UInt8×E},p∈b->p.2.length+2<=Box.wt b:=by
 intro b;induction b with
 |nil=>intro p d;simp at d
 |cons a b e=>
  grind [Box.wt]
theorem Box.mq{l:E}{a:List (UInt8×E)}(h:Box.dG l=some a)(p)(b:p∈a):p.2.length<=l.length:=by
 have d:=Box.NM l.length l a (cA _) h;have e:=Sn b;omega
theorem Dh(a)(h:a.length≠2):rz a=none:=by
 unfold rz;match a with
 | []=>rfl
 | [p]=>show(bG p).bind _=none;cases bG p<;>rfl
 | [p,q]=>exact absurd rfl h
 |p::q::r::a=>
  show(bG p).bind _=none;cases bG p with
  |none=>rfl
  |some n=>
   show(jD q).bind _=none;cases jD q<;>rfl
theorem MB(p q):rz [p,q]=(bG p).bind λn=>(jD q).bind λz=>some (n,z):=rfl
theorem ID(h:p:=by
 show(dz p).bind _=none
 cases dz p with
 |none=>rfl
 |some n=>show(bG q).bind _=none;cases bG q<;>rfl):p:=h
theorem Jl(a)(h:a.length≠3):rA a=none:=by
 unfold rA;match a with
 | []=>rfl
 | [p]=>show(dz p).bind _=none;cases dz p<;>rfl
 | [p,q]=>
  exact ID
 | [p,q,r]=>exact absurd rfl h
 |p::q::r::s::a=>
  show(dz p).bind _=none;cases dz p with
  |none=>rfl
  |some n=>
   show(bG q).bind _=none;cases bG q with
   |none=>rfl
   |some z=>show(jD r).bind _=none;cases jD r<;>rfl
theorem P6{α:Type}{l:List α}(h:l.length=2):∃a b,l=[a,b]:=by
 match l,h with
 | [a,b],_=>exact⟨a,b,rfl⟩
theorem GV{α:Type}{l:List α}(h:l.length=3):∃a b c,l=[a,b,c]:=by
 match l,h with
 | [a,b,c],_=>exact⟨a,b,c,rfl⟩
theorem XP.some{w:World}{x:Value}{l:List Pc}(h:XP w x l)(e:l≠[]):∃g c,x=.slice (.some ⟨g,0,.none⟩) l.length c/\jT w g l:=by
 obtain⟨a,c,b,d⟩:=h;grind
def MC(w:World)(o:Option (Option (Int×E)))(n:Int)(z:Value)(there:Bool):Prop:=∀q,o=some q->there=q.isSome/\∀x,q=some x->n=x.1/\xA w z x.2/\x.2.length<=100000
theorem oh(w)(n)(z)(t):MC w none n z t:=λ_ h=>by cases h
theorem BT(h:p:=by
 go_wp2
 ((try simp only[Exit.inBlock,Exit.then]);refine bodyPost_ret (gL rfl _ _ _) rfl ?_)
 exact⟨_,_,_,by rw[HO];rfl,gY,by rw[HO];exact oh _ _ _ _,ku⟩):p:=h
theorem Lk(h:p:=by
 go_wp2_with fail
 go_quiet (fail)
 go_wp2
 ((try simp only[Exit.inBlock,Exit.then]);refine bodyPost_ret (gL rfl _ _ _) rfl ?_)
 exact⟨_,_,_,by rw[I7];rfl,P7.1,by rw[I7];exact oh _ _ _ _,aN HG2 _⟩):p:=h
theorem Vp(p:Pc)(w)(h:At w p.ad p.ins)(g:p.ins.length<=p.cap)(j:p.cap<=maxLen)(d:p.ins.length<=100000):Calls Tryz.prog 98 #[.agg #[.int .u8 (p.tag.toNat:Int),.slice p.ad p.ins.length p.cap]] w λe a=>∃n z t,e=.returned (.tuple #[Y n,z,.bool t,.bool (mO p.pair).isSome])/\bT n/\MC a (mO p.pair) n z t/\w.grownBy a none:=by
 have i:Hid (mO p.pair=match (if p.tag.toNat=48 then Box.dG p.ins else none)with|none=>none|some []=>some none|some D=>(rz D).map some):=rfl
 obtain⟨O,a⟩:=aq (mO p.pair)
 rw[a]at i⊢
 clear a
 have a:=cy w (.cells #[.int .u8 (p.tag.toNat:Int),.slice p.ad p.ins.length p.cap] 117) none
 have b:=I (rM p.ins (.slice p.ad p.ins.length p.cap) _ ⟨p.ad,p.cap,rfl,g,j,h.below a⟩ d)
 have HB:=I (dm.new w #[.int .u8 (p.tag.toNat:Int),.slice p.ad p.ins.length p.cap] 117)
 have f:=I a
 have R:=I d
 clear a h g j d
 obtain⟨W,a⟩:=aq (Box.dG p.ins)
 rw[a]at i b
 have T:=I a
 clear a
 go_enter Tryz.func98,Tryz.ntmps98
 go_wp2_with fail
 refine b.mono ?_
 rintro e J ⟨x,rfl,C,h,a⟩
 clear b
 have ku:=I (aa f a)
 have r:=HB.grown a Z
 have P:=r.cell 0
 simp only[cI,cH]at P
 clear f HB a
 cases W with
 |none=>
  have HO:Hid (O=none):=by
   show _=_;rw[i];split<;>simp_all
  obtain rfl:=h rfl;clear C h i r;simp only[Option.isSome_none];exact BT
 |some D=>
  obtain⟨l,j,d,_⟩:=C D rfl;clear C h r;simp only[du];by_cases B:p.tag.toNat=48
  .have X:((p.tag.toNat:Int) != 48)=false:=tM;rw[dQ B]at i;clear B;by_cases u:l.length=0
   .have a:=eW u;subst a;have HO:Hid (O=some none):=by
     show _=_;rw[i,<-d];rfl
    obtain⟨M,c,rfl,_⟩:=j;clear i d u;simp only[List.length_nil];go_wp2;((try simp only[Exit.inBlock,Exit.then]);refine bodyPost_ret (gL rfl _ _ _) rfl ?_);exact⟨_,_,_,by rw[HO];rfl,gY,by rw[HO];exact λq f=>by injection f with f;subst f;exact⟨rfl,λx A=>by cases A⟩,ku⟩
   .by_cases h:l.length=2
    .obtain⟨k,a,rfl⟩:=P6 h;have HO:Hid (O=((bG k.pair).bind λn=>(jD a.pair).bind λz=>some (n,z)).map some):=by
      show _=_;rw[i,<-d];rfl
     obtain⟨g,c,rfl,b⟩:=j.some Z;have U:J.c g 0=some (.int .u8 (k.tag.toNat:Int)):=b.tag 0 Z;have V:J.c g 1=some (.slice k.ad k.ins.length k.cap):=b.ins 0 Z;have L:=I b;have y:=I (uR k J (b.2 k Z).1);have Q:Hid (a.ins.length<=100000):=by
      have f:=T.o;rw[<-d]at f;exact cE (Box.mq f (a.tag,a.ins) (by simp[Pc.pair])) R.o
     obtain⟨N,m⟩:=aq (bG k.pair);unfold iN at y;rw[m]at y HO;clear i d u h j b m;simp only[de,List.length_nil];go_wp2_with fail;refine y.mono ?_;rintro e K ⟨v,rfl,j,t⟩;have b:=L.grown t;have d2:K.c g 2=some (.int .u8 (a.tag.toNat:Int)):=b.tag 1 Z;have d3:K.c g 3=some (.slice a.ad a.ins.length a.cap):=b.ins 1 Z;have S:Hid (∀m,xA (K.drewN m) (.slice a.ad a.ins.length a.cap) a.ins):=λm=>⟨a.ad,a.cap,rfl,(b.2 a Z).2.1,(b.2 a Z).2.2,(b.2 a Z).1.drewN m⟩
     have HG2:=I (aa ku t);have P7:=I j;clear y L b t j ku P U V;cases N with
     |none=>
      have I7:Hid (O=none):=HO.o;clear HO;simp only[Option.isSome_none];exact Lk
     |some y=>
      have t:=P7.2 y rfl;subst t;simp only[du];by_cases b:a.tag.toNat=4
      .have m:((a.tag.toNat:Int)==4)=true:=oU;have I7:Hid (O=some (some (v,a.ins))):=by
        show _=_;rw[HO];show Option.map some (Option.bind (if a.tag.toNat=4 then some a.ins else none) _)=_;rw[dQ b];rfl
       clear HO b;go_wp2_with fail;go_quiet (fail)
       go_wp2;((try simp only[Exit.inBlock,Exit.then]);refine bodyPost_ret (gL rfl _ _ _) rfl ?_);exact⟨_,_,_,by rw[I7];rfl,P7.1,by rw[I7];exact λq f=>by injection f with f;subst f;exact⟨rfl,λx A=>by injection A with A;subst A;exact⟨rfl,S _,Q⟩⟩,aN HG2 _⟩
      .have m:((a.tag.toNat:Int)==4)=false:=mC;have I7:Hid (O=none):=by
        show _=_;rw[HO];show Option.map some (Option.bind (if a.tag.toNat=4 then some a.ins else none) _)=_;rw[b' b];rfl
       clear HO b;exact Lk
    .have HO:Hid (O=none):=by
      show _=_;rw[i,<-d];have g:=Dh (l.map Pc.pair) (by rw[cU];exact h);cases f:l.map Pc.pair with
      |nil=>rw[List.map_eq_nil_iff]at f;subst f;exact absurd rfl u
      |cons a b=>
       rw[f]at g;show Option.map some (rz (a::b))=none;rw[g];rfl
     obtain⟨M,c,rfl,_⟩:=j;obtain⟨n,a⟩:=aq l.length;rw[a]at u h⊢;have b:((n:Int) != 0)=true:=pC;have f:((n:Int) != 2)=true:=pC;clear i d u h a;exact BT
  .have X:((p.tag.toNat:Int) != 48)=true:=pC;have HO:Hid (O=none):=by
    show _=_;rw[i,b' B]
   obtain⟨M,c,rfl,_⟩:=j;clear i d B;exact BT
