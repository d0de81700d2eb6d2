import Derived.Test.YtlfifnpjeangmaaGreatDoorGEPReadA
namespace Go.Proofs.YtlfifnpjeangmaaGreatDoor
set_option maxHeartbeats 1000000
open Proofs.Tryz Go.RowKit
set_option maxRecDepth 100000
variable {p:Prop}
def dD(key use:UInt64)(z:E):E:=if 16<=z.length/\z.length<=216/\Pure.opens key use z=true then Pure.eO key use z else []
def Ep(w w':World)(p:Option Pl)(e:Ending)(l:E):Prop:=∃a c,e=.returned (.slice a l.length c)/\l.length<=c/\c<=9223372036854775807/\l.length<=200/\At w' a l/\CF w w' (Pl.has p)/\∀g,g<w.1.size->Pl.blk p≠some g->iR (a,l) g
theorem Ep.nil{w a:World}{p:Option Pl}(c:CF w a (Pl.has p)):Ep w a p (.returned σ) []:=⟨none,0,rfl,by simp,by decide,by simp,At.nil _ _,c,λg _ _ q=>by simp at q⟩
theorem Az(v)(p)(K)(a d)(x)(l)(z)(n i)(w)(q:f' w v p K)(C:o0 x=true)(Q:Hid (x=d.toNat))(hn:Hid (z.length=n))(m:n<=i)(r:At w l z)(f:∀b h,l=some ⟨b,h,none⟩->∀j,j<z.length->¬ Pl.has p b (h+j)):Calls prog 235 #[v,H (a.toNat:Int),Y x,.slice l n i] w λe y=>Ep w y p e (dD a d z):=by
 by_cases g:n<16\/216<n
 .have k:Hid (dD a d z=[]):=by show _=_;rw[dD,cZ kA]
  have u:=I (TI v (a.toNat:Int) x l n i w C g);clear q r f g;go_in;go_wp2_with (go_at_call 84;refine u.mono ?_;rintro e y ⟨rfl,rfl⟩)
  go_ret;rw[k];exact Ep.nil (CF.refl _ _)
 .have u:=I (Xc v p K a d x l z n i w q C Q hn G G m r f);have j:16<=z.length/\z.length<=216:=ri;clear q r f g;cases f:Pure.opens a d z
  .have k:Hid (dD a d z=[]):=(by show _=_;rw[dD,cZ fA]);have A:=I f;clear f;go_in;go_wp2_with (go_at_call 84;refine u.mono ?_;rintro e y ⟨_,q⟩;obtain⟨rfl,g⟩:=q A)
   go_ret;rw[k];exact Ep.nil g
  .have k:Hid (dD a d z=Pure.eO a d z):=(by show _=_;rw[dD,dT ⟨j.1,j.2,f⟩]);have L:Hid ((Pure.eO a d z).length<=200):=(by show _<=_;rw[Pure.kY];omega);have A:=I f;clear f;go_in;go_wp2_with (go_at_call 84;refine u.mono ?_;rintro e y ⟨U,_⟩;obtain⟨X,rfl,J⟩:=U A.o;obtain⟨W,D,_,r,_⟩:=id J;obtain⟨B,M,rfl,R,S,T,_⟩:=D.shape)
   go_ret;rw[k];refine⟨B,M,rfl,R,S,L,T,J.cf,λg t P V b h e q=>?_⟩;have e:B=some ⟨b,h,none⟩:=e;subst e;rcases D with⟨_,h,_⟩|⟨t,b,g,_⟩
   .cases h
   .injection g with e1 _ _;injection e1 with e1;injection e1 with e1 _ _;rcases r with r|r
    .exact P (by rw[<-r,b];exact congrArg some (e1.symm.trans q))
    .have:=r t b;omega
def rT(s:E×Bool):UInt64×(E×Bool):=
 (Pure.joinL 0 (bC 4 s.1 s.2).1,if (bC 4 s.1 s.2).1.length=8 then(bC 4 s.1 s.2).2 else([],true))
theorem UA(S)(g)(s)(w)(b:At w S.1 S.2)(d:iR S g)(h:Rd w S g s.1 s.2):Calls prog 241 #[π g 0] w λe a=>e=.returned (H ((rT s).1.toNat:Int))/\Rd a S g (rT s).2.1 (rT s).2.2/\CF w a (JP g):=by
 have f:=I (zL S g s.1 s.2 w b h)
 obtain⟨q,a⟩:=N (bC 4 s.1 s.2)
 have m:Hid (rT s=(Pure.joinL 0 q.1,if q.1.length=8 then q.2 else([],true))):=by show _=_;rw[rT,a]
 rw[a]at f
 have HS:=I (dN b d)
 clear h b d a
 go_in
 go_wp2_with fail
 refine f.mono ?_
 rintro e u ⟨v,rfl,b,j,h⟩
 obtain⟨p,r,rfl,_⟩:=id b
 have a:=iR.at HS.1 h.yz (λ_ e=>e▸HS.2)
 have o:=b.at a
 obtain⟨ok,t⟩:∃ok:Bool,(((q.1.length:Int)==8)=ok):=⟨_,rfl⟩
 have i:=I (uf S g _ _ ok u j)
 have l:=I h
 have HB:=I (λ(W:World) (k:At W S.1 S.2)=>(b.at k).2.2.2)
 have n:Hid (∀W,Rd W S g (if ok=true then q.2.1 else []) (if ok=true then q.2.2 else true)->Rd W S g (rT s).2.1 (rT s).2.2):=by
  intro W k;grind [Hid.o]
 have d:=I a
 clear f b j h a o
 go_wp2_with fail
 refine i.mono ?_
 rintro e b ⟨rfl,h,f⟩
 have a:=iR.at d f.yz (λ_ e=>e▸HS.2)
 have k:=I (K7 0 q.1 p r b (HB b a).1 (HB b a).2)
 have j:=I (l.o.trans f (λ_ _ _ e=>e))
 have o:=I (n b h)
 clear h f a i
 go_wp2_with fail
 refine k.mono ?_
 rintro e a ⟨rfl,rfl⟩
 go_wp2
 go_ret
 exact⟨by rw[m];rfl,o,j⟩
theorem uv(h:p:=by rw[bC,hc];simp only[e,if_false]):p:=h
theorem ur(h:p:=by rw[bC,hc];simp only[e,if_true]):p:=h
def st(s:E×Bool):Option E:=if s.2=true then none else some s.1
def kW(s:E×Bool):Prop:=s.2=true->s.1=[]
theorem Sf:Box.cut []=none:=by
 grind [Box.cut]
theorem oI(a)(f):bC a [] f=([],[],true):=by rw[bC,Sf]
theorem kW.take{s:E×Bool}(h:kW s)(a):kW (bC a s.1 s.2).2:=λe=>(oG a s.1 s.2 h e).2
theorem kW.step{s:E×Bool}(h:kW s):kW (bM s).2:=IE h
theorem kW.name{s:E×Bool}(h:kW s):kW (fJ s).2:=by
 unfold fJ;simp only;split
 .exact h.take 4
 .exact λ_=>rfl
variable {β:Type}
theorem xe{s:E×Bool}(h:kW s)(k:E->E->Option β):(st s).bind (dL dm k)=(st (fJ s).2).bind (k (fJ s).1):=by
 obtain⟨l,f⟩:=s;cases f
 .cases hc:Box.cut l with
  |none=>
   have a:bC 4 l false=([],[],true):=(by rw[bC,hc]);simp[st,dL,hc,fJ,a]
  |some q=>
   obtain⟨t,i,r⟩:=q;by_cases e:t.toNat=4
   .have a:bC 4 l false=(i,r,false):=ur;cases b:di i<;>simp[st,dL,hc,fJ,a,dm,e,b]
   .have a:bC 4 l false=([],[],true):=uv;simp[st,dL,hc,fJ,a,dm,e]
 .have b:l=[]:=h rfl;subst b;simp[st,fJ,oI]
theorem ky{s:E×Bool}(h:kW s)(k:Int->E->Option β):(st s).bind (dL bG k)=(st (bM s).2).bind (k (bM s).1):=by
 obtain⟨l,f⟩:=s;cases f
 .cases a:Box.cut l with
  |none=>
   grind [bC,st,dL,bM]
  |some q=>
   grind [dL,bC,bM,bG,st]
 .have b:l=[]:=h rfl;grind [oI,st,bM]
theorem SF{s:E×Bool}(h:kW s)(k:E->E->Option β):(st s).bind (dL jq k)=(st (bC 4 s.1 s.2).2).bind (k (bC 4 s.1 s.2).1):=by
 obtain⟨l,f⟩:=s;cases f
 .cases hc:Box.cut l with
  |none=>
   have a:bC 4 l false=([],[],true):=(by rw[bC,hc]);simp[st,dL,hc,a]
  |some q=>
   obtain⟨t,i,r⟩:=q;by_cases e:t.toNat=4
   .have a:bC 4 l false=(i,r,false):=ur;simp[st,dL,hc,a,jq,e]
   .have a:bC 4 l false=([],[],true):=uv;simp[st,dL,hc,a,jq,e]
 .have b:l=[]:=h rfl;subst b;simp[st,oI]
theorem SG{α:Type}{s:E×Bool}(h:kW s)(f:qG->Option α)(c:E->Option α)(b:∀t i,f (t,i)=if t.toNat=48 then c i else none)(k:α->E->Option β):
  (st s).bind (dL f k)=(st (bC 48 s.1 s.2).2).bind (λr=>(c (bC 48 s.1 s.2).1).bind λa=>k a r):=by
 obtain⟨l,d⟩:=s
 cases d
 .cases hc:Box.cut l with
  |none=>
   have a:bC 48 l false=([],[],true):=(by rw[bC,hc]);simp[st,dL,hc,a]
  |some q=>
   obtain⟨t,i,r⟩:=q;by_cases e:t.toNat=48
   .have a:bC 48 l false=(i,r,false):=ur;simp[st,dL,hc,a,b,e]
   .have a:bC 48 l false=([],[],true):=uv;simp[st,dL,hc,a,b,e]
 .have g:l=[]:=h rfl;subst g;simp[st,oI]
theorem vW(s)(b:β):(st s).bind (vw b)=if (!s.2&&decide (s.1=[]))=true then some b else none:=by
 grind [vw,st]
theorem zO(a):lq a=(st (bO a)).bind Box.dF:=by
 grind [bC,st,bO,lq]
theorem uL(a):kW (bO a):=mo a
theorem IJ(b)(a):kW (jf b a):=yA b a
theorem MJ(b)(a)(f:List qG->Option β)(k:E->Option β)(e:∀l,k l=(Box.dF l).bind f):
  (if b.length<=300 then(lq b).bind (bY bG λn=>if n=a then f else λ_=>none) else none)=(st (jf b a)).bind k:=by
 have d:(lq b).bind (bY bG λn=>if n=a then f else λ_=>none)=(st (bO b)).bind (dL bG λn=>if n=a then k else λ_=>none):=by
  rw[zO,Option.bind_assoc];congr 1;grind [XT,ek]
 grind [ky,uL,st,jf]
def JU:E->Option (Int×E):=dL bG λn=>dL jq λz=>vw (n,z)
theorem Qw(l):JU l=(Box.dF l).bind qH:=
 ek _ _ _ (λn l=>ek _ _ _ (λz l=>wW (n,z) l) l) l
theorem IK{s:E×Bool}(h:kW s)(k:Int×E->E->Option β):(st s).bind (dL bG λn=>dL jq λz=>k (n,z))=(st (jd s).2).bind (k (jd s).1):=by
 rw[ky h,SF h.step];rfl
theorem kW.anr{s:E×Bool}(h:kW s):kW (jd s).2:=h.step.take 4
def MK(i:E):Option (Option (Int×E)):=if i=[] then some none else(JU i).map some
theorem YA(t)(i):mi (t,i)=if t.toNat=48 then MK i else none:=by
 unfold mi zu MK;by_cases e:t.toNat=48
 .simp only[e,if_true];by_cases d:i=[]
  .subst d;rw[dT rfl,Box.wR rfl]
  .rw[cZ d,Qw];cases a:Box.dF i with
   |none=>rfl
   |some g=>
    cases g with
    |nil=>
     exfalso;cases b:Box.cut i with
     |none=>rw[Box.og (fX.2 d) b]at a;cases a
     |some q=>
      obtain⟨k,j,h⟩:=q;rw[Box.qY b]at a;cases f:Box.dF h with
      |none=>rw[f]at a;cases a
      |some z=>rw[f]at a;simp at a
    |cons p g=>rfl
 .simp only[e,if_false]
theorem m9(h:p:=by grind [kW.step]):p:=h
theorem sd(h:p:=by grind [kW.name]):p:=h
def YB:List qG->Option FQ:=bY dm λc=>bY dm λs=>bY bG λn=>bY bG λf=>bY bG λt=>bY bG λr=>bY bG λo=>bY mi λp=>xE ⟨c,s,n,f,t,r,o,p⟩
def Et:E->Option FQ:=dL dm λc=>dL dm λs=>dL bG λn=>dL bG λf=>dL bG λt=>dL bG λr=>dL bG λo=>dL mi λp=>vw ⟨c,s,n,f,t,r,o,p⟩
theorem UF(l):Et l=(Box.dF l).bind YB:=
 ek _ _ _ (λc l=>ek _ _ _ (λs l=>ek _ _ _ (λn l=>ek _ _ _ (λf l=>ek _ _ _ (by grind [ek,wW]) l) l) l) l) l
theorem Qx{g h i j k l f:E×Bool}{a b:E}{m:E×Bool}{q t u v w:Int}{d:E×(E×Bool)}(M:kW g)(P:fJ g=(a,m))(Q:fJ m=(b,h))(C:bM h=(q,i))(D:bM i=(t,j))(J:bM j=(u,k))(K:bM k=(v,l))(L:bM l=(w,f))(o:bC 48 f.1 f.2=d):
  kW (d.1,d.2.2)/\(st g).bind Et=(st d.2).bind (λr=>(MK d.1).bind λp=>vw ⟨a,b,q,t,u,v,w,p⟩ r):=by
 have B:kW m:=sd
 have p:kW h:=sd
 have r:kW i:=m9
 have x:kW j:=m9
 have y:kW k:=m9
 have A:kW l:=m9
 have n:kW f:=m9
 refine⟨λe=>?_,?_⟩
 .rw[<-o]at e⊢;exact(oG 48 _ _ n e).1
 .unfold Et;rw[xe M,P,xe B,Q,ky p,C,ky r,D,ky x,J,ky y,K,ky A,L,SG n mi MK YA,o]
def SH(aX:E):FQ:=⟨(pB aX).1,(Ay aX).1,Ah aX 0,Ah aX 1,Ah aX 2,Ah aX 3,Ah aX 4,if (Cs aX).1=[] then none else some (FM aX).1⟩
theorem nO(s)(k):bM (iO s k)=((bM (iO s k)).1,iO s (k+1)):=rfl
theorem xh(s):bM s=((bM (iO s 0)).1,iO s 1):=rfl
theorem YC(a):nE a=(st (jf a 10)).bind Et:=by
 rw[<-MJ a 10 YB Et UF];rfl
theorem Qy(d):nE d=if uJ d=true then some (SH d) else none:=by
 have m:=YC d;have t:=IJ d 10;have n:fJ (jf d 10)=pB d:=rfl;have o:fJ (pB d).2=Ay d:=rfl;have g:bM (Ay d).2=(Ah d 0,iO (Ay d).2 1):=xh _;have h:bM (iO (Ay d).2 1)=(Ah d 1,iO (Ay d).2 2):=nO _ 1;have i:bM (iO (Ay d).2 2)=(Ah d 2,iO (Ay d).2 3):=nO _ 2;have l:bM (iO (Ay d).2 3)=(Ah d 3,iO (Ay d).2 4):=nO _ 3;have j:bM (iO (Ay d).2 4)=(Ah d 4,iO (Ay d).2 5):=nO _ 4;have f:bC 48 (iO (Ay d).2 5).1 (iO (Ay d).2 5).2=Cs d:=rfl;have k:FM d=if (Cs d).1=[] then((0,[]),((Cs d).1,(Cs d).2.2)) else jd ((Cs d).1,(Cs d).2.2):=rfl;have q:uJ d=((!(FM d).2.2&&decide ((FM d).2.1=[]))&&(!(Cs d).2.2&&decide ((Cs d).2.1=[]))):=rfl;have r:SH d=⟨(pB d).1,(Ay d).1,Ah d 0,Ah d 1,Ah d 2,Ah d 3,Ah d 4,if (Cs d).1=[] then none else some (FM d).1⟩:=rfl;generalize iO (Ay d).2 1=s1 at *;generalize iO (Ay d).2 2=s2 at *;generalize iO (Ay d).2 3=s3 at *;generalize iO (Ay d).2 4=s4 at *;generalize iO (Ay d).2 5=s5 at *;generalize Ah d 0=n0 at *;generalize Ah d 1=n1 at *;generalize Ah d 2=n2 at *;generalize Ah d 3=n3 at *;generalize Ah d 4=n4 at *;generalize SH d=Q at *;generalize uJ d=ok at *;generalize FM d=P at *;generalize Cs d=C at *;generalize Ay d=qB at *;generalize pB d=qA at *;generalize jf d 10=q0 at *;obtain⟨a,v⟩:=qA;obtain⟨b,u⟩:=qB;obtain⟨p,e⟩:=Qx t n o g h i l j f;rw[m,e,q,r];clear e n o g h i l j f m q r;by_cases e:C.1=[]
 .rw[dT e]at k⊢;have f:MK C.1=some none:=by rw[MK,dT e]
  have g:((!P.2.2&&decide (P.2.1=[]))&&(!C.2.2&&decide (C.2.1=[])))=(!C.2.2&&decide (C.2.1=[])):=by
   rw[k];simp only[e,decide_true,fW];cases C.2.2<;>simp
  rw[f,g,<-vW];rfl
 .rw[cZ e]at k⊢;have i:C.2.2=false:=by
   cases h:C.2.2
   .rfl
   .exact absurd (p h) e
  have f:MK C.1=if (!P.2.2&&decide (P.2.1=[]))=true then some (some P.1) else none:=by
   have g:JU C.1=(st (C.1,C.2.2)).bind (dL bG λn=>dL jq λz=>vw (n,z)):=(by rw[i];rfl);rw[MK,cZ e,g,IK p (λa=>vw a),<-k,vW];split<;>rfl
  rw[f];cases g:(!P.2.2&&decide (P.2.1=[]))
  .simp only[gj,fL,if_false];cases st C.2<;>rfl
  .simp only[gn,if_true];rw[<-vW];rfl
set_option maxHeartbeats 2000000
variable {w W W':World}{ex:Nat->Nat->Prop}{S:lR}{g g' fb:Nat}{s s':E×Bool}{cs cs':Array Value}
theorem RS.beside{d:List (Nat×Nat)}(h:RS w W ex S g s fb cs)(a:RS w W' ex S g' s' fb cs')(c:CF W W' (re g' d))(f:∀p∈d,p.1=fb)(b:g≠g'):RS w W' ex S g s fb cs':=by
 refine⟨h.rd.keep (c.block g h.rd.lt (λo e=>?_)),a.blk,a.cf,a.src,h.ng,a.nf,a.hf,h.hg,h.ne⟩;rcases e with e|e
 .exact b e
 .exact h.ne (f _ e).symm
def YD(W:World)(g:Nat)(c0 c1 c2 c3 c4 c5 c6 c7 c8:Value):World:=(((((((((W.setCell (F g 0) c0).setCell (F g 1) c1).setCell (F g 2) c2).setCell (F g 3) c3).setCell (F g 4) c4).setCell (F g 5) c5).setCell (F g 6) c6).setCell (F g 7) c7).setCell (F g 8) c8)
theorem Tryz.ML:(prog.info? 276).map (·.size)=some 9:=by kernel_rfl
theorem dz.nine{w:World}{g:Nat}{a b d e f i j k l:Value}(h:dz w g #[a,b,d,e,f,i,j,k,l]):w.cell? (F g 0)=some a/\w.cell? (F g 1)=some b/\w.cell? (F g 2)=some d/\w.cell? (F g 3)=some e/\w.cell? (F g 4)=some f/\w.cell? (F g 5)=some i/\w.cell? (F g 6)=some j/\w.cell? (F g 7)=some k/\w.cell? (F g 8)=some l:=⟨h.cell 0,h.cell 1,h.cell 2,h.cell 3,h.cell 4,h.cell 5,h.cell 6,h.cell 7,h.cell 8⟩
theorem RS.YD{n o p q r t u v x:Value}(h:RS w W ex S g s fb #[n,o,p,q,r,t,u,v,x])(a b d e f i j l m):RS w (YD W fb a b d e f i j l m) ex S g s fb #[a,b,d,e,f,i,j,l,m]:=by
 have k:=((((((((h.store 0 a).store 1 b).store 2 d).store 3 e).store 4 f).store 5 i).store 6 j).store 7 l).store 8 m;exact vq
theorem RS.YE{a b d e f i j k l:Value}(h:RS w W ex S g s fb #[a,b,d,e,f,i,j,k,l]):(loadVar 276 ⟨fb,0,none⟩).run prog W=.ok (.agg #[a,b,d,e,f,i,j,k,l]) W:=h.blk.load 276 _ underlying276 rfl Tryz.ML
def Wz(aX:E):E×(E×Bool):=bC 48 (jf aX 12).1 (jf aX 12).2
def pA(aX:E):E×(E×Bool):=fJ ((Wz aX).1,(Wz aX).2.2)
def O3(aX:E):(Int×E)×(E×Bool):=jd (pA aX).2
def YF(aX:E):E×(E×Bool):=bC 4 (Wz aX).2.1 (Wz aX).2.2
def Ct(aX:E):E×(E×Bool):=fJ (YF aX).2
def Eu(aX:E)(j:Nat):Int:=(bM (iO (Ct aX).2 j)).1
def zP(aX:E):Bool:=(!(O3 aX).2.2&&decide ((O3 aX).2.1=[]))&&(!(iO (Ct aX).2 4).2&&decide ((iO (Ct aX).2 4).1=[]))
abbrev zQ:Array Value:=#[ε,Y 0,σ,σ,ε,Y 0,Y 0,Y 0,Y 0]
def AA(aX:E)(v u:Value):List Value:=[.string ⟨(pA aX).1.toArray⟩,Y (O3 aX).1.1,v,u,.string ⟨(Ct aX).1.toArray⟩,Y (Eu aX 0),Y (Eu aX 1),Y (Eu aX 2),Y (Eu aX 3)]
theorem ID(h:p:=by
 go_wp2
 refine bodyPost_ret (aG results139 _ _ _ w.1.size rfl _ HZ.YE) rfl ⟨_,by rw[qf];rfl,λe=>(by rw[qf]at e;cases e),⟨rfl,rfl⟩,HZ.cf.gb (λ_ _ _ e=>e)⟩):p:=h
theorem JV(S)(b)(n)(ao)(D)(w)(L:Hid (b.length=n))(K:At w S.1 S.2)(h:Bs S (.slice ao n D) b):Calls prog 139 #[.slice ao n D] w λe a=>∃cs,e=.returned (.tuple #[.agg cs,.bool (zP b)])/\(zP b=true->∃v u,cs=(AA b v u).toArray/\Bs S v (O3 b).1.2/\Bs S u (YF b).1)/\(cs.size=9/\cs.toList.all (·.oneCell')=true)/\w.grownBy a none:=by
 have d:=cx w (.cells zQ 276) none
 have M:(w.alloc (.cells zQ 276)).1.size=w.1.size+1:=cF _ _
 have k:=I (IC S b n ao D 12 _ L (K.below d) h)
 have HB0:=I (dN (dz.new w zQ 276) d)
 have dZ:=I K
 have hbad:=yA b 12
 obtain⟨t,g⟩:=aq (jf b 12)
 obtain⟨f,y⟩:=aq (bC 48 t.1 t.2)
 obtain⟨i,x⟩:=aq (fJ (f.1,f.2.2))
 obtain⟨a,J⟩:=aq (jd i.2)
 obtain⟨l,r⟩:=aq (bC 4 f.2.1 f.2.2)
 obtain⟨m,A⟩:=aq (fJ l.2)
 obtain⟨N,q⟩:∃N:Nat->Int,∀j,(bM (iO m.2 j)).1=N j:=⟨_,λ_=>rfl⟩
 obtain⟨V,p⟩:=aq (iO m.2 4)
 have T:Hid (Wz b=f):=by show _=_;rw[Wz,g,y]
 have R:Hid (pA b=i):=by show _=_;rw[pA,T,x]
 have C:Hid (O3 b=a):=by show _=_;rw[O3,R,J]
 have Q:Hid (YF b=l):=by show _=_;rw[YF,T,r]
 have B:Hid (Ct b=m):=by show _=_;rw[Ct,Q,A]
 have Qu:Hid (∀j,Eu b j=N j):=λj=>by rw[Eu,B,q]
 have Yx:Hid (zP b=((!a.2.2&&decide (a.2.1=[]))&&(!V.2&&decide (V.1=[])))):=by show _=_;rw[zP,C,B,p]
 have u:=I (dN y (dN x (dN J (dN r (dN A (dN q p))))))
 rw[g]at k hbad
 clear K h d g y x J r A q p L
 go_in
 go_wp2_with fail
 refine k.mono ?_
 rintro e w1 ⟨v,rfl,b1,g1⟩
 obtain⟨a1,c1,rfl,_⟩:=id b1
 have d:RS w (w1.alloc (.cells #[.slice a1 t.1.length c1,.bool t.2] 314)) (λ_ _=>False) S w1.1.size t w.1.size zQ:=by
  exact IH
 have g:=I (El S w1.1.size t.1 t.2 _ d.src d.rd)
 have h:=I (oG 48 t.1 t.2 hbad)
 rw[u.1]at g h
 have H1:=I d
 clear b1 g1 HB0 k d hbad M
 go_wp2_with fail
 refine g.mono ?_
 rintro e k ⟨v2,rfl,J,L,K⟩
 obtain⟨aT,cT,rfl,_⟩:=id J
 have x:=H1.read K L
 have M:=x.size
 have r:=Rd.new (w:=k) J (λe=>(h e).1) 314
 have A:=I (iR.new x.src (cy k.1.size))
 have q:=x.alloc (.cells #[.slice aT f.1.length cT,.bool f.2.2] 314)
 have d:RS w (k.alloc (.cells #[.slice aT f.1.length cT,.bool f.2.2] 314)) (λ_ _=>False) S k.1.size (f.1,f.2.2) w.1.size zQ:=⟨r,q.blk,q.cf,q.src,A,q.nf,cy _,by omega,by omega⟩
 have p:=I (oH S k.1.size (f.1,f.2.2) _ d.src d.ng d.rd)
 rw[u.2.1]at p
 have y:=I (dN q d)
 have zz:w.1.size<k.1.size/\w1.1.size<k.1.size:=G
 clear J L K g H1 h x q d r M
 go_wp2_with fail
 refine p.mono ?_
 rintro e w4 ⟨rfl,J,r⟩
 have g:=y.1.other r A G G G
 have q:=y.2.read r J
 obtain⟨⟨d4,X⟩,UE⟩:=g.slot 0 (by show 0<9;decide)
 have h:RS w (w4.setCell (F w.1.size 0) (.string ⟨i.1.toArray⟩)) (λ_ _=>False) S w1.1.size f.2 w.1.size #[.string ⟨i.1.toArray⟩,Y 0,σ,σ,ε,Y 0,Y 0,Y 0,Y 0]:=g.store 0 _
 have d:RS w (w4.setCell (F w.1.size 0) (.string ⟨i.1.toArray⟩)) (λ_ _=>False) S k.1.size i.2 w.1.size #[.string ⟨i.1.toArray⟩,Y 0,σ,σ,ε,Y 0,Y 0,Y 0,Y 0]:=q.store 0 _
 have x:=I (zN S k.1.size i.2 _ d.src d.ng d.rd)
 rw[u.2.2.1]at x
 have K:=I (dN h d)
 clear J r p y g q h d
 go_wp2_with fail
 refine x.mono ?_
 rintro e w5 ⟨v5,rfl,y,r5,M⟩
 obtain⟨q,r,rfl,_⟩:=id y
 have h:=K.1.other M A G G G
 have d:=K.2.read M r5
 obtain⟨⟨d5,ab⟩,af⟩:=h.slot 1 (by show 1<9;decide)
 obtain⟨⟨ai,W⟩,U⟩:=h.slot 2 (by show 2<9;decide)
 have g:RS w ((w5.setCell (F w.1.size 1) (Y a.1.1)).setCell (F w.1.size 2) (.slice q a.1.2.length r)) (λ_ _=>False) S w1.1.size f.2 w.1.size #[.string ⟨i.1.toArray⟩,Y a.1.1,.slice q a.1.2.length r,σ,ε,Y 0,Y 0,Y 0,Y 0]:=(h.store 1 _).store 2 _
 have p:RS w ((w5.setCell (F w.1.size 1) (Y a.1.1)).setCell (F w.1.size 2) (.slice q a.1.2.length r)) (λ_ _=>False) S k.1.size a.2 w.1.size #[.string ⟨i.1.toArray⟩,Y a.1.1,.slice q a.1.2.length r,σ,ε,Y 0,Y 0,Y 0,Y 0]:=(d.store 1 _).store 2 _
 have P:=I y
 have L:=I (zL S w1.1.size f.2.1 f.2.2 _ g.src g.rd)
 rw[u.2.2.2.1]at L
 have J:=I (dN g p)
 clear r5 M y x K h d g p X UE
 go_wp2_with fail
 refine L.mono ?_
 rintro e w6 ⟨v6,rfl,X,r6,f6⟩
 obtain⟨x,y,rfl,_⟩:=id X
 have g:=J.1.read f6 r6
 have p:=J.2.other f6 J.1.ng G (λe=>J.1.ne e.symm) J.1.hg
 obtain⟨⟨d6,ad⟩,ag⟩:=g.slot 3 (by show 3<9;decide)
 have d:RS w (w6.setCell (F w.1.size 3) (.slice x l.1.length y)) (λ_ _=>False) S w1.1.size l.2 w.1.size #[.string ⟨i.1.toArray⟩,Y a.1.1,.slice q a.1.2.length r,.slice x l.1.length y,ε,Y 0,Y 0,Y 0,Y 0]:=g.store 3 _
 have h:RS w (w6.setCell (F w.1.size 3) (.slice x l.1.length y)) (λ_ _=>False) S k.1.size a.2 w.1.size #[.string ⟨i.1.toArray⟩,Y a.1.1,.slice q a.1.2.length r,.slice x l.1.length y,ε,Y 0,Y 0,Y 0,Y 0]:=p.store 3 _
 have M:=I X
 have SE:=I (oH S w1.1.size l.2 _ d.src d.ng d.rd)
 rw[u.2.2.2.2.1]at SE
 have K:=I (dN d h)
 clear r6 f6 X L J g p d h ab af W U
 go_wp2_with fail
 refine SE.mono ?_
 rintro e w7 ⟨rfl,r7,f7⟩
 have d:=K.1.read f7 r7
 have h:=K.2.other f7 K.1.ng G (λe=>K.1.ne e.symm) K.1.hg
 obtain⟨⟨d7,ae⟩,ah⟩:=d.slot 4 (by show 4<9;decide)
 have J:RS w (w7.setCell (F w.1.size 4) (.string ⟨m.1.toArray⟩)) (λ_ _=>False) S w1.1.size m.2 w.1.size #[.string ⟨i.1.toArray⟩,Y a.1.1,.slice q a.1.2.length r,.slice x l.1.length y,.string ⟨m.1.toArray⟩,Y 0,Y 0,Y 0,Y 0]:=d.store 4 _
 have W:RS w (w7.setCell (F w.1.size 4) (.string ⟨m.1.toArray⟩)) (λ_ _=>False) S k.1.size a.2 w.1.size #[.string ⟨i.1.toArray⟩,Y a.1.1,.slice q a.1.2.length r,.slice x l.1.length y,.string ⟨m.1.toArray⟩,Y 0,Y 0,Y 0,Y 0]:=h.store 4 _
 have L:=I (dN P.o M)
 have pl:=J.places [5,6,7,8] (λj hj=>by show j<9;simp at hj;omega) O 319
 rw[World.size_setCell]at pl
 have p:=J.alloc (.cells #[π w.1.size 5,π w.1.size 6,π w.1.size 7,π w.1.size 8] 319)
 have U:=W.alloc (.cells #[π w.1.size 5,π w.1.size 6,π w.1.size 7,π w.1.size 8] 319)
 have X:=I (kN S w1.1.size w7.1.size _ 4 m.2 _ (I rfl) G (p.stays [5,6,7,8]) p.rd pl)
 simp only[u.o.2.2.2.2.2.1]at X
 rw[u.2.2.2.2.2.2]at X
 have g:=I (dN p U)
 clear r7 f7 d h J W SE K pl p U ad ag P M
 go_wp2_with fail
 refine X.mono ?_
 rintro e W ⟨rfl,U,M,d⟩
 have J:∀p∈([5,6,7,8].map λj=>(w.1.size,j)),p.1=w.1.size:=λp hp=>by
  exact sR
 have p:RS w W (λ_ _=>False) S w1.1.size V w.1.size #[.string ⟨i.1.toArray⟩,Y a.1.1,.slice q a.1.2.length r,.slice x l.1.length y,.string ⟨m.1.toArray⟩,Y (N 0),Y (N 1),Y (N 2),Y (N 3)]:=by
  refine g.1.nums d U J rfl (λj hj=>?_)
  .have h:j<9:=hj;match j,h with
   |0,_=>exact d.cell (g.1.blk.cell 0) (λe=>by rcases e with e|e;exact g.1.ne e;simp at e)
   |1,_=>exact d.cell (g.1.blk.cell 1) (λe=>by rcases e with e|e;exact g.1.ne e;simp at e)
   |2,_=>exact d.cell (g.1.blk.cell 2) (λe=>by rcases e with e|e;exact g.1.ne e;simp at e)
   |3,_=>exact d.cell (g.1.blk.cell 3) (λe=>by rcases e with e|e;exact g.1.ne e;simp at e)
   |4,_=>exact d.cell (g.1.blk.cell 4) (λe=>by rcases e with e|e;exact g.1.ne e;simp at e)
   |5,_=>exact M 0 (w.1.size,5) rfl
   |6,_=>exact M 1 (w.1.size,6) rfl
   |7,_=>exact M 2 (w.1.size,7) rfl
   |8,_=>exact M 3 (w.1.size,8) rfl
 have P:=g.2.beside p d J G
 have K:=I L.o
 have h:=I (dN p P)
 clear U M d p P J X g L u ae ah
 obtain⟨y0,y1,y2,y3,y4,y5,y6,y7,y8⟩:=h.1.blk.nine
 have J:=(h.1.slot 0 (by show 0<9;decide)).2
 have L:=(h.1.slot 1 (by show 1<9;decide)).2
 have M:=(h.1.slot 2 (by show 2<9;decide)).2
 have P:=(h.1.slot 3 (by show 3<9;decide)).2
 have U:=(h.1.slot 4 (by show 4<9;decide)).2
 have X:=(h.1.slot 5 (by show 5<9;decide)).2
 have aj:=(h.1.slot 6 (by show 6<9;decide)).2
 have ak:=(h.1.slot 7 (by show 7<9;decide)).2
 have al:=(h.1.slot 8 (by show 8<9;decide)).2
 have d:=I (jR S k.1.size _ _ _ h.2.rd)
 have g:=I (jR S w1.1.size _ _ _ h.1.rd)
 have HZ:=I (h.1.YD ε (Y 0) σ σ ε (Y 0) (Y 0) (Y 0) (Y 0))
 have p:=I (h.1.YD (.string ⟨i.1.toArray⟩) (Y a.1.1) (.slice q a.1.2.length r) (.slice x l.1.length y) (.string ⟨m.1.toArray⟩) (Y (N 0)) (Y (N 1)) (Y (N 2)) (Y (N 3)))
 unfold YD at HZ p
 cases hq1:(!a.2.2&&decide (a.2.1=[]))
 .have qf:Hid (zP b=false):=by show _=_;rw[Yx,hq1];rfl
  rw[hq1]at d;go_wp2_with fail;refine d.mono ?_;rintro e u ⟨rfl,rfl⟩;clear d g p hq1;exact ID
 .rw[hq1]at d;cases hq2:(!V.2&&decide (V.1=[]))
  .have qf:Hid (zP b=false):=sE;rw[hq2]at g;go_wp2_with fail;refine d.mono ?_;rintro e u ⟨rfl,rfl⟩;go_wp2_with fail;refine g.mono ?_;rintro e u ⟨rfl,rfl⟩;clear d g p hq1 hq2;exact ID
  .have qf:Hid (zP b=true):=sE;rw[hq2]at g;go_wp2_with fail;refine d.mono ?_;rintro e u ⟨rfl,rfl⟩;go_wp2_with fail;refine g.mono ?_;rintro e u ⟨rfl,rfl⟩;clear d g HZ hq1 hq2;go_wp2;refine bodyPost_ret (aG results139 _ _ _ w.1.size rfl _ p.YE) rfl ⟨_,by rw[qf];rfl,λ_=>?_,⟨rfl,rfl⟩,p.cf.gb (λ_ _ _ e=>e)⟩;refine⟨_,_,by rw[AA,R,C,B,Qu,Qu,Qu,Qu],?_,?_⟩
   .rw[C];exact K.1
   .rw[Q];exact K.2
def F':List qG->Option NQ:=bY gY λc=>bY jq λp=>bY dm λs=>bY bG λn=>bY bG λt=>bY bG λr=>bY bG λo=>xE ⟨c.1,c.2.1,c.2.2,p,s,n,t,r,o⟩
def MM:E->Option NQ:=dL gY λc=>dL jq λp=>dL dm λs=>dL bG λn=>dL bG λt=>dL bG λr=>dL bG λo=>vw ⟨c.1,c.2.1,c.2.2,p,s,n,t,r,o⟩
theorem YG(l):MM l=(Box.dF l).bind F':=
 ek _ _ _ (λc l=>ek _ _ _ (λp l=>ek _ _ _ (λs l=>ek _ _ _ (λn l=>ek _ _ _ (by grind [ek,wW]) l) l) l) l) l
def sG:E->Option (E×Int×E):=dL dm λs=>dL bG λn=>dL jq λz=>vw (s,n,z)
theorem Qz(l):sG l=(Box.dF l).bind qI:=
 ek _ _ _ (λs l=>ek _ _ _ (λn l=>ek _ _ _ (λz l=>wW (s,n,z) l) l) l) l
theorem MN(t)(i):gY (t,i)=if t.toNat=48 then sG i else none:=by
 grind [Qz,zu,gY]
def oY(aX:E):NQ:=⟨(pA aX).1,(O3 aX).1.1,(O3 aX).1.2,(YF aX).1,(Ct aX).1,Eu aX 0,Eu aX 1,Eu aX 2,Eu aX 3⟩
theorem UH{α β γ:Type}(x:Option α)(y:Option β)(f:β->α->Option γ):x.bind (λa=>y.bind λb=>f b a)=y.bind λb=>x.bind (f b):=by cases x<;>cases y<;>rfl
theorem UI{g B w x y A f C:E×Bool}{b:E×(E×Bool)}{a:E}{d:(Int×E)×(E×Bool)}{p v:E}{l m q u:Int}(D:kW g)(J:bC 48 g.1 g.2=b)(hS:fJ (b.1,b.2.2)=(a,C))(hZ:jd C=d)(X:bC 4 b.2.1 b.2.2=(p,B))(hV:fJ B=(v,w))(T:bM w=(l,x))(U:bM x=(m,y))(V:bM y=(q,A))(W:bM A=(u,f)):
  (st g).bind MM=if ((!d.2.2&&decide (d.2.1=[]))&&(!f.2&&decide (f.1=[])))=true then some ⟨a,d.1.1,d.1.2,p,v,l,m,q,u⟩ else none:=by
 have L:kW (b.1,b.2.2):=λe=>by rw[<-J]at e⊢;exact(oG 48 _ _ D e).1
 have h:kW b.2:=by grind [kW.take]
 have K:kW C:=sd
 have M:kW B:=by grind [kW.take]
 have P:kW w:=sd
 have Q:kW x:=m9
 have R:kW y:=m9
 have S:kW A:=m9
 have k:∀c:E×Int×E,(st b.2).bind (dL jq λp=>dL dm λs=>dL bG λn=>dL bG λt=>dL bG λr=>dL bG λo=>vw (⟨c.1,c.2.1,c.2.2,p,s,n,t,r,o⟩:NQ))=if (!f.2&&decide (f.1=[]))=true then some ⟨c.1,c.2.1,c.2.2,p,v,l,m,q,u⟩ else none:=by
  intro c;rw[SF h,X,xe M,hV,ky P,T,ky Q,U,ky R,V,ky S,W,vW]
 have e:(st (b.1,b.2.2)).bind sG=if (!d.2.2&&decide (d.2.1=[]))=true then some (a,d.1.1,d.1.2) else none:=by
  unfold sG;rw[xe L,hS,IK K (λc=>vw (a,c.1,c.2)),hZ,vW]
 unfold MM
 rw[SG D gY sG MN,J,UH]
 cases j:b.2.2
 .have i:sG b.1=(st (b.1,b.2.2)).bind sG:=by rw[j];rfl
  rw[i,e];cases n:(!d.2.2&&decide (d.2.1=[]))
  .grind
  .simp only[gn,if_true];exact k (a,d.1.1,d.1.2)
 .have i:(st (b.1,b.2.2))=none:=by rw[j];rfl
  rw[i]at e;have n:(!d.2.2&&decide (d.2.1=[]))=false:=by
   grind
  rw[n];have o:st b.2=none:=by rw[st,dT j]
  rw[o];simp only[gj,fL,if_false];cases sG b.1<;>rfl
theorem Se(a):rD a=(st (jf a 12)).bind MM:=by
 rw[<-MJ a 12 F' MM YG];rfl
theorem UJ(b):rD b=if zP b=true then some (oY b) else none:=by
 have i:=Se b;have h:=IJ b 12;have n:bC 48 (jf b 12).1 (jf b 12).2=Wz b:=rfl;have m:fJ ((Wz b).1,(Wz b).2.2)=pA b:=rfl;have q:jd (pA b).2=O3 b:=rfl;have k:bC 4 (Wz b).2.1 (Wz b).2.2=YF b:=rfl;have o:fJ (YF b).2=Ct b:=rfl;have d:bM (Ct b).2=(Eu b 0,iO (Ct b).2 1):=xh _;have e:bM (iO (Ct b).2 1)=(Eu b 1,iO (Ct b).2 2):=nO _ 1;have f:bM (iO (Ct b).2 2)=(Eu b 2,iO (Ct b).2 3):=nO _ 2;have g:bM (iO (Ct b).2 3)=(Eu b 3,iO (Ct b).2 4):=nO _ 3;have j:zP b=((!(O3 b).2.2&&decide ((O3 b).2.1=[]))&&(!(iO (Ct b).2 4).2&&decide ((iO (Ct b).2 4).1=[]))):=rfl;have l:oY b=⟨(pA b).1,(O3 b).1.1,(O3 b).1.2,(YF b).1,(Ct b).1,Eu b 0,Eu b 1,Eu b 2,Eu b 3⟩:=rfl;generalize iO (Ct b).2 1=s1 at *;generalize iO (Ct b).2 2=s2 at *;generalize iO (Ct b).2 3=s3 at *;generalize iO (Ct b).2 4=s4 at *;generalize Eu b 0=n0 at *;generalize Eu b 1=n1 at *;generalize Eu b 2=n2 at *;generalize Eu b 3=n3 at *;generalize oY b=Q at *;generalize zP b=ok at *;generalize Ct b=qV at *;generalize YF b=qP at *;generalize O3 b=qZ at *;generalize pA b=qS at *;generalize Wz b=qT at *;generalize jf b 12=q0 at *;obtain⟨a,u⟩:=qS;obtain⟨p,t⟩:=qP;obtain⟨v,r⟩:=qV;rw[i,UI h n m q k o d e f g,j,l]
variable {l:List Pc}{w':World}
def jK(w:World)(g:Nat)(l:List Pc):Prop:=w.rangeAt g 0 (pg l)/\∀p∈l,At w p.ad p.ins/\p.ins.length<=p.cap/\p.cap<=maxLen
theorem jK.grown(h:jK w g l)(k:w.grownBy w' none):jK w' g l:=
 ⟨λj v b=>k.cell (h.1 j v b) Z,λp a=>⟨(h.2 p a).1.below k,(h.2 p a).2⟩⟩
def Vn(w:World)(x:Value)(l:List Pc):Prop:=∃ao c,x=.slice ao l.length c/\(l≠[]->∃g,ao=some ⟨g,0,none⟩/\jK w g l)
theorem Vn.grown{x:Value}(h:Vn w x l)(k:w.grownBy w' none):Vn w' x l:=by
 obtain⟨a,c,b,d⟩:=h;exact⟨a,c,b,(by grind [jK.grown])⟩
theorem jK.tag(h:jK w g l)(k)(a:k<l.length):w.cell? (F g (k*2))=some (.int .u8 ((l[k]).tag.toNat:Int)):=by
 have:=h.1 (k*2+0) _ (by rw[Bl l k 0 a O];rfl);rwa [cN,ft]at this
theorem jK.ins(h:jK w g l)(k)(a:k<l.length):w.cell? (F g (k*2+1))=some (.slice (l[k]).ad (l[k]).ins.length (l[k]).cap):=by
 have:=h.1 (k*2+1) _ (by rw[Bl l k 1 a O];rfl);rwa [cN]at this
def wm(w:World)(v:Value)(zs:E):Prop:=∃ao cap,v=.slice ao zs.length cap/\zs.length<=cap/\cap<=maxLen/\At w ao zs
theorem gN.prt{v:Value}{b:E}(h:gN w v b):wm w v b:=by
 obtain⟨d,a,e,f,g,_,i⟩:=h;exact⟨d,a,e,f,g,i⟩
theorem wm.grown{v:Value}{b:E}(h:wm w v b)(k:w.grownBy w' none):wm w' v b:=by
 obtain⟨d,a,e,f,g,i⟩:=h;exact⟨d,a,e,f,g,i.below k⟩
theorem DH(h:p:=by
 rw[List.getElem?_take_of_lt hj]at hu
 simp only[World.cell?,hg]
 simpa using hu):p:=h
theorem qR(a)(v)(w)(h:wm w v a)(P:a.length<=100000):Calls prog 66 #[v] w λe w'=>∃x,e=.returned (.tuple #[x,.bool (Box.dF a).isSome])/\(∀i,Box.dF a=some i->∃l,Vn w' x l/\l.map Pc.pair=i/\(∀p∈l,∀k,wm k v a->wm k (.slice p.ad p.ins.length p.cap) p.ins)/\(∀g f,x = ς g 0 l.length f->w.1.size<=g))/\(Box.dF a=none->x = σ)/\w.grownBy w' none:=by
 obtain⟨C,n,rfl,J,o,y⟩:=h
 refine(LC a a.length C n w (I rfl) P J (by unfold maxLen at o;omega) y).mono ?_
 rintro e w' ⟨S,X,B⟩
 cases K:Box.dF a with
 |none=>grind
 |some i=>
  obtain⟨x,l,T,t,r3,d⟩:=S i K;refine⟨x,T,λm j=>⟨l,?_,?_,λp b k r=>?_,λg f e=>(t.lt g (by rw[e];rfl)).1⟩,λQ=>(by cases Q),B⟩
  .obtain⟨m,f,rfl⟩:=bA t;refine⟨m,f,rfl,λj=>?_⟩;rcases t.2 with⟨A,W⟩|⟨g,U,D,A,V,hg,R,L,M,q⟩
   .grind
   .injection A with e1 _ e3;subst e1 e3;refine⟨g,rfl,λj u hu=>?_,λp b=>⟨(d p b).1 _ (y.below B),(d p b).2.1,cE (d p b).2.2 o⟩⟩;rw[cN];rw[<-q]at hu;have hj:j<l.length*2:=by
     grind
    exact DH
  .grind
  .obtain⟨m,j,f,_,_,q⟩:=r;injection f with f;subst f;exact⟨p.ad,p.cap,rfl,(d p b).2.1,cE (d p b).2.2 o,(d p b).1 k q⟩
def uO(tag:UInt8)(l:E):Option E:=
 match Box.cut l with
 |some (t,i,[])=>if t.toNat=tag.toNat then some i else none
 |_=>none
theorem uP(l):lq l=(uO 48 l).bind Box.dF:=by
 unfold lq uO;cases h:Box.cut l with
 |none=>rfl
 |some p=>
  obtain⟨t,i,r⟩:=p;cases r with
  |nil=>
   show(if t.toNat=48 then Box.dF i else none)=(if t.toNat=(48:UInt8).toNat then some i else none).bind Box.dF;by_cases d:t.toNat=48
   .have b:t.toNat=(48:UInt8).toNat:=d;rw[dT d,dT b];rfl
   .have b:¬ t.toNat=(48:UInt8).toNat:=d;rw[cZ d,cZ b];rfl
  |cons a r=>rfl
theorem NG(d)(v)(w)(h:gN w v d)(y:d.length<=140737488355328):Calls prog 49 #[v] w λe w'=>∃(a:UInt8) (f:Option Addr) (i:E) (b:Nat) (g:Option Addr) (r:E) (j:Nat),
   e=.returned (.tuple #[.agg #[.int .u8 (a.toNat:Int),.slice f i.length b],.slice g r.length j,.bool (Box.cut d).isSome])/\(∀q,Box.cut d=some q->q=(a,i,r))/\At w' f i/\i.length<=b/\b<=maxLen/\i.length<=65535/\(f=none->b=0)/\w.grownBy w' none:=by
 obtain⟨t,f,rfl,u,n,L,k⟩:=h
 by_cases o:d.length<2
 .refine(Bj d.length t f w o).mono ?_;rintro e w' ⟨p,m⟩;have g:=Ia o;refine⟨0,none,[],0,none,[],0,?_,λq j=>?_,At.nil _ _,cy _,cS _,cS _,λ_=>rfl,m⟩
  .rw[g];exact p
  .rw[g]at j;cases j
 .obtain⟨b,l,rfl,_⟩:=k.addr G;refine(Dt d d.length b l f w (I rfl) G y u (by unfold maxLen at n;omega) k).mono ?_;rintro e w' ⟨p,m,r⟩;cases g:Box.cut d with
  |none=>
   obtain⟨x,a,i,c,A,B,C,D,J,K⟩:=m g;exact⟨x,a,i,c,none,[],0,A,λq j=>(by cases j),B _ (k.below r),C,cE D n,J,K,r⟩
  |some q=>
   grind [At.below]
theorem wj(h:p:=by
 go_wp2_with fail
 go_quiet (fail)
 go_wp2
 go_ret2
 exact⟨_,i,by rw[HN];rfl,HH.1.drewN _,HH.2.1,kA,aR HH.2.2 _⟩):p:=h
theorem zU(a)(f)(v)(w)(h:gN w v f)(B:f.length<=140737488355328):Calls prog 65 #[v,.int .u8 (a.toNat:Int)] w λe w'=>∃x i,e=.returned (.tuple #[x,.bool (uO a f).isSome])/\gN w' x i/\i.length<=65535/\(∀j,uO a f=some j->j=i)/\w.grownBy w' none:=by
 have k:=I (NG f v w h B)
 obtain⟨j,d⟩:=N (uO a f)
 have b:=I d
 rw[d]
 clear h d
 unfold uO at b
 obtain⟨A,d⟩:=N (Box.cut f)
 rw[d]at k b
 clear d
 go_in
 go_wp2_with fail
 refine k.mono ?_
 rintro e y ⟨t,d,i,g,C,r,D,rfl,l,m,n,p,q,u,x⟩
 clear k
 have h:=aM x (.cells #[.int .u8 (t.toNat:Int),.slice d i.length g] 117)
 have HH:Hid (gN (y.alloc (.cells #[.int .u8 (t.toNat:Int),.slice d i.length g] 117)) (.slice d i.length g) i/\i.length<=65535/\w.grownBy (y.alloc (.cells #[.int .u8 (t.toNat:Int),.slice d i.length g] 117)) none):=⟨⟨d,g,rfl,n,p,u,m.below (cx _ _ _)⟩,q,h⟩
 clear m n p q u x h
 cases A with
 |none=>
  have HN:Hid (j=none):=b.o.symm;clear b l;simp only[Option.isSome_none];exact wj
 |some q=>
  obtain rfl:=l q rfl;clear l;simp only[dj];cases r with
  |cons k r=>
   have HN:Hid (j=none):=b.o.symm;clear b;have m:((((k::r).length:Nat):Int)==0)=false:=fA;obtain⟨n,h⟩:=N ((k::r).length);rw[h]at m⊢;clear h;exact wj
  |nil=>
   simp only[List.length_nil];by_cases h:t.toNat=a.toNat
   .have HN:Hid (j=some i):=fA;have k:((t.toNat:Int)==(a.toNat:Int))=true:=pS;clear b h;exact wj
   .have HN:Hid (j=none):=fA;have k:((t.toNat:Int)==(a.toNat:Int))=false:=fA;clear b h;exact wj
def iI(p:Pc)(v:Int):Prop:=b9 v/\∀y,bG p.pair=some y->v=y
theorem uj(p)(w)(h:At w p.ad p.ins):Calls prog 68 #[.agg #[.int .u8 (p.tag.toNat:Int),.slice p.ad p.ins.length p.cap]] w λe m=>∃v,e=.returned (.tuple #[Y v,.bool (bG p.pair).isSome])/\iI p v/\w.grownBy m none:=by
 refine(PG p.tag p.ad p.ins p.ins.length p.cap w (I rfl) h).mono ?_
 rintro e m ⟨⟨n,k⟩,f⟩
 unfold iI
 obtain⟨o,a⟩:=N (bG p.pair)
 rw[a]
 unfold bG at a
 by_cases l:p.tag.toNat=2
 .rw[dT (by grind [Pc.pair])]at a;cases b:Box.num p.ins with
  |none=>
   obtain⟨v,g,i,j⟩:=k (.inr b);have:o=none:=by rw[<-a];exact b
   subst this;exact⟨v,j,⟨⟨g,i⟩,λy d=>(by cases d)⟩,f⟩
  |some x=>
   have:o=some x:=by rw[<-a];exact b
   subst this;refine⟨x,n x l b,⟨?_,λy d=>(by injection d)⟩,f⟩;exact Dw b
 .rw[cZ (by grind [Pc.pair])]at a;subst a;obtain⟨v,g,i,j⟩:=k (.inl l);exact⟨v,j,⟨⟨g,i⟩,λy d=>(by cases d)⟩,f⟩
theorem Ix(h:p:=by
 clear h4 HP
 go_in
 go_wp2_with (go_at_call 56;refine(HN _).mono ?_;rintro e w' ⟨rfl,rfl⟩)
 go_quiet (fail)
 go_wp2
 go_ret2
 exact⟨by rw[Wt];rfl,aR HG _⟩):p:=h
theorem qU(p:Pc)(w)(h:At w p.ad p.ins)(n:p.ins.length<=140737488355328):Calls prog 96 #[.agg #[.int .u8 (p.tag.toNat:Int),.slice p.ad p.ins.length p.cap]] w λe w'=>e=.returned (.tuple #[.string ⟨p.ins.toArray⟩,.bool (dm p.pair).isSome])/\w.grownBy w' none:=by
 have j:=cx w (.cells #[.int .u8 (p.tag.toNat:Int),.slice p.ad p.ins.length p.cap] 117) none
 have g:=iq (P:=prog) (w.alloc (.cells #[.int .u8 (p.tag.toNat:Int),.slice p.ad p.ins.length p.cap] 117)) 37 9 5 underlying37 underlying5 underlying9 p.ad p.cap p.ins (h.below j)
 have HN:=I (λW=>vJ p.ins p.ins.length ⟨p.ins.toArray⟩ W (I rfl) (I rfl) G)
 have HP:Hid ((dm p.pair).isSome=(di p.ins&&decide (p.tag.toNat=4))):=by
  show _=_;unfold dm;show(if p.tag.toNat=4/\di p.ins=true then some p.ins else none).isSome=_;grind
 obtain⟨o,k⟩:=N ((dm p.pair).isSome)
 rw[k]at HP⊢
 obtain⟨b,i⟩:=N (di p.ins)
 rw[i]at HP HN
 have HG:=I j
 obtain⟨t,l⟩:=N p.tag.toNat
 rw[l]at HP HG g⊢
 obtain⟨r,f⟩:=N p.ad
 obtain⟨q,a⟩:=N p.ins
 obtain⟨m,d⟩:=N p.cap
 rw[f,a,d]at HG g⊢
 rw[a]at HN
 clear j i k l h f a d n
 cases b with
 |false=>
  go_in;go_wp2_with (go_at_call 56;refine(HN _).mono ?_;rintro e w' ⟨rfl,rfl⟩)
  go_quiet (fail)
  go_wp2;go_ret2;exact⟨by rw[HP];rfl,aR HG _⟩
 |true=>
  by_cases h4:t=4
  .have i:((t:Int)==4)=true:=pS;have Wt:Hid (o=true):=fA;exact Ix
  .have i:((t:Int)==4)=false:=fA;have Wt:Hid (o=false):=fA;exact Ix
def rJ:List Pc->List Int->Prop
 | [],[]=>True
 |p::l,v::vs=>iI p v/\rJ l vs
 |_,_=>False
theorem rJ.length:∀{l:List Pc}{a:List Int},rJ l a->a.length=l.length
 | [],[],_=>rfl
 |_::_,_::_,h=>by simp only[de];rw[rJ.length h.2]
 | [],_::_,h=>h.elim
 |_::_,[],h=>h.elim
theorem rJ.snoc:∀{l:List Pc}{a:List Int}{p:Pc}{v:Int},rJ l a->iI p v->rJ (l++[p]) (a++[v])
 | [],[],_,_,_,h=>⟨h,trivial⟩
 |_::_,_::_,_,_,h,a=>⟨h.1,rJ.snoc h.2 a⟩
 | [],_::_,_,_,h,_=>h.elim
 |_::_,[],_,_,h,_=>h.elim
def tf(x:Int):Value:=Y x
def jT(l:List Pc):Bool:=l.all λp=>(bG p.pair).isSome
theorem Tryz.ac5:(prog.info? 2).map (λi=>(i.zero,i.size,i.bytes))=some (some (Y 0),1,8):=by kernel_rfl
theorem Vo{l:List Pc}{a k:Nat}(b:a<=k)(d:k<l.length):(l.drop a).take (k+1-a)=(l.drop a).take (k-a)++[l[k]]:=by
 rw[show k+1-a=(k-a)+1 from by omega,dy (by rw[dr];omega),List.getElem_drop];grind
theorem Lq(h:p:=by
 clear HA
 go_wp2_with (at_builtin;refine dJ _ rfl _ _ 220 rfl w.1.size 2 i0 _ 1 8 underlying220 hif hz0 hz1 hz2 rfl O _ _ _ rfl (hown1.alloc _) ⟨w1.1.size,0,none⟩ 1 1 [Y v] rfl rfl ?q1 (by intro u hu;simp at hu;rcases hu with rfl;rfl) G sO hll j' ?_)
 case q1=>grind [gL]
 intro v2 w2 hown2 hg2 _
 have G2:=gD (aM G1 _) hg2 (λj hj=>(hown1.lt j hj).1)
 clear hown1 hg2 G1
 go_wp2
 go_roundw
 case rel=>exact⟨k+1,vs++[v],by omega,by omega,by go_num,I (by rw[HA2.o]),HV2,by rw[cD,ef];exact hown2,G2⟩
 case measure=>simp[intOf];omega):p:=h
theorem uQ(a b m g c:Nat)(l)(w)(J:Hid (l.length=m))(X:m<=1000)(y:a<=b)(P:b<=m)(h:jK w g l):Calls prog 97 #[ς g 0 m c,Y (a:Int),Y (b:Int)] w λe d=>∃o vs,e=.returned (.tuple #[o,.bool (jT ((l.drop a).take (b-a)))])/\rJ ((l.drop a).take (b-a)) vs/\d.ownsRow w.1.size 2 1 o vs.length (vs.map tf)/\w.grownBy d none:=by
 obtain⟨i0,hif,hz0,hz1,hz2⟩:=info_parts Tryz.ac5
 go_in
 go_wp2
 go_loopw [8,9,10] (λo ok i wr=>∃(k:Nat) (vs:List Int),a<=k/\k<=b/\i = Y k/\Hid (ok=.bool (jT ((l.drop a).take (k-a))))/\Hid (rJ ((l.drop a).take (k-a)) vs)/\wr.ownsRow w.1.size 2 1 o vs.length (vs.map tf)/\w.grownBy wr none) (λ_ _ i _=>b-(intOf i).toNat)
 case atStart=>exact⟨a,[],cy _,y,rfl,by show _=_;rw[gE];rfl,by show rJ _ _;rw[gE];trivial,World.ownsRow_nil _ _ _ _,cC _ _⟩
 case round=>
  obtain⟨k,vs,A,R,rfl,B,t,d,i⟩:=hrel;obtain rfl:=B.o;obtain⟨ok,q⟩:=N (jT ((l.drop a).take (k-a)));rw[q]at B⊢;by_cases S:k<b
  .have V:(k:Int)<(b:Int):=G;have W:k<m:=G;have gO:k<l.length:=(by rw[J];omega);have x:=h.grown i;have C:=x.tag k gO;have D:=x.ins k gO;obtain⟨n,_,_⟩:=x.2 (l[k]) (eg gO);have r:=I (uj (l[k]) wr n);have HS:=I (Vo A gO);obtain⟨p,K⟩:=N (l[k]);rw[K]at C D r HS;have HA:Hid (jT ((l.drop a).take (k+1-a))=(ok&&(bG p.pair).isSome)):=by
    grind [Hid.o,jT]
   obtain⟨M,f⟩:=N ((bG p.pair).isSome);rw[f]at r HA;have Q:(0:Int)<=(k:Int):=G;have T:vs.length<=1000:=by
    rw[t.length,ep,dr];have:=J.o;omega
   have sO:vs.length+1<=maxLen:=kO;have hll:(vs.length+1)*8<=140737488355328:=G;clear x n K q B f;go_wp2_with fail;refine r.mono ?_;rintro e w1 ⟨v,rfl,U,f⟩;have hown1:=d.kept f (eR _);have G1:=aa i f;have L:=G1.size;have HV2:Hid (rJ ((l.drop a).take (k+1-a)) (vs++[v])):=(by grind [rJ.snoc,Hid.o]);clear d f r U t HS C D;cases ok with
   |false=>
    have HA2:Hid (jT ((l.drop a).take (k+1-a))=false):=(by show _=_;rw[HA];rfl);exact Lq
   |true=>
    have HA2:Hid (jT ((l.drop a).take (k+1-a))=M):=(by show _=_;rw[HA,gn]);exact Lq
  .have f:k=b:=G;subst f;have V:¬ (k:Int)<(k:Int):=G;have e:=t;clear t;go_wp2;go_ret2;exact⟨_,rfl,vs,e,d,i⟩
theorem gP:b9 0:=⟨by decide,by decide⟩
theorem N5:∀{b:List (UInt8×E)}{p:UInt8×E},p∈b->p.2.length+2<=Box.wt b:=by
 intro b;induction b with
 |nil=>intro p d;simp at d
 |cons a b e=>
  grind [Box.wt]
theorem Box.lX{l:E}{a:List (UInt8×E)}(h:Box.dF l=some a)(p)(b:p∈a):p.2.length<=l.length:=by
 have d:=Box.Xr l.length l a (cy _) h;have e:=N5 b;omega
theorem BF(a)(h:a.length≠2):qH a=none:=by
 unfold qH;match a with
 | []=>rfl
 | [p]=>show(bG p).bind _=none;cases bG p<;>rfl
 | [p,q]=>exact absurd rfl h
 |p::q::r::a=>
  show(bG p).bind _=none;cases bG p with
  |none=>rfl
  |some n=>
   show(jq q).bind _=none;cases jq q<;>rfl
theorem Ki(p q):qH [p,q]=(bG p).bind λn=>(jq q).bind λz=>some (n,z):=rfl
theorem E4(h:p:=by
 show(dm p).bind _=none
 cases dm p with
 |none=>rfl
 |some n=>show(bG q).bind _=none;cases bG q<;>rfl):p:=h
theorem GQ(a)(h:a.length≠3):qI a=none:=by
 unfold qI;match a with
 | []=>rfl
 | [p]=>show(dm p).bind _=none;cases dm p<;>rfl
 | [p,q]=>
  exact E4
 | [p,q,r]=>exact absurd rfl h
 |p::q::r::s::a=>
  show(dm p).bind _=none;cases dm p with
  |none=>rfl
  |some n=>
   show(bG q).bind _=none;cases bG q with
   |none=>rfl
   |some z=>show(jq r).bind _=none;cases jq r<;>rfl
theorem NH{α:Type}{l:List α}(h:l.length=2):∃a b,l=[a,b]:=by
 match l,h with
 | [a,b],_=>exact⟨a,b,rfl⟩
theorem ES{α:Type}{l:List α}(h:l.length=3):∃a b c,l=[a,b,c]:=by
 match l,h with
 | [a,b,c],_=>exact⟨a,b,c,rfl⟩
theorem Vn.some{w:World}{x:Value}{l:List Pc}(h:Vn w x l)(e:l≠[]):∃g c,x=.slice (.some ⟨g,0,.none⟩) l.length c/\jK w g l:=by
 obtain⟨a,c,b,d⟩:=h;grind
def Kj(w:World)(o:Option (Option (Int×E)))(n:Int)(z:Value)(there:Bool):Prop:=∀q,o=some q->there=q.isSome/\∀x,q=some x->n=x.1/\wm w z x.2/\x.2.length<=100000
theorem nP(w)(n)(z)(t):Kj w none n z t:=λ_ h=>by cases h
theorem AN(h:p:=by
 go_wp2
 ((try simp only[Exit.inBlock,Exit.then]);refine bodyPost_ret (gG rfl _ _ _) rfl ?_)
 exact⟨_,_,_,by rw[HO];rfl,gP,by rw[HO];exact nP _ _ _ _,kG⟩):p:=h
theorem I0(h:p:=by
 go_wp2_with fail
 go_quiet (fail)
 go_wp2
 ((try simp only[Exit.inBlock,Exit.then]);refine bodyPost_ret (gG rfl _ _ _) rfl ?_)
 exact⟨_,_,_,by rw[FZ];rfl,NI.1,by rw[FZ];exact nP _ _ _ _,aR HG2 _⟩):p:=h
theorem S5(p:Pc)(w)(h:At w p.ad p.ins)(g:p.ins.length<=p.cap)(j:p.cap<=maxLen)(d:p.ins.length<=100000):Calls Tryz.prog 98 #[.agg #[.int .u8 (p.tag.toNat:Int),.slice p.ad p.ins.length p.cap]] w λe a=>∃n z t,e=.returned (.tuple #[Y n,z,.bool t,.bool (mi p.pair).isSome])/\b9 n/\Kj a (mi p.pair) n z t/\w.grownBy a none:=by
 have i:Hid (mi p.pair=match (if p.tag.toNat=48 then Box.dF p.ins else none)with|none=>none|some []=>some none|some D=>(qH D).map some):=rfl
 obtain⟨O,a⟩:=aq (mi p.pair)
 rw[a]at i⊢
 clear a
 have a:=cx w (.cells #[.int .u8 (p.tag.toNat:Int),.slice p.ad p.ins.length p.cap] 117) none
 have b:=I (qR p.ins (.slice p.ad p.ins.length p.cap) _ ⟨p.ad,p.cap,rfl,g,j,h.below a⟩ d)
 have HB:=I (dz.new w #[.int .u8 (p.tag.toNat:Int),.slice p.ad p.ins.length p.cap] 117)
 have f:=I a
 have R:=I d
 clear a h g j d
 obtain⟨W,a⟩:=aq (Box.dF p.ins)
 rw[a]at i b
 have T:=I a
 clear a
 go_enter Tryz.func98,Tryz.ntmps98
 go_wp2_with fail
 refine b.mono ?_
 rintro e J ⟨x,rfl,C,h,a⟩
 clear b
 have kG:=I (aa f a)
 have r:=HB.grown a Z
 have P:=r.cell 0
 simp only[cH,cG]at P
 clear f HB a
 cases W with
 |none=>
  have HO:Hid (O=none):=by
   show _=_;rw[i];split<;>simp_all
  obtain rfl:=h rfl;clear C h i r;simp only[Option.isSome_none];exact AN
 |some D=>
  obtain⟨l,j,d,_⟩:=C D rfl;clear C h r;simp only[dj];by_cases B:p.tag.toNat=48
  .have X:((p.tag.toNat:Int) != 48)=false:=tx;rw[dT B]at i;clear B;by_cases u:l.length=0
   .have a:=fh u;subst a;have HO:Hid (O=some none):=by
     show _=_;rw[i,<-d];rfl
    obtain⟨M,c,rfl,_⟩:=j;clear i d u;simp only[List.length_nil];go_wp2;((try simp only[Exit.inBlock,Exit.then]);refine bodyPost_ret (gG rfl _ _ _) rfl ?_);exact⟨_,_,_,by rw[HO];rfl,gP,by rw[HO];exact λq f=>by injection f with f;subst f;exact⟨rfl,λx A=>by cases A⟩,kG⟩
   .by_cases h:l.length=2
    .obtain⟨k,a,rfl⟩:=NH h;have HO:Hid (O=((bG k.pair).bind λn=>(jq a.pair).bind λz=>some (n,z)).map some):=by
      show _=_;rw[i,<-d];rfl
     obtain⟨g,c,rfl,b⟩:=j.some Z;have U:J.c g 0=some (.int .u8 (k.tag.toNat:Int)):=b.tag 0 Z;have V:J.c g 1=some (.slice k.ad k.ins.length k.cap):=b.ins 0 Z;have L:=I b;have y:=I (uj k J (b.2 k Z).1);have Q:Hid (a.ins.length<=100000):=by
      have f:=T.o;rw[<-d]at f;exact cE (Box.lX f (a.tag,a.ins) (by simp[Pc.pair])) R.o
     obtain⟨N,m⟩:=aq (bG k.pair);unfold iI at y;rw[m]at y HO;clear i d u h j b m;simp only[de,List.length_nil];go_wp2_with fail;refine y.mono ?_;rintro e K ⟨v,rfl,j,t⟩;have b:=L.grown t;have d2:K.c g 2=some (.int .u8 (a.tag.toNat:Int)):=b.tag 1 Z;have d3:K.c g 3=some (.slice a.ad a.ins.length a.cap):=b.ins 1 Z;have S:Hid (∀m,wm (K.drewN m) (.slice a.ad a.ins.length a.cap) a.ins):=λm=>⟨a.ad,a.cap,rfl,(b.2 a Z).2.1,(b.2 a Z).2.2,(b.2 a Z).1.drewN m⟩
     have HG2:=I (aa kG t);have NI:=I j;clear y L b t j kG P U V;cases N with
     |none=>
      have FZ:Hid (O=none):=HO.o;clear HO;simp only[Option.isSome_none];exact I0
     |some y=>
      have t:=NI.2 y rfl;subst t;simp only[dj];by_cases b:a.tag.toNat=4
      .have m:((a.tag.toNat:Int)==4)=true:=pS;have FZ:Hid (O=some (some (v,a.ins))):=by
        show _=_;rw[HO];show Option.map some (Option.bind (if a.tag.toNat=4 then some a.ins else none) _)=_;rw[dT b];rfl
       clear HO b;go_wp2_with fail;go_quiet (fail)
       go_wp2;((try simp only[Exit.inBlock,Exit.then]);refine bodyPost_ret (gG rfl _ _ _) rfl ?_);exact⟨_,_,_,by rw[FZ];rfl,NI.1,by rw[FZ];exact λq f=>by injection f with f;subst f;exact⟨rfl,λx A=>by injection A with A;subst A;exact⟨rfl,S _,Q⟩⟩,aR HG2 _⟩
      .have m:((a.tag.toNat:Int)==4)=false:=mN;have FZ:Hid (O=none):=by
        show _=_;rw[HO];show Option.map some (Option.bind (if a.tag.toNat=4 then some a.ins else none) _)=_;rw[cZ b];rfl
       clear HO b;exact I0
    .have HO:Hid (O=none):=by
      show _=_;rw[i,<-d];have g:=BF (l.map Pc.pair) (by rw[cR];exact h);cases f:l.map Pc.pair with
      |nil=>rw[List.map_eq_nil_iff]at f;subst f;exact absurd rfl u
      |cons a b=>
       rw[f]at g;show Option.map some (qH (a::b))=none;rw[g];rfl
     obtain⟨M,c,rfl,_⟩:=j;obtain⟨n,a⟩:=aq l.length;rw[a]at u h⊢;have b:((n:Int) != 0)=true:=oS;have f:((n:Int) != 2)=true:=oS;clear i d u h a;exact AN
  .have X:((p.tag.toNat:Int) != 48)=true:=oS;have HO:Hid (O=none):=by
    show _=_;rw[i,cZ B]
   obtain⟨M,c,rfl,_⟩:=j;clear i d B;exact AN
