import Derived.Test.YtlfifnpjeangmaaGreatDoorGEPReadA
namespace Go.Proofs.YtlfifnpjeangmaaGreatDoor
set_option maxHeartbeats 1000000
open Proofs.Tryz Go.RowKit
set_option maxRecDepth 100000
variable {p:Prop}
def dD(key use:UInt64)(z:List UInt8):List UInt8:=if 16<=z.length/\z.length<=216/\Pure.opens key use z=true then Pure.eQ key use z else []
def En(w w':World)(p:Option Pl)(e:Ending)(l:List UInt8):Prop:=∃a c,e=.returned (.slice a l.length c)/\l.length<=c/\c<=9223372036854775807/\l.length<=200/\At w' a l/\CF w w' (Pl.has p)/\∀g,g<w.heap.size->Pl.blk p≠some g->iR (a,l) g
theorem En.nil{w w':World}{p:Option Pl}(c:CF w w' (Pl.has p)):En w w' p (.returned (.slice none 0 0)) []:=⟨none,0,rfl,by simp,by decide,by simp,At.nil _ _,c,λg _ _ q=>by simp at q⟩
theorem Au(v)(p)(rb)(key a)(x)(m)(z)(n cap)(w)(y:Out w v p rb)(F:Wy x=true)(L:Hid (x=a.toNat))(hn:Hid (z.length=n))(r:n<=cap)(A:At w m z)(c:∀b off,m=some ⟨b,off,none⟩->∀j,j<z.length->¬ Pl.has p b (off+j)):
  Calls prog 235 #[v,υ key.toNat,ι x,.slice m n cap] w λe w'=>En w w' p e (dD key a z):=by
 by_cases f:n<16\/216<n
 ·have k:Hid (dD key a z=[]):=by show _=_;rw[dD,if_neg agR]
  have u:=hid (Tv v (key.toNat:Int) x m n cap w F f);clear y A c f;go_enter func235,ntmps235;go_wp2_with (go_at_call 84;refine u.o.mono ?_;rintro e w' ⟨rfl,rfl⟩)
  go_ret;rw[k.o];exact En.nil (CF.refl _ _)
 ·have u:=hid (WI v p rb key a x m z n cap w y F L hn agE agE r A c);have d:16<=z.length/\z.length<=216:=ahf;clear y A c f;cases s:Pure.opens key a z
  ·have k:Hid (dD key a z=[]):=(by show _=_;rw[dD,if_neg agM]);have B:=hid s;clear s;go_enter func235,ntmps235;go_wp2_with (go_at_call 84;refine u.o.mono ?_;rintro e w' ⟨_,P⟩;obtain⟨rfl,O⟩:=P B.o)
   go_ret;rw[k.o];exact En.nil O
  ·have k:Hid (dD key a z=Pure.eQ key a z):=(by show _=_;rw[dD,if_pos ⟨d.1,d.2,s⟩]);have J:Hid ((Pure.eQ key a z).length<=200):=(by show _<=_;rw[Pure.kX];omega);have B:=hid s;clear s;go_enter func235,ntmps235;go_wp2_with (go_at_call 84;refine u.o.mono ?_;rintro e w' ⟨G,_⟩;obtain⟨R,rfl,C⟩:=G B.o;obtain⟨T,D,_,i,_⟩:=id C;obtain⟨E,I,rfl,M,H,Q,_⟩:=D.shape)
   go_ret;rw[k.o];refine⟨E,I,rfl,M,H,J.o,Q,C.cf,λg U K S b off e q=>?_⟩;have e:E=some ⟨b,off,none⟩:=e;subst e;rcases D with⟨_,h,_⟩|⟨t,l,N,_⟩
   ·cases h
   ·injection N with e1 _ _;injection e1 with e1;injection e1 with e1 _ _;rcases i with i|i
    ·exact K (by rw[<-i,l];exact congrArg some (e1.symm.trans q))
    ·have:=i t l;omega
def rQ(s:List UInt8×Bool):UInt64×(List UInt8×Bool):=
 (Pure.joinL 0 (bC 4 s.1 s.2).1,if (bC 4 s.1 s.2).1.length=8 then(bC 4 s.1 s.2).2 else([],true))
theorem Un(S)(g:Nat)(s)(w)(m:At w S.1 S.2)(t:iR S g)(h:Rd w S g s.1 s.2):
  Calls prog 241 #[(g,0)] w λe w'=>e=.returned (υ ((rQ s).1.toNat:Int))/\Rd w' S g (rQ s).2.1 (rQ s).2.2/\CF w w' (JL g):=by
 have l:=hid (zJ S g s.1 s.2 w m h)
 obtain⟨q,n⟩:=aq (bC 4 s.1 s.2)
 have y:Hid (rQ s=(Pure.joinL 0 q.1,if q.1.length=8 then q.2 else([],true))):=by show _=_;rw[rQ,n]
 rw[n]at l
 have HS:=hid (And.intro m t)
 clear h m t n
 go_enter func241,ntmps241
 go_wp2_with fail
 refine l.o.mono ?_
 rintro e w2 ⟨v,rfl,c,r,i⟩
 obtain⟨G,E,rfl,_⟩:=id c
 have b:=iR.at HS.o.1 i.yu (λ_ e=>e▸HS.o.2)
 have z:=c.at b
 obtain⟨ok,x⟩:∃ok:Bool,(((q.1.length:Int)==8)=ok):=⟨_,rfl⟩
 have p:=hid (tY S g _ _ ok w2 r)
 have B:=hid i
 have HB:=hid (λ(W:World) (k:At W S.1 S.2)=>(c.at k).2.2.2)
 have D:Hid (∀W,Rd W S g (if ok=true then q.2.1 else []) (if ok=true then q.2.2 else true)->Rd W S g (rQ s).2.1 (rQ s).2.2):=by
  intro W H;grind [RowKit.Hid.o]
 have j:=hid b
 clear l c r i b z
 go_wp2_with fail
 refine p.o.mono ?_
 rintro e d ⟨rfl,u,f⟩
 have a:=iR.at j.o f.yu (λ_ e=>e▸HS.o.2)
 have A:=hid (KT 0 q.1 G E d (HB.o d a).1 (HB.o d a).2)
 have C:=hid (B.o.trans f (λ_ _ _ e=>e))
 have F:=hid (D.o d u)
 clear u f a p
 go_wp2_with fail
 refine A.o.mono ?_
 rintro e I ⟨rfl,rfl⟩
 go_wp2
 go_ret
 exact⟨by rw[y.o];rfl,F.o,C.o⟩
theorem ahQ(h:p:=by rw[bC,hc];simp only[e,if_false]):p:=h
theorem aif(h:p:=by rw[bC,hc];simp only[e,if_true]):p:=h
def st(s:List UInt8×Bool):Option (List UInt8):=if s.2=true then none else some s.1
def lK(s:List UInt8×Bool):Prop:=s.2=true->s.1=[]
theorem acf:Box.cut []=none:=by
 grind [Box.cut]
theorem oG(a)(f):bC a [] f=([],[],true):=by rw[bC,acf]
theorem lK.take{s:List UInt8×Bool}(h:lK s)(a):lK (bC a s.1 s.2).2:=λe=>(oD a s.1 s.2 h e).2
theorem lK.step{s:List UInt8×Bool}(h:lK s):lK (bM s).2:=IA h
theorem lK.name{s:List UInt8×Bool}(h:lK s):lK (fH s).2:=by
 unfold fH;simp only;split
 ·exact h.take 4
 ·exact λ_=>rfl
variable {β:Type}
theorem wX{s:List UInt8×Bool}(h:lK s)(k:List UInt8->List UInt8->Option β):(st s).bind (dL dh k)=(st (fH s).2).bind (k (fH s).1):=by
 obtain⟨l,f⟩:=s;cases f
 ·cases hc:Box.cut l with
  |none=>
   have a:bC 4 l false=([],[],true):=(by rw[bC,hc]);simp[st,dL,hc,fH,a]
  |some q=>
   obtain⟨t,i,r⟩:=q;by_cases e:t.toNat=4
   ·have a:bC 4 l false=(i,r,false):=aif;cases b:cO i<;>simp[st,dL,hc,fH,a,dh,e,b]
   ·have a:bC 4 l false=([],[],true):=ahQ;simp[st,dL,hc,fH,a,dh,e]
 ·have c:l=[]:=h rfl;subst c;simp[st,fH,oG]
theorem ku{s:List UInt8×Bool}(h:lK s)(k:Int->List UInt8->Option β):(st s).bind (dL bG k)=(st (bM s).2).bind (k (bM s).1):=by
 obtain⟨l,f⟩:=s;cases f
 ·cases b:Box.cut l with
  |none=>
   grind [bC,st,dL,bM]
  |some q=>
   grind [dL,bC,bM,bG,st]
 ·have a:l=[]:=h rfl;grind [oG,st,bM]
theorem Su{s:List UInt8×Bool}(h:lK s)(k:List UInt8->List UInt8->Option β):(st s).bind (dL jm k)=(st (bC 4 s.1 s.2).2).bind (k (bC 4 s.1 s.2).1):=by
 obtain⟨l,f⟩:=s;cases f
 ·cases hc:Box.cut l with
  |none=>
   have a:bC 4 l false=([],[],true):=(by rw[bC,hc]);simp[st,dL,hc,a]
  |some q=>
   obtain⟨t,i,r⟩:=q;by_cases e:t.toNat=4
   ·have a:bC 4 l false=(i,r,false):=aif;simp[st,dL,hc,a,jm,e]
   ·have a:bC 4 l false=([],[],true):=ahQ;simp[st,dL,hc,a,jm,e]
 ·have b:l=[]:=h rfl;subst b;simp[st,oG]
theorem Sv{α:Type}{s:List UInt8×Bool}(h:lK s)(f:qz->Option α)(c:List UInt8->Option α)(d:∀t i,f (t,i)=if t.toNat=48 then c i else none)(k:α->List UInt8->Option β):
  (st s).bind (dL f k)=(st (bC 48 s.1 s.2).2).bind (λr=>(c (bC 48 s.1 s.2).1).bind λa=>k a r):=by
 obtain⟨l,j⟩:=s
 cases j
 ·cases hc:Box.cut l with
  |none=>
   have b:bC 48 l false=([],[],true):=(by rw[bC,hc]);simp[st,dL,hc,b]
  |some q=>
   obtain⟨t,i,r⟩:=q;by_cases e:t.toNat=48
   ·have b:bC 48 l false=(i,r,false):=aif;simp[st,dL,hc,b,d,e]
   ·have b:bC 48 l false=([],[],true):=ahQ;simp[st,dL,hc,b,d,e]
 ·have g:l=[]:=h rfl;subst g;simp[st,oG]
theorem vS(s)(b:β):(st s).bind (ve b)=if (!s.2&&decide (s.1=[]))=true then some b else none:=by
 grind [ve,st]
theorem zM(a):lh a=(st (bO a)).bind Box.dF:=by
 grind [bC,st,bO,lh]
theorem uH(a):lK (bO a):=mo a
theorem IE(b)(a):lK (jd b a):=yw b a
theorem MB(b)(a)(f:List qz->Option β)(k:List UInt8->Option β)(c:∀l,k l=(Box.dF l).bind f):
  (if b.length<=300 then(lh b).bind (bX bG λn=>if n=a then f else λ_=>none) else none)=(st (jd b a)).bind k:=by
 have d:(lh b).bind (bX bG λn=>if n=a then f else λ_=>none)=(st (bO b)).bind (dL bG λn=>if n=a then k else λ_=>none):=by
  rw[zM,Option.bind_assoc];congr 1;grind [Xy,dZ]
 grind [ku,uH,st,jd]
def JP:List UInt8->Option (Int×List UInt8):=dL bG λn=>dL jm λz=>ve (n,z)
theorem Qm(l):JP l=(Box.dF l).bind qD:=
 dZ _ _ _ (λn l=>dZ _ _ _ (λz l=>wS (n,z) l) l) l
theorem IG{s:List UInt8×Bool}(h:lK s)(k:Int×List UInt8->List UInt8->Option β):(st s).bind (dL bG λn=>dL jm λz=>k (n,z))=(st (jw s).2).bind (k (jw s).1):=by
 rw[ku h,Su h.step];rfl
def MC(i:List UInt8):Option (Option (Int×List UInt8)):=if i=[] then some none else(JP i).map some
theorem Yf(t)(i):mi (t,i)=if t.toNat=48 then MC i else none:=by
 unfold mi zq MC;by_cases e:t.toNat=48
 ·simp only[e,if_true];by_cases c:i=[]
  ·subst c;rw[if_pos rfl,Box.wO rfl]
  ·rw[if_neg c,Qm];cases a:Box.dF i with
   |none=>rfl
   |some ps=>
    cases ps with
    |nil=>
     exfalso;cases b:Box.cut i with
     |none=>rw[Box.nZ (fX.2 c) b]at a;cases a
     |some q=>
      obtain⟨g,h,f⟩:=q;rw[Box.qW b]at a;cases d:Box.dF f with
      |none=>rw[d]at a;cases a
      |some z=>rw[d]at a;simp at a
    |cons p ps=>rfl
 ·simp only[e,if_false]
theorem ahc(h:p:=by grind [lK.step]):p:=h
theorem aij(h:p:=by grind [lK.name]):p:=h
def Yg:List qz->Option FQ:=bX dh λc=>bX dh λs=>bX bG λn=>bX bG λf=>bX bG λt=>bX bG λr=>bX bG λo=>bX mi λp=>xB ⟨c,s,n,f,t,r,o,p⟩
def Er:List UInt8->Option FQ:=dL dh λc=>dL dh λs=>dL bG λn=>dL bG λf=>dL bG λt=>dL bG λr=>dL bG λo=>dL mi λp=>ve ⟨c,s,n,f,t,r,o,p⟩
theorem Uu(l):Er l=(Box.dF l).bind Yg:=
 dZ _ _ _ (λc l=>dZ _ _ _ (λs l=>dZ _ _ _ (λn l=>dZ _ _ _ (λf l=>dZ _ _ _ (by grind [dZ,wS]) l) l) l) l) l
theorem Qn{i h d g s3 s4 s5:List UInt8×Bool}{a b:List UInt8}{f:List UInt8×Bool}{j k o n m:Int}{c:List UInt8×(List UInt8×Bool)}(y:lK i)(C:fH i=(a,f))(u:fH f=(b,h))(B:bM h=(j,d))(z:bM d=(k,g))(s:bM g=(o,s3))(E:bM s3=(n,s4))(w:bM s4=(m,s5))(l:bC 48 s5.1 s5.2=c):
  lK (c.1,c.2.2)/\(st i).bind Er=(st c.2).bind (λr=>(MC c.1).bind λp=>ve ⟨a,b,j,k,o,n,m,p⟩ r):=by
 have v:lK f:=aij
 have x:lK h:=aij
 have A:lK d:=ahc
 have t:lK g:=ahc
 have D:lK s3:=ahc
 have F:lK s4:=ahc
 have q:lK s5:=ahc
 refine⟨λe=>?_,?_⟩
 ·rw[<-l]at e⊢;exact(oD 48 _ _ q e).1
 ·unfold Er;rw[wX y,C,wX v,u,ku x,B,ku A,z,ku t,s,ku D,E,ku F,w,Sv q mi MC Yf,l]
def Sw(aX:List UInt8):FQ:=⟨(rfA aX).1,(Ar aX).1,Af aX 0,Af aX 1,Af aX 2,Af aX 3,Af aX 4,if (Cn aX).1=[] then none else some (FJ aX).1⟩
theorem nN(s)(k):bM (iO s k)=((bM (iO s k)).1,iO s (k+1)):=rfl
theorem wY(s):bM s=((bM (iO s 0)).1,iO s 1):=rfl
theorem Yh(a):nD a=(st (jd a 10)).bind Er:=by
 rw[<-MB a 10 Yg Er Uu];rfl
theorem Qo(c):nD c=if uF c=true then some (Sw c) else none:=by
 have q:=Yh c;have x:=IE c 10;have r:fH (jd c 10)=rfA c:=rfl;have o:fH (rfA c).2=Ar c:=rfl;have k:bM (Ar c).2=(Af c 0,iO (Ar c).2 1):=wY _;have g:bM (iO (Ar c).2 1)=(Af c 1,iO (Ar c).2 2):=nN _ 1;have i:bM (iO (Ar c).2 2)=(Af c 2,iO (Ar c).2 3):=nN _ 2;have u:bM (iO (Ar c).2 3)=(Af c 3,iO (Ar c).2 4):=nN _ 3;have j:bM (iO (Ar c).2 4)=(Af c 4,iO (Ar c).2 5):=nN _ 4;have f:bC 48 (iO (Ar c).2 5).1 (iO (Ar c).2 5).2=Cn c:=rfl;have l:FJ c=if (Cn c).1=[] then((0,[]),((Cn c).1,(Cn c).2.2)) else jw ((Cn c).1,(Cn c).2.2):=rfl;have t:uF c=((!(FJ c).2.2&&decide ((FJ c).2.1=[]))&&(!(Cn c).2.2&&decide ((Cn c).2.1=[]))):=rfl;have s:Sw c=⟨(rfA c).1,(Ar c).1,Af c 0,Af c 1,Af c 2,Af c 3,Af c 4,if (Cn c).1=[] then none else some (FJ c).1⟩:=rfl;generalize iO (Ar c).2 1=s1 at *;generalize iO (Ar c).2 2=s2 at *;generalize iO (Ar c).2 3=s3 at *;generalize iO (Ar c).2 4=s4 at *;generalize iO (Ar c).2 5=s5 at *;generalize Af c 0=n0 at *;generalize Af c 1=n1 at *;generalize Af c 2=n2 at *;generalize Af c 3=n3 at *;generalize Af c 4=n4 at *;generalize Sw c=Q at *;generalize uF c=ok at *;generalize FJ c=P at *;generalize Cn c=C at *;generalize Ar c=qB at *;generalize rfA c=qA at *;generalize jd c 10=q0 at *;obtain⟨a,A⟩:=qA;obtain⟨b,B⟩:=qB;obtain⟨p,d⟩:=Qn x r o k g i u j f;rw[q,d,t,s];clear d r o k g i u j f q t s;by_cases e:C.1=[]
 ·rw[if_pos e]at l⊢;have m:MC C.1=some none:=by rw[MC,if_pos e]
  have y:((!P.2.2&&decide (P.2.1=[]))&&(!C.2.2&&decide (C.2.1=[])))=(!C.2.2&&decide (C.2.1=[])):=by
   rw[l];simp only[e,decide_true,fW];cases C.2.2<;>simp
  rw[m,y,<-vS];rfl
 ·rw[if_neg e]at l⊢;have v:C.2.2=false:=by
   cases h:C.2.2
   ·rfl
   ·exact absurd (p h) e
  have m:MC C.1=if (!P.2.2&&decide (P.2.1=[]))=true then some (some P.1) else none:=by
   have w:JP C.1=(st (C.1,C.2.2)).bind (dL bG λn=>dL jm λz=>ve (n,z)):=(by rw[v];rfl);rw[MC,if_neg e,w,IG p (λa=>ve a),<-l,vS];split<;>rfl
  rw[m];cases D:(!P.2.2&&decide (P.2.1=[]))
  ·simp only[gj,fL,if_false];cases st C.2<;>rfl
  ·simp only[gn,if_true];rw[<-vS];rfl
set_option maxHeartbeats 2000000
variable {w W W':World}{ex:Nat->Nat->Prop}{S:Source}{g g' fb:Nat}{s s':List UInt8×Bool}{cs cs':Array Value}
theorem RS.beside{ps:List (Nat×Nat)}(h:RS w W ex S g s fb cs)(a:RS w W' ex S g' s' fb cs')(c:CF W W' (exN g' ps))(d:∀p∈ps,p.1=fb)(b:g≠g'):RS w W' ex S g s fb cs':=by
 refine⟨h.rd.keep (c.block g h.rd.lt (λo e=>?_)),a.blk,a.cf,a.src,h.ng,a.nf,a.hf,h.hg,h.ne⟩;rcases e with e|e
 ·exact b e
 ·exact h.ne (d _ e).symm
def Yi(W:World)(g:Nat)(c0 c1 c2 c3 c4 c5 c6 c7 c8:Value):World:=(((((((((W.setCell (g,0) c0).setCell (g,1) c1).setCell (g,2) c2).setCell (g,3) c3).setCell (g,4) c4).setCell (g,5) c5).setCell (g,6) c6).setCell (g,7) c7).setCell (g,8) c8)
theorem Tryz.ME:(prog.info? 276).map (·.size)=some 9:=by kernel_rfl
theorem dB.nine{w:World}{g:Nat}{k d j i b e f c a:Value}(h:dB w g #[k,d,j,i,b,e,f,c,a]):w.cell? (g,0)=some k/\w.cell? (g,1)=some d/\w.cell? (g,2)=some j/\w.cell? (g,3)=some i/\w.cell? (g,4)=some b/\w.cell? (g,5)=some e/\w.cell? (g,6)=some f/\w.cell? (g,7)=some c/\w.cell? (g,8)=some a:=⟨h.cell 0,h.cell 1,h.cell 2,h.cell 3,h.cell 4,h.cell 5,h.cell 6,h.cell 7,h.cell 8⟩
theorem RS.Yi{q t n v o r p u m:Value}(h:RS w W ex S g s fb #[q,t,n,v,o,r,p,u,m])(j d f l c e i b a):RS w (Yi W fb j d f l c e i b a) ex S g s fb #[j,d,f,l,c,e,i,b,a]:=by
 have k:=((((((((h.store 0 j).store 1 d).store 2 f).store 3 l).store 4 c).store 5 e).store 6 i).store 7 b).store 8 a;exact agn
theorem RS.Yj{k d j i b e f c a:Value}(h:RS w W ex S g s fb #[k,d,j,i,b,e,f,c,a]):(loadVar 276 ⟨fb,0,none⟩).run prog W=.ok (.agg #[k,d,j,i,b,e,f,c,a]) W:=h.blk.load 276 _ underlying276 rfl Tryz.ME
def Wh(aX:List UInt8):List UInt8×(List UInt8×Bool):=bC 48 (jd aX 12).1 (jd aX 12).2
def rnS(aX:List UInt8):List UInt8×(List UInt8×Bool):=fH ((Wh aX).1,(Wh aX).2.2)
def OP(aX:List UInt8):(Int×List UInt8)×(List UInt8×Bool):=jw (rnS aX).2
def Yk(aX:List UInt8):List UInt8×(List UInt8×Bool):=bC 4 (Wh aX).2.1 (Wh aX).2.2
def Co(aX:List UInt8):List UInt8×(List UInt8×Bool):=fH (Yk aX).2
def Es(aX:List UInt8)(j:Nat):Int:=(bM (iO (Co aX).2 j)).1
def zN(aX:List UInt8):Bool:=(!(OP aX).2.2&&decide ((OP aX).2.1=[]))&&(!(iO (Co aX).2 4).2&&decide ((iO (Co aX).2 4).1=[]))
abbrev zO:Array Value:=#[.string ⟨#[]⟩,ι 0,.slice none 0 0,.slice none 0 0,.string ⟨#[]⟩,ι 0,ι 0,ι 0,ι 0]
def Av(aX:List UInt8)(v u:Value):List Value:=[.string ⟨(rnS aX).1.toArray⟩,ι (OP aX).1.1,v,u,.string ⟨(Co aX).1.toArray⟩,ι (Es aX 0),ι (Es aX 1),ι (Es aX 2),ι (Es aX 3)]
theorem adD(h:p:=by
 go_wp2
 refine bodyPost_ret (aF results139 _ _ _ w.heap.size rfl _ HZ.o.Yj) rfl ⟨_,by rw[qa.o];rfl,λe=>(by rw[qa.o]at e;cases e),⟨rfl,rfl⟩,HZ.o.cf.gb (λ_ _ _ e=>e)⟩):p:=h
theorem JQ(S)(b)(n)(ao)(cap)(w)(hn:Hid (b.length=n))(hs:At w S.1 S.2)(h:Bs S (.slice ao n cap) b):
  Calls prog 139 #[.slice ao n cap] w λe w'=>∃cs,e=.returned (.tuple #[.agg cs,.bool (zN b)])/\(zN b=true->∃v u,cs=(Av b v u).toArray/\Bs S v (OP b).1.2/\Bs S u (Yk b).1)/\(cs.size=9/\cs.toList.all (·.oneCell')=true)/\w.grownBy w' none:=by
 have G0:=cx w (.cells zO 276) none
 have s0:(w.alloc (.cells zO 276)).heap.size=w.heap.size+1:=cF _ _
 have HL:=hid (Iz S b n ao cap 12 _ hn (hs.below G0) h)
 have HB0:=hid (And.intro (dB.new w zO 276) G0)
 have dY:=hid hs
 have hbad:=yw b 12
 obtain⟨G,h0⟩:=aq (jd b 12)
 obtain⟨i,hT⟩:=aq (bC 48 G.1 G.2)
 obtain⟨l,hS⟩:=aq (fH (i.1,i.2.2))
 obtain⟨a,hZ⟩:=aq (jw l.2)
 obtain⟨x,hP⟩:=aq (bC 4 i.2.1 i.2.2)
 obtain⟨A,hV⟩:=aq (fH x.2)
 obtain⟨N,hN⟩:∃N:Nat->Int,∀j,(bM (iO A.2 j)).1=N j:=⟨_,λ_=>rfl⟩
 obtain⟨qE,hE⟩:=aq (iO A.2 4)
 have ad:Hid (Wh b=i):=by show _=_;rw[Wh,h0,hT]
 have ai:Hid (rnS b=l):=by show _=_;rw[rnS,ad.o,hS]
 have U:Hid (OP b=a):=by show _=_;rw[OP,ai.o,hZ]
 have ah:Hid (Yk b=x):=by show _=_;rw[Yk,ad.o,hP]
 have X:Hid (Co b=A):=by show _=_;rw[Co,ah.o,hV]
 have Qk:Hid (∀j,Es b j=N j):=λj=>by rw[Es,X.o,hN]
 have Yc:Hid (zN b=((!a.2.2&&decide (a.2.1=[]))&&(!qE.2&&decide (qE.1=[])))):=by show _=_;rw[zN,U.o,X.o,hE]
 have I:=hid (And.intro hT (And.intro hS (And.intro hZ (And.intro hP (And.intro hV (And.intro hN hE))))))
 rw[h0]at HL hbad
 clear hs h G0 h0 hT hS hZ hP hV hN hE hn
 go_enter func139,ntmps139
 go_wp2_with fail
 refine HL.o.mono ?_
 rintro e w1 ⟨v,rfl,b1,g1⟩
 obtain⟨a1,c1,rfl,_⟩:=id b1
 have IC:RS w (w1.alloc (.cells #[.slice a1 G.1.length c1,.bool G.2] 314)) (λ_ _=>False) S w1.heap.size G w.heap.size zO:=by
  exact abP
 have R:=hid (Ei S w1.heap.size G.1 G.2 _ IC.src IC.rd)
 have Y:=hid (oD 48 G.1 G.2 hbad)
 rw[I.o.1]at R Y
 have H1:=hid IC
 clear b1 g1 HB0 HL IC hbad s0
 go_wp2_with fail
 refine R.o.mono ?_
 rintro e w2 ⟨v2,rfl,b2,r2,f2⟩
 obtain⟨aT,cT,rfl,_⟩:=id b2
 have V9:=H1.o.read f2 r2
 have z2:=V9.size
 have ab:=Rd.new (w:=w2) b2 (λe=>(Y.o e).1) 314
 have V:=hid (iR.new V9.src (cy w2.heap.size))
 have Z:=V9.alloc (.cells #[.slice aT i.1.length cT,.bool i.2.2] 314)
 have B:RS w (w2.alloc (.cells #[.slice aT i.1.length cT,.bool i.2.2] 314)) (λ_ _=>False) S w2.heap.size (i.1,i.2.2) w.heap.size zO:=⟨ab,Z.blk,Z.cf,Z.src,V.o,Z.nf,cy _,by omega,by omega⟩
 have T:=hid (oF S w2.heap.size (i.1,i.2.2) _ B.src B.ng B.rd)
 rw[I.o.2.1]at T
 have H2:=hid (And.intro Z B)
 have zz:w.heap.size<w2.heap.size/\w1.heap.size<w2.heap.size:=agE
 clear b2 r2 f2 R H1 Y V9 Z B ab z2
 go_wp2_with fail
 refine T.o.mono ?_
 rintro e w4 ⟨rfl,r4,f4⟩
 have M:=H2.o.1.other f4 V.o agE agE agE
 have an:=H2.o.2.read f4 r4
 obtain⟨⟨d4,au⟩,Ut⟩:=M.slot 0 (by show 0<9;decide)
 have m:RS w (w4.setCell (w,0) (.string l.1)) (λ_ _=>False) S w1.heap.size i.2 w.heap.size #[.string l.1,ι 0,.slice none 0 0,.slice none 0 0,.string ⟨#[]⟩,ι 0,ι 0,ι 0,ι 0]:=M.store 0 _
 have f:RS w (w4.setCell (w,0) (.string l.1)) (λ_ _=>False) S w2.heap.size l.2 w.heap.size #[.string l.1,ι 0,.slice none 0 0,.slice none 0 0,.string ⟨#[]⟩,ι 0,ι 0,ι 0,ι 0]:=an.store 0 _
 have Q:=hid (zL S w2.heap.size l.2 _ f.src f.ng f.rd)
 rw[I.o.2.2.1]at Q
 have H3:=hid (And.intro m f)
 clear r4 f4 T H2 M an m f
 go_wp2_with fail
 refine Q.o.mono ?_
 rintro e w5 ⟨v5,rfl,b5,r5,f5⟩
 obtain⟨D,E,rfl,_⟩:=id b5
 have m:=H3.o.1.other f5 V.o agE agE agE
 have f:=H3.o.2.read f5 r5
 obtain⟨⟨d5,aA⟩,aB⟩:=m.slot 1 (by show 1<9;decide)
 obtain⟨⟨aL,ax⟩,az⟩:=m.slot 2 (by show 2<9;decide)
 have d:RS w ((w5.setCell (w,1) (ι a.1.1)).setCell (w,2) (.slice D a.1.2.length E)) (λ_ _=>False) S w1.heap.size i.2 w.heap.size #[.string l.1,ι a.1.1,.slice D a.1.2.length E,.slice none 0 0,.string ⟨#[]⟩,ι 0,ι 0,ι 0,ι 0]:=(m.store 1 _).store 2 _
 have C:RS w ((w5.setCell (w,1) (ι a.1.1)).setCell (w,2) (.slice D a.1.2.length E)) (λ_ _=>False) S w2.heap.size a.2 w.heap.size #[.string l.1,ι a.1.1,.slice D a.1.2.length E,.slice none 0 0,.string ⟨#[]⟩,ι 0,ι 0,ι 0,ι 0]:=(f.store 1 _).store 2 _
 have ae:=hid b5
 have Yb:=hid (zJ S w1.heap.size i.2.1 i.2.2 _ d.src d.rd)
 rw[I.o.2.2.2.1]at Yb
 have H4:=hid (And.intro d C)
 clear r5 f5 b5 Q H3 m f d C au Ut
 go_wp2_with fail
 refine Yb.o.mono ?_
 rintro e w6 ⟨v6,rfl,b6,r6,f6⟩
 obtain⟨K,H,rfl,_⟩:=id b6
 have d:=H4.o.1.read f6 r6
 have C:=H4.o.2.other f6 H4.o.1.ng agE (λe=>H4.o.1.ne e.symm) H4.o.1.hg
 obtain⟨⟨d6,aw⟩,ay⟩:=d.slot 3 (by show 3<9;decide)
 have c:RS w (w6.setCell (w,3) (.slice K x.1.length H)) (λ_ _=>False) S w1.heap.size x.2 w.heap.size #[.string l.1,ι a.1.1,.slice D a.1.2.length E,.slice K x.1.length H,.string ⟨#[]⟩,ι 0,ι 0,ι 0,ι 0]:=d.store 3 _
 have y:RS w (w6.setCell (w,3) (.slice K x.1.length H)) (λ_ _=>False) S w2.heap.size a.2 w.heap.size #[.string l.1,ι a.1.1,.slice D a.1.2.length E,.slice K x.1.length H,.string ⟨#[]⟩,ι 0,ι 0,ι 0,ι 0]:=C.store 3 _
 have aj:=hid b6
 have Sr:=hid (oF S w1.heap.size x.2 _ c.src c.ng c.rd)
 rw[I.o.2.2.2.2.1]at Sr
 have H5:=hid (And.intro c y)
 clear r6 f6 b6 Yb H4 d C c y aA aB ax az
 go_wp2_with fail
 refine Sr.o.mono ?_
 rintro e w7 ⟨rfl,r7,f7⟩
 have c:=H5.o.1.read f7 r7
 have y:=H5.o.2.other f7 H5.o.1.ng agE (λe=>H5.o.1.ne e.symm) H5.o.1.hg
 obtain⟨⟨d7,aD⟩,av⟩:=c.slot 4 (by show 4<9;decide)
 have O:RS w (w7.setCell (w,4) (.string A.1)) (λ_ _=>False) S w1.heap.size A.2 w.heap.size #[.string l.1,ι a.1.1,.slice D a.1.2.length E,.slice K x.1.length H,.string A.1,ι 0,ι 0,ι 0,ι 0]:=c.store 4 _
 have ak:RS w (w7.setCell (w,4) (.string A.1)) (λ_ _=>False) S w2.heap.size a.2 w.heap.size #[.string l.1,ι a.1.1,.slice D a.1.2.length E,.slice K x.1.length H,.string A.1,ι 0,ι 0,ι 0,ι 0]:=y.store 4 _
 have ag:=hid (And.intro ae.o aj.o)
 have pl:=O.places [5,6,7,8] (λj hj=>by show j<9;simp at hj;omega) agF 319
 rw[World.size_setCell]at pl
 have F:=O.alloc (.cells #[(w,5),(w,6),(w,7),(w,8)] 319)
 have al:=ak.alloc (.cells #[(w,5),(w,6),(w,7),(w,8)] 319)
 have OO:=hid (kL S w1.heap.size w7.heap.size _ 4 A.2 _ (hid rfl) agE (F.stays [5,6,7,8]) F.rd pl)
 simp only[I.o.2.2.2.2.2.1]at OO
 rw[I.o.2.2.2.2.2.2]at OO
 have t:=hid (And.intro F al)
 clear r7 f7 c y O ak Sr H5 pl F al aw ay ae aj
 go_wp2_with fail
 refine OO.o.mono ?_
 rintro e w8 ⟨rfl,r8,c8,J⟩
 have L:∀p∈([5,6,7,8].map λj=>(w.heap.size,j)),p.1=w.heap.size:=λp hp=>by
  exact adC
 have P:RS w w8 (λ_ _=>False) S w1.heap.size qE w.heap.size #[.string l.1,ι a.1.1,.slice D a.1.2.length E,.slice K x.1.length H,.string A.1,ι (N 0),ι (N 1),ι (N 2),ι (N 3)]:=by
  refine t.o.1.nums J r8 L rfl (λj hj=>?_)
  ·have aC:j<9:=hj;match j,aC with
   |0,_=>exact J.cell (t.o.1.blk.cell 0) (λe=>by rcases e with e|e;exact t.o.1.ne e;simp at e)
   |1,_=>exact J.cell (t.o.1.blk.cell 1) (λe=>by rcases e with e|e;exact t.o.1.ne e;simp at e)
   |2,_=>exact J.cell (t.o.1.blk.cell 2) (λe=>by rcases e with e|e;exact t.o.1.ne e;simp at e)
   |3,_=>exact J.cell (t.o.1.blk.cell 3) (λe=>by rcases e with e|e;exact t.o.1.ne e;simp at e)
   |4,_=>exact J.cell (t.o.1.blk.cell 4) (λe=>by rcases e with e|e;exact t.o.1.ne e;simp at e)
   |5,_=>exact c8 0 (w.heap.size,5) rfl
   |6,_=>exact c8 1 (w.heap.size,6) rfl
   |7,_=>exact c8 2 (w.heap.size,7) rfl
   |8,_=>exact c8 3 (w.heap.size,8) rfl
 have af:=t.o.2.beside P J L agE
 have ar:=hid ag.o
 have r:=hid (And.intro P af)
 clear r8 c8 J P af L OO t ag I aD av
 obtain⟨y0,y1,y2,y3,y4,y5,y6,y7,y8⟩:=r.o.1.blk.nine
 have aG:=(r.o.1.slot 0 (by show 0<9;decide)).2
 have aJ:=(r.o.1.slot 1 (by show 1<9;decide)).2
 have aK:=(r.o.1.slot 2 (by show 2<9;decide)).2
 have aI:=(r.o.1.slot 3 (by show 3<9;decide)).2
 have aE:=(r.o.1.slot 4 (by show 4<9;decide)).2
 have aN:=(r.o.1.slot 5 (by show 5<9;decide)).2
 have aO:=(r.o.1.slot 6 (by show 6<9;decide)).2
 have aQ:=(r.o.1.slot 7 (by show 7<9;decide)).2
 have aH:=(r.o.1.slot 8 (by show 8<9;decide)).2
 have k:=hid (jQ S w2.heap.size _ _ _ r.o.2.rd)
 have q:=hid (jQ S w1.heap.size _ _ _ r.o.1.rd)
 have HZ:=hid (r.o.1.Yi (.string ⟨#[]⟩) (ι 0) (.slice none 0 0) (.slice none 0 0) (.string ⟨#[]⟩) (ι 0) (ι 0) (ι 0) (ι 0))
 have HY:=hid (r.o.1.Yi (.string l.1) (ι a.1.1) (.slice D a.1.2.length E) (.slice K x.1.length H) (.string A.1) (ι (N 0)) (ι (N 1)) (ι (N 2)) (ι (N 3)))
 unfold Yi at HZ HY
 cases hq1:(!a.2.2&&decide (a.2.1=[]))
 ·have qa:Hid (zN b=false):=by show _=_;rw[Yc.o,hq1];rfl
  rw[hq1]at k;go_wp2_with fail;refine k.o.mono ?_;rintro e w9 ⟨rfl,rfl⟩;clear k q HY hq1;exact adD
 ·rw[hq1]at k;cases hq2:(!qE.2&&decide (qE.1=[]))
  ·have qa:Hid (zN b=false):=ahi;rw[hq2]at q;go_wp2_with fail;refine k.o.mono ?_;rintro e w9 ⟨rfl,rfl⟩;go_wp2_with fail;refine q.o.mono ?_;rintro e w9 ⟨rfl,rfl⟩;clear k q HY hq1 hq2;exact adD
  ·have qa:Hid (zN b=true):=ahi;rw[hq2]at q;go_wp2_with fail;refine k.o.mono ?_;rintro e w9 ⟨rfl,rfl⟩;go_wp2_with fail;refine q.o.mono ?_;rintro e w9 ⟨rfl,rfl⟩;clear k q HZ hq1 hq2;go_wp2;refine bodyPost_ret (aF results139 _ _ _ w.heap.size rfl _ HY.o.Yj) rfl ⟨_,by rw[qa.o];rfl,λ_=>?_,⟨rfl,rfl⟩,HY.o.cf.gb (λ_ _ _ e=>e)⟩;refine⟨_,_,by rw[Av,ai.o,U.o,X.o,Qk.o,Qk.o,Qk.o,Qk.o],?_,?_⟩
   ·rw[U.o];exact ar.o.1
   ·rw[ah.o];exact ar.o.2
def ad5:List qz->Option NQ:=bX gT λc=>bX jm λp=>bX dh λs=>bX bG λn=>bX bG λt=>bX bG λr=>bX bG λo=>xB ⟨c.1,c.2.1,c.2.2,p,s,n,t,r,o⟩
def MG:List UInt8->Option NQ:=dL gT λc=>dL jm λp=>dL dh λs=>dL bG λn=>dL bG λt=>dL bG λr=>dL bG λo=>ve ⟨c.1,c.2.1,c.2.2,p,s,n,t,r,o⟩
theorem Yl(l):MG l=(Box.dF l).bind ad5:=
 dZ _ _ _ (λc l=>dZ _ _ _ (λp l=>dZ _ _ _ (λs l=>dZ _ _ _ (λn l=>dZ _ _ _ (by grind [dZ,wS]) l) l) l) l) l
def sw:List UInt8->Option (List UInt8×Int×List UInt8):=dL dh λs=>dL bG λn=>dL jm λz=>ve (s,n,z)
theorem Qp(l):sw l=(Box.dF l).bind qG:=
 dZ _ _ _ (λs l=>dZ _ _ _ (λn l=>dZ _ _ _ (λz l=>wS (s,n,z) l) l) l) l
theorem MH(t)(i):gT (t,i)=if t.toNat=48 then sw i else none:=by
 grind [Qp,zq,gT]
def rnQ(aX:List UInt8):NQ:=⟨(rnS aX).1,(OP aX).1.1,(OP aX).1.2,(Yk aX).1,(Co aX).1,Es aX 0,Es aX 1,Es aX 2,Es aX 3⟩
theorem Uw{α β γ:Type}(x:Option α)(y:Option β)(f:β->α->Option γ):x.bind (λa=>y.bind λb=>f b a)=y.bind λb=>x.bind (f b):=by cases x<;>cases y<;>rfl
theorem Ux{g u x i l s3 s4 m:List UInt8×Bool}{b:List UInt8×(List UInt8×Bool)}{a:List UInt8}{d:(Int×List UInt8)×(List UInt8×Bool)}{p v:List UInt8}{j k z y:Int}(B:lK g)(C:bC 48 g.1 g.2=b)(hS:fH (b.1,b.2.2)=(a,m))(J:jw m=d)(S:bC 4 b.2.1 b.2.2=(p,u))(I:fH u=(v,x))(O:bM x=(j,i))(L:bM i=(k,l))(E:bM l=(z,s3))(R:bM s3=(y,s4)):
  (st g).bind MG=if ((!d.2.2&&decide (d.2.1=[]))&&(!s4.2&&decide (s4.1=[])))=true then some ⟨a,d.1.1,d.1.2,p,v,j,k,z,y⟩ else none:=by
 have G:lK (b.1,b.2.2):=λe=>by rw[<-C]at e⊢;exact(oD 48 _ _ B e).1
 have h:lK b.2:=by grind [lK.take]
 have M:lK m:=aij
 have N:lK u:=by grind [lK.take]
 have Q:lK x:=aij
 have F:lK i:=ahc
 have P:lK l:=ahc
 have H:lK s3:=ahc
 have A:∀c:List UInt8×Int×List UInt8,(st b.2).bind (dL jm λp=>dL dh λs=>dL bG λn=>dL bG λt=>dL bG λr=>dL bG λo=>ve (⟨c.1,c.2.1,c.2.2,p,s,n,t,r,o⟩:NQ))=if (!s4.2&&decide (s4.1=[]))=true then some ⟨c.1,c.2.1,c.2.2,p,v,j,k,z,y⟩ else none:=by
  intro c;rw[Su h,S,wX N,I,ku Q,O,ku F,L,ku P,E,ku H,R,vS]
 have f:(st (b.1,b.2.2)).bind sw=if (!d.2.2&&decide (d.2.1=[]))=true then some (a,d.1.1,d.1.2) else none:=by
  unfold sw;rw[wX G,hS,IG M (λc=>ve (a,c.1,c.2)),J,vS]
 unfold MG
 rw[Sv B gT sw MH,C,Uw]
 cases q:b.2.2
 ·have w:sw b.1=(st (b.1,b.2.2)).bind sw:=by rw[q];rfl
  rw[w,f];cases D:(!d.2.2&&decide (d.2.1=[]))
  ·grind
  ·simp only[gn,if_true];exact A (a,d.1.1,d.1.2)
 ·have w:(st (b.1,b.2.2))=none:=by rw[q];rfl
  rw[w]at f;have D:(!d.2.2&&decide (d.2.1=[]))=false:=by
   grind
  rw[D];have K:st b.2=none:=by rw[st,if_pos q]
  rw[K];simp only[gj,fL,if_false];cases sw b.1<;>rfl
theorem ack(a):rA a=(st (jd a 12)).bind MG:=by
 rw[<-MB a 12 ad5 MG Yl];rfl
theorem Uy(b):rA b=if zN b=true then some (rnQ b) else none:=by
 have j:=ack b;have k:=IE b 12;have i:bC 48 (jd b 12).1 (jd b 12).2=Wh b:=rfl;have hS:fH ((Wh b).1,(Wh b).2.2)=rnS b:=rfl;have h:jw (rnS b).2=OP b:=rfl;have n:bC 4 (Wh b).2.1 (Wh b).2.2=Yk b:=rfl;have m:fH (Yk b).2=Co b:=rfl;have d:bM (Co b).2=(Es b 0,iO (Co b).2 1):=wY _;have c:bM (iO (Co b).2 1)=(Es b 1,iO (Co b).2 2):=nN _ 1;have e:bM (iO (Co b).2 2)=(Es b 2,iO (Co b).2 3):=nN _ 2;have l:bM (iO (Co b).2 3)=(Es b 3,iO (Co b).2 4):=nN _ 3;have g:zN b=((!(OP b).2.2&&decide ((OP b).2.1=[]))&&(!(iO (Co b).2 4).2&&decide ((iO (Co b).2 4).1=[]))):=rfl;have f:rnQ b=⟨(rnS b).1,(OP b).1.1,(OP b).1.2,(Yk b).1,(Co b).1,Es b 0,Es b 1,Es b 2,Es b 3⟩:=rfl;generalize iO (Co b).2 1=s1 at *;generalize iO (Co b).2 2=s2 at *;generalize iO (Co b).2 3=s3 at *;generalize iO (Co b).2 4=s4 at *;generalize Es b 0=n0 at *;generalize Es b 1=n1 at *;generalize Es b 2=n2 at *;generalize Es b 3=n3 at *;generalize rnQ b=Q at *;generalize zN b=ok at *;generalize Co b=qV at *;generalize Yk b=qP at *;generalize OP b=qZ at *;generalize rnS b=qS at *;generalize Wh b=qT at *;generalize jd b 12=q0 at *;obtain⟨a,r⟩:=qS;obtain⟨p,o⟩:=qP;obtain⟨v,q⟩:=qV;rw[j,Ux k i hS h n m d c e l,g,f]
variable {l:List Pc}{w':World}
def jJ(w:World)(g:Nat)(l:List Pc):Prop:=w.rangeAt g 0 (oZ l)/\∀p∈l,At w p.ad p.ins/\p.ins.length<=p.cap/\p.cap<=maxLen
theorem jJ.grown(h:jJ w g l)(k:w.grownBy w' none):jJ w' g l:=
 ⟨λj v b=>k.cell (h.1 j v b) agI,λp a=>⟨(h.2 p a).1.below k,(h.2 p a).2⟩⟩
def Vb(w:World)(x:Value)(l:List Pc):Prop:=∃ao c,x=.slice ao l.length c/\(l≠[]->∃g,ao=some ⟨g,0,none⟩/\jJ w g l)
theorem Vb.grown{x:Value}(h:Vb w x l)(k:w.grownBy w' none):Vb w' x l:=by
 obtain⟨b,c,a,d⟩:=h;exact⟨b,c,a,(by grind [jJ.grown])⟩
theorem jJ.tag(h:jJ w g l)(k)(a:k<l.length):w.cell? (g,k*2)=some (.int .u8 ((l[k]).tag.toNat:Int)):=by
 have:=h.1 (k*2+0) _ (by rw[Bg l k 0 a agF];rfl);rwa [cN,ft]at this
theorem jJ.ins(h:jJ w g l)(k)(a:k<l.length):w.cell? (g,k*2+1)=some (.slice (l[k]).ad (l[k]).ins.length (l[k]).cap):=by
 have:=h.1 (k*2+1) _ (by rw[Bg l k 1 a agF];rfl);rwa [cN]at this
def vX(w:World)(v:Value)(zs:List UInt8):Prop:=∃ao cap,v=.slice ao zs.length cap/\zs.length<=cap/\cap<=maxLen/\At w ao zs
theorem Has.prt{v:Value}{zs:List UInt8}(h:Has w v zs):vX w v zs:=by
 obtain⟨b,cap,a,d,e,_,c⟩:=h;exact⟨b,cap,a,d,e,c⟩
theorem vX.grown{v:Value}{zs:List UInt8}(h:vX w v zs)(k:w.grownBy w' none):vX w' v zs:=by
 obtain⟨b,cap,a,d,e,c⟩:=h;exact⟨b,cap,a,d,e,c.below k⟩
theorem agp(h:p:=by
 rw[List.getElem?_take_of_lt hj]at hu
 simp only[World.cell?,hg]
 simpa using hu):p:=h
theorem qO(zs)(v)(w)(h:vX w v zs)(C:zs.length<=100000):
  Calls prog 66 #[v] w λe w'=>∃x,e=.returned (.tuple #[x,.bool (Box.dF zs).isSome])/\(∀ps,Box.dF zs=some ps->∃l,Vb w' x l/\l.map Pc.pair=ps/\(∀p∈l,∀c,vX c v zs->vX c (.slice p.ad p.ins.length p.cap) p.ins)/\(∀g d,x=.slice (some ⟨g,0,none⟩) l.length d->w.heap.size<=g))/\(Box.dF zs=none->x=.slice none 0 0)/\w.grownBy w' none:=by
 obtain⟨H,cap,rfl,A,o,q⟩:=h
 refine(Lp zs zs.length H cap w (hid rfl) C A (by unfold maxLen at o;omega) q).mono ?_
 rintro e w' ⟨J,O,s⟩
 cases F:Box.dF zs with
 |none=>grind
 |some ps=>
  obtain⟨x,l,z,m,R,b⟩:=J ps F;refine⟨x,z,λD K=>⟨l,?_,?_,λp a c n=>?_,λg d e=>(m.lt g (by rw[e];rfl)).1⟩,λhn=>(by cases hn),s⟩
  ·obtain⟨f,d,rfl⟩:=bA m;refine⟨f,d,rfl,λM=>?_⟩;rcases m.2 with⟨r,P⟩|⟨g,N,y,r,Q,hg,B,I,E,i⟩
   ·grind
   ·injection r with e1 _ e3;subst e1 e3;refine⟨g,rfl,λj u hu=>?_,λp a=>⟨(b p a).1 _ (q.below s),(b p a).2.1,cE (b p a).2.2 o⟩⟩;rw[cN];rw[<-i]at hu;have hj:j<l.length*2:=by
     grind
    exact agp
  ·grind
  ·obtain⟨L,t,k,_,_,G⟩:=n;injection k with k;subst k;exact⟨p.ad,p.cap,rfl,(b p a).2.1,cE (b p a).2.2 o,(b p a).1 c G⟩
def uK(tag:UInt8)(l:List UInt8):Option (List UInt8):=
 match Box.cut l with
 |some (t,i,[])=>if t.toNat=tag.toNat then some i else none
 |_=>none
theorem uL(l):lh l=(uK 48 l).bind Box.dF:=by
 unfold lh uK;cases h:Box.cut l with
 |none=>rfl
 |some p=>
  obtain⟨t,i,r⟩:=p;cases r with
  |nil=>
   show(if t.toNat=48 then Box.dF i else none)=(if t.toNat=(48:UInt8).toNat then some i else none).bind Box.dF;by_cases c:t.toNat=48
   ·have b:t.toNat=(48:UInt8).toNat:=c;rw[if_pos c,if_pos b];rfl
   ·have b:¬ t.toNat=(48:UInt8).toNat:=c;rw[if_neg c,if_neg b];rfl
  |cons a r=>rfl
theorem Nw(zs)(v)(w)(h:Has w v zs)(z:zs.length<=140737488355328):
  Calls prog 49 #[v] w λe w'=>∃(tag:UInt8) (k:Option Addr) (i:List UInt8) (d:Nat) (G:Option Addr) (r:List UInt8) (C:Nat),
   e=.returned (.tuple #[.agg #[.int .u8 tag.toNat,.slice k i.length d],.slice G r.length C,.bool (Box.cut zs).isSome])/\(∀q,Box.cut zs=some q->q=(tag,i,r))/\At w' k i/\i.length<=d/\d<=maxLen/\i.length<=65535/\(k=none->d=0)/\w.grownBy w' none:=by
 obtain⟨A,cap,rfl,y,t,I,m⟩:=h
 by_cases o:zs.length<2
 ·refine(Bf zs.length A cap w o).mono ?_;rintro e w' ⟨p,n⟩;have f:=Hz o;refine⟨0,none,[],0,none,[],0,?_,λq j=>?_,At.nil _ _,cy _,cS _,cS _,λ_=>rfl,n⟩
  ·rw[f];exact p
  ·rw[f]at j;cases j
 ·obtain⟨b,off,rfl,_⟩:=m.addr agE;refine(Dq zs zs.length b off cap w (hid rfl) agE z y (by unfold maxLen at t;omega) m).mono ?_;rintro e w' ⟨p,n,s⟩;cases f:Box.cut zs with
  |none=>
   obtain⟨x,a,i,c,u,D,F,H,E,B⟩:=n f;exact⟨x,a,i,c,none,[],0,u,λq j=>(by cases j),D _ (m.below s),F,cE H t,E,B,s⟩
  |some q=>
   grind [At.below]
theorem aaW(h:p:=by
 go_wp2_with fail
 go_quiet (fail)
 go_wp2
 go_ret2
 exact⟨_,i,by rw[HN.o];rfl,HH.o.1.drewN _,HH.o.2.1,agR,aR HH.o.2.2 _⟩):p:=h
theorem zS(tag)(zs)(v)(w)(h:Has w v zs)(G:zs.length<=140737488355328):
  Calls prog 65 #[v,.int .u8 tag.toNat] w λe w'=>∃x i,e=.returned (.tuple #[x,.bool (uK tag zs).isSome])/\Has w' x i/\i.length<=65535/\(∀j,uK tag zs=some j->j=i)/\w.grownBy w' none:=by
 have m:=hid (Nw zs v w h G)
 obtain⟨oc,b⟩:=aq (uK tag zs)
 have a:=hid b
 rw[b]
 clear h b
 unfold uK at a
 obtain⟨H,f⟩:=aq (Box.cut zs)
 rw[f]at m a
 clear f
 go_enter func65,ntmps65
 go_wp2_with fail
 refine m.o.mono ?_
 rintro e C ⟨t,c,i,d,K,r,J,rfl,n,p,E,z,s,u,A⟩
 clear m
 have B:=aM A (.cells #[.int .u8 t.toNat,.slice c i.length d] 117)
 have HH:Hid (Has (C.alloc (.cells #[.int .u8 t.toNat,.slice c i.length d] 117)) (.slice c i.length d) i/\i.length<=65535/\w.grownBy (C.alloc (.cells #[.int .u8 t.toNat,.slice c i.length d] 117)) none):=⟨⟨c,d,rfl,E,z,u,p.below (cx _ _ _)⟩,s,B⟩
 clear p E z s u A B
 cases H with
 |none=>
  have HN:Hid (oc=none):=a.o.symm;clear a n;simp only[Option.isSome_none];exact aaW
 |some q=>
  obtain rfl:=n q rfl;clear n;simp only[dj];cases r with
  |cons D r=>
   have HN:Hid (oc=none):=a.o.symm;clear a;have F:((((D::r).length:Nat):Int)==0)=false:=agM;obtain⟨L,k⟩:=aq ((D::r).length);rw[k]at F⊢;clear k;exact aaW
  |nil=>
   simp only[List.length_nil];by_cases y:t.toNat=tag.toNat
   ·have HN:Hid (oc=some i):=agM;have I:((t.toNat:Int)==(tag.toNat:Int))=true:=aht;clear a y;exact aaW
   ·have HN:Hid (oc=none):=agM;have I:((t.toNat:Int)==(tag.toNat:Int))=false:=agM;clear a y;exact aaW
def iI(p:Pc)(v:Int):Prop:=In64 v/\∀y,bG p.pair=some y->v=y
theorem uh(p)(w)(h:At w p.ad p.ins):
  Calls prog 68 #[.agg #[.int .u8 p.tag.toNat,.slice p.ad p.ins.length p.cap]] w λe w'=>∃v,e=.returned (.tuple #[ι v,.bool (bG p.pair).isSome])/\iI p v/\w.grownBy w' none:=by
 refine(Pq p.tag p.ad p.ins p.ins.length p.cap w (hid rfl) h).mono ?_
 rintro e w' ⟨⟨j,i⟩,f⟩
 unfold iI
 obtain⟨o,a⟩:=aq (bG p.pair)
 rw[a]
 unfold bG at a
 by_cases g:p.tag.toNat=2
 ·rw[if_pos (by grind [Pc.pair])]at a;cases hn:Box.num p.ins with
  |none=>
   obtain⟨v,d,b,c⟩:=i (.inr hn);have:o=none:=by rw[<-a];exact hn
   subst this;exact⟨v,c,⟨⟨d,b⟩,λy hy=>(by cases hy)⟩,f⟩
  |some x=>
   have:o=some x:=by rw[<-a];exact hn
   subst this;refine⟨x,j x g hn,⟨?_,λy hy=>(by injection hy)⟩,f⟩;exact Du hn
 ·rw[if_neg (by grind [Pc.pair])]at a;subst a;obtain⟨v,d,b,c⟩:=i (.inl g);exact⟨v,c,⟨⟨d,b⟩,λy hy=>(by cases hy)⟩,f⟩
theorem adi(h:p:=by
 clear h4 HP
 go_enter func96,ntmps96
 go_wp2_with (go_at_call 56;refine(HN.o _).mono ?_;rintro e w' ⟨rfl,rfl⟩)
 go_quiet (fail)
 go_wp2
 go_ret2
 exact⟨by rw[V3.o];rfl,aR HG.o _⟩):p:=h
theorem qQ(p:Pc)(w)(h:At w p.ad p.ins)(k:p.ins.length<=140737488355328):
  Calls prog 96 #[.agg #[.int .u8 p.tag.toNat,.slice p.ad p.ins.length p.cap]] w λe w'=>e=.returned (.tuple #[.string p.ins,.bool (dh p.pair).isSome])/\w.grownBy w' none:=by
 have g:=cx w (.cells #[.int .u8 p.tag.toNat,.slice p.ad p.ins.length p.cap] 117) none
 have d:=ic (P:=prog) (w.alloc (.cells #[.int .u8 p.tag.toNat,.slice p.ad p.ins.length p.cap] 117)) 37 9 5 underlying37 underlying5 underlying9 p.ad p.cap p.ins (h.below g)
 have HN:=hid (λW=>vF p.ins p.ins.length ⟨p.ins.toArray⟩ W (hid rfl) (hid rfl) agE)
 have HP:Hid ((dh p.pair).isSome=(cO p.ins&&decide (p.tag.toNat=4))):=by
  show _=_;unfold dh;show(if p.tag.toNat=4/\cO p.ins=true then some p.ins else none).isSome=_;grind
 obtain⟨o,j⟩:=aq ((dh p.pair).isSome)
 rw[j]at HP⊢
 obtain⟨b,f⟩:=aq (cO p.ins)
 rw[f]at HP HN
 have HG:=hid g
 obtain⟨t,i⟩:=aq p.tag.toNat
 rw[i]at HP HG d⊢
 obtain⟨l,had⟩:=aq p.ad
 obtain⟨ins,a⟩:=aq p.ins
 obtain⟨cap,c⟩:=aq p.cap
 rw[had,a,c]at HG d⊢
 rw[a]at HN
 clear g f j i h had a c k
 cases b with
 |false=>
  go_enter func96,ntmps96;go_wp2_with (go_at_call 56;refine(HN.o _).mono ?_;rintro e w' ⟨rfl,rfl⟩)
  go_quiet (fail)
  go_wp2;go_ret2;exact⟨by rw[HP.o];rfl,aR HG.o _⟩
 |true=>
  by_cases h4:t=4
  ·have f:((t:Int)==4)=true:=aht;have V3:Hid (o=true):=agM;exact adi
  ·have f:((t:Int)==4)=false:=agM;have V3:Hid (o=false):=agM;exact adi
def rG:List Pc->List Int->Prop
 | [],[]=>True
 |p::l,v::vs=>iI p v/\rG l vs
 |_,_=>False
theorem rG.length:∀{l:List Pc}{a:List Int},rG l a->a.length=l.length
 | [],[],_=>rfl
 |_::_,_::_,h=>by simp only[de];rw[rG.length h.2]
 | [],_::_,h=>h.elim
 |_::_,[],h=>h.elim
theorem rG.snoc:∀{l:List Pc}{a:List Int}{p:Pc}{v:Int},rG l a->iI p v->rG (l++[p]) (a++[v])
 | [],[],_,_,_,h=>⟨h,trivial⟩
 |_::_,_::_,_,_,h,b=>⟨h.1,rG.snoc h.2 b⟩
 | [],_::_,_,_,h,_=>h.elim
 |_::_,[],_,_,h,_=>h.elim
def I64(x:Int):Value:=ι x
def jS(l:List Pc):Bool:=l.all λp=>(bG p.pair).isSome
theorem Tryz.acT:(prog.info? 2).map (λi=>(i.zero,i.size,i.bytes))=some (some (ι 0),1,8):=by kernel_rfl
theorem Vd{l:List Pc}{a k:Nat}(c:a<=k)(b:k<l.length):(l.drop a).take (k+1-a)=(l.drop a).take (k-a)++[l[k]]:=by
 rw[show k+1-a=(k-a)+1 from by omega,dy (by rw[dr];omega),List.getElem_drop];grind
theorem aaL(h:p:=by
 clear HA
 go_wp2_with (at_builtin;refine dJ _ rfl _ _ 220 rfl w.heap.size 2 i0 _ 1 8 underlying220 hif hz0 hz1 hz2 rfl agF _ _ _ rfl (hown1.alloc _) ⟨w1.heap.size,0,none⟩ 1 1 [ι v] rfl rfl ?q1 (by intro u hu;simp at hu;rcases hu with rfl;rfl) agE sM hll ag2 ?_)
 case q1=>grind [gJ]
 intro v2 w2 hown2 hg2 _
 have G2:=gu (aM G1 _) hg2 (λj hj=>(hown1.lt j hj).1)
 clear hown1 hg2 G1
 go_wp2
 go_roundw
 case rel=>exact⟨k+1,vs++[v],by omega,by omega,by go_num,hid (by rw[HA2.o]),HV2,by rw[cD,eg];exact hown2,G2⟩
 case measure=>simp[intOf];omega):p:=h
theorem uM(a b m g c:Nat)(l)(w)(F:Hid (l.length=m))(R:m<=1000)(C:a<=b)(M:b<=m)(h:jJ w g l):
  Calls prog 97 #[.slice (some (g,0)) m c,ι a,ι b] w λe w'=>∃o vs,e=.returned (.tuple #[o,.bool (jS ((l.drop a).take (b-a)))])/\rG ((l.drop a).take (b-a)) vs/\w'.ownsRow w.heap.size 2 1 o vs.length (vs.map I64)/\w.grownBy w' none:=by
 obtain⟨i0,hif,hz0,hz1,hz2⟩:=info_parts Tryz.acT
 go_enter func97,ntmps97
 go_wp2
 go_loopw [8,9,10] (λo ok i wr=>∃(k:Nat) (vs:List Int),a<=k/\k<=b/\i = ι k/\Hid (ok=.bool (jS ((l.drop a).take (k-a))))/\Hid (rG ((l.drop a).take (k-a)) vs)/\wr.ownsRow w.heap.size 2 1 o vs.length (vs.map I64)/\w.grownBy wr none) (λ_ _ i _=>b-(intOf i).toNat)
 case atStart=>exact⟨a,[],cy _,C,rfl,by show _=_;rw[gE];rfl,by show rG _ _;rw[gE];trivial,World.ownsRow_nil _ _ _ _,cC _ _⟩
 case round=>
  obtain⟨k,vs,D,J,rfl,B,y,d,n⟩:=hrel;obtain rfl:=B.o;obtain⟨ok,q⟩:=aq (jS ((l.drop a).take (k-a)));rw[q]at B⊢;by_cases O:k<b
  ·have N:(k:Int)<(b:Int):=agE;have S:k<m:=agE;have hkl:k<l.length:=(by rw[F.o];omega);have z:=h.grown n;have I:=z.tag k hkl;have E:=z.ins k hkl;obtain⟨s,_,_⟩:=z.2 (l[k]) (ef hkl);have x:=hid (uh (l[k]) wr s);have HS:=hid (Vd D hkl);obtain⟨p,G⟩:=aq (l[k]);rw[G]at I E x HS;have HA:Hid (jS ((l.drop a).take (k+1-a))=(ok&&(bG p.pair).isSome)):=by
    grind [RowKit.Hid.o,jS]
   obtain⟨K,t⟩:=aq ((bG p.pair).isSome);rw[t]at x HA;have L:(0:Int)<=(k:Int):=agE;have Q:vs.length<=1000:=by
    rw[y.o.length,ep,dr];have:=F.o;omega
   have sM:vs.length+1<=maxLen:=ag1;have hll:(vs.length+1)*8<=140737488355328:=agE;clear z s G q B t;go_wp2_with fail;refine x.o.mono ?_;rintro e w1 ⟨v,rfl,P,f⟩;have hown1:=d.kept f (eR _);have G1:=aa n f;have H:=G1.size;have HV2:Hid (rG ((l.drop a).take (k+1-a)) (vs++[v])):=(by grind [rG.snoc,RowKit.Hid.o]);clear d f x P y HS I E;cases ok with
   |false=>
    have HA2:Hid (jS ((l.drop a).take (k+1-a))=false):=(by show _=_;rw[HA.o];rfl);exact aaL
   |true=>
    have HA2:Hid (jS ((l.drop a).take (k+1-a))=K):=(by show _=_;rw[HA.o,gn]);exact aaL
  ·have r:k=b:=agE;subst r;have N:¬ (k:Int)<(k:Int):=agE;have A:=y;clear y;go_wp2;go_ret2;exact⟨_,rfl,vs,A.o,d,n⟩
theorem gL:In64 0:=⟨by decide,by decide⟩
theorem af8:∀{ps:List (UInt8×List UInt8)}{p:UInt8×List UInt8},p∈ps->p.2.length+2<=Box.wt ps:=by
 intro ps;induction ps with
 |nil=>intro p b;simp at b
 |cons a ps c=>
  grind [Box.wt]
theorem Box.lX{l:List UInt8}{ps:List (UInt8×List UInt8)}(h:Box.dF l=some ps)(p)(a:p∈ps):p.2.length<=l.length:=by
 have b:=Box.WX l.length l ps (cy _) h;have c:=af8 a;omega
theorem Bw(ps)(h:ps.length≠2):qD ps=none:=by
 unfold qD;match ps with
 | []=>rfl
 | [p]=>show(bG p).bind _=none;cases bG p<;>rfl
 | [p,q]=>exact absurd rfl h
 |p::q::r::ps=>
  show(bG p).bind _=none;cases bG p with
  |none=>rfl
  |some n=>
   show(jm q).bind _=none;cases jm q<;>rfl
theorem Kc(p q):qD [p,q]=(bG p).bind λn=>(jm q).bind λz=>some (n,z):=rfl
theorem aeX(h:p:=by
 show(dh p).bind _=none
 cases dh p with
 |none=>rfl
 |some n=>show(bG q).bind _=none;cases bG q<;>rfl):p:=h
theorem GL(ps)(h:ps.length≠3):qG ps=none:=by
 unfold qG;match ps with
 | []=>rfl
 | [p]=>show(dh p).bind _=none;cases dh p<;>rfl
 | [p,q]=>
  exact aeX
 | [p,q,r]=>exact absurd rfl h
 |p::q::r::s::ps=>
  show(dh p).bind _=none;cases dh p with
  |none=>rfl
  |some n=>
   show(bG q).bind _=none;cases bG q with
   |none=>rfl
   |some z=>show(jm r).bind _=none;cases jm r<;>rfl
theorem Ny{α:Type}{l:List α}(h:l.length=2):∃a b,l=[a,b]:=by
 match l,h with
 | [a,b],_=>exact⟨a,b,rfl⟩
theorem EP{α:Type}{l:List α}(h:l.length=3):∃a b c,l=[a,b,c]:=by
 match l,h with
 | [a,b,c],_=>exact⟨a,b,c,rfl⟩
theorem Vb.some{w:World}{x:Value}{l:List Pc}(h:Vb w x l)(b:l≠[]):∃g c,x=.slice (.some ⟨g,0,.none⟩) l.length c/\jJ w g l:=by
 obtain⟨d,c,a,e⟩:=h;grind
def Ke(w:World)(o:Option (Option (Int×List UInt8)))(n:Int)(z:Value)(there:Bool):Prop:=∀q,o=some q->there=q.isSome/\∀x,q=some x->n=x.1/\vX w z x.2/\x.2.length<=100000
theorem nO(w)(n)(z)(t):Ke w none n z t:=λ_ h=>by cases h
theorem aa6(h:p:=by
 go_wp2
 ((try simp only[Exit.inBlock,Exit.then]);refine bodyPost_ret (gy rfl _ _ _) rfl ?_)
 exact⟨_,_,_,by rw[HO.o];rfl,gL,by rw[HO.o];exact nO _ _ _ _,kF.o⟩):p:=h
theorem acy(h:p:=by
 go_wp2_with fail
 go_quiet (fail)
 go_wp2
 ((try simp only[Exit.inBlock,Exit.then]);refine bodyPost_ret (gy rfl _ _ _) rfl ?_)
 exact⟨_,_,_,by rw[FV.o];rfl,Nz.o.1,by rw[FV.o];exact nO _ _ _ _,aR HG2.o _⟩):p:=h
theorem acU(p:Pc)(w)(h:At w p.ad p.ins)(W:p.ins.length<=p.cap)(U:p.cap<=maxLen)(I:p.ins.length<=100000):
  Calls Tryz.prog 98 #[.agg #[.int .u8 p.tag.toNat,.slice p.ad p.ins.length p.cap]] w λe w'=>∃n z t,e=.returned (.tuple #[ι n,z,.bool t,.bool (mi p.pair).isSome])/\In64 n/\Ke w' (mi p.pair) n z t/\w.grownBy w' none:=by
 have j:Hid (mi p.pair=match (if p.tag.toNat=48 then Box.dF p.ins else none)with|none=>none|some []=>some none|some ps=>(qD ps).map some):=rfl
 obtain⟨O,hO⟩:=aq (mi p.pair)
 rw[hO]at j⊢
 clear hO
 have J:=cx w (.cells #[.int .u8 p.tag.toNat,.slice p.ad p.ins.length p.cap] 117) none
 have L:=hid (qO p.ins (.slice p.ad p.ins.length p.cap) _ ⟨p.ad,p.cap,rfl,W,U,h.below J⟩ I)
 have HB:=hid (dB.new w #[.int .u8 p.tag.toNat,.slice p.ad p.ins.length p.cap] 117)
 have T:=hid J
 have HL:=hid I
 clear J h W U I
 obtain⟨cl,B⟩:=aq (Box.dF p.ins)
 rw[B]at j L
 have Jy:=hid B
 clear B
 go_enter Tryz.func98,Tryz.ntmps98
 go_wp2_with fail
 refine L.o.mono ?_
 rintro e R ⟨x,rfl,P,r,S⟩
 clear L
 have kF:=hid (aa T.o S)
 have C:=HB.o.grown S agI
 have Y:=C.cell 0
 simp only[cH,cG]at Y
 clear T HB S
 cases cl with
 |none=>
  have HO:Hid (O=none):=by
   show _=_;rw[j.o];split<;>simp_all
  obtain rfl:=r rfl;clear P r j C;simp only[Option.isSome_none];exact aa6
 |some ps=>
  obtain⟨l,u,f,_⟩:=P ps rfl;clear P r C;simp only[dj];by_cases G:p.tag.toNat=48
  ·have hb:((p.tag.toNat:Int) != 48)=false:=ahv;rw[if_pos G]at j;clear G;by_cases D:l.length=0
   ·have Q:=fh D;subst Q;have HO:Hid (O=some none):=by
     show _=_;rw[j.o,<-f];rfl
    obtain⟨X,c,rfl,_⟩:=u;clear j f D;simp only[List.length_nil];go_wp2;((try simp only[Exit.inBlock,Exit.then]);refine bodyPost_ret (gy rfl _ _ _) rfl ?_);exact⟨_,_,_,by rw[HO.o];rfl,gL,by rw[HO.o];exact λq i=>by injection i with i;subst i;exact⟨rfl,λx E=>by cases E⟩,kF.o⟩
   ·by_cases r:l.length=2
    ·obtain⟨s,d,rfl⟩:=Ny r;have HO:Hid (O=((bG s.pair).bind λn=>(jm d.pair).bind λz=>some (n,z)).map some):=by
      show _=_;rw[j.o,<-f];rfl
     obtain⟨g,c,rfl,k⟩:=u.some agI;have c0:R.cell? (g,0)=some (.int .u8 s.tag.toNat):=k.tag 0 agI;have c1:R.cell? (g,1)=some (.slice s.ad s.ins.length s.cap):=k.ins 0 agI;have V:=hid k;have F:=hid (uh s R (k.2 s agI).1);have Dc:Hid (d.ins.length<=100000):=by
      have i:=Jy.o;rw[<-f]at i;exact cE (Box.lX i (d.tag,d.ins) (by simp[Pc.pair])) HL.o
     obtain⟨N,hN⟩:=aq (bG s.pair);unfold iI at F;rw[hN]at F HO;clear j f D r u k hN;simp only[de,List.length_nil];go_wp2_with fail;refine F.o.mono ?_;rintro e w2 ⟨v,rfl,u,A⟩;have k:=V.o.grown A;have d2:w2.cell? (g,2)=some (.int .u8 d.tag.toNat):=k.tag 1 agI;have d3:w2.cell? (g,3)=some (.slice d.ad d.ins.length d.cap):=k.ins 1 agI;have HZ:Hid (∀m,vX (w2.drewN m) (.slice d.ad d.ins.length d.cap) d.ins):=λm=>⟨d.ad,d.cap,rfl,(k.2 d agI).2.1,(k.2 d agI).2.2,(k.2 d agI).1.drewN m⟩
     have HG2:=hid (aa kF.o A);have Nz:=hid u;clear F V k A u kF Y c0 c1;cases N with
     |none=>
      have FV:Hid (O=none):=HO.o;clear HO;simp only[Option.isSome_none];exact acy
     |some y=>
      have M:=Nz.o.2 y rfl;subst M;simp only[dj];by_cases H:d.tag.toNat=4
      ·have K:((d.tag.toNat:Int)==4)=true:=aht;have FV:Hid (O=some (some (v,d.ins))):=by
        show _=_;rw[HO.o];show Option.map some (Option.bind (if d.tag.toNat=4 then some d.ins else none) _)=_;rw[if_pos H];rfl
       clear HO H;go_wp2_with fail;go_quiet (fail)
       go_wp2;((try simp only[Exit.inBlock,Exit.then]);refine bodyPost_ret (gy rfl _ _ _) rfl ?_);exact⟨_,_,_,by rw[FV.o];rfl,Nz.o.1,by rw[FV.o];exact λq i=>by injection i with i;subst i;exact⟨rfl,λx E=>by injection E with E;subst E;exact⟨rfl,HZ.o _,Dc.o⟩⟩,aR HG2.o _⟩
      ·have K:((d.tag.toNat:Int)==4)=false:=ahd;have FV:Hid (O=none):=by
        show _=_;rw[HO.o];show Option.map some (Option.bind (if d.tag.toNat=4 then some d.ins else none) _)=_;rw[if_neg H];rfl
       clear HO H;exact acy
    ·have HO:Hid (O=none):=by
      show _=_;rw[j.o,<-f];have Z:=Bw (l.map Pc.pair) (by rw[cR];exact r);cases i:l.map Pc.pair with
      |nil=>rw[List.map_eq_nil_iff]at i;subst i;exact absurd rfl D
      |cons a b=>
       rw[i]at Z;show Option.map some (qD (a::b))=none;rw[Z];rfl
     obtain⟨X,c,rfl,_⟩:=u;obtain⟨n,hn⟩:=aq l.length;rw[hn]at D r⊢;have b0:((n:Int) != 0)=true:=ahg;have b2:((n:Int) != 2)=true:=ahg;clear j f D r hn;exact aa6
  ·have hb:((p.tag.toNat:Int) != 48)=true:=ahg;have HO:Hid (O=none):=by
    show _=_;rw[j.o,if_neg G]
   obtain⟨X,c,rfl,_⟩:=u;clear j f G;exact aa6
end Go.Proofs.YtlfifnpjeangmaaGreatDoor
