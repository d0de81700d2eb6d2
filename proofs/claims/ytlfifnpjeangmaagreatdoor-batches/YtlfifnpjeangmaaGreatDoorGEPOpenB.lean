import Derived.Test.YtlfifnpjeangmaaGreatDoorGEPOpenA
import Derived.Deep.RegionHeld3
namespace Go.Proofs.YtlfifnpjeangmaaGreatDoor
set_option maxHeartbeats 1000000
open Proofs.Tryz Go.RowKit
set_option maxRecDepth 100000
variable {p:Option Pl}{v:Value}{w:World}
theorem Bs.self{S:Source}{c:Nat}(a:S.2.length<=c)(b:c<=9223372036854775807)(d:S.2.length<=200):Bs S (.slice S.1 S.2.length c) S.2:=⟨S.1,c,rfl,a,b,by omega,λ_ h=>h⟩
theorem Out.afy{c:List UInt8}(h:Out w v p c){g:Nat}(d:w.heap.size<=g):Pl.blk p≠some g:=by
 rcases h with⟨a,_⟩|⟨q,a,_,_,_,b,_⟩
 ·rw[a];exact λe=>by cases e
 ·rw[a];intro e;injection e with e;have e:q.g=g:=e;have:=b.lt;omega
theorem acb{b o:Nat}(h:Pl.has p b o):Pl.blk p=some b:=by
 obtain⟨q,a,e,_⟩:=h;rw[a,e];rfl
theorem RS.open{h w2:World}{r:Value}{rb:List UInt8}{c:Array Value}{t j:TypeId}{l:List UInt8}{a:Option Addr}{s:List UInt8×Bool}(q:Out w r p rb)(f:CF (w.alloc (.cells c t)) h (Pl.has p))(n:At h a l)(hn:∀g,g<(w.alloc (.cells c t)).heap.size->Pl.blk p≠some g->iR (a,l) g)(d:h.grownBy w2 none)(i:Bs (a,l) v s.1)(m:s.2=true->s.1=[]):
  RS w (w2.alloc (.cells #[v,.bool s.2] j)) (Pl.has p) (a,l) w2.heap.size s w.heap.size c:=by
 have A:(w.alloc (.cells c t)).heap.size=w.heap.size+1:=cF _ _
 have b:=q.afy (cy w.heap.size)
 have y:=f.size
 have x:=d.size
 have k:=n.below d
 obtain⟨u,z,rfl,_⟩:=id i
 refine⟨Rd.new (w:=w2) i m j,((((dB.new w c t).kept (f.block _ agE (λo e=>b (acb e)))).grown d agI).alloc _),((CF.before (cx w _ none) f).grown d).alloc _,k.below (cx w2 _ none),iR.new (S:=(a,l)) k (cy _),hn _ agE b,cy _,by omega,by omega⟩
theorem Yd{b:Nat}(h:w.cell? (b,0)=some v):(loadVar 2 ⟨b,0,none⟩).run prog w=.ok v w:=by
 have a:=underlying2;go_simp
def iB(s:List UInt8×Bool):Bool:=!s.2&&decide (s.1=[])
theorem Mx(J)(p)(rb)(key)(C)(z)(n cap)(w)(F:Out w J p rb)(hn:Hid (z.length=n))(h:n<=cap)(V:At w C z)(k:∀b off,C=some ⟨b,off,none⟩->∀j,j<z.length->¬ Pl.has p b (off+j)):
  Calls prog 209 #[J,υ key.toNat,.slice C n cap] w λe w'=>e=.returned (.tuple #[ι (bM (dD key 1 z,false)).1,.bool (iB (bM (dD key 1 z,false)).2)])/\CF w w' (Pl.has p):=by
 have G:=cx w (.cells #[ι 0] 2) none
 have H:=hid (Au J p rb key 1 1 C z n cap _ (F.grown G) rfl (hid rfl) hn h (V.below G) k)
 obtain⟨l,E⟩:=aq (dD key 1 z)
 obtain⟨q,K⟩:=aq (bM (l,false))
 have HQ:Hid (bM (dD key 1 z,false)=q):=by show _=_;rw[E,K]
 have W:=hid K
 rw[E]at H
 have Z:=hid F
 clear F hn h V k G E K
 go_enter func209,ntmps209
 go_wp2_with fail
 refine H.o.mono ?_
 rintro e w1 ⟨a,c,rfl,P,N,p3,Q,R,U⟩
 have hb:Bs (a,l) (.slice a l.length c) l:=Bs.self (S:=(a,l)) P N p3
 have y:=hid (And.intro R (And.intro Q (And.intro U hb)))
 clear P N p3 Q R U hb H
 go_wp2_with fail
 refine(Mr a l.length c w1).mono ?_
 rintro e w2 ⟨rfl,T⟩
 have rs:RS w (w2.alloc (.cells #[.slice a l.length c,.bool false] 314)) (Pl.has p) (a,l) w2.heap.size (l,false) w.heap.size #[ι 0]:=RS.open (s:=(l,false)) Z.o y.o.1 y.o.2.1 y.o.2.2.1 T y.o.2.2.2 (λe=>by cases e)
 obtain⟨w3,f⟩:=aw (w2.alloc (.cells #[.slice a l.length c,.bool false] 314))
 rw[<-f]at rs
 have O:=rs.places [0] (λj D=>by show j<1;simp at D;omega) agF 319
 have d:=rs.alloc (.cells #[(w,0)] 319)
 have x:=hid (kL (a,l) w2.heap.size w3.heap.size _ 1 (l,false) _ (hid rfl) agE (d.stays [0]) d.rd O)
 have B:iO (l,false) 1=q.2:=congrArg Prod.snd W.o
 rw[B]at x
 have HN:Hid ((bM (iO (l,false) 0)).1=q.1):=congrArg Prod.fst W.o
 have m:=hid d
 have L:w3.heap.size=w2.heap.size+1:=by rw[f];exact cF _ _
 rw[f]at x m
 rw[cF]at x
 clear rs O d B T f L
 go_wp2_with fail
 refine x.o.mono ?_
 rintro e i ⟨rfl,r4,X,M⟩
 have r:RS w i (Pl.has p) (a,l) w2.heap.size q.2 w.heap.size #[ι q.1]:=by
  refine m.o.nums M r4 (λp hp=>?_) rfl (λj D=>?_)
  ·exact adC
  ·have I:j<1:=D;match j,I with
   |0,_=>rw[<-HN.o];exact X 0 (w.heap.size,0) rfl
 have x0:i.cell? (w,0)=some (ι q.1):=r.blk.cell 0
 have z0:=r.blk.frozen 0
 have Y:Hid (((i.drewN 1).setCell (w,0) (ι q.1)).cell? (w,0)=some (ι q.1)):=di (w:=i.drewN 1) _ x0
 have A:=hid (jQ (a,l) w2.heap.size _ _ (i.drewN 1) (r.rd.drewN 1))
 have u:=hid (jQ (a,l) w2.heap.size _ _ ((i.drewN 1).setCell (w,0) (ι q.1)) ((r.rd.drewN 1).xI ((iZ.refl (i.drewN 1) (λb=>b=w.heap.size)).set (g:=w.heap.size) rfl 0 _) (λe=>r.ne e.symm)))
 have HC:Hid (CF w ((i.drewN 1).setCell (w,0) (ι q.1)) (Pl.has p)):=(r.cf.drewN 1).setCell w.heap.size 0 _ (λe=>absurd e (gC _))
 obtain⟨dn,t⟩:∃dn,Hid ((!q.2.2&&decide (q.2.1=[]))=dn):=⟨_,hid rfl⟩
 rw[t.o]at A u
 clear r4 X M r x m y Z
 go_wp2_with fail
 go_region_held3 (λw'=>w'.cell? ⟨w.heap.size,0,none⟩=some (ι q.1)) (first|exact Y.o|go_keep) (first|(go_at_call 170;refine A.o.mono ?_;rintro e w5 ⟨rfl,rfl⟩)|(go_at_call 170;refine u.o.mono ?_;rintro e w5 ⟨rfl,rfl⟩))
 go_wp2
 exact bodyPost_ret (aF results209 _ _ _ w.heap.size rfl _ (Yd Y.o)) rfl ⟨by rw[HQ.o,iB,t.o];rfl,HC.o⟩
set_option maxHeartbeats 2000000
variable {fb g:Nat}{ex:Nat->Nat->Prop}{S:Source}{W:World}
theorem RS.drewN{s:List UInt8×Bool}{cs:Array Value}(h:RS w W ex S g s fb cs)(n):RS w (W.drewN n) ex S g s fb cs:=h.grown (aR (cC W none) n)
def acd(W:World)(g:Nat)(c0 c1 c2:Value):World:=(((W.setCell (g,0) c0).setCell (g,1) c1).setCell (g,2) c2)
theorem Tryz.Uo:(prog.info? 131).map (·.size)=some 3:=by kernel_rfl
theorem RS.acd{s:List UInt8×Bool}{e f d:Value}(h:RS w W ex S g s fb #[e,f,d])(c a b):RS w (acd W fb c a b) ex S g s fb #[c,a,b]:=by
 have k:=((h.store 0 c).store 1 a).store 2 b;exact agn
theorem RS.aiH{s:List UInt8×Bool}{b c a:Value}(h:RS w W ex S g s fb #[b,c,a]):(loadVar 131 ⟨fb,0,none⟩).run prog W=.ok (.agg #[b,c,a]) W:=h.blk.load 131 _ underlying131 rfl Tryz.Uo
theorem dB.aiI{b c a:Value}(h:dB w g #[b,c,a]):w.cell? (g,0)=some b/\w.cell? (g,1)=some c/\w.cell? (g,2)=some a:=⟨h.cell 0,h.cell 1,h.cell 2⟩
def Ql(l:List UInt8):List UInt8×(List UInt8×Bool):=fH (bO l)
def OL(l:List UInt8)(j:Nat):Int:=(bM (iO (Ql l).2 j)).1
def Wd(l:List UInt8):List UInt8×Bool:=iO (Ql l).2 2
theorem Gv(rv)(p)(rb)(key)(H)(z)(n cap)(w)(T:Out w rv p rb)(hn:Hid (z.length=n))(i:n<=cap)(hz:At w H z)(k:∀b off,H=some ⟨b,off,none⟩->∀j,j<z.length->¬ Pl.has p b (off+j)):
  Calls prog 219 #[rv,υ key.toNat,.slice H n cap] w λe w'=>e=.returned (.tuple #[.agg #[.string ⟨(Ql (dD key 4 z)).1.toArray⟩,ι (OL (dD key 4 z) 0),ι (OL (dD key 4 z) 1)],.bool (iB (Wd (dD key 4 z)))])/\CF w w' (Pl.has p):=by
 have U:=cx w (.cells #[.string ⟨#[]⟩,ι 0,ι 0] 131) none
 have V:=hid (Au rv p rb key 4 4 H z n cap _ (T.grown U) rfl (hid rfl) hn i (hz.below U) k)
 obtain⟨l,Q⟩:=aq (dD key 4 z)
 obtain⟨E,F⟩:=aq (bO l)
 obtain⟨f,hA⟩:=aq (fH E)
 obtain⟨N,hN⟩:∃N:Nat->Int,∀j,(bM (iO f.2 j)).1=N j:=⟨_,λ_=>rfl⟩
 obtain⟨J,hE⟩:=aq (iO f.2 2)
 have d:=mo l
 rw[F]at d
 have ab:=hid F
 have M:Hid (Ql (dD key 4 z)=f):=by show _=_;rw[Ql,Q,F,hA]
 have x:Hid (∀j,OL (dD key 4 z) j=N j):=λj=>by rw[OL,M.o,hN]
 have HE:Hid (Wd (dD key 4 z)=J):=by show _=_;rw[Wd,M.o,hE]
 have Z:=hid (And.intro hA (And.intro hN hE))
 clear hA hN hE
 rw[Q]at V
 have HR:=hid T
 clear T hn i hz k U Q F
 go_enter func219,ntmps219
 go_wp2_with fail
 refine V.o.mono ?_
 rintro e w1 ⟨a,c,rfl,p1,p2,p3,R,p5,p6⟩
 have hb:Bs (a,l) (.slice a l.length c) l:=Bs.self (S:=(a,l)) p1 p2 p3
 have G:=hid (And.intro p5 (And.intro R p6))
 have VZ:=hid (uE (a,l) l l.length a c w1 (hid rfl) R hb)
 rw[ab.o]at VZ
 clear p1 p2 p3 R p5 p6 hb V
 go_wp2_with fail
 refine VZ.o.mono ?_
 rintro e w2 ⟨v,rfl,O,g2⟩
 obtain⟨a2,c2,rfl,_⟩:=id O
 have A:RS w (w2.alloc (.cells #[.slice a2 E.1.length c2,.bool E.2] 314)) (Pl.has p) (a,l) w2.heap.size E w.heap.size #[.string ⟨#[]⟩,ι 0,ι 0]:=RS.open HR.o G.o.1 G.o.2.1 G.o.2.2 g2 O d
 have m:=hid (oF (a,l) w2.heap.size E _ A.src A.ng A.rd)
 rw[Z.o.1]at m
 have H1:=hid A
 clear O g2 VZ d A G HR
 go_wp2_with fail
 refine m.o.mono ?_
 rintro e w3 ⟨rfl,r3,f3⟩
 have V9:=H1.o.read f3 r3
 obtain⟨⟨d2,aa⟩,X⟩:=V9.slot 0 (by show 0<3;decide)
 have JN:RS w (w3.setCell (w,0) (.string f.1)) (Pl.has p) (a,l) w2.heap.size f.2 w.heap.size #[.string f.1,ι 0,ι 0]:=V9.store 0 _
 have P:=JN.places [1,2] (λj L=>by show j<3;simp at L;omega) agF 319
 rw[World.size_setCell]at P
 have K:=JN.alloc (.cells #[(w,1),(w,2)] 319)
 have h:=hid (kL (a,l) w2.heap.size _ _ 2 f.2 _ (hid rfl) agE (K.stays [1,2]) K.rd P)
 simp only[Z.o.2.1]at h
 rw[Z.o.2.2]at h
 have I:=hid K
 clear r3 f3 V9 JN m H1 P K
 go_wp2_with fail
 refine h.o.mono ?_
 rintro e w4 ⟨rfl,B,q,r⟩
 have s:RS w w4 (Pl.has p) (a,l) w2.heap.size J w.heap.size #[.string f.1,ι (N 0),ι (N 1)]:=by
  refine I.o.nums r B (λp hp=>?_) rfl (λj L=>?_)
  ·exact adC
  ·have Y:j<3:=L;match j,Y with
   |0,_=>exact r.cell (I.o.blk.cell 0) (λe=>by rcases e with e|e;exact I.o.ne e;simp at e)
   |1,_=>exact q 0 (w.heap.size,1) rfl
   |2,_=>exact q 1 (w.heap.size,2) rfl
 clear B q r h I aa X
 obtain⟨x0,x1,x2⟩:=s.blk.aiI
 have z0:=s.blk.frozen 0
 have z1:=s.blk.frozen 1
 have z2:=s.blk.frozen 2
 have D:=(s.drewN 1).acd (.string f.1) (ι (N 0)) (ι (N 1))
 unfold acd at D
 have HY:=hid D.blk.aiI
 have u:=hid D
 have C:=hid (jQ (a,l) w2.heap.size _ _ (w4.drewN 1) (s.rd.drewN 1))
 have y:=hid (jQ (a,l) w2.heap.size _ _ _ D.rd)
 obtain⟨dn,t⟩:∃dn,Hid ((!J.2&&decide (J.1=[]))=dn):=⟨_,hid rfl⟩
 rw[t.o]at C y
 clear D s
 go_wp2_with fail
 go_region_held3 (λw'=>w'.cell? ⟨w.heap.size,0,none⟩=some (.string f.1)/\w'.cell? ⟨w.heap.size,1,none⟩=some (ι (N 0))/\w'.cell? ⟨w.heap.size,2,none⟩=some (ι (N 1))) (first|exact HY.o|go_keep) (first|(go_at_call 170;refine C.o.mono ?_;rintro e w9 ⟨rfl,rfl⟩)|(go_at_call 170;refine y.o.mono ?_;rintro e w9 ⟨rfl,rfl⟩))
 go_wp2
 exact bodyPost_ret (aF results219 _ _ _ w.heap.size rfl _ u.o.aiH) rfl ⟨by rw[M.o,x.o,x.o,HE.o,iB,t.o];rfl,u.o.cf⟩
def ace(W:World)(g:Nat)(c0 c1 c2 c3 c4 c5 c6:Value):World:=(((((((W.setCell (g,0) c0).setCell (g,1) c1).setCell (g,2) c2).setCell (g,3) c3).setCell (g,4) c4).setCell (g,5) c5).setCell (g,6) c6)
theorem Tryz.jf:(prog.info? 333).map (·.size)=some 7:=by kernel_rfl
theorem RS.ace{W:World}{ex:Nat->Nat->Prop}{S:Source}{a:Nat}{s:List UInt8×Bool}{o q l r m p n:Value}(h:RS w W ex S g s a #[o,q,l,r,m,p,n])(f c j i b d e):RS w (ace W a f c j i b d e) ex S g s a #[f,c,j,i,b,d,e]:=by
 have k:=((((((h.store 0 f).store 1 c).store 2 j).store 3 i).store 4 b).store 5 d).store 6 e;exact agn
theorem RS.aiK{W:World}{ex:Nat->Nat->Prop}{S:Source}{a:Nat}{s:List UInt8×Bool}{j c i f b d e:Value}(h:RS w W ex S g s a #[j,c,i,f,b,d,e]):(loadVar 333 ⟨a,0,none⟩).run prog W=.ok (.agg #[j,c,i,f,b,d,e]) W:=h.blk.load 333 _ underlying333 rfl Tryz.jf
theorem dB.aiL{i b f e a c d:Value}(h:dB w g #[i,b,f,e,a,c,d]):w.cell? (g,0)=some i/\w.cell? (g,1)=some b/\w.cell? (g,2)=some f/\w.cell? (g,3)=some e/\w.cell? (g,4)=some a/\w.cell? (g,5)=some c/\w.cell? (g,6)=some d:=⟨h.cell 0,h.cell 1,h.cell 2,h.cell 3,h.cell 4,h.cell 5,h.cell 6⟩
def Uq(l:List UInt8):Int×(List UInt8×Bool):=bM (bO l)
def tkK(l:List UInt8):UInt64×(List UInt8×Bool):=rQ (Uq l).2
def JO(l:List UInt8):List UInt8×(List UInt8×Bool):=fH (tkK l).2
def xO(l:List UInt8)(j:Nat):Int:=(bM (iO (JO l).2 j)).1
def Ur(l:List UInt8):List UInt8×Bool:=iO (JO l).2 4
theorem Ep(rv)(p)(rb)(key)(Z)(z)(n cap)(w)(hR:Out w rv p rb)(hn:Hid (z.length=n))(A:n<=cap)(hz:At w Z z)(y:∀b off,Z=some ⟨b,off,none⟩->∀j,j<z.length->¬ Pl.has p b (off+j)):
  Calls prog 218 #[rv,υ key.toNat,.slice Z n cap] w λe w'=>e=.returned (.tuple #[.agg #[ι (Uq (dD key 2 z)).1,υ ((tkK (dD key 2 z)).1.toNat:Int),.string ⟨(JO (dD key 2 z)).1.toArray⟩,ι (xO (dD key 2 z) 0),ι (xO (dD key 2 z) 1),ι (xO (dD key 2 z) 2),ι (xO (dD key 2 z) 3)],.bool (iB (Ur (dD key 2 z)))])/\CF w w' (Pl.has p):=by
 have G0:=cx w (.cells #[ι 0,υ 0,.string ⟨#[]⟩,ι 0,ι 0,ι 0,ι 0] 333) none
 have HO:=hid (Au rv p rb key 2 2 Z z n cap _ (hR.grown G0) rfl (hid rfl) hn A (hz.below G0) y)
 obtain⟨l,hl⟩:=aq (dD key 2 z)
 obtain⟨D,Y⟩:=aq (bO l)
 obtain⟨h,hF⟩:=aq (bM D)
 obtain⟨s,hK⟩:=aq (rQ h.2)
 obtain⟨t,hC⟩:=aq (fH s.2)
 obtain⟨N,hN⟩:∃N:Nat->Int,∀j,(bM (iO t.2 j)).1=N j:=⟨_,λ_=>rfl⟩
 obtain⟨qE,hE⟩:=aq (iO t.2 4)
 have k:=mo l
 rw[Y]at k
 have ad:=hid Y
 have HF:Hid (Uq (dD key 2 z)=h):=by show _=_;rw[Uq,hl,Y,hF]
 have HK:Hid (tkK (dD key 2 z)=s):=by show _=_;rw[tkK,HF.o,hK]
 have HC:Hid (JO (dD key 2 z)=t):=by show _=_;rw[JO,HK.o,hC]
 have x:Hid (∀j,xO (dD key 2 z) j=N j):=λj=>by rw[xO,HC.o,hN]
 have HE:Hid (Ur (dD key 2 z)=qE):=by show _=_;rw[Ur,HC.o,hE]
 have J:=hid (And.intro hF (And.intro hK (And.intro hC (And.intro hN hE))))
 clear hF hK hC hN hE
 rw[hl]at HO
 have HR:=hid hR
 clear hR hn A hz y G0 hl Y
 go_enter func218,ntmps218
 go_wp2_with fail
 refine HO.o.mono ?_
 rintro e w1 ⟨a,c,rfl,p1,p2,p3,p4,p5,p6⟩
 have hb:Bs (a,l) (.slice a l.length c) l:=Bs.self (S:=(a,l)) p1 p2 p3
 have X:=hid (And.intro p5 (And.intro p4 p6))
 have VZ:=hid (uE (a,l) l l.length a c w1 (hid rfl) p4 hb)
 rw[ad.o]at VZ
 clear p1 p2 p3 p4 p5 p6 hb HO
 go_wp2_with fail
 refine VZ.o.mono ?_
 rintro e w2 ⟨v,rfl,b2,g2⟩
 obtain⟨a2,c2,rfl,_⟩:=id b2
 have IC:RS w (w2.alloc (.cells #[.slice a2 D.1.length c2,.bool D.2] 314)) (Pl.has p) (a,l) w2.heap.size D w.heap.size #[ι 0,υ 0,.string ⟨#[]⟩,ι 0,ι 0,ι 0,ι 0]:=RS.open HR.o X.o.1 X.o.2.1 X.o.2.2 g2 b2 k
 have F:=IC.places [0] (λj E=>by show j<7;simp at E;omega) agF 319
 rw[cF]at F
 have u:=IC.alloc (.cells #[(w,0)] 319)
 have H:=hid (kL (a,l) w2.heap.size _ _ 1 D _ (hid rfl) agE (u.stays [0]) u.rd F)
 have O:iO D 1=h.2:=congrArg Prod.snd J.o.1
 rw[O]at H
 have ae:Hid ((bM (iO D 0)).1=h.1):=congrArg Prod.fst J.o.1
 have f:=hid u
 clear b2 g2 VZ k IC X HR F u O
 go_wp2_with fail
 refine H.o.mono ?_
 rintro e w3 ⟨rfl,U,R,d⟩
 have m:RS w w3 (Pl.has p) (a,l) w2.heap.size h.2 w.heap.size #[ι h.1,υ 0,.string ⟨#[]⟩,ι 0,ι 0,ι 0,ι 0]:=by
  refine f.o.nums d U (λp hp=>?_) rfl (λj E=>?_)
  ·exact adC
  ·have G:j<7:=E;match j,G with
   |0,_=>rw[<-ae.o];exact R 0 (w.heap.size,0) rfl
   |1,_=>exact d.cell (f.o.blk.cell 1) (λe=>by rcases e with e|e;exact f.o.ne e;simp at e)
   |2,_=>exact d.cell (f.o.blk.cell 2) (λe=>by rcases e with e|e;exact f.o.ne e;simp at e)
   |3,_=>exact d.cell (f.o.blk.cell 3) (λe=>by rcases e with e|e;exact f.o.ne e;simp at e)
   |4,_=>exact d.cell (f.o.blk.cell 4) (λe=>by rcases e with e|e;exact f.o.ne e;simp at e)
   |5,_=>exact d.cell (f.o.blk.cell 5) (λe=>by rcases e with e|e;exact f.o.ne e;simp at e)
   |6,_=>exact d.cell (f.o.blk.cell 6) (λe=>by rcases e with e|e;exact f.o.ne e;simp at e)
 have Yb:=hid (Un (a,l) w2.heap.size h.2 _ m.src m.ng m.rd)
 rw[J.o.2.1]at Yb
 have H4:=hid m
 clear U R d m H f
 go_wp2_with fail
 refine Yb.o.mono ?_
 rintro e w4 ⟨rfl,r4,f4⟩
 have BQ:=H4.o.read f4 r4
 obtain⟨⟨d4,aa⟩,Ut⟩:=BQ.slot 1 (by show 1<7;decide)
 have K:RS w (w4.setCell (w,1) (υ s.1.toNat)) (Pl.has p) (a,l) w2.heap.size s.2 w.heap.size #[ι h.1,υ s.1.toNat,.string ⟨#[]⟩,ι 0,ι 0,ι 0,ι 0]:=BQ.store 1 _
 have Sr:=hid (oF (a,l) w2.heap.size s.2 _ K.src K.ng K.rd)
 rw[J.o.2.2.1]at Sr
 have H5:=hid K
 clear r4 f4 BQ K Yb H4
 go_wp2_with fail
 refine Sr.o.mono ?_
 rintro e w6 ⟨rfl,r6,f6⟩
 have C:=H5.o.read f6 r6
 obtain⟨⟨d6,ab⟩,af⟩:=C.slot 2 (by show 2<7;decide)
 have I:RS w (w6.setCell (w,2) (.string t.1)) (Pl.has p) (a,l) w2.heap.size t.2 w.heap.size #[ι h.1,υ s.1.toNat,.string t.1,ι 0,ι 0,ι 0,ι 0]:=C.store 2 _
 have F:=I.places [3,4,5,6] (λj E=>by show j<7;simp at E;omega) agF 319
 rw[World.size_setCell]at F
 have u:=I.alloc (.cells #[(w,3),(w,4),(w,5),(w,6)] 319)
 have W:=hid (kL (a,l) w2.heap.size _ _ 4 t.2 _ (hid rfl) agE (u.stays [3,4,5,6]) u.rd F)
 simp only[J.o.2.2.2.1]at W
 rw[J.o.2.2.2.2]at W
 have B:=hid u
 clear r6 f6 C I Sr H5 F u aa Ut
 go_wp2_with fail
 refine W.o.mono ?_
 rintro e w7 ⟨rfl,M,i,r⟩
 have q:RS w w7 (Pl.has p) (a,l) w2.heap.size qE w.heap.size #[ι h.1,υ s.1.toNat,.string t.1,ι (N 0),ι (N 1),ι (N 2),ι (N 3)]:=by
  refine B.o.nums r M (λp hp=>?_) rfl (λj E=>?_)
  ·exact adC
  ·have G:j<7:=E;match j,G with
   |0,_=>exact r.cell (B.o.blk.cell 0) (λe=>by rcases e with e|e;exact B.o.ne e;simp at e)
   |1,_=>exact r.cell (B.o.blk.cell 1) (λe=>by rcases e with e|e;exact B.o.ne e;simp at e)
   |2,_=>exact r.cell (B.o.blk.cell 2) (λe=>by rcases e with e|e;exact B.o.ne e;simp at e)
   |3,_=>exact i 0 (w.heap.size,3) rfl
   |4,_=>exact i 1 (w.heap.size,4) rfl
   |5,_=>exact i 2 (w.heap.size,5) rfl
   |6,_=>exact i 3 (w.heap.size,6) rfl
 clear M i r W B ab af
 obtain⟨x0,x1,x2,x3,x4,x5,x6⟩:=q.blk.aiL
 have z0:=q.blk.frozen 0
 have z1:=q.blk.frozen 1
 have z2:=q.blk.frozen 2
 have z3:=q.blk.frozen 3
 have z4:=q.blk.frozen 4
 have z5:=q.blk.frozen 5
 have z6:=q.blk.frozen 6
 have L:=(q.drewN 1).ace (ι h.1) (υ s.1.toNat) (.string t.1) (ι (N 0)) (ι (N 1)) (ι (N 2)) (ι (N 3))
 unfold ace at L
 have HY:=hid L.blk.aiL
 have T:=hid L
 have V:=hid (jQ (a,l) w2.heap.size _ _ (w7.drewN 1) (q.rd.drewN 1))
 have Q:=hid (jQ (a,l) w2.heap.size _ _ _ L.rd)
 obtain⟨dn,P⟩:∃dn,Hid ((!qE.2&&decide (qE.1=[]))=dn):=⟨_,hid rfl⟩
 rw[P.o]at V Q
 clear L q
 go_wp2_with fail
 go_region_held3 (λw'=>w'.cell? ⟨w.heap.size,0,none⟩=some (ι h.1)/\w'.cell? ⟨w.heap.size,1,none⟩=some (υ s.1.toNat)/\w'.cell? ⟨w.heap.size,2,none⟩=some (.string t.1)/\w'.cell? ⟨w.heap.size,3,none⟩=some (ι (N 0))/\w'.cell? ⟨w.heap.size,4,none⟩=some (ι (N 1))/\w'.cell? ⟨w.heap.size,5,none⟩=some (ι (N 2))/\w'.cell? ⟨w.heap.size,6,none⟩=some (ι (N 3))) (first|go_keep|exact HY.o) (first|(go_at_call 170;refine V.o.mono ?_;rintro e w9 ⟨rfl,rfl⟩)|(go_at_call 170;refine Q.o.mono ?_;rintro e w9 ⟨rfl,rfl⟩))
 go_wp2
 exact bodyPost_ret (aF results218 _ _ _ w.heap.size rfl _ T.o.aiK) rfl ⟨by rw[HF.o,HK.o,HC.o,x.o,x.o,x.o,x.o,HE.o,iB,P.o];rfl,T.o.cf⟩
variable {l:List UInt8}
theorem Qq{i r:List UInt8}{t:UInt8}(h:Box.cut l=some (t,i,r))(a:i.length<128):l.length=i.length+r.length+2:=by
 grind [Box.iJ,Box.cut]
theorem take_len{a:Nat}{s:List UInt8×Bool}(h:(bC a s.1 s.2).2.2=false)(b:(bC a s.1 s.2).1.length<128):s.2=false/\s.1.length=(bC a s.1 s.2).1.length+(bC a s.1 s.2).2.1.length+2:=by
 grind [Qq,bC]
theorem Et{s:List UInt8×Bool}(h:(bM s).2.2=false):s.2=false/\s.1.length<=(bM s).2.1.length+10:=by
 grind [take_len,Box.num,bM]
theorem Qr(h:cO l=true):l.length<=16:=by
 grind [cO]
theorem MI{s:List UInt8×Bool}(h:(fH s).2.2=false):s.2=false/\s.1.length<=(fH s).2.1.length+18:=by
 grind [take_len,Qr,fH]
theorem acm{s:List UInt8×Bool}(h:(rQ s).2.2=false):s.2=false/\s.1.length<=(rQ s).2.1.length+10:=by
 grind [take_len,rQ]
theorem MJ(h:(bO l).2=false)(a:(bO l).1.length<128):l.length=(bO l).1.length+2:=by
 revert h a;unfold bO;split
 ·rename_i q;intro _ a;have:=(take_len (s:=(l,false)) q.1 a).2;grind
 ·intro h;cases h
theorem afC{β:Type}{s:List UInt8×Bool}(h:lK s)(k:UInt64->List UInt8->Option β):(st s).bind (dL PR k)=(st (rQ s).2).bind (k (rQ s).1):=by
 obtain⟨l,f⟩:=s;cases f
 ·cases hc:Box.cut l with
  |none=>
   have a:bC 4 l false=([],[],true):=(by rw[bC,hc]);simp[st,dL,hc,rQ,a]
  |some q=>
   obtain⟨t,i,r⟩:=q;by_cases e:t.toNat=4
   ·have a:bC 4 l false=(i,r,false):=aif;by_cases b:i.length=8<;>simp[st,dL,hc,rQ,a,PR,e,b]
   ·have a:bC 4 l false=([],[],true):=ahQ;simp[st,dL,hc,rQ,a,PR,e]
 ·have c:l=[]:=h rfl;subst c;simp[st,rQ,oG]
theorem lK.key{s:List UInt8×Bool}(h:lK s):lK (rQ s).2:=by
 unfold rQ;simp only;split
 ·exact h.take 4
 ·exact λ_=>rfl
theorem MK{key a:UInt64}{z:List UInt8}(h:z.length<=216):dD key a z=(eP key a z).getD []:=by
 grind [dD,eP]
theorem Aw{α:Type}(f:List UInt8->Option α)(key b)(z)(i:f []=none)(g:∀l a,f l=some a->l.length<=200):(eP key b z).bind f=f (dD key b z):=by
 by_cases h:z.length<=216
 ·grind [MK,eP]
 ·have e:dD key b z=[]:=by rw[dD,if_neg (λq=>h q.2.1)]
  rw[e,i];cases j:eP key b z with
  |none=>rfl
  |some l=>
   have d:l.length=z.length-16:=by
    grind [Pure.kX,eP]
   cases c:f l with
   |none=>simpa using c
   |some a=>have:=g l a c;omega
def ML:List UInt8->Option Int:=dL bG λt=>ve t
theorem acn(l):kQ l=ML l:=by
 unfold kQ ML dL;cases a:Box.cut l with
 |none=>rfl
 |some q=>
  obtain⟨t,i,r⟩:=q;cases r with
  |nil=>cases hn:bG (t,i)<;>simp[hn,ve]
  |cons x r=>cases hn:bG (t,i)<;>simp[hn,ve]
theorem Ay(l):kQ l=if iB (bM (l,false)).2=true then some (bM (l,false)).1 else none:=by
 rw[acn];have:ML l=(st (l,false)).bind ML:=rfl;rw[this,ML,ku (s:=(l,false)) (λe=>by cases e),vS];rfl
theorem JR{s:List UInt8×Bool}(h:iB s=true):s.2=false/\s.1=[]:=by
 grind [iB]
theorem Ym(key)(z):(eP key 1 z).bind kQ=if iB (bM (dD key 1 z,false)).2=true then some (bM (dD key 1 z,false)).1 else none:=by
 rw[Aw kQ key 1 z (by rw[Ay];rfl) (λl a h=>?_),Ay];rw[Ay]at h;split at h
 ·rename_i hd;obtain⟨b,c⟩:=JR hd;have:=(Et b).2;grind
 ·cases h
def JS:List UInt8->Option PF:=dL dh λc=>dL bG λt=>dL bG λn=>ve ⟨c,t,n⟩
theorem Uz(l):JS l=(Box.dF l).bind tN:=
 dZ _ _ _ (λc l=>dZ _ _ _ (λt l=>dZ _ _ _ (λn l=>wS (⟨c,t,n⟩:PF) l) l) l) l
theorem Qs{b d e c:List UInt8×Bool}{a:List UInt8}{g f:Int}(o:lK b)(n:fH b=(a,d))(m:bM d=(g,e))(i:bM e=(f,c)):
  (st b).bind JS=(if iB c=true then some ⟨a,g,f⟩ else none)/\(iB c=true->b.2=false/\b.1.length<=38):=by
 have k:lK d:=aij
 have j:lK e:=ahc
 refine⟨?_,λh=>?_⟩
 ·unfold JS;rw[wX o,n,ku k,m,ku j,i,vS];rfl
 grind [JR,Et,MI]
def Yn(l:List UInt8):PF:=⟨(Ql l).1,OL l 0,OL l 1⟩
theorem Eu(l):fG l=(if iB (Wd l)=true then some (Yn l) else none)/\(iB (Wd l)=true->l.length<=200):=by
 have d:fG l=(st (bO l)).bind JS:=by
  unfold fG;rw[zM,Option.bind_assoc];congr 1;grind [Uz]
 have e:fH (bO l)=Ql l:=rfl;have b:bM (Ql l).2=(OL l 0,iO (Ql l).2 1):=wY _;have a:bM (iO (Ql l).2 1)=(OL l 1,iO (Ql l).2 2):=nN _ 1;have c:Wd l=iO (Ql l).2 2:=rfl;have f:Yn l=⟨(Ql l).1,OL l 0,OL l 1⟩:=rfl;grind [Qs,MJ,uH]
theorem yx(key)(z):(eP key 4 z).bind fG=if iB (Wd (dD key 4 z))=true then some (Yn (dD key 4 z)) else none:=by
 have b:fG []=none:=by
  rw[fG,zM];have:bO []=([],true):=by rw[bO,oG];rfl
  rw[this];rfl
 rw[Aw fG key 4 z b (λl a h=>?_),(Eu _).1];grind [Eu]
def Cq:List UInt8->Option TK:=dL bG λf=>dL PR λk=>dL dh λc=>dL bG λa=>dL bG λs=>dL bG λe=>dL bG λr=>ve ⟨f,k,c,a,s,e,r⟩
theorem Qt(l):Cq l=(Box.dF l).bind jO:=
 dZ _ _ _ (λf l=>dZ _ _ _ (λk l=>dZ _ _ _ (λc l=>dZ _ _ _ (λa l=>dZ _ _ _ (by grind [wS,dZ]) l) l) l) l) l
theorem MM{a e g f b d s3 s4:List UInt8×Bool}{l:Int}{k:UInt64}{c:List UInt8}{i j n m:Int}(s:lK a)(hF:bM a=(l,e))(u:rQ e=(k,g))(t:fH g=(c,f))(y:bM f=(i,b))(w:bM b=(j,d))(o:bM d=(n,s3))(A:bM s3=(m,s4)):
  (st a).bind Cq=(if iB s4=true then some ⟨l,k,c,i,j,n,m⟩ else none)/\(iB s4=true->a.2=false/\a.1.length<=100):=by
 have v:lK e:=ahc
 have q:lK g:=by grind [lK.key]
 have r:lK f:=aij
 have x:lK b:=ahc
 have p:lK d:=ahc
 have z:lK s3:=ahc
 refine⟨?_,λh=>?_⟩
 ·unfold Cq;rw[ku s,hF,afC v,u,wX q,t,ku r,y,ku x,w,ku p,o,ku z,A,vS];rfl
 grind [Et,MI,JR,acm]
def Wi(l:List UInt8):TK:=⟨(Uq l).1,(tkK l).1,(JO l).1,xO l 0,xO l 1,xO l 2,xO l 3⟩
theorem Bt(l):dR l=(if iB (Ur l)=true then some (Wi l) else none)/\(iB (Ur l)=true->l.length<=200):=by
 have f:dR l=(st (bO l)).bind Cq:=by
  unfold dR;rw[zM,Option.bind_assoc];congr 1;grind [Qt]
 have hF:bM (bO l)=Uq l:=rfl;have h:rQ (Uq l).2=tkK l:=rfl;have g:fH (tkK l).2=JO l:=rfl;have b:bM (JO l).2=(xO l 0,iO (JO l).2 1):=wY _;have a:bM (iO (JO l).2 1)=(xO l 1,iO (JO l).2 2):=nN _ 1;have c:bM (iO (JO l).2 2)=(xO l 2,iO (JO l).2 3):=nN _ 2;have i:bM (iO (JO l).2 3)=(xO l 3,iO (JO l).2 4):=nN _ 3;have e:Ur l=iO (JO l).2 4:=rfl;have d:Wi l=⟨(Uq l).1,(tkK l).1,(JO l).1,xO l 0,xO l 1,xO l 2,xO l 3⟩:=rfl;grind [uH,MJ,MM]
theorem sF(key)(z):(eP key 2 z).bind dR=if iB (Ur (dD key 2 z))=true then some (Wi (dD key 2 z)) else none:=by
 have b:dR []=none:=by
  rw[dR,zM];have:bO []=([],true):=by rw[bO,oG];rfl
  rw[this];rfl
 rw[Aw dR key 2 z b (λl a h=>?_),(Bt _).1];grind [Bt]
end Go.Proofs.YtlfifnpjeangmaaGreatDoor
