import Derived.Test.YtlfifnpjeangmaaGreatDoorGEQMany
namespace Go.Proofs.YtlfifnpjeangmaaGreatDoor
open Go.RowKit
set_option maxRecDepth 100000
variable {base wb:Nat}{w0:World}{U:Nat->Prop}{p:Prop}
theorem CU{w:World}{base:Nat}{e:TypeId}{g n:Nat}{b:List Value}(h:w.ownsRow base e 1 (ς g 0 n n) n b):dz w g b.toArray/\base<=g:=by
 rcases h.2 with⟨a,_⟩|⟨m,d,f,a,i,j,_,_,k,l⟩
 .cases a
 .injection a with e1 _ e3;injection e1 with e1;injection e1 with e1 _ _;subst e1 e3;refine⟨⟨e,?_⟩,i⟩;rw[j,<-l,fR,cU fA,Array.toArray_toList]
theorem BT{w:World}{j k:Nat}{e f:TypeId}{g h n m p o v x:Nat}{y A:List Value}(t:w.ownsRow j e v (ς g 0 n p) n y)(u:w.ownsRow k f x (ς h 0 m o) m A)(r:e≠f):g≠h:=by
 rcases t.2 with⟨i,_⟩|⟨B,l,q,i,_,D,_⟩
 .cases i
 .rcases u.2 with⟨d,_⟩|⟨C,a,b,d,_,J,_⟩
  .cases d
  grind
theorem dz.four{w:World}{g:Nat}{a b c d:Value}(h:dz w g #[a,b,c,d]):w.cell? (F g 0)=some a/\w.cell? (F g 1)=some b/\w.cell? (F g 2)=some c/\w.cell? (F g 3)=some d:=⟨h.cell 0,h.cell 1,h.cell 2,h.cell 3⟩
theorem Us.list{d:BW}{w:World}{g n t:Nat}{j:List Value}(h:Us base wb w0 U d w)(i:dz w0 g j.toArray)(k:¬ U g):∃e:Option Nat,Hid ((n=0/\e=none)\/∃a,e=some a/\(some ⟨g,0,none⟩:Option Addr)=some ⟨a,0,none⟩/\0<n/\dz w a j.toArray/\a≠wb/\(d.lv t).ownBlock≠some a)/\∀b,e=some b->b=g:=by
 have f:=h.free i.lt k;by_cases e:n=0
 .exact⟨none,.inl ⟨e,rfl⟩,λb h=>by cases h⟩
 .exact⟨some g,.inr ⟨g,rfl,rfl,by omega,i.kept f.2,λe=>f.1 ⟨(0,0),rfl,e⟩,λe=>f.1 ⟨(2,t),e⟩⟩,fA⟩
theorem kK.vne{d:BW}{w:World}(h:kK base wb d w)(t:Nat):(d.lv t).ownBlock≠some wb:=λe=>by have:=h.one (0,0) (2,t) wb ⟨rfl,rfl⟩ e;simp at this
theorem K0(d:BW)(g n:Nat)(m:List Value)(w:World)(h:Us base wb w0 U d w)(y:Hid (m.length=n))(l:n<=100000)(o:dz w0 g m.toArray)(a:base<=g)(p:¬ U g)(j:((d.le 1).length+1)*112<=140737488355328):Calls Tryz.prog 39 #[π wb 2,ς g 0 n n] w λe q=>e=.returned (.tuple #[])/\∃x v,Us base wb w0 (λb=>U b\/b=g) (d.add 1 v x) q:=by
 obtain⟨r,f,i⟩:=h.list (n:=n) (t:=1) o p
 refine(Of base wb n (some ⟨g,0,none⟩) m (d.le 1) (d.lv 1) d.cells r w h.sep.blk rfl (h.sep.here (2,1)) (h.sep.vne 1) h.sep.room y l (I (λe=>by cases e)) f j).mono ?_
 rintro e q ⟨rfl,u⟩
 obtain⟨x,v,k⟩:=h.more (t:=1) G (λb e=>by rw[i b e];exact⟨a,o.lt,p⟩) u
 grind [Us.mono]
theorem KK(d:BW)(g n:Nat)(m:List Value)(w:World)(h:Us base wb w0 U d w)(y:Hid (m.length=n))(l:n<=100000)(o:dz w0 g m.toArray)(a:base<=g)(p:¬ U g)(j:((d.le 2).length+1)*112<=140737488355328):Calls Tryz.prog 38 #[π wb 2,ς g 0 n n] w λe q=>e=.returned (.tuple #[])/\∃x v,Us base wb w0 (λb=>U b\/b=g) (d.add 2 v x) q:=by
 obtain⟨r,f,i⟩:=h.list (n:=n) (t:=2) o p
 refine(N6 base wb n (some ⟨g,0,none⟩) m (d.le 2) (d.lv 2) d.cells r w h.sep.blk rfl (h.sep.here (2,2)) (h.sep.vne 2) h.sep.room y l (I (λe=>by cases e)) f j).mono ?_
 rintro e q ⟨rfl,u⟩
 obtain⟨x,v,k⟩:=h.more (t:=2) G (λb e=>by rw[i b e];exact⟨a,o.lt,p⟩) u
 grind [Us.mono]
theorem PJ(d:BW)(v:Value)(p:Option Pl)(a:E)(n:Nat)(w:World)(h:Us base wb w0 U d w)(m:f' w v p a)(o:Hid (a.length=n))(j:n<=100000)(f:∀q,p=some q->base<=q.g/\q.g<w0.1.size/\¬ U q.g)(i:((d.le 0).length+1)*112<=140737488355328):Calls Tryz.prog 21 #[π wb 2,v] w λe l=>e=.returned (.tuple #[])/\∃x u,Us base wb w0 (λb=>U b\/Pl.blk p=some b) (d.add 0 u x) l:=by
 have b:∀g,Pl.blk p=some g->base<=g/\g<w0.1.size/\¬ U g:=λg e=>by
  cases p with
  |none=>cases e
  |some q=>injection e with e;rw[<-e];exact f q rfl
 have k:∀g,Pl.blk p=some g->¬ kB wb d g:=λg e=>(h.free (b g e).2.1 (b g e).2.2).1
 refine(S9 base wb n v p a (d.le 0) (d.lv 0) d.cells w h.sep.blk rfl (h.sep.here (2,0)) (h.sep.vne 0) h.sep.room o j m (λg e=>⟨λq=>k g e ⟨(0,0),rfl,q⟩,λq=>k g e ⟨(2,0),q⟩⟩) i).mono ?_
 rintro e l ⟨rfl,g⟩
 exact⟨rfl,h.more (t:=0) G b g⟩
set_option maxHeartbeats 1000000
open Proofs.Tryz
theorem C'(h:p:=by simp only[not_or];exact⟨⟨⟨HU _ HD.1.2.2.2.2.2,HD.2.2.2.2.2.2.2.2.1⟩,HD.2.2.2.2.2.2.2.2.2.1⟩,HD.2.2.2.2.2.2.2.2.2.2.1⟩):p:=h
theorem Cl(h:p:=by simp only[not_or];exact⟨HU _ HD.1.2.2.2.2.1,HD.2.2.2.2.2.2.2.1.1⟩):p:=h
theorem Om{α:Type}(l:List α)(h:(l.length+2)*112<=140737488355328)(e:α):((l++[e]).length+1)*112<=140737488355328:=by
 grind
theorem VR(b:List RE)(a:List BE)(h:b.map RE.be=a):b.map vK=a.map (λx=>Value.string ⟨x.name.toArray⟩)/\b.map DC=a.map (λx=>Value.int .i64 x.aH):=by
 subst h;exact⟨by rw[List.map_map];rfl,by rw[List.map_map];rfl⟩
theorem VS(w:World)(f:Nat)(M:DM)(g:RG)(h:RD w 0 f M g)(m:M.aF.length<=20):Calls prog 36 #[π f 0] w λe a=>∃b i d j,e=.returned (.agg #[.slice b M.aF.length i,.slice d M.aF.length j,Y (M.aJ.length:Int),Y (M.aL.length:Int)])/\ql a b (M.aF.map λx=>Value.string ⟨x.name.toArray⟩)/\ql a d (M.aF.map λx=>Value.int .i64 x.aH)/\w.grownBy a none:=by
 obtain⟨k,r,l,b⟩:=g
 have i:=h.bP
 have j:=h.aJ
 simp only at i j
 obtain⟨n,o,d⟩:=bA j
 subst d
 have e:b.map RE.be=M.aF:=h.aF
 have a:b.length=M.aF.length:=by rw[<-e,cR]
 obtain⟨p,q⟩:=VR b M.aF e
 refine(PO 0 f M.aA k l n M.aJ.length o b M.aL M.aF.length M.aL.length w i (I a) G (I rfl)).mono ?_
 grind [bA,nC]
def xX(base wb n:Nat)(d:BW)(w:World)(e:Ending)(w':World)(PN:List QD->Prop):Prop:=
 e=.returned (.bool true)/\∃d',Us base wb w (kB wb d) d' w'/\d'.qv=d.qv/\PN d'.qs/\∀t,(d'.le t).length<=(d.le t).length+n
theorem Oo(d:BW)(k:Nat)(P R:Nat)(dp:Option Pl)(yb:Nat)(rg:RG)(M:DM)(sv:Value)(kl:List KN)(m:Int)(D:Array Value)(w:World)(h0:D[0]?=some (Y m))(q:d.qs[k]?=some ⟨P,R,dp,yb,rg,M,M,sv,kl⟩)(ak:(m==10)=false)(al:(m==12)=false)(p:kK base wb d w)(f:((d.le 2).length+2)*112<=140737488355328)(h:((d.le 1).length+2)*112<=140737488355328):Calls prog 10 #[π wb 0,.agg D,π P 0] w λe t=>xX base wb 16 d w e t (λa=>a=d.qs):=by
 have i:=p.part q
 have l:=cx w (.cells D 48) none
 have a:∀j,QD.C ⟨P,R,dp,yb,rg,M,M,sv,kl⟩ j (w.alloc (.cells D 48)):=λj=>QD.loc (i j) (λb L=>l.block b (QD.lt (i j) L) Z)
 have r:(w.alloc (.cells D 48)).cell? (F w.1.size 0)=some (Y m):=by rw[World.cell?_alloc_at (hn:=rfl)];exact h0
 have U:Hid (∀W,(w.alloc (.cells D 48)).grownBy W none->∀j,QD.C ⟨P,R,dp,yb,rg,M,M,sv,kl⟩ j W):=λW g j=>QD.loc (a j) (λb L=>g.block b (QD.lt (a j) L) Z)
 have j:(w.alloc (.cells D 48)).c P 0=some (π R 0):=dz.cell (a 0) 0
 have af:M.aF.length<=20:=(i 1).1.bP.aF.len
 have ag:Hid (∀e:ic,(((d.le 2)++[e]).length+1)*112<=140737488355328):=λe=>Om (d.le 2) f e
 have ah:Hid (∀e:ic,(((d.le 1)++[e]).length+1)*112<=140737488355328):=λe=>Om (d.le 1) h e
 have n:Hid (((d.le 2).length+1)*112<=140737488355328/\((d.le 1).length+1)*112<=140737488355328/\M.aF.length<=100000):=⟨by omega,by omega,by omega⟩
 clear f h
 have HI:=I p
 have HG:=I l
 have s0:(w.alloc (.cells D 48)).1.size=w.1.size+1:=cF _ _
 clear i a l p q
 go_in
 go_wp2_with fail
 refine(vg R dp M _ (U _ (cC _ _) 1).1.bP).mono ?_
 rintro e p ⟨a,f,rfl,g,h,i⟩
 have y:=cx p (.cells #[ς a 0 M.aF.length M.aF.length,ς f 0 M.aF.length M.aF.length,Y (M.aJ.length:Int),Y (M.aL.length:Int)] 101) none
 have Ga:=aa i y
 have A:(p.alloc (.cells #[ς a 0 M.aF.length M.aF.length,ς f 0 M.aF.length M.aF.length,Y (M.aJ.length:Int),Y (M.aL.length:Int)] 101)).c P 0=some (π R 0):=dz.cell (U _ Ga 0) 0
 have s1:=i.size
 have sa:(p.alloc (.cells #[ς a 0 M.aF.length M.aF.length,ς f 0 M.aF.length M.aF.length,Y (M.aJ.length:Int),Y (M.aL.length:Int)] 101)).1.size=p.1.size+1:=cF _ _
 have n1:=BT g h O
 obtain⟨B1,f1⟩:=CU g
 obtain⟨B2,f2⟩:=CU h
 have l1:=B1.lt
 have l2:=B2.lt
 have u:=dz.new p #[ς a 0 M.aF.length M.aF.length,ς f 0 M.aF.length M.aF.length,Y (M.aJ.length:Int),Y (M.aL.length:Int)] 101
 have S:=I (dN B1 (dN B2 u))
 clear j r g h i B1 B2 u
 go_wp2_with fail
 refine(vg R dp M _ (U _ Ga 1).1.bP).mono ?_
 rintro e q ⟨h,i,rfl,j,l,v⟩
 have x:=cx q (.cells #[ς h 0 M.aF.length M.aF.length,ς i 0 M.aF.length M.aF.length,Y (M.aJ.length:Int),Y (M.aL.length:Int)] 101) none
 have Gc:=aa Ga (aa v x)
 have q2:(q.alloc (.cells #[ς h 0 M.aF.length M.aF.length,ς i 0 M.aF.length M.aF.length,Y (M.aJ.length:Int),Y (M.aL.length:Int)] 101)).c P 1=some (π yb 0):=dz.cell (U _ Gc 0) 1
 have s2:=v.size
 have n2:=BT j l O
 obtain⟨B3,f3⟩:=CU j
 obtain⟨B4,f4⟩:=CU l
 have l3:=B3.lt
 have l4:=B4.lt
 have r:=dz.new q #[ς h 0 M.aF.length M.aF.length,ς i 0 M.aF.length M.aF.length,Y (M.aJ.length:Int),Y (M.aL.length:Int)] 101
 have T:=I (dN B3 (dN B4 r))
 have H2:=I (aa y (aa v x))
 have g:=I (dN v x)
 clear A j l B3 B4 r y v x
 go_wp2_with fail
 refine(VS _ yb M rg (U _ Gc 2) af).mono ?_
 rintro e w3 ⟨v,A,y,B,rfl,K,Q,g3⟩
 have gd:=cx w3 (.cells #[.slice v M.aF.length A,.slice y M.aF.length B,Y (M.aJ.length:Int),Y (M.aL.length:Int)] 101) none
 have C:=I (aa g3 gd)
 have yj:=I (dN (K.below gd) (Q.below gd))
 have j:dz (w3.alloc (.cells #[.slice v M.aF.length A,.slice y M.aF.length B,Y (M.aJ.length:Int),Y (M.aL.length:Int)] 101)) p.1.size #[ς a 0 M.aF.length M.aF.length,ς f 0 M.aF.length M.aF.length,Y (M.aJ.length:Int),Y (M.aL.length:Int)]:=((S.2.2.grown g.1 Z).grown g.2 Z).grown C Z
 have J:=dz.new w3 #[.slice v M.aF.length A,.slice y M.aF.length B,Y (M.aJ.length:Int),Y (M.aL.length:Int)] 101
 obtain⟨V,X,x2,x3⟩:=j.four
 obtain⟨y0,y1,y2,y3⟩:=J.four
 have G3:=aa Gc C.o
 have ad:=I J
 have ab:=I j
 have e1:(M.aF.map (λx=>x.name)).map (λl=>Value.string ⟨l.toArray⟩)=M.aF.map λx=>Value.string ⟨x.name.toArray⟩:=by rw[List.map_map];rfl
 have e2:(M.aF.map (λx=>x.aH)).map (λx=>Value.int .i64 x)=M.aF.map λx=>Value.int .i64 x.aH:=by rw[List.map_map];rfl
 have HS:Hid (∀(W:World)(a1 a2:Option Addr)(l c2:Nat),(w3.alloc (.cells #[.slice v M.aF.length A,.slice y M.aF.length B,Y (M.aJ.length:Int),Y (M.aL.length:Int)] 101)).grownBy W none->ql W a1 (M.aF.map λx=>Value.string ⟨x.name.toArray⟩)->ql W a2 (M.aF.map λx=>Value.int .i64 x.aH)->Calls prog 37 #[.agg #[.slice a1 M.aF.length l,.slice a2 M.aF.length c2,Y (M.aJ.length:Int),Y (M.aL.length:Int)],.agg #[.slice v M.aF.length A,.slice y M.aF.length B,Y (M.aJ.length:Int),Y (M.aL.length:Int)]] W λe t=>e=.returned (.bool true)/\W.grownBy t none):=by
  intro W a1 a2 l c2 gW h1 h2;exact Gf (M.aF.map (λx=>x.name)) (M.aF.map (λx=>x.aH)) M.aF.length a1 a2 v y l c2 A B _ _ W (by show _=_;rw[cR]) (by show _=_;rw[cR]) G (by rw[e1];exact h1) (by rw[e1];exact yj.1.below gW) (by rw[e2];exact h2) (by rw[e2];exact yj.2.below gW)
 have JC:Hid (ql (w3.alloc (.cells #[.slice v M.aF.length A,.slice y M.aF.length B,Y (M.aJ.length:Int),Y (M.aL.length:Int)] 101)) (some ⟨a,0,none⟩) (M.aF.map λx=>Value.string ⟨x.name.toArray⟩)/\ql (w3.alloc (.cells #[.slice v M.aF.length A,.slice y M.aF.length B,Y (M.aJ.length:Int),Y (M.aL.length:Int)] 101)) (some ⟨f,0,none⟩) (M.aF.map λx=>Value.int .i64 x.aH)):=⟨(S.1.cat.below H2).below C,(S.2.1.cat.below H2).below C⟩
 have FI:Hid (ql (w3.alloc (.cells #[.slice v M.aF.length A,.slice y M.aF.length B,Y (M.aJ.length:Int),Y (M.aL.length:Int)] 101)) (some ⟨h,0,none⟩) (M.aF.map λx=>Value.string ⟨x.name.toArray⟩)/\ql (w3.alloc (.cells #[.slice v M.aF.length A,.slice y M.aF.length B,Y (M.aJ.length:Int),Y (M.aL.length:Int)] 101)) (some ⟨i,0,none⟩) (M.aF.map λx=>Value.int .i64 x.aH)):=⟨(T.1.cat.below g.2).below C,(T.2.1.cat.below g.2).below C⟩
 clear q2 K Q g3 gd e1 e2 j J
 go_wp2_with fail
 refine(HS _ _ _ _ _ (cC _ _) JC.1 JC.2).mono ?_
 rintro e w4 ⟨rfl,J⟩
 have K:dz w4 q.1.size #[ς h 0 M.aF.length M.aF.length,ς i 0 M.aF.length M.aF.length,Y (M.aJ.length:Int),Y (M.aL.length:Int)]:=(T.2.2.grown C Z).grown J Z
 have W:=ad.grown J Z
 clear V X x2 x3 y0 y1 y2 y3
 obtain⟨V,X,x2,x3⟩:=K.four
 obtain⟨y0,y1,y2,y3⟩:=W.four
 go_wp2_with fail
 refine(HS _ _ _ _ _ J (FI.1.below J) (FI.2.below J)).mono ?_
 rintro e Q ⟨rfl,g5⟩
 clear V X x2 x3 y0 y1 y2 y3
 have j:=aa C (aa J g5)
 have G5:=aa HG (aa Gc j)
 have ai:=I (Us.start (HI.grown G5))
 have aj:=HI.room
 have B1:Hid (dz Q a (M.aF.map λx=>Value.string ⟨x.name.toArray⟩).toArray):=(S.1.grown H2 Z).grown j Z
 have B2:Hid (dz Q f (M.aF.map λx=>Value.int .i64 x.aH).toArray):=(S.2.1.grown H2 Z).grown j Z
 have B3:Hid (dz Q h (M.aF.map λx=>Value.string ⟨x.name.toArray⟩).toArray):=(T.1.grown g.2 Z).grown j Z
 have B4:Hid (dz Q i (M.aF.map λx=>Value.int .i64 x.aH).toArray):=(T.2.1.grown g.2 Z).grown j Z
 have u:Hid (dz Q p.1.size #[ς a 0 M.aF.length M.aF.length,ς f 0 M.aF.length M.aF.length,Y (M.aJ.length:Int),Y (M.aL.length:Int)]):=(ab.grown J Z).grown g5 Z
 have r:Hid (dz Q q.1.size #[ς h 0 M.aF.length M.aF.length,ς i 0 M.aF.length M.aF.length,Y (M.aJ.length:Int),Y (M.aL.length:Int)]):=K.grown g5 Z
 have HU:Hid (∀b,w.1.size<=b->¬ kB wb d b):=λb L e=>by have:=(HI.low e).2;omega
 have l:Hid (∀b,w.1.size<=b->base<=b):=λb L=>by omega
 have MZ:=I G5
 rw[s0]at f1 f2
 rw[sa]at f3 f4
 have HD:Hid ((w.1.size<=a/\w.1.size<=f/\w.1.size<=h/\w.1.size<=i/\w.1.size<=p.1.size/\w.1.size<=q.1.size)/\f≠a/\h≠a/\h≠f/\i≠a/\i≠f/\i≠h/\(p.1.size≠a/\p.1.size≠f)/\q.1.size≠a/\q.1.size≠f/\q.1.size≠h/\q.1.size≠i):=by
  show _/\_;omega
 have Cq:Hid ((M.aF.map λx=>Value.string ⟨x.name.toArray⟩).length=M.aF.length):=cR _
 have ae:Hid ((M.aF.map λx=>Value.int .i64 x.aH).length=M.aF.length):=cR _
 have V:=u.cell 0
 simp only[cH,cG]at V
 have C6:=I (KK d a M.aF.length _ (Q.drewN 1) (ai.grown (aR (cC _ none) 1)) Cq n.2.2 B1 (l _ HD.1.1) (HU _ HD.1.1) n.1)
 clear K W j G5 G3 Gc Ga J g5 HS JC FI yj ad ab H2 g C S T U n1 n2 f1 f2 f3 f4 l1 l2 l3 l4 s0 s1 s2 sa
 go_wp2_with fail
 go_region_held3 (λt=>t.c p.1.size 0=some (ς a 0 M.aF.length M.aF.length)) (go_keep) (first|(go_at_call 38;refine C6.mono ?_;rintro e w6 ⟨rfl,j,J,x⟩;have g:=(u.kept (x.free u.o.lt Cl).2).cell 0;simp only[cH,cG]at g))
 have X:=(u.kept (x.free u.o.lt Cl).2).cell 1
 simp only[cH,cG,cI]at X
 have S:=I (K0 _ f M.aF.length _ (w6.drewN 1) (x.grown (aR (cC _ none) 1)) ae n.2.2 B2 (l _ HD.1.2.1) (by simp only[not_or];exact⟨HU _ HD.1.2.1,HD.2.1⟩) n.2.1)
 clear g V C6 x
 go_wp2_with fail
 go_region_held3 (λt=>t.c p.1.size 1=some (ς f 0 M.aF.length M.aF.length)) (go_keep) (first|(go_at_call 39;refine S.mono ?_;rintro e w7 ⟨rfl,C,K,x⟩;have g:=(u.kept (x.free u.o.lt (by simp only[not_or];exact⟨⟨HU _ HD.1.2.2.2.2.1,HD.2.2.2.2.2.2.2.1.1⟩,HD.2.2.2.2.2.2.2.1.2⟩)).2).cell 1;simp only[cH,cG,cI]at g))
 have x2:=(r.kept (x.free r.o.lt (by simp only[not_or];exact⟨⟨HU _ HD.1.2.2.2.2.2,HD.2.2.2.2.2.2.2.2.1⟩,HD.2.2.2.2.2.2.2.2.2.1⟩)).2).cell 0
 simp only[cH,cG]at x2
 have T:=I (KK _ h M.aF.length _ (w7.drewN 1) (x.grown (aR (cC _ none) 1)) Cq n.2.2 B3 (l _ HD.1.2.2.1) (by simp only[not_or];exact⟨⟨HU _ HD.1.2.2.1,HD.2.2.1⟩,HD.2.2.2.1⟩) (ag j))
 clear g X S x
 go_wp2_with fail
 go_region_held3 (λt=>t.c q.1.size 0=some (ς h 0 M.aF.length M.aF.length)) (go_keep) (first|(go_at_call 38;refine T.mono ?_;rintro e X ⟨rfl,U,V,x⟩;have g:=(r.kept (x.free r.o.lt C').2).cell 0;simp only[cH,cG]at g))
 have x3:=(r.kept (x.free r.o.lt C').2).cell 1
 simp only[cH,cG,cI]at x3
 have S:=I (K0 _ i M.aF.length _ (X.drewN 1) (x.grown (aR (cC _ none) 1)) ae n.2.2 B4 (l _ HD.1.2.2.2.1) (by simp only[not_or];exact⟨⟨⟨HU _ HD.1.2.2.2.1,HD.2.2.2.2.1⟩,HD.2.2.2.2.2.1⟩,HD.2.2.2.2.2.2.1⟩) (ah C))
 clear g x2 T x
 go_wp2_with fail
 go_region_held3 (λt=>t.c q.1.size 1=some (ς i 0 M.aF.length M.aF.length)) (go_keep) (first|(go_at_call 39;refine S.mono ?_;rintro e w9 ⟨rfl,T,W,x⟩;have g:=(r.kept (x.free r.o.lt (by simp only[not_or];exact⟨⟨⟨⟨HU _ HD.1.2.2.2.2.2,HD.2.2.2.2.2.2.2.2.1⟩,HD.2.2.2.2.2.2.2.2.2.1⟩,HD.2.2.2.2.2.2.2.2.2.2.1⟩,HD.2.2.2.2.2.2.2.2.2.2.2⟩)).2).cell 1;simp only[cH,cG,cI]at g))
 clear g x3 S
 go_wp2
 go_ret
 refine⟨rfl,_,Us.trans (iU.lM MZ _) x (λb L=>?_),rfl,rfl,λt=>?_⟩
 .have b:=HD.1;rcases L with(((e|e)|e)|e)|e
  .exact .inl e
  .exact .inr G
  .exact .inr G
  .exact .inr G
  .exact .inr G
 .have a1:=BW.CQ (((d.add 2 J j).add 1 K C).add 2 V U) 1 W T t;have a2:=BW.CQ ((d.add 2 J j).add 1 K C) 2 V U t;have b:=BW.CQ (d.add 2 J j) 1 K C t;have g:=BW.CQ d 2 J j t;omega
set_option maxHeartbeats 2000000
theorem ny.lt{j w:World}{a:Option Addr}{d:Nat}{l:E}{e:Option Nat}(h:ny j w a d l e)(k:Nat)(b:some k=e):k<w.1.size:=by
 rcases h with⟨_,_,_,h⟩|⟨g,_,f,_,i⟩
 .rw[h]at b;cases b
 .rw[f]at b;cases b;exact i.lt
theorem Tryz.VT:(prog.info? 54).map (λi=>(i.zero,i.size,i.bytes))=some (some (.pointer none),1,8):=by kernel_rfl
theorem kK.pushed{d:BW}{w t l:World}{p:QD}{v:Value}(m:kK base wb d w)(u:w.grownBy t none)(L:∀j,p.C j t)(B:∀j b,p.F j b->w.1.size<=b)(V:∀i j b,p.F i b->p.F j b->i=j)(g:t.grownBy l d.qv.ownBlock)(o:l.ownsRow base 54 1 v (d.qs.length+1) ((d.qs.map λp=>mA p.pb)++[mA p.pb]))(S:v.ownBlock=d.qv.ownBlock\/v.ownBlock=some t.1.size):
  Us base wb w (kB wb d) {d with qv:=v,qs:=d.qs++[p]} (l.setCell (F wb 1) v):=by
 have s1:=u.size
 have s2:=g.size
 have Q:=m.room
 have ab:=m.lt (0,0) wb ⟨rfl,rfl⟩
 have X:∀b,d.qv.ownBlock=some b->b<w.1.size:=λb e=>m.lt (1,0) b ⟨rfl,e⟩
 have y:∀b,w.1.size<=b->∀j,¬ BW.F wb d j b:=λb a j f=>by have:=m.lt j b f;omega
 have x:d.qv.ownBlock≠some wb:=λe=>by have:=m.one (0,0) (1,0) wb ⟨rfl,rfl⟩ ⟨rfl,e⟩;simp at this
 have U:∀b,v.ownBlock=some b->d.qv.ownBlock=some b\/b=t.1.size:=fA
 have A:v.ownBlock≠some wb:=fA
 have D:dz l wb d.cells:=(m.blk.grown u Z).grown g (λe=>x e.symm)
 have J:∀b,b<t.1.size->w.1.size<=b->(l.setCell (F wb 1) v).1[b]?=t.1[b]?:=(by grind [RowKit.Below.heap_setCell,World.grownBy.block])
 have M:∀j,p.C j (l.setCell (F wb 1) v):=λj=>QD.loc (L j) (λb a=>J b (QD.lt (L j) a) (B j b a))
 have K:(d.qs++[p])[d.qs.length]?=some p:=Z
 have hF:∀j b,BW.F wb {d with qv:=v,qs:=d.qs++[p]} (j+4,d.qs.length) b->p.F j b:=by
  rintro j b ⟨q,hq,a⟩;grind
 have C:∀j b,p.F j b->v.ownBlock≠some b:=λj b a e=>by
  have k:=QD.lt (L j) a;grind
 have R:iU w (l.setCell (F wb 1) v) (λb=>b=wb\/d.qv.ownBlock=some b):=⟨g.os.trans u.os,g.tape.trans u.tape,g.output.trans u.output,by rw[World.size_setCell];omega,xt⟩
 have T:∀j,¬ (j=(0,0)\/j=(1,0)\/∃i,j=(i+4,d.qs.length))->(BW.C base wb d j (l.setCell (F wb 1) v)->BW.C base wb {d with qv:=v,qs:=d.qs++[p]} j (l.setCell (F wb 1) v))/\∀b,BW.F wb {d with qv:=v,qs:=d.qs++[p]} j b->BW.F wb d j b:=by
  intro j f;match j,f with
  |(0,k),f=>exact⟨λ_ e=>absurd (by rw[e]) (λq=>f (.inl q)),λb e=>absurd (by rw[e.1]) (λq=>f (.inl q))⟩
  |(1,k),f=>exact⟨λ_ e=>absurd (by rw[e]) (λq=>f (.inr (.inl q))),λb e=>absurd (by rw[e.1]) (λq=>f (.inr (.inl q)))⟩
  |(2,_),_=>exact⟨λq=>q,λ_ q=>q⟩
  |(3,_),_=>exact⟨λq=>q,λ_ q=>q⟩
  |(j+4,k),f=>
   have x:k≠d.qs.length:=fA;have n:∀q,(d.qs++[p])[k]?=some q->d.qs[k]?=some q:=fA;exact⟨λq r P=>q r (n r P),λb ⟨r,P,a⟩=>⟨r,n r P,a⟩⟩
 refine⟨KG.acts (BW.loc base wb) m (λj=>j=(0,0)\/j=(1,0)\/∃i,j=(i+4,d.qs.length)) _ R ?_ ?_ ?_ ?_ T,R.mono (λb _ e=>?_),λb ⟨i,a⟩=>?_⟩
 .rintro b (e|e)
  .exact .inl ⟨(0,0),.inl rfl,rfl,e⟩
  .exact .inl ⟨(1,0),.inr (.inl rfl),rfl,e⟩
 .rintro _ (rfl|rfl|⟨j,rfl⟩)
  .exact λ_=>D.set 1 v
  .intro _;grind [RowKit.Below.heap_setCell,cB]
  .intro q hq;grind
 .rintro _ b (rfl|rfl|⟨j,rfl⟩) a
  .obtain⟨_,rfl⟩:=a;exact⟨m.base (0,0) b ⟨rfl,rfl⟩,by rw[World.size_setCell];omega,.inl ⟨(0,0),.inl rfl,rfl,rfl⟩⟩
  .have e:v.ownBlock=some b:=a.2;refine⟨(o.lt b e).1,by rw[World.size_setCell];exact(o.lt b e).2,?_⟩;rcases U b e with k|k
   .exact .inl ⟨(1,0),.inr (.inl rfl),rfl,k⟩
   grind
  .have q:=B j b (hF j b a);exact⟨by omega,QD.lt (M j) (hF j b a),.inr (y b q)⟩
 .rintro _ _ b (rfl|rfl|⟨i,rfl⟩) (rfl|rfl|⟨j,rfl⟩) k f
  .rfl
  .obtain⟨_,rfl⟩:=k;exact absurd f.2 A
  .obtain⟨_,rfl⟩:=k;grind
  .obtain⟨_,rfl⟩:=f;exact absurd k.2 A
  .rfl
  .exact absurd k.2 (C j b (hF j b f))
  .obtain⟨_,rfl⟩:=f;grind
  .exact absurd f.2 (C i b (hF i b k))
  grind
 .rcases e with e|e
  .exact⟨(0,0),rfl,e⟩
  .exact⟨(1,0),rfl,e⟩
 .by_cases e:i=(0,0)\/i=(1,0)\/∃j,i=(j+4,d.qs.length)
  .rcases e with rfl|rfl|⟨j,rfl⟩
   .exact .inl ⟨(0,0),a⟩
   .rcases U b a.2 with e|e
    .exact .inl ⟨(1,0),rfl,e⟩
    .exact .inr G
   grind
  .exact .inl ⟨i,(T i e).2 b a⟩
def KI(w:World)(b:Nat)(kind A C:Int)(zs:E):Prop:=w.cell? (F b 0)=some (Y kind)/\w.cell? (F b 1)=some (Y A)/\w.cell? (F b 3)=some (Y C)/\w.cell? (F b 7)=some (.string ⟨zs.toArray⟩)
theorem KI.grown{w g:World}{b:Nat}{a A C:Int}{i:E}{d:Option Nat}(h:KI w b a A C i)(k:w.grownBy g d)(f:d≠some b):KI g b a A C i:=
 ⟨k.cell h.1 (λe=>f e.symm),k.cell h.2.1 (λe=>f e.symm),k.cell h.2.2.1 (λe=>f e.symm),k.cell h.2.2.2 (λe=>f e.symm)⟩
theorem RD.new{w:World}{b e:Nat}{a:Int}{d:Value}{f:E}(h:iP w b e a σ σ d [] f):RD w b e ⟨a,[],[],f⟩ ⟨σ,σ,d,[]⟩:=
 ⟨h,rfl,World.ownsRow_nil _ _ _ _,by simp[Value.ownBlock],.inl rfl,.inl rfl⟩
theorem Fp(b A C:Int)(i:E)(v:Array Value)(w:World)(K:KI (w.alloc (.cells v 48)) w.1.size b A C i)(L:(b==1)=false)(M:(b==2)=false)(P:(b==3)=false)(Q:(b==4)=false)(R:(b==5)=false)(x:i.length<=140737488351232)(y:Hid (A<0\/300<A)):Calls prog 7 #[π wb 0,.agg v] w λe a=>e=.returned (.bool true)/\w.grownBy a none:=by
 have t:i.length<=140737488355328:=G
 obtain⟨d,f,g,h⟩:=K
 go_in
 go_wp2_with fail
 refine(Dk i _ _ x).mono ?_
 rintro e S ⟨a,m,n,rfl,o,k⟩
 have p:KI S w.1.size b A C i:=KI.grown ⟨d,f,g,h⟩ k Z
 clear d f g h
 have u:=aa (cx w _ none) k
 have l:∀j,some j=n->w.1.size+1<=j:=λj q=>by have:=o.old j q;simpa using this
 have r:n≠some w.1.size:=λe=>by have:=l _ e.symm;omega
 obtain⟨d,f,g,h⟩:=p
 clear k
 go_wp2_with fail
 refine(Kg A _ _ y).mono ?_
 rintro e T ⟨rfl,j⟩
 have k:=o.grown j
 have q:KI T w.1.size b A C i:=KI.grown ⟨d,f,g,h⟩ j Z
 have D:=aa u j
 clear d f g h o u j
 obtain⟨d,f,g,h⟩:=q
 go_wp2_with fail
 refine(Dl i i.length a m n _ _ (I rfl) x k).mono ?_
 rintro e B ⟨rfl,j⟩
 have o:KI B w.1.size b A C i:=KI.grown ⟨d,f,g,h⟩ j r
 have u:w.grownBy B none:=(by grind [Lg])
 clear d f g h j k D
 obtain⟨d,f,g,h⟩:=o
 go_wp2_with (first|(refine p9 _ rfl _ 9 37 rfl 5 underlying9 underlying37 underlying5 i rfl t ?_;intro W k X V J U j))
 refine(XK A _ _ y).mono ?_
 rintro e w6 ⟨rfl,rfl⟩
 have D:=aa u j
 clear d f g h j u U
 go_wp2
 go_ret
 exact⟨rfl,D⟩
def Tv(base wb:Nat)(d:BW)(M:DM)(w w':World):Prop:=∃v p,Us base wb w (kB wb d) {d with qv:=v,qs:=d.qs++[p]} w'/\p.M=M/\p.N=p.M/\p.kl=[]/\0<=M.aA/\M.aA<=300
theorem G9(d:BW)(f A C:Int)(g:E)(cs:Array Value)(w:World)(hO:KI (w.alloc (.cells cs 48)) w.1.size f A C g)(ay:(f==1)=false)(ba:(f==2)=false)(bb:(f==3)=false)(bc:(f==4)=false)(bf:(f==5)=false)(hl:g.length<=140737488351232)(a:0<=A)(h1:A<=300)(b:kK base wb d w)(bk:(d.qs.length+1)*112<=140737488355328):Calls prog 7 #[π wb 0,.agg cs] w λe h=>e=.returned (.bool true)/\Tv base wb d ⟨A,[],[],g⟩ w h:=by
 obtain⟨ie,ar,al,an,ao⟩:=info_parts Tryz.VT
 have S:g.length<=140737488355328:=G
 have HI:=I b
 have n:=I (dN a h1)
 clear b a h1
 obtain⟨y,B,D,J⟩:=hO
 go_in
 go_wp2_with fail
 refine(Dk g _ _ hl).mono ?_
 rintro e w1 ⟨a,W,gB,rfl,o,b⟩
 have ah:KI w1 w.1.size f A C g:=KI.grown ⟨y,B,D,J⟩ b Z
 clear y B D J
 have K:=aa (cx w _ none) b
 have r:∀j,some j=gB->w.1.size+1<=j:=λj hj=>by have:=o.old j hj;simpa using this
 have ae:gB≠some w.1.size:=λe=>by have:=r _ e.symm;omega
 obtain⟨y,B,D,J⟩:=ah
 clear b
 go_wp2_with fail
 refine(GN A g g.length a W gB _ _ n.1 n.2 (I rfl) S o).mono ?_
 rintro e w2 ⟨b,M,rfl,l,u,v,x,h⟩
 have t:=o.grown h
 have ai:KI w2 w.1.size f A C g:=KI.grown ⟨y,B,D,J⟩ h Z
 have L:=aa K h
 have V:=I (λk m=>o.lt k m)
 have s1:=K.size
 have Q:∀k,(k=b\/Pl.blk M=some k)->w1.1.size<=k:=by
  rintro k (rfl|e)
  .exact u
  .cases M with
   |none=>cases e
   |some q=>injection e with e;rw[<-e];exact v q rfl
 have P:Pl.blk M≠some b:=by
  intro e;cases M with
  |none=>cases e
  |some q=>injection e with e;exact x q rfl e
 have i:=I (dN l (dN Q P))
 clear y B D J o K h u v x l Q P
 obtain⟨y,B,D,J⟩:=ai
 go_wp2_with fail
 refine(Dl g g.length a W gB _ _ (I rfl) hl t).mono ?_
 rintro e U ⟨rfl,h⟩
 have aj:KI U w.1.size f A C g:=KI.grown ⟨y,B,D,J⟩ h ae
 have G4:w.grownBy U none:=Lg L h (λj hj=>by have:=r j hj;omega)
 have R:Hid (eZ U b M ⟨A,[],[],g⟩):=i.1.keep (λk m=>h.block k (i.1.bP.lt m) (λe=>by have:=V k e;have:=i.2.1 k m;omega))
 clear y B D J h t L
 obtain⟨y,B,D,J⟩:=aj
 go_wp2_with (first|(refine p9 _ rfl _ 9 37 rfl 5 underlying9 underlying37 underlying5 g rfl S ?_;intro b5 X v KR av yh K))
 refine(TO v.1.size A g g.length _ X _ n.1 n.2 (I rfl) S (I (λe=>by cases e)) yh (cy _)).mono ?_
 rintro e l ⟨dv,rfl,P,nV⟩
 have s5:=K.size
 have s6:=nV.size
 have s4:=G4.size
 have G6:=aa G4 (aa K nV)
 have o:=HI.grown G6
 have u:l.ownsRow base 54 1 d.qv d.qs.length (d.qs.map λp=>mA p.pb):=o.row
 have Q:dz l wb d.cells:=o.blk
 have ak:=o.room
 obtain⟨ab,cb,t⟩:=bA u
 have c0:l.cell? (F wb 1)=some (.slice ab d.qs.length cb):=by rw[<-t];exact Q.cell 1
 have T:l.ownsRow base 54 1 (.slice ab d.qs.length cb) d.qs.length (d.qs.map λp=>mA p.pb):=by rw[<-t];exact u
 have KJ:=I t
 have au:(Value.slice ab d.qs.length cb).ownBlock≠some wb:=λe=>by have:=o.one (0,0) (1,0) wb ⟨rfl,rfl⟩ ⟨rfl,(by rw[<-t]at e;exact e)⟩;simp at this
 have ad:∀k,dv.ownBlock=some k->v.1.size<=k:=λk e=>(P.aL.lt k e).1
 have af:d.qs.length+1<=maxLen:=kO
 have ag:(d.qs.length+1)*8<=140737488355328:=G
 obtain⟨p,L⟩:∃p:QD,p=⟨l.1.size,b,M,v.1.size,⟨σ,σ,dv,[]⟩,⟨A,[],[],g⟩,⟨A,[],[],g⟩,σ,[]⟩:=⟨_,rfl⟩
 have x4:=R.o
 have x6:=(x4.grown K).grown nV
 have y6:=RD.new P
 have gA:=cx l (.cells #[π b 0,π v.1.size 0,σ] 95) none
 have HX:Hid (∀j,p.C j (l.alloc (.cells #[π b 0,π v.1.size 0,σ] 95))):=by
  intro j;subst L;match j with
  |0=>exact dz.new l _ _
  |1=>exact⟨x6.grown gA,λq (e:M=some q)=>by have h:=i.2.2;rw[e]at h;exact λe=>h (congrArg some e)⟩
  |2=>exact(y6.down (cS _)).keep (λk m=>(gA.block k (y6.lt k m).2 Z))
  |3=>exact⟨World.ownsRow_nil _ _ _ _,λk m=>by cases m⟩
  |_+4=>trivial
 have HF:Hid (∀j k,p.F j k->(j=0/\k=l.1.size\/j=1/\w1.1.size<=k/\k<U.1.size\/j=2/\v.1.size<=k/\k<l.1.size)):=by
  intro j k m;subst L;match j,m with
  |0,e=>exact .inl ⟨rfl,e⟩
  |1,e=>exact .inr (.inl ⟨rfl,i.2.1 k e,x4.bP.lt e⟩)
  |2,e=>
   refine .inr (.inr ⟨rfl,?_,(y6.lt k e).2⟩);rcases e with e|e|e|e
   .have e:k=v.1.size:=e;omega
   .cases e
   .cases e
   .exact ad k e
  |3,e=>
   rcases e with e|⟨x,h,_⟩
   .cases e
   .cases h
 have HO:Hid (w.1.size<=w1.1.size/\w.1.size<=U.1.size/\U.1.size<=v.1.size/\v.1.size<=l.1.size):=⟨by omega,by omega,by omega,by omega⟩
 have h:Hid (p.pb=l.1.size/\p.M=⟨A,[],[],g⟩/\p.N=p.M/\p.kl=[]):=by subst L;exact⟨rfl,rfl,rfl,rfl⟩
 have O4:=I G6
 have x:=I Q
 clear y B D J K nV G4 G6 yh P u o Q R ad x4 x6 y6 gA L r ae V t i s1 s4 s5 s6
 go_wp2_with (at_builtin;refine dJ _ rfl _ _ 28 rfl base 54 ie _ 1 8 underlying28 ar al an ao rfl O (.slice ab d.qs.length cb) d.qs.length _ rfl ((T.alloc _).alloc _) ⟨l.1.size+1,0,none⟩ 1 1 [π l.1.size 0] rfl rfl (by have:=gL (l.alloc (.cells #[π b 0,π v.1.size 0,σ] 95)) 54 [π l.1.size 0];rw[cF]at this;exact this) (by intro u Q;rw[ew.1 Q];rfl) G af ag (by rw[cF,cF];omega) ?_;intro V w7 y r q;obtain⟨Xn,D,B⟩:=bA y;subst B;have o:=((x.alloc (.cells #[π b 0,π v.1.size 0,σ] 95)).alloc (.cells #[π l.1.size 0] 54)).grown r (λe=>au e.symm);have t:=o.cell 1;have L:=o.frozen 1;simp only[cH,cG,cI]at t)
 have R:=kK.pushed (p:=p) HI (aM (aM O4 _) _) (λj=>QD.loc (HX j) (λk m=>Below.heap_alloc _ _ k (QD.lt (HX j) m))) (λj k m=>by have h1:=HF j k m;have J:=HO.o;have K:=O4.size;omega) (λi j k P hj=>by have h1:=HF.o i k P;have J:=HF j k hj;have K:=HO.o;omega) (by rw[KJ.o];exact r) (by rw[h.1];exact y) (by have:=q.o;rw[KJ];exact this)
 go_ret
 exact⟨rfl,_,p,R,h.2.1,h.2.2.1,h.2.2.2,n.1,n.2⟩
theorem Ry(d:BW)(a A C:Int)(b:E)(f:Array Value)(w:World)(k:KI (w.alloc (.cells f 48)) w.1.size a A C b)(m:a=9)(l:b.length<=140737488351232)(j:kK base wb d w)(h:(d.qs.length+1)*112<=140737488355328):Calls prog 7 #[π wb 0,.agg f] w λe i=>e=.returned (.bool true)/\(Us base wb w (kB wb d) d i\/Tv base wb d ⟨A,[],[],b⟩ w i):=by
 subst m
 by_cases n:A<0\/300<A
 .refine(Fp 9 A C b f w k rfl rfl rfl rfl rfl l (I n)).mono ?_;rintro e i ⟨rfl,g⟩;exact⟨rfl,.inl ((Us.start j).grown g)⟩
 .refine(G9 d 9 A C b f w k rfl rfl rfl rfl rfl l G G j h).mono ?_;grind
theorem Rz(d:BW)(a:Int)(f:Array Value)(w:World)(m:Hid (a=10\/a=11\/a=12))(k:f[0]?=some (Y a))(l:kK base wb d w)(i:d.qs=[]):Calls prog 5 #[π wb 0,.agg f] w λe b=>e=.returned (.bool true)/\w.grownBy b none:=by
 have j:=I (cx w (.cells f 48) none)
 have e:=l.grown j.o
 have b:(w.alloc (.cells f 48)).ownsRow base 54 1 d.qv d.qs.length (d.qs.map λp=>mA p.pb):=e.row
 have h:dz (w.alloc (.cells f 48)) wb d.cells:=e.blk
 obtain⟨n,o,g⟩:=bA b
 rw[i,List.length_nil]at g
 have p:(w.alloc (.cells f 48)).cell? (F wb 1)=some (.slice n 0 o):=by rw[<-g];exact h.cell 1
 have q:(w.alloc (.cells f 48)).cell? (F w.1.size 0)=some (Y a):=by rw[World.cell?_alloc_at (hn:=rfl)];exact k
 clear b h g e l i k
 rcases m.o with rfl|rfl|rfl
 all_goals
  clear m
  go_in
  go_wp2
  go_ret
  exact⟨rfl,j⟩
theorem RF(d:BW)(l A:Int)(j:Array Value)(k:Nat)(p:QD)(v:Nat)(D:List QD->Prop)(w:World)(hk:Hid (l=10\/l=11\/l=12))(R:j.size=41)(h0:j[0]?=some (Y l))(h1:j[1]?=some (Y A))(K:-9223372036854775808<=A)(L:A<=9223372036854775807)(hn:Hid (d.qs.length<=9223372036854775807))(Q:Hid (vL A d.qs.length=k))(U:d.qs[k]?=some p)(hI:kK base wb d w)(M:∀e,D e->e.map QD.pb=d.qs.map QD.pb)(HC:∀W,w.grownBy W none->Calls prog 10 #[π wb 0,.agg j,π p.pb 0] W λe w'=>xX base wb v d W e w' D):Calls prog 5 #[π wb 0,.agg j] w λe w'=>xX base wb v d w e w' D:=by
 have W:=cx w (.cells j 48) none
 have Pd:Hid (Calls prog 10 #[π wb 0,.agg j.toList.toArray,π p.pb 0] ((w.alloc (.cells j 48)).drewN 1) λe w'=>xX base wb v d ((w.alloc (.cells j 48)).drewN 1) e w' D):=by
  show Calls _ _ _ _ _;rw[Array.toArray_toList];exact HC _ (aR W 1)
 have y:=hI.grown W
 have t:(w.alloc (.cells j 48)).ownsRow base 54 1 d.qv d.qs.length (d.qs.map λp=>mA p.pb):=y.row
 have P:dz (w.alloc (.cells j 48)) wb d.cells:=y.blk
 have gO:k<d.qs.length:=(cM.1 U).1
 obtain⟨n,o⟩:=N d.qs.length
 obtain⟨u,x,r⟩:∃u x,d.qv = ς u 0 n x:=by
  rcases t.2 with⟨_,e⟩|⟨g,q,B,C,_⟩
  .omega
  .exact⟨g,q,by rw[<-o];exact C⟩
 have m:=t
 rw[r,o]at m
 have c0:(w.alloc (.cells j 48)).cell? (F wb 1)=some (ς u 0 n x):=by rw[<-r];exact P.cell 1
 have k0:(w.alloc (.cells j 48)).cell? (F w.1.size 0)=some (Y l):=by rw[World.cell?_alloc_at (hn:=rfl)];exact h0
 have k1:(w.alloc (.cells j 48)).cell? (F w.1.size 1)=some (Y A):=by rw[World.cell?_alloc_at (hn:=rfl)];exact h1
 have hr:(w.alloc (.cells j 48)).cell? (F u k)=some (π p.pb 0):=by
  obtain⟨b,ad,g,B⟩:=nC m k (mA p.pb) (by rw[eA,U];rfl);injection g with g;injection g with g e3 _;subst g e3;rw[cN]at B;exact B
 have V:dz (w.alloc (.cells j 48)) w.1.size j:=dz.new w j 48
 have RO:(w.alloc (.cells j 48)).rangeAt w.1.size 0 j.toList:=V.range
 have ab:Hid ((prog.info? 48).map (·.size)=some j.toList.length):=by show _=_;rw[Tryz.Jm,cV,R]
 have X:Hid (∀e w',xX base wb v d ((w.alloc (.cells j 48)).drewN 1) e w' D->w'.cell? (F wb 1)=some (ς u 0 n x)/\w'.cell? (F w.1.size 1)=some (Y A)/\w'.cell? (F u k)=some (π p.pb 0)/\w'.rangeAt w.1.size 0 j.toList):=by
  rintro e w' ⟨_,J,S,g,B,_⟩;have eb:w'.1[w.1.size]?=(w.alloc (.cells j 48)).1[w.1.size]?:=(S.free (b:=w.1.size) (by show w.1.size<(w.alloc _).1.size;rw[cF];omega) (λe=>by have:=(hI.low e).2;omega)).2;have hm:=M _ B;have hl:J.qs.length=n:=by rw[<-o,<-cR (f:=QD.pb),hm,cR]
  refine⟨by rw[<-r,<-g];exact S.sep.blk.cell 1,?_,?_,(V.kept eb).range⟩
  .rw[World.cell?_of_block (a:=⟨w.1.size,1,none⟩) eb];exact k1
  .have C:=S.sep.row;rw[g,r,hl]at C
   obtain⟨b,ad,T,q2⟩:=nC C k (mA p.pb) (by
    have h:(J.qs.map QD.pb)[k]?=some p.pb:=(by rw[hm,eA,U];rfl);rw[eA]at h⊢;cases hq:J.qs[k]? with
    |none=>rw[hq]at h;cases h
    |some q=>rw[hq]at h;have h:q.pb=p.pb:=(by injection h);show some (mA q.pb)=_;rw[h])
   injection T with T;injection T with T q3 _;subst T q3;rw[cN]at q2;exact q2
 have af:(0:Int)<(n:Int):=G
 have ae:k<n:=G
 have T:(0:Int)<=(k:Int):=G
 have mW:(k:Int)<(n:Int):=G
 have C:=I (DK A n ((w.alloc (.cells j 48)).drewN 1) K L G (by have:=hn.o;omega))
 have q:=Q.o
 rw[o]at q
 rw[q]at C
 clear q Q hn hI y t m P r U gO o V HC K L h0 h1 R M
 rcases hk.o with rfl|rfl|rfl
 all_goals
  clear hk
  go_in
  go_wp2_with fail
  refine wp_region_held_drew (S:=(λw'=>w'.c wb 1=some (ς u 0 n x)/\w'.c w.1.size 1=some (Y A)/\w'.c u k=some (π p.pb 0)/\w'.rangeAt w.1.size 0 j.toList)) gJ ⟨c0,k1,hr,RO⟩ (λhHeld=>?_)
  refine yN 0 (π wb 0) ?_
  refine jM 1 (.agg j.toList.toArray) ?_ (hy:=yieldsIf_load_mid (by rfl) _ _ rfl w.1.size 0 rfl j.toList _ (λw' h=>h.2.2.2) underlying48 rfl ab)
  refine yN 2 (π wb 0) ?_
  refine yN 3 (π wb 0) ?_
  refine yN 4 (π wb 1) ?_
  refine yN 5 (ς u 0 n x) ?_
  refine yN 6 (π w.1.size 1) ?_
  refine yN 7 (Y A) ?_
  refine yN 8 (π wb 0) ?_
  refine yN 9 (π wb 0) ?_
  refine yN 10 (π wb 1) ?_
  refine yN 11 (ς u 0 n x) ?_
  refine yN 12 (Y (n:Int)) ?_
  refine pC (i:=13) rfl gJ (λK hK=>?_)
  go_simp
  refine C.mono ?_
  rintro e w' ⟨rfl,rfl⟩
  go_wp2_with fail
  refine hK.out _ _ hHeld (λhHeld=>?_)
  clear hK K
  refine yN 14 (π u k) ?_
  refine yN 15 (π p.pb 0) ?_
  refine pC (i:=16) rfl gJ (λK hK=>?_)
  go_simp
  refine Pd.mono ?_
  rintro e o m
  obtain rfl:=m.1
  go_wp2_with fail
  refine hK.out _ _ (X _ _ m) (λhHeld=>?_)
  clear hK K
  refine yN 17 (.bool true) ?_
  refine wpAnyH_done gJ ?_ _
  go_wp2
  go_ret
  obtain⟨_,J,S,g,B,e3⟩:=m
  exact⟨rfl,J,Us.trans (iU.lM (aR W 1) _) S (λb e=>.inl e),g,B,e3⟩
theorem VU(d:BW)(h A C:Int)(n:E)(f:Array Value)(w:World)(o:Hid (h=9))(m:f.size=41)(k:KI (w.alloc (.cells f 48)) w.1.size h A C n)(y:n.length<=140737488351232)(t:kK base wb d w)(q:(d.qs.length+1)*112<=140737488355328):Calls prog 5 #[π wb 0,.agg f] w λe i=>e=.returned (.bool true)/\(Us base wb w (kB wb d) d i\/Tv base wb d ⟨A,[],[],n⟩ w i):=by
 have G:=cx w (.cells f 48) none
 have l:∀j v,f[j]?=some v->((w.alloc (.cells f 48)).alloc (.cells f 48)).cell? (F ((w.alloc (.cells f 48)).1.size) j)=some v:=λj v a=>by rw[World.cell?_alloc_at (hn:=rfl)];exact a
 have g:∀j v,(w.alloc (.cells f 48)).cell? (F w.1.size j)=some v->f[j]?=some v:=λj v a=>by rw[World.cell?_alloc_at (hn:=rfl)]at a;exact a
 have j:Hid (Calls prog 7 #[π wb 0,.agg f] (w.alloc (.cells f 48)) λe i=>e=.returned (.bool true)/\(Us base wb w (kB wb d) d i\/Tv base wb d ⟨A,[],[],n⟩ w i)):=
  (Ry d h A C n f _ ⟨l _ _ (g _ _ k.1),l _ _ (g _ _ k.2.1),l _ _ (g _ _ k.2.2.1),l _ _ (g _ _ k.2.2.2)⟩ o y (t.grown G) q).mono λe i ⟨u,x⟩=>⟨u,by
   rcases x with a|⟨v,p,a,r⟩
   .exact .inl (Us.trans (iU.lM G _) a (λb e=>.inl e))
   .exact .inr ⟨v,p,Us.trans (iU.lM G _) a (λb e=>.inl e),r⟩⟩
 have u:=k.1
 have a:(w.alloc (.cells f 48)).1[w.1.size]?=some (.cells f 48 (0,0)):=heap_alloc_new w _
 have b:Hid ((prog.info? 48).map (·.size)=some f.size):=by show _=_;rw[Tryz.Jm,m]
 obtain rfl:=o.o
 clear t G k o l g m
 go_in
 go_wp2_with (refine wpList_load_row rfl 48 _ rfl w.1.size rfl 48 _ (0,0) _ a underlying48 rfl b ?_)
 refine j.mono ?_
 rintro e i ⟨rfl,R⟩
 clear j a
 go_wp2
 go_ret
 exact⟨rfl,R⟩
theorem RH(d:BW)(k:Nat)(p:QD)(b:Array Value)(w:World)(h:b[0]?=some (Y 12))(i:d.qs[k]?=some p)(g:kK base wb d w):Calls prog 10 #[π wb 0,.agg b,π p.pb 0] w λe f=>xX base wb 16 d w e f (λa=>a=d.qs):=by
 have f:=cx w (.cells b 48) none
 have a:=g.grown f
 have n:(w.alloc (.cells b 48)).cell? (F w.1.size 0)=some (Y 12):=by rw[World.cell?_alloc_at (hn:=rfl)];exact h
 have o:(w.alloc (.cells b 48)).c p.pb 0=some (π p.xb 0):=dz.cell (a.part i 0) 0
 have j:=I (EO p.xb p.dp p.M _ (a.part i 1).1)
 have m:=I g
 have l:=I f
 clear g a f h
 go_in
 go_wp2_with fail
 refine j.mono ?_
 rintro e r ⟨q,h,rfl,a⟩
 have f:(0:Int)<=(q:Int):=G
 have g:(q:Int)<=4:=G
 go_wp2
 go_ret
 exact⟨rfl,d,(Us.start m).grown (aa (aa l a) (cx _ _ none)),rfl,rfl,λt=>by omega⟩
theorem VV(d:BW)(p:QD)(j:List QD->Prop)(a:Array Value)(w:World)(k:a[0]?=some (Y 10))(f:a.size=41)(i:∀W,w.grownBy W none->Calls prog 40 #[π wb 0,.agg a,π p.pb 0] W λe g=>xX base wb 16 d W e g j):Calls prog 10 #[π wb 0,.agg a,π p.pb 0] w λe g=>xX base wb 16 d w e g j:=by
 have h:=cx w (.cells a 48) none
 have o:(w.alloc (.cells a 48)).cell? (F w.1.size 0)=some (Y 10):=by rw[World.cell?_alloc_at (hn:=rfl)];exact k
 have b:(w.alloc (.cells a 48)).1[w.1.size]?=some (.cells a 48 (0,0)):=heap_alloc_new w _
 have n:Hid ((prog.info? 48).map (·.size)=some a.size):=by show _=_;rw[Tryz.Jm,f]
 have l:=I (i _ h)
 have m:=I h
 clear i k f h
 go_in
 go_wp2_with (refine wpList_load_row rfl 48 _ rfl w.1.size rfl 48 _ (0,0) _ b underlying48 rfl n ?_)
 refine l.mono ?_
 rintro e g f
 obtain rfl:=f.1
 clear l b
 go_wp2
 go_ret
 obtain⟨_,h,S,i,k,l⟩:=f
 exact⟨rfl,h,Us.trans (iU.lM m _) S (λb e=>.inl e),i,k,l⟩
theorem I8{α:Type}{l:List α}{k:Nat}{a:α}(h:l[k]?=some a):l.set k a=l:=by
 refine List.ext_getElem? λi=>?_;grind
theorem JX.new{w0 w:World}{d:List LJ}{a:Nat}{f:Value}(h:JX w0 w d a f):∀b,(b=a\/∃x∈d,x.g=some b)->w0.1.size<=b/\b<w.1.size:=by
 rintro b (e|⟨x,g,e⟩)
 .rw[e];exact⟨h.jl,h.lv.lt⟩
 .exact(h.rU x g).1.lt2 b e
theorem kB.set{d:BW}{k:Nat}{p a:QD}{P:Nat->Prop}(g:d.qs[k]?=some p)(f:∀j b,a.F j b->(∃i,p.F i b)\/P b){b:Nat}(h:kB wb {d with qs:=d.qs.set k a} b):kB wb d b\/P b:=by
 have gO:k<d.qs.length:=fA;obtain⟨i,hb⟩:=h;match i,hb with
 |(0,s),hb=>exact .inl ⟨(0,s),hb⟩
 |(1,s),hb=>exact .inl ⟨(1,s),hb⟩
 |(2,s),hb=>exact .inl ⟨(2,s),hb⟩
 |(3,s),hb=>exact .inl ⟨(3,s),hb⟩
 |(j+4,s),⟨q,hq,hb⟩=>
  have hq:(d.qs.set k a)[s]?=some q:=hq;by_cases e:s=k
  .subst e;rw[ee gO]at hq;cases hq;rcases f j b hb with⟨i,q⟩|q
   .exact .inl ⟨(i+4,s),p,g,q⟩
   .exact .inr q
  .exact D0
theorem Wv{d:BW}{k:Nat}{p:QD}{w y u A:World}{g:Option Pl}{l:DM}{x:Nat->Prop}(r:kK base wb d w)(t:d.qs[k]?=some p)(B:w.grownBy y none)(m:CF y u (λb _=>b=p.xb))(J:eZ u p.xb g l)(n:∀i,g=some i->∃q,p.dp=some q/\q.g=i.g)(f:iU u A x)(K:∀b,x b->w.1.size<=b):
  Us base wb w (kB wb d) {d with qs:=d.qs.set k {p with dp:=g,M:=l}} A/\∀b,kB wb {d with qs:=d.qs.set k {p with dp:=g,M:=l}} b->b<w.1.size:=by
 have D:=r.part t
 have hF:∀b,QD.F {p with dp:=g,M:=l} 1 b->p.F 1 b:=by
  rintro b (e|e)
  .exact .inl e
  .cases h:g with
   |none=>rw[h]at e;cases e
   |some i=>
    obtain⟨q,o,v⟩:=n i h;rw[h]at e;have e:i.g=b:=oR;exact .inr (by rw[o];show some q.g=some b;rw[v,e])
 have C:∀b,kB wb {d with qs:=d.qs.set k {p with dp:=g,M:=l}} b->b<w.1.size:=λb a=>by
  rcases kB.set (P:=λ_=>False) t (λj b a=>.inl (by
   by_cases e:j=1
   .grind
   .match j,e,a with
    |0,_,a=>exact⟨0,a⟩
    |2,_,a=>exact⟨2,a⟩
    |3,_,a=>exact⟨3,a⟩)) a with e|e
  .exact(r.low e).2
  .exact e.elim
 refine⟨(((Us.start r).grown B).put (p':={p with dp:=g,M:=l}) t rfl (λj=>j=1) ⟨m.os,m.tape,m.output,m.size,λb a e=>m.block b a (λ_ q=>e ⟨1,rfl,.inl q⟩)⟩ ?_ ?_ ?_ ?_).far f fA,C⟩
 .rintro j rfl;refine⟨J,λi e=>?_⟩;obtain⟨q,o,v⟩:=n i e;show i.g≠p.xb;have:=(D 1).2 q o;omega
 .grind
 .omega
 .intro j a;match j,a with
  |0,_=>exact⟨λq=>q,λ_ q=>q⟩
  |2,_=>exact⟨λq=>q,λ_ q=>q⟩
  |3,_=>exact⟨λq=>q,λ_ q=>q⟩
  |_+4,_=>exact⟨λq=>q,λ_ q=>q⟩
theorem Us.doc{d:BW}{k:Nat}{p:QD}{w f:World}{rg':RG}{N':DM}(h:Us base wb w0 U d w)(m:d.qs[k]?=some p)(a:RD f 0 p.yb N' rg')(l:∀b,rg'.foot p.yb b->p.rg.foot p.yb b\/w.1.size<=b)(g:iU w f (p.rg.foot p.yb)):Us base wb w0 U {d with qs:=d.qs.set k {p with rg:=rg',N:=N'}} f:=by
 refine h.put (p':={p with rg:=rg',N:=N'}) m rfl (λj=>j=2) (g.mono (λb _ e=>⟨2,rfl,e⟩)) ?_ ?_ ?_ ?_
 .rintro j rfl;exact a
 .rintro j b rfl i;exact(l b i).imp (λe=>⟨2,rfl,e⟩) id
 .omega
 .intro j b;match j,b with
  |0,_=>exact⟨λq=>q,λ_ q=>q⟩
  |1,_=>exact⟨λq=>q,λ_ q=>q⟩
  |3,_=>exact⟨λq=>q,λ_ q=>q⟩
  |_+4,_=>exact⟨λq=>q,λ_ q=>q⟩
theorem Us.hears{d:BW}{k:Nat}{p:QD}{w A:World}(h:Us base wb w0 U d w)(t:d.qs[k]?=some p)(J:sM w A 0 p.pb 2 p.sv p.kl):∃n a,Us base wb w0 U {d with qs:=d.qs.set k {p with sv:=n,kl:=a}} A/\a.length<=p.kl.length+1:=by
 obtain⟨n,a,v,K,B,u,C,f,D⟩:=J;have y:=h.sep.part t;have g:∀b,p.F 0 b->p.F 3 b->False:=λb l m=>by
  have:=h.sep.one (0+4,k) (3+4,k) b ⟨p,t,l⟩ ⟨p,t,m⟩;simp at this
 have o:∀b,QD.F {p with sv:=n,kl:=a} 3 b->p.F 3 b\/w.1.size<=b:=by
  rintro b (e|⟨x,i,e⟩)
  .exact(B b e).imp .inl id
  .rcases u x i with q|q
   .exact .inl (.inr ⟨x,q,e⟩)
   .exact .inr (q b e).1
 have L:p.pb<w.1.size:=QD.lt (y 0) rfl;refine⟨n,a,h.put (p':={p with sv:=n,kl:=a}) t rfl (λj=>j=0\/j=3) (f.mono (λb _ e=>?_)) ?_ ?_ ?_ ?_,K⟩
 .rcases e with e|e
  .exact⟨0,.inl rfl,e⟩
  .exact⟨3,.inr rfl,.inl e⟩
 .rintro j (rfl|rfl)
  .exact D _ (y 0)
  .refine⟨v.row,λx i=>⟨v.own x i,λb r=>?_⟩⟩;rcases u x i with q|q
   .exact C x q b r
   .exact(q b r).2
 .rintro j b (rfl|rfl) r
  .exact .inl ⟨0,.inl rfl,r⟩
  grind
 .rintro i j b (rfl|rfl) (rfl|rfl) l m
  .rfl
  .rcases o b m with e|e
   .exact(g b l e).elim
   .have l:b=p.pb:=l;omega
  .rcases o b l with e|e
   .exact(g b m e).elim
   .have m:b=p.pb:=m;omega
  .rfl
 .intro j e;match j,e with
  |1,_=>exact⟨λq=>q,λ_ q=>q⟩
  |2,_=>exact⟨λq=>q,λ_ q=>q⟩
  |0,e=>exact absurd (.inl rfl) e
  |3,e=>exact absurd (.inr rfl) e
  |_+4,_=>exact⟨λq=>q,λ_ q=>q⟩
theorem OB(M:DM)(a:List uo)(k:Nat)(h:k<a.length):iy M (a.take (k+1))=(Kq (iy M (a.take k)) a[k]).2:=by
 rw[dy h,E8]
theorem iK.adH{base e n:Nat}{M:DM}{g:RG}{a:mE}{w d:World}(h:iK base e M g a (w.drewN n) d):iK base e M g a w d:=by
 obtain⟨f,i,b,j⟩:=h;exact⟨f,i,⟨b.os,b.tape,b.output,b.size,b.block⟩,j⟩
theorem iK.Ty{base e:Nat}{M:DM}{g:RG}{a:mE}{w w':World}{b o:Nat}{v:Value}(h:iK base e M g a w w')(d:w.c b o=some v)(i:¬ g.foot e b):w'.cell? (F b o)=some v:=by
 obtain⟨j,k,f,l⟩:=h;rw[World.cell?_of_block (w:=w) (w':=w') (a:=⟨b,o,none⟩) (f.block b (World.block_lt_of_cell? w _ d) i)];exact d
theorem CY{M:DM}{j:uo}(h:j.1.kind≠0):Kq M j=(([],(fD M.aF j.1).2),{M with aF:=(fD M.aF j.1).1}):=by unfold Kq;rw[cZ h]
theorem CZ{M:DM}{j:uo}(h:j.1.kind=0):Kq M j=(((dG M j.2.1 j.2.2).1,0),(dG M j.2.1 j.2.2).2):=by unfold Kq;rw[dT h]
def L3(base wb:Nat)(xq:World)(d2:BW)(k pb xb:Nat)(dp:Option Pl)(yb:Nat)(M' M:DM)(ms:List uo)(n j:Nat)(w:World):Prop:=
 ∃rg sv kl,Us base wb xq (kB wb d2) {d2 with qs:=d2.qs.set k ⟨pb,xb,dp,yb,rg,M',iy M (ms.take j),sv,kl⟩} w/\kl.length<=n+j
theorem L3.adm{t W r:World}{b:BW}{k l o:Nat}{i:Option Pl}{f:Nat}{g M:DM}{a:List uo}{n j:Nat}{q:RG}{m:Value}{d:List KN}(h:Us base wb t (kB wb b) {b with qs:=b.qs.set k ⟨l,o,i,f,q,g,iy M (a.take j),m,d⟩} W)(gO:k<b.qs.length)(C:d.length<=n+j)(y:j<a.length)(B:a[j].1.kind≠0)(A:iK 0 f (iy M (a.take j)) q a[j].1 W r):L3 base wb t b k l o i f g M a n (j+1) r:=by
 obtain⟨p,v,w,x⟩:=A;have u:=h.doc (ee gO) (rg':=p) (N':={iy M (a.take j)with aF:=(fD (iy M (a.take j)).aF a[j].1).1}) v x w;refine⟨p,m,d,?_,by omega⟩;rw[OB M a j y,CY B];have e:(b.qs.set k ⟨l,o,i,f,q,g,iy M (a.take j),m,d⟩).set k ⟨l,o,i,f,p,g,{iy M (a.take j)with aF:=(fD (iy M (a.take j)).aF a[j].1).1},m,d⟩=b.qs.set k ⟨l,o,i,f,p,g,{iy M (a.take j)with aF:=(fD (iy M (a.take j)).aF a[j].1).1},m,d⟩:=List.set_set ..;rw[<-e];exact u
theorem L3.said{t W r:World}{a:BW}{k l n:Nat}{i:Option Pl}{d:Nat}{f N:DM}{q:RG}{m o:Value}{j:List KN}{R:E×DM}(h:Us base wb t (kB wb a) {a with qs:=a.qs.set k ⟨l,n,i,d,q,f,N,m,j⟩} W)(gO:k<a.qs.length)(A:xC 0 d q R W r o):∃rg',Us base wb t (kB wb a) {a with qs:=a.qs.set k ⟨l,n,i,d,rg',f,R.2,m,j⟩} r:=by
 obtain⟨_,⟨p,v,w⟩,g⟩:=A;have u:=h.doc (ee gO) (rg':=p) (N':=R.2) v w ((iU.bF g).mono (λb _ e=>.inl (by injection e with e;exact e.symm)));refine⟨p,?_⟩;have e:(a.qs.set k ⟨l,n,i,d,q,f,N,m,j⟩).set k ⟨l,n,i,d,p,f,R.2,m,j⟩=a.qs.set k ⟨l,n,i,d,p,f,R.2,m,j⟩:=List.set_set ..;rw[<-e];exact u
theorem L3.heard{v W t:World}{a:BW}{k d l:Nat}{g:Option Pl}{m:Nat}{f N M:DM}{i:RG}{q:Value}{o:List KN}{r:List uo}{n j:Nat}(h:Us base wb v (kB wb a) {a with qs:=a.qs.set k ⟨d,l,g,m,i,f,N,q,o⟩} W)(gO:k<a.qs.length)(A:o.length<=n+j)(x:iy M (r.take (j+1))=N)(w:sM W t 0 d 2 q o):L3 base wb v a k d l g m f M r n (j+1) t:=by
 obtain⟨p,b,u,y⟩:=h.hears (ee gO) w;refine⟨i,p,b,?_,by grind⟩;rw[x];have e:(a.qs.set k ⟨d,l,g,m,i,f,N,q,o⟩).set k ⟨d,l,g,m,i,f,N,p,b⟩=a.qs.set k ⟨d,l,g,m,i,f,N,p,b⟩:=List.set_set ..;rw[<-e];exact u
theorem Fw(M:DM)(a:Int)(R:Except Int GR):(dA M a R).2.aJ=M.aJ:=by
 obtain⟨b,h,_⟩:=NW M a R;rw[h]
theorem Wu{aA now:Int}{l:List PF}(h:l.length<=8):(iQ aA now l).length<=8:=cE (List.length_filter_le _ _) h
theorem RZ{M:DM}(h:M.aJ.length<=8)(now:Int)(b:E):(dG M now b).2.aJ.length<=8:=by
 have a:∀p,(bJ M.aA now M.aJ p).length<=8:=λp=>by
  have:=Wu (aA:=M.aA) (now:=now) h;unfold bJ;split
  .rename_i hc;rw[cD,eC];unfold bL at hc;split at hc
   .cases hc
   .split at hc
    .cases hc
    .omega
  .exact this
 unfold dG;split
 .rw[Fw];exact h
 .split
  .unfold tT;split
   .exact h
   .dsimp only;split
    .exact a _
    .rw[Fw];exact a _
  .exact h
theorem V7{M:DM}(h:M.aJ.length<=8):∀a:List uo,(iy M a).aJ.length<=8:=by
 intro a;induction a generalizing M with
 |nil=>exact h
 |cons m a b=>
  refine b ?_;grind [CY,CZ,RZ]
theorem wK:∀(a)(i)(b:i<a.length),(fE a)[i*2]?=some (a[i]).1/\(fE a)[i*2+1]?=some (Y (a[i]).2):=by
 intro a;induction a with
 |nil=>intro i b;simp at b
 |cons x a d=>
  intro i b;cases i with
  |zero=>exact⟨rfl,rfl⟩
  |succ i=>
   grind [fE]
theorem xD(n)(g)(a)(m)(w)(b:lQ w (Y m) (g,n,a)):Calls prog 14 #[.slice g n a,Y m] w λe d=>e=.returned (.bool true)/\w=d:=by
 have q:n<=9223372036854775807:=b.1
 have f:=I b
 clear b
 go_in
 go_wp2
 go_loop [5] (λi=>∃k:Nat,k<=n/\i = Y k) (λi=>n-(intOf i).toNat)
 case atStart=>exact⟨0,cS _,rfl⟩
 case round=>
  obtain⟨k,p,rfl⟩:=hrel;by_cases h:k<n
  .have l:(k:Int)<(n:Int):=G;have j:(0:Int)<=(k:Int):=G;obtain⟨b,d,e,o,i⟩:=f.cell h;have e:g=some ⟨b,d,none⟩:=e;subst e;have i:w.c b (d+k*2+1)=some (Y m):=i;clear f;exact Ks
  .have l:¬ (k:Int)<(n:Int):=G;clear f;exact lO
def qN(n:Nat)(m:Int):List Value:=(List.replicate n [σ,Y m]).flatten
theorem Fx(n)(m):(qN n m).length=n*2:=by
 induction n with
 |zero=>rfl
 |succ n a=>unfold qN at a⊢;grind
theorem OC(n k)(m):qN n m++qN k m=qN (n+k) m:=by
 unfold qN;rw[<-List.flatten_append,List.replicate_append_replicate]
theorem Ws(n k)(m)(b:k<n):(qN n m)[k*2]?=some σ/\(qN n m)[k*2+1]?=some (Y m):=by
 induction n generalizing k with
 |zero=>omega
 |succ n a=>
  unfold qN at a⊢;exact DB
theorem OD(n)(m):∀u∈qN n m,u.oneCell'=true:=by
 intro u b;obtain⟨l,a,h⟩:=List.mem_flatten.1 b;rw[List.eq_of_mem_replicate a]at h;simp at h;rcases h with rfl|rfl<;>rfl
theorem Tryz.adI:(prog.info? 110).map (λi=>(i.zero,i.size,i.bytes))=some (some (.agg #[σ,Y 0]),2,32):=by kernel_rfl
theorem Tryz.aaI:(prog.info? 68).map (λi=>(i.zero,i.size,i.bytes))=some (some (.agg #[σ,σ,σ,σ,Y 0]),5,104):=by kernel_rfl
theorem wL{w:World}{base:Nat}{e:TypeId}{v:Value}{n:Nat}{m:Int}(h:w.ownsRow base e 2 v n (qN n m))(d:n<=9223372036854775807):
  ∃p c,v=.slice p n c/\lQ w (Y m) (p,n,c)/\∀b,Sl.on (p,n,c) b->v.ownBlock=some b/\base<=b:=by
 obtain⟨ao,a,f⟩:=bA h
 subst f
 refine⟨ao,a,rfl,⟨d,nC h⟩,?_⟩
 exact Ek
theorem Bk(W:World)(m)(e):ql (W.alloc (.cells #[σ,Y m] e)) (some ⟨W.1.size,0,none⟩) (qN 1 m):=o9 W #[σ,Y m] e
theorem Mu(W:World)(m)(e):ql (W.alloc (.cells #[σ,Y m,σ,Y m] e)) (some ⟨W.1.size,0,none⟩) (qN 2 m):=o9 W #[σ,Y m,σ,Y m] e
theorem uW{P:Program}(w){f:Array Oper}{d:List Oper}{o:Oper}{a:Act}{Q:Exit->Act->World->Prop}(q:o.guard=none)(s x)(t)(r:o.op=Op.call {callee:=Callee.builtin Builtin.append,args:=#[s,x],argTypes:=#[t,t]})(e)(i)(z)(y:P.underlying t=some (.slice e))(A:P.info? e=some i)(B:i.zero=some z)(C:i.size=2)(D:i.bytes=32)(J:z.cells.size=2)(g n)(m)(R:a.eval s = ς g 0 n n)(L:ql w (some ⟨g,0,none⟩) (qN n m))(b k c)(S:a.eval x = ς b 0 k c)(V:0<k)(T:ql w (some ⟨b,0,none⟩) (qN k m))(U:n+k<=1000000)(K:∀p l,l.ownsRow w.1.size e 2 p (n+k) (qN (n+k) m)->w.grownBy l none->wpList P f Q d (a.put o.dst p) l):
  wpList P f Q (o::d) a w:=by
 have v:∀(ad)(zs),ql w (some ad) zs->∀j u,zs[j]?=some u->w.cell? (ad.add j)=some u:=by
  exact C9
 refine wpList_append_grows w q s x t r e i z 2 32 y A B C D J O (some ⟨g,0,none⟩) n n (qN n m) R (λh=>by cases h) (Fx n m) fA ⟨b,0,none⟩ k c (qN k m) S (Fx k m) (v _ _ T) (OD k m) G kO G (λp l M q=>K p l (by rw[<-OC];exact M) q)
set_option maxHeartbeats 4000000
structure Fy(base wb:Nat)(w0:World)(U:Nat->Prop)(d:BW)(ps:Nat->Option Pl)(k:Nat)(d1:BW)(w:World):Prop where
 us:Us base wb w0 (λb=>U b\/∃i,i<k/\Pl.blk (ps i)=some b) d1 w
 qv:d1.qv=d.qv
 qs:d1.qs=d.qs
 l0:(d1.le 0).length=(d.le 0).length+k
 l3:∀t,t≠0->d1.le t=d.le t
theorem Fy.next{d e:BW}{a:Nat->Option Pl}{k:Nat}{w f:World}{x:ic}{u:Value}(h:Fy base wb w0 U d a k e w)(s:Us base wb w0 (λb=>(U b\/∃i,i<k/\Pl.blk (a i)=some b)\/Pl.blk (a k)=some b) (e.add 0 u x) f):Fy base wb w0 U d a (k+1) (e.add 0 u x) f:=
 ⟨fA,h.qv,h.qs,by grind [Fy.l0,qL],(by grind [Fy.l3,BH])⟩
def Bf(w:World)(ob k:Nat)(m:Int):Prop:=∀j,j<k->w.cell? (F ob (j*2))=some σ/\w.cell? (F ob (j*2+1))=some (Y m)
theorem Bf.next{w:World}{a k n:Nat}{m:Int}(h:Bf w a k m)(L:b' w a n)(d:k*2+1<n):Bf ((w.setCell (F a (k*2)) σ).setCell (F a (k*2+1)) (Y m)) a (k+1) m:=by
 have b:∀i j:Nat,i≠j->(⟨a,i,none⟩:Addr)≠⟨a,j,none⟩:=fA;obtain⟨f,o⟩:=cA.1 (L.some (k*2) G);obtain⟨g,p⟩:=cA.1 (L.some (k*2+1) d);intro j l;by_cases e:j=k
 .exact zd
 .rw[iA _ _ _ _ (b _ _ G),iA _ _ _ _ (b _ _ G),iA _ _ _ _ (b _ _ G),iA _ _ _ _ (b _ _ G)];exact h j G
theorem Bf.cat{w:World}{a n:Nat}{m:Int}(h:Bf w a n m):ql w (some ⟨a,0,none⟩) (qN n m):=by
 intro j u f;have g:=(cM.1 f).1;rw[Fx]at g;refine⟨a,0,rfl,?_⟩;have b:=h (j / 2) G;have d:=Ws n (j / 2) m G;rw[cN,<-f];by_cases e:j % 2=0
 .rw[show j=j / 2*2 by omega,b.1,d.1]
 .rw[show j=j / 2*2+1 by omega,b.2,d.2]
theorem Mp{j q:Nat}(h:j<=16)(k:q<64):j+q+1<=maxLen/\(j+q+1)*32<=140737488355328:=⟨by unfold maxLen;omega,by omega⟩
theorem V8(d:BW)(f n:Nat)(ds:List (Value×Int))(Q:Nat->Option Pl)(w:World)(h:Us base wb w0 U d w)(hn:Hid (ds.length=n))(cd:n<=16)(FN:w0.rangeAt f 0 (fE ds))(ca:b' w0 f (n*2))(NU:base<=f)(cl:¬ U f)(ck:∀i(hi:i<ds.length),∃bs,f' w0 ds[i].1 (Q i) bs/\bs.length<=900)(bc:∀i,i<n->∀b,Pl.blk (Q i)=some b->base<=b/\b<w0.1.size/\¬ U b/\b≠f)(cj:∀i j q r,i<j->j<n->Q i=some q->Q j=some r->q.g<r.g)(bx:((d.le 0).length+16)*112<=140737488355328)(bz:((d.le 3).length+1)*112<=140737488355328):Calls prog 76 #[π wb 2,ς f 0 n n] w λe w'=>e=.returned (.tuple #[])/\∃d',Us base wb w0 (λb=>(U b\/∃i,i<n/\Pl.blk (Q i)=some b)\/b=f) d' w'/\d'.qv=d.qv/\d'.qs=d.qs/\∀t,(d'.le t).length<=(d.le t).length+16:=by
 obtain⟨i0,ak,an,ao,ar⟩:=info_parts Tryz.adI
 obtain⟨ie,eb,dt,dv,ea⟩:=info_parts Tryz.aaI
 have dZ:Hid (Fy base wb w0 U d Q 0 d w):=⟨h.mono (λb e=>.inl e),rfl,rfl,rfl,λ_ _=>rfl⟩
 have bf:Hid (∀k,k<=n->¬ (U f\/∃i,i<k/\Pl.blk (Q i)=some f)):=λk hk e=>by
  rcases e with e|⟨i,hi,e⟩
  .exact cl e
  .exact(bc i G f e).2.2.2 rfl
 have cr:=I ck
 have bk:=I bc
 have bl:=I cj
 have T:=I (dN FN (dN ca NU))
 have HL:=I (dN bx bz)
 clear h ck bc cj FN ca NU cl bx bz
 go_in
 go_wp2
 go_loopw [4] (λi wr=>∃k:Nat,k<=n/\i = Y k/\∃D,Fy base wb w0 U d Q k D wr) (λi _=>n-(intOf i).toNat)
 case atStart=>exact⟨0,cS _,rfl,d,dZ⟩
 case round=>
  obtain⟨k,hk,rfl,D,hL⟩:=hrel;have C:=I hL;clear hL dZ;have X:=C.us.free T.2.1.lt (bf k hk);by_cases hlt:k<n
  .have mW:(k:Int)<(n:Int):=G;have gd:(0:Int)<=(k:Int):=G;have bu:k<ds.length:=mT;obtain⟨bs,hO,dq⟩:=cr k bu;have hc:wr.cell? (F f (k*2))=some ds[k].1:=by
    rw[World.cell?_of_block (w:=w0) (w':=wr) (a:=⟨f,k*2,none⟩) X.2];have:=T.1 (k*2) _ (wK ds k bu).1;rwa [cN]at this
   obtain⟨v,hv⟩:=N (ds[k].1);rw[hv]at hO hc;obtain⟨a,c,hs,_⟩:=hO.shape;subst hs
   have CB:=I (PJ D (.slice a bs.length c) (Q k) bs bs.length wr C.us (hO.xL C.us.xL (λq hq e=>by
    rcases e with e|⟨i,hi,e⟩
    .exact(bk k hlt q.g (by rw[hq];rfl)).2.2.1 e
    .cases hp:Q i with
     |none=>rw[hp]at e;cases e
     |some r=>rw[hp]at e;have e:r.g=q.g:=oR;have:=bl i k r q hi hlt hp hq;omega)) (I rfl) G (λq hq=>by
      have e:Pl.blk (Q k)=some q.g:=(by rw[hq];rfl);have h1:=bk k hlt q.g e;refine⟨h1.1,h1.2.1,λe=>?_⟩;rcases e with e|⟨i,hi,e⟩
      .exact h1.2.2.1 e
      .cases hp:Q i with
       |none=>rw[hp]at e;cases e
       |some r=>rw[hp]at e;have e:r.g=q.g:=oR;have:=bl i k r q hi hlt hp hq;omega) (by have h1:=C.l0;have h2:=HL.1;omega))
   clear X hO hv dq;go_wp2_with (first|(go_at_call 21;refine CB.mono ?_;rintro e w2 ⟨rfl,x,u,S2⟩))
   go_roundw
   case rel=>exact⟨k+1,by omega,by go_num,_,C.next S2⟩
   case measure=>simp[intOf];omega
  .have ec:k=n:=G;subst ec;have mW:¬ (k:Int)<(k:Int):=G;obtain⟨W,hW⟩:=aw wr;have B:dz W wb D.cells:=(by rw[hW];exact C.us.sep.blk);have A:W.ownsRow base 68 5 (D.lv 3) (D.le 3).length (gX (D.le 3)):=(by rw[hW];exact C.us.sep.here (2,3));have dd:(D.lv 3).ownBlock≠some wb:=C.us.sep.vne 3;have fl:base<=W.1.size:=(by rw[hW];exact C.us.sep.room);obtain⟨ab,cb,P⟩:=bA A;obtain⟨L,aj⟩:=N ((D.le 3).length);have fv:(L+1)*112<=140737488355328:=(by have h1:=C.l3 3 G;have h2:=HL.2;rw[h1]at aj;omega);rw[P,aj]at A;have V:=I (dN P aj);rw[aj]at P;have KR:W.cell? (F wb 5)=some (.slice ab L cb):=(by rw[<-P];exact B.cell 5);have bm:b' W f (k*2):=(by rw[hW];exact Be T.2.1 X.2);have ay:=I X;rw[<-hW]at C ay⊢;obtain⟨m,hm⟩:∃m:Int,m=-1000-(L:Int):=⟨_,rfl⟩
   have HM:=I hm.symm;clear hW X hm;go_wp2;rw[HM];have gg:f<W.1.size:=bm.lt;have X0:(W.alloc (.cells #[σ,Y m] 110)).rangeAt W.1.size 0 [σ,Y m]:=aS W #[σ,Y m] 110;have cu:=I X0;have GX:=I (cx W (.cells #[σ,Y m] 110) (some f));have cn:Hid (b' (W.alloc (.cells #[σ,Y m] 110)) f (k*2)):=bm.grown (cx W _ none);clear X0;go_loopw [7] (λi wr=>∃j:Nat,j<=k/\i = Y j/\W.grownBy wr (some f)/\wr.rangeAt W.1.size 0 [σ,Y m]/\b' wr f (k*2)/\Bf wr f j m) (λi _=>k-(intOf i).toNat)
   case atStart=>exact⟨0,cS _,rfl,GX,cu,cn,λj hj=>by omega⟩
   case round=>
    obtain⟨j,hj,rfl,ad,al,J,af⟩:=hrel;have x0:wr.c W.1.size 0=some σ:=al 0 _ rfl;have x1:wr.c W.1.size 1=some (Y m):=al 1 _ rfl;have H2:=I (dN ad (dN al (dN J af)));clear ad al af;by_cases bt:j<k
    .have LF:(j:Int)<(k:Int):=G;have bb:(0:Int)<=(j:Int):=G;obtain⟨d0,q0⟩:=cA.1 (J.some (j*2) G);obtain⟨e1,q1⟩:=cA.1 (J.some (j*2+1) G);have f0:=J.frozen (j*2);have f1:=J.frozen (j*2+1);clear J B A KR;go_wp2;go_roundw
     case rel=>
      have ch:∀i o,(⟨f,i,none⟩:Addr)≠⟨W.1.size,o,none⟩:=λi o e=>by injection e with e;omega
      exact⟨j+1,by omega,by go_num,yZ (yZ H2.1),λi u hu=>(by rw[iA _ _ _ _ (ch _ _),iA _ _ _ _ (ch _ _)];exact H2.2.1 i u hu),I7 (I7 H2.2.2.1 _ _ _) _ _ _,H2.2.2.2.next H2.2.2.1 G⟩
     case measure=>simp[intOf];omega
    .have bt:j=k:=G;subst bt;have yl:=H2.2.2.2.cat;have bn:j+1<=1000000:=G;have dn:j+2<=1000000:=G;clear J B KR;go_wp2_with (first|(at_builtin;refine uW _ rfl (.tmp 43) (.tmp 45) 66 rfl 110 i0 _ underlying66 ak an ao ar rfl f j m rfl (yl.below (cx _ _ _)) wr.1.size 1 1 rfl (Nat.succ_pos _) (Bk wr m _) bn ?_;intro v1 w1 ag bq;have K1:=aa (cx wr _ none) bq;have jm:=yl.below K1;have y0:=bN K1 x0;have y1:=bN K1 x1)|(at_builtin;refine uW _ rfl (.tmp 47) (.tmp 50) 66 rfl 110 i0 _ underlying66 ak an ao ar rfl f j m rfl (jm.below (cx _ _ _)) w1.1.size 2 2 rfl (Nat.succ_pos _) (Mu w1 m _) dn ?_;intro v2 w2 ah ad;have K2:=aa (cx w1 _ none) ad;have nk:=jm.below K2))
     have kQ:=ag.kept K2 vi;have cz:=aa K1 K2;have fa:=K1.size;have fb:=K2.size;have fc:=H2.1.size;have z0:=bN K2 y0;have z1:=bN K2 y1;clear ag bq ad yl jm K1 K2 x0 x1 y0 y1;obtain⟨wo,ev⟩:∃wo,wo=wr:=⟨wr,rfl⟩
     subst ev;go_loopw [10,11] (λo i w3=>∃q:Nat,q<=64/\i = Y q/\((q=0/\o = ς f 0 j j)\/(0<q/\w3.ownsRow w2.1.size 110 2 o (j+q) (qN (j+q) m)))/\w2.grownBy w3 none) (λ_ i _=>64-(intOf i).toNat)
     case atStart=>exact⟨0,by omega,rfl,.inl ⟨rfl,rfl⟩,cC _ _⟩
     case round=>
      obtain⟨q,hq,rfl,ho,l⟩:=hrel;have ff:=l.size;by_cases K:q<64
      .obtain⟨dp,da⟩:=Mp cd K;have x0:=bN l z0;have x1:=bN l z1;rcases ho with⟨bb,ed⟩|⟨bb,p⟩
       .subst bb ed;have mM:=nk.below l;go_wp2_with (at_builtin;refine uW _ rfl _ _ 66 rfl 110 i0 _ underlying66 ak an ao ar rfl f j m rfl (mM.below (cx _ _ _)) wr.1.size 1 1 rfl (Nat.succ_pos _) (Bk wr m _) bn ?_;intro v4 w4 iV ae)
        have R:w4.ownsRow w2.1.size 110 2 v4 (j+1) (qN (j+1) m)/\w2.grownBy w4 none:=⟨dC iV j',aa (aM l _) ae⟩
        clear iV ae mM l x0 x1;exact Jw
       .have bo:=Bk wr m 110;go_wp2_with (at_builtin;refine fH _ rfl _ _ 66 rfl w2.1.size 110 i0 _ 2 32 underlying66 ak an ao ar rfl O _ _ _ rfl (p.alloc _) (some ⟨wr.1.size,0,none⟩) 1 1 (qN 1 m) rfl rfl bo qC (OD 1 m) dp da j' ?_;intro v4 w4 iV ae)
        have R:w4.ownsRow w2.1.size 110 2 v4 (j+(q+1)) (qN (j+(q+1)) m)/\w2.grownBy w4 none:=⟨by rw[<-gi,<-OC (j+q) 1 m];exact iV,gD (aM l _) ae (λi hi=>(p.lt i hi).1)⟩
        clear iV ae l p bo x0 x1;go_wp2;go_roundw
        case rel=>exact⟨q+1,by omega,by go_num,.inr ⟨by omega,R.1⟩,R.2⟩
        case measure=>simp[intOf];omega
      .have Px:q=64:=Nat.le_antisymm hq (Nat.le_of_not_lt K);subst Px;have p:wr.ownsRow w2.1.size 110 2 u10 (j+64) (qN (j+64) m):=by
        rcases ho with⟨h,_⟩|⟨_,h⟩
        .exact absurd h O
        .exact h
       clear ho K hq;have K3:=aa cz l;have wH:=kQ.kept l vi;have wI:=ah.kept l (by cases h:v2.ownBlock<;>simp);have mM:=nk.below l;clear kQ ah nk l z0 z1;have Fr:iU W wr (λb=>some f=some b):=(iU.bF H2.1).trans (iU.lM K3 _);have F5:wb<W.1.size:=C.us.sep.lt (0,0) wb ⟨rfl,rfl⟩;have Ab:∀g,some f=some g->g≠wb/\(Value.slice ab L cb).ownBlock≠some g:=by
        intro g hg;injection hg with hg;subst hg;exact⟨λe=>ay.1 ⟨(0,0),rfl,e⟩,λe=>ay.1 ⟨(2,3),by show(D.lv 3).ownBlock=_;rw[V.1,V.2];exact e⟩⟩
       have Xx:dz wr wb D.cells:=C.us.sep.blk.kept (Fr.block wb F5 (λe=>(Ab _ e).1 rfl));have Dn:wr.ownsRow base 68 5 (.slice ab L cb) L (gX (D.le 3)):=cB A (λb hb=>Fr.block b (A.lt b hb).2 (λe=>(Ab _ e).2 hb));have fi:=K3.size;obtain⟨p1,c1,ei,cc,au⟩:=wL wH G;obtain⟨p2,c2,er,af,av⟩:=wL wI G;obtain⟨p3,c3,et,Xy,F6⟩:=wL p G;subst ei er et;obtain⟨x,hx⟩:∃x:ic,x=⟨(some ⟨f,0,none⟩,j,j),(p1,j+1,c1),(p2,j+2,c2),(p3,j+64,c3),Y m⟩:=⟨_,rfl⟩
       have Dp:x.okD wr:=(by subst hx;exact⟨⟨by show j<=_;omega,mM⟩,cc,af,Xy⟩);have HX:Hid (x.cells=[ς f 0 j j,.slice p1 (j+1) c1,.slice p2 (j+2) c2,.slice p3 (j+64) c3,Y m]):=(by subst hx;rfl);have cp:Hid (Ll x.mark):=(by subst hx;exact⟨_,rfl⟩);have cv:tU x (some f) W.1.size:=by
        intro b hb;rw[hx]at hb;rcases hb with h|h|h|h
        .obtain⟨gl,e1,e2⟩:=h;injection e1 with e1;injection e1 with e1;exact .inl (by rw[e1])
        .have:=(au b h).2;simp at this;exact .inr G
        .have:=(av b h).2;simp at this;exact .inr G
        .have:=(F6 b h).2;exact .inr G
       have sO:L+1<=maxLen:=kO;have Py:(L+1)*104<=140737488355328:=G;have fx:base<=wr.1.size:=G;have cm:(Value.slice ab L cb).ownBlock≠some wb:=(by rw[<-P];exact dd);have bp:D.cells[5]?=some (.slice ab L cb):=(by rw[<-P];rfl);have fz:wr.c wb 5=some (.slice ab L cb):=(Xx.cell 5).trans bp;have dc:=I Ab;have HR:=I (dN A Fr);clear hx cc af Xy au av F6 wH wI p mM Ab A Fr;go_wp2_with (at_builtin;refine dJ _ rfl _ _ 32 rfl base 68 ie _ 5 104 underlying32 eb dt dv ea rfl O _ _ _ rfl (Dn.alloc _) ⟨wr.1.size,0,none⟩ 1 1 [ς f 0 j j,.slice p1 (j+1) c1,.slice p2 (j+2) c2,.slice p3 (j+64) c3,Y m] rfl rfl (gL wr _ _) C0 G sO Py j' ?_;intro OP w5 M ba B;obtain⟨Xn,df,Jl⟩:=bA M;subst Jl;have ai:=(Xx.alloc (.cells #[ς f 0 j j,.slice p1 (j+1) c1,.slice p2 (j+2) c2,.slice p3 (j+64) c3,Y m] 68)).grown ba (λe=>cm e.symm);have KR:w5.c wb 5=some (.slice ab L cb):=((ai.cell 5).trans bp);have ga:=ai.frozen 5)
       have R:rq ic.okD base wb 5 68 Ll (some f) (.slice ab L cb) D.cells (D.le 3) W (w5.setCell (F wb 5) (.slice Xn (L+1) df)):=rq.push HR.1.lt cm F5 HR.2 Dp (λ_ _ h k=>Fh (t:=3) h k) (λ_ h=>Lk (t:=3) Dp h) HX cv dc (cx wr _ _) ba ai (by rw[V.2];exact M) B cp.o;clear B M ba ai;go_end0;have R2:=C.us.more (t:=3) (gB:=some f) G (λg e=>by injection e with e;subst e;exact⟨T.2.2,T.2.1.lt,bf j (cy _)⟩) (by rw[V.1,V.2];exact R);obtain⟨y,u,S⟩:=R2;refine⟨rfl,_,S.mono (λb e=>e.imp id (λe=>by injection e with e;exact e.symm)),C.qv,C.qs,λt=>?_⟩;by_cases e3:t=3
       .subst e3;simp only[qL,cD,eC,C.o.l3 3 G];omega
       .simp only[BH _ _ _ e3];by_cases e0:t=0
        .subst e0;rw[C.l0];omega
        .rw[C.l3 t e0];omega
theorem kK.entry{d:BW}{w:World}(h:kK base wb d w){t k L:Nat}{a:Option Addr}{c:Nat}(B:d.lv t=.slice a L c/\(d.le t).length=L)(K:k<L):
  ∃e,a=some ⟨e,0,none⟩/\∃y r n u o i v p l x q m f,w.c e (k*5)=some (.slice y r n)/\w.c e (k*5+1)=some (.slice u o i)/\w.c e (k*5+2)=some (.slice v p l)/\w.c e (k*5+3)=some (.slice x q m)/\w.c e (k*5+4)=some f/\ua t f/\pD t w ⟨(y,r,n),(u,o,i),(v,p,l),(x,q,m),f⟩:=by
 have A:w.ownsRow base (tM t) 5 (d.lv t) (d.le t).length (gX (d.le t)):=h.here (2,t)
 rw[B.1,B.2]at A
 have gO:k<(d.le t).length:=by rw[B.2];exact K
 have C:=h.here (3,t) (d.le t)[k] (eg gO)
 obtain⟨e,rfl⟩:∃e,a=some ⟨e,0,none⟩:=by
  rcases A.2 with⟨h,M⟩|⟨g,D,J,h,_⟩
  .omega
  grind
 have b:∀j,j<5->w.cell? (F e (k*5+j))=((d.le t)[k]).cells[j]?:=by
  intro j D;rw[A.cellAt (k*5+j) G];grind [Lj]
 obtain⟨X,g⟩:=N ((d.le t)[k])
 rw[g]at C b
 obtain⟨⟨y,r,n⟩,⟨u,o,i⟩,⟨v,p,l⟩,⟨x,q,m⟩,f⟩:=X
 exact⟨e,rfl,y,r,n,u,o,i,v,p,l,x,q,m,f,b 0 G,b 1 G,b 2 G,b 3 G,b 4 G,C.2,C.1⟩
theorem wk(h:p:=by
 go_roundw
 case rel=>exact⟨k+1,by omega,by go_num,rfl,aa hgr (K _)⟩
 case measure=>simp[intOf];omega):p:=h
theorem ON(d:BW)(w:World)(h:kK base wb d w)(l:∀t,(d.le t).length<=140737488355328):Calls Tryz.prog 6 #[π wb 2] w λe b=>e=.returned (.bool true)/\w.grownBy b none:=by
 have f:∀t,∃a L c,(d.lv t=.slice a L c/\(d.le t).length=L)/\L<=140737488355328:=λt=>by
  obtain⟨a,c,e⟩:=bA (h.here (2,t));exact⟨a,_,c,⟨e,rfl⟩,l t⟩
 obtain⟨a0,u,b0,g,l0⟩:=f 0
 obtain⟨a1,t,b1,a,l1⟩:=f 1
 obtain⟨a2,v,b2,i,l2⟩:=f 2
 obtain⟨a3,L3,b3,j,l3⟩:=f 3
 have T:Hid (w.cell? (F wb 2)=some (.slice a0 u b0)/\w.cell? (F wb 3)=some (.slice a1 t b1)/\w.cell? (F wb 4)=some (.slice a2 v b2)/\w.cell? (F wb 5)=some (.slice a3 L3 b3)):=by
  rw[<-g.1,<-a.1,<-i.1,<-j.1];exact⟨h.blk.cell 2,h.blk.cell 3,h.blk.cell 4,h.blk.cell 5⟩
 have U:=I (dN g (dN a (dN i j)))
 have HS:=I h
 have G:w.grownBy w none:=cC _ _
 clear g a i j f l h
 go_enter Tryz.func6,Tryz.ntmps6
 go_wp2
 go_loopw [3,4,5,6,7,8,9] (λo i _ _ _ _ _ wr=>∃k:Nat,k<=u/\i = Y k/\o=.bool true/\w.grownBy wr none) (λ_ i _ _ _ _ _ _=>u-(intOf i).toNat)
 case atStart=>exact⟨0,cS _,rfl,rfl,G⟩
 case round=>
  obtain⟨k,S,rfl,rfl,hgr⟩:=hrel;have R:wr.c wb 2=some (.slice a0 u b0):=bN hgr (T.1);by_cases a:k<u
  .have r:(k:Int)<(u:Int):=aZ;have D:(0:Int)<=(k:Int):=aZ;obtain⟨g0,C,j,Q,B,f,L,x,g,M,y,h,P,A,mk,q0,q1,q2,q3,q4,⟨m,J⟩,l,n,p,q⟩:=(HS.grown hgr).entry U.1 a;subst C J;have K:∀o,wr.grownBy (wr.alloc o) none:=λo=>cx wr o none;go_wp2_with (first|(go_at_call_of 11 j;refine(wS Q j B m _ l.1 (l.2.below (K _))).mono ?_;rintro e b ⟨rfl,rfl⟩)|(go_at_call_of 11 f;refine(wS L f x m _ n.1 (n.2.below (K _))).mono ?_;rintro e b ⟨rfl,rfl⟩)|(go_at_call_of 11 g;refine(wS M g y m _ p.1 (p.2.below (K _))).mono ?_;rintro e b ⟨rfl,rfl⟩)|(go_at_call_of 11 h;refine(wS P h A m _ q.1 (q.2.below (K _))).mono ?_;rintro e b ⟨rfl,rfl⟩))
   exact wk
  .have r:¬ (k:Int)<(u:Int):=aZ;go_wp2;clear R r a S;obtain⟨ab,V⟩:∃b,b=wr:=⟨wr,rfl⟩
   subst V;go_loopw [3,10,11,12,13,14,15] (λo i _ _ _ _ _ wr=>∃k:Nat,k<=t/\i = Y k/\o=.bool true/\w.grownBy wr none) (λ_ i _ _ _ _ _ _=>t-(intOf i).toNat)
   case atStart=>exact⟨0,cS _,rfl,rfl,hgr⟩
   case round=>
    clear hgr;obtain⟨k,S,rfl,rfl,hgr⟩:=hrel;have R:wr.c wb 3=some (.slice a1 t b1):=bN hgr (T.2.1);by_cases a:k<t
    .have r:(k:Int)<(t:Int):=aZ;have D:(0:Int)<=(k:Int):=aZ;obtain⟨g0,C,j,Q,B,f,L,x,g,M,y,h,P,A,mk,q0,q1,q2,q3,q4,⟨m,J⟩,l,n,p,q⟩:=(HS.grown hgr).entry U.2.1 a;subst C J;have K:∀o,wr.grownBy (wr.alloc o) none:=λo=>cx wr o none;go_wp2_with (first|(go_at_call_of 12 j;refine(zf Q j B m _ l.1 (l.2.below (K _))).mono ?_;rintro e b ⟨rfl,rfl⟩)|(go_at_call_of 12 f;refine(zf L f x m _ n.1 (n.2.below (K _))).mono ?_;rintro e b ⟨rfl,rfl⟩)|(go_at_call_of 12 g;refine(zf M g y m _ p.1 (p.2.below (K _))).mono ?_;rintro e b ⟨rfl,rfl⟩)|(go_at_call_of 12 h;refine(zf P h A m _ q.1 (q.2.below (K _))).mono ?_;rintro e b ⟨rfl,rfl⟩))
     exact wk
    .have r:¬ (k:Int)<(t:Int):=aZ;go_wp2;clear R r a S;obtain⟨ad,W⟩:∃b,b=wr:=⟨wr,rfl⟩
     subst W;go_loopw [3,16,17,18,19,20,21] (λo i _ _ _ _ _ wr=>∃k:Nat,k<=v/\i = Y k/\o=.bool true/\w.grownBy wr none) (λ_ i _ _ _ _ _ _=>v-(intOf i).toNat)
     case atStart=>exact⟨0,cS _,rfl,rfl,hgr⟩
     case round=>
      clear hgr;obtain⟨k,S,rfl,rfl,hgr⟩:=hrel;have R:wr.c wb 4=some (.slice a2 v b2):=bN hgr (T.2.2.1);by_cases a:k<v
      .have r:(k:Int)<(v:Int):=aZ;have D:(0:Int)<=(k:Int):=aZ;obtain⟨g0,C,j,Q,B,f,L,x,g,M,y,h,P,A,mk,q0,q1,q2,q3,q4,⟨m,J⟩,l,n,p,q⟩:=(HS.grown hgr).entry U.2.2.1 a;subst C J;have K:∀o,wr.grownBy (wr.alloc o) none:=λo=>cx wr o none;go_wp2_with (first|(go_at_call_of 13 j;refine(zg Q j B m _ l.1 (l.2.below (K _))).mono ?_;rintro e b ⟨rfl,rfl⟩)|(go_at_call_of 13 f;refine(zg L f x m _ n.1 (n.2.below (K _))).mono ?_;rintro e b ⟨rfl,rfl⟩)|(go_at_call_of 13 g;refine(zg M g y m _ p.1 (p.2.below (K _))).mono ?_;rintro e b ⟨rfl,rfl⟩)|(go_at_call_of 13 h;refine(zg P h A m _ q.1 (q.2.below (K _))).mono ?_;rintro e b ⟨rfl,rfl⟩))
       exact wk
      .have r:¬ (k:Int)<(v:Int):=aZ;go_wp2;clear R r a S;obtain⟨ae,X⟩:∃b,b=wr:=⟨wr,rfl⟩
       subst X;go_loopw [3,22,23,24,25,26,27] (λo i _ _ _ _ _ wr=>∃k:Nat,k<=L3/\i = Y k/\o=.bool true/\w.grownBy wr none) (λ_ i _ _ _ _ _ _=>L3-(intOf i).toNat)
       case atStart=>exact⟨0,cS _,rfl,rfl,hgr⟩
       case round=>
        clear hgr;obtain⟨k,S,rfl,rfl,hgr⟩:=hrel;have R:wr.c wb 5=some (.slice a3 L3 b3):=bN hgr (T.2.2.2);by_cases a:k<L3
        .have r:(k:Int)<(L3:Int):=aZ;have D:(0:Int)<=(k:Int):=aZ;obtain⟨g0,C,j,Q,B,f,L,x,g,M,y,h,P,A,mk,q0,q1,q2,q3,q4,⟨m,J⟩,l,n,p,q⟩:=(HS.grown hgr).entry U.2.2.2 a;subst C J;have K:∀o,wr.grownBy (wr.alloc o) none:=λo=>cx wr o none;go_wp2_with (first|(go_at_call_of 14 j;refine(xD Q j B m _ ⟨l.1,l.2.below (K _)⟩).mono ?_;rintro e b ⟨rfl,rfl⟩)|(go_at_call_of 14 f;refine(xD L f x m _ ⟨n.1,n.2.below (K _)⟩).mono ?_;rintro e b ⟨rfl,rfl⟩)|(go_at_call_of 14 g;refine(xD M g y m _ ⟨p.1,p.2.below (K _)⟩).mono ?_;rintro e b ⟨rfl,rfl⟩)|(go_at_call_of 14 h;refine(xD P h A m _ ⟨q.1,q.2.below (K _)⟩).mono ?_;rintro e b ⟨rfl,rfl⟩))
         exact wk
        .have r:¬ (k:Int)<(L3:Int):=aZ;go_wp2;go_ret;exact⟨rfl,hgr⟩
