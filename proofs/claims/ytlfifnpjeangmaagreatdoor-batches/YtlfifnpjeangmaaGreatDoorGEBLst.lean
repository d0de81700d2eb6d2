import Derived.Test.YtlfifnpjeangmaaGreatDoorGEQMany
namespace Go.Proofs.YtlfifnpjeangmaaGreatDoor
open Go.RowKit
set_option maxRecDepth 100000
variable {base wb:Nat}{w0:World}{U:Nat->Prop}{p:Prop}
theorem Cz{w:World}{base:Nat}{e:TypeId}{g n:Nat}{b:List Value}(h:w.ownsRow base e 1 (.slice (some (g,0)) n n) n b):dB w g b.toArray/\base<=g:=by
 rcases h.2 with⟨a,_⟩|⟨k,cap,d,a,f,j,_,_,i,c⟩
 ·cases a
 ·injection a with e1 _ e3;injection e1 with e1;injection e1 with e1 _ _;subst e1 e3;refine⟨⟨e,?_⟩,f⟩;rw[j,<-c,fR,cU agM,Array.toArray_toList]
theorem own_ne{w:World}{i q:Nat}{e f:TypeId}{g h n m j r sx p:Nat}{o s:List Value}(l:w.ownsRow i e sx (.slice (some (g,0)) n j) n o)(hy:w.ownsRow q f p (.slice (some (h,0)) m r) m s)(t:e≠f):g≠h:=by
 rcases l.2 with⟨c,_⟩|⟨u,cap,k,c,_,y,_⟩
 ·cases c
 ·rcases hy.2 with⟨a,_⟩|⟨x,d,b,a,_,v,_⟩
  ·cases a
  grind
theorem dB.four{w:World}{g:Nat}{a b c d:Value}(h:dB w g #[a,b,c,d]):w.cell? (g,0)=some a/\w.cell? (g,1)=some b/\w.cell? (g,2)=some c/\w.cell? (g,3)=some d:=⟨h.cell 0,h.cell 1,h.cell 2,h.cell 3⟩
theorem Us.list{d:BW}{w:World}{g n t:Nat}{i:List Value}(h:Us base wb w0 U d w)(c:dB w0 g i.toArray)(j:¬ U g):∃gB,Hid ((n=0/\gB=none)\/∃a,gB=some a/\(some ⟨g,0,none⟩:Option Addr)=some ⟨a,0,none⟩/\0<n/\dB w a i.toArray/\a≠wb/\(d.lv t).ownBlock≠some a)/\∀b,gB=some b->b=g:=by
 have f:=h.free c.lt j;by_cases e:n=0
 ·exact⟨none,.inl ⟨e,rfl⟩,λb h=>by cases h⟩
 ·exact⟨some g,.inr ⟨g,rfl,rfl,by omega,c.kept f.2,λe=>f.1 ⟨(0,0),rfl,e⟩,λe=>f.1 ⟨(2,t),e⟩⟩,agM⟩
theorem kJ.vne{d:BW}{w:World}(h:kJ base wb d w)(t):(d.lv t).ownBlock≠some wb:=λe=>by have:=h.one (0,0) (2,t) wb ⟨rfl,rfl⟩ e;simp at this
theorem Z6(d)(g n:Nat)(l:List Value)(w)(h:Us base wb w0 U d w)(hn:Hid (l.length=n))(j:n<=100000)(m:dB w0 g l.toArray)(f:base<=g)(o:¬ U g)(i:((d.le 1).length+1)*112<=140737488355328):
  Calls Tryz.prog 39 #[(wb,2),.slice (some (g,0)) n n] w λe w'=>e=.returned (.tuple #[])/\∃x v,Us base wb w0 (λb=>U b\/b=g) (d.add 1 v x) w':=by
 obtain⟨gB,a,c⟩:=h.list (n:=n) (t:=1) m o
 refine(agH base wb n (some ⟨g,0,none⟩) l (d.le 1) (d.lv 1) d.cells gB w h.sep.blk rfl (h.sep.here (2,1)) (h.sep.vne 1) h.sep.room hn j (hid (λe=>by cases e)) a i).mono ?_
 rintro e w' ⟨rfl,p⟩
 obtain⟨x,v,k⟩:=h.more (t:=1) agE (λb e=>by rw[c b e];exact⟨f,m.lt,o⟩) p
 grind [Us.mono]
theorem Z7(d)(g n:Nat)(l:List Value)(w)(h:Us base wb w0 U d w)(hn:Hid (l.length=n))(j:n<=100000)(m:dB w0 g l.toArray)(f:base<=g)(o:¬ U g)(i:((d.le 2).length+1)*112<=140737488355328):
  Calls Tryz.prog 38 #[(wb,2),.slice (some (g,0)) n n] w λe w'=>e=.returned (.tuple #[])/\∃x v,Us base wb w0 (λb=>U b\/b=g) (d.add 2 v x) w':=by
 obtain⟨gB,a,c⟩:=h.list (n:=n) (t:=2) m o
 refine(agK base wb n (some ⟨g,0,none⟩) l (d.le 2) (d.lv 2) d.cells gB w h.sep.blk rfl (h.sep.here (2,2)) (h.sep.vne 2) h.sep.room hn j (hid (λe=>by cases e)) a i).mono ?_
 rintro e w' ⟨rfl,p⟩
 obtain⟨x,v,k⟩:=h.more (t:=2) agE (λb e=>by rw[c b e];exact⟨f,m.lt,o⟩) p
 grind [Us.mono]
theorem adl(d)(v)(p)(j)(n)(w)(h:Us base wb w0 U d w)(l:Out w v p j)(hn:Hid (j.length=n))(c:n<=100000)(a:∀q,p=some q->base<=q.g/\q.g<w0.heap.size/\¬ U q.g)(f:((d.le 0).length+1)*112<=140737488355328):
  Calls Tryz.prog 21 #[(wb,2),v] w λe w'=>e=.returned (.tuple #[])/\∃x u,Us base wb w0 (λb=>U b\/Pl.blk p=some b) (d.add 0 u x) w':=by
 have i:∀g,Pl.blk p=some g->base<=g/\g<w0.heap.size/\¬ U g:=λg e=>by
  cases p with
  |none=>cases e
  |some q=>injection e with e;rw[<-e];exact a q rfl
 have k:=λg e=>(h.free (i g e).2.1 (i g e).2.2).1
 refine(abl base wb n v p j (d.le 0) (d.lv 0) d.cells w h.sep.blk rfl (h.sep.here (2,0)) (h.sep.vne 0) h.sep.room hn c l (λg e=>⟨λq=>k g e ⟨(0,0),rfl,q⟩,λq=>k g e ⟨(2,0),q⟩⟩) f).mono ?_
 rintro e w' ⟨rfl,m⟩
 exact⟨rfl,h.more (t:=0) agE i m⟩
set_option maxHeartbeats 1000000
open Proofs.Tryz
theorem ahu(h:p:=by simp only[not_or];exact⟨⟨⟨HU.o _ HD.o.1.2.2.2.2.2,HD.o.2.2.2.2.2.2.2.2.1⟩,HD.o.2.2.2.2.2.2.2.2.2.1⟩,HD.o.2.2.2.2.2.2.2.2.2.2.1⟩):p:=h
theorem aiN(h:p:=by simp only[not_or];exact⟨HU.o _ HD.o.1.2.2.2.2.1,HD.o.2.2.2.2.2.2.2.1.1⟩):p:=h
theorem Oe{α:Type}(l:List α)(h:(l.length+2)*112<=140737488355328)(e:α):((l++[e]).length+1)*112<=140737488355328:=by
 grind
theorem VG(a:List RE)(b)(h:a.map RE.be=b):a.map vG=b.map (λx=>Value.string ⟨x.name.toArray⟩)/\a.map Dy=b.map (λx=>Value.int .i64 x.aH):=by
 subst h;exact⟨by rw[List.map_map];rfl,by rw[List.map_map];rfl⟩
theorem VH(w)(d:Nat)(M)(g)(h:RD w 0 d M g)(q:M.aG.length<=20):
  Calls prog 36 #[(d,0)] w λe w'=>∃l m i p,e=.returned (.agg #[.slice l M.aG.length m,.slice i M.aG.length p,ι M.aJ.length,ι M.aL.length])/\qj w' l (M.aG.map λx=>Value.string ⟨x.name.toArray⟩)/\qj w' i (M.aG.map λx=>Value.int .i64 x.aH)/\w.grownBy w' none:=by
 obtain⟨n,pv,dv,b⟩:=g
 have j:=h.bP
 have k:=h.aJ
 simp only at j k
 obtain⟨r,o,c⟩:=bA k
 subst c
 have f:b.map RE.be=M.aG:=h.aG
 have a:b.length=M.aG.length:=by rw[<-f,cR]
 obtain⟨s,t⟩:=VG b M.aG f
 refine(Px 0 d M.aA n dv r M.aJ.length o b M.aL M.aG.length M.aL.length w j (hid a) agE (hid rfl)).mono ?_
 grind [bA,nA]
def xU(base wb n:Nat)(d:BW)(w:World)(e:Ending)(w':World)(PN:List QD->Prop):Prop:=
 e=.returned (.bool true)/\∃d',Us base wb w (Held wb d) d' w'/\d'.qv=d.qv/\PN d'.qs/\∀t,(d'.le t).length<=(d.le t).length+n
theorem Og(d)(k:Nat)(Y Z:Nat)(dp)(yb)(rg)(M)(sv)(kl)(h)(cs)(w)(h0:cs[0]?=some (ι h))(hk:d.qs[k]?=some ⟨Y,Z,dp,yb,rg,M,M,sv,kl⟩)(av:(h==10)=false)(aw:(h==12)=false)(hI:kJ base wb d w)(ah:((d.le 2).length+2)*112<=140737488355328)(ai:((d.le 1).length+2)*112<=140737488355328):
  Calls prog 10 #[(wb,0),.agg cs,(Y,0)] w λe w'=>xU base wb 16 d w e w' (λqs=>qs=d.qs):=by
 have hp:=hI.part hk
 have G0:=cx w (.cells cs 48) none
 have B:=λj=>QD.loc (hp j) (λb N=>G0.block b (QD.lt (hp j) N) agI)
 have k0:(w.alloc (.cells cs 48)).cell? (w,0)=some (ι h):=by rw[World.cell?_alloc_at (hn:=rfl)];exact h0
 have R:Hid (∀W,(w.alloc (.cells cs 48)).grownBy W none->∀j,QD.C ⟨Y,Z,dp,yb,rg,M,M,sv,kl⟩ j W):=λW g j=>QD.loc (B j) (λb N=>g.block b (QD.lt (B j) N) agI)
 have q0:(w.alloc (.cells cs 48)).cell? (Y,0)=some (.pointer (some (Z,0))):=dB.cell (B 0) 0
 have ae:M.aG.length<=20:=(hp 1).1.bP.aG.len
 have al:Hid (∀e,(((d.le 2)++[e]).length+1)*112<=140737488355328):=λe=>Oe (d.le 2) ah e
 have ao:Hid (∀e,(((d.le 1)++[e]).length+1)*112<=140737488355328):=λe=>Oe (d.le 1) ai e
 have p:Hid (((d.le 2).length+1)*112<=140737488355328/\((d.le 1).length+1)*112<=140737488355328/\M.aG.length<=100000):=⟨by omega,by omega,by omega⟩
 clear ah ai
 have HI:=hid hI
 have HG:=hid G0
 have s0:(w.alloc (.cells cs 48)).heap.size=w.heap.size+1:=cF _ _
 clear hp B G0 hI hk
 go_enter func10,ntmps10
 go_wp2_with fail
 refine(uY Z dp M _ (R.o _ (cC _ _) 1).1.bP).mono ?_
 rintro e s ⟨c,f,rfl,J,L,g1⟩
 have ga:=cx s (.cells #[.slice (some (c,0)) M.aG.length M.aG.length,.slice (some (f,0)) M.aG.length M.aG.length,ι M.aJ.length,ι M.aL.length] 101) none
 have Ga:=aa g1 ga
 have q1:(s.alloc (.cells #[.slice (some (c,0)) M.aG.length M.aG.length,.slice (some (f,0)) M.aG.length M.aG.length,ι M.aJ.length,ι M.aL.length] 101)).cell? (Y,0)=some (.pointer (some (Z,0))):=dB.cell (R.o _ Ga 0) 0
 have s1:=g1.size
 have sa:(s.alloc (.cells #[.slice (some (c,0)) M.aG.length M.aG.length,.slice (some (f,0)) M.aG.length M.aG.length,ι M.aJ.length,ι M.aL.length] 101)).heap.size=s.heap.size+1:=cF _ _
 have n1:=own_ne J L agF
 obtain⟨B1,f1⟩:=Cz J
 obtain⟨B2,f2⟩:=Cz L
 have l1:=B1.lt
 have l2:=B2.lt
 have u:=dB.new s #[.slice (some (c,0)) M.aG.length M.aG.length,.slice (some (f,0)) M.aG.length M.aG.length,ι M.aJ.length,ι M.aL.length] 101
 have U:=hid (And.intro B1 (And.intro B2 u))
 clear q0 k0 J L g1 B1 B2 u
 go_wp2_with fail
 refine(uY Z dp M _ (R.o _ Ga 1).1.bP).mono ?_
 rintro e w2 ⟨n,m,rfl,K,P,g2⟩
 have gc:=cx w2 (.cells #[.slice (some (n,0)) M.aG.length M.aG.length,.slice (some (m,0)) M.aG.length M.aG.length,ι M.aJ.length,ι M.aL.length] 101) none
 have Gc:=aa Ga (aa g2 gc)
 have q2:(w2.alloc (.cells #[.slice (some (n,0)) M.aG.length M.aG.length,.slice (some (m,0)) M.aG.length M.aG.length,ι M.aJ.length,ι M.aL.length] 101)).cell? (Y,1)=some (.pointer (some (yb,0))):=dB.cell (R.o _ Gc 0) 1
 have s2:=g2.size
 have n2:=own_ne K P agF
 obtain⟨B3,f3⟩:=Cz K
 obtain⟨B4,f4⟩:=Cz P
 have l3:=B3.lt
 have l4:=B4.lt
 have q:=dB.new w2 #[.slice (some (n,0)) M.aG.length M.aG.length,.slice (some (m,0)) M.aG.length M.aG.length,ι M.aJ.length,ι M.aL.length] 101
 have Q:=hid (And.intro B3 (And.intro B4 q))
 have H2:=hid (aa ga (aa g2 gc))
 have a:=hid (And.intro g2 gc)
 clear q1 K P B3 B4 q ga g2 gc
 go_wp2_with fail
 refine(VH _ yb M rg (R.o _ Gc 2) ae).mono ?_
 rintro e w3 ⟨A,D,v,z,rfl,ad,ak,g3⟩
 have gd:=cx w3 (.cells #[.slice A M.aG.length D,.slice v M.aG.length z,ι M.aJ.length,ι M.aL.length] 101) none
 have E:=hid (aa g3 gd)
 have yf:=hid (And.intro (ad.below gd) (ak.below gd))
 have H:=((U.o.2.2.grown a.o.1 agI).grown a.o.2 agI).grown E.o agI
 have G:=dB.new w3 #[.slice A M.aG.length D,.slice v M.aG.length z,ι M.aJ.length,ι M.aL.length] 101
 obtain⟨S,X,V,T⟩:=H.four
 obtain⟨y0,y1,y2,y3⟩:=G.four
 have G3:=aa Gc E.o
 have aj:=hid G
 have ab:=hid H
 have e1:(M.aG.map (λx=>x.name)).map (λl=>Value.string ⟨l.toArray⟩)=M.aG.map λx=>Value.string ⟨x.name.toArray⟩:=by rw[List.map_map];rfl
 have e2:(M.aG.map (λx=>x.aH)).map (λx=>Value.int .i64 x)=M.aG.map λx=>Value.int .i64 x.aH:=by rw[List.map_map];rfl
 have HS:Hid (∀(W)(a1 a2)(c1 c2),(w3.alloc (.cells #[.slice A M.aG.length D,.slice v M.aG.length z,ι M.aJ.length,ι M.aL.length] 101)).grownBy W none->qj W a1 (M.aG.map λx=>Value.string ⟨x.name.toArray⟩)->qj W a2 (M.aG.map λx=>Value.int .i64 x.aH)->Calls prog 37 #[.agg #[.slice a1 M.aG.length c1,.slice a2 M.aG.length c2,ι M.aJ.length,ι M.aL.length],.agg #[.slice A M.aG.length D,.slice v M.aG.length z,ι M.aJ.length,ι M.aL.length]] W λe w'=>e=.returned (.bool true)/\W.grownBy w' none):=by
  intro W a1 a2 c1 c2 gW h1 h2;exact Gb (M.aG.map (λx=>x.name)) (M.aG.map (λx=>x.aH)) M.aG.length a1 a2 A v c1 c2 D z _ _ W (by show _=_;rw[cR]) (by show _=_;rw[cR]) agE (by rw[e1];exact h1) (by rw[e1];exact yf.o.1.below gW) (by rw[e2];exact h2) (by rw[e2];exact yf.o.2.below gW)
 have Jw:Hid (qj (w3.alloc (.cells #[.slice A M.aG.length D,.slice v M.aG.length z,ι M.aJ.length,ι M.aL.length] 101)) (some ⟨c,0,none⟩) (M.aG.map λx=>Value.string ⟨x.name.toArray⟩)/\qj (w3.alloc (.cells #[.slice A M.aG.length D,.slice v M.aG.length z,ι M.aJ.length,ι M.aL.length] 101)) (some ⟨f,0,none⟩) (M.aG.map λx=>Value.int .i64 x.aH)):=⟨(U.o.1.cat.below H2.o).below E.o,(U.o.2.1.cat.below H2.o).below E.o⟩
 have FE:Hid (qj (w3.alloc (.cells #[.slice A M.aG.length D,.slice v M.aG.length z,ι M.aJ.length,ι M.aL.length] 101)) (some ⟨n,0,none⟩) (M.aG.map λx=>Value.string ⟨x.name.toArray⟩)/\qj (w3.alloc (.cells #[.slice A M.aG.length D,.slice v M.aG.length z,ι M.aJ.length,ι M.aL.length] 101)) (some ⟨m,0,none⟩) (M.aG.map λx=>Value.int .i64 x.aH)):=⟨(Q.o.1.cat.below a.o.2).below E.o,(Q.o.2.1.cat.below a.o.2).below E.o⟩
 clear q2 ad ak g3 gd e1 e2 H G
 go_wp2_with fail
 refine(HS.o _ _ _ _ _ (cC _ _) Jw.o.1 Jw.o.2).mono ?_
 rintro e w4 ⟨rfl,F⟩
 have O:=(Q.o.2.2.grown E.o agI).grown F agI
 have af:=aj.o.grown F agI
 clear S X V T y0 y1 y2 y3
 obtain⟨S,X,V,T⟩:=O.four
 obtain⟨y0,y1,y2,y3⟩:=af.four
 go_wp2_with fail
 refine(HS.o _ _ _ _ _ F (FE.o.1.below F) (FE.o.2.below F)).mono ?_
 rintro e I ⟨rfl,g5⟩
 clear S X V T y0 y1 y2 y3
 have i:=aa E.o (aa F g5)
 have G5:=aa HG.o (aa Gc i)
 have ar:=hid (Us.start (HI.o.grown G5))
 have aq:=HI.o.room
 have B1:Hid (dB I c (M.aG.map λx=>Value.string ⟨x.name.toArray⟩).toArray):=(U.o.1.grown H2.o agI).grown i agI
 have B2:Hid (dB I f (M.aG.map λx=>Value.int .i64 x.aH).toArray):=(U.o.2.1.grown H2.o agI).grown i agI
 have B3:Hid (dB I n (M.aG.map λx=>Value.string ⟨x.name.toArray⟩).toArray):=(Q.o.1.grown a.o.2 agI).grown i agI
 have B4:Hid (dB I m (M.aG.map λx=>Value.int .i64 x.aH).toArray):=(Q.o.2.1.grown a.o.2 agI).grown i agI
 have u:Hid (dB I s.heap.size #[.slice (some (c,0)) M.aG.length M.aG.length,.slice (some (f,0)) M.aG.length M.aG.length,ι M.aJ.length,ι M.aL.length]):=(ab.o.grown F agI).grown g5 agI
 have q:Hid (dB I w2.heap.size #[.slice (some (n,0)) M.aG.length M.aG.length,.slice (some (m,0)) M.aG.length M.aG.length,ι M.aJ.length,ι M.aL.length]):=O.grown g5 agI
 have HU:Hid (∀b,w.heap.size<=b->¬ Held wb d b):=λb N e=>by have:=(HI.o.low e).2;omega
 have y:Hid (∀b,w.heap.size<=b->base<=b):=λb N=>by omega
 have MP:=hid G5
 rw[s0]at f1 f2
 rw[sa]at f3 f4
 have HD:Hid ((w.heap.size<=c/\w.heap.size<=f/\w.heap.size<=n/\w.heap.size<=m/\w.heap.size<=s.heap.size/\w.heap.size<=w2.heap.size)/\f≠c/\n≠c/\n≠f/\m≠c/\m≠f/\m≠n/\(s.heap.size≠c/\s.heap.size≠f)/\w2.heap.size≠c/\w2.heap.size≠f/\w2.heap.size≠n/\w2.heap.size≠m):=by
  show _/\_;omega
 have Ck:Hid ((M.aG.map λx=>Value.string ⟨x.name.toArray⟩).length=M.aG.length):=cR _
 have ag:Hid ((M.aG.map λx=>Value.int .i64 x.aH).length=M.aG.length):=cR _
 have S:=u.o.cell 0
 simp only[cH,cG]at S
 have C6:=hid (Z7 d c M.aG.length _ (I.drewN 1) (ar.o.grown (aR (cC _ none) 1)) Ck.o p.o.2.2 B1.o (y.o _ HD.o.1.1) (HU.o _ HD.o.1.1) p.o.1)
 clear O af i G5 G3 Gc Ga F g5 HS Jw FE yf aj ab H2 a E U Q R n1 n2 f1 f2 f3 f4 l1 l2 l3 l4 s0 s1 s2 sa
 go_wp2_with fail
 go_region_held3 (λw'=>w'.cell? ⟨s.heap.size,0,none⟩=some (.slice (some ⟨c,0,none⟩) M.aG.length M.aG.length)) (go_keep) (first|(go_at_call 38;refine C6.o.mono ?_;rintro e w6 ⟨rfl,e6,v6,S6⟩;have r:=(u.o.kept (S6.free u.o.lt aiN).2).cell 0;simp only[cH,cG]at r))
 have X:=(u.o.kept (S6.free u.o.lt aiN).2).cell 1
 simp only[cH,cG,cI]at X
 have C7:=hid (Z6 _ f M.aG.length _ (w6.drewN 1) (S6.grown (aR (cC _ none) 1)) ag.o p.o.2.2 B2.o (y.o _ HD.o.1.2.1) (by simp only[not_or];exact⟨HU.o _ HD.o.1.2.1,HD.o.2.1⟩) p.o.2.1)
 clear r S C6 S6
 go_wp2_with fail
 go_region_held3 (λw'=>w'.cell? ⟨s.heap.size,1,none⟩=some (.slice (some ⟨f,0,none⟩) M.aG.length M.aG.length)) (go_keep) (first|(go_at_call 39;refine C7.o.mono ?_;rintro e w7 ⟨rfl,e7,v7,S7⟩;have r:=(u.o.kept (S7.free u.o.lt (by simp only[not_or];exact⟨⟨HU.o _ HD.o.1.2.2.2.2.1,HD.o.2.2.2.2.2.2.2.1.1⟩,HD.o.2.2.2.2.2.2.2.1.2⟩)).2).cell 1;simp only[cH,cG,cI]at r))
 have V:=(q.o.kept (S7.free q.o.lt (by simp only[not_or];exact⟨⟨HU.o _ HD.o.1.2.2.2.2.2,HD.o.2.2.2.2.2.2.2.2.1⟩,HD.o.2.2.2.2.2.2.2.2.2.1⟩)).2).cell 0
 simp only[cH,cG]at V
 have C8:=hid (Z7 _ n M.aG.length _ (w7.drewN 1) (S7.grown (aR (cC _ none) 1)) Ck.o p.o.2.2 B3.o (y.o _ HD.o.1.2.2.1) (by simp only[not_or];exact⟨⟨HU.o _ HD.o.1.2.2.1,HD.o.2.2.1⟩,HD.o.2.2.2.1⟩) (al.o e6))
 clear r X C7 S7
 go_wp2_with fail
 go_region_held3 (λw'=>w'.cell? ⟨w2.heap.size,0,none⟩=some (.slice (some ⟨n,0,none⟩) M.aG.length M.aG.length)) (go_keep) (first|(go_at_call 38;refine C8.o.mono ?_;rintro e w8 ⟨rfl,e8,v8,S8⟩;have r:=(q.o.kept (S8.free q.o.lt ahu).2).cell 0;simp only[cH,cG]at r))
 have T:=(q.o.kept (S8.free q.o.lt ahu).2).cell 1
 simp only[cH,cG,cI]at T
 have C9:=hid (Z6 _ m M.aG.length _ (w8.drewN 1) (S8.grown (aR (cC _ none) 1)) ag.o p.o.2.2 B4.o (y.o _ HD.o.1.2.2.2.1) (by simp only[not_or];exact⟨⟨⟨HU.o _ HD.o.1.2.2.2.1,HD.o.2.2.2.2.1⟩,HD.o.2.2.2.2.2.1⟩,HD.o.2.2.2.2.2.2.1⟩) (ao.o e7))
 clear r V C8 S8
 go_wp2_with fail
 go_region_held3 (λw'=>w'.cell? ⟨w2.heap.size,1,none⟩=some (.slice (some ⟨m,0,none⟩) M.aG.length M.aG.length)) (go_keep) (first|(go_at_call 39;refine C9.o.mono ?_;rintro e w9 ⟨rfl,e9,v9,S9⟩;have r:=(q.o.kept (S9.free q.o.lt (by simp only[not_or];exact⟨⟨⟨⟨HU.o _ HD.o.1.2.2.2.2.2,HD.o.2.2.2.2.2.2.2.2.1⟩,HD.o.2.2.2.2.2.2.2.2.2.1⟩,HD.o.2.2.2.2.2.2.2.2.2.2.1⟩,HD.o.2.2.2.2.2.2.2.2.2.2.2⟩)).2).cell 1;simp only[cH,cG,cI]at r))
 clear r T C9
 go_wp2
 go_ret
 refine⟨rfl,_,Us.trans (iZ.lM MP.o _) S9 (λb N=>?_),rfl,rfl,λt=>?_⟩
 ·have hd:=HD.o.1;rcases N with(((e|e)|e)|e)|e
  ·exact .inl e
  ·exact .inr agE
  ·exact .inr agE
  ·exact .inr agE
  ·exact .inr agE
 ·have a1:=BW.Cy (((d.add 2 v6 e6).add 1 v7 e7).add 2 v8 e8) 1 v9 e9 t;have a2:=BW.Cy ((d.add 2 v6 e6).add 1 v7 e7) 2 v8 e8 t;have a3:=BW.Cy (d.add 2 v6 e6) 1 v7 e7 t;have a4:=BW.Cy d 2 v6 e6 t;omega
set_option maxHeartbeats 2000000
theorem nk.lt{d w:World}{a:Option Addr}{cap:Nat}{zs:List UInt8}{gB:Option Nat}(h:nk d w a cap zs gB)(k)(b:some k=gB):k<w.heap.size:=by
 rcases h with⟨_,_,_,h⟩|⟨g,_,c,_,e⟩
 ·rw[h]at b;cases b
 ·rw[c]at b;cases b;exact e.lt
theorem Tryz.VK:(prog.info? 54).map (λi=>(i.zero,i.size,i.bytes))=some (some (.pointer none),1,8):=by kernel_rfl
theorem kJ.pushed{d:BW}{w n m:World}{p:QD}{v:Value}(l:kJ base wb d w)(z:w.grownBy n none)(G:∀j,p.C j n)(u:∀j b,p.F j b->w.heap.size<=b)(Q:∀i j b,p.F i b->p.F j b->i=j)(o:n.grownBy m d.qv.ownBlock)(g:m.ownsRow base 54 1 v (d.qs.length+1) ((d.qs.map λp=>ptrTo p.pb)++[ptrTo p.pb]))(L:v.ownBlock=d.qv.ownBlock\/v.ownBlock=some n.heap.size):
  Us base wb w (Held wb d) {d with qv:=v,qs:=d.qs++[p]} (m.setCell (wb,1) v):=by
 have R:=z.size
 have S:=o.size
 have I:=l.room
 have P:=l.lt (0,0) wb ⟨rfl,rfl⟩
 have O:=λb e=>l.lt (1,0) b ⟨rfl,e⟩
 have s:∀b,w.heap.size<=b->∀j,¬ BW.F wb d j b:=λb a j c=>by have:=l.lt j b c;omega
 have A:d.qv.ownBlock≠some wb:=λe=>by have:=l.one (0,0) (1,0) wb ⟨rfl,rfl⟩ ⟨rfl,e⟩;simp at this
 have M:∀b,v.ownBlock=some b->d.qv.ownBlock=some b\/b=n.heap.size:=agM
 have t:v.ownBlock≠some wb:=agM
 have H:=(l.blk.grown z agI).grown o (λe=>A e.symm)
 have E:∀b,b<n.heap.size->w.heap.size<=b->(m.setCell (wb,1) v).heap[b]?=n.heap[b]?:=(by grind [RowKit.Below.heap_setCell,World.grownBy.block])
 have B:=λj=>QD.loc (G j) (λb a=>E b (QD.lt (G j) a) (u j b a))
 have J:(d.qs++[p])[d.qs.length]?=some p:=agI
 have hF:∀j b,BW.F wb {d with qv:=v,qs:=d.qs++[p]} (j+4,d.qs.length) b->p.F j b:=by
  rintro j b ⟨q,hq,a⟩;grind
 have y:∀j b,p.F j b->v.ownBlock≠some b:=λj b a e=>by
  have T:=QD.lt (G j) a;grind
 have fr:iZ w (m.setCell (wb,1) v) (λb=>b=wb\/d.qv.ownBlock=some b):=⟨o.os.trans z.os,o.tape.trans z.tape,o.output.trans z.output,by rw[World.size_setCell];omega,ahD⟩
 have N:∀j,¬ (j=(0,0)\/j=(1,0)\/∃i,j=(i+4,d.qs.length))->(BW.C base wb d j (m.setCell (wb,1) v)->BW.C base wb {d with qv:=v,qs:=d.qs++[p]} j (m.setCell (wb,1) v))/\∀b,BW.F wb {d with qv:=v,qs:=d.qs++[p]} j b->BW.F wb d j b:=by
  intro j c;match j,c with
  |(0,k),c=>exact⟨λ_ e=>absurd (by rw[e]) (λq=>c (.inl q)),λb e=>absurd (by rw[e.1]) (λq=>c (.inl q))⟩
  |(1,k),c=>exact⟨λ_ e=>absurd (by rw[e]) (λq=>c (.inr (.inl q))),λb e=>absurd (by rw[e.1]) (λq=>c (.inr (.inl q)))⟩
  |(2,_),_=>exact⟨λq=>q,λ_ q=>q⟩
  |(3,_),_=>exact⟨λq=>q,λ_ q=>q⟩
  |(j+4,k),c=>
   have A:k≠d.qs.length:=agM;have f:∀q,(d.qs++[p])[k]?=some q->d.qs[k]?=some q:=agM;exact⟨λq r D=>q r (f r D),λb ⟨r,D,a⟩=>⟨r,f r D,a⟩⟩
 refine⟨KC.acts (BW.loc base wb) l (λj=>j=(0,0)\/j=(1,0)\/∃i,j=(i+4,d.qs.length)) _ fr ?_ ?_ ?_ ?_ N,fr.mono (λb _ e=>?_),λb ⟨i,a⟩=>?_⟩
 ·rintro b (e|e)
  ·exact .inl ⟨(0,0),.inl rfl,rfl,e⟩
  ·exact .inl ⟨(1,0),.inr (.inl rfl),rfl,e⟩
 ·rintro _ (rfl|rfl|⟨j,rfl⟩)
  ·exact λ_=>H.set 1 v
  ·intro _;grind [RowKit.Below.heap_setCell,bZ]
  ·intro q hq;grind
 ·rintro _ b (rfl|rfl|⟨j,rfl⟩) a
  ·obtain⟨_,rfl⟩:=a;exact⟨l.base (0,0) b ⟨rfl,rfl⟩,by rw[World.size_setCell];omega,.inl ⟨(0,0),.inl rfl,rfl,rfl⟩⟩
  ·have e:v.ownBlock=some b:=a.2;refine⟨(g.lt b e).1,by rw[World.size_setCell];exact(g.lt b e).2,?_⟩;rcases M b e with K|K
   ·exact .inl ⟨(1,0),.inr (.inl rfl),rfl,K⟩
   grind
  ·have q:=u j b (hF j b a);exact⟨by omega,QD.lt (B j) (hF j b a),.inr (s b q)⟩
 ·rintro _ _ b (rfl|rfl|⟨i,rfl⟩) (rfl|rfl|⟨j,rfl⟩) x c
  ·rfl
  ·obtain⟨_,rfl⟩:=x;exact absurd c.2 t
  ·obtain⟨_,rfl⟩:=x;grind
  ·obtain⟨_,rfl⟩:=c;exact absurd x.2 t
  ·rfl
  ·exact absurd x.2 (y j b (hF j b c))
  ·obtain⟨_,rfl⟩:=c;grind
  ·exact absurd c.2 (y i b (hF i b x))
  grind
 ·rcases e with e|e
  ·exact⟨(0,0),rfl,e⟩
  ·exact⟨(1,0),rfl,e⟩
 ·by_cases e:i=(0,0)\/i=(1,0)\/∃j,i=(j+4,d.qs.length)
  ·rcases e with rfl|rfl|⟨j,rfl⟩
   ·exact .inl ⟨(0,0),a⟩
   ·rcases M b a.2 with e|e
    ·exact .inl ⟨(1,0),rfl,e⟩
    ·exact .inr agE
   grind
  ·exact .inl ⟨i,(N i e).2 b a⟩
def VL(w:World)(b:Nat)(kind A C:Int)(zs:List UInt8):Prop:=w.cell? (b,0)=some (ι kind)/\w.cell? (b,1)=some (ι A)/\w.cell? (b,3)=some (ι C)/\w.cell? (b,7)=some (.string zs)
theorem VL.grown{w w':World}{b:Nat}{a A C:Int}{zs:List UInt8}{row:Option Nat}(h:VL w b a A C zs)(k:w.grownBy w' row)(c:row≠some b):VL w' b a A C zs:=
 ⟨k.cell h.1 (λe=>c e.symm),k.cell h.2.1 (λe=>c e.symm),k.cell h.2.2.1 (λe=>c e.symm),k.cell h.2.2.2 (λe=>c e.symm)⟩
theorem RD.new{w:World}{b a:Nat}{aA:Int}{dv:Value}{zs:List UInt8}(h:iP w b a aA (.slice none 0 0) (.slice none 0 0) dv [] zs):RD w b a ⟨aA,[],[],zs⟩ ⟨.slice none 0 0,.slice none 0 0,dv,[]⟩:=
 ⟨h,rfl,World.ownsRow_nil _ _ _ _,by simp[Value.ownBlock],.inl rfl,.inl rfl⟩
theorem Fh(b A C)(zs)(cs)(w)(N:VL (w.alloc (.cells cs 48)) w.heap.size b A C zs)(M:(b==1)=false)(E:(b==2)=false)(H:(b==3)=false)(I:(b==4)=false)(J:(b==5)=false)(v:zs.length<=140737488351232)(y:Hid (A<0\/300<A)):
  Calls prog 7 #[(wb,0),.agg cs] w λe w'=>e=.returned (.bool true)/\w.grownBy w' none:=by
 have r:zs.length<=140737488355328:=agE
 obtain⟨g,c,f,d⟩:=N
 go_enter func7,ntmps7
 go_wp2_with fail
 refine(Dg zs _ _ v).mono ?_
 rintro e R ⟨a,cap,gB,rfl,p,i⟩
 have q:=VL.grown ⟨g,c,f,d⟩ i agI
 clear g c f d
 have z:=aa (cx w _ none) i
 have m:=λj D=>by have:=p.old j D;simpa using this
 have s:gB≠some w.heap.size:=λe=>by have:=m _ e.symm;omega
 obtain⟨g,c,f,d⟩:=q
 clear i
 go_wp2_with fail
 refine(J9 A _ _ y.o).mono ?_
 rintro e w2 ⟨rfl,h⟩
 have k:=p.grown h
 have u:=VL.grown ⟨g,c,f,d⟩ h agI
 have L:=aa z h
 clear g c f d p z h
 obtain⟨g,c,f,d⟩:=u
 go_wp2_with fail
 refine(Dh zs zs.length a cap gB _ _ (hid rfl) v k).mono ?_
 rintro e K ⟨rfl,l⟩
 have t:=VL.grown ⟨g,c,f,d⟩ l s
 have x:w.grownBy K none:=(by grind [K9])
 clear g c f d l k L
 obtain⟨g,c,f,d⟩:=t
 go_wp2_with (first|(refine pX _ rfl _ 9 37 rfl 5 underlying9 underlying37 underlying5 zs rfl r ?_;intro Q B P S G O n))
 refine(Xp A _ _ y.o).mono ?_
 rintro e T ⟨rfl,rfl⟩
 have F:=aa x n
 clear g c f d n x O
 go_wp2
 go_ret
 exact⟨rfl,F⟩
def Tf(base wb:Nat)(d:BW)(M:DM)(w w':World):Prop:=∃v p,Us base wb w (Held wb d) {d with qv:=v,qs:=d.qs++[p]} w'/\p.M=M/\p.N=p.M/\p.kl=[]/\0<=M.aA/\M.aA<=300
theorem GZ(d)(c A C)(zs)(cs)(w)(hO:VL (w.alloc (.cells cs 48)) w.heap.size c A C zs)(aJ:(c==1)=false)(aH:(c==2)=false)(aG:(c==3)=false)(aB:(c==4)=false)(aA:(c==5)=false)(hl:zs.length<=140737488351232)(h0:0<=A)(h1:A<=300)(hI:kJ base wb d w)(aI:(d.qs.length+1)*112<=140737488355328):
  Calls prog 7 #[(wb,0),.agg cs] w λe w'=>e=.returned (.bool true)/\Tf base wb d ⟨A,[],[],zs⟩ w w':=by
 obtain⟨ie,aq,az,av,al⟩:=info_parts Tryz.VK
 have P:zs.length<=140737488355328:=agE
 have HI:=hid hI
 have l:=hid (And.intro h0 h1)
 clear hI h0 h1
 obtain⟨z,v,y,D⟩:=hO
 go_enter func7,ntmps7
 go_wp2_with fail
 refine(Dg zs _ _ hl).mono ?_
 rintro e w1 ⟨a,cap,gB,rfl,S,Q⟩
 have ay:=VL.grown ⟨z,v,y,D⟩ Q agI
 clear z v y D
 have G1:=aa (cx w _ none) Q
 have t:=λj X=>by have:=S.old j X;simpa using this
 have ad:gB≠some w.heap.size:=λe=>by have:=t _ e.symm;omega
 obtain⟨z,v,y,D⟩:=ay
 clear Q
 go_wp2_with fail
 refine(GK A zs zs.length a cap gB _ _ l.o.1 l.o.2 (hid rfl) P S).mono ?_
 rintro e w2 ⟨b,dp,rfl,W,V,U,ah,G⟩
 have Y:=S.grown G
 have ax:=VL.grown ⟨z,v,y,D⟩ G agI
 have G2:=aa G1 G
 have af:=hid (λk g=>S.lt k g)
 have s1:=G1.size
 have hB:∀k,(k=b\/Pl.blk dp=some k)->w1.heap.size<=k:=by
  rintro k (rfl|e)
  ·exact V
  ·cases dp with
   |none=>cases e
   |some q=>injection e with e;rw[<-e];exact U q rfl
 have J3:Pl.blk dp≠some b:=by
  intro e;cases dp with
  |none=>cases e
  |some q=>injection e with e;exact ah q rfl e
 have m:=hid (And.intro W (And.intro hB J3))
 clear z v y D S G1 G V U ah W hB J3
 obtain⟨z,v,y,D⟩:=ax
 go_wp2_with fail
 refine(Dh zs zs.length a cap gB _ _ (hid rfl) hl Y).mono ?_
 rintro e w4 ⟨rfl,E⟩
 have aw:=VL.grown ⟨z,v,y,D⟩ E ad
 have G4:=K9 G2 E (λj X=>by have:=t j X;omega)
 have Z:Hid (eX w4 b dp ⟨A,[],[],zs⟩):=m.o.1.keep (λk g=>E.block k (m.o.1.bP.lt g) (λe=>by have:=af.o k e;have:=m.o.2.1 k g;omega))
 clear z v y D E Y G2
 obtain⟨z,v,y,D⟩:=aw
 go_wp2_with (first|(refine pX _ rfl _ 9 37 rfl 5 underlying9 underlying37 underlying5 zs rfl P ?_;intro b5 ai B KJ aF xZ J))
 refine(abw B.heap.size A zs zs.length _ ai _ l.o.1 l.o.2 (hid rfl) P (hid (λe=>by cases e)) xZ (cy _)).mono ?_
 rintro e f ⟨dv,rfl,K,nU⟩
 have s5:=J.size
 have s6:=nU.size
 have s4:=G4.size
 have G6:=aa G4 (aa J nU)
 have r:=HI.o.grown G6
 have s:=r.row
 have L:=r.blk
 have au:=r.room
 obtain⟨ab,cb,n⟩:=bA s
 have c0:f.cell? (wb,1)=some (.slice ab d.qs.length cb):=by rw[<-n];exact L.cell 1
 have O:f.ownsRow base 54 1 (.slice ab d.qs.length cb) d.qs.length (d.qs.map λp=>ptrTo p.pb):=by rw[<-n];exact s
 have KE:=hid n
 have ao:(Value.slice ab d.qs.length cb).ownBlock≠some wb:=λe=>by have:=r.one (0,0) (1,0) wb ⟨rfl,rfl⟩ ⟨rfl,(by rw[<-n]at e;exact e)⟩;simp at this
 have ae:=λk e=>(K.aL.lt k e).1
 have an:d.qs.length+1<=maxLen:=ag1
 have ar:(d.qs.length+1)*8<=140737488355328:=agE
 obtain⟨p,I⟩:∃p:QD,p=⟨f.heap.size,b,dp,B.heap.size,⟨.slice none 0 0,.slice none 0 0,dv,[]⟩,⟨A,[],[],zs⟩,⟨A,[],[],zs⟩,.slice none 0 0,[]⟩:=⟨_,rfl⟩
 have x4:=Z.o
 have x6:=(x4.grown J).grown nU
 have y6:=RD.new K
 have gA:=cx f (.cells #[(b,0),(B,0),.slice none 0 0] 95) none
 have HX:Hid (∀j,p.C j (f.alloc (.cells #[(b,0),(B,0),.slice none 0 0] 95))):=by
  intro j;subst I;match j with
  |0=>exact dB.new f _ _
  |1=>exact⟨x6.grown gA,λq (e:dp=some q)=>by have h:=m.o.2.2;rw[e]at h;exact λe=>h (congrArg some e)⟩
  |2=>exact(y6.down (cS _)).keep (λk g=>(gA.block k (y6.lt k g).2 agI))
  |3=>exact⟨World.ownsRow_nil _ _ _ _,λk g=>by cases g⟩
  |_+4=>trivial
 have HF:Hid (∀j k,p.F j k->(j=0/\k=f.heap.size\/j=1/\w1.heap.size<=k/\k<w4.heap.size\/j=2/\B.heap.size<=k/\k<f.heap.size)):=by
  intro j k g;subst I;match j,g with
  |0,e=>exact .inl ⟨rfl,e⟩
  |1,e=>exact .inr (.inl ⟨rfl,m.o.2.1 k e,x4.bP.lt e⟩)
  |2,e=>
   refine .inr (.inr ⟨rfl,?_,(y6.lt k e).2⟩);rcases e with e|e|e|e
   ·have e:k=B.heap.size:=e;omega
   ·cases e
   ·cases e
   ·exact ae k e
  |3,e=>
   rcases e with e|⟨x,hx,_⟩
   ·cases e
   ·cases hx
 have HO:Hid (w.heap.size<=w1.heap.size/\w.heap.size<=w4.heap.size/\w4.heap.size<=B.heap.size/\B.heap.size<=f.heap.size):=⟨by omega,by omega,by omega,by omega⟩
 have H:Hid (p.pb=f.heap.size/\p.M=⟨A,[],[],zs⟩/\p.N=p.M/\p.kl=[]):=by subst I;exact⟨rfl,rfl,rfl,rfl⟩
 have OQ:=hid G6
 have aj:=hid L
 clear z v y D J nU G4 G6 xZ K s r L Z ae x4 x6 y6 gA I t ad af n m s1 s4 s5 s6
 go_wp2_with (at_builtin;refine dJ _ rfl _ _ 28 rfl base 54 ie _ 1 8 underlying28 aq az av al rfl agF (.slice ab d.qs.length cb) d.qs.length _ rfl ((O.alloc _).alloc _) ⟨f.heap.size+1,0,none⟩ 1 1 [.pointer (some (f,0))] rfl rfl (by have:=gJ (f.alloc (.cells #[(b,0),(B,0),.slice none 0 0] 95)) 54 [.pointer (some (f,0))];rw[cF]at this;exact this) (by intro u hu;rw[ew.1 hu];rfl) agE an ar (by rw[cF,cF];omega) ?_;intro aD w7 rW Z8 T;obtain⟨WU,aC,Jh⟩:=bA rW;subst Jh;have ag:=((aj.o.alloc (.cells #[(b,0),(B,0),.slice none 0 0] 95)).alloc (.cells #[(f,0)] 54)).grown Z8 (λe=>ao e.symm);have ak:=ag.cell 1;have aE:=ag.frozen 1;simp only[cH,cG,cI]at ak)
 have R:=kJ.pushed (p:=p) HI.o (aM (aM OQ.o _) _) (λj=>QD.loc (HX.o j) (λk g=>Below.heap_alloc _ _ k (QD.lt (HX.o j) g))) (λj k g=>by have h1:=HF.o j k g;have h2:=HO.o;have h3:=OQ.o.size;omega) (λi j k hi X=>by have h1:=HF.o i k hi;have h2:=HF.o j k X;have h3:=HO.o;omega) (by rw[KE.o];exact Z8) (by rw[H.o.1];exact rW) (by have:=T.o;rw[KE.o];exact this)
 go_ret
 exact⟨rfl,_,p,R,H.o.2.1,H.o.2.2.1,H.o.2.2.2,l.o.1,l.o.2⟩
theorem Rp(d)(a A C)(zs)(cs)(w)(f:VL (w.alloc (.cells cs 48)) w.heap.size a A C zs)(i:a=9)(c:zs.length<=140737488351232)(h:kJ base wb d w)(b:(d.qs.length+1)*112<=140737488355328):
  Calls prog 7 #[(wb,0),.agg cs] w λe w'=>e=.returned (.bool true)/\(Us base wb w (Held wb d) d w'\/Tf base wb d ⟨A,[],[],zs⟩ w w'):=by
 subst i
 by_cases j:A<0\/300<A
 ·refine(Fh 9 A C zs cs w f rfl rfl rfl rfl rfl c (hid j)).mono ?_;rintro e w' ⟨rfl,g⟩;exact⟨rfl,.inl ((Us.start h).grown g)⟩
 ·refine(GZ d 9 A C zs cs w f rfl rfl rfl rfl rfl c agE agE h b).mono ?_;grind
theorem Rq(d)(a:Int)(cs)(w)(i:Hid (a=10\/a=11\/a=12))(k:cs[0]?=some (ι a))(l:kJ base wb d w)(g:d.qs=[]):
  Calls prog 5 #[(wb,0),.agg cs] w λe w'=>e=.returned (.bool true)/\w.grownBy w' none:=by
 have j:=hid (cx w (.cells cs 48) none)
 have c:=l.grown j.o
 have b:=c.row
 have h:=c.blk
 obtain⟨n,m,f⟩:=bA b
 rw[g,List.length_nil]at f
 have q:(w.alloc (.cells cs 48)).cell? (wb,1)=some (.slice n 0 m):=by rw[<-f];exact h.cell 1
 have p:(w.alloc (.cells cs 48)).cell? (w,0)=some (ι a):=by rw[World.cell?_alloc_at (hn:=rfl)];exact k
 clear b h f c l g k
 rcases i.o with rfl|rfl|rfl
 all_goals
  clear i
  go_enter func5,ntmps5
  go_wp2
  go_ret
  exact⟨rfl,j.o⟩
theorem Rs(d)(c A:Int)(cs)(k)(p)(t)(I:List QD->Prop)(w)(X:Hid (c=10\/c=11\/c=12))(F:cs.size=41)(h0:cs[0]?=some (ι c))(h1:cs[1]?=some (ι A))(G:-9223372036854775808<=A)(D:A<=9223372036854775807)(hn:Hid (d.qs.length<=9223372036854775807))(B:Hid (vH A d.qs.length=k))(N:d.qs[k]?=some p)(U:kJ base wb d w)(E:∀qs,I qs->qs.map QD.pb=d.qs.map QD.pb)(Z:∀W,w.grownBy W none->Calls prog 10 #[(wb,0),.agg cs,(p.pb,0)] W λe w'=>xU base wb t d W e w' I):
  Calls prog 5 #[(wb,0),.agg cs] w λe w'=>xU base wb t d w e w' I:=by
 have P:=cx w (.cells cs 48) none
 have O5:Hid (Calls prog 10 #[(wb,0),.agg cs.toList.toArray,(p.pb,0)] ((w.alloc (.cells cs 48)).drewN 1) λe w'=>xU base wb t d ((w.alloc (.cells cs 48)).drewN 1) e w' I):=by
  show Calls _ _ _ _ _;rw[Array.toArray_toList];exact Z _ (aR P 1)
 have x:=U.grown P
 have r:=x.row
 have L:=x.blk
 have hkl:=(cM.1 N).1
 obtain⟨n,l⟩:=aq d.qs.length
 obtain⟨rb,v,m⟩:∃rb v,d.qv=.slice (some ⟨rb,0,none⟩) n v:=by
  rcases r.2 with⟨_,e⟩|⟨g,cap,aa,hv,_⟩
  ·omega
  ·exact⟨g,cap,by rw[<-l];exact hv⟩
 have j:=r
 rw[m,l]at j
 have c0:(w.alloc (.cells cs 48)).cell? (wb,1)=some (.slice (some (rb,0)) n v):=by rw[<-m];exact L.cell 1
 have k0:(w.alloc (.cells cs 48)).cell? (w,0)=some (ι c):=by rw[World.cell?_alloc_at (hn:=rfl)];exact h0
 have V:(w.alloc (.cells cs 48)).cell? (w,1)=some (ι A):=by rw[World.cell?_alloc_at (hn:=rfl)];exact h1
 have hr:(w.alloc (.cells cs 48)).cell? (rb,k)=some (.pointer (some (p.pb,0))):=by
  obtain⟨b,off,s,z⟩:=nA j k (ptrTo p.pb) (by rw[eA,N];rfl);injection s with s;injection s with s T _;subst s T;rw[cN]at z;exact z
 have Q:=dB.new w cs 48
 have RO:=Q.range
 have O:Hid ((prog.info? 48).map (·.size)=some cs.toList.length):=by show _=_;rw[Tryz.Ji,cV,F]
 have R:Hid (∀e w',xU base wb t d ((w.alloc (.cells cs 48)).drewN 1) e w' I->w'.cell? (wb,1)=some (.slice (some (rb,0)) n v)/\w'.cell? (w,1)=some (ι A)/\w'.cell? (rb,k)=some (.pointer (some (p.pb,0)))/\w'.rangeAt w.heap.size 0 cs.toList):=by
  rintro e w' ⟨_,C,S,s,z,_⟩;have eb:w'.heap[w.heap.size]?=(w.alloc (.cells cs 48)).heap[w.heap.size]?:=(S.free (b:=w.heap.size) (by show w.heap.size<(w.alloc _).heap.size;rw[cF];omega) (λe=>by have:=(U.low e).2;omega)).2;have Y:=E _ z;have hl:C.qs.length=n:=by rw[<-l,<-cR (f:=QD.pb),Y,cR]
  refine⟨by rw[<-m,<-s];exact S.sep.blk.cell 1,?_,?_,(Q.kept eb).range⟩
  ·rw[World.cell?_of_block (a:=⟨w.heap.size,1,none⟩) eb];exact V
  ·have J:=S.sep.row;rw[s,m,hl]at J
   obtain⟨b,off,H,q2⟩:=nA J k (ptrTo p.pb) (by
    have h:(C.qs.map QD.pb)[k]?=some p.pb:=(by rw[Y,eA,N];rfl);rw[eA]at h⊢;cases hq:C.qs[k]? with
    |none=>rw[hq]at h;cases h
    |some q=>rw[hq]at h;have h:=(by injection h);show some (ptrTo q.pb)=_;rw[h])
   injection H with H;injection H with H q3 _;subst H q3;rw[cN]at q2;exact q2
 have ad:(0:Int)<(n:Int):=agE
 have ae:k<n:=agE
 have ab:(0:Int)<=(k:Int):=agE
 have mU:(k:Int)<(n:Int):=agE
 have M:=hid (DI A n ((w.alloc (.cells cs 48)).drewN 1) G D agE (by have:=hn.o;omega))
 have y:=B.o
 rw[l]at y
 rw[y]at M
 clear y B hn U x r j L m N hkl l Q Z G D h0 h1 F E
 rcases X.o with rfl|rfl|rfl
 all_goals
  clear X
  go_enter func5,ntmps5
  go_wp2_with fail
  refine wp_region_held_drew (S:=(λw'=>w'.cell? ⟨wb,1,none⟩=some (.slice (some ⟨rb,0,none⟩) n v)/\w'.cell? ⟨w.heap.size,1,none⟩=some (ι A)/\w'.cell? ⟨rb,k,none⟩=some (.pointer (some ⟨p.pb,0,none⟩))/\w'.rangeAt w.heap.size 0 cs.toList)) agP ⟨c0,V,hr,RO⟩ (λhHeld=>?_)
  refine yK 0 (.pointer (some (wb,0))) ?_
  refine jL 1 (.agg cs.toList.toArray) ?_ (hy:=yieldsIf_load_mid (by rfl) _ _ rfl w.heap.size 0 rfl cs.toList _ (λw' h=>h.2.2.2) underlying48 rfl O.o)
  refine yK 2 (.pointer (some (wb,0))) ?_
  refine yK 3 (.pointer (some (wb,0))) ?_
  refine yK 4 (.pointer (some (wb,1))) ?_
  refine yK 5 (.slice (some (rb,0)) n v) ?_
  refine yK 6 (.pointer (some (w,1))) ?_
  refine yK 7 (ι A) ?_
  refine yK 8 (.pointer (some (wb,0))) ?_
  refine yK 9 (.pointer (some (wb,0))) ?_
  refine yK 10 (.pointer (some (wb,1))) ?_
  refine yK 11 (.slice (some (rb,0)) n v) ?_
  refine yK 12 (ι n) ?_
  refine ready_one (i:=13) rfl agP (λK hK=>?_)
  go_simp
  refine M.o.mono ?_
  rintro e w' ⟨rfl,rfl⟩
  go_wp2_with fail
  refine hK.out _ _ hHeld (λhHeld=>?_)
  clear hK K
  refine yK 14 (.pointer (some (rb,k))) ?_
  refine yK 15 (.pointer (some (p.pb,0))) ?_
  refine ready_one (i:=16) rfl agP (λK hK=>?_)
  go_simp
  refine O5.o.mono ?_
  rintro e w9 u
  obtain rfl:=u.1
  go_wp2_with fail
  refine hK.out _ _ (R.o _ _ u) (λhHeld=>?_)
  clear hK K
  refine yK 17 (.bool true) ?_
  refine wpAnyH_done agP ?_ _
  go_wp2
  go_ret
  obtain⟨_,C,S,s,z,T⟩:=u
  exact⟨rfl,C,Us.trans (iZ.lM (aR P 1) _) S (λb e=>.inl e),s,z,T⟩
theorem VM(d)(f A C)(zs)(cs)(w)(m:Hid (f=9))(k:cs.size=41)(h:VL (w.alloc (.cells cs 48)) w.heap.size f A C zs)(u:zs.length<=140737488351232)(s:kJ base wb d w)(n:(d.qs.length+1)*112<=140737488355328):
  Calls prog 5 #[(wb,0),.agg cs] w λe w'=>e=.returned (.bool true)/\(Us base wb w (Held wb d) d w'\/Tf base wb d ⟨A,[],[],zs⟩ w w'):=by
 have G:=cx w (.cells cs 48) none
 have i:∀j v,cs[j]?=some v->((w.alloc (.cells cs 48)).alloc (.cells cs 48)).cell? ⟨(w.alloc (.cells cs 48)).heap.size,j,none⟩=some v:=λj v l=>by rw[World.cell?_alloc_at (hn:=rfl)];exact l
 have c:∀j v,(w.alloc (.cells cs 48)).cell? ⟨w.heap.size,j,none⟩=some v->cs[j]?=some v:=λj v l=>by rw[World.cell?_alloc_at (hn:=rfl)]at l;exact l
 have q:Hid (Calls prog 7 #[(wb,0),.agg cs] (w.alloc (.cells cs 48)) λe w'=>e=.returned (.bool true)/\(Us base wb w (Held wb d) d w'\/Tf base wb d ⟨A,[],[],zs⟩ w w')):=
  (Rp d f A C zs cs _ ⟨i _ _ (c _ _ h.1),i _ _ (c _ _ h.2.1),i _ _ (c _ _ h.2.2.1),i _ _ (c _ _ h.2.2.2)⟩ m.o u (s.grown G) n).mono λe w' ⟨t,x⟩=>⟨t,by
   rcases x with a|⟨v,p,a,r⟩
   ·exact .inl (Us.trans (iZ.lM G _) a (λb e=>.inl e))
   ·exact .inr ⟨v,p,Us.trans (iZ.lM G _) a (λb e=>.inl e),r⟩⟩
 have z:=h.1
 have g:(w.alloc (.cells cs 48)).heap[w.heap.size]?=some (.cells cs 48 (0,0)):=heap_alloc_new w _
 have y:Hid ((prog.info? 48).map (·.size)=some cs.size):=by show _=_;rw[Tryz.Ji,k]
 obtain rfl:=m.o
 clear s G h m i c k
 go_enter func5,ntmps5
 go_wp2_with (refine wpList_load_row rfl 48 _ rfl w.heap.size rfl 48 _ (0,0) _ g underlying48 rfl y.o ?_)
 refine q.o.mono ?_
 rintro e w' ⟨rfl,R⟩
 clear q g
 go_wp2
 go_ret
 exact⟨rfl,R⟩
theorem Rt(d)(k:Nat)(p)(cs)(w)(g:cs[0]?=some (ι 12))(f:d.qs[k]?=some p)(c:kJ base wb d w):
  Calls prog 10 #[(wb,0),.agg cs,(p.pb,0)] w λe w'=>xU base wb 16 d w e w' (λqs=>qs=d.qs):=by
 have b:=cx w (.cells cs 48) none
 have a:=c.grown b
 have s:(w.alloc (.cells cs 48)).cell? (w,0)=some (ι 12):=by rw[World.cell?_alloc_at (hn:=rfl)];exact g
 have r:(w.alloc (.cells cs 48)).cell? (p.pb,0)=some (.pointer (some (p.xb,0))):=dB.cell (a.part f 0) 0
 have j:=hid (EM p.xb p.dp p.M _ (a.part f 1).1)
 have i:=hid c
 have l:=hid b
 clear c a b g
 go_enter func10,ntmps10
 go_wp2_with fail
 refine j.o.mono ?_
 rintro e u ⟨q,v,rfl,h⟩
 have n:(0:Int)<=(q:Int):=agE
 have m:(q:Int)<=4:=agE
 go_wp2
 go_ret
 exact⟨rfl,d,(Us.start i.o).grown (aa (aa l.o h) (cx _ _ none)),rfl,rfl,λt=>by omega⟩
theorem VN(d)(p:QD)(k:List QD->Prop)(cs)(w)(j:cs[0]?=some (ι 10))(c:cs.size=41)(h:∀W,w.grownBy W none->Calls prog 40 #[(wb,0),.agg cs,(p.pb,0)] W λe w'=>xU base wb 16 d W e w' k):
  Calls prog 10 #[(wb,0),.agg cs,(p.pb,0)] w λe w'=>xU base wb 16 d w e w' k:=by
 have g:=cx w (.cells cs 48) none
 have t:(w.alloc (.cells cs 48)).cell? (w,0)=some (ι 10):=by rw[World.cell?_alloc_at (hn:=rfl)];exact j
 have a:(w.alloc (.cells cs 48)).heap[w.heap.size]?=some (.cells cs 48 (0,0)):=heap_alloc_new w _
 have s:Hid ((prog.info? 48).map (·.size)=some cs.size):=by show _=_;rw[Tryz.Ji,c]
 have i:=hid (h _ g)
 have n:=hid g
 clear h j c g
 go_enter func10,ntmps10
 go_wp2_with (refine wpList_load_row rfl 48 _ rfl w.heap.size rfl 48 _ (0,0) _ a underlying48 rfl s.o ?_)
 refine i.o.mono ?_
 rintro e w' f
 obtain rfl:=f.1
 clear i a
 go_wp2
 go_ret
 obtain⟨_,r,S,l,m,q⟩:=f
 exact⟨rfl,r,Us.trans (iZ.lM n.o _) S (λb e=>.inl e),l,m,q⟩
theorem I5{α:Type}{l:List α}{k:Nat}{a:α}(h:l[k]?=some a):l.set k a=l:=by
 refine List.ext_getElem? λi=>?_;grind
theorem JX.new{w0 w:World}{a:List LJ}{c:Nat}{f:Value}(h:JX w0 w a c f):∀b,(b=c\/∃x∈a,x.g=some b)->w0.heap.size<=b/\b<w.heap.size:=by
 rintro b (e|⟨x,d,e⟩)
 ·rw[e];exact⟨h.jl,h.lv.lt⟩
 ·exact(h.rR x d).1.ZZ b e
theorem Held.set{d:BW}{k:Nat}{p p':QD}{P:Nat->Prop}(a:d.qs[k]?=some p)(c:∀j b,p'.F j b->(∃i,p.F i b)\/P b){b:Nat}(h:Held wb {d with qs:=d.qs.set k p'} b):Held wb d b\/P b:=by
 have hkl:k<d.qs.length:=agM;obtain⟨i,hb⟩:=h;match i,hb with
 |(0,s),hb=>exact .inl ⟨(0,s),hb⟩
 |(1,s),hb=>exact .inl ⟨(1,s),hb⟩
 |(2,s),hb=>exact .inl ⟨(2,s),hb⟩
 |(3,s),hb=>exact .inl ⟨(3,s),hb⟩
 |(j+4,s),⟨q,hq,hb⟩=>
  have hq:(d.qs.set k p')[s]?=some q:=hq;by_cases e:s=k
  ·subst e;rw[ee hkl]at hq;cases hq;rcases c j b hb with⟨i,q⟩|q
   ·exact .inl ⟨(i+4,s),p,a,q⟩
   ·exact .inr q
  ·exact af6
theorem aal{d:BW}{k:Nat}{p:QD}{w v r t:World}{i:Option Pl}{l:DM}{ex:Nat->Prop}(s:kJ base wb d w)(o:d.qs[k]?=some p)(y:w.grownBy v none)(cf:CF v r (λb _=>b=p.xb))(A:eX r p.xb i l)(m:∀c,i=some c->∃q,p.dp=some q/\q.g=c.g)(f:iZ r t ex)(C:∀b,ex b->w.heap.size<=b):
  Us base wb w (Held wb d) {d with qs:=d.qs.set k {p with dp:=i,M:=l}} t/\∀b,Held wb {d with qs:=d.qs.set k {p with dp:=i,M:=l}} b->b<w.heap.size:=by
 have B:=s.part o
 have hF:∀b,QD.F {p with dp:=i,M:=l} 1 b->p.F 1 b:=by
  rintro b (e|e)
  ·exact .inl e
  ·cases h:i with
   |none=>rw[h]at e;cases e
   |some c=>
    obtain⟨q,n,u⟩:=m c h;rw[h]at e;have e:c.g=b:=aho;exact .inr (by rw[n];show some q.g=some b;rw[u,e])
 have z:∀b,Held wb {d with qs:=d.qs.set k {p with dp:=i,M:=l}} b->b<w.heap.size:=λb a=>by
  rcases Held.set (P:=λ_=>False) o (λj b a=>.inl (by
   by_cases e:j=1
   ·grind
   ·match j,e,a with
    |0,_,a=>exact⟨0,a⟩
    |2,_,a=>exact⟨2,a⟩
    |3,_,a=>exact⟨3,a⟩)) a with e|e
  ·exact(s.low e).2
  ·exact e.elim
 refine⟨(((Us.start s).grown y).put (p':={p with dp:=i,M:=l}) o rfl (λj=>j=1) ⟨cf.os,cf.tape,cf.output,cf.size,λb a e=>cf.block b a (λ_ q=>e ⟨1,rfl,.inl q⟩)⟩ ?_ ?_ ?_ ?_).far f agM,z⟩
 ·rintro j rfl;refine⟨A,λc e=>?_⟩;obtain⟨q,n,u⟩:=m c e;show c.g≠p.xb;have:=(B 1).2 q n;omega
 ·grind
 ·omega
 ·intro j x;match j,x with
  |0,_=>exact⟨λq=>q,λ_ q=>q⟩
  |2,_=>exact⟨λq=>q,λ_ q=>q⟩
  |3,_=>exact⟨λq=>q,λ_ q=>q⟩
  |_+4,_=>exact⟨λq=>q,λ_ q=>q⟩
theorem Us.doc{d:BW}{k:Nat}{p:QD}{w w':World}{rg':RG}{N':DM}(h:Us base wb w0 U d w)(g:d.qs[k]?=some p)(a:RD w' 0 p.yb N' rg')(f:∀b,rg'.foot p.yb b->p.rg.foot p.yb b\/w.heap.size<=b)(fr:iZ w w' (p.rg.foot p.yb)):Us base wb w0 U {d with qs:=d.qs.set k {p with rg:=rg',N:=N'}} w':=by
 refine h.put (p':={p with rg:=rg',N:=N'}) g rfl (λj=>j=2) (fr.mono (λb _ e=>⟨2,rfl,e⟩)) ?_ ?_ ?_ ?_
 ·rintro j rfl;exact a
 ·rintro j b rfl i;exact(f b i).imp (λe=>⟨2,rfl,e⟩) id
 ·omega
 ·intro j c;match j,c with
  |0,_=>exact⟨λq=>q,λ_ q=>q⟩
  |1,_=>exact⟨λq=>q,λ_ q=>q⟩
  |3,_=>exact⟨λq=>q,λ_ q=>q⟩
  |_+4,_=>exact⟨λq=>q,λ_ q=>q⟩
theorem Us.hears{d:BW}{k:Nat}{p:QD}{w w':World}(h:Us base wb w0 U d w)(r:d.qs[k]?=some p)(B:sJ w w' 0 p.pb 2 p.sv p.kl):∃n a,Us base wb w0 U {d with qs:=d.qs.set k {p with sv:=n,kl:=a}} w'/\a.length<=p.kl.length+1:=by
 obtain⟨n,a,hS,z,y,u,D,f,C⟩:=B;have v:=h.sep.part r;have c:∀b,p.F 0 b->p.F 3 b->False:=λb l g=>by
  have:=h.sep.one (0+4,k) (3+4,k) b ⟨p,r,l⟩ ⟨p,r,g⟩;simp at this
 have o:∀b,QD.F {p with sv:=n,kl:=a} 3 b->p.F 3 b\/w.heap.size<=b:=by
  rintro b (e|⟨x,s,e⟩)
  ·exact(y b e).imp .inl id
  ·rcases u x s with q|q
   ·exact .inl (.inr ⟨x,q,e⟩)
   ·exact .inr (q b e).1
 have A:=QD.lt (v 0) rfl;refine⟨n,a,h.put (p':={p with sv:=n,kl:=a}) r rfl (λj=>j=0\/j=3) (f.mono (λb _ e=>?_)) ?_ ?_ ?_ ?_,z⟩
 ·rcases e with e|e
  ·exact⟨0,.inl rfl,e⟩
  ·exact⟨3,.inr rfl,.inl e⟩
 ·rintro j (rfl|rfl)
  ·exact C _ (v 0)
  ·refine⟨hS.row,λx s=>⟨hS.own x s,λb t=>?_⟩⟩;rcases u x s with q|q
   ·exact D x q b t
   ·exact(q b t).2
 ·rintro j b (rfl|rfl) t
  ·exact .inl ⟨0,.inl rfl,t⟩
  grind
 ·rintro i j b (rfl|rfl) (rfl|rfl) l g
  ·rfl
  ·rcases o b g with e|e
   ·exact(c b l e).elim
   ·have l:b=p.pb:=l;omega
  ·rcases o b l with e|e
   ·exact(c b g e).elim
   ·have g:b=p.pb:=g;omega
  ·rfl
 ·intro j m;match j,m with
  |1,_=>exact⟨λq=>q,λ_ q=>q⟩
  |2,_=>exact⟨λq=>q,λ_ q=>q⟩
  |0,m=>exact absurd (.inl rfl) m
  |3,m=>exact absurd (.inr rfl) m
  |_+4,_=>exact⟨λq=>q,λ_ q=>q⟩
theorem Ov(M)(a:List uQ)(k)(h:k<a.length):iq M (a.take (k+1))=(Kl (iq M (a.take k)) a[k]).2:=by
 rw[dy h,EZ]
theorem iK.adv{base c n:Nat}{M:DM}{g:RG}{a:mW}{w w':World}(h:iK base c M g a (w.drewN n) w'):iK base c M g a w w':=by
 obtain⟨e,d,b,f⟩:=h;exact⟨e,d,⟨b.os,b.tape,b.output,b.size,b.block⟩,f⟩
theorem iK.Tj{base c:Nat}{M:DM}{g:RG}{a:mW}{w w':World}{b o:Nat}{v:Value}(h:iK base c M g a w w')(d:w.cell? (b,o)=some v)(e:¬ g.foot c b):w'.cell? (b,o)=some v:=by
 obtain⟨j,i,f,k⟩:=h;rw[World.cell?_of_block (w:=w) (w':=w') (a:=⟨b,o,none⟩) (f.block b (World.block_lt_of_cell? w _ d) e)];exact d
theorem CQ{M:DM}{j:uQ}(h:j.1.kind≠0):Kl M j=(([],(fB M.aG j.1).2),{M with aG:=(fB M.aG j.1).1}):=by unfold Kl;rw[if_neg h]
theorem CU{M:DM}{j:uQ}(h:j.1.kind=0):Kl M j=(((dG M j.2.1 j.2.2).1,0),(dG M j.2.1 j.2.2).2):=by unfold Kl;rw[if_pos h]
def L3(base wb:Nat)(xe:World)(d2:BW)(k pb xb:Nat)(dp:Option Pl)(yb:Nat)(M' M:DM)(ms:List uQ)(n j:Nat)(w:World):Prop:=
 ∃rg sv kl,Us base wb xe (Held wb d2) {d2 with qs:=d2.qs.set k ⟨pb,xb,dp,yb,rg,M',iq M (ms.take j),sv,kl⟩} w/\kl.length<=n+j
theorem L3.adm{l W m:World}{b:BW}{k f g:Nat}{dp:Option Pl}{c:Nat}{d M:DM}{a:List uQ}{n j:Nat}{rg:RG}{sv:Value}{kl:List KN}(h:Us base wb l (Held wb b) {b with qs:=b.qs.set k ⟨f,g,dp,c,rg,d,iq M (a.take j),sv,kl⟩} W)(hkl:k<b.qs.length)(t:kl.length<=n+j)(o:j<a.length)(s:a[j].1.kind≠0)(A:iK 0 c (iq M (a.take j)) rg a[j].1 W m):L3 base wb l b k f g dp c d M a n (j+1) m:=by
 obtain⟨i,p,q,r⟩:=A;have u:=h.doc (ee hkl) (rg':=i) (N':={iq M (a.take j)with aG:=(fB (iq M (a.take j)).aG a[j].1).1}) p r q;refine⟨i,sv,kl,?_,by omega⟩;rw[Ov M a j o,CQ s];have e:(b.qs.set k ⟨f,g,dp,c,rg,d,iq M (a.take j),sv,kl⟩).set k ⟨f,g,dp,c,i,d,{iq M (a.take j)with aG:=(fB (iq M (a.take j)).aG a[j].1).1},sv,kl⟩=b.qs.set k ⟨f,g,dp,c,i,d,{iq M (a.take j)with aG:=(fB (iq M (a.take j)).aG a[j].1).1},sv,kl⟩:=List.set_set ..;rw[<-e];exact u
theorem L3.said{l W m:World}{a:BW}{k f i:Nat}{dp:Option Pl}{c:Nat}{d N:DM}{rg:RG}{sv o:Value}{kl:List KN}{R:List UInt8×DM}(h:Us base wb l (Held wb a) {a with qs:=a.qs.set k ⟨f,i,dp,c,rg,d,N,sv,kl⟩} W)(hkl:k<a.qs.length)(A:xz 0 c rg R W m o):∃rg',Us base wb l (Held wb a) {a with qs:=a.qs.set k ⟨f,i,dp,c,rg',d,R.2,sv,kl⟩} m:=by
 obtain⟨_,⟨j,n,p⟩,g⟩:=A;have u:=h.doc (ee hkl) (rg':=j) (N':=R.2) n p ((iZ.bF g).mono (λb _ e=>.inl (by injection e with e;exact e.symm)));refine⟨j,?_⟩;have e:(a.qs.set k ⟨f,i,dp,c,rg,d,N,sv,kl⟩).set k ⟨f,i,dp,c,j,d,R.2,sv,kl⟩=a.qs.set k ⟨f,i,dp,c,j,d,R.2,sv,kl⟩:=List.set_set ..;rw[<-e];exact u
theorem L3.heard{l W w':World}{b:BW}{k c f:Nat}{dp:Option Pl}{g:Nat}{d N M:DM}{rg:RG}{sv:Value}{kl:List KN}{m:List uQ}{n j:Nat}(h:Us base wb l (Held wb b) {b with qs:=b.qs.set k ⟨c,f,dp,g,rg,d,N,sv,kl⟩} W)(hkl:k<b.qs.length)(r:kl.length<=n+j)(q:iq M (m.take (j+1))=N)(o:sJ W w' 0 c 2 sv kl):L3 base wb l b k c f dp g d M m n (j+1) w':=by
 obtain⟨i,a,u,p⟩:=h.hears (ee hkl) o;refine⟨rg,i,a,?_,by grind⟩;rw[q];have e:(b.qs.set k ⟨c,f,dp,g,rg,d,N,sv,kl⟩).set k ⟨c,f,dp,g,rg,d,N,i,a⟩=b.qs.set k ⟨c,f,dp,g,rg,d,N,i,a⟩:=List.set_set ..;rw[<-e];exact u
theorem Fu(M)(now)(R):(dz M now R).2.aJ=M.aJ:=by
 obtain⟨ds,h,_⟩:=NP M now R;rw[h]
theorem aam{aA now:Int}{l:List PF}(h:l.length<=8):(iQ aA now l).length<=8:=cE (List.length_filter_le _ _) h
theorem RF{M:DM}(h:M.aJ.length<=8)(now)(b):(dG M now b).2.aJ.length<=8:=by
 have a:∀p,(bJ M.aA now M.aJ p).length<=8:=λp=>by
  have:=aam (aA:=M.aA) (now:=now) h;unfold bJ;split
  ·rename_i hc;rw[cD,eC];unfold bL at hc;split at hc
   ·cases hc
   ·split at hc
    ·cases hc
    ·omega
  ·exact this
 unfold dG;split
 ·rw[Fu];exact h
 ·split
  ·unfold tO;split
   ·exact h
   ·dsimp only;split
    ·exact a _
    ·rw[Fu];exact a _
  ·exact h
theorem VU{M:DM}(h:M.aJ.length<=8):∀a,(iq M a).aJ.length<=8:=by
 intro a;induction a generalizing M with
 |nil=>exact h
 |cons m a b=>
  refine b ?_;grind [CQ,CU,RF]
theorem wG:∀(ds)(i)(a:i<ds.length),(fC ds)[i*2]?=some (ds[i]).1/\(fC ds)[i*2+1]?=some (ι (ds[i]).2):=by
 intro ds;induction ds with
 |nil=>intro i a;simp at a
 |cons x ds b=>
  intro i a;cases i with
  |zero=>exact⟨rfl,rfl⟩
  |succ i=>
   grind [fC]
theorem xA(n)(c)(cap)(m)(w)(a:lQ w (ι m) (c,n,cap)):
  Calls prog 14 #[.slice c n cap,ι m] w λe w'=>e=.returned (.bool true)/\w=w':=by
 have l:n<=9223372036854775807:=a.1
 have d:=hid a
 clear a
 go_enter func14,ntmps14
 go_wp2
 go_loop [5] (λi=>∃k:Nat,k<=n/\i = ι k) (λi=>n-(intOf i).toNat)
 case atStart=>exact⟨0,cS _,rfl⟩
 case round=>
  obtain⟨k,p,rfl⟩:=hrel;by_cases f:k<n
  ·have h:(k:Int)<(n:Int):=agE;have j:(0:Int)<=(k:Int):=agE;obtain⟨b,off,e,q,g⟩:=d.o.cell f;have e:c=some ⟨b,off,none⟩:=e;subst e;have g:w.cell? (b,off+k*2+1)=some (ι m):=g;clear d;exact aa1
  ·have h:¬ (k:Int)<(n:Int):=agE;clear d;exact aaE
def qL(n:Nat)(m:Int):List Value:=(List.replicate n [.slice none 0 0,ι m]).flatten
theorem Fv(n)(m):(qL n m).length=n*2:=by
 induction n with
 |zero=>rfl
 |succ n a=>unfold qL at a⊢;grind
theorem Ow(n k)(m):qL n m++qL k m=qL (n+k) m:=by
 unfold qL;rw[<-List.flatten_append,List.replicate_append_replicate]
theorem aan(n k)(m)(b:k<n):(qL n m)[k*2]?=some (.slice none 0 0)/\(qL n m)[k*2+1]?=some (ι m):=by
 induction n generalizing k with
 |zero=>omega
 |succ n a=>
  unfold qL at a⊢;exact afP
theorem Ox(n)(m):∀u∈qL n m,u.oneCell'=true:=by
 intro u b;obtain⟨l,a,h⟩:=List.mem_flatten.1 b;rw[List.eq_of_mem_replicate a]at h;simp at h;rcases h with rfl|rfl<;>rfl
theorem Tryz.adw:(prog.info? 110).map (λi=>(i.zero,i.size,i.bytes))=some (some (.agg #[.slice none 0 0,ι 0]),2,32):=by kernel_rfl
theorem Tryz.aao:(prog.info? 68).map (λi=>(i.zero,i.size,i.bytes))=some (some (.agg #[.slice none 0 0,.slice none 0 0,.slice none 0 0,.slice none 0 0,ι 0]),5,104):=by kernel_rfl
theorem wH{w:World}{base:Nat}{e:TypeId}{v:Value}{n:Nat}{m:Int}(h:w.ownsRow base e 2 v n (qL n m))(hn:n<=9223372036854775807):
  ∃p c,v=.slice p n c/\lQ w (ι m) (p,n,c)/\∀b,Sl.on (p,n,c) b->v.ownBlock=some b/\base<=b:=by
 obtain⟨ao,cap,a⟩:=bA h
 subst a
 refine⟨ao,cap,rfl,⟨hn,nA h⟩,?_⟩
 exact ae4
theorem aap(W:World)(m)(e):qj (W.alloc (.cells #[.slice none 0 0,ι m] e)) (some ⟨W.heap.size,0,none⟩) (qL 1 m):=oW W #[.slice none 0 0,ι m] e
theorem akF(W:World)(m)(e):qj (W.alloc (.cells #[.slice none 0 0,ι m,.slice none 0 0,ι m] e)) (some ⟨W.heap.size,0,none⟩) (qL 2 m):=oW W #[.slice none 0 0,ι m,.slice none 0 0,ι m] e
theorem uT{P:Program}(w){f:Array Oper}{d:List Oper}{o:Oper}{a:Act}{Q:Exit->Act->World->Prop}(q:o.guard=none)(s x)(t)(p:o.op=Op.call {callee:=Callee.builtin Builtin.append,args:=#[s,x],argTypes:=#[t,t]})(e)(i)(z)(G:P.underlying t=some (.slice e))(r:P.info? e=some i)(I:i.zero=some z)(F:i.size=2)(y:i.bytes=32)(B:z.cells.size=2)(g n:Nat)(m)(D:a.eval s=.slice (some (g,0)) n n)(A:qj w (some ⟨g,0,none⟩) (qL n m))(b k c:Nat)(H:a.eval x=.slice (some (b,0)) k c)(K:0<k)(hy:qj w (some ⟨b,0,none⟩) (qL k m))(J:n+k<=1000000)(C:∀l w',w'.ownsRow w.heap.size e 2 l (n+k) (qL (n+k) m)->w.grownBy w' none->wpList P f Q d (a.put o.dst l) w'):
  wpList P f Q (o::d) a w:=by
 have v:∀(ad)(zs),qj w (some ad) zs->∀j u,zs[j]?=some u->w.cell? (ad.add j)=some u:=by
  exact agD
 refine wpList_append_grows w q s x t p e i z 2 32 G r I F y B agF (some ⟨g,0,none⟩) n n (qL n m) D (λh=>by cases h) (Fv n m) agM ⟨b,0,none⟩ k c (qL k m) H (Fv k m) (v _ _ hy) (Ox k m) agE ag1 agE (λl w' E q=>C l w' (by rw[<-Ow];exact E) q)
set_option maxHeartbeats 4000000
structure Fw(base wb:Nat)(w0:World)(U:Nat->Prop)(d:BW)(ps:Nat->Option Pl)(k:Nat)(d1:BW)(w:World):Prop where
 us:Us base wb w0 (λb=>U b\/∃i,i<k/\Pl.blk (ps i)=some b) d1 w
 qv:d1.qv=d.qv
 qs:d1.qs=d.qs
 l0:(d1.le 0).length=(d.le 0).length+k
 l3:∀t,t≠0->d1.le t=d.le t
theorem Fw.next{d a:BW}{ps:Nat->Option Pl}{k:Nat}{w w':World}{x:iw}{u:Value}(h:Fw base wb w0 U d ps k a w)(s:Us base wb w0 (λb=>(U b\/∃i,i<k/\Pl.blk (ps i)=some b)\/Pl.blk (ps k)=some b) (a.add 0 u x) w'):Fw base wb w0 U d ps (k+1) (a.add 0 u x) w':=
 ⟨agM,h.qv,h.qs,by grind [Fw.l0,qI],(by grind [Fw.l3,BB])⟩
def Bb(w:World)(ob k:Nat)(m:Int):Prop:=∀j,j<k->w.cell? (ob,j*2)=some (.slice none 0 0)/\w.cell? (ob,j*2+1)=some (ι m)
theorem Bb.next{w:World}{a k n:Nat}{m:Int}(h:Bb w a k m)(L:Live w a n)(c:k*2+1<n):Bb ((w.setCell (a,k*2) (.slice none 0 0)).setCell (a,k*2+1) (ι m)) a (k+1) m:=by
 have b:∀i j,i≠j->(⟨a,i,none⟩:Addr)≠⟨a,j,none⟩:=agM;obtain⟨l,d⟩:=cA.1 (L.some (k*2) agE);obtain⟨g,o⟩:=cA.1 (L.some (k*2+1) c);intro j f;by_cases e:j=k
 ·exact aeF
 ·rw[World.cell?_setCell_other _ _ _ _ (b _ _ agE),World.cell?_setCell_other _ _ _ _ (b _ _ agE),World.cell?_setCell_other _ _ _ _ (b _ _ agE),World.cell?_setCell_other _ _ _ _ (b _ _ agE)];exact h j agE
theorem Bb.cat{w:World}{a n:Nat}{m:Int}(h:Bb w a n m):qj w (some ⟨a,0,none⟩) (qL n m):=by
 intro j u c;have f:=(cM.1 c).1;rw[Fv]at f;refine⟨a,0,rfl,?_⟩;have b:=h (j / 2) agE;have d:=aan n (j / 2) m agE;rw[cN,<-c];by_cases e:j % 2=0
 ·rw[show j=j / 2*2 by omega,b.1,d.1]
 ·rw[show j=j / 2*2+1 by omega,b.2,d.2]
theorem akG{j q:Nat}(h:j<=16)(k:q<64):j+q+1<=maxLen/\(j+q+1)*32<=140737488355328:=⟨by unfold maxLen;omega,by omega⟩
theorem VV(d)(f n:Nat)(ds)(ps:Nat->Option Pl)(w)(h:Us base wb w0 U d w)(hn:Hid (ds.length=n))(aC:n<=16)(FK:w0.rangeAt f 0 (fC ds))(al:Live w0 f (n*2))(NM:base<=f)(aB:¬ U f)(ak:∀i(hi:i<ds.length),∃bs,Out w0 ds[i].1 (ps i) bs/\bs.length<=900)(af:∀i,i<n->∀b,Pl.blk (ps i)=some b->base<=b/\b<w0.heap.size/\¬ U b/\b≠f)(an:∀i j q r,i<j->j<n->ps i=some q->ps j=some r->q.g<r.g)(ax:((d.le 0).length+16)*112<=140737488355328)(aD:((d.le 3).length+1)*112<=140737488355328):
  Calls prog 76 #[(wb,2),.slice (some (f,0)) n n] w λe w'=>e=.returned (.tuple #[])/\∃d',Us base wb w0 (λb=>(U b\/∃i,i<n/\Pl.blk (ps i)=some b)\/b=f) d' w'/\d'.qv=d.qv/\d'.qs=d.qs/\∀t,(d'.le t).length<=(d.le t).length+16:=by
 obtain⟨i0,P,V,X,T⟩:=info_parts Tryz.adw
 obtain⟨ie,aX,a7,aY,aN⟩:=info_parts Tryz.aao
 have dY:Hid (Fw base wb w0 U d ps 0 d w):=⟨h.mono (λb e=>.inl e),rfl,rfl,rfl,λ_ _=>rfl⟩
 have ar:Hid (∀k,k<=n->¬ (U f\/∃i,i<k/\Pl.blk (ps i)=some f)):=λk hk e=>by
  rcases e with e|⟨i,hi,e⟩
  ·exact aB e
  ·exact(af i agE f e).2.2.2 rfl
 have aT:=hid ak
 have au:=hid af
 have aH:=hid an
 have G:=hid (And.intro FK (And.intro al NM))
 have HL:=hid (And.intro ax aD)
 clear h ak af an FK al NM aB ax aD
 go_enter func76,ntmps76
 go_wp2
 go_loopw [4] (λi wr=>∃k:Nat,k<=n/\i = ι k/\∃F,Fw base wb w0 U d ps k F wr) (λi _=>n-(intOf i).toNat)
 case atStart=>exact⟨0,cS _,rfl,d,dY.o⟩
 case round=>
  obtain⟨k,hk,rfl,F,hL⟩:=hrel;have A:=hid hL;clear hL dY;have O:=A.o.us.free G.o.2.1.lt (ar.o k hk);by_cases hlt:k<n
  ·have mU:(k:Int)<(n:Int):=agE;have bj:(0:Int)<=(k:Int):=agE;have aF:k<ds.length:=ag4;obtain⟨bs,hO,aL⟩:=aT.o k aF;have hc:wr.cell? (f,k*2)=some ds[k].1:=by
    rw[World.cell?_of_block (w:=w0) (w':=wr) (a:=⟨f,k*2,none⟩) O.2];have:=G.o.1 (k*2) _ (wG ds k aF).1;rwa [cN]at this
   obtain⟨v,hv⟩:=aq (ds[k].1);rw[hv]at hO hc;obtain⟨a,c,hs,_⟩:=hO.shape;subst hs
   have CB:=hid (adl F (.slice a bs.length c) (ps k) bs bs.length wr A.o.us (hO.xI A.o.us.xI (λq hq e=>by
    rcases e with e|⟨i,hi,e⟩
    ·exact(au.o k hlt q.g (by rw[hq];rfl)).2.2.1 e
    ·cases hp:ps i with
     |none=>rw[hp]at e;cases e
     |some r=>rw[hp]at e;have e:r.g=q.g:=aho;have:=aH.o i k r q hi hlt hp hq;omega)) (hid rfl) agE (λq hq=>by
      have e:Pl.blk (ps k)=some q.g:=(by rw[hq];rfl);have h1:=au.o k hlt q.g e;refine⟨h1.1,h1.2.1,λe=>?_⟩;rcases e with e|⟨i,hi,e⟩
      ·exact h1.2.2.1 e
      ·cases hp:ps i with
       |none=>rw[hp]at e;cases e
       |some r=>rw[hp]at e;have e:r.g=q.g:=aho;have:=aH.o i k r q hi hlt hp hq;omega) (by have h1:=A.o.l0;have h2:=HL.o.1;omega))
   clear O hO hv aL;go_wp2_with (first|(go_at_call 21;refine CB.o.mono ?_;rintro e w2 ⟨rfl,x,u,S2⟩))
   go_roundw
   case rel=>exact⟨k+1,by omega,by go_num,_,A.o.next S2⟩
   case measure=>simp[intOf];omega
  ·have aO:k=n:=agE;subst aO;have mU:¬ (k:Int)<(k:Int):=agE;obtain⟨W,hW⟩:=aw wr;have z:dB W wb F.cells:=(by rw[hW];exact A.o.us.sep.blk);have s:W.ownsRow base 68 5 (F.lv 3) (F.le 3).length (ig (F.le 3)):=(by rw[hW];exact A.o.us.sep.here (2,3));have aK:=A.o.us.sep.vne 3;have bp:base<=W.heap.size:=(by rw[hW];exact A.o.us.sep.room);obtain⟨ab,cb,E⟩:=bA s;obtain⟨L,Q⟩:=aq ((F.le 3).length);have bf:(L+1)*112<=140737488355328:=(by have h1:=A.o.l3 3 agE;have h2:=HL.o.2;rw[h1]at Q;omega);rw[E,Q]at s;have K:=hid (And.intro E Q);rw[Q]at E;have KJ:W.cell? (wb,5)=some (.slice ab L cb):=(by rw[<-E];exact z.cell 5);have az:Live W f (k*2):=(by rw[hW];exact Ba G.o.2.1 O.2);have ah:=hid O;rw[<-hW]at A ah⊢;obtain⟨m,hm⟩:∃m:Int,m=-1000-(L:Int):=⟨_,rfl⟩
   have HM:=hid hm.symm;clear hW O hm;go_wp2;rw[HM.o];have bm:=az.lt;have X0:(W.alloc (.cells #[.slice none 0 0,ι m] 110)).rangeAt W.heap.size 0 [.slice none 0 0,ι m]:=aS W #[.slice none 0 0,ι m] 110;have aP:=hid X0;have GX:=hid (cx W (.cells #[.slice none 0 0,ι m] 110) (some f));have aQ:Hid (Live (W.alloc (.cells #[.slice none 0 0,ι m] 110)) f (k*2)):=az.grown (cx W _ none);clear X0;go_loopw [7] (λi wr=>∃j:Nat,j<=k/\i = ι j/\W.grownBy wr (some f)/\wr.rangeAt W.heap.size 0 [.slice none 0 0,ι m]/\Live wr f (k*2)/\Bb wr f j m) (λi _=>k-(intOf i).toNat)
   case atStart=>exact⟨0,cS _,rfl,GX.o,aP.o,aQ.o,λj hj=>by omega⟩
   case round=>
    obtain⟨j,hj,rfl,I,Y,C,N⟩:=hrel;have x0:wr.cell? (W,0)=some (.slice none 0 0):=Y 0 _ rfl;have x1:wr.cell? (W,1)=some (ι m):=Y 1 _ rfl;have H2:=hid (And.intro I (And.intro Y (And.intro C N)));clear I Y N;by_cases aI:j<k
    ·have Ls:(j:Int)<(k:Int):=agE;have ag:(0:Int)<=(j:Int):=agE;obtain⟨d0,q0⟩:=cA.1 (C.some (j*2) agE);obtain⟨e1,q1⟩:=cA.1 (C.some (j*2+1) agE);have f0:=C.frozen (j*2);have f1:=C.frozen (j*2+1);clear C z s KJ;go_wp2;go_roundw
     case rel=>
      have ay:∀i o,(⟨f,i,none⟩:Addr)≠⟨W.heap.size,o,none⟩:=λi o e=>by injection e with e;omega
      exact⟨j+1,by omega,by go_num,yX (yX H2.o.1),λi u hu=>(by rw[World.cell?_setCell_other _ _ _ _ (ay _ _),World.cell?_setCell_other _ _ _ _ (ay _ _)];exact H2.o.2.1 i u hu),I4 (I4 H2.o.2.2.1 _ _ _) _ _ _,H2.o.2.2.2.next H2.o.2.2.1 agE⟩
     case measure=>simp[intOf];omega
    ·have aI:j=k:=agE;subst aI;have yg:=H2.o.2.2.2.cat;have aG:j+1<=1000000:=agE;have aJ:j+2<=1000000:=agE;clear C z KJ;go_wp2_with (first|(at_builtin;refine uT _ rfl (.tmp 43) (.tmp 45) 66 rfl 110 i0 _ underlying66 P V X T rfl f j m rfl (yg.below (cx _ _ _)) wr.heap.size 1 1 rfl (Nat.succ_pos _) (aap wr m _) aG ?_;intro v1 w1 J aE;have K1:=aa (cx wr _ none) aE;have ji:=yg.below K1;have y0:=bN K1 x0;have y1:=bN K1 x1)|(at_builtin;refine uT _ rfl (.tmp 47) (.tmp 50) 66 rfl 110 i0 _ underlying66 P V X T rfl f j m rfl (ji.below (cx _ _ _)) w1.heap.size 2 2 rfl (Nat.succ_pos _) (akF w1 m _) aJ ?_;intro v2 w2 M I;have K2:=aa (cx w1 _ none) I;have ni:=ji.below K2))
     have kP:=J.kept K2 ahk;have a8:=aa K1 K2;have bc:=K1.size;have bk:=K2.size;have bo:=H2.o.1.size;have z0:=bN K2 y0;have z1:=bN K2 y1;clear J aE I yg ji K1 K2 x0 x1 y0 y1;obtain⟨wo,aZ⟩:∃wo,wo=wr:=⟨wr,rfl⟩
     subst aZ;go_loopw [10,11] (λo i w3=>∃q:Nat,q<=64/\i = ι q/\((q=0/\o=.slice (some ⟨f,0,none⟩) j j)\/(0<q/\w3.ownsRow w2.heap.size 110 2 o (j+q) (qL (j+q) m)))/\w2.grownBy w3 none) (λ_ i _=>64-(intOf i).toNat)
     case atStart=>exact⟨0,by omega,rfl,.inl ⟨rfl,rfl⟩,cC _ _⟩
     case round=>
      obtain⟨q,hq,rfl,ho,p⟩:=hrel;have bl:=p.size;by_cases B:q<64
      ·obtain⟨aU,Z4⟩:=akG aC B;have x0:=bN p z0;have x1:=bN p z1;rcases ho with⟨ag,bb⟩|⟨ag,l⟩
       ·subst ag bb;have mK:=ni.below p;go_wp2_with (at_builtin;refine uT _ rfl _ _ 66 rfl 110 i0 _ underlying66 P V X T rfl f j m rfl (mK.below (cx _ _ _)) wr.heap.size 1 1 rfl (Nat.succ_pos _) (aap wr m _) aG ?_;intro v4 w4 iU H)
        have R:w4.ownsRow w2.heap.size 110 2 v4 (j+1) (qL (j+1) m)/\w2.grownBy w4 none:=⟨dC iU ag2,aa (aM p _) H⟩
        clear iU H mK p x0 x1;exact acg
       ·have av:=aap wr m 110;go_wp2_with (at_builtin;refine fF _ rfl _ _ 66 rfl w2.heap.size 110 i0 _ 2 32 underlying66 P V X T rfl agF _ _ _ rfl (l.alloc _) (some ⟨wr.heap.size,0,none⟩) 1 1 (qL 1 m) rfl rfl av ahw (Ox 1 m) aU Z4 ag2 ?_;intro v4 w4 iU H)
        have R:w4.ownsRow w2.heap.size 110 2 v4 (j+(q+1)) (qL (j+(q+1)) m)/\w2.grownBy w4 none:=⟨by rw[<-gi,<-Ow (j+q) 1 m];exact iU,gu (aM p _) H (λi hi=>(l.lt i hi).1)⟩
        clear iU H p l av x0 x1;go_wp2;go_roundw
        case rel=>exact⟨q+1,by omega,by go_num,.inr ⟨by omega,R.1⟩,R.2⟩
        case measure=>simp[intOf];omega
      ·have Pk:=Nat.le_antisymm hq (Nat.le_of_not_lt B);subst Pk;have l:wr.ownsRow w2.heap.size 110 2 u10 (j+64) (qL (j+64) m):=by
        rcases ho with⟨h,_⟩|⟨_,h⟩
        ·exact absurd h agF
        ·exact h
       clear ho B hq;have K3:=aa a8 p;have wC:=kP.kept p ahk;have wD:=M.kept p (by cases h:v2.ownBlock<;>simp);have mK:=ni.below p;clear kP M ni p z0 z1;have Fr:=(iZ.bF H2.o.1).trans (iZ.lM K3 _);have FY:=A.o.us.sep.lt (0,0) wb ⟨rfl,rfl⟩;have zZ:∀g,some f=some g->g≠wb/\(Value.slice ab L cb).ownBlock≠some g:=by
        intro g hg;injection hg with hg;subst hg;exact⟨λe=>ah.o.1 ⟨(0,0),rfl,e⟩,λe=>ah.o.1 ⟨(2,3),by show(F.lv 3).ownBlock=_;rw[K.o.1,K.o.2];exact e⟩⟩
       have Xc:=A.o.us.sep.blk.kept (Fr.block wb FY (λe=>(zZ _ e).1 rfl));have Dk:=bZ s (λb hb=>Fr.block b (s.lt b hb).2 (λe=>(zZ _ e).2 hb));have bg:=K3.size;obtain⟨p1,c1,aR,aj,ad⟩:=wH wC agE;obtain⟨p2,c2,a1,N,ae⟩:=wH wD agE;obtain⟨p3,c3,a6,Xd,FZ⟩:=wH l agE;subst aR a1 a6;obtain⟨x,hx⟩:∃x:iw,x=⟨(some ⟨f,0,none⟩,j,j),(p1,j+1,c1),(p2,j+2,c2),(p3,j+64,c3),ι m⟩:=⟨_,rfl⟩
       have Dl:x.okD wr:=(by subst hx;exact⟨⟨by show j<=_;omega,mK⟩,aj,N,Xd⟩);have HX:Hid (x.cells=[.slice (some (f,0)) j j,.slice p1 (j+1) c1,.slice p2 (j+2) c2,.slice p3 (j+64) c3,ι m]):=(by subst hx;rfl);have ba:Hid (Ld x.mark):=(by subst hx;exact⟨_,rfl⟩);have aW:XOn x (some f) W.heap.size:=by
        intro b hb;rw[hx]at hb;rcases hb with h|h|h|h
        ·obtain⟨off,e1,e2⟩:=h;injection e1 with e1;injection e1 with e1;exact .inl (by rw[e1])
        ·have:=(ad b h).2;simp at this;exact .inr agE
        ·have:=(ae b h).2;simp at this;exact .inr agE
        ·have:=(FZ b h).2;exact .inr agE
       have sM:L+1<=maxLen:=ag1;have Pm:(L+1)*104<=140737488355328:=agE;have bh:base<=wr.heap.size:=agE;have ao:(Value.slice ab L cb).ownBlock≠some wb:=(by rw[<-E];exact aK);have aA:F.cells[5]?=some (.slice ab L cb):=(by rw[<-E];rfl);have bn:=(Xc.cell 5).trans aA;have Z5:=hid zZ;have HR:=hid (And.intro s Fr);clear hx aj N Xd ad ae FZ wC wD l mK zZ s Fr;go_wp2_with (at_builtin;refine dJ _ rfl _ _ 32 rfl base 68 ie _ 5 104 underlying32 aX a7 aY aN rfl agF _ _ _ rfl (Dk.alloc _) ⟨wr.heap.size,0,none⟩ 1 1 [.slice (some (f,0)) j j,.slice p1 (j+1) c1,.slice p2 (j+2) c2,.slice p3 (j+64) c3,ι m] rfl rfl (gJ wr _ _) ahb agE sM Pm ag2 ?_;intro OG w5 D ai z;obtain⟨WU,aV,Jh⟩:=bA D;subst Jh;have Z:=(Xc.alloc (.cells #[.slice (some (f,0)) j j,.slice p1 (j+1) c1,.slice p2 (j+2) c2,.slice p3 (j+64) c3,ι m] 68)).grown ai (λe=>ao e.symm);have KJ:=((Z.cell 5).trans aA);have bd:=Z.frozen 5)
       have R:qX iw.okD base wb 5 68 Ld (some f) (.slice ab L cb) F.cells (F.le 3) W (w5.setCell (wb,5) (.slice WU (L+1) aV)):=qX.push HR.o.1.lt ao FY HR.o.2 Dl (λ_ _ h k=>Ff (t:=3) h k) (λ_ h=>ZY (t:=3) Dl h) HX.o aW Z5.o (cx wr _ _) ai Z (by rw[K.o.2];exact D) z.o ba.o;clear z D ai Z;go_end0;have R2:=A.o.us.more (t:=3) (gB:=some f) agE (λg e=>by injection e with e;subst e;exact⟨G.o.2.2,G.o.2.1.lt,ar.o j (cy _)⟩) (by rw[K.o.1,K.o.2];exact R);obtain⟨y,u,S⟩:=R2;refine⟨rfl,_,S.mono (λb e=>e.imp id (λe=>by injection e with e;exact e.symm)),A.o.qv,A.o.qs,λt=>?_⟩;by_cases e3:t=3
       ·subst e3;simp only[qI,cD,eC,A.o.l3 3 agE];omega
       ·simp only[BB _ _ _ e3];by_cases e0:t=0
        ·subst e0;rw[A.o.l0];omega
        ·rw[A.o.l3 t e0];omega
theorem kJ.entry{d:BW}{w:World}(h:kJ base wb d w){t k L:Nat}{a:Option Addr}{c:Nat}(z:d.lv t=.slice a L c/\(d.le t).length=L)(C:k<L):
  ∃e,a=some ⟨e,0,none⟩/\∃m u s n o i l r v x q p f,w.cell? ⟨e,k*5,none⟩=some (.slice m u s)/\w.cell? ⟨e,k*5+1,none⟩=some (.slice n o i)/\w.cell? ⟨e,k*5+2,none⟩=some (.slice l r v)/\w.cell? ⟨e,k*5+3,none⟩=some (.slice x q p)/\w.cell? ⟨e,k*5+4,none⟩=some f/\isM t f/\okT t w ⟨(m,u,s),(n,o,i),(l,r,v),(x,q,p),f⟩:=by
 have y:w.ownsRow base (ZX t) 5 (d.lv t) (d.le t).length (ig (d.le t)):=h.here (2,t)
 rw[z.1,z.2]at y
 have hkl:k<(d.le t).length:=by rw[z.2];exact C
 have A:=h.here (3,t) (d.le t)[k] (ef hkl)
 obtain⟨e,rfl⟩:∃e,a=some ⟨e,0,none⟩:=by
  rcases y.2 with⟨h,F⟩|⟨g,cap,B,h,_⟩
  ·omega
  grind
 have b:∀j,j<5->w.cell? (e,k*5+j)=((d.le t)[k]).cells[j]?:=by
  intro j E;rw[y.cellAt (k*5+j) agE];grind [Lc]
 obtain⟨X,D⟩:=aq ((d.le t)[k])
 rw[D]at A b
 obtain⟨⟨m,u,s⟩,⟨n,o,i⟩,⟨l,r,v⟩,⟨x,q,p⟩,f⟩:=X
 exact⟨e,rfl,m,u,s,n,o,i,l,r,v,x,q,p,f,b 0 agE,b 1 agE,b 2 agE,b 3 agE,b 4 agE,A.2,A.1⟩
theorem abf(h:p:=by
 go_roundw
 case rel=>exact⟨k+1,by omega,by go_num,rfl,aa hgr (K _)⟩
 case measure=>simp[intOf];omega):p:=h
theorem agU(d)(w)(h:kJ base wb d w)(hl:∀t,(d.le t).length<=140737488355328):
  Calls Tryz.prog 6 #[(wb,2)] w λe w'=>e=.returned (.bool true)/\w.grownBy w' none:=by
 have O:∀t,∃a L c,(d.lv t=.slice a L c/\(d.le t).length=L)/\L<=140737488355328:=λt=>by
  obtain⟨a,c,e⟩:=bA (h.here (2,t));exact⟨a,_,c,⟨e,rfl⟩,hl t⟩
 obtain⟨a0,J,b0,v0,l0⟩:=O 0
 obtain⟨a1,H,b1,v1,l1⟩:=O 1
 obtain⟨a2,M,b2,v2,l2⟩:=O 2
 obtain⟨a3,L3,b3,v3,l3⟩:=O 3
 have P:Hid (w.cell? (wb,2)=some (.slice a0 J b0)/\w.cell? (wb,3)=some (.slice a1 H b1)/\w.cell? (wb,4)=some (.slice a2 M b2)/\w.cell? (wb,5)=some (.slice a3 L3 b3)):=by
  rw[<-v0.1,<-v1.1,<-v2.1,<-v3.1];exact⟨h.blk.cell 2,h.blk.cell 3,h.blk.cell 4,h.blk.cell 5⟩
 have Q:=hid (And.intro v0 (And.intro v1 (And.intro v2 v3)))
 have HS:=hid h
 have G:w.grownBy w none:=cC _ _
 clear v0 v1 v2 v3 O hl h
 go_enter Tryz.func6,Tryz.ntmps6
 go_wp2
 go_loopw [3,4,5,6,7,8,9] (λo i _ _ _ _ _ wr=>∃k:Nat,k<=J/\i = ι k/\o=.bool true/\w.grownBy wr none) (λ_ i _ _ _ _ _ _=>J-(intOf i).toNat)
 case atStart=>exact⟨0,cS _,rfl,rfl,G⟩
 case round=>
  obtain⟨k,I,rfl,rfl,hgr⟩:=hrel;have N:=bN hgr (P.o.1);by_cases b:k<J
  ·have s:(k:Int)<(J:Int):=agE;have x:(0:Int)<=(k:Int):=agE;obtain⟨V,D,g,F,C,j,y,u,f,B,E,p,A,z,U,Y,X,R,Z,q4,⟨m,v⟩,n,q,l,r⟩:=(HS.o.grown hgr).entry Q.o.1 b;subst D v;have K:=λo=>cx wr o none;go_wp2_with (first|(go_at_call_of 11 g;refine(wP F g C m _ n.1 (n.2.below (K _))).mono ?_;rintro e w' ⟨rfl,rfl⟩)|(go_at_call_of 11 j;refine(wP y j u m _ q.1 (q.2.below (K _))).mono ?_;rintro e w' ⟨rfl,rfl⟩)|(go_at_call_of 11 f;refine(wP B f E m _ l.1 (l.2.below (K _))).mono ?_;rintro e w' ⟨rfl,rfl⟩)|(go_at_call_of 11 p;refine(wP A p z m _ r.1 (r.2.below (K _))).mono ?_;rintro e w' ⟨rfl,rfl⟩))
   exact abf
  ·have s:¬ (k:Int)<(J:Int):=agE;go_wp2;clear N s b I;obtain⟨ad,T⟩:∃w',w'=wr:=⟨wr,rfl⟩
   subst T;go_loopw [3,10,11,12,13,14,15] (λo i _ _ _ _ _ wr=>∃k:Nat,k<=H/\i = ι k/\o=.bool true/\w.grownBy wr none) (λ_ i _ _ _ _ _ _=>H-(intOf i).toNat)
   case atStart=>exact⟨0,cS _,rfl,rfl,hgr⟩
   case round=>
    clear hgr;obtain⟨k,I,rfl,rfl,hgr⟩:=hrel;have N:=bN hgr (P.o.2.1);by_cases b:k<H
    ·have s:(k:Int)<(H:Int):=agE;have x:(0:Int)<=(k:Int):=agE;obtain⟨V,D,g,F,C,j,y,u,f,B,E,p,A,z,U,Y,X,R,Z,q4,⟨m,v⟩,n,q,l,r⟩:=(HS.o.grown hgr).entry Q.o.2.1 b;subst D v;have K:=λo=>cx wr o none;go_wp2_with (first|(go_at_call_of 12 g;refine(yZ F g C m _ n.1 (n.2.below (K _))).mono ?_;rintro e w' ⟨rfl,rfl⟩)|(go_at_call_of 12 j;refine(yZ y j u m _ q.1 (q.2.below (K _))).mono ?_;rintro e w' ⟨rfl,rfl⟩)|(go_at_call_of 12 f;refine(yZ B f E m _ l.1 (l.2.below (K _))).mono ?_;rintro e w' ⟨rfl,rfl⟩)|(go_at_call_of 12 p;refine(yZ A p z m _ r.1 (r.2.below (K _))).mono ?_;rintro e w' ⟨rfl,rfl⟩))
     exact abf
    ·have s:¬ (k:Int)<(H:Int):=agE;go_wp2;clear N s b I;obtain⟨ab,S⟩:∃w',w'=wr:=⟨wr,rfl⟩
     subst S;go_loopw [3,16,17,18,19,20,21] (λo i _ _ _ _ _ wr=>∃k:Nat,k<=M/\i = ι k/\o=.bool true/\w.grownBy wr none) (λ_ i _ _ _ _ _ _=>M-(intOf i).toNat)
     case atStart=>exact⟨0,cS _,rfl,rfl,hgr⟩
     case round=>
      clear hgr;obtain⟨k,I,rfl,rfl,hgr⟩:=hrel;have N:=bN hgr (P.o.2.2.1);by_cases b:k<M
      ·have s:(k:Int)<(M:Int):=agE;have x:(0:Int)<=(k:Int):=agE;obtain⟨V,D,g,F,C,j,y,u,f,B,E,p,A,z,U,Y,X,R,Z,q4,⟨m,v⟩,n,q,l,r⟩:=(HS.o.grown hgr).entry Q.o.2.2.1 b;subst D v;have K:=λo=>cx wr o none;go_wp2_with (first|(go_at_call_of 13 g;refine(ze F g C m _ n.1 (n.2.below (K _))).mono ?_;rintro e w' ⟨rfl,rfl⟩)|(go_at_call_of 13 j;refine(ze y j u m _ q.1 (q.2.below (K _))).mono ?_;rintro e w' ⟨rfl,rfl⟩)|(go_at_call_of 13 f;refine(ze B f E m _ l.1 (l.2.below (K _))).mono ?_;rintro e w' ⟨rfl,rfl⟩)|(go_at_call_of 13 p;refine(ze A p z m _ r.1 (r.2.below (K _))).mono ?_;rintro e w' ⟨rfl,rfl⟩))
       exact abf
      ·have s:¬ (k:Int)<(M:Int):=agE;go_wp2;clear N s b I;obtain⟨ae,W⟩:∃w',w'=wr:=⟨wr,rfl⟩
       subst W;go_loopw [3,22,23,24,25,26,27] (λo i _ _ _ _ _ wr=>∃k:Nat,k<=L3/\i = ι k/\o=.bool true/\w.grownBy wr none) (λ_ i _ _ _ _ _ _=>L3-(intOf i).toNat)
       case atStart=>exact⟨0,cS _,rfl,rfl,hgr⟩
       case round=>
        clear hgr;obtain⟨k,I,rfl,rfl,hgr⟩:=hrel;have N:=bN hgr (P.o.2.2.2);by_cases b:k<L3
        ·have s:(k:Int)<(L3:Int):=agE;have x:(0:Int)<=(k:Int):=agE;obtain⟨V,D,g,F,C,j,y,u,f,B,E,p,A,z,U,Y,X,R,Z,q4,⟨m,v⟩,n,q,l,r⟩:=(HS.o.grown hgr).entry Q.o.2.2.2 b;subst D v;have K:=λo=>cx wr o none;go_wp2_with (first|(go_at_call_of 14 g;refine(xA F g C m _ ⟨n.1,n.2.below (K _)⟩).mono ?_;rintro e w' ⟨rfl,rfl⟩)|(go_at_call_of 14 j;refine(xA y j u m _ ⟨q.1,q.2.below (K _)⟩).mono ?_;rintro e w' ⟨rfl,rfl⟩)|(go_at_call_of 14 f;refine(xA B f E m _ ⟨l.1,l.2.below (K _)⟩).mono ?_;rintro e w' ⟨rfl,rfl⟩)|(go_at_call_of 14 p;refine(xA A p z m _ ⟨r.1,r.2.below (K _)⟩).mono ?_;rintro e w' ⟨rfl,rfl⟩))
         exact abf
        ·have s:¬ (k:Int)<(L3:Int):=agE;go_wp2;go_ret;exact⟨rfl,hgr⟩
end Go.Proofs.YtlfifnpjeangmaaGreatDoor
