import Derived.Test.YtlfifnpjeangmaaGreatDoorGEQLookB
namespace Go.Proofs.YtlfifnpjeangmaaGreatDoor
set_option maxHeartbeats 1000000
open Proofs.Tryz Go.RowKit
set_option maxRecDepth 100000
structure lG(w:World)(g o:Nat)(t0 t1:Bool):Prop where
 live:b' w g (o+602)
 c0:w.cell? (F g (o+300))=some (.bool t0)
 c1:w.cell? (F g (o+601))=some (.bool t1)
theorem lG.cf{w d:World}{ex:Nat->Nat->Prop}{g o:Nat}{a b:Bool}(h:lG w g o a b)(k:CF w d ex)(e:¬ ex g (o+300))(f:¬ ex g (o+601)):lG d g o a b:=⟨h.live.cf k,k.cell h.c0 e,k.cell h.c1 f⟩
theorem lG.grown{w d:World}{g o:Nat}{a b:Bool}(h:lG w g o a b)(k:w.grownBy d none):lG d g o a b:=h.cf (CF.bF k (λ_ _=>False)) (λe=>e) (λe=>e)
theorem Qm(g o)(d)(w)(h:lG w g o false d):Calls prog 283 #[π g o] w λe a=>e=.returned (π g o)/\lG a g o true d/\CF w a (λb y=>b=g/\y=o+300):=by
 have f:=h.c0
 have j:=h.live.frozen (o+300)
 have a:Hid (CF w (w.setCell (F g (o+300)) (.bool true)) (λb y=>b=g/\y=o+300)):=(CF.refl _ _).setCell g (o+300) _ (λ_=>⟨rfl,rfl⟩)
 have b:Hid (lG (w.setCell (F g (o+300)) (.bool true)) g o true d):=⟨h.live.cf a,World.cell?_setCell_same _ _ _ f,a.cell h.c1 (λe=>by omega)⟩
 clear h
 go_in
 go_wp2
 go_loopw [3,4,5] (λ_ _ i wr=>i = Y 0/\wr=w) (λ_ _ i _=>2-(intOf i).toNat)
 case atStart=>exact⟨rfl,rfl⟩
 case round=>
  obtain⟨rfl,rfl⟩:=hrel;go_wp2;go_ret;exact⟨rfl,b,a⟩
theorem zb{p:Prop}(h:p:=by
 go_wp2
 go_roundw
 case rel=>grind
 case measure=>simp[intOf]):p:=h
theorem Mt(g o)(w)(h:lG w g o true false):Calls prog 283 #[π g o] w λe a=>e=.returned (π g (o+301))/\lG a g o true true/\CF w a (λb y=>b=g/\y=o+601):=by
 have f:=h.c0
 have d:=h.c1
 have j:=h.live.frozen (o+601)
 have a:Hid (CF w (w.setCell (F g (o+601)) (.bool true)) (λb y=>b=g/\y=o+601)):=(CF.refl _ _).setCell g (o+601) _ (λ_=>⟨rfl,rfl⟩)
 have b:Hid (lG (w.setCell (F g (o+601)) (.bool true)) g o true true):=⟨h.live.cf a,a.cell h.c0 (λe=>by omega),World.cell?_setCell_same _ _ _ d⟩
 clear h
 go_in
 go_wp2
 go_loopw [3,4,5] (λ_ _ i wr=>(i = Y 0\/i = Y 1)/\wr=w) (λ_ _ i _=>2-(intOf i).toNat)
 case atStart=>exact⟨.inl rfl,rfl⟩
 case round=>
  obtain⟨rfl|rfl,rfl⟩:=hrel
  .exact zb
  .go_wp2;go_ret;exact⟨rfl,b,a⟩
theorem Yo(g o)(w)(h:lG w g o false false):Calls prog 119 #[π g o] w λe a=>e=.returned (Y 2)/\a=w:=by
 have a:=h.c0
 have b:=h.c1
 clear h
 go_in
 go_wp2
 go_loopw [2,3,4] (λf _ i wr=>(i = Y 0/\f = Y 0\/i = Y 1/\f = Y 1\/i = Y 2/\f = Y 2)/\wr=w) (λ_ _ i _=>2-(intOf i).toNat)
 case atStart=>grind
 case round=>
  obtain⟨⟨rfl,rfl⟩|⟨rfl,rfl⟩|⟨rfl,rfl⟩,rfl⟩:=hrel
  .exact zb
  .exact zb
  .exact lO
theorem Yp(g o)(w):Calls prog 285 #[π g o] w λe a=>e=.returned (ς g o 0 300)/\w=a:=by
 go_in
 exact lO
theorem Tryz.ace:zeroCells150.size=301:=by kernel_rfl
theorem Tryz.Qn:zeroCells150.all (·.oneCell')=true:=by kernel_rfl
theorem Tryz.Qo:zeroCells150.toList[300]?=some (.bool false):=by kernel_rfl
theorem zJ(g o)(u)(w)(h:b' w g (o+301)):
  CallsD prog 284 #[π g o] u w λe d a=>d=u/\(e=.returned (.tuple #[])/\a.c g (o+300)=some (.bool false)/\CF w a (λb y=>b=g/\o<=y/\y<o+301)):=by
 have a:zeroCells150.toList.length=301:=by rw[cV,Tryz.ace]
 have f:=Gt (P:=prog) o zeroCells150.toList h (by rw[a];exact cy _) (λv d=>by have:=Tryz.Qn;rw[Array.all_eq_true_iff_forall_mem]at this;exact this v (Array.mem_toList_iff.1 d))
 have d:Hid (CF w (w.setCells g o zeroCells150.toList) (λb y=>b=g/\o<=y/\y<o+301)):=CF.setCells g _ o w (CF.refl _ _) (λj e _=>⟨rfl,by omega,by rw[a]at e;omega⟩)
 have b:=I (World.rangeAt_setCells_same w g o zeroCells150.toList (h.there o _ (by rw[a];exact cy _)))
 clear a h
 go_enter_d func284,ntmps284
 go_wp2
 go_end0
 exact⟨rfl,b 300 _ Tryz.Qo,d⟩
set_option maxHeartbeats 2000000
variable {es ls:List BE}{g nx:Nat}{W W' w:World}
def wZ(W:World)(g:Nat)(es:List BE):Prop:=∃ls nx,jG W g 188 ls nx/\∀e∈ls,BE.find es e.name=some e
theorem wZ.cf{ex:Nat->Nat->Prop}(h:wZ W g es)(k:CF W W' ex)(d:∀j,188<=j->j<222->¬ ex g j):wZ W' g es:=by
 obtain⟨e,f,a,b⟩:=h;exact⟨e,f,a.cf k d,b⟩
abbrev p8(g:Nat)(b y:Nat):Prop:=b=g/\188<=y/\y<222
abbrev BY(g:Nat)(b y:Nat):Prop:=¬ (b=g/\(2<=y/\y<163\/188<=y/\y<222))
def QJ(g:Nat)(es:List BE)(W:World):Prop:=bU W g 2 es/\wZ W g es
theorem QJ.cf{ex:Nat->Nat->Prop}(h:QJ g es W)(k:CF W W' ex)(a:∀j,(2<=j/\j<163\/188<=j/\j<222)->¬ ex g j):QJ g es W':=
 ⟨h.1.cf k fA,h.2.cf k fA⟩
theorem Ef(w)(b)(a d e f g i j k u0 u1 u2 u3 u4 u5 u6 u7)(h:b' w b 8):
  ((((((((((((((((w.s b 0 a).s b 1 d).s b 2 e).s b 3 f).s b 4 g).s b 5 i).s b 6 j).s b 7 k).s b 0 u0).s b 1 u1).s b 2 u2).s b 3 u3).s b 4 u4).s b 5 u5).s b 6 u6).s b 7 u7).rangeAt b 0 [u0,u1,u2,u3,u4,u5,u6,u7]:=by
 obtain⟨⟨J,l⟩,⟨K,m⟩,⟨L,n⟩,⟨M,o⟩,⟨P,p⟩,⟨Q,q⟩,⟨R,r⟩,⟨S,t⟩,_⟩:=gI h
 obtain⟨u,v,x,y,A,B,C,D⟩:=jY (jw w b a d e f g i j k l m n o p q r t)
 exact jw _ b u0 u1 u2 u3 u4 u5 u6 u7 u v x y A B C D
theorem Eg{l:E}{e:BE}(h:BE.find es l=some e):e.name=l/\e∈es:=by
 have:=List.find?_some h;exact⟨by simpa using this,List.mem_of_find?_eq_some h⟩
theorem Ux(g)(ls)(nx)(l)(e)(w)(h:jG w g 188 ls nx)(i:BE.find ls l=some e):Calls prog 281 #[π g 0,.string ⟨l.toArray⟩] w λr a=>r=.returned (nN (some e))/\w.grownBy a none:=by
 have b:=cx w (.cells lB 126) none
 have a:=IA g 188 ls nx l _ (h.grown b)
 rw[i]at a
 obtain⟨U,V,W,X,v4,v5,v6,v7,d,f⟩:=uG e
 clear f
 simp only[nN,rG,dj]at a⊢
 rw[d]at a
 rw[d]
 have HB:=I a
 have f:=I b
 have j:=I (b'.new w lB 126)
 clear a b d h i
 go_in
 go_wp2_with (first|(go_at_call 286;refine HB.mono ?_;clear HB;rintro r i ⟨rfl,a⟩;have h:=I (aa f a);have b:=j.grown a;clear a;obtain⟨⟨k,K⟩,⟨m,L⟩,⟨n,M⟩,⟨o,P⟩,⟨p,Q⟩,⟨q,R⟩,⟨t,S⟩,⟨u,T⟩,v,x,y,A,B,C,D,J⟩:=gI b;have d:=I b;clear b))
 refine bodyPost_ret (aG results281 _ _ _ w.1.size rfl _ (eP (Ef i w.1.size _ _ _ _ _ _ _ _ _ _ _ _ _ _ _ _ d) 126 _ underlying126 rfl Tryz.iT)) rfl ⟨rfl,?_⟩
 repeat refine az ?_ (cy _)
 exact h.o
structure QK(w:World)(g:Nat)(es ls:List BE)(nx:Nat)(W:World):Prop where
 aF:bU W g 2 es
 look:jG W g 188 ls nx
 live:b' W w.1.size 8
 gb:w.grownBy W none
theorem QK.grown(h:QK w g es ls nx W)(k:W.grownBy W' none):QK w g es ls nx W':=⟨h.aF.grown k,h.look.grown k,h.live.grown k,aa h.gb k⟩
theorem QK.done(h:QK w g es ls nx W)(a:∀e∈ls,BE.find es e.name=some e):QJ g es W/\CF w W (p8 g):=⟨⟨h.aF,ls,nx,h.look,a⟩,CF.bF h.gb _⟩
theorem QK.ana(h:QK w g es ls nx W)(o:g<w.1.size)(a d f i j l m n):QK w g es ls nx ((((((((W.s w.1.size 0 a).s w.1.size 1 d).s w.1.size 2 f).s w.1.size 3 i).s w.1.size 4 j).s w.1.size 5 l).s w.1.size 6 m).s w.1.size 7 n):=by
 have k:CF W ((((((((W.setCell (F w.1.size 0) a).setCell (F w.1.size 1) d).setCell (F w.1.size 2) f).setCell (F w.1.size 3) i).setCell (F w.1.size 4) j).setCell (F w.1.size 5) l).setCell (F w.1.size 6) m).setCell (F w.1.size 7) n) (λb _=>b=w.1.size):=by
  exact rB
 refine⟨h.aF.cf k (λ_ _ _ e=>by omega),h.look.cf k (λ_ _ _ e=>by omega),h.live.cf k,?_⟩;repeat refine az ?_ (cy _)
 exact h.gb
theorem Qp(g)(es ls)(nx)(l)(w)(J:bU w g 2 es)(M:es.Pairwise (λx y=>Op.bytesLess x.name y.name=true))(h:jG w g 188 ls nx)(K:BE.find ls l=none)(L:∀e∈ls,BE.find es e.name=some e):Calls prog 281 #[π g 0,.string ⟨l.toArray⟩] w λr a=>r=.returned (nN (BE.find es l))/\QJ g es a/\CF w a (p8 g):=by
 have i:=cx w (.cells lB 126) none
 have b:=h.live.lt
 have B:Hid (QK w g es ls nx (w.alloc (.cells lB 126))):=⟨J.grown i,h.grown i,b'.new w lB _,i⟩
 have j:=IA g 188 ls nx l _ (h.grown i)
 rw[K]at j
 have A:Hid (∀W,QK w g es ls nx W->Calls prog 277 #[π g 0,.string ⟨l.toArray⟩] W λe a=>e=.returned (nN (BE.find es l))/\W.grownBy a none):=λW k=>JL g es l W k.aF M
 obtain⟨x,f⟩:=N (BE.find es l)
 rw[f]at A
 rw[f]
 have HX:=I f
 obtain⟨m,n,o,p,q,t,u,v,D⟩:=iM x
 simp only[nN]at A j⊢
 rw[D]at A
 rw[D]
 have HV:=I D
 have HB:Hid (Calls prog 286 #[π g 188,.string ⟨l.toArray⟩] (w.alloc (.cells lB 126)) λe a=>e=.returned (.tuple #[.agg #[ε,Y 0,H 0,H 0,Y 0,Y 0,Y 0,Y 0],.bool false])/\(w.alloc (.cells lB 126)).grownBy a none):=j
 have d:Hid (∀W m n o p q t u v,QK w g es ls nx W->QK w g es ls nx ((((((((W.setCell (F w.1.size 0) m).setCell (F w.1.size 1) n).setCell (F w.1.size 2) o).setCell (F w.1.size 3) p).setCell (F w.1.size 4) q).setCell (F w.1.size 5) t).setCell (F w.1.size 6) u).setCell (F w.1.size 7) v)):=λW m n o p q t u v k=>k.ana b m n o p q t u v
 have ab:=I L
 have C:=I b
 clear j i D h K J M L f b
 cases x with
 |none=>
  simp only[Option.isSome_none]at A⊢;go_in
  go_wp2_with (first
   |(go_at_call 286;refine HB.mono ?_;clear HB;rintro r w1 ⟨rfl,i⟩;have b:=I (B.grown i);clear i;obtain⟨⟨d0,S⟩,⟨d1,T⟩,⟨d2,U⟩,⟨d3,V⟩,⟨d4,X⟩,⟨d5,q5⟩,⟨d6,q6⟩,⟨d7,q7⟩,D,J,K,L,M,P,Q,R⟩:=gI b.live)
   |(go_at_call 277;refine(A _ (d _ _ _ _ _ _ _ _ _ b)).mono ?_;rintro r w2 ⟨rfl,j⟩;have Qh:=I ((d _ _ _ _ _ _ _ _ _ b).grown j);clear j S T U V X q5 q6 q7 D J K L M P Q R;obtain⟨⟨d0,S⟩,⟨d1,T⟩,⟨d2,U⟩,⟨d3,V⟩,⟨d4,X⟩,⟨d5,q5⟩,⟨d6,q6⟩,⟨d7,q7⟩,D,J,K,L,M,P,Q,R⟩:=gI Qh.live))
  refine bodyPost_ret (aG results281 _ _ _ w.1.size rfl _ (eP (Ef w2 w.1.size _ _ _ _ _ _ _ _ _ _ _ _ _ _ _ _ Qh.live) 126 _ underlying126 rfl Tryz.iT)) rfl ⟨rfl,(d _ _ _ _ _ _ _ _ _ (d _ _ _ _ _ _ _ _ _ Qh)).done ab⟩
 |some e=>
  simp only[dj]at A⊢;go_in
  go_wp2_with (first
   |(go_at_call 286;refine HB.mono ?_;clear HB;rintro r w1 ⟨rfl,i⟩;have b:=I (B.grown i);clear i;obtain⟨⟨d0,S⟩,⟨d1,T⟩,⟨d2,U⟩,⟨d3,V⟩,⟨d4,X⟩,⟨d5,q5⟩,⟨d6,q6⟩,⟨d7,q7⟩,D,J,K,L,M,P,Q,R⟩:=gI b.live)
   |(go_at_call 277;refine(A _ (d _ _ _ _ _ _ _ _ _ b)).mono ?_;rintro r w2 ⟨rfl,j⟩;have Qh:=I ((d _ _ _ _ _ _ _ _ _ b).grown j);clear j S T U V X q5 q6 q7 D J K L M P Q R;obtain⟨⟨d0,S⟩,⟨d1,T⟩,⟨d2,U⟩,⟨d3,V⟩,⟨d4,X⟩,⟨d5,q5⟩,⟨d6,q6⟩,⟨d7,q7⟩,D,J,K,L,M,P,Q,R⟩:=gI Qh.live))
  obtain⟨W3,j⟩:=aw (((((((((w2.setCell (F w.1.size 0) (.string m)).setCell (F w.1.size 1) (Y n)).setCell (F w.1.size 2) (H o)).setCell (F w.1.size 3) (H p)).setCell (F w.1.size 4) (Y q)).setCell (F w.1.size 5) (Y t)).setCell (F w.1.size 6) (Y u)).setCell (F w.1.size 7) (Y v)));rw[<-j];have i:Hid (QK w g es ls nx W3):=by
   grind [Hid.o]
  have ad:Hid (W3.rangeAt w.1.size 0 [.string m,Y n,H o,H p,Y q,Y t,Y u,Y v]):=by
   show World.rangeAt _ _ _ _;rw[j];exact jw w2 w.1.size _ _ _ _ _ _ _ _ S T U V X q5 q6 q7
  clear j S T U V X q5 q6 q7 D J K L M P Q R Qh b B A;obtain⟨x0,x1,x2,x3,x4,x5,x6,x7⟩:=jY ad.o;have HM:Hid (∀W,QK w g es ls nx W->Calls prog 287 #[π g 188,.agg #[.string m,Y n,H o,H p,Y q,Y t,Y u,Y v]] W λr a=>r=.returned (.tuple #[])/\(∃S,jG a g 188 (Ms ls nx e) S)/\CF W a (λb y=>b=g/\188<=y/\y<188+34)):=λW k=>by
   have j:=Gu g 188 ls nx e W k.look;have y:e.bE=[.string m,Y n,H o,H p,Y q,Y t,Y u,Y v]:=HV.o;rw[y]at j;exact j
  go_wp2_with fail;go_region_held3 (λa=>a.c w.1.size 0=some (.string m)/\a.c w.1.size 1=some (Y n)/\a.c w.1.size 2=some (H o)/\a.c w.1.size 3=some (H p)/\a.c w.1.size 4=some (Y q)/\a.c w.1.size 5=some (Y t)/\a.c w.1.size 6=some (Y u)/\a.c w.1.size 7=some (Y v)) (go_keep) (first|(go_at_call 287;refine(HM _ (i.grown (aR (cC _ _) 1))).mono ?_;rintro r w4 ⟨rfl,j,y⟩;have T:=I j;have X:=I y.dM;have V:=I (y.dM.range ad (λ_ _ e=>by have:=C.o;omega));clear j y x0 x1 x2 x3 x4 x5 x6 x7;obtain⟨x0,x1,x2,x3,x4,x5,x6,x7⟩:=jY V.o;have U:=I (i.live.cf X);obtain⟨_,_,_,_,_,_,_,_,D,J,K,L,M,P,Q,R⟩:=gI U));go_wp2;have a:∀W,CF w4 W (λb _=>b=w.1.size)->QJ g es W/\CF w W (p8 g):=λW k=>by
   have b:CF w w4 (p8 g):=(CF.bF i.gb _).trans X (λ_ _ _ e=>e);obtain⟨S,j⟩:=T.o;refine⟨⟨(i.aF.cf X (λ_ _ _ e=>by omega)).cf k (λ_ _ _ e=>by have:=C.o;omega),_,S,j.cf k (λ_ _ _ e=>by have:=C.o;omega),λx f=>?_⟩,b.trans k (λ_ _ h e=>by omega)⟩;rcases Yn f with f|f
   .exact ab x f
   .rw[f,(Eg HX.o).1];exact HX.o
  refine bodyPost_ret (aG results281 _ _ _ w.1.size rfl _ (eP (jw w4 w.1.size _ _ _ _ _ _ _ _ x0 x1 x2 x3 x4 x5 x6 x7) 126 _ underlying126 rfl Tryz.iT)) rfl ⟨rfl,a _ ?_⟩;exact rB
theorem Mv(g)(es)(p:es.Pairwise (λx y=>Op.bytesLess x.name y.name=true)):Finds (mC 247) (QJ g es) (p8 g) (BY g) (π g 0) es:=by
 refine⟨λW o l=>?_,(by grind [QJ.cf])⟩;have e:mC 247=281:=rfl;rw[e];obtain⟨k,a,i,h,f⟩:=o;cases d:BE.find a l with
 |none=>exact Qp g es a i l W k p h d f
 |some x=>
  refine(Ux g a i l x W h d).mono ?_;rintro r q ⟨rfl,b⟩;obtain⟨m,n⟩:=Eg d;have j:=f x n;rw[m]at j;rw[j];exact⟨rfl,⟨k.grown b,a,i,h.grown b,f⟩,CF.bF b _⟩
theorem Qq(g):∀W,(method 520 247 (π g 0) "Find").run prog W=.ok (mC 247,π g 0) W:=λ_=>by kernel_rfl
set_option maxHeartbeats 4000000
variable {dp:Option Pl}{w':World}
structure eZ(w:World)(g:Nat)(dp:Option Pl)(M:DM):Prop where
 bP:dE w g 0 dp M
 look:wZ w g M.aF
 pool:lG w g 222 false false
theorem eZ.cf{ex:Nat->Nat->Prop}{M:DM}(h:eZ w g dp M)(k:CF w w' ex)(a:∀y,¬ ex g y)(b:∀q,dp=some q->∀y,¬ ex q.g y):eZ w' g dp M:=
 ⟨h.bP.cf k (λ_ _ _=>a _) (λq d _ _=>b q d _),h.look.cf k (λ_ _ _=>a _),h.pool.cf k (a _) (a _)⟩
theorem eZ.grown{M:DM}(h:eZ w g dp M)(k:w.grownBy w' none):eZ w' g dp M:=h.cf (CF.bF k (λ_ _=>False)) (λ_ e=>e) (λ_ _ _ e=>e)
theorem Zr(w)(g)(dp)(M)(m:dE w g 0 dp M)(u:∀q,dp=some q->q.g≠g)(i:∀e∈M.aF,e.In)(a:M.aF.Pairwise (λx y=>Op.bytesLess x.name y.name=true)):
  HS (w.1.size+1) g (w.1.size+2) 247 (π g 0) (π g 0) (some ⟨g,222,300⟩) (some ⟨g,523,300⟩) dp (QJ g M.aF) (p8 g) (BY g) M.aF:=by
 have v:=m.live.lt
 have d:∀(o b y),Pl.has (some ⟨g,o,300⟩) b y->b=g/\o<=y/\y<o+300:=λo b y h=>by
  obtain⟨q,k,f,l,n⟩:=h;injection k with k;subst k;exact⟨f,l,n⟩
 refine⟨Qq g,Mv g M.aF a,λy e=>by have:=e.1;omega,λb y o e=>by have:=e.1;omega,λb y o e=>by have:=e.1;omega,λb y h e=>by have:=d _ _ _ h;omega,λb y h e=>by have:=d _ _ _ h;omega,λe=>by omega,λy f l e=>by omega,(λq h=>by injection h with h;subst h;show w.1.size+1≠g;omega),(λq h=>by injection h with h;subst h;show w.1.size+1≠g;omega),λj r h=>by have:=d _ _ _ h;omega,λj r h=>by have:=d _ _ _ h;omega,λy x e=>by omega,by omega,λp t=>?_,by omega,by omega,i,a⟩
 have f:=m.K8 t
 grind
theorem Zt(M)(a)(R):(dA M a R).2.aF=M.aF:=by
 unfold dA;grind
theorem Ns(M)(a)(b):(dG M a b).2.aF=M.aF:=by
 grind [Zt,tT,dG]
structure Nt(w w':World)(g:Nat)(dp:Option Pl)(v':Value)(R:E×DM):Prop where
 out:∃p',f' w' v' p' R.1/\Pl.fresh w.1.size p'
 bP:∃pX,eZ w' g pX R.2/\∀q',pX=some q'->∃q,dp=some q/\q.g=q'.g
 cf:CF w w' (λb _=>b=g)
theorem Nt.o{b:Value}{R:E×DM}(h:Nt w w' g dp b R):∃a,f' w' b a R.1/\Pl.fresh w.1.size a:=h.out
theorem Vf(v)(p)(a)(n)(w)(h:f' w v p a)(l:Hid (a.length=n))(g:n<=140737488355328):Calls prog 131 #[v] w λe w'=>∃d c,e=.returned (.slice d n c)/\(∃b,f' w' (.slice d n c) b a/\Pl.fresh w.1.size b)/\w.grownBy w' none:=by
 rcases h with⟨_,m,j⟩|⟨q,r,m,C,D,J,x⟩
 .rw[m];have b:n=0:=by rw[<-l,j];rfl
  refine(Tryz.bytes_Clone_nil 0 0 w).mono ?_;rintro e t ⟨rfl,rfl⟩;exact⟨none,0,by rw[b],⟨none,.inl ⟨rfl,by rw[b],j⟩,λq r=>by cases r⟩,cC _ _⟩
 .rw[m,l];refine(Tryz.bytes_Clone_at ⟨q.g,q.off,none⟩ n q.cap (a.map λz=>(z.toNat:Int)) w kA g (λi f=>?_)).mono ?_
  .have b:i<a.length:=(by rw[l];exact f);have e:(a.map λz=>(z.toNat:Int)).getD i 0=(a[i].toNat:Int):=by
    grind
   rw[e,Addr.add_lit];exact x i _ (by rw[eA,cL b];rfl)
  .rintro e t ⟨v,rfl,own,A,f⟩;obtain⟨d,c,rfl⟩:=bA own;rw[List.map_map]at own;have i:t.ownsRow w.1.size 5 1 (.slice d n c) n (a.map U8):=own;obtain⟨u,B,y⟩:=f'.own i;exact⟨d,c,rfl,⟨u,B,y⟩,⟨f.os,f.tape,f.output,f.size,λb k _=>f.block b k⟩⟩
theorem Cb(g)(dp)(M)(d)(t)(n)(r)(u)(w)(l:eZ w g dp M)(S:∀q,dp=some q->q.g≠g)(L:∀e∈M.aF,e.In)(Q:M.aF.Pairwise (λx y=>Op.bytesLess x.name y.name=true))(hn:Hid (t.length=n))(V:At w r t)(x:∀b i,r=some ⟨b,i,none⟩->b≠g)(hb:Bs (r,t) (.slice r n u) t)(dB:b9 d)(P:b9 M.aA)(Ai:∀y∈M.aJ,b9 y.time)(a:(dG M d t).1.length<=900):Calls prog 280 #[π g 0,Y d,.slice r n u] w λe w'=>∃p,e=.returned p/\Nt w w' g dp p (dG M d t):=by
 obtain⟨R,U⟩:=N (dG M d t)
 obtain⟨m,hm⟩:=N R.1.length
 have K:R.2.aF=M.aF:=by grind [Ns]
 rw[U]at a⊢
 have B:=I (Qm g 222 false w l.pool)
 have C:Hid (∀W,lG W g 222 true false->Calls prog 283 #[π g 222] W λe w'=>e=.returned (π g 523)/\lG w' g 222 true true/\CF W w' (λb y=>b=g/\y=823)):=λW h=>Mt g 222 W h
 have HD:Hid (∀W,CF w W (λb y=>b=g/\222<=y)->dE W g 0 dp M/\QJ g M.aF W/\At W r t/\b' W g 824):=λW k=>
  ⟨l.bP.cf k (λj _ hj e=>by omega) fA,⟨l.bP.aF.cf k (λj D J e=>by omega),l.look.cf k (λj D J e=>by omega)⟩,(by grind [At.cf]),l.pool.live.cf k⟩
 have HA:Hid (∀W,CF w W (λb y=>b=g/\222<=y)->Calls prog 95 #[π g 0,.agg #[.iface 247 (π g 0),ς g 222 0 300,ς g 523 0 300],Y d,.slice r n u] W λe w'=>∃p,e=.returned p/\Fin W w' g (some ⟨g,222,300⟩) (some ⟨g,523,300⟩) dp (p8 g) p R/\QJ g M.aF w'):=by
  intro W k;obtain⟨D,J,h3,h4⟩:=HD W k;rw[<-U];exact J6 g 247 (π g 0) (π g 0) (ς g 222 0 300) (ς g 523 0 300) (some ⟨g,222,300⟩) (some ⟨g,523,300⟩) dp _ _ _ M d (r,t) t n r u W (Zr W g dp M D S L Q) D J (.inr ⟨_,rfl,rfl,cS _,by unfold maxLen;show 300<=_;decide,h4.mono (by show 222+300<=824;omega),λj v X=>by simp at X⟩) (.inr ⟨_,rfl,rfl,cS _,by unfold maxLen;show 300<=_;decide,h4.mono (by show 523+300<=824;omega),λj v X=>by simp at X⟩) hn h3 hb (λb i e j hj=>⟨λh=>by obtain⟨q,A,T,_⟩:=h;injection A with A;subst A;exact x b i e T,λh=>x b i e h.1⟩) dB P Ai
 have HL:=I a
 have X:=I hm
 have JH:=I K
 have HQ:=I (dN l S)
 clear l S L Q hn V x hb dB P Ai a U hm K
 go_enter_defers func280,ntmps280
 go_wp2_with (first
  |(go_at_call 283;refine B.mono ?_;clear B;rintro e Q ⟨rfl,x,k⟩;have a:=I x;have K:=I k;clear x k)
  |(go_at_call 283;refine(C _ a).mono ?_;clear C;rintro e i ⟨rfl,A,v⟩;have P:=I A;have L:Hid (CF w i (λb y=>b=g/\222<=y)):=(K.mono G).trans v G;clear A v a K)
  |(go_at_call 285;refine(Yp _ _ _).mono ?_;rintro e w3 ⟨rfl,rfl⟩))
 obtain⟨k,a⟩:=aw (i.alloc (.cells #[.iface 247 (π g 0),ς g 222 0 300,ς g 523 0 300] 217))
 rw[<-a]
 have kS:Hid (i.grownBy k none):=by show World.grownBy _ _ _;grind [cx]
 have v:Hid (k.rangeAt i.1.size 0 [.iface 247 (π g 0),ς g 222 0 300,ς g 523 0 300]):=by show World.rangeAt _ _ _ _;grind [aS]
 clear a
 have x0:k.c i.1.size 0=some (.iface 247 (π g 0)):=v 0 _ rfl
 have x1:k.c i.1.size 1=some (ς g 222 0 300):=v 1 _ rfl
 have x2:k.c i.1.size 2=some (ς g 523 0 300):=v 2 _ rfl
 have A:Hid (CF w k (λb y=>b=g/\222<=y)):=L.o.trans (CF.bF kS (λ_ _=>False)) (λ_ _ _ e=>e.elim)
 have ab:Hid (g<i.1.size):=by grind [Hid.o,b'.lt]
 have K:Hid (∀w' p,Fin (k.drewN 1) w' g (some ⟨g,222,300⟩) (some ⟨g,523,300⟩) dp (p8 g) p R->(∃a c,p=.slice a m c)/\CF k w' (λb _=>b=g)/\(w'.c i.1.size 0=some (.iface 247 (π g 0))/\w'.c i.1.size 1=some (ς g 222 0 300)/\w'.c i.1.size 2=some (ς g 523 0 300))):=λw' p h=>by
  have L:=h.cf.jN.mono (λb y _ e=>by
   rcases e with e|(e|e)|e
   .exact e.1
   .exact e.1
   .obtain⟨q,l,T,_⟩:=e;grind
   .obtain⟨q,l,T,_⟩:=e;grind)
  grind [Hid.o,CF.cell,Fin.o,f'.shape]
 have Gl:Hid (∀(W)a c p,f' W (.slice a m c) p R.1->Calls prog 131 #[.slice a m c] W λe w'=>∃r c,e=.returned (.slice r m c)/\(∃x,f' w' (.slice r m c) x R.1/\Pl.fresh W.1.size x)/\W.grownBy w' none):=λW a c p h=>Vf _ p R.1 m W h X (by have:=HL.o;have:=X.o;omega)
 go_region_held3 (λw'=>w'.c i.1.size 0=some (.iface 247 (π g 0))/\w'.c i.1.size 1=some (ς g 222 0 300)/\w'.c i.1.size 2=some (ς g 523 0 300)) (go_keep) (first
  |(go_at_call 95;refine(HA _ (A.o.trans (CF.bF (aR (cC _ _) 1) (λ_ _=>False)) (λ_ _ _ e=>e.elim))).mono ?_;rintro e w4 ⟨v4,rfl,h,j4⟩;have p:=I h;have L:=I j4;obtain⟨⟨a4,c4,T⟩,W,y0,y1,y2⟩:=K _ _ h;have S:=I W;subst T;obtain⟨p4,o4,_⟩:=h.o;have P:=I o4;clear h j4 W o4)
  |(go_at_call 131;refine(Gl _ _ _ _ P).mono ?_;rintro e U ⟨a5,c5,rfl,o5,a⟩;have Q:=I o5;have MZ:=I a;have z0:=a.cell y0 Z;have z1:=a.cell y1 Z;have z2:=a.cell y2 Z;clear o5 a))
 go_wp2
 have h:b' U g 824:=(by grind [b'.grown,Hid.o,b'.cf])
 refine leaves_cons (f:=284) (args:=#[π g 523]) Z sq ?_
 refine(zJ g 523 .returning _ (h.mono O)).mono ?_
 rintro e u' w6 ⟨rfl,rfl,c6,T⟩
 refine leaves_cons (f:=284) (args:=#[π g 222]) (by simp[settle]) sq ?_
 refine(zJ g 222 _ _ ((h.cf T).mono O)).mono ?_
 rintro e u' w7 ⟨rfl,rfl,W,C7⟩
 refine⟨_,results_tmp rfl _ _ _,_,rfl,?_⟩
 have P:CF U w6 (λb y=>b=g/\222<=y):=(by grind [CF.mono])
 have a:CF U w7 (λb y=>b=g/\222<=y):=(by grind [CF.trans])
 have b:=(CF.bF MZ _).trans a (λ_ _ _ e=>e)
 have U:=((HD _ A).2.2.2.cf S).lt
 have s4:=cE A.size S.size
 refine⟨?_,?_,?_⟩
 .obtain⟨x,ho,y⟩:=Q.o;exact⟨x,ho.cf a (λq l j _ e=>by have:=y q l;omega),λq l=>cE s4 (y q l)⟩
 .obtain⟨j,hd,V⟩:=p.bP;have x:∀q,j=some q->q.g≠g:=kA;refine⟨j,⟨(by grind [dE.cf]),?_,?_⟩,V⟩
  .rw[JH];obtain⟨q,y,D,J⟩:=L.2;exact⟨q,y,(by grind [jG.cf]),J⟩
  .exact⟨h.cf a,W,(by grind [CF.cell])⟩
 .exact(((A.mono (λ_ _ _ e=>e.1)).trans S (λ_ _ _ e=>e)).trans b (λ_ _ _ e=>e.1))
theorem dE.ac1{w b:World}{g:Nat}{a:Option Pl}{d:DM}{f:List BE}(h:dE w g 0 a d)(k:CF w b (KT g 2))(i:bU b g 2 f)(l:∀q,a=some q->q.g≠g):dE b g 0 a {d with aF:=f}:=by
 obtain⟨v,o,m⟩:=h.aL;refine⟨h.live.cf k,k.cell h.aA (λe=>by have:=e.2.1;omega),⟨v,k.cell o (λe=>by have:=e.2.1;omega),m.cf k (λq n j _ e=>l q n e.1)⟩,i,k.range h.aJ (λj _ e=>by have:=e.2.2;omega),k.cell h.count (λe=>by have:=e.2.2;omega),h.few⟩
theorem Vg{b:List BE}{a:mE}(h:(fD b a).2≠0):(fD b a).1=b:=by
 grind [fD]
theorem EL(g)(v)(M)(n)(a)(w)(m:eZ w g v M)(B:∀q,v=some q->q.g≠g)(l:fZ n M.aF)(J:n<=4611686018427387904)(t:-9223372036854775808<=a.ae)(u:a.ae<=9223372036854775807)(D:a.name.length<=9223372036854775807):Calls prog 279 #[π g 0,.agg a.cells] w λe f=>e=.returned (Y (fD M.aF a).2)/\eZ f g v {M with aF:=(fD M.aF a).1}/\CF w f (λb _=>b=g):=by
 have o:=I (λw h=>Gm g 0 M.aF a w h l.sorted (λe y=>⟨(l.num e y).1,by have:=(l.num e y).2;omega⟩) t u D)
 have A:=I (cx w (.cells a.cells 41) none)
 have HB:=I (m.bP.aF.grown A)
 have ab:=m.bP.live.lt
 have b:w.1.size≠g:=λe=>by omega
 obtain⟨L,P,Q,R,S,T,U⟩:=xO.new w a 41
 obtain⟨r,x⟩:=N ((fD M.aF a).2)
 obtain⟨i,d⟩:∃i,(fD M.aF a).1=i:=⟨_,rfl⟩
 have p:Hid (r≠0->i=M.aF):=λh=>by rw[<-d];exact Vg (by rw[x];exact h)
 rw[x,d]at o
 rw[x,d]
 have K:Hid (∀W,CF w W (KT g 2)->bU W g 2 i->dE W g 0 v {M with aF:=i}/\lG W g 222 false false/\wZ W g M.aF/\b' W g (188+34)):=λW k h=>
  ⟨m.bP.ac1 k h B,m.pool.cf k (λe=>by have:=e.2;omega) (λe=>by have:=e.2;omega),m.look.cf k (λj C V e=>by have:=e.2;omega),m.pool.live.mono O |>.cf k⟩
 have C:=I B
 clear m l J t u D x d B
 by_cases x:r=0
 .subst x;go_in;go_wp2_with fail;go_region_held3 (λf=>f.c w.1.size 0=some (Y a.kind)/\f.c w.1.size 1=some (.string ⟨a.name.toArray⟩)/\f.c w.1.size 2=some (H (a.key.toNat:Int))/\f.c w.1.size 3=some (Y a.bI)/\f.c w.1.size 4=some (Y a.aC)/\f.c w.1.size 5=some (Y a.bB)/\f.c w.1.size 6=some (Y a.ae)) (go_keep) (first|(go_at_call 53;refine(o _ (HB.drewN 1)).mono ?_;rintro e w6 ⟨rfl,u,d⟩;have h:=I u;have D:=I d.dM;have W:=d.dM.cell L (λq=>b q.1);have X:=d.dM.cell P (λq=>b q.1);have e2:=d.dM.cell Q (λq=>b q.1);have e3:=d.dM.cell R (λq=>b q.1);have e4:=d.dM.cell S (λq=>b q.1);have e5:=d.dM.cell T (λq=>b q.1);have e6:=d.dM.cell U (λq=>b q.1);clear u d));have t:=I (CF.before A D);have l:=I (K _ t h);go_wp2_with (go_at_call 282;refine(Ql g 188 _ l.2.2.2).mono ?_;rintro e w7 ⟨rfl,V,J⟩;have B:=I V;have k:=I J;clear V J)
  go_ret;refine⟨rfl,⟨l.1.cf k (λj _ J e=>by omega) (λq m j _ e=>?_),⟨[],0,B.o,λe y=>by cases y⟩,l.2.1.cf k.o (λe=>by omega) (λe=>by omega)⟩,(t.mono (λ_ _ _ e=>e.1)).trans k.o (λ_ _ _ e=>e.1)⟩;exact C q m e.1
 .have J:(r==0)=false:=by simpa using x
  have j:=I x;clear x;go_in;go_wp2_with fail;go_region_held3 (λf=>f.c w.1.size 0=some (Y a.kind)/\f.c w.1.size 1=some (.string ⟨a.name.toArray⟩)/\f.c w.1.size 2=some (H (a.key.toNat:Int))/\f.c w.1.size 3=some (Y a.bI)/\f.c w.1.size 4=some (Y a.aC)/\f.c w.1.size 5=some (Y a.bB)/\f.c w.1.size 6=some (Y a.ae)) (go_keep) (first|(go_at_call 53;refine(o _ (HB.drewN 1)).mono ?_;rintro e w6 ⟨rfl,u,d⟩;have h:=I u;have D:=I d.dM;have W:=d.dM.cell L (λq=>b q.1);have X:=d.dM.cell P (λq=>b q.1);have e2:=d.dM.cell Q (λq=>b q.1);have e3:=d.dM.cell R (λq=>b q.1);have e4:=d.dM.cell S (λq=>b q.1);have e5:=d.dM.cell T (λq=>b q.1);have e6:=d.dM.cell U (λq=>b q.1);clear u d));have t:=I (CF.before A D);have l:=I (K _ t h);go_wp2;go_ret;refine⟨rfl,⟨l.1,?_,l.2.1⟩,t.mono (λ_ _ _ e=>e.1)⟩;rw[p j.o];exact l.2.2.1
theorem EM(g):∀W,(method 520 247 (π g 0) "Admin").run prog W=.ok (279,π g 0) W:=λ_=>by kernel_rfl
theorem BD(g):∀W,(method 520 247 (π g 0) "Answer").run prog W=.ok (280,π g 0) W:=λ_=>by kernel_rfl
abbrev gK(a:mE)(now:Int)(v:Value):Array Value:=#[Y a.kind,.string ⟨a.name.toArray⟩,H (a.key.toNat:Int),Y a.bI,Y a.aC,Y a.bB,Y a.ae,Y now,v]
theorem Tryz.Nu:(prog.info? 110).map (·.size)=some 2:=by kernel_rfl
theorem Q8(w:World)(b)(d f){g h:Value}(i:w.c b 0=some g)(q1:w.c b 1=some h):((w.setCell (F b 0) d).setCell (F b 1) f).rangeAt b 0 [d,f]:=by
 intro j v a;match j,a with
 |0,a=>
  injection a with a;subst a;rw[iA _ _ _ _ (λe=>by injection e with _ e;omega)];exact World.cell?_setCell_same _ _ _ i
 |1,a=>
  injection a with a;subst a;exact Hh
 |j+2,a=>simp at a
theorem Nt.shape{w e:World}{g:Nat}{d:Option Pl}{b:Value}{R:E×DM}(h:Nt w e g d b R):∃a c,b=.slice a R.1.length c:=by
 grind [Nt.o,f'.shape]
theorem Nt.after{w W l m:World}{g:Nat}{f:Option Pl}{i:Value}{R:E×DM}(h:Nt W l g f i R)(G:w.grownBy W none)(d)(n:w.1.size<=d)(o:d<W.1.size)(y:g<w.1.size)(x:∀q,f=some q->q.g<w.1.size)(k:CF l m (λb _=>b=d)):Nt w m g f i R:=by
 obtain⟨u,r,b⟩:=h.out;obtain⟨v,a,t⟩:=h.bP;refine⟨⟨u,r.cf k (λq a j _ e=>by have:=b q a;omega),λq a=>cE G.size (b q a)⟩,⟨v,a.cf k (λ_ e=>by omega) (λq a _ e=>?_),t⟩,(CF.before G h.cf).trans k (λ_ _ p e=>by omega)⟩;grind
theorem Zv(g)(j)(M)(n)(a)(i)(v)(w)(t:eZ w g j M)(C:∀q,j=some q->q.g≠g)(p:fZ n M.aF)(L:n<=4611686018427387904)(l:-9223372036854775808<=a.ae)(m:a.ae<=9223372036854775807)(K:a.name.length<=9223372036854775807)(T:(a.kind==0)=false):Calls prog 149 #[.iface 247 (π g 0),.agg (gK a i v)] w λe d=>e=.returned (.agg #[σ,Y (fD M.aF a).2])/\eZ d g j {M with aF:=(fD M.aF a).1}/\CF w d (λb _=>b=g):=by
 obtain⟨d,k⟩:=aw ((w.alloc (.cells (gK a i v) 194)).alloc (.cells #[σ,Y 0] 110))
 have u:w.grownBy d none:=by grind [aM,cx]
 have f:d.rangeAt w.1.size 0 (gK a i v).toList:=by grind [gZ,cx,aS]
 have D:b' d (w.1.size+1) 2:=by
  grind [cF,b'.new]
 have V:d.c w.1.size 0=some (Y a.kind):=f 0 _ rfl
 have W:d.c w.1.size 1=some (.string ⟨a.name.toArray⟩):=f 1 _ rfl
 have X:d.c w.1.size 2=some (H (a.key.toNat:Int)):=f 2 _ rfl
 have k3:d.c w.1.size 3=some (Y a.bI):=f 3 _ rfl
 have k4:d.c w.1.size 4=some (Y a.aC):=f 4 _ rfl
 have k5:d.c w.1.size 5=some (Y a.bB):=f 5 _ rfl
 have k6:d.c w.1.size 6=some (Y a.ae):=f 6 _ rfl
 have x:=I (EL g j M n a d (t.grown u) C p L l m K)
 have R:=I (EM g)
 have U:=EM g
 have o:=t.bP.live.lt
 have Q:=I D
 have S:=I u
 have y:=I k
 have P:Hid (∀q,j=some q->q.g<w.1.size):=λq h=>t.bP.K8 h
 obtain⟨r,B⟩:=N ((fD M.aF a).2)
 obtain⟨J,h⟩:∃J,({M with aF:=(fD M.aF a).1}:DM)=J:=⟨_,rfl⟩
 rw[B,h]at x
 rw[B,h]
 have A:=I o
 clear t C p L l m K f D u k B h o R
 go_in
 go_wp2_with (first|(rw[<-y];fail_if_success done)|(go_at_call 279;refine x.mono ?_;clear x;rintro e p ⟨rfl,k,h⟩;have l:=I k;have K:=I h;have f:=Q.cf h;obtain⟨u,m⟩:=cA.1 (f.some 0 O);obtain⟨B,o⟩:=cA.1 (f.some 1 O);have C:=f.frozen 0;have D:=f.frozen 1;clear k h f))
 refine bodyPost_ret (fT results149 _ _ _ (w.1.size+1) rfl _ (eP (Q8 p (w.1.size+1) _ _ m o) 110 _ underlying110 rfl Tryz.Nu)) rfl ⟨rfl,?_,?_⟩
 .refine l.cf (ex:=λb _=>b=w.1.size+1) ?_ (λ_ e=>by have:=A.o;omega) (λq t _ e=>?_)
  .grind [CF.refl,CF.setCell]
  grind [Hid.o]
 grind [CF.before,Hid.o,CF.setCell]
theorem Vh(g)(l)(M)(a)(d)(j)(n)(i)(f)(w)(A:eZ w g l M)(K:∀q,l=some q->q.g≠g)(r:∀e∈M.aF,e.In)(u:M.aF.Pairwise (λx y=>Op.bytesLess x.name y.name=true))(S:Hid (j.length=n))(T:At w i j)(o:∀b h,i=some ⟨b,h,none⟩->b≠g)(Q:Bs (i,j) (.slice i n f) j)(P:b9 d)(t:b9 M.aA)(D:∀y∈M.aJ,b9 y.time)(k:(dG M d j).1.length<=900)(W:(a.kind==0)=true):Calls prog 149 #[.iface 247 (π g 0),.agg (gK a d (.slice i n f))] w λe h=>∃b,e=.returned (.agg #[b,Y 0])/\Nt w h g l b (dG M d j):=by
 obtain⟨b,m⟩:=aw ((w.alloc (.cells (gK a d (.slice i n f)) 194)).alloc (.cells #[σ,Y 0] 110))
 have v:w.grownBy b none:=by grind [cx,aM]
 have x:b.rangeAt w.1.size 0 (gK a d (.slice i n f)).toList:=by grind [cx,aS,gZ]
 have L:b' b (w.1.size+1) 2:=by
  grind [b'.new,cF]
 have k0:b.c w.1.size 0=some (Y a.kind):=x 0 _ rfl
 have k7:b.c w.1.size 7=some (Y d):=x 7 _ rfl
 have k8:b.c w.1.size 8=some (.slice i n f):=x 8 _ rfl
 have y:=I (Cb g l M d j n i f b (A.grown v) K r u S (T.below v) o Q P t D k)
 have V:=I (BD g)
 have X:=BD g
 have p:=A.bP.live.lt
 have J:=I L
 have U:=I v
 have C:=I m
 have B:Hid (∀q,l=some q->q.g<w.1.size):=λq h=>A.bP.K8 h
 obtain⟨R,h⟩:=N (dG M d j)
 rw[h]at y⊢
 have q:=I p
 clear A K r u S T o Q P t D k x L v m h p V
 go_in
 go_wp2_with (first|(rw[<-C];fail_if_success done)|(go_at_call 280;refine y.mono ?_;clear y;rintro e t ⟨L,rfl,m⟩;obtain⟨u,v,o⟩:=m.shape;subst o;have h:=I m;have k:=J.cf m.cf;obtain⟨x,p⟩:=cA.1 (k.some 0 O);obtain⟨A,r⟩:=cA.1 (k.some 1 O);have D:=k.frozen 0;have K:=k.frozen 1;clear m k))
 refine bodyPost_ret (fT results149 _ _ _ (w.1.size+1) rfl _ (eP (Q8 t (w.1.size+1) _ _ p r) 110 _ underlying110 rfl Tryz.Nu)) rfl ⟨_,rfl,?_⟩
 refine h.after U (w.1.size+1) (fg _) (by have k:=J.o.lt;have m:=h.cf.size;omega) q.o B.o ?_
 grind [CF.refl,CF.setCell]
theorem EN(g)(j)(d)(w)(h:dE w g 0 j d):Calls prog 78 #[π g 0] w λe f=>∃a b,e=.returned (.agg #[ς a 0 d.aF.length d.aF.length,ς b 0 d.aF.length d.aF.length,Y d.aJ.length,Y d.aL.length])/\f.ownsRow w.1.size 9 1 (ς a 0 d.aF.length d.aF.length) d.aF.length (d.aF.map λx=>.string ⟨x.name.toArray⟩)/\f.ownsRow w.1.size 3 1 (ς b 0 d.aF.length d.aF.length) d.aF.length (d.aF.map λx=>Y x.aH)/\w.grownBy f none:=by
 have i:=I (cx w (.cells #[σ,σ,Y 0,Y 0] 101) none)
 have l:=I (h.grown i)
 have m:Hid (b' (w.alloc (.cells #[σ,σ,Y 0,Y 0] 101)) w.1.size 4):=b'.new w _ _
 clear h
 go_in
 go_wp2_with fail
 refine(Gn g 0 j d _ l).mono ?_
 rintro e u ⟨a,b,rfl,h,k,f⟩
 have L:=m.grown f
 obtain⟨x,p⟩:=cA.1 (L.some 0 O)
 obtain⟨y,q⟩:=cA.1 (L.some 1 O)
 obtain⟨A,r⟩:=cA.1 (L.some 2 O)
 obtain⟨B,t⟩:=cA.1 (L.some 3 O)
 have C:=L.frozen 0
 have D:=L.frozen 1
 have J:=L.frozen 2
 have K:=L.frozen 3
 have v:=I (aa i f)
 have n:=I h
 have o:=I k
 clear L f h k
 go_wp2
 have s0:w.1.size<w.1.size+1:=fY _
 have f:w.1.size+1<=(w.alloc (.cells #[σ,σ,Y 0,Y 0] 101)).1.size:=rR
 have oN1:=dC n f
 have h:=dC o f
 refine bodyPost_ret (fT results78 _ _ _ w.1.size rfl _ (eP (JI u w.1.size _ _ _ _ p q r t) 101 _ underlying101 rfl Tryz.Au)) rfl ⟨a,b,rfl,?_,?_,?_⟩
 .exact zp
 .exact dC (by grind [gM]) (fg _)
 grind [az,Hid.o]
theorem vg(g)(j)(d)(w)(h:dE w g 0 j d):Calls prog 42 #[π g 0] w λe f=>∃a b,e=.returned (.agg #[ς a 0 d.aF.length d.aF.length,ς b 0 d.aF.length d.aF.length,Y d.aJ.length,Y d.aL.length])/\f.ownsRow w.1.size 9 1 (ς a 0 d.aF.length d.aF.length) d.aF.length (d.aF.map λx=>.string ⟨x.name.toArray⟩)/\f.ownsRow w.1.size 3 1 (ς b 0 d.aF.length d.aF.length) d.aF.length (d.aF.map λx=>Y x.aH)/\w.grownBy f none:=by
 have i:=I (cx w (.cells #[σ,σ,Y 0,Y 0] 101) none)
 have l:=I (h.grown i)
 have m:Hid (b' (w.alloc (.cells #[σ,σ,Y 0,Y 0] 101)) w.1.size 4):=b'.new w _ _
 clear h
 go_in
 go_wp2_with fail
 refine(EN g j d _ l).mono ?_
 rintro e u ⟨a,b,rfl,h,k,f⟩
 have L:=m.grown f
 obtain⟨x,p⟩:=cA.1 (L.some 0 O)
 obtain⟨y,q⟩:=cA.1 (L.some 1 O)
 obtain⟨A,r⟩:=cA.1 (L.some 2 O)
 obtain⟨B,t⟩:=cA.1 (L.some 3 O)
 have C:=L.frozen 0
 have D:=L.frozen 1
 have J:=L.frozen 2
 have K:=L.frozen 3
 have v:=I (aa i f)
 have n:=I h
 have o:=I k
 clear L f h k
 go_wp2
 have s0:w.1.size<w.1.size+1:=fY _
 have f:w.1.size+1<=(w.alloc (.cells #[σ,σ,Y 0,Y 0] 101)).1.size:=rR
 have oN1:=dC n f
 have h:=dC o f
 refine bodyPost_ret (fT results42 _ _ _ w.1.size rfl _ (eP (JI u w.1.size _ _ _ _ p q r t) 101 _ underlying101 rfl Tryz.Au)) rfl ⟨a,b,rfl,?_,?_,?_⟩
 .exact zp
 .exact dC (by grind [gM]) (fg _)
 grind [az,Hid.o]
theorem Tryz.Nv:(prog.info? 107).map (·.size)=some 3:=by kernel_rfl
theorem Zw(w:World)(b)(d e g){h i k:Value}(l:w.c b 0=some h)(m:w.c b 1=some i)(q2:w.c b 2=some k):(((w.s b 0 d).s b 1 e).s b 2 g).rangeAt b 0 [d,e,g]:=by
 intro j v a;have f:=Q8 w b d e l m;match j,a with
 |0,a=>
  rw[iA _ _ _ _ fA];exact f 0 v a
 |1,a=>
  rw[iA _ _ _ _ fA];exact f 1 v a
 |2,a=>
  injection a with a;subst a;exact FA
 |j+3,a=>simp at a
def Nw(w:World)(e:Ending)(w':World):Prop:=∃k:Nat,k<=4/\e=.returned (.agg #[Y 2,Y 2,Y k])/\w.grownBy w' none
theorem GL(g)(p)(M)(w)(h:eZ w g p M):Calls prog 77 #[π g 0] w λe a=>Nw w e a:=by
 have l:=I (bg (cx w (.cells #[Y 0,Y 0,Y 0] 107) none))
 have o:Hid (b' (w.alloc (.cells #[Y 0,Y 0,Y 0] 107)).drew w.1.size 3):=(b'.new w _ _).drew
 have i:=I (h.grown l)
 obtain⟨j,q,a,_⟩:=i.look
 have n:=I a
 obtain⟨k,d⟩:=N j.length
 have b:=I d
 have m:=I (Yo g 222 _ i.pool)
 have f:=I (Qk g 188 j q _ a)
 rw[d]at f
 have L:=o.o
 obtain⟨r,A⟩:=cA.1 (L.some 0 O)
 obtain⟨t,B⟩:=cA.1 (L.some 1 O)
 obtain⟨u,C⟩:=cA.1 (L.some 2 O)
 have v:=L.frozen 0
 have x:=L.frozen 1
 have y:=L.frozen 2
 clear h a d L
 go_in
 go_wp2_with fail
 go_region_held3 (λ_=>True) (trivial) (first|(go_at_call 119;refine m.mono ?_;rintro e d ⟨rfl,rfl⟩)|(go_at_call 120;refine f.mono ?_;rintro e h ⟨rfl,rfl⟩))
 go_wp2
 have a:(w.alloc (.cells #[Y 2,Y 2,Y k] 107)).drew.rangeAt w.1.size 0 [Y 2,Y 2,Y k]:=aS w #[Y 2,Y 2,Y k] 107
 refine bodyPost_ret (fT results77 _ _ _ w.1.size rfl _ (eP a 107 _ underlying107 rfl Tryz.Nv)) rfl ⟨k,?_,rfl,bg (cx w _ none)⟩
 rw[<-b];exact n.len
theorem EO(g)(i)(M)(w)(h:eZ w g i M):Calls prog 41 #[π g 0] w λe a=>Nw w e a:=by
 have d:=I (cx w (.cells #[Y 0,Y 0,Y 0] 107) none)
 have l:Hid (b' (w.alloc (.cells #[Y 0,Y 0,Y 0] 107)) w.1.size 3):=b'.new w _ _
 have f:=I (GL g i M _ (h.grown d))
 clear h
 go_in
 go_wp2_with fail
 refine f.mono ?_
 rintro e x ⟨k,h,rfl,b⟩
 have L:=l.grown b
 obtain⟨p,m⟩:=cA.1 (L.some 0 O)
 obtain⟨q,n⟩:=cA.1 (L.some 1 O)
 obtain⟨r,o⟩:=cA.1 (L.some 2 O)
 have t:=L.frozen 0
 have u:=L.frozen 1
 have v:=L.frozen 2
 have j:=I (aa d b)
 have a:=I h
 clear L b f h
 go_wp2
 refine bodyPost_ret (fT results41 _ _ _ w.1.size rfl _ (eP (Zw _ w.1.size _ _ _ m n o) 107 _ underlying107 rfl Tryz.Nv)) rfl ⟨k,a,rfl,?_⟩
 repeat refine az ?_ (cy _)
 exact j.o
theorem B'{p:Prop}(h:p:=by rw[hw2];exact gT w1.1.size (cy _) cs.toList 0 _ (cx w1 _ none)):p:=h
theorem Tryz.AX:(prog.info? 155).map (·.size)=some 824:=by kernel_rfl
theorem Tryz.mZ:zeroCells155.size=824:=by kernel_rfl
theorem Tryz.EP:zeroCells159.size=824:=by kernel_rfl
theorem Tryz.zT:zeroCells155.all (·.oneCell')=true:=by kernel_rfl
theorem Tryz.J8:zeroCells155[220]?=some (Y 0):=by kernel_rfl
theorem Tryz.J9:zeroCells155[221]?=some (Y 0):=by kernel_rfl
theorem Tryz.Kb:zeroCells155[522]?=some (.bool false):=by kernel_rfl
theorem Tryz.Kc:zeroCells155[823]?=some (.bool false):=by kernel_rfl
theorem AY(Z a:Array Value)(n)(h:a.size=n)(j:n<=Z.size):(Array.foldl (λa x=>a.setIfInBounds x.snd x.fst) Z a.zipIdx 0 n).size=Z.size/\∀i,(Array.foldl (λ(a:Array Value) (x:Value×Nat)=>a.setIfInBounds x.snd x.fst) Z a.zipIdx 0 n)[i]?=if i<n then a[i]? else Z[i]?:=by
 have e:Array.foldl (λ(a:Array Value) (x:Value×Nat)=>a.setIfInBounds x.snd x.fst) Z a.zipIdx 0 n=(a.toList.zipIdx 0).foldl (λ(b:Array Value) (x:Value×Nat)=>b.setIfInBounds x.snd x.fst) Z:=by
  rw[<-Array.toList_zipIdx,Array.foldl_toList,Array.size_zipIdx,h]
 have d:∀i,(Array.foldl (λ(a:Array Value) (x:Value×Nat)=>a.setIfInBounds x.snd x.fst) Z a.zipIdx 0 n)[i]?=if i<n then a[i]? else Z[i]?:=(by grind [Zx])
 refine⟨?_,d⟩;have b:∀i,i<(Array.foldl (λ(a:Array Value) (x:Value×Nat)=>a.setIfInBounds x.snd x.fst) Z a.zipIdx 0 n).size↔i<Z.size:=λi=>by
  have:=d i;grind
 have f:=b Z.size;have g:=b (Array.foldl (λ(a:Array Value) (x:Value×Nat)=>a.setIfInBounds x.snd x.fst) Z a.zipIdx 0 n).size;omega
structure AZ(X:Array Value)(aA:Int)(dv:Value):Prop where
 size:X.size=824
 one:∀v∈X.toList,v.oneCell'=true
 bP:∀j,j<188->X[j]?=(iY zeroCells136.toList aA dv)[j]?
 rest:∀j,188<=j->X[j]?=zeroCells155[j]?
theorem AZ.made{X a:Array Value}{e:Int}{b:Value}(d:a=(iY zeroCells136.toList e b).toArray)(n:b.oneCell'=true)(h:Array.foldl (λa x=>a.setIfInBounds x.snd x.fst) zeroCells155 a.zipIdx 0 188=X):AZ X e b:=by
 have k:a.size=188:=by rw[d,List.size_toArray,lF]
 obtain⟨f,g⟩:=AY zeroCells155 a 188 k (by rw[Tryz.mZ];omega);rw[h]at f g;refine⟨by rw[f,Tryz.mZ],λv l=>?_,fA,fA⟩;obtain⟨i,o,rfl⟩:=List.getElem_of_mem l;have j:i<X.size:=G;have m:=g i;grind [Tryz.zT,vT]
theorem Vi{W:World}{b:Nat}{X:Array Value}{m:Int}{i:Value}{o:Option Pl}{n:E}(p:dz W b X)(f:AZ X m i)(r:f' W i o n):eZ W b o ⟨m,[],[],n⟩:=by
 have g:=λj=>p.cell j;have d:b' W b 824:=by
  obtain⟨e,l⟩:=p;exact⟨_,e,l,by grind [AZ.size]⟩
 have t:zeroCells136.toList.length=188:=by rw[cV,Tryz.pR]
 have w:∀j,1<j->j<188->W.cell? (F b j)=zeroCells136[j]?:=λj k a=>by
  rw[g,f.bP j a,iY,List.getElem?_set_ne G,List.getElem?_set_ne G,Array.getElem?_toList]
 have a:∀j v,188<=j->zeroCells155[j]?=some v->W.cell? (F b j)=some v:=λj v k h=>by rw[g,f.rest j k,h]
 refine⟨⟨d.mono O,?_,⟨i,?_,r⟩,⟨d.mono O,λj u h=>by simp[dP]at h,?_,by simp⟩,λj u h=>by simp[bZ]at h,?_,by simp⟩,⟨[],0,⟨d.mono O,λk q=>absurd q Z,a 220 _ O Tryz.J8,a 221 _ O Tryz.J9,by simp,by decide,λ_=>rfl⟩,λe l=>by cases l⟩,⟨d,a 522 _ O Tryz.Kb,a 823 _ O Tryz.Kc⟩⟩
 .rw[g,f.bP 0 O,iY,List.getElem?_set_ne G,ee G]
 .rw[g,f.bP 1 O,iY,ee (by rw[eL];omega)]
 .grind [Tryz.Ny]
 grind [Tryz.Nz]
theorem NB(j)(v)(n)(l)(w)(f:0<=j)(g:j<=300)(C:∀w1,w.grownBy w1 none->Calls prog 91 #[v] w1 λe b=>∃d c,e=.returned (.agg #[.slice d n c])/\b.ownsRow w1.1.size 5 1 (.slice d n c) n l/\w1.grownBy b none):Calls prog 52 #[Y j,v] w λe b=>∃X d c,e=.returned (.tuple #[.agg X,Y 0])/\AZ X j (.slice d n c)/\b.ownsRow (w.1.size+1) 5 1 (.slice d n c) n l/\w.grownBy b none:=by
 have A:=I (cx w (.cells zeroCells155 155) none)
 have p:Hid (b' (w.alloc (.cells zeroCells155 155)) w.1.size 824):=by
  have h:=b'.new w zeroCells155 155;rw[Tryz.mZ]at h;exact h
 have B:=I (Qb j v n l (w.alloc (.cells zeroCells155 155)) f g (λw1 k=>C w1 (aa A k)))
 clear C f g
 go_in
 go_wp2_with fail
 refine B.mono ?_
 rintro e w1 ⟨d,c,rfl,own,i⟩
 obtain⟨cs,f⟩:∃cs:Array Value,Hid (cs=(iY zeroCells136.toList j (.slice d n c)).toArray):=⟨_,I rfl⟩
 rw[<-f]
 have m:=b'.new w1 zeroCells136 136
 rw[Tryz.pR]at m
 have h:cs.size=188:=by rw[f,List.size_toArray,lF]
 have y:=eH (P:=prog) cs.toList m (by rw[cV,h];exact cy _) (λv b=>vT _ _ rfl v (by rw[f]at b;exact b))
 have t:=World.rangeAt_setCells_same (w1.alloc (.cells zeroCells136 136)) w1.1.size 0 cs.toList (m.there 0 _ (by rw[cV,h];omega))
 have D:(prog.info? 136).map (·.size)=some cs.toList.length:=by rw[Tryz.zG,cV,h]
 obtain⟨k,hw2⟩:=aw ((w1.alloc (.cells zeroCells136 136)).setCells w1.1.size 0 cs.toList)
 have GW:w1.grownBy k none:=B'
 rw[<-hw2]at t y
 obtain⟨X,R⟩:=N (Array.foldl (λcs x=>cs.setIfInBounds x.snd x.fst) zeroCells155 cs.zipIdx 0 188)
 have g:=AZ.made f rfl R
 have r:=(p.grown i).grown GW
 have S:=eH (P:=prog) X.toList r (by rw[cV,g.size];exact cy _) g.one
 have RB:=World.rangeAt_setCells_same k w.1.size 0 X.toList (r.there 0 _ (by rw[cV,g.size];omega))
 have Q:=I (eP RB 155 _ underlying155 rfl (by rw[Tryz.AX,cV,g.size]))
 have M:=I g
 have C:=I (dN t D)
 have o:=I (gT w.1.size (cy _) X.toList 0 k (aa (aa A i) GW))
 have J:w1.ownsRow (w.1.size+1) 5 1 (.slice d n c) n l:=dC own (by rw[cF];omega)
 have L:Hid ((k.setCells w.1.size 0 X.toList).ownsRow (w.1.size+1) 5 1 (.slice d n c) n l):=by
  have K:=World.ownsRow.kept J GW (eR _);refine cB K (λb q=>?_);have u:=K.lt b q;exact(CF.setCells (a:=k) (ex:=λq _=>q=w.1.size) w.1.size _ 0 k (CF.refl _ _) (λ_ _ _=>rfl)).block b u.2 (λ_ q=>by omega)
 have b:=I hw2
 have q:=g.size
 clear t D m r RB own J i GW g hw2 B
 go_wp2_with (first|(rw[<-b];fail_if_success done)|(refine wpList_load_mid rfl 136 _ rfl w1.1.size 0 rfl cs.toList _ C.1 underlying136 rfl C.2 ?_))
 exact bodyPost_ret (aG results52 _ _ _ w.1.size rfl _ Q) rfl ⟨X,d,c,rfl,M,L,o⟩
theorem ND(g)(v)(n)(p)(w)(f:0<=g)(i:g<=300)(C:∀a,w.grownBy a none->Calls prog 91 #[v] a λe d=>∃o c,e=.returned (.agg #[.slice o n c])/\d.ownsRow a.1.size 5 1 (.slice o n c) n (p.map U8)/\a.grownBy d none):Calls prog 28 #[Y g,v] w λe d=>∃b h,e=.returned (.tuple #[π b 0,Y 0])/\eZ d b h ⟨g,[],[],p⟩/\w.1.size<=b/\Pl.fresh w.1.size h/\(∀q,h=some q->q.g≠b)/\w.grownBy d none:=by
 have u:=I (NB g v n (p.map U8) w f i C)
 clear C f i
 go_in
 go_wp2_with fail
 refine u.mono ?_
 rintro e a ⟨X,o,c,rfl,l,own,j⟩
 have b:=l.size
 have k:=b'.new a zeroCells155 155
 rw[Tryz.mZ]at k
 have r:=eH (P:=prog) X.toList k (by rw[cV,b];exact cy _) l.one
 have m:=World.rangeAt_setCells_same (a.alloc (.cells zeroCells155 155)) a.1.size 0 X.toList (k.there 0 _ (by rw[cV,b];omega))
 have y:(prog.info? 155).map (·.size)=some X.toList.length:=by rw[Tryz.AX,cV,b]
 obtain⟨t,d⟩:=aw ((a.alloc (.cells zeroCells155 155)).setCells a.1.size 0 X.toList)
 have GW:a.grownBy t none:=by rw[d];exact gT a.1.size (cy _) X.toList 0 _ (cx a _ none)
 rw[<-d]at m r
 have C:Array.foldl (λf x=>f.setIfInBounds x.snd x.fst) zeroCells159 X.zipIdx 0 824=X:=by
  obtain⟨A,x⟩:=AY zeroCells159 X 824 b (by rw[Tryz.EP];exact cy _);refine Array.ext_getElem? λi=>?_;rw[x i];by_cases f:i<824
  .rw[dT f]
  .rw[cZ f,fm (by rw[Tryz.EP];omega),fm G]
 have B:=I l
 have x:=I (dN m y)
 have i:=I d
 have f:=I (dN j GW)
 have A:=I own
 clear m y k own j GW l d u
 go_wp2_with (first|(rw[<-i];fail_if_success done)|(refine wpList_load_mid rfl 155 _ rfl a.1.size 0 rfl X.toList _ x.1 underlying155 rfl x.2 ?_))
 have j:=cx t (.cells X 159) none
 obtain⟨h,k,d⟩:=f'.own A.o
 have l:=k.grown (aa f.2 j)
 have m:=λq e=>k.K8 q e
 have u:=f.1.size
 have y:=f.2.size
 go_ret2
 exact⟨_,h,rfl,Vi (dz.new t X _) B l,by omega,λq e=>by have:=d q e;omega,λq e=>by have:=m q e;omega,aa (aa f.1 f.2) j⟩
theorem LL(n c:Nat)(w:World):Calls prog 91 #[.slice none n c] w λe a=>e=.returned (.agg #[σ])/\w.grownBy a none:=by
 have b:=I (cx w (.cells #[σ] 122) none);have L:b' (w.alloc (.cells #[σ] 122)) w.1.size 1:=b'.new w _ _;have d:=L.frozen 0;clear L;go_in;go_wp2_with fail;refine(Tryz.bytes_Clone_nil n c _).mono ?_;rintro e f ⟨rfl,rfl⟩;go_wp2;refine bodyPost_ret (fT results91 _ _ _ w.1.size rfl _ (eP (cs:=[σ]) (λj u a=>?_) 122 _ underlying122 rfl Tryz.Ip)) rfl ⟨rfl,?_⟩
 .match j,a with
  |0,a=>injection a with a;subst a;rw[World.cell?_alloc_at (hn:=rfl)];rfl
  |j+1,a=>simp at a
 .exact b.o
theorem GN(j:Int)(f:E)(n:Nat)(a:Option Addr)(d:Nat)(m:Option Nat)(t w:World)(o:0<=j)(p:j<=300)(l:Hid (f.length=n))(r:n<=140737488355328)(h:ny t w a d f m):Calls prog 28 #[Y j,.slice a n d] w λe i=>∃b g,e=.returned (.tuple #[π b 0,Y 0])/\eZ i b g ⟨j,[],[],f⟩/\w.1.size<=b/\Pl.fresh w.1.size g/\(∀q,g=some q->q.g≠b)/\w.grownBy i none:=by
 refine ND j _ n f w o p (λe k=>?_)
 have b:=(h.grown k).at
 rcases h with⟨rfl,rfl,rfl,_⟩|⟨g,rfl,_⟩
 .obtain rfl:0=n:=l.o;refine(LL 0 0 e).mono ?_;grind [World.ownsRow_nil]
 .refine(MT ⟨g,0,none⟩ n d f e l r (λi k=>?_)).mono ?_
  .have e:i<f.length:=(by rw[l];exact k);have:=b.cells i e;grind [Addr.add_lit]
  grind [bA]
theorem Zy{Z a X:Array Value}{n:Nat}(h:a.size=n)(g:n<=Z.size)(f:Array.foldl (λ(a:Array Value) (x:Value×Nat)=>a.setIfInBounds x.snd x.fst) Z a.zipIdx 0 n=X)(k:∀v∈a.toList,v.oneCell'=true)(l:∀v∈Z.toList,v.oneCell'=true):X.size=Z.size/\∀v∈X.toList,v.oneCell'=true:=by
 obtain⟨b,d⟩:=AY Z a n h g;rw[f]at b d;refine⟨b,λv j=>?_⟩;obtain⟨i,m,rfl⟩:=List.getElem_of_mem j;have e:=d i;grind
theorem Ke(g:Int)(v:Value)(w:World)(h:g<0\/300<g):Calls prog 52 #[Y g,v] w λe a=>∃X:Array Value,X.size=824/\(∀v∈X.toList,v.oneCell'=true)/\e=.returned (.tuple #[.agg X,Y 1])/\w.grownBy a none:=by
 have u:=I (cx w (.cells zeroCells155 155) none)
 have j:Hid (b' (w.alloc (.cells zeroCells155 155)) w.1.size 824):=by
  have h:=b'.new w zeroCells155 155;rw[Tryz.mZ]at h;exact h
 have p:=I (Mc g v (w.alloc (.cells zeroCells155 155)) h)
 clear h
 go_in
 go_wp2_with fail
 refine p.mono ?_
 rintro e w1 ⟨cs,a,n,rfl,d⟩
 have f:=b'.new w1 zeroCells136 136
 rw[Tryz.pR]at f
 have o:=eH (P:=prog) cs.toList f (by rw[cV,a];exact cy _) n
 have m:=World.rangeAt_setCells_same (w1.alloc (.cells zeroCells136 136)) w1.1.size 0 cs.toList (f.there 0 _ (by rw[cV,a];omega))
 have t:(prog.info? 136).map (·.size)=some cs.toList.length:=by rw[Tryz.zG,cV,a]
 obtain⟨h,hw2⟩:=aw ((w1.alloc (.cells zeroCells136 136)).setCells w1.1.size 0 cs.toList)
 have GW:w1.grownBy h none:=B'
 rw[<-hw2]at m o
 obtain⟨X,A⟩:=N (Array.foldl (λcs x=>cs.setIfInBounds x.snd x.fst) zeroCells155 cs.zipIdx 0 188)
 have b:=Zy a (by rw[Tryz.mZ];decide) A n (λv i=>by have:=Tryz.zT;rw[Array.all_eq_true_iff_forall_mem]at this;exact this v (Array.mem_toList_iff.1 i))
 rw[Tryz.mZ]at b
 have l:b' h w.1.size 824:=(j.grown d).grown GW
 have C:=eH (P:=prog) X.toList l (by rw[cV,b.1];exact cy _) b.2
 have RB:=World.rangeAt_setCells_same h w.1.size 0 X.toList (l.there 0 _ (by rw[cV,b.1];omega))
 have y:=I (eP RB 155 _ underlying155 rfl (by rw[Tryz.AX,cV,b.1]))
 have q:=I b
 have r:=I (dN m t)
 have i:=I (gT w.1.size (cy _) X.toList 0 h (aa (aa u d) GW))
 have k:=I hw2
 have B:=b.1
 clear m t f l RB n d GW b hw2 p
 go_wp2_with (first|(rw[<-k];fail_if_success done)|(refine wpList_load_mid rfl 136 _ rfl w1.1.size 0 rfl cs.toList _ r.1 underlying136 rfl r.2 ?_))
 exact bodyPost_ret (aG results52 _ _ _ w.1.size rfl _ y) rfl ⟨X,q.1,q.2,rfl,i⟩
theorem Kg(b:Int)(v:Value)(w:World)(h:b<0\/300<b):Calls prog 28 #[Y b,v] w λe a=>e=.returned (.tuple #[.pointer none,Y 1])/\w.grownBy a none:=by
 have i:=I (Ke b v w h)
 clear h
 go_in
 go_wp2_with fail
 refine i.mono ?_
 rintro e g ⟨h,f,j,rfl,a⟩
 have d:=b'.new g zeroCells155 155
 rw[Tryz.mZ]at d
 have k:=eH (P:=prog) h.toList d (by rw[cV,f];exact cy _) j
 have GW:=I (aa a (gT g.1.size (cy _) h.toList 0 _ (cx g (.cells zeroCells155 155) none)))
 clear d a j i
 go_wp2
 go_ret2
 exact⟨rfl,GW⟩
abbrev Vj:=mE×Int×Value
def Vj.cells(j:Vj):List Value:=(gK j.1 j.2.1 j.2.2).toList
def eQ(js:List Vj):List Value:=(js.map Vj.cells).flatten
def fE(ds:List (Value×Int)):List Value:=(ds.map λd=>[d.1,Y d.2]).flatten
theorem sK:∀a,(fE a).length=a.length*2
 | []=>rfl
 |d::a=>by
  have h:=sK a
  grind [fE]
theorem Cc(a)(v)(r):fE (a++[(v,r)])=fE a++[v,Y r]:=by simp[fE]
theorem xV:∀(a)(i j)(b:i<a.length),j<9->(eQ a)[i*9+j]?=(a[i]).cells[j]?:=by
 intro a;induction a with
 |nil=>intro i j b;simp at b
 |cons y a f=>
  intro i j b d;have e:y.cells.length=9:=rfl;cases i with
  |zero=>
   grind [eQ]
  |succ i=>
   show(y.cells++eQ a)[(i+1)*9+j]?=_;grind
theorem Vk{W:World}{b k:Nat}{a:List Value}{g l:Value}(h:W.rangeAt b 0 a)(o:a.length=k*2)(p:W.c b (k*2)=some g)(q:W.c b (k*2+1)=some l)(e f):((W.setCell (F b (k*2)) e).setCell (F b (k*2+1)) f).rangeAt b 0 (a++[e,f]):=by
 intro j u d;have m:∀i,i≠k*2->(⟨b,k*2,none⟩:Addr)≠⟨b,i,none⟩:=fA;have n:∀i,i≠k*2+1->(⟨b,k*2+1,none⟩:Addr)≠⟨b,i,none⟩:=fA;rw[cN];by_cases i:j<k*2
 .rw[cW G]at d;rw[iA _ _ _ _ (n j G),iA _ _ _ _ (m j G)];have:=h j u d;rwa [cN]at this
 exact zd
theorem Kh{w d:World}{b o:Nat}{a:List Value}(h:w.rangeAt b o a)(k:w.grownBy d none):d.rangeAt b o a:=λi v e=>k.cell (h i v e) Z
def ER(w:World)(g n:Nat)(I:List (Value×Int)->World->Prop)(e:Ending)(w':World):Prop:=
 ∃(ob:Nat) (ds:List (Value×Int)),e=.returned (.tuple #[ς ob 0 n n,Y 0])/\ob=w.1.size/\b' w' ob (n*2)/\ds.length=n/\I ds w'/\w'.rangeAt ob 0 (fE ds)/\CF w w' (λb _=>b=g)
theorem Tryz.Zz:(prog.info? 110).map (λi=>(i.zero,i.size,i.bytes))=some (some (.agg #[σ,Y 0]),2,32):=by kernel_rfl
theorem NF(g y)(n S)(o)(w)(l:List (Value×Int)->World->Prop)(hn:Hid (o.length=n))(ab:n<=16)(M:∀j∈o,∃t m c,j.2.2=.slice t m c)(U:w.rangeAt y 0 (eQ o))(v:y<w.1.size)(u:y≠g)(T:g<w.1.size)(i:l [] w)(D:∀f W a,l f W->CF W a (λb _=>b=w.1.size)->l f a)(step:∀f W(h:f.length<o.length),w.1.size<W.1.size->l f W->Calls prog 149 #[.iface 247 (π g 0),.agg (gK (o[f.length]).1 (o[f.length]).2.1 (o[f.length]).2.2)] W λe a=>∃J L K r,e=.returned (.agg #[.slice J L K,Y r])/\l (f++[(.slice J L K,r)]) a/\CF W a (λb _=>b=g)):Calls prog 118 #[.iface 247 (π g 0),ς y 0 n S] w λe a=>ER w g n l e a:=by
 obtain⟨i0,q,x,d,B⟩:=info_parts Tryz.Zz
 have p:=run_makeSlice (P:=prog) w 66 110 i0 _ underlying66 q x .i64 .i64 (n:Int) (n:Int) G (Int.le_refl _) (by rw[d];omega) (by rw[B];omega) G
 rw[d]at p
 simp only[Int.toNat_natCast]at p
 obtain⟨Z,Q⟩:=N (madeCells (Value.agg #[σ,Y 0]).cells (n*2))
 have k:Z.size=n*2:=by rw[<-Q];exact size_madeCells _ _
 rw[Q]at p
 obtain⟨A,a⟩:=N (w.alloc (.cells Z 110))
 have C:w.grownBy A none:=by rw[<-a];exact cx w _ none
 have Dh:Hid (b' A w.1.size (n*2)):=by show b' _ _ _;rw[<-a,<-k];exact b'.new w _ _
 have R:Hid (l [] A):=D [] w A i (CF.bF C _)
 have sQ:Hid (CF w A (λb _=>b=g)):=CF.bF C _
 rw[a]at p
 have HJ:=I U
 have V:=I D
 have kI:=I step
 have HV:=I M
 have X:=I hn.o
 have W:=I (dN v (dN u T))
 clear Q k a C U D step M i hn v u T q x d B
 have ad:¬ (16:Int)<(n:Int):=G
 go_in
 go_wp2
 go_loopw [7,8,17] (λ_ _ i wr=>∃(k:Nat) (f:List (Value×Int)),k<=n/\i = Y k/\f.length=k/\l f wr/\b' wr w.1.size (n*2)/\wr.rangeAt w.1.size 0 (fE f)/\CF w wr (λb _=>b=g)) (λ_ _ i _=>n-(intOf i).toNat)
 case atStart=>exact⟨0,[],cS _,rfl,rfl,R,Dh,λj v M=>by simp[fE]at M,sQ.o⟩
 case round=>
  obtain⟨k,f,hk,rfl,x,d,q,u,a⟩:=hrel;have i:=I (dN x (dN d (dN q (dN u a))));clear x d q u a;by_cases C:k<n
  .have gO:f.length<o.length:=(by rw[i.1,X];exact C);have B:k<o.length:=(by rw[X];exact C);obtain⟨⟨a,q,v⟩,Q⟩:∃x,o[k]=x:=⟨_,rfl⟩
   obtain⟨t,m,c,D⟩:=HV _ (eg B);rw[Q]at D;obtain rfl:v=.slice t m c:=D;have d:∀j u,((gK a q (.slice t m c)).toList)[j]?=some u->wr.c y (k*9+j)=some u:=λj u U=>by
    have T:j<9:=(cM.1 U).1;have h:=(i.2.2.2.2.range HJ (λ_ _ e=>W.2.1 e)) (k*9+j) u (by rw[xV o k j B T,Q];exact U);rwa [cN]at h
   have e0:wr.c y (k*9)=some (Y a.kind):=d 0 _ rfl;have e1:=d 1 _ rfl;have e2:=d 2 _ rfl;have e3:=d 3 _ rfl;have e4:=d 4 _ rfl;have e5:=d 5 _ rfl;have e6:=d 6 _ rfl;have e7:=d 7 _ rfl;have e8:=d 8 _ rfl;have h:=I (cx wr (.cells (gK a q (.slice t m c)) 194) none);have j:=kI f _ gO (fN i.2.2.1.lt h.size) (V f wr _ i.2.1 (CF.bF h _));have u:o[f.length]=(a,q,.slice t m c):=(by rw[<-Q];congr 1;exact i.1);rw[u]at j;have U:=I j;have mW:(k:Int)<(n:Int):=G;have ae:(0:Int)<=(k:Int):=G;clear j u d Q gO;go_wp2_with (first|(go_at_call 149;refine U.mono ?_;clear U;rintro e T ⟨J,L,K,r,rfl,P2,j⟩;have Wt:=I P2;have yO:=I j;have d:=(i.2.2.1.grown h).cf j;obtain⟨d0,q0⟩:=cA.1 (d.some (k*2) G);obtain⟨d1,q1⟩:=cA.1 (d.some (k*2+1) G);have f0:=d.frozen (k*2);have f1:=d.frozen (k*2+1);have u:=I d;clear P2 j d))
   go_roundw
   case rel=>
    have j:CF T ((T.setCell (F w.1.size (k*2)) (.slice J L K)).setCell (F w.1.size (k*2+1)) (Y r)) (λb _=>b=w.1.size):=((CF.refl T (λb _=>b=w.1.size)).setCell w.1.size (k*2) _ (λ_=>rfl)).setCell w.1.size (k*2+1) _ (λ_=>rfl);have d:=(yO.range (Kh (i.2.2.2.1) h) (λ_ _ e=>by have:=W.2.2;omega))
    refine⟨k+1,f++[(.slice J L K,r)],by omega,by go_num,by simp[i.o.1],V.o _ _ _ Wt.o j,u.o.cf j,?_,?_⟩
    .rw[Cc];exact Vk d (by rw[sK,i.1]) q0 q1 _ _
    .exact((i.2.2.2.2.trans (CF.bF h (λb _=>b=g)) (λ_ _ _ e=>e)).trans yO (λ_ _ _ e=>e)).trans j (λ_ _ U e=>by omega)
   case measure=>simp[intOf];omega
  .have b:k=n:=G;subst b;go_wp2;go_ret2;exact⟨_,f,rfl,rfl,i.2.2.1,i.1,i.2.1,i.2.2.2.1,i.2.2.2.2⟩
