import Derived.Test.YticfhckmhcaigaaGreatDoorGEQLookB
namespace Go.Proofs.YticfhckmhcaigaaGreatDoor
set_option maxHeartbeats 1000000
open Proofs.Tryz Go.RowKit
set_option maxRecDepth 100000
variable {p:Prop}
structure lT(w:World)(g o:Nat)(t0 t1:Bool):Prop where
 live:b9 w g (o+602)
 c0:w.cell? (F g (o+300))=some (.bool t0)
 c1:w.cell? (F g (o+601))=some (.bool t1)
theorem lT.cf{w d:World}{ex:Nat->Nat->Prop}{g o:Nat}{a b:Bool}(h:lT w g o a b)(k:CF w d ex)(e:¬ ex g (o+300))(f:¬ ex g (o+601)):lT d g o a b:=⟨h.live.cf k,k.cell h.c0 e,k.cell h.c1 f⟩
theorem lT.grown{w d:World}{g o:Nat}{a b:Bool}(h:lT w g o a b)(k:w.grownBy d none):lT d g o a b:=h.cf (CF.bD k (λ_ _=>False)) (λe=>e) (λe=>e)
theorem SX(g o)(d)(w)(h:lT w g o false d):Calls prog 283 #[N g o] w λe a=>e=.returned (N g o)/\lT a g o true d/\CF w a (λb y=>b=g/\y=o+300):=by
 have f:=h.c0
 have j:=h.live.frozen (o+300)
 have a:Hid (CF w (w.setCell (F g (o+300)) (.bool true)) (λb y=>b=g/\y=o+300)):=(CF.refl _ _).setCell g (o+300) _ (λ_=>⟨rfl,rfl⟩)
 have b:Hid (lT (w.setCell (F g (o+300)) (.bool true)) g o true d):=⟨h.live.cf a,World.cell?_setCell_same _ _ _ f,a.cell h.c1 (λe=>by omega)⟩
 clear h
 go_in
 go_wp2
 go_loopw [3,4,5] (λ_ _ i wr=>i = Y 0/\wr=w) (λ_ _ i _=>2-(intOf i).toNat)
 case atStart=>exact⟨rfl,rfl⟩
 case round=>
  obtain⟨rfl,rfl⟩:=hrel;go_wp2;go_ret;exact⟨rfl,b,a⟩
theorem A'(h:p:=by
 go_wp2
 go_roundw
 case rel=>grind
 case measure=>simp[intOf]):p:=h
theorem OH(g o)(w)(h:lT w g o true false):Calls prog 283 #[N g o] w λe a=>e=.returned (N g (o+301))/\lT a g o true true/\CF w a (λb y=>b=g/\y=o+601):=by
 have f:=h.c0
 have d:=h.c1
 have j:=h.live.frozen (o+601)
 have a:Hid (CF w (w.setCell (F g (o+601)) (.bool true)) (λb y=>b=g/\y=o+601)):=(CF.refl _ _).setCell g (o+601) _ (λ_=>⟨rfl,rfl⟩)
 have b:Hid (lT (w.setCell (F g (o+601)) (.bool true)) g o true true):=⟨h.live.cf a,a.cell h.c0 (λe=>by omega),World.cell?_setCell_same _ _ _ d⟩
 clear h
 go_in
 go_wp2
 go_loopw [3,4,5] (λ_ _ i wr=>(i = Y 0\/i = Y 1)/\wr=w) (λ_ _ i _=>2-(intOf i).toNat)
 case atStart=>exact⟨.inl rfl,rfl⟩
 case round=>
  obtain⟨rfl|rfl,rfl⟩:=hrel
  .exact A'
  .go_wp2;go_ret;exact⟨rfl,b,a⟩
theorem aaI(g o)(w)(h:lT w g o false false):Calls prog 119 #[N g o] w λe a=>e=.returned (Y 2)/\a=w:=by
 have a:=h.c0
 have b:=h.c1
 clear h
 go_in
 go_wp2
 go_loopw [2,3,4] (λf _ i wr=>(i = Y 0/\f = Y 0\/i = Y 1/\f = Y 1\/i = Y 2/\f = Y 2)/\wr=w) (λ_ _ i _=>2-(intOf i).toNat)
 case atStart=>grind
 case round=>
  obtain⟨⟨rfl,rfl⟩|⟨rfl,rfl⟩|⟨rfl,rfl⟩,rfl⟩:=hrel
  .exact A'
  .exact A'
  .exact lR
theorem aaJ(g o)(w):Calls prog 285 #[N g o] w λe a=>e=.returned (ς g o 0 300)/\w=a:=by
 go_in
 exact lR
theorem Tryz.aeJ:zeroCells150.size=301:=by kernel_rfl
theorem Tryz.SY:zeroCells150.all (·.oneCell')=true:=by kernel_rfl
theorem Tryz.Ta:zeroCells150.toList[300]?=some (.bool false):=by kernel_rfl
theorem AL(g o)(u)(w)(h:b9 w g (o+301)):
  CallsD prog 284 #[N g o] u w λe d a=>d=u/\(e=.returned (.tuple #[])/\a.c g (o+300)=some (.bool false)/\CF w a (λb y=>b=g/\o<=y/\y<o+301)):=by
 have a:zeroCells150.toList.length=301:=by rw[cV,Tryz.aeJ]
 have f:=I8 (P:=prog) o zeroCells150.toList h (by rw[a];exact cA _) (λv d=>by have:=Tryz.SY;rw[Array.all_eq_true_iff_forall_mem]at this;exact this v (Array.mem_toList_iff.1 d))
 have d:Hid (CF w (w.setCells g o zeroCells150.toList) (λb y=>b=g/\o<=y/\y<o+301)):=CF.setCells g _ o w (CF.refl _ _) (λj e _=>⟨rfl,by omega,by rw[a]at e;omega⟩)
 have b:=I (World.rangeAt_setCells_same w g o zeroCells150.toList (h.there o _ (by rw[a];exact cA _)))
 clear a h
 go_enter_d func284,ntmps284
 go_wp2
 go_end0
 exact⟨rfl,b 300 _ Tryz.Ta,d⟩
set_option maxHeartbeats 2000000
variable {es ls:List BE}{g nx:Nat}{W W' w:World}
def yh(W:World)(g:Nat)(es:List BE):Prop:=∃ls nx,jO W g 188 ls nx/\∀e∈ls,BE.find es e.name=some e
theorem yh.cf{ex:Nat->Nat->Prop}(h:yh W g es)(k:CF W W' ex)(d:∀j,188<=j->j<222->¬ ex g j):yh W' g es:=by
 obtain⟨e,f,a,b⟩:=h;exact⟨e,f,a.cf k d,b⟩
abbrev qK(g:Nat)(b y:Nat):Prop:=b=g/\188<=y/\y<222
abbrev DB(g:Nat)(b y:Nat):Prop:=¬ (b=g/\(2<=y/\y<163\/188<=y/\y<222))
def QJ(g:Nat)(es:List BE)(W:World):Prop:=bN W g 2 es/\yh W g es
theorem QJ.cf{ex:Nat->Nat->Prop}(h:QJ g es W)(k:CF W W' ex)(a:∀j,(2<=j/\j<163\/188<=j/\j<222)->¬ ex g j):QJ g es W':=
 ⟨h.1.cf k dT,h.2.cf k dT⟩
theorem FJ(w)(b)(a d e f g i j k u0 u1 u2 u3 u4 u5 u6 u7)(h:b9 w b 8):
  ((((((((((((((((w.s b 0 a).s b 1 d).s b 2 e).s b 3 f).s b 4 g).s b 5 i).s b 6 j).s b 7 k).s b 0 u0).s b 1 u1).s b 2 u2).s b 3 u3).s b 4 u4).s b 5 u5).s b 6 u6).s b 7 u7).rangeAt b 0 [u0,u1,u2,u3,u4,u5,u6,u7]:=by
 obtain⟨⟨J,l⟩,⟨K,m⟩,⟨L,n⟩,⟨M,o⟩,⟨P,p⟩,⟨Q,q⟩,⟨R,r⟩,⟨S,t⟩,_⟩:=gP h
 obtain⟨u,v,x,y,A,B,C,D⟩:=kI (jE w b a d e f g i j k l m n o p q r t)
 exact jE _ b u0 u1 u2 u3 u4 u5 u6 u7 u v x y A B C D
theorem FK{l:E}{e:BE}(h:BE.find es l=some e):e.name=l/\e∈es:=by
 have:=List.find?_some h;exact⟨by simpa using this,List.mem_of_find?_eq_some h⟩
theorem WT(g)(ls)(nx)(l)(e)(w)(h:jO w g 188 ls nx)(i:BE.find ls l=some e):Calls prog 281 #[N g 0,.string ⟨l.toArray⟩] w λr a=>r=.returned (nZ (some e))/\w.grownBy a none:=by
 have b:=cy w (.cells lO 126) none
 have a:=J8 g 188 ls nx l _ (h.grown b)
 rw[i]at a
 obtain⟨U,V,W,X,v4,v5,v6,v7,d,f⟩:=vF e
 clear f
 simp only[nZ,sJ,du]at a⊢
 rw[d]at a
 rw[d]
 have HB:=I a
 have f:=I b
 have j:=I (b9.new w lO 126)
 clear a b d h i
 go_in
 go_wp2_with (first|(go_at_call 286;refine HB.mono ?_;clear HB;rintro r i ⟨rfl,a⟩;have h:=I (aa f a);have b:=j.grown a;clear a;obtain⟨⟨k,K⟩,⟨m,L⟩,⟨n,M⟩,⟨o,P⟩,⟨p,Q⟩,⟨q,R⟩,⟨t,S⟩,⟨u,T⟩,v,x,y,A,B,C,D,J⟩:=gP b;have d:=I b;clear b))
 refine bodyPost_ret (aG results281 _ _ _ w.1.size rfl _ (eO (FJ i w.1.size _ _ _ _ _ _ _ _ _ _ _ _ _ _ _ _ d) 126 _ underlying126 rfl Tryz.ja)) rfl ⟨rfl,?_⟩
 repeat refine aB ?_ (cA _)
 exact h.o
structure QK(w:World)(g:Nat)(es ls:List BE)(nx:Nat)(W:World):Prop where
 aC:bN W g 2 es
 look:jO W g 188 ls nx
 live:b9 W w.1.size 8
 gb:w.grownBy W none
theorem QK.grown(h:QK w g es ls nx W)(k:W.grownBy W' none):QK w g es ls nx W':=⟨h.aC.grown k,h.look.grown k,h.live.grown k,aa h.gb k⟩
theorem QK.done(h:QK w g es ls nx W)(a:∀e∈ls,BE.find es e.name=some e):QJ g es W/\CF w W (qK g):=⟨⟨h.aC,ls,nx,h.look,a⟩,CF.bD h.gb _⟩
theorem QK.aqi(h:QK w g es ls nx W)(o:g<w.1.size)(a d f i j l m n):QK w g es ls nx ((((((((W.s w.1.size 0 a).s w.1.size 1 d).s w.1.size 2 f).s w.1.size 3 i).s w.1.size 4 j).s w.1.size 5 l).s w.1.size 6 m).s w.1.size 7 n):=by
 have k:CF W ((((((((W.setCell (F w.1.size 0) a).setCell (F w.1.size 1) d).setCell (F w.1.size 2) f).setCell (F w.1.size 3) i).setCell (F w.1.size 4) j).setCell (F w.1.size 5) l).setCell (F w.1.size 6) m).setCell (F w.1.size 7) n) (λb _=>b=w.1.size):=by
  exact rS
 refine⟨h.aC.cf k (λ_ _ _ e=>by omega),h.look.cf k (λ_ _ _ e=>by omega),h.live.cf k,?_⟩;repeat refine aB ?_ (cA _)
 exact h.gb
theorem Tc(g)(es ls)(nx)(l)(w)(J:bN w g 2 es)(M:es.Pairwise (λx y=>Op.bytesLess x.name y.name=true))(h:jO w g 188 ls nx)(K:BE.find ls l=none)(L:∀e∈ls,BE.find es e.name=some e):Calls prog 281 #[N g 0,.string ⟨l.toArray⟩] w λr a=>r=.returned (nZ (BE.find es l))/\QJ g es a/\CF w a (qK g):=by
 have i:=cy w (.cells lO 126) none
 have b:=h.live.lt
 have B:Hid (QK w g es ls nx (w.alloc (.cells lO 126))):=⟨J.grown i,h.grown i,b9.new w lO _,i⟩
 have j:=J8 g 188 ls nx l _ (h.grown i)
 rw[K]at j
 have A:Hid (∀W,QK w g es ls nx W->Calls prog 277 #[N g 0,.string ⟨l.toArray⟩] W λe a=>e=.returned (nZ (BE.find es l))/\W.grownBy a none):=λW k=>AJ g es l W k.aC M
 obtain⟨x,f⟩:=aq (BE.find es l)
 rw[f]at A
 rw[f]
 have HX:=I f
 obtain⟨m,n,o,p,q,t,u,v,D⟩:=iT x
 simp only[nZ]at A j⊢
 rw[D]at A
 rw[D]
 have HV:=I D
 have HB:Hid (Calls prog 286 #[N g 188,.string ⟨l.toArray⟩] (w.alloc (.cells lO 126)) λe a=>e=.returned (.tuple #[.agg #[ε,Y 0,O 0,O 0,Y 0,Y 0,Y 0,Y 0],.bool false])/\(w.alloc (.cells lO 126)).grownBy a none):=j
 have d:Hid (∀W m n o p q t u v,QK w g es ls nx W->QK w g es ls nx ((((((((W.setCell (F w.1.size 0) m).setCell (F w.1.size 1) n).setCell (F w.1.size 2) o).setCell (F w.1.size 3) p).setCell (F w.1.size 4) q).setCell (F w.1.size 5) t).setCell (F w.1.size 6) u).setCell (F w.1.size 7) v)):=λW m n o p q t u v k=>k.aqi b m n o p q t u v
 have ab:=I L
 have C:=I b
 clear j i D h K J M L f b
 cases x with
 |none=>
  simp only[Option.isSome_none]at A⊢;go_in
  go_wp2_with (first
   |(go_at_call 286;refine HB.mono ?_;clear HB;rintro r w1 ⟨rfl,i⟩;have b:=I (B.grown i);clear i;obtain⟨⟨d0,S⟩,⟨d1,T⟩,⟨d2,U⟩,⟨d3,V⟩,⟨d4,X⟩,⟨d5,q5⟩,⟨d6,q6⟩,⟨d7,q7⟩,D,J,K,L,M,P,Q,R⟩:=gP b.live)
   |(go_at_call 277;refine(A _ (d _ _ _ _ _ _ _ _ _ b)).mono ?_;rintro r w2 ⟨rfl,j⟩;have SH:=I ((d _ _ _ _ _ _ _ _ _ b).grown j);clear j S T U V X q5 q6 q7 D J K L M P Q R;obtain⟨⟨d0,S⟩,⟨d1,T⟩,⟨d2,U⟩,⟨d3,V⟩,⟨d4,X⟩,⟨d5,q5⟩,⟨d6,q6⟩,⟨d7,q7⟩,D,J,K,L,M,P,Q,R⟩:=gP SH.live))
  refine bodyPost_ret (aG results281 _ _ _ w.1.size rfl _ (eO (FJ w2 w.1.size _ _ _ _ _ _ _ _ _ _ _ _ _ _ _ _ SH.live) 126 _ underlying126 rfl Tryz.ja)) rfl ⟨rfl,(d _ _ _ _ _ _ _ _ _ (d _ _ _ _ _ _ _ _ _ SH)).done ab⟩
 |some e=>
  simp only[du]at A⊢;go_in
  go_wp2_with (first
   |(go_at_call 286;refine HB.mono ?_;clear HB;rintro r w1 ⟨rfl,i⟩;have b:=I (B.grown i);clear i;obtain⟨⟨d0,S⟩,⟨d1,T⟩,⟨d2,U⟩,⟨d3,V⟩,⟨d4,X⟩,⟨d5,q5⟩,⟨d6,q6⟩,⟨d7,q7⟩,D,J,K,L,M,P,Q,R⟩:=gP b.live)
   |(go_at_call 277;refine(A _ (d _ _ _ _ _ _ _ _ _ b)).mono ?_;rintro r w2 ⟨rfl,j⟩;have SH:=I ((d _ _ _ _ _ _ _ _ _ b).grown j);clear j S T U V X q5 q6 q7 D J K L M P Q R;obtain⟨⟨d0,S⟩,⟨d1,T⟩,⟨d2,U⟩,⟨d3,V⟩,⟨d4,X⟩,⟨d5,q5⟩,⟨d6,q6⟩,⟨d7,q7⟩,D,J,K,L,M,P,Q,R⟩:=gP SH.live))
  obtain⟨W3,j⟩:=aw (((((((((w2.setCell (F w.1.size 0) (.string m)).setCell (F w.1.size 1) (Y n)).setCell (F w.1.size 2) (O o)).setCell (F w.1.size 3) (O p)).setCell (F w.1.size 4) (Y q)).setCell (F w.1.size 5) (Y t)).setCell (F w.1.size 6) (Y u)).setCell (F w.1.size 7) (Y v)));rw[<-j];have i:Hid (QK w g es ls nx W3):=by
   grind [Hid.o]
  have ad:Hid (W3.rangeAt w.1.size 0 [.string m,Y n,O o,O p,Y q,Y t,Y u,Y v]):=by
   show World.rangeAt _ _ _ _;rw[j];exact jE w2 w.1.size _ _ _ _ _ _ _ _ S T U V X q5 q6 q7
  clear j S T U V X q5 q6 q7 D J K L M P Q R SH b B A;obtain⟨x0,x1,x2,x3,x4,x5,x6,x7⟩:=kI ad.o;have HM:Hid (∀W,QK w g es ls nx W->Calls prog 287 #[N g 188,.agg #[.string m,Y n,O o,O p,Y q,Y t,Y u,Y v]] W λr a=>r=.returned (.tuple #[])/\(∃S,jO a g 188 (OG ls nx e) S)/\CF W a (λb y=>b=g/\188<=y/\y<188+34)):=λW k=>by
   have j:=I9 g 188 ls nx e W k.look;have y:e.bF=[.string m,Y n,O o,O p,Y q,Y t,Y u,Y v]:=HV.o;rw[y]at j;exact j
  go_wp2_with fail;go_region_held3 (λa=>a.c w.1.size 0=some (.string m)/\a.c w.1.size 1=some (Y n)/\a.c w.1.size 2=some (O o)/\a.c w.1.size 3=some (O p)/\a.c w.1.size 4=some (Y q)/\a.c w.1.size 5=some (Y t)/\a.c w.1.size 6=some (Y u)/\a.c w.1.size 7=some (Y v)) (go_keep) (first|(go_at_call 287;refine(HM _ (i.grown (aN (cC _ _) 1))).mono ?_;rintro r w4 ⟨rfl,j,T⟩;have U:=I j;have y:=I T.dE;have X:=I (T.dE.range ad (λ_ _ e=>by have:=C.o;omega));clear j T x0 x1 x2 x3 x4 x5 x6 x7;obtain⟨x0,x1,x2,x3,x4,x5,x6,x7⟩:=kI X.o;have V:=I (i.live.cf y);obtain⟨_,_,_,_,_,_,_,_,D,J,K,L,M,P,Q,R⟩:=gP V));go_wp2;have a:∀W,CF w4 W (λb _=>b=w.1.size)->QJ g es W/\CF w W (qK g):=λW k=>by
   have b:CF w w4 (qK g):=(CF.bD i.gb _).trans y (λ_ _ _ e=>e);obtain⟨S,j⟩:=U.o;refine⟨⟨(i.aC.cf y (λ_ _ _ e=>by omega)).cf k (λ_ _ _ e=>by have:=C.o;omega),_,S,j.cf k (λ_ _ _ e=>by have:=C.o;omega),λx f=>?_⟩,b.trans k (λ_ _ h e=>by omega)⟩;rcases aaH f with f|f
   .exact ab x f
   .rw[f,(FK HX.o).1];exact HX.o
  refine bodyPost_ret (aG results281 _ _ _ w.1.size rfl _ (eO (jE w4 w.1.size _ _ _ _ _ _ _ _ x0 x1 x2 x3 x4 x5 x6 x7) 126 _ underlying126 rfl Tryz.ja)) rfl ⟨rfl,a _ ?_⟩;exact rS
theorem OI(g)(es)(p:es.Pairwise (λx y=>Op.bytesLess x.name y.name=true)):Finds (mJ 247) (QJ g es) (qK g) (DB g) (N g 0) es:=by
 refine⟨λW o l=>?_,(by grind [QJ.cf])⟩;have e:mJ 247=281:=rfl;rw[e];obtain⟨k,a,i,h,f⟩:=o;cases d:BE.find a l with
 |none=>exact Tc g es a i l W k p h d f
 |some x=>
  refine(WT g a i l x W h d).mono ?_;rintro r q ⟨rfl,b⟩;obtain⟨m,n⟩:=FK d;have j:=f x n;rw[m]at j;rw[j];exact⟨rfl,⟨k.grown b,a,i,h.grown b,f⟩,CF.bD b _⟩
theorem Td(g):∀W,(method 520 247 (N g 0) "Find").run prog W=.ok (mJ 247,N g 0) W:=λ_=>by kernel_rfl
set_option maxHeartbeats 4000000
variable {dp:Option Pl}{w':World}
structure fO(w:World)(g:Nat)(dp:Option Pl)(M:DM):Prop where
 bU:bX w g 0 dp M
 look:yh w g M.aC
 pool:lT w g 222 false false
theorem fO.cf{ex:Nat->Nat->Prop}{M:DM}(h:fO w g dp M)(k:CF w w' ex)(a:∀y,¬ ex g y)(b:∀q,dp=some q->∀y,¬ ex q.g y):fO w' g dp M:=
 ⟨h.bU.cf k (λ_ _ _=>a _) (λq d _ _=>b q d _),h.look.cf k (λ_ _ _=>a _),h.pool.cf k (a _) (a _)⟩
theorem fO.grown{M:DM}(h:fO w g dp M)(k:w.grownBy w' none):fO w' g dp M:=h.cf (CF.bD k (λ_ _=>False)) (λ_ e=>e) (λ_ _ _ e=>e)
theorem abR(w)(g)(dp)(M)(m:bX w g 0 dp M)(u:∀q,dp=some q->q.g≠g)(i:∀e∈M.aC,e.In)(a:M.aC.Pairwise (λx y=>Op.bytesLess x.name y.name=true)):
  HS (w.1.size+1) g (w.1.size+2) 247 (N g 0) (N g 0) (some ⟨g,222,300⟩) (some ⟨g,523,300⟩) dp (QJ g M.aC) (qK g) (DB g) M.aC:=by
 have v:=m.live.lt
 have d:∀(o b y),Pl.has (some ⟨g,o,300⟩) b y->b=g/\o<=y/\y<o+300:=λo b y h=>by
  obtain⟨q,k,f,l,n⟩:=h;injection k with k;subst k;exact⟨f,l,n⟩
 refine⟨Td g,OI g M.aC a,λy e=>by have:=e.1;omega,λb y o e=>by have:=e.1;omega,λb y o e=>by have:=e.1;omega,λb y h e=>by have:=d _ _ _ h;omega,λb y h e=>by have:=d _ _ _ h;omega,λe=>by omega,λy f l e=>by omega,(λq h=>by injection h with h;subst h;show w.1.size+1≠g;omega),(λq h=>by injection h with h;subst h;show w.1.size+1≠g;omega),λj r h=>by have:=d _ _ _ h;omega,λj r h=>by have:=d _ _ _ h;omega,λy x e=>by omega,by omega,λp t=>?_,by omega,by omega,i,a⟩
 have f:=m.Iw t
 grind
theorem abS(M)(a)(R):(dD M a R).2.aC=M.aC:=by
 unfold dD;grind
theorem PO(M)(a)(b):(dF M a b).2.aC=M.aC:=by
 grind [abS,uJ,dF]
structure PR(w w':World)(g:Nat)(dp:Option Pl)(v':Value)(R:E×DM):Prop where
 out:∃p',fA w' v' p' R.1/\Pl.fresh w.1.size p'
 bU:∃ni,fO w' g ni R.2/\∀q',ni=some q'->∃q,dp=some q/\q.g=q'.g
 cf:CF w w' (λb _=>b=g)
theorem PR.o{b:Value}{R:E×DM}(h:PR w w' g dp b R):∃a,fA w' b a R.1/\Pl.fresh w.1.size a:=h.out
theorem XF(v)(p)(a)(n)(w)(h:fA w v p a)(l:Hid (a.length=n))(g:n<=140737488355328):Calls prog 131 #[v] w λe w'=>∃d c,e=.returned (.slice d n c)/\(∃b,fA w' (.slice d n c) b a/\Pl.fresh w.1.size b)/\w.grownBy w' none:=by
 rcases h with⟨_,m,j⟩|⟨q,r,m,C,D,J,x⟩
 .rw[m];have b:n=0:=by rw[<-l,j];rfl
  refine(Tryz.bytes_Clone_nil 0 0 w).mono ?_;rintro e t ⟨rfl,rfl⟩;exact⟨none,0,by rw[b],⟨none,.inl ⟨rfl,by rw[b],j⟩,λq r=>by cases r⟩,cC _ _⟩
 .rw[m,l];refine(Tryz.bytes_Clone_at ⟨q.g,q.off,none⟩ n q.cap (a.map λz=>(z.toNat:Int)) w kO g (λi f=>?_)).mono ?_
  .have b:i<a.length:=(by rw[l];exact f);have e:(a.map λz=>(z.toNat:Int)).getD i 0=(a[i].toNat:Int):=by
    grind
   rw[e,Addr.add_lit];exact x i _ (by rw[eJ,cN b];rfl)
  .rintro e t ⟨v,rfl,own,A,f⟩;obtain⟨d,c,rfl⟩:=bA own;rw[List.map_map]at own;have i:t.ownsRow w.1.size 5 1 (.slice d n c) n (a.map U8):=own;obtain⟨u,B,y⟩:=fA.own i;exact⟨d,c,rfl,⟨u,B,y⟩,⟨f.os,f.tape,f.output,f.size,λb k _=>f.block b k⟩⟩
theorem DI(g)(dp)(M)(d)(t)(n)(r)(u)(w)(l:fO w g dp M)(S:∀q,dp=some q->q.g≠g)(L:∀e∈M.aC,e.In)(Q:M.aC.Pairwise (λx y=>Op.bytesLess x.name y.name=true))(hn:Hid (t.length=n))(V:At w r t)(x:∀b i,r=some ⟨b,i,none⟩->b≠g)(hb:Bs (r,t) (.slice r n u) t)(cO:bT d)(P:bT M.ax)(yo:∀y∈M.aI,bT y.time)(a:(dF M d t).1.length<=900):Calls prog 280 #[N g 0,Y d,.slice r n u] w λe w'=>∃p,e=.returned p/\PR w w' g dp p (dF M d t):=by
 obtain⟨R,U⟩:=aq (dF M d t)
 obtain⟨m,hm⟩:=aq R.1.length
 have K:R.2.aC=M.aC:=by grind [PO]
 rw[U]at a⊢
 have B:=I (SX g 222 false w l.pool)
 have C:Hid (∀W,lT W g 222 true false->Calls prog 283 #[N g 222] W λe w'=>e=.returned (N g 523)/\lT w' g 222 true true/\CF W w' (λb y=>b=g/\y=823)):=λW h=>OH g 222 W h
 have HD:Hid (∀W,CF w W (λb y=>b=g/\222<=y)->bX W g 0 dp M/\QJ g M.aC W/\At W r t/\b9 W g 824):=λW k=>
  ⟨l.bU.cf k (λj _ hj e=>by omega) dT,⟨l.bU.aC.cf k (λj D J e=>by omega),l.look.cf k (λj D J e=>by omega)⟩,(by grind [At.cf]),l.pool.live.cf k⟩
 have HA:Hid (∀W,CF w W (λb y=>b=g/\222<=y)->Calls prog 95 #[N g 0,.agg #[.iface 247 (N g 0),ς g 222 0 300,ς g 523 0 300],Y d,.slice r n u] W λe w'=>∃p,e=.returned p/\Fin W w' g (some ⟨g,222,300⟩) (some ⟨g,523,300⟩) dp (qK g) p R/\QJ g M.aC w'):=by
  intro W k;obtain⟨D,J,h3,h4⟩:=HD W k;rw[<-U];exact A9 g 247 (N g 0) (N g 0) (ς g 222 0 300) (ς g 523 0 300) (some ⟨g,222,300⟩) (some ⟨g,523,300⟩) dp _ _ _ M d (r,t) t n r u W (abR W g dp M D S L Q) D J (.inr ⟨_,rfl,rfl,cS _,by unfold maxLen;show 300<=_;decide,h4.mono (by show 222+300<=824;omega),λj v X=>by simp at X⟩) (.inr ⟨_,rfl,rfl,cS _,by unfold maxLen;show 300<=_;decide,h4.mono (by show 523+300<=824;omega),λj v X=>by simp at X⟩) hn h3 hb (λb i e j hj=>⟨λh=>by obtain⟨q,A,T,_⟩:=h;injection A with A;subst A;exact x b i e T,λh=>x b i e h.1⟩) cO P yo
 have HL:=I a
 have X:=I hm
 have LK:=I K
 have HQ:=I (cZ l S)
 clear l S L Q hn V x hb cO P yo a U hm K
 go_enter_defers func280,ntmps280
 go_wp2_with (first
  |(go_at_call 283;refine B.mono ?_;clear B;rintro e Q ⟨rfl,x,k⟩;have a:=I x;have K:=I k;clear x k)
  |(go_at_call 283;refine(C _ a).mono ?_;clear C;rintro e i ⟨rfl,A,v⟩;have P:=I A;have L:Hid (CF w i (λb y=>b=g/\222<=y)):=(K.mono G).trans v G;clear A v a K)
  |(go_at_call 285;refine(aaJ _ _ _).mono ?_;rintro e w3 ⟨rfl,rfl⟩))
 obtain⟨k,a⟩:=aw (i.alloc (.cells #[.iface 247 (N g 0),ς g 222 0 300,ς g 523 0 300] 217))
 rw[<-a]
 have lh:Hid (i.grownBy k none):=by show World.grownBy _ _ _;grind [cy]
 have v:Hid (k.rangeAt i.1.size 0 [.iface 247 (N g 0),ς g 222 0 300,ς g 523 0 300]):=by show World.rangeAt _ _ _ _;grind [aS]
 clear a
 have x0:k.c i.1.size 0=some (.iface 247 (N g 0)):=v 0 _ rfl
 have x1:k.c i.1.size 1=some (ς g 222 0 300):=v 1 _ rfl
 have x2:k.c i.1.size 2=some (ς g 523 0 300):=v 2 _ rfl
 have A:Hid (CF w k (λb y=>b=g/\222<=y)):=L.o.trans (CF.bD lh (λ_ _=>False)) (λ_ _ _ e=>e.elim)
 have ab:Hid (g<i.1.size):=by grind [Hid.o,b9.lt]
 have L:Hid (∀w' p,Fin (k.drewN 1) w' g (some ⟨g,222,300⟩) (some ⟨g,523,300⟩) dp (qK g) p R->(∃a c,p=.slice a m c)/\CF k w' (λb _=>b=g)/\(w'.c i.1.size 0=some (.iface 247 (N g 0))/\w'.c i.1.size 1=some (ς g 222 0 300)/\w'.c i.1.size 2=some (ς g 523 0 300))):=λw' p h=>by
  have K:=h.cf.iE.mono (λb y _ e=>by
   rcases e with e|(e|e)|e
   .exact e.1
   .exact e.1
   .obtain⟨q,l,T,_⟩:=e;grind
   .obtain⟨q,l,T,_⟩:=e;grind)
  grind [Hid.o,CF.cell,Fin.o,fA.shape]
 have I4:Hid (∀(W)a c p,fA W (.slice a m c) p R.1->Calls prog 131 #[.slice a m c] W λe w'=>∃r c,e=.returned (.slice r m c)/\(∃x,fA w' (.slice r m c) x R.1/\Pl.fresh W.1.size x)/\W.grownBy w' none):=λW a c p h=>XF _ p R.1 m W h X (by have:=HL.o;have:=X.o;omega)
 go_region_held3 (λw'=>w'.c i.1.size 0=some (.iface 247 (N g 0))/\w'.c i.1.size 1=some (ς g 222 0 300)/\w'.c i.1.size 2=some (ς g 523 0 300)) (go_keep) (first
  |(go_at_call 95;refine(HA _ (A.o.trans (CF.bD (aN (cC _ _) 1) (λ_ _=>False)) (λ_ _ _ e=>e.elim))).mono ?_;rintro e w4 ⟨v4,rfl,p,j4⟩;have K:=I p;have P:=I j4;obtain⟨⟨a4,c4,T⟩,W,y0,y1,y2⟩:=L _ _ p;have h:=I W;subst T;obtain⟨p4,o4,_⟩:=p.o;have Q:=I o4;clear p j4 W o4)
  |(go_at_call 131;refine(I4 _ _ _ _ Q).mono ?_;rintro e U ⟨a5,c5,rfl,o5,a⟩;have S:=I o5;have Ph:=I a;have z0:=a.cell y0 Z;have z1:=a.cell y1 Z;have z2:=a.cell y2 Z;clear o5 a))
 go_wp2
 have p:b9 U g 824:=(by grind [b9.grown,Hid.o,b9.cf])
 refine leaves_cons (f:=284) (args:=#[N g 523]) Z sR ?_
 refine(AL g 523 .returning _ (p.mono H)).mono ?_
 rintro e u' w6 ⟨rfl,rfl,c6,T⟩
 refine leaves_cons (f:=284) (args:=#[N g 222]) (by simp[settle]) sR ?_
 refine(AL g 222 _ _ ((p.cf T).mono H)).mono ?_
 rintro e u' w7 ⟨rfl,rfl,W,C7⟩
 refine⟨_,results_tmp rfl _ _ _,_,rfl,?_⟩
 have Q:CF U w6 (λb y=>b=g/\222<=y):=(by grind [CF.mono])
 have a:CF U w7 (λb y=>b=g/\222<=y):=(by grind [CF.trans])
 have b:=(CF.bD Ph _).trans a (λ_ _ _ e=>e)
 have U:=((HD _ A).2.2.2.cf h).lt
 have s4:=cE A.size h.size
 refine⟨?_,?_,?_⟩
 .obtain⟨x,ho,y⟩:=S.o;exact⟨x,ho.cf a (λq l j _ e=>by have:=y q l;omega),λq l=>cE s4 (y q l)⟩
 .obtain⟨j,hd,V⟩:=K.bU;have x:∀q,j=some q->q.g≠g:=kO;refine⟨j,⟨(by grind [bX.cf]),?_,?_⟩,V⟩
  .rw[LK];obtain⟨q,y,D,J⟩:=P.2;exact⟨q,y,(by grind [jO.cf]),J⟩
  .exact⟨p.cf a,W,(by grind [CF.cell])⟩
 .exact(((A.mono (λ_ _ _ e=>e.1)).trans h (λ_ _ _ e=>e)).trans b (λ_ _ _ e=>e.1))
theorem Kx(h:p:=by
 obtain⟨v,hv,ho⟩:=h.aL
 refine⟨h.live.cf k,k.cell h.ax (λe=>by have:=e.2.1;omega),⟨v,k.cell hv (λe=>by have:=e.2.1;omega),ho.cf k (λq hq j _ e=>hd q hq e.1)⟩,hb,k.range h.aI (λj _ e=>by have:=e.2.2;omega),k.cell h.count (λe=>by have:=e.2.2;omega),h.few⟩):p:=h
theorem bX.afw{w b:World}{g:Nat}{a:Option Pl}{d:DM}{f:List BE}(h:bX w g 0 a d)(k:CF w b (JR g 2))(hb:bN b g 2 f)(hd:∀q,a=some q->q.g≠g):bX b g 0 a {d with aC:=f}:=by
 exact Kx
theorem XG{b:List BE}{a:nC}(h:(fD b a).2≠0):(fD b a).1=b:=by
 grind [fD]
theorem GI(g)(v)(M)(n)(a)(w)(m:fO w g v M)(A:∀q,v=some q->q.g≠g)(l:gy n M.aC)(J:n<=4611686018427387904)(p:-9223372036854775808<=a.ae)(u:a.ae<=9223372036854775807)(D:a.name.length<=9223372036854775807):Calls prog 279 #[N g 0,.agg a.cells] w λe f=>e=.returned (Y (fD M.aC a).2)/\fO f g v {M with aC:=(fD M.aC a).1}/\CF w f (λb _=>b=g):=by
 have o:=I (λw h=>yX g 0 M.aC a w h l.sorted (λe y=>⟨(l.num e y).1,by have:=(l.num e y).2;omega⟩) p u D)
 have B:=I (cy w (.cells a.cells 41) none)
 have HB:=I (m.bU.aC.grown B)
 have ab:=m.bU.live.lt
 have b:w.1.size≠g:=λe=>by omega
 obtain⟨L,P,Q,R,S,T,U⟩:=xe.new w a 41
 obtain⟨r,x⟩:=aq ((fD M.aC a).2)
 obtain⟨i,d⟩:∃i,(fD M.aC a).1=i:=⟨_,rfl⟩
 have t:Hid (r≠0->i=M.aC):=λh=>by rw[<-d];exact XG (by rw[x];exact h)
 rw[x,d]at o
 rw[x,d]
 have K:Hid (∀W,CF w W (JR g 2)->bN W g 2 i->bX W g 0 v {M with aC:=i}/\lT W g 222 false false/\yh W g M.aC/\b9 W g (188+34)):=λW k h=>
  ⟨m.bU.afw k h A,m.pool.cf k (λe=>by have:=e.2;omega) (λe=>by have:=e.2;omega),m.look.cf k (λj C V e=>by have:=e.2;omega),m.pool.live.mono H |>.cf k⟩
 have C:=I A
 clear m l J p u D x d A
 by_cases x:r=0
 .subst x;go_in;go_wp2_with fail;go_region_held3 (λf=>f.c w.1.size 0=some (Y a.kind)/\f.c w.1.size 1=some (.string ⟨a.name.toArray⟩)/\f.c w.1.size 2=some (O (a.key.toNat:Int))/\f.c w.1.size 3=some (Y a.bH)/\f.c w.1.size 4=some (Y a.aD)/\f.c w.1.size 5=some (Y a.bB)/\f.c w.1.size 6=some (Y a.ae)) (go_keep) (first|(go_at_call 53;refine(o _ (HB.drewN 1)).mono ?_;rintro e w6 ⟨rfl,u,d⟩;have k:=I u;have D:=I d.dE;have W:=d.dE.cell L (λq=>b q.1);have X:=d.dE.cell P (λq=>b q.1);have e2:=d.dE.cell Q (λq=>b q.1);have e3:=d.dE.cell R (λq=>b q.1);have e4:=d.dE.cell S (λq=>b q.1);have e5:=d.dE.cell T (λq=>b q.1);have e6:=d.dE.cell U (λq=>b q.1);clear u d));have h:=I (CF.before B D);have p:=I (K _ h k);go_wp2_with (go_at_call 282;refine(SV g 188 _ p.2.2.2).mono ?_;rintro e w7 ⟨rfl,V,J⟩;have A:=I V;have l:=I J;clear V J)
  go_ret;refine⟨rfl,⟨p.1.cf l (λj _ J e=>by omega) (λq m j _ e=>?_),⟨[],0,A.o,λe y=>by cases y⟩,p.2.1.cf l.o (λe=>by omega) (λe=>by omega)⟩,(h.mono (λ_ _ _ e=>e.1)).trans l.o (λ_ _ _ e=>e.1)⟩;exact C q m e.1
 .have J:(r==0)=false:=by simpa using x
  have j:=I x;clear x;go_in;go_wp2_with fail;go_region_held3 (λf=>f.c w.1.size 0=some (Y a.kind)/\f.c w.1.size 1=some (.string ⟨a.name.toArray⟩)/\f.c w.1.size 2=some (O (a.key.toNat:Int))/\f.c w.1.size 3=some (Y a.bH)/\f.c w.1.size 4=some (Y a.aD)/\f.c w.1.size 5=some (Y a.bB)/\f.c w.1.size 6=some (Y a.ae)) (go_keep) (first|(go_at_call 53;refine(o _ (HB.drewN 1)).mono ?_;rintro e w6 ⟨rfl,u,d⟩;have k:=I u;have D:=I d.dE;have W:=d.dE.cell L (λq=>b q.1);have X:=d.dE.cell P (λq=>b q.1);have e2:=d.dE.cell Q (λq=>b q.1);have e3:=d.dE.cell R (λq=>b q.1);have e4:=d.dE.cell S (λq=>b q.1);have e5:=d.dE.cell T (λq=>b q.1);have e6:=d.dE.cell U (λq=>b q.1);clear u d));have h:=I (CF.before B D);have p:=I (K _ h k);go_wp2;go_ret;refine⟨rfl,⟨p.1,?_,p.2.1⟩,h.mono (λ_ _ _ e=>e.1)⟩;rw[t j.o];exact p.2.2.1
theorem GJ(g):∀W,(method 520 247 (N g 0) "Admin").run prog W=.ok (279,N g 0) W:=λ_=>by kernel_rfl
theorem Dc(g):∀W,(method 520 247 (N g 0) "Answer").run prog W=.ok (280,N g 0) W:=λ_=>by kernel_rfl
abbrev gT(a:nC)(now:Int)(v:Value):Array Value:=#[Y a.kind,.string ⟨a.name.toArray⟩,O (a.key.toNat:Int),Y a.bH,Y a.aD,Y a.bB,Y a.ae,Y now,v]
theorem Tryz.PS:(prog.info? 110).map (·.size)=some 2:=by kernel_rfl
theorem Ua(w:World)(b)(d f){g h:Value}(i:w.c b 0=some g)(q1:w.c b 1=some h):((w.setCell (F b 0) d).setCell (F b 1) f).rangeAt b 0 [d,f]:=by
 intro j v a;match j,a with
 |0,a=>
  injection a with a;subst a;rw[j9 _ _ _ _ (λe=>by injection e with _ e;omega)];exact World.cell?_setCell_same _ _ _ i
 |1,a=>
  injection a with a;subst a;exact Ix
 |j+2,a=>simp at a
theorem PR.shape{w e:World}{g:Nat}{d:Option Pl}{b:Value}{R:E×DM}(h:PR w e g d b R):∃a c,b=.slice a R.1.length c:=by
 grind [PR.o,fA.shape]
theorem PR.after{w W l m:World}{g:Nat}{f:Option Pl}{i:Value}{R:E×DM}(h:PR W l g f i R)(G:w.grownBy W none)(d)(n:w.1.size<=d)(o:d<W.1.size)(y:g<w.1.size)(x:∀q,f=some q->q.g<w.1.size)(k:CF l m (λb _=>b=d)):PR w m g f i R:=by
 obtain⟨v,r,b⟩:=h.out;obtain⟨u,a,t⟩:=h.bU;refine⟨⟨v,r.cf k (λq a j _ e=>by have:=b q a;omega),λq a=>cE G.size (b q a)⟩,⟨u,a.cf k (λ_ e=>by omega) (λq a _ e=>?_),t⟩,(CF.before G h.cf).trans k (λ_ _ p e=>by omega)⟩;grind
theorem abU(g)(j)(M)(n)(a)(i)(v)(w)(t:fO w g j M)(C:∀q,j=some q->q.g≠g)(p:gy n M.aC)(L:n<=4611686018427387904)(l:-9223372036854775808<=a.ae)(m:a.ae<=9223372036854775807)(K:a.name.length<=9223372036854775807)(T:(a.kind==0)=false):Calls prog 149 #[.iface 247 (N g 0),.agg (gT a i v)] w λe d=>e=.returned (.agg #[σ,Y (fD M.aC a).2])/\fO d g j {M with aC:=(fD M.aC a).1}/\CF w d (λb _=>b=g):=by
 obtain⟨d,k⟩:=aw ((w.alloc (.cells (gT a i v) 194)).alloc (.cells #[σ,Y 0] 110))
 have u:w.grownBy d none:=by grind [aM,cy]
 have f:d.rangeAt w.1.size 0 (gT a i v).toList:=by grind [iw,cy,aS]
 have D:b9 d (w.1.size+1) 2:=by
  grind [cG,b9.new]
 have V:d.c w.1.size 0=some (Y a.kind):=f 0 _ rfl
 have W:d.c w.1.size 1=some (.string ⟨a.name.toArray⟩):=f 1 _ rfl
 have X:d.c w.1.size 2=some (O (a.key.toNat:Int)):=f 2 _ rfl
 have k3:d.c w.1.size 3=some (Y a.bH):=f 3 _ rfl
 have k4:d.c w.1.size 4=some (Y a.aD):=f 4 _ rfl
 have k5:d.c w.1.size 5=some (Y a.bB):=f 5 _ rfl
 have k6:d.c w.1.size 6=some (Y a.ae):=f 6 _ rfl
 have x:=I (GI g j M n a d (t.grown u) C p L l m K)
 have R:=I (GJ g)
 have U:=GJ g
 have o:=t.bU.live.lt
 have Q:=I D
 have S:=I u
 have y:=I k
 have P:Hid (∀q,j=some q->q.g<w.1.size):=λq h=>t.bU.Iw h
 obtain⟨r,B⟩:=aq ((fD M.aC a).2)
 obtain⟨J,h⟩:∃J,({M with aC:=(fD M.aC a).1}:DM)=J:=⟨_,rfl⟩
 rw[B,h]at x
 rw[B,h]
 have A:=I o
 clear t C p L l m K f D u k B h o R
 go_in
 go_wp2_with (first|(rw[<-y];fail_if_success done)|(go_at_call 279;refine x.mono ?_;clear x;rintro e p ⟨rfl,k,h⟩;have l:=I k;have K:=I h;have f:=Q.cf h;obtain⟨u,m⟩:=cD.1 (f.some 0 H);obtain⟨B,o⟩:=cD.1 (f.some 1 H);have C:=f.frozen 0;have D:=f.frozen 1;clear k h f))
 refine bodyPost_ret (fC results149 _ _ _ (w.1.size+1) rfl _ (eO (Ua p (w.1.size+1) _ _ m o) 110 _ underlying110 rfl Tryz.PS)) rfl ⟨rfl,?_,?_⟩
 .refine l.cf (ex:=λb _=>b=w.1.size+1) ?_ (λ_ e=>by have:=A.o;omega) (λq t _ e=>?_)
  .grind [CF.refl,CF.setCell]
  grind [Hid.o]
 grind [CF.before,Hid.o,CF.setCell]
theorem XH(g)(l)(M)(a)(d)(j)(n)(i)(f)(w)(A:fO w g l M)(D:∀q,l=some q->q.g≠g)(r:∀e∈M.aC,e.In)(u:M.aC.Pairwise (λx y=>Op.bytesLess x.name y.name=true))(Q:Hid (j.length=n))(S:At w i j)(o:∀b h,i=some ⟨b,h,none⟩->b≠g)(P:Bs (i,j) (.slice i n f) j)(L:bT d)(t:bT M.ax)(T:∀y∈M.aI,bT y.time)(k:(dF M d j).1.length<=900)(W:(a.kind==0)=true):Calls prog 149 #[.iface 247 (N g 0),.agg (gT a d (.slice i n f))] w λe h=>∃b,e=.returned (.agg #[b,Y 0])/\PR w h g l b (dF M d j):=by
 obtain⟨b,m⟩:=aw ((w.alloc (.cells (gT a d (.slice i n f)) 194)).alloc (.cells #[σ,Y 0] 110))
 have v:w.grownBy b none:=by grind [cy,aM]
 have x:b.rangeAt w.1.size 0 (gT a d (.slice i n f)).toList:=by grind [cy,aS,iw]
 have K:b9 b (w.1.size+1) 2:=by
  grind [b9.new,cG]
 have k0:b.c w.1.size 0=some (Y a.kind):=x 0 _ rfl
 have k7:b.c w.1.size 7=some (Y d):=x 7 _ rfl
 have k8:b.c w.1.size 8=some (.slice i n f):=x 8 _ rfl
 have y:=I (DI g l M d j n i f b (A.grown v) D r u Q (S.below v) o P L t T k)
 have V:=I (Dc g)
 have X:=Dc g
 have p:=A.bU.live.lt
 have J:=I K
 have U:=I v
 have C:=I m
 have B:Hid (∀q,l=some q->q.g<w.1.size):=λq h=>A.bU.Iw h
 obtain⟨R,h⟩:=aq (dF M d j)
 rw[h]at y⊢
 have q:=I p
 clear A D r u Q S o P L t T k x K v m h p V
 go_in
 go_wp2_with (first|(rw[<-C];fail_if_success done)|(go_at_call 280;refine y.mono ?_;clear y;rintro e t ⟨L,rfl,m⟩;obtain⟨u,v,o⟩:=m.shape;subst o;have h:=I m;have k:=J.cf m.cf;obtain⟨x,p⟩:=cD.1 (k.some 0 H);obtain⟨A,r⟩:=cD.1 (k.some 1 H);have D:=k.frozen 0;have K:=k.frozen 1;clear m k))
 refine bodyPost_ret (fC results149 _ _ _ (w.1.size+1) rfl _ (eO (Ua t (w.1.size+1) _ _ p r) 110 _ underlying110 rfl Tryz.PS)) rfl ⟨_,rfl,?_⟩
 refine h.after U (w.1.size+1) (fj _) (by have k:=J.o.lt;have m:=h.cf.size;omega) q.o B.o ?_
 grind [CF.refl,CF.setCell]
theorem GK(g)(j)(d)(w)(h:bX w g 0 j d):Calls prog 78 #[N g 0] w λe f=>∃a b,e=.returned (.agg #[ς a 0 d.aC.length d.aC.length,ς b 0 d.aC.length d.aC.length,Y d.aI.length,Y d.aL.length])/\f.ownsRow w.1.size 9 1 (ς a 0 d.aC.length d.aC.length) d.aC.length (d.aC.map λx=>.string ⟨x.name.toArray⟩)/\f.ownsRow w.1.size 3 1 (ς b 0 d.aC.length d.aC.length) d.aC.length (d.aC.map λx=>Y x.aH)/\w.grownBy f none:=by
 have i:=I (cy w (.cells #[σ,σ,Y 0,Y 0] 101) none)
 have l:=I (h.grown i)
 have m:Hid (b9 (w.alloc (.cells #[σ,σ,Y 0,Y 0] 101)) w.1.size 4):=b9.new w _ _
 clear h
 go_in
 go_wp2_with fail
 refine(yY g 0 j d _ l).mono ?_
 rintro e u ⟨a,b,rfl,h,k,f⟩
 have L:=m.grown f
 obtain⟨x,p⟩:=cD.1 (L.some 0 H)
 obtain⟨y,q⟩:=cD.1 (L.some 1 H)
 obtain⟨A,r⟩:=cD.1 (L.some 2 H)
 obtain⟨B,t⟩:=cD.1 (L.some 3 H)
 have C:=L.frozen 0
 have D:=L.frozen 1
 have J:=L.frozen 2
 have K:=L.frozen 3
 have v:=I (aa i f)
 have n:=I h
 have o:=I k
 clear L f h k
 go_wp2
 have s0:w.1.size<w.1.size+1:=fX _
 have f:w.1.size+1<=(w.alloc (.cells #[σ,σ,Y 0,Y 0] 101)).1.size:=rB
 have oN1:=dw n f
 have h:=dw o f
 refine bodyPost_ret (fC results78 _ _ _ w.1.size rfl _ (eO (D8 u w.1.size _ _ _ _ p q r t) 101 _ underlying101 rfl Tryz.yf)) rfl ⟨a,b,rfl,?_,?_,?_⟩
 .exact wN
 .exact dw (by grind [eT]) (fj _)
 grind [aB,Hid.o]
theorem DJ(g)(j)(d)(w)(h:bX w g 0 j d):Calls prog 42 #[N g 0] w λe f=>∃a b,e=.returned (.agg #[ς a 0 d.aC.length d.aC.length,ς b 0 d.aC.length d.aC.length,Y d.aI.length,Y d.aL.length])/\f.ownsRow w.1.size 9 1 (ς a 0 d.aC.length d.aC.length) d.aC.length (d.aC.map λx=>.string ⟨x.name.toArray⟩)/\f.ownsRow w.1.size 3 1 (ς b 0 d.aC.length d.aC.length) d.aC.length (d.aC.map λx=>Y x.aH)/\w.grownBy f none:=by
 have i:=I (cy w (.cells #[σ,σ,Y 0,Y 0] 101) none)
 have l:=I (h.grown i)
 have m:Hid (b9 (w.alloc (.cells #[σ,σ,Y 0,Y 0] 101)) w.1.size 4):=b9.new w _ _
 clear h
 go_in
 go_wp2_with fail
 refine(GK g j d _ l).mono ?_
 rintro e u ⟨a,b,rfl,h,k,f⟩
 have L:=m.grown f
 obtain⟨x,p⟩:=cD.1 (L.some 0 H)
 obtain⟨y,q⟩:=cD.1 (L.some 1 H)
 obtain⟨A,r⟩:=cD.1 (L.some 2 H)
 obtain⟨B,t⟩:=cD.1 (L.some 3 H)
 have C:=L.frozen 0
 have D:=L.frozen 1
 have J:=L.frozen 2
 have K:=L.frozen 3
 have v:=I (aa i f)
 have n:=I h
 have o:=I k
 clear L f h k
 go_wp2
 have s0:w.1.size<w.1.size+1:=fX _
 have f:w.1.size+1<=(w.alloc (.cells #[σ,σ,Y 0,Y 0] 101)).1.size:=rB
 have oN1:=dw n f
 have h:=dw o f
 refine bodyPost_ret (fC results42 _ _ _ w.1.size rfl _ (eO (D8 u w.1.size _ _ _ _ p q r t) 101 _ underlying101 rfl Tryz.yf)) rfl ⟨a,b,rfl,?_,?_,?_⟩
 .exact wN
 .exact dw (by grind [eT]) (fj _)
 grind [aB,Hid.o]
theorem Tryz.PT:(prog.info? 107).map (·.size)=some 3:=by kernel_rfl
theorem abV(w:World)(b)(d e g){h i k:Value}(l:w.c b 0=some h)(m:w.c b 1=some i)(q2:w.c b 2=some k):(((w.s b 0 d).s b 1 e).s b 2 g).rangeAt b 0 [d,e,g]:=by
 intro j v a;have f:=Ua w b d e l m;match j,a with
 |0,a=>
  rw[j9 _ _ _ _ dT];exact f 0 v a
 |1,a=>
  rw[j9 _ _ _ _ dT];exact f 1 v a
 |2,a=>
  injection a with a;subst a;exact Jx
 |j+3,a=>simp at a
def PU(w:World)(e:Ending)(w':World):Prop:=∃k:Nat,k<=4/\e=.returned (.agg #[Y 2,Y 2,Y k])/\w.grownBy w' none
theorem Jk(g)(p)(M)(w)(h:fO w g p M):Calls prog 77 #[N g 0] w λe a=>PU w e a:=by
 have l:=I (bg (cy w (.cells #[Y 0,Y 0,Y 0] 107) none))
 have o:Hid (b9 (w.alloc (.cells #[Y 0,Y 0,Y 0] 107)).drew w.1.size 3):=(b9.new w _ _).drew
 have i:=I (h.grown l)
 obtain⟨j,q,a,_⟩:=i.look
 have n:=I a
 obtain⟨k,d⟩:=aq j.length
 have b:=I d
 have m:=I (aaI g 222 _ i.pool)
 have f:=I (SQ g 188 j q _ a)
 rw[d]at f
 have L:=o.o
 obtain⟨r,A⟩:=cD.1 (L.some 0 H)
 obtain⟨t,B⟩:=cD.1 (L.some 1 H)
 obtain⟨u,C⟩:=cD.1 (L.some 2 H)
 have v:=L.frozen 0
 have x:=L.frozen 1
 have y:=L.frozen 2
 clear h a d L
 go_in
 go_wp2_with fail
 go_region_held3 (λ_=>True) (trivial) (first|(go_at_call 119;refine m.mono ?_;rintro e d ⟨rfl,rfl⟩)|(go_at_call 120;refine f.mono ?_;rintro e h ⟨rfl,rfl⟩))
 go_wp2
 have a:(w.alloc (.cells #[Y 2,Y 2,Y k] 107)).drew.rangeAt w.1.size 0 [Y 2,Y 2,Y k]:=aS w #[Y 2,Y 2,Y k] 107
 refine bodyPost_ret (fC results77 _ _ _ w.1.size rfl _ (eO a 107 _ underlying107 rfl Tryz.PT)) rfl ⟨k,?_,rfl,bg (cy w _ none)⟩
 rw[<-b];exact n.len
theorem GL(g)(i)(M)(w)(h:fO w g i M):Calls prog 41 #[N g 0] w λe a=>PU w e a:=by
 have d:=I (cy w (.cells #[Y 0,Y 0,Y 0] 107) none)
 have l:Hid (b9 (w.alloc (.cells #[Y 0,Y 0,Y 0] 107)) w.1.size 3):=b9.new w _ _
 have f:=I (Jk g i M _ (h.grown d))
 clear h
 go_in
 go_wp2_with fail
 refine f.mono ?_
 rintro e x ⟨k,h,rfl,b⟩
 have L:=l.grown b
 obtain⟨p,m⟩:=cD.1 (L.some 0 H)
 obtain⟨q,n⟩:=cD.1 (L.some 1 H)
 obtain⟨r,o⟩:=cD.1 (L.some 2 H)
 have t:=L.frozen 0
 have u:=L.frozen 1
 have v:=L.frozen 2
 have j:=I (aa d b)
 have a:=I h
 clear L b f h
 go_wp2
 refine bodyPost_ret (fC results41 _ _ _ w.1.size rfl _ (eO (abV _ w.1.size _ _ _ m n o) 107 _ underlying107 rfl Tryz.PT)) rfl ⟨k,a,rfl,?_⟩
 repeat refine aB ?_ (cA _)
 exact j.o
theorem DF(h:p:=by rw[hw2];exact fK w1.1.size (cA _) cs.toList 0 _ (cy w1 _ none)):p:=h
theorem Tryz.Ce:(prog.info? 155).map (·.size)=some 824:=by kernel_rfl
theorem Tryz.nM:zeroCells155.size=824:=by kernel_rfl
theorem Tryz.GN:zeroCells159.size=824:=by kernel_rfl
theorem Tryz.Ba:zeroCells155.all (·.oneCell')=true:=by kernel_rfl
theorem Tryz.Mq:zeroCells155[220]?=some (Y 0):=by kernel_rfl
theorem Tryz.Mr:zeroCells155[221]?=some (Y 0):=by kernel_rfl
theorem Tryz.Ms:zeroCells155[522]?=some (.bool false):=by kernel_rfl
theorem Tryz.Mt:zeroCells155[823]?=some (.bool false):=by kernel_rfl
theorem Cf(Z a:Array Value)(n)(h:a.size=n)(j:n<=Z.size):(Array.foldl (λa x=>a.setIfInBounds x.snd x.fst) Z a.zipIdx 0 n).size=Z.size/\∀i,(Array.foldl (λ(a:Array Value) (x:Value×Nat)=>a.setIfInBounds x.snd x.fst) Z a.zipIdx 0 n)[i]?=if i<n then a[i]? else Z[i]?:=by
 have e:Array.foldl (λ(a:Array Value) (x:Value×Nat)=>a.setIfInBounds x.snd x.fst) Z a.zipIdx 0 n=(a.toList.zipIdx 0).foldl (λ(b:Array Value) (x:Value×Nat)=>b.setIfInBounds x.snd x.fst) Z:=by
  rw[<-Array.toList_zipIdx,Array.foldl_toList,Array.size_zipIdx,h]
 have d:∀i,(Array.foldl (λ(a:Array Value) (x:Value×Nat)=>a.setIfInBounds x.snd x.fst) Z a.zipIdx 0 n)[i]?=if i<n then a[i]? else Z[i]?:=(by grind [PV])
 refine⟨?_,d⟩;have b:∀i,i<(Array.foldl (λ(a:Array Value) (x:Value×Nat)=>a.setIfInBounds x.snd x.fst) Z a.zipIdx 0 n).size↔i<Z.size:=λi=>by
  have:=d i;grind
 have f:=b Z.size;have g:=b (Array.foldl (λ(a:Array Value) (x:Value×Nat)=>a.setIfInBounds x.snd x.fst) Z a.zipIdx 0 n).size;omega
structure Cg(X:Array Value)(ax:Int)(dv:Value):Prop where
 size:X.size=824
 one:∀v∈X.toList,v.oneCell'=true
 bU:∀j,j<188->X[j]?=(eY zeroCells136.toList ax dv)[j]?
 rest:∀j,188<=j->X[j]?=zeroCells155[j]?
theorem Cg.made{X a:Array Value}{e:Int}{b:Value}(d:a=(eY zeroCells136.toList e b).toArray)(n:b.oneCell'=true)(h:Array.foldl (λa x=>a.setIfInBounds x.snd x.fst) zeroCells155 a.zipIdx 0 188=X):Cg X e b:=by
 have k:a.size=188:=by rw[d,List.size_toArray,jZ]
 obtain⟨f,g⟩:=Cf zeroCells155 a 188 k (by rw[Tryz.nM];omega);rw[h]at f g;refine⟨by rw[f,Tryz.nM],λv l=>?_,dT,dT⟩;obtain⟨i,o,rfl⟩:=List.getElem_of_mem l;have j:i<X.size:=G;have m:=g i;grind [Tryz.Ba,tQ]
theorem XK{W:World}{b:Nat}{X:Array Value}{m:Int}{i:Value}{o:Option Pl}{n:E}(p:dm W b X)(f:Cg X m i)(r:fA W i o n):fO W b o ⟨m,[],[],n⟩:=by
 have g:=λj=>p.cell j;have d:b9 W b 824:=by
  obtain⟨e,l⟩:=p;exact⟨_,e,l,by grind [Cg.size]⟩
 have t:zeroCells136.toList.length=188:=by rw[cV,Tryz.lS]
 have w:∀j,1<j->j<188->W.cell? (F b j)=zeroCells136[j]?:=λj k a=>by
  rw[g,f.bU j a,eY,fg G,fg G,Array.getElem?_toList]
 have a:∀j v,188<=j->zeroCells155[j]?=some v->W.cell? (F b j)=some v:=λj v k h=>by rw[g,f.rest j k,h]
 refine⟨⟨d.mono H,?_,⟨i,?_,r⟩,⟨d.mono H,λj u h=>by simp[dP]at h,?_,by simp⟩,λj u h=>by simp[cB]at h,?_,by simp⟩,⟨[],0,⟨d.mono H,λk q=>absurd q Z,a 220 _ H Tryz.Mq,a 221 _ H Tryz.Mr,by simp,by decide,λ_=>rfl⟩,λe l=>by cases l⟩,⟨d,a 522 _ H Tryz.Ms,a 823 _ H Tryz.Mt⟩⟩
 .rw[g,f.bU 0 H,eY,fg G,dj G]
 .rw[g,f.bU 1 H,eY,dj (by rw[eA];omega)]
 .grind [Tryz.De]
 grind [Tryz.Df]
theorem PX(i)(v)(n)(l)(w)(f:0<=i)(g:i<=300)(C:∀w1,w.grownBy w1 none->Calls prog 91 #[v] w1 λe b=>∃d c,e=.returned (.agg #[.slice d n c])/\b.ownsRow w1.1.size 5 1 (.slice d n c) n l/\w1.grownBy b none):Calls prog 52 #[Y i,v] w λe b=>∃X d c,e=.returned (.tuple #[.agg X,Y 0])/\Cg X i (.slice d n c)/\b.ownsRow (w.1.size+1) 5 1 (.slice d n c) n l/\w.grownBy b none:=by
 have y:=I (cy w (.cells zeroCells155 155) none)
 have o:Hid (b9 (w.alloc (.cells zeroCells155 155)) w.1.size 824):=by
  have h:=b9.new w zeroCells155 155;rw[Tryz.nM]at h;exact h
 have A:=I (Fx i v n l (w.alloc (.cells zeroCells155 155)) f g (λw1 k=>C w1 (aa y k)))
 clear C f g
 go_in
 go_wp2_with fail
 refine A.mono ?_
 rintro e w1 ⟨d,c,rfl,own,h⟩
 obtain⟨cs,f⟩:∃cs:Array Value,Hid (cs=(eY zeroCells136.toList i (.slice d n c)).toArray):=⟨_,I rfl⟩
 rw[<-f]
 have k:=b9.new w1 zeroCells136 136
 rw[Tryz.lS]at k
 have hcs:cs.size=188:=by rw[f,List.size_toArray,jZ]
 have u:=dZ (P:=prog) cs.toList k tx (λv b=>tQ _ _ rfl v (by rw[f]at b;exact b))
 have r:=World.rangeAt_setCells_same (w1.alloc (.cells zeroCells136 136)) w1.1.size 0 cs.toList (k.there 0 _ (by rw[cV,hcs];omega))
 have C:(prog.info? 136).map (·.size)=some cs.toList.length:=by rw[Tryz.xh,cV,hcs]
 obtain⟨j,hw2⟩:=aw ((w1.alloc (.cells zeroCells136 136)).setCells w1.1.size 0 cs.toList)
 have GW:w1.grownBy j none:=DF
 rw[<-hw2]at r u
 obtain⟨X,R⟩:=aq (Array.foldl (λcs x=>cs.setIfInBounds x.snd x.fst) zeroCells155 cs.zipIdx 0 188)
 have g:=Cg.made f rfl R
 have p:=(o.grown h).grown GW
 have Q:=dZ (P:=prog) X.toList p (by rw[cV,g.size];exact cA _) g.one
 have RB:=World.rangeAt_setCells_same j w.1.size 0 X.toList (p.there 0 _ (by rw[cV,g.size];omega))
 have M:=I (eO RB 155 _ underlying155 rfl (by rw[Tryz.Ce,cV,g.size]))
 have L:=I g
 have B:=I (cZ r C)
 have m:=I (fK w.1.size (cA _) X.toList 0 j (aa (aa y h) GW))
 have D:w1.ownsRow (w.1.size+1) 5 1 (.slice d n c) n l:=dw own (by rw[cG];omega)
 have K:Hid ((j.setCells w.1.size 0 X.toList).ownsRow (w.1.size+1) 5 1 (.slice d n c) n l):=by
  have J:=World.ownsRow.kept D GW (fm _);refine dh J (λb q=>?_);have t:=J.lt b q;exact(CF.setCells (a:=j) (ex:=λq _=>q=w.1.size) w.1.size _ 0 j (CF.refl _ _) (λ_ _ _=>rfl)).block b t.2 (λ_ q=>by omega)
 have b:=I hw2
 have q:=g.size
 clear r C k p RB own D h GW g hw2 A
 go_wp2_with (first|(rw[<-b];fail_if_success done)|(refine wpList_load_mid rfl 136 _ rfl w1.1.size 0 rfl cs.toList _ B.1 underlying136 rfl B.2 ?_))
 exact bodyPost_ret (aG results52 _ _ _ w.1.size rfl _ M) rfl ⟨X,d,c,rfl,L,K,m⟩
theorem PY(g)(v)(n)(p)(w)(f:0<=g)(i:g<=300)(C:∀a,w.grownBy a none->Calls prog 91 #[v] a λe d=>∃o c,e=.returned (.agg #[.slice o n c])/\d.ownsRow a.1.size 5 1 (.slice o n c) n (p.map U8)/\a.grownBy d none):Calls prog 28 #[Y g,v] w λe d=>∃b h,e=.returned (.tuple #[N b 0,Y 0])/\fO d b h ⟨g,[],[],p⟩/\w.1.size<=b/\Pl.fresh w.1.size h/\(∀q,h=some q->q.g≠b)/\w.grownBy d none:=by
 have u:=I (PX g v n (p.map U8) w f i C)
 clear C f i
 go_in
 go_wp2_with fail
 refine u.mono ?_
 rintro e a ⟨X,o,c,rfl,l,own,j⟩
 have b:=l.size
 have k:=b9.new a zeroCells155 155
 rw[Tryz.nM]at k
 have r:=dZ (P:=prog) X.toList k (by rw[cV,b];exact cA _) l.one
 have m:=World.rangeAt_setCells_same (a.alloc (.cells zeroCells155 155)) a.1.size 0 X.toList (k.there 0 _ (by rw[cV,b];omega))
 have y:(prog.info? 155).map (·.size)=some X.toList.length:=by rw[Tryz.Ce,cV,b]
 obtain⟨t,d⟩:=aw ((a.alloc (.cells zeroCells155 155)).setCells a.1.size 0 X.toList)
 have GW:a.grownBy t none:=by rw[d];exact fK a.1.size (cA _) X.toList 0 _ (cy a _ none)
 rw[<-d]at m r
 have C:Array.foldl (λf x=>f.setIfInBounds x.snd x.fst) zeroCells159 X.zipIdx 0 824=X:=by
  obtain⟨A,x⟩:=Cf zeroCells159 X 824 b (by rw[Tryz.GN];exact cA _);refine Array.ext_getElem? λi=>?_;rw[x i];by_cases f:i<824
  .rw[dQ f]
  .rw[b' f,fy (by rw[Tryz.GN];omega),fy G]
 have B:=I l
 have x:=I (cZ m y)
 have i:=I d
 have f:=I (cZ j GW)
 have A:=I own
 clear m y k own j GW l d u
 go_wp2_with (first|(rw[<-i];fail_if_success done)|(refine wpList_load_mid rfl 155 _ rfl a.1.size 0 rfl X.toList _ x.1 underlying155 rfl x.2 ?_))
 have j:=cy t (.cells X 159) none
 obtain⟨h,k,d⟩:=fA.own A.o
 have l:=k.grown (aa f.2 j)
 have m:=λq e=>k.Iw q e
 have u:=f.1.size
 have y:=f.2.size
 go_ret2
 exact⟨_,h,rfl,XK (dm.new t X _) B l,by omega,λq e=>by have:=d q e;omega,λq e=>by have:=m q e;omega,aa (aa f.1 f.2) j⟩
theorem On(n c:Nat)(w:World):Calls prog 91 #[.slice none n c] w λe a=>e=.returned (.agg #[σ])/\w.grownBy a none:=by
 have b:=I (cy w (.cells #[σ] 122) none);have L:b9 (w.alloc (.cells #[σ] 122)) w.1.size 1:=b9.new w _ _;have d:=L.frozen 0;clear L;go_in;go_wp2_with fail;refine(Tryz.bytes_Clone_nil n c _).mono ?_;rintro e f ⟨rfl,rfl⟩;go_wp2;refine bodyPost_ret (fC results91 _ _ _ w.1.size rfl _ (eO (cs:=[σ]) (λj u a=>?_) 122 _ underlying122 rfl Tryz.JW)) rfl ⟨rfl,?_⟩
 .match j,a with
  |0,a=>injection a with a;subst a;rw[World.cell?_alloc_at (hn:=rfl)];rfl
  |j+1,a=>simp at a
 .exact b.o
theorem Vx{f:E}{n:Nat}{a:Option Addr}{b:Nat}{m:Option Nat}{q w:World}(l:Hid (f.length=n))(p:n<=140737488355328)(h:lI q w a b f m)(d:World)(k:w.grownBy d none):Calls prog 91 #[.slice a n b] d λe i=>∃g c,e=.returned (.agg #[.slice g n c])/\i.ownsRow d.1.size 5 1 (.slice g n c) n (f.map U8)/\d.grownBy i none:=by
 have e:=(h.grown k).at
 rcases h with⟨rfl,rfl,rfl,_⟩|⟨g,rfl,_⟩
 .obtain rfl:0=n:=l.o;refine(On 0 0 d).mono ?_;grind [World.ownsRow_nil]
 .refine(PQ ⟨g,0,none⟩ n b f d l p (λi o=>?_)).mono ?_
  .have j:i<f.length:=(by rw[l];exact o);have:=e.cells i j;grind [Addr.add_lit]
  grind [bA]
theorem abW{Z a X:Array Value}{n:Nat}(h:a.size=n)(g:n<=Z.size)(f:Array.foldl (λ(a:Array Value) (x:Value×Nat)=>a.setIfInBounds x.snd x.fst) Z a.zipIdx 0 n=X)(k:∀v∈a.toList,v.oneCell'=true)(l:∀v∈Z.toList,v.oneCell'=true):X.size=Z.size/\∀v∈X.toList,v.oneCell'=true:=by
 obtain⟨b,d⟩:=Cf Z a n h g;rw[f]at b d;refine⟨b,λv j=>?_⟩;obtain⟨i,m,rfl⟩:=List.getElem_of_mem j;have e:=d i;grind
theorem Mv(f:Int)(v:Value)(w:World)(h:f<0\/300<f):Calls prog 52 #[Y f,v] w λe a=>∃X:Array Value,X.size=824/\(∀v∈X.toList,v.oneCell'=true)/\e=.returned (.tuple #[.agg X,Y 1])/\w.grownBy a none:=by
 have t:=I (cy w (.cells zeroCells155 155) none)
 have i:Hid (b9 (w.alloc (.cells zeroCells155 155)) w.1.size 824):=by
  have h:=b9.new w zeroCells155 155;rw[Tryz.nM]at h;exact h
 have o:=I (CE f v (w.alloc (.cells zeroCells155 155)) h)
 clear h
 go_in
 go_wp2_with fail
 refine o.mono ?_
 rintro e w1 ⟨cs,hcs,m,rfl,b⟩
 have d:=b9.new w1 zeroCells136 136
 rw[Tryz.lS]at d
 have n:=dZ (P:=prog) cs.toList d tx m
 have l:=World.rangeAt_setCells_same (w1.alloc (.cells zeroCells136 136)) w1.1.size 0 cs.toList (d.there 0 _ (by rw[cV,hcs];omega))
 have r:(prog.info? 136).map (·.size)=some cs.toList.length:=by rw[Tryz.xh,cV,hcs]
 obtain⟨g,hw2⟩:=aw ((w1.alloc (.cells zeroCells136 136)).setCells w1.1.size 0 cs.toList)
 have GW:w1.grownBy g none:=DF
 rw[<-hw2]at l n
 obtain⟨X,A⟩:=aq (Array.foldl (λcs x=>cs.setIfInBounds x.snd x.fst) zeroCells155 cs.zipIdx 0 188)
 have a:=abW hcs (by rw[Tryz.nM];decide) A m (λv h=>by have:=Tryz.Ba;rw[Array.all_eq_true_iff_forall_mem]at this;exact this v (Array.mem_toList_iff.1 h))
 rw[Tryz.nM]at a
 have k:b9 g w.1.size 824:=(i.grown b).grown GW
 have y:=dZ (P:=prog) X.toList k (by rw[cV,a.1];exact cA _) a.2
 have RB:=World.rangeAt_setCells_same g w.1.size 0 X.toList (k.there 0 _ (by rw[cV,a.1];omega))
 have u:=I (eO RB 155 _ underlying155 rfl (by rw[Tryz.Ce,cV,a.1]))
 have p:=I a
 have q:=I (cZ l r)
 have h:=I (fK w.1.size (cA _) X.toList 0 g (aa (aa t b) GW))
 have j:=I hw2
 have B:=a.1
 clear l r d k RB m b GW a hw2 o
 go_wp2_with (first|(rw[<-j];fail_if_success done)|(refine wpList_load_mid rfl 136 _ rfl w1.1.size 0 rfl cs.toList _ q.1 underlying136 rfl q.2 ?_))
 exact bodyPost_ret (aG results52 _ _ _ w.1.size rfl _ u) rfl ⟨X,p.1,p.2,rfl,h⟩
theorem Mw(b:Int)(v:Value)(w:World)(h:b<0\/300<b):Calls prog 28 #[Y b,v] w λe a=>e=.returned (.tuple #[.pointer none,Y 1])/\w.grownBy a none:=by
 have g:=I (Mv b v w h)
 clear h
 go_in
 go_wp2_with fail
 refine g.mono ?_
 rintro e f ⟨h,hcs,i,rfl,a⟩
 have d:=b9.new f zeroCells155 155
 rw[Tryz.nM]at d
 have j:=dZ (P:=prog) h.toList d tx i
 have GW:=I (aa a (fK f.1.size (cA _) h.toList 0 _ (cy f (.cells zeroCells155 155) none)))
 clear d a i g
 go_wp2
 go_ret2
 exact⟨rfl,GW⟩
abbrev XL:=nC×Int×Value
def XL.cells(j:XL):List Value:=(gT j.1 j.2.1 j.2.2).toList
def eX(js:List XL):List Value:=(js.map XL.cells).flatten
def fG(ds:List (Value×Int)):List Value:=(ds.map λd=>[d.1,Y d.2]).flatten
theorem ug:∀a,(fG a).length=a.length*2
 | []=>rfl
 |d::a=>by
  have h:=ug a
  grind [fG]
theorem DK(a)(v)(r):fG (a++[(v,r)])=fG a++[v,Y r]:=by simp[fG]
theorem zi:∀(a)(i j)(b:i<a.length),j<9->(eX a)[i*9+j]?=(a[i]).cells[j]?:=by
 intro a;induction a with
 |nil=>intro i j b;simp at b
 |cons y a f=>
  intro i j b d;have e:y.cells.length=9:=rfl;cases i with
  |zero=>
   grind [eX]
  |succ i=>
   show(y.cells++eX a)[(i+1)*9+j]?=_;grind
theorem XM{W:World}{b k:Nat}{a:List Value}{g l:Value}(h:W.rangeAt b 0 a)(o:a.length=k*2)(p:W.c b (k*2)=some g)(q:W.c b (k*2+1)=some l)(e f):((W.setCell (F b (k*2)) e).setCell (F b (k*2+1)) f).rangeAt b 0 (a++[e,f]):=by
 intro j u d;have m:∀i,i≠k*2->(⟨b,k*2,none⟩:Addr)≠⟨b,i,none⟩:=dT;have n:∀i,i≠k*2+1->(⟨b,k*2+1,none⟩:Addr)≠⟨b,i,none⟩:=dT;rw[cR];by_cases i:j<k*2
 .rw[cX G]at d;rw[j9 _ _ _ _ (n j G),j9 _ _ _ _ (m j G)];have:=h j u d;rwa [cR]at this
 exact Bk
theorem Mx{w d:World}{b o:Nat}{a:List Value}(h:w.rangeAt b o a)(k:w.grownBy d none):d.rangeAt b o a:=λi v e=>k.cell (h i v e) Z
def GQ(w:World)(g n:Nat)(I:List (Value×Int)->World->Prop)(e:Ending)(w':World):Prop:=
 ∃(ob:Nat) (ds:List (Value×Int)),e=.returned (.tuple #[ς ob 0 n n,Y 0])/\ob=w.1.size/\b9 w' ob (n*2)/\ds.length=n/\I ds w'/\w'.rangeAt ob 0 (fG ds)/\CF w w' (λb _=>b=g)
theorem Tryz.abX:(prog.info? 110).map (λi=>(i.zero,i.size,i.bytes))=some (some (.agg #[σ,Y 0]),2,32):=by kernel_rfl
theorem PZ(g y)(n S)(o)(w)(l:List (Value×Int)->World->Prop)(hn:Hid (o.length=n))(ab:n<=16)(M:∀j∈o,∃t m c,j.2.2=.slice t m c)(U:w.rangeAt y 0 (eX o))(v:y<w.1.size)(u:y≠g)(T:g<w.1.size)(i:l [] w)(D:∀f W a,l f W->CF W a (λb _=>b=w.1.size)->l f a)(step:∀f W(h:f.length<o.length),w.1.size<W.1.size->l f W->Calls prog 149 #[.iface 247 (N g 0),.agg (gT (o[f.length]).1 (o[f.length]).2.1 (o[f.length]).2.2)] W λe a=>∃J L K r,e=.returned (.agg #[.slice J L K,Y r])/\l (f++[(.slice J L K,r)]) a/\CF W a (λb _=>b=g)):Calls prog 118 #[.iface 247 (N g 0),ς y 0 n S] w λe a=>GQ w g n l e a:=by
 obtain⟨i0,q,x,d,B⟩:=info_parts Tryz.abX
 have p:=run_makeSlice (P:=prog) w 66 110 i0 _ underlying66 q x .i64 .i64 (n:Int) (n:Int) G (Int.le_refl _) (by rw[d];omega) (by rw[B];omega) G
 rw[d]at p
 simp only[Int.toNat_natCast]at p
 obtain⟨Z,Q⟩:=aq (madeCells (Value.agg #[σ,Y 0]).cells (n*2))
 have k:Z.size=n*2:=by rw[<-Q];exact size_madeCells _ _
 rw[Q]at p
 obtain⟨A,a⟩:=aq (w.alloc (.cells Z 110))
 have C:w.grownBy A none:=by rw[<-a];exact cy w _ none
 have Ey:Hid (b9 A w.1.size (n*2)):=by show b9 _ _ _;rw[<-a,<-k];exact b9.new w _ _
 have R:Hid (l [] A):=D [] w A i (CF.bD C _)
 have sU:Hid (CF w A (λb _=>b=g)):=CF.bD C _
 rw[a]at p
 have HJ:=I U
 have V:=I D
 have kU:=I step
 have HV:=I M
 have X:=I hn.o
 have W:=I (cZ v (cZ u T))
 clear Q k a C U D step M i hn v u T q x d B
 have ad:¬ (16:Int)<(n:Int):=G
 go_in
 go_wp2
 go_loopw [7,8,17] (λ_ _ i wr=>∃(k:Nat) (f:List (Value×Int)),k<=n/\i = Y k/\f.length=k/\l f wr/\b9 wr w.1.size (n*2)/\wr.rangeAt w.1.size 0 (fG f)/\CF w wr (λb _=>b=g)) (λ_ _ i _=>n-(intOf i).toNat)
 case atStart=>exact⟨0,[],cS _,rfl,rfl,R,Ey,λj v M=>by simp[fG]at M,sU.o⟩
 case round=>
  obtain⟨k,f,hk,rfl,x,d,q,u,a⟩:=hrel;have i:=I (cZ x (cZ d (cZ q (cZ u a))));clear x d q u a;by_cases C:k<n
  .have gN:f.length<o.length:=(by rw[i.1,X];exact C);have B:k<o.length:=(by rw[X];exact C);obtain⟨⟨a,q,v⟩,Q⟩:∃x,o[k]=x:=⟨_,rfl⟩
   obtain⟨t,m,c,D⟩:=HV _ (eh B);rw[Q]at D;obtain rfl:v=.slice t m c:=D;have d:∀j u,((gT a q (.slice t m c)).toList)[j]?=some u->wr.c y (k*9+j)=some u:=λj u U=>by
    have T:j<9:=(cM.1 U).1;have h:=(i.2.2.2.2.range HJ (λ_ _ e=>W.2.1 e)) (k*9+j) u (by rw[zi o k j B T,Q];exact U);rwa [cR]at h
   have e0:wr.c y (k*9)=some (Y a.kind):=d 0 _ rfl;have e1:=d 1 _ rfl;have e2:=d 2 _ rfl;have e3:=d 3 _ rfl;have e4:=d 4 _ rfl;have e5:=d 5 _ rfl;have e6:=d 6 _ rfl;have e7:=d 7 _ rfl;have e8:=d 8 _ rfl;have h:=I (cy wr (.cells (gT a q (.slice t m c)) 194) none);have j:=kU f _ gN (fW i.2.2.1.lt h.size) (V f wr _ i.2.1 (CF.bD h _));have u:o[f.length]=(a,q,.slice t m c):=(by rw[<-Q];congr 1;exact i.1);rw[u]at j;have U:=I j;have nG:(k:Int)<(n:Int):=G;have ae:(0:Int)<=(k:Int):=G;clear j u d Q gN;go_wp2_with (first|(go_at_call 149;refine U.mono ?_;clear U;rintro e T ⟨J,L,K,r,rfl,P2,j⟩;have YT:=I P2;have yI:=I j;have d:=(i.2.2.1.grown h).cf j;obtain⟨d0,q0⟩:=cD.1 (d.some (k*2) G);obtain⟨d1,q1⟩:=cD.1 (d.some (k*2+1) G);have f0:=d.frozen (k*2);have f1:=d.frozen (k*2+1);have u:=I d;clear P2 j d))
   go_roundw
   case rel=>
    have j:CF T ((T.setCell (F w.1.size (k*2)) (.slice J L K)).setCell (F w.1.size (k*2+1)) (Y r)) (λb _=>b=w.1.size):=((CF.refl T (λb _=>b=w.1.size)).setCell w.1.size (k*2) _ (λ_=>rfl)).setCell w.1.size (k*2+1) _ (λ_=>rfl);have d:=(yI.range (Mx (i.2.2.2.1) h) (λ_ _ e=>by have:=W.2.2;omega))
    refine⟨k+1,f++[(.slice J L K,r)],by omega,by go_num,by simp[i.o.1],V.o _ _ _ YT.o j,u.o.cf j,?_,?_⟩
    .rw[DK];exact XM d (by rw[ug,i.1]) q0 q1 _ _
    .exact((i.2.2.2.2.trans (CF.bD h (λb _=>b=g)) (λ_ _ _ e=>e)).trans yI (λ_ _ _ e=>e)).trans j (λ_ _ U e=>by omega)
   case measure=>simp[intOf];omega
  .have b:k=n:=G;subst b;go_wp2;go_ret2;exact⟨_,f,rfl,rfl,i.2.2.1,i.1,i.2.1,i.2.2.2.1,i.2.2.2.2⟩
