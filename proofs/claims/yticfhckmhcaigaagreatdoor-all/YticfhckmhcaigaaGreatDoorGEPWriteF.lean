import Derived.Test.YticfhckmhcaigaaGreatDoorGERBoxG
import Derived.Deep.RegionHeld3
namespace Go.Proofs.YticfhckmhcaigaaGreatDoor
set_option maxHeartbeats 1000000
open Go.RowKit
set_option maxRecDepth 100000
variable {bs:E}{b:Nat}{p:Option Pl}{v:Value}{W w:World}
structure RP where
 t:TK
 aV:E
 Au:Int
 Fa:UInt64
 wm:UInt64
 bW:Int
 zx:Int
 IY:UInt64
 wW:UInt64
def RP.cells(r:RP):List Value:=[Y r.t.ae,O (r.t.aO.toNat:Int),.string ⟨r.t.az.toArray⟩,Y r.t.dY,Y r.t.start,Y r.t.fin,Y r.t.aD,.string ⟨r.aV.toArray⟩,Y r.Au,O (r.Fa.toNat:Int),O (r.wm.toNat:Int),Y r.bW,Y r.zx,O (r.IY.toNat:Int),O (r.wW.toNat:Int)]
structure RP.Fits(r:RP):Prop where
 ae:bT r.t.ae
 dY:bT r.t.dY
 start:bT r.t.start
 fin:bT r.t.fin
 aD:bT r.t.aD
 Au:bT r.Au
 bW:bT r.bW
 zx:bT r.zx
 az:r.t.az.length<=1000
 aV:r.aV.length<=1000
def nW(w:World)(b:Nat)(r:RP):Prop:=w.rangeAt b 0 r.cells
def mL(p:Option Pl)(b:Nat):Prop:=∀q,p=some q->b≠q.g
theorem nW.at{r:RP}(h:nW w b r)(k)(v)(a:r.cells[k]?=some v):w.cell? (F b k)=some v:=by
 have:=h k v a;rwa [cR]at this
theorem nW.cf{a:World}{r:RP}(h:nW w b r)(k:CF w a (Pl.has p))(o:mL p b):nW a b r:=
 k.range h (λj _=>by rintro⟨q,d,e,_⟩;exact o q d e)
theorem nW.grown{a:World}{r:RP}(h:nW w b r)(k:w.grownBy a none):nW a b r:=
 (CF.bD k (λ_ _=>False)).range h (λ_ _ e=>e)
def lB(w:World)(b:Nat)(r:RP)(p:Option Pl)(W:World)(v:Value)(bs:E):Prop:=
 ∃p1,fA W v p1 bs/\(CF w W (Pl.has p)/\(p1=p\/Pl.fresh w.1.size p1)/\∀q,p=some q->bs.length<=q.cap->p1=p)/\nW W b r/\mL p1 b/\b<w.1.size/\mL p b
theorem lB.start{r:RP}(h:fA w v p bs)(d:nW w b r)(a:b<w.1.size)(o:mL p b):lB w b r p w v bs:=
 ⟨p,h,⟨CF.refl _ _,.inl rfl,λ_ _ _=>rfl⟩,d,o,a,o⟩
theorem lB.more{r:RP}(h:lB w b r p W v bs):aU w W v p bs:=by
 obtain⟨e,a,d,_⟩:=h;exact⟨e,a,d⟩
theorem lB.rp{r:RP}(h:lB w b r p W v bs):nW W b r:=by
 obtain⟨f,d,e,a,_⟩:=h;exact a
theorem lB.call{P:Program}{f:Nat}{a:Array Value}{r:RP}{d:E}(h:lB w b r p W v bs)(B:bs.length<=d.length)(k:∀i,fA W v i bs->mL i b->b<W.1.size->nW W b r->Calls P f a W λe j=>∃g,e=.returned g/\aU W j g i d):Calls P f a W λe j=>∃g,e=.returned g/\lB w b r p j g d:=by
 obtain⟨i,y,m,n,o,t,u⟩:=h
 have A:=fW t m.1.size
 refine(k i y o A n).mono ?_
 rintro e j ⟨g,rfl,R⟩
 refine⟨g,rfl,?_⟩
 have l:=R.cf
 obtain⟨J,D,x⟩:=aU.comp m R B
 refine⟨J,D,x,n.cf l o,?_,t,u⟩
 rcases x.2.1 with e|e
 .rw[e];exact u
 .intro q C;have:=e q C;omega
theorem lB.shape{r:RP}{n:Nat}(h:lB w b r p W v bs)(f:Hid (bs.length=n)):∃d a,v=.slice d n a/\n<=a/\a<=9223372036854775807:=by
 obtain⟨j,e,_⟩:=h;obtain⟨d,a,e,g,i,_⟩:=e.open f;grind
theorem lB.drewN{r:RP}(h:lB w b r p W v bs)(n):lB w b r p (W.drewN n) v bs:=by
 obtain⟨g,d,a,e,f⟩:=h;exact⟨g,d,⟨a.1.drewN n,a.2⟩,e,f⟩
theorem lB.cast{r:RP}{bs':E}(h:lB w b r p W v bs)(e:bs=bs'):lB w b r p W v bs':=e▸h
theorem qL(m)(p)(bs)(b)(r)(w)(l:fA w m p bs)(h:nW w b r)(j:mL p b)(B:r.Fits)(C:bs.length<=700000):Calls Tryz.prog 253 #[N b 0,m] w λe i=>∃a,e=.returned a/\aU w i a p (bs++iF [r.t.dY,r.t.start,r.t.fin,r.t.aD]):=by
 have v:=h.at 3 _ rfl
 have x:=h.at 4 _ rfl
 have y:=h.at 5 _ rfl
 have A:=h.at 6 _ rfl
 have n:Hid (∀W g,w.grownBy W none->W.rangeAt g 0 ([r.t.dY,r.t.start,r.t.fin,r.t.aD].map uv)->w.1.size<=g->Calls Tryz.prog 227 #[m,ς g 0 4 4] W λe i=>∃a,e=.returned a/\aU w i a p (bs++iF [r.t.dY,r.t.start,r.t.fin,r.t.aD])):=by
  intro W g a d k;refine(nV _ p bs _ g 4 4 W (l.grown a) d (λq f e=>?_) (I rfl) ?_ G G).mono (by grind [aU.before])
  .have:=l.Iw q f;omega
  grind [RP.Fits.aD,RP.Fits.start,RP.Fits.fin,RP.Fits.dY]
 have o:Hid (∀W,CF w W (Pl.has p)->W.c b 3=some (Y r.t.dY)/\W.c b 4=some (Y r.t.start)/\W.c b 5=some (Y r.t.fin)/\W.c b 6=some (Y r.t.aD)):=
  λW k=>⟨(h.cf k j).at 3 _ rfl,(h.cf k j).at 4 _ rfl,(h.cf k j).at 5 _ rfl,(h.cf k j).at 6 _ rfl⟩
 obtain⟨k,a⟩:=aq r.t.dY
 obtain⟨q,d⟩:=aq r.t.start
 obtain⟨t,f⟩:=aq r.t.fin
 obtain⟨u,g⟩:=aq r.t.aD
 rw[a]at v
 rw[d]at x
 rw[f]at y
 rw[g]at A
 rw[a,d,f,g]at n o
 rw[a,d,f,g]
 clear a d f g h B l j
 go_enter Tryz.func253,Tryz.ntmps253
 go_wp2_with fail
 go_region_held3 (λi=>i.c b 3=some (Y k)/\i.c b 4=some (Y q)/\i.c b 5=some (Y t)/\i.c b 6=some (Y u)) (go_keep) (first|(go_at_call 227;refine(n _ _ ?gg ?gr ?gl).mono ?_;(case gg=>exact aN (cy _ _ none) _);(case gr=>exact aS _ _ _);(case gl=>exact cA _);rintro e f ⟨B,rfl,d⟩;obtain⟨g,h,j,l⟩:=o f d.cf;have a:=I d;clear d))
 go_wp2
 go_ret
 exact⟨_,rfl,a⟩
set_option maxHeartbeats 2000000
open Proofs.Tryz
theorem oS{p:Prop}(h:p:=by have:=HL.o;simp only[cF];omega):p:=h
theorem qy(l):(dC l).length<=l.length+4:=nU 4 l
theorem Fb(k):(nQ k).length<=12:=by
 have:=qy (Pure.be k 8);rw[Pure.dB]at this;exact this
theorem mI(a b:E):a.length<=(a++b).length:=by grind
def RP.times(r:RP):E:=iF [r.t.dY,r.t.start,r.t.fin,r.t.aD]
theorem RP.zy(r:RP):r.times.length<=40:=lK _
def RP.gM(r:RP):E:=bV r.t.ae++(nQ r.t.aO++(dC r.t.az++r.times))
def RP.lQ(r:RP):E:=nQ r.t.aO++(iF [r.bW,r.t.ae]++(r.times++dC r.aV))
def RP.ticket(r:RP):E:=Box.box 48 (dC r.aV++(bV r.Au++dC (Pure.eB r.Fa 2 r.wm (Box.box 48 r.gM))))
def RP.part(r:RP)(use:UInt64):E:=Box.box 48 (bV r.zx++dC (Pure.eB r.IY use r.wW (Box.box 48 r.lQ)))
theorem Cd{p:Prop}(h:p:=by
 rw[e]
 refine(hC.cast (bs':=bs++Z) (by rw[<-hZ];simp only[eg])).call ?_ (λp1 o1 h1 h2 h3=>o9 _ p1 bs Z 48 n0 _ _ o1 HN0 rfl G (by have:=HN0.o;omega))
 rw[cF,cF]
 exact Nat.add_le_add_left (uj 48 Z) _):p:=h
theorem BI(J)(p)(bs)(b)(r)(w)(j:fA w J p bs)(k:nW w b r)(n:b<w.1.size)(U:mL p b)(g:r.Fits)(u:bs.length<=400000):Calls prog 239 #[N b 0,J] w λe l=>∃d,e=.returned d/\aU w l d p (bs++r.ticket):=by
 have i:=I g
 obtain⟨n0,f⟩:=aq bs.length
 obtain⟨q,a⟩:=aq ((bs++dC r.aV++bV r.Au).length)
 have HN0:=I f
 have m:=I a
 have Q:(dC r.aV).length<=1004/\(bV r.Au).length<=10/\(bV r.t.ae).length<=10/\(nQ r.t.aO).length<=12/\(dC r.t.az).length<=1004/\r.times.length<=40:=
  ⟨by have:=qy r.aV;have:=g.aV;omega,(fB _).2,(fB _).2,Fb _,by have:=qy r.t.az;have:=g.az;omega,r.zy⟩
 obtain⟨v,x,y,A,B,C⟩:=Q
 have M:q<=402000:=by rw[<-a];simp only[cF];omega
 have K:n0<=400000:=G
 have HL:=I (cZ u (cZ v (cZ x (cZ y (cZ A (cZ B C))))))
 have t:=I (lB.start j k n U)
 have c0:=k.at 7 _ rfl
 obtain⟨X,P,rfl,D,S,h,_⟩:=j.open HN0
 clear j k h f a u v x y A B C g
 go_in
 go_wp2_with (first
  |(go_at_call 238;refine(t.call (mI _ (dC r.aV)) (λp1 o1 h1 h2 h3=>nT _ p1 _ _ _ o1 (by have:=i.aV;omega) (by have:=HL.1;omega))).mono ?_;clear t;rintro e w1 ⟨v1,rfl,f⟩;have c1:=f.rp.at 8 _ rfl;have u:=I f;clear f)
  |(go_at_call 237;refine(u.call (mI _ (bV r.Au)) (λp1 o1 h1 h2 h3=>nS _ p1 _ _ _ o1 i.Au.1 i.Au.2 oS)).mono ?_;clear u;rintro e w2 ⟨v2,rfl,k⟩;have c2:=k.rp.at 0 _ rfl;have v:=I k;obtain⟨L,C,rfl,R,T⟩:=k.shape m;clear k)
  |(go_at_call 248;refine(v.call (mI _ (bV r.t.ae)) (λp1 o1 h1 h2 h3=>qU _ p1 _ _ _ o1 i.ae.1 i.ae.2 oS)).mono ?_;clear v;rintro e w3 ⟨v3,rfl,g⟩;have c3:=g.rp.at 1 _ rfl;have x:=I g;clear g)
  |(go_at_call 252;refine(x.call (mI _ (nQ r.t.aO)) (λp1 o1 h1 h2 h3=>yV _ p1 _ _ _ o1 oS)).mono ?_;clear x;rintro e w4 ⟨v4,rfl,h⟩;have c4:=h.rp.at 2 _ rfl;have y:=I h;clear h)
  |(go_at_call 238;refine(y.call (mI _ (dC r.t.az)) (λp1 o1 h1 h2 h3=>nT _ p1 _ _ _ o1 (by have:=i.az;omega) oS)).mono ?_;clear y;rintro e w5 ⟨v5,rfl,j⟩;have A:=I j;clear j)
  |(go_at_call 253;refine(A.call (mI _ r.times) (λp1 o1 h1 h2 h3=>qL _ p1 _ _ _ _ o1 h3 h1 i oS)).mono ?_;clear A;rintro e W ⟨V,rfl,a⟩;have c6:=a.rp.at 9 _ rfl;have c7:=a.rp.at 10 _ rfl;have B:=I a;clear a))
 have u:Hid (∀k,Calls prog 254 #[V,Y (q:Int),O (r.Fa.toNat:Int),Y 2,O (r.wm.toNat:Int)] (W.drewN k) λe f=>∃d,e=.returned d/\lB w b r p f d (bs++dC r.aV++bV r.Au++dC (Pure.eB r.Fa 2 r.wm (Box.box 48 r.gM)))):=by
  intro k;have g:r.gM.length<=3000:=by have:=HL.o;unfold RP.gM;simp only[cF];omega
  refine((B.drewN k).cast (bs':=bs++dC r.aV++bV r.Au++r.gM) (by simp[RP.gM,List.append_assoc])).call ?_ (λp1 o1 h1 h2 h3=>wV _ p1 _ _ r.Fa 2 r.wm _ _ q _ o1 m rfl (I rfl) H G (by have:=m.o;omega));have h1:=uj 4 (Pure.eB r.Fa 2 r.wm (Box.box 48 r.gM));have h2:=uj 48 r.gM;rw[Pure.bR]at h1;unfold dC;simp only[cF];omega
 clear B
 go_region_held3 (λl=>l.c b 9=some (O (r.Fa.toNat:Int))/\l.c b 10=some (O (r.wm.toNat:Int))) (go_keep) (first|(go_at_call 254;refine(u _).mono ?_;rintro e y ⟨k,rfl,a⟩;have v:=a.rp.at 9 _ rfl;have x:=a.rp.at 10 _ rfl;have h:=I a;clear a))
 have j:Hid (∀W,lB w b r p W k (bs++dC r.aV++bV r.Au++dC (Pure.eB r.Fa 2 r.wm (Box.box 48 r.gM)))->Calls prog 228 #[k,Y (n0:Int),.int .u8 48] W λe f=>∃d,e=.returned d/\lB w b r p f d (bs++r.ticket)):=by
  intro W hC;obtain⟨Z,hZ⟩:=aq (dC r.aV++(bV r.Au++dC (Pure.eB r.Fa 2 r.wm (Box.box 48 r.gM))));have a:Z.length<=6000:=by
   have:=HL.o;have h1:=nU 4 (Pure.eB r.Fa 2 r.wm (Box.box 48 r.gM));have h2:=nU 48 r.gM;rw[Pure.bR]at h1;have g:r.gM.length<=3000:=(by unfold RP.gM;simp only[cF];omega);rw[<-hZ];unfold dC at *;simp only[cF];omega
  have e:bs++r.ticket=bs++Box.box 48 Z:=by rw[RP.ticket,hZ]
  exact Cd
 clear u
 go_wp2_with (go_at_call 228;(first|refine(j _ h).mono ?_|refine(j _ (h.drewN _)).mono ?_);rintro e g ⟨f,rfl,a⟩;have d:=I a;clear a)
 go_wp2
 go_ret
 exact⟨_,rfl,d.more⟩
theorem lB.alg{P:Program}{f:Nat}{a:Array Value}{w:World}{b:Nat}{r:RP}{p:Option Pl}{W i:World}{v:Value}{m d:E}(h:lB w b r p W v m)(n:W.grownBy i none)(J:m.length<=d.length)(k:∀j,fA i v j m->(∀q,j=some q->q.g<W.1.size)->Calls P f a i λe l=>∃g,e=.returned g/\aU i l g j d):Calls P f a i λe l=>∃g,e=.returned g/\lB w b r p l g d:=by
 obtain⟨j,u,A,B,C,D,x⟩:=h
 refine(k j (u.grown n) (λq t=>u.Iw q t)).mono ?_
 rintro e l ⟨g,rfl,R⟩
 refine⟨g,rfl,?_⟩
 have o:=R.cf
 obtain⟨L,K,y⟩:=aU.comp A (R.before n) J
 refine⟨L,K,y,(B.grown n).cf o C,?_,D,x⟩
 rcases y.2.1 with e|e
 .rw[e];exact x
 .intro q t;have:=e q t;omega
theorem Fe(L)(p)(bs)(b)(r)(a)(x)(w)(l:fA w L p bs)(q:nW w b r)(t:b<w.1.size)(U:mL p b)(n:r.Fits)(V:Hid (x=a.toNat))(i:a.toNat<9223372036854775808)(y:bs.length<=400000):Calls prog 240 #[N b 0,L,Y x] w λe h=>∃d,e=.returned d/\aU w h d p (bs++r.part a):=by
 have j:=I n
 have M:=I i
 obtain⟨n0,g⟩:=aq bs.length
 obtain⟨u,f⟩:=aq ((bs++bV r.zx).length)
 have HN0:=I g
 have m:=I f
 have S:(dC r.aV).length<=1004/\(bV r.zx).length<=10/\(iF [r.bW,r.t.ae]).length<=20/\(nQ r.t.aO).length<=12/\r.times.length<=40:=
  ⟨by have:=qy r.aV;have:=n.aV;omega,(fB _).2,lK _,Fb _,r.zy⟩
 obtain⟨B,C,D,J,K⟩:=S
 have Q:u<=402000:=by rw[<-f];simp only[cF];omega
 have P:n0<=400000:=G
 have HL:=I (cZ y (cZ B (cZ C (cZ D (cZ J K)))))
 have v:=I (lB.start l q t U)
 have c0:=q.at 12 _ rfl
 obtain⟨X,R,rfl,A,T,k,_⟩:=l.open HN0
 clear l q k g f y B C D J K n i
 go_in
 go_wp2_with (first
  |(go_at_call 237;refine(v.call (mI _ (bV r.zx)) (λp1 o1 h1 h2 h3=>nS _ p1 _ _ _ o1 j.zx.1 j.zx.2 (by have:=HL.o;omega))).mono ?_;clear v;rintro e w2 ⟨W,rfl,g⟩;have K:=g.rp.at 1 _ rfl;have i:=I g;obtain⟨n,l,rfl,y,D⟩:=g.shape m;clear g)
  |(go_at_call 252;refine(i.call (mI _ (nQ r.t.aO)) (λp1 o1 h1 h2 h3=>yV _ p1 _ _ _ o1 oS)).mono ?_;clear i;rintro e q ⟨J,rfl,f⟩;have B:=f.rp.at 11 _ rfl;have C:=f.rp.at 0 _ rfl;have k:=I f;clear f))
 have n:Hid (∀W g,q.grownBy W none->W.rangeAt g 0 ([r.bW,r.t.ae].map uv)->q.1.size<=g->Calls prog 227 #[J,ς g 0 2 2] W λe h=>∃d,e=.returned d/\lB w b r p h d (bs++bV r.zx++nQ r.t.aO++iF [r.bW,r.t.ae])):=by
  intro W g i l D;refine k.alg i (mI _ _) (λp1 o1 h1=>nV _ p1 _ _ g 2 2 W o1 l (λq f e=>?_) (I rfl) ?_ G ?_)
  .have:=h1 q f;omega
  .intro y f;simp at f;rcases f with rfl|rfl
   .exact j.bW
   .exact j.ae
  .have:=HL.o;simp only[cF];omega
 clear k
 obtain⟨J,f⟩:=aq r.bW
 obtain⟨D,i⟩:=aq r.t.ae
 rw[f]at B
 rw[i]at C
 have g:=I (cZ f i)
 clear f i
 go_region_held3 (λh=>h.c b 11=some (Y J)/\h.c b 0=some (Y D)) (go_keep) (first|(go_at_call 227;refine(n _ _ ?gg ?gr ?gl).mono ?_;(case gg=>exact aN (cy _ _ none) _);(case gr=>rw[g.1,g.2];exact aS _ _ _);(case gl=>exact cA _);rintro e w5 ⟨v5,rfl,f⟩;have B:=f.rp.at 11 _ rfl;have C:=f.rp.at 0 _ rfl;rw[g.1]at B;rw[g.2]at C;have l:=I f;clear f))
 clear n
 go_wp2_with (first
  |(go_at_call 253;(first|refine(l.call (mI _ r.times) (λp1 o1 h1 h2 h3=>qL _ p1 _ _ _ _ o1 h3 h1 j oS)).mono ?_|refine((l.drewN _).call (mI _ r.times) (λp1 o1 h1 h2 h3=>qL _ p1 _ _ _ _ o1 h3 h1 j oS)).mono ?_);clear l;rintro e w6 ⟨v6,rfl,i⟩;have y:=i.rp.at 7 _ rfl;have k:=I i;clear i)
  |(go_at_call 238;refine(k.call (mI _ (dC r.aV)) (λp1 o1 h1 h2 h3=>nT _ p1 _ _ _ o1 (by have:=j.aV;omega) oS)).mono ?_;clear k;rintro e K ⟨n,rfl,f⟩;have e8:=f.rp.at 13 _ rfl;have e9:=f.rp.at 14 _ rfl;have q:=I f;clear f))
 have y:Hid (∀k,Calls prog 254 #[n,Y (u:Int),O (r.IY.toNat:Int),Y x,O (r.wW.toNat:Int)] (K.drewN k) λe i=>∃d,e=.returned d/\lB w b r p i d (bs++bV r.zx++dC (Pure.eB r.IY a r.wW (Box.box 48 r.lQ)))):=by
  intro k;have n:r.lQ.length<=3000:=by have:=HL.o;unfold RP.lQ;simp only[cF];omega
  refine((q.drewN k).cast (bs':=bs++bV r.zx++r.lQ) (by simp[RP.lQ,List.append_assoc])).call ?_ (λp1 o1 h1 h2 h3=>wV _ p1 _ _ r.IY a r.wW _ _ u _ o1 m rfl V M.o G (by have:=m.o;omega));have h1:=uj 4 (Pure.eB r.IY a r.wW (Box.box 48 r.lQ));have h2:=uj 48 r.lQ;rw[Pure.bR]at h1;unfold dC;simp only[cF];omega
 clear q
 go_region_held3 (λh=>h.c b 13=some (O (r.IY.toNat:Int))/\h.c b 14=some (O (r.wW.toNat:Int))) (go_keep) (first|(go_at_call 254;refine(y _).mono ?_;rintro e w8 ⟨q,rfl,f⟩;have K:=f.rp.at 13 _ rfl;have f1:=f.rp.at 14 _ rfl;have k:=I f;clear f))
 have f:Hid (∀W,lB w b r p W q (bs++bV r.zx++dC (Pure.eB r.IY a r.wW (Box.box 48 r.lQ)))->Calls prog 228 #[q,Y (n0:Int),.int .u8 48] W λe i=>∃d,e=.returned d/\lB w b r p i d (bs++r.part a)):=by
  intro W hC;obtain⟨Z,hZ⟩:=aq (bV r.zx++dC (Pure.eB r.IY a r.wW (Box.box 48 r.lQ)));have d:Z.length<=6000:=by
   have:=HL.o;have h1:=nU 4 (Pure.eB r.IY a r.wW (Box.box 48 r.lQ));have h2:=nU 48 r.lQ;rw[Pure.bR]at h1;have n:r.lQ.length<=3000:=(by unfold RP.lQ;simp only[cF];omega);rw[<-hZ];unfold dC at *;simp only[cF];omega
  have e:bs++r.part a=bs++Box.box 48 Z:=by rw[RP.part,hZ]
  exact Cd
 clear y
 go_wp2_with (go_at_call 228;(first|refine(f _ k).mono ?_|refine(f _ (k.drewN _)).mono ?_);rintro e n ⟨i,rfl,d⟩;have h:=I d;clear d)
 go_wp2
 go_ret
 exact⟨_,rfl,h.more⟩
def RP.wu(r:RP)(kind:Int)(use:UInt64):E:=Box.box 48 (bV kind++(dC r.t.az++(r.ticket++r.part use)))
theorem RP.Ff(t)(s)(h g)(e f a b)(d):(RP.mk t s.name s.aH s.key a h g e b).wu d f=mg d t s h g e f a b:=by
 simp[RP.wu,RP.ticket,RP.part,RP.gM,RP.lQ,RP.times,mg,xX,oV,TK.plain,jW,iF]
theorem RP.lens(r:RP)(a)(b:r.Fits):r.ticket.length<=7000/\(r.part a).length<=7000/\(dC r.t.az).length<=1004:=by
 have k:=qy r.aV;have l:=qy r.t.az;have m:=Fb r.t.aO;have n:=r.zy;have o:=(fB r.t.ae).2;have p:=(fB r.Au).2;have q:=(fB r.zx).2;have g:=lK [r.bW,r.t.ae];have i:=b.aV;have j:=b.az;simp only[de,List.length_nil]at g;have e:r.gM.length<=3000:=by unfold RP.gM;simp only[cF];omega
 have f:r.lQ.length<=3000:=by grind [RP.lQ]
 refine⟨?_,?_,by omega⟩
 .unfold RP.ticket;have d:=qy (Pure.eB r.Fa 2 r.wm (Box.box 48 r.gM));have h:=nU 48 r.gM;rw[Pure.bR]at d;refine cE (nU _ _) ?_;simp only[cF];omega
 .unfold RP.part;grind [nU,Pure.bR,qy]
theorem Av(A)(p)(bs)(b)(r)(d)(a x)(w)(l:fA w A p bs)(y:nW w b r)(n:b<w.1.size)(M:mL p b)(m:r.Fits)(t:bT a)(P:Hid (x=d.toNat))(g:d.toNat<9223372036854775808)(u:bs.length<=300000):Calls prog 215 #[N b 0,A,Y a,Y x] w λe f=>∃h,e=.returned h/\aU w f h p (bs++r.wu a d):=by
 have k:=I m
 have C:=I g
 have j:=I t
 obtain⟨n0,f⟩:=aq bs.length
 have HN0:=I f
 have J:n0<=300000:=G
 have HL:=I (cZ u (cZ (fB a).2 (r.lens d m)))
 have q:=I (lB.start l y n M)
 obtain⟨Q,K,rfl,v,L,i,_⟩:=l.open HN0
 clear l y i f u m g t
 have D:Hid (∀f W,lB w b r p W f (bs++bV a++dC r.t.az++r.ticket++r.part d)->Calls prog 228 #[f,Y (n0:Int),.int .u8 48] W λe g=>∃h,e=.returned h/\lB w b r p g h (bs++r.wu a d)):=by
  intro f W hC;obtain⟨Z,hZ⟩:=aq (bV a++(dC r.t.az++(r.ticket++r.part d)));have g:Z.length<=20000:=by
   have:=HL.o;rw[<-hZ];simp only[cF];omega
  have e:bs++r.wu a d=bs++Box.box 48 Z:=by rw[RP.wu,hZ]
  exact Cd
 go_in
 go_wp2_with (first
  |(go_at_call 237;refine(q.call (mI _ (bV a)) (λp1 o1 h1 h2 h3=>nS _ p1 _ _ _ o1 j.1 j.2 (by have:=HL.o;omega))).mono ?_;clear q;rintro e X ⟨S,rfl,f⟩;have R:=f.rp.at 2 _ rfl;have l:=I f;clear f)
  |(go_at_call 238;refine(l.call (mI _ (dC r.t.az)) (λp1 o1 h1 h2 h3=>nT _ p1 _ _ _ o1 (by have:=k.az;omega) oS)).mono ?_;clear l;rintro e w2 ⟨T,rfl,u⟩;have m:=I u;clear u)
  |(go_at_call 239;refine(m.call (mI _ r.ticket) (λp1 o1 h1 h2 h3=>BI _ p1 _ _ _ _ o1 h3 h2 h1 k oS)).mono ?_;clear m;rintro e w3 ⟨U,rfl,g⟩;have t:=I g;clear g)
  |(go_at_call 240;refine(t.call (mI _ (r.part d)) (λp1 o1 h1 h2 h3=>Fe _ p1 _ _ _ d x _ o1 h3 h2 h1 k P C oS)).mono ?_;clear t;rintro e w4 ⟨V,rfl,h⟩;have y:=I h;clear h)
  |(go_at_call 228;refine(D _ _ y).mono ?_;rintro e w9 ⟨W,rfl,i⟩;have B:=I i;clear i))
 go_wp2
 go_ret
 exact⟨_,rfl,B.more⟩
theorem IP{p:Prop}(h:p:=by
 go_wp2_with (go_at_call 215;refine HA.mono ?_;rintro e w2 ⟨v2,rfl,R2⟩)
 go_wp2
 go_ret
 exact⟨_,rfl,R2⟩):p:=h
theorem Aw(f)(p)(a)(b)(r)(w)(g:fA w f p a)(j:nW w b r)(d:b<w.1.size)(i:mL p b)(h:r.Fits)(l:a.length<=300000):Calls prog 181 #[N b 0,f] w λe m=>∃k,e=.returned k/\aU w m k p (a++r.wu 11 3):=by
 have HA:=I (Av f p a b r 3 11 3 w g j d i h (by constructor<;>decide) (I rfl) H l)
 clear g j i h
 go_in
 exact IP
theorem BJ(f)(p)(a)(b)(r)(w)(g:fA w f p a)(j:nW w b r)(d:b<w.1.size)(i:mL p b)(h:r.Fits)(l:a.length<=300000):Calls prog 187 #[N b 0,f] w λe m=>∃k,e=.returned k/\aU w m k p (a++r.wu 13 5):=by
 have HA:=I (Av f p a b r 5 13 5 w g j d i h (by constructor<;>decide) (I rfl) H l)
 clear g j i h
 go_in
 exact IP
