import Derived.Test.YtlfifnpjeangmaaGreatDoorGERBoxG
import Derived.Deep.RegionHeld3
namespace Go.Proofs.YtlfifnpjeangmaaGreatDoor
set_option maxHeartbeats 1000000
open Go.RowKit
set_option maxRecDepth 100000
variable {bs:E}{b:Nat}{p:Option Pl}{v:Value}{W w:World}
structure RP where
 t:TK
 aV:E
 zA:Int
 DR:UInt64
 uY:UInt64
 bV:Int
 ym:Int
 Gh:UInt64
 vP:UInt64
def RP.cells(r:RP):List Value:=[Y r.t.ae,H (r.t.aN.toNat:Int),.string ⟨r.t.ay.toArray⟩,Y r.t.dV,Y r.t.start,Y r.t.fin,Y r.t.aC,.string ⟨r.aV.toArray⟩,Y r.zA,H (r.DR.toNat:Int),H (r.uY.toNat:Int),Y r.bV,Y r.ym,H (r.Gh.toNat:Int),H (r.vP.toNat:Int)]
structure RP.Fits(r:RP):Prop where
 ae:b9 r.t.ae
 dV:b9 r.t.dV
 start:b9 r.t.start
 fin:b9 r.t.fin
 aC:b9 r.t.aC
 zA:b9 r.zA
 bV:b9 r.bV
 ym:b9 r.ym
 ay:r.t.ay.length<=1000
 aV:r.aV.length<=1000
def nK(w:World)(b:Nat)(r:RP):Prop:=w.rangeAt b 0 r.cells
def l'(p:Option Pl)(b:Nat):Prop:=∀q,p=some q->b≠q.g
theorem nK.at{r:RP}(h:nK w b r)(k)(v)(a:r.cells[k]?=some v):w.cell? (F b k)=some v:=by
 have:=h k v a;rwa [cN]at this
theorem nK.cf{a:World}{r:RP}(h:nK w b r)(k:CF w a (Pl.has p))(o:l' p b):nK a b r:=
 k.range h (λj _=>by rintro⟨q,d,e,_⟩;exact o q d e)
theorem nK.grown{a:World}{r:RP}(h:nK w b r)(k:w.grownBy a none):nK a b r:=
 (CF.bF k (λ_ _=>False)).range h (λ_ _ e=>e)
def kX(w:World)(b:Nat)(r:RP)(p:Option Pl)(W:World)(v:Value)(bs:E):Prop:=
 ∃p1,f' W v p1 bs/\(CF w W (Pl.has p)/\(p1=p\/Pl.fresh w.1.size p1)/\∀q,p=some q->bs.length<=q.cap->p1=p)/\nK W b r/\l' p1 b/\b<w.1.size/\l' p b
theorem kX.start{r:RP}(h:f' w v p bs)(d:nK w b r)(a:b<w.1.size)(o:l' p b):kX w b r p w v bs:=
 ⟨p,h,⟨CF.refl _ _,.inl rfl,λ_ _ _=>rfl⟩,d,o,a,o⟩
theorem kX.more{r:RP}(h:kX w b r p W v bs):aU w W v p bs:=by
 obtain⟨e,a,d,_⟩:=h;exact⟨e,a,d⟩
theorem kX.rp{r:RP}(h:kX w b r p W v bs):nK W b r:=by
 obtain⟨f,d,e,a,_⟩:=h;exact a
theorem kX.call{P:Program}{f:Nat}{a:Array Value}{r:RP}{d:E}(h:kX w b r p W v bs)(B:bs.length<=d.length)(k:∀i,f' W v i bs->l' i b->b<W.1.size->nK W b r->Calls P f a W λe j=>∃g,e=.returned g/\aU W j g i d):Calls P f a W λe j=>∃g,e=.returned g/\kX w b r p j g d:=by
 obtain⟨i,y,m,n,o,t,u⟩:=h
 have A:=fN t m.1.size
 refine(k i y o A n).mono ?_
 rintro e j ⟨g,rfl,R⟩
 refine⟨g,rfl,?_⟩
 have l:=R.cf
 obtain⟨J,D,x⟩:=aU.comp m R B
 refine⟨J,D,x,n.cf l o,?_,t,u⟩
 rcases x.2.1 with e|e
 .rw[e];exact u
 .intro q C;have:=e q C;omega
theorem kX.shape{r:RP}{n:Nat}(h:kX w b r p W v bs)(f:Hid (bs.length=n)):∃d a,v=.slice d n a/\n<=a/\a<=9223372036854775807:=by
 obtain⟨j,e,_⟩:=h;obtain⟨d,a,e,g,i,_⟩:=e.open f;grind
theorem kX.drewN{r:RP}(h:kX w b r p W v bs)(n):kX w b r p (W.drewN n) v bs:=by
 obtain⟨g,d,a,e,f⟩:=h;exact⟨g,d,⟨a.1.drewN n,a.2⟩,e,f⟩
theorem kX.cast{r:RP}{bs':E}(h:kX w b r p W v bs)(e:bs=bs'):kX w b r p W v bs':=e▸h
theorem qh(m)(p)(bs)(b)(r)(w)(l:f' w m p bs)(h:nK w b r)(j:l' p b)(B:r.Fits)(C:bs.length<=700000):Calls Tryz.prog 253 #[π b 0,m] w λe i=>∃a,e=.returned a/\aU w i a p (bs++iB [r.t.dV,r.t.start,r.t.fin,r.t.aC]):=by
 have v:=h.at 3 _ rfl
 have x:=h.at 4 _ rfl
 have y:=h.at 5 _ rfl
 have A:=h.at 6 _ rfl
 have n:Hid (∀W g,w.grownBy W none->W.rangeAt g 0 ([r.t.dV,r.t.start,r.t.fin,r.t.aC].map XU)->w.1.size<=g->Calls Tryz.prog 227 #[m,ς g 0 4 4] W λe i=>∃a,e=.returned a/\aU w i a p (bs++iB [r.t.dV,r.t.start,r.t.fin,r.t.aC])):=by
  intro W g a d k;refine(nJ _ p bs _ g 4 4 W (l.grown a) d (λq f e=>?_) (I rfl) ?_ G G).mono (by grind [aU.before])
  .have:=l.K8 q f;omega
  grind [RP.Fits.aC,RP.Fits.start,RP.Fits.fin,RP.Fits.dV]
 have o:Hid (∀W,CF w W (Pl.has p)->W.c b 3=some (Y r.t.dV)/\W.c b 4=some (Y r.t.start)/\W.c b 5=some (Y r.t.fin)/\W.c b 6=some (Y r.t.aC)):=
  λW k=>⟨(h.cf k j).at 3 _ rfl,(h.cf k j).at 4 _ rfl,(h.cf k j).at 5 _ rfl,(h.cf k j).at 6 _ rfl⟩
 obtain⟨k,a⟩:=N r.t.dV
 obtain⟨q,d⟩:=N r.t.start
 obtain⟨t,f⟩:=N r.t.fin
 obtain⟨u,g⟩:=N r.t.aC
 rw[a]at v
 rw[d]at x
 rw[f]at y
 rw[g]at A
 rw[a,d,f,g]at n o
 rw[a,d,f,g]
 clear a d f g h B l j
 go_enter Tryz.func253,Tryz.ntmps253
 go_wp2_with fail
 go_region_held3 (λi=>i.c b 3=some (Y k)/\i.c b 4=some (Y q)/\i.c b 5=some (Y t)/\i.c b 6=some (Y u)) (go_keep) (first|(go_at_call 227;refine(n _ _ ?gg ?gr ?gl).mono ?_;(case gg=>exact aR (cx _ _ none) _);(case gr=>exact aS _ _ _);(case gl=>exact cy _);rintro e f ⟨B,rfl,d⟩;obtain⟨g,h,j,l⟩:=o f d.cf;have a:=I d;clear d))
 go_wp2
 go_ret
 exact⟨_,rfl,a⟩
set_option maxHeartbeats 2000000
open Proofs.Tryz
theorem n9{p:Prop}(h:p:=by have:=HL.o;simp only[cD];omega):p:=h
theorem pQ(l):(dx l).length<=l.length+4:=nI 4 l
theorem DT(k):(nD k).length<=12:=by
 have:=pQ (Pure.be k 8);rw[Pure.bQ]at this;exact this
theorem mf(a b:E):a.length<=(a++b).length:=by grind
def RP.times(r:RP):E:=iB [r.t.dV,r.t.start,r.t.fin,r.t.aC]
theorem RP.yo(r:RP):r.times.length<=40:=lh _
def RP.gH(r:RP):E:=bS r.t.ae++(nD r.t.aN++(dx r.t.ay++r.times))
def RP.lD(r:RP):E:=nD r.t.aN++(iB [r.bV,r.t.ae]++(r.times++dx r.aV))
def RP.ticket(r:RP):E:=Box.box 48 (dx r.aV++(bS r.zA++dx (Pure.dY r.DR 2 r.uY (Box.box 48 r.gH))))
def RP.part(r:RP)(use:UInt64):E:=Box.box 48 (bS r.ym++dx (Pure.dY r.Gh use r.vP (Box.box 48 r.lD)))
theorem A0{p:Prop}(h:p:=by
 rw[e]
 refine(hC.cast (bs':=bs++Z) (by rw[<-hZ];simp only[du])).call ?_ (λp1 o1 h1 h2 h3=>oF _ p1 bs Z 48 n0 _ _ o1 XV rfl G (by have:=XV.o;omega))
 rw[cD,cD]
 exact Nat.add_le_add_left (sP 48 Z) _):p:=h
theorem Ap(J)(p)(bs)(b)(r)(w)(j:f' w J p bs)(k:nK w b r)(n:b<w.1.size)(U:l' p b)(g:r.Fits)(u:bs.length<=400000):Calls prog 239 #[π b 0,J] w λe l=>∃d,e=.returned d/\aU w l d p (bs++r.ticket):=by
 have h:=I g
 obtain⟨n0,f⟩:=N bs.length
 obtain⟨q,a⟩:=N ((bs++dx r.aV++bS r.zA).length)
 have XV:=I f
 have m:=I a
 have Q:(dx r.aV).length<=1004/\(bS r.zA).length<=10/\(bS r.t.ae).length<=10/\(nD r.t.aN).length<=12/\(dx r.t.ay).length<=1004/\r.times.length<=40:=
  ⟨by have:=pQ r.aV;have:=g.aV;omega,(fu _).2,(fu _).2,DT _,by have:=pQ r.t.ay;have:=g.ay;omega,r.yo⟩
 obtain⟨v,x,y,A,B,C⟩:=Q
 have M:q<=402000:=by rw[<-a];simp only[cD];omega
 have K:n0<=400000:=G
 have HL:=I (dN u (dN v (dN x (dN y (dN A (dN B C))))))
 have t:=I (kX.start j k n U)
 have c0:=k.at 7 _ rfl
 obtain⟨X,P,rfl,D,S,i,_⟩:=j.open XV
 clear j k i f a u v x y A B C g
 go_in
 go_wp2_with (first
  |(go_at_call 238;refine(t.call (mf _ (dx r.aV)) (λp1 o1 h1 h2 h3=>nH _ p1 _ _ _ o1 (by have:=h.aV;omega) (by have:=HL.1;omega))).mono ?_;clear t;rintro e w1 ⟨v1,rfl,f⟩;have c1:=f.rp.at 8 _ rfl;have u:=I f;clear f)
  |(go_at_call 237;refine(u.call (mf _ (bS r.zA)) (λp1 o1 h1 h2 h3=>nG _ p1 _ _ _ o1 h.zA.1 h.zA.2 n9)).mono ?_;clear u;rintro e w2 ⟨v2,rfl,j⟩;have c2:=j.rp.at 0 _ rfl;have v:=I j;obtain⟨L,C,rfl,R,T⟩:=j.shape m;clear j)
  |(go_at_call 248;refine(v.call (mf _ (bS r.t.ae)) (λp1 o1 h1 h2 h3=>qp _ p1 _ _ _ o1 h.ae.1 h.ae.2 n9)).mono ?_;clear v;rintro e w3 ⟨v3,rfl,g⟩;have c3:=g.rp.at 1 _ rfl;have x:=I g;clear g)
  |(go_at_call 252;refine(x.call (mf _ (nD r.t.aN)) (λp1 o1 h1 h2 h3=>xN _ p1 _ _ _ o1 n9)).mono ?_;clear x;rintro e w4 ⟨v4,rfl,k⟩;have c4:=k.rp.at 2 _ rfl;have y:=I k;clear k)
  |(go_at_call 238;refine(y.call (mf _ (dx r.t.ay)) (λp1 o1 h1 h2 h3=>nH _ p1 _ _ _ o1 (by have:=h.ay;omega) n9)).mono ?_;clear y;rintro e w5 ⟨v5,rfl,i⟩;have A:=I i;clear i)
  |(go_at_call 253;refine(A.call (mf _ r.times) (λp1 o1 h1 h2 h3=>qh _ p1 _ _ _ _ o1 h3 h1 h n9)).mono ?_;clear A;rintro e W ⟨V,rfl,a⟩;have c6:=a.rp.at 9 _ rfl;have c7:=a.rp.at 10 _ rfl;have B:=I a;clear a))
 have u:Hid (∀k,Calls prog 254 #[V,Y (q:Int),H (r.DR.toNat:Int),Y 2,H (r.uY.toNat:Int)] (W.drewN k) λe f=>∃d,e=.returned d/\kX w b r p f d (bs++dx r.aV++bS r.zA++dx (Pure.dY r.DR 2 r.uY (Box.box 48 r.gH)))):=by
  intro k;have g:r.gH.length<=3000:=by have:=HL.o;unfold RP.gH;simp only[cD];omega
  refine((B.drewN k).cast (bs':=bs++dx r.aV++bS r.zA++r.gH) (by simp[RP.gH,List.append_assoc])).call ?_ (λp1 o1 h1 h2 h3=>vO _ p1 _ _ r.DR 2 r.uY _ _ q _ o1 m rfl (I rfl) O G (by have:=m.o;omega));have h1:=sP 4 (Pure.dY r.DR 2 r.uY (Box.box 48 r.gH));have h2:=sP 48 r.gH;rw[Pure.dh]at h1;unfold dx;simp only[cD];omega
 clear B
 go_region_held3 (λl=>l.c b 9=some (H (r.DR.toNat:Int))/\l.c b 10=some (H (r.uY.toNat:Int))) (go_keep) (first|(go_at_call 254;refine(u _).mono ?_;rintro e y ⟨k,rfl,a⟩;have v:=a.rp.at 9 _ rfl;have x:=a.rp.at 10 _ rfl;have i:=I a;clear a))
 have j:Hid (∀W,kX w b r p W k (bs++dx r.aV++bS r.zA++dx (Pure.dY r.DR 2 r.uY (Box.box 48 r.gH)))->Calls prog 228 #[k,Y (n0:Int),.int .u8 48] W λe f=>∃d,e=.returned d/\kX w b r p f d (bs++r.ticket)):=by
  intro W hC;obtain⟨Z,hZ⟩:=N (dx r.aV++(bS r.zA++dx (Pure.dY r.DR 2 r.uY (Box.box 48 r.gH))));have a:Z.length<=6000:=by
   have:=HL.o;have h1:=nI 4 (Pure.dY r.DR 2 r.uY (Box.box 48 r.gH));have h2:=nI 48 r.gH;rw[Pure.dh]at h1;have g:r.gH.length<=3000:=(by unfold RP.gH;simp only[cD];omega);rw[<-hZ];unfold dx at *;simp only[cD];omega
  have e:bs++r.ticket=bs++Box.box 48 Z:=by rw[RP.ticket,hZ]
  exact A0
 clear u
 go_wp2_with (go_at_call 228;(first|refine(j _ i).mono ?_|refine(j _ (i.drewN _)).mono ?_);rintro e g ⟨f,rfl,a⟩;have d:=I a;clear a)
 go_wp2
 go_ret
 exact⟨_,rfl,d.more⟩
theorem kX.aix{P:Program}{f:Nat}{a:Array Value}{w:World}{b:Nat}{r:RP}{p:Option Pl}{W i:World}{v:Value}{m d:E}(h:kX w b r p W v m)(n:W.grownBy i none)(J:m.length<=d.length)(k:∀j,f' i v j m->(∀q,j=some q->q.g<W.1.size)->Calls P f a i λe l=>∃g,e=.returned g/\aU i l g j d):Calls P f a i λe l=>∃g,e=.returned g/\kX w b r p l g d:=by
 obtain⟨j,u,A,B,C,D,x⟩:=h
 refine(k j (u.grown n) (λq t=>u.K8 q t)).mono ?_
 rintro e l ⟨g,rfl,R⟩
 refine⟨g,rfl,?_⟩
 have o:=R.cf
 obtain⟨L,K,y⟩:=aU.comp A (R.before n) J
 refine⟨L,K,y,(B.grown n).cf o C,?_,D,x⟩
 rcases y.2.1 with e|e
 .rw[e];exact x
 .intro q t;have:=e q t;omega
theorem DU(L)(p)(bs)(b)(r)(a)(x)(w)(l:f' w L p bs)(q:nK w b r)(t:b<w.1.size)(U:l' p b)(n:r.Fits)(V:Hid (x=a.toNat))(i:a.toNat<9223372036854775808)(y:bs.length<=400000):Calls prog 240 #[π b 0,L,Y x] w λe h=>∃d,e=.returned d/\aU w h d p (bs++r.part a):=by
 have j:=I n
 have M:=I i
 obtain⟨n0,g⟩:=N bs.length
 obtain⟨u,f⟩:=N ((bs++bS r.ym).length)
 have XV:=I g
 have m:=I f
 have S:(dx r.aV).length<=1004/\(bS r.ym).length<=10/\(iB [r.bV,r.t.ae]).length<=20/\(nD r.t.aN).length<=12/\r.times.length<=40:=
  ⟨by have:=pQ r.aV;have:=n.aV;omega,(fu _).2,lh _,DT _,r.yo⟩
 obtain⟨B,C,D,J,K⟩:=S
 have Q:u<=402000:=by rw[<-f];simp only[cD];omega
 have P:n0<=400000:=G
 have HL:=I (dN y (dN B (dN C (dN D (dN J K)))))
 have v:=I (kX.start l q t U)
 have c0:=q.at 12 _ rfl
 obtain⟨X,R,rfl,A,T,k,_⟩:=l.open XV
 clear l q k g f y B C D J K n i
 go_in
 go_wp2_with (first
  |(go_at_call 237;refine(v.call (mf _ (bS r.ym)) (λp1 o1 h1 h2 h3=>nG _ p1 _ _ _ o1 j.ym.1 j.ym.2 (by have:=HL.o;omega))).mono ?_;clear v;rintro e w2 ⟨W,rfl,f⟩;have K:=f.rp.at 1 _ rfl;have i:=I f;obtain⟨n,l,rfl,y,D⟩:=f.shape m;clear f)
  |(go_at_call 252;refine(i.call (mf _ (nD r.t.aN)) (λp1 o1 h1 h2 h3=>xN _ p1 _ _ _ o1 n9)).mono ?_;clear i;rintro e q ⟨J,rfl,g⟩;have B:=g.rp.at 11 _ rfl;have C:=g.rp.at 0 _ rfl;have k:=I g;clear g))
 have n:Hid (∀W g,q.grownBy W none->W.rangeAt g 0 ([r.bV,r.t.ae].map XU)->q.1.size<=g->Calls prog 227 #[J,ς g 0 2 2] W λe h=>∃d,e=.returned d/\kX w b r p h d (bs++bS r.ym++nD r.t.aN++iB [r.bV,r.t.ae])):=by
  intro W g i l D;refine k.aix i (mf _ _) (λp1 o1 h1=>nJ _ p1 _ _ g 2 2 W o1 l (λq f e=>?_) (I rfl) ?_ G ?_)
  .have:=h1 q f;omega
  .intro y f;simp at f;rcases f with rfl|rfl
   .exact j.bV
   .exact j.ae
  .have:=HL.o;simp only[cD];omega
 clear k
 obtain⟨J,f⟩:=N r.bV
 obtain⟨D,i⟩:=N r.t.ae
 rw[f]at B
 rw[i]at C
 have g:=I (dN f i)
 clear f i
 go_region_held3 (λh=>h.c b 11=some (Y J)/\h.c b 0=some (Y D)) (go_keep) (first|(go_at_call 227;refine(n _ _ ?gg ?gr ?gl).mono ?_;(case gg=>exact aR (cx _ _ none) _);(case gr=>rw[g.1,g.2];exact aS _ _ _);(case gl=>exact cy _);rintro e w5 ⟨v5,rfl,f⟩;have B:=f.rp.at 11 _ rfl;have C:=f.rp.at 0 _ rfl;rw[g.1]at B;rw[g.2]at C;have l:=I f;clear f))
 clear n
 go_wp2_with (first
  |(go_at_call 253;(first|refine(l.call (mf _ r.times) (λp1 o1 h1 h2 h3=>qh _ p1 _ _ _ _ o1 h3 h1 j n9)).mono ?_|refine((l.drewN _).call (mf _ r.times) (λp1 o1 h1 h2 h3=>qh _ p1 _ _ _ _ o1 h3 h1 j n9)).mono ?_);clear l;rintro e w6 ⟨v6,rfl,i⟩;have y:=i.rp.at 7 _ rfl;have k:=I i;clear i)
  |(go_at_call 238;refine(k.call (mf _ (dx r.aV)) (λp1 o1 h1 h2 h3=>nH _ p1 _ _ _ o1 (by have:=j.aV;omega) n9)).mono ?_;clear k;rintro e K ⟨n,rfl,f⟩;have e8:=f.rp.at 13 _ rfl;have e9:=f.rp.at 14 _ rfl;have q:=I f;clear f))
 have y:Hid (∀k,Calls prog 254 #[n,Y (u:Int),H (r.Gh.toNat:Int),Y x,H (r.vP.toNat:Int)] (K.drewN k) λe i=>∃d,e=.returned d/\kX w b r p i d (bs++bS r.ym++dx (Pure.dY r.Gh a r.vP (Box.box 48 r.lD)))):=by
  intro k;have n:r.lD.length<=3000:=by have:=HL.o;unfold RP.lD;simp only[cD];omega
  refine((q.drewN k).cast (bs':=bs++bS r.ym++r.lD) (by simp[RP.lD,List.append_assoc])).call ?_ (λp1 o1 h1 h2 h3=>vO _ p1 _ _ r.Gh a r.vP _ _ u _ o1 m rfl V M.o G (by have:=m.o;omega));have h1:=sP 4 (Pure.dY r.Gh a r.vP (Box.box 48 r.lD));have h2:=sP 48 r.lD;rw[Pure.dh]at h1;unfold dx;simp only[cD];omega
 clear q
 go_region_held3 (λh=>h.c b 13=some (H (r.Gh.toNat:Int))/\h.c b 14=some (H (r.vP.toNat:Int))) (go_keep) (first|(go_at_call 254;refine(y _).mono ?_;rintro e w8 ⟨q,rfl,f⟩;have K:=f.rp.at 13 _ rfl;have f1:=f.rp.at 14 _ rfl;have k:=I f;clear f))
 have f:Hid (∀W,kX w b r p W q (bs++bS r.ym++dx (Pure.dY r.Gh a r.vP (Box.box 48 r.lD)))->Calls prog 228 #[q,Y (n0:Int),.int .u8 48] W λe i=>∃d,e=.returned d/\kX w b r p i d (bs++r.part a)):=by
  intro W hC;obtain⟨Z,hZ⟩:=N (bS r.ym++dx (Pure.dY r.Gh a r.vP (Box.box 48 r.lD)));have d:Z.length<=6000:=by
   have:=HL.o;have h1:=nI 4 (Pure.dY r.Gh a r.vP (Box.box 48 r.lD));have h2:=nI 48 r.lD;rw[Pure.dh]at h1;have n:r.lD.length<=3000:=(by unfold RP.lD;simp only[cD];omega);rw[<-hZ];unfold dx at *;simp only[cD];omega
  have e:bs++r.part a=bs++Box.box 48 Z:=by rw[RP.part,hZ]
  exact A0
 clear y
 go_wp2_with (go_at_call 228;(first|refine(f _ k).mono ?_|refine(f _ (k.drewN _)).mono ?_);rintro e n ⟨i,rfl,d⟩;have h:=I d;clear d)
 go_wp2
 go_ret
 exact⟨_,rfl,h.more⟩
def RP.uZ(r:RP)(kind:Int)(use:UInt64):E:=Box.box 48 (bS kind++(dx r.t.ay++(r.ticket++r.part use)))
theorem RP.DV(t)(s)(h g)(e f a b)(d):(RP.mk t s.name s.aH s.key a h g e b).uZ d f=lU d t s h g e f a b:=by
 simp[RP.uZ,RP.ticket,RP.part,RP.gH,RP.lD,RP.times,lU,wV,ow,TK.plain,jO,iB]
theorem RP.lens(r:RP)(a)(b:r.Fits):r.ticket.length<=7000/\(r.part a).length<=7000/\(dx r.t.ay).length<=1004:=by
 have k:=pQ r.aV;have l:=pQ r.t.ay;have m:=DT r.t.aN;have n:=r.yo;have o:=(fu r.t.ae).2;have p:=(fu r.zA).2;have q:=(fu r.ym).2;have g:=lh [r.bV,r.t.ae];have i:=b.aV;have j:=b.ay;simp only[de,List.length_nil]at g;have e:r.gH.length<=3000:=by unfold RP.gH;simp only[cD];omega
 have f:r.lD.length<=3000:=by grind [RP.lD]
 refine⟨?_,?_,by omega⟩
 .unfold RP.ticket;have d:=pQ (Pure.dY r.DR 2 r.uY (Box.box 48 r.gH));have h:=nI 48 r.gH;rw[Pure.dh]at d;refine cE (nI _ _) ?_;simp only[cD];omega
 .unfold RP.part;grind [nI,Pure.dh,pQ]
theorem zB(A)(p)(bs)(b)(r)(d)(a x)(w)(l:f' w A p bs)(y:nK w b r)(n:b<w.1.size)(M:l' p b)(m:r.Fits)(t:b9 a)(P:Hid (x=d.toNat))(g:d.toNat<9223372036854775808)(u:bs.length<=300000):Calls prog 215 #[π b 0,A,Y a,Y x] w λe f=>∃h,e=.returned h/\aU w f h p (bs++r.uZ a d):=by
 have j:=I m
 have C:=I g
 have i:=I t
 obtain⟨n0,f⟩:=N bs.length
 have XV:=I f
 have J:n0<=300000:=G
 have HL:=I (dN u (dN (fu a).2 (r.lens d m)))
 have q:=I (kX.start l y n M)
 obtain⟨Q,K,rfl,v,L,k,_⟩:=l.open XV
 clear l y k f u m g t
 have D:Hid (∀f W,kX w b r p W f (bs++bS a++dx r.t.ay++r.ticket++r.part d)->Calls prog 228 #[f,Y (n0:Int),.int .u8 48] W λe g=>∃h,e=.returned h/\kX w b r p g h (bs++r.uZ a d)):=by
  intro f W hC;obtain⟨Z,hZ⟩:=N (bS a++(dx r.t.ay++(r.ticket++r.part d)));have g:Z.length<=20000:=by
   have:=HL.o;rw[<-hZ];simp only[cD];omega
  have e:bs++r.uZ a d=bs++Box.box 48 Z:=by rw[RP.uZ,hZ]
  exact A0
 go_in
 go_wp2_with (first
  |(go_at_call 237;refine(q.call (mf _ (bS a)) (λp1 o1 h1 h2 h3=>nG _ p1 _ _ _ o1 i.1 i.2 (by have:=HL.o;omega))).mono ?_;clear q;rintro e X ⟨S,rfl,f⟩;have R:=f.rp.at 2 _ rfl;have k:=I f;clear f)
  |(go_at_call 238;refine(k.call (mf _ (dx r.t.ay)) (λp1 o1 h1 h2 h3=>nH _ p1 _ _ _ o1 (by have:=j.ay;omega) n9)).mono ?_;clear k;rintro e w2 ⟨T,rfl,t⟩;have l:=I t;clear t)
  |(go_at_call 239;refine(l.call (mf _ r.ticket) (λp1 o1 h1 h2 h3=>Ap _ p1 _ _ _ _ o1 h3 h2 h1 j n9)).mono ?_;clear l;rintro e w3 ⟨U,rfl,g⟩;have m:=I g;clear g)
  |(go_at_call 240;refine(m.call (mf _ (r.part d)) (λp1 o1 h1 h2 h3=>DU _ p1 _ _ _ d x _ o1 h3 h2 h1 j P C n9)).mono ?_;clear m;rintro e w4 ⟨V,rfl,u⟩;have y:=I u;clear u)
  |(go_at_call 228;refine(D _ _ y).mono ?_;rintro e w9 ⟨W,rfl,h⟩;have B:=I h;clear h))
 go_wp2
 go_ret
 exact⟨_,rfl,B.more⟩
theorem E'{p:Prop}(h:p:=by
 go_wp2_with (go_at_call 215;refine HA.mono ?_;rintro e w2 ⟨v2,rfl,R2⟩)
 go_wp2
 go_ret
 exact⟨_,rfl,R2⟩):p:=h
theorem zC(f)(p)(a)(b)(r)(w)(g:f' w f p a)(j:nK w b r)(d:b<w.1.size)(i:l' p b)(h:r.Fits)(l:a.length<=300000):Calls prog 181 #[π b 0,f] w λe m=>∃k,e=.returned k/\aU w m k p (a++r.uZ 11 3):=by
 have HA:=I (zB f p a b r 3 11 3 w g j d i h (by constructor<;>decide) (I rfl) O l)
 clear g j i h
 go_in
 exact E'
theorem Aq(f)(p)(a)(b)(r)(w)(g:f' w f p a)(j:nK w b r)(d:b<w.1.size)(i:l' p b)(h:r.Fits)(l:a.length<=300000):Calls prog 187 #[π b 0,f] w λe m=>∃k,e=.returned k/\aU w m k p (a++r.uZ 13 5):=by
 have HA:=I (zB f p a b r 5 13 5 w g j d i h (by constructor<;>decide) (I rfl) O l)
 clear g j i h
 go_in
 exact E'
