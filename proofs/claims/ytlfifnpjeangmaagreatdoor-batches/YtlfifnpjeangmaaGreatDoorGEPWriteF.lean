import Derived.Test.YtlfifnpjeangmaaGreatDoorGERBoxG
import Derived.Deep.RegionHeld3
namespace Go.Proofs.YtlfifnpjeangmaaGreatDoor
set_option maxHeartbeats 1000000
open Go.RowKit
set_option maxRecDepth 100000
variable {bs:List UInt8}{b:Nat}{p:Option Pl}{v:Value}{W w:World}
structure RP where
 t:TK
 aV:List UInt8
 zx:Int
 DL:UInt64
 uV:UInt64
 bU:Int
 yh:Int
 Gf:UInt64
 vL:UInt64
def RP.cells(r:RP):List Value:=[ι r.t.ae,υ r.t.aN.toNat,.string r.t.ay,ι r.t.dV,ι r.t.start,ι r.t.fin,ι r.t.aC,.string r.aV,ι r.zx,υ r.DL.toNat,υ r.uV.toNat,ι r.bU,ι r.yh,υ r.Gf.toNat,υ r.vL.toNat]
structure RP.Fits(r:RP):Prop where
 ae:In64 r.t.ae
 dV:In64 r.t.dV
 start:In64 r.t.start
 fin:In64 r.t.fin
 aC:In64 r.t.aC
 zx:In64 r.zx
 bU:In64 r.bU
 yh:In64 r.yh
 ay:r.t.ay.length<=1000
 aV:r.aV.length<=1000
def nJ(w:World)(b:Nat)(r:RP):Prop:=w.rangeAt b 0 r.cells
def Off(p:Option Pl)(b:Nat):Prop:=∀q,p=some q->b≠q.g
theorem nJ.at{r:RP}(h:nJ w b r)(k:Nat)(v)(a:r.cells[k]?=some v):w.cell? (b,k)=some v:=by
 have:=h k v a;rwa [cN]at this
theorem nJ.cf{w':World}{r:RP}(h:nJ w b r)(k:CF w w' (Pl.has p))(o:Off p b):nJ w' b r:=
 k.range h (λj _=>by rintro⟨q,a,e,_⟩;exact o q a e)
theorem nJ.grown{w':World}{r:RP}(h:nJ w b r)(k:w.grownBy w' none):nJ w' b r:=
 (CF.bF k (λ_ _=>False)).range h (λ_ _ e=>e)
def Ctx(w:World)(b:Nat)(r:RP)(p:Option Pl)(W:World)(v:Value)(bs:List UInt8):Prop:=
 ∃p1,Out W v p1 bs/\(CF w W (Pl.has p)/\(p1=p\/Pl.fresh w.heap.size p1)/\∀q,p=some q->bs.length<=q.cap->p1=p)/\nJ W b r/\Off p1 b/\b<w.heap.size/\Off p b
theorem Ctx.start{r:RP}(h:Out w v p bs)(c:nJ w b r)(a:b<w.heap.size)(o:Off p b):Ctx w b r p w v bs:=
 ⟨p,h,⟨CF.refl _ _,.inl rfl,λ_ _ _=>rfl⟩,c,o,a,o⟩
theorem Ctx.more{r:RP}(h:Ctx w b r p W v bs):aU w W v p bs:=by
 obtain⟨a,c,d,_⟩:=h;exact⟨a,c,d⟩
theorem Ctx.rp{r:RP}(h:Ctx w b r p W v bs):nJ W b r:=by
 obtain⟨c,d,e,a,_⟩:=h;exact a
theorem Ctx.call{P:Program}{f:Nat}{args:Array Value}{r:RP}{bs':List UInt8}(h:Ctx w b r p W v bs)(t:bs.length<=bs'.length)(k:∀c,Out W v c bs->Off c b->b<W.heap.size->nJ W b r->Calls P f args W λe W'=>∃a,e=.returned a/\aU W W' a c bs'):
  Calls P f args W λe W'=>∃a,e=.returned a/\Ctx w b r p W' a bs':=by
 obtain⟨c,o,j,m,n,i,l⟩:=h
 have u:=fN i j.1.size
 refine(k c o n u m).mono ?_
 rintro e W' ⟨a,rfl,R⟩
 refine⟨a,rfl,?_⟩
 have d:=R.cf
 obtain⟨x,s,g⟩:=aU.comp j R t
 refine⟨x,s,g,m.cf d n,?_,i,l⟩
 rcases g.2.1 with e|e
 ·rw[e];exact l
 ·intro q y;have:=e q y;omega
theorem Ctx.shape{r:RP}{n:Nat}(h:Ctx w b r p W v bs)(hn:Hid (bs.length=n)):∃c cap,v=.slice c n cap/\n<=cap/\cap<=9223372036854775807:=by
 obtain⟨d,a,_⟩:=h;obtain⟨c,cap,a,e,f,_⟩:=a.open hn;grind
theorem Ctx.drewN{r:RP}(h:Ctx w b r p W v bs)(n):Ctx w b r p (W.drewN n) v bs:=by
 obtain⟨c,d,a,e,f⟩:=h;exact⟨c,d,⟨a.1.drewN n,a.2⟩,e,f⟩
theorem Ctx.cast{r:RP}{bs':List UInt8}(h:Ctx w b r p W v bs)(e:bs=bs'):Ctx w b r p W v bs':=e▸h
theorem qf(m)(p)(bs)(b:Nat)(r)(w)(n:Out w m p bs)(a:nJ w b r)(j:Off p b)(B:r.Fits)(K:bs.length<=700000):
  Calls Tryz.prog 253 #[(b,0),m] w λe w'=>∃i,e=.returned i/\aU w w' i p (bs++iy [r.t.dV,r.t.start,r.t.fin,r.t.aC]):=by
 have A:=a.at 3 _ rfl
 have C:=a.at 4 _ rfl
 have G:=a.at 5 _ rfl
 have H:=a.at 6 _ rfl
 have u:Hid (∀W g,w.grownBy W none->W.rangeAt g 0 ([r.t.dV,r.t.start,r.t.fin,r.t.aC].map Xz)->w.heap.size<=g->Calls Tryz.prog 227 #[m,.slice (some ⟨g,0,none⟩) 4 4] W λe w'=>∃i,e=.returned i/\aU w w' i p (bs++iy [r.t.dV,r.t.start,r.t.fin,r.t.aC])):=by
  intro W g D z P;refine(nI _ p bs _ g 4 4 W (n.grown D) z (λq F e=>?_) (hid rfl) ?_ agE agE).mono (by grind [aU.before])
  ·have:=n.KU q F;omega
  grind [RP.Fits.aC,RP.Fits.start,RP.Fits.fin,RP.Fits.dV]
 have x:Hid (∀W,CF w W (Pl.has p)->W.cell? (b,3)=some (ι r.t.dV)/\W.cell? (b,4)=some (ι r.t.start)/\W.cell? (b,5)=some (ι r.t.fin)/\W.cell? (b,6)=some (ι r.t.aC)):=
  λW k=>⟨(a.cf k j).at 3 _ rfl,(a.cf k j).at 4 _ rfl,(a.cf k j).at 5 _ rfl,(a.cf k j).at 6 _ rfl⟩
 obtain⟨y,d⟩:=aq r.t.dV
 obtain⟨I,f⟩:=aq r.t.start
 obtain⟨E,h⟩:=aq r.t.fin
 obtain⟨J,c⟩:=aq r.t.aC
 rw[d]at A
 rw[f]at C
 rw[h]at G
 rw[c]at H
 rw[d,f,h,c]at u x
 rw[d,f,h,c]
 clear d f h c a B n j
 go_enter Tryz.func253,Tryz.ntmps253
 go_wp2_with fail
 go_region_held3 (λw'=>w'.cell? ⟨b,3,none⟩=some (ι y)/\w'.cell? ⟨b,4,none⟩=some (ι I)/\w'.cell? ⟨b,5,none⟩=some (ι E)/\w'.cell? ⟨b,6,none⟩=some (ι J)) (go_keep) (first|(go_at_call 227;refine(u.o _ _ ?gg ?gr ?gl).mono ?_;(case gg=>exact aR (cx _ _ none) _);(case gr=>exact aS _ _ _);(case gl=>exact cy _);rintro e w2 ⟨v2,rfl,s⟩;obtain⟨O,L,M,N⟩:=x.o w2 s.cf;have l:=hid s;clear s))
 go_wp2
 go_ret
 exact⟨_,rfl,l.o⟩
set_option maxHeartbeats 2000000
open Proofs.Tryz
theorem ag3{p:Prop}(h:p:=by have:=HL.o;simp only[cD];omega):p:=h
theorem pM(l):(dw l).length<=l.length+4:=nH 4 l
theorem DN(k):(nC k).length<=12:=by
 have:=pM (Pure.be k 8);rw[Pure.dm]at this;exact this
theorem mf(a b:List UInt8):a.length<=(a++b).length:=by grind
def RP.times(r:RP):List UInt8:=iy [r.t.dV,r.t.start,r.t.fin,r.t.aC]
theorem RP.yj(r:RP):r.times.length<=40:=lg _
def RP.gD(r:RP):List UInt8:=bR r.t.ae++(nC r.t.aN++(dw r.t.ay++r.times))
def RP.lC(r:RP):List UInt8:=nC r.t.aN++(iy [r.bU,r.t.ae]++(r.times++dw r.aV))
def RP.ticket(r:RP):List UInt8:=Box.box 48 (dw r.aV++(bR r.zx++dw (Pure.fE r.DL 2 r.uV (Box.box 48 r.gD))))
def RP.part(r:RP)(use:UInt64):List UInt8:=Box.box 48 (bR r.yh++dw (Pure.fE r.Gf use r.vL (Box.box 48 r.lC)))
theorem aaX{p:Prop}(h:p:=by
 rw[e]
 refine(hC.cast (bs':=bs++Z) (by rw[<-hZ];simp only[du])).call ?_ (λp1 o1 h1 h2 h3=>oC _ p1 bs Z 48 n0 _ _ o1 XA rfl agE (by have:=XA.o;omega))
 rw[cD,cD]
 exact Nat.add_le_add_left (sN 48 Z) _):p:=h
theorem Ak(S)(p)(bs)(b:Nat)(r)(w)(A:Out w S p bs)(s:nJ w b r)(y:b<w.heap.size)(ho:Off p b)(q:r.Fits)(H:bs.length<=400000):
  Calls prog 239 #[(b,0),S] w λe w'=>∃d,e=.returned d/\aU w w' d p (bs++r.ticket):=by
 have g:=hid q
 obtain⟨n0,m⟩:=aq bs.length
 obtain⟨z,f⟩:=aq ((bs++dw r.aV++bR r.zx).length)
 have XA:=hid m
 have u:=hid f
 have Y:(dw r.aV).length<=1004/\(bR r.zx).length<=10/\(bR r.t.ae).length<=10/\(nC r.t.aN).length<=12/\(dw r.t.ay).length<=1004/\r.times.length<=40:=
  ⟨by have:=pM r.aV;have:=q.aV;omega,(fo _).2,(fo _).2,DN _,by have:=pM r.t.ay;have:=q.ay;omega,r.yj⟩
 obtain⟨T,U,E,Q,P,D⟩:=Y
 have ag:z<=402000:=by rw[<-f];simp only[cD];omega
 have aa:n0<=400000:=agE
 have HL:=hid (And.intro H (And.intro T (And.intro U (And.intro E (And.intro Q (And.intro P D))))))
 have M:=hid (Ctx.start A s y ho)
 have c0:=s.at 7 _ rfl
 obtain⟨ao,cap,rfl,O,ad,v,_⟩:=A.open XA
 clear A s v m f H T U E Q P D q
 go_enter func239,ntmps239
 go_wp2_with (first
  |(go_at_call 238;refine(M.o.call (mf _ (dw r.aV)) (λp1 o1 h1 h2 h3=>nG _ p1 _ _ _ o1 (by have:=g.o.aV;omega) (by have:=HL.o.1;omega))).mono ?_;clear M;rintro e w1 ⟨v1,rfl,i⟩;have c1:=i.rp.at 8 _ rfl;have J:=hid i;clear i)
  |(go_at_call 237;refine(J.o.call (mf _ (bR r.zx)) (λp1 o1 h1 h2 h3=>nE _ p1 _ _ _ o1 g.o.zx.1 g.o.zx.2 ag3)).mono ?_;clear J;rintro e w2 ⟨v2,rfl,n⟩;have c2:=n.rp.at 0 _ rfl;have G:=hid n;obtain⟨ah,N,rfl,ab,X⟩:=n.shape u;clear n)
  |(go_at_call 248;refine(G.o.call (mf _ (bR r.t.ae)) (λp1 o1 h1 h2 h3=>qm _ p1 _ _ _ o1 g.o.ae.1 g.o.ae.2 ag3)).mono ?_;clear G;rintro e w3 ⟨v3,rfl,h⟩;have c3:=h.rp.at 1 _ rfl;have I:=hid h;clear h)
  |(go_at_call 252;refine(I.o.call (mf _ (nC r.t.aN)) (λp1 o1 h1 h2 h3=>xK _ p1 _ _ _ o1 ag3)).mono ?_;clear I;rintro e w4 ⟨v4,rfl,x⟩;have c4:=x.rp.at 2 _ rfl;have C:=hid x;clear x)
  |(go_at_call 238;refine(C.o.call (mf _ (dw r.t.ay)) (λp1 o1 h1 h2 h3=>nG _ p1 _ _ _ o1 (by have:=g.o.ay;omega) ag3)).mono ?_;clear C;rintro e w5 ⟨v5,rfl,j⟩;have K:=hid j;clear j)
  |(go_at_call 253;refine(K.o.call (mf _ r.times) (λp1 o1 h1 h2 h3=>qf _ p1 _ _ _ _ o1 h3 h1 g.o ag3)).mono ?_;clear K;rintro e w6 ⟨v6,rfl,a⟩;have c6:=a.rp.at 9 _ rfl;have c7:=a.rp.at 10 _ rfl;have F:=hid a;clear a))
 have V:Hid (∀k,Calls prog 254 #[v6,ι z,υ r.DL.toNat,ι 2,υ r.uV.toNat] (w6.drewN k) λe W'=>∃d,e=.returned d/\Ctx w b r p W' d (bs++dw r.aV++bR r.zx++dw (Pure.fE r.DL 2 r.uV (Box.box 48 r.gD)))):=by
  intro k;have B:r.gD.length<=3000:=by have:=HL.o;unfold RP.gD;simp only[cD];omega
  refine((F.o.drewN k).cast (bs':=bs++dw r.aV++bR r.zx++r.gD) (by simp[RP.gD,List.append_assoc])).call ?_ (λp1 o1 h1 h2 h3=>vK _ p1 _ _ r.DL 2 r.uV _ _ z _ o1 u rfl (hid rfl) agF agE (by have:=u.o;omega));have h1:=sN 4 (Pure.fE r.DL 2 r.uV (Box.box 48 r.gD));have h2:=sN 48 r.gD;rw[Pure.dx]at h1;unfold dw;simp only[cD];omega
 clear F
 go_region_held3 (λw'=>w'.cell? ⟨b,9,none⟩=some (υ r.DL.toNat)/\w'.cell? ⟨b,10,none⟩=some (υ r.uV.toNat)) (go_keep) (first|(go_at_call 254;refine(V.o _).mono ?_;rintro e w7 ⟨v7,rfl,c⟩;have d0:=c.rp.at 9 _ rfl;have d1:=c.rp.at 10 _ rfl;have L:=hid c;clear c))
 have R:Hid (∀W,Ctx w b r p W v7 (bs++dw r.aV++bR r.zx++dw (Pure.fE r.DL 2 r.uV (Box.box 48 r.gD)))->Calls prog 228 #[v7,ι n0,.int .u8 48] W λe W'=>∃d,e=.returned d/\Ctx w b r p W' d (bs++r.ticket)):=by
  intro W hC;obtain⟨Z,hZ⟩:=aq (dw r.aV++(bR r.zx++dw (Pure.fE r.DL 2 r.uV (Box.box 48 r.gD))));have af:Z.length<=6000:=by
   have:=HL.o;have h1:=nH 4 (Pure.fE r.DL 2 r.uV (Box.box 48 r.gD));have h2:=nH 48 r.gD;rw[Pure.dx]at h1;have B:r.gD.length<=3000:=(by unfold RP.gD;simp only[cD];omega);rw[<-hZ];unfold dw at *;simp only[cD];omega
  have e:bs++r.ticket=bs++Box.box 48 Z:=by rw[RP.ticket,hZ]
  exact aaX
 clear V
 go_wp2_with (go_at_call 228;(first|refine(R.o _ L.o).mono ?_|refine(R.o _ (L.o.drewN _)).mono ?_);rintro e w8 ⟨v8,rfl,l⟩;have C8:=hid l;clear l)
 go_wp2
 go_ret
 exact⟨_,rfl,C8.o.more⟩
theorem Ctx.ain{P:Program}{f:Nat}{args:Array Value}{w:World}{b:Nat}{r:RP}{p:Option Pl}{W d:World}{v:Value}{m bs':List UInt8}(h:Ctx w b r p W v m)(i:W.grownBy d none)(u:m.length<=bs'.length)(k:∀c,Out d v c m->(∀q,c=some q->q.g<W.heap.size)->Calls P f args d λe W'=>∃a,e=.returned a/\aU d W' a c bs'):
  Calls P f args d λe W'=>∃a,e=.returned a/\Ctx w b r p W' a bs':=by
 obtain⟨c,n,z,A,B,y,s⟩:=h
 refine(k c (n.grown i) (λq j=>n.KU q j)).mono ?_
 rintro e W' ⟨a,rfl,R⟩
 refine⟨a,rfl,?_⟩
 have l:=R.cf
 obtain⟨x,t,o⟩:=aU.comp z (R.before i) u
 refine⟨x,t,o,(A.grown i).cf l B,?_,y,s⟩
 rcases o.2.1 with e|e
 ·rw[e];exact s
 ·intro q j;have:=e q j;omega
theorem DR(R)(p)(bs)(b:Nat)(r)(a)(x)(w)(G:Out w R p bs)(B:nJ w b r)(J:b<w.heap.size)(ho:Off p b)(E:r.Fits)(hu:Hid (x=a.toNat))(s:a.toNat<9223372036854775808)(N:bs.length<=400000):
  Calls prog 240 #[(b,0),R,ι x] w λe w'=>∃c,e=.returned c/\aU w w' c p (bs++r.part a):=by
 have n:=hid E
 have HU:=hid s
 obtain⟨n0,u⟩:=aq bs.length
 obtain⟨F,j⟩:=aq ((bs++bR r.yh).length)
 have XA:=hid u
 have H:=hid j
 have hL:(dw r.aV).length<=1004/\(bR r.yh).length<=10/\(iy [r.bU,r.t.ae]).length<=20/\(nC r.t.aN).length<=12/\r.times.length<=40:=
  ⟨by have:=pM r.aV;have:=E.aV;omega,(fo _).2,lg _,DN _,r.yj⟩
 obtain⟨l1,l2,L,X,l6⟩:=hL
 have ag:F<=402000:=by rw[<-j];simp only[cD];omega
 have ah:n0<=400000:=agE
 have HL:=hid (And.intro N (And.intro l1 (And.intro l2 (And.intro L (And.intro X l6)))))
 have O:=hid (Ctx.start G B J ho)
 have c0:=B.at 12 _ rfl
 obtain⟨ao,cap,rfl,aa,ab,I,_⟩:=G.open XA
 clear G B I u j N l1 l2 L X l6 E s
 go_enter func240,ntmps240
 go_wp2_with (first
  |(go_at_call 237;refine(O.o.call (mf _ (bR r.yh)) (λp1 o1 h1 h2 h3=>nE _ p1 _ _ _ o1 n.o.yh.1 n.o.yh.2 (by have:=HL.o;omega))).mono ?_;clear O;rintro e w2 ⟨v2,rfl,A⟩;have c2:=A.rp.at 1 _ rfl;have M:=hid A;obtain⟨aj,P,rfl,ai,af⟩:=A.shape H;clear A)
  |(go_at_call 252;refine(M.o.call (mf _ (nC r.t.aN)) (λp1 o1 h1 h2 h3=>xK _ p1 _ _ _ o1 ag3)).mono ?_;clear M;rintro e Y ⟨v4,rfl,z⟩;have c4:=z.rp.at 11 _ rfl;have c5:=z.rp.at 0 _ rfl;have C4:=hid z;clear z))
 have T:Hid (∀W g,Y.grownBy W none->W.rangeAt g 0 ([r.bU,r.t.ae].map Xz)->Y.heap.size<=g->Calls prog 227 #[v4,.slice (some ⟨g,0,none⟩) 2 2] W λe w'=>∃c,e=.returned c/\Ctx w b r p w' c (bs++bR r.yh++nC r.t.aN++iy [r.bU,r.t.ae])):=by
  intro W g hG hR hg;refine C4.o.ain hG (mf _ _) (λp1 o1 h1=>nI _ p1 _ _ g 2 2 W o1 hR (λq hq e=>?_) (hid rfl) ?_ agE ?_)
  ·have:=h1 q hq;omega
  ·intro y hy;simp at hy;rcases hy with rfl|rfl
   ·exact n.o.bU
   ·exact n.o.ae
  ·have:=HL.o;simp only[cD];omega
 clear C4
 obtain⟨nn,m⟩:=aq r.bU
 obtain⟨ff,C⟩:=aq r.t.ae
 rw[m]at c4
 rw[C]at c5
 have f:=hid (And.intro m C)
 clear m C
 go_region_held3 (λw'=>w'.cell? ⟨b,11,none⟩=some (ι nn)/\w'.cell? ⟨b,0,none⟩=some (ι ff)) (go_keep) (first|(go_at_call 227;refine(T.o _ _ ?gg ?gr ?gl).mono ?_;(case gg=>exact aR (cx _ _ none) _);(case gr=>rw[f.o.1,f.o.2];exact aS _ _ _);(case gl=>exact cy _);rintro e w5 ⟨v5,rfl,h⟩;have d0:=h.rp.at 11 _ rfl;have d1:=h.rp.at 0 _ rfl;rw[f.o.1]at d0;rw[f.o.2]at d1;have D:=hid h;clear h))
 clear T
 go_wp2_with (first
  |(go_at_call 253;(first|refine(D.o.call (mf _ r.times) (λp1 o1 h1 h2 h3=>qf _ p1 _ _ _ _ o1 h3 h1 n.o ag3)).mono ?_|refine((D.o.drewN _).call (mf _ r.times) (λp1 o1 h1 h2 h3=>qf _ p1 _ _ _ _ o1 h3 h1 n.o ag3)).mono ?_);clear D;rintro e w6 ⟨v6,rfl,l⟩;have e7:=l.rp.at 7 _ rfl;have U:=hid l;clear l)
  |(go_at_call 238;refine(U.o.call (mf _ (dw r.aV)) (λp1 o1 h1 h2 h3=>nG _ p1 _ _ _ o1 (by have:=n.o.aV;omega) ag3)).mono ?_;clear U;rintro e w7 ⟨v7,rfl,i⟩;have e8:=i.rp.at 13 _ rfl;have e9:=i.rp.at 14 _ rfl;have C7:=hid i;clear i))
 have HZ:Hid (∀k,Calls prog 254 #[v7,ι F,υ r.Gf.toNat,ι x,υ r.vL.toNat] (w7.drewN k) λe W'=>∃c,e=.returned c/\Ctx w b r p W' c (bs++bR r.yh++dw (Pure.fE r.Gf a r.vL (Box.box 48 r.lC)))):=by
  intro k;have K:r.lC.length<=3000:=by have:=HL.o;unfold RP.lC;simp only[cD];omega
  refine((C7.o.drewN k).cast (bs':=bs++bR r.yh++r.lC) (by simp[RP.lC,List.append_assoc])).call ?_ (λp1 o1 h1 h2 h3=>vK _ p1 _ _ r.Gf a r.vL _ _ F _ o1 H rfl hu HU.o agE (by have:=H.o;omega));have h1:=sN 4 (Pure.fE r.Gf a r.vL (Box.box 48 r.lC));have h2:=sN 48 r.lC;rw[Pure.dx]at h1;unfold dw;simp only[cD];omega
 clear C7
 go_region_held3 (λw'=>w'.cell? ⟨b,13,none⟩=some (υ r.Gf.toNat)/\w'.cell? ⟨b,14,none⟩=some (υ r.vL.toNat)) (go_keep) (first|(go_at_call 254;refine(HZ.o _).mono ?_;rintro e w8 ⟨S,rfl,d⟩;have f0:=d.rp.at 13 _ rfl;have f1:=d.rp.at 14 _ rfl;have V:=hid d;clear d))
 have Q:Hid (∀W,Ctx w b r p W S (bs++bR r.yh++dw (Pure.fE r.Gf a r.vL (Box.box 48 r.lC)))->Calls prog 228 #[S,ι n0,.int .u8 48] W λe W'=>∃c,e=.returned c/\Ctx w b r p W' c (bs++r.part a)):=by
  intro W hC;obtain⟨Z,hZ⟩:=aq (bR r.yh++dw (Pure.fE r.Gf a r.vL (Box.box 48 r.lC)));have ad:Z.length<=6000:=by
   have:=HL.o;have h1:=nH 4 (Pure.fE r.Gf a r.vL (Box.box 48 r.lC));have h2:=nH 48 r.lC;rw[Pure.dx]at h1;have K:r.lC.length<=3000:=(by unfold RP.lC;simp only[cD];omega);rw[<-hZ];unfold dw at *;simp only[cD];omega
  have e:bs++r.part a=bs++Box.box 48 Z:=by rw[RP.part,hZ]
  exact aaX
 clear HZ
 go_wp2_with (go_at_call 228;(first|refine(Q.o _ V.o).mono ?_|refine(Q.o _ (V.o.drewN _)).mono ?_);rintro e w9 ⟨v9,rfl,v⟩;have C9:=hid v;clear v)
 go_wp2
 go_ret
 exact⟨_,rfl,C9.o.more⟩
def RP.uW(r:RP)(kind:Int)(use:UInt64):List UInt8:=Box.box 48 (bR kind++(dw r.t.ay++(r.ticket++r.part use)))
theorem RP.DT(t)(s)(f e)(key d a b)(c):(RP.mk t s.name s.aH s.key a f e key b).uW c d=lU c t s f e key d a b:=by
 simp[RP.uW,RP.ticket,RP.part,RP.gD,RP.lC,RP.times,lU,wR,oq,TK.plain,jN,iy]
theorem RP.lens(r:RP)(a)(b:r.Fits):r.ticket.length<=7000/\(r.part a).length<=7000/\(dw r.t.ay).length<=1004:=by
 have g:=pM r.aV;have o:=pM r.t.ay;have l:=DN r.t.aN;have p:=r.yj;have n:=(fo r.t.ae).2;have j:=(fo r.zx).2;have i:=(fo r.yh).2;have d:=lg [r.bU,r.t.ae];have h:=b.aV;have k:=b.ay;simp only[de,List.length_nil]at d;have f:r.gD.length<=3000:=by unfold RP.gD;simp only[cD];omega
 have e:r.lC.length<=3000:=by grind [RP.lC]
 refine⟨?_,?_,by omega⟩
 ·unfold RP.ticket;have c:=pM (Pure.fE r.DL 2 r.uV (Box.box 48 r.gD));have m:=nH 48 r.gD;rw[Pure.dx]at c;refine cE (nH _ _) ?_;simp only[cD];omega
 ·unfold RP.part;grind [nH,Pure.dx,pM]
theorem zy(H)(p)(bs)(b:Nat)(r)(c)(a x)(w)(s:Out w H p bs)(y:nJ w b r)(q:b<w.heap.size)(O:Off p b)(n:r.Fits)(v:In64 a)(N:Hid (x=c.toNat))(h:c.toNat<9223372036854775808)(B:bs.length<=300000):
  Calls prog 215 #[(b,0),H,ι a,ι x] w λe w'=>∃f,e=.returned f/\aU w w' f p (bs++r.uW a c):=by
 have m:=hid n
 have P:=hid h
 have g:=hid v
 obtain⟨n0,k⟩:=aq bs.length
 have XA:=hid k
 have K:n0<=300000:=agE
 have HL:=hid (And.intro B (And.intro (fo a).2 (r.lens c n)))
 have F:=hid (Ctx.start s y q O)
 obtain⟨S,cap,rfl,G,L,l,_⟩:=s.open XA
 clear s y l k B n h v
 have Q:Hid (∀u W,Ctx w b r p W u (bs++bR a++dw r.t.ay++r.ticket++r.part c)->Calls prog 228 #[u,ι n0,.int .u8 48] W λe W'=>∃f,e=.returned f/\Ctx w b r p W' f (bs++r.uW a c)):=by
  intro u W hC;obtain⟨Z,hZ⟩:=aq (bR a++(dw r.t.ay++(r.ticket++r.part c)));have M:Z.length<=20000:=by
   have:=HL.o;rw[<-hZ];simp only[cD];omega
  have e:bs++r.uW a c=bs++Box.box 48 Z:=by rw[RP.uW,hZ]
  exact aaX
 go_enter func215,ntmps215
 go_wp2_with (first
  |(go_at_call 237;refine(F.o.call (mf _ (bR a)) (λp1 o1 h1 h2 h3=>nE _ p1 _ _ _ o1 g.o.1 g.o.2 (by have:=HL.o;omega))).mono ?_;clear F;rintro e X ⟨v1,rfl,d⟩;have R:=d.rp.at 2 _ rfl;have D:=hid d;clear d)
  |(go_at_call 238;refine(D.o.call (mf _ (dw r.t.ay)) (λp1 o1 h1 h2 h3=>nG _ p1 _ _ _ o1 (by have:=m.o.ay;omega) ag3)).mono ?_;clear D;rintro e w2 ⟨v2,rfl,A⟩;have z:=hid A;clear A)
  |(go_at_call 239;refine(z.o.call (mf _ r.ticket) (λp1 o1 h1 h2 h3=>Ak _ p1 _ _ _ _ o1 h3 h2 h1 m.o ag3)).mono ?_;clear z;rintro e w3 ⟨v3,rfl,i⟩;have C:=hid i;clear i)
  |(go_at_call 240;refine(C.o.call (mf _ (r.part c)) (λp1 o1 h1 h2 h3=>DR _ p1 _ _ _ c x _ o1 h3 h2 h1 m.o N P.o ag3)).mono ?_;clear C;rintro e V ⟨v4,rfl,E⟩;have J:=hid E;clear E)
  |(go_at_call 228;refine(Q.o _ _ J.o).mono ?_;rintro e T ⟨U,rfl,j⟩;have I:=hid j;clear j))
 go_wp2
 go_ret
 exact⟨_,rfl,I.o.more⟩
theorem aeE{p:Prop}(h:p:=by
 go_wp2_with (go_at_call 215;refine HA.o.mono ?_;rintro e w2 ⟨v2,rfl,R2⟩)
 go_wp2
 go_ret
 exact⟨_,rfl,R2⟩):p:=h
theorem zA(c)(p)(a)(b:Nat)(r)(w)(g:Out w c p a)(i:nJ w b r)(d:b<w.heap.size)(j:Off p b)(f:r.Fits)(k:a.length<=300000):
  Calls prog 181 #[(b,0),c] w λe w'=>∃h,e=.returned h/\aU w w' h p (a++r.uW 11 3):=by
 have HA:=hid (zy c p a b r 3 11 3 w g i d j f (by constructor<;>decide) (hid rfl) agF k)
 clear g i j f
 go_enter func181,ntmps181
 exact aeE
theorem Al(c)(p)(a)(b:Nat)(r)(w)(g:Out w c p a)(i:nJ w b r)(d:b<w.heap.size)(j:Off p b)(f:r.Fits)(k:a.length<=300000):
  Calls prog 187 #[(b,0),c] w λe w'=>∃h,e=.returned h/\aU w w' h p (a++r.uW 13 5):=by
 have HA:=hid (zy c p a b r 5 13 5 w g i d j f (by constructor<;>decide) (hid rfl) agF k)
 clear g i j f
 go_enter func187,ntmps187
 exact aeE
end Go.Proofs.YtlfifnpjeangmaaGreatDoor
