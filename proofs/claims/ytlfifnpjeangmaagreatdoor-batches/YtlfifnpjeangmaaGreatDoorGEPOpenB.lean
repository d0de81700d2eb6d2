import Derived.Test.YtlfifnpjeangmaaGreatDoorGEPOpenA
import Derived.Deep.RegionHeld3
namespace Go.Proofs.YtlfifnpjeangmaaGreatDoor
set_option maxHeartbeats 1000000
open Proofs.Tryz Go.RowKit
set_option maxRecDepth 100000
variable {p:Option Pl}{v:Value}{w:World}
theorem Bs.self{S:lR}{c:Nat}(a:S.2.length<=c)(b:c<=9223372036854775807)(d:S.2.length<=200):Bs S (.slice S.1 S.2.length c) S.2:=⟨S.1,c,rfl,a,b,by omega,λ_ h=>h⟩
theorem f'.afI{b:E}(h:f' w v p b){g:Nat}(f:w.1.size<=g):Pl.blk p≠some g:=by
 rcases h with⟨a,_⟩|⟨q,a,_,_,_,d,_⟩
 .rw[a];exact λe=>by cases e
 .rw[a];intro e;injection e with e;have e:q.g=g:=e;have:=d.lt;omega
theorem Sh{b o:Nat}(h:Pl.has p b o):Pl.blk p=some b:=by
 obtain⟨q,a,e,_⟩:=h;rw[a,e];rfl
theorem RS.open{j d:World}{y:Value}{x:E}{f:Array Value}{t m:TypeId}{l:E}{a:Option Addr}{s:E×Bool}(q:f' w y p x)(i:CF (w.alloc (.cells f t)) j (Pl.has p))(n:At j a l)(u:∀g,g<(w.alloc (.cells f t)).1.size->Pl.blk p≠some g->iR (a,l) g)(h:j.grownBy d none)(k:Bs (a,l) v s.1)(r:s.2=true->s.1=[]):
  RS w (d.alloc (.cells #[v,.bool s.2] m)) (Pl.has p) (a,l) d.1.size s w.1.size f:=by
 have C:(w.alloc (.cells f t)).1.size=w.1.size+1:=cF _ _
 have b:=q.afI (cy w.1.size)
 have D:=i.size
 have J:=h.size
 have g:=n.below h
 obtain⟨A,B,rfl,_⟩:=id k
 refine⟨Rd.new (w:=d) k r m,((((dz.new w f t).kept (i.block _ G (λo e=>b (Sh e)))).grown h Z).alloc _),((CF.before (cx w _ none) i).grown h).alloc _,g.below (cx d _ none),iR.new (S:=(a,l)) g (cy _),u _ G b,cy _,by omega,by omega⟩
theorem Yy{b:Nat}(h:w.c b 0=some v):(loadVar 2 ⟨b,0,none⟩).run prog w=.ok v w:=by
 have a:=underlying2;go_simp
def iC(s:E×Bool):Bool:=!s.2&&decide (s.1=[])
theorem MI(y)(p)(M)(d)(v)(z)(n m)(w)(k:f' w y p M)(t:Hid (z.length=n))(a:n<=m)(u:At w v z)(f:∀b e,v=some ⟨b,e,none⟩->∀j,j<z.length->¬ Pl.has p b (e+j)):Calls prog 209 #[y,H (d.toNat:Int),.slice v n m] w λe B=>e=.returned (.tuple #[Y (bM (dD d 1 z,false)).1,.bool (iC (bM (dD d 1 z,false)).2)])/\CF w B (Pl.has p):=by
 have h:=cx w (.cells #[Y 0] 2) none
 have i:=I (Az y p M d 1 1 v z n m _ (k.grown h) rfl (I rfl) t a (u.below h) f)
 obtain⟨l,o⟩:=N (dD d 1 z)
 obtain⟨q,r⟩:=N (bM (l,false))
 have R:Hid (bM (dD d 1 z,false)=q):=by show _=_;rw[o,r]
 have C:=I r
 rw[o]at i
 have D:=I k
 clear k t a u f h o r
 go_in
 go_wp2_with fail
 refine i.mono ?_
 rintro e T ⟨a,c,rfl,h,k,o,r,t,x⟩
 have f:Bs (a,l) (.slice a l.length c) l:=Bs.self (S:=(a,l)) h k o
 have u:=I (dN t (dN r (dN x f)))
 clear h k o r t x f i
 go_wp2_with fail
 refine(MB a l.length c T).mono ?_
 rintro e i ⟨rfl,J⟩
 have r:RS w (i.alloc (.cells #[.slice a l.length c,.bool false] 314)) (Pl.has p) (a,l) i.1.size (l,false) w.1.size #[Y 0]:=RS.open (s:=(l,false)) D u.1 u.2.1 u.2.2.1 J u.2.2.2 (λe=>by cases e)
 obtain⟨w3,f⟩:=aw (i.alloc (.cells #[.slice a l.length c,.bool false] 314))
 rw[<-f]at r
 have K:=r.places [0] (λj x=>by show j<1;simp at x;omega) O 319
 have h:=r.alloc (.cells #[π w.1.size 0] 319)
 have t:=I (kN (a,l) i.1.size w3.1.size _ 1 (l,false) _ (I rfl) G (h.stays [0]) h.rd K)
 have o:iO (l,false) 1=q.2:=congrArg Prod.snd C.o
 rw[o]at t
 have Q:Hid ((bM (iO (l,false) 0)).1=q.1):=congrArg Prod.fst C.o
 have k:=I h
 have A:w3.1.size=i.1.size+1:=by rw[f];exact cF _ _
 rw[f]at t k
 rw[cF]at t
 clear r K h o J f A
 go_wp2_with fail
 refine t.mono ?_
 rintro e f ⟨rfl,L,A,K⟩
 have h:RS w f (Pl.has p) (a,l) i.1.size q.2 w.1.size #[Y q.1]:=by
  refine k.nums K L (λp hp=>?_) rfl (λj x=>?_)
  .exact sR
  .have o:j<1:=x;match j,o with
   |0,_=>rw[<-Q];exact A 0 (w.1.size,0) rfl
 have U:f.c w.1.size 0=some (Y q.1):=h.blk.cell 0
 have V:=h.blk.frozen 0
 have x:Hid (((f.drewN 1).setCell (F w.1.size 0) (Y q.1)).c w.1.size 0=some (Y q.1)):=dw (w:=f.drewN 1) _ U
 have o:=I (jR (a,l) i.1.size _ _ (f.drewN 1) (h.rd.drewN 1))
 have r:=I (jR (a,l) i.1.size _ _ ((f.drewN 1).setCell (F w.1.size 0) (Y q.1)) ((h.rd.drewN 1).xL ((iU.refl (f.drewN 1) (λb=>b=w.1.size)).set (g:=w.1.size) rfl 0 _) (λe=>h.ne e.symm)))
 have P:Hid (CF w ((f.drewN 1).setCell (F w.1.size 0) (Y q.1)) (Pl.has p)):=(h.cf.drewN 1).setCell w.1.size 0 _ (λe=>absurd e (gC _))
 obtain⟨J,b⟩:∃J,Hid ((!q.2.2&&decide (q.2.1=[]))=J):=⟨_,I rfl⟩
 rw[b]at o r
 clear L A K h t k u D
 go_wp2_with fail
 go_region_held3 (λB=>B.c w.1.size 0=some (Y q.1)) (first|exact x.o|go_keep) (first|(go_at_call 170;refine o.mono ?_;rintro e h ⟨rfl,rfl⟩)|(go_at_call 170;refine r.mono ?_;rintro e h ⟨rfl,rfl⟩))
 go_wp2
 exact bodyPost_ret (aG results209 _ _ _ w.1.size rfl _ (Yy x)) rfl ⟨by rw[R,iC,b];rfl,P⟩
set_option maxHeartbeats 2000000
variable {fb g:Nat}{ex:Nat->Nat->Prop}{S:lR}{W:World}
theorem RS.drewN{s:E×Bool}{a:Array Value}(h:RS w W ex S g s fb a)(n):RS w (W.drewN n) ex S g s fb a:=h.grown (aR (cC W none) n)
def acr(W:World)(g:Nat)(c0 c1 c2:Value):World:=(((W.setCell (F g 0) c0).setCell (F g 1) c1).setCell (F g 2) c2)
theorem Tryz.UB:(prog.info? 131).map (·.size)=some 3:=by kernel_rfl
theorem RS.acr{s:E×Bool}{e f i:Value}(h:RS w W ex S g s fb #[e,f,i])(a b d):RS w (acr W fb a b d) ex S g s fb #[a,b,d]:=by
 have k:=((h.store 0 a).store 1 b).store 2 d;exact vq
theorem RS.aiR{s:E×Bool}{a b d:Value}(h:RS w W ex S g s fb #[a,b,d]):(loadVar 131 ⟨fb,0,none⟩).run prog W=.ok (.agg #[a,b,d]) W:=h.blk.load 131 _ underlying131 rfl Tryz.UB
theorem dz.aiS{a b d:Value}(h:dz w g #[a,b,d]):w.cell? (F g 0)=some a/\w.cell? (F g 1)=some b/\w.cell? (F g 2)=some d:=⟨h.cell 0,h.cell 1,h.cell 2⟩
def Qv(l:E):E×(E×Bool):=fJ (bO l)
def OY(l:E)(j:Nat):Int:=(bM (iO (Qv l).2 j)).1
def Wx(l:E):E×Bool:=iO (Qv l).2 2
theorem Gz(M)(p)(R)(d)(x)(z)(n i)(w)(D:f' w M p R)(L:Hid (z.length=n))(a:n<=i)(P:At w x z)(g:∀b e,x=some ⟨b,e,none⟩->∀j,j<z.length->¬ Pl.has p b (e+j)):Calls prog 219 #[M,H (d.toNat:Int),.slice x n i] w λe u=>e=.returned (.tuple #[.agg #[.string ⟨(Qv (dD d 4 z)).1.toArray⟩,Y (OY (dD d 4 z) 0),Y (OY (dD d 4 z) 1)],.bool (iC (Wx (dD d 4 z)))])/\CF w u (Pl.has p):=by
 have k:=cx w (.cells #[ε,Y 0,Y 0] 131) none
 have q:=I (Az M p R d 4 4 x z n i _ (D.grown k) rfl (I rfl) L a (P.below k) g)
 obtain⟨l,J⟩:=aq (dD d 4 z)
 obtain⟨r,h⟩:=aq (bO l)
 obtain⟨f,m⟩:=aq (fJ r)
 obtain⟨N,v⟩:∃N:Nat->Int,∀j,(bM (iO f.2 j)).1=N j:=⟨_,λ_=>rfl⟩
 obtain⟨y,t⟩:=aq (iO f.2 2)
 have b:=mo l
 rw[h]at b
 have C:=I h
 have A:Hid (Qv (dD d 4 z)=f):=by show _=_;rw[Qv,J,h,m]
 have o:Hid (∀j,OY (dD d 4 z) j=N j):=λj=>by rw[OY,A,v]
 have T:Hid (Wx (dD d 4 z)=y):=by show _=_;rw[Wx,A,t]
 have B:=I (dN m (dN v t))
 clear m v t
 rw[J]at q
 have K:=I D
 clear D L a P g k J h
 go_in
 go_wp2_with fail
 refine q.mono ?_
 rintro e W ⟨a,c,rfl,k,v,D,g,J,L⟩
 have h:Bs (a,l) (.slice a l.length c) l:=Bs.self (S:=(a,l)) k v D
 have m:=I (dN J (dN g L))
 have t:=I (uI (a,l) l l.length a c W (I rfl) g h)
 rw[C]at t
 clear k v D g J L h q
 go_wp2_with fail
 refine t.mono ?_
 rintro e g ⟨v,rfl,q,D⟩
 obtain⟨U,V,rfl,_⟩:=id q
 have k:RS w (g.alloc (.cells #[.slice U r.1.length V,.bool r.2] 314)) (Pl.has p) (a,l) g.1.size r w.1.size #[ε,Y 0,Y 0]:=RS.open K m.1 m.2.1 m.2.2 D q b
 have h:=I (oH (a,l) g.1.size r _ k.src k.ng k.rd)
 rw[B.1]at h
 have H1:=I k
 clear q D t b k m K
 go_wp2_with fail
 refine h.mono ?_
 rintro e w3 ⟨rfl,Q,P⟩
 have q:=H1.read P Q
 obtain⟨⟨X,D⟩,L⟩:=q.slot 0 (by show 0<3;decide)
 have m:RS w (w3.setCell (F w.1.size 0) (.string ⟨f.1.toArray⟩)) (Pl.has p) (a,l) g.1.size f.2 w.1.size #[.string ⟨f.1.toArray⟩,Y 0,Y 0]:=q.store 0 _
 have K:=m.places [1,2] (λj J=>by show j<3;simp at J;omega) O 319
 rw[World.size_setCell]at K
 have k:=m.alloc (.cells #[π w.1.size 1,π w.1.size 2] 319)
 have b:=I (kN (a,l) g.1.size _ _ 2 f.2 _ (I rfl) G (k.stays [1,2]) k.rd K)
 simp only[B.o.2.1]at b
 rw[B.2.2]at b
 have t:=I k
 clear Q P q m h H1 K k
 go_wp2_with fail
 refine b.mono ?_
 rintro e P ⟨rfl,q,k,m⟩
 have h:RS w P (Pl.has p) (a,l) g.1.size y w.1.size #[.string ⟨f.1.toArray⟩,Y (N 0),Y (N 1)]:=by
  refine t.nums m q (λp hp=>?_) rfl (λj J=>?_)
  .exact sR
  .have K:j<3:=J;match j,K with
   |0,_=>exact m.cell (t.blk.cell 0) (λe=>by rcases e with e|e;exact t.o.ne e;simp at e)
   |1,_=>exact k 0 (w.1.size,1) rfl
   |2,_=>exact k 1 (w.1.size,2) rfl
 clear q k m b t D L
 obtain⟨K,L,Q⟩:=h.blk.aiS
 have z0:=h.blk.frozen 0
 have z1:=h.blk.frozen 1
 have z2:=h.blk.frozen 2
 have t:=(h.drewN 1).acr (.string ⟨f.1.toArray⟩) (Y (N 0)) (Y (N 1))
 unfold acr at t
 have J:=I t.blk.aiS
 have q:=I t
 have b:=I (jR (a,l) g.1.size _ _ (P.drewN 1) (h.rd.drewN 1))
 have k:=I (jR (a,l) g.1.size _ _ _ t.rd)
 obtain⟨D,m⟩:∃D,Hid ((!y.2&&decide (y.1=[]))=D):=⟨_,I rfl⟩
 rw[m]at b k
 clear t h
 go_wp2_with fail
 go_region_held3 (λu=>u.c w.1.size 0=some (.string ⟨f.1.toArray⟩)/\u.c w.1.size 1=some (Y (N 0))/\u.c w.1.size 2=some (Y (N 1))) (first|exact J.o|go_keep) (first|(go_at_call 170;refine b.mono ?_;rintro e h ⟨rfl,rfl⟩)|(go_at_call 170;refine k.mono ?_;rintro e h ⟨rfl,rfl⟩))
 go_wp2
 exact bodyPost_ret (aG results219 _ _ _ w.1.size rfl _ q.aiR) rfl ⟨by rw[A,o,o,T,iC,m];rfl,q.cf⟩
def acs(W:World)(g:Nat)(c0 c1 c2 c3 c4 c5 c6:Value):World:=(((((((W.setCell (F g 0) c0).setCell (F g 1) c1).setCell (F g 2) c2).setCell (F g 3) c3).setCell (F g 4) c4).setCell (F g 5) c5).setCell (F g 6) c6)
theorem Tryz.ji:(prog.info? 333).map (·.size)=some 7:=by kernel_rfl
theorem RS.acs{W:World}{m:Nat->Nat->Prop}{S:lR}{l:Nat}{s:E×Bool}{n o p q r t u:Value}(h:RS w W m S g s l #[n,o,p,q,r,t,u])(a b d e f i j):RS w (acs W l a b d e f i j) m S g s l #[a,b,d,e,f,i,j]:=by
 have k:=((((((h.store 0 a).store 1 b).store 2 d).store 3 e).store 4 f).store 5 i).store 6 j;exact vq
theorem RS.aiU{W:World}{l:Nat->Nat->Prop}{S:lR}{k:Nat}{s:E×Bool}{a b d e f i j:Value}(h:RS w W l S g s k #[a,b,d,e,f,i,j]):(loadVar 333 ⟨k,0,none⟩).run prog W=.ok (.agg #[a,b,d,e,f,i,j]) W:=h.blk.load 333 _ underlying333 rfl Tryz.ji
theorem dz.aiV{a b d e f i j:Value}(h:dz w g #[a,b,d,e,f,i,j]):w.cell? (F g 0)=some a/\w.cell? (F g 1)=some b/\w.cell? (F g 2)=some d/\w.cell? (F g 3)=some e/\w.cell? (F g 4)=some f/\w.cell? (F g 5)=some i/\w.cell? (F g 6)=some j:=⟨h.cell 0,h.cell 1,h.cell 2,h.cell 3,h.cell 4,h.cell 5,h.cell 6⟩
def UC(l:E):Int×(E×Bool):=bM (bO l)
def oU(l:E):UInt64×(E×Bool):=rT (UC l).2
def JS(l:E):E×(E×Bool):=fJ (oU l).2
def xR(l:E)(j:Nat):Int:=(bM (iO (JS l).2 j)).1
def UD(l:E):E×Bool:=iO (JS l).2 4
theorem Es(U)(p)(rb)(d)(K)(z)(n u)(w)(A:f' w U p rb)(J:Hid (z.length=n))(a:n<=u)(P:At w K z)(f:∀b e,K=some ⟨b,e,none⟩->∀j,j<z.length->¬ Pl.has p b (e+j)):Calls prog 218 #[U,H (d.toNat:Int),.slice K n u] w λe r=>e=.returned (.tuple #[.agg #[Y (UC (dD d 2 z)).1,H ((oU (dD d 2 z)).1.toNat:Int),.string ⟨(JS (dD d 2 z)).1.toArray⟩,Y (xR (dD d 2 z) 0),Y (xR (dD d 2 z) 1),Y (xR (dD d 2 z) 2),Y (xR (dD d 2 z) 3)],.bool (iC (UD (dD d 2 z)))])/\CF w r (Pl.has p):=by
 have i:=cx w (.cells #[Y 0,H 0,ε,Y 0,Y 0,Y 0,Y 0] 333) none
 have q:=I (Az U p rb d 2 2 K z n u _ (A.grown i) rfl (I rfl) J a (P.below i) f)
 obtain⟨l,D⟩:=aq (dD d 2 z)
 obtain⟨B,h⟩:=aq (bO l)
 obtain⟨g,hF⟩:=aq (bM B)
 obtain⟨m,x⟩:=aq (rT g.2)
 obtain⟨k,t⟩:=aq (fJ m.2)
 obtain⟨N,y⟩:∃N:Nat->Int,∀j,(bM (iO k.2 j)).1=N j:=⟨_,λ_=>rfl⟩
 obtain⟨L,v⟩:=aq (iO k.2 4)
 have b:=mo l
 rw[h]at b
 have Q:=I h
 have W:Hid (UC (dD d 2 z)=g):=by show _=_;rw[UC,D,h,hF]
 have X:Hid (oU (dD d 2 z)=m):=by show _=_;rw[oU,W,x]
 have M:Hid (JS (dD d 2 z)=k):=by show _=_;rw[JS,X,t]
 have o:Hid (∀j,xR (dD d 2 z) j=N j):=λj=>by rw[xR,M,y]
 have HE:Hid (UD (dD d 2 z)=L):=by show _=_;rw[UD,M,v]
 have C:=I (dN hF (dN x (dN t (dN y v))))
 clear hF x t y v
 rw[D]at q
 have T:=I A
 clear A J a P f i D h
 go_in
 go_wp2_with fail
 refine q.mono ?_
 rintro e w1 ⟨a,c,rfl,i,t,v,f,x,A⟩
 have h:Bs (a,l) (.slice a l.length c) l:=Bs.self (S:=(a,l)) i t v
 have y:=I (dN x (dN f A))
 have J:=I (uI (a,l) l l.length a c w1 (I rfl) f h)
 rw[Q]at J
 clear i t v f x A h q
 go_wp2_with fail
 refine J.mono ?_
 rintro e h ⟨v,rfl,R,V⟩
 obtain⟨a2,c2,rfl,_⟩:=id R
 have D:RS w (h.alloc (.cells #[.slice a2 B.1.length c2,.bool B.2] 314)) (Pl.has p) (a,l) h.1.size B w.1.size #[Y 0,H 0,ε,Y 0,Y 0,Y 0,Y 0]:=RS.open T y.1 y.2.1 y.2.2 V R b
 have A:=D.places [0] (λj x=>by show j<7;simp at x;omega) O 319
 rw[cF]at A
 have q:=D.alloc (.cells #[π w.1.size 0] 319)
 have t:=I (kN (a,l) h.1.size _ _ 1 B _ (I rfl) G (q.stays [0]) q.rd A)
 have i:iO B 1=g.2:=congrArg Prod.snd C.1
 rw[i]at t
 have P:Hid ((bM (iO B 0)).1=g.1):=congrArg Prod.fst C.1
 have f:=I q
 clear R V J b D y T A q i
 go_wp2_with fail
 refine t.mono ?_
 rintro e w3 ⟨rfl,J,D,b⟩
 have i:RS w w3 (Pl.has p) (a,l) h.1.size g.2 w.1.size #[Y g.1,H 0,ε,Y 0,Y 0,Y 0,Y 0]:=by
  refine f.nums b J (λp hp=>?_) rfl (λj x=>?_)
  .exact sR
  .have y:j<7:=x;match j,y with
   |0,_=>rw[<-P];exact D 0 (w.1.size,0) rfl
   |1,_=>exact b.cell (f.blk.cell 1) (λe=>by rcases e with e|e;exact f.o.ne e;simp at e)
   |2,_=>exact b.cell (f.blk.cell 2) (λe=>by rcases e with e|e;exact f.o.ne e;simp at e)
   |3,_=>exact b.cell (f.blk.cell 3) (λe=>by rcases e with e|e;exact f.o.ne e;simp at e)
   |4,_=>exact b.cell (f.blk.cell 4) (λe=>by rcases e with e|e;exact f.o.ne e;simp at e)
   |5,_=>exact b.cell (f.blk.cell 5) (λe=>by rcases e with e|e;exact f.o.ne e;simp at e)
   |6,_=>exact b.cell (f.blk.cell 6) (λe=>by rcases e with e|e;exact f.o.ne e;simp at e)
 have R:=I (UA (a,l) h.1.size g.2 _ i.src i.ng i.rd)
 rw[C.2.1]at R
 have T:=I i
 clear J D b i t f
 go_wp2_with fail
 refine R.mono ?_
 rintro e w4 ⟨rfl,D,t⟩
 have f:=T.read t D
 obtain⟨⟨d4,J⟩,UE⟩:=f.slot 1 (by show 1<7;decide)
 have b:RS w (w4.setCell (F w.1.size 1) (H (m.1.toNat:Int))) (Pl.has p) (a,l) h.1.size m.2 w.1.size #[Y g.1,H (m.1.toNat:Int),ε,Y 0,Y 0,Y 0,Y 0]:=f.store 1 _
 have i:=I (oH (a,l) h.1.size m.2 _ b.src b.ng b.rd)
 rw[C.2.2.1]at i
 have V:=I b
 clear D t f b R T
 go_wp2_with fail
 refine i.mono ?_
 rintro e w6 ⟨rfl,r6,f6⟩
 have f:=V.read f6 r6
 obtain⟨⟨d6,R⟩,T⟩:=f.slot 2 (by show 2<7;decide)
 have b:RS w (w6.setCell (F w.1.size 2) (.string ⟨k.1.toArray⟩)) (Pl.has p) (a,l) h.1.size k.2 w.1.size #[Y g.1,H (m.1.toNat:Int),.string ⟨k.1.toArray⟩,Y 0,Y 0,Y 0,Y 0]:=f.store 2 _
 have A:=b.places [3,4,5,6] (λj x=>by show j<7;simp at x;omega) O 319
 rw[World.size_setCell]at A
 have q:=b.alloc (.cells #[π w.1.size 3,π w.1.size 4,π w.1.size 5,π w.1.size 6] 319)
 have D:=I (kN (a,l) h.1.size _ _ 4 k.2 _ (I rfl) G (q.stays [3,4,5,6]) q.rd A)
 simp only[C.o.2.2.2.1]at D
 rw[C.2.2.2.2]at D
 have t:=I q
 clear r6 f6 f b i V A q J UE
 go_wp2_with fail
 refine D.mono ?_
 rintro e A ⟨rfl,q,f,i⟩
 have b:RS w A (Pl.has p) (a,l) h.1.size L w.1.size #[Y g.1,H (m.1.toNat:Int),.string ⟨k.1.toArray⟩,Y (N 0),Y (N 1),Y (N 2),Y (N 3)]:=by
  refine t.nums i q (λp hp=>?_) rfl (λj x=>?_)
  .exact sR
  .have y:j<7:=x;match j,y with
   |0,_=>exact i.cell (t.blk.cell 0) (λe=>by rcases e with e|e;exact t.o.ne e;simp at e)
   |1,_=>exact i.cell (t.blk.cell 1) (λe=>by rcases e with e|e;exact t.o.ne e;simp at e)
   |2,_=>exact i.cell (t.blk.cell 2) (λe=>by rcases e with e|e;exact t.o.ne e;simp at e)
   |3,_=>exact f 0 (w.1.size,3) rfl
   |4,_=>exact f 1 (w.1.size,4) rfl
   |5,_=>exact f 2 (w.1.size,5) rfl
   |6,_=>exact f 3 (w.1.size,6) rfl
 clear q f i D t R T
 obtain⟨J,R,T,V,x4,x5,x6⟩:=b.blk.aiV
 have z0:=b.blk.frozen 0
 have z1:=b.blk.frozen 1
 have z2:=b.blk.frozen 2
 have z3:=b.blk.frozen 3
 have z4:=b.blk.frozen 4
 have z5:=b.blk.frozen 5
 have z6:=b.blk.frozen 6
 have x:=(b.drewN 1).acs (Y g.1) (H (m.1.toNat:Int)) (.string ⟨k.1.toArray⟩) (Y (N 0)) (Y (N 1)) (Y (N 2)) (Y (N 3))
 unfold acs at x
 have D:=I x.blk.aiV
 have t:=I x
 have f:=I (jR (a,l) h.1.size _ _ (A.drewN 1) (b.rd.drewN 1))
 have i:=I (jR (a,l) h.1.size _ _ _ x.rd)
 obtain⟨y,q⟩:∃y,Hid ((!L.2&&decide (L.1=[]))=y):=⟨_,I rfl⟩
 rw[q]at f i
 clear x b
 go_wp2_with fail
 go_region_held3 (λr=>r.c w.1.size 0=some (Y g.1)/\r.c w.1.size 1=some (H (m.1.toNat:Int))/\r.c w.1.size 2=some (.string ⟨k.1.toArray⟩)/\r.c w.1.size 3=some (Y (N 0))/\r.c w.1.size 4=some (Y (N 1))/\r.c w.1.size 5=some (Y (N 2))/\r.c w.1.size 6=some (Y (N 3))) (first|go_keep|exact D) (first|(go_at_call 170;refine f.mono ?_;rintro e b ⟨rfl,rfl⟩)|(go_at_call 170;refine i.mono ?_;rintro e b ⟨rfl,rfl⟩))
 go_wp2
 exact bodyPost_ret (aG results218 _ _ _ w.1.size rfl _ t.aiU) rfl ⟨by rw[W,X,M,o,o,o,o,HE,iC,q];rfl,t.cf⟩
variable {l:E}
theorem QA{i r:E}{t:UInt8}(h:Box.cut l=some (t,i,r))(a:i.length<128):l.length=i.length+r.length+2:=by
 grind [Box.iJ,Box.cut]
theorem tW{a:Nat}{s:E×Bool}(h:(bC a s.1 s.2).2.2=false)(b:(bC a s.1 s.2).1.length<128):s.2=false/\s.1.length=(bC a s.1 s.2).1.length+(bC a s.1 s.2).2.1.length+2:=by
 grind [QA,bC]
theorem Ev{s:E×Bool}(h:(bM s).2.2=false):s.2=false/\s.1.length<=(bM s).2.1.length+10:=by
 grind [tW,Box.num,bM]
theorem QB(h:di l=true):l.length<=16:=by
 grind [di]
theorem MO{s:E×Bool}(h:(fJ s).2.2=false):s.2=false/\s.1.length<=(fJ s).2.1.length+18:=by
 grind [tW,QB,fJ]
theorem S3{s:E×Bool}(h:(rT s).2.2=false):s.2=false/\s.1.length<=(rT s).2.1.length+10:=by
 grind [tW,rT]
theorem MP(h:(bO l).2=false)(a:(bO l).1.length<128):l.length=(bO l).1.length+2:=by
 revert h a;unfold bO;split
 .rename_i q;intro _ a;have:=(tW (s:=(l,false)) q.1 a).2;grind
 .intro h;cases h
theorem O'{β:Type}{s:E×Bool}(h:kW s)(k:UInt64->E->Option β):(st s).bind (dL P6 k)=(st (rT s).2).bind (k (rT s).1):=by
 obtain⟨l,f⟩:=s;cases f
 .cases hc:Box.cut l with
  |none=>
   have a:bC 4 l false=([],[],true):=(by rw[bC,hc]);simp[st,dL,hc,rT,a]
  |some q=>
   obtain⟨t,i,r⟩:=q;by_cases e:t.toNat=4
   .have a:bC 4 l false=(i,r,false):=ur;by_cases b:i.length=8<;>simp[st,dL,hc,rT,a,P6,e,b]
   .have a:bC 4 l false=([],[],true):=uv;simp[st,dL,hc,rT,a,P6,e]
 .have b:l=[]:=h rfl;subst b;simp[st,rT,oI]
theorem kW.key{s:E×Bool}(h:kW s):kW (rT s).2:=by
 unfold rT;simp only;split
 .exact h.take 4
 .exact λ_=>rfl
theorem MQ{a b:UInt64}{z:E}(h:z.length<=216):dD a b z=(eX a b z).getD []:=by
 grind [dD,eX]
theorem AB{α:Type}(f:E->Option α)(b d)(z)(j:f []=none)(k:∀l a,f l=some a->l.length<=200):(eX b d z).bind f=f (dD b d z):=by
 by_cases h:z.length<=216
 .grind [MQ,eX]
 .have e:dD b d z=[]:=by rw[dD,cZ (λq=>h q.2.1)]
  rw[e,j];cases m:eX b d z with
  |none=>rfl
  |some l=>
   have i:l.length=z.length-16:=by
    grind [Pure.kY,eX]
   cases g:f l with
   |none=>simpa using g
   |some a=>have:=k l a g;omega
def MS:E->Option Int:=dL bG λt=>vw t
theorem S0(l):kR l=MS l:=by
 unfold kR MS dL;cases b:Box.cut l with
 |none=>rfl
 |some q=>
  obtain⟨t,i,r⟩:=q;cases r with
  |nil=>cases a:bG (t,i)<;>simp[a,vw]
  |cons x r=>cases a:bG (t,i)<;>simp[a,vw]
theorem AJ(l):kR l=if iC (bM (l,false)).2=true then some (bM (l,false)).1 else none:=by
 rw[S0];have:MS l=(st (l,false)).bind MS:=rfl;rw[this,MS,ky (s:=(l,false)) (λe=>by cases e),vW];rfl
theorem JW{s:E×Bool}(h:iC s=true):s.2=false/\s.1=[]:=by
 grind [iC]
theorem YH(b)(z):(eX b 1 z).bind kR=if iC (bM (dD b 1 z,false)).2=true then some (bM (dD b 1 z,false)).1 else none:=by
 rw[AB kR b 1 z (by rw[AJ];rfl) (λl a h=>?_),AJ];rw[AJ]at h;split at h
 .rename_i hd;obtain⟨d,e⟩:=JW hd;have:=(Ev d).2;grind
 .cases h
def JY:E->Option PF:=dL dm λc=>dL bG λt=>dL bG λn=>vw ⟨c,t,n⟩
theorem UK(l):JY l=(Box.dF l).bind tQ:=
 ek _ _ _ (λc l=>ek _ _ _ (λt l=>ek _ _ _ (λn l=>wW (⟨c,t,n⟩:PF) l) l) l) l
theorem QC{b d e f:E×Bool}{a:E}{g i:Int}(n:kW b)(o:fJ b=(a,d))(l:bM d=(g,e))(m:bM e=(i,f)):
  (st b).bind JY=(if iC f=true then some ⟨a,g,i⟩ else none)/\(iC f=true->b.2=false/\b.1.length<=38):=by
 have j:kW d:=sd
 have k:kW e:=m9
 refine⟨?_,λh=>?_⟩
 .unfold JY;rw[xe n,o,ky j,l,ky k,m,vW];rfl
 grind [JW,Ev,MO]
def YI(l:E):PF:=⟨(Qv l).1,OY l 0,OY l 1⟩
theorem Ew(l):fI l=(if iC (Wx l)=true then some (YI l) else none)/\(iC (Wx l)=true->l.length<=200):=by
 have d:fI l=(st (bO l)).bind JY:=by
  unfold fI;rw[zO,Option.bind_assoc];congr 1;grind [UK]
 have e:fJ (bO l)=Qv l:=rfl;have a:bM (Qv l).2=(OY l 0,iO (Qv l).2 1):=xh _;have b:bM (iO (Qv l).2 1)=(OY l 1,iO (Qv l).2 2):=nO _ 1;have f:Wx l=iO (Qv l).2 2:=rfl;have g:YI l=⟨(Qv l).1,OY l 0,OY l 1⟩:=rfl;grind [QC,MP,uL]
theorem yB(b)(z):(eX b 4 z).bind fI=if iC (Wx (dD b 4 z))=true then some (YI (dD b 4 z)) else none:=by
 have d:fI []=none:=by
  rw[fI,zO];have:bO []=([],true):=by rw[bO,oI];rfl
  rw[this];rfl
 rw[AB fI b 4 z d (λl a h=>?_),(Ew _).1];grind [Ew]
def Cu:E->Option TK:=dL bG λf=>dL P6 λk=>dL dm λc=>dL bG λa=>dL bG λs=>dL bG λe=>dL bG λr=>vw ⟨f,k,c,a,s,e,r⟩
theorem QE(l):Cu l=(Box.dF l).bind jP:=
 ek _ _ _ (λf l=>ek _ _ _ (λk l=>ek _ _ _ (λc l=>ek _ _ _ (λa l=>ek _ _ _ (by grind [wW,ek]) l) l) l) l) l
theorem MU{a i j b d e f g:E×Bool}{l:Int}{k:UInt64}{c:E}{m n o p:Int}(C:kW a)(hF:bM a=(l,i))(J:rT i=(k,j))(D:fJ j=(c,b))(x:bM b=(m,d))(y:bM d=(n,e))(A:bM e=(o,f))(B:bM f=(p,g)):
  (st a).bind Cu=(if iC g=true then some ⟨l,k,c,m,n,o,p⟩ else none)/\(iC g=true->a.2=false/\a.1.length<=100):=by
 have v:kW i:=m9
 have w:kW j:=by grind [kW.key]
 have q:kW b:=sd
 have r:kW d:=m9
 have t:kW e:=m9
 have u:kW f:=m9
 refine⟨?_,λh=>?_⟩
 .unfold Cu;rw[ky C,hF,O' v,J,xe w,D,ky q,x,ky r,y,ky t,A,ky u,B,vW];rfl
 grind [Ev,MO,JW,S3]
def WA(l:E):TK:=⟨(UC l).1,(oU l).1,(JS l).1,xR l 0,xR l 1,xR l 2,xR l 3⟩
theorem Bz(l):dR l=(if iC (UD l)=true then some (WA l) else none)/\(iC (UD l)=true->l.length<=200):=by
 have f:dR l=(st (bO l)).bind Cu:=by
  unfold dR;rw[zO,Option.bind_assoc];congr 1;grind [QE]
 have hF:bM (bO l)=UC l:=rfl;have i:rT (UC l).2=oU l:=rfl;have g:fJ (oU l).2=JS l:=rfl;have a:bM (JS l).2=(xR l 0,iO (JS l).2 1):=xh _;have b:bM (iO (JS l).2 1)=(xR l 1,iO (JS l).2 2):=nO _ 1;have d:bM (iO (JS l).2 2)=(xR l 2,iO (JS l).2 3):=nO _ 2;have e:bM (iO (JS l).2 3)=(xR l 3,iO (JS l).2 4):=nO _ 3;have h:UD l=iO (JS l).2 4:=rfl;have j:WA l=⟨(UC l).1,(oU l).1,(JS l).1,xR l 0,xR l 1,xR l 2,xR l 3⟩:=rfl;grind [uL,MP,MU]
theorem sH(b)(z):(eX b 2 z).bind dR=if iC (UD (dD b 2 z))=true then some (WA (dD b 2 z)) else none:=by
 have d:dR []=none:=by
  rw[dR,zO];have:bO []=([],true):=by rw[bO,oI];rfl
  rw[this];rfl
 rw[AB dR b 2 z d (λl a h=>?_),(Bz _).1];grind [Bz]
