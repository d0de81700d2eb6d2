import Derived.Test.YticfhckmhcaigaaGreatDoorGEPOpenA
import Derived.Deep.RegionHeld3
namespace Go.Proofs.YticfhckmhcaigaaGreatDoor
set_option maxHeartbeats 1000000
open Proofs.Tryz Go.RowKit
set_option maxRecDepth 100000
variable {p:Option Pl}{v:Value}{w:World}
theorem Bs.self{S:l'}{c:Nat}(a:S.2.length<=c)(b:c<=9223372036854775807)(d:S.2.length<=200):Bs S (.slice S.1 S.2.length c) S.2:=⟨S.1,c,rfl,a,b,by omega,λ_ h=>h⟩
theorem fA.aik{b:E}(h:fA w v p b){g:Nat}(f:w.1.size<=g):Pl.blk p≠some g:=by
 rcases h with⟨a,_⟩|⟨q,a,_,_,_,d,_⟩
 .rw[a];exact λe=>by cases e
 .rw[a];intro e;injection e with e;have e:q.g=g:=e;have:=d.lt;omega
theorem XW{b o:Nat}(h:Pl.has p b o):Pl.blk p=some b:=by
 obtain⟨q,a,e,_⟩:=h;rw[a,e];rfl
theorem RS.open{j d:World}{y:Value}{x:E}{f:Array Value}{t m:TypeId}{l:E}{a:Option Addr}{s:E×Bool}(q:fA w y p x)(i:CF (w.alloc (.cells f t)) j (Pl.has p))(n:At j a l)(u:∀g,g<(w.alloc (.cells f t)).1.size->Pl.blk p≠some g->iY (a,l) g)(h:j.grownBy d none)(k:Bs (a,l) v s.1)(r:s.2=true->s.1=[]):
  RS w (d.alloc (.cells #[v,.bool s.2] m)) (Pl.has p) (a,l) d.1.size s w.1.size f:=by
 have C:(w.alloc (.cells f t)).1.size=w.1.size+1:=cG _ _
 have b:=q.aik (cA w.1.size)
 have D:=i.size
 have J:=h.size
 have g:=n.below h
 obtain⟨A,B,rfl,_⟩:=id k
 refine⟨Rd.new (w:=d) k r m,((((dm.new w f t).kept (i.block _ G (λo e=>b (XW e)))).grown h Z).alloc _),((CF.before (cy w _ none) i).grown h).alloc _,g.below (cy d _ none),iY.new (S:=(a,l)) g (cA _),u _ G b,cA _,by omega,by omega⟩
theorem aaU{b:Nat}(h:w.c b 0=some v):(loadVar 2 ⟨b,0,none⟩).run prog w=.ok v w:=by
 have a:=underlying2;go_simp
def iG(s:E×Bool):Bool:=!s.2&&decide (s.1=[])
theorem OZ(y)(p)(M)(d)(v)(z)(n m)(w)(k:fA w y p M)(t:Hid (z.length=n))(a:n<=m)(u:At w v z)(f:∀b e,v=some ⟨b,e,none⟩->∀j,j<z.length->¬ Pl.has p b (e+j)):Calls prog 209 #[y,O (d.toNat:Int),.slice v n m] w λe B=>e=.returned (.tuple #[Y (bO (dH d 1 z,false)).1,.bool (iG (bO (dH d 1 z,false)).2)])/\CF w B (Pl.has p):=by
 have h:=cy w (.cells #[Y 0] 2) none
 have i:=I (BP y p M d 1 1 v z n m _ (k.grown h) rfl (I rfl) t a (u.below h) f)
 obtain⟨l,o⟩:=aq (dH d 1 z)
 obtain⟨q,r⟩:=aq (bO (l,false))
 have R:Hid (bO (dH d 1 z,false)=q):=by show _=_;rw[o,r]
 have C:=I r
 rw[o]at i
 have D:=I k
 clear k t a u f h o r
 go_in
 go_wp2_with fail
 refine i.mono ?_
 rintro e T ⟨a,c,rfl,h,k,o,r,t,x⟩
 have f:Bs (a,l) (.slice a l.length c) l:=Bs.self (S:=(a,l)) h k o
 have u:=I (cZ t (cZ r (cZ x f)))
 clear h k o r t x f i
 go_wp2_with fail
 refine(OO a l.length c T).mono ?_
 rintro e i ⟨rfl,J⟩
 have r:RS w (i.alloc (.cells #[.slice a l.length c,.bool false] 314)) (Pl.has p) (a,l) i.1.size (l,false) w.1.size #[Y 0]:=RS.open (s:=(l,false)) D u.1 u.2.1 u.2.2.1 J u.2.2.2 (λe=>by cases e)
 obtain⟨w3,f⟩:=aw (i.alloc (.cells #[.slice a l.length c,.bool false] 314))
 rw[<-f]at r
 have K:=r.places [0] (λj x=>by show j<1;simp at x;omega) H 319
 have h:=r.alloc (.cells #[N w.1.size 0] 319)
 have t:=I (kX (a,l) i.1.size w3.1.size _ 1 (l,false) _ (I rfl) G (h.stays [0]) h.rd K)
 have o:iV (l,false) 1=q.2:=congrArg Prod.snd C.o
 rw[o]at t
 have Q:Hid ((bO (iV (l,false) 0)).1=q.1):=congrArg Prod.fst C.o
 have k:=I h
 have A:w3.1.size=i.1.size+1:=by rw[f];exact cG _ _
 rw[f]at t k
 rw[cG]at t
 clear r K h o J f A
 go_wp2_with fail
 refine t.mono ?_
 rintro e f ⟨rfl,L,A,K⟩
 have h:RS w f (Pl.has p) (a,l) i.1.size q.2 w.1.size #[Y q.1]:=by
  refine k.nums K L (λp hp=>?_) rfl (λj x=>?_)
  .exact tf
  .have o:j<1:=x;match j,o with
   |0,_=>rw[<-Q];exact A 0 (w.1.size,0) rfl
 have U:f.c w.1.size 0=some (Y q.1):=h.blk.cell 0
 have V:=h.blk.frozen 0
 have x:Hid (((f.drewN 1).setCell (F w.1.size 0) (Y q.1)).c w.1.size 0=some (Y q.1)):=dA (w:=f.drewN 1) _ U
 have o:=I (ky (a,l) i.1.size _ _ (f.drewN 1) (h.rd.drewN 1))
 have r:=I (ky (a,l) i.1.size _ _ ((f.drewN 1).setCell (F w.1.size 0) (Y q.1)) ((h.rd.drewN 1).uE ((iO.refl (f.drewN 1) (λb=>b=w.1.size)).set (g:=w.1.size) rfl 0 _) (λe=>h.ne e.symm)))
 have P:Hid (CF w ((f.drewN 1).setCell (F w.1.size 0) (Y q.1)) (Pl.has p)):=(h.cf.drewN 1).setCell w.1.size 0 _ (λe=>absurd e (gS _))
 obtain⟨J,b⟩:∃J,Hid ((!q.2.2&&decide (q.2.1=[]))=J):=⟨_,I rfl⟩
 rw[b]at o r
 clear L A K h t k u D
 go_wp2_with fail
 go_region_held3 (λB=>B.c w.1.size 0=some (Y q.1)) (first|exact x.o|go_keep) (first|(go_at_call 170;refine o.mono ?_;rintro e h ⟨rfl,rfl⟩)|(go_at_call 170;refine r.mono ?_;rintro e h ⟨rfl,rfl⟩))
 go_wp2
 exact bodyPost_ret (aG results209 _ _ _ w.1.size rfl _ (aaU x)) rfl ⟨by rw[R,iG,b];rfl,P⟩
set_option maxHeartbeats 2000000
variable {fb g:Nat}{ex:Nat->Nat->Prop}{S:l'}{W:World}
theorem RS.drewN{s:E×Bool}{a:Array Value}(h:RS w W ex S g s fb a)(n):RS w (W.drewN n) ex S g s fb a:=h.grown (aN (cC W none) n)
def aeX(W:World)(g:Nat)(c0 c1 c2:Value):World:=(((W.setCell (F g 0) c0).setCell (F g 1) c1).setCell (F g 2) c2)
theorem Tryz.WZ:(prog.info? 131).map (·.size)=some 3:=by kernel_rfl
theorem RS.aeX{s:E×Bool}{e f i:Value}(h:RS w W ex S g s fb #[e,f,i])(a b d):RS w (aeX W fb a b d) ex S g s fb #[a,b,d]:=by
 have k:=((h.store 0 a).store 1 b).store 2 d;exact wg
theorem RS.alJ{s:E×Bool}{a b d:Value}(h:RS w W ex S g s fb #[a,b,d]):(loadVar 131 ⟨fb,0,none⟩).run prog W=.ok (.agg #[a,b,d]) W:=h.blk.load 131 _ underlying131 rfl Tryz.WZ
theorem dm.alK{a b d:Value}(h:dm w g #[a,b,d]):w.cell? (F g 0)=some a/\w.cell? (F g 1)=some b/\w.cell? (F g 2)=some d:=⟨h.cell 0,h.cell 1,h.cell 2⟩
def Tm(l:E):E×(E×Bool):=fM (bQ l)
def Q5(l:E)(j:Nat):Int:=(bO (iV (Tm l).2 j)).1
def YX(l:E):E×Bool:=iV (Tm l).2 2
theorem Je(M)(p)(R)(d)(x)(z)(n i)(w)(D:fA w M p R)(L:Hid (z.length=n))(a:n<=i)(P:At w x z)(g:∀b e,x=some ⟨b,e,none⟩->∀j,j<z.length->¬ Pl.has p b (e+j)):Calls prog 219 #[M,O (d.toNat:Int),.slice x n i] w λe u=>e=.returned (.tuple #[.agg #[.string ⟨(Tm (dH d 4 z)).1.toArray⟩,Y (Q5 (dH d 4 z) 0),Y (Q5 (dH d 4 z) 1)],.bool (iG (YX (dH d 4 z)))])/\CF w u (Pl.has p):=by
 have k:=cy w (.cells #[ε,Y 0,Y 0] 131) none
 have q:=I (BP M p R d 4 4 x z n i _ (D.grown k) rfl (I rfl) L a (P.below k) g)
 obtain⟨l,J⟩:=aq (dH d 4 z)
 obtain⟨r,h⟩:=aq (bQ l)
 obtain⟨f,m⟩:=aq (fM r)
 obtain⟨N,v⟩:∃N:Nat->Int,∀j,(bO (iV f.2 j)).1=N j:=⟨_,λ_=>rfl⟩
 obtain⟨y,t⟩:=aq (iV f.2 2)
 have b:=mP l
 rw[h]at b
 have C:=I h
 have A:Hid (Tm (dH d 4 z)=f):=by show _=_;rw[Tm,J,h,m]
 have o:Hid (∀j,Q5 (dH d 4 z) j=N j):=λj=>by rw[Q5,A,v]
 have T:Hid (YX (dH d 4 z)=y):=by show _=_;rw[YX,A,t]
 have B:=I (cZ m (cZ v t))
 clear m v t
 rw[J]at q
 have K:=I D
 clear D L a P g k J h
 go_in
 go_wp2_with fail
 refine q.mono ?_
 rintro e W ⟨a,c,rfl,k,v,D,g,J,L⟩
 have h:Bs (a,l) (.slice a l.length c) l:=Bs.self (S:=(a,l)) k v D
 have m:=I (cZ J (cZ g L))
 have t:=I (vH (a,l) l l.length a c W (I rfl) g h)
 rw[C]at t
 clear k v D g J L h q
 go_wp2_with fail
 refine t.mono ?_
 rintro e g ⟨v,rfl,q,D⟩
 obtain⟨U,V,rfl,_⟩:=id q
 have k:RS w (g.alloc (.cells #[.slice U r.1.length V,.bool r.2] 314)) (Pl.has p) (a,l) g.1.size r w.1.size #[ε,Y 0,Y 0]:=RS.open K m.1 m.2.1 m.2.2 D q b
 have h:=I (pq (a,l) g.1.size r _ k.src k.ng k.rd)
 rw[B.1]at h
 have H1:=I k
 clear q D t b k m K
 go_wp2_with fail
 refine h.mono ?_
 rintro e w3 ⟨rfl,Q,P⟩
 have q:=H1.read P Q
 obtain⟨⟨X,D⟩,L⟩:=q.slot 0 (by show 0<3;decide)
 have m:RS w (w3.setCell (F w.1.size 0) (.string ⟨f.1.toArray⟩)) (Pl.has p) (a,l) g.1.size f.2 w.1.size #[.string ⟨f.1.toArray⟩,Y 0,Y 0]:=q.store 0 _
 have K:=m.places [1,2] (λj J=>by show j<3;simp at J;omega) H 319
 rw[World.size_setCell]at K
 have k:=m.alloc (.cells #[π w.1.size 1,π w.1.size 2] 319)
 have b:=I (kX (a,l) g.1.size _ _ 2 f.2 _ (I rfl) G (k.stays [1,2]) k.rd K)
 simp only[B.o.2.1]at b
 rw[B.2.2]at b
 have t:=I k
 clear Q P q m h H1 K k
 go_wp2_with fail
 refine b.mono ?_
 rintro e P ⟨rfl,q,k,m⟩
 have h:RS w P (Pl.has p) (a,l) g.1.size y w.1.size #[.string ⟨f.1.toArray⟩,Y (N 0),Y (N 1)]:=by
  refine t.nums m q (λp hp=>?_) rfl (λj J=>?_)
  .exact tf
  .have K:j<3:=J;match j,K with
   |0,_=>exact m.cell (t.blk.cell 0) (λe=>by rcases e with e|e;exact t.o.ne e;simp at e)
   |1,_=>exact k 0 (w.1.size,1) rfl
   |2,_=>exact k 1 (w.1.size,2) rfl
 clear q k m b t D L
 obtain⟨K,L,Q⟩:=h.blk.alK
 have z0:=h.blk.frozen 0
 have z1:=h.blk.frozen 1
 have z2:=h.blk.frozen 2
 have t:=(h.drewN 1).aeX (.string ⟨f.1.toArray⟩) (Y (N 0)) (Y (N 1))
 unfold aeX at t
 have J:=I t.blk.alK
 have q:=I t
 have b:=I (ky (a,l) g.1.size _ _ (P.drewN 1) (h.rd.drewN 1))
 have k:=I (ky (a,l) g.1.size _ _ _ t.rd)
 obtain⟨D,m⟩:∃D,Hid ((!y.2&&decide (y.1=[]))=D):=⟨_,I rfl⟩
 rw[m]at b k
 clear t h
 go_wp2_with fail
 go_region_held3 (λu=>u.c w.1.size 0=some (.string ⟨f.1.toArray⟩)/\u.c w.1.size 1=some (Y (N 0))/\u.c w.1.size 2=some (Y (N 1))) (first|exact J.o|go_keep) (first|(go_at_call 170;refine b.mono ?_;rintro e h ⟨rfl,rfl⟩)|(go_at_call 170;refine k.mono ?_;rintro e h ⟨rfl,rfl⟩))
 go_wp2
 exact bodyPost_ret (aG results219 _ _ _ w.1.size rfl _ q.alJ) rfl ⟨by rw[A,o,o,T,iG,m];rfl,q.cf⟩
def aeY(W:World)(g:Nat)(c0 c1 c2 c3 c4 c5 c6:Value):World:=(((((((W.setCell (F g 0) c0).setCell (F g 1) c1).setCell (F g 2) c2).setCell (F g 3) c3).setCell (F g 4) c4).setCell (F g 5) c5).setCell (F g 6) c6)
theorem Tryz.jy:(prog.info? 333).map (·.size)=some 7:=by kernel_rfl
theorem RS.aeY{W:World}{m:Nat->Nat->Prop}{S:l'}{l:Nat}{s:E×Bool}{n o p q r t u:Value}(h:RS w W m S g s l #[n,o,p,q,r,t,u])(a b d e f i j):RS w (aeY W l a b d e f i j) m S g s l #[a,b,d,e,f,i,j]:=by
 have k:=((((((h.store 0 a).store 1 b).store 2 d).store 3 e).store 4 f).store 5 i).store 6 j;exact wg
theorem RS.alM{W:World}{l:Nat->Nat->Prop}{S:l'}{k:Nat}{s:E×Bool}{a b d e f i j:Value}(h:RS w W l S g s k #[a,b,d,e,f,i,j]):(loadVar 333 ⟨k,0,none⟩).run prog W=.ok (.agg #[a,b,d,e,f,i,j]) W:=h.blk.load 333 _ underlying333 rfl Tryz.jy
theorem dm.alN{a b d e f i j:Value}(h:dm w g #[a,b,d,e,f,i,j]):w.cell? (F g 0)=some a/\w.cell? (F g 1)=some b/\w.cell? (F g 2)=some d/\w.cell? (F g 3)=some e/\w.cell? (F g 4)=some f/\w.cell? (F g 5)=some i/\w.cell? (F g 6)=some j:=⟨h.cell 0,h.cell 1,h.cell 2,h.cell 3,h.cell 4,h.cell 5,h.cell 6⟩
def Xa(l:E):Int×(E×Bool):=bO (bQ l)
def pL(l:E):UInt64×(E×Bool):=sW (Xa l).2
def Mc(l:E):E×(E×Bool):=fM (pL l).2
def zf(l:E)(j:Nat):Int:=(bO (iV (Mc l).2 j)).1
def Xb(l:E):E×Bool:=iV (Mc l).2 4
theorem Gd(U)(p)(rb)(d)(L)(z)(n x)(w)(A:fA w U p rb)(J:Hid (z.length=n))(a:n<=x)(K:At w L z)(f:∀b e,L=some ⟨b,e,none⟩->∀j,j<z.length->¬ Pl.has p b (e+j)):Calls prog 218 #[U,O (d.toNat:Int),.slice L n x] w λe r=>e=.returned (.tuple #[.agg #[Y (Xa (dH d 2 z)).1,O ((pL (dH d 2 z)).1.toNat:Int),.string ⟨(Mc (dH d 2 z)).1.toArray⟩,Y (zf (dH d 2 z) 0),Y (zf (dH d 2 z) 1),Y (zf (dH d 2 z) 2),Y (zf (dH d 2 z) 3)],.bool (iG (Xb (dH d 2 z)))])/\CF w r (Pl.has p):=by
 have i:=cy w (.cells #[Y 0,O 0,ε,Y 0,Y 0,Y 0,Y 0] 333) none
 have q:=I (BP U p rb d 2 2 L z n x _ (A.grown i) rfl (I rfl) J a (K.below i) f)
 obtain⟨l,B⟩:=aq (dH d 2 z)
 obtain⟨C,h⟩:=aq (bQ l)
 obtain⟨g,hF⟩:=aq (bO C)
 obtain⟨m,v⟩:=aq (sW g.2)
 obtain⟨k,t⟩:=aq (fM m.2)
 obtain⟨N,y⟩:∃N:Nat->Int,∀j,(bO (iV k.2 j)).1=N j:=⟨_,λ_=>rfl⟩
 obtain⟨M,u⟩:=aq (iV k.2 4)
 have b:=mP l
 rw[h]at b
 have R:=I h
 have W:Hid (Xa (dH d 2 z)=g):=by show _=_;rw[Xa,B,h,hF]
 have X:Hid (pL (dH d 2 z)=m):=by show _=_;rw[pL,W,v]
 have P:Hid (Mc (dH d 2 z)=k):=by show _=_;rw[Mc,X,t]
 have o:Hid (∀j,zf (dH d 2 z) j=N j):=λj=>by rw[zf,P,y]
 have HE:Hid (Xb (dH d 2 z)=M):=by show _=_;rw[Xb,P,u]
 have D:=I (cZ hF (cZ v (cZ t (cZ y u))))
 clear hF v t y u
 rw[B]at q
 have T:=I A
 clear A J a K f i B h
 go_in
 go_wp2_with fail
 refine q.mono ?_
 rintro e w1 ⟨a,c,rfl,i,t,v,f,y,A⟩
 have h:Bs (a,l) (.slice a l.length c) l:=Bs.self (S:=(a,l)) i t v
 have u:=I (cZ y (cZ f A))
 have J:=I (vH (a,l) l l.length a c w1 (I rfl) f h)
 rw[R]at J
 clear i t v f y A h q
 go_wp2_with fail
 refine J.mono ?_
 rintro e h ⟨v,rfl,K,V⟩
 obtain⟨a2,c2,rfl,_⟩:=id K
 have A:RS w (h.alloc (.cells #[.slice a2 C.1.length c2,.bool C.2] 314)) (Pl.has p) (a,l) h.1.size C w.1.size #[Y 0,O 0,ε,Y 0,Y 0,Y 0,Y 0]:=RS.open T u.1 u.2.1 u.2.2 V K b
 have B:=A.places [0] (λj y=>by show j<7;simp at y;omega) H 319
 rw[cG]at B
 have q:=A.alloc (.cells #[π w.1.size 0] 319)
 have t:=I (kX (a,l) h.1.size _ _ 1 C _ (I rfl) G (q.stays [0]) q.rd B)
 have i:iV C 1=g.2:=congrArg Prod.snd D.1
 rw[i]at t
 have Q:Hid ((bO (iV C 0)).1=g.1):=congrArg Prod.fst D.1
 have f:=I q
 clear K V J b A u T B q i
 go_wp2_with fail
 refine t.mono ?_
 rintro e w3 ⟨rfl,K,J,b⟩
 have i:RS w w3 (Pl.has p) (a,l) h.1.size g.2 w.1.size #[Y g.1,O 0,ε,Y 0,Y 0,Y 0,Y 0]:=by
  refine f.nums b K (λp hp=>?_) rfl (λj y=>?_)
  .exact tf
  .have A:j<7:=y;match j,A with
   |0,_=>rw[<-Q];exact J 0 (w.1.size,0) rfl
   |1,_=>exact b.cell (f.blk.cell 1) (λe=>by rcases e with e|e;exact f.o.ne e;simp at e)
   |2,_=>exact b.cell (f.blk.cell 2) (λe=>by rcases e with e|e;exact f.o.ne e;simp at e)
   |3,_=>exact b.cell (f.blk.cell 3) (λe=>by rcases e with e|e;exact f.o.ne e;simp at e)
   |4,_=>exact b.cell (f.blk.cell 4) (λe=>by rcases e with e|e;exact f.o.ne e;simp at e)
   |5,_=>exact b.cell (f.blk.cell 5) (λe=>by rcases e with e|e;exact f.o.ne e;simp at e)
   |6,_=>exact b.cell (f.blk.cell 6) (λe=>by rcases e with e|e;exact f.o.ne e;simp at e)
 have u:=I (WY (a,l) h.1.size g.2 _ i.src i.ng i.rd)
 rw[D.2.1]at u
 have T:=I i
 clear K J b i t f
 go_wp2_with fail
 refine u.mono ?_
 rintro e w4 ⟨rfl,K,t⟩
 have f:=T.read t K
 obtain⟨⟨d4,J⟩,Xc⟩:=f.slot 1 (by show 1<7;decide)
 have b:RS w (w4.setCell (F w.1.size 1) (O (m.1.toNat:Int))) (Pl.has p) (a,l) h.1.size m.2 w.1.size #[Y g.1,O (m.1.toNat:Int),ε,Y 0,Y 0,Y 0,Y 0]:=f.store 1 _
 have i:=I (pq (a,l) h.1.size m.2 _ b.src b.ng b.rd)
 rw[D.2.2.1]at i
 have V:=I b
 clear K t f b u T
 go_wp2_with fail
 refine i.mono ?_
 rintro e w6 ⟨rfl,r6,f6⟩
 have f:=V.read f6 r6
 obtain⟨⟨d6,K⟩,T⟩:=f.slot 2 (by show 2<7;decide)
 have b:RS w (w6.setCell (F w.1.size 2) (.string ⟨k.1.toArray⟩)) (Pl.has p) (a,l) h.1.size k.2 w.1.size #[Y g.1,O (m.1.toNat:Int),.string ⟨k.1.toArray⟩,Y 0,Y 0,Y 0,Y 0]:=f.store 2 _
 have B:=b.places [3,4,5,6] (λj y=>by show j<7;simp at y;omega) H 319
 rw[World.size_setCell]at B
 have q:=b.alloc (.cells #[π w.1.size 3,π w.1.size 4,π w.1.size 5,π w.1.size 6] 319)
 have u:=I (kX (a,l) h.1.size _ _ 4 k.2 _ (I rfl) G (q.stays [3,4,5,6]) q.rd B)
 simp only[D.o.2.2.2.1]at u
 rw[D.2.2.2.2]at u
 have t:=I q
 clear r6 f6 f b i V B q J Xc
 go_wp2_with fail
 refine u.mono ?_
 rintro e B ⟨rfl,q,f,i⟩
 have b:RS w B (Pl.has p) (a,l) h.1.size M w.1.size #[Y g.1,O (m.1.toNat:Int),.string ⟨k.1.toArray⟩,Y (N 0),Y (N 1),Y (N 2),Y (N 3)]:=by
  refine t.nums i q (λp hp=>?_) rfl (λj y=>?_)
  .exact tf
  .have A:j<7:=y;match j,A with
   |0,_=>exact i.cell (t.blk.cell 0) (λe=>by rcases e with e|e;exact t.o.ne e;simp at e)
   |1,_=>exact i.cell (t.blk.cell 1) (λe=>by rcases e with e|e;exact t.o.ne e;simp at e)
   |2,_=>exact i.cell (t.blk.cell 2) (λe=>by rcases e with e|e;exact t.o.ne e;simp at e)
   |3,_=>exact f 0 (w.1.size,3) rfl
   |4,_=>exact f 1 (w.1.size,4) rfl
   |5,_=>exact f 2 (w.1.size,5) rfl
   |6,_=>exact f 3 (w.1.size,6) rfl
 clear q f i u t K T
 obtain⟨J,K,T,V,x4,x5,x6⟩:=b.blk.alN
 have z0:=b.blk.frozen 0
 have z1:=b.blk.frozen 1
 have z2:=b.blk.frozen 2
 have z3:=b.blk.frozen 3
 have z4:=b.blk.frozen 4
 have z5:=b.blk.frozen 5
 have z6:=b.blk.frozen 6
 have u:=(b.drewN 1).aeY (Y g.1) (O (m.1.toNat:Int)) (.string ⟨k.1.toArray⟩) (Y (N 0)) (Y (N 1)) (Y (N 2)) (Y (N 3))
 unfold aeY at u
 have A:=I u.blk.alN
 have t:=I u
 have f:=I (ky (a,l) h.1.size _ _ (B.drewN 1) (b.rd.drewN 1))
 have i:=I (ky (a,l) h.1.size _ _ _ u.rd)
 obtain⟨y,q⟩:∃y,Hid ((!M.2&&decide (M.1=[]))=y):=⟨_,I rfl⟩
 rw[q]at f i
 clear u b
 go_wp2_with fail
 go_region_held3 (λr=>r.c w.1.size 0=some (Y g.1)/\r.c w.1.size 1=some (O (m.1.toNat:Int))/\r.c w.1.size 2=some (.string ⟨k.1.toArray⟩)/\r.c w.1.size 3=some (Y (N 0))/\r.c w.1.size 4=some (Y (N 1))/\r.c w.1.size 5=some (Y (N 2))/\r.c w.1.size 6=some (Y (N 3))) (first|go_keep|exact A) (first|(go_at_call 170;refine f.mono ?_;rintro e b ⟨rfl,rfl⟩)|(go_at_call 170;refine i.mono ?_;rintro e b ⟨rfl,rfl⟩))
 go_wp2
 exact bodyPost_ret (aG results218 _ _ _ w.1.size rfl _ t.alM) rfl ⟨by rw[W,X,P,o,o,o,o,HE,iG,q];rfl,t.cf⟩
variable {l:E}
theorem Tu{i r:E}{t:UInt8}(h:Box.cut l=some (t,i,r))(a:i.length<128):l.length=i.length+r.length+2:=by
 grind [Box.iP,Box.cut]
theorem vi{a:Nat}{s:E×Bool}(h:(bC a s.1 s.2).2.2=false)(b:(bC a s.1 s.2).1.length<128):s.2=false/\s.1.length=(bC a s.1 s.2).1.length+(bC a s.1 s.2).2.1.length+2:=by
 grind [Tu,bC]
theorem Gh{s:E×Bool}(h:(bO s).2.2=false):s.2=false/\s.1.length<=(bO s).2.1.length+10:=by
 grind [vi,Box.num,bO]
theorem Tv(h:dx l=true):l.length<=16:=by
 grind [dx]
theorem O8{s:E×Bool}(h:(fM s).2.2=false):s.2=false/\s.1.length<=(fM s).2.1.length+18:=by
 grind [vi,Tv,fM]
theorem ZL{s:E×Bool}(h:(sW s).2.2=false):s.2=false/\s.1.length<=(sW s).2.1.length+10:=by
 grind [vi,sW]
theorem O9(h:(bQ l).2=false)(a:(bQ l).1.length<128):l.length=(bQ l).1.length+2:=by
 revert h a;unfold bQ;split
 .rename_i q;intro _ a;have:=(vi (s:=(l,false)) q.1 a).2;grind
 .intro h;cases h
theorem R'{β:Type}{s:E×Bool}(h:lY s)(k:UInt64->E->Option β):(st s).bind (dO Su k)=(st (sW s).2).bind (k (sW s).1):=by
 obtain⟨l,f⟩:=s;cases f
 .cases hc:Box.cut l with
  |none=>
   have a:bC 4 l false=([],[],true):=(by rw[bC,hc]);simp[st,dO,hc,sW,a]
  |some q=>
   obtain⟨t,i,r⟩:=q;by_cases e:t.toNat=4
   .have a:bC 4 l false=(i,r,false):=vq;by_cases b:i.length=8<;>simp[st,dO,hc,sW,a,Su,e,b]
   .have a:bC 4 l false=([],[],true):=vr;simp[st,dO,hc,sW,a,Su,e]
 .have b:l=[]:=h rfl;subst b;simp[st,sW,pE]
theorem lY.key{s:E×Bool}(h:lY s):lY (sW s).2:=by
 unfold sW;simp only;split
 .exact h.take 4
 .exact λ_=>rfl
theorem Pb{a b:UInt64}{z:E}(h:z.length<=216):dH a b z=(fe a b z).getD []:=by
 grind [dH,fe]
theorem BR{α:Type}(f:E->Option α)(b d)(z)(j:f []=none)(k:∀l a,f l=some a->l.length<=200):(fe b d z).bind f=f (dH b d z):=by
 by_cases h:z.length<=216
 .grind [Pb,fe]
 .have e:dH b d z=[]:=by rw[dH,b' (λq=>h q.2.1)]
  rw[e,j];cases m:fe b d z with
  |none=>rfl
  |some l=>
   have i:l.length=z.length-16:=by
    grind [Pure.jd,fe]
   cases g:f l with
   |none=>simpa using g
   |some a=>have:=k l a g;omega
def Pd:E->Option Int:=dO bG λt=>wB t
theorem ZD(l):lg l=Pd l:=by
 unfold lg Pd dO;cases b:Box.cut l with
 |none=>rfl
 |some q=>
  obtain⟨t,i,r⟩:=q;cases r with
  |nil=>cases a:bG (t,i)<;>simp[a,wB]
  |cons x r=>cases a:bG (t,i)<;>simp[a,wB]
theorem BS(l):lg l=if iG (bO (l,false)).2=true then some (bO (l,false)).1 else none:=by
 rw[ZD];have:Pd l=(st (l,false)).bind Pd:=rfl;rw[this,Pd,kM (s:=(l,false)) (λe=>by cases e),xu];rfl
theorem Mf{s:E×Bool}(h:iG s=true):s.2=false/\s.1=[]:=by
 grind [iG]
theorem aa3(b)(z):(fe b 1 z).bind lg=if iG (bO (dH b 1 z,false)).2=true then some (bO (dH b 1 z,false)).1 else none:=by
 rw[BR lg b 1 z (by rw[BS];rfl) (λl a h=>?_),BS];rw[BS]at h;split at h
 .rename_i hd;obtain⟨d,e⟩:=Mf hd;have:=(Gh d).2;grind
 .cases h
def Mg:E->Option PF:=dO dz λc=>dO bG λt=>dO bG λn=>wB ⟨c,t,n⟩
theorem Xi(l):Mg l=(Box.dG l).bind uI:=
 eD _ _ _ (λc l=>eD _ _ _ (λt l=>eD _ _ _ (λn l=>xY (⟨c,t,n⟩:PF) l) l) l) l
theorem Tw{b d e f:E×Bool}{a:E}{g i:Int}(n:lY b)(o:fM b=(a,d))(l:bO d=(g,e))(m:bO e=(i,f)):
  (st b).bind Mg=(if iG f=true then some ⟨a,g,i⟩ else none)/\(iG f=true->b.2=false/\b.1.length<=38):=by
 have j:lY d:=sr
 have k:lY e:=n'
 refine⟨?_,λh=>?_⟩
 .unfold Mg;rw[yj n,o,kM j,l,kM k,m,xu];rfl
 grind [Mf,Gh,O8]
def o0(l:E):PF:=⟨(Tm l).1,Q5 l 0,Q5 l 1⟩
theorem Gi(l):fJ l=(if iG (YX l)=true then some (o0 l) else none)/\(iG (YX l)=true->l.length<=200):=by
 have d:fJ l=(st (bQ l)).bind Mg:=by
  unfold fJ;rw[AV,Option.bind_assoc];congr 1;grind [Xi]
 have e:fM (bQ l)=Tm l:=rfl;have a:bO (Tm l).2=(Q5 l 0,iV (Tm l).2 1):=yl _;have b:bO (iV (Tm l).2 1)=(Q5 l 1,iV (Tm l).2 2):=og _ 1;have f:YX l=iV (Tm l).2 2:=rfl;have g:o0 l=⟨(Tm l).1,Q5 l 0,Q5 l 1⟩:=rfl;grind [Tw,O9,vK]
theorem zG(b)(z):(fe b 4 z).bind fJ=if iG (YX (dH b 4 z))=true then some (o0 (dH b 4 z)) else none:=by
 have d:fJ []=none:=by
  rw[fJ,AV];have:bQ []=([],true):=by rw[bQ,pE];rfl
  rw[this];rfl
 rw[BR fJ b 4 z d (λl a h=>?_),(Gi _).1];grind [Gi]
def Ec:E->Option TK:=dO bG λf=>dO Su λk=>dO dz λc=>dO bG λa=>dO bG λs=>dO bG λe=>dO bG λr=>wB ⟨f,k,c,a,s,e,r⟩
theorem Tx(l):Ec l=(Box.dG l).bind jX:=
 eD _ _ _ (λf l=>eD _ _ _ (λk l=>eD _ _ _ (λc l=>eD _ _ _ (λa l=>eD _ _ _ (by grind [xY,eD]) l) l) l) l) l
theorem Pe{a i j b d e f g:E×Bool}{l:Int}{k:UInt64}{c:E}{m n o p:Int}(C:lY a)(hF:bO a=(l,i))(J:sW i=(k,j))(D:fM j=(c,b))(x:bO b=(m,d))(y:bO d=(n,e))(A:bO e=(o,f))(B:bO f=(p,g)):
  (st a).bind Ec=(if iG g=true then some ⟨l,k,c,m,n,o,p⟩ else none)/\(iG g=true->a.2=false/\a.1.length<=100):=by
 have v:lY i:=n'
 have w:lY j:=by grind [lY.key]
 have q:lY b:=sr
 have r:lY d:=n'
 have t:lY e:=n'
 have u:lY f:=n'
 refine⟨?_,λh=>?_⟩
 .unfold Ec;rw[kM C,hF,R' v,J,yj w,D,kM q,x,kM r,y,kM t,A,kM u,B,xu];rfl
 grind [Gh,O8,Mf,ZL]
def Y0(l:E):TK:=⟨(Xa l).1,(pL l).1,(Mc l).1,zf l 0,zf l 1,zf l 2,zf l 3⟩
theorem Da(l):dU l=(if iG (Xb l)=true then some (Y0 l) else none)/\(iG (Xb l)=true->l.length<=200):=by
 have f:dU l=(st (bQ l)).bind Ec:=by
  unfold dU;rw[AV,Option.bind_assoc];congr 1;grind [Tx]
 have hF:bO (bQ l)=Xa l:=rfl;have i:sW (Xa l).2=pL l:=rfl;have g:fM (pL l).2=Mc l:=rfl;have a:bO (Mc l).2=(zf l 0,iV (Mc l).2 1):=yl _;have b:bO (iV (Mc l).2 1)=(zf l 1,iV (Mc l).2 2):=og _ 1;have d:bO (iV (Mc l).2 2)=(zf l 2,iV (Mc l).2 3):=og _ 2;have e:bO (iV (Mc l).2 3)=(zf l 3,iV (Mc l).2 4):=og _ 3;have h:Xb l=iV (Mc l).2 4:=rfl;have j:Y0 l=⟨(Xa l).1,(pL l).1,(Mc l).1,zf l 0,zf l 1,zf l 2,zf l 3⟩:=rfl;grind [vK,O9,Pe]
theorem tY(b)(z):(fe b 2 z).bind dU=if iG (Xb (dH b 2 z))=true then some (Y0 (dH b 2 z)) else none:=by
 have d:dU []=none:=by
  rw[dU,AV];have:bQ []=([],true):=by rw[bQ,pE];rfl
  rw[this];rfl
 rw[BR dU b 2 z d (λl a h=>?_),(Da _).1];grind [Da]
