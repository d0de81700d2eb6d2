import Derived.Test.YtlfifnpjeangmaaGreatDoorGEHead
import Derived.Test.YtlfifnpjeangmaaGreatDoorGEIns
import Derived.BigQuiet
namespace Go.Proofs.YtlfifnpjeangmaaGreatDoor
set_option maxHeartbeats 2000000
open Proofs.Tryz Go.RowKit
set_option maxRecDepth 100000
variable {p:Prop}
theorem KY(h)(zs)(a)(cap n)(w)(hn:Hid (zs.length=n))(c:n<=140737488355328)(b:At w a zs):
  Calls prog 79 #[υ h.toNat,.slice a n cap] w λe w'=>e=.returned (υ ((Pure.iG h zs).toNat:Int))/\w=w':=by
 obtain rfl:=hn.o
 exact uo h zs a cap w c b
theorem aaQ(h:p:=by
 go_wp2
 go_roundw
 case rel=>grind
 case measure=>simp[intOf];omega):p:=h
theorem ach(h:p:=by
 intro x hx
 refine sK (P:=prog) underlying37 _ 1 1 [Pure.dW v (size-1-k)] rfl ?_
 exact fq _ _ _ _ (by rw[hx];rfl)):p:=h
theorem aed(h:p:=by
 have hks:k=size:=agE
 subst hks
 go_wp2
 go_ret
 exact⟨_,rfl,hbr⟩):p:=h
theorem yU(n)(p)(d)(v)(size:Nat)(w)(u:Out w n p d)(B:size<=8)(A:d.length<=1000000):
  Calls prog 124 #[n,υ v.toNat,ι size] w λe w'=>∃j,e=.returned j/\aU w w' j p (d++Pure.be v size):=by
 obtain⟨t,s,g,h,f⟩:=info_parts Tryz.info5
 go_enter func124,ntmps124
 go_wp2
 go_loopw [0,8] (λo i wr=>∃k:Nat,k<=size/\i = ι ((size:Int)-1-k)/\aU w wr o p (d++Pure.pF v size k)) (λ_ i _=>(intOf i+1).toNat)
 case atStart=>grind [Pure.tF,aU.refl]
 case round=>
  obtain⟨k,z,rfl,hbr⟩:=hrel;by_cases r:k<size
  ·obtain⟨q,c,a⟩:=hbr;have l:=hid a;clear a;have b:∀x,x=((Pure.dW v (size-1-k)).toNat:Int)->Src prog 1 37 (.slice (some (wr,0)) 1 1) 1 ([Pure.dW v (size-1-k)].map U8) (wr.alloc (.cells #[.int .u8 x] 5)):=by
    exact ach
   go_wp2_with (at_builtin;refine dK _ rfl _ _ 37 37 rfl 5 t underlying37 s g h f _ _ q _ [Pure.dW v (size-1-k)] rfl rfl (c.grown (cx _ _ _)) 1 (b _ ?c1) ?c2 ?_)
   case c1=>exact nX v _
   case c2=>simp[Pure.jV];omega
   ·intro v1 y m;have R:=aU.comp l.o (m.before (cx _ _ _)) agI;have C:aU w y v1 p (d++Pure.pF v size (k+1)):=(by rw[Pure.mQ];omega);clear R m c u l;exact aaQ
  ·exact aed
theorem Out.buf{w:World}{g cap:Nat}{b:List UInt8}(h:Buf w g cap b):Live w g cap/\w.rangeAt g 0 (b.map U8):=by
 have d:=h;obtain⟨a,e,c,f,_⟩:=h;exact⟨⟨a,e,c,by omega⟩,At.range d.at⟩
theorem Tu(head)(i)(p)(A zs)(fr n cap)(w)(y:Out w (.slice i n cap) p (A++zs))(m:Hid (A.length=fr))(k:Hid ((A++zs).length=n))(C:n<=900000):
  Calls prog 122 #[.slice (sl i cap fr) (n-fr) (cap-fr),υ head.toNat] w λe w'=>e=.returned (.tuple #[])/\Out w' (.slice i n cap) p (A++Pure.veil head zs)/\CF w w' (Pl.has p):=by
 have a:(A++zs).length=A.length+zs.length:=cD
 rw[m.o,k.o]at a
 by_cases f:zs=[]
 ·subst f;rw[List.length_nil]at a;rw[show n-fr=0 from by omega];refine(Ha _ _ head w).mono ?_;grind [Out.grown,CF.bF,Pure.veil]
 ·have v:=fX.2 f;rcases y with⟨_,_,h⟩|⟨q,l,c,D,u,t,r⟩
  ·rw[List.append_eq_nil_iff]at h;exact absurd h.2 f
  ·injection c with e1 e2 e3;subst e1 e3;have x:sl (some ⟨q.g,q.off,none⟩) q.cap fr=some ⟨q.g,q.off+fr,none⟩:=by
    grind [Addr.add_lit,sl]
   have j:q.off+fr+(n-fr)<=q.off+q.cap:=(by have:=k.o;omega);have d:w.rangeAt q.g (q.off+fr) (zs.map U8):=by
    have:=rV (cs:=A.map U8) (ds:=zs.map U8) (by rw[<-eg];exact r);rw[cR,m.o]at this;exact this
   have E:=xW (ds:=zs.map U8) (by rw[<-eg];exact r);rw[x];refine(RX q.g (q.off+fr) (q.cap-fr) (n-fr) head zs w (t.mono j) (hid agE) agE d).mono ?_;rintro e w' ⟨rfl,B,z⟩;have s:CF w w' (Pl.has p):=z.mono (λb o _ e=>⟨q,l,e.1,by omega,by have:=e.2;have:=k.o;omega⟩);refine⟨rfl,.inr ⟨q,l,?_,?_,u,t.cf s,?_⟩,s⟩
   ·grind [Pure.gP]
   ·grind [Pure.gP]
   grind [qx,CF.range]
theorem WE(key a draw)(x)(ov)(p)(A zs)(fr)(X:Int)(w)(N:Out w ov p (A++zs))(L:Hid (A.length=fr))(E:X=fr)(hu:Hid (x=a.toNat))(F:a.toNat<9223372036854775808)(U:(A++zs).length<=900000):
  Calls prog 81 #[ov,ι X,υ key.toNat,ι x,υ draw.toNat] w λe w'=>∃T,e=.returned T/\aU w w' T p (A++Pure.fE key a draw zs):=by
 subst E
 obtain⟨i0,hi,I,u,H⟩:=info_parts Tryz.info5
 obtain⟨n,hn⟩:=aq ((A++zs).length)
 have z:=hid hn
 have v:zs.length=n-fr:=agR
 have HZ:=hid v
 have G:fr<=n:=agR
 rw[hn]at U
 clear hn v
 obtain⟨B,cap,C,O,ab,j,aa⟩:=N.open z
 subst C
 have D:=xG (P:=prog) 37 5 i0 underlying37 hi u B n cap fr G
 have i:∀w,At w B (A++zs)->At w (sl B cap fr) zs:=λw h=>by
  have:=h.part cap fr (by rw[z.o];exact O);rw[show(A++zs).drop fr=zs from by rw[<-L.o];simp]at this;exact this
 clear hi I u H
 go_enter func81,ntmps81
 go_wp2_with fail
 refine(yS key a draw x w hu.o F).mono ?_
 rintro e Q ⟨rfl,b⟩
 have r:=N.grown b
 have ji:=i Q (j.below b)
 clear j i N
 go_wp2_with fail
 refine(KY (Pure.head key a draw) zs _ _ (n-fr) Q HZ agE ji).mono ?_
 rintro e w2 ⟨rfl,rfl⟩
 go_wp2_with fail
 refine(Tu (Pure.head key a draw) B p A zs fr n cap Q r L z U).mono ?_
 rintro e w3 ⟨rfl,c,Y⟩
 have Z:=CF.before b Y
 clear ji r Y D
 go_wp2_with fail
 refine(uq w3.heap.size 8 [] draw 8 0 _ (Buf.new w3 _ _ 8 rfl agF) rfl agE agI).mono ?_
 rintro e w4 ⟨rfl,g,d⟩
 have J:=Ja (cx w3 _ none) d (cy _)
 have m:=c.grown J
 obtain⟨s,l⟩:=Out.buf g
 have t:=c.KU
 have f:=hid (λ(q:Pl) (hq:p=some q)=>(Nat.ne_of_lt (t q hq)).symm)
 have k:=hid (show(A++Pure.veil (Pure.head key a draw) zs).length+8<=1000000 from by have:=z.o;rw[cD]at this⊢;rw[Pure.gP];omega)
 clear g d t c
 go_wp2_with fail
 refine(De _ p A (Pure.veil (Pure.head key a draw) zs) (Pure.be draw 8) fr _ w3.heap.size 0 8 8 w4 m L rfl (hid (Pure.dm _ _)) agE s (by simpa using l) f.o k.o).mono ?_
 rintro e w5 ⟨v5,rfl,R5⟩
 have M:=R5
 obtain⟨p5,y,KJ⟩:=M
 have V:=hid KJ
 have K:=hid (show(A++Pure.be draw 8++Pure.veil (Pure.head key a draw) zs).length<=1000000 from by have:=k.o;simp only[cD]at this⊢;rw[Pure.dm];omega)
 clear m s l KJ R5 f
 go_wp2_with fail
 refine(yU v5 p5 _ (Pure.iG (Pure.head key a draw) zs) 8 w5 y agE K.o).mono ?_
 rintro e w6 ⟨v6,rfl,S⟩
 have R:=(aU.comp V.o S agI).from (Z.grown J)
 clear S y V Z J
 go_wp2
 go_ret
 exact⟨v6,rfl,by grind [Pure.fE]⟩
theorem WG(h)(zs)(n)(a)(cap)(w)(hn:zs.length=n)(c:n<=140737488355328)(b:At w a zs):
  Calls prog 79 #[υ h.toNat,.slice a n cap] w λe w'=>e=.returned (υ ((Pure.iG h zs).toNat:Int))/\w=w':=by
 subst hn
 exact uo h zs a cap w c b
theorem Pd(h)(zs)(n)(a)(cap)(w)(hn:zs.length=n)(c:n<=140737488355328)(b:At w a zs):
  Calls prog 125 #[υ h.toNat,.slice a n cap] w λe w'=>e=.returned (υ ((Pure.joinL h zs).toNat:Int))/\w=w':=by
 subst hn
 exact KT h zs a cap w c b
theorem WH(h)(zs)(n)(a)(cap)(w)(nq)(hn:Hid (zs.length=n))(d:n<=140737488355328)(c:At w a zs):
  Calls prog 79 #[υ h.toNat,.slice a n cap] (w.drewN nq) λe b=>e=.returned (υ ((Pure.iG h zs).toNat:Int))/\∃m,b=w.drewN m:=
 (WG h zs n a cap _ hn d (c.drewN nq)).mono agM
theorem aeG(h)(zs)(n)(a)(cap)(w)(nq)(hn:Hid (zs.length=n))(d:n<=140737488355328)(c:At w a zs):
  Calls prog 125 #[υ h.toNat,.slice a n cap] (w.drewN nq) λe b=>e=.returned (υ ((Pure.joinL h zs).toNat:Int))/\∃m,b=w.drewN m:=
 (Pd h zs n a cap _ hn d (c.drewN nq)).mono agM
theorem Out.empty{w:World}{c:Option Addr}{n cap:Nat}{p:Option Pl}{g:List UInt8}(h:Out w (.slice c n cap) p g):Out w (.slice c 0 cap) p []:=by
 rcases h with⟨a,b,_⟩|⟨q,a,b,i,f,d,_⟩
 ·injection b with e1 e2 e3;subst e1 e3;exact .inl ⟨a,rfl,rfl⟩
 ·injection b with e1 e2 e3;subst e1 e3;exact .inr ⟨q,a,rfl,cS _,f,d,λj u e=>by simp at e⟩
theorem Pe(head)(d)(p)(zs)(n cap)(w)(m:Out w (.slice d n cap) p zs)(r:Hid (zs.length=n))(u:n<=900000):
  Calls prog 122 #[.slice d n cap,υ head.toNat] w λe w'=>e=.returned (.tuple #[])/\Out w' (.slice d n cap) p (Pure.veil head zs)/\CF w w' (Pl.has p):=by
 rcases m with⟨c,a,h⟩|⟨q,c,a,j,l,i,s⟩
 ·injection a with e1 e2 e3;subst e1 e2 e3 h;refine(Ha _ _ head w).mono ?_;rintro e w' ⟨rfl,g⟩;exact⟨rfl,.inl ⟨c,rfl,rfl⟩,CF.bF g _⟩
 ·injection a with e1 e2 e3;subst e1 e3;refine(RX q.g q.off q.cap n head zs w (i.mono agE) r agE s).mono ?_;rintro e w' ⟨rfl,k,t⟩;have f:CF w w' (Pl.has p):=t.mono (λb o _ e=>⟨q,c,e.1,e.2.1,by have:=e.2.2;omega⟩);exact⟨rfl,.inr ⟨q,c,by rw[Pure.gP,<-e2],by rw[Pure.gP];exact j,l,i.cf f,k⟩,f⟩
theorem acA(h:p:=by
 go_wp2_with (go_at_call 80;refine(wL _ _).mono ?_;rintro e w' ⟨rfl,rfl⟩)
 go_ret2
 exact⟨rfl,rfl⟩):p:=h
theorem ahR(a)(key x)(v)(w)(b:Wy x=false):
  Calls prog 84 #[a,υ key,ι x,v] w λe w'=>e=.returned (.tuple #[.slice none 0 0,ι 1])/\w=w':=by
 go_enter func84,ntmps84
 exact acA
theorem Tv(b)(key x)(c)(n cap)(w)(d:Wy x=true)(hn:n<16\/216<n):
  Calls prog 84 #[b,υ key,ι x,.slice c n cap] w λe w'=>e=.returned (.tuple #[.slice none 0 0,ι 3])/\w=w':=by
 rcases hn with hn|hn
 ·go_enter func84,ntmps84;exact acA
 ·have a:¬ n<16:=agE;go_enter func84,ntmps84;exact acA
theorem WI(rv)(p)(rb)(key a)(x)(u)(zs)(L cap)(w)(hR:Out w rv p rb)(hx:Wy x=true)(hu:Hid (x=a.toNat))(l:Hid (zs.length=L))(ai:16<=L)(ah:L<=216)(c:L<=cap)(W:At w u zs)(k:∀b off,u=some ⟨b,off,none⟩->∀j,j<zs.length->¬ Pl.has p b (off+j)):
  Calls prog 84 #[rv,υ key.toNat,ι x,.slice u L cap] w λe w'=>
   (Pure.opens key a zs=true->∃v',e=.returned (.tuple #[v',ι 0])/\aU w w' v' p (Pure.eQ key a zs))/\
   (Pure.opens key a zs=false->e=.returned (.tuple #[.slice none 0 0,ι 3])/\CF w w' (Pl.has p)):=by
 obtain⟨I,F,Z,d,X⟩:=info_parts Tryz.info5
 obtain⟨ra,s,M,ad,ae,_,_⟩:=hR.open (hid rfl)
 have C:Out w (.slice ra 0 s) p []:=by grind [Out.empty]
 obtain⟨rn,H⟩:=aq rb.length
 rw[H]at M ad
 subst M
 clear H hR
 have hv:a.toNat<9223372036854775808:=by grind [RowKit.Hid.o,Wy]
 have ak:¬ L<16:=agE
 have aa:=slice_head (P:=prog) 37 5 I underlying37 F d ra rn s 0 (cS _)
 obtain⟨a1,T,ji⟩:=yT (P:=prog) 37 5 I underlying37 F d u L cap l c 8 (8:Int) rfl agE
 obtain⟨a2,V,ni⟩:=Df (P:=prog) 37 5 I underlying37 F d u L cap l c 8 (L-8) (8:Int) ((L:Int)-8) rfl agE agE agE
 obtain⟨a3,S,mK⟩:=kY (P:=prog) 37 5 I underlying37 F d u L cap l c (L-8) ((L:Int)-8) agE agE
 rw[show L-(L-8)=8 from by omega]at S
 have U:=hid k
 clear k
 go_enter func84,ntmps84
 go_wp2_with (go_at_call 80;refine(wL _ _).mono ?_;rintro e w' ⟨rfl,rfl⟩)
 refine(Pd 0 (zs.take 8) 8 _ _ _ agR agE (ji _ W)).mono ?_
 rintro e w' ⟨rfl,rfl⟩
 go_wp2_with fail
 refine(yS key a (Pure.kN zs) x _ hu.o hv).mono ?_
 rintro e w1 ⟨rfl,m⟩
 have B:=W.below m
 have Q:=C.grown m
 clear T ji C
 go_wp2_with fail
 have f:((zs.drop 8).take (L-8-8)).length=L-8-8:=by have h:=l.o;simp;omega
 have n:=hid f
 have i:=sK (P:=prog) (w:=w1.drew) underlying37 a2 (L-8-8) (cap-8) ((zs.drop 8).take (L-8-8)) f (ni _ B)
 have G:=hid (show([]:List UInt8).length+((zs.drop 8).take (L-8-8)).length<=140737488355328 from by rw[f];simp;omega)
 clear f ni
 go_region_law (first|(refine BK rfl _ _ 37 37 rfl 5 I underlying37 F Z d X (.slice ra 0 s) (.slice a2 (L-8-8) (cap-8)) p [] ((zs.drop 8).take (L-8-8)) ?s1 ?s2 Q.drew _ i G.o ?_;(case s1=>first|rfl|simp[Act.eval,Act.put]);(case s2=>first|rfl|simp[Act.eval,Act.put]);intro v2 w2 R2))
 all_goals
  rw[List.nil_append]at R2
  obtain⟨y,t,r⟩:=R2
  obtain⟨va,vc,O,ag,af,_,_⟩:=t.open n
  subst O
  have yL:=hid (show CF w1 w2 (Pl.has p)/\(y=p\/Pl.fresh w1.heap.size y)/\∀q,p=some q->((zs.drop 8).take (L-8-8)).length<=q.cap->y=p from⟨r.1.dM,r.2⟩)
  clear r i aa V G
  go_wp2_with fail
  refine(Pe (Pure.head key a (Pure.kN zs)) va y _ _ vc w2 t n agE).mono ?_
  rintro e w3 ⟨rfl,g,J⟩
  have v:Pure.eQ key a zs=Pure.veil (Pure.head key a (Pure.kN zs)) ((zs.drop 8).take (L-8-8)):=by unfold Pure.eQ;rw[l.o,show L-16=L-8-8 from by omega]
  rw[<-v]at g
  have R3:=aU.comp yL.o ⟨y,g,J,.inl rfl,λ_ _ _=>rfl⟩ (by grind [Pure.gP])
  have R:=hid (R3.before m)
  have hF:=R.o.cf
  have E:=W.cf hF U.o
  have z:=mK _ E
  have ab:Hid ((zs.drop (L-8)).length=8):=by have h:=l.o;show _=_;simp;omega
  have K:Hid ((Pure.eQ key a zs).length=L-8-8):=by grind [Pure.kX,RowKit.Hid.o]
  obtain⟨_,_,A,_,_,D⟩:=g.shape
  rw[K.o]at A
  injection A with e1 e2 e3
  subst e1
  clear e2 e3
  have Y:=D.1
  have N:L-8-8<=140737488355328:=agE
  have h8:8<=140737488355328:=agE
  clear v t yL J R3 E mK D g n
  cases ho:Pure.opens key a zs
  all_goals
   have aj:=Pure.Tn key a zs L l.o _ ho
   have HO:=hid ho
   clear ho
   go_wp2_with fail
   go_quiet (first|(go_at_call 79;exact WH (Pure.head key a (Pure.kN zs)) (Pure.eQ key a zs) (L-8-8) _ _ w3 _ K N Y)|(go_at_call 125;refine aeG 0 (zs.drop (L-8)) 8 _ _ w3 _ ab h8 z))
   go_wp2
   go_ret2
   first
    |exact⟨λh=>absurd (HO.o.symm.trans h) agF,λ_=>⟨rfl,hF.drewN _⟩⟩
    |exact⟨λ_=>⟨_,rfl,R.o.drewN _⟩,λh=>absurd (HO.o.symm.trans h) agF⟩
theorem WJ{b o:Nat}:¬ Pl.has none b o:=by rintro⟨q,a,_⟩;cases a
theorem aU.nil{w w':World}{v:Value}{b:List UInt8}(h:aU w w' v none b):∃p,Out w' v p b/\Pl.fresh w.heap.size p/\w.grownBy w' none:=by
 obtain⟨p,c,d,a,_⟩:=h;refine⟨p,c,?_,d.gb (λ_ _ _=>WJ)⟩;rcases a with a|a
 ·rw[a];intro q e;cases e
 ·exact a
theorem ahg(h:p:=by rw[fj];omega):p:=h
theorem ahH(h:p:=by rw[hm.o];exact hlt):p:=h
theorem Hd(zs)(n)(c)(cap)(w)(hn:Hid (zs.length=n))(g:n<=140737488355328)(hc:At w c zs):
  Calls prog 18 #[.slice c n cap] w λe w'=>e=.returned (υ ((Pure.iG 0 zs).toNat:Int))/\w=w':=by
 obtain rfl:=hn.o
 go_enter func18,ntmps18
 go_wp2
 go_loop [3,4] (λf i=>∃k:Nat,k<=zs.length/\i = ι k/\f = υ ((Pure.iG 0 (zs.take k)).toNat:Int)) (λ_ i=>zs.length-(intOf i).toNat)
 case atStart=>exact⟨0,cS _,rfl,rfl⟩
 case round=>
  obtain⟨k,h,rfl,rfl⟩:=hrel;by_cases a:k<zs.length
  ·obtain⟨b,off,rfl,d⟩:=hc k a;clear hc;go_wp2;go_round
   case rel=>exact⟨k+1,by omega,by go_num,(by grind [Jc,Pure.CW,lL])⟩
   case measure=>simp[intOf];omega
  ·exact adI
theorem vw(zs)(n)(c)(cap)(w)(hn:Hid (zs.length=n))(g:n<=140737488355328)(hc:At w c zs):
  Calls prog 85 #[.slice c n cap] w λe w'=>e=.returned (υ ((Pure.joinL 0 zs).toNat:Int))/\w=w':=by
 obtain rfl:=hn.o
 go_enter func85,ntmps85
 go_wp2
 go_loop [3,4] (λf i=>∃k:Nat,k<=zs.length/\i = ι k/\f = υ ((Pure.joinL 0 (zs.take k)).toNat:Int)) (λ_ i=>zs.length-(intOf i).toNat)
 case atStart=>exact⟨0,cS _,rfl,rfl⟩
 case round=>
  obtain⟨k,h,rfl,rfl⟩:=hrel;by_cases a:k<zs.length
  ·obtain⟨b,off,rfl,d⟩:=hc k a;clear hc;go_wp2;go_round
   case rel=>exact⟨k+1,by omega,by go_num,(by grind [Pure.um,lL,O8])⟩
   case measure=>simp[intOf];omega
  ·exact adI
theorem aas(h:p:=by
 go_wp2
 go_loopw [3,4] (λo i wr=>∃k:Nat,k<=8/\i = ι ((7:Int)-k)/\wr.ownsRow w.heap.size 5 1 o k ((Pure.pF v 8 k).map U8)/\w.grownBy wr none) (λ_ i _=>(intOf i+1).toNat)
 case atStart=>exact⟨0,by omega,rfl,World.ownsRow_nil _ _ _ _,cC _ _⟩
 case round=>
  obtain⟨k,hk,rfl,hown,hgr⟩:=hrel
  have hsz:=hgr.size
  by_cases hlt:k<8
  ·go_wp2_with (at_builtin;refine wpList_append_own _ rfl _ _ 37 rfl w.heap.size 5 i0 (.int .u8 0) 1 1 underlying37 hi hz0 hz1 hz2 rfl agF _ _ _ rfl (hown.alloc _) ⟨wr.heap.size,0,none⟩ 1 1 ([Pure.dW v (7-k)].map U8) rfl rfl ?c1 ?c2 ?c3 ?c4 ?c5 ?_)
   case c1=>exact yQ _ _ _ _
   case c2=>exact oQ _
   case c3=>unfold maxLen;omega
   case c4=>omega
   case c5=>simp;omega
   ·intro v' w1 hown' hg1 _
    have R:w1.ownsRow w.heap.size 5 1 v' (k+1) ((Pure.pF v 8 (k+1)).map U8)/\w.grownBy w1 none:=⟨by grind [Pure.mQ],gu (aM hgr _) hg1 (λi hi=>(hown.lt i hi).1)⟩
    clear hown hown' hg1 hgr
    go_wp2
    go_roundw
    case rel=>grind
    case measure=>simp[intOf];omega
  ·have hk8:k=8:=agE
   subst hk8
   go_wp2
   go_ret
   exact⟨_,rfl,hown,hgr⟩):p:=h
theorem nY(v)(w):
  Calls prog 82 #[υ v.toNat] w λe w'=>∃o,e=.returned o/\w'.ownsRow w.heap.size 5 1 o 8 ((Pure.be v 8).map U8)/\w.grownBy w' none:=by
 obtain⟨i0,hi,hz0,hz1,hz2⟩:=info_parts Tryz.info5
 go_enter func82,ntmps82
 exact aas
theorem Ah(a c)(n m)(u v)(H B)(w)(hn:Hid (a.length=n))(y:Hid (c.length=m))(K:n<=140737488355328)(q:At w u a)(r:At w v c):
  Calls prog 86 #[.slice u n H,.slice v m B] w λe w'=>e=.returned (.bool (a==c))/\w.grownBy w' none:=by
 obtain rfl:=hn.o
 obtain rfl:=y.o
 by_cases d:a.length=c.length
 ·have C:=hid d;have s:((a.length:Int) != (c.length:Int))=false:=by rw[d];simp
  clear d;go_enter func86,ntmps86;go_wp2;go_loopw [5] (λi wr=>∃k:Nat,k<=a.length/\i = ι k/\a.take k=c.take k/\w.grownBy wr none) (λi _=>a.length-(intOf i).toNat)
  case atStart=>grind [cC]
  case round=>
   obtain⟨k,I,rfl,l,f⟩:=hrel;have D:=hid l;clear l;by_cases j:k<a.length
   ·have g:k<c.length:=(by rw[<-C.o];exact j);obtain⟨b,off,rfl,z⟩:=(q.below f) k j;obtain⟨J,E,rfl,A⟩:=(r.below f) k g;clear q r;by_cases p:a[k]=c[k]
    ·have G:(((a[k]).toNat:Int) != ((c[k]).toNat:Int))=false:=(by rw[p];simp);have x:=hid p;clear p;go_wp2_with fail;go_quiet (fail)
     go_wp2;go_roundw
     case rel=>exact⟨k+1,by omega,by go_num,by rw[lL j,lL g,D.o,x.o],aR f _⟩
     case measure=>simp[intOf];omega
    ·have G:(((a[k]).toNat:Int) != ((c[k]).toNat:Int))=true:=by
      rw[fj];intro h;exact p (UInt8.toNat_inj.1 agE)
     have t:(a==c)=false:=by
      grind
     clear p;go_wp2_with fail;go_quiet (fail)
     go_wp2;go_ret;exact⟨by rw[t];rfl,aR f _⟩
   ·have F:(a==c)=true:=by
     grind [RowKit.Hid.o]
    clear q r;go_wp2;go_ret;exact⟨by rw[F];rfl,f⟩
 ·have s:((a.length:Int) != (c.length:Int))=true:=ahg;have t:(a==c)=false:=agM;clear d;go_enter func86,ntmps86;go_wp2;go_ret;exact⟨rfl,cC _ _⟩
def Items(w:World)(b:Nat)(l:List (Option Addr×Nat×List UInt8)):Prop:=
 ∀j,(hj:j<l.length)->w.cell? ⟨b,j,none⟩=some (.slice (l[j]).1 (l[j]).2.2.length (l[j]).2.1)/\At w (l[j]).1 (l[j]).2.2/\((l[j]).1=none->(l[j]).2.1=0)
def cat(l:List (Option Addr×Nat×List UInt8)):List UInt8:=(l.map λx=>x.2.2).flatten
theorem KZ(l:List (Option Addr×Nat×List UInt8))(k)(h:k<l.length):cat (l.take (k+1))=cat (l.take k)++(l[k]).2.2:=by
 unfold cat;rw[dy h,eg,List.flatten_append];grind
theorem aeJ(l)(k):(cat (l.take k)).length<=(cat l).length:=by
 conv=>rhs;rw[<-eN k l]
 grind [cat]
theorem Items.grown{w w':World}{b:Nat}{l:List (Option Addr×Nat×List UInt8)}(h:Items w b l)(k:w.grownBy w' none):Items w' b l:=by
 intro j a;obtain⟨d,e,c⟩:=h j a;grind [World.grownBy.cell,At.below]
theorem Pf(b cap m:Nat)(l)(w)(hm:Hid (l.length=m))(G:m<=140737488355328)(F:(cat l).length<=140737488355328)(v:Items w b l):
  Calls prog 83 #[.slice (some (b,0)) m cap] w λe w'=>∃o,e=.returned o/\w'.ownsRow w.heap.size 5 1 o (cat l).length ((cat l).map U8)/\w.grownBy w' none:=by
 obtain⟨C,q,u,x,t⟩:=info_parts Tryz.info5
 go_enter func83,ntmps83
 go_wp2
 go_loopw [3,4] (λo i wr=>∃k:Nat,k<=m/\i = ι k/\wr.ownsRow w.heap.size 5 1 o (cat (l.take k)).length ((cat (l.take k)).map U8)/\w.grownBy wr none) (λ_ i _=>m-(intOf i).toNat)
 case atStart=>exact⟨0,by omega,rfl,World.ownsRow_nil _ _ _ _,cC _ _⟩
 case round=>
  obtain⟨k,E,rfl,a,c⟩:=hrel;have s:=c.size;by_cases hlt:k<m
  ·have d:k<l.length:=ahH;obtain⟨B,n,j⟩:=(v.grown c) k d;have h:=aeJ l (k+1);rw[KZ l k d,cD]at h;have p:(cat (l.take k)).length+((l[k]).2.2).length<=140737488355328:=agE;have y:=hid j;clear j h v;go_wp2_with (at_builtin;refine bV _ rfl _ _ 37 rfl w.heap.size 5 C underlying37 q u x t _ _ _ rfl a _ _ _ ((l[k]).2.2) rfl rfl y.o n p s ?_)
   intro A z f r _;have R:z.ownsRow w.heap.size 5 1 A (cat (l.take (k+1))).length ((cat (l.take (k+1))).map U8)/\w.grownBy z none:=⟨by grind [KZ],(by grind [World.ownsRow.lt,gu])⟩
   clear a f r c n p y B;exact aaQ
  ·have D:k=m:=agE;subst D;clear v;have g:wr.ownsRow w.heap.size 5 1 u3 (cat l).length ((cat l).map U8):=by
    grind [RowKit.Hid.o]
   clear a;go_wp2;go_ret;exact⟨_,rfl,g,c⟩
theorem K6(b cap m:Nat)(l)(J)(w)(c:Hid (l.length=m))(d:Hid (cat l=J))(g:m<=140737488355328)(a:J.length<=140737488355328)(f:Items w b l):
  Calls prog 83 #[.slice (some (b,0)) m cap] w λe w'=>∃o,e=.returned o/\w'.ownsRow w.heap.size 5 1 o J.length (J.map U8)/\w.grownBy w' none:=by
 obtain rfl:=d.o
 exact Pf b cap m l w c g a f
theorem ahe(h:p:=by grind [cx]):p:=h
theorem ahw(h:p:=by intro h;cases h):p:=h
theorem ahC(h:p:=by grind [World.ownsRow.kept]):p:=h
theorem aeK(u):Pure.be u 2=[Pure.dW u 1,Pure.dW u 0]:=rfl
theorem WK(w)(e)(d a c b)(m h l k r s t q)(n i f p)(A:At w d n)(F:At w a i)(x:At w c f)(H:At w b p)(y:Hid (d=none->m=0))(z:Hid (a=none->h=0))(D:Hid (c=none->l=0))(B:Hid (b=none->k=0))(E:n.length=r)(C:i.length=s)(v:f.length=t)(G:p.length=q):
  Items (w.alloc (.cells #[.slice d r m,.slice a s h,.slice c t l,.slice b q k] e)) w.heap.size [(d,m,n),(a,h,i),(c,l,f),(b,k,p)]:=by
 subst E C v G
 have g:∀o,w.grownBy (w.alloc o) none:=ahe
 intro j u
 match j,u with
 |0,_=>exact⟨by grind [World.cell?_alloc_at],A.below (g _),y⟩
 |1,_=>exact⟨by grind [World.cell?_alloc_at],F.below (g _),z⟩
 |2,_=>exact⟨by grind [World.cell?_alloc_at],x.below (g _),D⟩
 |3,_=>exact⟨by grind [World.cell?_alloc_at],H.below (g _),B⟩
theorem He(key a draw)(l):Pure.iG 0 (cat [(none,0,Pure.be key 8),(none,0,Pure.be a 1),(none,0,Pure.be draw 8),(none,0,l)])=Pure.iG (Pure.head key a draw) l:=by
 simp only[cat,eE,fy,eI,List.flatten_nil,fS];grind [Pure.I8,Pure.CX,Pure.head]
theorem Tw {P:Program} {g:Array Oper} {o:Oper} {a:Act} {w:World} {K:Act->World->Prop} {Q:Exit->Act->World->Prop} {E:Prop}
  (m:o.guard=none) (f) (j) (l) (d:o.op=Op.call {callee:=Callee.value (Operand.func f),args:=j,argTypes:=l})
  (i) (x:P.funcs[f]?=some i) (b:(i.name == "runtime.NumGoroutine")=false) (c:i.body.isNone=false) (n) (y:#[]++j.map a.eval++#[]=n) {R:Ending->World->Prop} (u:Calls P f n w R)
  (B:∀e w',R e w'->∃v,e=.returned v/\K (a.put o.dst v) w') :
  if Region.wanted o (yielded g a.tmps)=true then Oper.wp P o a w K Q else E:=by
 have hw:Region.wanted o (yielded g a.tmps)=true:=by simp[Region.wanted,m]
 rw[if_pos hw]
 have A:execOp a.eval o=callFunc f (#[]++j.map a.eval++#[]):=by
  obtain⟨s,C,p,t,after,k⟩:=o;simp only at d m;subst d m;rfl
 have q:(callFunc f (#[]++j.map a.eval++#[])).run P w=.ok (.enter f n) w:=by
  rw[y];have z:¬ i.name = "runtime.NumGoroutine":=by simpa using b
  have r:¬ i.body=none:=by intro h;simp[h]at c
  simp[callFunc,x,z,r]
 unfold Oper.wp
 rw[A,q,Oper.upon_enter]
 refine u.mono ?_
 grind
theorem aeL{w:World}{base:Nat}{e:TypeId}{v:Value}{h:UInt64}(a:w.ownsRow base e 1 v 8 ((Pure.be h 8).map U8)):
  ∃b off cap,v=.slice (some ⟨b,off,none⟩) 8 cap/\w.cell? ⟨b,off,none⟩=some (.int .u8 ((Pure.dW h 7).toNat:Int)):=by
 obtain⟨i,cap,g,_,_,_,c⟩:=iY a
 obtain⟨b,off,d,f⟩:=c 0 (by rw[Pure.dm];omega)
 subst d
 exact⟨b,off,cap,g,f⟩
theorem K7(x y:UInt8):bits .xor .u8 (x.toNat:Int) (y.toNat:Int)=((x ^^^ y).toNat:Int):=by
 rw[u8_xor_nat _ _ x.toNat_lt y.toNat_lt,UInt8.toNat_xor]
theorem ahV:(f82.name == "runtime.NumGoroutine")=false:=by kernel_rfl
theorem ahW:f82.body.isNone=false:=by kernel_rfl
theorem WL(n:Nat):IntKind.u8.wrap ((n:Int) / 256)=(((UInt8.ofNat (n / 256)).toNat:Nat):Int):=by
 have h:(UInt8.ofNat (n / 256)).toNat=n / 256 % 256:=by rw[eo]
 rw[h];show((n:Int) / 256) % 256=_;omega
theorem afB(h:p:=by
 have h:=hu.o
 have e:(Pure.dW use 0).toNat=use.toNat % 256:=by simp[Pure.dW]
 rw[e];omega):p:=h
theorem Hf(key use draw)(x)(zs)(n)(T)(cap)(w)(hx:1<=x/\x<=5)(hu:Hid (x=use.toNat))(hn:Hid (zs.length=n))(hl:n<=8388608)(Z:T=none->cap=0)(hz:At w T zs):
  Calls prog 45 #[υ key.toNat,ι x,υ draw.toNat,.slice T n cap] w λe w'=>
   ∃o,e=.returned o/\w'.ownsRow w.heap.size 5 1 o (n+16) ((Pure.fE key use draw zs).map U8)/\w.grownBy w' none:=by
 obtain⟨i0,U,X,Y,W⟩:=info_parts Tryz.info5
 obtain⟨aF,aG⟩:=hx
 go_enter func45,ntmps45
 go_wp2_with fail
 refine(nY draw _).mono ?_
 rintro e w1 ⟨o1,rfl,s,ai⟩
 go_wp2_with fail
 refine(nY key _).mono ?_
 rintro e w2 ⟨o2,rfl,l,ab⟩
 obtain⟨ak,H,A,_,_,aw,aA⟩:=iY l
 subst A
 obtain⟨j,d,aq,aC⟩:=aA.addr (by rw[Pure.dm];omega)
 subst aq
 have aB:Hid (o1.ownBlock≠some j):=by
  intro h;have Q:=(s.lt j h).2;have h2:=(l.lt j rfl).1;omega
 have kP:w2.ownsRow w.heap.size 5 1 o1 8 ((Pure.be draw 8).map U8):=ahC
 have G2:=aa ai ab
 clear s l ai ab
 go_wp2
 go_loopw [9,11,12] (λo i _ wr=>∃k:Nat,k<=n/\i = ι k/\wr.ownsRow w.heap.size 5 1 o (8+k) ((Pure.be draw 8++Pure.veil (Pure.head key use draw) (zs.take k)).map U8)/\At wr (some ⟨j,d,none⟩) (Pure.be key 8)/\w.grownBy wr none/\Hid (o.ownBlock≠some j)/\j<wr.heap.size) (λ_ i _ _=>n-(intOf i).toNat)
 case atStart=>grind [Pure.veil]
 case round=>
  obtain⟨k,hk,rfl,r,u,t,ax,aI⟩:=hrel;by_cases hlt:k<n
  ·have eU:x=((Pure.dW use 0).toNat:Int):=by
    exact afB
   have HU:=hid eU;clear eU;go_wp2_with fail;refine(nY draw _).mono ?_;rintro e w3 ⟨o3,rfl,b,a⟩;obtain⟨E,F,A,_,_,ae,v⟩:=iY b;subst A;clear b;have y:At w3 (some ⟨wr.heap.size,0,none⟩) (Pure.be use 1):=(fq wr _ #[.int .u8 x] _ (by rw[HU.o];rfl)).below a;have z:=(u.below (cx wr _ none)).below a;have af:wr.heap.size<w3.heap.size:=(by have:=a.size;simp at this;omega);obtain⟨J,S⟩:∃J,Hid (cat [(some ⟨j,d,none⟩,H,Pure.be key 8),(some ⟨wr.heap.size,0,none⟩,1,Pure.be use 1),(E,F,Pure.be draw 8),(some ⟨w3.heap.size,0,none⟩,2,Pure.be (UInt64.ofNat k) 2)]=J):=⟨_,rfl⟩
   have au:Hid (J.length=19):=(by show _=_;rw[<-S.o];simp[cat,Pure.dm]);have L:Hid (Pure.iG 0 J=Pure.iG (Pure.head key use draw) (Pure.be (UInt64.ofNat k) 2)):=(by show _=_;rw[<-S.o];exact He key use draw _);have q:J.length<=140737488355328:=(by rw[au.o];omega);have e2:#[Value.int IntKind.u8 (((UInt8.ofNat (k / 256)).toNat:Nat):Int),Value.int IntKind.u8 ((k:Int) % 256)].toList=(Pure.be (UInt64.ofNat k) 2).map U8:=by
    have e1:=Pure.mR k agE;have b1:(Pure.dW (UInt64.ofNat k) 1).toNat=k / 256 % 256:=(by simp[Pure.dW,e1]);have b0:(Pure.dW (UInt64.ofNat k) 0).toNat=k % 256:=(by simp[Pure.dW,e1]);rw[aeK];simp only[eE,fy,U8,b1,b0];rw[show(UInt8.ofNat (k / 256)).toNat=k / 256 % 256 from by rw[eo],show((k:Int) % 256)=((k % 256:Nat):Int) from by omega]
   have hI:Items ((w3.alloc (Obj.cells #[Value.int IntKind.u8 (((UInt8.ofNat (k / 256)).toNat:Nat):Int),Value.int IntKind.u8 ((k:Int) % 256)] 5)).alloc (Obj.cells #[Value.slice (some (j,d)) 8 H,Value.slice (some (wr,0)) 1 1,Value.slice E 8 F,Value.slice (some (w3,0)) 2 2] 37)) (w3.heap.size+1) [(some ⟨j,d,none⟩,H,Pure.be key 8),(some ⟨wr.heap.size,0,none⟩,1,Pure.be use 1),(E,F,Pure.be draw 8),(some ⟨w3.heap.size,0,none⟩,2,Pure.be (UInt64.ofNat k) 2)]:=by
    have g:=cx w3 (Obj.cells #[Value.int IntKind.u8 (((UInt8.ofNat (k / 256)).toNat:Nat):Int),Value.int IntKind.u8 ((k:Int) % 256)] 5) none;have h:=WK (w3.alloc (Obj.cells #[Value.int IntKind.u8 (((UInt8.ofNat (k / 256)).toNat:Nat):Int),Value.int IntKind.u8 ((k:Int) % 256)] 5)) 37 (some ⟨j,d,none⟩) (some ⟨wr.heap.size,0,none⟩) E (some ⟨w3.heap.size,0,none⟩) H 1 F 2 8 1 8 2 _ _ _ _ (z.below g) (y.below g) (v.below g) (fq w3 _ _ _ e2) aw ahw ae ahw (Pure.dm _ _) (Pure.dm _ _) (Pure.dm _ _) (Pure.dm _ _);rw[cF]at h;exact h
   clear e2;have af:=WL k;go_wp2_with fail;refine(K6 (w3.heap.size+1) 4 4 _ J _ (by show List.length _=4;rfl) S agE q hI).mono ?_;rintro e w4 ⟨o4,rfl,iU,f⟩;obtain⟨aj,cj,A,_,_,_,V⟩:=iY iU;subst A;have D:=aa (aM (aM (aa (aM t _) a) _) _) f;have aJ:j<w4.heap.size:=(by have Q:=a.size;have h2:=f.size;simp at Q h2;omega);have K4:=aa (aM (aM (aa (cx wr _ _) a) _) _) f;have p:=r.kept K4 (by cases h:u9.ownBlock<;>simp);have ag:=u.below K4;clear iU hI v y z r u t a f af;go_wp2_with fail;refine(Hd J J.length _ _ _ (hid rfl) q V).mono ?_;rintro e w' ⟨rfl,rfl⟩;rw[L.o];have ar:k<zs.length:=ag4;obtain⟨bz,oz,rfl,N⟩:=(hz.below D) k ar;have aH:=World.block_lt_of_cell? w4 _ N;go_wp2_with fail;have P:8+k+1<=140737488355328:=agE;have aD:=D.size;go_region_law (first|(refine Tw rfl 82 _ _ rfl f82 func82 ahV ahW #[υ ((Pure.iG (Pure.head key use draw) (Pure.be (UInt64.ofNat k) 2)).toNat:Int)] (by first|rfl|simp[Act.eval,Act.put]) (nY _ _) ?_;rintro e w5 ⟨o5,rfl,c,G⟩;refine⟨_,rfl,?_⟩;obtain⟨b5,aE,c5,M,KJ⟩:=aeL c;subst M;have ay:=G.cell N agI;have K5:=je G;have K:w5.ownsRow w.heap.size 5 1 u9 (8+k) ((Pure.be draw 8++Pure.veil (Pure.head key use draw) (zs.take k)).map U8):=ahC;have B:=K5.size)|(refine Db rfl _ _ 37 rfl w.heap.size 5 i0 underlying37 U X Y W u9 (8+k) _ ?s1 (K.alloc _) (some ⟨w5.heap.size,0,none⟩) 1 1 [zs[k] ^^^ Pure.mask (Pure.head key use draw) k] ?s2 rfl ?s3 ?s4 P ?s5 ?_;(case s1=>first|rfl|simp[Act.eval,Act.put]);(case s2=>first|rfl|simp[Act.eval,Act.put]);(case s3=>intro h;cases h);(case s4=>exact fq w5 _ _ _ (by rw[K7];rfl));(case s5=>simp;omega);intro v' I Be m C))
   all_goals
    have R:I.ownsRow w.heap.size 5 1 v' (8+(k+1)) ((Pure.be draw 8++Pure.veil (Pure.head key use draw) (zs.take (k+1))).map U8)/\At I (some ⟨j,d,none⟩) (Pure.be key 8)/\w.grownBy I none/\Hid (v'.ownBlock≠some j)/\j<I.heap.size:=by
     refine⟨?_,?_,?_,?_,?_⟩
     ·grind [Pure.G8]
     ·exact((ag.below K5).below (cx _ _ _)).grown m agR
     ·exact gu (aM (aa D K5) _) m (λi hi=>(K.lt i hi).1)
     ·intro h;rcases C.o with Q|Q
      ·exact ax.o (Q▸h)
      ·rw[Q]at h;simp at h;omega
     ·have:=m.size;simp at this;omega
    clear Be m C K ay KJ c G K5 p ag N D K4 V
    exact aaQ
  ·have av:k=n:=agE;subst av;have eU:x=((Pure.dW use 0).toNat:Int):=by
    exact afB
   have HU:=hid eU;clear eU;have O:wr.ownsRow w.heap.size 5 1 u9 (8+k) ((Pure.be draw 8++Pure.veil (Pure.head key use draw) zs).map U8):=by
    grind [RowKit.Hid.o]
   have al:=hz.below t;clear r;go_wp2_with fail;refine(nY draw _).mono ?_;rintro e w3 ⟨o3,rfl,b,a⟩;obtain⟨E,F,A,_,_,ae,v⟩:=iY b;subst A;clear b;have y:At w3 (some ⟨wr.heap.size,0,none⟩) (Pure.be use 1):=(fq wr _ #[.int .u8 x] _ (by rw[HU.o];rfl)).below a;have z:=(u.below (cx wr _ none)).below a;have an:=(al.below (cx wr _ none)).below a;obtain⟨J,S⟩:∃J,Hid (cat [(some ⟨j,d,none⟩,H,Pure.be key 8),(some ⟨wr.heap.size,0,none⟩,1,Pure.be use 1),(E,F,Pure.be draw 8),(T,cap,zs)]=J):=⟨_,rfl⟩
   have q:J.length<=140737488355328:=by
    grind [RowKit.Hid.o,Pure.dm,cat]
   have L:Hid (Pure.iG 0 J=Pure.iG (Pure.head key use draw) zs):=by show _=_;rw[<-S.o];exact He key use draw _
   have hI:Items (w3.alloc (Obj.cells #[Value.slice (some (j,d)) 8 H,Value.slice (some (wr,0)) 1 1,Value.slice E 8 F,Value.slice T k cap] 37)) w3.heap.size [(some ⟨j,d,none⟩,H,Pure.be key 8),(some ⟨wr.heap.size,0,none⟩,1,Pure.be use 1),(E,F,Pure.be draw 8),(T,cap,zs)]:=
    (by grind [Pure.dm,WK,RowKit.Hid.o])
   have aK:=hid Z;clear Z;go_wp2_with fail;refine(K6 w3.heap.size 4 4 _ J _ (by show List.length _=4;rfl) S agE q hI).mono ?_;rintro e w4 ⟨o4,rfl,iU,f⟩;obtain⟨aj,cj,A,_,_,_,V⟩:=iY iU;subst A;have D:=aa (aM (aa (aM t _) a) _) f;have K4:=aa (aM (aa (cx wr _ _) a) _) f;have p:w4.ownsRow w.heap.size 5 1 u9 (8+k) ((Pure.be draw 8++Pure.veil (Pure.head key use draw) zs).map U8):=ahC;clear iU hI v y z O u t a f an al K4;go_wp2_with fail;refine(Hd J J.length _ _ _ (hid rfl) q V).mono ?_;rintro e w' ⟨rfl,rfl⟩;rw[L.o];clear V;go_wp2_with fail;refine(nY _ _).mono ?_;rintro e w5 ⟨o5,rfl,c,G⟩;obtain⟨ah,c5,M,_,_,az,xZ⟩:=iY c;subst M;have K:w5.ownsRow w.heap.size 5 1 u9 (8+k) ((Pure.be draw 8++Pure.veil (Pure.head key use draw) zs).map U8):=ahC;have B:=cE D.size G.size;have P:8+k+8<=140737488355328:=agE;have H8:Hid ((Pure.be (Pure.iG (Pure.head key use draw) zs) 8).length=8):=Pure.dm _ _;have G5:=aa D G;clear c p G D;go_wp2_with (at_builtin;refine bV _ rfl _ _ 37 rfl w.heap.size 5 i0 underlying37 U X Y W _ _ _ rfl K _ _ _ (Pure.be (Pure.iG (Pure.head key use draw) zs) 8) rfl H8.o az.o xZ P B ?_;intro v' I Be m _)
   have R:I.ownsRow w.heap.size 5 1 v' (k+16) ((Pure.fE key use draw zs).map U8)/\w.grownBy I none:=by
    refine⟨?_,gu G5 m (λi hi=>(K.lt i hi).1)⟩;rw[show k+16=8+k+8 from by omega];exact Be
   clear Be m K xZ G5;go_wp2;go_ret;exact⟨_,rfl,R.1,R.2⟩
theorem vz(key a draw)(x)(zs)(n)(b)(cap)(w)(f:1<=x/\x<=5)(g:Hid (x=a.toNat))(hn:Hid (zs.length=n))(d:n<=1000)(c:b=none->cap=0)(h:At w b zs):
  Calls prog 45 #[υ key.toNat,ι x,υ draw.toNat,.slice b n cap] w λe w'=>
   ∃o,e=.returned o/\w'.ownsRow w.heap.size 5 1 o (n+16) ((Pure.fE key a draw zs).map U8)/\w.grownBy w' none:=
 Hf key a draw x zs n b cap w f g hn (cE d agF) c h
theorem yV{P:Program}(t e)(i)(ht:P.underlying t=some (.slice e))(g:P.info? e=some i)(j:i.size=1)(b off c cap l h:Nat)(y z)(hy:y=(l:Int))(k:z=(h:Int))(m:l<=h)(n:h<=cap)(f:l<cap)(w):
  (Instr.sliceAt t (.slice (some (b,off)) c cap) (some (ι y)) (some (ι z)) none).run P w=.ok (.slice (some (b,off+l)) (h-l) (cap-l)) w:=by
 subst hy k
 have he:P.elem t=e:=ahm
 have a:P.underlying t=some (.slice (P.elem t)):=ahG
 have d:cap≠l:=agE
 rw[run_sliceAt_slice w t _ _ _ _ a,run_slice_lh w t _ c cap a .i64 .i64 (l:Int) (h:Int) agE agE agE,he]
 simp[sizeOf,typeInfo,g,j,sliced,d,Addr.add_lit]
theorem adW(h:p:=by
 go_ret2
 exact⟨rfl,rfl⟩):p:=h
theorem K8(key)(x)(a)(n cap)(w)(hn:n<16):
  Calls Tryz.prog 47 #[υ key,ι x,.slice a n cap] w λe w'=>e=.returned (.tuple #[.slice none 0 0,.bool false])/\w=w':=by
 go_enter Tryz.func47,Tryz.ntmps47
 go_wp2
 exact adW
end Go.Proofs.YtlfifnpjeangmaaGreatDoor
