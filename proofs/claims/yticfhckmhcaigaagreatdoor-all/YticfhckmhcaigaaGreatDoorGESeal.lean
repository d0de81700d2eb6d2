import Derived.Test.YticfhckmhcaigaaGreatDoorGEHead
import Derived.Test.YticfhckmhcaigaaGreatDoorGEIns
import Derived.BigQuiet
namespace Go.Proofs.YticfhckmhcaigaaGreatDoor
set_option maxHeartbeats 2000000
open Proofs.Tryz Go.RowKit
set_option maxRecDepth 100000
variable {p:Prop}
theorem mN(h:p:=by grind [cy]):p:=h
theorem Nq(h)(b)(d)(a n)(w)(i:Hid (b.length=n))(g:n<=140737488355328)(f:At w d b):Calls prog 79 #[O (h.toNat:Int),.slice d n a] w λe j=>e=.returned (O ((Pure.iD h b).toNat:Int))/\w=j:=by
 obtain rfl:=i.o
 exact uZ h b d a w g f
theorem ti(h:p:=by
 go_wp2
 go_roundw
 case rel=>grind
 case measure=>simp[intOf];omega):p:=h
theorem B6(h:p:=by
 intro x hx
 refine rR (P:=prog) underlying37 _ 1 1 [Pure.ed v (size-1-k)] rfl ?_
 exact dX _ _ _ _ (by rw[hx];rfl)):p:=h
theorem A3(h:p:=by
 have hks:k=size:=G
 subst hks
 go_wp2
 go_ret
 exact⟨_,rfl,hbr⟩):p:=h
theorem Aa(j)(p)(b)(v)(size:Nat)(w)(l:fA w j p b)(B:size<=8)(A:b.length<=1000000):Calls prog 124 #[j,O (v.toNat:Int),Y size] w λe d=>∃a,e=.returned a/\aU w d a p (b++Pure.be v size):=by
 obtain⟨q,m,e,f,g⟩:=info_parts Tryz.info5
 go_in
 go_wp2
 go_loopw [0,8] (λo i wr=>∃k:Nat,k<=size/\i = Y ((size:Int)-1-k)/\aU w wr o p (b++Pure.qi v size k)) (λ_ i _=>(intOf i+1).toNat)
 case atStart=>grind [Pure.uA,aU.refl]
 case round=>
  obtain⟨k,y,rfl,hbr⟩:=hrel;by_cases n:k<size
  .obtain⟨o,d,a⟩:=hbr;have h:=I a;clear a;have a:∀x,x=((Pure.ed v (size-1-k)).toNat:Int)->Src prog 1 37 (ς wr.1.size 0 1 1) 1 ([Pure.ed v (size-1-k)].map U8) (wr.alloc (.cells #[.int .u8 x] 5)):=by
    exact B6
   go_wp2_with (at_builtin;refine dJ _ rfl _ _ 37 37 rfl 5 q underlying37 m e f g _ _ o _ [Pure.ed v (size-1-k)] rfl rfl (d.grown (cy _ _ _)) 1 (a _ ?c1) ?c2 ?_)
   case c1=>exact oK v _
   case c2=>simp[Pure.kG];omega
   .intro r t i;have R:=aU.comp h (i.before (cy _ _ _)) Z;have u:aU w t r p (b++Pure.qi v size (k+1)):=(by rw[Pure.nE];omega);clear R i d l h;exact ti
  .exact A3
theorem fA.buf{w:World}{g a:Nat}{d:E}(h:iA w g a d):b9 w g a/\w.rangeAt g 0 (d.map U8):=by
 have f:=h;obtain⟨b,e,i,j,_⟩:=h;exact⟨⟨b,e,i,by omega⟩,At.range f.at⟩
theorem VP(head)(j)(p)(A d)(a n f)(w)(J:fA w (.slice j n f) p (A++d))(x:Hid (A.length=a))(l:Hid ((A++d).length=n))(Q:n<=900000):Calls prog 122 #[.slice (sl j f a) (n-a) (f-a),O (head.toNat:Int)] w λe i=>e=.returned (.tuple #[])/\fA i (.slice j n f) p (A++Pure.veil head d)/\CF w i (Pl.has p):=by
 have g:(A++d).length=A.length+d.length:=cF
 rw[x,l]at g
 by_cases t:d=[]
 .subst t;rw[List.length_nil]at g;rw[show n-a=0 from by omega];refine(Jt _ _ head w).mono ?_;grind [fA.grown,CF.bD,Pure.veil]
 .have K:=gi.2 t;rcases J with⟨_,_,h⟩|⟨q,y,r,P,C,u,v⟩
  .rw[List.append_eq_nil_iff]at h;exact absurd h.2 t
  .injection r with e1 e2 e3;subst e1 e3;have D:sl (some ⟨q.g,q.off,none⟩) q.cap a=some ⟨q.g,q.off+a,none⟩:=by
    grind [Addr.add_lit,sl]
   have k:q.off+a+(n-a)<=q.off+q.cap:=(by have:=l.o;omega);have m:w.rangeAt q.g (q.off+a) (d.map U8):=by
    have:=tC (cs:=A.map U8) (ds:=d.map U8) (by rw[<-ej];exact v);rw[cU,x]at this;exact this
   have M:=zm (ds:=d.map U8) (by rw[<-ej];exact v);rw[D];refine(UN q.g (q.off+a) (q.cap-a) (n-a) head d w (u.mono k) (I G) G m).mono ?_;rintro e i ⟨rfl,R,L⟩;have B:CF w i (Pl.has p):=L.mono (λb o _ e=>⟨q,y,e.1,by omega,by have:=e.2;have:=l.o;omega⟩);refine⟨rfl,.inr ⟨q,y,?_,?_,C,u.cf B,?_⟩,B⟩
   .grind [Pure.ic]
   .grind [Pure.ic]
   grind [qY,CF.range]
theorem Nr(d b a)(x)(ov)(p)(A f)(g)(ii:Int)(w)(q:fA w ov p (A++f))(K:Hid (A.length=g))(Q:ii=g)(hu:Hid (x=b.toNat))(S:b.toNat<9223372036854775808)(X:(A++f).length<=900000):Calls prog 81 #[ov,Y ii,O (d.toNat:Int),Y x,O (a.toNat:Int)] w λe j=>∃i,e=.returned i/\aU w j i p (A++Pure.eB d b a f):=by
 subst Q
 obtain⟨i0,u,l,j,r⟩:=info_parts Tryz.info5
 obtain⟨n,k⟩:=aq ((A++f).length)
 have C:=I k
 have i:f.length=n-g:=kO
 have HZ:=I i
 have M:g<=n:=kO
 rw[k]at X
 clear k i
 obtain⟨D,i,T,L,ab,k,ad⟩:=q.open C
 subst T
 have m:=yO (P:=prog) 37 5 i0 underlying37 u j D n i g M
 have t:∀w,At w D (A++f)->At w (sl D i g) f:=λw h=>by
  have:=h.part i g (by rw[C];exact L);rw[show(A++f).drop g=f from by rw[<-K];simp]at this;exact this
 clear u l j r
 go_in
 go_wp2_with fail
 refine(zY d b a x w hu S).mono ?_
 rintro e U ⟨rfl,j⟩
 have l:=q.grown j
 have r:=t U (k.below j)
 clear k t q
 go_wp2_with fail
 refine(Nq (Pure.head d b a) f _ _ (n-g) U HZ G r).mono ?_
 rintro e w2 ⟨rfl,rfl⟩
 go_wp2_with fail
 refine(VP (Pure.head d b a) D p A f g n i U l K C X).mono ?_
 rintro e w3 ⟨rfl,k,q⟩
 have V:=CF.before j q
 clear r l q m
 go_wp2_with fail
 refine(ve w3.1.size 8 [] a 8 0 _ (iA.new w3 _ _ 8 rfl H) rfl G Z).mono ?_
 rintro e w4 ⟨rfl,u,v⟩
 have J:=KO (cy w3 _ none) v (cA _)
 have B:=k.grown J
 obtain⟨t,y⟩:=fA.buf u
 have r:=k.Iw
 have m:=I (λ(q:Pl) (hq:p=some q)=>(Nat.ne_of_lt (r q hq)).symm)
 have l:=I (show(A++Pure.veil (Pure.head d b a) f).length+8<=1000000 from by have:=C.o;rw[cF]at this⊢;rw[Pure.ic];omega)
 clear u v r k
 go_wp2_with fail
 refine(Ez _ p A (Pure.veil (Pure.head d b a) f) (Pure.be a 8) g _ w3.1.size 0 8 8 w4 B K rfl (I (Pure.dB _ _)) G t (by simpa using y) m.o l.o).mono ?_
 rintro e w5 ⟨v5,rfl,R⟩
 have r:=R
 obtain⟨p5,k,u⟩:=r
 have v:=I u
 have q:=I (show(A++Pure.be a 8++Pure.veil (Pure.head d b a) f).length<=1000000 from by have:=l.o;simp only[cF]at this⊢;rw[Pure.dB];omega)
 clear B t y u R m
 go_wp2_with fail
 refine(Aa v5 p5 _ (Pure.iD (Pure.head d b a) f) 8 w5 k G q).mono ?_
 rintro e u ⟨t,rfl,m⟩
 have R:=(aU.comp v m Z).from (V.grown J)
 clear m k v V J
 go_wp2
 go_ret
 exact⟨t,rfl,by grind [Pure.eB]⟩
theorem lP(h:p:=by
 go_ret2
 exact⟨rfl,rfl⟩):p:=h
theorem Zg(b a x)(v)(w)(f:wF x=false):Calls prog 44 #[O b,Y x,O a,v] w λe d=>e=.returned (.tuple #[σ,Y 1])/\w=d:=by
 go_in
 go_wp2_with (go_at_call 80;refine(oL _ _).mono ?_;rintro e d ⟨rfl,rfl⟩)
 exact lP
theorem VQ(d a x)(g)(n b)(w)(i:wF x=true)(h:200<n):Calls prog 44 #[O d,Y x,O a,.slice g n b] w λe f=>e=.returned (.tuple #[σ,Y 1])/\w=f:=by
 go_in
 go_wp2_with (go_at_call 80;refine(oL _ _).mono ?_;rintro e f ⟨rfl,rfl⟩)
 exact lP
theorem iA.uD{w:World}{g a:Nat}{b:Array Value}{e:TypeId}{d:E}(h:w.1[g]?=some (.cells b e (0,0)))(m:b.size=a)(k:a<=Go.maxLen)(i:d.length<=a)(l:w.rangeAt g 0 (d.map U8)):iA w g a d:=by
 refine⟨b,e,h,m,k,i,?_⟩;apply List.ext_getElem?;intro j;by_cases f:j<d.length
 .have n:=l j (U8 d[j]) (by simp[f]);grind [cell_of_row]
 grind
theorem Z'(i f d)(x)(A)(a)(m)(w)(hx:wF x=true)(n:x=f.toNat)(hl:a.length<=200)(hz:At w A a):Calls prog 44 #[O (i.toNat:Int),Y x,O (d.toNat:Int),.slice A a.length m] w λe R=>
   ∃g,e=.returned (.tuple #[ς g 0 (a.length+16) (a.length+16),Y 0])/\w.1.size<=g/\iA R g (a.length+16) (Pure.eB i f d a)/\w.grownBy R none:=by
 obtain⟨i0,X,t,v,y⟩:=info_parts Tryz.info5
 have h:=
  λw=>by have:=Ew (P:=prog) 37 5 i0 underlying37 X t v y (a.length+16) G w;simpa using this
 have hv:f.toNat<9223372036854775808:=by simp[wF]at hx;omega
 have HU:=I n
 obtain⟨W,o⟩:=aw (w.alloc (.cells (madeCells #[.int .u8 0] (a.length+16)) 5))
 have b:W.1[w.1.size]?=some (.cells (madeCells #[.int .u8 0] (a.length+16)) 5 (0,0)):=by grind [heap_alloc_new]
 have B:w.grownBy W none:=mN
 have ab:(madeCells #[Value.int .u8 0] (a.length+16)).size=a.length+16:=by simp[madeCells]
 have V:fA W (ς w.1.size 0 0 (a.length+16)) (some ⟨w.1.size,0,a.length+16⟩) []:=
  .inr ⟨_,rfl,rfl,cS _,by show a.length+16<=maxLen;unfold maxLen;omega,⟨_,_,b,by grind⟩,λj u n=>by simp at n⟩
 have g:=rR (P:=prog) (w:=W) underlying37 A a.length m a rfl (hz.below B)
 have l:=h w
 rw[<-o]at l
 have k:=I b
 clear n h o b
 go_in
 go_wp2_with (first|(go_at_call 80;refine(oL _ _).mono ?_;rintro e R ⟨rfl,rfl⟩)|(at_builtin;refine dJ _ rfl _ _ 37 37 rfl 5 i0 underlying37 X t v y _ _ _ [] a rfl rfl V _ g iS ?_;intro v1 w1 T))
 rw[List.nil_append]at T
 obtain⟨p1,n,J,C,p⟩:=T
 have L:=p _ rfl (by show a.length<=a.length+16;omega)
 subst L
 refine(Nr i f d x v1 _ [] a 0 _ w1 (by simpa using n) (I rfl) rfl HU hv iS).mono ?_
 rintro e S ⟨v2,rfl,R2⟩
 obtain⟨p2,j,K,D,r⟩:=R2
 have M:=r _ rfl (by show([]++Pure.eB i f d a).length<=a.length+16;rw[List.nil_append,Pure.bR];omega)
 subst M
 rw[List.nil_append]at j
 have F:CF W S (Pl.has (some ⟨w.1.size,0,a.length+16⟩)):=(by grind [CF.trans])
 have RR:Hid (v2 = ς w.1.size 0 (a.length+16) (a.length+16)/\iA S w.1.size (a.length+16) (Pure.eB i f d a)/\w.grownBy S none):=by
  rcases j with⟨h,_⟩|⟨q,u,Q,h1,h2,h3,h4⟩
  .cases h
  .injection u with u;subst u;obtain⟨U,k1,k2,_⟩:=F.cells _ _ _ _ k.o;refine⟨by rw[Q,Pure.bR],(by grind [iA.uD]),?_⟩;refine((CF.bD B (λ_ _=>False)).trans F (λb o hb e=>?_)).gb (λ_ _ _ e=>e);obtain⟨q,u,b,_⟩:=e;grind
 clear j K D r F n J C p V g l k B
 obtain⟨rfl,b,g⟩:=RR.o
 go_wp2
 go_ret2
 exact⟨w.1.size,rfl,cA _,b,g⟩
theorem Zh(h)(b)(n)(d)(a)(w)(i:b.length=n)(g:n<=140737488355328)(f:At w d b):Calls prog 79 #[O (h.toNat:Int),.slice d n a] w λe j=>e=.returned (O ((Pure.iD h b).toNat:Int))/\w=j:=by
 subst i
 exact uZ h b d a w g f
theorem Rm(h)(b)(n)(d)(a)(w)(i:b.length=n)(g:n<=140737488355328)(f:At w d b):Calls prog 125 #[O (h.toNat:Int),.slice d n a] w λe j=>e=.returned (O ((Pure.joinL h b).toNat:Int))/\w=j:=by
 subst i
 exact Nk h b d a w g f
theorem Zi(h)(b)(n)(d)(a)(w)(nq)(j:Hid (b.length=n))(i:n<=140737488355328)(g:At w d b):Calls prog 79 #[O (h.toNat:Int),.slice d n a] (w.drewN nq) λe f=>e=.returned (O ((Pure.iD h b).toNat:Int))/\∃m,f=w.drewN m:=
 (Zh h b n d a _ j i (g.drewN nq)).mono dT
theorem SJ(h)(b)(n)(d)(a)(w)(nq)(j:Hid (b.length=n))(i:n<=140737488355328)(g:At w d b):Calls prog 125 #[O (h.toNat:Int),.slice d n a] (w.drewN nq) λe f=>e=.returned (O ((Pure.joinL h b).toNat:Int))/\∃m,f=w.drewN m:=
 (Rm h b n d a _ j i (g.drewN nq)).mono dT
theorem fA.empty{w:World}{e:Option Addr}{n a:Nat}{p:Option Pl}{f:E}(h:fA w (.slice e n a) p f):fA w (.slice e 0 a) p []:=by
 rcases h with⟨b,d,_⟩|⟨q,b,d,l,g,i,_⟩
 .injection d with e1 e2 e3;subst e1 e3;exact .inl ⟨b,rfl,rfl⟩
 .injection d with e1 e2 e3;subst e1 e3;exact .inr ⟨q,b,rfl,cS _,g,i,λj u k=>by simp at k⟩
theorem Rn(head)(k)(p)(j)(n a)(w)(v:fA w (.slice k n a) p j)(u:Hid (j.length=n))(A:n<=900000):Calls prog 122 #[.slice k n a,O (head.toNat:Int)] w λe f=>e=.returned (.tuple #[])/\fA f (.slice k n a) p (Pure.veil head j)/\CF w f (Pl.has p):=by
 rcases v with⟨i,d,h⟩|⟨q,i,d,m,r,l,t⟩
 .injection d with e1 e2 e3;subst e1 e2 e3 h;refine(Jt _ _ head w).mono ?_;rintro e f ⟨rfl,g⟩;exact⟨rfl,.inl ⟨i,rfl,rfl⟩,CF.bD g _⟩
 .injection d with e1 e2 e3;subst e1 e3;refine(UN q.g q.off q.cap n head j w (l.mono G) u G t).mono ?_;rintro e f ⟨rfl,x,y⟩;have g:CF w f (Pl.has p):=y.mono (λb o _ e=>⟨q,i,e.1,e.2.1,by have:=e.2.2;omega⟩);exact⟨rfl,.inr ⟨q,i,by rw[Pure.ic,<-e2],by rw[Pure.ic];exact m,r,l.cf g,x⟩,g⟩
theorem Zj(d)(a x)(v)(w)(f:wF x=false):Calls prog 84 #[d,O a,Y x,v] w λe b=>e=.returned (.tuple #[σ,Y 1])/\w=b:=by
 go_in
 go_wp2_with (go_at_call 80;refine(oL _ _).mono ?_;rintro e b ⟨rfl,rfl⟩)
 exact lP
theorem Ju(i)(d x)(g)(n a)(w)(j:wF x=true)(b:n<16\/216<n):Calls prog 84 #[i,O d,Y x,.slice g n a] w λe f=>e=.returned (.tuple #[σ,Y 3])/\w=f:=by
 rcases b with b|b
 .go_in;go_wp2_with (go_at_call 80;refine(oL _ _).mono ?_;rintro e f ⟨rfl,rfl⟩)
  exact lP
 .have h:¬ n<16:=G;go_in;go_wp2_with (go_at_call 80;refine(oL _ _).mono ?_;rintro e f ⟨rfl,rfl⟩)
  exact lP
theorem EB(rv)(p)(rb)(d a)(x)(u)(f)(L g)(w)(l:fA w rv p rb)(hx:wF x=true)(hu:Hid (x=a.toNat))(n:Hid (f.length=L))(al:16<=L)(Nt:L<=216)(i:L<=g)(hz:At w u f)(h:∀b e,u=some ⟨b,e,none⟩->∀j,j<f.length->¬ Pl.has p b (e+j)):Calls prog 84 #[rv,O (d.toNat:Int),Y x,.slice u L g] w λe U=>
   (Pure.opens d a f=true->∃b,e=.returned (.tuple #[b,Y 0])/\aU w U b p (Pure.dI d a f))/\
   (Pure.opens d a f=false->e=.returned (.tuple #[σ,Y 3])/\CF w U (Pl.has p)):=by
 obtain⟨S,C,aj,b,ak⟩:=info_parts Tryz.info5
 obtain⟨ra,m,J,ae,an,_,_⟩:=l.open (I rfl)
 have j:fA w (.slice ra 0 m) p []:=by grind [fA.empty]
 obtain⟨rn,k⟩:=aq rb.length
 rw[k]at J ae
 subst J
 clear k l
 have hv:a.toNat<9223372036854775808:=by grind [Hid.o,wF]
 have av:¬ L<16:=G
 have af:=N9 (P:=prog) 37 5 S underlying37 C b ra rn m 0 (cS _)
 obtain⟨a1,k,l⟩:=zZ (P:=prog) 37 5 S underlying37 C b u L g n i 8 (8:Int) rfl G
 obtain⟨a2,ag,q⟩:=EA (P:=prog) 37 5 S underlying37 C b u L g n i 8 (L-8) (8:Int) ((L:Int)-8) rfl G G G
 obtain⟨a3,ah,kS⟩:=lH (P:=prog) 37 5 S underlying37 C b u L g n i (L-8) ((L:Int)-8) G G
 rw[show L-(L-8)=8 from by omega]at ah
 have W:=I h
 clear h
 go_in
 go_wp2_with (go_at_call 80;refine(oL _ _).mono ?_;rintro e U ⟨rfl,rfl⟩)
 refine(Rm 0 (f.take 8) 8 _ _ _ kO G (l _ hz)).mono ?_
 rintro e U ⟨rfl,rfl⟩
 go_wp2_with fail
 refine(zY d a (Pure.iI f) x _ hu hv).mono ?_
 rintro e w1 ⟨rfl,r⟩
 have M:=hz.below r
 have X:=j.grown r
 clear k l j
 go_wp2_with fail
 have j:((f.drop 8).take (L-8-8)).length=L-8-8:=by have h:=n.o;simp;omega
 have l:=I j
 have k:=rR (P:=prog) (w:=w1.drew) underlying37 a2 (L-8-8) (g-8) ((f.drop 8).take (L-8-8)) j (q _ M)
 have v:=I (show([]:E).length+((f.drop 8).take (L-8-8)).length<=140737488355328 from by rw[j];simp;omega)
 clear j q
 go_region_law (first|(refine Du rfl _ _ 37 37 rfl 5 S underlying37 C aj b ak (.slice ra 0 m) (.slice a2 (L-8-8) (g-8)) p [] ((f.drop 8).take (L-8-8)) ?s1 ?s2 X.drew _ k v ?_;(case s1=>first|rfl|simp[Act.eval,Act.put]);(case s2=>first|rfl|simp[Act.eval,Act.put]);intro v2 w2 R2))
 all_goals
  rw[List.nil_append]at R2
  obtain⟨T,t,j⟩:=R2
  obtain⟨va,vc,ai,ar,au,_,_⟩:=t.open l
  subst ai
  have yI:=I (show CF w1 w2 (Pl.has p)/\(T=p\/Pl.fresh w1.1.size T)/\∀q,p=some q->((f.drop 8).take (L-8-8)).length<=q.cap->T=p from⟨j.1.dE,j.2⟩)
  clear j k af ag v
  go_wp2_with fail
  refine(Rn (Pure.head d a (Pure.iI f)) va T _ _ vc w2 t l G).mono ?_
  rintro e w3 ⟨rfl,j,B⟩
  have D:Pure.dI d a f=Pure.veil (Pure.head d a (Pure.iI f)) ((f.drop 8).take (L-8-8)):=by unfold Pure.dI;rw[n,show L-16=L-8-8 from by omega]
  rw[<-D]at j
  have R3:=aU.comp yI ⟨T,j,B,.inl rfl,λ_ _ _=>rfl⟩ (by grind [Pure.ic])
  have R:=I (R3.before r)
  have hF:=R.cf
  have Q:=hz.cf hF W.o
  have A:=kS _ Q
  have ab:Hid ((f.drop (L-8)).length=8):=by have h:=n.o;show _=_;simp;omega
  have q:Hid ((Pure.dI d a f).length=L-8-8):=by grind [Pure.jd,Hid.o]
  obtain⟨_,_,K,_,_,y⟩:=j.shape
  rw[q]at K
  injection K with e1 e2 e3
  subst e1
  clear e2 e3
  have V:=y.1
  have ad:L-8-8<=140737488355328:=G
  have h8:8<=140737488355328:=G
  clear D t yI B R3 Q kS y j l
  cases j:Pure.opens d a f
  all_goals
   have y:=Pure.VL d a f L n _ j
   have t:=I j
   clear j
   go_wp2_with fail
   go_quiet (first|(go_at_call 79;exact Zi (Pure.head d a (Pure.iI f)) (Pure.dI d a f) (L-8-8) _ _ w3 _ q ad V)|(go_at_call 125;refine SJ 0 (f.drop (L-8)) 8 _ _ w3 _ ab h8 A))
   go_wp2
   go_ret2
   first
    |exact⟨λh=>absurd (t.o.symm.trans h) H,λ_=>⟨rfl,hF.drewN _⟩⟩
    |exact⟨λ_=>⟨_,rfl,R.drewN _⟩,λh=>absurd (t.o.symm.trans h) H⟩
theorem Ab{b o:Nat}:¬ Pl.has none b o:=by rintro⟨q,a,_⟩;cases a
theorem aU.nil{w b:World}{v:Value}{d:E}(h:aU w b v none d):∃p,fA b v p d/\Pl.fresh w.1.size p/\w.grownBy b none:=by
 obtain⟨p,e,f,a,_⟩:=h;refine⟨p,e,?_,f.gb (λ_ _ _=>Ab)⟩;rcases a with a|a
 .rw[a];intro q g;cases g
 .exact a
theorem Ro(a x)(v)(w)(d:wF x=false):Calls prog 46 #[O a,Y x,v] w λe b=>e=.returned (.tuple #[σ,Y 1])/\w=b:=by
 go_in
 go_wp2_with (go_at_call 84;refine(Zj _ _ _ _ _ d).mono ?_;rintro e b ⟨rfl,rfl⟩)
 exact lP
theorem Nu(b x)(g)(n a)(w)(h:wF x=true)(d:n<16\/216<n):Calls prog 46 #[O b,Y x,.slice g n a] w λe f=>e=.returned (.tuple #[σ,Y 3])/\w=f:=by
 have H:=I d
 clear d
 go_in
 go_wp2_with (go_at_call 84;refine(Ju _ _ _ _ _ _ _ h H).mono ?_;rintro e f ⟨rfl,rfl⟩)
 exact lP
theorem Rp(a b)(x)(h)(g)(L d)(w)(u:wF x=true)(t:Hid (x=b.toNat))(q:Hid (g.length=L))(i:16<=L)(l:L<=216)(f:L<=d)(y:At w h g)(r:Hid (Pure.opens a b g=true)):Calls prog 46 #[O (a.toNat:Int),Y x,.slice h L d] w λe j=>∃v p,e=.returned (.tuple #[v,Y 0])/\fA j v p (Pure.dI a b g)/\Pl.fresh w.1.size p/\w.grownBy j none:=by
 go_in
 go_wp2_with fail
 refine(EB _ none [] a b x h g L d w (fA.nil w) u t q i l f y (λ_ _ _ _ _=>Ab)).mono ?_
 rintro e A ⟨j,_⟩
 obtain⟨v,rfl,k⟩:=j r.o
 obtain⟨p,m,n,o⟩:=k.nil
 clear j k
 go_wp2
 go_ret2
 exact⟨v,p,rfl,m,n,o⟩
theorem VR(b d)(x)(h)(g)(L a)(w)(p:wF x=true)(o:Hid (x=d.toNat))(m:Hid (g.length=L))(i:16<=L)(l:L<=216)(f:L<=a)(q:At w h g)(n:Hid (Pure.opens b d g=false)):Calls prog 46 #[O (b.toNat:Int),Y x,.slice h L a] w λe j=>e=.returned (.tuple #[σ,Y 3])/\w.grownBy j none:=by
 go_in
 go_wp2_with fail
 refine(EB _ none [] b d x h g L a w (fA.nil w) p o m i l f q (λ_ _ _ _ _=>Ab)).mono ?_
 rintro e r ⟨_,j⟩
 obtain⟨rfl,k⟩:=j n.o
 have G:=k.gb (λ_ _ _=>Ab)
 clear j k
 go_wp2
 go_ret2
 exact⟨rfl,G⟩
theorem VS(b a x)(v)(w)(f:wF x=false):Calls prog 19 #[O b,Y x,O a,v] w λe d=>e=.returned (.tuple #[σ,Y 1])/\w=d:=by
 go_in
 go_wp2_with (go_at_call 44;refine(Zg b a x v _ f).mono ?_;rintro e d ⟨rfl,rfl⟩)
 exact lP
theorem Rq(d a x)(f)(n b)(w)(i:wF x=true)(h:200<n):Calls prog 19 #[O d,Y x,O a,.slice f n b] w λe g=>e=.returned (.tuple #[σ,Y 1])/\w=g:=by
 go_in
 go_wp2_with (go_at_call 44;refine(VQ d a x f n b _ i h).mono ?_;rintro e g ⟨rfl,rfl⟩)
 exact lP
theorem Zk(b d a)(x)(i)(h)(n f)(w)(r:wF x=true)(q:Hid (x=d.toNat))(p:Hid (h.length=n))(o:n<=200)(t:At w i h):Calls prog 19 #[O (b.toNat:Int),Y x,O (a.toNat:Int),.slice i n f] w λe j=>
   ∃g,e=.returned (.tuple #[ς g 0 (n+16) (n+16),Y 0])/\w.1.size<=g/\iA j g (n+16) (Pure.eB b d a h)/\w.grownBy j none:=by
 obtain rfl:=p.o
 go_in
 go_wp2_with (go_at_call 44;refine(Z' b d a x i h f _ r q o t).mono ?_;rintro e j ⟨g,rfl,k,l,m⟩)
 go_ret2
 exact⟨g,rfl,k,l,m⟩
theorem KR(b x)(d)(n a)(w)(h:wF x=true)(f:n<16\/216<n):Calls prog 22 #[O b,Y x,.slice d n a] w λe g=>e=.returned (.tuple #[σ,Y 3])/\w=g:=by
 have H:=I f
 clear f
 go_in
 go_wp2_with (go_at_call 46;refine(Nu b x d n a _ h H).mono ?_;rintro e g ⟨rfl,rfl⟩)
 exact lP
theorem Nv(a b)(x)(h)(g)(L d)(w)(r:wF x=true)(q:Hid (x=b.toNat))(n:Hid (g.length=L))(i:16<=L)(k:L<=216)(f:L<=d)(t:At w h g)(o:Hid (Pure.opens a b g=true)):Calls prog 22 #[O (a.toNat:Int),Y x,.slice h L d] w λe j=>∃v p,e=.returned (.tuple #[v,Y 0])/\fA j v p (Pure.dI a b g)/\Pl.fresh w.1.size p/\w.grownBy j none:=by
 go_in
 go_wp2_with fail
 refine(Rp a b x h g L d _ r q n i k f t o).mono ?_
 rintro e u ⟨v,p,rfl,j,l,m⟩
 go_wp2
 go_ret2
 exact⟨v,p,rfl,j,l,m⟩
theorem Rs(b d)(x)(h)(g)(L a)(w)(o:wF x=true)(n:Hid (x=d.toNat))(l:Hid (g.length=L))(i:16<=L)(j:L<=216)(f:L<=a)(p:At w h g)(m:Hid (Pure.opens b d g=false)):Calls prog 22 #[O (b.toNat:Int),Y x,.slice h L a] w λe k=>e=.returned (.tuple #[σ,Y 3])/\w.grownBy k none:=by
 go_in
 go_wp2_with fail
 refine(VR b d x h g L a _ o n l i j f p m).mono ?_
 rintro e q ⟨rfl,k⟩
 go_wp2
 go_ret2
 exact⟨rfl,k⟩
theorem pC(h:p:=by rw[fs];omega):p:=h
theorem tz(h:p:=by rw[hm];exact hlt):p:=h
theorem Bw(a)(n)(f)(d)(w)(h:Hid (a.length=n))(l:n<=140737488355328)(hc:At w f a):Calls prog 18 #[.slice f n d] w λe b=>e=.returned (O ((Pure.iD 0 a).toNat:Int))/\w=b:=by
 obtain rfl:=h.o
 go_in
 go_wp2
 go_loop [3,4] (λb i=>∃k:Nat,k<=a.length/\i = Y k/\b = O ((Pure.iD 0 (a.take k)).toNat:Int)) (λ_ i=>a.length-(intOf i).toNat)
 case atStart=>exact⟨0,cS _,rfl,rfl⟩
 case round=>
  obtain⟨k,j,rfl,rfl⟩:=hrel;by_cases e:k<a.length
  .obtain⟨b,i,rfl,g⟩:=hc k e;clear hc;go_wp2;go_round
   case rel=>exact⟨k+1,by omega,by go_num,(by grind [KQ,Pure.Er,jV])⟩
   case measure=>simp[intOf];omega
  .exact xk
theorem tF(a)(n)(f)(d)(w)(h:Hid (a.length=n))(l:n<=140737488355328)(hc:At w f a):Calls prog 85 #[.slice f n d] w λe b=>e=.returned (O ((Pure.joinL 0 a).toNat:Int))/\w=b:=by
 obtain rfl:=h.o
 go_in
 go_wp2
 go_loop [3,4] (λb i=>∃k:Nat,k<=a.length/\i = Y k/\b = O ((Pure.joinL 0 (a.take k)).toNat:Int)) (λ_ i=>a.length-(intOf i).toNat)
 case atStart=>exact⟨0,cS _,rfl,rfl⟩
 case round=>
  obtain⟨k,j,rfl,rfl⟩:=hrel;by_cases e:k<a.length
  .obtain⟨b,i,rfl,g⟩:=hc k e;clear hc;go_wp2;go_round
   case rel=>exact⟨k+1,by omega,by go_num,(by grind [Pure.uY,jV,Rj])⟩
   case measure=>simp[intOf];omega
  .exact xk
theorem MY(h:p:=by
 go_wp2
 go_loopw [3,4] (λo i wr=>∃k:Nat,k<=8/\i = Y ((7:Int)-k)/\wr.ownsRow w.1.size 5 1 o k ((Pure.qi v 8 k).map U8)/\w.grownBy wr none) (λ_ i _=>(intOf i+1).toNat)
 case atStart=>exact⟨0,by omega,rfl,World.ownsRow_nil _ _ _ _,cC _ _⟩
 case round=>
  obtain⟨k,hk,rfl,hown,hgr⟩:=hrel
  have hsz:=hgr.size
  by_cases hlt:k<8
  .go_wp2_with (at_builtin;refine wpList_append_own _ rfl _ _ 37 rfl w.1.size 5 i0 (.int .u8 0) 1 1 underlying37 hi hz0 hz1 hz2 rfl H _ _ _ rfl (hown.alloc _) ⟨wr.1.size,0,none⟩ 1 1 ([Pure.ed v (7-k)].map U8) rfl rfl ?c1 ?c2 ?c3 ?c4 ?c5 ?_)
   case c1=>exact zX _ _ _ _
   case c2=>exact pV _
   case c3=>unfold maxLen;omega
   case c4=>omega
   case c5=>simp;omega
   .intro v' w1 hown' hg1 _
    have R:w1.ownsRow w.1.size 5 1 v' (k+1) ((Pure.qi v 8 (k+1)).map U8)/\w.grownBy w1 none:=⟨by grind [Pure.nE],gI (aM hgr _) hg1 (λi hi=>(hown.lt i hi).1)⟩
    clear hown hown' hg1 hgr
    go_wp2
    go_roundw
    case rel=>grind
    case measure=>simp[intOf];omega
  .have hk8:k=8:=G
   subst hk8
   go_wp2
   go_ret
   exact⟨_,rfl,hown,hgr⟩):p:=h
theorem oM(v)(w):Calls prog 82 #[O (v.toNat:Int)] w λe a=>∃o,e=.returned o/\a.ownsRow w.1.size 5 1 o 8 ((Pure.be v 8).map U8)/\w.grownBy a none:=by
 obtain⟨i0,hi,hz0,hz1,hz2⟩:=info_parts Tryz.info5
 go_in
 exact MY
theorem xS(a f)(n m)(q r)(A B)(w)(J:Hid (a.length=n))(D:Hid (f.length=m))(Q:n<=140737488355328)(l:At w q a)(o:At w r f):Calls prog 86 #[.slice q n A,.slice r m B] w λe b=>e=.returned (.bool (a==f))/\w.grownBy b none:=by
 obtain rfl:=J.o
 obtain rfl:=D.o
 by_cases d:a.length=f.length
 .have u:=I d;have p:((a.length:Int) != (f.length:Int))=false:=by rw[d];simp
  clear d;go_in;go_wp2;go_loopw [5] (λi wr=>∃k:Nat,k<=a.length/\i = Y k/\a.take k=f.take k/\w.grownBy wr none) (λi _=>a.length-(intOf i).toNat)
  case atStart=>grind [cC]
  case round=>
   obtain⟨k,P,rfl,b,e⟩:=hrel;have v:=I b;clear b;by_cases i:k<a.length
   .have g:k<f.length:=(by rw[<-u];exact i);obtain⟨b,L,rfl,C⟩:=(l.below e) k i;obtain⟨M,x,rfl,y⟩:=(o.below e) k g;clear l o;by_cases j:a[k]=f[k]
    .have K:(((a[k]).toNat:Int) != ((f[k]).toNat:Int))=false:=(by rw[j];simp);have h:=I j;clear j;go_wp2_with fail;go_quiet (fail)
     go_wp2;go_roundw
     case rel=>exact⟨k+1,by omega,by go_num,by rw[jV i,jV g,v.o,h.o],aN e _⟩
     case measure=>simp[intOf];omega
    .have K:(((a[k]).toNat:Int) != ((f[k]).toNat:Int))=true:=by
      rw[fs];intro h;exact j (UInt8.toNat_inj.1 G)
     have t:(a==f)=false:=by
      grind
     clear j;go_wp2_with fail;go_quiet (fail)
     go_wp2;go_ret;exact⟨by rw[t];rfl,aN e _⟩
   .have h:(a==f)=true:=by
     grind [Hid.o]
    clear l o;go_wp2;go_ret;exact⟨by rw[h];rfl,e⟩
 .have p:((a.length:Int) != (f.length:Int))=true:=pC;have t:(a==f)=false:=dT;clear d;go_in;go_wp2;go_ret;exact⟨rfl,cC _ _⟩
def ri(w:World)(b:Nat)(l:List (Option Addr×Nat×E)):Prop:=
 ∀j,(hj:j<l.length)->w.cell? (F b j)=some (.slice (l[j]).1 (l[j]).2.2.length (l[j]).2.1)/\At w (l[j]).1 (l[j]).2.2/\((l[j]).1=none->(l[j]).2.1=0)
def cat(l:List (Option Addr×Nat×E)):E:=(l.map λx=>x.2.2).flatten
theorem Nw(l:List (Option Addr×Nat×E))(k)(h:k<l.length):cat (l.take (k+1))=cat (l.take k)++(l[k]).2.2:=by
 unfold cat;rw[dy h,ej,List.flatten_append];grind
theorem SD(l)(k):(cat (l.take k)).length<=(cat l).length:=by
 conv=>rhs;rw[<-eK k l]
 grind [cat]
theorem ri.grown{w a:World}{b:Nat}{l:List (Option Addr×Nat×E)}(h:ri w b l)(k:w.grownBy a none):ri a b l:=by
 intro j d;obtain⟨e,f,g⟩:=h j d;grind [World.grownBy.cell,At.below]
theorem Rt(b j m)(l)(w)(hm:Hid (l.length=m))(J:m<=140737488355328)(D:(cat l).length<=140737488355328)(n:ri w b l):Calls prog 83 #[ς b 0 m j] w λe a=>∃o,e=.returned o/\a.ownsRow w.1.size 5 1 o (cat l).length ((cat l).map U8)/\w.grownBy a none:=by
 obtain⟨A,p,r,t,u⟩:=info_parts Tryz.info5
 go_in
 go_wp2
 go_loopw [3,4] (λo i wr=>∃k:Nat,k<=m/\i = Y k/\wr.ownsRow w.1.size 5 1 o (cat (l.take k)).length ((cat (l.take k)).map U8)/\w.grownBy wr none) (λ_ i _=>m-(intOf i).toNat)
 case atStart=>exact⟨0,by omega,rfl,World.ownsRow_nil _ _ _ _,cC _ _⟩
 case round=>
  obtain⟨k,C,rfl,a,d⟩:=hrel;have q:=d.size;by_cases hlt:k<m
  .have e:k<l.length:=tz;obtain⟨y,g,i⟩:=(n.grown d) k e;have f:=SD l (k+1);rw[Nw l k e,cF]at f;have h:(cat (l.take k)).length+((l[k]).2.2).length<=140737488355328:=G;have v:=I i;clear i f n;go_wp2_with (at_builtin;refine bJ _ rfl _ _ 37 rfl w.1.size 5 A underlying37 p r t u _ _ _ rfl a _ _ _ ((l[k]).2.2) rfl rfl v g h q ?_)
   intro B x f i _;have R:x.ownsRow w.1.size 5 1 B (cat (l.take (k+1))).length ((cat (l.take (k+1))).map U8)/\w.grownBy x none:=⟨by grind [Nw],(by grind [World.ownsRow.lt,gI])⟩
   clear a f i d g h v y;exact ti
  .have f:k=m:=G;subst f;clear n;have e:wr.ownsRow w.1.size 5 1 u3 (cat l).length ((cat l).map U8):=by
    grind [Hid.o]
   clear a;go_wp2;go_ret;exact⟨_,rfl,e,d⟩
theorem Nz(b a m)(l)(J)(w)(i:Hid (l.length=m))(f:Hid (cat l=J))(j:m<=140737488355328)(h:J.length<=140737488355328)(g:ri w b l):Calls prog 83 #[ς b 0 m a] w λe d=>∃o,e=.returned o/\d.ownsRow w.1.size 5 1 o J.length (J.map U8)/\w.grownBy d none:=by
 obtain rfl:=f.o
 exact Rt b a m l w i j h g
theorem pH(h:p:=by intro h;cases h):p:=h
theorem tE(h:p:=by grind [World.ownsRow.kept]):p:=h
theorem Sx(u):Pure.be u 2=[Pure.ed u 1,Pure.ed u 0]:=rfl
theorem Zl(w)(e)(a b d f)(h i k l r t u v)(m n p q)(C:At w a m)(D:At w b n)(J:At w d p)(K:At w f q)(L:Hid (a=none->h=0))(M:Hid (b=none->i=0))(P:Hid (d=none->k=0))(Q:Hid (f=none->l=0))(x:m.length=r)(y:n.length=t)(A:p.length=u)(B:q.length=v):
  ri (w.alloc (.cells #[.slice a r h,.slice b t i,.slice d u k,.slice f v l] e)) w.1.size [(a,h,m),(b,i,n),(d,k,p),(f,l,q)]:=by
 subst x y A B
 have g:∀o,w.grownBy (w.alloc o) none:=mN
 intro j o
 match j,o with
 |0,_=>exact⟨by grind [World.cell?_alloc_at],C.below (g _),L⟩
 |1,_=>exact⟨by grind [World.cell?_alloc_at],D.below (g _),M⟩
 |2,_=>exact⟨by grind [World.cell?_alloc_at],J.below (g _),P⟩
 |3,_=>exact⟨by grind [World.cell?_alloc_at],K.below (g _),Q⟩
theorem Jv(b d a)(l):Pure.iD 0 (cat [(none,0,Pure.be b 8),(none,0,Pure.be d 1),(none,0,Pure.be a 8),(none,0,l)])=Pure.iD (Pure.head b d a) l:=by
 simp only[cat,eN,fR,eR,List.flatten_nil,gf];grind [Pure.KJ,Pure.Es,Pure.head]
theorem VT {P:Program} {j:Array Oper} {o:Oper} {a:Act} {w:World} {K:Act->World->Prop} {Q:Exit->Act->World->Prop} {E:Prop}
  (m:o.guard=none) (f) (k) (l) (i:o.op=Op.call {callee:=Callee.value (Operand.func f),args:=k,argTypes:=l})
  (g) (t:P.funcs[f]?=some g) (d:(g.name == "runtime.NumGoroutine")=false) (b:g.body.isNone=false) (n) (x:#[]++k.map a.eval++#[]=n) {R:Ending->World->Prop} (r:Calls P f n w R)
  (A:∀e h,R e h->∃v,e=.returned v/\K (a.put o.dst v) h) :
  if Region.wanted o (yielded j a.tmps)=true then Oper.wp P o a w K Q else E:=by
 have hw:Region.wanted o (yielded j a.tmps)=true:=by simp[Region.wanted,m]
 rw[dQ hw]
 have v:execOp a.eval o=callFunc f (#[]++k.map a.eval++#[]):=by
  obtain⟨q,B,p,y,e,h⟩:=o;simp only at i m;subst i m;rfl
 have u:(callFunc f (#[]++k.map a.eval++#[])).run P w=.ok (.enter f n) w:=by
  rw[x];have e:¬ g.name = "runtime.NumGoroutine":=by simpa using d
  have p:¬ g.body=none:=by intro h;simp[h]at b
  simp[callFunc,t,e,p]
 unfold Oper.wp
 rw[v,u,Oper.upon_enter]
 refine r.mono ?_
 grind
theorem St{w:World}{f:Nat}{e:TypeId}{v:Value}{h:UInt64}(g:w.ownsRow f e 1 v 8 ((Pure.be h 8).map U8)):
  ∃b a d,v = ς b a 8 d/\w.c b a=some (.int .u8 ((Pure.ed h 7).toNat:Int)):=by
 obtain⟨m,d,l,_,_,_,i⟩:=ig g
 obtain⟨b,a,j,k⟩:=i 0 (by rw[Pure.dB];omega)
 subst j
 exact⟨b,a,d,l,k⟩
theorem NB(x y:UInt8):bits .xor .u8 (x.toNat:Int) (y.toNat:Int)=((x ^^^ y).toNat:Int):=by
 rw[u8_xor_nat _ _ x.toNat_lt y.toNat_lt,UInt8.toNat_xor]
theorem Qy:(f82.name == "runtime.NumGoroutine")=false:=by kernel_rfl
theorem Qx:f82.body.isNone=false:=by kernel_rfl
theorem Zm(n:Nat):IntKind.u8.wrap ((n:Int) / 256)=(((UInt8.ofNat (n / 256)).toNat:Nat):Int):=by
 have h:(UInt8.ofNat (n / 256)).toNat=n / 256 % 256:=by rw[ez]
 rw[h];show((n:Int) / 256) % 256=_;omega
theorem Ge(h:p:=by
 have h:=hu.o
 have e:(Pure.ed use 0).toNat=use.toNat % 256:=by simp[Pure.ed]
 rw[e];omega):p:=h
theorem Jw(b use a)(x)(p)(n)(ao)(r)(w)(hx:1<=x/\x<=5)(hu:Hid (x=use.toNat))(hn:Hid (p.length=n))(hl:n<=8388608)(ag:ao=none->r=0)(hz:At w ao p):Calls prog 45 #[O (b.toNat:Int),Y x,O (a.toNat:Int),.slice ao n r] w λe w'=>
   ∃o,e=.returned o/\w'.ownsRow w.1.size 5 1 o (n+16) ((Pure.eB b use a p).map U8)/\w.grownBy w' none:=by
 obtain⟨i0,af,ai,al,an⟩:=info_parts Tryz.info5
 obtain⟨bt,bu⟩:=hx
 go_in
 go_wp2_with fail
 refine(oM a _).mono ?_
 rintro e w1 ⟨o1,rfl,f,g⟩
 go_wp2_with fail
 refine(oM b _).mono ?_
 rintro e w2 ⟨o2,rfl,d,i⟩
 obtain⟨ak,U,D,_,_,ba,au⟩:=ig d
 subst D
 obtain⟨l,j,av,bf⟩:=au.addr (by rw[Pure.dB];omega)
 subst av
 have bl:Hid (o1.ownBlock≠some l):=by
  intro h;have h1:=(f.lt l h).2;have h2:=(d.lt l rfl).1;omega
 have kZ:w2.ownsRow w.1.size 5 1 o1 8 ((Pure.be a 8).map U8):=tE
 have G2:=aa g i
 clear f d g i
 go_wp2
 go_loopw [9,11,12] (λo i _ wr=>∃k:Nat,k<=n/\i = Y k/\wr.ownsRow w.1.size 5 1 o (8+k) ((Pure.be a 8++Pure.veil (Pure.head b use a) (p.take k)).map U8)/\At wr (some ⟨l,j,none⟩) (Pure.be b 8)/\w.grownBy wr none/\Hid (o.ownBlock≠some l)/\l<wr.1.size) (λ_ i _ _=>n-(intOf i).toNat)
 case atStart=>grind [Pure.veil]
 case round=>
  obtain⟨k,hk,rfl,y,u,v,ax,bq⟩:=hrel;by_cases hlt:k<n
  .have eU:x=((Pure.ed use 0).toNat:Int):=by
    exact Ge
   have HU:=I eU;clear eU;go_wp2_with fail;refine(oM a _).mono ?_;rintro e w3 ⟨o3,rfl,f,d⟩;obtain⟨L,M,D,_,_,ae,A⟩:=ig f;subst D;clear f;have C:At w3 (some ⟨wr.1.size,0,none⟩) (Pure.be use 1):=(dX wr _ #[.int .u8 x] _ (by rw[HU];rfl)).below d;have B:=(u.below (cy wr _ none)).below d;have P:wr.1.size<w3.1.size:=(by have:=d.size;simp at this;omega);obtain⟨J,HJ⟩:∃J,Hid (cat [(some ⟨l,j,none⟩,U,Pure.be b 8),(some ⟨wr.1.size,0,none⟩,1,Pure.be use 1),(L,M,Pure.be a 8),(some ⟨w3.1.size,0,none⟩,2,Pure.be (UInt64.ofNat k) 2)]=J):=⟨_,rfl⟩
   have ar:Hid (J.length=19):=(by show _=_;rw[<-HJ];simp[cat,Pure.dB]);have S:Hid (Pure.iD 0 J=Pure.iD (Pure.head b use a) (Pure.be (UInt64.ofNat k) 2)):=(by show _=_;rw[<-HJ];exact Jv b use a _);have t:J.length<=140737488355328:=(by rw[ar];omega);have m:#[Value.int IntKind.u8 (((UInt8.ofNat (k / 256)).toNat:Nat):Int),Value.int IntKind.u8 ((k:Int) % 256)].toList=(Pure.be (UInt64.ofNat k) 2).map U8:=by
    have g:=Pure.lG k G;have K:(Pure.ed (UInt64.ofNat k) 1).toNat=k / 256 % 256:=(by simp[Pure.ed,g]);have q:(Pure.ed (UInt64.ofNat k) 0).toNat=k % 256:=(by simp[Pure.ed,g]);rw[Sx];simp only[eN,fR,U8,K,q];rw[show(UInt8.ofNat (k / 256)).toNat=k / 256 % 256 from by rw[ez],show((k:Int) % 256)=((k % 256:Nat):Int) from by omega]
   have hI:ri ((w3.alloc (Obj.cells #[Value.int IntKind.u8 (((UInt8.ofNat (k / 256)).toNat:Nat):Int),Value.int IntKind.u8 ((k:Int) % 256)] 5)).alloc (Obj.cells #[Value.slice (some ⟨l,j,none⟩) 8 U,Value.slice (some ⟨wr.1.size,0,none⟩) 1 1,Value.slice L 8 M,Value.slice (some ⟨w3.1.size,0,none⟩) 2 2] 37)) (w3.1.size+1) [(some ⟨l,j,none⟩,U,Pure.be b 8),(some ⟨wr.1.size,0,none⟩,1,Pure.be use 1),(L,M,Pure.be a 8),(some ⟨w3.1.size,0,none⟩,2,Pure.be (UInt64.ofNat k) 2)]:=by
    have g:=cy w3 (Obj.cells #[Value.int IntKind.u8 (((UInt8.ofNat (k / 256)).toNat:Nat):Int),Value.int IntKind.u8 ((k:Int) % 256)] 5) none;have h:=Zl (w3.alloc (Obj.cells #[Value.int IntKind.u8 (((UInt8.ofNat (k / 256)).toNat:Nat):Int),Value.int IntKind.u8 ((k:Int) % 256)] 5)) 37 (some ⟨l,j,none⟩) (some ⟨wr.1.size,0,none⟩) L (some ⟨w3.1.size,0,none⟩) U 1 M 2 8 1 8 2 _ _ _ _ (B.below g) (C.below g) (A.below g) (dX w3 _ _ _ m) ba pH ae pH (Pure.dB _ _) (Pure.dB _ _) (Pure.dB _ _) (Pure.dB _ _);rw[cG]at h;exact h
   clear m;have P:=Zm k;go_wp2_with fail;refine(Nz (w3.1.size+1) 4 4 _ J _ (by show List.length _=4;rfl) HJ G t hI).mono ?_;rintro e w4 ⟨o4,rfl,jf,m⟩;obtain⟨aj,cj,D,_,_,_,Zn⟩:=ig jf;subst D;have K:=aa (aM (aM (aa (aM v _) d) _) _) m;have bo:l<w4.1.size:=(by have h1:=d.size;have h2:=m.size;simp at h1 h2;omega);have K4:=aa (aM (aM (aa (cy wr _ _) d) _) _) m;have q:=y.kept K4 (by cases h:u9.ownBlock<;>simp);have ab:=u.below K4;clear jf hI A C B y u v d m P;go_wp2_with fail;refine(Bw J J.length _ _ _ (I rfl) t Zn).mono ?_;rintro e w' ⟨rfl,rfl⟩;rw[S];have bc:k<p.length:=nB;obtain⟨bz,oz,rfl,W⟩:=(hz.below K) k bc;have bs:=World.block_lt_of_cell? w4 _ W;go_wp2_with fail;have V:8+k+1<=140737488355328:=G;have bn:=K.size;go_region_law (first|(refine VT rfl 82 _ _ rfl f82 func82 Qy Qx #[O ((Pure.iD (Pure.head b use a) (Pure.be (UInt64.ofNat k) 2)).toNat:Int)] (by first|rfl|simp[Act.eval,Act.put]) (oM _ _) ?_;rintro e w5 ⟨o5,rfl,g,qI⟩;refine⟨_,rfl,?_⟩;obtain⟨b5,bp,c5,X,Bv⟩:=St g;subst X;have az:=qI.cell W Z;have K5:=iZ qI;have tH:w5.ownsRow w.1.size 5 1 u9 (8+k) ((Pure.be a 8++Pure.veil (Pure.head b use a) (p.take k)).map U8):=tE;have Q:=K5.size)|(refine wD rfl _ _ 37 rfl w.1.size 5 i0 underlying37 af ai al an u9 (8+k) _ ?s1 (tH.alloc _) (some ⟨w5.1.size,0,none⟩) 1 1 [p[k] ^^^ Pure.mask (Pure.head b use a) k] ?s2 rfl ?s3 ?s4 V ?s5 ?_;(case s1=>first|rfl|simp[Act.eval,Act.put]);(case s2=>first|rfl|simp[Act.eval,Act.put]);(case s3=>intro h;cases h);(case s4=>exact dX w5 _ _ _ (by rw[NB];rfl));(case s5=>simp;omega);intro v' w6 yQ T P))
   all_goals
    have R:w6.ownsRow w.1.size 5 1 v' (8+(k+1)) ((Pure.be a 8++Pure.veil (Pure.head b use a) (p.take (k+1))).map U8)/\At w6 (some ⟨l,j,none⟩) (Pure.be b 8)/\w.grownBy w6 none/\Hid (v'.ownBlock≠some l)/\l<w6.1.size:=by
     refine⟨?_,?_,?_,?_,?_⟩
     .grind [Pure.Jr]
     .exact((ab.below K5).below (cy _ _ _)).grown T kO
     .exact gI (aM (aa K K5) _) T (λi hi=>(tH.lt i hi).1)
     .intro h;rcases P.o with h1|h1
      .exact ax (h1▸h)
      .rw[h1]at h;simp at h;omega
     .have:=T.size;simp at this;omega
    clear yQ T P tH az Bv g qI K5 q ab W K K4 Zn
    exact ti
  .have bb:k=n:=G;subst bb;have eU:x=((Pure.ed use 0).toNat:Int):=by
    exact Ge
   have HU:=I eU;clear eU;have P:wr.ownsRow w.1.size 5 1 u9 (8+k) ((Pure.be a 8++Pure.veil (Pure.head b use a) p).map U8):=by
    grind [Hid.o]
   have W:=hz.below v;clear y;go_wp2_with fail;refine(oM a _).mono ?_;rintro e w3 ⟨o3,rfl,f,d⟩;obtain⟨L,M,D,_,_,ae,A⟩:=ig f;subst D;clear f;have C:At w3 (some ⟨wr.1.size,0,none⟩) (Pure.be use 1):=(dX wr _ #[.int .u8 x] _ (by rw[HU];rfl)).below d;have B:=(u.below (cy wr _ none)).below d;have f:=(W.below (cy wr _ none)).below d;obtain⟨J,HJ⟩:∃J,Hid (cat [(some ⟨l,j,none⟩,U,Pure.be b 8),(some ⟨wr.1.size,0,none⟩,1,Pure.be use 1),(L,M,Pure.be a 8),(ao,r,p)]=J):=⟨_,rfl⟩
   have t:J.length<=140737488355328:=by
    grind [Hid.o,Pure.dB,cat]
   have S:Hid (Pure.iD 0 J=Pure.iD (Pure.head b use a) p):=by show _=_;rw[<-HJ];exact Jv b use a _
   have hI:ri (w3.alloc (Obj.cells #[Value.slice (some ⟨l,j,none⟩) 8 U,Value.slice (some ⟨wr.1.size,0,none⟩) 1 1,Value.slice L 8 M,Value.slice ao k r] 37)) w3.1.size [(some ⟨l,j,none⟩,U,Pure.be b 8),(some ⟨wr.1.size,0,none⟩,1,Pure.be use 1),(L,M,Pure.be a 8),(ao,r,p)]:=
    (by grind [Pure.dB,Zl,Hid.o])
   have bm:=I ag;clear ag;go_wp2_with fail;refine(Nz w3.1.size 4 4 _ J _ (by show List.length _=4;rfl) HJ G t hI).mono ?_;rintro e w4 ⟨o4,rfl,jf,m⟩;obtain⟨aj,cj,D,_,_,_,Zn⟩:=ig jf;subst D;have K:=aa (aM (aa (aM v _) d) _) m;have K4:=aa (aM (aa (cy wr _ _) d) _) m;have q:w4.ownsRow w.1.size 5 1 u9 (8+k) ((Pure.be a 8++Pure.veil (Pure.head b use a) p).map U8):=tE;clear jf hI A C B P u v d m f W K4;go_wp2_with fail;refine(Bw J J.length _ _ _ (I rfl) t Zn).mono ?_;rintro e w' ⟨rfl,rfl⟩;rw[S];clear Zn;go_wp2_with fail;refine(oM _ _).mono ?_;rintro e w5 ⟨o5,rfl,g,qI⟩;obtain⟨B,c5,X,_,_,d,m⟩:=ig g;subst X;have tH:w5.ownsRow w.1.size 5 1 u9 (8+k) ((Pure.be a 8++Pure.veil (Pure.head b use a) p).map U8):=tE;have Q:=cE K.size qI.size;have V:8+k+8<=140737488355328:=G;have A:Hid ((Pure.be (Pure.iD (Pure.head b use a) p) 8).length=8):=Pure.dB _ _;have f:=aa K qI;clear g q qI K;go_wp2_with (at_builtin;refine bJ _ rfl _ _ 37 rfl w.1.size 5 i0 underlying37 af ai al an _ _ _ rfl tH _ _ _ (Pure.be (Pure.iD (Pure.head b use a) p) 8) rfl A d m V Q ?_;intro v' w6 yQ T _)
   have R:w6.ownsRow w.1.size 5 1 v' (k+16) ((Pure.eB b use a p).map U8)/\w.grownBy w6 none:=by
    refine⟨?_,gI f T (λi hi=>(tH.lt i hi).1)⟩;rw[show k+16=8+k+8 from by omega];exact yQ
   clear yQ T tH m f;go_wp2;go_ret;exact⟨_,rfl,R.1,R.2⟩
theorem nH(d f a)(x)(h)(n)(g)(b)(w)(p:1<=x/\x<=5)(m:Hid (x=f.toNat))(l:Hid (h.length=n))(k:n<=1000)(i:g=none->b=0)(q:At w g h):Calls prog 45 #[O (d.toNat:Int),Y x,O (a.toNat:Int),.slice g n b] w λe j=>
   ∃o,e=.returned o/\j.ownsRow w.1.size 5 1 o (n+16) ((Pure.eB d f a h).map U8)/\w.grownBy j none:=
 Jw d f a x h n g b w p m l (cE k H) i q
theorem sy(h:p:=by rw[HO];decide):p:=h
theorem rq{P:Program}(t e)(i)(ht:P.underlying t=some (.slice e))(k:P.info? e=some i)(n:i.size=1)(b g f a l h:Nat)(y z)(o:y=(l:Int))(p:z=(h:Int))(r:l<=h)(q:h<=a)(m:l<a)(w):
  (Instr.sliceAt t (ς b g f a) (some (Y y)) (some (Y z)) none).run P w=.ok (ς b (g+l) (h-l) (a-l)) w:=by
 subst o p
 have he:P.elem t=e:=tP
 have d:P.underlying t=some (.slice (P.elem t)):=tA
 have j:a≠l:=G
 rw[run_sliceAt_slice w t _ _ _ _ d,run_slice_lh w t _ f a d .i64 .i64 (l:Int) (h:Int) G G G,he]
 simp[sizeOf,typeInfo,k,n,sliced,j,Addr.add_lit]
theorem Cu(b)(x)(d)(n a)(w)(g:n<16):Calls prog 47 #[O b,Y x,.slice d n a] w λe f=>e=.returned (.tuple #[σ,.bool false])/\w=f:=by
 go_in
 go_wp2
 exact lP
theorem J1(h:p:=by
 intro w
 have h:=rq (P:=prog) 37 5 i0 underlying37 hif hz1 g 0 (M+16) c1 8 (M+8) 8 ((M:Int)+16-8) G G G G G w
 rw[show M+8-8=M from by omega,cR]at h
 exact h):p:=h
theorem J0(h:p:=by
 intro w
 have h:=rq (P:=prog) 37 5 i0 underlying37 hif hz1 b off (M+16) cap 8 (M+8) 8 ((M:Int)+16-8) G G G G G w
 rw[show M+8-8=M from by omega]at h
 exact h):p:=h
theorem ND(a d)(x)(b off)(f)(M cap)(w)(r:1<=x)(t:x<=5)(L:Hid (x=d.toNat))(m:Hid (f.length=M+16))(S:M<=200)(K:M+16<=cap)(W:cap<=9223372036854775807)(y:At w (some ⟨b,off,none⟩) f):Calls prog 47 #[O (a.toNat:Int),Y x,ς b off (M+16) cap] w λe B=>
   (Pure.opens a d f=true->∃g c,e=.returned (.tuple #[ς g 8 M c,.bool true])/\At B (some ⟨g,8,none⟩) (Pure.dI a d f))/\
   (Pure.opens a d f=false->e=.returned (.tuple #[σ,.bool false]))/\w.grownBy B none:=by
 obtain⟨i0,hif,X,hz1,ab⟩:=info_parts Tryz.info5
 have k:∀w,(Instr.sliceAt 37 (ς b off (M+16) cap) (some (Y 8)) (some (Y ((M:Int)+16-8))) none).run prog w=.ok (ς b (off+8) M (cap-8)) w:=by
  exact J0
 have D:Hid (((f.drop 8).take M).length=M):=by have h:=m.o;show _=_;simp;omega
 have J:Hid ((Pure.dI a d f).length=M):=by have h:=m.o;show _=_;rw[Pure.jd,h];omega
 have HS:Hid ((Pure.eB a d (Pure.iI f) (Pure.dI a d f)).length=M+16):=by show _=_;rw[Pure.bR,J]
 have p:M<=1000:=G
 have v:M+16<=140737488355328:=G
 go_in
 go_wp2_with fail
 refine(tF (f.take 8) 8 _ _ _ (by have h:=m.o;show _=_;rw[ew];omega) G (y.take 8)).mono ?_
 rintro e B ⟨rfl,rfl⟩
 go_wp2_with fail
 refine(nH a d (Pure.iI f) x ((f.drop 8).take M) M (some ⟨b,off+8,none⟩) (cap-8) _ ⟨r,t⟩ L D p pH ((y.drop 8).take _)).mono ?_
 rintro e R ⟨o1,rfl,i,n⟩
 obtain⟨g,c1,l,V,T,u⟩:∃g c,o1 = ς g 0 (M+16) c/\M+16<=c/\c<=maxLen/\At R (some ⟨g,0,none⟩) (Pure.eB a d (Pure.iI f) ((f.drop 8).take M)):=by
  obtain⟨ao,cap,l,C,Q,_,U⟩:=ig i;rcases i.2 with⟨j,_⟩|⟨g,q,A,j,_⟩
  .rw[l]at j;simp at j
  .rw[l]at j;simp at j;obtain⟨rfl,rfl⟩:=j;exact⟨g,cap,l,C,Q,U⟩
 subst l
 have q:∀w,(Instr.sliceAt 37 (ς g 0 (M+16) c1) (some (Y 8)) (some (Y ((M:Int)+16-8))) none).run prog w=.ok (ς g 8 M (c1-8)) w:=by
  exact J1
 have A:At R (some ⟨g,8,none⟩) (Pure.dI a d f):=by
  have h:=(u.drop 8).take M;have e:((Pure.eB a d (Pure.iI f) ((f.drop 8).take M)).drop 8).take M=Pure.dI a d f:=by
   have j:=Pure.Zb a d (Pure.iI f) ((f.drop 8).take M);rw[D]at j;rw[j];unfold Pure.dI;rw[m,Nat.add_sub_cancel]
  rw[e,cR]at h;exact h
 clear i u k
 go_wp2_with fail
 refine(nH a d (Pure.iI f) x (Pure.dI a d f) M (some ⟨g,8,none⟩) (c1-8) _ ⟨r,t⟩ L J p pH A).mono ?_
 rintro e w2 ⟨o2,rfl,i,k⟩
 obtain⟨U,c2,l,_,_,_,Q⟩:=ig i
 subst l
 have u:=aa n k
 have j:=y.below u
 have C:=A.below k
 clear i n k A q
 go_wp2_with fail
 refine(xS (Pure.eB a d (Pure.iI f) (Pure.dI a d f)) f (M+16) (M+16) _ _ _ _ _ HS m v Q j).mono ?_
 rintro e w3 ⟨rfl,i⟩
 have k:=aa u i
 have n:=C.below i
 clear u i C Q j
 rw[Pure.Et a d f (by rw[m];omega)]
 cases i:Pure.opens a d f
 all_goals
  have HO:=I i
  clear i
  go_wp2
  go_ret2
  first
   |exact⟨λh=>absurd h sy,λ_=>rfl,k⟩
   |exact⟨λ_=>⟨g,c1-8,rfl,n⟩,λh=>absurd h sy,k⟩
theorem VV(d a x)(v)(w)(b:x<1\/5<x):Calls prog 20 #[O d,Y x,O a,v] w λe f=>e=.returned (.tuple #[σ,Y 1])/\w=f:=by
 rcases b with b|b
 .go_in;go_wp2;exact lP
 .have e:¬ x<1:=G;go_in;go_wp2;exact lP
theorem Ru(d a x)(f)(n b)(w)(g:1<=x)(h:x<=5)(j:200<n):Calls prog 20 #[O d,Y x,O a,.slice f n b] w λe i=>e=.returned (.tuple #[σ,Y 1])/\w=i:=by
 go_in
 go_wp2
 exact lP
theorem Zo(f g b)(x)(i)(n)(h)(d)(w)(o:1<=x)(p:x<=5)(u:Hid (x=g.toNat))(t:Hid (i.length=n))(A:n<=200)(m:Hid (h=none->d=0))(y:At w h i):Calls prog 20 #[O (f.toNat:Int),Y x,O (b.toNat:Int),.slice h n d] w λe j=>
   ∃a c,e=.returned (.tuple #[.slice a (n+16) c,Y 0])/\At j a (Pure.eB f g b i)/\w.grownBy j none:=by
 have l:n<=1000:=G
 go_in
 go_wp2_with fail
 refine(nH f g b x i n h d _ ⟨o,p⟩ u t l m y).mono ?_
 rintro e C ⟨B,rfl,a,k⟩
 obtain⟨q,r,v,_,_,_,j⟩:=ig a
 subst v
 clear a
 go_wp2
 go_ret2
 exact⟨q,r,rfl,j,k⟩
theorem NF(b x)(v)(w)(a:x<1\/5<x):Calls prog 23 #[O b,Y x,v] w λe d=>e=.returned (.tuple #[σ,Y 1])/\w=d:=by
 rcases a with a|a
 .go_in;go_wp2;exact lP
 .have d:¬ x<1:=G;go_in;go_wp2;exact lP
theorem KS(b x)(f)(n a)(w)(h:1<=x)(i:x<=5)(d:n<16\/216<n):Calls prog 23 #[O b,Y x,.slice f n a] w λe g=>e=.returned (.tuple #[σ,Y 3])/\w=g:=by
 rcases d with d|d
 .have j:¬ 216<n:=G;go_in;go_wp2_with (go_at_call 47;refine(Cu b x f n a _ d).mono ?_;rintro e g ⟨rfl,rfl⟩)
  exact lP
 .go_in;go_wp2;exact lP
theorem NG(d f)(x)(b j)(k)(M i)(w)(t:1<=x)(u:x<=5)(A:Hid (x=f.toNat))(y:Hid (k.length=M+16))(m:M<=200)(l:M+16<=i)(r:i<=9223372036854775807)(B:At w (some ⟨b,j,none⟩) k):Calls prog 23 #[O (d.toNat:Int),Y x,ς b j (M+16) i] w λe g=>
   (Pure.opens d f k=true->∃a c,e=.returned (.tuple #[.slice a M c,Y 0])/\At g a (Pure.dI d f k))/\
   (Pure.opens d f k=false->e=.returned (.tuple #[σ,Y 3]))/\w.grownBy g none:=by
 go_in
 go_wp2_with fail
 refine(ND d f x b j k M i _ t u A y m l r B).mono ?_
 rintro e C ⟨n,p,v⟩
 cases a:Pure.opens d f k
 .obtain rfl:=p a;have HO:=I a;clear n p a;go_wp2;go_ret2;exact⟨λh=>absurd h sy,λ_=>rfl,v⟩
 .obtain⟨g,c,rfl,q⟩:=n a;have HO:=I a;clear n p a;go_wp2;go_ret2;exact⟨λ_=>⟨_,c,rfl,q⟩,λh=>absurd h sy,v⟩
