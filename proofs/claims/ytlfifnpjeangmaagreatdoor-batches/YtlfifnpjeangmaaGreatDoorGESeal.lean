import Derived.Test.YtlfifnpjeangmaaGreatDoorGEHead
import Derived.Test.YtlfifnpjeangmaaGreatDoorGEIns
import Derived.BigQuiet
namespace Go.Proofs.YtlfifnpjeangmaaGreatDoor
set_option maxHeartbeats 2000000
open Proofs.Tryz Go.RowKit
set_option maxRecDepth 100000
variable {p:Prop}
theorem Lb(h)(b)(d)(a n)(w)(i:Hid (b.length=n))(g:n<=140737488355328)(f:At w d b):Calls prog 79 #[H (h.toNat:Int),.slice d n a] w λe j=>e=.returned (H ((Pure.fG h b).toNat:Int))/\w=j:=by
 obtain rfl:=i.o
 exact uy h b d a w g f
theorem te(h:p:=by
 go_wp2
 go_roundw
 case rel=>grind
 case measure=>simp[intOf];omega):p:=h
theorem AM(h:p:=by
 intro x hx
 refine sN (P:=prog) underlying37 _ 1 1 [Pure.dW v (size-1-k)] rfl ?_
 exact fw _ _ _ _ (by rw[hx];rfl)):p:=h
theorem An(h:p:=by
 have hks:k=size:=G
 subst hks
 go_wp2
 go_ret
 exact⟨_,rfl,hbr⟩):p:=h
theorem yX(j)(p)(b)(v)(size:Nat)(w)(l:f' w j p b)(B:size<=8)(A:b.length<=1000000):Calls prog 124 #[j,H (v.toNat:Int),Y size] w λe d=>∃a,e=.returned a/\aU w d a p (b++Pure.be v size):=by
 obtain⟨q,m,e,f,g⟩:=info_parts Tryz.info5
 go_in
 go_wp2
 go_loopw [0,8] (λo i wr=>∃k:Nat,k<=size/\i = Y ((size:Int)-1-k)/\aU w wr o p (b++Pure.pI v size k)) (λ_ i _=>(intOf i+1).toNat)
 case atStart=>grind [Pure.tJ,aU.refl]
 case round=>
  obtain⟨k,y,rfl,hbr⟩:=hrel;by_cases n:k<size
  .obtain⟨o,d,a⟩:=hbr;have h:=I a;clear a;have a:∀x,x=((Pure.dW v (size-1-k)).toNat:Int)->Src prog 1 37 (ς wr.1.size 0 1 1) 1 ([Pure.dW v (size-1-k)].map U8) (wr.alloc (.cells #[.int .u8 x] 5)):=by
    exact AM
   go_wp2_with (at_builtin;refine dK _ rfl _ _ 37 37 rfl 5 q underlying37 m e f g _ _ o _ [Pure.dW v (size-1-k)] rfl rfl (d.grown (cx _ _ _)) 1 (a _ ?c1) ?c2 ?_)
   case c1=>exact nY v _
   case c2=>simp[Pure.jW];omega
   .intro r t i;have R:=aU.comp h (i.before (cx _ _ _)) Z;have u:aU w t r p (b++Pure.pI v size (k+1)):=(by rw[Pure.mU];omega);clear R i d l h;exact te
  .exact An
theorem f'.buf{w:World}{g a:Nat}{d:E}(h:gU w g a d):b' w g a/\w.rangeAt g 0 (d.map U8):=by
 have f:=h;obtain⟨b,e,i,j,_⟩:=h;exact⟨⟨b,e,i,by omega⟩,At.range f.at⟩
theorem TH(head)(j)(p)(A d)(a n f)(w)(J:f' w (.slice j n f) p (A++d))(x:Hid (A.length=a))(l:Hid ((A++d).length=n))(Q:n<=900000):Calls prog 122 #[.slice (sl j f a) (n-a) (f-a),H (head.toNat:Int)] w λe i=>e=.returned (.tuple #[])/\f' i (.slice j n f) p (A++Pure.veil head d)/\CF w i (Pl.has p):=by
 have g:(A++d).length=A.length+d.length:=cD
 rw[x,l]at g
 by_cases t:d=[]
 .subst t;rw[List.length_nil]at g;rw[show n-a=0 from by omega];refine(Hf _ _ head w).mono ?_;grind [f'.grown,CF.bF,Pure.veil]
 .have K:=fX.2 t;rcases J with⟨_,_,h⟩|⟨q,y,r,P,C,u,v⟩
  .rw[List.append_eq_nil_iff]at h;exact absurd h.2 t
  .injection r with e1 e2 e3;subst e1 e3;have D:sl (some ⟨q.g,q.off,none⟩) q.cap a=some ⟨q.g,q.off+a,none⟩:=by
    grind [Addr.add_lit,sl]
   have k:q.off+a+(n-a)<=q.off+q.cap:=(by have:=l.o;omega);have m:w.rangeAt q.g (q.off+a) (d.map U8):=by
    have:=rY (cs:=A.map U8) (ds:=d.map U8) (by rw[<-ef];exact v);rw[cR,x]at this;exact this
   have M:=xZ (ds:=d.map U8) (by rw[<-ef];exact v);rw[D];refine(Sd q.g (q.off+a) (q.cap-a) (n-a) head d w (u.mono k) (I G) G m).mono ?_;rintro e i ⟨rfl,R,L⟩;have B:CF w i (Pl.has p):=L.mono (λb o _ e=>⟨q,y,e.1,by omega,by have:=e.2;have:=l.o;omega⟩);refine⟨rfl,.inr ⟨q,y,?_,?_,C,u.cf B,?_⟩,B⟩
   .grind [Pure.eD]
   .grind [Pure.eD]
   grind [qy,CF.range]
theorem WZ(d b a)(x)(ov)(p)(A f)(g)(ii:Int)(w)(r:f' w ov p (A++f))(K:Hid (A.length=g))(Q:ii=g)(hu:Hid (x=b.toNat))(S:b.toNat<9223372036854775808)(X:(A++f).length<=900000):Calls prog 81 #[ov,Y ii,H (d.toNat:Int),Y x,H (a.toNat:Int)] w λe j=>∃i,e=.returned i/\aU w j i p (A++Pure.dY d b a f):=by
 subst Q
 obtain⟨i0,u,m,j,t⟩:=info_parts Tryz.info5
 obtain⟨n,k⟩:=N ((A++f).length)
 have C:=I k
 have i:f.length=n-g:=kA
 have HZ:=I i
 have M:g<=n:=kA
 rw[k]at X
 clear k i
 obtain⟨D,i,T,L,ab,l,ad⟩:=r.open C
 subst T
 have q:=xJ (P:=prog) 37 5 i0 underlying37 u j D n i g M
 have k:∀w,At w D (A++f)->At w (sl D i g) f:=λw h=>by
  have:=h.part i g (by rw[C];exact L);rw[show(A++f).drop g=f from by rw[<-K];simp]at this;exact this
 clear u m j t
 go_in
 go_wp2_with fail
 refine(yU d b a x w hu S).mono ?_
 rintro e U ⟨rfl,j⟩
 have m:=r.grown j
 have t:=k U (l.below j)
 clear l k r
 go_wp2_with fail
 refine(Lb (Pure.head d b a) f _ _ (n-g) U HZ G t).mono ?_
 rintro e w2 ⟨rfl,rfl⟩
 go_wp2_with fail
 refine(TH (Pure.head d b a) D p A f g n i U m K C X).mono ?_
 rintro e w3 ⟨rfl,k,l⟩
 have V:=CF.before j l
 clear t m l q
 go_wp2_with fail
 refine(uz w3.1.size 8 [] a 8 0 _ (gU.new w3 _ _ 8 rfl O) rfl G Z).mono ?_
 rintro e w4 ⟨rfl,u,v⟩
 have J:=Je (cx w3 _ none) v (cy _)
 have B:=k.grown J
 obtain⟨t,y⟩:=f'.buf u
 have r:=k.K8
 have m:=I (λ(q:Pl) (hq:p=some q)=>(Nat.ne_of_lt (r q hq)).symm)
 have l:=I (show(A++Pure.veil (Pure.head d b a) f).length+8<=1000000 from by have:=C.o;rw[cD]at this⊢;rw[Pure.eD];omega)
 clear u v r k
 go_wp2_with fail
 refine(Di _ p A (Pure.veil (Pure.head d b a) f) (Pure.be a 8) g _ w3.1.size 0 8 8 w4 B K rfl (I (Pure.bQ _ _)) G t (by simpa using y) m.o l.o).mono ?_
 rintro e w5 ⟨v5,rfl,R⟩
 have r:=R
 obtain⟨p5,k,v⟩:=r
 have u:=I v
 have q:=I (show(A++Pure.be a 8++Pure.veil (Pure.head d b a) f).length<=1000000 from by have:=l.o;simp only[cD]at this⊢;rw[Pure.bQ];omega)
 clear B t y v R m
 go_wp2_with fail
 refine(yX v5 p5 _ (Pure.fG (Pure.head d b a) f) 8 w5 k G q).mono ?_
 rintro e v ⟨t,rfl,m⟩
 have R:=(aU.comp u m Z).from (V.grown J)
 clear m k u V J
 go_wp2
 go_ret
 exact⟨t,rfl,by grind [Pure.dY]⟩
theorem gU.vB{w:World}{g a:Nat}{b:Array Value}{e:TypeId}{d:E}(h:w.1[g]?=some (.cells b e (0,0)))(m:b.size=a)(k:a<=Go.maxLen)(i:d.length<=a)(l:w.rangeAt g 0 (d.map U8)):gU w g a d:=by
 refine⟨b,e,h,m,k,i,?_⟩;apply List.ext_getElem?;intro j;by_cases f:j<d.length
 .have n:=l j (U8 d[j]) (by simp[f]);grind [cell_of_row]
 grind
theorem Xa(h)(b)(n)(d)(a)(w)(i:b.length=n)(g:n<=140737488355328)(f:At w d b):Calls prog 79 #[H (h.toNat:Int),.slice d n a] w λe j=>e=.returned (H ((Pure.fG h b).toNat:Int))/\w=j:=by
 subst i
 exact uy h b d a w g f
theorem Pp(h)(b)(n)(d)(a)(w)(i:b.length=n)(g:n<=140737488355328)(f:At w d b):Calls prog 125 #[H (h.toNat:Int),.slice d n a] w λe j=>e=.returned (H ((Pure.joinL h b).toNat:Int))/\w=j:=by
 subst i
 exact K7 h b d a w g f
theorem Xb(h)(b)(n)(d)(a)(w)(nq)(j:Hid (b.length=n))(i:n<=140737488355328)(g:At w d b):Calls prog 79 #[H (h.toNat:Int),.slice d n a] (w.drewN nq) λe f=>e=.returned (H ((Pure.fG h b).toNat:Int))/\∃m,f=w.drewN m:=
 (Xa h b n d a _ j i (g.drewN nq)).mono fA
theorem PB(h)(b)(n)(d)(a)(w)(nq)(j:Hid (b.length=n))(i:n<=140737488355328)(g:At w d b):Calls prog 125 #[H (h.toNat:Int),.slice d n a] (w.drewN nq) λe f=>e=.returned (H ((Pure.joinL h b).toNat:Int))/\∃m,f=w.drewN m:=
 (Pp h b n d a _ j i (g.drewN nq)).mono fA
theorem f'.empty{w:World}{e:Option Addr}{n a:Nat}{p:Option Pl}{f:E}(h:f' w (.slice e n a) p f):f' w (.slice e 0 a) p []:=by
 rcases h with⟨b,d,_⟩|⟨q,b,d,l,g,i,_⟩
 .injection d with e1 e2 e3;subst e1 e3;exact .inl ⟨b,rfl,rfl⟩
 .injection d with e1 e2 e3;subst e1 e3;exact .inr ⟨q,b,rfl,cS _,g,i,λj u k=>by simp at k⟩
theorem Pq(head)(k)(p)(j)(n a)(w)(v:f' w (.slice k n a) p j)(u:Hid (j.length=n))(A:n<=900000):Calls prog 122 #[.slice k n a,H (head.toNat:Int)] w λe f=>e=.returned (.tuple #[])/\f' f (.slice k n a) p (Pure.veil head j)/\CF w f (Pl.has p):=by
 rcases v with⟨i,d,h⟩|⟨q,i,d,m,r,l,t⟩
 .injection d with e1 e2 e3;subst e1 e2 e3 h;refine(Hf _ _ head w).mono ?_;rintro e f ⟨rfl,g⟩;exact⟨rfl,.inl ⟨i,rfl,rfl⟩,CF.bF g _⟩
 .injection d with e1 e2 e3;subst e1 e3;refine(Sd q.g q.off q.cap n head j w (l.mono G) u G t).mono ?_;rintro e f ⟨rfl,x,y⟩;have g:CF w f (Pl.has p):=y.mono (λb o _ e=>⟨q,i,e.1,e.2.1,by have:=e.2.2;omega⟩);exact⟨rfl,.inr ⟨q,i,by rw[Pure.eD,<-e2],by rw[Pure.eD];exact m,r,l.cf g,x⟩,g⟩
theorem tB(h:p:=by
 go_ret2
 exact⟨rfl,rfl⟩):p:=h
theorem TI(i)(d x)(g)(n a)(w)(j:o0 x=true)(b:n<16\/216<n):Calls prog 84 #[i,H d,Y x,.slice g n a] w λe f=>e=.returned (.tuple #[σ,Y 3])/\w=f:=by
 rcases b with b|b
 .go_in;go_wp2_with (go_at_call 80;refine(Ak _ _).mono ?_;rintro e f ⟨rfl,rfl⟩)
  exact tB
 .have h:¬ n<16:=G;go_in;go_wp2_with (go_at_call 80;refine(Ak _ _).mono ?_;rintro e f ⟨rfl,rfl⟩)
  exact tB
theorem Xc(rv)(p)(rb)(d a)(x)(u)(f)(L g)(w)(l:f' w rv p rb)(hx:o0 x=true)(hu:Hid (x=a.toNat))(n:Hid (f.length=L))(an:16<=L)(al:L<=216)(i:L<=g)(hz:At w u f)(h:∀b e,u=some ⟨b,e,none⟩->∀j,j<f.length->¬ Pl.has p b (e+j)):Calls prog 84 #[rv,H (d.toNat:Int),Y x,.slice u L g] w λe U=>
   (Pure.opens d a f=true->∃b,e=.returned (.tuple #[b,Y 0])/\aU w U b p (Pure.eO d a f))/\
   (Pure.opens d a f=false->e=.returned (.tuple #[σ,Y 3])/\CF w U (Pl.has p)):=by
 obtain⟨S,C,aj,b,ak⟩:=info_parts Tryz.info5
 obtain⟨ra,m,J,ae,ar,_,_⟩:=l.open (I rfl)
 have j:f' w (.slice ra 0 m) p []:=by grind [f'.empty]
 obtain⟨rn,k⟩:=N rb.length
 rw[k]at J ae
 subst J
 clear k l
 have hv:a.toNat<9223372036854775808:=by grind [Hid.o,o0]
 have ay:¬ L<16:=G
 have af:=Ly (P:=prog) 37 5 S underlying37 C b ra rn m 0 (cS _)
 obtain⟨a1,k,l⟩:=yV (P:=prog) 37 5 S underlying37 C b u L g n i 8 (8:Int) rfl G
 obtain⟨a2,ag,q⟩:=Dj (P:=prog) 37 5 S underlying37 C b u L g n i 8 (L-8) (8:Int) ((L:Int)-8) rfl G G G
 obtain⟨a3,ah,mM⟩:=kZ (P:=prog) 37 5 S underlying37 C b u L g n i (L-8) ((L:Int)-8) G G
 rw[show L-(L-8)=8 from by omega]at ah
 have W:=I h
 clear h
 go_in
 go_wp2_with (go_at_call 80;refine(Ak _ _).mono ?_;rintro e U ⟨rfl,rfl⟩)
 refine(Pp 0 (f.take 8) 8 _ _ _ kA G (l _ hz)).mono ?_
 rintro e U ⟨rfl,rfl⟩
 go_wp2_with fail
 refine(yU d a (Pure.je f) x _ hu hv).mono ?_
 rintro e w1 ⟨rfl,r⟩
 have M:=hz.below r
 have X:=j.grown r
 clear k l j
 go_wp2_with fail
 have j:((f.drop 8).take (L-8-8)).length=L-8-8:=by have h:=n.o;simp;omega
 have l:=I j
 have k:=sN (P:=prog) (w:=w1.drew) underlying37 a2 (L-8-8) (g-8) ((f.drop 8).take (L-8-8)) j (q _ M)
 have v:=I (show([]:E).length+((f.drop 8).take (L-8-8)).length<=140737488355328 from by rw[j];simp;omega)
 clear j q
 go_region_law (first|(refine BP rfl _ _ 37 37 rfl 5 S underlying37 C aj b ak (.slice ra 0 m) (.slice a2 (L-8-8) (g-8)) p [] ((f.drop 8).take (L-8-8)) ?s1 ?s2 X.drew _ k v ?_;(case s1=>first|rfl|simp[Act.eval,Act.put]);(case s2=>first|rfl|simp[Act.eval,Act.put]);intro v2 w2 R2))
 all_goals
  rw[List.nil_append]at R2
  obtain⟨T,t,j⟩:=R2
  obtain⟨va,vc,ai,au,av,_,_⟩:=t.open l
  subst ai
  have yO:=I (show CF w1 w2 (Pl.has p)/\(T=p\/Pl.fresh w1.1.size T)/\∀q,p=some q->((f.drop 8).take (L-8-8)).length<=q.cap->T=p from⟨j.1.dM,j.2⟩)
  clear j k af ag v
  go_wp2_with fail
  refine(Pq (Pure.head d a (Pure.je f)) va T _ _ vc w2 t l G).mono ?_
  rintro e w3 ⟨rfl,j,B⟩
  have D:Pure.eO d a f=Pure.veil (Pure.head d a (Pure.je f)) ((f.drop 8).take (L-8-8)):=by unfold Pure.eO;rw[n,show L-16=L-8-8 from by omega]
  rw[<-D]at j
  have R3:=aU.comp yO ⟨T,j,B,.inl rfl,λ_ _ _=>rfl⟩ (by grind [Pure.eD])
  have R:=I (R3.before r)
  have hF:=R.cf
  have Q:=hz.cf hF W.o
  have A:=mM _ Q
  have ab:Hid ((f.drop (L-8)).length=8):=by have h:=n.o;show _=_;simp;omega
  have q:Hid ((Pure.eO d a f).length=L-8-8):=by grind [Pure.kY,Hid.o]
  obtain⟨_,_,K,_,_,y⟩:=j.shape
  rw[q]at K
  injection K with e1 e2 e3
  subst e1
  clear e2 e3
  have V:=y.1
  have ad:L-8-8<=140737488355328:=G
  have h8:8<=140737488355328:=G
  clear D t yO B R3 Q mM y j l
  cases j:Pure.opens d a f
  all_goals
   have y:=Pure.TD d a f L n _ j
   have t:=I j
   clear j
   go_wp2_with fail
   go_quiet (first|(go_at_call 79;exact Xb (Pure.head d a (Pure.je f)) (Pure.eO d a f) (L-8-8) _ _ w3 _ q ad V)|(go_at_call 125;refine PB 0 (f.drop (L-8)) 8 _ _ w3 _ ab h8 A))
   go_wp2
   go_ret2
   first
    |exact⟨λh=>absurd (t.o.symm.trans h) O,λ_=>⟨rfl,hF.drewN _⟩⟩
    |exact⟨λ_=>⟨_,rfl,R.drewN _⟩,λh=>absurd (t.o.symm.trans h) O⟩
theorem Xd{b o:Nat}:¬ Pl.has none b o:=by rintro⟨q,a,_⟩;cases a
theorem aU.nil{w b:World}{v:Value}{d:E}(h:aU w b v none d):∃p,f' b v p d/\Pl.fresh w.1.size p/\w.grownBy b none:=by
 obtain⟨p,e,f,a,_⟩:=h;refine⟨p,e,?_,f.gb (λ_ _ _=>Xd)⟩;rcases a with a|a
 .rw[a];intro q g;cases g
 .exact a
theorem oS(h:p:=by rw[fj];omega):p:=h
theorem tl(h:p:=by rw[hm];exact hlt):p:=h
theorem Hl(a)(n)(f)(d)(w)(h:Hid (a.length=n))(l:n<=140737488355328)(hc:At w f a):Calls prog 18 #[.slice f n d] w λe b=>e=.returned (H ((Pure.fG 0 a).toNat:Int))/\w=b:=by
 obtain rfl:=h.o
 go_in
 go_wp2
 go_loop [3,4] (λb i=>∃k:Nat,k<=a.length/\i = Y k/\b = H ((Pure.fG 0 (a.take k)).toNat:Int)) (λ_ i=>a.length-(intOf i).toNat)
 case atStart=>exact⟨0,cS _,rfl,rfl⟩
 case round=>
  obtain⟨k,j,rfl,rfl⟩:=hrel;by_cases e:k<a.length
  .obtain⟨b,i,rfl,g⟩:=hc k e;clear hc;go_wp2;go_round
   case rel=>exact⟨k+1,by omega,by go_num,(by grind [Jg,Pure.Da,lL])⟩
   case measure=>simp[intOf];omega
  .exact vu
theorem vD(a)(n)(f)(d)(w)(h:Hid (a.length=n))(l:n<=140737488355328)(hc:At w f a):Calls prog 85 #[.slice f n d] w λe b=>e=.returned (H ((Pure.joinL 0 a).toNat:Int))/\w=b:=by
 obtain rfl:=h.o
 go_in
 go_wp2
 go_loop [3,4] (λb i=>∃k:Nat,k<=a.length/\i = Y k/\b = H ((Pure.joinL 0 (a.take k)).toNat:Int)) (λ_ i=>a.length-(intOf i).toNat)
 case atStart=>exact⟨0,cS _,rfl,rfl⟩
 case round=>
  obtain⟨k,j,rfl,rfl⟩:=hrel;by_cases e:k<a.length
  .obtain⟨b,i,rfl,g⟩:=hc k e;clear hc;go_wp2;go_round
   case rel=>exact⟨k+1,by omega,by go_num,(by grind [Pure.uw,lL,Pm])⟩
   case measure=>simp[intOf];omega
  .exact vu
theorem KB(h:p:=by
 go_wp2
 go_loopw [3,4] (λo i wr=>∃k:Nat,k<=8/\i = Y ((7:Int)-k)/\wr.ownsRow w.1.size 5 1 o k ((Pure.pI v 8 k).map U8)/\w.grownBy wr none) (λ_ i _=>(intOf i+1).toNat)
 case atStart=>exact⟨0,by omega,rfl,World.ownsRow_nil _ _ _ _,cC _ _⟩
 case round=>
  obtain⟨k,hk,rfl,hown,hgr⟩:=hrel
  have hsz:=hgr.size
  by_cases hlt:k<8
  .go_wp2_with (at_builtin;refine wpList_append_own _ rfl _ _ 37 rfl w.1.size 5 i0 (.int .u8 0) 1 1 underlying37 hi hz0 hz1 hz2 rfl O _ _ _ rfl (hown.alloc _) ⟨wr.1.size,0,none⟩ 1 1 ([Pure.dW v (7-k)].map U8) rfl rfl ?c1 ?c2 ?c3 ?c4 ?c5 ?_)
   case c1=>exact yT _ _ _ _
   case c2=>exact oW _
   case c3=>unfold maxLen;omega
   case c4=>omega
   case c5=>simp;omega
   .intro v' w1 hown' hg1 _
    have R:w1.ownsRow w.1.size 5 1 v' (k+1) ((Pure.pI v 8 (k+1)).map U8)/\w.grownBy w1 none:=⟨by grind [Pure.mU],gD (aM hgr _) hg1 (λi hi=>(hown.lt i hi).1)⟩
    clear hown hown' hg1 hgr
    go_wp2
    go_roundw
    case rel=>grind
    case measure=>simp[intOf];omega
  .have hk8:k=8:=G
   subst hk8
   go_wp2
   go_ret
   exact⟨_,rfl,hown,hgr⟩):p:=h
theorem nZ(v)(w):Calls prog 82 #[H (v.toNat:Int)] w λe a=>∃o,e=.returned o/\a.ownsRow w.1.size 5 1 o 8 ((Pure.be v 8).map U8)/\w.grownBy a none:=by
 obtain⟨i0,hi,hz0,hz1,hz2⟩:=info_parts Tryz.info5
 go_in
 exact KB
theorem Al(a f)(n m)(q r)(A B)(w)(J:Hid (a.length=n))(D:Hid (f.length=m))(Q:n<=140737488355328)(l:At w q a)(o:At w r f):Calls prog 86 #[.slice q n A,.slice r m B] w λe b=>e=.returned (.bool (a==f))/\w.grownBy b none:=by
 obtain rfl:=J.o
 obtain rfl:=D.o
 by_cases d:a.length=f.length
 .have u:=I d;have p:((a.length:Int) != (f.length:Int))=false:=by rw[d];simp
  clear d;go_in;go_wp2;go_loopw [5] (λi wr=>∃k:Nat,k<=a.length/\i = Y k/\a.take k=f.take k/\w.grownBy wr none) (λi _=>a.length-(intOf i).toNat)
  case atStart=>grind [cC]
  case round=>
   obtain⟨k,P,rfl,b,e⟩:=hrel;have v:=I b;clear b;by_cases i:k<a.length
   .have g:k<f.length:=(by rw[<-u];exact i);obtain⟨b,L,rfl,C⟩:=(l.below e) k i;obtain⟨M,x,rfl,y⟩:=(o.below e) k g;clear l o;by_cases j:a[k]=f[k]
    .have K:(((a[k]).toNat:Int) != ((f[k]).toNat:Int))=false:=(by rw[j];simp);have h:=I j;clear j;go_wp2_with fail;go_quiet (fail)
     go_wp2;go_roundw
     case rel=>exact⟨k+1,by omega,by go_num,by rw[lL i,lL g,v.o,h.o],aR e _⟩
     case measure=>simp[intOf];omega
    .have K:(((a[k]).toNat:Int) != ((f[k]).toNat:Int))=true:=by
      rw[fj];intro h;exact j (UInt8.toNat_inj.1 G)
     have t:(a==f)=false:=by
      grind
     clear j;go_wp2_with fail;go_quiet (fail)
     go_wp2;go_ret;exact⟨by rw[t];rfl,aR e _⟩
   .have h:(a==f)=true:=by
     grind [Hid.o]
    clear l o;go_wp2;go_ret;exact⟨by rw[h];rfl,e⟩
 .have p:((a.length:Int) != (f.length:Int))=true:=oS;have t:(a==f)=false:=fA;clear d;go_in;go_wp2;go_ret;exact⟨rfl,cC _ _⟩
def qE(w:World)(b:Nat)(l:List (Option Addr×Nat×E)):Prop:=
 ∀j,(hj:j<l.length)->w.cell? (F b j)=some (.slice (l[j]).1 (l[j]).2.2.length (l[j]).2.1)/\At w (l[j]).1 (l[j]).2.2/\((l[j]).1=none->(l[j]).2.1=0)
def cat(l:List (Option Addr×Nat×E)):E:=(l.map λx=>x.2.2).flatten
theorem Lc(l:List (Option Addr×Nat×E))(k)(h:k<l.length):cat (l.take (k+1))=cat (l.take k)++(l[k]).2.2:=by
 unfold cat;rw[dy h,ef,List.flatten_append];grind
theorem PA(l)(k):(cat (l.take k)).length<=(cat l).length:=by
 conv=>rhs;rw[<-eN k l]
 grind [cat]
theorem qE.grown{w a:World}{b:Nat}{l:List (Option Addr×Nat×E)}(h:qE w b l)(k:w.grownBy a none):qE a b l:=by
 intro j d;obtain⟨e,f,g⟩:=h j d;grind [World.grownBy.cell,At.below]
theorem Ps(b j m)(l)(w)(hm:Hid (l.length=m))(J:m<=140737488355328)(D:(cat l).length<=140737488355328)(n:qE w b l):Calls prog 83 #[ς b 0 m j] w λe a=>∃o,e=.returned o/\a.ownsRow w.1.size 5 1 o (cat l).length ((cat l).map U8)/\w.grownBy a none:=by
 obtain⟨A,p,r,t,u⟩:=info_parts Tryz.info5
 go_in
 go_wp2
 go_loopw [3,4] (λo i wr=>∃k:Nat,k<=m/\i = Y k/\wr.ownsRow w.1.size 5 1 o (cat (l.take k)).length ((cat (l.take k)).map U8)/\w.grownBy wr none) (λ_ i _=>m-(intOf i).toNat)
 case atStart=>exact⟨0,by omega,rfl,World.ownsRow_nil _ _ _ _,cC _ _⟩
 case round=>
  obtain⟨k,C,rfl,a,d⟩:=hrel;have q:=d.size;by_cases hlt:k<m
  .have e:k<l.length:=tl;obtain⟨y,g,i⟩:=(n.grown d) k e;have f:=PA l (k+1);rw[Lc l k e,cD]at f;have h:(cat (l.take k)).length+((l[k]).2.2).length<=140737488355328:=G;have v:=I i;clear i f n;go_wp2_with (at_builtin;refine bW _ rfl _ _ 37 rfl w.1.size 5 A underlying37 p r t u _ _ _ rfl a _ _ _ ((l[k]).2.2) rfl rfl v g h q ?_)
   intro B x f i _;have R:x.ownsRow w.1.size 5 1 B (cat (l.take (k+1))).length ((cat (l.take (k+1))).map U8)/\w.grownBy x none:=⟨by grind [Lc],(by grind [World.ownsRow.lt,gD])⟩
   clear a f i d g h v y;exact te
  .have f:k=m:=G;subst f;clear n;have e:wr.ownsRow w.1.size 5 1 u3 (cat l).length ((cat l).map U8):=by
    grind [Hid.o]
   clear a;go_wp2;go_ret;exact⟨_,rfl,e,d⟩
theorem Ld(b a m)(l)(J)(w)(i:Hid (l.length=m))(f:Hid (cat l=J))(j:m<=140737488355328)(h:J.length<=140737488355328)(g:qE w b l):Calls prog 83 #[ς b 0 m a] w λe d=>∃o,e=.returned o/\d.ownsRow w.1.size 5 1 o J.length (J.map U8)/\w.grownBy d none:=by
 obtain rfl:=f.o
 exact Ps b a m l w i j h g
theorem mL(h:p:=by grind [cx]):p:=h
theorem qC(h:p:=by intro h;cases h):p:=h
theorem tt(h:p:=by grind [World.ownsRow.kept]):p:=h
theorem Pu(u):Pure.be u 2=[Pure.dW u 1,Pure.dW u 0]:=rfl
theorem Xe(w)(e)(a b d f)(h i k l r t u v)(m n p q)(C:At w a m)(D:At w b n)(J:At w d p)(K:At w f q)(L:Hid (a=none->h=0))(M:Hid (b=none->i=0))(P:Hid (d=none->k=0))(Q:Hid (f=none->l=0))(x:m.length=r)(y:n.length=t)(A:p.length=u)(B:q.length=v):
  qE (w.alloc (.cells #[.slice a r h,.slice b t i,.slice d u k,.slice f v l] e)) w.1.size [(a,h,m),(b,i,n),(d,k,p),(f,l,q)]:=by
 subst x y A B
 have g:∀o,w.grownBy (w.alloc o) none:=mL
 intro j o
 match j,o with
 |0,_=>exact⟨by grind [World.cell?_alloc_at],C.below (g _),L⟩
 |1,_=>exact⟨by grind [World.cell?_alloc_at],D.below (g _),M⟩
 |2,_=>exact⟨by grind [World.cell?_alloc_at],J.below (g _),P⟩
 |3,_=>exact⟨by grind [World.cell?_alloc_at],K.below (g _),Q⟩
theorem Ho(b d a)(l):Pure.fG 0 (cat [(none,0,Pure.be b 8),(none,0,Pure.be d 1),(none,0,Pure.be a 8),(none,0,l)])=Pure.fG (Pure.head b d a) l:=by
 simp only[cat,eE,fy,eI,List.flatten_nil,fS];grind [Pure.uu,Pure.Db,Pure.head]
theorem TJ {P:Program} {j:Array Oper} {o:Oper} {a:Act} {w:World} {K:Act->World->Prop} {Q:Exit->Act->World->Prop} {E:Prop}
  (m:o.guard=none) (f) (k) (l) (i:o.op=Op.call {callee:=Callee.value (Operand.func f),args:=k,argTypes:=l})
  (g) (t:P.funcs[f]?=some g) (d:(g.name == "runtime.NumGoroutine")=false) (b:g.body.isNone=false) (n) (x:#[]++k.map a.eval++#[]=n) {R:Ending->World->Prop} (r:Calls P f n w R)
  (A:∀e h,R e h->∃v,e=.returned v/\K (a.put o.dst v) h) :
  if Region.wanted o (yielded j a.tmps)=true then Oper.wp P o a w K Q else E:=by
 have hw:Region.wanted o (yielded j a.tmps)=true:=by simp[Region.wanted,m]
 rw[dT hw]
 have v:execOp a.eval o=callFunc f (#[]++k.map a.eval++#[]):=by
  obtain⟨q,B,p,y,e,h⟩:=o;simp only at i m;subst i m;rfl
 have u:(callFunc f (#[]++k.map a.eval++#[])).run P w=.ok (.enter f n) w:=by
  rw[x];have e:¬ g.name = "runtime.NumGoroutine":=by simpa using d
  have p:¬ g.body=none:=by intro h;simp[h]at b
  simp[callFunc,t,e,p]
 unfold Oper.wp
 rw[v,u,Oper.upon_enter]
 refine r.mono ?_
 grind
theorem Pr{w:World}{f:Nat}{e:TypeId}{v:Value}{h:UInt64}(g:w.ownsRow f e 1 v 8 ((Pure.be h 8).map U8)):
  ∃b a d,v = ς b a 8 d/\w.c b a=some (.int .u8 ((Pure.dW h 7).toNat:Int)):=by
 obtain⟨m,d,l,_,_,_,i⟩:=iZ g
 obtain⟨b,a,j,k⟩:=i 0 (by rw[Pure.bQ];omega)
 subst j
 exact⟨b,a,d,l,k⟩
theorem Le(x y:UInt8):bits .xor .u8 (x.toNat:Int) (y.toNat:Int)=((x ^^^ y).toNat:Int):=by
 rw[u8_xor_nat _ _ x.toNat_lt y.toNat_lt,UInt8.toNat_xor]
theorem Nx:(f82.name == "runtime.NumGoroutine")=false:=by kernel_rfl
theorem No:f82.body.isNone=false:=by kernel_rfl
theorem Xf(n:Nat):IntKind.u8.wrap ((n:Int) / 256)=(((UInt8.ofNat (n / 256)).toNat:Nat):Int):=by
 have h:(UInt8.ofNat (n / 256)).toNat=n / 256 % 256:=by rw[eo]
 rw[h];show((n:Int) / 256) % 256=_;omega
theorem DE(h:p:=by
 have h:=hu.o
 have e:(Pure.dW use 0).toNat=use.toNat % 256:=by simp[Pure.dW]
 rw[e];omega):p:=h
theorem Hq(b use a)(x)(p)(n)(ao)(t)(w)(hx:1<=x/\x<=5)(hu:Hid (x=use.toNat))(hn:Hid (p.length=n))(hl:n<=8388608)(ag:ao=none->t=0)(hz:At w ao p):Calls prog 45 #[H (b.toNat:Int),Y x,H (a.toNat:Int),.slice ao n t] w λe w'=>
   ∃o,e=.returned o/\w'.ownsRow w.1.size 5 1 o (n+16) ((Pure.dY b use a p).map U8)/\w.grownBy w' none:=by
 obtain⟨i0,af,ai,al,an⟩:=info_parts Tryz.info5
 obtain⟨bu,bx⟩:=hx
 go_in
 go_wp2_with fail
 refine(nZ a _).mono ?_
 rintro e w1 ⟨o1,rfl,f,g⟩
 go_wp2_with fail
 refine(nZ b _).mono ?_
 rintro e w2 ⟨o2,rfl,d,i⟩
 obtain⟨ak,U,K,_,_,bb,au⟩:=iZ d
 subst K
 obtain⟨l,j,av,bl⟩:=au.addr (by rw[Pure.bQ];omega)
 subst av
 have bm:Hid (o1.ownBlock≠some l):=by
  intro h;have h1:=(f.lt l h).2;have h2:=(d.lt l rfl).1;omega
 have kQ:w2.ownsRow w.1.size 5 1 o1 8 ((Pure.be a 8).map U8):=tt
 have G2:=aa g i
 clear f d g i
 go_wp2
 go_loopw [9,11,12] (λo i _ wr=>∃k:Nat,k<=n/\i = Y k/\wr.ownsRow w.1.size 5 1 o (8+k) ((Pure.be a 8++Pure.veil (Pure.head b use a) (p.take k)).map U8)/\At wr (some ⟨l,j,none⟩) (Pure.be b 8)/\w.grownBy wr none/\Hid (o.ownBlock≠some l)/\l<wr.1.size) (λ_ i _ _=>n-(intOf i).toNat)
 case atStart=>grind [Pure.veil]
 case round=>
  obtain⟨k,hk,rfl,A,v,y,ay,bs⟩:=hrel;by_cases hlt:k<n
  .have eU:x=((Pure.dW use 0).toNat:Int):=by
    exact DE
   have HU:=I eU;clear eU;go_wp2_with fail;refine(nZ a _).mono ?_;rintro e w3 ⟨o3,rfl,f,d⟩;obtain⟨M,P,K,_,_,ae,B⟩:=iZ f;subst K;clear f;have D:At w3 (some ⟨wr.1.size,0,none⟩) (Pure.be use 1):=(fw wr _ #[.int .u8 x] _ (by rw[HU];rfl)).below d;have C:=(v.below (cx wr _ none)).below d;have q:wr.1.size<w3.1.size:=(by have:=d.size;simp at this;omega);obtain⟨J,HJ⟩:∃J,Hid (cat [(some ⟨l,j,none⟩,U,Pure.be b 8),(some ⟨wr.1.size,0,none⟩,1,Pure.be use 1),(M,P,Pure.be a 8),(some ⟨w3.1.size,0,none⟩,2,Pure.be (UInt64.ofNat k) 2)]=J):=⟨_,rfl⟩
   have ar:Hid (J.length=19):=(by show _=_;rw[<-HJ];simp[cat,Pure.bQ]);have T:Hid (Pure.fG 0 J=Pure.fG (Pure.head b use a) (Pure.be (UInt64.ofNat k) 2)):=(by show _=_;rw[<-HJ];exact Ho b use a _);have u:J.length<=140737488355328:=(by rw[ar];omega);have m:#[Value.int IntKind.u8 (((UInt8.ofNat (k / 256)).toNat:Nat):Int),Value.int IntKind.u8 ((k:Int) % 256)].toList=(Pure.be (UInt64.ofNat k) 2).map U8:=by
    have g:=Pure.mV k G;have L:(Pure.dW (UInt64.ofNat k) 1).toNat=k / 256 % 256:=(by simp[Pure.dW,g]);have r:(Pure.dW (UInt64.ofNat k) 0).toNat=k % 256:=(by simp[Pure.dW,g]);rw[Pu];simp only[eE,fy,U8,L,r];rw[show(UInt8.ofNat (k / 256)).toNat=k / 256 % 256 from by rw[eo],show((k:Int) % 256)=((k % 256:Nat):Int) from by omega]
   have hI:qE ((w3.alloc (Obj.cells #[Value.int IntKind.u8 (((UInt8.ofNat (k / 256)).toNat:Nat):Int),Value.int IntKind.u8 ((k:Int) % 256)] 5)).alloc (Obj.cells #[Value.slice (some ⟨l,j,none⟩) 8 U,Value.slice (some ⟨wr.1.size,0,none⟩) 1 1,Value.slice M 8 P,Value.slice (some ⟨w3.1.size,0,none⟩) 2 2] 37)) (w3.1.size+1) [(some ⟨l,j,none⟩,U,Pure.be b 8),(some ⟨wr.1.size,0,none⟩,1,Pure.be use 1),(M,P,Pure.be a 8),(some ⟨w3.1.size,0,none⟩,2,Pure.be (UInt64.ofNat k) 2)]:=by
    have g:=cx w3 (Obj.cells #[Value.int IntKind.u8 (((UInt8.ofNat (k / 256)).toNat:Nat):Int),Value.int IntKind.u8 ((k:Int) % 256)] 5) none;have h:=Xe (w3.alloc (Obj.cells #[Value.int IntKind.u8 (((UInt8.ofNat (k / 256)).toNat:Nat):Int),Value.int IntKind.u8 ((k:Int) % 256)] 5)) 37 (some ⟨l,j,none⟩) (some ⟨wr.1.size,0,none⟩) M (some ⟨w3.1.size,0,none⟩) U 1 P 2 8 1 8 2 _ _ _ _ (C.below g) (D.below g) (B.below g) (fw w3 _ _ _ m) bb qC ae qC (Pure.bQ _ _) (Pure.bQ _ _) (Pure.bQ _ _) (Pure.bQ _ _);rw[cF]at h;exact h
   clear m;have q:=Xf k;go_wp2_with fail;refine(Ld (w3.1.size+1) 4 4 _ J _ (by show List.length _=4;rfl) HJ G u hI).mono ?_;rintro e w4 ⟨o4,rfl,iV,m⟩;obtain⟨aj,cj,K,_,_,_,Xg⟩:=iZ iV;subst K;have L:=aa (aM (aM (aa (aM y _) d) _) _) m;have bp:l<w4.1.size:=(by have h1:=d.size;have h2:=m.size;simp at h1 h2;omega);have K4:=aa (aM (aM (aa (cx wr _ _) d) _) _) m;have r:=A.kept K4 (by cases h:u9.ownBlock<;>simp);have ab:=v.below K4;clear iV hI B D C A v y d m q;go_wp2_with fail;refine(Hl J J.length _ _ _ (I rfl) u Xg).mono ?_;rintro e w' ⟨rfl,rfl⟩;rw[T];have bf:k<p.length:=mT;obtain⟨bz,oz,rfl,W⟩:=(hz.below L) k bf;have bt:=World.block_lt_of_cell? w4 _ W;go_wp2_with fail;have V:8+k+1<=140737488355328:=G;have bo:=L.size;go_region_law (first|(refine TJ rfl 82 _ _ rfl f82 func82 Nx No #[H ((Pure.fG (Pure.head b use a) (Pure.be (UInt64.ofNat k) 2)).toNat:Int)] (by first|rfl|simp[Act.eval,Act.put]) (nZ _ _) ?_;rintro e w5 ⟨o5,rfl,g,nV⟩;refine⟨_,rfl,?_⟩;obtain⟨b5,bq,c5,X,KR⟩:=Pr g;subst X;have ba:=nV.cell W Z;have K5:=jg nV;have rZ:w5.ownsRow w.1.size 5 1 u9 (8+k) ((Pure.be a 8++Pure.veil (Pure.head b use a) (p.take k)).map U8):=tt;have S:=K5.size)|(refine Dg rfl _ _ 37 rfl w.1.size 5 i0 underlying37 af ai al an u9 (8+k) _ ?s1 (rZ.alloc _) (some ⟨w5.1.size,0,none⟩) 1 1 [p[k] ^^^ Pure.mask (Pure.head b use a) k] ?s2 rfl ?s3 ?s4 V ?s5 ?_;(case s1=>first|rfl|simp[Act.eval,Act.put]);(case s2=>first|rfl|simp[Act.eval,Act.put]);(case s3=>intro h;cases h);(case s4=>exact fw w5 _ _ _ (by rw[Le];rfl));(case s5=>simp;omega);intro v' w6 Bi q Q))
   all_goals
    have R:w6.ownsRow w.1.size 5 1 v' (8+(k+1)) ((Pure.be a 8++Pure.veil (Pure.head b use a) (p.take (k+1))).map U8)/\At w6 (some ⟨l,j,none⟩) (Pure.be b 8)/\w.grownBy w6 none/\Hid (v'.ownBlock≠some l)/\l<w6.1.size:=by
     refine⟨?_,?_,?_,?_,?_⟩
     .grind [Pure.Ha]
     .exact((ab.below K5).below (cx _ _ _)).grown q kA
     .exact gD (aM (aa L K5) _) q (λi hi=>(rZ.lt i hi).1)
     .intro h;rcases Q.o with h1|h1
      .exact ay (h1▸h)
      .rw[h1]at h;simp at h;omega
     .have:=q.size;simp at this;omega
    clear Bi q Q rZ ba KR g nV K5 r ab W L K4 Xg
    exact te
  .have bc:k=n:=G;subst bc;have eU:x=((Pure.dW use 0).toNat:Int):=by
    exact DE
   have HU:=I eU;clear eU;have Q:wr.ownsRow w.1.size 5 1 u9 (8+k) ((Pure.be a 8++Pure.veil (Pure.head b use a) p).map U8):=by
    grind [Hid.o]
   have W:=hz.below y;clear A;go_wp2_with fail;refine(nZ a _).mono ?_;rintro e w3 ⟨o3,rfl,f,d⟩;obtain⟨M,P,K,_,_,ae,B⟩:=iZ f;subst K;clear f;have D:At w3 (some ⟨wr.1.size,0,none⟩) (Pure.be use 1):=(fw wr _ #[.int .u8 x] _ (by rw[HU];rfl)).below d;have C:=(v.below (cx wr _ none)).below d;have f:=(W.below (cx wr _ none)).below d;obtain⟨J,HJ⟩:∃J,Hid (cat [(some ⟨l,j,none⟩,U,Pure.be b 8),(some ⟨wr.1.size,0,none⟩,1,Pure.be use 1),(M,P,Pure.be a 8),(ao,t,p)]=J):=⟨_,rfl⟩
   have u:J.length<=140737488355328:=by
    grind [Hid.o,Pure.bQ,cat]
   have T:Hid (Pure.fG 0 J=Pure.fG (Pure.head b use a) p):=by show _=_;rw[<-HJ];exact Ho b use a _
   have hI:qE (w3.alloc (Obj.cells #[Value.slice (some ⟨l,j,none⟩) 8 U,Value.slice (some ⟨wr.1.size,0,none⟩) 1 1,Value.slice M 8 P,Value.slice ao k t] 37)) w3.1.size [(some ⟨l,j,none⟩,U,Pure.be b 8),(some ⟨wr.1.size,0,none⟩,1,Pure.be use 1),(M,P,Pure.be a 8),(ao,t,p)]:=
    (by grind [Pure.bQ,Xe,Hid.o])
   have bn:=I ag;clear ag;go_wp2_with fail;refine(Ld w3.1.size 4 4 _ J _ (by show List.length _=4;rfl) HJ G u hI).mono ?_;rintro e w4 ⟨o4,rfl,iV,m⟩;obtain⟨aj,cj,K,_,_,_,Xg⟩:=iZ iV;subst K;have L:=aa (aM (aa (aM y _) d) _) m;have K4:=aa (aM (aa (cx wr _ _) d) _) m;have r:w4.ownsRow w.1.size 5 1 u9 (8+k) ((Pure.be a 8++Pure.veil (Pure.head b use a) p).map U8):=tt;clear iV hI B D C Q v y d m f W K4;go_wp2_with fail;refine(Hl J J.length _ _ _ (I rfl) u Xg).mono ?_;rintro e w' ⟨rfl,rfl⟩;rw[T];clear Xg;go_wp2_with fail;refine(nZ _ _).mono ?_;rintro e w5 ⟨o5,rfl,g,nV⟩;obtain⟨C,c5,X,_,_,d,m⟩:=iZ g;subst X;have rZ:w5.ownsRow w.1.size 5 1 u9 (8+k) ((Pure.be a 8++Pure.veil (Pure.head b use a) p).map U8):=tt;have S:=cE L.size nV.size;have V:8+k+8<=140737488355328:=G;have B:Hid ((Pure.be (Pure.fG (Pure.head b use a) p) 8).length=8):=Pure.bQ _ _;have f:=aa L nV;clear g r nV L;go_wp2_with (at_builtin;refine bW _ rfl _ _ 37 rfl w.1.size 5 i0 underlying37 af ai al an _ _ _ rfl rZ _ _ _ (Pure.be (Pure.fG (Pure.head b use a) p) 8) rfl B d m V S ?_;intro v' w6 Bi q _)
   have R:w6.ownsRow w.1.size 5 1 v' (k+16) ((Pure.dY b use a p).map U8)/\w.grownBy w6 none:=by
    refine⟨?_,gD f q (λi hi=>(rZ.lt i hi).1)⟩;rw[show k+16=8+k+8 from by omega];exact Bi
   clear Bi q rZ m f;go_wp2;go_ret;exact⟨_,rfl,R.1,R.2⟩
theorem vE(d f a)(x)(h)(n)(g)(b)(w)(p:1<=x/\x<=5)(m:Hid (x=f.toNat))(l:Hid (h.length=n))(k:n<=1000)(i:g=none->b=0)(q:At w g h):Calls prog 45 #[H (d.toNat:Int),Y x,H (a.toNat:Int),.slice g n b] w λe j=>
   ∃o,e=.returned o/\j.ownsRow w.1.size 5 1 o (n+16) ((Pure.dY d f a h).map U8)/\w.grownBy j none:=
 Hq d f a x h n g b w p m l (cE k O) i q
theorem yY{P:Program}(t e)(i)(ht:P.underlying t=some (.slice e))(k:P.info? e=some i)(n:i.size=1)(b g f a l h:Nat)(y z)(o:y=(l:Int))(p:z=(h:Int))(r:l<=h)(q:h<=a)(m:l<a)(w):
  (Instr.sliceAt t (ς b g f a) (some (Y y)) (some (Y z)) none).run P w=.ok (ς b (g+l) (h-l) (a-l)) w:=by
 subst o p
 have he:P.elem t=e:=tz
 have d:P.underlying t=some (.slice (P.elem t)):=tn
 have j:a≠l:=G
 rw[run_sliceAt_slice w t _ _ _ _ d,run_slice_lh w t _ f a d .i64 .i64 (l:Int) (h:Int) G G G,he]
 simp[sizeOf,typeInfo,k,n,sliced,j,Addr.add_lit]
theorem Lf(b)(x)(d)(n a)(w)(g:n<16):Calls Tryz.prog 47 #[H b,Y x,.slice d n a] w λe f=>e=.returned (.tuple #[σ,.bool false])/\w=f:=by
 go_enter Tryz.func47,Tryz.ntmps47
 go_wp2
 exact tB
