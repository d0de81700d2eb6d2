import Derived.Test.YtlfifnpjeangmaaGreatDoorGERBoxF
import Derived.Test.YtlfifnpjeangmaaGreatDoorGEBoxC
namespace Go.Proofs.YtlfifnpjeangmaaGreatDoor
set_option maxHeartbeats 4000000
open Proofs.Tryz Go.RowKit
set_option maxRecDepth 100000
variable {p:Prop}
theorem tx(h:p:=by rw[bne_eq_false_iff_eq];omega):p:=h
variable {zs:E}
def zk(tag:UInt8)(zs:E)(e:Ending):Prop:=
 (∀v,tag.toNat=2->Box.num zs=some v->e=.returned (.tuple #[Y v,.bool true]))/\
 ((tag.toNat≠2\/Box.num zs=none)->∃v:Int,-9223372036854775808<=v/\v<=9223372036854775807/\e=.returned (.tuple #[Y v,.bool false]))
theorem Sn{tag:UInt8}(h:tag.toNat≠2\/Box.num zs=none):zk tag zs (.returned (.tuple #[Y 0,.bool false])):=
 ⟨fA,λ_=>⟨0,by decide,by decide,rfl⟩⟩
theorem AF(h:p:=by
 go_in
 go_wp2
 go_ret2
 exact⟨HV,cx w _ none⟩):p:=h
theorem TU(a)(d)(zs)(n)(b)(w)(h:a.toNat≠2):Calls prog 68 #[.agg #[.int .u8 (a.toNat:Int),.slice d n b]] w λe f=>zk a zs e/\w.grownBy f none:=by
 have e:((a.toNat:Int) != 2)=true:=oS
 have HV:=Sn (zs:=zs) (.inl h)
 clear h
 exact AF
theorem PE(tag)(d)(zs)(n)(a)(w)(hn:Hid (zs.length=n))(b:tag.toNat=2)(h:n<1\/8<n):Calls prog 68 #[.agg #[.int .u8 (tag.toNat:Int),.slice d n a]] w λe f=>zk tag zs e/\w.grownBy f none:=by
 have g:((tag.toNat:Int) != 2)=false:=tx
 have HV:=Sn (tag:=tag) (zs:=zs) (.inr xv)
 clear b
 by_cases f:n<1
 .have b:(n:Int)<1:=G;exact AF
 .have b:¬ (n:Int)<1:=G;have e:(8:Int)<(n:Int):=G;exact AF
theorem XE{k:Nat}(b:1<=k)(d:k<=7)(f:k<=zs.length):-36028797018963968<=Box.ja (Box.sign (zs.getD 0 0)) ((zs.drop 1).take (k-1))/\Box.ja (Box.sign (zs.getD 0 0)) ((zs.drop 1).take (k-1))<36028797018963968:=by
 have a:=Box.sj (zs.getD 0 0);have h:=Box.vF (M:=128) ((zs.drop 1).take (k-1)) _ a.1 a.2;have e:((zs.drop 1).take (k-1)).length=k-1:=j';rw[e]at h;have g:(256:Int) ^ (k-1)<=256 ^ 6:=by
  have:(256:Nat) ^ (k-1)<=256 ^ 6:=Nat.pow_le_pow_right O G;grind
 omega
theorem XF{k:Nat}(b:1<=k)(d:k<zs.length):Box.ja (Box.sign (zs.getD 0 0)) ((zs.drop 1).take (k+1-1))=Box.ja (Box.sign (zs.getD 0 0)) ((zs.drop 1).take (k-1))*256+(zs[k].toNat:Int):=by
 have a:k-1<(zs.drop 1).length:=j';rw[show k+1-1=(k-1)+1 from by omega,lL a,Box.Jh,List.getElem_drop];congr 4;omega
theorem TV(d)(b g)(zs)(n)(j)(w)(hn:Hid (zs.length=n))(a:d.toNat=2)(h1:1<=n)(C:n<=8)(R:At w (some ⟨b,g,none⟩) zs):Calls prog 68 #[.agg #[.int .u8 (d.toNat:Int),ς b g n j]] w λe f=>zk d zs e/\w.grownBy f none:=by
 have hb:((d.toNat:Int) != 2)=false:=fA
 have U:=I a
 clear a
 have ab:¬ (n:Int)<1:=G
 have ad:¬ (8:Int)<(n:Int):=G
 have ae:(0:Int)<(n:Int):=G
 have L:w.grownBy (w.alloc (.cells #[.int .u8 (d.toNat:Int),ς b g n j] 117)) none:=cx w _ none
 have p:=R.below L
 have t:=dz.new w #[.int .u8 (d.toNat:Int),ς b g n j] 117
 have m:=Dr p 0 ri
 rw[ft]at m
 have A:=Lx (zs.getD 0 0)
 have y:=Box.sj (zs.getD 0 0)
 generalize f:(zs.getD 0 0)=z0 at m A y
 generalize a:Box.sign z0=s0 at A y
 have HZ:Hid (Box.sign (zs.getD 0 0)=s0):=by show _=_;rw[f,a]
 clear f a
 go_in
 go_wp2_with fail
 go_loop [4,5] (λv i=>∃k:Nat,1<=k/\k<=n/\i = Y k/\∃V:Int,v = Y V/\Hid (V=Box.ja (Box.sign (zs.getD 0 0)) ((zs.drop 1).take (k-1)))) (λ_ i=>n-(intOf i).toNat)
 case atStart=>exact⟨1,by omega,h1,rfl,_,rfl,by grind [Box.ja]⟩
 case round=>
  obtain⟨k,x,hk,rfl,V,rfl,D⟩:=hrel;by_cases hlt:k<n
  .have f:k<zs.length:=mT;have mW:(k:Int)<(n:Int):=G;have i:(0:Int)<=(k:Int):=G;have h:=p.cells k f;have q:=(zs[k]).toNat_lt;have a:=XE x G ri;rw[<-D]at a;go_wp2;go_round
   case rel=>exact⟨k+1,by omega,by omega,by go_num,_,rfl,by show _=_;rw[XF x f,<-D]⟩
   case measure=>simp[intOf];omega
  .have K:k=n:=G;subst K;have r:Hid (V=Box.val zs):=by
    show _=_;rw[D,Box.val,cU kA]
   have a:=Box.uA (l:=zs) sf (by rw[hn];exact C);rw[<-r]at a;have mW:¬ (k:Int)<(k:Int):=G;go_wp2_with fail;refine(ru V _ a.1 a.2).mono ?_;rintro e w1 ⟨o,rfl,f,h⟩;obtain⟨W,c4,rfl,_,_,_,B⟩:=iZ f;have u:=t.grown h Z;have M:=aa L h;have P:=u.cell 1;simp only[cH,cG,cI]at P;clear f h t p m;go_wp2_with fail;refine(tN 2 zs k (some ⟨b,g,none⟩) j _ hn G (I (λh=>by cases h)) (R.below M)).mono ?_;rintro e w2 ⟨o,rfl,f,i⟩;obtain⟨X,c5,rfl,_,_,_,S⟩:=iZ f;have q:=B.below i;have T:=aa M i;have J:(Box.box 2 (Box.low V (Box.size V))).length<=140737488355328:=by
    have:=(jX V).2;rw[Box.lg,Box.mQ];split<;>(try split)<;>omega
   have Q:=Al (Box.box 2 (Box.low V (Box.size V))) (Box.box 2 zs) _ _ W X c4 c5 w2 (I rfl) (I rfl) J q S;clear f i B q S u P;go_wp2_with fail;refine Q.mono ?_;rintro e w3 ⟨rfl,f⟩;have P:=aa T f;clear Q f;by_cases i:Box.box 2 (Box.low V (Box.size V))=Box.box 2 zs
   .have f:(Box.box 2 (Box.low V (Box.size V))==Box.box 2 zs)=true:=(by rw[db];exact i);have u:Box.num zs=some V:=by
     rw[Box.Hr sf (by rw[hn];exact C) V r _ rfl]at i;rw[Box.num,<-r,dT ⟨by rw[hn.o];exact h1,by rw[hn.o];exact C,i⟩]
    have B:=I u;rw[f];clear i f u;go_wp2;go_ret2;refine⟨⟨λv _ q=>?_,λh=>?_⟩,P⟩
    .rw[B]at q;simp only[fp]at q;subst q;rfl
    .rcases h with h|h
     .exact absurd U.o h
     .rw[B]at h;simp at h
   .have f:(Box.box 2 (Box.low V (Box.size V))==Box.box 2 zs)=false:=fA;have u:Box.num zs=none:=by
     rw[Box.Hr sf (by rw[hn];exact C) V r _ rfl]at i;rw[Box.num,<-r,cZ (λh=>i h.2.2)]
    have B:=I u;rw[f];clear i f u;go_wp2;go_ret2;refine⟨⟨λv _ q=>?_,λh=>⟨V,a.1,a.2,rfl⟩⟩,P⟩;rw[B]at q;simp at q
theorem PG(a)(f)(zs)(n)(d)(w)(hn:Hid (zs.length=n))(i:At w f zs):Calls prog 68 #[.agg #[.int .u8 (a.toNat:Int),.slice f n d]] w λe b=>zk a zs e/\w.grownBy b none:=by
 by_cases e:a.toNat=2
 .by_cases h:n<1\/8<n
  .exact PE a f zs n d w hn e h
  .obtain⟨b,g,rfl,_⟩:=i.addr ri;exact TV a b g zs n d w hn e G G i
 .exact TU a f zs n d w e
theorem wrap_u64(x):IntKind.u64.wrap x=x % 18446744073709551616:=by
 unfold IntKind.wrap;simp[IntKind.signed,IntKind.bits]
def nW(x:Int):UInt64:=UInt64.ofNat (x % 18446744073709551616).toNat
theorem oD(x):IntKind.u64.wrap x=((nW x).toNat:Int):=by
 grind [Pure.mV,wrap_u64,nW]
theorem Jz(x)(k)(m:k<=8):Box.low x k=Pure.be (nW x) k:=by
 have b:∀i,i<8->Box.l9 x i=Pure.dW (nW x) i:=by
  intro i d;apply UInt8.toNat_inj.1;have e:=nY (nW x) i;have hw:=oD x;rw[wrap_u64]at hw;rw[<-hw]at e;have f:x / 2 ^ (8*i) % 256=(x % 18446744073709551616) / 2 ^ (8*i) % 256:=by
   match i,d with
   |0,_=>simp
   |1,_=>simp;omega
   |2,_=>simp;omega
   |3,_=>simp;omega
   |4,_=>simp;omega
   |5,_=>simp;omega
   |6,_=>simp;omega
   |7,_=>simp;omega
  have g:=G;have h:=G;have l:(Box.l9 x i).toNat=(x / 2 ^ (8*i) % 256).toNat:=by
   unfold Box.l9;rw[eo,ez G]
  omega
 have a:∀j,j<=k->Box.pM x k j=Pure.pI (nW x) k j:=by
  intro j;induction j with
  |zero=>intro _;rfl
  |succ j d=>
   intro e;rw[Box.pM,d G,Pure.mU,b _ G]
 exact a k (cy _)
theorem Sw(n:Nat)(h:n<256):Pure.be (nW (n:Int)) 1=[UInt8.ofNat n]:=by
 rw[<-Jz _ _ G];have e:Box.l9 (n:Int) 0=UInt8.ofNat n:=by
  grind [Box.l9]
 show [Box.l9 (n:Int) 0]=_;rw[e]
theorem Tt(n:Nat)(h:n<65536):Pure.be (nW (n:Int)) 2=[UInt8.ofNat (n / 256),UInt8.ofNat (n % 256)]:=by
 rw[<-Jz _ _ G];have a:Box.l9 (n:Int) 0=UInt8.ofNat (n % 256):=by
  grind [Box.l9]
 have b:Box.l9 (n:Int) 1=UInt8.ofNat (n / 256):=by
  grind [Box.l9]
 show [Box.l9 (n:Int) 1,Box.l9 (n:Int) 0]=_;rw[a,b]
theorem GO(h:p:=by
 go_wp2
 go_ret
 exact⟨_,rfl,by rw[HH,<-du,<-du];exact aU.comp HM.2 (aU.comp HM2.2 R3 Z) Z⟩):p:=h
theorem vN(Q)(p)(q)(a)(n:Nat)(w)(K:f' w Q p q)(V:n<65536)(U:q.length<=900000):Calls prog 249 #[Q,.int .u8 (a.toNat:Int),Y (n:Int)] w λe d=>∃b,e=.returned b/\aU w d b p (q++Box.head a n):=by
 obtain⟨v,u,d,f,g⟩:=info_parts Tryz.info5
 have b:∀(W:World)(x),Src prog 1 37 (ς W.1.size 0 1 1) 1 ([x].map U8) (W.alloc (.cells #[.int .u8 (x.toNat:Int)] 5)):=
  λW x=>sN (P:=prog) underlying37 _ 1 1 [x] rfl (fw _ _ _ _ rfl)
 have C:∀(W:World),Src prog 1 37 (ς W.1.size 0 1 1) 1 ([129].map U8) (W.alloc (.cells #[.int .u8 129] 5)):=λW=>b W 129
 have D:∀(W:World),Src prog 1 37 (ς W.1.size 0 1 1) 1 ([130].map U8) (W.alloc (.cells #[.int .u8 130] 5)):=λW=>b W 130
 by_cases S:n<128
 .have t:(n:Int)<128:=G;have HH:Hid (Box.head a n=[a]++Pure.be (nW (n:Int)) 1):=by show _=_;grind [Sw,Box.head]
  go_in;go_wp2_with (at_builtin;refine dK _ rfl _ _ 37 37 rfl 5 v underlying37 u d f g _ _ p q [a] rfl rfl (K.grown (cx w _ none)) 1 (b _ _) j' ?_;intro M m i)
  have k:=i.before (cx w _ none);obtain⟨y,h,j⟩:=id k;have r:=I (sw M y _ (n:Int) (nW (n:Int)) 1 m h (oD _) G j');have HM:=I (dN h j);clear i k h j;go_wp2_with (go_at_call 150;refine r.mono ?_;rintro e B ⟨A,rfl,k⟩)
  go_wp2;go_ret;exact⟨_,rfl,by rw[HH,<-du];exact aU.comp HM.2 k Z⟩
 .by_cases T:n<256
  .have t:¬ (n:Int)<128:=G;have J:(n:Int)<256:=G;have HH:Hid (Box.head a n=[a]++[129]++Pure.be (nW (n:Int)) 1):=(by show _=_;grind [Sw,Box.head]);go_in
   go_wp2_with (first
    |(at_builtin;refine dK _ rfl _ _ 37 37 rfl 5 v underlying37 u d f g _ _ p q [a] rfl rfl (K.grown (cx w _ none)) 1 (b _ _) j' ?_;intro M m i;obtain⟨y,h,j⟩:=i.before (cx w _ none);have HM:=I (dN h j);clear i h j)
    |(at_builtin;refine dK _ rfl _ _ 37 37 rfl 5 v underlying37 u d f g _ _ y _ [129] rfl rfl (HM.1.grown (cx m _ none)) 1 (C _) j' ?_;intro A B k;obtain⟨L,l,x⟩:=k.before (cx m _ none);have r:=I (sw A L _ (n:Int) (nW (n:Int)) 1 B l (oD _) G j');have HM2:=I (dN l x);clear k l x)
    |(go_at_call 150;refine r.mono ?_;rintro e w3 ⟨R,rfl,R3⟩))
   exact GO
  .have t:¬ (n:Int)<128:=G;have J:¬ (n:Int)<256:=G;have HH:Hid (Box.head a n=[a]++[130]++Pure.be (nW (n:Int)) 2):=(by show _=_;grind [Tt,Box.head]);go_in
   go_wp2_with (first
    |(at_builtin;refine dK _ rfl _ _ 37 37 rfl 5 v underlying37 u d f g _ _ p q [a] rfl rfl (K.grown (cx w _ none)) 1 (b _ _) j' ?_;intro M m i;obtain⟨y,h,j⟩:=i.before (cx w _ none);have HM:=I (dN h j);clear i h j)
    |(at_builtin;refine dK _ rfl _ _ 37 37 rfl 5 v underlying37 u d f g _ _ y _ [130] rfl rfl (HM.1.grown (cx m _ none)) 1 (D _) j' ?_;intro A B k;obtain⟨L,l,x⟩:=k.before (cx m _ none);have r:=I (sw A L _ (n:Int) (nW (n:Int)) 2 B l (oD _) G j');have HM2:=I (dN l x);clear k l x)
    |(go_at_call 150;refine r.mono ?_;rintro e w3 ⟨R,rfl,R3⟩))
   exact GO
theorem zx(v)(w)(d:-9223372036854775808<=v)(f:v<=9223372036854775807):Calls prog 192 #[Y v] w λe w'=>e=.returned (Y (Box.size v:Int))/\w=w':=by
 obtain⟨m,g,a⟩:=Du v d f
 have HS:=I (Box.Am v d f m a)
 have b:m<18446744073709551616:=by split at a<;>omega
 have h:=(Box.bitLen_le (k:=64) b).2 b
 have HM:=I g
 clear g a
 go_in
 exact Bm
theorem qp(l)(p)(f)(v)(w)(A:f' w l p f)(u:-9223372036854775808<=v)(y:v<=9223372036854775807)(K:f.length<=900000):Calls prog 248 #[l,Y v] w λe m=>∃a,e=.returned a/\aU w m a p (f++bS v):=by
 obtain⟨C,B,h,i,j⟩:=info_parts Tryz.info5
 have g:=jX v
 have HS:=I (zx v w u y)
 obtain⟨s,a⟩:=N (Box.size v)
 have HB:Hid (bS v=[2,UInt8.ofNat s]++Pure.be (nW v) s):=by
  show _=_;rw[bS,Box.box,Box.mQ,Box.head,dT G,a,Jz _ _ G]
 rw[a]at HS g
 clear a
 have a:∀(W:World)(x),x=((UInt8.ofNat s).toNat:Int)->Src prog 1 37 (ς W.1.size 0 2 2) 2 ([2,UInt8.ofNat s].map U8) (W.alloc (.cells #[.int .u8 2,.int .u8 x] 5)):=by
  intro W x b;refine sN (P:=prog) underlying37 _ 2 2 [2,UInt8.ofNat s] rfl ?_;exact fw _ _ _ _ (by rw[b];rfl)
 have d:=Xt s G
 have q:=I d
 have b:((UInt8.ofNat s).toNat:Int)=(s:Int):=by rw[eo,ez G]
 have r:=I b
 clear d b
 go_in
 go_wp2_with (first
  |(go_at_call 192;refine HS.mono ?_;rintro e m ⟨rfl,rfl⟩)
  |(at_builtin;refine dK _ rfl _ _ 37 37 rfl 5 C underlying37 B h i j _ _ p f [2,UInt8.ofNat s] rfl rfl (A.grown (cx w _ none)) 2 (a _ _ (by first|exact q.o|exact r.o.symm)) j' ?_;intro D J d;obtain⟨x,b,k⟩:=d.before (cx w _ none);have n:=I (Gg D x _ v (nW v) s J b (oD _) G j');have o:=I (dN b k);clear d b k)
  |(go_at_call 259;refine n.mono ?_;rintro e M ⟨L,rfl,t⟩))
 go_wp2
 go_ret
 exact⟨_,rfl,by rw[HB,<-du];exact aU.comp o.2 t Z⟩
theorem BS(v)(w)(d:-9223372036854775808<=v)(f:v<=9223372036854775807):Calls prog 251 #[Y v] w λe w'=>e=.returned (Y (Box.size v:Int))/\w=w':=by
 obtain⟨m,g,a⟩:=Du v d f
 have HS:=I (Box.Am v d f m a)
 have b:m<18446744073709551616:=by split at a<;>omega
 have h:=(Box.bitLen_le (k:=64) b).2 b
 have HM:=I g
 clear g a
 go_in
 exact Bm
theorem nG(l)(p)(f)(v)(w)(A:f' w l p f)(u:-9223372036854775808<=v)(y:v<=9223372036854775807)(K:f.length<=900000):Calls prog 237 #[l,Y v] w λe m=>∃a,e=.returned a/\aU w m a p (f++bS v):=by
 obtain⟨C,B,h,i,j⟩:=info_parts Tryz.info5
 have g:=jX v
 have HS:=I (BS v w u y)
 obtain⟨s,a⟩:=N (Box.size v)
 have HB:Hid (bS v=[2,UInt8.ofNat s]++Pure.be (nW v) s):=by
  show _=_;rw[bS,Box.box,Box.mQ,Box.head,dT G,a,Jz _ _ G]
 rw[a]at HS g
 clear a
 have a:∀(W:World)(x),x=((UInt8.ofNat s).toNat:Int)->Src prog 1 37 (ς W.1.size 0 2 2) 2 ([2,UInt8.ofNat s].map U8) (W.alloc (.cells #[.int .u8 2,.int .u8 x] 5)):=by
  intro W x b;refine sN (P:=prog) underlying37 _ 2 2 [2,UInt8.ofNat s] rfl ?_;exact fw _ _ _ _ (by rw[b];rfl)
 have d:=Xt s G
 have q:=I d
 have b:((UInt8.ofNat s).toNat:Int)=(s:Int):=by rw[eo,ez G]
 have r:=I b
 clear d b
 go_in
 go_wp2_with (first
  |(go_at_call 251;refine HS.mono ?_;rintro e m ⟨rfl,rfl⟩)
  |(at_builtin;refine dK _ rfl _ _ 37 37 rfl 5 C underlying37 B h i j _ _ p f [2,UInt8.ofNat s] rfl rfl (A.grown (cx w _ none)) 2 (a _ _ (by first|exact q.o|exact r.o.symm)) j' ?_;intro D J d;obtain⟨x,b,k⟩:=d.before (cx w _ none);have n:=I (sw D x _ v (nW v) s J b (oD _) G j');have o:=I (dN b k);clear d b k)
  |(go_at_call 150;refine n.mono ?_;rintro e M ⟨L,rfl,t⟩))
 go_wp2
 go_ret
 exact⟨_,rfl,by rw[HB,<-du];exact aU.comp o.2 t Z⟩
theorem nH(h)(p)(b l)(w)(r:f' w h p b)(u:l.length<65536)(y:b.length<=800000):Calls prog 238 #[h,.string ⟨l.toArray⟩] w λe d=>∃a,e=.returned a/\aU w d a p (b++dx l):=by
 obtain⟨v,t,d,f,g⟩:=info_parts Tryz.info5
 have m:=I (vN h p b 4 l.length w r u G)
 have a:(Box.head 4 l.length).length<=4:=by rw[Box.pK];split<;>(try split)<;>omega
 have n:=I a
 clear a
 have a:∀W,Src prog 1 9 (.string ⟨l.toArray⟩) l.length (l.map U8) W:=λW=>Tb (P:=prog) underlying9 l
 go_in
 go_wp2_with (first
  |(go_at_call 249;refine m.mono ?_;rintro e C ⟨A,rfl,o⟩;obtain⟨x,k,j⟩:=o;have i:=I (dN k j);clear k j)
  |(at_builtin;refine dK _ rfl _ _ 37 9 rfl 5 v underlying37 t d f g _ _ x _ l rfl rfl i.1 _ (a _) (by have:=n.o;simp;omega) ?_;intro B D q))
 go_wp2
 go_ret
 exact⟨_,rfl,by rw[dx,Box.box,<-du];exact aU.comp i.2 q Z⟩
theorem oF(Q)(p)(A B)(a)(i)(M:Int)(w)(j:f' w Q p (A++B))(L:Hid (A.length=i))(r:M=i)(hn:B.length<65536)(hl:A.length<=700000):Calls prog 228 #[Q,Y M,.int .u8 (a.toNat:Int)] w λe C=>∃k,e=.returned k/\aU w C k p (A++Box.box a B):=by
 have d:=L.o
 obtain⟨n,b⟩:=N ((A++B).length)
 have g:n=i+B.length:=by rw[<-b,<-d,cD]
 have U:=I b
 have h:=b
 clear b
 obtain⟨l,f,rfl,K,ab,b,_⟩:=j.open U
 have J:=I j
 clear j b h
 subst r
 have b:((n:Int)-(i:Int))=(B.length:Int):=G
 have HSub:=I b
 have V:=I g
 have ad:i<=700000:=G
 have ae:n<=800000:=G
 clear b g d
 have b:(Box.head a B.length).length<=4/\0<(Box.head a B.length).length:=by rw[Box.pK];split<;>(try split)<;>omega
 have D:=I b
 clear b
 obtain⟨W,h⟩:=aw (w.alloc (.cells #[.int .u8 0,.int .u8 0,.int .u8 0,.int .u8 0] 392))
 have b:W.1[w.1.size]?=some (.cells #[.int .u8 0,.int .u8 0,.int .u8 0,.int .u8 0] 392 (0,0)):=by grind [heap_alloc_new]
 have d:w.grownBy W none:=by grind [cx]
 have g:f' W (ς w.1.size 0 0 4) (some ⟨w.1.size,0,4⟩) []:=
  .inr ⟨_,rfl,rfl,cS _,by show 4<=maxLen;unfold maxLen;omega,⟨_,_,b,cy _⟩,λj u m=>by simp at m⟩
 have R:=I (vN _ _ [] a B.length W g hn Z)
 have S:=I d
 have X:=I h
 clear b g d h
 go_in
 go_wp2_with fail
 rw[HSub,<-X]
 refine R.mono ?_
 rintro e d ⟨v1,rfl,p1,y,P,m2,x⟩
 rw[List.nil_append]at y x
 have u:=x _ rfl D.1
 subst u
 obtain⟨m,t⟩:=N ((Box.head a B.length).length)
 have g:Hid (v1 = ς w.1.size 0 m 4/\b' d w.1.size (0+m)/\d.rangeAt w.1.size 0 ((Box.head a B.length).map U8)/\f' d (.slice l n f) p (A++B)/\w.grownBy d none/\∀q,p=some q->w.1.size≠q.g):=by
  have j:w.grownBy d none:=by
   refine((CF.bF S (λ_ _=>False)).trans P (λb o h e=>?_)).gb (λ_ _ _ e=>e);obtain⟨q,b,T,_⟩:=e;grind
  rcases y with⟨h,_⟩|⟨q,b,v,k1,k2,k3,k4⟩
  .cases h
  .injection b with b;subst b;refine⟨by rw[v,t],(by grind [b'.mono]),k4,J.o.grown j,j,λq b e=>?_⟩;have:=J.K8 q b;omega
 have T:Hid (Calls prog 123 #[.slice l n f,Y (i:Int),ς w.1.size 0 m 4] d λe C=>∃k,e=.returned k/\aU d C k p (A++Box.head a B.length++B)):=
  Di (.slice l n f) p A B (Box.head a B.length) i i w.1.size 0 m 4 d g.2.2.2.1 L rfl t (by have:=D.o;omega) g.2.1 g.2.2.1 g.2.2.2.2.2 kA
 obtain⟨rfl,_,_,_,b,_⟩:=g.o
 have h:=I b
 clear b y P m2 x g t
 go_wp2_with (go_at_call 123;refine T.mono ?_;rintro e j ⟨g,rfl,b⟩)
 go_wp2
 go_ret
 exact⟨_,rfl,by rw[Box.box,<-du];exact b.before h⟩
def XU(x:Int):Value:=Y x
def b9(x:Int):Prop:=-9223372036854775808<=x/\x<=9223372036854775807
theorem JA{a:List Int}{k:Nat}(h:k<a.length):iB (a.take (k+1))=iB (a.take k)++bS a[k]:=by
 unfold iB;rw[dy h,ef,List.flatten_append];grind
theorem xG(a:List Int)(k):(iB (a.take k)).length<=10*k:=by
 grind [lh]
theorem sP(a)(l):l.length<=(Box.box a l).length:=by grind [Box.box]
theorem nI(a)(l):(Box.box a l).length<=l.length+4:=by rw[Box.box,cD,Box.pK];split<;>(try split)<;>omega
theorem nJ(y)(p)(j)(d)(g m c)(w)(b:f' w y p j)(f:w.rangeAt g 0 (d.map XU))(a:∀q,p=some q->g≠q.g)(r:Hid (d.length=m))(h:∀x∈d,b9 x)(K:m<=1000)(P:j.length<=800000):Calls prog 227 #[y,ς g 0 m c] w λe k=>∃i,e=.returned i/\aU w k i p (j++iB d):=by
 have B:=I f
 have C:=I h
 have HB:=I b
 have J:=I a
 clear f h b a
 go_in
 go_wp2
 go_loopw [0,9] (λo i wr=>∃k:Nat,k<=m/\i = Y k/\Hid (aU w wr o p (j++iB (d.take k)))) (λ_ i _=>m-(intOf i).toNat)
 case atStart=>grind [aU.refl,Hid.o,iB]
 case round=>
  obtain⟨k,M,rfl,f⟩:=hrel;by_cases l:k<m
  .have a:k<d.length:=(by rw[r];exact l);obtain⟨L,v,n,t,u⟩:=f.o;obtain⟨x,b⟩:=N (d[k]);have i:wr.cell? (F g k)=some (Y x):=by
    have o:=B k (XU x) (by simp[a,b]);rw[cN]at o;refine n.cell o ?_;rintro⟨q,A,e,_⟩;exact J q A e
   have h:=C x (by rw[<-b];exact eg a);have q:=I (qp _ L _ x wr v h.1 h.2 (by have:=xG d k;simp;omega));have A:=I (dN n (dN t u));have o:=I (JA a);rw[b]at o;clear b h v n t u a f;go_wp2_with (go_at_call 248;refine q.mono ?_;rintro e R ⟨Q,rfl,D⟩)
   go_wp2;go_roundw
   case rel=>exact⟨k+1,by omega,by go_num,by show aU _ _ _ _ _;rw[o,<-du];exact aU.comp A D Z⟩
   case measure=>simp[intOf];omega
  .have h:k=m:=G;subst h;go_wp2;go_ret;exact⟨_,rfl,by have:=f.o;rw[cU (by rw[r];omega)]at this;exact this⟩
theorem xN(h)(p)(b)(a)(w)(d:f' w h p b)(l:b.length<=600000):Calls prog 252 #[h,H (a.toNat:Int)] w λe g=>∃f,e=.returned f/\aU w g f p (b++nD a):=by
 obtain⟨n,i⟩:=N b.length
 have f:=I i
 have k:=I (yX h p b a 8 w d G G)
 obtain⟨y,q,rfl,j,r,g,_⟩:=d.open f
 have t:n<=600000:=G
 have HB:=I d
 clear d g i l
 go_in
 go_wp2_with (first
  |(go_at_call 124;refine k.mono ?_;rintro e x ⟨v,rfl,m⟩;obtain⟨u,d,g⟩:=m;have i:=I (dN d g);have l:=I (oF v u b (Pure.be a 8) 4 n n x d f rfl (by rw[Pure.bQ];omega) (by rw[f.o];omega));clear d g)
  |(go_at_call 228;refine l.mono ?_;rintro e B ⟨A,rfl,o⟩))
 go_wp2
 go_ret
 refine⟨_,rfl,?_⟩
 refine aU.comp i.2 o ?_
 simp[nD,dx,Box.box]
theorem vO(n)(p)(A B)(d b a)(x t:Int)(i)(w)(q:f' w n p (A++B))(j:Hid (A.length=i))(k:t=i)(L:Hid (x=b.toNat))(l:b.toNat<9223372036854775808)(m:B.length<=60000)(r:A.length<=600000):Calls prog 254 #[n,Y t,H (d.toNat:Int),Y x,H (a.toNat:Int)] w λe g=>∃f,e=.returned f/\aU w g f p (A++dx (Pure.dY d b a (Box.box 48 B))):=by
 subst k
 have f:(Box.box 48 B).length<=B.length+4:=by rw[Box.box,cD,Box.pK];split<;>(try split)<;>omega
 have g:(Pure.dY d b a (Box.box 48 B)).length=(Box.box 48 B).length+16:=Pure.dh _ _ _ _
 have H1:=I (oF n p A B 48 i i w q j rfl G G)
 have y:=I (dN f g)
 have h:=I (dN m r)
 clear q f g m r
 go_in
 go_wp2_with (first
  |(go_at_call 228;refine H1.mono ?_;clear H1;rintro e S ⟨Q,rfl,D⟩;obtain⟨M,g,q⟩:=D;have C:=I (dN g q);have u:=I (WZ d b a x Q M A (Box.box 48 B) i i S g j rfl L l kA);clear g q)
  |(go_at_call 81;refine u.mono ?_;rintro e T ⟨R,rfl,J⟩;obtain⟨P,m,r⟩:=J;have f:=I (dN m r);have v:=I (oF R P A (Pure.dY d b a (Box.box 48 B)) 4 i i T m j rfl kA (by have:=h.o;omega));clear m r)
  |(go_at_call 228;refine v.mono ?_;rintro e w3 ⟨U,rfl,K⟩))
 go_wp2
 go_ret
 refine⟨_,rfl,?_⟩
 refine aU.comp C.2 (aU.comp f.2 K ?_) ?_
 .have:=sP 4 (Pure.dY d b a (Box.box 48 B));rw[cD,cD];exact Nat.add_le_add_left this _
 .have e:=sP 4 (Pure.dY d b a (Box.box 48 B));have f:=y.o;rw[cD,cD];refine Nat.add_le_add_left (cE ?_ e) _;omega
theorem zy(y)(p)(g)(b a)(w)(i:f' w y p g)(J:b9 b)(f:b9 a)(L:g.length<=600000):Calls prog 188 #[y,Y b,Y a] w λe h=>∃d,e=.returned d/\aU w h d p (g++aY b a):=by
 obtain⟨n,r⟩:=N g.length
 have j:=I r
 obtain⟨P,D,rfl,t,K,m,_⟩:=i.open j
 have M:n<=600000:=G
 obtain⟨W,l⟩:=aw (w.alloc (.cells #[Y 30,Y b,Y a] 2))
 have k:w.grownBy W none:=by grind [cx]
 have u:W.rangeAt w.1.size 0 ([30,b,a].map XU):=by rw[l];exact aS w _ _
 have h:∀q,p=some q->w.1.size≠q.g:=λq d e=>by have:=i.K8 q d;omega
 have A:=I (nJ _ p g [30,b,a] w.1.size 3 3 W (i.grown k) u h (I rfl) (by intro x v;simp at v;rcases v with rfl|rfl|rfl<;>first|assumption|(constructor<;>decide)) G G)
 have B:=I k
 have C:=I l
 have q:iB [30,b,a]=bS 30++(bS b++bS a):=by simp[iB]
 have d:=lh [30,b,a]
 simp only[de,List.length_nil]at d
 have o:=I (dN q d)
 clear i m r L k u h l J f q d
 go_in
 go_wp2_with (first
  |(go_at_call 227;rw[<-C];refine A.mono ?_;rintro e q ⟨m,rfl,i⟩;obtain⟨l,d,f⟩:=i;have h:=I (dN d f);have HB:=I (oF m l g _ 48 n n q d j rfl (by have:=o.2;omega) (by rw[j.o];omega));clear d f)
  |(go_at_call 228;refine HB.mono ?_;rintro e u ⟨r,rfl,k⟩))
 go_wp2
 go_ret
 refine⟨_,rfl,?_⟩
 have d:=(aU.comp h.2 k (by have:=sP 48 (iB [30,b,a]);rw[cD,cD];omega)).before B.o
 rw[o.1]at d
 simpa[aY,jO]using d
