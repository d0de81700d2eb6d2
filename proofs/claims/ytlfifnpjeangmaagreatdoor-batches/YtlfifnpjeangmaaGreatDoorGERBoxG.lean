import Derived.Test.YtlfifnpjeangmaaGreatDoorGERBoxF
import Derived.Test.YtlfifnpjeangmaaGreatDoorGEBoxC
namespace Go.Proofs.YtlfifnpjeangmaaGreatDoor
set_option maxHeartbeats 4000000
open Proofs.Tryz Go.RowKit
set_option maxRecDepth 100000
variable {p:Prop}
theorem ahv(h:p:=by rw[bne_eq_false_iff_eq];omega):p:=h
variable {zs:List UInt8}
def zh(tag:UInt8)(zs:List UInt8)(e:Ending):Prop:=
 (∀v,tag.toNat=2->Box.num zs=some v->e=.returned (.tuple #[ι v,.bool true]))/\
 ((tag.toNat≠2\/Box.num zs=none)->∃v:Int,-9223372036854775808<=v/\v<=9223372036854775807/\e=.returned (.tuple #[ι v,.bool false]))
theorem Sa{tag:UInt8}(h:tag.toNat≠2\/Box.num zs=none):zh tag zs (.returned (.tuple #[ι 0,.bool false])):=
 ⟨agM,λ_=>⟨0,by decide,by decide,rfl⟩⟩
theorem aeo(h:p:=by
 go_enter func68,ntmps68
 go_wp2
 go_ret2
 exact⟨HV,cx w _ none⟩):p:=h
theorem TH(tag)(a)(zs)(n)(cap)(w)(h:tag.toNat≠2):
  Calls prog 68 #[.agg #[.int .u8 tag.toNat,.slice a n cap]] w λe w'=>zh tag zs e/\w.grownBy w' none:=by
 have b:((tag.toNat:Int) != 2)=true:=ahg
 have HV:=Sa (zs:=zs) (.inl h)
 clear h
 exact aeo
theorem Pp(tag)(c)(zs)(n)(cap)(w)(hn:Hid (zs.length=n))(b:tag.toNat=2)(h:n<1\/8<n):
  Calls prog 68 #[.agg #[.int .u8 tag.toNat,.slice c n cap]] w λe w'=>zh tag zs e/\w.grownBy w' none:=by
 have g:((tag.toNat:Int) != 2)=false:=ahv
 have HV:=Sa (tag:=tag) (zs:=zs) (.inr aiu)
 clear b
 by_cases f:n<1
 ·have a:(n:Int)<1:=agE;exact aeo
 ·have a:¬ (n:Int)<1:=agE;have d:(8:Int)<(n:Int):=agE;exact aeo
theorem Xj{k:Nat}(b:1<=k)(d:k<=7)(c:k<=zs.length):-36028797018963968<=Box.ja (Box.sign (zs.getD 0 0)) ((zs.drop 1).take (k-1))/\Box.ja (Box.sign (zs.getD 0 0)) ((zs.drop 1).take (k-1))<36028797018963968:=by
 have a:=Box.rZ (zs.getD 0 0);have h:=Box.vB (M:=128) ((zs.drop 1).take (k-1)) _ a.1 a.2;have e:((zs.drop 1).take (k-1)).length=k-1:=ag2;rw[e]at h;have f:(256:Int) ^ (k-1)<=256 ^ 6:=by
  have:(256:Nat) ^ (k-1)<=256 ^ 6:=Nat.pow_le_pow_right agF agE;grind
 omega
theorem Xk{k:Nat}(c:1<=k)(b:k<zs.length):Box.ja (Box.sign (zs.getD 0 0)) ((zs.drop 1).take (k+1-1))=Box.ja (Box.sign (zs.getD 0 0)) ((zs.drop 1).take (k-1))*256+(zs[k].toNat:Int):=by
 have a:k-1<(zs.drop 1).length:=ag2;rw[show k+1-1=(k-1)+1 from by omega,lL a,Box.Jd,List.getElem_drop];congr 4;omega
theorem TI(tag)(b off:Nat)(zs)(n)(cap)(w)(hn:Hid (zs.length=n))(P:tag.toNat=2)(h1:1<=n)(G:n<=8)(O:At w (some ⟨b,off,none⟩) zs):
  Calls prog 68 #[.agg #[.int .u8 tag.toNat,.slice (some (b,off)) n cap]] w λe w'=>zh tag zs e/\w.grownBy w' none:=by
 have hb:((tag.toNat:Int) != 2)=false:=agM
 have Z:=hid P
 clear P
 have ae:¬ (n:Int)<1:=agE
 have ab:¬ (8:Int)<(n:Int):=agE
 have W:(0:Int)<(n:Int):=agE
 have N:w.grownBy (w.alloc (.cells #[.int .u8 tag.toNat,.slice (some (b,off)) n cap] 117)) none:=cx w _ none
 have r:=O.below N
 have y:=dB.new w #[.int .u8 tag.toNat,.slice (some (b,off)) n cap] 117
 have p:=Dp r 0 ahf
 rw[ft]at p
 have B:=Lm (zs.getD 0 0)
 have t:=Box.rZ (zs.getD 0 0)
 generalize C:(zs.getD 0 0)=z0 at p B t
 generalize z:Box.sign z0=s0 at B t
 have HZ:Hid (Box.sign (zs.getD 0 0)=s0):=by show _=_;rw[C,z]
 clear C z
 go_enter func68,ntmps68
 go_wp2_with fail
 go_loop [4,5] (λv i=>∃k:Nat,1<=k/\k<=n/\i = ι k/\∃V:Int,v = ι V/\Hid (V=Box.ja (Box.sign (zs.getD 0 0)) ((zs.drop 1).take (k-1)))) (λ_ i=>n-(intOf i).toNat)
 case atStart=>exact⟨1,by omega,h1,rfl,_,rfl,by grind [Box.ja]⟩
 case round=>
  obtain⟨k,E,hk,rfl,V,rfl,K⟩:=hrel;by_cases hlt:k<n
  ·have g:k<zs.length:=ag4;have mU:(k:Int)<(n:Int):=agE;have U:(0:Int)<=(k:Int):=agE;have X:=r.cells k g;have ad:=(zs[k]).toNat_lt;have a:=Xj E agE ahf;rw[<-K.o]at a;go_wp2;go_round
   case rel=>exact⟨k+1,by omega,by omega,by go_num,_,rfl,by show _=_;rw[Xk E g,<-K.o]⟩
   case measure=>simp[intOf];omega
  ·have J:k=n:=agE;subst J;have D:Hid (V=Box.val zs):=by
    show _=_;rw[K.o,Box.val,cU agR]
   have a:=Box.uu (l:=zs) ah2 (by rw[hn.o];exact G);rw[<-D.o]at a;have mU:¬ (k:Int)<(k:Int):=agE;go_wp2_with fail;refine(qY V _ a.1 a.2).mono ?_;rintro e w1 ⟨o,rfl,d,j⟩;obtain⟨a4,c4,rfl,_,_,_,M⟩:=iY d;have F:=y.grown j agI;have R:=aa N j;have L:=F.cell 1;simp only[cH,cG,cI]at L;clear d j y r p;go_wp2_with fail;refine(tK 2 zs k (some ⟨b,off,none⟩) cap _ hn agE (hid (λh=>by cases h)) (O.below R)).mono ?_;rintro e w2 ⟨o,rfl,f,m⟩;obtain⟨Y,c5,rfl,_,_,_,S⟩:=iY f;have u:=M.below m;have G2:=aa R m;have I:(Box.box 2 (Box.low V (Box.size V))).length<=140737488355328:=by
    have:=(jW V).2;rw[Box.kZ,Box.mO];split<;>(try split)<;>omega
   have T:=Ah (Box.box 2 (Box.low V (Box.size V))) (Box.box 2 zs) _ _ a4 Y c4 c5 w2 (hid rfl) (hid rfl) I u S;clear f m M u S F L;go_wp2_with fail;refine T.mono ?_;rintro e w3 ⟨rfl,x⟩;have Q:=aa G2 x;clear T x;by_cases q:Box.box 2 (Box.low V (Box.size V))=Box.box 2 zs
   ·have c:(Box.box 2 (Box.low V (Box.size V))==Box.box 2 zs)=true:=(by rw[db];exact q);have A:Box.num zs=some V:=by
     rw[Box.Hl ah2 (by rw[hn.o];exact G) V D.o _ rfl]at q;rw[Box.num,<-D.o,if_pos ⟨by rw[hn.o];exact h1,by rw[hn.o];exact G,q⟩]
    have H:=hid A;rw[c];clear q c A;go_wp2;go_ret2;refine⟨⟨λv _ s=>?_,λh=>?_⟩,Q⟩
    ·rw[H.o]at s;simp only[fp]at s;subst s;rfl
    ·rcases h with h|h
     ·exact absurd Z.o h
     ·rw[H.o]at h;simp at h
   ·have c:(Box.box 2 (Box.low V (Box.size V))==Box.box 2 zs)=false:=agM;have A:Box.num zs=none:=by
     rw[Box.Hl ah2 (by rw[hn.o];exact G) V D.o _ rfl]at q;rw[Box.num,<-D.o,if_neg (λh=>q h.2.2)]
    have H:=hid A;rw[c];clear q c A;go_wp2;go_ret2;refine⟨⟨λv _ s=>?_,λh=>⟨V,a.1,a.2,rfl⟩⟩,Q⟩;rw[H.o]at s;simp at s
theorem Pq(tag)(a)(zs)(n)(cap)(w)(hn:Hid (zs.length=n))(d:At w a zs):
  Calls prog 68 #[.agg #[.int .u8 tag.toNat,.slice a n cap]] w λe w'=>zh tag zs e/\w.grownBy w' none:=by
 by_cases c:tag.toNat=2
 ·by_cases h:n<1\/8<n
  ·exact Pp tag a zs n cap w hn c h
  ·obtain⟨b,off,rfl,_⟩:=d.addr ahf;exact TI tag b off zs n cap w hn c agE agE d
 ·exact TH tag a zs n cap w c
theorem wrap_u64(x):IntKind.u64.wrap x=x % 18446744073709551616:=by
 unfold IntKind.wrap;simp[IntKind.signed,IntKind.bits]
def nV(x:Int):UInt64:=UInt64.ofNat (x % 18446744073709551616).toNat
theorem ow(x):IntKind.u64.wrap x=((nV x).toNat:Int):=by
 grind [Pure.mR,wrap_u64,nV]
theorem Ju(x)(k)(g:k<=8):Box.low x k=Pure.be (nV x) k:=by
 have b:∀i,i<8->Box.l9 x i=Pure.dW (nV x) i:=by
  intro i c;apply UInt8.toNat_inj.1;have e:=nX (nV x) i;have hw:=ow x;rw[wrap_u64]at hw;rw[<-hw]at e;have l:x / 2 ^ (8*i) % 256=(x % 18446744073709551616) / 2 ^ (8*i) % 256:=by
   match i,c with
   |0,_=>simp
   |1,_=>simp;omega
   |2,_=>simp;omega
   |3,_=>simp;omega
   |4,_=>simp;omega
   |5,_=>simp;omega
   |6,_=>simp;omega
   |7,_=>simp;omega
  have m:=agE;have n:=agE;have h:(Box.l9 x i).toNat=(x / 2 ^ (8*i) % 256).toNat:=by
   unfold Box.l9;rw[eo,ez agE]
  omega
 have a:∀j,j<=k->Box.pJ x k j=Pure.pF (nV x) k j:=by
  intro j;induction j with
  |zero=>intro _;rfl
  |succ j d=>
   intro f;rw[Box.pJ,d agE,Pure.mQ,b _ agE]
 exact a k (cy _)
theorem Si(n:Nat)(h:n<256):Pure.be (nV (n:Int)) 1=[UInt8.ofNat n]:=by
 rw[<-Ju _ _ agE];have e:Box.l9 (n:Int) 0=UInt8.ofNat n:=by
  grind [Box.l9]
 show [Box.l9 (n:Int) 0]=_;rw[e]
theorem abG(n:Nat)(h:n<65536):Pure.be (nV (n:Int)) 2=[UInt8.ofNat (n / 256),UInt8.ofNat (n % 256)]:=by
 rw[<-Ju _ _ agE];have a:Box.l9 (n:Int) 0=UInt8.ofNat (n % 256):=by
  grind [Box.l9]
 have b:Box.l9 (n:Int) 1=UInt8.ofNat (n / 256):=by
  grind [Box.l9]
 show [Box.l9 (n:Int) 1,Box.l9 (n:Int) 0]=_;rw[a,b]
theorem aet(h:p:=by
 go_wp2
 go_ret
 exact⟨_,rfl,by rw[HH.o,<-du,<-du];exact aU.comp HM.o.2 (aU.comp HM2.o.2 R3 agI) agI⟩):p:=h
theorem vJ(E)(p)(l)(tag)(n:Nat)(w)(C:Out w E p l)(hn:n<65536)(G:l.length<=900000):
  Calls prog 249 #[E,.int .u8 tag.toNat,ι n] w λe w'=>∃D,e=.returned D/\aU w w' D p (l++Box.head tag n):=by
 obtain⟨u,t,c,d,b⟩:=info_parts Tryz.info5
 have a:∀(W:World)(x),Src prog 1 37 (.slice (some (W,0)) 1 1) 1 ([x].map U8) (W.alloc (.cells #[.int .u8 x.toNat] 5)):=
  λW x=>sK (P:=prog) underlying37 _ 1 1 [x] rfl (fq _ _ _ _ rfl)
 have B:∀(W:World),Src prog 1 37 (.slice (some (W,0)) 1 1) 1 ([129].map U8) (W.alloc (.cells #[.int .u8 129] 5)):=λW=>a W 129
 have z:∀(W:World),Src prog 1 37 (.slice (some (W,0)) 1 1) 1 ([130].map U8) (W.alloc (.cells #[.int .u8 130] 5)):=λW=>a W 130
 by_cases H:n<128
 ·have v:(n:Int)<128:=agE;have HH:Hid (Box.head tag n=[tag]++Pure.be (nV (n:Int)) 1):=by show _=_;grind [Si,Box.head]
  go_enter func249,ntmps249;go_wp2_with (at_builtin;refine dK _ rfl _ _ 37 37 rfl 5 u underlying37 t c d b _ _ p l [tag] rfl rfl (C.grown (cx w _ none)) 1 (a _ _) ag2 ?_;intro v1 k h)
  have s:=h.before (cx w _ none);obtain⟨r,f,g⟩:=id s;have m:=hid (sj v1 r _ (n:Int) (nV (n:Int)) 1 k f (ow _) agE ag2);have HM:=hid (And.intro f g);clear h s f g;go_wp2_with (go_at_call 150;refine m.o.mono ?_;rintro e w2 ⟨v2,rfl,j⟩)
  go_wp2;go_ret;exact⟨_,rfl,by rw[HH.o,<-du];exact aU.comp HM.o.2 j agI⟩
 ·by_cases F:n<256
  ·have v:¬ (n:Int)<128:=agE;have y:(n:Int)<256:=agE;have HH:Hid (Box.head tag n=[tag]++[129]++Pure.be (nV (n:Int)) 1):=(by show _=_;grind [Si,Box.head]);go_enter func249,ntmps249
   go_wp2_with (first
    |(at_builtin;refine dK _ rfl _ _ 37 37 rfl 5 u underlying37 t c d b _ _ p l [tag] rfl rfl (C.grown (cx w _ none)) 1 (a _ _) ag2 ?_;intro v1 k h;obtain⟨r,f,g⟩:=h.before (cx w _ none);have HM:=hid (And.intro f g);clear h f g)
    |(at_builtin;refine dK _ rfl _ _ 37 37 rfl 5 u underlying37 t c d b _ _ r _ [129] rfl rfl (HM.o.1.grown (cx k _ none)) 1 (B _) ag2 ?_;intro v2 w2 j;obtain⟨A,i,q⟩:=j.before (cx k _ none);have m:=hid (sj v2 A _ (n:Int) (nV (n:Int)) 1 w2 i (ow _) agE ag2);have HM2:=hid (And.intro i q);clear j i q)
    |(go_at_call 150;refine m.o.mono ?_;rintro e w3 ⟨v3,rfl,R3⟩))
   exact aet
  ·have v:¬ (n:Int)<128:=agE;have y:¬ (n:Int)<256:=agE;have HH:Hid (Box.head tag n=[tag]++[130]++Pure.be (nV (n:Int)) 2):=(by show _=_;grind [abG,Box.head]);go_enter func249,ntmps249
   go_wp2_with (first
    |(at_builtin;refine dK _ rfl _ _ 37 37 rfl 5 u underlying37 t c d b _ _ p l [tag] rfl rfl (C.grown (cx w _ none)) 1 (a _ _) ag2 ?_;intro v1 k h;obtain⟨r,f,g⟩:=h.before (cx w _ none);have HM:=hid (And.intro f g);clear h f g)
    |(at_builtin;refine dK _ rfl _ _ 37 37 rfl 5 u underlying37 t c d b _ _ r _ [130] rfl rfl (HM.o.1.grown (cx k _ none)) 1 (z _) ag2 ?_;intro v2 w2 j;obtain⟨A,i,q⟩:=j.before (cx k _ none);have m:=hid (sj v2 A _ (n:Int) (nV (n:Int)) 2 w2 i (ow _) agE ag2);have HM2:=hid (And.intro i q);clear j i q)
    |(go_at_call 150;refine m.o.mono ?_;rintro e w3 ⟨v3,rfl,R3⟩))
   exact aet
theorem zt(v)(w)(f:-9223372036854775808<=v)(c:v<=9223372036854775807):
  Calls prog 192 #[ι v] w λe w'=>e=.returned (ι (Box.size v:Int))/\w=w':=by
 obtain⟨m,d,a⟩:=Dr v f c
 have HS:=hid (Box.Ai v f c m a)
 have b:m<18446744073709551616:=by split at a<;>omega
 have g:=(Box.bitLen_le (k:=64) b).2 b
 have HM:=hid d
 clear d a
 go_enter func192,ntmps192
 exact aaR
theorem qm(q)(p)(d)(v)(w)(E:Out w q p d)(y:-9223372036854775808<=v)(B:v<=9223372036854775807)(I:d.length<=900000):
  Calls prog 248 #[q,ι v] w λe w'=>∃m,e=.returned m/\aU w w' m p (d++bR v):=by
 obtain⟨C,z,i,k,g⟩:=info_parts Tryz.info5
 have f:=jW v
 have HS:=hid (zt v w y B)
 obtain⟨s,j⟩:=aq (Box.size v)
 have HB:Hid (bR v=[2,UInt8.ofNat s]++Pure.be (nV v) s):=by
  show _=_;rw[bR,Box.box,Box.mO,Box.head,if_pos agE,j,Ju _ _ agE]
 rw[j]at HS f
 clear j
 have a:∀(W:World)(x),x=((UInt8.ofNat s).toNat:Int)->Src prog 1 37 (.slice (some (W,0)) 2 2) 2 ([2,UInt8.ofNat s].map U8) (W.alloc (.cells #[.int .u8 2,.int .u8 x] 5)):=by
  intro W x D;refine sK (P:=prog) underlying37 _ 2 2 [2,UInt8.ofNat s] rfl ?_;exact fq _ _ _ _ (by rw[D];rfl)
 have c:=WY s agE
 have A:=hid c
 have b:((UInt8.ofNat s).toNat:Int)=(s:Int):=by rw[eo,ez agE]
 have H:=hid b
 clear c b
 go_enter func248,ntmps248
 go_wp2_with (first
  |(go_at_call 192;refine HS.o.mono ?_;rintro e w' ⟨rfl,rfl⟩)
  |(at_builtin;refine dK _ rfl _ _ 37 37 rfl 5 C underlying37 z i k g _ _ p d [2,UInt8.ofNat s] rfl rfl (E.grown (cx w _ none)) 2 (a _ _ (by first|exact A.o|exact H.o.symm)) ag2 ?_;intro v1 G n;obtain⟨t,h,l⟩:=n.before (cx w _ none);have r:=hid (Gd v1 t _ v (nV v) s G h (ow _) agE ag2);have u:=hid (And.intro h l);clear n h l)
  |(go_at_call 259;refine r.o.mono ?_;rintro e w2 ⟨v2,rfl,F⟩))
 go_wp2
 go_ret
 exact⟨_,rfl,by rw[HB.o,<-du];exact aU.comp u.o.2 F agI⟩
theorem BN(v)(w)(f:-9223372036854775808<=v)(c:v<=9223372036854775807):
  Calls prog 251 #[ι v] w λe w'=>e=.returned (ι (Box.size v:Int))/\w=w':=by
 obtain⟨m,d,a⟩:=Dr v f c
 have HS:=hid (Box.Ai v f c m a)
 have b:m<18446744073709551616:=by split at a<;>omega
 have g:=(Box.bitLen_le (k:=64) b).2 b
 have HM:=hid d
 clear d a
 go_enter func251,ntmps251
 exact aaR
theorem nE(q)(p)(d)(v)(w)(E:Out w q p d)(y:-9223372036854775808<=v)(B:v<=9223372036854775807)(I:d.length<=900000):
  Calls prog 237 #[q,ι v] w λe w'=>∃m,e=.returned m/\aU w w' m p (d++bR v):=by
 obtain⟨C,z,i,k,g⟩:=info_parts Tryz.info5
 have f:=jW v
 have HS:=hid (BN v w y B)
 obtain⟨s,j⟩:=aq (Box.size v)
 have HB:Hid (bR v=[2,UInt8.ofNat s]++Pure.be (nV v) s):=by
  show _=_;rw[bR,Box.box,Box.mO,Box.head,if_pos agE,j,Ju _ _ agE]
 rw[j]at HS f
 clear j
 have a:∀(W:World)(x),x=((UInt8.ofNat s).toNat:Int)->Src prog 1 37 (.slice (some (W,0)) 2 2) 2 ([2,UInt8.ofNat s].map U8) (W.alloc (.cells #[.int .u8 2,.int .u8 x] 5)):=by
  intro W x D;refine sK (P:=prog) underlying37 _ 2 2 [2,UInt8.ofNat s] rfl ?_;exact fq _ _ _ _ (by rw[D];rfl)
 have c:=WY s agE
 have A:=hid c
 have b:((UInt8.ofNat s).toNat:Int)=(s:Int):=by rw[eo,ez agE]
 have H:=hid b
 clear c b
 go_enter func237,ntmps237
 go_wp2_with (first
  |(go_at_call 251;refine HS.o.mono ?_;rintro e w' ⟨rfl,rfl⟩)
  |(at_builtin;refine dK _ rfl _ _ 37 37 rfl 5 C underlying37 z i k g _ _ p d [2,UInt8.ofNat s] rfl rfl (E.grown (cx w _ none)) 2 (a _ _ (by first|exact A.o|exact H.o.symm)) ag2 ?_;intro v1 G n;obtain⟨t,h,l⟩:=n.before (cx w _ none);have r:=hid (sj v1 t _ v (nV v) s G h (ow _) agE ag2);have u:=hid (And.intro h l);clear n h l)
  |(go_at_call 150;refine r.o.mono ?_;rintro e w2 ⟨v2,rfl,F⟩))
 go_wp2
 go_ret
 exact⟨_,rfl,by rw[HB.o,<-du];exact aU.comp u.o.2 F agI⟩
theorem nG(f)(p)(b l)(w)(v:Out w f p b)(hn:l.length<65536)(y:b.length<=800000):
  Calls prog 238 #[f,.string ⟨l.toArray⟩] w λe w'=>∃i,e=.returned i/\aU w w' i p (b++dw l):=by
 obtain⟨u,t,d,g,c⟩:=info_parts Tryz.info5
 have n:=hid (vJ f p b 4 l.length w v hn agE)
 have j:(Box.head 4 l.length).length<=4:=by rw[Box.pI];split<;>(try split)<;>omega
 have s:=hid j
 clear j
 have a:∀W,Src prog 1 9 (.string l) l.length (l.map U8) W:=λW=>abd (P:=prog) underlying9 l
 go_enter func238,ntmps238
 go_wp2_with (first
  |(go_at_call 249;refine n.o.mono ?_;rintro e z ⟨v1,rfl,r⟩;obtain⟨q,m,h⟩:=r;have k:=hid (And.intro m h);clear m h)
  |(at_builtin;refine dK _ rfl _ _ 37 9 rfl 5 u underlying37 t d g c _ _ q _ l rfl rfl k.o.1 _ (a _) (by have:=s.o;simp;omega) ?_;intro v2 w2 x))
 go_wp2
 go_ret
 exact⟨_,rfl,by rw[dw,Box.box,<-du];exact aU.comp k.o.2 x agI⟩
theorem oC(U)(p)(A B)(tag)(i)(N:Int)(w)(K:Out w U p (A++B))(S:Hid (A.length=i))(D:N=i)(hn:B.length<65536)(hl:A.length<=700000):
  Calls prog 228 #[U,ι N,.int .u8 tag.toNat] w λe w'=>∃l,e=.returned l/\aU w w' l p (A++Box.box tag B):=by
 have x:=S.o
 obtain⟨n,y⟩:=aq ((A++B).length)
 have t:n=i+B.length:=by rw[<-y,<-x,cD]
 have HN:=hid y
 have L:=y
 clear y
 obtain⟨I,cap,rfl,T,ab,F,_⟩:=K.open HN
 have P:=hid K
 clear K F L
 subst D
 have a:((n:Int)-(i:Int))=(B.length:Int):=agE
 have HSub:=hid a
 have aa:=hid t
 have ae:i<=700000:=agE
 have ad:n<=800000:=agE
 clear a t x
 have s:(Box.head tag B.length).length<=4/\0<(Box.head tag B.length).length:=by rw[Box.pI];split<;>(try split)<;>omega
 have Q:=hid s
 clear s
 obtain⟨W,O⟩:=aw (w.alloc (.cells #[.int .u8 0,.int .u8 0,.int .u8 0,.int .u8 0] 392))
 have c:W.heap[w.heap.size]?=some (.cells #[.int .u8 0,.int .u8 0,.int .u8 0,.int .u8 0] 392 (0,0)):=by grind [heap_alloc_new]
 have R:w.grownBy W none:=by grind [cx]
 have V:Out W (.slice (some (w,0)) 0 4) (some ⟨w.heap.size,0,4⟩) []:=
  .inr ⟨_,rfl,rfl,cS _,by show 4<=maxLen;unfold maxLen;omega,⟨_,_,c,cy _⟩,λj u hu=>by simp at hu⟩
 have Y:=hid (vJ _ _ [] tag B.length W V hn agI)
 have Z:=hid R
 have HW:=hid O
 clear c V R O
 go_enter func228,ntmps228
 go_wp2_with fail
 rw[HSub.o,<-HW.o]
 refine Y.o.mono ?_
 rintro e d ⟨v1,rfl,p1,H,M,m2,E⟩
 rw[List.nil_append]at H E
 have z:=E _ rfl Q.o.1
 subst z
 obtain⟨m,C⟩:=aq ((Box.head tag B.length).length)
 have f:Hid (v1=.slice (some (w,0)) m 4/\Live d w.heap.size (0+m)/\d.rangeAt w.heap.size 0 ((Box.head tag B.length).map U8)/\Out d (.slice I n cap) p (A++B)/\w.grownBy d none/\∀q,p=some q->w.heap.size≠q.g):=by
  have v:w.grownBy d none:=by
   refine((CF.bF Z.o (λ_ _=>False)).trans M (λb o hb e=>?_)).gb (λ_ _ _ e=>e);obtain⟨q,k,e1,_⟩:=e;grind
  rcases H with⟨h,_⟩|⟨q,k,G,k1,k2,k3,k4⟩
  ·cases h
  ·injection k with k;subst k;refine⟨by rw[G,C],(by grind [Live.mono]),k4,P.o.grown v,v,λq k e=>?_⟩;have:=P.o.KU q k;omega
 have X:Hid (Calls prog 123 #[.slice I n cap,ι i,.slice (some (w,0)) m 4] d λe w'=>∃l,e=.returned l/\aU d w' l p (A++Box.head tag B.length++B)):=
  De (.slice I n cap) p A B (Box.head tag B.length) i i w.heap.size 0 m 4 d f.o.2.2.2.1 S rfl C (by have:=Q.o;omega) f.o.2.1 f.o.2.2.1 f.o.2.2.2.2.2 agR
 obtain⟨rfl,_,_,_,r,_⟩:=f.o
 have J:=hid r
 clear r H M m2 E f C
 go_wp2_with (go_at_call 123;refine X.o.mono ?_;rintro e w2 ⟨v2,rfl,R2⟩)
 go_wp2
 go_ret
 exact⟨_,rfl,by rw[Box.box,<-du];exact R2.before J.o⟩
def Xz(x:Int):Value:=ι x
def In64(x:Int):Prop:=-9223372036854775808<=x/\x<=9223372036854775807
theorem Jv{a:List Int}{k:Nat}(h:k<a.length):iy (a.take (k+1))=iy (a.take k)++bR a[k]:=by
 unfold iy;rw[dy h,eg,List.flatten_append];grind
theorem xC(a:List Int)(k):(iy (a.take k)).length<=10*k:=by
 grind [lg]
theorem sN(tag)(l):l.length<=(Box.box tag l).length:=by grind [Box.box]
theorem nH(tag)(l):(Box.box tag l).length<=l.length+4:=by rw[Box.box,cD,Box.pI];split<;>(try split)<;>omega
theorem nI(E)(p)(l)(d)(g m c:Nat)(w)(G:Out w E p l)(y:w.rangeAt g 0 (d.map Xz))(j:∀q,p=some q->g≠q.g)(u:Hid (d.length=m))(F:∀x∈d,In64 x)(M:m<=1000)(R:l.length<=800000):
  Calls prog 227 #[E,.slice (some (g,0)) m c] w λe w'=>∃v,e=.returned v/\aU w w' v p (l++iy d):=by
 have L:=hid y
 have K:=hid F
 have HB:=hid G
 have O:=hid j
 clear y F G j
 go_enter func227,ntmps227
 go_wp2
 go_loopw [0,9] (λo i wr=>∃k:Nat,k<=m/\i = ι k/\Hid (aU w wr o p (l++iy (d.take k)))) (λ_ i _=>m-(intOf i).toNat)
 case atStart=>grind [aU.refl,RowKit.Hid.o,iy]
 case round=>
  obtain⟨k,Q,rfl,h⟩:=hrel;by_cases t:k<m
  ·have a:k<d.length:=(by rw[u.o];exact t);obtain⟨I,D,n,z,A⟩:=h.o;obtain⟨x,b⟩:=aq (d[k]);have s:wr.cell? (g,k)=some (ι x):=by
    have B:=L.o k (Xz x) (by simp[a,b]);rw[cN]at B;refine n.cell B ?_;rintro⟨q,N,e,_⟩;exact O.o q N e
   have f:=K.o x (by rw[<-b];exact ef a);have H:=hid (qm _ I _ x wr D f.1 f.2 (by have:=xC d k;simp;omega));have J:=hid (And.intro n (And.intro z A));have C:=hid (Jv a);rw[b]at C;clear b f D n z A a h;go_wp2_with (go_at_call 248;refine H.o.mono ?_;rintro e w2 ⟨v2,rfl,P⟩)
   go_wp2;go_roundw
   case rel=>exact⟨k+1,by omega,by go_num,by show aU _ _ _ _ _;rw[C.o,<-du];exact aU.comp J.o P agI⟩
   case measure=>simp[intOf];omega
  ·have r:k=m:=agE;subst r;go_wp2;go_ret;exact⟨_,rfl,by have:=h.o;rw[cU (by rw[u.o];omega)]at this;exact this⟩
theorem xK(g)(p)(a)(key)(w)(b:Out w g p a)(q:a.length<=600000):
  Calls prog 252 #[g,υ key.toNat] w λe w'=>∃i,e=.returned i/\aU w w' i p (a++nC key):=by
 obtain⟨n,k⟩:=aq a.length
 have c:=hid k
 have l:=hid (yU g p a key 8 w b agE agE)
 obtain⟨z,cap,rfl,j,u,d,_⟩:=b.open c
 have t:n<=600000:=agE
 have HB:=hid b
 clear b d k q
 go_enter func252,ntmps252
 go_wp2_with (first
  |(go_at_call 124;refine l.o.mono ?_;rintro e y ⟨v1,rfl,s⟩;obtain⟨m,f,h⟩:=s;have r:=hid (And.intro f h);have v:=hid (oC v1 m a (Pure.be key 8) 4 n n y f c rfl (by rw[Pure.dm];omega) (by rw[c.o];omega));clear f h)
  |(go_at_call 228;refine v.o.mono ?_;rintro e w2 ⟨v2,rfl,x⟩))
 go_wp2
 go_ret
 refine⟨_,rfl,?_⟩
 refine aU.comp r.o.2 x ?_
 simp[nC,dw,Box.box]
theorem vK(m)(p)(A B)(key a draw)(x u:Int)(i)(w)(v:Out w m p (A++B))(l:Hid (A.length=i))(f:u=i)(H:Hid (x=a.toNat))(j:a.toNat<9223372036854775808)(s:B.length<=60000)(t:A.length<=600000):
  Calls prog 254 #[m,ι u,υ key.toNat,ι x,υ draw.toNat] w λe w'=>∃q,e=.returned q/\aU w w' q p (A++dw (Pure.fE key a draw (Box.box 48 B))):=by
 subst f
 have c:(Box.box 48 B).length<=B.length+4:=by rw[Box.box,cD,Box.pI];split<;>(try split)<;>omega
 have b:(Pure.fE key a draw (Box.box 48 B)).length=(Box.box 48 B).length+16:=Pure.dx _ _ _ _
 have H1:=hid (oC m p A B 48 i i w v l rfl agE agE)
 have F:=hid (And.intro c b)
 have h:=hid (And.intro s t)
 clear v c b s t
 go_enter func254,ntmps254
 go_wp2_with (first
  |(go_at_call 228;refine H1.o.mono ?_;clear H1;rintro e L ⟨v1,rfl,G⟩;obtain⟨z,k,n⟩:=G;have C:=hid (And.intro k n);have K:=hid (WE key a draw x v1 z A (Box.box 48 B) i i L k l rfl H j agR);clear k n)
  |(go_at_call 81;refine K.o.mono ?_;rintro e w2 ⟨v2,rfl,J⟩;obtain⟨y,d,r⟩:=J;have g:=hid (And.intro d r);have D:=hid (oC v2 y A (Pure.fE key a draw (Box.box 48 B)) 4 i i w2 d l rfl agR (by have:=h.o;omega));clear d r)
  |(go_at_call 228;refine D.o.mono ?_;rintro e w3 ⟨v3,rfl,E⟩))
 go_wp2
 go_ret
 refine⟨_,rfl,?_⟩
 refine aU.comp C.o.2 (aU.comp g.o.2 E ?_) ?_
 ·have:=sN 4 (Pure.fE key a draw (Box.box 48 B));rw[cD,cD];exact Nat.add_le_add_left this _
 ·have I:=sN 4 (Pure.fE key a draw (Box.box 48 B));have M:=F.o;rw[cD,cD];refine Nat.add_le_add_left (cE ?_ I) _;omega
theorem zu(A)(p)(d)(now a)(w)(h:Out w A p d)(P:In64 now)(b:In64 a)(G:d.length<=600000):
  Calls prog 188 #[A,ι now,ι a] w λe w'=>∃s,e=.returned s/\aU w w' s p (d++aY now a):=by
 obtain⟨n,C⟩:=aq d.length
 have i:=hid C
 obtain⟨Q,cap,rfl,z,K,k,_⟩:=h.open i
 have J:n<=600000:=agE
 obtain⟨W,j⟩:=aw (w.alloc (.cells #[ι 30,ι now,ι a] 2))
 have m:w.grownBy W none:=by grind [cx]
 have t:W.rangeAt w.heap.size 0 ([30,now,a].map Xz):=by rw[j];exact aS w _ _
 have f:∀q,p=some q->w.heap.size≠q.g:=λq L e=>by have:=h.KU q L;omega
 have D:=hid (nI _ p d [30,now,a] w.heap.size 3 3 W (h.grown m) t f (hid rfl) (by intro x B;simp at B;rcases B with rfl|rfl|rfl<;>first|assumption|(constructor<;>decide)) agE agE)
 have E:=hid m
 have M:=hid j
 have u:iy [30,now,a]=bR 30++(bR now++bR a):=by simp[iy]
 have c:=lg [30,now,a]
 simp only[de,List.length_nil]at c
 have v:=hid (And.intro u c)
 clear h k C G m t f j P b u c
 go_enter func188,ntmps188
 go_wp2_with (first
  |(go_at_call 227;rw[<-M.o];refine D.o.mono ?_;rintro e O ⟨v1,rfl,I⟩;obtain⟨F,l,r⟩:=I;have H:=hid (And.intro l r);have HB:=hid (oC v1 F d _ 48 n n O l i rfl (by have:=v.o.2;omega) (by rw[i.o];omega));clear l r)
  |(go_at_call 228;refine HB.o.mono ?_;rintro e w2 ⟨v2,rfl,N⟩))
 go_wp2
 go_ret
 refine⟨_,rfl,?_⟩
 have y:=(aU.comp H.o.2 N (by have:=sN 48 (iy [30,now,a]);rw[cD,cD];omega)).before E.o
 rw[v.o.1]at y
 simpa[aY,jN]using y
end Go.Proofs.YtlfifnpjeangmaaGreatDoor
