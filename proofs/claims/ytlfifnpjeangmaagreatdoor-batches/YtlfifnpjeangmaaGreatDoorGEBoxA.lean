import Derived.Deep.QuietTactic
import Derived.Test.YtlfifnpjeangmaaGreatDoorGEBoxM
namespace Go.Proofs.YtlfifnpjeangmaaGreatDoor
set_option maxHeartbeats 1000000
open Proofs.Tryz Go.RowKit
set_option maxRecDepth 100000
variable {p:Prop}
theorem ahf(h:p:=by rw[hn.o];omega):p:=h
theorem aht(h:p:=by rw[db];omega):p:=h
theorem ah2(h:p:=by rw[hn.o];exact h1):p:=h
theorem aio(h:p:=by rw[E0.o];omega):p:=h
theorem amu{x y:Int}{v2 v3:Value}(h:x=y):Ending.returned (.tuple #[ι x,v2,v3])=.returned (.tuple #[ι y,v2,v3]):=by rw[h]
theorem abp{v1 v2:Value}{x y:Bool}(h:x=y):Ending.returned (.tuple #[v1,v2,.bool x])=.returned (.tuple #[v1,v2,.bool y]):=by rw[h]
theorem wrap_small{x:Int}(b:-9223372036854775808<=x)(a:x<=9223372036854775807):IntKind.i64.wrap x=x:=by rw[IntKind.wrap_i64];omega
theorem bD{a b:Int}(h:a=b):Ending.returned (ι a)=.returned (ι b):=by rw[h]
theorem aeu(h:p:=by
 clear hc
 go_wp2
 go_ret
 exact⟨bD (by rw[cU ahf];unfold wrap64;rw[<-hr.o,IntKind.wrap_i64]),rfl⟩):p:=h
theorem Hw(x)(h)(zs)(n)(d)(cap)(w)(f:Hid (IntKind.u64.wrap x=h.toNat))(r)(hr:Hid (IntKind.i64.wrap ((Pure.joinL h zs).toNat:Int)=r))(hn:Hid (zs.length=n))(l:n<=140737488355328)(hc:At w d zs):
  Calls prog 190 #[ι x,.slice d n cap] w λe w'=>e=.returned (ι r)/\w=w':=by
 go_enter func190,ntmps190
 go_wp2
 go_loop [5,7,12] (λj _ i=>∃k:Nat,k<=n/\i = ι k/\j = υ ((Pure.joinL h (zs.take k)).toNat:Int)) (λ_ _ i=>n-(intOf i).toNat)
 case atStart=>exact⟨0,cS _,rfl,RV f.o⟩
 case round=>
  obtain⟨k,m,rfl,rfl⟩:=hrel;by_cases c:k<n
  ·have a:k<zs.length:=(by rw[hn.o];exact c);obtain⟨b,off,rfl,g⟩:=hc k a;clear hc;go_wp2;go_round
   case rel=>exact⟨k+1,by omega,by go_num,(by grind [lL,CZ,Pure.um])⟩
   case measure=>simp[intOf];omega
  ·exact aeu
theorem TA(x)(h)(zs)(n)(d)(cap)(w)(f:Hid (IntKind.u64.wrap x=h.toNat))(r)(hr:Hid (IntKind.i64.wrap ((Pure.joinL h zs).toNat:Int)=r))(hn:Hid (zs.length=n))(l:n<=140737488355328)(hc:At w d zs):
  Calls prog 191 #[ι x,.slice d n cap] w λe w'=>e=.returned (ι r)/\w=w':=by
 go_enter func191,ntmps191
 go_wp2
 go_loop [5,7,12] (λj _ i=>∃k:Nat,k<=n/\i = ι k/\j = υ ((Pure.joinL h (zs.take k)).toNat:Int)) (λ_ _ i=>n-(intOf i).toNat)
 case atStart=>exact⟨0,cS _,rfl,RV f.o⟩
 case round=>
  obtain⟨k,m,rfl,rfl⟩:=hrel;by_cases c:k<n
  ·have a:k<zs.length:=(by rw[hn.o];exact c);obtain⟨b,off,rfl,g⟩:=hc k a;clear hc;go_wp2;go_round
   case rel=>exact⟨k+1,by omega,by go_num,(by grind [CZ,lL,Pure.um])⟩
   case measure=>simp[intOf];omega
  ·exact aeu
theorem join_one(l:List UInt8)(h:2<=l.length):IntKind.i64.wrap ((Pure.joinL 0 ((l.drop 1).take 1)).toNat:Int)=((l.getD 1 0).toNat:Int):=by
 match l,h with
 |a::b::l,_=>
  have c:=b.toNat_lt;grind [IntKind.wrap_i64,Pure.pG]
theorem Xe(l:List UInt8)(h:3<=l.length):IntKind.i64.wrap ((Pure.joinL 0 ((l.drop 1).take 2)).toNat:Int)=(((l.getD 1 0).toNat*256+(l.getD 2 0).toNat:Nat):Int):=by
 match l,h with
 |a::b::c::l,_=>
  have d:=b.toNat_lt;have e:=c.toNat_lt;grind [IntKind.wrap_i64,Pure.pG]
theorem Le:Hid (IntKind.u64.wrap 0=((0:UInt64).toNat:Int)):=by show _=_;decide
theorem aa0(h:p:=by
 go_enter func153,ntmps153
 go_wp2
 go_ret3
 exact⟨λk r h=>by rw[HC.o]at h;simp at h,λ_=>⟨_,_,rfl⟩,⟨0,rfl⟩⟩):p:=h
theorem ae0(h:p:=by
 rw[HC.o,if_neg hge]
 exact⟨λk r h=>by simp at h,λh=>⟨_,_,abp ag2⟩,⟨_,rfl⟩⟩):p:=h
theorem Po(zs)(n)(I)(cap)(w)(hn:Hid (zs.length=n))(hl:n<=140737488355328)(a:n<=cap)(ad:cap<=9223372036854775807)(d:At w I zs):
  Calls prog 153 #[.slice I n cap] w λe w'=>
   (∀k r,Box.iJ zs=some (k,r)->∃P L,e=.returned (.tuple #[ι (k:Int),.slice P r.length L,.bool true])/\(∀R,At R I zs->At R P r)/\r.length<=L/\L<=cap)/\
   (Box.iJ zs=none->∃v V,e=.returned (.tuple #[v,V,.bool false]))/\∃m,w'=w.drewN m:=by
 by_cases h1:1<=n
 ·have Z:0<zs.length:=ah2;obtain⟨b,off,rfl,H⟩:=d 0 Z;have Q:zs.getD 0 0=zs[0]:=agM;have E0:=hid Q;clear Q;rw[ft]at H;generalize g:zs[0]=z0 at *;have HZ:=hid g;clear g;obtain⟨q,l,g,c,aa⟩:=info_parts Tryz.info5;have T:0<n:=h1;have Y:(0:Int)<(n:Int):=agE;by_cases hA:(z0.toNat:Int)<128
  ·obtain⟨u,j,p⟩:=kY 37 5 q underlying37 l c (some ⟨b,off,none⟩) n cap hn a 1 1 rfl h1;clear d;go_enter func153,ntmps153;go_wp2;go_quiet (fail)
   go_wp2;go_ret3;have hcut:Box.iJ zs=some (z0.toNat,zs.drop 1):=by
    rw[Box.iJ,if_pos ⟨by rw[hn.o];exact h1,by rw[E0.o];omega⟩,E0.o]
   have hz:=z0.toNat_lt;refine⟨λk r h=>?_,λh=>?_,⟨_,rfl⟩⟩
   ·rw[hcut]at h;simp only[fp,Prod.mk.injEq]at h;obtain⟨rfl,rfl⟩:=h;refine⟨u,cap-1,?_,p,by grind [RowKit.Hid.o],by omega⟩;rw[dr,hn.o];first|exact amu (by grind [wrap_small])|rfl
   ·rw[hcut]at h;simp at h
  ·have U:¬ z0.toNat<128:=agE;by_cases s:2<=n/\z0.toNat=129
   ·obtain⟨A,O⟩:=s;have hq:((z0.toNat:Int)==129)=true:=aht;have G:(2:Int)<=(n:Int):=agE;obtain⟨u,j,p⟩:=Df 37 5 q underlying37 l c (some ⟨b,off,none⟩) n cap hn a 1 2 1 2 rfl rfl agE A;obtain⟨M,E,D⟩:=kY 37 5 q underlying37 l c (some ⟨b,off,none⟩) n cap hn a 2 2 rfl A;have f:2<=zs.length:=(by rw[hn.o];exact A);have hcut:Box.iJ zs=if 128<=(zs.getD 1 0).toNat then some ((zs.getD 1 0).toNat,zs.drop 2) else none:=by
     rw[Box.iJ,if_neg aio,if_pos ⟨f,by rw[E0.o];exact O⟩]
    have HC:=hid hcut;have J:Hid (IntKind.i64.wrap ((Pure.joinL 0 ((zs.drop 1).take 1)).toNat:Int)=((zs.getD 1 0).toNat:Int)):=join_one zs f;have F:Hid (((zs.drop 1).take 1).length=1):=agM;have x:=(zs.getD 1 0).toNat_lt;have K:=p _ d;clear d hcut f O;generalize (zs.getD 1 0).toNat=z1 at *;go_enter func153,ntmps153;go_wp2_with (go_at_call 190;refine(Hw 0 0 ((zs.drop 1).take 1) 1 _ _ _ Le _ J F agE K).mono ?_;rintro e w' ⟨rfl,rfl⟩)
    go_quiet (fail)
    go_wp2;go_ret3;by_cases hge:128<=z1
    ·rw[HC.o,if_pos hge];refine⟨λk r h=>?_,(λh=>by simp at h),⟨_,rfl⟩⟩;simp only[fp,Prod.mk.injEq]at h;obtain⟨rfl,rfl⟩:=h;refine⟨M,cap-2,?_,D,by grind [RowKit.Hid.o],by omega⟩;rw[dr,hn.o];exact abp ag2
    ·exact ae0
   ·by_cases t:3<=n/\z0.toNat=130
    ·obtain⟨N,S⟩:=t;have y:((z0.toNat:Int)==129)=false:=agM;have hq:((z0.toNat:Int)==130)=true:=aht;have G:(3:Int)<=(n:Int):=agE;have X:(2:Int)<=(n:Int):=agE;obtain⟨u,j,p⟩:=Df 37 5 q underlying37 l c (some ⟨b,off,none⟩) n cap hn a 1 3 1 3 rfl rfl agE N;obtain⟨M,E,D⟩:=kY 37 5 q underlying37 l c (some ⟨b,off,none⟩) n cap hn a 3 3 rfl N;have i:3<=zs.length:=(by rw[hn.o];exact N);have hcut:Box.iJ zs=if 256<=(zs.getD 1 0).toNat*256+(zs.getD 2 0).toNat then some ((zs.getD 1 0).toNat*256+(zs.getD 2 0).toNat,zs.drop 3) else none:=by
      rw[Box.iJ,if_neg aio,if_neg aio,if_pos ⟨i,by rw[E0.o];exact S⟩]
     have HC:=hid hcut;have J:Hid (IntKind.i64.wrap ((Pure.joinL 0 ((zs.drop 1).take 2)).toNat:Int)=(((zs.getD 1 0).toNat*256+(zs.getD 2 0).toNat:Nat):Int)):=Xe zs i;have F:Hid (((zs.drop 1).take 2).length=2):=agM;have C:=(zs.getD 1 0).toNat_lt;have z:=(zs.getD 2 0).toNat_lt;have x:(zs.getD 1 0).toNat*256+(zs.getD 2 0).toNat<65536:=agE;have K:=p _ d;clear d hcut i S C z;generalize (zs.getD 1 0).toNat*256+(zs.getD 2 0).toNat=z1 at *;go_enter func153,ntmps153;go_wp2_with (go_at_call 190;refine(Hw 0 0 ((zs.drop 1).take 2) 2 _ _ _ Le _ J F agE K).mono ?_;rintro e w' ⟨rfl,rfl⟩)
     go_quiet (fail)
     go_wp2;go_ret3;by_cases hge:256<=z1
     ·rw[HC.o,if_pos hge];refine⟨λk r h=>?_,(λh=>by simp at h),⟨_,rfl⟩⟩;simp only[fp,Prod.mk.injEq]at h;obtain⟨rfl,rfl⟩:=h;refine⟨M,cap-3,?_,D,by grind [RowKit.Hid.o],by omega⟩;rw[dr,hn.o];exact abp ag2
     ·exact ae0
    ·have hcut:Box.iJ zs=none:=by
      have B:=hn.o;rw[Box.iJ,if_neg aio,if_neg aio,if_neg aio]
     have HC:=hid hcut;clear d hcut;by_cases n2:n<2
     ·have n3:n<3:=agE;clear s t;exact aa0
     ·have y:((z0.toNat:Int)==129)=false:=agM;by_cases n3:n<3
      ·clear s t;exact aa0
      ·have ab:((z0.toNat:Int)==130)=false:=agM;clear s t;exact aa0
 ·have W:n=0:=agE;subst W;have hcut:Box.iJ zs=none:=by
   have B:=hn.o;rw[Box.iJ,if_neg agE,if_neg agE,if_neg agE]
  have HC:=hid hcut;clear d hcut;exact aa0
theorem gy{b:Func}{t u v x:Tmp}(h:b.results=#[.tmp t,.tmp u,.tmp v,.tmp x])(a)(P)(w):
  (results b a).run P w=.ok (.tuple #[a.getD t undef,a.getD u undef,a.getD v undef,a.getD x undef]) w:=by
 simp[results,h]
theorem ad2(h:p:=by
 (try simp only[Exit.inBlock,Exit.then])
 refine bodyPost_ret (gy rfl _ _ _) rfl ?_
 exact⟨λtag i r h=>by rw[HC.o]at h;simp at h,λ_=>rfl,⟨_,rfl⟩⟩):p:=h
theorem abq(zs)(n)(D)(cap)(w)(hn:Hid (zs.length=n))(hl:n<=140737488355328)(t:n<=cap)(Z:cap<=9223372036854775807)(l:At w D zs):
  Calls prog 126 #[.slice D n cap] w λe w'=>
   (∀tag i r,Box.cut zs=some (tag,i,r)->∃z F P L,e=.returned (.tuple #[.int .u8 tag.toNat,.slice z i.length F,.slice P r.length L,.bool true])/\(∀u,At u D zs->At u z i)/\i.length<=F/\F<=cap/\(∀u,At u D zs->At u P r)/\r.length<=L/\L<=cap)/\
   (Box.cut zs=none->e=.returned (.tuple #[.int .u8 0,.slice none 0 0,.slice none 0 0,.bool false]))/\∃m,w'=w.drewN m:=by
 by_cases h1:1<=n
 ·have C:0<zs.length:=ah2;obtain⟨b,off,rfl,I⟩:=l 0 C;have E0:Hid (zs.getD 0 0=zs[0]):=by show _=_;grind
  rw[ft]at I;generalize s:zs[0]=z0 at *;clear s;obtain⟨M,K,s,j,Y⟩:=info_parts Tryz.info5;have Q:0<n:=h1;have W:(0:Int)<(n:Int):=agE;have aa:((n:Int)==0)=false:=agM;obtain⟨z,q,ji⟩:=kY 37 5 M underlying37 K j (some ⟨b,off,none⟩) n cap hn t 1 1 rfl h1;have O:Hid ((zs.drop 1).length=n-1):=by show _=_;rw[dr,hn.o]
  have c:=Po (zs.drop 1) (n-1) z (cap-1) w O agE agE agE (ji _ l);have B:¬ zs.length=0:=agE;cases a:Box.iJ (zs.drop 1)with
  |none=>
   have hcut:Box.cut zs=none:=(by rw[Box.cut,if_neg B,a]);have HC:=hid hcut;rw[a]at c;clear l hcut a B C;go_enter func126,ntmps126;go_wp2_with (go_at_call 153;refine c.mono ?_;rintro e w' ⟨_,f,m,rfl⟩;obtain⟨v,v',rfl⟩:=f rfl)
   exact ad2
  |some kr=>
   obtain⟨k,r⟩:=kr;have y:=Box.xH a;rw[O.o]at y;by_cases A:k<=r.length
   ·have hcut:Box.cut zs=some (z0,r.take k,r.drop k):=(by grind [RowKit.Hid.o,Box.cut]);have HC:=hid hcut;rw[a]at c;clear l hcut a B C;obtain⟨N,g⟩:=aw r.length;rw[<-g]at y A;have G:¬ ((N:Int)<(k:Int)):=agE;have E:=hid g.symm;clear g;go_enter func126,ntmps126;go_wp2_with fail;refine c.mono ?_;rintro e w' ⟨f,_,m,rfl⟩;obtain⟨J,x,rfl,p,d,H⟩:=f k r rfl;rw[E.o]at d⊢;obtain⟨b1,T,U⟩:=yT 37 5 M underlying37 K j J N x E d k k rfl A;obtain⟨R,X,V⟩:=kY 37 5 M underlying37 K j J N x E d k k rfl A;clear c f q;go_wp2_with fail;go_quiet (fail)
    go_wp2;(try simp only[Exit.inBlock,Exit.then]);refine bodyPost_ret (gy rfl _ _ _) rfl ?_;refine⟨λtag i r' h=>?_,(λh=>by rw[HC.o]at h;simp at h),⟨m+nq,by rw[World.drewN_drewN]⟩⟩;rw[HC.o]at h;simp only[fp,Prod.mk.injEq]at h;obtain⟨rfl,rfl,rfl⟩:=h;refine⟨b1,x,R,x - k,?_,agM,?_,by omega,agM,?_,by omega⟩
    ·rw[ep,dr,E.o,gh A];rfl
    ·rw[ep];omega
    grind [RowKit.Hid.o]
   ·have hcut:Box.cut zs=none:=(by grind [Box.cut]);have HC:=hid hcut;rw[a]at c;clear l hcut a B C;have G:((r.length:Int)<(k:Int)):=agE;go_enter func126,ntmps126;go_wp2_with fail;refine c.mono ?_;rintro e w' ⟨f,_,m,rfl⟩;obtain⟨J,x,rfl,p,d,H⟩:=f k r rfl;clear c f q;go_wp2_with fail;exact ad2
 ·have S:n=0:=agE;subst S;have hcut:Box.cut zs=none:=by rw[Box.cut,if_pos hn.o]
  have HC:=hid hcut;clear l hcut;go_enter func126,ntmps126;go_wp2;(try simp only[Exit.inBlock,Exit.then]);refine bodyPost_ret (gy rfl _ _ _) rfl ?_;exact⟨λtag i r h=>by rw[HC.o]at h;simp at h,λ_=>rfl,⟨0,rfl⟩⟩
set_option maxHeartbeats 2000000
theorem ag9(h:p:=by unfold wrap64;omega):p:=h
theorem abV:∀k,k<63->bits .or .i64 (wrap64 ((2 ^ k-1)*2)) 1=2 ^ (k+1)-1:=by decide +kernel
theorem XT:∀k,k<63->1<=k->(2 ^ k-1:Int)<wrap64 ((2 ^ k-1)*2):=by decide +kernel
theorem XU:¬ ((2 ^ 63-1:Int)<wrap64 ((2 ^ 63-1)*2)):=by decide +kernel
theorem Uf:∀k,k<63->(9223372036854775807-(2 ^ (k+1)-1):Int).toNat<(9223372036854775807-(2 ^ k-1):Int).toNat:=by decide +kernel
theorem uB(w):Calls prog 245 #[] w λe w'=>e=.returned (ι 9223372036854775807)/\w'=w:=by
 go_enter func245,ntmps245;go_wp2;go_loopw [1] (λv wr=>∃k:Nat,1<=k/\k<=63/\v = ι (2 ^ k-1)/\wr=w) (λv _=>(9223372036854775807-intOf v).toNat)
 case atStart=>exact⟨1,by omega,by omega,rfl,rfl⟩
 case round=>
  obtain⟨k,b,c,rfl,rfl⟩:=hrel;by_cases a:k<63
  ·have f:=XT k a b;have h:=abV k a;have d:=hid (Uf k a);go_wp2;go_roundw
   case rel=>grind
   case measure=>exact d.o
  ·obtain rfl:k=63:=by omega
   have g:=XU;clear b c a;go_wp2;go_ret;exact⟨rfl,rfl⟩
theorem Im(w):Calls prog 246 #[] w λe w'=>e=.returned (ι (-9223372036854775808))/\w'=w:=by
 go_enter func246,ntmps246;go_wp2_with (go_at_call 245;refine(uB _).mono ?_;rintro e w' ⟨rfl,rfl⟩)
 go_ret;exact⟨rfl,rfl⟩
theorem Io{a b:Int}(d:-9223372036854775808<=a+b)(c:a+b<=9223372036854775807):aW a b=a+b/\wrap64 (a+b)=a+b:=by
 refine⟨?_,by unfold wrap64;omega⟩;unfold aW sat;rw[if_neg agE,if_neg agE]
theorem Ip{a b:Int}(d:-9223372036854775808<=a-b)(c:a-b<=9223372036854775807):fV a b=a-b/\wrap64 (a-b)=a-b:=by
 refine⟨?_,by unfold wrap64;omega⟩;unfold fV sat;rw[if_neg agE,if_neg agE]
theorem aaI(h:p:=by
 go_ret
 exact⟨bD (by rw[HR.o]),rfl⟩):p:=h
theorem Cm(a b)(w)(j:-9223372036854775808<=a)(i:a<=9223372036854775807)(p:-9223372036854775808<=b)(n:b<=9223372036854775807):
  Calls prog 221 #[ι a,ι b] w λe w'=>e=.returned (ι (aW a b))/\w'=w:=by
 by_cases d:a+b < -9223372036854775808
 ·have c:b<0:=agE;have g:¬ 0<b:=agE;have hw:wrap64 (a+b)=a+b+18446744073709551616:=ag9;have m:a<a+b+18446744073709551616:=agE;have HR:Hid (aW a b=-9223372036854775808):=by show _=_;unfold aW sat;rw[if_pos d]
  clear d;go_enter func221,ntmps221;go_wp2_with (go_at_call 246;refine(Im _).mono ?_;rintro e w' ⟨rfl,rfl⟩)
  exact aaI
 ·by_cases f:9223372036854775807<a+b
  ·have c:0<b:=agE;have hw:wrap64 (a+b)=a+b-18446744073709551616:=ag9;have m:a+b-18446744073709551616<a:=agE;have HR:Hid (aW a b=9223372036854775807):=(by show _=_;unfold aW sat;rw[if_neg d,if_pos f]);clear d f;go_enter func221,ntmps221;go_wp2_with (go_at_call 245;refine(uB _).mono ?_;rintro e w' ⟨rfl,rfl⟩)
   exact aaI
  ·obtain⟨h,hw⟩:=Io (a:=a) (b:=b) agE agE;have HR:=hid h;clear h d f;rcases Int.lt_trichotomy b 0 with c|c|c
   ·have g:¬ 0<b:=agE;have k:¬ a<a+b:=agE;go_enter func221,ntmps221;go_wp2;exact aaI
   ·subst c;have l:Hid (aW a 0=a):=HR.o.trans (Int.add_zero a);go_enter func221,ntmps221;go_wp2;go_ret;exact⟨bD l.o.symm,rfl⟩
   ·have g:¬ b<0:=agE;have k:¬ a+b<a:=agE;go_enter func221,ntmps221;go_wp2;exact aaI
theorem rC(a b)(w)(j:-9223372036854775808<=a)(i:a<=9223372036854775807)(p:-9223372036854775808<=b)(n:b<=9223372036854775807):
  Calls prog 247 #[ι a,ι b] w λe w'=>e=.returned (ι (fV a b))/\w'=w:=by
 by_cases d:a-b < -9223372036854775808
 ·have c:0<b:=agE;have g:¬ b<0:=agE;have hw:wrap64 (a-b)=a-b+18446744073709551616:=ag9;have m:a<a-b+18446744073709551616:=agE;have HR:Hid (fV a b=-9223372036854775808):=by show _=_;unfold fV sat;rw[if_pos d]
  clear d;go_enter func247,ntmps247;go_wp2_with (go_at_call 246;refine(Im _).mono ?_;rintro e w' ⟨rfl,rfl⟩)
  exact aaI
 ·by_cases f:9223372036854775807<a-b
  ·have c:b<0:=agE;have hw:wrap64 (a-b)=a-b-18446744073709551616:=ag9;have m:a-b-18446744073709551616<a:=agE;have HR:Hid (fV a b=9223372036854775807):=(by show _=_;unfold fV sat;rw[if_neg d,if_pos f]);clear d f;go_enter func247,ntmps247;go_wp2_with (go_at_call 245;refine(uB _).mono ?_;rintro e w' ⟨rfl,rfl⟩)
   exact aaI
  ·obtain⟨h,hw⟩:=Ip (a:=a) (b:=b) agE agE;have HR:=hid h;clear h d f;rcases Int.lt_trichotomy b 0 with c|c|c
   ·have g:¬ 0<b:=agE;have k:¬ a-b<a:=agE;go_enter func247,ntmps247;go_wp2;exact aaI
   ·subst c;have l:Hid (fV a 0=a):=HR.o.trans (Int.sub_zero a);go_enter func247,ntmps247;go_wp2;go_ret;exact⟨bD l.o.symm,rfl⟩
   ·have g:¬ b<0:=agE;have k:¬ a<a-b:=agE;go_enter func247,ntmps247;go_wp2;exact aaI
theorem Ug(a b)(w)(f:-9223372036854775808<=a)(d:a<=9223372036854775807)(g:-9223372036854775808<=b)(c:b<=9223372036854775807):
  Calls prog 236 #[ι a,ι b] w λe w'=>e=.returned (ι (dU a b))/\w'=w:=by
 by_cases h:a<b
 ·have HR:Hid (dU a b=fV b a):=by show _=_;unfold dU;rw[if_pos h]
  go_enter func236,ntmps236;go_wp2_with (go_at_call 247;refine(rC b a _ g c f d).mono ?_;rintro e w' ⟨rfl,rfl⟩)
  exact aaI
 ·have HR:Hid (dU a b=fV a b):=by show _=_;unfold dU;rw[if_neg h]
  go_enter func236,ntmps236;go_wp2_with (go_at_call 247;refine(rC a b _ f d g c).mono ?_;rintro e w' ⟨rfl,rfl⟩)
  exact aaI
end Go.Proofs.YtlfifnpjeangmaaGreatDoor
