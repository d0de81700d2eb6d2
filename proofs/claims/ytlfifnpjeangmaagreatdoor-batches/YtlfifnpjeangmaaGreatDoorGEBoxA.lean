import Derived.Deep.QuietTactic
import Derived.Test.YtlfifnpjeangmaaGreatDoorGEBoxM
namespace Go.Proofs.YtlfifnpjeangmaaGreatDoor
set_option maxHeartbeats 1000000
open Proofs.Tryz Go.RowKit
set_option maxRecDepth 100000
variable {p:Prop}
theorem ri(h:p:=by rw[hn];omega):p:=h
theorem pS(h:p:=by rw[db];omega):p:=h
theorem sf(h:p:=by rw[hn];exact h1):p:=h
theorem rX(h:p:=by rw[E0];omega):p:=h
theorem L'{x y:Int}{a b:Value}(h:x=y):Ending.returned (.tuple #[Y x,a,b])=.returned (.tuple #[Y y,a,b]):=by rw[h]
theorem A5{a b:Value}{x y:Bool}(h:x=y):Ending.returned (.tuple #[a,b,.bool x])=.returned (.tuple #[a,b,.bool y]):=by rw[h]
theorem BC{x:Int}(a:-9223372036854775808<=x)(b:x<=9223372036854775807):IntKind.i64.wrap x=x:=by rw[IntKind.wrap_i64];omega
theorem bD{a b:Int}(h:a=b):Ending.returned (Y a)=.returned (Y b):=by rw[h]
theorem GG(h:p:=by
 clear hc
 go_wp2
 go_ret
 exact⟨bD (by rw[cU ri];unfold wrap64;rw[<-hr,IntKind.wrap_i64]),rfl⟩):p:=h
theorem H7(x)(h)(d)(n)(g)(f)(w)(j:Hid (IntKind.u64.wrap x=h.toNat))(r)(hr:Hid (IntKind.i64.wrap ((Pure.joinL h d).toNat:Int)=r))(hn:Hid (d.length=n))(p:n<=140737488355328)(hc:At w g d):Calls prog 190 #[Y x,.slice g n f] w λe a=>e=.returned (Y r)/\w=a:=by
 go_in
 go_wp2
 go_loop [5,7,12] (λa _ i=>∃k:Nat,k<=n/\i = Y k/\a = H ((Pure.joinL h (d.take k)).toNat:Int)) (λ_ _ i=>n-(intOf i).toNat)
 case atStart=>exact⟨0,cS _,rfl,Sc j⟩
 case round=>
  obtain⟨k,m,rfl,rfl⟩:=hrel;by_cases e:k<n
  .have a:k<d.length:=(by rw[hn];exact e);obtain⟨b,l,rfl,i⟩:=hc k a;clear hc;go_wp2;go_round
   case rel=>exact⟨k+1,by omega,by go_num,(by grind [lL,De,Pure.uw])⟩
   case measure=>simp[intOf];omega
  .exact GG
theorem TP(x)(h)(d)(n)(g)(f)(w)(j:Hid (IntKind.u64.wrap x=h.toNat))(r)(hr:Hid (IntKind.i64.wrap ((Pure.joinL h d).toNat:Int)=r))(hn:Hid (d.length=n))(p:n<=140737488355328)(hc:At w g d):Calls prog 191 #[Y x,.slice g n f] w λe a=>e=.returned (Y r)/\w=a:=by
 go_in
 go_wp2
 go_loop [5,7,12] (λa _ i=>∃k:Nat,k<=n/\i = Y k/\a = H ((Pure.joinL h (d.take k)).toNat:Int)) (λ_ _ i=>n-(intOf i).toNat)
 case atStart=>exact⟨0,cS _,rfl,Sc j⟩
 case round=>
  obtain⟨k,m,rfl,rfl⟩:=hrel;by_cases e:k<n
  .have a:k<d.length:=(by rw[hn];exact e);obtain⟨b,l,rfl,i⟩:=hc k a;clear hc;go_wp2;go_round
   case rel=>exact⟨k+1,by omega,by go_num,(by grind [De,lL,Pure.uw])⟩
   case measure=>simp[intOf];omega
  .exact GG
theorem LR(l:E)(h:2<=l.length):IntKind.i64.wrap ((Pure.joinL 0 ((l.drop 1).take 1)).toNat:Int)=((l.getD 1 0).toNat:Int):=by
 match l,h with
 |a::b::l,_=>
  have d:=b.toNat_lt;grind [IntKind.wrap_i64,Pure.pJ]
theorem Xz(l:E)(h:3<=l.length):IntKind.i64.wrap ((Pure.joinL 0 ((l.drop 1).take 2)).toNat:Int)=(((l.getD 1 0).toNat*256+(l.getD 2 0).toNat:Nat):Int):=by
 match l,h with
 |a::b::c::l,_=>
  have d:=b.toNat_lt;have e:=c.toNat_lt;grind [IntKind.wrap_i64,Pure.pJ]
theorem Lm:Hid (IntKind.u64.wrap 0=((0:UInt64).toNat:Int)):=by show _=_;decide
theorem wg(h:p:=by
 go_in
 go_wp2
 go_ret3
 exact⟨λk r h=>by rw[HC]at h;simp at h,λ_=>⟨_,_,rfl⟩,⟨0,rfl⟩⟩):p:=h
theorem E2(h:p:=by
 rw[HC,cZ hge]
 exact⟨λk r h=>by simp at h,λh=>⟨_,_,A5 j'⟩,⟨_,rfl⟩⟩):p:=h
theorem PD(a)(n)(L)(d)(w)(hn:Hid (a.length=n))(hl:n<=140737488355328)(f:n<=d)(ab:d<=9223372036854775807)(j:At w L a):Calls prog 153 #[.slice L n d] w λe V=>
   (∀k r,Box.iJ a=some (k,r)->∃g b,e=.returned (.tuple #[Y (k:Int),.slice g r.length b,.bool true])/\(∀i,At i L a->At i g r)/\r.length<=b/\b<=d)/\
   (Box.iJ a=none->∃v b,e=.returned (.tuple #[v,b,.bool false]))/\∃m,V=w.drewN m:=by
 by_cases h1:1<=n
 .have hp:0<a.length:=sf;obtain⟨b,i,rfl,P⟩:=j 0 hp;have g:a.getD 0 0=a[0]:=fA;have E0:=I g;clear g;rw[ft]at P;generalize m:a[0]=z0 at *;have HZ:=I m;clear m;obtain⟨t,p,m,g,ag⟩:=info_parts Tryz.info5;have ad:0<n:=h1;have ae:(0:Int)<(n:Int):=G;by_cases hA:(z0.toNat:Int)<128
  .obtain⟨C,q,u⟩:=kZ 37 5 t underlying37 p g (some ⟨b,i,none⟩) n d hn f 1 1 rfl h1;clear j;go_in;go_wp2;go_quiet (fail)
   go_wp2;go_ret3;have hcut:Box.iJ a=some (z0.toNat,a.drop 1):=by
    rw[Box.iJ,dT ⟨by rw[hn.o];exact h1,by rw[E0.o];omega⟩,E0.o]
   have l:=z0.toNat_lt;refine⟨λk r h=>?_,λh=>?_,⟨_,rfl⟩⟩
   .rw[hcut]at h;simp only[fp,Prod.mk.injEq]at h;obtain⟨rfl,rfl⟩:=h;refine⟨C,d-1,?_,u,by grind [Hid.o],by omega⟩;rw[dr,hn];first|exact L' (by grind [BC])|rfl
   .rw[hcut]at h;simp at h
  .have X:¬ z0.toNat<128:=G;by_cases v:2<=n/\z0.toNat=129
   .obtain⟨J,K⟩:=v;have hq:((z0.toNat:Int)==129)=true:=pS;have Q:(2:Int)<=(n:Int):=G;obtain⟨C,q,u⟩:=Dj 37 5 t underlying37 p g (some ⟨b,i,none⟩) n d hn f 1 2 1 2 rfl rfl G J;obtain⟨D,S,U⟩:=kZ 37 5 t underlying37 p g (some ⟨b,i,none⟩) n d hn f 2 2 rfl J;have l:2<=a.length:=(by rw[hn];exact J);have hcut:Box.iJ a=if 128<=(a.getD 1 0).toNat then some ((a.getD 1 0).toNat,a.drop 2) else none:=by
     rw[Box.iJ,cZ rX,dT ⟨l,by rw[E0.o];exact K⟩]
    have HC:=I hcut;have A:Hid (IntKind.i64.wrap ((Pure.joinL 0 ((a.drop 1).take 1)).toNat:Int)=((a.getD 1 0).toNat:Int)):=LR a l;have y:Hid (((a.drop 1).take 1).length=1):=fA;have T:=(a.getD 1 0).toNat_lt;have B:=u _ j;clear j hcut l K;generalize (a.getD 1 0).toNat=z1 at *;go_in;go_wp2_with (go_at_call 190;refine(H7 0 0 ((a.drop 1).take 1) 1 _ _ _ Lm _ A y G B).mono ?_;rintro e V ⟨rfl,rfl⟩)
    go_quiet (fail)
    go_wp2;go_ret3;by_cases hge:128<=z1
    .rw[HC,dT hge];refine⟨λk r h=>?_,(λh=>by simp at h),⟨_,rfl⟩⟩;simp only[fp,Prod.mk.injEq]at h;obtain⟨rfl,rfl⟩:=h;refine⟨D,d-2,?_,U,by grind [Hid.o],by omega⟩;rw[dr,hn];exact A5 j'
    .exact E2
   .by_cases x:3<=n/\z0.toNat=130
    .obtain⟨M,W⟩:=x;have R:((z0.toNat:Int)==129)=false:=fA;have hq:((z0.toNat:Int)==130)=true:=pS;have Q:(3:Int)<=(n:Int):=G;have af:(2:Int)<=(n:Int):=G;obtain⟨C,q,u⟩:=Dj 37 5 t underlying37 p g (some ⟨b,i,none⟩) n d hn f 1 3 1 3 rfl rfl G M;obtain⟨D,S,U⟩:=kZ 37 5 t underlying37 p g (some ⟨b,i,none⟩) n d hn f 3 3 rfl M;have l:3<=a.length:=(by rw[hn];exact M);have hcut:Box.iJ a=if 256<=(a.getD 1 0).toNat*256+(a.getD 2 0).toNat then some ((a.getD 1 0).toNat*256+(a.getD 2 0).toNat,a.drop 3) else none:=by
      rw[Box.iJ,cZ rX,cZ rX,dT ⟨l,by rw[E0.o];exact W⟩]
     have HC:=I hcut;have A:Hid (IntKind.i64.wrap ((Pure.joinL 0 ((a.drop 1).take 2)).toNat:Int)=(((a.getD 1 0).toNat*256+(a.getD 2 0).toNat:Nat):Int)):=Xz a l;have y:Hid (((a.drop 1).take 2).length=2):=fA;have J:=(a.getD 1 0).toNat_lt;have K:=(a.getD 2 0).toNat_lt;have T:(a.getD 1 0).toNat*256+(a.getD 2 0).toNat<65536:=G;have B:=u _ j;clear j hcut l W J K;generalize (a.getD 1 0).toNat*256+(a.getD 2 0).toNat=z1 at *;go_in;go_wp2_with (go_at_call 190;refine(H7 0 0 ((a.drop 1).take 2) 2 _ _ _ Lm _ A y G B).mono ?_;rintro e V ⟨rfl,rfl⟩)
     go_quiet (fail)
     go_wp2;go_ret3;by_cases hge:256<=z1
     .rw[HC,dT hge];refine⟨λk r h=>?_,(λh=>by simp at h),⟨_,rfl⟩⟩;simp only[fp,Prod.mk.injEq]at h;obtain⟨rfl,rfl⟩:=h;refine⟨D,d-3,?_,U,by grind [Hid.o],by omega⟩;rw[dr,hn];exact A5 j'
     .exact E2
    .have hcut:Box.iJ a=none:=by
      have e:=hn.o;rw[Box.iJ,cZ rX,cZ rX,cZ rX]
     have HC:=I hcut;clear j hcut;by_cases y:n<2
     .have u:n<3:=G;clear v x;exact wg
     .have R:((z0.toNat:Int)==129)=false:=fA;by_cases u:n<3
      .clear v x;exact wg
      .have l:((z0.toNat:Int)==130)=false:=fA;clear v x;exact wg
 .have q:n=0:=G;subst q;have hcut:Box.iJ a=none:=by
   have e:=hn.o;rw[Box.iJ,cZ G,cZ G,cZ G]
  have HC:=I hcut;clear j hcut;exact wg
theorem gG{b:Func}{t u v x:Tmp}(h:b.results=#[.tmp t,.tmp u,.tmp v,.tmp x])(a)(P)(w):
  (results b a).run P w=.ok (.tuple #[a.getD t undef,a.getD u undef,a.getD v undef,a.getD x undef]) w:=by
 simp[results,h]
theorem F0(h:p:=by
 (try simp only[Exit.inBlock,Exit.then])
 refine bodyPost_ret (gG rfl _ _ _) rfl ?_
 exact⟨λtag i r h=>by rw[HC]at h;simp at h,λ_=>rfl,⟨_,rfl⟩⟩):p:=h
theorem T1(a)(n)(D)(g)(w)(hn:Hid (a.length=n))(hl:n<=140737488355328)(x:n<=g)(ae:g<=9223372036854775807)(q:At w D a):Calls prog 126 #[.slice D n g] w λe M=>
   (∀tag i r,Box.cut a=some (tag,i,r)->∃C d j f,e=.returned (.tuple #[.int .u8 (tag.toNat:Int),.slice C i.length d,.slice j r.length f,.bool true])/\(∀b,At b D a->At b C i)/\i.length<=d/\d<=g/\(∀b,At b D a->At b j r)/\r.length<=f/\f<=g)/\
   (Box.cut a=none->e=.returned (.tuple #[.int .u8 0,σ,σ,.bool false]))/\∃m,M=w.drewN m:=by
 by_cases h1:1<=n
 .have L:0<a.length:=sf;obtain⟨b,V,rfl,Q⟩:=q 0 L;have E0:Hid (a.getD 0 0=a[0]):=by show _=_;grind
  rw[ft]at Q;generalize A:a[0]=z0 at *;clear A;obtain⟨U,S,A,p,ak⟩:=info_parts Tryz.info5;have ag:0<n:=h1;have ah:(0:Int)<(n:Int):=G;have af:((n:Int)==0)=false:=fA;obtain⟨C,y,jm⟩:=kZ 37 5 U underlying37 S p (some ⟨b,V,none⟩) n g hn x 1 1 rfl h1;have X:Hid ((a.drop 1).length=n-1):=by show _=_;rw[dr,hn]
  have d:=PD (a.drop 1) (n-1) C (g-1) w X G G G (jm _ q);have J:¬ a.length=0:=G;cases f:Box.iJ (a.drop 1)with
  |none=>
   have hcut:Box.cut a=none:=(by rw[Box.cut,cZ J,f]);have HC:=I hcut;rw[f]at d;clear q hcut f J L;go_in;go_wp2_with (go_at_call 153;refine d.mono ?_;rintro e M ⟨_,l,m,rfl⟩;obtain⟨v,j,rfl⟩:=l rfl)
   exact F0
  |some kr=>
   obtain⟨k,r⟩:=kr;have v:=Box.xK f;rw[X]at v;by_cases K:k<=r.length
   .have hcut:Box.cut a=some (z0,r.take k,r.drop k):=(by grind [Hid.o,Box.cut]);have HC:=I hcut;rw[f]at d;clear q hcut f J L;obtain⟨W,j⟩:=aw r.length;rw[<-j]at v K;have T:¬ ((W:Int)<(k:Int)):=G;have B:=I j.symm;clear j;go_in;go_wp2_with fail;refine d.mono ?_;rintro e M ⟨l,_,m,rfl⟩;obtain⟨P,t,rfl,u,j,R⟩:=l k r rfl;rw[B]at j⊢;obtain⟨b1,ai,ab⟩:=yV 37 5 U underlying37 S p P W t B j k k rfl K;obtain⟨b2,aj,ad⟩:=kZ 37 5 U underlying37 S p P W t B j k k rfl K;clear d l y;go_wp2_with fail;go_quiet (fail)
    go_wp2;(try simp only[Exit.inBlock,Exit.then]);refine bodyPost_ret (gG rfl _ _ _) rfl ?_;refine⟨λtag i r' h=>?_,(λh=>by rw[HC]at h;simp at h),⟨m+nq,by rw[World.drewN_drewN]⟩⟩;rw[HC]at h;simp only[fp,Prod.mk.injEq]at h;obtain⟨rfl,rfl,rfl⟩:=h;refine⟨b1,t,b2,t - k,?_,fA,?_,by omega,fA,?_,by omega⟩
    .rw[ep,dr,B,gh K];rfl
    .rw[ep];omega
    grind [Hid.o]
   .have hcut:Box.cut a=none:=(by grind [Box.cut]);have HC:=I hcut;rw[f]at d;clear q hcut f J L;have T:((r.length:Int)<(k:Int)):=G;go_in;go_wp2_with fail;refine d.mono ?_;rintro e M ⟨l,_,m,rfl⟩;obtain⟨P,t,rfl,u,j,R⟩:=l k r rfl;clear d l y;go_wp2_with fail;exact F0
 .have l:n=0:=G;subst l;have hcut:Box.cut a=none:=by rw[Box.cut,dT hn.o]
  have HC:=I hcut;clear q hcut;go_in;go_wp2;(try simp only[Exit.inBlock,Exit.then]);refine bodyPost_ret (gG rfl _ _ _) rfl ?_;exact⟨λtag i r h=>by rw[HC]at h;simp at h,λ_=>rfl,⟨0,rfl⟩⟩
set_option maxHeartbeats 2000000
theorem n8(h:p:=by unfold wrap64;omega):p:=h
theorem T5:∀k,k<63->bits .or .i64 (wrap64 ((2 ^ k-1)*2)) 1=2 ^ (k+1)-1:=by decide +kernel
theorem Yh:∀k,k<63->1<=k->(2 ^ k-1:Int)<wrap64 ((2 ^ k-1)*2):=by decide +kernel
theorem Yi:¬ ((2 ^ 63-1:Int)<wrap64 ((2 ^ 63-1)*2)):=by decide +kernel
theorem Ur:∀k,k<63->(9223372036854775807-(2 ^ (k+1)-1):Int).toNat<(9223372036854775807-(2 ^ k-1):Int).toNat:=by decide +kernel
theorem uF(w):Calls prog 245 #[] w λe a=>e=.returned (Y 9223372036854775807)/\a=w:=by
 go_in;go_wp2;go_loopw [1] (λv wr=>∃k:Nat,1<=k/\k<=63/\v = Y (2 ^ k-1)/\wr=w) (λv _=>(9223372036854775807-intOf v).toNat)
 case atStart=>exact⟨1,by omega,by omega,rfl,rfl⟩
 case round=>
  obtain⟨k,b,e,rfl,rfl⟩:=hrel;by_cases a:k<63
  .have f:=Yh k a b;have g:=T5 k a;have d:=I (Ur k a);go_wp2;go_roundw
   case rel=>grind
   case measure=>exact d.o
  .obtain rfl:k=63:=by omega
   have d:=Yi;clear b e a;go_wp2;go_ret;exact⟨rfl,rfl⟩
theorem Iq(w):Calls prog 246 #[] w λe a=>e=.returned (Y (-9223372036854775808))/\a=w:=by
 go_in;go_wp2_with (go_at_call 245;refine(uF _).mono ?_;rintro e a ⟨rfl,rfl⟩)
 go_ret;exact⟨rfl,rfl⟩
theorem Ir{a b:Int}(d:-9223372036854775808<=a+b)(e:a+b<=9223372036854775807):aW a b=a+b/\wrap64 (a+b)=a+b:=by
 refine⟨?_,by unfold wrap64;omega⟩;unfold aW mG;rw[cZ G,cZ G]
theorem Iu{a b:Int}(d:-9223372036854775808<=a-b)(e:a-b<=9223372036854775807):gq a b=a-b/\wrap64 (a-b)=a-b:=by
 refine⟨?_,by unfold wrap64;omega⟩;unfold gq mG;rw[cZ G,cZ G]
theorem lP(h:p:=by
 go_ret
 exact⟨bD (by rw[HR]),rfl⟩):p:=h
theorem Cr(a b)(w)(l:-9223372036854775808<=a)(m:a<=9223372036854775807)(n:-9223372036854775808<=b)(p:b<=9223372036854775807):Calls prog 221 #[Y a,Y b] w λe h=>e=.returned (Y (aW a b))/\h=w:=by
 by_cases f:a+b < -9223372036854775808
 .have d:b<0:=G;have j:¬ 0<b:=G;have hw:wrap64 (a+b)=a+b+18446744073709551616:=n8;have k:a<a+b+18446744073709551616:=G;have HR:Hid (aW a b=-9223372036854775808):=by show _=_;unfold aW mG;rw[dT f]
  clear f;go_in;go_wp2_with (go_at_call 246;refine(Iq _).mono ?_;rintro e h ⟨rfl,rfl⟩)
  exact lP
 .by_cases g:9223372036854775807<a+b
  .have d:0<b:=G;have hw:wrap64 (a+b)=a+b-18446744073709551616:=n8;have k:a+b-18446744073709551616<a:=G;have HR:Hid (aW a b=9223372036854775807):=(by show _=_;unfold aW mG;rw[cZ f,dT g]);clear f g;go_in;go_wp2_with (go_at_call 245;refine(uF _).mono ?_;rintro e h ⟨rfl,rfl⟩)
   exact lP
  .obtain⟨i,hw⟩:=Ir (a:=a) (b:=b) G G;have HR:=I i;clear i f g;rcases Int.lt_trichotomy b 0 with d|d|d
   .have j:¬ 0<b:=G;have h:¬ a<a+b:=G;go_in;go_wp2;exact lP
   .subst d;have e:Hid (aW a 0=a):=HR.o.trans (Int.add_zero a);go_in;go_wp2;go_ret;exact⟨bD e.o.symm,rfl⟩
   .have j:¬ b<0:=G;have h:¬ a+b<a:=G;go_in;go_wp2;exact lP
theorem rE(a b)(w)(l:-9223372036854775808<=a)(m:a<=9223372036854775807)(n:-9223372036854775808<=b)(p:b<=9223372036854775807):Calls prog 247 #[Y a,Y b] w λe h=>e=.returned (Y (gq a b))/\h=w:=by
 by_cases f:a-b < -9223372036854775808
 .have d:0<b:=G;have j:¬ b<0:=G;have hw:wrap64 (a-b)=a-b+18446744073709551616:=n8;have k:a<a-b+18446744073709551616:=G;have HR:Hid (gq a b=-9223372036854775808):=by show _=_;unfold gq mG;rw[dT f]
  clear f;go_in;go_wp2_with (go_at_call 246;refine(Iq _).mono ?_;rintro e h ⟨rfl,rfl⟩)
  exact lP
 .by_cases g:9223372036854775807<a-b
  .have d:b<0:=G;have hw:wrap64 (a-b)=a-b-18446744073709551616:=n8;have k:a-b-18446744073709551616<a:=G;have HR:Hid (gq a b=9223372036854775807):=(by show _=_;unfold gq mG;rw[cZ f,dT g]);clear f g;go_in;go_wp2_with (go_at_call 245;refine(uF _).mono ?_;rintro e h ⟨rfl,rfl⟩)
   exact lP
  .obtain⟨i,hw⟩:=Iu (a:=a) (b:=b) G G;have HR:=I i;clear i f g;rcases Int.lt_trichotomy b 0 with d|d|d
   .have j:¬ 0<b:=G;have h:¬ a-b<a:=G;go_in;go_wp2;exact lP
   .subst d;have e:Hid (gq a 0=a):=HR.o.trans (Int.sub_zero a);go_in;go_wp2;go_ret;exact⟨bD e.o.symm,rfl⟩
   .have j:¬ b<0:=G;have h:¬ a<a-b:=G;go_in;go_wp2;exact lP
theorem Ut(a b)(w)(d:-9223372036854775808<=a)(f:a<=9223372036854775807)(g:-9223372036854775808<=b)(i:b<=9223372036854775807):Calls prog 236 #[Y a,Y b] w λe j=>e=.returned (Y (dU a b))/\j=w:=by
 by_cases h:a<b
 .have HR:Hid (dU a b=gq b a):=by show _=_;unfold dU;rw[dT h]
  go_in;go_wp2_with (go_at_call 247;refine(rE b a _ g i d f).mono ?_;rintro e j ⟨rfl,rfl⟩)
  exact lP
 .have HR:Hid (dU a b=gq a b):=by show _=_;unfold dU;rw[cZ h]
  go_in;go_wp2_with (go_at_call 247;refine(rE a b _ d f g i).mono ?_;rintro e j ⟨rfl,rfl⟩)
  exact lP
