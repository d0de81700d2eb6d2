import Derived.Test.YtlfifnpjeangmaaGreatDoorGEBoxM
import Derived.Test.YtlfifnpjeangmaaGreatDoorGESeal
namespace Go.Proofs.YtlfifnpjeangmaaGreatDoor
set_option maxHeartbeats 1000000
open Proofs.Tryz Go.RowKit
set_option maxRecDepth 100000
variable {p:Prop}
theorem sg(h:p:=by simpa using hown1):p:=h
theorem ya(h:p:=by grind [Hid.o,Box.head,Box.box]):p:=h
theorem wv(h:p:=by
 have R:w2.ownsRow w.1.size 5 1 v2 (Box.box tag zs).length ((Box.box tag zs).map U8):=by
  grind [Hid.o]
 clear hown1 hown2 hg2 G1
 go_wp2
 go_ret
 exact⟨_,rfl,R,G2⟩):p:=h
theorem tN(tag)(zs)(n)(q)(l)(w)(x:Hid (zs.length=n))(J:n<=65535)(m:Hid (q=none->l=0))(y:At w q zs):Calls prog 88 #[.int .u8 (tag.toNat:Int),.slice q n l] w λe a=>∃o,e=.returned o/\a.ownsRow w.1.size 5 1 o (Box.box tag zs).length ((Box.box tag zs).map U8)/\w.grownBy a none:=by
 obtain⟨r,f,g,j,k⟩:=info_parts Tryz.info5
 have a:=Si w 5 tag
 have p:w.grownBy (w.alloc (.cells #[.int .u8 (tag.toNat:Int)] 5)) none:=cx w _ none
 by_cases C:n<128
 .have t:(n:Int)<128:=G;have A:Hid (Box.box tag zs=[tag]++[UInt8.ofNat n]++zs):=by grind [Hid.o,Box.box,Box.head]
  go_in;go_wp2_with (at_builtin;refine bW _ rfl _ _ 37 rfl w.1.size 5 r underlying37 f g j k _ _ _ rfl (a.alloc _) (some ⟨w.1.size+1,0,none⟩) 1 1 [UInt8.ofNat n] rfl rfl ?c1 ?c2 ?c3 ?c4 ?_)
  case c1=>intro h;cases h
  case c2=>exact uB w _ _ _ _ (by simp only[eE,fy,U8,eo];rw[ez G])
  case c3=>omega
  case c4=>simp;omega
  intro u B hown1 b _;have G1:=gD (aM p _) b (λi h=>(a.lt i h).1);have e:=y.below G1;have d:=G1.size;clear a b p;go_wp2_with (at_builtin;refine bW _ rfl _ _ 37 rfl w.1.size 5 r underlying37 f g j k u (1+1) ([tag]++[UInt8.ofNat n]) rfl sg q n l zs rfl x m e G d ?_)
  intro v2 w2 hown2 hg2 _;have G2:w.grownBy w2 none:=(by grind [World.ownsRow.lt,gD])
  exact wv
 .by_cases D:n<256
  .have t:¬ (n:Int)<128:=G;have v:(n:Int)<256:=G;have A:Hid (Box.box tag zs=[tag]++[129,UInt8.ofNat n]++zs):=ya;go_in;go_wp2_with (at_builtin;refine bW _ rfl _ _ 37 rfl w.1.size 5 r underlying37 f g j k _ _ _ rfl (a.alloc _) (some ⟨w.1.size+1,0,none⟩) 2 2 [129,UInt8.ofNat n] rfl rfl ?d1 ?d2 ?d3 ?d4 ?_)
   case d2=>exact uB w _ _ _ _ (by simp only[eE,fy,U8,eo];grind)
   case d4=>first|omega|(simp;omega)
   intro u B hown1 b _;have G1:=gD (aM p _) b (λi h=>(a.lt i h).1);have e:=y.below G1;have d:=G1.size;clear a b p;go_wp2_with (at_builtin;refine bW _ rfl _ _ 37 rfl w.1.size 5 r underlying37 f g j k u (1+2) ([tag]++[129,UInt8.ofNat n]) rfl sg q n l zs rfl x m e G d ?_)
   intro v2 w2 hown2 hg2 _;have G2:w.grownBy w2 none:=(by grind [gD,World.ownsRow.lt])
   exact wv
  .have t:¬ (n:Int)<128:=G;have v:¬ (n:Int)<256:=G;have A:Hid (Box.box tag zs=[tag]++[130,UInt8.ofNat (n / 256),UInt8.ofNat (n % 256)]++zs):=ya;go_in;go_wp2_with (at_builtin;refine bW _ rfl _ _ 37 rfl w.1.size 5 r underlying37 f g j k _ _ _ rfl (a.alloc _) (some ⟨w.1.size+1,0,none⟩) 3 3 [130,UInt8.ofNat (n / 256),UInt8.ofNat (n % 256)] rfl rfl ?e1 ?e2 ?e3 ?e4 ?_)
   case e2=>exact uB w _ _ _ _ (by simp only[eE,fy,U8,eo];grind)
   case e4=>first|omega|(simp;omega)
   intro u B hown1 b _;have G1:=gD (aM p _) b (λi h=>(a.lt i h).1);have e:=y.below G1;have d:=G1.size;clear a b p;go_wp2_with (at_builtin;refine bW _ rfl _ _ 37 rfl w.1.size 5 r underlying37 f g j k u (1+3) ([tag]++[130,UInt8.ofNat (n / 256),UInt8.ofNat (n % 256)]) rfl sg q n l zs rfl x m e G d ?_)
   intro v2 w2 hown2 hg2 _;have G2:w.grownBy w2 none:=(by grind [World.ownsRow.lt,gD])
   exact wv
variable {k:Nat}
theorem BQ(a:1<=k)(b:k<8):k=1\/k=2\/k=3\/k=4\/k=5\/k=6\/k=7:=by omega
theorem T3{v:Int}(d:-9223372036854775808<=v)(e:v<=9223372036854775807)(a:1<=k)(b:k<Box.size v):(wrap64 (v*2 ^ (64-8*k)) / 2 ^ (64-8*k) != v)=true:=by
 have f:=(jX v).2;rw[fj];unfold wrap64;rcases BQ a G with rfl|rfl|rfl|rfl|rfl|rfl|rfl<;>simp only[Nat.reduceMul,Nat.reduceSub,Int.reducePow]<;>unfold Box.size at b<;>(repeat' split at b)<;>omega
theorem T2{v:Int}(d:-9223372036854775808<=v)(e:v<=9223372036854775807)(a:k<8)(b:k=Box.size v):(wrap64 (v*2 ^ (64-8*k)) / 2 ^ (64-8*k) != v)=false:=by
 have f:=(jX v).1;rw[bne_eq_false_iff_eq];unfold wrap64;rcases BQ (k:=k) G a with rfl|rfl|rfl|rfl|rfl|rfl|rfl<;>simp only[Nat.reduceMul,Nat.reduceSub,Int.reducePow]<;>unfold Box.size at b<;>(repeat' split at b)<;>omega
theorem JR(h:p:=by
 have hjk:j=k:=G
 subst hjk
 obtain⟨a3,c3,rfl,_,_,hnc,mM⟩:=iZ hown
 go_wp2_with fail
 refine(tN 2 (Box.low v j) j a3 c3 _ (Box.mQ v j) G hnc mM).mono ?_
 rintro e w2 ⟨o,rfl,hown2,hg2⟩
 have G2:=aa hgr hg2
 have R2:=nA hown2 hsz
 clear hown hown2 hg2 hgr
 go_wp2
 go_ret
 exact⟨_,rfl,by rw[HK];exact R2,G2⟩):p:=h
theorem Fc(h:p:=by
 refine⟨?_,gD (aM hgr _) hg1 (λi hi=>(hown.lt i hi).1)⟩
 rw[Box.pM]
 simpa using hown1):p:=h
theorem ru(v)(w)(A:-9223372036854775808<=v)(B:v<=9223372036854775807):Calls prog 62 #[Y v] w λe a=>∃o,e=.returned o/\a.ownsRow w.1.size 5 1 o (Box.box 2 (Box.low v (Box.size v))).length ((Box.box 2 (Box.low v (Box.size v))).map U8)/\w.grownBy a none:=by
 obtain⟨y,b,d,f,g⟩:=info_parts Tryz.info5
 go_in
 go_wp2
 go_loop [3] (λn=>∃k:Nat,1<=k/\k<=Box.size v/\n = Y k) (λn=>8-(intOf n).toNat)
 case atStart=>grind [jX]
 case round=>
  obtain⟨k,m,n,rfl⟩:=hrel;have r:=(jX v).2;by_cases u:k<Box.size v
  .have p:(k:Int)<8:=G;have x:=T3 A B m u;go_wp2;go_round
   case rel=>exact⟨k+1,by omega,by omega,by go_num⟩
   case measure=>simp[intOf];omega
  .have a:k=Box.size v:=G;have HK:=I a.symm;have p:k<=8:=G;have x:Hid ((k:Int)<8->(wrap64 (v*2 ^ (64-8*k)) / 2 ^ (64-8*k) != v)=false):=(by grind [T2])
   rw[a.symm];clear a n r u;by_cases C:(k:Int)<8
   .have J:=x C;go_wp2;go_loopw [4,5] (λo i wr=>∃j:Nat,j<=k/\i = Y ((k:Int)-1-j)/\wr.ownsRow w.1.size 5 1 o j ((Box.pM v k j).map U8)/\w.grownBy wr none) (λ_ i _=>(intOf i+1).toNat)
    case atStart=>exact⟨0,by omega,by go_num,World.ownsRow_nil _ _ _ _,cC _ _⟩
    case round=>
     obtain⟨j,D,rfl,hown,hgr⟩:=hrel;have hsz:=hgr.size;by_cases q:j<k
     .go_wp2_with (at_builtin;refine bW _ rfl _ _ 37 rfl w.1.size 5 y underlying37 b d f g _ _ _ rfl (hown.alloc _) (some ⟨wr.1.size,0,none⟩) 1 1 [Box.l9 v (k-1-j)] rfl rfl ?a1 ?a2 ?a3 ?a4 ?_)
      case a1=>intro h;cases h
      case a2=>exact fw wr _ _ _ (by simp only[eE,fy,U8];rw[Hw])
      case a3=>omega
      case a4=>simp;omega
      intro t l hown1 hg1 _;have R:l.ownsRow w.1.size 5 1 t (j+1) ((Box.pM v k (j+1)).map U8)/\w.grownBy l none:=by
       exact Fc
      clear hown hown1 hg1 hgr;exact te
     .exact JR
   .go_wp2;go_loopw [4,5] (λo i wr=>∃j:Nat,j<=k/\i = Y ((k:Int)-1-j)/\wr.ownsRow w.1.size 5 1 o j ((Box.pM v k j).map U8)/\w.grownBy wr none) (λ_ i _=>(intOf i+1).toNat)
    case atStart=>exact⟨0,by omega,by go_num,World.ownsRow_nil _ _ _ _,cC _ _⟩
    case round=>
     obtain⟨j,D,rfl,hown,hgr⟩:=hrel;have hsz:=hgr.size;by_cases q:j<k
     .go_wp2_with (at_builtin;refine bW _ rfl _ _ 37 rfl w.1.size 5 y underlying37 b d f g _ _ _ rfl (hown.alloc _) (some ⟨wr.1.size,0,none⟩) 1 1 [Box.l9 v (k-1-j)] rfl rfl ?b1 ?b2 ?b3 ?b4 ?_)
      case b1=>intro h;cases h
      case b2=>exact fw wr _ _ _ (by simp only[eE,fy,U8];rw[Hw])
      case b3=>omega
      case b4=>simp;omega
      intro t l hown1 hg1 _;have R:l.ownsRow w.1.size 5 1 t (j+1) ((Box.pM v k (j+1)).map U8)/\w.grownBy l none:=by
       exact Fc
      clear hown hown1 hg1 hgr;exact te
     .exact JR
theorem Gg(l)(p)(b)(x)(v)(size:Nat)(w)(j:f' w l p b)(hx:IntKind.u64.wrap x=(v.toNat:Int))(B:size<=8)(A:b.length<=1000000):Calls prog 259 #[l,Y x,Y size] w λe d=>∃a,e=.returned a/\aU w d a p (b++Pure.be v size):=by
 obtain⟨q,n,e,f,g⟩:=info_parts Tryz.info5
 go_in
 go_wp2
 go_loopw [0,8] (λo i wr=>∃k:Nat,k<=size/\i = Y ((size:Int)-1-k)/\aU w wr o p (b++Pure.pI v size k)) (λ_ i _=>(intOf i+1).toNat)
 case atStart=>exact⟨0,cS _,by go_num,by simpa[Pure.tJ]using aU.refl j⟩
 case round=>
  obtain⟨k,y,rfl,hbr⟩:=hrel;by_cases o:k<size
  .obtain⟨r,d,a⟩:=hbr;have h:=I a;clear a;have a:∀x,x=((Pure.dW v (size-1-k)).toNat:Int)->Src prog 1 37 (ς wr.1.size 0 1 1) 1 ([Pure.dW v (size-1-k)].map U8) (wr.alloc (.cells #[.int .u8 x] 5)):=by
    exact AM
   go_wp2_with (at_builtin;refine dK _ rfl _ _ 37 37 rfl 5 q underlying37 n e f g _ _ r _ [Pure.dW v (size-1-k)] rfl rfl (d.grown (cx _ _ _)) 1 (a _ ?c1) ?c2 ?_)
   case c1=>exact nY v _
   case c2=>simp[Pure.jW];omega
   .intro t u i;have R:=aU.comp h (i.before (cx _ _ _)) Z;have m:aU w u t p (b++Pure.pI v size (k+1)):=(by rw[Pure.mU];simpa only [du]using R);clear R i d j h;go_wp2;go_roundw
    case rel=>exact⟨k+1,by omega,by go_num,m⟩
    case measure=>simp[intOf];omega
  .exact An
theorem sw(l)(p)(b)(x)(v)(size:Nat)(w)(j:f' w l p b)(hx:IntKind.u64.wrap x=(v.toNat:Int))(B:size<=8)(A:b.length<=1000000):Calls prog 150 #[l,Y x,Y size] w λe d=>∃a,e=.returned a/\aU w d a p (b++Pure.be v size):=by
 obtain⟨q,n,e,f,g⟩:=info_parts Tryz.info5
 go_in
 go_wp2
 go_loopw [0,8] (λo i wr=>∃k:Nat,k<=size/\i = Y ((size:Int)-1-k)/\aU w wr o p (b++Pure.pI v size k)) (λ_ i _=>(intOf i+1).toNat)
 case atStart=>exact⟨0,cS _,by go_num,by simpa[Pure.tJ]using aU.refl j⟩
 case round=>
  obtain⟨k,y,rfl,hbr⟩:=hrel;by_cases o:k<size
  .obtain⟨r,d,a⟩:=hbr;have h:=I a;clear a;have a:∀x,x=((Pure.dW v (size-1-k)).toNat:Int)->Src prog 1 37 (ς wr.1.size 0 1 1) 1 ([Pure.dW v (size-1-k)].map U8) (wr.alloc (.cells #[.int .u8 x] 5)):=by
    exact AM
   go_wp2_with (at_builtin;refine dK _ rfl _ _ 37 37 rfl 5 q underlying37 n e f g _ _ r _ [Pure.dW v (size-1-k)] rfl rfl (d.grown (cx _ _ _)) 1 (a _ ?c1) ?c2 ?_)
   case c1=>exact nY v _
   case c2=>simp[Pure.jW];omega
   .intro t u i;have R:=aU.comp h (i.before (cx _ _ _)) Z;have m:aU w u t p (b++Pure.pI v size (k+1)):=(by rw[Pure.mU];simpa only [du]using R);clear R i d j h;go_wp2;go_roundw
    case rel=>exact⟨k+1,by omega,by go_num,m⟩
    case measure=>simp[intOf];omega
  .exact An
