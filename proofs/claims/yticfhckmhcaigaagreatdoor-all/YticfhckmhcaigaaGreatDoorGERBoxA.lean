import Derived.Test.YticfhckmhcaigaaGreatDoorGEBoxM
import Derived.Test.YticfhckmhcaigaaGreatDoorGESeal
namespace Go.Proofs.YticfhckmhcaigaaGreatDoor
set_option maxHeartbeats 1000000
open Proofs.Tryz Go.RowKit
set_option maxRecDepth 100000
variable {p:Prop}
theorem sE(h:p:=by simpa using hown1):p:=h
theorem yy(h:p:=by grind [Hid.o,Box.head,Box.box]):p:=h
theorem xv(h:p:=by
 have R:w2.ownsRow w.1.size 5 1 v2 (Box.box tag zs).length ((Box.box tag zs).map U8):=by
  grind [Hid.o]
 clear hown1 hown2 hg2 G1
 go_wp2
 go_ret
 exact⟨_,rfl,R,G2⟩):p:=h
theorem uG(tag)(zs)(n)(q)(l)(w)(x:Hid (zs.length=n))(J:n<=65535)(m:Hid (q=none->l=0))(y:At w q zs):Calls prog 88 #[.int .u8 (tag.toNat:Int),.slice q n l] w λe a=>∃o,e=.returned o/\a.ownsRow w.1.size 5 1 o (Box.box tag zs).length ((Box.box tag zs).map U8)/\w.grownBy a none:=by
 obtain⟨r,f,g,j,k⟩:=info_parts Tryz.info5
 have a:=UT w 5 tag
 have p:w.grownBy (w.alloc (.cells #[.int .u8 (tag.toNat:Int)] 5)) none:=cy w _ none
 by_cases C:n<128
 .have t:(n:Int)<128:=G;have A:Hid (Box.box tag zs=[tag]++[UInt8.ofNat n]++zs):=by grind [Hid.o,Box.box,Box.head]
  go_in;go_wp2_with (at_builtin;refine bJ _ rfl _ _ 37 rfl w.1.size 5 r underlying37 f g j k _ _ _ rfl (a.alloc _) (some ⟨w.1.size+1,0,none⟩) 1 1 [UInt8.ofNat n] rfl rfl ?c1 ?c2 ?c3 ?c4 ?_)
  case c1=>intro h;cases h
  case c2=>exact vo w _ _ _ _ (by simp only[eN,fR,U8,ez];rw[eI G])
  case c3=>omega
  case c4=>simp;omega
  intro u B hown1 b _;have G1:=gI (aM p _) b (λi h=>(a.lt i h).1);have e:=y.below G1;have d:=G1.size;clear a b p;go_wp2_with (at_builtin;refine bJ _ rfl _ _ 37 rfl w.1.size 5 r underlying37 f g j k u (1+1) ([tag]++[UInt8.ofNat n]) rfl sE q n l zs rfl x m e G d ?_)
  intro v2 w2 hown2 hg2 _;have G2:w.grownBy w2 none:=(by grind [World.ownsRow.lt,gI])
  exact xv
 .by_cases D:n<256
  .have t:¬ (n:Int)<128:=G;have v:(n:Int)<256:=G;have A:Hid (Box.box tag zs=[tag]++[129,UInt8.ofNat n]++zs):=yy;go_in;go_wp2_with (at_builtin;refine bJ _ rfl _ _ 37 rfl w.1.size 5 r underlying37 f g j k _ _ _ rfl (a.alloc _) (some ⟨w.1.size+1,0,none⟩) 2 2 [129,UInt8.ofNat n] rfl rfl ?d1 ?d2 ?d3 ?d4 ?_)
   case d2=>exact vo w _ _ _ _ (by simp only[eN,fR,U8,ez];grind)
   case d4=>first|omega|(simp;omega)
   intro u B hown1 b _;have G1:=gI (aM p _) b (λi h=>(a.lt i h).1);have e:=y.below G1;have d:=G1.size;clear a b p;go_wp2_with (at_builtin;refine bJ _ rfl _ _ 37 rfl w.1.size 5 r underlying37 f g j k u (1+2) ([tag]++[129,UInt8.ofNat n]) rfl sE q n l zs rfl x m e G d ?_)
   intro v2 w2 hown2 hg2 _;have G2:w.grownBy w2 none:=(by grind [gI,World.ownsRow.lt])
   exact xv
  .have t:¬ (n:Int)<128:=G;have v:¬ (n:Int)<256:=G;have A:Hid (Box.box tag zs=[tag]++[130,UInt8.ofNat (n / 256),UInt8.ofNat (n % 256)]++zs):=yy;go_in;go_wp2_with (at_builtin;refine bJ _ rfl _ _ 37 rfl w.1.size 5 r underlying37 f g j k _ _ _ rfl (a.alloc _) (some ⟨w.1.size+1,0,none⟩) 3 3 [130,UInt8.ofNat (n / 256),UInt8.ofNat (n % 256)] rfl rfl ?e1 ?e2 ?e3 ?e4 ?_)
   case e2=>exact vo w _ _ _ _ (by simp only[eN,fR,U8,ez];grind)
   case e4=>first|omega|(simp;omega)
   intro u B hown1 b _;have G1:=gI (aM p _) b (λi h=>(a.lt i h).1);have e:=y.below G1;have d:=G1.size;clear a b p;go_wp2_with (at_builtin;refine bJ _ rfl _ _ 37 rfl w.1.size 5 r underlying37 f g j k u (1+3) ([tag]++[130,UInt8.ofNat (n / 256),UInt8.ofNat (n % 256)]) rfl sE q n l zs rfl x m e G d ?_)
   intro v2 w2 hown2 hg2 _;have G2:w.grownBy w2 none:=(by grind [World.ownsRow.lt,gI])
   exact xv
theorem qE(h:p:=by rw[hn];omega):p:=h
theorem ZG(m)(h:m<16):(⟨#[48,49,50,51,52,53,54,55,56,57,97,98,99,100,101,102]⟩:ByteArray).extract m (m+1)=⟨#[Box.NI m]⟩:=by
 have:∀m:Fin 16,((⟨#[48,49,50,51,52,53,54,55,56,57,97,98,99,100,101,102]⟩:ByteArray).extract m.val (m.val+1)).data.toList=[Box.NI m.val]:=by decide
 have a:=this ⟨m,h⟩;refine ByteArray.ext (Array.toList_inj.1 ?_);exact a
theorem JD{P:Program}(t)(a:P.underlying t=some .string)(x y)(m:Nat)(b:m<16)(d:x=(m:Int))(e:y=(m:Int)+1)(w):
  (Instr.sliceAt t (.string (⟨#[48,49,50,51,52,53,54,55,56,57,97,98,99,100,101,102]⟩:ByteArray)) (some (.int .u8 x)) (some (.int .u8 y)) none).run P w=.ok (.string ⟨#[Box.NI m]⟩) w:=by
 subst d e
 rw[run_sliceAt_string w t _ _ _ _ a,run_slice_string w t _ .u8 .u8 (m:Int) ((m:Int)+1) a G G (by show((m:Int)+1)<=16;omega),Int.toNat_natCast,show((m:Int)+1).toNat=m+1 from by omega,ZG m b]
theorem ZH(m)(h:m<16):List.take 1 (List.drop m [48,49,50,51,52,53,54,55,56,57,97,98,99,100,101,102])=[Box.NI m]:=by
 have:∀m:Fin 16,List.take 1 (List.drop m.val [48,49,50,51,52,53,54,55,56,57,97,98,99,100,101,102])=[Box.NI m.val]:=by decide
 exact this ⟨m,h⟩
theorem ZI:(⟨#[48,49,50,51,52,53,54,55,56,57,97,98,99,100,101,102]⟩:ByteArray).size=16:=rfl
theorem VY{a:E}{k:Nat}(h:k<a.length):Box.hex (a.take (k+1))=Box.hex (a.take k)++[Box.NI (a[k].toNat / 16),Box.NI (a[k].toNat % 16)]:=by
 rw[jV h,Box.ED];rfl
theorem UU(x)(a:0<=x)(b:x<256):IntKind.u8.wrap x=x:=by
 simp[IntKind.wrap,IntKind.bits,IntKind.signed];omega
theorem ZJ(a)(n)(g)(f)(w)(hn:Hid (a.length=n))(y:n<=100000)(r:At w g a):Calls prog 90 #[.slice g n f] w λe b=>e=.returned (.string ⟨(Box.hex a).toArray⟩)/\∃m,b=w.drewN m:=by
 go_in
 go_wp2
 go_loopw [4,5] (λs i wr=>∃k:Nat,k<=n/\i = Y k/\(∃b:ByteArray,s=.string b/\Hid (b=⟨(Box.hex (a.take k)).toArray⟩)/\b.size<=2*k)/\∃m,wr=w.drewN m) (λ_ i _=>n-(intOf i).toNat)
 case atStart=>exact⟨0,cS _,rfl,⟨_,rfl,rfl,by simp[ByteArray.size]⟩,0,rfl⟩
 case round=>
  obtain⟨k,x,rfl,⟨v,rfl,HS,q⟩,m,rfl⟩:=hrel;have e:v.size<=200000:=G;by_cases hlt:k<n
  .have d:k<a.length:=nB;obtain⟨b,u,rfl,h⟩:=r k d;have t:=(a[k]).toNat_lt;have i:(k:Int)<(n:Int):=G;have j:(0:Int)<=(k:Int):=G;have l:=λw=>JD (P:=prog) 9 underlying9 (IntKind.u8.wrap ((a[k].toNat:Int) / 16)) (IntKind.u8.wrap (IntKind.u8.wrap ((a[k].toNat:Int) / 16)+1)) (a[k].toNat / 16) G (by grind [UU]) (by grind [UU]) w;have p:=λw=>JD (P:=prog) 9 underlying9 (IntKind.u8.wrap ((a[k].toNat:Int) % 16)) (IntKind.u8.wrap (IntKind.u8.wrap ((a[k].toNat:Int) % 16)+1)) (a[k].toNat % 16) G (by grind [UU]) (by grind [UU]) w;go_wp2_with fail;go_quiet (fail)
   go_wp2;go_roundw
   case rel=>
    refine⟨k+1,by omega,by go_num,⟨_,rfl,?_,?_⟩,_,rfl⟩
    .show _=_;rw[HS,VY d];refine ByteArray.ext (Array.toList_inj.1 ?_);simp;grind [ZH]
    .simp[ByteArray.size_append,ZI];omega
   case measure=>simp[intOf];omega
  .go_wp2;go_ret;exact⟨by rw[HS,cW qE];rfl,_,rfl⟩
theorem Ds{k:Nat}(a:1<=k)(b:k<8):k=1\/k=2\/k=3\/k=4\/k=5\/k=6\/k=7:=by omega
theorem ad3{v:Int}{k:Nat}(d:-9223372036854775808<=v)(e:v<=9223372036854775807)(a:1<=k)(b:k<Box.size v):(wrap64 (v*2 ^ (64-8*k)) / 2 ^ (64-8*k) != v)=true:=by
 have f:=(kH v).2;rw[fs];unfold wrap64;rcases Ds a G with rfl|rfl|rfl|rfl|rfl|rfl|rfl<;>simp only[Nat.reduceMul,Nat.reduceSub,Int.reducePow]<;>unfold Box.size at b<;>(repeat' split at b)<;>omega
theorem ad4{v:Int}{k:Nat}(d:-9223372036854775808<=v)(e:v<=9223372036854775807)(a:k<8)(b:k=Box.size v):(wrap64 (v*2 ^ (64-8*k)) / 2 ^ (64-8*k) != v)=false:=by
 have f:=(kH v).1;rw[bne_eq_false_iff_eq];unfold wrap64;rcases Ds (k:=k) G a with rfl|rfl|rfl|rfl|rfl|rfl|rfl<;>simp only[Nat.reduceMul,Nat.reduceSub,Int.reducePow]<;>unfold Box.size at b<;>(repeat' split at b)<;>omega
theorem KK(h:p:=by
 have hjk:j=k:=G
 subst hjk
 obtain⟨a3,c3,rfl,_,_,hnc,kS⟩:=ig hown
 go_wp2_with fail
 refine(uG 2 (Box.low v j) j a3 c3 _ (Box.ny v j) G hnc kS).mono ?_
 rintro e w2 ⟨o,rfl,hown2,hg2⟩
 have G2:=aa hgr hg2
 have R2:=nO hown2 hsz
 clear hown hown2 hg2 hgr
 go_wp2
 go_ret
 exact⟨_,rfl,by rw[HK];exact R2,G2⟩):p:=h
theorem GO(h:p:=by
 refine⟨?_,gI (aM hgr _) hg1 (λi hi=>(hown.lt i hi).1)⟩
 rw[Box.qp]
 simpa using hown1):p:=h
theorem rY(v)(w)(A:-9223372036854775808<=v)(B:v<=9223372036854775807):Calls prog 62 #[Y v] w λe a=>∃o,e=.returned o/\a.ownsRow w.1.size 5 1 o (Box.box 2 (Box.low v (Box.size v))).length ((Box.box 2 (Box.low v (Box.size v))).map U8)/\w.grownBy a none:=by
 obtain⟨y,b,d,f,g⟩:=info_parts Tryz.info5
 go_in
 go_wp2
 go_loop [3] (λn=>∃k:Nat,1<=k/\k<=Box.size v/\n = Y k) (λn=>8-(intOf n).toNat)
 case atStart=>grind [kH]
 case round=>
  obtain⟨k,m,n,rfl⟩:=hrel;have r:=(kH v).2;by_cases u:k<Box.size v
  .have p:(k:Int)<8:=G;have x:=ad3 A B m u;go_wp2;go_round
   case rel=>exact⟨k+1,by omega,by omega,by go_num⟩
   case measure=>simp[intOf];omega
  .have a:k=Box.size v:=G;have HK:=I a.symm;have p:k<=8:=G;have x:Hid ((k:Int)<8->(wrap64 (v*2 ^ (64-8*k)) / 2 ^ (64-8*k) != v)=false):=(by grind [ad4])
   rw[a.symm];clear a n r u;by_cases C:(k:Int)<8
   .have J:=x C;go_wp2;go_loopw [4,5] (λo i wr=>∃j:Nat,j<=k/\i = Y ((k:Int)-1-j)/\wr.ownsRow w.1.size 5 1 o j ((Box.qp v k j).map U8)/\w.grownBy wr none) (λ_ i _=>(intOf i+1).toNat)
    case atStart=>exact⟨0,by omega,by go_num,World.ownsRow_nil _ _ _ _,cC _ _⟩
    case round=>
     obtain⟨j,D,rfl,hown,hgr⟩:=hrel;have hsz:=hgr.size;by_cases q:j<k
     .go_wp2_with (at_builtin;refine bJ _ rfl _ _ 37 rfl w.1.size 5 y underlying37 b d f g _ _ _ rfl (hown.alloc _) (some ⟨wr.1.size,0,none⟩) 1 1 [Box.mF v (k-1-j)] rfl rfl ?a1 ?a2 ?a3 ?a4 ?_)
      case a1=>intro h;cases h
      case a2=>exact dX wr _ _ _ (by simp only[eN,fR,U8];rw[JC])
      case a3=>omega
      case a4=>simp;omega
      intro t l hown1 hg1 _;have R:l.ownsRow w.1.size 5 1 t (j+1) ((Box.qp v k (j+1)).map U8)/\w.grownBy l none:=by
       exact GO
      clear hown hown1 hg1 hgr;exact ti
     .exact KK
   .go_wp2;go_loopw [4,5] (λo i wr=>∃j:Nat,j<=k/\i = Y ((k:Int)-1-j)/\wr.ownsRow w.1.size 5 1 o j ((Box.qp v k j).map U8)/\w.grownBy wr none) (λ_ i _=>(intOf i+1).toNat)
    case atStart=>exact⟨0,by omega,by go_num,World.ownsRow_nil _ _ _ _,cC _ _⟩
    case round=>
     obtain⟨j,D,rfl,hown,hgr⟩:=hrel;have hsz:=hgr.size;by_cases q:j<k
     .go_wp2_with (at_builtin;refine bJ _ rfl _ _ 37 rfl w.1.size 5 y underlying37 b d f g _ _ _ rfl (hown.alloc _) (some ⟨wr.1.size,0,none⟩) 1 1 [Box.mF v (k-1-j)] rfl rfl ?b1 ?b2 ?b3 ?b4 ?_)
      case b1=>intro h;cases h
      case b2=>exact dX wr _ _ _ (by simp only[eN,fR,U8];rw[JC])
      case b3=>omega
      case b4=>simp;omega
      intro t l hown1 hg1 _;have R:l.ownsRow w.1.size 5 1 t (j+1) ((Box.qp v k (j+1)).map U8)/\w.grownBy l none:=by
       exact GO
      clear hown hown1 hg1 hgr;exact ti
     .exact KK
theorem IX(l)(p)(b)(x)(v)(size:Nat)(w)(j:fA w l p b)(hx:IntKind.u64.wrap x=(v.toNat:Int))(B:size<=8)(A:b.length<=1000000):Calls prog 259 #[l,Y x,Y size] w λe d=>∃a,e=.returned a/\aU w d a p (b++Pure.be v size):=by
 obtain⟨q,n,e,f,g⟩:=info_parts Tryz.info5
 go_in
 go_wp2
 go_loopw [0,8] (λo i wr=>∃k:Nat,k<=size/\i = Y ((size:Int)-1-k)/\aU w wr o p (b++Pure.qi v size k)) (λ_ i _=>(intOf i+1).toNat)
 case atStart=>exact⟨0,cS _,by go_num,by simpa[Pure.uA]using aU.refl j⟩
 case round=>
  obtain⟨k,y,rfl,hbr⟩:=hrel;by_cases o:k<size
  .obtain⟨r,d,a⟩:=hbr;have h:=I a;clear a;have a:∀x,x=((Pure.ed v (size-1-k)).toNat:Int)->Src prog 1 37 (ς wr.1.size 0 1 1) 1 ([Pure.ed v (size-1-k)].map U8) (wr.alloc (.cells #[.int .u8 x] 5)):=by
    exact B6
   go_wp2_with (at_builtin;refine dJ _ rfl _ _ 37 37 rfl 5 q underlying37 n e f g _ _ r _ [Pure.ed v (size-1-k)] rfl rfl (d.grown (cy _ _ _)) 1 (a _ ?c1) ?c2 ?_)
   case c1=>exact oK v _
   case c2=>simp[Pure.kG];omega
   .intro t u i;have R:=aU.comp h (i.before (cy _ _ _)) Z;have m:aU w u t p (b++Pure.qi v size (k+1)):=(by rw[Pure.nE];simpa only [eg]using R);clear R i d j h;go_wp2;go_roundw
    case rel=>exact⟨k+1,by omega,by go_num,m⟩
    case measure=>simp[intOf];omega
  .exact A3
theorem tN(l)(p)(b)(x)(v)(size:Nat)(w)(j:fA w l p b)(hx:IntKind.u64.wrap x=(v.toNat:Int))(B:size<=8)(A:b.length<=1000000):Calls prog 150 #[l,Y x,Y size] w λe d=>∃a,e=.returned a/\aU w d a p (b++Pure.be v size):=by
 obtain⟨q,n,e,f,g⟩:=info_parts Tryz.info5
 go_in
 go_wp2
 go_loopw [0,8] (λo i wr=>∃k:Nat,k<=size/\i = Y ((size:Int)-1-k)/\aU w wr o p (b++Pure.qi v size k)) (λ_ i _=>(intOf i+1).toNat)
 case atStart=>exact⟨0,cS _,by go_num,by simpa[Pure.uA]using aU.refl j⟩
 case round=>
  obtain⟨k,y,rfl,hbr⟩:=hrel;by_cases o:k<size
  .obtain⟨r,d,a⟩:=hbr;have h:=I a;clear a;have a:∀x,x=((Pure.ed v (size-1-k)).toNat:Int)->Src prog 1 37 (ς wr.1.size 0 1 1) 1 ([Pure.ed v (size-1-k)].map U8) (wr.alloc (.cells #[.int .u8 x] 5)):=by
    exact B6
   go_wp2_with (at_builtin;refine dJ _ rfl _ _ 37 37 rfl 5 q underlying37 n e f g _ _ r _ [Pure.ed v (size-1-k)] rfl rfl (d.grown (cy _ _ _)) 1 (a _ ?c1) ?c2 ?_)
   case c1=>exact oK v _
   case c2=>simp[Pure.kG];omega
   .intro t u i;have R:=aU.comp h (i.before (cy _ _ _)) Z;have m:aU w u t p (b++Pure.qi v size (k+1)):=(by rw[Pure.nE];simpa only [eg]using R);clear R i d j h;go_wp2;go_roundw
    case rel=>exact⟨k+1,by omega,by go_num,m⟩
    case measure=>simp[intOf];omega
  .exact A3
