import Derived.Test.YtlfifnpjeangmaaGreatDoorGEBoxM
import Derived.Test.YtlfifnpjeangmaaGreatDoorGESeal
namespace Go.Proofs.YtlfifnpjeangmaaGreatDoor
set_option maxHeartbeats 1000000
open Proofs.Tryz Go.RowKit
set_option maxRecDepth 100000
variable {p:Prop}
theorem ah0(h:p:=by simpa using hown1):p:=h
theorem aiy(h:p:=by grind [RowKit.Hid.o,Box.head,Box.box]):p:=h
theorem aaP(h:p:=by
 have R:w2.ownsRow w.heap.size 5 1 v2 (Box.box tag zs).length ((Box.box tag zs).map U8):=by
  grind [RowKit.Hid.o]
 clear hown1 hown2 hg2 G1
 go_wp2
 go_ret
 exact⟨_,rfl,R,G2⟩):p:=h
theorem tK(tag)(zs)(n)(p)(cap)(w)(hn:Hid (zs.length=n))(z:n<=65535)(l:Hid (p=none->cap=0))(u:At w p zs):
  Calls prog 88 #[.int .u8 tag.toNat,.slice p n cap] w λe w'=>∃o,e=.returned o/\w'.ownsRow w.heap.size 5 1 o (Box.box tag zs).length ((Box.box tag zs).map U8)/\w.grownBy w' none:=by
 obtain⟨q,f,j,k,g⟩:=info_parts Tryz.info5
 have a:=RY w 5 tag
 have m:w.grownBy (w.alloc (.cells #[.int .u8 tag.toNat] 5)) none:=cx w _ none
 by_cases A:n<128
 ·have s:(n:Int)<128:=agE;have v:Hid (Box.box tag zs=[tag]++[UInt8.ofNat n]++zs):=by grind [RowKit.Hid.o,Box.box,Box.head]
  go_enter func88,ntmps88;go_wp2_with (at_builtin;refine bV _ rfl _ _ 37 rfl w.heap.size 5 q underlying37 f j k g _ _ _ rfl (a.alloc _) (some ⟨w.heap.size+1,0,none⟩) 1 1 [UInt8.ofNat n] rfl rfl ?c1 ?c2 ?c3 ?c4 ?_)
  case c1=>intro h;cases h
  case c2=>exact uw w _ _ _ _ (by simp only[eE,fy,U8,eo];rw[ez agE])
  case c3=>omega
  case c4=>simp;omega
  intro v1 x hown1 b _;have G1:=gu (aM m _) b (λi r=>(a.lt i r).1);have c:=u.below G1;have d:=G1.size;clear a b m;go_wp2_with (at_builtin;refine bV _ rfl _ _ 37 rfl w.heap.size 5 q underlying37 f j k g v1 (1+1) ([tag]++[UInt8.ofNat n]) rfl ah0 p n cap zs rfl hn.o l.o c agE d ?_)
  intro v2 w2 hown2 hg2 _;have G2:w.grownBy w2 none:=(by grind [World.ownsRow.lt,gu])
  exact aaP
 ·by_cases y:n<256
  ·have s:¬ (n:Int)<128:=agE;have t:(n:Int)<256:=agE;have v:Hid (Box.box tag zs=[tag]++[129,UInt8.ofNat n]++zs):=aiy;go_enter func88,ntmps88;go_wp2_with (at_builtin;refine bV _ rfl _ _ 37 rfl w.heap.size 5 q underlying37 f j k g _ _ _ rfl (a.alloc _) (some ⟨w.heap.size+1,0,none⟩) 2 2 [129,UInt8.ofNat n] rfl rfl ?d1 ?d2 ?d3 ?d4 ?_)
   case d2=>exact uw w _ _ _ _ (by simp only[eE,fy,U8,eo];grind)
   case d4=>first|omega|(simp;omega)
   intro v1 x hown1 b _;have G1:=gu (aM m _) b (λi r=>(a.lt i r).1);have c:=u.below G1;have d:=G1.size;clear a b m;go_wp2_with (at_builtin;refine bV _ rfl _ _ 37 rfl w.heap.size 5 q underlying37 f j k g v1 (1+2) ([tag]++[129,UInt8.ofNat n]) rfl ah0 p n cap zs rfl hn.o l.o c agE d ?_)
   intro v2 w2 hown2 hg2 _;have G2:w.grownBy w2 none:=(by grind [gu,World.ownsRow.lt])
   exact aaP
  ·have s:¬ (n:Int)<128:=agE;have t:¬ (n:Int)<256:=agE;have v:Hid (Box.box tag zs=[tag]++[130,UInt8.ofNat (n / 256),UInt8.ofNat (n % 256)]++zs):=aiy;go_enter func88,ntmps88;go_wp2_with (at_builtin;refine bV _ rfl _ _ 37 rfl w.heap.size 5 q underlying37 f j k g _ _ _ rfl (a.alloc _) (some ⟨w.heap.size+1,0,none⟩) 3 3 [130,UInt8.ofNat (n / 256),UInt8.ofNat (n % 256)] rfl rfl ?e1 ?e2 ?e3 ?e4 ?_)
   case e2=>exact uw w _ _ _ _ (by simp only[eE,fy,U8,eo];grind)
   case e4=>first|omega|(simp;omega)
   intro v1 x hown1 b _;have G1:=gu (aM m _) b (λi r=>(a.lt i r).1);have c:=u.below G1;have d:=G1.size;clear a b m;go_wp2_with (at_builtin;refine bV _ rfl _ _ 37 rfl w.heap.size 5 q underlying37 f j k g v1 (1+3) ([tag]++[130,UInt8.ofNat (n / 256),UInt8.ofNat (n % 256)]) rfl ah0 p n cap zs rfl hn.o l.o c agE d ?_)
   intro v2 w2 hown2 hg2 _;have G2:w.grownBy w2 none:=(by grind [World.ownsRow.lt,gu])
   exact aaP
variable {k:Nat}
theorem seven(b:1<=k)(a:k<8):k=1\/k=2\/k=3\/k=4\/k=5\/k=6\/k=7:=by omega
theorem abn{v:Int}(e:-9223372036854775808<=v)(c:v<=9223372036854775807)(a:1<=k)(b:k<Box.size v):(wrap64 (v*2 ^ (64-8*k)) / 2 ^ (64-8*k) != v)=true:=by
 have d:=(jW v).2;rw[fj];unfold wrap64;rcases seven a agE with rfl|rfl|rfl|rfl|rfl|rfl|rfl<;>simp only[Nat.reduceMul,Nat.reduceSub,Int.reducePow]<;>unfold Box.size at b<;>(repeat' split at b)<;>omega
theorem abo{v:Int}(e:-9223372036854775808<=v)(c:v<=9223372036854775807)(a:k<8)(b:k=Box.size v):(wrap64 (v*2 ^ (64-8*k)) / 2 ^ (64-8*k) != v)=false:=by
 have d:=(jW v).1;rw[bne_eq_false_iff_eq];unfold wrap64;rcases seven (k:=k) agE a with rfl|rfl|rfl|rfl|rfl|rfl|rfl<;>simp only[Nat.reduceMul,Nat.reduceSub,Int.reducePow]<;>unfold Box.size at b<;>(repeat' split at b)<;>omega
theorem aa5(h:p:=by
 have hjk:j=k:=agE
 subst hjk
 obtain⟨a3,c3,rfl,_,_,hnc,mK⟩:=iY hown
 go_wp2_with fail
 refine(tK 2 (Box.low v j) j a3 c3 _ (Box.mO v j) agE hnc mK).mono ?_
 rintro e w2 ⟨o,rfl,hown2,hg2⟩
 have G2:=aa hgr hg2
 have R2:=ny hown2 hsz
 clear hown hown2 hg2 hgr
 go_wp2
 go_ret
 exact⟨_,rfl,by rw[HK.o];exact R2,G2⟩):p:=h
theorem afq(h:p:=by
 refine⟨?_,gu (aM hgr _) hg1 (λi hi=>(hown.lt i hi).1)⟩
 rw[Box.pJ]
 simpa using hown1):p:=h
theorem qY(v)(w)(A:-9223372036854775808<=v)(B:v<=9223372036854775807):
  Calls prog 62 #[ι v] w λe w'=>∃o,e=.returned o/\w'.ownsRow w.heap.size 5 1 o (Box.box 2 (Box.low v (Box.size v))).length ((Box.box 2 (Box.low v (Box.size v))).map U8)/\w.grownBy w' none:=by
 obtain⟨u,b,d,f,c⟩:=info_parts Tryz.info5
 go_enter func62,ntmps62
 go_wp2
 go_loop [3] (λn=>∃k:Nat,1<=k/\k<=Box.size v/\n = ι k) (λn=>8-(intOf n).toNat)
 case atStart=>grind [jW]
 case round=>
  obtain⟨k,r,l,rfl⟩:=hrel;have m:=(jW v).2;by_cases s:k<Box.size v
  ·have p:(k:Int)<8:=agE;have t:=abn A B r s;go_wp2;go_round
   case rel=>exact⟨k+1,by omega,by omega,by go_num⟩
   case measure=>simp[intOf];omega
  ·have a:k=Box.size v:=agE;have HK:=hid a.symm;have p:k<=8:=agE;have t:Hid ((k:Int)<8->(wrap64 (v*2 ^ (64-8*k)) / 2 ^ (64-8*k) != v)=false):=(by grind [abo])
   rw[a.symm];clear a l m s;by_cases y:(k:Int)<8
   ·have z:=t.o y;go_wp2;go_loopw [4,5] (λo i wr=>∃j:Nat,j<=k/\i = ι ((k:Int)-1-j)/\wr.ownsRow w.heap.size 5 1 o j ((Box.pJ v k j).map U8)/\w.grownBy wr none) (λ_ i _=>(intOf i+1).toNat)
    case atStart=>exact⟨0,by omega,by go_num,World.ownsRow_nil _ _ _ _,cC _ _⟩
    case round=>
     obtain⟨j,x,rfl,hown,hgr⟩:=hrel;have hsz:=hgr.size;by_cases q:j<k
     ·go_wp2_with (at_builtin;refine bV _ rfl _ _ 37 rfl w.heap.size 5 u underlying37 b d f c _ _ _ rfl (hown.alloc _) (some ⟨wr.heap.size,0,none⟩) 1 1 [Box.l9 v (k-1-j)] rfl rfl ?a1 ?a2 ?a3 ?a4 ?_)
      case a1=>intro h;cases h
      case a2=>exact fq wr _ _ _ (by simp only[eE,fy,U8];rw[Hq])
      case a3=>omega
      case a4=>simp;omega
      intro v1 g hown1 hg1 _;have R:g.ownsRow w.heap.size 5 1 v1 (j+1) ((Box.pJ v k (j+1)).map U8)/\w.grownBy g none:=by
       exact afq
      clear hown hown1 hg1 hgr;exact aaQ
     ·exact aa5
   ·go_wp2;go_loopw [4,5] (λo i wr=>∃j:Nat,j<=k/\i = ι ((k:Int)-1-j)/\wr.ownsRow w.heap.size 5 1 o j ((Box.pJ v k j).map U8)/\w.grownBy wr none) (λ_ i _=>(intOf i+1).toNat)
    case atStart=>exact⟨0,by omega,by go_num,World.ownsRow_nil _ _ _ _,cC _ _⟩
    case round=>
     obtain⟨j,x,rfl,hown,hgr⟩:=hrel;have hsz:=hgr.size;by_cases q:j<k
     ·go_wp2_with (at_builtin;refine bV _ rfl _ _ 37 rfl w.heap.size 5 u underlying37 b d f c _ _ _ rfl (hown.alloc _) (some ⟨wr.heap.size,0,none⟩) 1 1 [Box.l9 v (k-1-j)] rfl rfl ?b1 ?b2 ?b3 ?b4 ?_)
      case b1=>intro h;cases h
      case b2=>exact fq wr _ _ _ (by simp only[eE,fy,U8];rw[Hq])
      case b3=>omega
      case b4=>simp;omega
      intro v1 g hown1 hg1 _;have R:g.ownsRow w.heap.size 5 1 v1 (j+1) ((Box.pJ v k (j+1)).map U8)/\w.grownBy g none:=by
       exact afq
      clear hown hown1 hg1 hgr;exact aaQ
     ·exact aa5
theorem Gd(n)(p)(d)(x)(v)(size:Nat)(w)(q:Out w n p d)(hx:IntKind.u64.wrap x=(v.toNat:Int))(C:size<=8)(B:d.length<=1000000):
  Calls prog 259 #[n,ι x,ι size] w λe w'=>∃j,e=.returned j/\aU w w' j p (d++Pure.be v size):=by
 obtain⟨u,t,g,h,f⟩:=info_parts Tryz.info5
 go_enter func259,ntmps259
 go_wp2
 go_loopw [0,8] (λo i wr=>∃k:Nat,k<=size/\i = ι ((size:Int)-1-k)/\aU w wr o p (d++Pure.pF v size k)) (λ_ i _=>(intOf i+1).toNat)
 case atStart=>exact⟨0,cS _,by go_num,by simpa[Pure.tF]using aU.refl q⟩
 case round=>
  obtain⟨k,A,rfl,hbr⟩:=hrel;by_cases s:k<size
  ·obtain⟨r,c,a⟩:=hbr;have l:=hid a;clear a;have b:∀x,x=((Pure.dW v (size-1-k)).toNat:Int)->Src prog 1 37 (.slice (some (wr,0)) 1 1) 1 ([Pure.dW v (size-1-k)].map U8) (wr.alloc (.cells #[.int .u8 x] 5)):=by
    exact ach
   go_wp2_with (at_builtin;refine dK _ rfl _ _ 37 37 rfl 5 u underlying37 t g h f _ _ r _ [Pure.dW v (size-1-k)] rfl rfl (c.grown (cx _ _ _)) 1 (b _ ?c1) ?c2 ?_)
   case c1=>exact nX v _
   case c2=>simp[Pure.jV];omega
   ·intro v1 z m;have R:=aU.comp l.o (m.before (cx _ _ _)) agI;have y:aU w z v1 p (d++Pure.pF v size (k+1)):=(by rw[Pure.mQ];simpa only [du]using R);clear R m c q l;go_wp2;go_roundw
    case rel=>exact⟨k+1,by omega,by go_num,y⟩
    case measure=>simp[intOf];omega
  ·exact aed
theorem sj(n)(p)(d)(x)(v)(size:Nat)(w)(q:Out w n p d)(hx:IntKind.u64.wrap x=(v.toNat:Int))(C:size<=8)(B:d.length<=1000000):
  Calls prog 150 #[n,ι x,ι size] w λe w'=>∃j,e=.returned j/\aU w w' j p (d++Pure.be v size):=by
 obtain⟨u,t,g,h,f⟩:=info_parts Tryz.info5
 go_enter func150,ntmps150
 go_wp2
 go_loopw [0,8] (λo i wr=>∃k:Nat,k<=size/\i = ι ((size:Int)-1-k)/\aU w wr o p (d++Pure.pF v size k)) (λ_ i _=>(intOf i+1).toNat)
 case atStart=>exact⟨0,cS _,by go_num,by simpa[Pure.tF]using aU.refl q⟩
 case round=>
  obtain⟨k,A,rfl,hbr⟩:=hrel;by_cases s:k<size
  ·obtain⟨r,c,a⟩:=hbr;have l:=hid a;clear a;have b:∀x,x=((Pure.dW v (size-1-k)).toNat:Int)->Src prog 1 37 (.slice (some (wr,0)) 1 1) 1 ([Pure.dW v (size-1-k)].map U8) (wr.alloc (.cells #[.int .u8 x] 5)):=by
    exact ach
   go_wp2_with (at_builtin;refine dK _ rfl _ _ 37 37 rfl 5 u underlying37 t g h f _ _ r _ [Pure.dW v (size-1-k)] rfl rfl (c.grown (cx _ _ _)) 1 (b _ ?c1) ?c2 ?_)
   case c1=>exact nX v _
   case c2=>simp[Pure.jV];omega
   ·intro v1 z m;have R:=aU.comp l.o (m.before (cx _ _ _)) agI;have y:aU w z v1 p (d++Pure.pF v size (k+1)):=(by rw[Pure.mQ];simpa only [du]using R);clear R m c q l;go_wp2;go_roundw
    case rel=>exact⟨k+1,by omega,by go_num,y⟩
    case measure=>simp[intOf];omega
  ·exact aed
end Go.Proofs.YtlfifnpjeangmaaGreatDoor
