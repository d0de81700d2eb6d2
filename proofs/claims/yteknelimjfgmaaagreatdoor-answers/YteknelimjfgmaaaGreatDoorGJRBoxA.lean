import Derived.Test.YteknelimjfgmaaaGreatDoorGJBoxM
import Derived.Test.YteknelimjfgmaaaGreatDoorGJSeal
namespace Go.Proofs.YteknelimjfgmaaaGreatDoor
set_option maxHeartbeats 1000000
open Proofs.Tryz Go.RowKit
set_option maxRecDepth 100000
theorem aag {p:Prop} (h:p:=by
 intro v2 w2 hown2 hg2 _
 have G2:w.grownBy w2 none:=iw G1 hg2 (fun i hi=>(hown1.lt i hi).1)
 have R:w2.ownsRow w.heap.size 5 1 v2 (Box.box tag zs).length ((Box.box tag zs).map U8):=by
  rw[HL.o,bj,hn.o]
  simpa using hown2
 clear hown1 hown2 hg2 G1
 go_wp2
 go_ret
 exact ⟨_,rfl,R,G2⟩):p:=h
theorem su (tag:UInt8) (zs:List UInt8) (n:Nat) (ao:Option Addr) (cap:Nat) (w:World) (hn:Hid (zs.length=n)) (hl:n<=65535) (hnc:Hid (ao=none->cap=0)) (hz:At w ao zs) :
  Calls prog 90 #[.int .u8 (tag.toNat:Int),.slice ao n cap] w fun e w'=>∃ o,e = .returned o/\w'.ownsRow w.heap.size 5 1 o (Box.box tag zs).length ((Box.box tag zs).map U8)/\w.grownBy w' none:=by
 obtain ⟨i0,hif,hz0,hz1,hz2⟩:=info_parts Tryz.info5
 have hown0:=Oz w 5 tag
 have G0:w.grownBy (w.alloc (.cells #[.int .u8 (tag.toNat:Int)] 5)) none:=aE w _ none
 by_cases h1:n<128
 ·have h1':(n:Int)<128:=by omega
  have HL:Hid (Box.box tag zs=[tag]++[UInt8.ofNat n]++zs):=by show _=_;rw[Box.box,Box.head,hn.o,if_pos h1];rfl
  go_enter func90,ntmps90;go_wp2_with (at_builtin;refine bU _ rfl _ _ 37 rfl w.heap.size 5 i0 underlying37 hif hz0 hz1 hz2 _ _ _ rfl (hown0.alloc _) (some ⟨w.heap.size+1,0,none⟩) 1 1 [UInt8.ofNat n] rfl rfl ?c1 ?c2 ?c3 ?c4 ?_)
  case c1=>intro h;cases h
  case c2=>exact tq w _ _ _ _ (by simp only[dj,eV,U8,ec];rw[du afp])
  case c3=>omega
  case c4=>simp;omega
  intro v1 w1 hown1 hg1 _;have G1:w.grownBy w1 none:=iw (aR G0 _) hg1 (fun i hi=>(hown0.lt i hi).1);have hz1':=hz.below G1;have hsz1:=G1.size;clear hown0 hg1 G0;go_wp2_with (at_builtin;refine bU _ rfl _ _ 37 rfl w.heap.size 5 i0 underlying37 hif hz0 hz1 hz2 v1 (1+1) ([tag]++[UInt8.ofNat n]) rfl (by simpa using hown1) ao n cap zs rfl hn.o hnc.o hz1' afp hsz1 ?_)
  exact aag
 ·by_cases h2:n<256
  ·have h1':¬ (n:Int)<128:=(by omega);have h2':(n:Int)<256:=(by omega);have HL:Hid (Box.box tag zs=[tag]++[129,UInt8.ofNat n]++zs):=(by show _=_;rw[Box.box,Box.head,hn.o,if_neg h1,if_pos h2];rfl);go_enter func90,ntmps90;go_wp2_with (at_builtin;refine bU _ rfl _ _ 37 rfl w.heap.size 5 i0 underlying37 hif hz0 hz1 hz2 _ _ _ rfl (hown0.alloc _) (some ⟨w.heap.size+1,0,none⟩) 2 2 [129,UInt8.ofNat n] rfl rfl ?d1 ?d2 ?d3 ?d4 ?_)
   case d2=>exact tq w _ _ _ _ (by simp only[dj,eV,U8,ec];rw[du afp];rfl)
   case d4=>first | omega|(simp;omega)
   intro v1 w1 hown1 hg1 _;have G1:w.grownBy w1 none:=iw (aR G0 _) hg1 (fun i hi=>(hown0.lt i hi).1);have hz1':=hz.below G1;have hsz1:=G1.size;clear hown0 hg1 G0;go_wp2_with (at_builtin;refine bU _ rfl _ _ 37 rfl w.heap.size 5 i0 underlying37 hif hz0 hz1 hz2 v1 (1+2) ([tag]++[129,UInt8.ofNat n]) rfl (by simpa using hown1) ao n cap zs rfl hn.o hnc.o hz1' afp hsz1 ?_)
   exact aag
  ·have h1':¬ (n:Int)<128:=(by omega);have h2':¬ (n:Int)<256:=(by omega);have HL:Hid (Box.box tag zs=[tag]++[130,UInt8.ofNat (n / 256),UInt8.ofNat (n % 256)]++zs):=(by show _=_;rw[Box.box,Box.head,hn.o,if_neg h1,if_neg h2];rfl);go_enter func90,ntmps90;go_wp2_with (at_builtin;refine bU _ rfl _ _ 37 rfl w.heap.size 5 i0 underlying37 hif hz0 hz1 hz2 _ _ _ rfl (hown0.alloc _) (some ⟨w.heap.size+1,0,none⟩) 3 3 [130,UInt8.ofNat (n / 256),UInt8.ofNat (n % 256)] rfl rfl ?e1 ?e2 ?e3 ?e4 ?_)
   case e2=>exact tq w _ _ _ _ (by simp only[dj,eV,U8,ec];rw[du (show n / 256<2 ^ 8 by omega),du (show n % 256<2 ^ 8 by omega)];rfl)
   case e4=>first | omega|(simp;omega)
   intro v1 w1 hown1 hg1 _;have G1:w.grownBy w1 none:=iw (aR G0 _) hg1 (fun i hi=>(hown0.lt i hi).1);have hz1':=hz.below G1;have hsz1:=G1.size;clear hown0 hg1 G0;go_wp2_with (at_builtin;refine bU _ rfl _ _ 37 rfl w.heap.size 5 i0 underlying37 hif hz0 hz1 hz2 v1 (1+3) ([tag]++[130,UInt8.ofNat (n / 256),UInt8.ofNat (n % 256)]) rfl (by simpa using hown1) ao n cap zs rfl hn.o hnc.o hz1' afp hsz1 ?_)
   exact aag
variable {k:Nat}
theorem seven (h1:1<=k) (h8:k<8):k=1\/k=2\/k=3\/k=4\/k=5\/k=6\/k=7:=by omega
theorem Xw {v:Int} (h0:-9223372036854775808<=v) (h1:v<=9223372036854775807) (hk1:1<=k) (hk:k<Box.size v):(wrap64 (v*2 ^ (64-8*k)) / 2 ^ (64-8*k) != v)=true:=by
 have hs:=(iR v).2;rw[fj];unfold wrap64;rcases seven hk1 afp with rfl | rfl | rfl | rfl | rfl | rfl | rfl <;> simp only[Nat.reduceMul,Nat.reduceSub,Int.reducePow] <;> unfold Box.size at hk <;> (repeat' split at hk) <;> omega
theorem Xx {v:Int} (h0:-9223372036854775808<=v) (h1:v<=9223372036854775807) (WS:k<8) (hk:k=Box.size v):(wrap64 (v*2 ^ (64-8*k)) / 2 ^ (64-8*k) != v)=false:=by
 have hs:=(iR v).1;rw[eN];unfold wrap64;rcases seven (k:=k) afp WS with rfl | rfl | rfl | rfl | rfl | rfl | rfl <;> simp only[Nat.reduceMul,Nat.reduceSub,Int.reducePow] <;> unfold Box.size at hk <;> (repeat' split at hk) <;> omega
theorem aaY {p:Prop} (h:p:=by
 have hjk:j=k:=by omega
 subst hjk
 obtain ⟨a3,c3,rfl,_,_,hnc,zt⟩:=iI hown
 go_wp2_with fail
 refine (su 2 (Box.low v j) j a3 c3 _ (Box.lQ v j) afp hnc zt).mono ?_
 rintro e w2 ⟨o,rfl,hown2,hg2⟩
 have G2:=aa hgr hg2
 have R2:w2.ownsRow w.heap.size 5 1 o (Box.box 2 (Box.low v j)).length ((Box.box 2 (Box.low v j)).map U8):=pY hown2 hsz
 clear hown hown2 hg2 hgr
 go_wp2
 go_ret
 exact ⟨_,rfl,by rw[HK.o];exact R2,G2⟩):p:=h
theorem aba {p:Prop} (h:p:=by
 intro v1 w1 hown1 hg1 _
 have R:w1.ownsRow w.heap.size 5 1 v1 (j+1) ((Box.ow v k (j+1)).map U8)/\w.grownBy w1 none:=by
  refine ⟨?_,iw (aR hgr _) hg1 (fun i hi=>(hown.lt i hi).1)⟩
  rw[Box.ow]
  simpa using hown1
 clear hown hown1 hg1 hgr
 go_wp2
 go_roundw
 case rel=>exact ⟨j+1,by omega,by go_num,R.1,R.2⟩
 case measure=>simp[intOf];omega):p:=h
theorem p9 (v:Int) (w:World) (h0:-9223372036854775808<=v) (h1:v<=9223372036854775807) :
  Calls prog 64 #[.int .i64 v] w fun e w'=>∃ o,e = .returned o/\w'.ownsRow w.heap.size 5 1 o (Box.box 2 (Box.low v (Box.size v))).length ((Box.box 2 (Box.low v (Box.size v))).map U8)/\w.grownBy w' none:=by
 obtain ⟨i0,hif,hz0,hz1,hz2⟩:=info_parts Tryz.info5
 go_enter func64,ntmps64
 go_wp2
 go_loop [3] (fun n=>∃ k:Nat,1<=k/\k<=Box.size v/\n = .int .i64 k) (fun n=>8-(intOf n).toNat)
 case atStart=>exact ⟨1,by omega,(iR v).1,rfl⟩
 case round=>
  obtain ⟨k,hk1,hk2,rfl⟩:=hrel;have hs8:=(iR v).2;by_cases hk:k<Box.size v
  ·have WS:(k:Int)<8:=(by omega);have hq:=Xw h0 h1 hk1 hk;go_wp2;go_round
   case rel=>exact ⟨k+1,by omega,by omega,by go_num⟩
   case measure=>simp[intOf];omega
  ·have hke:k=Box.size v:=(by omega);have HK:Hid (Box.size v=k):=hke.symm;have WS:k<=8:=(by omega);have hq:Hid ((k:Int)<8->(wrap64 (v*2 ^ (64-8*k)) / 2 ^ (64-8*k) != v)=false):=fun h=>Xx h0 h1 afp hke;rw[hke.symm];clear hke hk2 hs8 hk;by_cases h8:(k:Int)<8
   ·have hq':=hq.o h8;go_wp2;go_loopw [4,5] (fun o i wr=>∃ j:Nat,j<=k/\i = .int .i64 ((k:Int)-1-j)/\wr.ownsRow w.heap.size 5 1 o j ((Box.ow v k j).map U8)/\w.grownBy wr none) (fun _ i _=>(intOf i+1).toNat)
    case atStart=>exact ⟨0,by omega,by go_num,World.ownsRow_nil _ _ _ _,bh _ _⟩
    case round=>
     obtain ⟨j,hj,rfl,hown,hgr⟩:=hrel;have hsz:=hgr.size;by_cases hlt:j<k
     ·go_wp2_with (at_builtin;refine bU _ rfl _ _ 37 rfl w.heap.size 5 i0 underlying37 hif hz0 hz1 hz2 _ _ _ rfl (hown.alloc _) (some ⟨wr.heap.size,0,none⟩) 1 1 [Box.kW v (k-1-j)] rfl rfl ?a1 ?a2 ?a3 ?a4 ?_)
      case a1=>intro h;cases h
      case a2=>exact fG wr _ _ _ (by simp only[dj,eV,U8];rw[ES])
      case a3=>omega
      case a4=>simp;omega
      exact aba
     ·exact aaY
   ·go_wp2;go_loopw [4,5] (fun o i wr=>∃ j:Nat,j<=k/\i = .int .i64 ((k:Int)-1-j)/\wr.ownsRow w.heap.size 5 1 o j ((Box.ow v k j).map U8)/\w.grownBy wr none) (fun _ i _=>(intOf i+1).toNat)
    case atStart=>exact ⟨0,by omega,by go_num,World.ownsRow_nil _ _ _ _,bh _ _⟩
    case round=>
     obtain ⟨j,hj,rfl,hown,hgr⟩:=hrel;have hsz:=hgr.size;by_cases hlt:j<k
     ·go_wp2_with (at_builtin;refine bU _ rfl _ _ 37 rfl w.heap.size 5 i0 underlying37 hif hz0 hz1 hz2 _ _ _ rfl (hown.alloc _) (some ⟨wr.heap.size,0,none⟩) 1 1 [Box.kW v (k-1-j)] rfl rfl ?b1 ?b2 ?b3 ?b4 ?_)
      case b1=>intro h;cases h
      case b2=>exact fG wr _ _ _ (by simp only[dj,eV,U8];rw[ES])
      case b3=>omega
      case b4=>simp;omega
      exact aba
     ·exact aaY
theorem Eo (ov:Value) (p:Option Pl) (bs:List UInt8) (x:Int) (v:UInt64) (size:Nat) (w:World) (hb:Out w ov p bs) (hx:IntKind.u64.wrap x=(v.toNat:Int)) (hs:size<=8) (hl:bs.length<=1000000) :
  Calls prog 261 #[ov,.int .i64 x,.int .i64 size] w fun e w'=>∃ v',e = .returned v'/\aU w w' v' p (bs++Pure.be v size):=by
 obtain ⟨i0,hi,hz0,hz1,hz2⟩:=info_parts Tryz.info5
 go_enter func261,ntmps261
 exact VM
theorem ru (ov:Value) (p:Option Pl) (bs:List UInt8) (x:Int) (v:UInt64) (size:Nat) (w:World) (hb:Out w ov p bs) (hx:IntKind.u64.wrap x=(v.toNat:Int)) (hs:size<=8) (hl:bs.length<=1000000) :
  Calls prog 152 #[ov,.int .i64 x,.int .i64 size] w fun e w'=>∃ v',e = .returned v'/\aU w w' v' p (bs++Pure.be v size):=by
 obtain ⟨i0,hi,hz0,hz1,hz2⟩:=info_parts Tryz.info5
 go_enter func152,ntmps152
 exact VM
end Go.Proofs.YteknelimjfgmaaaGreatDoor
