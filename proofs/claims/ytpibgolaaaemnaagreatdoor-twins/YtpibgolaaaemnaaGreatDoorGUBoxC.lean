/-
  
  
  
  
  
  
-/
import Derived.Test.YtpibgolaaaemnaaGreatDoorGUBoxA
import Derived.Test.YtpibgolaaaemnaaGreatDoorGUShelf
import Derived.Test.YtpibgolaaaemnaaGreatDoorGUBase
import Derived.Test.YtpibgolaaaemnaaGreatDoorGUBox
import Derived.Test.YtpibgolaaaemnaaGreatDoorGUBoxN
namespace Go.Proofs.YtpibgolaaaemnaaGreatDoor
open Go.RowKit
set_option maxRecDepth 100000
theorem Ac (v:Int) (h0:-9223372036854775808≤v) (h1:v≤9223372036854775807):∃ m:Nat,IntKind.u64.wrap (bits .xor .i64 v (v / 9223372036854775808))=(m:Int)∧(m:Int)=if v<0 then -v-1 else v:=by
 by_cases h:v<0
 ·refine ⟨(-v-1).toNat,?_,by rw[if_pos h];omega⟩
  have e:v / 9223372036854775808=-1:=by omega
  have hx:bits .xor .i64 v (-1)=-v-1:=by
   show IntKind.i64.wrap ((BitVec.ofInt 64 v ^^^ BitVec.ofInt 64 (-1)).toNat:Int)=_
   have h1:BitVec.ofInt 64 (-1)=BitVec.allOnes 64:=by decide
   rw[h1,BitVec.xor_allOnes,BitVec.toNat_not,BitVec.toNat_ofInt,IntKind.wrap_i64]
   omega
  rw[e,hx,IntKind.wrap_u64]
  omega
 ·refine ⟨v.toNat,?_,by rw[if_neg h];omega⟩
  have e:v / 9223372036854775808=0:=by omega
  have hx:bits .xor .i64 v 0=v:=by
   show IntKind.i64.wrap ((BitVec.ofInt 64 v ^^^ BitVec.ofInt 64 0).toNat:Int)=_
   have h1:BitVec.ofInt 64 0=0#64:=by decide
   rw[h1,BitVec.xor_zero,BitVec.toNat_ofInt,IntKind.wrap_i64]
   omega
  rw[e,hx,IntKind.wrap_u64]
  omega
set_option maxHeartbeats 400000 in
theorem sw (v:Int) (w:World) (h0:-9223372036854775808≤v) (h1:v≤9223372036854775807) :
  Calls Tryz.prog 160 #[.int .i64 v] w fun e w'=>e = .returned (.int .i64 (Box.size v:Int))∧w=w':=by
 obtain ⟨m,hm,hmv⟩:=Ac v h0 h1
 have HS:=hid (Box.xE v h0 h1 m hmv)
 have hm1:m<18446744073709551616:=by split at hmv <;> omega
 have hb:=(Box.bitLen_le (k:=64) hm1).2 hm1
 have HM:=hid hm
 clear hm hmv
 go_enter Tryz.func160,Tryz.ntmps160
 go_wp2_with fail
 rw[HM.out]
 refine (Go.Proofs.Tryz.bits_Len64 (m:Int) _ (by omega) (by omega)).mono ?_
 rintro e w' ⟨rfl,rfl⟩
 rw[Int.toNat_natCast]
 generalize Lib.bitLen m=bl at *
 go_wp2
 go_ret
 refine ⟨dD ?_,rfl⟩
 rw[←HS.out]
 omega
theorem Q3 (l:List UInt8) (k:Nat) (v:Int) (h:(k:Int) % 18446744073709551616=v % 18446744073709551616) :
  ((l.foldl (fun n b=>n*256+b.toNat) k:Nat):Int) % 18446744073709551616=Box.jI v l % 18446744073709551616:=by
 induction l generalizing k v with
 | nil=>exact h
 | cons b l ih=>exact ih (k*256+b.toNat) (v*256+(b.toNat:Int)) (by omega)
theorem Q4 (l:List UInt8) (h1:1≤l.length) (h8:l.length≤8) (h:UInt64) (hh:IntKind.u64.wrap (Box.sign (l.getD 0 0))=(h.toNat:Int)) :
  IntKind.i64.wrap ((Pure.joinL h (l.drop 1)).toNat:Int)=Box.val l:=by
 rw[Pure.nR]
 have hb:=Box.nk h1 h8
 rw[IntKind.wrap_u64] at hh
 have hm:=Q3 (l.drop 1) h.toNat (Box.sign (l.getD 0 0)) (by omega)
 rw[show Box.jI (Box.sign (l.getD 0 0)) (l.drop 1)=Box.val l from rfl] at hm
 generalize (l.drop 1).foldl (fun n b=>n*256+b.toNat) h.toNat=f at *
 rw[IntKind.wrap_i64]
 simp only[Nat.reducePow]
 omega
theorem Vz (x:Int) (h:UInt64) (zs:List UInt8) (n:Nat) (ao:Option Addr) (cap:Nat) (w:World) (nq:Nat) (hx:Hid (IntKind.u64.wrap x=h.toNat)) (r:Int) (hr:Hid (IntKind.i64.wrap ((Pure.joinL h zs).toNat:Int)=r)) (hn:Hid (zs.length=n)) (hl:n≤140737488355328) (hc:At w ao zs) :
  Calls Tryz.prog 159 #[.int .i64 x,.slice ao n cap] (w.drewN nq) fun e w''=>e = .returned (.int .i64 r)∧∃ m,w''=w.drewN m:=
 (NV x h zs n ao cap _ hx r hr hn hl (hc.drewN nq)).mono fun _ _ ⟨h1,h2⟩=>⟨h1,nq,h2.symm⟩
theorem Q5 (b:UInt8):IntKind.i8.wrap (b.toNat:Int)=Box.sign b:=by
 have:=b.toNat_lt
 unfold Box.sign
 simp[IntKind.wrap,IntKind.bits,IntKind.signed]
 split <;> omega
set_option maxHeartbeats 1000000 in
theorem sD (zs:List UInt8) (n:Nat) (ao:Option Addr) (cap:Nat) (w:World) (hn:Hid (zs.length=n)) (hl:n≤140737488355328) (hcap:n≤cap) (hc:At w ao zs) :
  Calls Tryz.prog 120 #[.slice ao n cap] w fun e w'=>
   (∀ v,Box.num zs=some v→e = .returned (.tuple #[.int .i64 v,.bool true]))∧
   (Box.num zs=none→e = .returned (.tuple #[.int .i64 0,.bool false]))∧∃ m,w'=w.drewN m:=by
 by_cases h1:1≤n
 ·by_cases h8:n≤8
  ·have hp:0<zs.length:=by rw[hn.out];exact h1
   have hb:=Box.nk (l:=zs) (by omega) (by rw[hn.out];exact h8)
   obtain ⟨b,off,rfl,hc0⟩:=hc 0 hp
   have E0:Hid (zs.getD 0 0=zs[0]):=by show _=_;simp[List.getD,List.getElem?_eq_getElem hp]
   rw[Nat.add_zero] at hc0
   generalize hz0:zs[0]=z0 at *
   clear hz0
   obtain ⟨i0,hi,hz0,hz1,hz2⟩:=info_parts Tryz.info5
   have hp1:0<n:=h1
   have hp2:(0:Int)<(n:Int):=by omega
   have hn1:¬ ((n:Int)<1):=by omega
   have Dq:¬ ((8:Int)<(n:Int)):=by omega
   obtain ⟨a1,hs1,nO⟩:=jL 25 5 i0 Tryz.underlying25 hi hz1 (some ⟨b,off,none⟩) n cap hn hcap 1 1 rfl h1
   replace nO:=nO _ hc
   have yx:Hid ((zs.drop 1).length=n-1):=by show _=_;rw[List.length_drop,hn.out]
   have hsb:=Box.yz z0
   have HX:Hid (IntKind.u64.wrap (Box.sign z0)=(((UInt64.ofNat (IntKind.u64.wrap (Box.sign z0)).toNat).toNat:Nat):Int)):=by
    show _=_
    have:0≤IntKind.u64.wrap (Box.sign z0)∧IntKind.u64.wrap (Box.sign z0)<18446744073709551616:=by rw[IntKind.wrap_u64];omega
    rw[Pure.jR _ (by omega)]
    omega
   have HR:Hid (IntKind.i64.wrap ((Pure.joinL (UInt64.ofNat (IntKind.u64.wrap (Box.sign z0)).toNat) (zs.drop 1)).toNat:Int)=Box.val zs):=
    Q4 zs (by omega) (by rw[hn.out];exact h8) _ (by rw[E0.out];exact HX.out)
   have hle:n-1≤140737488355328:=by omega
   clear hc hp
   generalize hh:UInt64.ofNat (IntKind.u64.wrap (Box.sign z0)).toNat=hd at *
   clear hh
   have Dr:Hid (IntKind.u64.wrap (IntKind.i64.wrap (IntKind.i8.wrap (z0.toNat:Int)))=(hd.toNat:Int)):=by
    show _=_
    rw[Q5,wrap_small (by omega) (by omega)]
    exact HX.out
   clear HX hsb
   go_enter Tryz.func120,Tryz.ntmps120
   go_wp2_with fail
   go_quiet (first|(go_at_call 159;exact Vz (IntKind.i64.wrap (IntKind.i8.wrap (z0.toNat:Int))) hd (zs.drop 1) (n-1) a1 (cap-1) w _ Dr _ HR yx hle nO))
   by_cases hs:Box.size (Box.val zs)=n
   ·have iY:Box.num zs=some (Box.val zs):=by rw[Box.num,if_pos (by rw[hn.out];exact ⟨h1,h8,hs⟩)]
    have HN:=hid iY
    have hq:((Box.size (Box.val zs):Int) != (n:Int))=false:=by rw[hs];simp
    clear iY hs
    go_wp2_with (go_at_call 160;refine (sw _ _ hb.1 hb.2).mono ?_;rintro e w' ⟨rfl,rfl⟩)
    go_ret2
    exact ⟨fun v h=>by rw[HN.out] at h;simp only[Option.some.injEq] at h;rw[←h];rfl,(fun h=>by rw[HN.out] at h;simp at h),⟨_,rfl⟩⟩
   ·have iY:Box.num zs=none:=by rw[Box.num,if_neg (by rw[hn.out];intro h;exact hs h.2.2)]
    have HN:=hid iY
    have hq:((Box.size (Box.val zs):Int) != (n:Int))=true:=by rw[bne_iff_ne];omega
    clear iY hs
    go_wp2_with (go_at_call 160;refine (sw _ _ hb.1 hb.2).mono ?_;rintro e w' ⟨rfl,rfl⟩)
    go_ret2
    exact ⟨fun v h=>by rw[HN.out] at h;simp at h,fun _=>rfl,⟨_,rfl⟩⟩
  ·have iY:Box.num zs=none:=by rw[Box.num,if_neg (by rw[hn.out];omega)]
   have HN:=hid iY
   have hn1:¬ ((n:Int)<1):=by omega
   have Dq:((8:Int)<(n:Int)):=by omega
   clear iY hc
   go_enter Tryz.func120,Tryz.ntmps120
   go_wp2
   go_ret2
   exact ⟨fun v h=>by rw[HN.out] at h;simp at h,fun _=>rfl,⟨0,rfl⟩⟩
 ·have iY:Box.num zs=none:=by rw[Box.num,if_neg (by rw[hn.out];omega)]
  have HN:=hid iY
  have hn1:((n:Int)<1):=by omega
  clear iY hc
  go_enter Tryz.func120,Tryz.ntmps120
  go_wp2
  go_ret2
  exact ⟨fun v h=>by rw[HN.out] at h;simp at h,fun _=>rfl,⟨0,rfl⟩⟩
end Go.Proofs.YtpibgolaaaemnaaGreatDoor
namespace Go.Proofs.YtpibgolaaaemnaaGreatDoor
open Go.RowKit
set_option maxRecDepth 100000
def Low (B:Nat) (w:World) (ao:Option Addr) (zs:List UInt8):Prop:=∀ w',Below B w w'→At w' ao zs
theorem Low.here {B:Nat} {w:World} {ao:Option Addr} {zs:List UInt8} (h:Low B w ao zs):At w ao zs:=h w (Below.refl _ _)
theorem Low.on {B:Nat} {w w1:World} {ao:Option Addr} {zs:List UInt8} (h:Low B w ao zs) (hb:Below B w w1):Low B w1 ao zs:=fun w' h'=>h w' (hb.trans h')
theorem Low.part {B:Nat} {w:World} {ao a1:Option Addr} {zs ys:List UInt8} (h:Low B w ao zs) (hp:∀ w0,At w0 ao zs→At w0 a1 ys):Low B w a1 ys:=fun w' h'=>hp w' (h w' h')
theorem At.low {w:World} {ao:Option Addr} {zs:List UInt8} (h:At w ao zs):Low w.heap.size w ao zs:=by
 intro w' hb j hj
 obtain ⟨b,off,h1,h2⟩:=h j hj
 exact ⟨b,off,h1,(hb.cell (p:=⟨b,off+j,.none⟩) (World.block_lt_of_cell? w _ h2)).trans h2⟩
theorem qI {B:Nat} {a b c:World} {row:Option Nat} (h:Below B a b) (k:b.grownBy c row) (hr:∀ i,row=some i→B≤i) (hB:B≤b.heap.size):Below B a c:=
 h.trans ⟨k.os,k.tape,k.output,k.size,fun i hi=>k.block i (Nat.lt_of_lt_of_le hi hB) (by intro e;have:=hr i e.symm;omega)⟩
theorem mK {B:Nat} {a b:World} (h:Below B a b) (hB:B≤b.heap.size) (o:Obj):Below B a (b.alloc o):=qI h (World.grownBy_alloc b o none) (by simp) hB
theorem mM {B:Nat} {a b:World} (h:Below B a b) (n:Nat):Below B a (b.drewN n):=h.trans ⟨rfl,rfl,rfl,Nat.le_refl _,fun _ _=>rfl⟩
theorem RV {zs:List UInt8} {k:Nat} (h:k<zs.length):Box.hex (zs.take (k+1))=Box.hex (zs.take k)++[Box.Cg (zs[k].toNat / 16),Box.Cg (zs[k].toNat % 16)]:=by
 rw[mH h,Box.Ke];rfl
theorem RX (m:Nat) (h:m<16) (h':m<(⟨#[48,49,50,51,52,53,54,55,56,57,97,98,99,100,101,102]⟩:ByteArray).size):(⟨#[48,49,50,51,52,53,54,55,56,57,97,98,99,100,101,102]⟩:ByteArray)[m]=Box.Cg m:=by
 have:∀ m:Fin 16,(⟨#[48,49,50,51,52,53,54,55,56,57,97,98,99,100,101,102]⟩:ByteArray)[m.val]'(m.isLt)=Box.Cg m.val:=by decide
 exact this ⟨m,h⟩
theorem RY (z:UInt8):bits .and .u8 (z.toNat:Int) 15=((z.toNat % 16:Nat):Int):=by
 have:∀ z:Fin 256,bits .and .u8 (z.val:Int) 15=((z.val % 16:Nat):Int):=by decide +kernel
 exact this ⟨z.toNat,z.toNat_lt⟩
theorem KT (z:UInt8) (a b:Nat) (ha:a=z.toNat / 16) (hb:b=z.toNat % 16) (h1:a<(⟨#[48,49,50,51,52,53,54,55,56,57,97,98,99,100,101,102]⟩:ByteArray).size) (h2:b<(⟨#[48,49,50,51,52,53,54,55,56,57,97,98,99,100,101,102]⟩:ByteArray).size) :
  (#[Value.int .u8 (((⟨#[48,49,50,51,52,53,54,55,56,57,97,98,99,100,101,102]⟩:ByteArray)[a]).toNat:Int),Value.int .u8 (((⟨#[48,49,50,51,52,53,54,55,56,57,97,98,99,100,101,102]⟩:ByteArray)[b]).toNat:Int)]:Array Value).toList=[Box.Cg (z.toNat / 16),Box.Cg (z.toNat % 16)].map U8:=by
 have:=z.toNat_lt
 subst ha hb
 rw[RX _ (by omega),RX _ (by omega)]
 rfl
set_option maxHeartbeats 1000000 in
theorem EY (B:Nat) (sv:Value) (n0:Nat) (bs zs:List UInt8) (n:Nat) (ao:Option Addr) (cap:Nat) (w:World) (hown:w.ownsRow B 5 1 sv n0 (bs.map U8)) (hB:B≤w.heap.size) (hn:Hid (zs.length=n)) (hlow:Low B w ao zs) (hb:n0+(2*n+2)≤140737488355328) :
  Calls Tryz.prog 146 #[sv,.slice ao n cap] w fun e w'=>∃ o,e = .returned o∧w'.ownsRow B 5 1 o (n0+(2*n+2)) ((bs++(34::Box.hex zs++[34])).map U8)∧Below B w w':=by
 obtain ⟨i0,hif,hz0,hz1,hz2⟩:=info_parts Tryz.info5
 go_enter Tryz.func146,Tryz.ntmps146
 go_wp2_with (at_builtin;refine bX _ rfl _ _ 25 rfl B 5 i0 Tryz.underlying25 hif hz0 hz1 hz2 _ _ _ rfl (hown.alloc _) (some ⟨w.heap.size,0,none⟩) 1 1 [34] rfl rfl ?c1 ?c2 ?c3 ?c4 ?_)
 case c1=>intro h;cases h
 case c2=>exact eQ w _ _ _ rfl
 case c3=>omega
 case c4=>simp;omega
 intro v1 w1 hown1 hg1 _
 have B1:Below B w w1:=qI (mK (Below.refl _ _) hB _) hg1 (fun i hi=>(hown.lt i hi).1) (by simp;omega)
 clear hown hg1
 go_wp2
 go_loopw [0,6,12] (fun o _ i wr=>∃ k:Nat,k≤n∧i = .int .i64 k∧wr.ownsRow B 5 1 o (n0+1+2*k) ((bs++[34]++Box.hex (zs.take k)).map U8)∧Below B w wr) (fun _ _ i _=>n-(intOf i).toNat)
 case atStart=>exact ⟨0,Nat.zero_le _,rfl,by simpa[Box.hex] using hown1,B1⟩
 case round=>
  obtain ⟨k,hk,rfl,hown,hbl⟩:=hrel
  have hBr:=Nat.le_trans hB hbl.size
  by_cases hlt:k<n
  ·have hlt':k<zs.length:=by rw[hn.out];exact hlt
   obtain ⟨b,off,rfl,hck⟩:=hlow wr hbl k hlt'
   have hz:=(zs[k]).toNat_lt
   generalize hzk:zs[k]=z at *
   have q1:(0:Int)≤(z.toNat:Int) / 16:=by omega
   have q2:(z.toNat:Int) / 16<16:=by omega
   have q3:(0:Int)≤bits .and .u8 (z.toNat:Int) 15:=by rw[RY];omega
   have q4:bits .and .u8 (z.toNat:Int) 15<16:=by rw[RY];omega
   have hbd:n0+1+2*k+2≤140737488355328:=by omega
   go_wp2_with fail
   go_region_law (first|(refine zR rfl _ _ 25 rfl B 5 i0 Tryz.underlying25 hif hz0 hz1 hz2 u0 (n0+1+2*k) _ ?s1 (hown.alloc _) (some ⟨wr.heap.size,0,none⟩) 2 2 [Box.Cg (z.toNat / 16),Box.Cg (z.toNat % 16)] ?s2 rfl ?s3 ?s4 hbd ?s5 ?_;(case s1=>first | rfl | simp[Act.eval,Act.put]);(case s2=>first | rfl | simp[Act.eval,Act.put]);(case s3=>intro h;cases h);(case s4=>exact eQ wr _ _ _ (KT z _ _ (by omega) (by rw[RY];omega) _ _));(case s5=>simp;omega);intro v' w6 XM hg8 hblk))
   all_goals
    have R:w6.ownsRow B 5 1 v' (n0+1+2*(k+1)) ((bs++[34]++Box.hex (zs.take (k+1))).map U8)∧Below B w w6:=by
     refine ⟨?_,qI (mK hbl hBr _) (gW hg8) (fun i hi=>(hown.lt i hi).1) (by simp;omega)⟩
     rw[RV hlt',hzk,←List.append_assoc]
     exact XM
    clear XM hg8 hblk hown hbl hck hzk
    go_wp2
    go_roundw
    case rel=>exact ⟨k+1,by omega,by go_num,R.1,R.2⟩
    case measure=>simp[intOf];omega
  ·have hkn:k=n:=by omega
   subst hkn
   go_wp2_with (at_builtin;refine bX _ rfl _ _ 25 rfl B 5 i0 Tryz.underlying25 hif hz0 hz1 hz2 _ _ _ rfl (hown.alloc _) (some ⟨wr.heap.size,0,none⟩) 1 1 [34] rfl rfl ?c1 ?c2 ?c3 ?c4 ?_)
   case c1=>intro h;cases h
   case c2=>exact eQ wr _ _ _ rfl
   case c3=>omega
   case c4=>simp;omega
   intro v2 w2 hown2 hg2 _
   have B2:Below B w w2:=qI (mK hbl hBr _) hg2 (fun i hi=>(hown.lt i hi).1) (by simp;omega)
   have R:w2.ownsRow B 5 1 v2 (n0+(2*k+2)) ((bs++(34::Box.hex zs++[34])).map U8):=by
    rw[List.take_of_length_le (by rw[hn.out];omega)] at hown2
    rw[show n0+(2*k+2)=n0+1+2*k+1 from by omega]
    simpa using hown2
   clear hown hown2 hg2 hbl
   go_wp2
   go_ret
   exact ⟨_,rfl,R,B2⟩
abbrev Tab (B:Nat) (w:World):Prop:=Lib.TabBelow Tryz.prog B w qy .u64 Lib.pow10Tab
theorem CB (l:List UInt8):Lib.byteCells l=l.map U8:=by
 simp[Lib.byteCells,U8]
theorem uX {l:List UInt8} {v:Int} (h:Box.num l=some v):-9223372036854775808≤v∧v≤9223372036854775807:=by
 unfold Box.num at h
 split at h
 ·rename_i hc
  simp only[Option.some.injEq] at h
  rw[←h]
  exact Box.nk hc.1 hc.2.1
 ·simp at h
theorem uF (B n:Nat) (i:Int) (h0:-9223372036854775808≤i) (h1:i≤9223372036854775807) (sv:Value) (bs:List UInt8) (w:World) (hown:w.ownsRow B 5 1 sv n (bs.map U8)) (hB:B≤w.heap.size) (hlim:n+21≤140737488355328) (htab:Tab B w) :
  Calls Tryz.prog 177 #[sv,.int .i64 i,.int .i64 10] w fun e w'=>∃ o,e = .returned o∧w'.ownsRow B 5 1 o (n+(Lib.itoa i).length) ((bs++Lib.itoa i).map U8)∧Below B w w':=
 (Go.Proofs.Tryz.strconv_AppendInt_10 B n i h0 h1 sv _ w hown hB hlim htab).mono fun e w' ⟨v',he,ho,hb,_⟩=>⟨v',he,by rw[List.map_append,←CB];exact ho,hb⟩
set_option maxHeartbeats 1000000 in
theorem Ba (B:Nat) (sv:Value) (n0:Nat) (bs zs:List UInt8) (n:Nat) (ao:Option Addr) (cap:Nat) (w:World) (hown:w.ownsRow B 5 1 sv n0 (bs.map U8)) (hB:B≤w.heap.size) (hn:Hid (zs.length=n)) (hl:n≤140737488355328) (hcap:n≤cap) (hat:At w ao zs) (hb:n0+21≤140737488355328) (htab:Tab B w) :
  Calls Tryz.prog 145 #[sv,.slice ao n cap] w fun e w'=>
   (∀ v,Box.num zs=some v→∃ o,e = .returned (.tuple #[o,.bool true])∧w'.ownsRow B 5 1 o (n0+(Lib.itoa v).length) ((bs++Lib.itoa v).map U8))∧
   (Box.num zs=none→∃ o,e = .returned (.tuple #[o,.bool false]))∧Below B w w':=by
 have hrd:=sD zs n ao cap w hn hl hcap hat
 cases iY:Box.num zs with
 | none=>
  rw[iY] at hrd
  clear iY hat
  go_enter Tryz.func145,Tryz.ntmps145
  go_wp2_with fail
  refine hrd.mono ?_
  rintro e w1 ⟨_,h2,m,rfl⟩
  obtain rfl:=h2 trivial
  clear hrd h2
  go_wp2_with fail
  refine (uF B n0 0 (by omega) (by omega) sv bs (w.drewN m) hown hB hb (htab.on (mM (Below.refl _ _) m))).mono ?_
  rintro e w2 ⟨o,rfl,ho,hb2⟩
  go_wp2
  go_ret2
  exact ⟨fun v h=>by simp at h,fun _=>⟨_,rfl⟩,(mM (Below.refl _ _) m).trans hb2⟩
 | some v=>
  have hvb:=uX iY
  rw[iY] at hrd
  clear iY hat
  go_enter Tryz.func145,Tryz.ntmps145
  go_wp2_with fail
  refine hrd.mono ?_
  rintro e w1 ⟨h1,_,m,rfl⟩
  obtain rfl:=h1 v rfl
  clear hrd h1
  go_wp2_with fail
  refine (uF B n0 v hvb.1 hvb.2 sv bs (w.drewN m) hown hB hb (htab.on (mM (Below.refl _ _) m))).mono ?_
  rintro e w2 ⟨o,rfl,ho,hb2⟩
  go_wp2
  go_ret2
  refine ⟨fun v' h=>?_,(fun h=>by simp at h),(mM (Below.refl _ _) m).trans hb2⟩
  simp only[Option.some.injEq] at h
  subst h
  exact ⟨_,rfl,ho⟩
end Go.Proofs.YtpibgolaaaemnaaGreatDoor
namespace Go.Proofs.YtpibgolaaaemnaaGreatDoor
open Go.RowKit
set_option maxRecDepth 100000
def lenOf:Value→Nat
 | .slice _ n _=>n
 | _=>0
def EZ (d:Nat):Prop:=
 ∀ (B:Nat) (sv:Value) (n0:Nat) (bs zs:List UInt8) (n:Nat) (ao:Option Addr) (cap:Nat) (w:World),w.ownsRow B 5 1 sv n0 (bs.map U8)→B≤w.heap.size→Hid (zs.length=n)→n≤100000→n≤cap→cap≤9223372036854775807→Low B w ao zs→n0≤100000000*(999-d)→Tab B w→
  Calls Tryz.prog 105 #[sv,.slice ao n cap,.int .i64 (d:Int)] w fun e w'=>
   (∀ t r,Box.fo d zs=some (t,r)→∃ o a2 c2,e = .returned (.tuple #[o,.slice a2 r.length c2,.bool true])∧w'.ownsRow B 5 1 o (n0+t.length) ((bs++t).map U8)∧(∀ w0,At w0 ao zs→At w0 a2 r)∧r.length≤c2∧c2≤cap)∧
   (Box.fo d zs=none→∃ o v,e = .returned (.tuple #[o,v,.bool false]))∧Below B w w'
set_option maxHeartbeats 1000000 in
theorem CE (sv:Value) (v:Value) (w:World) :
  Calls Tryz.prog 147 #[sv,v,.int .i64 0] w fun e w'=>e = .returned (.tuple #[.slice none 0 0,.bool false])∧w=w':=by
 go_enter Tryz.func147,Tryz.ntmps147
 go_wp2
 go_ret2
 exact ⟨rfl,rfl⟩
set_option maxHeartbeats 1000000 in
theorem CG (d:Nat) (hd:d≤8) (ih:EZ d) (B:Nat) (sv:Value) (n0:Nat) (bs zs:List UInt8) (n:Nat) (ao:Option Addr) (cap:Nat) (w:World) (hown:w.ownsRow B 5 1 sv n0 (bs.map U8)) (hB:B≤w.heap.size) (hn:Hid (zs.length=n)) (hl:n≤100000) (hcap:n≤cap) (hcm:cap≤9223372036854775807) (hlow:Low B w ao zs) (hb:n0≤100000000*(998-d)) (htab:Tab B w) :
  Calls Tryz.prog 147 #[sv,.slice ao n cap,.int .i64 ((d:Int)+1)] w fun e w'=>
   (∀ ts,Box.ny (Box.fo d) zs=some ts→∃ o,e = .returned (.tuple #[o,.bool true])∧w'.ownsRow B 5 1 o (n0+((Box.commas ts).length+2)) ((bs++(123::Box.commas ts++[125])).map U8))∧
   (Box.ny (Box.fo d) zs=none→∃ o,e = .returned (.tuple #[o,.bool false]))∧Below B w w':=by
 obtain ⟨i0,hif,hz0,hz1,hz2⟩:=info_parts Tryz.info5
 have hdn:(((d:Int)+1)==0)=false:=by rw[beq_eq_false_iff_ne];omega
 go_enter Tryz.func147,Tryz.ntmps147
 go_wp2_with (at_builtin;refine bX _ rfl _ _ 25 rfl B 5 i0 Tryz.underlying25 hif hz0 hz1 hz2 _ _ _ rfl (hown.alloc _) (some ⟨w.heap.size,0,none⟩) 1 1 [123] rfl rfl ?c1 ?c2 ?c3 ?c4 ?_)
 case c1=>intro h;cases h
 case c2=>exact eQ w _ _ _ rfl
 case c3=>omega
 case c4=>simp;omega
 intro v1 w1 hown1 hg1 _
 have B1:Below B w w1:=qI (mK (Below.refl _ _) hB _) hg1 (fun i hi=>(hown.lt i hi).1) (by simp;omega)
 clear hown hg1
 go_wp2
 go_loopw [0,1,7,8] (fun o i _ f wr=>∃ (rem:List UInt8) (done:List (List UInt8)) (a':Option Addr) (c':Nat),i = .slice a' rem.length c'∧rem.length≤n∧rem.length≤c'∧c'≤cap∧(∀ w0,At w0 ao zs→At w0 a' rem)∧f = .bool (decide (done=[]))∧Hid (Box.ny (Box.fo d) zs=(Box.ny (Box.fo d) rem).map (done++·))∧(Box.commas done).length+22*rem.length≤22*n∧wr.ownsRow B 5 1 o (n0+1+(Box.commas done).length) ((bs++[123]++Box.commas done).map U8)∧Below B w wr) (fun _ i _ _ _=>lenOf i)
 case atStart=>exact ⟨zs,[],ao,cap,by rw[hn.out],by rw[hn.out];omega,by rw[hn.out];exact hcap,Nat.le_refl _,fun _ h=>h,rfl,by show _=_;cases Box.ny (Box.fo d) zs <;> rfl,by simp[Box.commas,hn.out],by simpa[Box.commas] using hown1,B1⟩
 case round=>
  obtain ⟨rem,done,a',c',rfl,hrn,hrc,hcc,zU,rfl,HA,hlen,hown,hbl⟩:=hrel
  have hBr:=Nat.le_trans hB hbl.size
  by_cases h0:0<rem.length
  ·have hgt:((0:Int)<(rem.length:Int)):=by omega
   by_cases hdone:done=[]
   ·subst hdone
    go_wp2_with fail
    refine (ih B u0 (n0+1+(Box.commas []).length) (bs++[123]++Box.commas []) rem rem.length a' c' _ hown hBr (hid rfl) (by omega) hrc (by omega) ((hlow.part zU).on hbl) (by simp[Box.commas];omega) (htab.on hbl)).mono ?_
    rintro e w3 ⟨k1,k2,B3⟩
    replace B3:=hbl.trans B3
    cases hsh:Box.fo d rem with
    | none=>
     obtain ⟨o,v,rfl⟩:=k2 hsh
     have HN:Hid (Box.ny (Box.fo d) zs=none):=by show _=_;rw[HA.out,Box.pF h0 hsh];rfl
     clear k1 k2 hsh
     go_wp2
     go_ret2
     exact ⟨fun ts h=>by rw[HN.out] at h;simp at h,fun _=>⟨_,rfl⟩,B3⟩
    | some tr=>
     obtain ⟨t,r⟩:=tr
     obtain ⟨o,a2,c2,rfl,hown3,hp3,hc3,hc4⟩:=k1 t r hsh
     have afQ:=Box.iy d rem t r hsh
     have htl:=Box.uR d rem t r hsh
     have Ci:Hid (Box.ny (Box.fo d) zs=(Box.ny (Box.fo d) r).map ([t]++·)):=by
      show _=_
      rw[HA.out,Box.tK (Box.iy d) hsh,Option.map_map]
      first | rfl|(congr 1;funext x;simp)
     have MO:Hid (Box.commas [t]=t):=by
      show _=_
      rfl
     clear k1 k2 hsh
     go_wp2
     go_roundw
     case rel=>
      refine ⟨r,[t],a2,c2,rfl,by omega,hc3,by omega,fun w0 h=>hp3 w0 (zU w0 h),by simp,Ci,?_,?_,B3⟩
      ·rw[MO.out];simp[Box.commas] at hlen;omega
      ·rw[MO.out]
       simpa[Box.commas] using hown3
     case measure=>simp[lenOf];omega
   ·have hdf:decide (done=[])=false:=by simpa using hdone
    rw[hdf]
    go_wp2_with (at_builtin;refine bX _ rfl _ _ 25 rfl B 5 i0 Tryz.underlying25 hif hz0 hz1 hz2 _ _ _ rfl (hown.alloc _) (some ⟨wr.heap.size,0,none⟩) 1 1 [44] rfl rfl ?c1 ?c2 ?c3 ?c4 ?_)
    case c1=>intro h;cases h
    case c2=>exact eQ wr _ _ _ rfl
    case c3=>omega
    case c4=>simp;omega
    intro v2 w2 hown2 hg2 _
    have B2:Below B w w2:=qI (mK hbl hBr _) hg2 (fun i hi=>(hown.lt i hi).1) (by simp;omega)
    have hB2:=Nat.le_trans hB B2.size
    clear hown hg2 hdf
    go_wp2_with fail
    refine (ih B v2 (n0+1+(Box.commas done).length+1) (bs++[123]++Box.commas done++[44]) rem rem.length a' c' _ (by simpa using hown2) hB2 (hid rfl) (by omega) hrc (by omega) ((hlow.part zU).on B2) (by omega) (htab.on B2)).mono ?_
    rintro e w3 ⟨k1,k2,B3⟩
    replace B3:=B2.trans B3
    cases hsh:Box.fo d rem with
    | none=>
     obtain ⟨o,v,rfl⟩:=k2 hsh
     have HN:Hid (Box.ny (Box.fo d) zs=none):=by show _=_;rw[HA.out,Box.pF h0 hsh];rfl
     clear k1 k2 hsh
     go_wp2
     go_ret2
     exact ⟨fun ts h=>by rw[HN.out] at h;simp at h,fun _=>⟨_,rfl⟩,B3⟩
    | some tr=>
     obtain ⟨t,r⟩:=tr
     obtain ⟨o,a2,c2,rfl,hown3,hp3,hc3,hc4⟩:=k1 t r hsh
     have afQ:=Box.iy d rem t r hsh
     have htl:=Box.uR d rem t r hsh
     have Ci:Hid (Box.ny (Box.fo d) zs=(Box.ny (Box.fo d) r).map ((done++[t])++·)):=by
      show _=_
      rw[HA.out,Box.tK (Box.iy d) hsh,Option.map_map]
      first | rfl|(congr 1;funext x;simp)
     have MO:Hid (Box.commas (done++[t])=Box.commas done++44::t):=by
      show _=_
      rw[Box.Gn,if_neg hdone]
     clear k1 k2 hsh
     go_wp2
     go_roundw
     case rel=>
      refine ⟨r,done++[t],a2,c2,rfl,by omega,hc3,by omega,fun w0 h=>hp3 w0 (zU w0 h),by simp,Ci,?_,?_,B3⟩
      ·rw[MO.out];simp;omega
      ·rw[MO.out]
       rw[List.length_append,List.length_cons,show n0+1+((Box.commas done).length+(t.length+1))=n0+1+(Box.commas done).length+1+t.length from by omega];simpa using hown3
     case measure=>simp[lenOf];omega
  ·have hr0:rem=[]:=List.eq_nil_of_length_eq_zero (by omega)
   subst hr0
   have HE:Hid (Box.ny (Box.fo d) zs=some done):=by show _=_;rw[HA.out,Box.zW];simp
   simp only[List.length_nil] at *
   go_wp2_with (at_builtin;refine bX _ rfl _ _ 25 rfl B 5 i0 Tryz.underlying25 hif hz0 hz1 hz2 _ _ _ rfl (hown.alloc _) (some ⟨wr.heap.size,0,none⟩) 1 1 [125] rfl rfl ?c1 ?c2 ?c3 ?c4 ?_)
   case c1=>intro h;cases h
   case c2=>exact eQ wr _ _ _ rfl
   case c3=>omega
   case c4=>simp;omega
   intro v2 w2 hown2 hg2 _
   have B2:Below B w w2:=qI (mK hbl hBr _) hg2 (fun i hi=>(hown.lt i hi).1) (by simp;omega)
   clear hown hg2
   go_wp2
   go_ret2
   refine ⟨fun ts h=>?_,(fun h=>by rw[HE.out] at h;simp at h),B2⟩
   rw[HE.out] at h
   simp only[Option.some.injEq] at h
   subst h
   refine ⟨_,rfl,?_⟩
   rw[show n0+((Box.commas done).length+2)=n0+1+(Box.commas done).length+1 from by omega]
   simpa using hown2
end Go.Proofs.YtpibgolaaaemnaaGreatDoor
namespace Go.Proofs.YtpibgolaaaemnaaGreatDoor
open Go.RowKit
set_option maxRecDepth 100000
def KU (d:Nat) (inner:List UInt8→Option (List (List UInt8))):Prop:=
 ∀ (B:Nat) (sv:Value) (n0:Nat) (bs zs:List UInt8) (n:Nat) (ao:Option Addr) (cap:Nat) (w:World),w.ownsRow B 5 1 sv n0 (bs.map U8)→B≤w.heap.size→Hid (zs.length=n)→n≤100000→n≤cap→cap≤9223372036854775807→Low B w ao zs→n0≤100000000*(999-d)→Tab B w→
  Calls Tryz.prog 147 #[sv,.slice ao n cap,.int .i64 (d:Int)] w fun e w'=>
   (∀ ts,inner zs=some ts→∃ o,e = .returned (.tuple #[o,.bool true])∧w'.ownsRow B 5 1 o (n0+((Box.commas ts).length+2)) ((bs++(123::Box.commas ts++[125])).map U8))∧
   (inner zs=none→∃ o,e = .returned (.tuple #[o,.bool false]))∧Below B w w'
theorem Oy:KU 0 (fun _=>none):=by
 intro B sv n0 bs zs n ao cap w _ _ _ _ _ _ _ _ _
 exact (CE sv (.slice ao n cap) w).mono fun e w' ⟨h1,h2⟩=>⟨fun ts h=>by simp at h,fun _=>⟨_,h1⟩,h2 ▸ Below.refl _ _⟩
theorem Oz (d:Nat) (hd:d≤8) (ih:EZ d):KU (d+1) (Box.ny (Box.fo d)):=by
 intro B sv n0 bs zs n ao cap w h1 h2 h3 h4 h5 h6 h7 h8 h9
 have:=CG d hd ih B sv n0 bs zs n ao cap w h1 h2 h3 h4 h5 h6 h7 (by omega) h9
 rw[show (((d+1:Nat)):Int)=(d:Int)+1 from by omega]
 exact this
theorem E5 {tag:UInt8} {k:Nat} (h:tag.toNat=k):((tag.toNat:Int)==(k:Int))=true:=by rw[beq_iff_eq];omega
set_option maxHeartbeats 1000000 in
theorem wO (d:Nat) (hd:d≤8) (inner:List UInt8→Option (List (List UInt8))) (hl:KU d inner)
  (hs:∀ zs,Box.fo d zs=match Box.cut zs with | none=>none | some (tag,i,r)=>(Box.piece inner tag i).map (·,r)):EZ d:=by
 intro B sv n0 bs zs n ao cap w hown hB hn hn1 hcap hcm hlow hb htab
 have hcut:=MI zs n ao cap w hn (by omega) hcap hcm hlow.here
 have HS:=hid (hs zs)
 clear hs
 cases wo:Box.cut zs with
 | none=>
  rw[wo] at HS hcut
  clear wo
  go_enter Tryz.func105,Tryz.ntmps105
  go_wp2_with fail
  refine hcut.mono ?_
  rintro e w' ⟨_,k2,m,rfl⟩
  obtain rfl:=k2 trivial
  clear k2 hcut
  go_wp2
  go_ret3
  exact ⟨fun t r h=>by rw[HS.out] at h;simp at h,fun _=>⟨_,_,rfl⟩,mM (Below.refl _ _) _⟩
 | some tir=>
  obtain ⟨tag,i,r⟩:=tir
  have hcl:=Box.fq wo
  rw[hn.out] at hcl
  rw[wo] at HS hcut
  clear wo
  go_enter Tryz.func105,Tryz.ntmps105
  go_wp2_with fail
  refine hcut.mono ?_
  rintro e w1 ⟨k1,_,m,rfl⟩
  obtain ⟨a1,c1,a2,c2,rfl,hp1,hc1,amB,hp2,hc2,YT⟩:=k1 tag i r rfl
  clear k1 hcut
  have hB1:B≤(w.drewN m).heap.size:=hB
  have hown1:(w.drewN m).ownsRow B 5 1 sv n0 (bs.map U8):=hown
  have Bm:Below B w (w.drewN m):=mM (Below.refl _ _) m
  have RZ:=(hlow.part hp1).on Bm
  have htab1:=htab.on Bm
  by_cases t2:tag.toNat=2
  ·have q2:((tag.toNat:Int)==2)=true:=E5 t2
   have HP:Hid (Box.fo d zs=((Box.num i).map Lib.itoa).map (·,r)):=by show _=_;rw[HS.out];simp[Box.piece,Box.leaf,t2]
   go_wp2_with fail
   refine (Ba B sv n0 bs i i.length a1 c1 _ hown1 hB1 (hid rfl) (by omega) hc1 RZ.here (by omega) htab1).mono ?_
   rintro e w2 ⟨k1,k2,B2⟩
   cases iY:Box.num i with
   | none=>
    obtain ⟨o,rfl⟩:=k2 iY
    rw[iY] at HP
    clear k1 k2 iY
    go_wp2
    go_ret3
    exact ⟨fun t r h=>by rw[HP.out] at h;simp at h,fun _=>⟨_,_,rfl⟩,Bm.trans B2⟩
   | some v=>
    obtain ⟨o,rfl,hown2⟩:=k1 v iY
    rw[iY] at HP
    clear k1 k2 iY
    go_wp2
    go_ret3
    refine ⟨fun t r' h=>?_,(fun h=>by rw[HP.out] at h;simp at h),Bm.trans B2⟩
    rw[HP.out] at h
    simp only[Option.map_some,Option.some.injEq,Prod.mk.injEq] at h
    obtain ⟨rfl,rfl⟩:=h
    exact ⟨_,a2,c2,rfl,hown2,hp2,hc2,YT⟩
  ·have q2:((tag.toNat:Int)==2)=false:=by rw[beq_eq_false_iff_ne];omega
   by_cases t4:tag.toNat=4
   ·have q4:((tag.toNat:Int)==4)=true:=E5 t4
    have HP:Hid (Box.fo d zs=some (34::Box.hex i++[34],r)):=by show _=_;rw[HS.out];simp[Box.piece,Box.leaf,t4]
    go_wp2_with fail
    refine (EY B sv n0 bs i i.length a1 c1 _ hown1 hB1 (hid rfl) RZ (by omega)).mono ?_
    rintro e w2 ⟨o,rfl,hown2,B2⟩
    go_wp2
    go_ret3
    refine ⟨fun t r' h=>?_,(fun h=>by rw[HP.out] at h;simp at h),Bm.trans B2⟩
    rw[HP.out] at h
    simp only[Option.some.injEq,Prod.mk.injEq] at h
    obtain ⟨rfl,rfl⟩:=h
    refine ⟨_,a2,c2,rfl,?_,hp2,hc2,YT⟩
    rw[show (34::Box.hex i++[34]:List UInt8).length=2*i.length+2 from by simp[Box.jM]]
    exact hown2
   ·have q4:((tag.toNat:Int)==4)=false:=by rw[beq_eq_false_iff_ne];omega
    by_cases t48:tag.toNat=48
    ·have q48:((tag.toNat:Int)==48)=true:=E5 t48
     have HP:Hid (Box.fo d zs=((inner i).map fun ts=>123::Box.commas ts++[125]).map (·,r)):=by show _=_;rw[HS.out];simp[Box.piece,t48]
     go_wp2_with fail
     refine (hl B sv n0 bs i i.length a1 c1 _ hown1 hB1 (hid rfl) (by omega) hc1 (by omega) RZ hb htab1).mono ?_
     rintro e w2 ⟨k1,k2,B2⟩
     cases hin:inner i with
     | none=>
      obtain ⟨o,rfl⟩:=k2 hin
      rw[hin] at HP
      clear k1 k2 hin
      go_wp2
      go_ret3
      exact ⟨fun t r h=>by rw[HP.out] at h;simp at h,fun _=>⟨_,_,rfl⟩,Bm.trans B2⟩
     | some ts=>
      obtain ⟨o,rfl,hown2⟩:=k1 ts hin
      rw[hin] at HP
      clear k1 k2 hin
      go_wp2
      go_ret3
      refine ⟨fun t r' h=>?_,(fun h=>by rw[HP.out] at h;simp at h),Bm.trans B2⟩
      rw[HP.out] at h
      simp only[Option.map_some,Option.some.injEq,Prod.mk.injEq] at h
      obtain ⟨rfl,rfl⟩:=h
      refine ⟨_,a2,c2,rfl,?_,hp2,hc2,YT⟩
      rw[show (123::Box.commas ts++[125]:List UInt8).length=(Box.commas ts).length+2 from by simp]
      exact hown2
    ·have q48:((tag.toNat:Int)==48)=false:=by rw[beq_eq_false_iff_ne];omega
     have HP:Hid (Box.fo d zs=none):=by show _=_;rw[HS.out];simp[Box.piece,Box.leaf,t2,t4,t48]
     go_wp2_with fail
     go_ret3
     exact ⟨fun t r h=>by rw[HP.out] at h;simp at h,fun _=>⟨_,_,rfl⟩,Bm⟩
theorem R7 (d:Nat) (hd:d≤8):EZ d:=by
 induction d with
 | zero=>
  refine wO 0 hd _ Oy fun zs=>?_
  rw[Box.fo]
  cases Box.cut zs with
  | none=>rfl
  | some tir=>
   obtain ⟨tag,i,r⟩:=tir
   simp only[Box.piece]
   split
   ·rename_i h
    simp[Box.leaf,h]
   ·rfl
 | succ d ih=>exact wO (d+1) hd _ (Oz d (by omega) (ih (by omega))) fun zs=>by rw[Box.fo];rfl
end Go.Proofs.YtpibgolaaaemnaaGreatDoor
namespace Go.Proofs.YtpibgolaaaemnaaGreatDoor
open Go.RowKit
set_option maxRecDepth 100000
abbrev eO (w:World):Prop:=Lib.TabIs Tryz.prog w qy .u64 Lib.pow10Tab
set_option maxHeartbeats 1000000 in
theorem OA (zs:List UInt8) (n:Nat) (ao:Option Addr) (cap:Nat) (w:World) (hn:Hid (zs.length=n)) (hl:n≤100000) (hcap:n≤cap) (hcm:cap≤9223372036854775807) (hat:At w ao zs) (htab:eO w) :
  Calls Tryz.prog 66 #[.slice ao n cap] w fun e w'=>
   (∀ t,Box.whole zs=some t→e = .returned (.tuple #[.string ⟨t.toArray⟩,.bool true]))∧
   (Box.whole zs=none→e = .returned (.tuple #[.string ⟨#[]⟩,.bool false]))∧Below w.heap.size w w':=by
 have hsh:=R7 8 (by omega) w.heap.size (.slice none 0 0) 0 [] zs n ao cap w (World.ownsRow_nil _ _ _ _) (Nat.le_refl _) hn hl hcap hcm hat.low (by omega) (Lib.tabBelow_of_tabIs htab)
 have HW:Hid (Box.whole zs=match Box.fo 8 zs with | some (t,[])=>some t | _=>none):=rfl
 cases hs:Box.fo 8 zs with
 | none=>
  rw[hs] at HW hsh
  clear hs
  go_enter Tryz.func66,Tryz.ntmps66
  go_wp2_with fail
  refine hsh.mono ?_
  rintro e w' ⟨_,k2,hb⟩
  obtain ⟨o,v,rfl⟩:=k2 trivial
  clear k2 hsh
  go_wp2
  go_ret2
  exact ⟨fun t h=>by rw[HW.out] at h;simp at h,fun _=>rfl,hb⟩
 | some tr=>
  obtain ⟨t,r⟩:=tr
  rw[hs] at HW hsh
  clear hs
  by_cases hr:r.length=0
  ·have hr':r=[]:=List.eq_nil_of_length_eq_zero hr
   subst hr'
   go_enter Tryz.func66,Tryz.ntmps66
   go_wp2_with fail
   refine hsh.mono ?_
   rintro e w' ⟨k1,_,hb⟩
   obtain ⟨o,a2,c2,rfl,hown,_,_,_⟩:=k1 t [] rfl
   clear k1 hsh hr
   rw[List.nil_append,Nat.zero_add] at hown
   obtain ⟨a3,c3,rfl,_,_,_,Cu⟩:=qi hown
   have hcv:=iq (P:=Tryz.prog) w' 25 9 5 Tryz.underlying25 Tryz.underlying5 Tryz.underlying9 a3 c3 t Cu
   simp only[List.length_nil]
   go_wp2
   go_ret2
   refine ⟨fun t' h=>?_,(fun h=>by rw[HW.out] at h;simp at h),hb⟩
   rw[HW.out] at h
   simp only[Option.some.injEq] at h
   subst h
   rfl
  ·have hr2:(0:Int)<(r.length:Int):=by omega
   have HN:Hid (Box.whole zs=none):=by
    show _=_
    rw[HW.out]
    cases r with
    | nil=>simp at hr
    | cons a r=>rfl
   go_enter Tryz.func66,Tryz.ntmps66
   go_wp2_with fail
   refine hsh.mono ?_
   rintro e w' ⟨k1,_,hb⟩
   obtain ⟨o,a2,c2,rfl,_,_,_,_⟩:=k1 t r rfl
   clear k1 hsh hr
   go_wp2
   go_ret2
   exact ⟨fun t h=>by rw[HN.out] at h;simp at h,fun _=>rfl,hb⟩
def shown (l:List UInt8):Option (List UInt8):=if l.length≤300 then Box.whole l else none
def kJ (l:List UInt8):Value:=
 match shown l with
 | some t=>.tuple #[.string ⟨t.toArray⟩,.int .i64 0]
 | none=>.tuple #[.string ⟨#[]⟩,.int .i64 2]
set_option maxHeartbeats 1000000 in
theorem DJ (zs:List UInt8) (n:Nat) (ao:Option Addr) (cap:Nat) (w:World) (hn:Hid (zs.length=n)) (hcap:n≤cap) (hcm:cap≤9223372036854775807) (hat:At w ao zs) (htab:eO w) :
  Calls Tryz.prog 45 #[.slice ao n cap] w fun e w'=>e = .returned (kJ zs)∧Below w.heap.size w w':=by
 by_cases h:n≤300
 ·have h':¬ ((300:Int)<(n:Int)):=by omega
  have hsh:=OA zs n ao cap w hn (by omega) hcap hcm hat htab
  have HS:Hid (kJ zs=match Box.whole zs with | some t=>.tuple #[.string ⟨t.toArray⟩,.int .i64 0] | none=>.tuple #[.string ⟨#[]⟩,.int .i64 2]):=by
   show _=_
   rw[kJ,shown,if_pos (by rw[hn.out];exact h)]
  cases hs:Box.whole zs with
  | none=>
   rw[hs] at HS hsh
   clear hs
   go_enter Tryz.func45,Tryz.ntmps45
   go_wp2_with fail
   refine hsh.mono ?_
   rintro e w' ⟨_,k2,hb⟩
   obtain rfl:=k2 trivial
   clear k2 hsh
   go_wp2
   go_ret2
   exact ⟨by rw[HS.out];rfl,hb⟩
  | some t=>
   rw[hs] at HS hsh
   clear hs
   go_enter Tryz.func45,Tryz.ntmps45
   go_wp2_with fail
   refine hsh.mono ?_
   rintro e w' ⟨k1,_,hb⟩
   obtain rfl:=k1 t rfl
   clear k1 hsh
   go_wp2
   go_ret2
   exact ⟨by rw[HS.out];rfl,hb⟩
 ·have h':((300:Int)<(n:Int)):=by omega
  have HS:Hid (kJ zs = .tuple #[.string ⟨#[]⟩,.int .i64 2]):=by
   show _=_
   rw[kJ,shown,if_neg (by rw[hn.out];exact h)]
  go_enter Tryz.func45,Tryz.ntmps45
  go_wp2
  go_ret2
  exact ⟨by rw[HS.out];rfl,Below.refl _ _⟩
end Go.Proofs.YtpibgolaaaemnaaGreatDoor
namespace Go.Proofs.YtpibgolaaaemnaaGreatDoor
open Go.RowKit
set_option maxRecDepth 100000
theorem Ng (m:Nat) (h:m<16):((Box.Cg m).toNat:Int)=if m<10 then 48+(m:Int) else 87+(m:Int):=by
 unfold Box.Cg
 split <;> (rw[UInt8.toNat_ofNat',Nat.mod_eq_of_lt (by omega)];omega)
set_option maxHeartbeats 400000 in
theorem BI (m:Nat) (w:World) (h:m<16):Calls Tryz.prog 67 #[.int .u8 ((Box.Cg m).toNat:Int)] w fun e w'=>e = .returned (.int .i64 m)∧w=w':=by
 rw[Ng m h]
 by_cases h10:m<10
 ·rw[if_pos h10]
  go_enter Tryz.func67,Tryz.ntmps67
  go_wp2
  go_ret
  exact ⟨dD (by omega),rfl⟩
 ·rw[if_neg h10]
  go_enter Tryz.func67,Tryz.ntmps67
  go_wp2
  go_ret
  exact ⟨dD (by omega),rfl⟩
def qU (l:List UInt8):Nat:=l.foldl (fun a b=>a*10+(b.toNat-48)) 0
theorem xX (l:List UInt8) (b:UInt8):qU (l++[b])=qU l*10+(b.toNat-48):=by simp[qU]
theorem lN (u:Nat):qU (Lib.decDigits u)=u∧∀ b∈Lib.decDigits u,48≤b.toNat∧b.toNat≤57:=by
 induction u using Nat.strongRecOn with
 | ind u ih=>
  rw[Lib.decDigits]
  split
  ·rename_i h
   have e:(UInt8.ofNat (48+u)).toNat=48+u:=by rw[UInt8.toNat_ofNat',Nat.mod_eq_of_lt (by omega)]
   refine ⟨by simp only[qU,List.foldl_cons,List.foldl_nil];rw[e];omega,?_⟩
   intro b hb
   rw[List.mem_singleton.1 hb,e]
   omega
  ·rename_i h
   obtain ⟨h1,h2⟩:=ih (u / 10) (by omega)
   have e:(UInt8.ofNat (48+u % 10)).toNat=48+u % 10:=by rw[UInt8.toNat_ofNat',Nat.mod_eq_of_lt (by omega)]
   refine ⟨by rw[xX,h1,e];omega,?_⟩
   intro b hb
   rcases List.mem_append.1 hb with hb | hb
   ·exact h2 b hb
   ·rw[List.mem_singleton.1 hb,e]
    omega
theorem Ea (l:List UInt8) (k:Nat):qU (l.take k)≤qU l:=by
 induction h:l.length-k generalizing k with
 | zero=>rw[List.take_of_length_le (by omega)];exact Nat.le_refl _
 | succ n ih=>
  have hk:k<l.length:=by omega
  have h1:=ih (k+1) (by omega)
  rw[List.take_succ_eq_append_getElem hk,xX] at h1
  omega
theorem nI {S:ByteArray} {l:List UInt8} (hS:S=⟨l.toArray⟩) (j:Nat) (h:j<S.size):S[j]'h=l.getD j 0:=by
 subst hS
 have hj:j<l.length:=by simpa[ByteArray.size] using h
 simp only[List.getD,List.getElem?_eq_getElem hj,Option.getD_some]
 rfl
theorem BJ {l:List UInt8} {j:Nat} (h:j<l.length):l.getD j 0∈l:=by
 rw[show l.getD j 0=l[j] from by simp[List.getD,List.getElem?_eq_getElem h]]
 exact List.getElem_mem h
theorem Eb {l:List UInt8} {k:Nat} (h:k<l.length):qU (l.take (k+1))=qU (l.take k)*10+((l.getD k 0).toNat-48):=by
 rw[List.take_succ_eq_append_getElem h,xX]
 simp[List.getD,List.getElem?_eq_getElem h]
set_option maxHeartbeats 1000000 in
theorem PD (l:List UInt8) (n:Nat) (S:ByteArray) (w:World) (hS:Hid (S=⟨l.toArray⟩)) (hn:Hid (l.length=n)) (hl:n≤100) (hd:∀ b∈l,48≤b.toNat∧b.toNat≤57) (hv:qU l≤9223372036854775807) :
  Calls Tryz.prog 68 #[.string S] w fun e w'=>e = .returned (.int .i64 (qU l:Int))∧w=w':=by
 have hsz:S.size=n:=by rw[hS.out,←hn.out];simp[ByteArray.size]
 go_enter Tryz.func68,Tryz.ntmps68
 go_wp2
 go_loop [3,4] (fun x i=>∃ (k p:Nat),k≤n∧i = .int .i64 k∧x = .int .i64 (p:Int)∧Hid (p=qU (l.take k))) (fun _ i=>n-(intOf i).toNat)
 case atStart=>exact ⟨0,0,Nat.zero_le _,rfl,rfl,rfl⟩
 case round=>
  obtain ⟨k,p,hk,rfl,rfl,HP⟩:=hrel
  by_cases hlt:k<n
  ·have hlt':k<l.length:=by rw[hn.out];exact hlt
   have rT:(k:Int)<(n:Int):=by omega
   have hk0:(0:Int)≤(k:Int):=by omega
   have hnx:=Eb hlt'
   have hle:=Ea l (k+1)
   rw[hnx,←HP.out] at hle
   have hgk:=nI hS.out k
   have hg0:=nI hS.out 0
   have hdk:=hd _ (BJ hlt')
   have hd0:=hd _ (BJ (show 0<l.length by omega))
   have HNX:Hid (p*10+((l.getD k 0).toNat-48)=qU (l.take (k+1))):=by show _=_;rw[hnx,←HP.out]
   clear hnx
   generalize l.getD k 0=zk at *
   generalize l.getD 0 0=z0 at *
   have b1:((zk.toNat:Int)==45)=false:=by rw[beq_eq_false_iff_ne];omega
   have b2:((z0.toNat:Int)==45)=false:=by rw[beq_eq_false_iff_ne];omega
   obtain ⟨d,hdd⟩:∃ d:Nat,zk.toNat=48+d:=⟨zk.toNat-48,by omega⟩
   have hdI:(zk.toNat:Int)=48+(d:Int):=by omega
   rw[hdI] at b1
   have hbd:10*(p:Int)+(d:Int)≤9223372036854775807:=by omega
   have hd9:d≤9:=by omega
   have HD:Hid (zk.toNat=48+d):=hdd
   clear hdd hdk hd0 hle
   go_wp2
   go_round
   case rel=>exact ⟨k+1,p*10+d,by omega,by go_num,MH (by omega),by show _=_;rw[←HNX.out,HD.out];omega⟩
   case measure=>simp[intOf];omega
  ·have hkn:k=n:=by omega
   subst hkn
   have rT:¬ (k:Int)<(k:Int):=by omega
   have HV:Hid (p=qU l):=by show _=_;rw[HP.out,List.take_of_length_le (by rw[hn.out];exact Nat.le_refl _)]
   go_wp2
   go_ret
   exact ⟨dD (by rw[HV.out]),rfl⟩
set_option maxHeartbeats 1000000 in
theorem PE (l:List UInt8) (n:Nat) (S:ByteArray) (w:World) (hS:Hid (S=⟨(45::l).toArray⟩)) (hn:Hid (l.length=n)) (hl:n≤100) (hd:∀ b∈l,48≤b.toNat∧b.toNat≤57) (hv:qU l≤9223372036854775808) :
  Calls Tryz.prog 68 #[.string S] w fun e w'=>e = .returned (.int .i64 (-(qU l:Int)))∧w=w':=by
 have hsz:S.size=n+1:=by rw[hS.out,←hn.out];simp[ByteArray.size]
 have hg0:∀ h:0<S.size,S[0]'h=45:=fun h=>nI hS.out 0 h
 go_enter Tryz.func68,Tryz.ntmps68
 go_wp2
 go_loop [3,4] (fun x i=>∃ (k p:Nat),k≤n+1∧i = .int .i64 k∧x = .int .i64 (-(p:Int))∧Hid (p=qU (l.take (k-1)))) (fun _ i=>n+1-(intOf i).toNat)
 case atStart=>exact ⟨0,0,Nat.zero_le _,rfl,rfl,rfl⟩
 case round=>
  obtain ⟨k,p,hk,rfl,rfl,HP⟩:=hrel
  by_cases hk0:k=0
  ·subst hk0
   have HP0:Hid (p=0):=HP
   go_wp2
   go_round
   case rel=>exact ⟨1,p,by omega,by go_num,rfl,HP0⟩
   case measure=>simp[intOf]
  ·obtain ⟨q,rfl⟩:∃ q,k=q+1:=⟨k-1,by omega⟩
   rw[show q+1-1=q from by omega] at HP
   by_cases hlt:q<n
   ·have hlt':q<l.length:=by rw[hn.out];exact hlt
    have hnx:=Eb hlt'
    have hle:=Ea l (q+1)
    rw[hnx,←HP.out] at hle
    have hgk:∀ h:q+1<S.size,S[q+1]'h=l.getD q 0:=fun h=>by rw[nI hS.out (q+1) h];rfl
    have hdk:=hd _ (BJ hlt')
    have HNX:Hid (p*10+((l.getD q 0).toNat-48)=qU (l.take (q+1))):=by show _=_;rw[hnx,←HP.out]
    clear hnx
    generalize l.getD q 0=zk at *
    have b1:((zk.toNat:Int)==45)=false:=by rw[beq_eq_false_iff_ne];omega
    obtain ⟨d,hdd⟩:∃ d:Nat,zk.toNat=48+d:=⟨zk.toNat-48,by omega⟩
    have hdI:(zk.toNat:Int)=48+(d:Int):=by omega
    rw[hdI] at b1
    have hbd:10*(p:Int)+(d:Int)≤9223372036854775808:=by omega
    have hd9:d≤9:=by omega
    have HD:Hid (zk.toNat=48+d):=hdd
    have rT:((q+1:Nat):Int)=(q:Int)+1:=by omega
    rw[rT]
    clear hdd hdk hle
    go_wp2
    go_round
    case rel=>exact ⟨q+2,p*10+d,by omega,by go_num,MH (by omega),by show _=_;rw[show q+2-1=q+1 from by omega,←HNX.out,HD.out];omega⟩
    case measure=>simp[intOf];omega
   ·have hkn:q=n:=by omega
    subst hkn
    have rT:((q+1:Nat):Int)=(q:Int)+1:=by omega
    have hkJ:¬ ((q:Int)+1)<((q:Int)+1):=by omega
    have HV:Hid (p=qU l):=by show _=_;rw[HP.out,List.take_of_length_le (by rw[hn.out];exact Nat.le_refl _)]
    rw[rT]
    go_wp2
    go_ret
    exact ⟨dD (by rw[HV.out]),rfl⟩
theorem LZ (v:Int) (S:ByteArray) (w:World) (hS:Hid (S=⟨(Lib.itoa v).toArray⟩)) (h0:-9223372036854775808≤v) (h1:v≤9223372036854775807) :
  Calls Tryz.prog 68 #[.string S] w fun e w'=>e = .returned (.int .i64 v)∧w=w':=by
 have hlen:=Lib.itoa_length_le v h0 h1
 by_cases hv:v<0
 ·have hi:Lib.itoa v=45::Lib.decDigits v.natAbs:=by rw[Lib.itoa,if_pos hv]
  rw[hi] at hS hlen
  obtain ⟨d1,d2⟩:=lN v.natAbs
  have C:=PE (Lib.decDigits v.natAbs) _ S w hS (hid rfl) (by simp at hlen;omega) d2 (by rw[d1];omega)
  rw[d1] at C
  refine C.mono fun e w' ⟨h,h'⟩=>⟨?_,h'⟩
  rw[h]
  exact dD (by omega)
 ·have hi:Lib.itoa v=Lib.decDigits v.toNat:=by rw[Lib.itoa,if_neg hv]
  rw[hi] at hS hlen
  obtain ⟨d1,d2⟩:=lN v.toNat
  have C:=PD (Lib.decDigits v.toNat) _ S w hS (hid rfl) (by omega) d2 (by rw[d1];omega)
  rw[d1] at C
  refine C.mono fun e w' ⟨h,h'⟩=>⟨?_,h'⟩
  rw[h]
  exact dD (by omega)
theorem vE (v:Int):Lib.itoa v≠[]∧∀ b∈Lib.itoa v,b.toNat=45∨(48≤b.toNat∧b.toNat≤57):=by
 have hne:∀ u,Lib.decDigits u≠[]:=by
  intro u h
  rw[Lib.decDigits] at h
  split at h <;> simp at h
 unfold Lib.itoa
 split
 ·refine ⟨by simp,fun b hb=>?_⟩
  rcases List.mem_cons.1 hb with rfl | hb
  ·exact .inl rfl
  ·exact .inr ((lN _).2 b hb)
 ·exact ⟨hne _,fun b hb=>.inr ((lN _).2 b hb)⟩
theorem drop_cons {L r:List UInt8} {i:Nat} {x:UInt8} (h:L.drop i=x::r):L.getD i 0=x∧L.drop (i+1)=r∧i<L.length:=by
 have hi:i<L.length:=by
  have:=congrArg List.length h
  simp at this
  omega
 refine ⟨?_,?_,hi⟩
 ·have:(L.drop i)[0]?=some x:=by rw[h];rfl
  rw[List.getElem?_drop,Nat.add_zero] at this
  simp[List.getD,this]
 ·rw[←List.drop_drop,h]
  rfl
theorem drop_nil {L:List UInt8} {i:Nat} (h:L.drop i=[]):L.length≤i:=by
 have:=congrArg List.length h
 simp at this
 omega
def Ends (post:List UInt8):Prop:=post=[]∨(∃ r,post=44::r)∨∃ r,post=125::r
end Go.Proofs.YtpibgolaaaemnaaGreatDoor
