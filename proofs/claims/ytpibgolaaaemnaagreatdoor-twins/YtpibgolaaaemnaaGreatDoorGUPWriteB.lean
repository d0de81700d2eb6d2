/-
  
  
  
  
  
  
-/
import Derived.Test.YtpibgolaaaemnaaGreatDoorGUPWriteAI64
import Derived.Test.YtpibgolaaaemnaaGreatDoorGUBoxC
namespace Go.Proofs.YtpibgolaaaemnaaGreatDoor
open Go.RowKit
set_option maxRecDepth 100000
theorem wrap_u64 (x:Int):IntKind.u64.wrap x=x % 18446744073709551616:=by
 unfold IntKind.wrap
 simp[IntKind.signed,IntKind.bits]
def kR (x:Int):UInt64:=UInt64.ofNat (x % 18446744073709551616).toNat
theorem lh (x:Int):IntKind.u64.wrap x=((kR x).toNat:Int):=by
 rw[wrap_u64,kR]
 have h0:=Int.emod_nonneg x (show (18446744073709551616:Int)≠0 by decide)
 have h1:=Int.emod_lt_of_pos x (show (0:Int)<18446744073709551616 by decide)
 rw[Pure.jR _ (by omega)]
 omega
theorem EH (x:Int) (k:Nat) (hk:k≤8):Box.low x k=Pure.be (kR x) k:=by
 have hb:∀ i,i<8→Box.iC x i=Pure.fO (kR x) i:=by
  intro i hi
  apply UInt8.toNat_inj.1
  have e:=kU (kR x) i
  have hw:=lh x
  rw[wrap_u64] at hw
  rw[←hw] at e
  have h2:x / 2 ^ (8*i) % 256=(x % 18446744073709551616) / 2 ^ (8*i) % 256:=by
   match i,hi with
   | 0,_=>simp
   | 1,_=>simp;omega
   | 2,_=>simp;omega
   | 3,_=>simp;omega
   | 4,_=>simp;omega
   | 5,_=>simp;omega
   | 6,_=>simp;omega
   | 7,_=>simp;omega
  have h3:=Int.emod_nonneg (x / 2 ^ (8*i)) (show (256:Int)≠0 by decide)
  have h4:=Int.emod_lt_of_pos (x / 2 ^ (8*i)) (show (0:Int)<256 by decide)
  have h5:(Box.iC x i).toNat=(x / 2 ^ (8*i) % 256).toNat:=by
   unfold Box.iC
   rw[UInt8.toNat_ofNat',Nat.mod_eq_of_lt (by omega)]
  omega
 have hto:∀ j,j≤k→Box.nW x k j=Pure.oC (kR x) k j:=by
  intro j
  induction j with
  | zero=>intro _;rfl
  | succ j ih=>
   intro hj
   rw[Box.nW,ih (by omega),Pure.mG,hb _ (by omega)]
 exact hto k (Nat.le_refl _)
theorem MJ (n:Nat) (h:n<256):Pure.be (kR (n:Int)) 1=[UInt8.ofNat n]:=by
 rw[←EH _ _ (by omega)]
 have e:Box.iC (n:Int) 0=UInt8.ofNat n:=by
  unfold Box.iC
  congr 1
  simp
  omega
 show [Box.iC (n:Int) 0]=_
 rw[e]
theorem VA (n:Nat) (h:n<65536):Pure.be (kR (n:Int)) 2=[UInt8.ofNat (n / 256),UInt8.ofNat (n % 256)]:=by
 rw[←EH _ _ (by omega)]
 have e0:Box.iC (n:Int) 0=UInt8.ofNat (n % 256):=by
  unfold Box.iC
  congr 1
  simp
  omega
 have e1:Box.iC (n:Int) 1=UInt8.ofNat (n / 256):=by
  unfold Box.iC
  congr 1
  have:(n:Int) / 2 ^ (8*1) % 256=((n / 256:Nat):Int):=by simp;omega
  rw[this];rfl
 show [Box.iC (n:Int) 1,Box.iC (n:Int) 0]=_
 rw[e0,e1]
set_option maxHeartbeats 1000000 in
theorem sF (ov:Value) (p:Option Pl) (bs:List UInt8) (tag:UInt8) (n:Nat) (w:World) (hb:Out w ov p bs) (hn:n<65536) (hl:bs.length≤900000) :
  Calls Tryz.prog 175 #[ov,.int .u8 (tag.toNat:Int),.int .i64 (n:Int)] w fun e w'=>∃ v',e = .returned v'∧aI w w' v' p (bs++Box.head tag n):=by
 obtain ⟨i0,hi,hz0,hz1,hz2⟩:=info_parts Tryz.info5
 have hs1:∀ (W:World) (x:UInt8),Src Tryz.prog 1 25 (.slice (some ⟨W.heap.size,0,none⟩) 1 1) 1 ([x].map U8) (W.alloc (.cells #[.int .u8 (x.toNat:Int)] 5)):=
  fun W x=>qp (P:=Tryz.prog) Tryz.underlying25 _ 1 1 [x] rfl (eQ _ _ _ _ rfl)
 have abj:∀ (W:World),Src Tryz.prog 1 25 (.slice (some ⟨W.heap.size,0,none⟩) 1 1) 1 ([129].map U8) (W.alloc (.cells #[.int .u8 129] 5)):=fun W=>hs1 W 129
 have abl:∀ (W:World),Src Tryz.prog 1 25 (.slice (some ⟨W.heap.size,0,none⟩) 1 1) 1 ([130].map U8) (W.alloc (.cells #[.int .u8 130] 5)):=fun W=>hs1 W 130
 by_cases h1:n<128
 ·have h1I:(n:Int)<128:=by omega
  have HH:Hid (Box.head tag n=[tag]++Pure.be (kR (n:Int)) 1):=by show _=_;rw[Box.head,if_pos h1,MJ n (by omega)];rfl
  go_enter Tryz.func175,Tryz.ntmps175
  go_wp2_with (at_builtin;refine bY _ rfl _ _ 25 25 rfl 5 i0 Tryz.underlying25 hi hz0 hz1 hz2 _ _ p bs [tag] rfl rfl (hb.grown (World.grownBy_alloc w _ none)) 1 (hs1 _ _) (by simp;omega) ?_;intro v1 w1 R1)
  have R1':=R1.before (World.grownBy_alloc w _ none)
  obtain ⟨p1,o1,m1⟩:=id R1'
  have HA:=hid (nY v1 p1 _ (n:Int) (kR (n:Int)) 1 w1 o1 (lh _) (by omega) (by simp;omega))
  have HM:=hid (And.intro o1 m1)
  clear R1 R1' o1 m1
  go_wp2_with (go_at_call 153;refine HA.out.mono ?_;rintro e w2 ⟨v2,rfl,R2⟩)
  go_wp2
  go_ret
  exact ⟨_,rfl,by rw[HH.out,←List.append_assoc];exact aI.comp HM.out.2 R2 (by simp)⟩
 ·by_cases h2:n<256
  ·have h1I:¬ (n:Int)<128:=by omega
   have h2I:(n:Int)<256:=by omega
   have HH:Hid (Box.head tag n=[tag]++[129]++Pure.be (kR (n:Int)) 1):=by show _=_;rw[Box.head,if_neg h1,if_pos h2,MJ n h2];rfl
   go_enter Tryz.func175,Tryz.ntmps175
   go_wp2_with (first
    | (at_builtin;refine bY _ rfl _ _ 25 25 rfl 5 i0 Tryz.underlying25 hi hz0 hz1 hz2 _ _ p bs [tag] rfl rfl (hb.grown (World.grownBy_alloc w _ none)) 1 (hs1 _ _) (by simp;omega) ?_;intro v1 w1 R1;obtain ⟨p1,o1,m1⟩:=R1.before (World.grownBy_alloc w _ none);have HM:=hid (And.intro o1 m1);clear R1 o1 m1)
    | (at_builtin;refine bY _ rfl _ _ 25 25 rfl 5 i0 Tryz.underlying25 hi hz0 hz1 hz2 _ _ p1 _ [129] rfl rfl (HM.out.1.grown (World.grownBy_alloc w1 _ none)) 1 (abj _) (by simp;omega) ?_;intro v2 w2 R2;obtain ⟨p2,o2,m2⟩:=R2.before (World.grownBy_alloc w1 _ none);have HA:=hid (nY v2 p2 _ (n:Int) (kR (n:Int)) 1 w2 o2 (lh _) (by omega) (by simp;omega));have HM2:=hid (And.intro o2 m2);clear R2 o2 m2)
    | (go_at_call 153;refine HA.out.mono ?_;rintro e w3 ⟨v3,rfl,R3⟩))
   go_wp2
   go_ret
   exact ⟨_,rfl,by rw[HH.out,←List.append_assoc,←List.append_assoc];exact aI.comp HM.out.2 (aI.comp HM2.out.2 R3 (by simp)) (by simp)⟩
  ·have h1I:¬ (n:Int)<128:=by omega
   have h2I:¬ (n:Int)<256:=by omega
   have HH:Hid (Box.head tag n=[tag]++[130]++Pure.be (kR (n:Int)) 2):=by show _=_;rw[Box.head,if_neg h1,if_neg h2,VA n hn];rfl
   go_enter Tryz.func175,Tryz.ntmps175
   go_wp2_with (first
    | (at_builtin;refine bY _ rfl _ _ 25 25 rfl 5 i0 Tryz.underlying25 hi hz0 hz1 hz2 _ _ p bs [tag] rfl rfl (hb.grown (World.grownBy_alloc w _ none)) 1 (hs1 _ _) (by simp;omega) ?_;intro v1 w1 R1;obtain ⟨p1,o1,m1⟩:=R1.before (World.grownBy_alloc w _ none);have HM:=hid (And.intro o1 m1);clear R1 o1 m1)
    | (at_builtin;refine bY _ rfl _ _ 25 25 rfl 5 i0 Tryz.underlying25 hi hz0 hz1 hz2 _ _ p1 _ [130] rfl rfl (HM.out.1.grown (World.grownBy_alloc w1 _ none)) 1 (abl _) (by simp;omega) ?_;intro v2 w2 R2;obtain ⟨p2,o2,m2⟩:=R2.before (World.grownBy_alloc w1 _ none);have HA:=hid (nY v2 p2 _ (n:Int) (kR (n:Int)) 2 w2 o2 (lh _) (by omega) (by simp;omega));have HM2:=hid (And.intro o2 m2);clear R2 o2 m2)
    | (go_at_call 153;refine HA.out.mono ?_;rintro e w3 ⟨v3,rfl,R3⟩))
   go_wp2
   go_ret
   exact ⟨_,rfl,by rw[HH.out,←List.append_assoc,←List.append_assoc];exact aI.comp HM.out.2 (aI.comp HM2.out.2 R3 (by simp)) (by simp)⟩
end Go.Proofs.YtpibgolaaaemnaaGreatDoor
namespace Go.Proofs.YtpibgolaaaemnaaGreatDoor
open Go.RowKit
set_option maxRecDepth 100000
set_option maxHeartbeats 400000 in
theorem wu (v:Int) (w:World) (h0:-9223372036854775808≤v) (h1:v≤9223372036854775807) :
  Calls Tryz.prog 160 #[.int .i64 v] w fun e w'=>e = .returned (.int .i64 (Box.size v:Int))∧w=w':=by
 obtain ⟨m,hm,hmv⟩:=Ac v h0 h1
 have HS:=hid (Box.xE v h0 h1 m hmv)
 have hm1:m<18446744073709551616:=by split at hmv <;> omega
 have hb:=(Box.bitLen_le (k:=64) hm1).2 hm1
 have HM:=hid hm
 clear hm hmv
 go_enter Tryz.func160,Tryz.ntmps160
 go_wp2_with fail
 rw[HM.out]
 refine (Go.Proofs.Tryz.bits_Len64 (m:Int) _ (by omega) (by omega)).mono ?_
 rintro e w' ⟨rfl,rfl⟩
 rw[Int.toNat_natCast]
 generalize Lib.bitLen m=bl at *
 go_wp2
 go_ret
 refine ⟨dD ?_,rfl⟩
 rw[←HS.out]
 omega
set_option maxHeartbeats 400000 in
theorem mo (ov:Value) (p:Option Pl) (bs:List UInt8) (v:Int) (w:World) (hb:Out w ov p bs) (h0:-9223372036854775808≤v) (h1:v≤9223372036854775807) (hl:bs.length≤900000) :
  Calls Tryz.prog 174 #[ov,.int .i64 v] w fun e w'=>∃ v',e = .returned v'∧aI w w' v' p (bs++aN v):=by
 obtain ⟨i0,hi,hz0,hz1,hz2⟩:=info_parts Tryz.info5
 have hsz:=iJ v
 have HS:=hid (wu v w h0 h1)
 obtain ⟨s,hs⟩:∃ s,Box.size v=s:=⟨_,rfl⟩
 have HB:Hid (aN v=[2,UInt8.ofNat s]++Pure.be (kR v) s):=by
  show _=_
  rw[aN,Box.box,Box.je,Box.head,if_pos (by omega),hs,EH _ _ (by omega)]
 rw[hs] at HS hsz
 clear hs
 have hsrc:∀ (W:World) (x:Int),x=((UInt8.ofNat s).toNat:Int)→Src Tryz.prog 1 25 (.slice (some ⟨W.heap.size,0,none⟩) 2 2) 2 ([2,UInt8.ofNat s].map U8) (W.alloc (.cells #[.int .u8 2,.int .u8 x] 5)):=by
  intro W x hx
  refine qp (P:=Tryz.prog) Tryz.underlying25 _ 2 2 [2,UInt8.ofNat s] rfl ?_
  exact eQ _ _ _ _ (by rw[hx];rfl)
 have hsw:=QP s (by omega)
 have HW:=hid hsw
 have hss:((UInt8.ofNat s).toNat:Int)=(s:Int):=by rw[UInt8.toNat_ofNat',Nat.mod_eq_of_lt (by omega)]
 have HZ:=hid hss
 clear hsw hss
 go_enter Tryz.func174,Tryz.ntmps174
 go_wp2_with (first
  | (go_at_call 160;refine HS.out.mono ?_;rintro e w' ⟨rfl,rfl⟩)
  | (at_builtin;refine bY _ rfl _ _ 25 25 rfl 5 i0 Tryz.underlying25 hi hz0 hz1 hz2 _ _ p bs [2,UInt8.ofNat s] rfl rfl (hb.grown (World.grownBy_alloc w _ none)) 2 (hsrc _ _ (by first | exact HW.out | exact HZ.out.symm)) (by simp;omega) ?_;intro v1 w1 R1;obtain ⟨p1,o1,m1⟩:=R1.before (World.grownBy_alloc w _ none);have HA:=hid (Cr v1 p1 _ v (kR v) s w1 o1 (lh _) (by omega) (by simp;omega));have HM:=hid (And.intro o1 m1);clear R1 o1 m1)
  | (go_at_call 193;refine HA.out.mono ?_;rintro e w2 ⟨v2,rfl,R2⟩))
 go_wp2
 go_ret
 exact ⟨_,rfl,by rw[HB.out,←List.append_assoc];exact aI.comp HM.out.2 R2 (by simp)⟩
end Go.Proofs.YtpibgolaaaemnaaGreatDoor
namespace Go.Proofs.YtpibgolaaaemnaaGreatDoor
open Go.RowKit
set_option maxRecDepth 100000
set_option maxHeartbeats 400000 in
theorem yZ (v:Int) (w:World) (h0:-9223372036854775808≤v) (h1:v≤9223372036854775807) :
  Calls Tryz.prog 185 #[.int .i64 v] w fun e w'=>e = .returned (.int .i64 (Box.size v:Int))∧w=w':=by
 obtain ⟨m,hm,hmv⟩:=Ac v h0 h1
 have HS:=hid (Box.xE v h0 h1 m hmv)
 have hm1:m<18446744073709551616:=by split at hmv <;> omega
 have hb:=(Box.bitLen_le (k:=64) hm1).2 hm1
 have HM:=hid hm
 clear hm hmv
 go_enter Tryz.func185,Tryz.ntmps185
 go_wp2_with fail
 rw[HM.out]
 refine (Go.Proofs.Tryz.bits_Len64 (m:Int) _ (by omega) (by omega)).mono ?_
 rintro e w' ⟨rfl,rfl⟩
 rw[Int.toNat_natCast]
 generalize Lib.bitLen m=bl at *
 go_wp2
 go_ret
 refine ⟨dD ?_,rfl⟩
 rw[←HS.out]
 omega
set_option maxHeartbeats 400000 in
theorem ku (ov:Value) (p:Option Pl) (bs:List UInt8) (v:Int) (w:World) (hb:Out w ov p bs) (h0:-9223372036854775808≤v) (h1:v≤9223372036854775807) (hl:bs.length≤900000) :
  Calls Tryz.prog 163 #[ov,.int .i64 v] w fun e w'=>∃ v',e = .returned v'∧aI w w' v' p (bs++aN v):=by
 obtain ⟨i0,hi,hz0,hz1,hz2⟩:=info_parts Tryz.info5
 have hsz:=iJ v
 have HS:=hid (yZ v w h0 h1)
 obtain ⟨s,hs⟩:∃ s,Box.size v=s:=⟨_,rfl⟩
 have HB:Hid (aN v=[2,UInt8.ofNat s]++Pure.be (kR v) s):=by
  show _=_
  rw[aN,Box.box,Box.je,Box.head,if_pos (by omega),hs,EH _ _ (by omega)]
 rw[hs] at HS hsz
 clear hs
 have hsrc:∀ (W:World) (x:Int),x=((UInt8.ofNat s).toNat:Int)→Src Tryz.prog 1 25 (.slice (some ⟨W.heap.size,0,none⟩) 2 2) 2 ([2,UInt8.ofNat s].map U8) (W.alloc (.cells #[.int .u8 2,.int .u8 x] 5)):=by
  intro W x hx
  refine qp (P:=Tryz.prog) Tryz.underlying25 _ 2 2 [2,UInt8.ofNat s] rfl ?_
  exact eQ _ _ _ _ (by rw[hx];rfl)
 have hsw:=QP s (by omega)
 have HW:=hid hsw
 have hss:((UInt8.ofNat s).toNat:Int)=(s:Int):=by rw[UInt8.toNat_ofNat',Nat.mod_eq_of_lt (by omega)]
 have HZ:=hid hss
 clear hsw hss
 go_enter Tryz.func163,Tryz.ntmps163
 go_wp2_with (first
  | (go_at_call 185;refine HS.out.mono ?_;rintro e w' ⟨rfl,rfl⟩)
  | (at_builtin;refine bY _ rfl _ _ 25 25 rfl 5 i0 Tryz.underlying25 hi hz0 hz1 hz2 _ _ p bs [2,UInt8.ofNat s] rfl rfl (hb.grown (World.grownBy_alloc w _ none)) 2 (hsrc _ _ (by first | exact HW.out | exact HZ.out.symm)) (by simp;omega) ?_;intro v1 w1 R1;obtain ⟨p1,o1,m1⟩:=R1.before (World.grownBy_alloc w _ none);have HA:=hid (nY v1 p1 _ v (kR v) s w1 o1 (lh _) (by omega) (by simp;omega));have HM:=hid (And.intro o1 m1);clear R1 o1 m1)
  | (go_at_call 153;refine HA.out.mono ?_;rintro e w2 ⟨v2,rfl,R2⟩))
 go_wp2
 go_ret
 exact ⟨_,rfl,by rw[HB.out,←List.append_assoc];exact aI.comp HM.out.2 R2 (by simp)⟩
end Go.Proofs.YtpibgolaaaemnaaGreatDoor
namespace Go.Proofs.YtpibgolaaaemnaaGreatDoor
open Go.RowKit
set_option maxRecDepth 100000
set_option maxHeartbeats 400000 in
theorem kz (ov:Value) (p:Option Pl) (bs l:List UInt8) (w:World) (hb:Out w ov p bs) (hn:l.length<65536) (hl:bs.length≤800000) :
  Calls Tryz.prog 164 #[ov,.string ⟨l.toArray⟩] w fun e w'=>∃ v',e = .returned v'∧aI w w' v' p (bs++bD l):=by
 obtain ⟨i0,hi,hz0,hz1,hz2⟩:=info_parts Tryz.info5
 have HA:=hid (sF ov p bs 4 l.length w hb hn (by omega))
 have hh:(Box.head 4 l.length).length≤4:=by rw[Box.lS];split <;> (try split) <;> omega
 have HH:=hid hh
 clear hh
 have hsrc:∀ W:World,Src Tryz.prog 1 9 (.string ⟨l.toArray⟩) l.length (l.map U8) W:=fun W=>Vo (P:=Tryz.prog) Tryz.underlying9 l
 go_enter Tryz.func164,Tryz.ntmps164
 go_wp2_with (first
  | (go_at_call 175;refine HA.out.mono ?_;rintro e w1 ⟨v1,rfl,R1⟩;obtain ⟨p1,o1,m1⟩:=R1;have HM:=hid (And.intro o1 m1);clear o1 m1)
  | (at_builtin;refine bY _ rfl _ _ 25 9 rfl 5 i0 Tryz.underlying25 hi hz0 hz1 hz2 _ _ p1 _ l rfl rfl HM.out.1 _ (hsrc _) (by have:=HH.out;simp;omega) ?_;intro v2 w2 R2))
 go_wp2
 go_ret
 exact ⟨_,rfl,by rw[bD,Box.box,←List.append_assoc];exact aI.comp HM.out.2 R2 (by simp)⟩
set_option maxHeartbeats 400000 in
theorem lq (ov:Value) (p:Option Pl) (A B:List UInt8) (tag:UInt8) (i:Nat) (ii:Int) (w:World) (hv:Out w ov p (A++B)) (hi:Hid (A.length=i)) (hii:ii=i) (hn:B.length<65536) (hl:A.length≤700000) :
  Calls Tryz.prog 143 #[ov,.int .i64 ii,.int .u8 (tag.toNat:Int)] w fun e w'=>∃ v',e = .returned v'∧aI w w' v' p (A++Box.box tag B):=by
 have hiA:=hi.out
 obtain ⟨n,hN⟩:∃ n,(A++B).length=n:=⟨_,rfl⟩
 have hnn:n=i+B.length:=by rw[←hN,←hiA,List.length_append]
 have HN:=hid hN
 have hN':=hN
 clear hN
 obtain ⟨ao,cap,rfl,hcap,hcm,hat,_⟩:=hv.open HN
 have HV:=hid hv
 clear hv hat hN'
 subst hii
 have hsub:((n:Int)-(i:Int))=(B.length:Int):=by omega
 have HSub:=hid hsub
 have VB:=hid hnn
 have hi7:i≤700000:=by omega
 have hn7:n≤800000:=by omega
 clear hsub hnn hiA
 have hhl:(Box.head tag B.length).length≤4∧0<(Box.head tag B.length).length:=by rw[Box.lS];split <;> (try split) <;> omega
 have HH:=hid hhl
 clear hhl
 obtain ⟨W,hW⟩:∃ W,W=w.alloc (.cells #[.int .u8 0,.int .u8 0,.int .u8 0,.int .u8 0] 296):=⟨_,rfl⟩
 have hblk:W.heap[w.heap.size]?=some (.cells #[.int .u8 0,.int .u8 0,.int .u8 0,.int .u8 0] 296 (0,0)):=by rw[hW];exact heap_alloc_new w _
 have hG:w.grownBy W none:=by rw[hW];exact World.grownBy_alloc w _ none
 have hO:Out W (.slice (some ⟨w.heap.size,0,none⟩) 0 4) (some ⟨w.heap.size,0,4⟩) []:=
  .inr ⟨_,rfl,rfl,Nat.zero_le _,by show 4≤maxLen;unfold maxLen;omega,⟨_,_,hblk,Nat.le_refl _⟩,fun j u hu=>by simp at hu⟩
 have HA:=hid (sF _ _ [] tag B.length W hO hn (by simp))
 have HG:=hid hG
 have HW:=hid hW
 clear hblk hO hG hW
 go_enter Tryz.func143,Tryz.ntmps143
 go_wp2_with fail
 rw[HSub.out,←HW.out]
 refine HA.out.mono ?_
 rintro e w1 ⟨v1,rfl,p1,o1,m1,m2,m3⟩
 rw[List.nil_append] at o1 m3
 have hp1:=m3 _ rfl HH.out.1
 subst hp1
 obtain ⟨m,hm⟩:∃ m,(Box.head tag B.length).length=m:=⟨_,rfl⟩
 have RR:Hid (v1 = .slice (some ⟨w.heap.size,0,none⟩) m 4∧Live w1 w.heap.size (0+m)∧w1.rangeAt w.heap.size 0 ((Box.head tag B.length).map U8)∧Out w1 (.slice ao n cap) p (A++B)∧w.grownBy w1 none∧∀ q,p=some q→w.heap.size≠q.g):=by
  have hgb:w.grownBy w1 none:=by
   refine ((CF.aW HG.out (fun _ _=>False)).trans m1 (fun b o hb e=>?_)).gb (fun _ _ _ e=>e)
   obtain ⟨q,hq,e1,_⟩:=e
   injection hq with hq
   subst hq
   exact absurd hb (by rw[e1];exact Nat.lt_irrefl _)
  rcases o1 with ⟨h,_⟩ | ⟨q,hq,hv2,k1,k2,k3,k4⟩
  ·cases h
  ·injection hq with hq
   subst hq
   refine ⟨by rw[hv2,hm],k3.mono (by show 0+m≤0+4;have:=HH.out;omega),k4,HV.out.grown hgb,hgb,fun q hq e=>?_⟩
   have:=HV.out.Et q hq
   omega
 have HI:Hid (Calls Tryz.prog 111 #[.slice ao n cap,.int .i64 (i:Int),.slice (some ⟨w.heap.size,0,none⟩) m 4] w1 fun e w'=>∃ v',e = .returned v'∧aI w1 w' v' p (A++Box.head tag B.length++B)):=
  zS (.slice ao n cap) p A B (Box.head tag B.length) i i w.heap.size 0 m 4 w1 RR.out.2.2.2.1 hi rfl hm (by have:=HH.out;omega) RR.out.2.1 RR.out.2.2.1 RR.out.2.2.2.2.2 (by have:=HH.out;have:=VB.out;have:=HN.out;have:=hi.out;omega)
 obtain ⟨rfl,_,_,_,hg1,_⟩:=RR.out
 have HGG:=hid hg1
 clear hg1 o1 m1 m2 m3 RR hm
 go_wp2_with (go_at_call 111;refine HI.out.mono ?_;rintro e w2 ⟨v2,rfl,R2⟩)
 go_wp2
 go_ret
 exact ⟨_,rfl,by rw[Box.box,←List.append_assoc];exact R2.before HGG.out⟩
end Go.Proofs.YtpibgolaaaemnaaGreatDoor
namespace Go.Proofs.YtpibgolaaaemnaaGreatDoor
open Go.RowKit
set_option maxRecDepth 100000
def Q6 (x:Int):Value:=.int .i64 x
def In64 (x:Int):Prop:=-9223372036854775808≤x∧x≤9223372036854775807
theorem EI {xs:List Int} {k:Nat} (h:k<xs.length):fT (xs.take (k+1))=fT (xs.take k)++aN xs[k]:=by
 unfold fT
 rw[List.take_succ_eq_append_getElem h,List.map_append,List.flatten_append]
 simp only[List.map_cons,List.map_nil,List.flatten_cons,List.flatten_nil,List.append_nil]
theorem uq (xs:List Int) (k:Nat):(fT (xs.take k)).length≤10*k:=by
 have:=jg (xs.take k)
 rw[List.length_take] at this
 omega
theorem oH (tag:UInt8) (l:List UInt8):l.length≤(Box.box tag l).length:=by rw[Box.box,List.length_append];omega
theorem kC (tag:UInt8) (l:List UInt8):(Box.box tag l).length≤l.length+4:=by rw[Box.box,List.length_append,Box.lS];split <;> (try split) <;> omega
set_option maxHeartbeats 600000 in
theorem kD (ov:Value) (p:Option Pl) (bs:List UInt8) (xs:List Int) (g m c:Nat) (w:World) (hb:Out w ov p bs) (hr:w.rangeAt g 0 (xs.map Q6)) (hne:∀ q,p=some q→g≠q.g) (hm:Hid (xs.length=m)) (hx:∀ x∈xs,In64 x) (hm4:m≤1000) (hl:bs.length≤800000) :
  Calls Tryz.prog 142 #[ov,.slice (some ⟨g,0,none⟩) m c] w fun e w'=>∃ v',e = .returned v'∧aI w w' v' p (bs++fT xs):=by
 have HR:=hid hr
 have HX:=hid hx
 have HB:=hid hb
 have XF:=hid hne
 clear hr hx hb hne
 go_enter Tryz.func142,Tryz.ntmps142
 go_wp2
 go_loopw [0,9] (fun o i wr=>∃ k:Nat,k≤m∧i = .int .i64 k∧Hid (aI w wr o p (bs++fT (xs.take k)))) (fun _ i _=>m-(intOf i).toNat)
 case atStart=>exact ⟨0,Nat.zero_le _,rfl,by show aI _ _ _ _ _;simpa[fT] using aI.refl HB.out⟩
 case round=>
  obtain ⟨k,hk,rfl,hbr⟩:=hrel
  by_cases hlt:k<m
  ·have hlt':k<xs.length:=by rw[hm.out];exact hlt
   obtain ⟨p1,o1,m1,m2,m3⟩:=hbr.out
   obtain ⟨x,hxk⟩:∃ x,xs[k]=x:=⟨_,rfl⟩
   have hcell:wr.cell? ⟨g,k,none⟩=some (.int .i64 x):=by
    have h0:=HR.out k (Q6 x) (by simp[hlt',hxk])
    rw[Nat.zero_add] at h0
    refine m1.cell h0 ?_
    rintro ⟨q,hq,e,_⟩
    exact XF.out q hq e
   have hxb:=HX.out x (by rw[←hxk];exact List.getElem_mem hlt')
   have HA:=hid (mo _ p1 _ x wr o1 hxb.1 hxb.2 (by have:=uq xs k;simp;omega))
   have HM:=hid (And.intro m1 (And.intro m2 m3))
   have HT:=hid (EI hlt')
   rw[hxk] at HT
   clear hxk hxb o1 m1 m2 m3 hlt' hbr
   go_wp2_with (go_at_call 174;refine HA.out.mono ?_;rintro e w2 ⟨v2,rfl,R2⟩)
   go_wp2
   go_roundw
   case rel=>exact ⟨k+1,by omega,by go_num,by show aI _ _ _ _ _;rw[HT.out,←List.append_assoc];exact aI.comp HM.out R2 (by simp)⟩
   case measure=>simp[intOf];omega
  ·have hks:k=m:=by omega
   subst hks
   go_wp2
   go_ret
   exact ⟨_,rfl,by have:=hbr.out;rw[List.take_of_length_le (by rw[hm.out];omega)] at this;exact this⟩
set_option maxHeartbeats 400000 in
theorem uB (ov:Value) (p:Option Pl) (bs:List UInt8) (key:UInt64) (w:World) (hb:Out w ov p bs) (hl:bs.length≤600000) :
  Calls Tryz.prog 186 #[ov,.int .u64 (key.toNat:Int)] w fun e w'=>∃ v',e = .returned v'∧aI w w' v' p (bs++kY key):=by
 obtain ⟨n,hN⟩:∃ n,bs.length=n:=⟨_,rfl⟩
 have HN:=hid hN
 have HA:=hid (vZ ov p bs key 8 w hb (by omega) (by omega))
 obtain ⟨ao,cap,rfl,hcap,hcm,hat,_⟩:=hb.open HN
 have hn6:n≤600000:=by omega
 have HB:=hid hb
 clear hb hat hN hl
 go_enter Tryz.func186,Tryz.ntmps186
 go_wp2_with (first
  | (go_at_call 112;refine HA.out.mono ?_;rintro e w1 ⟨v1,rfl,R1⟩;obtain ⟨p1,o1,m1⟩:=R1;have HM:=hid (And.intro o1 m1);have HW:=hid (lq v1 p1 bs (Pure.be key 8) 4 n n w1 o1 HN rfl (by rw[Pure.di];omega) (by rw[HN.out];omega));clear o1 m1)
  | (go_at_call 143;refine HW.out.mono ?_;rintro e w2 ⟨v2,rfl,R2⟩))
 go_wp2
 go_ret
 refine ⟨_,rfl,?_⟩
 refine aI.comp HM.out.2 R2 ?_
 simp[kY,bD,Box.box]
set_option maxHeartbeats 400000 in
theorem sG (ov:Value) (p:Option Pl) (A B:List UInt8) (key use draw:UInt64) (x ii:Int) (i:Nat) (w:World) (hb:Out w ov p (A++B)) (hi:Hid (A.length=i)) (hii:ii=i) (hu:Hid (x=use.toNat)) (Vq:use.toNat<9223372036854775808) (hB:B.length≤60000) (hl:A.length≤600000) :
  Calls Tryz.prog 188 #[ov,.int .i64 ii,.int .u64 (key.toNat:Int),.int .i64 x,.int .u64 (draw.toNat:Int)] w fun e w'=>∃ v',e = .returned v'∧aI w w' v' p (A++bD (Pure.dK key use draw (Box.box 48 B))):=by
 subst hii
 have hbl:(Box.box 48 B).length≤B.length+4:=by rw[Box.box,List.length_append,Box.lS];split <;> (try split) <;> omega
 have hsl:(Pure.dK key use draw (Box.box 48 B)).length=(Box.box 48 B).length+16:=Pure.bO _ _ _ _
 have H1:=hid (lq ov p A B 48 i i w hb hi rfl (by omega) (by omega))
 have HL:=hid (And.intro hbl hsl)
 have HLA:=hid (And.intro hB hl)
 clear hb hbl hsl hB hl
 go_enter Tryz.func188,Tryz.ntmps188
 go_wp2_with (first
  | (go_at_call 143;refine H1.out.mono ?_;clear H1;rintro e w1 ⟨v1,rfl,R1⟩;obtain ⟨p1,o1,m1⟩:=R1;have HM:=hid (And.intro o1 m1);have H2:=hid (Gl key use draw x v1 p1 A (Box.box 48 B) i i w1 o1 hi rfl hu Vq (by have:=HL.out;have:=HLA.out;rw[List.length_append];omega));clear o1 m1)
  | (go_at_call 74;refine H2.out.mono ?_;rintro e w2 ⟨v2,rfl,R2⟩;obtain ⟨p2,o2,m2⟩:=R2;have HM2:=hid (And.intro o2 m2);have H3:=hid (lq v2 p2 A (Pure.dK key use draw (Box.box 48 B)) 4 i i w2 o2 hi rfl (by have:=HL.out;have:=HLA.out;omega) (by have:=HLA.out;omega));clear o2 m2)
  | (go_at_call 143;refine H3.out.mono ?_;rintro e w3 ⟨v3,rfl,R3⟩))
 go_wp2
 go_ret
 refine ⟨_,rfl,?_⟩
 refine aI.comp HM.out.2 (aI.comp HM2.out.2 R3 ?_) ?_
 ·have:=oH 4 (Pure.dK key use draw (Box.box 48 B))
  rw[List.length_append,List.length_append]
  exact Nat.add_le_add_left this _
 ·have h1:=oH 4 (Pure.dK key use draw (Box.box 48 B))
  have h2:=HL.out
  rw[List.length_append,List.length_append]
  refine Nat.add_le_add_left (Nat.le_trans ?_ h1) _
  omega
set_option maxHeartbeats 400000 in
theorem wy (ov:Value) (p:Option Pl) (bs:List UInt8) (now code:Int) (w:World) (hb:Out w ov p bs) (dC:In64 now) (hcode:In64 code) (hl:bs.length≤600000) :
  Calls Tryz.prog 104 #[ov,.int .i64 now,.int .i64 code] w fun e w'=>∃ v',e = .returned v'∧aI w w' v' p (bs++aL now code):=by
 obtain ⟨n,hN⟩:∃ n,bs.length=n:=⟨_,rfl⟩
 have HN:=hid hN
 obtain ⟨ao,cap,rfl,hcap,hcm,hat,_⟩:=hb.open HN
 have hn6:n≤600000:=by omega
 obtain ⟨W,hW⟩:∃ W,W=w.alloc (.cells #[.int .i64 30,.int .i64 now,.int .i64 code] 2):=⟨_,rfl⟩
 have hG:w.grownBy W none:=by rw[hW];exact World.grownBy_alloc w _ none
 have hr:W.rangeAt w.heap.size 0 ([30,now,code].map Q6):=by rw[hW];exact aQ w _ _
 have hne:∀ q,p=some q→w.heap.size≠q.g:=fun q hq e=>by have:=hb.Et q hq;omega
 have HA:=hid (kD _ p bs [30,now,code] w.heap.size 3 3 W (hb.grown hG) hr hne (hid rfl) (by intro x hx;simp at hx;rcases hx with rfl | rfl | rfl <;> first | assumption|(constructor <;> decide)) (by omega) (by omega))
 have HG:=hid hG
 have HW:=hid hW
 have EJ:fT [30,now,code]=aN 30++(aN now++aN code):=by simp[fT]
 have hcl:=jg [30,now,code]
 simp only[List.length_cons,List.length_nil] at hcl
 have HC:=hid (And.intro EJ hcl)
 clear hb hat hN hl hG hr hne hW dC hcode EJ hcl
 go_enter Tryz.func104,Tryz.ntmps104
 go_wp2_with (first
  | (go_at_call 142;rw[←HW.out];refine HA.out.mono ?_;rintro e w1 ⟨v1,rfl,R1⟩;obtain ⟨p1,o1,m1⟩:=R1;have HM:=hid (And.intro o1 m1);have HB:=hid (lq v1 p1 bs _ 48 n n w1 o1 HN rfl (by have:=HC.out.2;omega) (by rw[HN.out];omega));clear o1 m1)
  | (go_at_call 143;refine HB.out.mono ?_;rintro e w2 ⟨v2,rfl,R2⟩))
 go_wp2
 go_ret
 refine ⟨_,rfl,?_⟩
 have R3:=(aI.comp HM.out.2 R2 (by have:=oH 48 (fT [30,now,code]);rw[List.length_append,List.length_append];omega)).before HG.out
 rw[HC.out.1] at R3
 simpa[aL,iX] using R3
end Go.Proofs.YtpibgolaaaemnaaGreatDoor
namespace Go.Proofs.YtpibgolaaaemnaaGreatDoor
open Go.RowKit
abbrev doC (kd A B D T:Int) (S:List UInt8):Array Value:=#[.int .i64 kd,.int .i64 A,.int .i64 B,.int .i64 D,.int .i64 T,.string ⟨S.toArray⟩]
def Uz (w:World) (a:Option Addr) (n:Nat):Prop:=∀ i,i<n→∃ b off v,a=some ⟨b,off,none⟩∧w.cell? ⟨b,off+i,none⟩=some (.int .i64 v)∧In64 v
def Yf (w:World) (a:Option Addr) (n:Nat):Prop:=∀ i,i<n→∃ b off kd A B D T S,a=some ⟨b,off,none⟩∧In64 A∧In64 B∧In64 D∧In64 T∧S.length≤140737488355328∧∀ j u,(doC kd A B D T S)[j]?=some u→w.cell? ⟨b,off+i*6+j,none⟩=some u
end Go.Proofs.YtpibgolaaaemnaaGreatDoor
