/-
  
  
-/
import Derived.Test.YtpibgolaaaemnaaGreatDoorGUSeal
import Derived.Test.YtpibgolaaaemnaaGreatDoorGUBoxN
namespace Go.Proofs.YtpibgolaaaemnaaGreatDoor
open Go.RowKit
set_option maxRecDepth 100000
set_option maxHeartbeats 400000 in
theorem Cr (ov:Value) (p:Option Pl) (bs:List UInt8) (x:Int) (v:UInt64) (size:Nat) (w:World) (hb:Out w ov p bs) (hx:IntKind.u64.wrap x=(v.toNat:Int)) (hs:size≤8) (hl:bs.length≤1000000) :
  Calls Tryz.prog 193 #[ov,.int .i64 x,.int .i64 size] w fun e w'=>∃ v',e = .returned v'∧aI w w' v' p (bs++Pure.be v size):=by
 obtain ⟨i0,hi,hz0,hz1,hz2⟩:=info_parts Tryz.info5
 go_enter Tryz.func193,Tryz.ntmps193
 go_wp2
 go_loopw [0,8] (fun o i wr=>∃ k:Nat,k≤size∧i = .int .i64 ((size:Int)-1-k)∧aI w wr o p (bs++Pure.oC v size k)) (fun _ i _=>(intOf i+1).toNat)
 case atStart=>exact ⟨0,Nat.zero_le _,by go_num,by simpa[Pure.oZ] using aI.refl hb⟩
 case round=>
  obtain ⟨k,hk,rfl,hbr⟩:=hrel
  by_cases hlt:k<size
  ·obtain ⟨p1,ho1,hcomp⟩:=hbr
   have HC:=hid hcomp
   clear hcomp
   have hsrc:∀ x,x=((Pure.fO v (size-1-k)).toNat:Int)→Src Tryz.prog 1 25 (.slice (some ⟨wr.heap.size,0,none⟩) 1 1) 1 ([Pure.fO v (size-1-k)].map U8) (wr.alloc (.cells #[.int .u8 x] 5)):=by
    intro x hx
    refine qp (P:=Tryz.prog) Tryz.underlying25 _ 1 1 [Pure.fO v (size-1-k)] rfl ?_
    exact eQ _ _ _ _ (by rw[hx];rfl)
   go_wp2_with (at_builtin;refine bY _ rfl _ _ 25 25 rfl 5 i0 Tryz.underlying25 hi hz0 hz1 hz2 _ _ p1 _ [Pure.fO v (size-1-k)] rfl rfl (ho1.grown (World.grownBy_alloc _ _ _)) 1 (hsrc _ ?c1) ?c2 ?_)
   case c1=>exact kU v _
   case c2=>simp[Pure.iI];omega
   ·intro v1 w1 R1
    have R:=aI.comp HC.out (R1.before (World.grownBy_alloc _ _ _)) (by simp)
    have R2:aI w w1 v1 p (bs++Pure.oC v size (k+1)):=by rw[Pure.mG];simpa only [List.append_assoc] using R
    clear R R1 ho1 hb HC
    go_wp2
    go_roundw
    case rel=>exact ⟨k+1,by omega,by go_num,R2⟩
    case measure=>simp[intOf];omega
  ·have hks:k=size:=by omega
   subst hks
   go_wp2
   go_ret
   exact ⟨_,rfl,hbr⟩
end Go.Proofs.YtpibgolaaaemnaaGreatDoor
namespace Go.Proofs.YtpibgolaaaemnaaGreatDoor
open Go.RowKit
set_option maxRecDepth 100000
set_option maxHeartbeats 400000 in
theorem nY (ov:Value) (p:Option Pl) (bs:List UInt8) (x:Int) (v:UInt64) (size:Nat) (w:World) (hb:Out w ov p bs) (hx:IntKind.u64.wrap x=(v.toNat:Int)) (hs:size≤8) (hl:bs.length≤1000000) :
  Calls Tryz.prog 153 #[ov,.int .i64 x,.int .i64 size] w fun e w'=>∃ v',e = .returned v'∧aI w w' v' p (bs++Pure.be v size):=by
 obtain ⟨i0,hi,hz0,hz1,hz2⟩:=info_parts Tryz.info5
 go_enter Tryz.func153,Tryz.ntmps153
 go_wp2
 go_loopw [0,8] (fun o i wr=>∃ k:Nat,k≤size∧i = .int .i64 ((size:Int)-1-k)∧aI w wr o p (bs++Pure.oC v size k)) (fun _ i _=>(intOf i+1).toNat)
 case atStart=>exact ⟨0,Nat.zero_le _,by go_num,by simpa[Pure.oZ] using aI.refl hb⟩
 case round=>
  obtain ⟨k,hk,rfl,hbr⟩:=hrel
  by_cases hlt:k<size
  ·obtain ⟨p1,ho1,hcomp⟩:=hbr
   have HC:=hid hcomp
   clear hcomp
   have hsrc:∀ x,x=((Pure.fO v (size-1-k)).toNat:Int)→Src Tryz.prog 1 25 (.slice (some ⟨wr.heap.size,0,none⟩) 1 1) 1 ([Pure.fO v (size-1-k)].map U8) (wr.alloc (.cells #[.int .u8 x] 5)):=by
    intro x hx
    refine qp (P:=Tryz.prog) Tryz.underlying25 _ 1 1 [Pure.fO v (size-1-k)] rfl ?_
    exact eQ _ _ _ _ (by rw[hx];rfl)
   go_wp2_with (at_builtin;refine bY _ rfl _ _ 25 25 rfl 5 i0 Tryz.underlying25 hi hz0 hz1 hz2 _ _ p1 _ [Pure.fO v (size-1-k)] rfl rfl (ho1.grown (World.grownBy_alloc _ _ _)) 1 (hsrc _ ?c1) ?c2 ?_)
   case c1=>exact kU v _
   case c2=>simp[Pure.iI];omega
   ·intro v1 w1 R1
    have R:=aI.comp HC.out (R1.before (World.grownBy_alloc _ _ _)) (by simp)
    have R2:aI w w1 v1 p (bs++Pure.oC v size (k+1)):=by rw[Pure.mG];simpa only [List.append_assoc] using R
    clear R R1 ho1 hb HC
    go_wp2
    go_roundw
    case rel=>exact ⟨k+1,by omega,by go_num,R2⟩
    case measure=>simp[intOf];omega
  ·have hks:k=size:=by omega
   subst hks
   go_wp2
   go_ret
   exact ⟨_,rfl,hbr⟩
end Go.Proofs.YtpibgolaaaemnaaGreatDoor
