/-
  
  
  
-/
import Derived.Test.YtpibgolaaaemnaaGreatDoorGUBox
import Derived.Test.YtpibgolaaaemnaaGreatDoorGUBase
import Derived.Deep.RegionWith
import Derived.Deep.QuietTactic
import Derived.OwnWalk
import Derived.Test.YtpibgolaaaemnaaGreatDoorGUBoxN
namespace Go.Proofs.YtpibgolaaaemnaaGreatDoor
open Go.RowKit
set_option maxRecDepth 100000
theorem afm {x y:Int} {v2 v3:Value} (h:x=y):Ending.returned (.tuple #[.int .i64 x,v2,v3]) = .returned (.tuple #[.int .i64 y,v2,v3]):=by rw[h]
theorem Vu {v1 v2:Value} {x y:Bool} (h:x=y):Ending.returned (.tuple #[v1,v2,.bool x]) = .returned (.tuple #[v1,v2,.bool y]):=by rw[h]
theorem wrap_small {x:Int} (h0:-9223372036854775808≤x) (h1:x≤9223372036854775807):IntKind.i64.wrap x=x:=by rw[IntKind.wrap_i64];omega
theorem MH {a b:Int} (h:a=b):Value.int .i64 a=Value.int .i64 b:=by rw[h]
theorem dD {a b:Int} (h:a=b):Ending.returned (.int .i64 a) = .returned (.int .i64 b):=by rw[h]
set_option maxHeartbeats 400000 in
theorem Dp (x:Int) (h:UInt64) (zs:List UInt8) (n:Nat) (ao:Option Addr) (cap:Nat) (w:World) (hx:Hid (IntKind.u64.wrap x=h.toNat)) (r:Int) (hr:Hid (IntKind.i64.wrap ((Pure.joinL h zs).toNat:Int)=r)) (hn:Hid (zs.length=n)) (hl:n≤140737488355328) (hc:At w ao zs) :
  Calls Tryz.prog 194 #[.int .i64 x,.slice ao n cap] w fun e w'=>e = .returned (.int .i64 r)∧w=w':=by
 go_enter Tryz.func194,Tryz.ntmps194
 go_wp2
 go_loop [5,7,12] (fun hh _ i=>∃ k:Nat,k≤n∧i = .int .i64 k∧hh = .int .u64 ((Pure.joinL h (zs.take k)).toNat:Int)) (fun _ _ i=>n-(intOf i).toNat)
 case atStart=>exact ⟨0,Nat.zero_le _,rfl,tJ hx.out⟩
 case round=>
  obtain ⟨k,hk,rfl,rfl⟩:=hrel
  by_cases hlt:k<n
  ·have hlt':k<zs.length:=by rw[hn.out];exact hlt
   obtain ⟨b,off,rfl,hck⟩:=hc k hlt'
   clear hc
   go_wp2
   go_round
   case rel=>exact ⟨k+1,by omega,by go_num,tJ (by rw[mH hlt',Pure.qb];exact zN _ _)⟩
   case measure=>simp[intOf];omega
  ·clear hc
   go_wp2
   go_ret
   exact ⟨dD (by rw[List.take_of_length_le (by rw[hn.out];omega)];unfold wrap64;rw[←hr.out,IntKind.wrap_i64]),rfl⟩
set_option maxHeartbeats 400000 in
theorem NV (x:Int) (h:UInt64) (zs:List UInt8) (n:Nat) (ao:Option Addr) (cap:Nat) (w:World) (hx:Hid (IntKind.u64.wrap x=h.toNat)) (r:Int) (hr:Hid (IntKind.i64.wrap ((Pure.joinL h zs).toNat:Int)=r)) (hn:Hid (zs.length=n)) (hl:n≤140737488355328) (hc:At w ao zs) :
  Calls Tryz.prog 159 #[.int .i64 x,.slice ao n cap] w fun e w'=>e = .returned (.int .i64 r)∧w=w':=by
 go_enter Tryz.func159,Tryz.ntmps159
 go_wp2
 go_loop [5,7,12] (fun hh _ i=>∃ k:Nat,k≤n∧i = .int .i64 k∧hh = .int .u64 ((Pure.joinL h (zs.take k)).toNat:Int)) (fun _ _ i=>n-(intOf i).toNat)
 case atStart=>exact ⟨0,Nat.zero_le _,rfl,tJ hx.out⟩
 case round=>
  obtain ⟨k,hk,rfl,rfl⟩:=hrel
  by_cases hlt:k<n
  ·have hlt':k<zs.length:=by rw[hn.out];exact hlt
   obtain ⟨b,off,rfl,hck⟩:=hc k hlt'
   clear hc
   go_wp2
   go_round
   case rel=>exact ⟨k+1,by omega,by go_num,tJ (by rw[mH hlt',Pure.qb];exact zN _ _)⟩
   case measure=>simp[intOf];omega
  ·clear hc
   go_wp2
   go_ret
   exact ⟨dD (by rw[List.take_of_length_le (by rw[hn.out];omega)];unfold wrap64;rw[←hr.out,IntKind.wrap_i64]),rfl⟩
theorem join_one (l:List UInt8) (h:2≤l.length):IntKind.i64.wrap ((Pure.joinL 0 ((l.drop 1).take 1)).toNat:Int)=((l.getD 1 0).toNat:Int):=by
 match l,h with
 | a::b::l,_=>
  have hb:=b.toNat_lt
  simp[Pure.nR]
  rw[IntKind.wrap_i64]
  omega
theorem QW (l:List UInt8) (h:3≤l.length):IntKind.i64.wrap ((Pure.joinL 0 ((l.drop 1).take 2)).toNat:Int)=(((l.getD 1 0).toNat*256+(l.getD 2 0).toNat:Nat):Int):=by
 match l,h with
 | a::b::c::l,_=>
  have hb:=b.toNat_lt
  have hc:=c.toNat_lt
  simp[Pure.nR]
  rw[IntKind.wrap_i64]
  omega
theorem Gu:Hid (IntKind.u64.wrap 0=((0:UInt64).toNat:Int)):=by show _=_;decide
set_option maxHeartbeats 1000000 in
theorem Kn (zs:List UInt8) (n:Nat) (ao:Option Addr) (cap:Nat) (w:World) (hn:Hid (zs.length=n)) (hl:n≤140737488355328) (hcap:n≤cap) (hcm:cap≤9223372036854775807) (hc:At w ao zs) :
  Calls Tryz.prog 176 #[.slice ao n cap] w fun e w'=>
   (∀ k r,Box.iw zs=some (k,r)→∃ a' c',e = .returned (.tuple #[.int .i64 (k:Int),.slice a' r.length c',.bool true])∧(∀ w0,At w0 ao zs→At w0 a' r)∧r.length≤c'∧c'≤cap)∧
   (Box.iw zs=none→∃ v v',e = .returned (.tuple #[v,v',.bool false]))∧∃ m,w'=w.drewN m:=by
 by_cases h1:1≤n
 ·have hp:0<zs.length:=by rw[hn.out];exact h1
  obtain ⟨b,off,rfl,hc0⟩:=hc 0 hp
  have e0:zs.getD 0 0=zs[0]:=by simp[List.getD,List.getElem?_eq_getElem hp]
  have E0:Hid (zs.getD 0 0=zs[0]):=e0
  clear e0
  rw[Nat.add_zero] at hc0
  generalize hz0:zs[0]=z0 at *
  have HZ:Hid (zs[0]=z0):=hz0
  clear hz0
  obtain ⟨i0,hi,hz0,hz1,hz2⟩:=info_parts Tryz.info5
  have hp1:0<n:=h1
  have hp2:(0:Int)<(n:Int):=by omega
  by_cases hA:(z0.toNat:Int)<128
  ·obtain ⟨a1,hs1,nO⟩:=jL 25 5 i0 Tryz.underlying25 hi hz1 (some ⟨b,off,none⟩) n cap hn hcap 1 1 rfl h1
   clear hc
   go_enter Tryz.func176,Tryz.ntmps176
   go_wp2
   go_quiet (fail)
   go_wp2
   go_ret3
   have hcut:Box.iw zs=some (z0.toNat,zs.drop 1):=by
    rw[Box.iw,if_pos ⟨by rw[hn.out];exact h1,by rw[E0.out];omega⟩,E0.out]
   have hz:=z0.toNat_lt
   refine ⟨fun k r h=>?_,fun h=>?_,⟨_,rfl⟩⟩
   ·rw[hcut] at h
    simp only[Option.some.injEq,Prod.mk.injEq] at h
    obtain ⟨rfl,rfl⟩:=h
    refine ⟨a1,cap-1,?_,nO,by rw[List.length_drop,hn.out];omega,by omega⟩
    rw[List.length_drop,hn.out]
    first | exact afm (wrap_small (by omega) (by omega)) | rfl
   ·rw[hcut] at h
    simp at h
  ·have hA':¬ z0.toNat<128:=by omega
   by_cases hB:2≤n∧z0.toNat=129
   ·obtain ⟨h2,abg⟩:=hB
    have hq:((z0.toNat:Int)==129)=true:=by rw[beq_iff_eq];omega
    have hp3:(2:Int)≤(n:Int):=by omega
    obtain ⟨a1,hs1,nO⟩:=zT 25 5 i0 Tryz.underlying25 hi hz1 (some ⟨b,off,none⟩) n cap hn hcap 1 2 1 2 rfl rfl (by omega) h2
    obtain ⟨a2,hs2,NW⟩:=jL 25 5 i0 Tryz.underlying25 hi hz1 (some ⟨b,off,none⟩) n cap hn hcap 2 2 rfl h2
    have h2':2≤zs.length:=by rw[hn.out];exact h2
    have hcut:Box.iw zs=if 128≤(zs.getD 1 0).toNat then some ((zs.getD 1 0).toNat,zs.drop 2) else none:=by
     rw[Box.iw,if_neg (by rw[E0.out];omega),if_pos ⟨h2',by rw[E0.out];exact abg⟩]
    have HC:=hid hcut
    have HR:Hid (IntKind.i64.wrap ((Pure.joinL 0 ((zs.drop 1).take 1)).toNat:Int)=((zs.getD 1 0).toNat:Int)):=join_one zs h2'
    have HL:Hid (((zs.drop 1).take 1).length=1):=by show _=_;rw[List.length_take,List.length_drop];omega
    have hsm:=(zs.getD 1 0).toNat_lt
    have QX:=nO _ hc
    clear hc hcut h2' abg
    generalize (zs.getD 1 0).toNat=z1 at *
    go_enter Tryz.func176,Tryz.ntmps176
    go_wp2_with (go_at_call 194;refine (Dp 0 0 ((zs.drop 1).take 1) 1 _ _ _ Gu _ HR HL (by omega) QX).mono ?_;rintro e w' ⟨rfl,rfl⟩)
    go_quiet (fail)
    go_wp2
    go_ret3
    by_cases hge:128≤z1
    ·rw[HC.out,if_pos hge]
     refine ⟨fun k r h=>?_,(fun h=>by simp at h),⟨_,rfl⟩⟩
     simp only[Option.some.injEq,Prod.mk.injEq] at h
     obtain ⟨rfl,rfl⟩:=h
     refine ⟨a2,cap-2,?_,NW,by rw[List.length_drop,hn.out];omega,by omega⟩
     rw[List.length_drop,hn.out]
     exact Vu (by simp;omega)
    ·rw[HC.out,if_neg hge]
     exact ⟨fun k r h=>by simp at h,fun h=>⟨_,_,Vu (by simp;omega)⟩,⟨_,rfl⟩⟩
   ·by_cases hC:3≤n∧z0.toNat=130
    ·obtain ⟨h3,abh⟩:=hC
     have hq9:((z0.toNat:Int)==129)=false:=by rw[beq_eq_false_iff_ne];omega
     have hq:((z0.toNat:Int)==130)=true:=by rw[beq_iff_eq];omega
     have hp3:(3:Int)≤(n:Int):=by omega
     have hp4:(2:Int)≤(n:Int):=by omega
     obtain ⟨a1,hs1,nO⟩:=zT 25 5 i0 Tryz.underlying25 hi hz1 (some ⟨b,off,none⟩) n cap hn hcap 1 3 1 3 rfl rfl (by omega) h3
     obtain ⟨a2,hs2,NW⟩:=jL 25 5 i0 Tryz.underlying25 hi hz1 (some ⟨b,off,none⟩) n cap hn hcap 3 3 rfl h3
     have h3':3≤zs.length:=by rw[hn.out];exact h3
     have hcut:Box.iw zs=if 256≤(zs.getD 1 0).toNat*256+(zs.getD 2 0).toNat then some ((zs.getD 1 0).toNat*256+(zs.getD 2 0).toNat,zs.drop 3) else none:=by
      rw[Box.iw,if_neg (by rw[E0.out];omega),if_neg (by rw[E0.out];omega),if_pos ⟨h3',by rw[E0.out];exact abh⟩]
     have HC:=hid hcut
     have HR:Hid (IntKind.i64.wrap ((Pure.joinL 0 ((zs.drop 1).take 2)).toNat:Int)=(((zs.getD 1 0).toNat*256+(zs.getD 2 0).toNat:Nat):Int)):=QW zs h3'
     have HL:Hid (((zs.drop 1).take 2).length=2):=by show _=_;rw[List.length_take,List.length_drop];omega
     have afo:=(zs.getD 1 0).toNat_lt
     have afp:=(zs.getD 2 0).toNat_lt
     have hsm:(zs.getD 1 0).toNat*256+(zs.getD 2 0).toNat<65536:=by omega
     have QX:=nO _ hc
     clear hc hcut h3' abh afo afp
     generalize (zs.getD 1 0).toNat*256+(zs.getD 2 0).toNat=z1 at *
     go_enter Tryz.func176,Tryz.ntmps176
     go_wp2_with (go_at_call 194;refine (Dp 0 0 ((zs.drop 1).take 2) 2 _ _ _ Gu _ HR HL (by omega) QX).mono ?_;rintro e w' ⟨rfl,rfl⟩)
     go_quiet (fail)
     go_wp2
     go_ret3
     by_cases hge:256≤z1
     ·rw[HC.out,if_pos hge]
      refine ⟨fun k r h=>?_,(fun h=>by simp at h),⟨_,rfl⟩⟩
      simp only[Option.some.injEq,Prod.mk.injEq] at h
      obtain ⟨rfl,rfl⟩:=h
      refine ⟨a2,cap-3,?_,NW,by rw[List.length_drop,hn.out];omega,by omega⟩
      rw[List.length_drop,hn.out]
      exact Vu (by simp;omega)
     ·rw[HC.out,if_neg hge]
      exact ⟨fun k r h=>by simp at h,fun h=>⟨_,_,Vu (by simp;omega)⟩,⟨_,rfl⟩⟩
    ·have hcut:Box.iw zs=none:=by
      have hnl:=hn.out
      rw[Box.iw,if_neg (by rw[E0.out];omega),if_neg (by rw[E0.out];omega),if_neg (by rw[E0.out];omega)]
     have HC:=hid hcut
     clear hc hcut
     by_cases n2:n<2
     ·have n3:n<3:=by omega
      clear hB hC
      go_enter Tryz.func176,Tryz.ntmps176
      go_wp2
      go_ret3
      exact ⟨fun k r h=>by rw[HC.out] at h;simp at h,fun _=>⟨_,_,rfl⟩,⟨0,rfl⟩⟩
     ·have hq9:((z0.toNat:Int)==129)=false:=by rw[beq_eq_false_iff_ne];omega
      by_cases n3:n<3
      ·clear hB hC
       go_enter Tryz.func176,Tryz.ntmps176
       go_wp2
       go_ret3
       exact ⟨fun k r h=>by rw[HC.out] at h;simp at h,fun _=>⟨_,_,rfl⟩,⟨0,rfl⟩⟩
      ·have ama:((z0.toNat:Int)==130)=false:=by rw[beq_eq_false_iff_ne];omega
       clear hB hC
       go_enter Tryz.func176,Tryz.ntmps176
       go_wp2
       go_ret3
       exact ⟨fun k r h=>by rw[HC.out] at h;simp at h,fun _=>⟨_,_,rfl⟩,⟨0,rfl⟩⟩
 ·have n0:n=0:=by omega
  subst n0
  have hcut:Box.iw zs=none:=by
   have hnl:=hn.out
   rw[Box.iw,if_neg (by omega),if_neg (by omega),if_neg (by omega)]
  have HC:=hid hcut
  clear hc hcut
  go_enter Tryz.func176,Tryz.ntmps176
  go_wp2
  go_ret3
  exact ⟨fun k r h=>by rw[HC.out] at h;simp at h,fun _=>⟨_,_,rfl⟩,⟨0,rfl⟩⟩
end Go.Proofs.YtpibgolaaaemnaaGreatDoor
namespace Go.Proofs.YtpibgolaaaemnaaGreatDoor
open Go.RowKit
set_option maxRecDepth 100000
theorem mr {fn:Func} {t u v x:Tmp} (h:fn.results=#[.tmp t,.tmp u,.tmp v,.tmp x]) (tmps:Array Value) (P:Program) (w:World) :
  (results fn tmps).run P w = .ok (.tuple #[tmps.getD t undef,tmps.getD u undef,tmps.getD v undef,tmps.getD x undef]) w:=by
 simp[results,h]
set_option maxHeartbeats 1000000 in
theorem MI (zs:List UInt8) (n:Nat) (ao:Option Addr) (cap:Nat) (w:World) (hn:Hid (zs.length=n)) (hl:n≤140737488355328) (hcap:n≤cap) (hcm:cap≤9223372036854775807) (hc:At w ao zs) :
  Calls Tryz.prog 144 #[.slice ao n cap] w fun e w'=>
   (∀ tag i r,Box.cut zs=some (tag,i,r)→∃ a1 c1 a2 c2,e = .returned (.tuple #[.int .u8 (tag.toNat:Int),.slice a1 i.length c1,.slice a2 r.length c2,.bool true])∧(∀ w0,At w0 ao zs→At w0 a1 i)∧i.length≤c1∧c1≤cap∧(∀ w0,At w0 ao zs→At w0 a2 r)∧r.length≤c2∧c2≤cap)∧
   (Box.cut zs=none→e = .returned (.tuple #[.int .u8 0,.slice none 0 0,.slice none 0 0,.bool false]))∧∃ m,w'=w.drewN m:=by
 by_cases h1:1≤n
 ·have hp:0<zs.length:=by rw[hn.out];exact h1
  obtain ⟨b,off,rfl,hc0⟩:=hc 0 hp
  have E0:Hid (zs.getD 0 0=zs[0]):=by show _=_;simp[List.getD,List.getElem?_eq_getElem hp]
  rw[Nat.add_zero] at hc0
  generalize hz0:zs[0]=z0 at *
  clear hz0
  obtain ⟨i0,hi,hz0,hz1,hz2⟩:=info_parts Tryz.info5
  have hp1:0<n:=h1
  have hp2:(0:Int)<(n:Int):=by omega
  have hne:((n:Int)==0)=false:=by rw[beq_eq_false_iff_ne];omega
  obtain ⟨a1,hs1,nO⟩:=jL 25 5 i0 Tryz.underlying25 hi hz1 (some ⟨b,off,none⟩) n cap hn hcap 1 1 rfl h1
  have yx:Hid ((zs.drop 1).length=n-1):=by show _=_;rw[List.length_drop,hn.out]
  have hcl:=Kn (zs.drop 1) (n-1) a1 (cap-1) w yx (by omega) (by omega) (by omega) (nO _ hc)
  have h0:¬ zs.length=0:=by omega
  cases wo:Box.iw (zs.drop 1) with
  | none=>
   have hcut:Box.cut zs=none:=by rw[Box.cut,if_neg h0,wo]
   have HC:=hid hcut
   rw[wo] at hcl
   clear hc hcut wo h0 hp
   go_enter Tryz.func144,Tryz.ntmps144
   go_wp2_with (go_at_call 176;refine hcl.mono ?_;rintro e w' ⟨_,h2,m,rfl⟩;obtain ⟨v,v',rfl⟩:=h2 rfl)
   (try simp only[Exit.inBlock,Exit.then])
   refine bodyPost_ret (mr rfl _ _ _) rfl ?_
   exact ⟨fun tag i r h=>by rw[HC.out] at h;simp at h,fun _=>rfl,⟨_,rfl⟩⟩
  | some kr=>
   obtain ⟨k,r⟩:=kr
   have hrl:=Box.uA wo
   rw[yx.out] at hrl
   by_cases hk:k≤r.length
   ·have hcut:Box.cut zs=some (z0,r.take k,r.drop k):=by rw[Box.cut,if_neg h0,wo];simp only[if_pos hk,E0.out]
    have HC:=hid hcut
    rw[wo] at hcl
    clear hc hcut wo h0 hp
    obtain ⟨rl,Yx⟩:∃ rl,rl=r.length:=⟨_,rfl⟩
    rw[←Yx] at hrl hk
    have hk2:¬ ((rl:Int)<(k:Int)):=by omega
    have NY:Hid (r.length=rl):=Yx.symm
    clear Yx
    go_enter Tryz.func144,Tryz.ntmps144
    go_wp2_with fail
    refine hcl.mono ?_
    rintro e w' ⟨h2,_,m,rfl⟩
    obtain ⟨a',c',rfl,hat',hc1,hc2⟩:=h2 k r rfl
    rw[NY.out] at hc1 ⊢
    obtain ⟨b1,ht1,afq⟩:=Gi 25 5 i0 Tryz.underlying25 hi hz1 a' rl c' NY hc1 k k rfl hk
    obtain ⟨b2,ht2,afr⟩:=jL 25 5 i0 Tryz.underlying25 hi hz1 a' rl c' NY hc1 k k rfl hk
    clear hcl h2 hs1
    go_wp2_with fail
    go_quiet (fail)
    go_wp2
    (try simp only[Exit.inBlock,Exit.then])
    refine bodyPost_ret (mr rfl _ _ _) rfl ?_
    refine ⟨fun tag i r' h=>?_,(fun h=>by rw[HC.out] at h;simp at h),⟨m+nq,by rw[World.drewN_drewN]⟩⟩
    rw[HC.out] at h
    simp only[Option.some.injEq,Prod.mk.injEq] at h
    obtain ⟨rfl,rfl,rfl⟩:=h
    refine ⟨b1,c',b2,c' - k,?_,fun w0 h0=>afq w0 (hat' w0 (nO w0 h0)),?_,by omega,fun w0 h0=>afr w0 (hat' w0 (nO w0 h0)),?_,by omega⟩
    ·rw[List.length_take,List.length_drop,NY.out,Nat.min_eq_left hk]
     rfl
    ·rw[List.length_take];omega
    ·rw[List.length_drop,NY.out];omega
   ·have hcut:Box.cut zs=none:=by rw[Box.cut,if_neg h0,wo];simp only[if_neg hk]
    have HC:=hid hcut
    rw[wo] at hcl
    clear hc hcut wo h0 hp
    have hk2:((r.length:Int)<(k:Int)):=by omega
    go_enter Tryz.func144,Tryz.ntmps144
    go_wp2_with fail
    refine hcl.mono ?_
    rintro e w' ⟨h2,_,m,rfl⟩
    obtain ⟨a',c',rfl,hat',hc1,hc2⟩:=h2 k r rfl
    clear hcl h2 hs1
    go_wp2_with fail
    (try simp only[Exit.inBlock,Exit.then])
    refine bodyPost_ret (mr rfl _ _ _) rfl ?_
    exact ⟨fun tag i r h=>by rw[HC.out] at h;simp at h,fun _=>rfl,⟨_,rfl⟩⟩
 ·have n0:n=0:=by omega
  subst n0
  have hcut:Box.cut zs=none:=by rw[Box.cut,if_pos hn.out]
  have HC:=hid hcut
  clear hc hcut
  go_enter Tryz.func144,Tryz.ntmps144
  go_wp2
  (try simp only[Exit.inBlock,Exit.then])
  refine bodyPost_ret (mr rfl _ _ _) rfl ?_
  exact ⟨fun tag i r h=>by rw[HC.out] at h;simp at h,fun _=>rfl,⟨0,rfl⟩⟩
end Go.Proofs.YtpibgolaaaemnaaGreatDoor
namespace Go.Proofs.YtpibgolaaaemnaaGreatDoor
open Go.RowKit
set_option maxRecDepth 100000
theorem VN:∀ k,k<63→bits .or .i64 (wrap64 ((2 ^ k-1)*2)) 1=2 ^ (k+1)-1:=by decide +kernel
theorem Rt:∀ k,k<63→1≤k→(2 ^ k-1:Int)<wrap64 ((2 ^ k-1)*2):=by decide +kernel
theorem Ru:¬ ((2 ^ 63-1:Int)<wrap64 ((2 ^ 63-1)*2)):=by decide +kernel
theorem Oj:∀ k,k<63→(9223372036854775807-(2 ^ (k+1)-1):Int).toNat<(9223372036854775807-(2 ^ k-1):Int).toNat:=by decide +kernel
set_option maxHeartbeats 1000000 in
theorem qG (w:World):Calls Tryz.prog 171 #[] w fun e w'=>e = .returned (.int .i64 9223372036854775807)∧w'=w:=by
 go_enter Tryz.func171,Tryz.ntmps171
 go_wp2
 go_loopw [1] (fun v wr=>∃ k:Nat,1≤k∧k≤63∧v = .int .i64 (2 ^ k-1)∧wr=w) (fun v _=>(9223372036854775807-intOf v).toNat)
 case atStart=>exact ⟨1,by omega,by omega,rfl,rfl⟩
 case round=>
  obtain ⟨k,h1,h2,rfl,rfl⟩:=hrel
  by_cases hk:k<63
  ·have f1:=Rt k hk h1
   have f2:=VN k hk
   have HL:=hid (Oj k hk)
   go_wp2
   go_roundw
   case rel=>exact ⟨k+1,by omega,by omega,rfl,trivial⟩
   case measure=>exact HL.out
  ·obtain rfl:k=63:=by omega
   have f3:=Ru
   clear h1 h2 hk
   go_wp2
   go_ret
   exact ⟨rfl,rfl⟩
set_option maxHeartbeats 400000 in
theorem DC (w:World):Calls Tryz.prog 172 #[] w fun e w'=>e = .returned (.int .i64 (-9223372036854775808))∧w'=w:=by
 go_enter Tryz.func172,Tryz.ntmps172
 go_wp2_with (go_at_call 171;refine (qG _).mono ?_;rintro e w' ⟨rfl,rfl⟩)
 go_ret
 exact ⟨rfl,rfl⟩
theorem Ol {a b:Int} (h0:-9223372036854775808≤a+b) (h1:a+b≤9223372036854775807):aX a b=a+b∧wrap64 (a+b)=a+b:=by
 refine ⟨?_,by unfold wrap64;omega⟩
 unfold aX sat
 rw[if_neg (by omega),if_neg (by omega)]
theorem Om {a b:Int} (h0:-9223372036854775808≤a-b) (h1:a-b≤9223372036854775807):iN a b=a-b∧wrap64 (a-b)=a-b:=by
 refine ⟨?_,by unfold wrap64;omega⟩
 unfold iN sat
 rw[if_neg (by omega),if_neg (by omega)]
set_option maxHeartbeats 2000000 in
theorem zy (a b:Int) (w:World) (ha0:-9223372036854775808≤a) (ha1:a≤9223372036854775807) (hb0:-9223372036854775808≤b) (hb1:b≤9223372036854775807) :
  Calls Tryz.prog 136 #[.int .i64 a,.int .i64 b] w fun e w'=>e = .returned (.int .i64 (aX a b))∧w'=w:=by
 by_cases ho:a+b < -9223372036854775808
 ·have hb:b<0:=by omega
  have n1:¬ 0<b:=by omega
  have hw:wrap64 (a+b)=a+b+18446744073709551616:=by unfold wrap64;omega
  have h2:a<a+b+18446744073709551616:=by omega
  have HR:Hid (aX a b=-9223372036854775808):=by show _=_;unfold aX sat;rw[if_pos ho]
  clear ho
  go_enter Tryz.func136,Tryz.ntmps136
  go_wp2_with (go_at_call 172;refine (DC _).mono ?_;rintro e w' ⟨rfl,rfl⟩)
  go_ret
  exact ⟨dD (by rw[HR.out]),rfl⟩
 ·by_cases hp:9223372036854775807<a+b
  ·have hb:0<b:=by omega
   have hw:wrap64 (a+b)=a+b-18446744073709551616:=by unfold wrap64;omega
   have h2:a+b-18446744073709551616<a:=by omega
   have HR:Hid (aX a b=9223372036854775807):=by show _=_;unfold aX sat;rw[if_neg ho,if_pos hp]
   clear ho hp
   go_enter Tryz.func136,Tryz.ntmps136
   go_wp2_with (go_at_call 171;refine (qG _).mono ?_;rintro e w' ⟨rfl,rfl⟩)
   go_ret
   exact ⟨dD (by rw[HR.out]),rfl⟩
  ·obtain ⟨hs,hw⟩:=Ol (a:=a) (b:=b) (by omega) (by omega)
   have HR:=hid hs
   clear hs ho hp
   rcases Int.lt_trichotomy b 0 with hb | hb | hb
   ·have n1:¬ 0<b:=by omega
    have n2:¬ a<a+b:=by omega
    go_enter Tryz.func136,Tryz.ntmps136
    go_wp2
    go_ret
    exact ⟨dD (by rw[HR.out]),rfl⟩
   ·subst hb
    have H0:Hid (aX a 0=a):=HR.out.trans (Int.add_zero a)
    go_enter Tryz.func136,Tryz.ntmps136
    go_wp2
    go_ret
    exact ⟨dD H0.out.symm,rfl⟩
   ·have n1:¬ b<0:=by omega
    have n2:¬ a+b<a:=by omega
    go_enter Tryz.func136,Tryz.ntmps136
    go_wp2
    go_ret
    exact ⟨dD (by rw[HR.out]),rfl⟩
set_option maxHeartbeats 2000000 in
theorem nD (a b:Int) (w:World) (ha0:-9223372036854775808≤a) (ha1:a≤9223372036854775807) (hb0:-9223372036854775808≤b) (hb1:b≤9223372036854775807) :
  Calls Tryz.prog 173 #[.int .i64 a,.int .i64 b] w fun e w'=>e = .returned (.int .i64 (iN a b))∧w'=w:=by
 by_cases ho:a-b < -9223372036854775808
 ·have hb:0<b:=by omega
  have n1:¬ b<0:=by omega
  have hw:wrap64 (a-b)=a-b+18446744073709551616:=by unfold wrap64;omega
  have h2:a<a-b+18446744073709551616:=by omega
  have HR:Hid (iN a b=-9223372036854775808):=by show _=_;unfold iN sat;rw[if_pos ho]
  clear ho
  go_enter Tryz.func173,Tryz.ntmps173
  go_wp2_with (go_at_call 172;refine (DC _).mono ?_;rintro e w' ⟨rfl,rfl⟩)
  go_ret
  exact ⟨dD (by rw[HR.out]),rfl⟩
 ·by_cases hp:9223372036854775807<a-b
  ·have hb:b<0:=by omega
   have hw:wrap64 (a-b)=a-b-18446744073709551616:=by unfold wrap64;omega
   have h2:a-b-18446744073709551616<a:=by omega
   have HR:Hid (iN a b=9223372036854775807):=by show _=_;unfold iN sat;rw[if_neg ho,if_pos hp]
   clear ho hp
   go_enter Tryz.func173,Tryz.ntmps173
   go_wp2_with (go_at_call 171;refine (qG _).mono ?_;rintro e w' ⟨rfl,rfl⟩)
   go_ret
   exact ⟨dD (by rw[HR.out]),rfl⟩
  ·obtain ⟨hs,hw⟩:=Om (a:=a) (b:=b) (by omega) (by omega)
   have HR:=hid hs
   clear hs ho hp
   rcases Int.lt_trichotomy b 0 with hb | hb | hb
   ·have n1:¬ 0<b:=by omega
    have n2:¬ a-b<a:=by omega
    go_enter Tryz.func173,Tryz.ntmps173
    go_wp2
    go_ret
    exact ⟨dD (by rw[HR.out]),rfl⟩
   ·subst hb
    have H0:Hid (iN a 0=a):=HR.out.trans (Int.sub_zero a)
    go_enter Tryz.func173,Tryz.ntmps173
    go_wp2
    go_ret
    exact ⟨dD H0.out.symm,rfl⟩
   ·have n1:¬ b<0:=by omega
    have n2:¬ a<a-b:=by omega
    go_enter Tryz.func173,Tryz.ntmps173
    go_wp2
    go_ret
    exact ⟨dD (by rw[HR.out]),rfl⟩
set_option maxHeartbeats 1000000 in
theorem Oo (a b:Int) (w:World) (ha0:-9223372036854775808≤a) (ha1:a≤9223372036854775807) (hb0:-9223372036854775808≤b) (hb1:b≤9223372036854775807) :
  Calls Tryz.prog 162 #[.int .i64 a,.int .i64 b] w fun e w'=>e = .returned (.int .i64 (fE a b))∧w'=w:=by
 by_cases h:a<b
 ·have HR:Hid (fE a b=iN b a):=by show _=_;unfold fE;rw[if_pos h]
  go_enter Tryz.func162,Tryz.ntmps162
  go_wp2_with (go_at_call 173;refine (nD b a _ hb0 hb1 ha0 ha1).mono ?_;rintro e w' ⟨rfl,rfl⟩)
  go_ret
  exact ⟨dD (by rw[HR.out]),rfl⟩
 ·have HR:Hid (fE a b=iN a b):=by show _=_;unfold fE;rw[if_neg h]
  go_enter Tryz.func162,Tryz.ntmps162
  go_wp2_with (go_at_call 173;refine (nD a b _ ha0 ha1 hb0 hb1).mono ?_;rintro e w' ⟨rfl,rfl⟩)
  go_ret
  exact ⟨dD (by rw[HR.out]),rfl⟩
end Go.Proofs.YtpibgolaaaemnaaGreatDoor
