import Derived.Test.YteknelimjfgmaaaGreatDoorGJBoxA
import Derived.Test.YteknelimjfgmaaaGreatDoorGJShelf
namespace Go.Proofs.YteknelimjfgmaaaGreatDoor
set_option maxHeartbeats 1000000
open Proofs.Tryz Go.RowKit
set_option maxRecDepth 100000
theorem afV {p:Prop} (h:p:=by rw[hn.o];exact h8):p:=h
theorem BM (v:Int) (h0:-9223372036854775808<=v) (h1:v<=9223372036854775807):∃ m:Nat,IntKind.u64.wrap (bits .xor .i64 v (v / 9223372036854775808))=(m:Int)/\(m:Int)=if v<0 then -v-1 else v:=by
 by_cases h:v<0
 ·refine ⟨(-v-1).toNat,?_,by rw[if_pos h];omega⟩;have e:v / 9223372036854775808=-1:=by omega
  have hx:bits .xor .i64 v (-1)=-v-1:=by
   show IntKind.i64.wrap ((BitVec.ofInt 64 v ^^^ BitVec.ofInt 64 (-1)).toNat:Int)=_;have h1:BitVec.ofInt 64 (-1)=BitVec.allOnes 64:=(by decide);rw[h1,BitVec.xor_allOnes,BitVec.toNat_not,BitVec.toNat_ofInt,IntKind.wrap_i64];omega
  rw[e,hx,IntKind.wrap_u64];omega
 ·refine ⟨v.toNat,?_,by rw[if_neg h];omega⟩;have e:v / 9223372036854775808=0:=by omega
  have hx:bits .xor .i64 v 0=v:=by
   show IntKind.i64.wrap ((BitVec.ofInt 64 v ^^^ BitVec.ofInt 64 0).toNat:Int)=_;have h1:BitVec.ofInt 64 0=0#64:=(by decide);rw[h1,BitVec.xor_zero,BitVec.toNat_ofInt,IntKind.wrap_i64];omega
  rw[e,hx,IntKind.wrap_u64];omega
theorem aaS {p:Prop} (h:p:=by
 go_wp2_with fail
 rw[HM.o]
 refine (Go.Proofs.Tryz.bits_Len64 (m:Int) _ afp afp).mono ?_
 rintro e w' ⟨rfl,rfl⟩
 rw[Int.toNat_natCast]
 generalize Lib.bitLen m=bl at *
 go_wp2
 go_ret
 refine ⟨bE ?_,rfl⟩
 rw[<-HS.o]
 omega):p:=h
theorem uT (v:Int) (w:World) (h0:-9223372036854775808<=v) (h1:v<=9223372036854775807) :
  Calls prog 194 #[.int .i64 v] w fun e w'=>e = .returned (.int .i64 (Box.size v:Int))/\w=w':=by
 obtain ⟨m,hm,hmv⟩:=BM v h0 h1
 have HS:=hid (Box.zx v h0 h1 m hmv)
 have hm1:m<18446744073709551616:=by split at hmv <;> omega
 have hb:=(Box.bitLen_le (k:=64) hm1).2 hm1
 have HM:=hid hm
 clear hm hmv
 go_enter func194,ntmps194
 exact aaS
theorem Tm (l:List UInt8) (k:Nat) (v:Int) (h:(k:Int) % 18446744073709551616=v % 18446744073709551616) :
  ((l.foldl (fun n b=>n*256+b.toNat) k:Nat):Int) % 18446744073709551616=Box.iy v l % 18446744073709551616:=by
 induction l generalizing k v with
 | nil=>exact h
 | cons b l ih=>exact ih (k*256+b.toNat) (v*256+(b.toNat:Int)) afp
theorem Tn (l:List UInt8) (h1:1<=l.length) (h8:l.length<=8) (h:UInt64) (hh:IntKind.u64.wrap (Box.sign (l.getD 0 0))=(h.toNat:Int)) :
  IntKind.i64.wrap ((Pure.joinL h (l.drop 1)).toNat:Int)=Box.val l:=by
 rw[Pure.oq]
 have hb:=Box.sZ h1 h8
 rw[IntKind.wrap_u64] at hh
 have hm:=Tm (l.drop 1) h.toNat (Box.sign (l.getD 0 0)) afp
 rw[show Box.iy (Box.sign (l.getD 0 0)) (l.drop 1)=Box.val l from rfl] at hm
 generalize (l.drop 1).foldl (fun n b=>n*256+b.toNat) h.toNat=f at *
 rw[IntKind.wrap_i64]
 simp only[Nat.reducePow]
 omega
theorem XC (x:Int) (h:UInt64) (zs:List UInt8) (n:Nat) (ao:Option Addr) (cap:Nat) (w:World) (nq:Nat) (hx:Hid (IntKind.u64.wrap x=h.toNat)) (r:Int) (hr:Hid (IntKind.i64.wrap ((Pure.joinL h zs).toNat:Int)=r)) (hn:Hid (zs.length=n)) (hl:n<=140737488355328) (hc:At w ao zs) :
  Calls prog 193 #[.int .i64 x,.slice ao n cap] (w.drewN nq) fun e w''=>e = .returned (.int .i64 r)/\∃ m,w''=w.drewN m:=
 (PX x h zs n ao cap _ hx r hr hn hl (hc.drewN nq)).mono fun _ _ ⟨h1,h2⟩=>⟨h1,nq,h2.symm⟩
theorem Ji (b:UInt8):IntKind.i8.wrap (b.toNat:Int)=Box.sign b:=by
 have:=b.toNat_lt;unfold Box.sign;simp[IntKind.wrap,IntKind.bits,IntKind.signed];split <;> omega
theorem ac4 {p:Prop} (h:p:=by
 clear iL hc
 go_enter func156,ntmps156
 go_wp2
 go_ret2
 exact ⟨fun v h=>by rw[HN.o] at h;simp at h,fun _=>rfl,⟨0,rfl⟩⟩):p:=h
theorem BN (zs:List UInt8) (n:Nat) (ao:Option Addr) (cap:Nat) (w:World) (hn:Hid (zs.length=n)) (hl:n<=140737488355328) (hcap:n<=cap) (hc:At w ao zs) :
  Calls prog 156 #[.slice ao n cap] w fun e w'=>
   (∀ v,Box.num zs=some v->e = .returned (.tuple #[.int .i64 v,.bool true]))/\
   (Box.num zs=none->e = .returned (.tuple #[.int .i64 0,.bool false]))/\∃ m,w'=w.drewN m:=by
 by_cases h1:1<=n
 ·by_cases h8:n<=8
  ·have hp:0<zs.length:=(by rw[hn.o];exact h1);have hb:=Box.sZ (l:=zs) afp afV;obtain ⟨b,off,rfl,hc0⟩:=hc 0 hp;have E0:Hid (zs.getD 0 0=zs[0]):=(by show _=_;simp[List.getD,List.getElem?_eq_getElem hp]);rw[eR] at hc0;generalize hz0:zs[0]=z0 at *;clear hz0;obtain ⟨i0,hi,hz0,hz1,hz2⟩:=info_parts Tryz.info5;have hp1:0<n:=h1;have hn1:¬ ((n:Int)<1):=(by omega);have EX:¬ ((8:Int)<(n:Int)):=(by omega);obtain ⟨a1,hs1,lM⟩:=kD 37 5 i0 underlying37 hi hz1 (some ⟨b,off,none⟩) n cap hn hcap 1 1 rfl h1;replace lM:=lM _ hc;have EL:Hid ((zs.drop 1).length=n-1):=(by show _=_;rw[cy,hn.o]);have hsb:=Box.qX z0;have HX:Hid (IntKind.u64.wrap (Box.sign z0)=(((UInt64.ofNat (IntKind.u64.wrap (Box.sign z0)).toNat).toNat:Nat):Int)):=by
    show _=_;have:0<=IntKind.u64.wrap (Box.sign z0)/\IntKind.u64.wrap (Box.sign z0)<18446744073709551616:=by rw[IntKind.wrap_u64];omega
    rw[Pure.lX _ afp];omega
   have HR:Hid (IntKind.i64.wrap ((Pure.joinL (UInt64.ofNat (IntKind.u64.wrap (Box.sign z0)).toNat) (zs.drop 1)).toNat:Int)=Box.val zs):=
    Tn zs afp afV _ (by rw[E0.o];exact HX.o)
   have hle:n-1<=140737488355328:=(by omega);clear hc hp;generalize hh:UInt64.ofNat (IntKind.u64.wrap (Box.sign z0)).toNat=hd at *;clear hh;have uU:Hid (IntKind.u64.wrap (IntKind.i64.wrap (IntKind.i8.wrap (z0.toNat:Int)))=(hd.toNat:Int)):=by
    show _=_;rw[Ji,wrap_small afp afp];exact HX.o
   clear HX hsb;go_enter func156,ntmps156;go_wp2_with fail;go_quiet (first|(go_at_call 193;exact XC (IntKind.i64.wrap (IntKind.i8.wrap (z0.toNat:Int))) hd (zs.drop 1) (n-1) a1 (cap-1) w _ uU _ HR EL hle lM))
   by_cases hs:Box.size (Box.val zs)=n
   ·have iL:Box.num zs=some (Box.val zs):=(by rw[Box.num,if_pos (by rw[hn.o];exact ⟨h1,h8,hs⟩)]);have HN:=hid iL;have hq:((Box.size (Box.val zs):Int) != (n:Int))=false:=(by rw[hs];simp);clear iL hs;go_wp2_with (go_at_call 194;refine (uT _ _ hb.1 hb.2).mono ?_;rintro e w' ⟨rfl,rfl⟩)
    go_ret2;exact ⟨fun v h=>by rw[HN.o] at h;simp only[ew] at h;rw[<-h];rfl,(fun h=>by rw[HN.o] at h;simp at h),⟨_,rfl⟩⟩
   ·have iL:Box.num zs=none:=(by rw[Box.num,if_neg (by rw[hn.o];intro h;exact hs h.2.2)]);have HN:=hid iL;have hq:((Box.size (Box.val zs):Int) != (n:Int))=true:=(by rw[fj];omega);clear iL hs;go_wp2_with (go_at_call 194;refine (uT _ _ hb.1 hb.2).mono ?_;rintro e w' ⟨rfl,rfl⟩)
    go_ret2;exact ⟨fun v h=>by rw[HN.o] at h;simp at h,fun _=>rfl,⟨_,rfl⟩⟩
  ·have iL:Box.num zs=none:=(by rw[Box.num,if_neg (by rw[hn.o];omega)]);have HN:=hid iL;have hn1:¬ ((n:Int)<1):=(by omega);have EX:((8:Int)<(n:Int)):=(by omega);exact ac4
 ·have iL:Box.num zs=none:=by rw[Box.num,if_neg (by rw[hn.o];omega)]
  have HN:=hid iL;have hn1:((n:Int)<1):=by omega
  exact ac4
theorem BP {l:List UInt8} {v:Int} (h:Box.num l=some v):-9223372036854775808<=v/\v<=9223372036854775807:=by
 unfold Box.num at h;split at h
 ·rename_i hc;simp only[ew] at h;rw[<-h];exact Box.sZ hc.1 hc.2.1
 ·simp at h
abbrev A9 (w:World):Prop:=Lib.TabIs Tryz.prog w yj .u64 Lib.pow10Tab
end Go.Proofs.YteknelimjfgmaaaGreatDoor
