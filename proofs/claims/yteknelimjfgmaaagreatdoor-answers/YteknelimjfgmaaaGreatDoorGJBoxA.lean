import Derived.Deep.QuietTactic
import Derived.Test.YteknelimjfgmaaaGreatDoorGJBoxM
namespace Go.Proofs.YteknelimjfgmaaaGreatDoor
set_option maxHeartbeats 1000000
open Proofs.Tryz Go.RowKit
set_option maxRecDepth 100000
theorem afS {p:Prop} (h:p:=by rw[E0.o];omega):p:=h
theorem ahE {x y:Int} {v2 v3:Value} (h:x=y):Ending.returned (.tuple #[.int .i64 x,v2,v3]) = .returned (.tuple #[.int .i64 y,v2,v3]):=by rw[h]
theorem Xy {v1 v2:Value} {x y:Bool} (h:x=y):Ending.returned (.tuple #[v1,v2,.bool x]) = .returned (.tuple #[v1,v2,.bool y]):=by rw[h]
theorem wrap_small {x:Int} (h0:-9223372036854775808<=x) (h1:x<=9223372036854775807):IntKind.i64.wrap x=x:=by rw[IntKind.wrap_i64];omega
theorem bE {a b:Int} (h:a=b):Ending.returned (.int .i64 a) = .returned (.int .i64 b):=by rw[h]
theorem aav {p:Prop} (h:p:=by
 go_wp2
 go_loop [5,7,12] (fun hh _ i=>∃ k:Nat,k<=n/\i = .int .i64 k/\hh = .int .u64 ((Pure.joinL h (zs.take k)).toNat:Int)) (fun _ _ i=>n-(intOf i).toNat)
 case atStart=>exact ⟨0,cE _,rfl,qQ hx.o⟩
 case round=>
  obtain ⟨k,hk,rfl,rfl⟩:=hrel
  by_cases hlt:k<n
  ·have hlt':k<zs.length:=by rw[hn.o];exact hlt
   obtain ⟨b,off,rfl,hck⟩:=hc k hlt'
   clear hc
   go_wp2
   go_round
   case rel=>exact ⟨k+1,by omega,by go_num,qQ (by rw[kN hlt',Pure.sS];exact Bw _ _)⟩
   case measure=>simp[intOf];omega
  ·clear hc
   go_wp2
   go_ret
   exact ⟨bE (by rw[cV (by rw[hn.o];omega)];unfold wrap64;rw[<-hr.o,IntKind.wrap_i64]),rfl⟩):p:=h
theorem EW (x:Int) (h:UInt64) (zs:List UInt8) (n:Nat) (ao:Option Addr) (cap:Nat) (w:World) (hx:Hid (IntKind.u64.wrap x=h.toNat)) (r:Int) (hr:Hid (IntKind.i64.wrap ((Pure.joinL h zs).toNat:Int)=r)) (hn:Hid (zs.length=n)) (hl:n<=140737488355328) (hc:At w ao zs) :
  Calls prog 192 #[.int .i64 x,.slice ao n cap] w fun e w'=>e = .returned (.int .i64 r)/\w=w':=by
 go_enter func192,ntmps192
 exact aav
theorem PX (x:Int) (h:UInt64) (zs:List UInt8) (n:Nat) (ao:Option Addr) (cap:Nat) (w:World) (hx:Hid (IntKind.u64.wrap x=h.toNat)) (r:Int) (hr:Hid (IntKind.i64.wrap ((Pure.joinL h zs).toNat:Int)=r)) (hn:Hid (zs.length=n)) (hl:n<=140737488355328) (hc:At w ao zs) :
  Calls prog 193 #[.int .i64 x,.slice ao n cap] w fun e w'=>e = .returned (.int .i64 r)/\w=w':=by
 go_enter func193,ntmps193
 exact aav
theorem join_one (l:List UInt8) (h:2<=l.length):IntKind.i64.wrap ((Pure.joinL 0 ((l.drop 1).take 1)).toNat:Int)=((l.getD 1 0).toNat:Int):=by
 match l,h with
 | a::b::l,_=>
  have hb:=b.toNat_lt;simp[Pure.oq];rw[IntKind.wrap_i64];omega
theorem Ti (l:List UInt8) (h:3<=l.length):IntKind.i64.wrap ((Pure.joinL 0 ((l.drop 1).take 2)).toNat:Int)=(((l.getD 1 0).toNat*256+(l.getD 2 0).toNat:Nat):Int):=by
 match l,h with
 | a::b::c::l,_=>
  have hb:=b.toNat_lt;have hc:=c.toNat_lt;simp[Pure.oq];rw[IntKind.wrap_i64];omega
theorem Jb:Hid (IntKind.u64.wrap 0=((0:UInt64).toNat:Int)):=by show _=_;decide
theorem aa7 {p:Prop} (h:p:=by
 go_enter func155,ntmps155
 go_wp2
 go_ret3
 exact ⟨fun k r h=>by rw[HC.o] at h;simp at h,fun _=>⟨_,_,rfl⟩,⟨0,rfl⟩⟩):p:=h
theorem adR {p:Prop} (h:p:=by
 rw[HC.o,if_neg hge]
 exact ⟨fun k r h=>by simp at h,fun h=>⟨_,_,Xy afz⟩,⟨_,rfl⟩⟩):p:=h
theorem Mj (zs:List UInt8) (n:Nat) (ao:Option Addr) (cap:Nat) (w:World) (hn:Hid (zs.length=n)) (hl:n<=140737488355328) (hcap:n<=cap) (hcm:cap<=9223372036854775807) (hc:At w ao zs) :
  Calls prog 155 #[.slice ao n cap] w fun e w'=>
   (∀ k r,Box.gu zs=some (k,r)->∃ a' c',e = .returned (.tuple #[.int .i64 (k:Int),.slice a' r.length c',.bool true])/\(∀ w0,At w0 ao zs->At w0 a' r)/\r.length<=c'/\c'<=cap)/\
   (Box.gu zs=none->∃ v v',e = .returned (.tuple #[v,v',.bool false]))/\∃ m,w'=w.drewN m:=by
 by_cases h1:1<=n
 ·have hp:0<zs.length:=by rw[hn.o];exact h1
  obtain ⟨b,off,rfl,hc0⟩:=hc 0 hp;have e0:zs.getD 0 0=zs[0]:=by simp[List.getD,List.getElem?_eq_getElem hp]
  have E0:Hid (zs.getD 0 0=zs[0]):=e0;clear e0;rw[eR] at hc0;generalize hz0:zs[0]=z0 at *;clear hz0;obtain ⟨i0,hi,hz0,hz1,hz2⟩:=info_parts Tryz.info5;have hp1:0<n:=h1;have hp2:(0:Int)<(n:Int):=by omega
  by_cases hA:(z0.toNat:Int)<128
  ·obtain ⟨a1,hs1,lM⟩:=kD 37 5 i0 underlying37 hi hz1 (some ⟨b,off,none⟩) n cap hn hcap 1 1 rfl h1;clear hc;go_enter func155,ntmps155;go_wp2;go_quiet (fail)
   go_wp2;go_ret3;have hcut:Box.gu zs=some (z0.toNat,zs.drop 1):=by
    rw[Box.gu,if_pos ⟨by rw[hn.o];exact h1,by rw[E0.o];omega⟩,E0.o]
   refine ⟨fun k r h=>?_,fun h=>?_,⟨_,rfl⟩⟩
   ·rw[hcut] at h;simp only[ew,Prod.mk.injEq] at h;obtain ⟨rfl,rfl⟩:=h;refine ⟨a1,cap-1,?_,lM,by rw[cy,hn.o];omega,by omega⟩;rw[cy,hn.o];first | exact ahE (wrap_small afp afp) | rfl
   ·rw[hcut] at h;simp at h
  ·have hA':¬ z0.toNat<128:=(by omega);by_cases hB:2<=n/\z0.toNat=129
   ·obtain ⟨h2,Jc⟩:=hB;have hq:((z0.toNat:Int)==129)=true:=(by rw[cL];omega);have hp3:(2:Int)<=(n:Int):=(by omega);obtain ⟨a1,hs1,lM⟩:=BD 37 5 i0 underlying37 hi hz1 (some ⟨b,off,none⟩) n cap hn hcap 1 2 1 2 rfl rfl afp h2;obtain ⟨a2,hs2,zq⟩:=kD 37 5 i0 underlying37 hi hz1 (some ⟨b,off,none⟩) n cap hn hcap 2 2 rfl h2;have h2':2<=zs.length:=(by rw[hn.o];exact h2);have hcut:Box.gu zs=if 128<=(zs.getD 1 0).toNat then some ((zs.getD 1 0).toNat,zs.drop 2) else none:=by
     rw[Box.gu,if_neg afS,if_pos ⟨h2',by rw[E0.o];exact Jc⟩]
    have HC:=hid hcut;have HR:Hid (IntKind.i64.wrap ((Pure.joinL 0 ((zs.drop 1).take 1)).toNat:Int)=((zs.getD 1 0).toNat:Int)):=join_one zs h2';have HL:Hid (((zs.drop 1).take 1).length=1):=(by show _=_;rw[cG,cy];omega);have hsm:=(zs.getD 1 0).toNat_lt;have Tj:=lM _ hc;clear hc hcut h2' Jc;generalize (zs.getD 1 0).toNat=z1 at *;go_enter func155,ntmps155;go_wp2_with (go_at_call 192;refine (EW 0 0 ((zs.drop 1).take 1) 1 _ _ _ Jb _ HR HL afp Tj).mono ?_;rintro e w' ⟨rfl,rfl⟩)
    go_quiet (fail)
    go_wp2;go_ret3;by_cases hge:128<=z1
    ·rw[HC.o,if_pos hge];refine ⟨fun k r h=>?_,(fun h=>by simp at h),⟨_,rfl⟩⟩;simp only[ew,Prod.mk.injEq] at h;obtain ⟨rfl,rfl⟩:=h;refine ⟨a2,cap-2,?_,zq,by rw[cy,hn.o];omega,by omega⟩;rw[cy,hn.o];exact Xy afz
    ·exact adR
   ·by_cases hC:3<=n/\z0.toNat=130
    ·obtain ⟨h3,Jd⟩:=hC;have hq9:((z0.toNat:Int)==129)=false:=(by rw[cg];omega);have hq:((z0.toNat:Int)==130)=true:=(by rw[cL];omega);have hp3:(3:Int)<=(n:Int):=(by omega);have hp4:(2:Int)<=(n:Int):=(by omega);obtain ⟨a1,hs1,lM⟩:=BD 37 5 i0 underlying37 hi hz1 (some ⟨b,off,none⟩) n cap hn hcap 1 3 1 3 rfl rfl afp h3;obtain ⟨a2,hs2,zq⟩:=kD 37 5 i0 underlying37 hi hz1 (some ⟨b,off,none⟩) n cap hn hcap 3 3 rfl h3;have h3':3<=zs.length:=(by rw[hn.o];exact h3);have hcut:Box.gu zs=if 256<=(zs.getD 1 0).toNat*256+(zs.getD 2 0).toNat then some ((zs.getD 1 0).toNat*256+(zs.getD 2 0).toNat,zs.drop 3) else none:=by
      rw[Box.gu,if_neg afS,if_neg afS,if_pos ⟨h3',by rw[E0.o];exact Jd⟩]
     have HC:=hid hcut;have HR:Hid (IntKind.i64.wrap ((Pure.joinL 0 ((zs.drop 1).take 2)).toNat:Int)=(((zs.getD 1 0).toNat*256+(zs.getD 2 0).toNat:Nat):Int)):=Ti zs h3';have HL:Hid (((zs.drop 1).take 2).length=2):=(by show _=_;rw[cG,cy];omega);have ahF:=(zs.getD 1 0).toNat_lt;have ahG:=(zs.getD 2 0).toNat_lt;have hsm:(zs.getD 1 0).toNat*256+(zs.getD 2 0).toNat<65536:=(by omega);have Tj:=lM _ hc;clear hc hcut h3' Jd ahF ahG;generalize (zs.getD 1 0).toNat*256+(zs.getD 2 0).toNat=z1 at *;go_enter func155,ntmps155;go_wp2_with (go_at_call 192;refine (EW 0 0 ((zs.drop 1).take 2) 2 _ _ _ Jb _ HR HL afp Tj).mono ?_;rintro e w' ⟨rfl,rfl⟩)
     go_quiet (fail)
     go_wp2;go_ret3;by_cases hge:256<=z1
     ·rw[HC.o,if_pos hge];refine ⟨fun k r h=>?_,(fun h=>by simp at h),⟨_,rfl⟩⟩;simp only[ew,Prod.mk.injEq] at h;obtain ⟨rfl,rfl⟩:=h;refine ⟨a2,cap-3,?_,zq,by rw[cy,hn.o];omega,by omega⟩;rw[cy,hn.o];exact Xy afz
     ·exact adR
    ·have hcut:Box.gu zs=none:=by
      have hnl:=hn.o;rw[Box.gu,if_neg afS,if_neg afS,if_neg afS]
     have HC:=hid hcut;clear hc hcut;by_cases n2:n<2
     ·have n3:n<3:=(by omega);clear hB hC;exact aa7
     ·have hq9:((z0.toNat:Int)==129)=false:=(by rw[cg];omega);by_cases n3:n<3
      ·clear hB hC;exact aa7
      ·have anY:((z0.toNat:Int)==130)=false:=(by rw[cg];omega);clear hB hC;exact aa7
 ·have n0:n=0:=by omega
  subst n0;have hcut:Box.gu zs=none:=by
   have hnl:=hn.o;rw[Box.gu,if_neg afp,if_neg afp,if_neg afp]
  have HC:=hid hcut;clear hc hcut;exact aa7
theorem fU {fn:Func} {t u v x:Tmp} (h:fn.results=#[.tmp t,.tmp u,.tmp v,.tmp x]) (tmps:Array Value) (P:Program) (w:World) :
  (results fn tmps).run P w = .ok (.tuple #[tmps.getD t undef,tmps.getD u undef,tmps.getD v undef,tmps.getD x undef]) w:=by
 simp[results,h]
theorem acU {p:Prop} (h:p:=by
 (try simp only[Exit.inBlock,Exit.then])
 refine bodyPost_ret (fU rfl _ _ _) rfl ?_
 exact ⟨fun tag i r h=>by rw[HC.o] at h;simp at h,fun _=>rfl,⟨_,rfl⟩⟩):p:=h
theorem Xz (zs:List UInt8) (n:Nat) (ao:Option Addr) (cap:Nat) (w:World) (hn:Hid (zs.length=n)) (hl:n<=140737488355328) (hcap:n<=cap) (hcm:cap<=9223372036854775807) (hc:At w ao zs) :
  Calls prog 128 #[.slice ao n cap] w fun e w'=>
   (∀ tag i r,Box.cut zs=some (tag,i,r)->∃ a1 c1 a2 c2,e = .returned (.tuple #[.int .u8 (tag.toNat:Int),.slice a1 i.length c1,.slice a2 r.length c2,.bool true])/\(∀ w0,At w0 ao zs->At w0 a1 i)/\i.length<=c1/\c1<=cap/\(∀ w0,At w0 ao zs->At w0 a2 r)/\r.length<=c2/\c2<=cap)/\
   (Box.cut zs=none->e = .returned (.tuple #[.int .u8 0,.slice none 0 0,.slice none 0 0,.bool false]))/\∃ m,w'=w.drewN m:=by
 by_cases h1:1<=n
 ·have hp:0<zs.length:=by rw[hn.o];exact h1
  obtain ⟨b,off,rfl,hc0⟩:=hc 0 hp;have E0:Hid (zs.getD 0 0=zs[0]):=by show _=_;simp[List.getD,List.getElem?_eq_getElem hp]
  rw[eR] at hc0;generalize hz0:zs[0]=z0 at *;clear hz0;obtain ⟨i0,hi,hz0,hz1,hz2⟩:=info_parts Tryz.info5;have hp1:0<n:=h1;have hne:((n:Int)==0)=false:=by rw[cg];omega
  obtain ⟨a1,hs1,lM⟩:=kD 37 5 i0 underlying37 hi hz1 (some ⟨b,off,none⟩) n cap hn hcap 1 1 rfl h1;have EL:Hid ((zs.drop 1).length=n-1):=by show _=_;rw[cy,hn.o]
  have hcl:=Mj (zs.drop 1) (n-1) a1 (cap-1) w EL afp afp afp (lM _ hc);have h0:¬ zs.length=0:=by omega
  cases hcu:Box.gu (zs.drop 1) with
  | none=>
   have hcut:Box.cut zs=none:=(by rw[Box.cut,if_neg h0,hcu]);have HC:=hid hcut;rw[hcu] at hcl;clear hc hcut hcu h0 hp;go_enter func128,ntmps128;go_wp2_with (go_at_call 155;refine hcl.mono ?_;rintro e w' ⟨_,h2,m,rfl⟩;obtain ⟨v,v',rfl⟩:=h2 rfl)
   exact acU
  | some kr=>
   obtain ⟨k,r⟩:=kr;have hrl:=Box.wL hcu;rw[EL.o] at hrl;by_cases hk:k<=r.length
   ·have hcut:Box.cut zs=some (z0,r.take k,r.drop k):=(by rw[Box.cut,if_neg h0,hcu];simp only[if_pos hk,E0.o]);have HC:=hid hcut;rw[hcu] at hcl;clear hc hcut hcu h0 hp;obtain ⟨rl,aaD⟩:=ar r.length;rw[<-aaD] at hrl hk;have hk2:¬ ((rl:Int)<(k:Int)):=(by omega);have PY:Hid (r.length=rl):=aaD.symm;clear aaD;go_enter func128,ntmps128;go_wp2_with fail;refine hcl.mono ?_;rintro e w' ⟨h2,_,m,rfl⟩;obtain ⟨a',c',rfl,hat',hc1,hc2⟩:=h2 k r rfl;rw[PY.o] at hc1 ⊢;obtain ⟨b1,ht1,ahH⟩:=xV 37 5 i0 underlying37 hi hz1 a' rl c' PY hc1 k k rfl hk;obtain ⟨b2,ht2,ahI⟩:=kD 37 5 i0 underlying37 hi hz1 a' rl c' PY hc1 k k rfl hk;clear hcl h2 hs1;go_wp2_with fail;go_quiet (fail)
    go_wp2;(try simp only[Exit.inBlock,Exit.then]);refine bodyPost_ret (fU rfl _ _ _) rfl ?_;refine ⟨fun tag i r' h=>?_,(fun h=>by rw[HC.o] at h;simp at h),⟨m+nq,by rw[World.drewN_drewN]⟩⟩;rw[HC.o] at h;simp only[ew,Prod.mk.injEq] at h;obtain ⟨rfl,rfl,rfl⟩:=h;refine ⟨b1,c',b2,c' - k,?_,fun w0 h0=>ahH w0 (hat' w0 (lM w0 h0)),?_,by omega,fun w0 h0=>ahI w0 (hat' w0 (lM w0 h0)),?_,by omega⟩
    ·rw[cG,cy,PY.o,fY hk];rfl
    ·rw[cG];omega
    ·rw[cy,PY.o];omega
   ·have hcut:Box.cut zs=none:=(by rw[Box.cut,if_neg h0,hcu];simp only[if_neg hk]);have HC:=hid hcut;rw[hcu] at hcl;clear hc hcut hcu h0 hp;have hk2:((r.length:Int)<(k:Int)):=(by omega);go_enter func128,ntmps128;go_wp2_with fail;refine hcl.mono ?_;rintro e w' ⟨h2,_,m,rfl⟩;obtain ⟨a',c',rfl,hat',hc1,hc2⟩:=h2 k r rfl;clear hcl h2 hs1;go_wp2_with fail;exact acU
 ·have n0:n=0:=by omega
  subst n0;have hcut:Box.cut zs=none:=by rw[Box.cut,if_pos hn.o]
  have HC:=hid hcut;clear hc hcut;go_enter func128,ntmps128;go_wp2;(try simp only[Exit.inBlock,Exit.then]);refine bodyPost_ret (fU rfl _ _ _) rfl ?_;exact ⟨fun tag i r h=>by rw[HC.o] at h;simp at h,fun _=>rfl,⟨0,rfl⟩⟩
set_option maxHeartbeats 2000000
theorem X3:∀ k,k<63->bits .or .i64 (wrap64 ((2 ^ k-1)*2)) 1=2 ^ (k+1)-1:=by decide +kernel
theorem Uh:∀ k,k<63->1<=k->(2 ^ k-1:Int)<wrap64 ((2 ^ k-1)*2):=by decide +kernel
theorem Ui:¬ ((2 ^ 63-1:Int)<wrap64 ((2 ^ 63-1)*2)):=by decide +kernel
theorem Qv:∀ k,k<63->(9223372036854775807-(2 ^ (k+1)-1):Int).toNat<(9223372036854775807-(2 ^ k-1):Int).toNat:=by decide +kernel
theorem tO (w:World):Calls prog 247 #[] w fun e w'=>e = .returned (.int .i64 9223372036854775807)/\w'=w:=by
 go_enter func247,ntmps247;go_wp2;go_loopw [1] (fun v wr=>∃ k:Nat,1<=k/\k<=63/\v = .int .i64 (2 ^ k-1)/\wr=w) (fun v _=>(9223372036854775807-intOf v).toNat)
 case atStart=>exact ⟨1,by omega,by omega,rfl,rfl⟩
 case round=>
  obtain ⟨k,h1,h2,rfl,rfl⟩:=hrel;by_cases hk:k<63
  ·have f1:=Uh k hk h1;have f2:=X3 k hk;have HL:=hid (Qv k hk);go_wp2;go_roundw
   case rel=>exact ⟨k+1,by omega,by omega,rfl,trivial⟩
   case measure=>exact HL.o
  ·obtain rfl:k=63:=by omega
   have f3:=Ui;clear h1 h2 hk;go_wp2;go_ret;exact ⟨rfl,rfl⟩
theorem Fu (w:World):Calls prog 248 #[] w fun e w'=>e = .returned (.int .i64 (-9223372036854775808))/\w'=w:=by
 go_enter func248,ntmps248;go_wp2_with (go_at_call 247;refine (tO _).mono ?_;rintro e w' ⟨rfl,rfl⟩)
 go_ret;exact ⟨rfl,rfl⟩
theorem Fv {a b:Int} (h0:-9223372036854775808<=a+b) (h1:a+b<=9223372036854775807):aX a b=a+b/\wrap64 (a+b)=a+b:=by
 refine ⟨?_,by unfold wrap64;omega⟩;unfold aX sat;rw[if_neg afp,if_neg afp]
theorem Fw {a b:Int} (h0:-9223372036854775808<=a-b) (h1:a-b<=9223372036854775807):fO a b=a-b/\wrap64 (a-b)=a-b:=by
 refine ⟨?_,by unfold wrap64;omega⟩;unfold fO sat;rw[if_neg afp,if_neg afp]
theorem aaq {p:Prop} (h:p:=by
 go_ret
 exact ⟨bE (by rw[HR.o]),rfl⟩):p:=h
theorem Bf (a b:Int) (w:World) (ha0:-9223372036854775808<=a) (ha1:a<=9223372036854775807) (hb0:-9223372036854775808<=b) (hb1:b<=9223372036854775807) :
  Calls prog 223 #[.int .i64 a,.int .i64 b] w fun e w'=>e = .returned (.int .i64 (aX a b))/\w'=w:=by
 by_cases ho:a+b < -9223372036854775808
 ·have hb:b<0:=by omega
  have n1:¬ 0<b:=by omega
  have hw:wrap64 (a+b)=a+b+18446744073709551616:=by unfold wrap64;omega
  have h2:a<a+b+18446744073709551616:=by omega
  have HR:Hid (aX a b=-9223372036854775808):=by show _=_;unfold aX sat;rw[if_pos ho]
  clear ho;go_enter func223,ntmps223;go_wp2_with (go_at_call 248;refine (Fu _).mono ?_;rintro e w' ⟨rfl,rfl⟩)
  exact aaq
 ·by_cases hp:9223372036854775807<a+b
  ·have hb:0<b:=(by omega);have hw:wrap64 (a+b)=a+b-18446744073709551616:=(by unfold wrap64;omega);have h2:a+b-18446744073709551616<a:=(by omega);have HR:Hid (aX a b=9223372036854775807):=(by show _=_;unfold aX sat;rw[if_neg ho,if_pos hp]);clear ho hp;go_enter func223,ntmps223;go_wp2_with (go_at_call 247;refine (tO _).mono ?_;rintro e w' ⟨rfl,rfl⟩)
   exact aaq
  ·obtain ⟨(HR:Hid _),hw⟩:=Fv (a:=a) (b:=b) afp afp;clear  ho hp;rcases Int.lt_trichotomy b 0 with hb | hb | hb
   ·have n1:¬ 0<b:=(by omega);have n2:¬ a<a+b:=(by omega);go_enter func223,ntmps223;go_wp2;exact aaq
   ·subst hb;have H0:Hid (aX a 0=a):=HR.o.trans (Int.add_zero a);go_enter func223,ntmps223;go_wp2;go_ret;exact ⟨bE H0.o.symm,rfl⟩
   ·have n1:¬ b<0:=(by omega);have n2:¬ a+b<a:=(by omega);go_enter func223,ntmps223;go_wp2;exact aaq
theorem qj (a b:Int) (w:World) (ha0:-9223372036854775808<=a) (ha1:a<=9223372036854775807) (hb0:-9223372036854775808<=b) (hb1:b<=9223372036854775807) :
  Calls prog 249 #[.int .i64 a,.int .i64 b] w fun e w'=>e = .returned (.int .i64 (fO a b))/\w'=w:=by
 by_cases ho:a-b < -9223372036854775808
 ·have hb:0<b:=by omega
  have n1:¬ b<0:=by omega
  have hw:wrap64 (a-b)=a-b+18446744073709551616:=by unfold wrap64;omega
  have h2:a<a-b+18446744073709551616:=by omega
  have HR:Hid (fO a b=-9223372036854775808):=by show _=_;unfold fO sat;rw[if_pos ho]
  clear ho;go_enter func249,ntmps249;go_wp2_with (go_at_call 248;refine (Fu _).mono ?_;rintro e w' ⟨rfl,rfl⟩)
  exact aaq
 ·by_cases hp:9223372036854775807<a-b
  ·have hb:b<0:=(by omega);have hw:wrap64 (a-b)=a-b-18446744073709551616:=(by unfold wrap64;omega);have h2:a-b-18446744073709551616<a:=(by omega);have HR:Hid (fO a b=9223372036854775807):=(by show _=_;unfold fO sat;rw[if_neg ho,if_pos hp]);clear ho hp;go_enter func249,ntmps249;go_wp2_with (go_at_call 247;refine (tO _).mono ?_;rintro e w' ⟨rfl,rfl⟩)
   exact aaq
  ·obtain ⟨(HR:Hid _),hw⟩:=Fw (a:=a) (b:=b) afp afp;clear  ho hp;rcases Int.lt_trichotomy b 0 with hb | hb | hb
   ·have n1:¬ 0<b:=(by omega);have n2:¬ a-b<a:=(by omega);go_enter func249,ntmps249;go_wp2;exact aaq
   ·subst hb;have H0:Hid (fO a 0=a):=HR.o.trans (Int.sub_zero a);go_enter func249,ntmps249;go_wp2;go_ret;exact ⟨bE H0.o.symm,rfl⟩
   ·have n1:¬ b<0:=(by omega);have n2:¬ a<a-b:=(by omega);go_enter func249,ntmps249;go_wp2;exact aaq
theorem Qw (a b:Int) (w:World) (ha0:-9223372036854775808<=a) (ha1:a<=9223372036854775807) (hb0:-9223372036854775808<=b) (hb1:b<=9223372036854775807) :
  Calls prog 238 #[.int .i64 a,.int .i64 b] w fun e w'=>e = .returned (.int .i64 (dM a b))/\w'=w:=by
 by_cases h:a<b
 ·have HR:Hid (dM a b=fO b a):=by show _=_;unfold dM;rw[if_pos h]
  go_enter func238,ntmps238;go_wp2_with (go_at_call 249;refine (qj b a _ hb0 hb1 ha0 ha1).mono ?_;rintro e w' ⟨rfl,rfl⟩)
  exact aaq
 ·have HR:Hid (dM a b=fO a b):=by show _=_;unfold dM;rw[if_neg h]
  go_enter func238,ntmps238;go_wp2_with (go_at_call 249;refine (qj a b _ ha0 ha1 hb0 hb1).mono ?_;rintro e w' ⟨rfl,rfl⟩)
  exact aaq
end Go.Proofs.YteknelimjfgmaaaGreatDoor
