import Derived.Test.YteknelimjfgmaaaGreatDoorGJRBoxF
import Derived.Test.YteknelimjfgmaaaGreatDoorGJBoxC
namespace Go.Proofs.YteknelimjfgmaaaGreatDoor
set_option maxHeartbeats 4000000
open Proofs.Tryz Go.RowKit
set_option maxRecDepth 100000
variable {zs:List UInt8}
def yl (tag:UInt8) (zs:List UInt8) (e:Ending):Prop:=
 (∀ v,tag.toNat=2->Box.num zs=some v->e = .returned (.tuple #[.int .i64 v,.bool true]))/\
 ((tag.toNat≠2\/Box.num zs=none)->∃ v:Int,-9223372036854775808<=v/\v<=9223372036854775807/\e = .returned (.tuple #[.int .i64 v,.bool false]))
theorem OD {tag:UInt8} (h:tag.toNat≠2\/Box.num zs=none):yl tag zs (.returned (.tuple #[.int .i64 0,.bool false])):=
 ⟨fun v h1 h2=>by rcases h with h | h;exact absurd h1 h;rw[h] at h2;simp at h2,fun _=>⟨0,by decide,by decide,rfl⟩⟩
theorem ac5 {p:Prop} (h:p:=by
 go_enter func70,ntmps70
 go_wp2
 go_ret2
 exact ⟨HV,aE w _ none⟩):p:=h
theorem P8 (tag:UInt8) (ao:Option Addr) (zs:List UInt8) (n:Nat) (cap:Nat) (w:World) (h:tag.toNat≠2) :
  Calls prog 70 #[.agg #[.int .u8 (tag.toNat:Int),.slice ao n cap]] w fun e w'=>yl tag zs e/\w.grownBy w' none:=by
 have hb:((tag.toNat:Int) != 2)=true:=by rw[fj];omega
 have HV:=OD (zs:=zs) (.inl h)
 clear h
 exact ac5
theorem Mk (tag:UInt8) (ao:Option Addr) (zs:List UInt8) (n:Nat) (cap:Nat) (w:World) (hn:Hid (zs.length=n)) (ht:tag.toNat=2) (h:n<1\/8<n) :
  Calls prog 70 #[.agg #[.int .u8 (tag.toNat:Int),.slice ao n cap]] w fun e w'=>yl tag zs e/\w.grownBy w' none:=by
 have hb:((tag.toNat:Int) != 2)=false:=by rw[eN];omega
 have HV:=OD (tag:=tag) (zs:=zs) (.inr (by rw[Box.num,if_neg afG]))
 clear ht
 by_cases h1:n<1
 ·have h1':(n:Int)<1:=by omega
  exact ac5
 ·have h1':¬ (n:Int)<1:=by omega
  have h2':(8:Int)<(n:Int):=by omega
  exact ac5
theorem Tp {k:Nat} (h1:1<=k) (h8:k<=7) (hk:k<=zs.length):-36028797018963968<=Box.iy (Box.sign (zs.getD 0 0)) ((zs.drop 1).take (k-1))/\Box.iy (Box.sign (zs.getD 0 0)) ((zs.drop 1).take (k-1))<36028797018963968:=by
 have hs:=Box.qX (zs.getD 0 0);have h:=Box.uO (M:=128) ((zs.drop 1).take (k-1)) _ hs.1 hs.2;have e:((zs.drop 1).take (k-1)).length=k-1:=by simp;omega
 rw[e] at h;have hp:(256:Int) ^ (k-1)<=256 ^ 6:=by
  have:(256:Nat) ^ (k-1)<=256 ^ 6:=Nat.pow_le_pow_right afq afp;rw[show (256:Int)=((256:Nat):Int) from rfl,<-Int.natCast_pow,<-Int.natCast_pow];exact Int.ofNat_le.2 this
 have e6:(256:Int) ^ 6=281474976710656:=by decide
 rw[e6] at hp;omega
theorem Tq {k:Nat} (h1:1<=k) (hk:k<zs.length):Box.iy (Box.sign (zs.getD 0 0)) ((zs.drop 1).take (k+1-1))=Box.iy (Box.sign (zs.getD 0 0)) ((zs.drop 1).take (k-1))*256+(zs[k].toNat:Int):=by
 have hl:k-1<(zs.drop 1).length:=by simp;omega
 rw[show k+1-1=(k-1)+1 from by omega,kN hl,Box.Gl,List.getElem_drop];congr 4;omega
theorem P9 (tag:UInt8) (b off:Nat) (zs:List UInt8) (n:Nat) (cap:Nat) (w:World) (hn:Hid (zs.length=n)) (ht:tag.toNat=2) (h1:1<=n) (h8:n<=8) (hc:At w (some ⟨b,off,none⟩) zs) :
  Calls prog 70 #[.agg #[.int .u8 (tag.toNat:Int),.slice (some ⟨b,off,none⟩) n cap]] w fun e w'=>yl tag zs e/\w.grownBy w' none:=by
 have hb:((tag.toNat:Int) != 2)=false:=by rw[eN];omega
 have HT:Hid (tag.toNat=2):=ht
 clear ht
 have h1':¬ (n:Int)<1:=by omega
 have h8':¬ (8:Int)<(n:Int):=by omega
 have hp0:(0:Int)<(n:Int):=by omega
 have G0:w.grownBy (w.alloc (.cells #[.int .u8 (tag.toNat:Int),.slice (some ⟨b,off,none⟩) n cap] 117)) none:=aE w _ none
 have hcw:=hc.below G0
 have hB0:=dX.new w #[.int .u8 (tag.toNat:Int),.slice (some ⟨b,off,none⟩) n cap] 117
 have hc0:=BK hcw 0 afG
 rw[eR] at hc0
 have hsi:=Ji (zs.getD 0 0)
 have hsb:=Box.qX (zs.getD 0 0)
 generalize hz0:(zs.getD 0 0)=z0 at hc0 hsi hsb
 generalize hsz:Box.sign z0=s0 at hsi hsb
 have HZ:Hid (Box.sign (zs.getD 0 0)=s0):=by show _=_;rw[hz0,hsz]
 clear hz0 hsz
 go_enter func70,ntmps70
 go_wp2_with fail
 go_loop [4,5] (fun v i=>∃ k:Nat,1<=k/\k<=n/\i = .int .i64 k/\∃ V:Int,v = .int .i64 V/\Hid (V=Box.iy (Box.sign (zs.getD 0 0)) ((zs.drop 1).take (k-1)))) (fun _ i=>n-(intOf i).toNat)
 case atStart=>exact ⟨1,by omega,h1,rfl,_,rfl,by show _=_;rw[HZ.o];simp[Box.iy]⟩
 case round=>
  obtain ⟨k,hk1,hk,rfl,V,rfl,HV⟩:=hrel;by_cases hlt:k<n
  ·have hlt':k<zs.length:=(by rw[hn.o];exact hlt);have rF:(k:Int)<(n:Int):=(by omega);have hk0:(0:Int)<=(k:Int):=(by omega);have hck:=hcw.cells k hlt';have hzk:=(zs[k]).toNat_lt;have hVb:=Tp hk1 afp afG;rw[<-HV.o] at hVb;go_wp2;go_round
   case rel=>exact ⟨k+1,by omega,by omega,by go_num,_,rfl,by show _=_;rw[Tq hk1 hlt',<-HV.o]⟩
   case measure=>simp[intOf];omega
  ·have hkn:k=n:=(by omega);subst hkn;have Tt:Hid (V=Box.val zs):=by
    show _=_;rw[HV.o,Box.val,cV (by rw[cy,hn.o];omega)]
   have hVb:=Box.sZ (l:=zs) (by rw[hn.o];exact h1) afV;rw[<-Tt.o] at hVb;have rF:¬ (k:Int)<(k:Int):=(by omega);go_wp2_with fail;refine (p9 V _ hVb.1 hVb.2).mono ?_;rintro e w1 ⟨o,rfl,hown1,hg1⟩;obtain ⟨a4,c4,rfl,_,_,_,Ef⟩:=iI hown1;have hB1:=hB0.grown hg1 aft;have G1:=aa G0 hg1;have p1:=hB1.cell 1;simp only[cx,ct,cD] at p1;clear hown1 hg1 hB0 hcw hc0;go_wp2_with fail;refine (su 2 zs k (some ⟨b,off,none⟩) cap _ hn afp (hid (fun h=>by cases h)) (hc.below G1)).mono ?_;rintro e w2 ⟨o,rfl,hown2,hg2⟩;obtain ⟨a5,c5,rfl,_,_,_,wZ⟩:=iI hown2;have Zt:=Ef.below hg2;have G2:=aa G1 hg2;have hBL:(Box.box 2 (Box.low V (Box.size V))).length<=140737488355328:=by
    have:=(iR V).2;rw[Box.jG,Box.lQ];split <;> (try split) <;> omega
   have Je:=zu (Box.box 2 (Box.low V (Box.size V))) (Box.box 2 zs) _ _ a4 a5 c4 c5 w2 (hid rfl) (hid rfl) hBL Zt wZ;clear hown2 hg2 Ef Zt wZ hB1 p1;go_wp2_with fail;refine Je.mono ?_;rintro e w3 ⟨rfl,hg3⟩;have G3:=aa G2 hg3;clear Je hg3;by_cases hq:Box.box 2 (Box.low V (Box.size V))=Box.box 2 zs
   ·have hq':(Box.box 2 (Box.low V (Box.size V))==Box.box 2 zs)=true:=(by rw[cL];exact hq);have iL:Box.num zs=some V:=by
     rw[Box.EP (by rw[hn.o];exact h1) afV V Tt.o _ rfl] at hq;rw[Box.num,<-Tt.o,if_pos ⟨by rw[hn.o];exact h1,by rw[hn.o];exact h8,hq⟩]
    have Eg:=hid iL;rw[hq'];clear hq hq' iL;go_wp2;go_ret2;refine ⟨⟨fun v _ hv=>?_,fun h=>?_⟩,G3⟩
    ·rw[Eg.o] at hv;simp only[ew] at hv;subst hv;rfl
    ·rcases h with h | h
     ·exact absurd HT.o h
     ·rw[Eg.o] at h;simp at h
   ·have hq':(Box.box 2 (Box.low V (Box.size V))==Box.box 2 zs)=false:=(by rw[cg];exact hq);have iL:Box.num zs=none:=by
     rw[Box.EP (by rw[hn.o];exact h1) afV V Tt.o _ rfl] at hq;rw[Box.num,<-Tt.o,if_neg (fun h=>hq h.2.2)]
    have Eg:=hid iL;rw[hq'];clear hq hq' iL;go_wp2;go_ret2;refine ⟨⟨fun v _ hv=>?_,fun h=>⟨V,hVb.1,hVb.2,rfl⟩⟩,G3⟩;rw[Eg.o] at hv;simp at hv
theorem Ml (tag:UInt8) (ao:Option Addr) (zs:List UInt8) (n:Nat) (cap:Nat) (w:World) (hn:Hid (zs.length=n)) (hc:At w ao zs) :
  Calls prog 70 #[.agg #[.int .u8 (tag.toNat:Int),.slice ao n cap]] w fun e w'=>yl tag zs e/\w.grownBy w' none:=by
 by_cases ht:tag.toNat=2
 ·by_cases h:n<1\/8<n
  ·exact Mk tag ao zs n cap w hn ht h
  ·obtain ⟨b,off,rfl,_⟩:=hc.addr afG;exact P9 tag b off zs n cap w hn ht afp afp hc
 ·exact P8 tag ao zs n cap w ht
theorem wrap_u64 (x:Int):IntKind.u64.wrap x=x % 18446744073709551616:=by
 unfold IntKind.wrap;simp[IntKind.signed,IntKind.bits]
def mX (x:Int):UInt64:=UInt64.ofNat (x % 18446744073709551616).toNat
theorem nE (x:Int):IntKind.u64.wrap x=((mX x).toNat:Int):=by
 rw[wrap_u64,mX];have h0:=Int.emod_nonneg x (show (18446744073709551616:Int)≠0 by decide);rw[Pure.lX _ afp];omega
theorem GQ (x:Int) (k:Nat) (hk:k<=8):Box.low x k=Pure.be (mX x) k:=by
 have hb:∀ i,i<8->Box.kW x i=Pure.dW (mX x) i:=by
  intro i hi;apply UInt8.toNat_inj.1;have e:=mZ (mX x) i;have hw:=nE x;rw[wrap_u64] at hw;rw[<-hw] at e;have h2:x / 2 ^ (8*i) % 256=(x % 18446744073709551616) / 2 ^ (8*i) % 256:=by
   match i,hi with
   | 0,_=>simp
   | 1,_=>simp;omega
   | 2,_=>simp;omega
   | 3,_=>simp;omega
   | 4,_=>simp;omega
   | 5,_=>simp;omega
   | 6,_=>simp;omega
   | 7,_=>simp;omega
  have h5:(Box.kW x i).toNat=(x / 2 ^ (8*i) % 256).toNat:=by
   unfold Box.kW;rw[ec,du afp]
  omega
 have hto:∀ j,j<=k->Box.ow x k j=Pure.oh (mX x) k j:=by
  intro j;induction j with
  | zero=>intro _;rfl
  | succ j ih=>
   intro hj;rw[Box.ow,ih afp,Pure.lW,hb _ afp]
 exact hto k (bd _)
theorem OL (n:Nat) (h:n<256):Pure.be (mX (n:Int)) 1=[UInt8.ofNat n]:=by
 rw[<-GQ _ _ afp];have e:Box.kW (n:Int) 0=UInt8.ofNat n:=by
  unfold Box.kW;congr 1;simp;omega
 show [Box.kW (n:Int) 0]=_;rw[e]
theorem XN (n:Nat) (h:n<65536):Pure.be (mX (n:Int)) 2=[UInt8.ofNat (n / 256),UInt8.ofNat (n % 256)]:=by
 rw[<-GQ _ _ afp];have e0:Box.kW (n:Int) 0=UInt8.ofNat (n % 256):=by
  unfold Box.kW;congr 1;simp;omega
 have e1:Box.kW (n:Int) 1=UInt8.ofNat (n / 256):=by
  unfold Box.kW;congr 1;have:(n:Int) / 2 ^ (8*1) % 256=((n / 256:Nat):Int):=by simp;omega
  rw[this];rfl
 show [Box.kW (n:Int) 1,Box.kW (n:Int) 0]=_;rw[e0,e1]
theorem adb {p:Prop} (h:p:=by
 go_wp2
 go_ret
 exact ⟨_,rfl,by rw[HH.o,<-cR,<-cR];exact aU.comp HM.o.2 (aU.comp HM2.o.2 R3 aft) aft⟩):p:=h
theorem uZ (ov:Value) (p:Option Pl) (bs:List UInt8) (tag:UInt8) (n:Nat) (w:World) (hb:Out w ov p bs) (hn:n<65536) (hl:bs.length<=900000) :
  Calls prog 251 #[ov,.int .u8 (tag.toNat:Int),.int .i64 (n:Int)] w fun e w'=>∃ v',e = .returned v'/\aU w w' v' p (bs++Box.head tag n):=by
 obtain ⟨i0,hi,hz0,hz1,hz2⟩:=info_parts Tryz.info5
 have hs1:∀ (W:World) (x:UInt8),Src prog 1 37 (.slice (some ⟨W.heap.size,0,none⟩) 1 1) 1 ([x].map U8) (W.alloc (.cells #[.int .u8 (x.toNat:Int)] 5)):=
  fun W x=>rE (P:=prog) underlying37 _ 1 1 [x] rfl (fG _ _ _ _ rfl)
 have ad7:∀ (W:World),Src prog 1 37 (.slice (some ⟨W.heap.size,0,none⟩) 1 1) 1 ([129].map U8) (W.alloc (.cells #[.int .u8 129] 5)):=fun W=>hs1 W 129
 have ad8:∀ (W:World),Src prog 1 37 (.slice (some ⟨W.heap.size,0,none⟩) 1 1) 1 ([130].map U8) (W.alloc (.cells #[.int .u8 130] 5)):=fun W=>hs1 W 130
 by_cases h1:n<128
 ·have h1I:(n:Int)<128:=by omega
  have HH:Hid (Box.head tag n=[tag]++Pure.be (mX (n:Int)) 1):=by show _=_;rw[Box.head,if_pos h1,OL n afp];rfl
  go_enter func251,ntmps251;go_wp2_with (at_builtin;refine dK _ rfl _ _ 37 37 rfl 5 i0 underlying37 hi hz0 hz1 hz2 _ _ p bs [tag] rfl rfl (hb.grown (aE w _ none)) 1 (hs1 _ _) afz ?_;intro v1 w1 R1)
  have R1':=R1.before (aE w _ none);obtain ⟨p1,o1,m1⟩:=id R1';have HA:=hid (ru v1 p1 _ (n:Int) (mX (n:Int)) 1 w1 o1 (nE _) afp afz);have HM:=hid (And.intro o1 m1);clear R1 R1' o1 m1;go_wp2_with (go_at_call 152;refine HA.o.mono ?_;rintro e w2 ⟨v2,rfl,R2⟩)
  go_wp2;go_ret;exact ⟨_,rfl,by rw[HH.o,<-cR];exact aU.comp HM.o.2 R2 aft⟩
 ·by_cases h2:n<256
  ·have h1I:¬ (n:Int)<128:=(by omega);have h2I:(n:Int)<256:=(by omega);have HH:Hid (Box.head tag n=[tag]++[129]++Pure.be (mX (n:Int)) 1):=(by show _=_;rw[Box.head,if_neg h1,if_pos h2,OL n h2];rfl);go_enter func251,ntmps251
   go_wp2_with (first
    | (at_builtin;refine dK _ rfl _ _ 37 37 rfl 5 i0 underlying37 hi hz0 hz1 hz2 _ _ p bs [tag] rfl rfl (hb.grown (aE w _ none)) 1 (hs1 _ _) afz ?_;intro v1 w1 R1;obtain ⟨p1,o1,m1⟩:=R1.before (aE w _ none);have HM:=hid (And.intro o1 m1);clear R1 o1 m1)
    | (at_builtin;refine dK _ rfl _ _ 37 37 rfl 5 i0 underlying37 hi hz0 hz1 hz2 _ _ p1 _ [129] rfl rfl (HM.o.1.grown (aE w1 _ none)) 1 (ad7 _) afz ?_;intro v2 w2 R2;obtain ⟨p2,o2,m2⟩:=R2.before (aE w1 _ none);have HA:=hid (ru v2 p2 _ (n:Int) (mX (n:Int)) 1 w2 o2 (nE _) afp afz);have HM2:=hid (And.intro o2 m2);clear R2 o2 m2)
    | (go_at_call 152;refine HA.o.mono ?_;rintro e w3 ⟨v3,rfl,R3⟩))
   exact adb
  ·have h1I:¬ (n:Int)<128:=(by omega);have h2I:¬ (n:Int)<256:=(by omega);have HH:Hid (Box.head tag n=[tag]++[130]++Pure.be (mX (n:Int)) 2):=(by show _=_;rw[Box.head,if_neg h1,if_neg h2,XN n hn];rfl);go_enter func251,ntmps251
   go_wp2_with (first
    | (at_builtin;refine dK _ rfl _ _ 37 37 rfl 5 i0 underlying37 hi hz0 hz1 hz2 _ _ p bs [tag] rfl rfl (hb.grown (aE w _ none)) 1 (hs1 _ _) afz ?_;intro v1 w1 R1;obtain ⟨p1,o1,m1⟩:=R1.before (aE w _ none);have HM:=hid (And.intro o1 m1);clear R1 o1 m1)
    | (at_builtin;refine dK _ rfl _ _ 37 37 rfl 5 i0 underlying37 hi hz0 hz1 hz2 _ _ p1 _ [130] rfl rfl (HM.o.1.grown (aE w1 _ none)) 1 (ad8 _) afz ?_;intro v2 w2 R2;obtain ⟨p2,o2,m2⟩:=R2.before (aE w1 _ none);have HA:=hid (ru v2 p2 _ (n:Int) (mX (n:Int)) 2 w2 o2 (nE _) afp afz);have HM2:=hid (And.intro o2 m2);clear R2 o2 m2)
    | (go_at_call 152;refine HA.o.mono ?_;rintro e w3 ⟨v3,rfl,R3⟩))
   exact adb
theorem yD (v:Int) (w:World) (h0:-9223372036854775808<=v) (h1:v<=9223372036854775807) :
  Calls prog 194 #[.int .i64 v] w fun e w'=>e = .returned (.int .i64 (Box.size v:Int))/\w=w':=by
 obtain ⟨m,hm,hmv⟩:=BM v h0 h1
 have HS:=hid (Box.zx v h0 h1 m hmv)
 have hm1:m<18446744073709551616:=by split at hmv <;> omega
 have hb:=(Box.bitLen_le (k:=64) hm1).2 hm1
 have HM:=hid hm
 clear hm hmv
 go_enter func194,ntmps194
 exact aaS
theorem oZ (ov:Value) (p:Option Pl) (bs:List UInt8) (v:Int) (w:World) (hb:Out w ov p bs) (h0:-9223372036854775808<=v) (h1:v<=9223372036854775807) (hl:bs.length<=900000) :
  Calls prog 250 #[ov,.int .i64 v] w fun e w'=>∃ v',e = .returned v'/\aU w w' v' p (bs++bQ v):=by
 obtain ⟨i0,hi,hz0,hz1,hz2⟩:=info_parts Tryz.info5
 have hsz:=iR v
 have HS:=hid (yD v w h0 h1)
 obtain ⟨s,hs⟩:=aq (Box.size v)
 have HB:Hid (bQ v=[2,UInt8.ofNat s]++Pure.be (mX v) s):=by
  show _=_;rw[bQ,Box.box,Box.lQ,Box.head,if_pos afp,hs,GQ _ _ afp]
 rw[hs] at HS hsz
 clear hs
 have hsrc:∀ (W:World) (x:Int),x=((UInt8.ofNat s).toNat:Int)->Src prog 1 37 (.slice (some ⟨W.heap.size,0,none⟩) 2 2) 2 ([2,UInt8.ofNat s].map U8) (W.alloc (.cells #[.int .u8 2,.int .u8 x] 5)):=by
  intro W x hx;refine rE (P:=prog) underlying37 _ 2 2 [2,UInt8.ofNat s] rfl ?_;exact fG _ _ _ _ (by rw[hx];rfl)
 have hsw:=Tf s afp
 have HW:=hid hsw
 have hss:((UInt8.ofNat s).toNat:Int)=(s:Int):=by rw[ec,du afp]
 have HZ:=hid hss
 clear hsw hss
 go_enter func250,ntmps250
 go_wp2_with (first
  | (go_at_call 194;refine HS.o.mono ?_;rintro e w' ⟨rfl,rfl⟩)
  | (at_builtin;refine dK _ rfl _ _ 37 37 rfl 5 i0 underlying37 hi hz0 hz1 hz2 _ _ p bs [2,UInt8.ofNat s] rfl rfl (hb.grown (aE w _ none)) 2 (hsrc _ _ (by first | exact HW.o | exact HZ.o.symm)) afz ?_;intro v1 w1 R1;obtain ⟨p1,o1,m1⟩:=R1.before (aE w _ none);have HA:=hid (Eo v1 p1 _ v (mX v) s w1 o1 (nE _) afp afz);have HM:=hid (And.intro o1 m1);clear R1 o1 m1)
  | (go_at_call 261;refine HA.o.mono ?_;rintro e w2 ⟨v2,rfl,R2⟩))
 go_wp2
 go_ret
 exact ⟨_,rfl,by rw[HB.o,<-cR];exact aU.comp HM.o.2 R2 aft⟩
theorem AJ (v:Int) (w:World) (h0:-9223372036854775808<=v) (h1:v<=9223372036854775807) :
  Calls prog 253 #[.int .i64 v] w fun e w'=>e = .returned (.int .i64 (Box.size v:Int))/\w=w':=by
 obtain ⟨m,hm,hmv⟩:=BM v h0 h1
 have HS:=hid (Box.zx v h0 h1 m hmv)
 have hm1:m<18446744073709551616:=by split at hmv <;> omega
 have hb:=(Box.bitLen_le (k:=64) hm1).2 hm1
 have HM:=hid hm
 clear hm hmv
 go_enter func253,ntmps253
 exact aaS
theorem mD (ov:Value) (p:Option Pl) (bs:List UInt8) (v:Int) (w:World) (hb:Out w ov p bs) (h0:-9223372036854775808<=v) (h1:v<=9223372036854775807) (hl:bs.length<=900000) :
  Calls prog 239 #[ov,.int .i64 v] w fun e w'=>∃ v',e = .returned v'/\aU w w' v' p (bs++bQ v):=by
 obtain ⟨i0,hi,hz0,hz1,hz2⟩:=info_parts Tryz.info5
 have hsz:=iR v
 have HS:=hid (AJ v w h0 h1)
 obtain ⟨s,hs⟩:=aq (Box.size v)
 have HB:Hid (bQ v=[2,UInt8.ofNat s]++Pure.be (mX v) s):=by
  show _=_;rw[bQ,Box.box,Box.lQ,Box.head,if_pos afp,hs,GQ _ _ afp]
 rw[hs] at HS hsz
 clear hs
 have hsrc:∀ (W:World) (x:Int),x=((UInt8.ofNat s).toNat:Int)->Src prog 1 37 (.slice (some ⟨W.heap.size,0,none⟩) 2 2) 2 ([2,UInt8.ofNat s].map U8) (W.alloc (.cells #[.int .u8 2,.int .u8 x] 5)):=by
  intro W x hx;refine rE (P:=prog) underlying37 _ 2 2 [2,UInt8.ofNat s] rfl ?_;exact fG _ _ _ _ (by rw[hx];rfl)
 have hsw:=Tf s afp
 have HW:=hid hsw
 have hss:((UInt8.ofNat s).toNat:Int)=(s:Int):=by rw[ec,du afp]
 have HZ:=hid hss
 clear hsw hss
 go_enter func239,ntmps239
 go_wp2_with (first
  | (go_at_call 253;refine HS.o.mono ?_;rintro e w' ⟨rfl,rfl⟩)
  | (at_builtin;refine dK _ rfl _ _ 37 37 rfl 5 i0 underlying37 hi hz0 hz1 hz2 _ _ p bs [2,UInt8.ofNat s] rfl rfl (hb.grown (aE w _ none)) 2 (hsrc _ _ (by first | exact HW.o | exact HZ.o.symm)) afz ?_;intro v1 w1 R1;obtain ⟨p1,o1,m1⟩:=R1.before (aE w _ none);have HA:=hid (ru v1 p1 _ v (mX v) s w1 o1 (nE _) afp afz);have HM:=hid (And.intro o1 m1);clear R1 o1 m1)
  | (go_at_call 152;refine HA.o.mono ?_;rintro e w2 ⟨v2,rfl,R2⟩))
 go_wp2
 go_ret
 exact ⟨_,rfl,by rw[HB.o,<-cR];exact aU.comp HM.o.2 R2 aft⟩
theorem mE (ov:Value) (p:Option Pl) (bs l:List UInt8) (w:World) (hb:Out w ov p bs) (hn:l.length<65536) (hl:bs.length<=800000) :
  Calls prog 240 #[ov,.string ⟨l.toArray⟩] w fun e w'=>∃ v',e = .returned v'/\aU w w' v' p (bs++dw l):=by
 obtain ⟨i0,hi,hz0,hz1,hz2⟩:=info_parts Tryz.info5
 have HA:=hid (uZ ov p bs 4 l.length w hb hn afp)
 have hh:(Box.head 4 l.length).length<=4:=by rw[Box.ou];split <;> (try split) <;> omega
 have HH:=hid hh
 clear hh
 have hsrc:∀ W:World,Src prog 1 9 (.string ⟨l.toArray⟩) l.length (l.map U8) W:=fun W=>Xm (P:=prog) underlying9 l
 go_enter func240,ntmps240
 go_wp2_with (first
  | (go_at_call 251;refine HA.o.mono ?_;rintro e w1 ⟨v1,rfl,R1⟩;obtain ⟨p1,o1,m1⟩:=R1;have HM:=hid (And.intro o1 m1);clear o1 m1)
  | (at_builtin;refine dK _ rfl _ _ 37 9 rfl 5 i0 underlying37 hi hz0 hz1 hz2 _ _ p1 _ l rfl rfl HM.o.1 _ (hsrc _) (by have:=HH.o;simp;omega) ?_;intro v2 w2 R2))
 go_wp2
 go_ret
 exact ⟨_,rfl,by rw[dw,Box.box,<-cR];exact aU.comp HM.o.2 R2 aft⟩
theorem nG (ov:Value) (p:Option Pl) (A B:List UInt8) (tag:UInt8) (i:Nat) (ii:Int) (w:World) (hv:Out w ov p (A++B)) (hi:Hid (A.length=i)) (hii:ii=i) (hn:B.length<65536) (hl:A.length<=700000) :
  Calls prog 230 #[ov,.int .i64 ii,.int .u8 (tag.toNat:Int)] w fun e w'=>∃ v',e = .returned v'/\aU w w' v' p (A++Box.box tag B):=by
 have hiA:=hi.o
 obtain ⟨n,hN⟩:=aq ((A++B).length)
 have hnn:n=i+B.length:=by rw[<-hN,<-hiA,bj]
 have HN:=hid hN
 clear hN
 obtain ⟨ao,cap,rfl,hcap,hcm,hat,_⟩:=hv.open HN
 have HV:=hid hv
 clear hv hat
 subst hii
 have hsub:((n:Int)-(i:Int))=(B.length:Int):=by omega
 have HSub:=hid hsub
 have TY:=hid hnn
 have hi7:i<=700000:=by omega
 have hn7:n<=800000:=by omega
 clear hsub hnn hiA
 have hhl:(Box.head tag B.length).length<=4/\0<(Box.head tag B.length).length:=by rw[Box.ou];split <;> (try split) <;> omega
 have HH:=hid hhl
 clear hhl
 obtain ⟨W,hW⟩:=ar (w.alloc (.cells #[.int .u8 0,.int .u8 0,.int .u8 0,.int .u8 0] 392))
 have hblk:W.heap[w.heap.size]?=some (.cells #[.int .u8 0,.int .u8 0,.int .u8 0,.int .u8 0] 392 (0,0)):=by rw[hW];exact heap_alloc_new w _
 have hG:w.grownBy W none:=by rw[hW];exact aE w _ none
 have hO:Out W (.slice (some ⟨w.heap.size,0,none⟩) 0 4) (some ⟨w.heap.size,0,4⟩) []:=
  .inr ⟨_,rfl,rfl,cE _,by show 4<=maxLen;unfold maxLen;omega,⟨_,_,hblk,bd _⟩,fun j u hu=>by simp at hu⟩
 have HA:=hid (uZ _ _ [] tag B.length W hO hn aft)
 have HG:=hid hG
 have HW:=hid hW
 clear hblk hO hG hW
 go_enter func230,ntmps230
 go_wp2_with fail
 rw[HSub.o,<-HW.o]
 refine HA.o.mono ?_
 rintro e w1 ⟨v1,rfl,p1,o1,m1,m2,m3⟩
 rw[List.nil_append] at o1 m3
 have hp1:=m3 _ rfl HH.o.1
 subst hp1
 obtain ⟨m,hm⟩:=aq ((Box.head tag B.length).length)
 have RR:Hid (v1 = .slice (some ⟨w.heap.size,0,none⟩) m 4/\Live w1 w.heap.size (0+m)/\w1.rangeAt w.heap.size 0 ((Box.head tag B.length).map U8)/\Out w1 (.slice ao n cap) p (A++B)/\w.grownBy w1 none/\∀ q,p=some q->w.heap.size≠q.g):=by
  have hgb:w.grownBy w1 none:=by
   refine ((CF.bN HG.o (fun _ _=>False)).trans m1 (fun b o hb e=>?_)).gb (fun _ _ _ e=>e);obtain ⟨q,hq,e1,_⟩:=e;injection hq with hq;subst hq;exact absurd hb (by rw[e1];exact fS _)
  rcases o1 with ⟨h,_⟩ | ⟨q,hq,hv2,k1,k2,k3,k4⟩
  ·cases h
  ·injection hq with hq;subst hq;refine ⟨by rw[hv2,hm],k3.mono (by show 0+m<=0+4;have:=HH.o;omega),k4,HV.o.grown hgb,hgb,fun q hq e=>?_⟩;have:=HV.o.Sa q hq;omega
 have HI:Hid (Calls prog 125 #[.slice ao n cap,.int .i64 (i:Int),.slice (some ⟨w.heap.size,0,none⟩) m 4] w1 fun e w'=>∃ v',e = .returned v'/\aU w1 w' v' p (A++Box.head tag B.length++B)):=
  BC (.slice ao n cap) p A B (Box.head tag B.length) i i w.heap.size 0 m 4 w1 RR.o.2.2.2.1 hi rfl hm (by have:=HH.o;omega) RR.o.2.1 RR.o.2.2.1 RR.o.2.2.2.2.2 (by have:=HH.o;have:=TY.o;have:=HN.o;have:=hi.o;omega)
 obtain ⟨rfl,_,_,_,(HGG:Hid _),_⟩:=RR.o
 clear  o1 m1 m2 m3 RR hm
 go_wp2_with (go_at_call 125;refine HI.o.mono ?_;rintro e w2 ⟨v2,rfl,R2⟩)
 go_wp2
 go_ret
 exact ⟨_,rfl,by rw[Box.box,<-cR];exact R2.before HGG.o⟩
def TZ (x:Int):Value:=.int .i64 x
def In64 (x:Int):Prop:=-9223372036854775808<=x/\x<=9223372036854775807
theorem GU {xs:List Int} {k:Nat} (h:k<xs.length):gP (xs.take (k+1))=gP (xs.take k)++bQ xs[k]:=by
 unfold gP;rw[ee h,cW,List.flatten_append];simp only[dj,eV,dk,List.flatten_nil,fg]
theorem wG (xs:List Int) (k:Nat):(gP (xs.take k)).length<=10*k:=by
 have:=kF (xs.take k);rw[cG] at this;omega
theorem rJ (tag:UInt8) (l:List UInt8):l.length<=(Box.box tag l).length:=by rw[Box.box,bj];omega
theorem lC (tag:UInt8) (l:List UInt8):(Box.box tag l).length<=l.length+4:=by rw[Box.box,bj,Box.ou];split <;> (try split) <;> omega
theorem mF (ov:Value) (p:Option Pl) (bs:List UInt8) (xs:List Int) (g m c:Nat) (w:World) (hb:Out w ov p bs) (hr:w.rangeAt g 0 (xs.map TZ)) (hne:∀ q,p=some q->g≠q.g) (hm:Hid (xs.length=m)) (hx:∀ x∈xs,In64 x) (hm4:m<=1000) (hl:bs.length<=800000) :
  Calls prog 229 #[ov,.slice (some ⟨g,0,none⟩) m c] w fun e w'=>∃ v',e = .returned v'/\aU w w' v' p (bs++gP xs):=by
 have HR:=hid hr
 have HX:=hid hx
 have HB:=hid hb
 have MN:=hid hne
 clear hr hx hb hne
 go_enter func229,ntmps229
 go_wp2
 go_loopw [0,9] (fun o i wr=>∃ k:Nat,k<=m/\i = .int .i64 k/\Hid (aU w wr o p (bs++gP (xs.take k)))) (fun _ i _=>m-(intOf i).toNat)
 case atStart=>exact ⟨0,cE _,rfl,by show aU _ _ _ _ _;simpa[gP] using aU.refl HB.o⟩
 case round=>
  obtain ⟨k,hk,rfl,hbr⟩:=hrel;by_cases hlt:k<m
  ·have hlt':k<xs.length:=(by rw[hm.o];exact hlt);obtain ⟨p1,o1,m1,m2,m3⟩:=hbr.o;obtain ⟨x,hxk⟩:=aq (xs[k]);have hcell:wr.cell? ⟨g,k,none⟩=some (.int .i64 x):=by
    have h0:=HR.o k (TZ x) (by simp[hlt',hxk]);rw[cC] at h0;refine m1.cell h0 ?_;rintro ⟨q,hq,e,_⟩;exact MN.o q hq e
   have hxb:=HX.o x (by rw[<-hxk];exact cJ hlt');have HA:=hid (oZ _ p1 _ x wr o1 hxb.1 hxb.2 (by have:=wG xs k;simp;omega));have HM:=hid (And.intro m1 (And.intro m2 m3));have HT:=hid (GU hlt');rw[hxk] at HT;clear hxk hxb o1 m1 m2 m3 hlt' hbr;go_wp2_with (go_at_call 250;refine HA.o.mono ?_;rintro e w2 ⟨v2,rfl,R2⟩)
   go_wp2;go_roundw
   case rel=>exact ⟨k+1,by omega,by go_num,by show aU _ _ _ _ _;rw[HT.o,<-cR];exact aU.comp HM.o R2 aft⟩
   case measure=>simp[intOf];omega
  ·have hks:k=m:=(by omega);subst hks;go_wp2;go_ret;exact ⟨_,rfl,by have:=hbr.o;rw[cV (by rw[hm.o];omega)] at this;exact this⟩
theorem wO (ov:Value) (p:Option Pl) (bs:List UInt8) (key:UInt64) (w:World) (hb:Out w ov p bs) (hl:bs.length<=600000) :
  Calls prog 254 #[ov,.int .u64 (key.toNat:Int)] w fun e w'=>∃ v',e = .returned v'/\aU w w' v' p (bs++mo key):=by
 obtain ⟨n,hN⟩:=aq bs.length
 have HN:=hid hN
 have HA:=hid (xW ov p bs key 8 w hb afp afp)
 obtain ⟨ao,cap,rfl,hcap,hcm,hat,_⟩:=hb.open HN
 have hn6:n<=600000:=by omega
 clear hb hat hN hl
 go_enter func254,ntmps254
 go_wp2_with (first
  | (go_at_call 126;refine HA.o.mono ?_;rintro e w1 ⟨v1,rfl,R1⟩;obtain ⟨p1,o1,m1⟩:=R1;have HM:=hid (And.intro o1 m1);have HW:=hid (nG v1 p1 bs (Pure.be key 8) 4 n n w1 o1 HN rfl (by rw[Pure.bX];omega) (by rw[HN.o];omega));clear o1 m1)
  | (go_at_call 230;refine HW.o.mono ?_;rintro e w2 ⟨v2,rfl,R2⟩))
 go_wp2
 go_ret
 refine ⟨_,rfl,?_⟩
 refine aU.comp HM.o.2 R2 ?_
 simp[mo,dw,Box.box]
theorem ve (ov:Value) (p:Option Pl) (A B:List UInt8) (key use draw:UInt64) (x ii:Int) (i:Nat) (w:World) (hb:Out w ov p (A++B)) (hi:Hid (A.length=i)) (hii:ii=i) (hu:Hid (x=use.toNat)) (Xn:use.toNat<9223372036854775808) (hB:B.length<=60000) (hl:A.length<=600000) :
  Calls prog 256 #[ov,.int .i64 ii,.int .u64 (key.toNat:Int),.int .i64 x,.int .u64 (draw.toNat:Int)] w fun e w'=>∃ v',e = .returned v'/\aU w w' v' p (A++dw (Pure.fq key use draw (Box.box 48 B))):=by
 subst hii
 have hbl:(Box.box 48 B).length<=B.length+4:=by rw[Box.box,bj,Box.ou];split <;> (try split) <;> omega
 have hsl:(Pure.fq key use draw (Box.box 48 B)).length=(Box.box 48 B).length+16:=Pure.dz _ _ _ _
 have H1:=hid (nG ov p A B 48 i i w hb hi rfl afp afp)
 have HL:=hid (And.intro hbl hsl)
 have HLA:=hid (And.intro hB hl)
 clear hb hbl hsl hB hl
 go_enter func256,ntmps256
 go_wp2_with (first
  | (go_at_call 230;refine H1.o.mono ?_;clear H1;rintro e w1 ⟨v1,rfl,R1⟩;obtain ⟨p1,o1,m1⟩:=R1;have HM:=hid (And.intro o1 m1);have H2:=hid (SC key use draw x v1 p1 A (Box.box 48 B) i i w1 o1 hi rfl hu Xn (by have:=HL.o;have:=HLA.o;rw[bj];omega));clear o1 m1)
  | (go_at_call 83;refine H2.o.mono ?_;rintro e w2 ⟨v2,rfl,R2⟩;obtain ⟨p2,o2,m2⟩:=R2;have HM2:=hid (And.intro o2 m2);have H3:=hid (nG v2 p2 A (Pure.fq key use draw (Box.box 48 B)) 4 i i w2 o2 hi rfl (by have:=HL.o;have:=HLA.o;omega) (by have:=HLA.o;omega));clear o2 m2)
  | (go_at_call 230;refine H3.o.mono ?_;rintro e w3 ⟨v3,rfl,R3⟩))
 go_wp2
 go_ret
 refine ⟨_,rfl,?_⟩
 refine aU.comp HM.o.2 (aU.comp HM2.o.2 R3 ?_) ?_
 ·have:=rJ 4 (Pure.fq key use draw (Box.box 48 B));rw[bj,bj];exact Nat.add_le_add_left this _
 ·have h1:=rJ 4 (Pure.fq key use draw (Box.box 48 B));have h2:=HL.o;rw[bj,bj];refine Nat.add_le_add_left (br ?_ h1) _;omega
theorem yE (ov:Value) (p:Option Pl) (bs:List UInt8) (now code:Int) (w:World) (hb:Out w ov p bs) (dm:In64 now) (hcode:In64 code) (hl:bs.length<=600000) :
  Calls prog 190 #[ov,.int .i64 now,.int .i64 code] w fun e w'=>∃ v',e = .returned v'/\aU w w' v' p (bs++bu now code):=by
 obtain ⟨n,hN⟩:=aq bs.length
 have HN:=hid hN
 obtain ⟨ao,cap,rfl,hcap,hcm,hat,_⟩:=hb.open HN
 have hn6:n<=600000:=by omega
 obtain ⟨W,hW⟩:=ar (w.alloc (.cells #[.int .i64 30,.int .i64 now,.int .i64 code] 2))
 have hG:w.grownBy W none:=by rw[hW];exact aE w _ none
 have hr:W.rangeAt w.heap.size 0 ([30,now,code].map TZ):=by rw[hW];exact aW w _ _
 have hne:∀ q,p=some q->w.heap.size≠q.g:=fun q hq e=>by have:=hb.Sa q hq;omega
 have HA:=hid (mF _ p bs [30,now,code] w.heap.size 3 3 W (hb.grown hG) hr hne (hid rfl) (by intro x hx;simp at hx;rcases hx with rfl | rfl | rfl <;> first | assumption|(constructor <;> decide)) afp afp)
 have HG:=hid hG
 have HW:=hid hW
 have ad9:gP [30,now,code]=bQ 30++(bQ now++bQ code):=by simp[gP]
 have hcl:=kF [30,now,code]
 simp only[cN,List.length_nil] at hcl
 have HC:=hid (And.intro ad9 hcl)
 clear hb hat hN hl hG hr hne hW dm hcode ad9 hcl
 go_enter func190,ntmps190
 go_wp2_with (first
  | (go_at_call 229;rw[<-HW.o];refine HA.o.mono ?_;rintro e w1 ⟨v1,rfl,R1⟩;obtain ⟨p1,o1,m1⟩:=R1;have HM:=hid (And.intro o1 m1);have HB:=hid (nG v1 p1 bs _ 48 n n w1 o1 HN rfl (by have:=HC.o.2;omega) (by rw[HN.o];omega));clear o1 m1)
  | (go_at_call 230;refine HB.o.mono ?_;rintro e w2 ⟨v2,rfl,R2⟩))
 go_wp2
 go_ret
 refine ⟨_,rfl,?_⟩
 have R3:=(aU.comp HM.o.2 R2 (by have:=rJ 48 (gP [30,now,code]);rw[bj,bj];omega)).before HG.o
 rw[HC.o.1] at R3
 simpa[bu,jm] using R3
end Go.Proofs.YteknelimjfgmaaaGreatDoor
