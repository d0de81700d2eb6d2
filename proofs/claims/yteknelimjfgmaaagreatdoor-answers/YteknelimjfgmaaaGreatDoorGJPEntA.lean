import Derived.Test.YteknelimjfgmaaaGreatDoorGJPPrfA
namespace Go.Proofs.YteknelimjfgmaaaGreatDoor
set_option maxHeartbeats 400000
open Proofs.Tryz Go.RowKit
set_option maxRecDepth 100000
theorem fK {a b:Bool} (h:a=b):Ending.returned (.bool a) = .returned (.bool b):=by rw[h]
theorem Cu (b o:Nat) (e:BE) (now:Int) (w:World) (h:w.cell? ⟨b,o+2,none⟩=some (.int .i64 e.bC)) :
  Calls prog 209 #[.pointer (some ⟨b,o,none⟩),.int .i64 now] w fun r w'=>r = .returned (.bool (e.gone now))/\w'=w:=by
 unfold BE.gone
 obtain ⟨x,hx⟩:=aq e.bC
 rw[hx] at h
 rw[hx]
 clear hx
 by_cases h0:x=0
 ·subst h0;go_enter func209,ntmps209;go_wp2;go_ret;exact ⟨fK aft,rfl⟩
 ·go_enter func209,ntmps209;go_wp2;go_ret;exact ⟨fK (by simp[h0]),rfl⟩
theorem Qx (b o:Nat) (e:BE) (n:Int) (w:World) (h1:w.cell? ⟨b,o+1,none⟩=some (.int .i64 e.aH)) (h2:w.cell? ⟨b,o+2,none⟩=some (.int .u64 (e.key.toNat:Int))) (h3:w.cell? ⟨b,o+3,none⟩=some (.int .u64 (e.before.toNat:Int))) (hn0:1<=e.aH) (hn1:e.aH<=9223372036854775807) :
  Calls prog 219 #[.pointer (some ⟨b,o,none⟩),.int .i64 n] w fun r w'=>r = .returned (.tuple #[.int .u64 (((e.keyOf n).getD 0).toNat:Int),.bool (e.keyOf n).isSome])/\w'=w:=by
 unfold BE.keyOf
 obtain ⟨x,hx⟩:=aq e.aH
 rw[hx] at h1 hn0 hn1
 rw[hx]
 clear hx
 by_cases c0:n=x
 ·subst c0;rw[if_pos rfl];go_enter func219,ntmps219;go_wp2;exact acP
 ·rw[if_neg c0];by_cases c1:n=x-1
  ·subst c1;by_cases c2:1<x
   ·rw[if_pos ⟨rfl,c2⟩];have c3:0<x-1:=(by omega);go_enter func219,ntmps219;go_wp2;exact acP
   ·rw[if_neg (fun q=>c2 q.2)];have c3:¬ 0<x-1:=(by omega);go_enter func219,ntmps219;go_wp2;exact acP
  ·rw[if_neg (fun q=>c1 q.1)];go_enter func219,ntmps219;go_wp2;exact acP
theorem X5 (n:Int) (k:Nat) (hk:k<63):bits .and .i64 n (2 ^ k)=if aG n (2 ^ k)=true then 2 ^ k else 0:=by
 have hp:(2:Int) ^ k<2 ^ 63:=by
  have h:=Nat.pow_lt_pow_right (a:=2) afq hk;exact_mod_cast h
 have hp0:(0:Int)<2 ^ k:=by
  have h:=Nat.pow_pos (n:=k) (show 0<2 by decide);exact_mod_cast h
 have hv:BitVec.ofInt 64 (2 ^ k)=BitVec.twoPow 64 k:=by
  apply BitVec.eq_of_toNat_eq;rw[vV,BitVec.toNat_twoPow];have:((2:Int) ^ k % 18446744073709551616)=2 ^ k:=Int.emod_eq_of_lt afp afp;rw[this];have h2:((2:Int) ^ k).toNat=2 ^ k:=by
   have:(2:Int) ^ k=((2 ^ k:Nat):Int):=by simp
   rw[this,Int.toNat_natCast]
  rw[h2,du (Nat.pow_lt_pow_right afq afp)]
 rw[GH,hv,BitVec.and_twoPow,jJ n k afp];split
 ·rw[<-hv,BitVec.toInt_ofInt];exact Int.bmod_eq_of_le afp afp
 ·rfl
theorem ql (n f:Int) (k:Nat) (hf:f=2 ^ k) (hk:k<63):(bits .and .i64 n f==f)=aG n f:=by
 subst hf;have hp0:(0:Int)<2 ^ k:=by
  have h:=Nat.pow_pos (n:=k) (show 0<2 by decide);exact_mod_cast h
 rw[X5 n k hk];cases aG n (2 ^ k) with
 | true=>rw[if_pos rfl];exact beq_self_eq_true _
 | false=>rw[if_neg afq];rw[cg];omega
theorem yL (b o:Nat) (e:BE) (f:Int) (k:Nat) (w:World) (hf:f=2 ^ k) (hk:k<63) (h:w.cell? ⟨b,o+3,none⟩=some (.int .i64 e.ay)) :
  Calls prog 210 #[.pointer (some ⟨b,o,none⟩),.int .i64 f] w fun r w'=>r = .returned (.bool (e.has f))/\w'=w:=by
 have HE:=hid (ql e.ay f k hf hk)
 clear hf hk
 go_enter func210,ntmps210
 go_wp2
 go_ret
 exact ⟨fK HE.o,rfl⟩
theorem abr {p:Prop} (h:p:=by
 clear h1 h2 h3
 go_enter func214,ntmps214
 go_wp2_with (first
  | (go_at_call 223;refine HA.o.mono ?_;clear HA;rintro e w1 ⟨rfl,rfl⟩)
  | (go_at_call 223;refine HB.o.mono ?_;clear HB;rintro e w1 ⟨rfl,rfl⟩))
 all_goals
  go_ret
  refine ⟨bE ?_,rfl⟩
  unfold lesser asked
  (repeat' split at *) <;> omega):p:=h
theorem G7 (start wish one other:Int) (w:World) (h1:In64 start) (h2:In64 one) (h3:In64 other) :
  Calls prog 214 #[.int .i64 start,.int .i64 wish,.int .i64 one,.int .i64 other] w fun r w'=>r = .returned (.int .i64 (lesser (asked wish) (lesser (aX start one) (aX start other))))/\w'=w:=by
 have HA:=hid (Bf start one w h1.1 h1.2 h2.1 h2.2)
 have HB:=hid (Bf start other w h1.1 h1.2 h3.1 h3.2)
 generalize aX start one=a at *
 generalize aX start other=b at *
 by_cases h0:wish=0
 ·subst h0;exact abr
 ·have h0b:(wish==0)=false:=by rw[cg];exact h0
  exact abr
structure fB (w:World) (b:Nat) (x s:BE):Prop where
 ax:w.rangeAt b 0 x.bG
 aV:w.rangeAt b 8 s.bG
theorem fB.c {w:World} {b:Nat} {x s:BE} (h:fB w b x s) (k:Nat) (v:Value) (hv:x.bG[k]?=some v):w.cell? ⟨b,k,none⟩=some v:=by
 have:=h.ax k v hv;rwa [cC] at this
theorem fB.s {w:World} {b:Nat} {x s:BE} (h:fB w b x s) (k:Nat) (v:Value) (hv:s.bG[k]?=some v):w.cell? ⟨b,8+k,none⟩=some v:=h.aV k v hv
theorem abV {p:Prop} (h:p:=by
 rw[hx] at HA
 clear hx
 go_enter func213,ntmps213
 go_wp2_with (first
  | (go_at_call 210;refine HA.o.mono ?_;clear HA;rintro e w1 ⟨rfl,rfl⟩)
  | (go_at_call 210;refine HB.o.mono ?_;clear HB;rintro e w1 ⟨rfl,rfl⟩))
 go_wp2
 go_ret
 exact ⟨fK aft,rfl⟩):p:=h
theorem pJ (b:Nat) (x s:BE) (f:Int) (k:Nat) (w:World) (hf:f=2 ^ k) (hk:k<63) (h:fB w b x s) :
  Calls prog 213 #[.pointer (some ⟨b,0,none⟩),.int .i64 f] w fun r w'=>r = .returned (.bool (x.has f && s.has f))/\w'=w:=by
 have HA:=hid (yL b 4 x f k w hf hk (h.c 7 _ rfl))
 have HB:=hid (yL b 12 s f k w hf hk (h.s 7 _ rfl))
 clear h hf hk
 cases hx:x.has f with
 | true=>
  exact abV
 | false=>
  exact abV
theorem Cv (start wish one other:Int) (w:World) (nq:Nat) (h1:In64 start) (h2:In64 one) (h3:In64 other) :
  Calls prog 214 #[.int .i64 start,.int .i64 wish,.int .i64 one,.int .i64 other] (w.drewN nq) fun r w'=>r = .returned (.int .i64 (lesser (asked wish) (lesser (aX start one) (aX start other))))/\∃ m,w'=w.drewN m:=
 (G7 start wish one other _ h1 h2 h3).mono fun _ _ ⟨h1,h2⟩=>⟨h1,nq,h2⟩
theorem JR (b:Nat) (x s:BE) (start dJ:Int) (w:World) (h:fB w b x s) (h1:In64 start) (h2:In64 x.bI) (h3:In64 s.bI) :
  Calls prog 178 #[.pointer (some ⟨b,0,none⟩),.int .i64 start,.int .i64 dJ] w fun r w'=>r = .returned (.int .i64 (lesser (asked dJ) (lesser (aX start x.bI) (aX start s.bI))))/\∃ m,w'=w.drewN m:=by
 have HA:=hid (fun nq=>Cv start dJ x.bI s.bI w nq h1 h2 h3)
 have c0:w.cell? ⟨b,4,none⟩=some (.int .i64 x.bI):=h.c 4 _ rfl
 have c1:w.cell? ⟨b,12,none⟩=some (.int .i64 s.bI):=h.s 4 _ rfl
 clear h h1 h2 h3
 generalize lesser (asked dJ) (lesser (aX start x.bI) (aX start s.bI))=a at *
 go_enter func178,ntmps178
 go_wp2_with fail
 go_quiet (first|(go_at_call 214;exact HA.o _))
 exact acY
theorem Cw (b:Nat) (x s:BE) (start dJ:Int) (w:World) (h:fB w b x s) (h1:In64 start) (h2:In64 x.aD) (h3:In64 s.aD) :
  Calls prog 181 #[.pointer (some ⟨b,0,none⟩),.int .i64 start,.int .i64 dJ] w fun r w'=>r = .returned (.int .i64 (lesser (asked dJ) (lesser (aX start x.aD) (aX start s.aD))))/\∃ m,w'=w.drewN m:=by
 have HA:=hid (fun nq=>Cv start dJ x.aD s.aD w nq h1 h2 h3)
 have c0:w.cell? ⟨b,5,none⟩=some (.int .i64 x.aD):=h.c 5 _ rfl
 have c1:w.cell? ⟨b,13,none⟩=some (.int .i64 s.aD):=h.s 5 _ rfl
 clear h h1 h2 h3
 generalize lesser (asked dJ) (lesser (aX start x.aD) (aX start s.aD))=a at *
 go_enter func181,ntmps181
 go_wp2_with fail
 go_quiet (first|(go_at_call 214;exact HA.o _))
 exact acY
theorem rM {fn:Func} {a:Tmp} {ty:TypeId} (h:fn.results=#[.cell a ty]) (tmps:Array Value) (P:Program) (w:World) (b:Nat) (hp:tmps.getD a undef = .pointer (some ⟨b,0,none⟩)) (x:Value) (hl:(loadVar ty ⟨b,0,none⟩).run P w = .ok x w) :
  (results fn tmps).run P w = .ok x w:=by
 have hp':tmps[a]?.getD undef = .pointer (some ⟨b,0,none⟩):=by simpa using hp
 exact ac1
theorem Tryz.X6:(prog.info? 335).map (·.size)=some 2:=by kernel_rfl
theorem rO (b o:Nat) (e:BE) (w:World) (h1:w.cell? ⟨b,o+1,none⟩=some (.int .i64 e.aH)) (h2:w.cell? ⟨b,o+2,none⟩=some (.int .u64 (e.key.toNat:Int))) :
  Calls prog 179 #[.pointer (some ⟨b,o,none⟩)] w fun r w'=>r = .returned (.agg #[.int .i64 e.aH,.int .u64 (e.key.toNat:Int)])/\w.grownBy w' none:=by
 have G0:=aE w (.cells #[.int .i64 0,.int .u64 0] 335) none
 have a1:=G0.cell h1 aft
 have a2:=G0.cell h2 aft
 clear G0
 go_enter func179,ntmps179
 go_wp2_with fail
 go_region
 all_goals
  go_wp2
  exact bodyPost_ret (rM results179 _ _ _ w.heap.size rfl _ ((dX.new w #[.int .i64 e.aH,.int .u64 (e.key.toNat:Int)] 335).drew.load 335 _ underlying335 rfl Tryz.X6)) rfl ⟨rfl,bD (aE w _ none)⟩
def Af (way:Int):Int:=if way=16 then 4 else if way=32 then 16 else if way=64 then 1 else if way=128 then 2 else 0
theorem fQ (way:Int) (w:World) :
  Calls prog 225 #[.int .i64 way] w fun r w'=>r = .returned (.int .i64 (Af way))/\w'=w:=by
 by_cases h1:way=16
 ·subst h1;go_enter func225,ntmps225;exact aaG
 by_cases h2:way=32
 ·subst h2;go_enter func225,ntmps225;exact aaG
 by_cases h3:way=64
 ·subst h3;go_enter func225,ntmps225;exact aaG
 by_cases h4:way=128
 ·subst h4;go_enter func225,ntmps225;exact aaG
 have e:Af way=0:=by unfold Af;rw[if_neg h1,if_neg h2,if_neg h3,if_neg h4]
 rw[e];clear e;go_enter func225,ntmps225;exact aaG
set_option maxHeartbeats 1000000
def jf (n:Int) (x s:BE):Int:=(if (aG n 1 && (x.has 4 && s.has 4))=true then 1 else 0)+(if (aG n 2 && (x.has 8 && s.has 8))=true then 2 else 0)+(if (aG n 4 && (x.has 2 && s.has 2))=true then 4 else 0)
def iD (n:Int) (x s:BE) (k:Nat):Int:=(if (aG n 1 && (x.has 4 && s.has 4))=true then (if 0<k then 1 else 0) else 0)+(if (aG n 2 && (x.has 8 && s.has 8))=true then (if 1<k then 2 else 0) else 0)+(if (aG n 4 && (x.has 2 && s.has 2))=true then (if 2<k then 4 else 0) else 0)
theorem fB.grown {w w':World} {b:Nat} {x s:BE} (h:fB w b x s) (k:w.grownBy w' none):fB w' b x s:=
 ⟨fun i v hv=>k.cell (h.ax i v hv) aft,fun i v hv=>k.cell (h.aV i v hv) aft⟩
theorem abe {p:Prop} (h:p:=by
 unfold iD
 generalize (aG n 1 && (x.has 4 && s.has 4))=b1
 generalize (aG n 2 && (x.has 8 && s.has 8))=b2
 generalize (aG n 4 && (x.has 2 && s.has 2))=b3
 revert b1 b2 b3
 decide):p:=h
theorem X8 (n:Int) (x s:BE):((aG n 1 && (x.has 4 && s.has 4))=false->iD n x s 1=iD n x s 0)/\((aG n 1 && (x.has 4 && s.has 4))=true->iD n x s 1=bits .or .i64 (iD n x s 0) 1):=by
 exact abe
theorem X9 (n:Int) (x s:BE):((aG n 2 && (x.has 8 && s.has 8))=false->iD n x s 2=iD n x s 1)/\((aG n 2 && (x.has 8 && s.has 8))=true->iD n x s 2=bits .or .i64 (iD n x s 1) 2):=by
 exact abe
theorem Ya (n:Int) (x s:BE):((aG n 4 && (x.has 2 && s.has 2))=false->iD n x s 3=iD n x s 2)/\((aG n 4 && (x.has 2 && s.has 2))=true->iD n x s 3=bits .or .i64 (iD n x s 2) 4):=by
 exact abe
theorem Yb (n:Int) (x s:BE):iD n x s 3=jf n x s:=rfl
theorem ac8 {p:Prop} (h:p:=by
 go_roundw
 case rel=>exact ⟨3,by omega,rfl,by rw[HE.o,HV.o.1 rfl],aa hG.o (aE _ _ none)⟩
 case measure=>simp[intOf]):p:=h
theorem ac9 {p:Prop} (h:p:=by
 go_roundw
 case rel=>exact ⟨2,by omega,rfl,by rw[HE.o,HV.o.1 rfl],aa hG.o (aE _ _ none)⟩
 case measure=>simp[intOf]):p:=h
theorem ada {p:Prop} (h:p:=by
 go_roundw
 case rel=>exact ⟨1,by omega,rfl,by rw[HE.o,HV.o.1 rfl],aa hG.o (aE _ _ none)⟩
 case measure=>simp[intOf]):p:=h
theorem Ah (b:Nat) (x s:BE) (n:Int) (w:World) (h:fB w b x s) :
  Calls prog 215 #[.pointer (some ⟨b,0,none⟩),.int .i64 n] w fun r w'=>r = .returned (.int .i64 (jf n x s))/\w.grownBy w' none:=by
 have HP:=hid h
 clear h
 have sz0:∀ w,(Instr.index 384 (.agg #[.int .i64 1,.int .i64 4,.int .i64 2,.int .i64 8,.int .i64 4,.int .i64 2]) (.int .i64 0)).run prog w = .ok (.agg #[.int .i64 1,.int .i64 4]) w:=fun _=>by kernel_rfl
 have sz1:∀ w,(Instr.index 384 (.agg #[.int .i64 1,.int .i64 4,.int .i64 2,.int .i64 8,.int .i64 4,.int .i64 2]) (.int .i64 1)).run prog w = .ok (.agg #[.int .i64 2,.int .i64 8]) w:=fun _=>by kernel_rfl
 have sz2:∀ w,(Instr.index 384 (.agg #[.int .i64 1,.int .i64 4,.int .i64 2,.int .i64 8,.int .i64 4,.int .i64 2]) (.int .i64 2)).run prog w = .ok (.agg #[.int .i64 4,.int .i64 2]) w:=fun _=>by kernel_rfl
 go_enter func215,ntmps215
 go_wp2_with fail
 go_loopw [4,11] (fun a i wr=>∃ k:Nat,k<=3/\i = .int .i64 k/\a = .int .i64 (iD n x s k)/\Hid (w.grownBy wr none)) (fun _ i _=>3-(intOf i).toNat)
 case atStart=>exact ⟨0,by omega,rfl,by unfold iD;simp,bh _ _⟩
 case round=>
  obtain ⟨k,hk,rfl,rfl,hG⟩:=hrel;by_cases h0:k=0
  ·subst h0;have HB:=hid (fun W (hW:w.grownBy W none)=>pJ b x s 4 2 W afq afq (HP.o.grown hW));have HV:=hid (X8 n x s);have hq:=jQ n 1 0 afq afq;generalize aG n 1=b1 at *;generalize (x.has 4 && s.has 4)=b2 at *;obtain ⟨a1,h1⟩:=aq (iD n x s 1);rw[h1] at HV;have HE:=hid h1;clear h1;generalize iD n x s 0=a0 at *;cases b1 with
   | false=>
    rw[en] at hq;have hp:=cL.1 hq;clear hq;go_wp2_with fail;exact ada
   | true=>
    rw[eE] at hq;have hp:=cg.1 hq;clear hq;cases b2 with
    | false=>
     go_wp2_with (first|(go_at_call 213;refine (HB.o _ (aa hG.o (aE _ _ none))).mono ?_;clear HB;rintro e w1 ⟨rfl,rfl⟩))
     exact ada
    | true=>
     go_wp2_with (first|(go_at_call 213;refine (HB.o _ (aa hG.o (aE _ _ none))).mono ?_;clear HB;rintro e w1 ⟨rfl,rfl⟩))
     go_roundw
     case rel=>exact ⟨1,by omega,rfl,by rw[HE.o,HV.o.2 rfl],aa hG.o (aE _ _ none)⟩
     case measure=>simp[intOf]
  by_cases h1:k=1
  ·subst h1;have HB:=hid (fun W (hW:w.grownBy W none)=>pJ b x s 8 3 W afq afq (HP.o.grown hW));have HV:=hid (X9 n x s);have hq:=jQ n 2 1 afq afq;generalize aG n 2=b1 at *;generalize (x.has 8 && s.has 8)=b2 at *;obtain ⟨a1,h1⟩:=aq (iD n x s 2);rw[h1] at HV;have HE:=hid h1;clear h1;generalize iD n x s 1=a0 at *;cases b1 with
   | false=>
    rw[en] at hq;have hp:=cL.1 hq;clear hq;go_wp2_with fail;exact ac9
   | true=>
    rw[eE] at hq;have hp:=cg.1 hq;clear hq;cases b2 with
    | false=>
     go_wp2_with (first|(go_at_call 213;refine (HB.o _ (aa hG.o (aE _ _ none))).mono ?_;clear HB;rintro e w1 ⟨rfl,rfl⟩))
     exact ac9
    | true=>
     go_wp2_with (first|(go_at_call 213;refine (HB.o _ (aa hG.o (aE _ _ none))).mono ?_;clear HB;rintro e w1 ⟨rfl,rfl⟩))
     go_roundw
     case rel=>exact ⟨2,by omega,rfl,by rw[HE.o,HV.o.2 rfl],aa hG.o (aE _ _ none)⟩
     case measure=>simp[intOf]
  by_cases h2:k=2
  ·subst h2;have HB:=hid (fun W (hW:w.grownBy W none)=>pJ b x s 2 1 W afq afq (HP.o.grown hW));have HV:=hid (Ya n x s);have hq:=jQ n 4 2 afq afq;generalize aG n 4=b1 at *;generalize (x.has 2 && s.has 2)=b2 at *;obtain ⟨a1,h1⟩:=aq (iD n x s 3);rw[h1] at HV;have HE:=hid h1;clear h1;generalize iD n x s 2=a0 at *;cases b1 with
   | false=>
    rw[en] at hq;have hp:=cL.1 hq;clear hq;go_wp2_with fail;exact ac8
   | true=>
    rw[eE] at hq;have hp:=cg.1 hq;clear hq;cases b2 with
    | false=>
     go_wp2_with (first|(go_at_call 213;refine (HB.o _ (aa hG.o (aE _ _ none))).mono ?_;clear HB;rintro e w1 ⟨rfl,rfl⟩))
     exact ac8
    | true=>
     go_wp2_with (first|(go_at_call 213;refine (HB.o _ (aa hG.o (aE _ _ none))).mono ?_;clear HB;rintro e w1 ⟨rfl,rfl⟩))
     go_roundw
     case rel=>exact ⟨3,by omega,rfl,by rw[HE.o,HV.o.2 rfl],aa hG.o (aE _ _ none)⟩
     case measure=>simp[intOf]
  have h3:k=3:=by omega
  subst h3;have HV:=hid (Yb n x s);go_wp2_with fail;go_ret;exact ⟨by rw[HV.o];rfl,hG.o⟩
set_option maxHeartbeats 2000000
theorem lG (a b:Int) (w:World) (ha:In64 a) (hb:In64 b) :
  Calls prog 105 #[.int .i64 a,.int .i64 b] w fun e w'=>e = .returned (.int .i64 (aX a b))/\w'=w:=by
 obtain ⟨ha0,ha1⟩:=ha
 obtain ⟨hb0,hb1⟩:=hb
 by_cases ho:a+b < -9223372036854775808
 ·have n0:a<0:=by omega
  have n1:¬ 0<a:=by omega
  have n2:b<0:=by omega
  have hw:wrap64 (a+b)=a+b+18446744073709551616:=by unfold wrap64;omega
  have h2:0<=a+b+18446744073709551616:=by omega
  have HR:Hid (aX a b=-9223372036854775808):=by show _=_;unfold aX sat;rw[if_pos ho]
  clear ho;go_enter func105,ntmps105;go_wp2;exact aaq
 ·by_cases hp:9223372036854775807<a+b
  ·have n0:0<a:=(by omega);have n2:0<b:=(by omega);have hw:wrap64 (a+b)=a+b-18446744073709551616:=(by unfold wrap64;omega);have h2:a+b-18446744073709551616<0:=(by omega);have HR:Hid (aX a b=9223372036854775807):=(by show _=_;unfold aX sat;rw[if_neg ho,if_pos hp]);clear ho hp;go_enter func105,ntmps105;go_wp2;exact aaq
  ·obtain ⟨(HR:Hid _),hw⟩:=Fv (a:=a) (b:=b) afp afp;clear  ho hp;by_cases n0:0<a
   ·have n1:¬ a<0:=(by omega);by_cases m0:0<b
    ·have m1:¬ a+b<0:=(by omega);go_enter func105,ntmps105;go_wp2;exact aaq
    ·go_enter func105,ntmps105;go_wp2;exact aaq
   ·by_cases n1:a<0
    ·by_cases m0:b<0
     ·have m1:¬ 0<=a+b:=(by omega);go_enter func105,ntmps105;go_wp2;exact aaq
     ·go_enter func105,ntmps105;go_wp2;exact aaq
    ·go_enter func105,ntmps105;go_wp2;exact aaq
theorem NN (a b:Int):aX a (-b)=fO a b:=by
 unfold aX fO;rw[show a + -b=a-b from by omega]
theorem zO (a b:Int) (w:World) (ha:In64 a) (hb:In64 b) :
  Calls prog 149 #[.int .i64 a,.int .i64 b] w fun e w'=>e = .returned (.int .i64 (fO a b))/\w'=w:=by
 by_cases h:b=-9223372036854775808
 ·subst h;obtain ⟨ha0,ha1⟩:=ha;clear hb;by_cases h0:0<=a
  ·have HR:Hid (fO a (-9223372036854775808)=9223372036854775807):=(by show _=_;unfold fO sat;rw[if_neg afp,if_pos afp]);go_enter func149,ntmps149;go_wp2;exact aaq
  ·obtain ⟨(HR:Hid _),hw⟩:=Fw (a:=a) (b:=-9223372036854775808) afp afp;go_enter func149,ntmps149;go_wp2;go_ret;exact ⟨bE (by rw[HR.o];omega),rfl⟩
 ·have hnb:In64 (-b):=by unfold In64 at *;omega
  have hw:wrap64 (-b)=-b:=by unfold In64 at hb;unfold wrap64;omega
  have HA:=hid (lG a (-b) w ha hnb);rw[NN] at HA;clear ha hb hnb;go_enter func149,ntmps149;go_wp2_with (go_at_call 105;refine HA.o.mono ?_;rintro e w' ⟨rfl,rfl⟩)
  go_ret;exact ⟨rfl,rfl⟩
theorem xI (a b:Int) (w:World) (ha:In64 a) (hb:In64 b) :
  Calls prog 145 #[.int .i64 a,.int .i64 b] w fun e w'=>e = .returned (.int .i64 (dM a b))/\w'=w:=by
 by_cases h:a<b
 ·have HR:Hid (dM a b=fO b a):=by show _=_;unfold dM;rw[if_pos h]
  have hn:¬ b<=a:=by omega
  go_enter func145,ntmps145;go_wp2_with (go_at_call 149;refine (zO b a _ hb ha).mono ?_;rintro e w' ⟨rfl,rfl⟩)
  exact aaq
 ·have HR:Hid (dM a b=fO a b):=by show _=_;unfold dM;rw[if_neg h]
  have hn:b<=a:=by omega
  go_enter func145,ntmps145;go_wp2_with (go_at_call 149;refine (zO a b _ ha hb).mono ?_;rintro e w' ⟨rfl,rfl⟩)
  exact aaq
theorem jM (a b:Int) (w:World) :
  Calls prog 106 #[.int .i64 a,.int .i64 b] w fun e w'=>e = .returned (.int .i64 (lesser a b))/\w'=w:=by
 by_cases h:a<b
 ·have HR:Hid (lesser a b=a):=by show _=_;unfold lesser;rw[if_pos h]
  go_enter func106,ntmps106;go_wp2;exact aaq
 ·have HR:Hid (lesser a b=b):=by show _=_;unfold lesser;rw[if_neg h]
  go_enter func106,ntmps106;go_wp2;exact aaq
theorem uj (a:Int) (w:World) :
  Calls prog 107 #[.int .i64 a] w fun e w'=>e = .returned (.int .i64 (asked a))/\w'=w:=by
 by_cases h:a=0
 ·subst h;go_enter func107,ntmps107;exact aaG
 ·have HR:Hid (asked a=a):=by show _=_;unfold asked;rw[if_neg h]
  go_enter func107,ntmps107;go_wp2;exact aaq
theorem eQ (n f:Int) (k:Nat) (w:World) (hf:f=2 ^ k) (hk:k<63) :
  Calls prog 104 #[.int .i64 n,.int .i64 f] w fun e w'=>e = .returned (.bool (aG n f))/\w'=w:=by
 have HR:=hid (jQ n f k hf hk)
 clear hf
 go_enter func104,ntmps104
 go_wp2
 go_ret
 exact ⟨fK (by rw[bne,HR.o,Bool.not_not]),rfl⟩
set_option maxHeartbeats 8000000
variable {p:Prop}
def aci (o:Int) (b3 b4 b5 b6 b7 f0 f1 f2 f4:Bool):Bool:=
 if o<0\/255<o\/b3=true then false
 else if 1<((if b4=true then 1 else 0)+(if b5=true then 1 else 0)+(if b6=true then 1 else 0)+(if b7=true then 1 else 0):Int)\/b5=true/\o≠32 then false
 else if b4=true/\f2=false\/b6=true/\f0=false\/b7=true/\f1=false then false
 else !b5 || f4
theorem Y7 (o f:Int):jI o f=aci o (aG o 8) (aG o 16) (aG o 32) (aG o 64) (aG o 128) (aG f 1) (aG f 2) (aG f 4) (aG f 16):=rfl
def jB (b4 b5 b6 b7:Bool) (k:Nat):Int:=(if b4=true then (if 0<k then 1 else 0) else 0)+(if b5=true then (if 1<k then 1 else 0) else 0)+(if b6=true then (if 2<k then 1 else 0) else 0)+(if b7=true then (if 3<k then 1 else 0) else 0)
theorem wC (b4 b5 b6 b7:Bool) (k:Nat):wrap64 (jB b4 b5 b6 b7 k+1)=jB b4 b5 b6 b7 k+1:=by
 have h:0<=jB b4 b5 b6 b7 k/\jB b4 b5 b6 b7 k<=4:=by
  unfold jB;constructor <;> (repeat' split) <;> omega
 unfold wrap64;omega
theorem acj (h:p:=by
  go_wp2_with (go_at_call 104;(first|(with_reducible refine Calls.mono (Sv.o _) ?_)|(with_reducible refine Calls.mono (VK.o _) ?_)|(with_reducible refine Calls.mono (Z8.o _) ?_)|(with_reducible refine Calls.mono (Le.o _) ?_)|(with_reducible refine Calls.mono (F1.o _) ?_)|(with_reducible refine Calls.mono (F2.o _) ?_)|(with_reducible refine Calls.mono (F4.o _) ?_)|(with_reducible refine Calls.mono (F16.o _) ?_));rintro e w' ⟨rfl,rfl⟩)
  go_ret
  exact ⟨fK HS.o.symm,rfl⟩):p:=h
theorem afU (h:p:=by first
  | (have HS:Hid (R=true):=(by show _=_;rw[<-HR.o];simp);clear HR;exact acj)
  | (have HS:Hid (R=false):=(by show _=_;rw[<-HR.o];simp);clear HR;exact acj)):p:=h
theorem Y8 (h:p:=by
  go_wp2_with (go_at_call 104;(first|(with_reducible refine Calls.mono (Sv.o _) ?_)|(with_reducible refine Calls.mono (VK.o _) ?_)|(with_reducible refine Calls.mono (Z8.o _) ?_)|(with_reducible refine Calls.mono (Le.o _) ?_)|(with_reducible refine Calls.mono (F1.o _) ?_)|(with_reducible refine Calls.mono (F2.o _) ?_)|(with_reducible refine Calls.mono (F4.o _) ?_)|(with_reducible refine Calls.mono (F16.o _) ?_));rintro e w' ⟨rfl,rfl⟩)
  go_round
  case rel=>first | exact ⟨1,by decide,rfl,by rw[HN.o];first|(simp;done)|(simp;exact hw)⟩ | exact ⟨2,by decide,rfl,by rw[HN.o];first|(simp;done)|(simp;exact hw)⟩ | exact ⟨3,by decide,rfl,by rw[HN.o];first|(simp;done)|(simp;exact hw)⟩ | exact ⟨4,by decide,rfl,by rw[HN.o];first|(simp;done)|(simp;exact hw)⟩
  case measure=>decide):p:=h
theorem aeD {p:Prop} (h:p:=by
 go_ret
 exact ⟨fK HS.o.symm,rfl⟩):p:=h
theorem Iq (o f:Int) (w:World) :
  Calls prog 112 #[.int .i64 o,.int .i64 f] w fun e w'=>e = .returned (.bool (jI o f))/\w'=w:=by
 rw[Y7]
 have C8:=hid (fun W=>eQ o 8 3 W afq afq)
 have Sv:=hid (fun W=>eQ o 16 4 W afq afq)
 have VK:=hid (fun W=>eQ o 32 5 W afq afq)
 have Z8:=hid (fun W=>eQ o 64 6 W afq afq)
 have Le:=hid (fun W=>eQ o 128 7 W afq afq)
 have F1:=hid (fun W=>eQ f 1 0 W afq afq)
 have F2:=hid (fun W=>eQ f 2 1 W afq afq)
 have F4:=hid (fun W=>eQ f 4 2 W afq afq)
 have F16:=hid (fun W=>eQ f 16 4 W afq afq)
 obtain ⟨b3,h3⟩:=aq (aG o 8)
 obtain ⟨b4,h4⟩:=aq (aG o 16)
 obtain ⟨b5,h5⟩:=aq (aG o 32)
 obtain ⟨b6,h6⟩:=aq (aG o 64)
 obtain ⟨b7,h7⟩:=aq (aG o 128)
 obtain ⟨f0,i0⟩:=aq (aG f 1)
 obtain ⟨f1,i1⟩:=aq (aG f 2)
 obtain ⟨f2,i2⟩:=aq (aG f 4)
 obtain ⟨f4,i4⟩:=aq (aG f 16)
 rw[h3,h4,h5,h6,h7,i0,i1,i2,i4]
 rw[h3] at C8
 rw[h4] at Sv
 rw[h5] at VK
 rw[h6] at Z8
 rw[h7] at Le
 rw[i0] at F1
 rw[i1] at F2
 rw[i2] at F4
 rw[i4] at F16
 obtain ⟨R,hR⟩:=aq (aci o b3 b4 b5 b6 b7 f0 f1 f2 f4)
 have HR:=hid hR
 rw[hR]
 unfold aci at HR
 clear h3 h4 h5 h6 h7 i0 i1 i2 i4 hR
 by_cases hlo:o<0
 ·have HS:Hid (R=false):=by show _=_;rw[<-HR.o,if_pos (.inl hlo)]
  clear HR;go_enter func112,ntmps112;go_wp2;exact aeD
 by_cases hhi:255<o
 ·have HS:Hid (R=false):=by show _=_;rw[<-HR.o,if_pos (.inr (.inl hhi))]
  clear HR;go_enter func112,ntmps112;go_wp2;exact aeD
 cases b3 with
 | true=>
  have HS:Hid (R=false):=by show _=_;rw[<-HR.o,if_pos (.inr (.inr rfl))]
  clear HR;go_enter func112,ntmps112;go_wp2_with (go_at_call 104;refine (C8.o _).mono ?_;rintro e w' ⟨rfl,rfl⟩)
  exact aeD
 | false=>
  rw[if_neg afz] at HR;go_enter func112,ntmps112;go_wp2_with (go_at_call 104;refine (C8.o _).mono ?_;clear C8;rintro e w' ⟨rfl,rfl⟩)
  go_loop [5,6] (fun n b=>∃ k:Nat,k<=4/\b = .int .i64 (16*2 ^ k)/\n = .int .i64 (jB b4 b5 b6 b7 k)) (fun _ b=>256-(intOf b).toNat)
  case atStart=>exact ⟨0,by decide,rfl,by cases b4 <;> cases b5 <;> cases b6 <;> cases b7 <;> rfl⟩
  case round=>
   obtain ⟨k,hk,rfl,rfl⟩:=hrel;have hk5:k=0\/k=1\/k=2\/k=3\/k=4:=(by omega);rcases hk5 with rfl | rfl | rfl | rfl | rfl
   ·have hn:jB b4 b5 b6 b7 1=jB b4 b5 b6 b7 0+(if b4=true then 1 else 0):=(by cases b4 <;> cases b5 <;> cases b6 <;> cases b7 <;> rfl);have hw:=wC b4 b5 b6 b7 0;have HN:=hid hn;obtain ⟨x,hx⟩:=aq (jB b4 b5 b6 b7 0);rw[hx] at HN hw ⊢;clear hn hx HR;cases b4 <;> exact Y8
   ·have hn:jB b4 b5 b6 b7 2=jB b4 b5 b6 b7 1+(if b5=true then 1 else 0):=(by cases b4 <;> cases b5 <;> cases b6 <;> cases b7 <;> rfl);have hw:=wC b4 b5 b6 b7 1;have HN:=hid hn;obtain ⟨x,hx⟩:=aq (jB b4 b5 b6 b7 1);rw[hx] at HN hw ⊢;clear hn hx HR;cases b5 <;> exact Y8
   ·have hn:jB b4 b5 b6 b7 3=jB b4 b5 b6 b7 2+(if b6=true then 1 else 0):=(by cases b4 <;> cases b5 <;> cases b6 <;> cases b7 <;> rfl);have hw:=wC b4 b5 b6 b7 2;have HN:=hid hn;obtain ⟨x,hx⟩:=aq (jB b4 b5 b6 b7 2);rw[hx] at HN hw ⊢;clear hn hx HR;cases b6 <;> exact Y8
   ·have hn:jB b4 b5 b6 b7 4=jB b4 b5 b6 b7 3+(if b7=true then 1 else 0):=(by cases b4 <;> cases b5 <;> cases b6 <;> cases b7 <;> rfl);have hw:=wC b4 b5 b6 b7 3;have HN:=hid hn;obtain ⟨x,hx⟩:=aq (jB b4 b5 b6 b7 3);rw[hx] at HN hw ⊢;clear hn hx HR;cases b7 <;> exact Y8
   ·have hN:jB b4 b5 b6 b7 4=(if b4=true then 1 else 0)+(if b5=true then 1 else 0)+(if b6=true then 1 else 0)+(if b7=true then 1 else 0):=(by cases b4 <;> cases b5 <;> cases b6 <;> cases b7 <;> rfl);rw[<-hN] at HR;obtain ⟨x,hx⟩:=aq (jB b4 b5 b6 b7 4);rw[hx] at HR ⊢;clear hN hx hk;by_cases h1:1<x
    ·have HS:Hid (R=false):=(by show _=_;rw[<-HR.o,if_pos (.inl h1)]);clear HR;go_wp2;exact aeD
    ·cases b5 with
     | false=>
      rw[if_neg (by simp[h1])] at HR;cases b4 <;> cases f2 <;> cases b6 <;> cases f0 <;> cases b7 <;> cases f1 <;> exact afU
     | true=>
      by_cases h32:o=32
      ·have b32:(o != 32)=false:=(by rw[eN];exact h32);rw[if_neg (by simp[h1,h32])] at HR;clear h32;cases b4 <;> cases f2 <;> cases b6 <;> cases f0 <;> cases b7 <;> cases f1 <;> cases f4 <;> exact afU
      ·have b32:(o != 32)=true:=(by rw[fj];exact h32);have HS:Hid (R=false):=(by show _=_;rw[<-HR.o,if_pos (.inr ⟨rfl,h32⟩)]);clear HR h32;exact acj
end Go.Proofs.YteknelimjfgmaaaGreatDoor
