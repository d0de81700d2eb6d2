import Derived.Test.YteknelimjfgmaaaGreatDoorGJPFindA
namespace Go.Proofs.YteknelimjfgmaaaGreatDoor
set_option maxHeartbeats 400000
open Proofs.Tryz Go.RowKit
set_option maxRecDepth 100000
theorem QM (n:Int):bits .and .i64 n 240=(if aG n 16=true then 16 else 0)+(if aG n 32=true then 32 else 0)+(if aG n 64=true then 64 else 0)+(if aG n 128=true then 128 else 0):=Uk n
theorem and_zero (n:Int):(bits .and .i64 n 0==0)=true:=by
 rw[cL];refine Ag (Cx n 0) ⟨by decide,by decide⟩ (fun j hj=>?_);rw[iY n 0 j hj,mJ,gf]
theorem QO (o f:Int) (w:World) (h:(bits .andNot .i64 o 247==0)=false) :
  Calls prog 187 #[.int .i64 o,.int .i64 f] w fun e w'=>e = .returned (.bool false)/\w'=w:=by
 have hp:=cg.1 h
 clear h
 go_enter func187,ntmps187
 exact aaG
theorem aab {p:Prop} (h:p:=by
 go_enter func187,ntmps187
 go_wp2_with (first
  | (go_at_call 224;refine HO.o.mono ?_;clear HO;rintro e w1 ⟨rfl,rfl⟩)
  | (go_at_call 225;refine HN.o.mono ?_;clear HN;rintro e w1 ⟨rfl,rfl⟩)
  | (go_at_call 225;refine HM.o.mono ?_;clear HM;rintro e w1 ⟨rfl,rfl⟩))
 go_wp2
 go_ret
 exact ⟨fK HF.o,rfl⟩):p:=h
theorem Yv (o f:Int) (w:World) (h:(bits .andNot .i64 o 247==0)=true) (hw:bits .and .i64 o 240=0) :
  Calls prog 187 #[.int .i64 o,.int .i64 f] w fun e w'=>e = .returned (.bool (true))/\w'=w:=by
 have hp:=cL.1 h
 clear h
 have HO:Hid (Calls prog 224 #[.int .u64 0] w fun e w'=>e = .returned (.int .i64 0)/\w'=w):=sK false false false false w
 have HN:=hid (fQ 0 w)
 have HM:=hid (fQ 0 w)
 rw[show Af 0=0 from rfl] at HN HM
 have HF:=hid (and_zero f)
 exact aab
theorem UK (o f:Int) (w:World) (h:(bits .andNot .i64 o 247==0)=true) (hw:bits .and .i64 o 240=16) :
  Calls prog 187 #[.int .i64 o,.int .i64 f] w fun e w'=>e = .returned (.bool (aG f 4))/\w'=w:=by
 have hp:=cL.1 h
 clear h
 have HO:Hid (Calls prog 224 #[.int .u64 16] w fun e w'=>e = .returned (.int .i64 1)/\w'=w):=sK true false false false w
 have HN:=hid (fQ 16 w)
 have HM:=hid (fQ 16 w)
 rw[show Af 16=4 from rfl] at HN HM
 have HF:=hid (ql f 4 2 afq afq)
 exact aab
theorem UL (o f:Int) (w:World) (h:(bits .andNot .i64 o 247==0)=true) (hw:bits .and .i64 o 240=64) :
  Calls prog 187 #[.int .i64 o,.int .i64 f] w fun e w'=>e = .returned (.bool (aG f 1))/\w'=w:=by
 have hp:=cL.1 h
 clear h
 have HO:Hid (Calls prog 224 #[.int .u64 64] w fun e w'=>e = .returned (.int .i64 1)/\w'=w):=sK false false true false w
 have HN:=hid (fQ 64 w)
 have HM:=hid (fQ 64 w)
 rw[show Af 64=1 from rfl] at HN HM
 have HF:=hid (ql f 1 0 afq afq)
 exact aab
theorem QQ (o f:Int) (w:World) (h:(bits .andNot .i64 o 247==0)=true) (hw:bits .and .i64 o 240=128) :
  Calls prog 187 #[.int .i64 o,.int .i64 f] w fun e w'=>e = .returned (.bool (aG f 2))/\w'=w:=by
 have hp:=cL.1 h
 clear h
 have HO:Hid (Calls prog 224 #[.int .u64 128] w fun e w'=>e = .returned (.int .i64 1)/\w'=w):=sK false false false true w
 have HN:=hid (fQ 128 w)
 have HM:=hid (fQ 128 w)
 rw[show Af 128=2 from rfl] at HN HM
 have HF:=hid (ql f 2 1 afq afq)
 exact aab
theorem UM (o f:Int) (w:World) (h:(bits .andNot .i64 o 247==0)=true) (hw:bits .and .i64 o 240=32) :
  Calls prog 187 #[.int .i64 o,.int .i64 f] w fun e w'=>e = .returned (.bool ((bits .and .i64 o 7==0) && aG f 16))/\w'=w:=by
 have hp:=cL.1 h
 clear h
 have HO:Hid (Calls prog 224 #[.int .u64 32] w fun e w'=>e = .returned (.int .i64 1)/\w'=w):=sK false true false false w
 have HN:=hid (fQ 32 w)
 have HM:=hid (fQ 32 w)
 rw[show Af 32=16 from rfl] at HN HM
 have HF:=hid (ql f 16 4 afq afq)
 by_cases h7:bits .and .i64 o 7=0
 ·rw[h7];exact aab
 ·rw[cg.2 h7,gh];go_enter func187,ntmps187
  go_wp2_with (first
   | (go_at_call 224;refine HO.o.mono ?_;clear HO;rintro e w1 ⟨rfl,rfl⟩))
  exact aaG
theorem Nn (o f:Int) (b4 b5 b6 b7:Bool) (w:World) (h:(bits .andNot .i64 o 247==0)=true) (hw:bits .and .i64 o 240=(if b4=true then 16 else 0)+(if b5=true then 32 else 0)+(if b6=true then 64 else 0)+(if b7=true then 128 else 0)) (hm:1<(if b4=true then 1 else 0)+(if b5=true then 1 else 0)+(if b6=true then 1 else 0)+(if b7=true then (1:Int) else 0)) :
  Calls prog 187 #[.int .i64 o,.int .i64 f] w fun e w'=>e = .returned (.bool false)/\w'=w:=by
 have hp:=cL.1 h
 clear h
 have HO:=hid (sK b4 b5 b6 b7 w)
 obtain ⟨c,hc⟩:=aq ((if b4=true then 1 else 0)+(if b5=true then 1 else 0)+(if b6=true then 1 else 0)+(if b7=true then (1:Int) else 0))
 have hv:0<=(if b4=true then (16:Int) else 0)+(if b5=true then 32 else 0)+(if b6=true then 64 else 0)+(if b7=true then 128 else 0)/\(if b4=true then (16:Int) else 0)+(if b5=true then 32 else 0)+(if b6=true then 64 else 0)+(if b7=true then 128 else 0)<=240:=by
  cases b4 <;> cases b5 <;> cases b6 <;> cases b7 <;> decide
 rw[hc] at HO hm
 generalize (if b4=true then (16:Int) else 0)+(if b5=true then 32 else 0)+(if b6=true then 64 else 0)+(if b7=true then 128 else 0)=v at *
 clear hc
 obtain ⟨hv0,hv1⟩:=hv
 go_enter func187,ntmps187
 go_wp2_with (first
  | (go_at_call 224;refine HO.o.mono ?_;clear HO;rintro e w1 ⟨rfl,rfl⟩))
 exact aaG
theorem Kk (o f:Int) (w:World) (ho:In64 o) :
  Calls prog 187 #[.int .i64 o,.int .i64 f] w fun e w'=>e = .returned (.bool (jI o f))/\w'=w:=by
 have hA:=Qy o ho
 by_cases hg:0<=o/\o<256/\aG o 8=false
 ·rw[cH hg] at hA;rw[Yu o f hg];have hw:=QM o;by_cases hm:1<(if aG o 16=true then 1 else 0)+(if aG o 32=true then 1 else 0)+(if aG o 64=true then 1 else 0)+(if aG o 128=true then (1:Int) else 0)
  ·rw[UJ,if_pos hm];exact Nn o f _ _ _ _ w hA hw hm
  ·rw[UJ,if_neg hm];generalize aG o 16=b4 at *;generalize aG o 32=b5 at *;generalize aG o 64=b6 at *;generalize aG o 128=b7 at *;cases b4 with
   | true=>
    cases b5 with
    | true=>exact absurd (by cases b6 <;> cases b7 <;> decide) hm
    | false=>
     cases b6 with
     | true=>exact absurd (by cases b7 <;> decide) hm
     | false=>
      cases b7 with
      | true=>exact absurd afq hm
      | false=>exact UK o f w hA hw
   | false=>
    cases b5 with
    | true=>
     cases b6 with
     | true=>exact absurd (by cases b7 <;> decide) hm
     | false=>
      cases b7 with
      | true=>exact absurd afq hm
      | false=>exact UM o f w hA hw
    | false=>
     cases b6 with
     | true=>
      cases b7 with
      | true=>exact absurd afq hm
      | false=>exact UL o f w hA hw
     | false=>
      cases b7 with
      | true=>exact QQ o f w hA hw
      | false=>exact Yv o f w hA hw
 ·rw[cA hg] at hA;rw[Nl o f hg];exact QO o f w hA
set_option maxHeartbeats 1000000
theorem oJ (r:Except Int TK):∃ m0 m1 m2 m3 m4 m5 m6 m7,rC r = .tuple #[.agg #[.int .i64 m0,.int .u64 m1,.string m2,.int .i64 m3,.int .i64 m4,.int .i64 m5,.int .i64 m6],.int .i64 m7]:=by
 cases r with
 | error c=>exact ⟨_,_,_,_,_,_,_,_,rfl⟩
 | ok t=>exact ⟨_,_,_,_,_,_,_,_,rfl⟩
def nM (now:Int) (q:NQ) (old:TK) (x s:BE):Except Int TK:=if AP q.aL=32 then xC now old else if AP q.aL=16 then xD now old else Nj now q old x s
structure TK.In (t:TK):Prop where
 ay:In64 t.ay
 dY:In64 t.dY
 start:In64 t.start
 fin:In64 t.fin
 aD:In64 t.aD
theorem aai {p:Prop} (h:p:=by
 have B7:=((((((HB2.o.set 0 (.int .i64 m0)).set 1 (.int .u64 m1)).set 2 (.string m2)).set 3 (.int .i64 m3)).set 4 (.int .i64 m4)).set 5 (.int .i64 m5)).set 6 (.int .i64 m6)
 refine bodyPost_ret (aJ results188 _ _ _ (w.heap.size+1+1) rfl _ (B7.load 333 _ underlying333 rfl Tryz.iO)) rfl ⟨by rw[Hm.o];rfl,?_⟩
 refine aa uH.o ?_
 repeat refine az ?_ afF
 exact HG2.o):p:=h
theorem QR (pb:Nat) (now:Int) (q:NQ) (v u:Value) (old:TK) (x s:BE) (w:World) (hp:fB w pb x s) (dm:In64 now) (hxl:In64 x.bI) (hsl:In64 s.bI) (UF:In64 x.aD) (UG:In64 s.aD) (ho:old.In) :
  Calls prog 188 #[.pointer (some ⟨pb,0,none⟩),.int .i64 now,.agg (q.cells v u).toArray,.agg old.cells.toArray] w fun e w'=>e = .returned (rC (nM now q old x s))/\w.grownBy w' none:=by
 obtain ⟨W0,hW0⟩:=ar ((w.alloc (.cells (q.cells v u).toArray 276)).alloc (.cells old.cells.toArray 333))
 have G0:w.grownBy W0 none:=by rw[hW0];exact aR (aE w _ none) _
 have RQ:W0.rangeAt w.heap.size 0 (q.cells v u):=by rw[hW0];exact jR (aW w (q.cells v u).toArray _) (aE _ _ none)
 have RT:W0.rangeAt (w.heap.size+1) 0 old.cells:=by
  exact adq
 have s0:W0.heap.size=w.heap.size+1+1:=by rw[hW0];simp only[ch]
 obtain ⟨W1,hW1⟩:=ar (W0.alloc (.cells jb 333))
 have B1:dX W1 (w.heap.size+1+1) jb:=by rw[hW1,<-s0];exact dX.new _ _ _
 have G1:W0.grownBy W1 none:=by rw[hW1];exact aE _ _ none
 have c8:=G1.cell (RQ 8 (.int .i64 q.aL) rfl) aft
 have Sn:=jR RQ G1
 have WV:=jR RT G1
 have hp1:=hp.grown (aa G0 G1)
 have uH:=hid G0
 have jC:=hid G1
 have HB1:=hid B1
 have Sm:Hid (w.heap.size+1+1=W0.heap.size):=s0.symm
 rw[hW0] at hW1
 have HW1:=hid hW1
 unfold nM
 rw[<-Uk]
 have e0:=WV 0 _ rfl
 have e1:=WV 1 _ rfl
 have e2:=WV 2 _ rfl
 have e3:=WV 3 _ rfl
 have e4:=WV 4 _ rfl
 have e5:=WV 5 _ rfl
 have e6:=WV 6 _ rfl
 by_cases h32:bits .and .i64 q.aL 240=32
 ·rw[if_pos h32];have HV:=hid (Ey now old W1 ho.ay);obtain ⟨m0,m1,m2,m3,m4,m5,m6,m7,hm⟩:=oJ (xC now old);rw[hm] at HV;have Hm:=hid hm;clear hm G0 G1 B1 hW0 hW1 RQ RT s0 hp dm hxl hsl UF UG ho Sn WV hp1;go_enter func188,ntmps188
  go_wp2_with (first
   | (rw[<-HW1.o];fail_if_success done)
   | (go_at_call 226;refine HV.o.mono ?_;rintro e w1 ⟨rfl,g1⟩;have HB2:Hid (dX w1 (w.heap.size+1+1) jb):=HB1.o.grown g1 aft;have HG2:=hid (aa jC.o g1);clear g1;obtain ⟨⟨p0,p1,p2,p3,p4,p5,p6⟩,f0,f1,f2,f3,f4,f5,f6⟩:=jy HB2.o))
  exact aai
 ·rw[if_neg h32];have b32:(bits .and .i64 q.aL 240==32)=false:=cg.2 h32;by_cases h16:bits .and .i64 q.aL 240=16
  ·rw[if_pos h16];have HV:=hid (Kh now old W1 dm ho.start ho.fin);obtain ⟨m0,m1,m2,m3,m4,m5,m6,m7,hm⟩:=oJ (xD now old);rw[hm] at HV;have Hm:=hid hm;clear hm G0 G1 B1 hW0 hW1 RQ RT s0 hp dm hxl hsl UF UG ho Sn WV hp1;go_enter func188,ntmps188
   go_wp2_with (first
    | (rw[<-HW1.o];fail_if_success done)
    | (go_at_call 227;refine HV.o.mono ?_;rintro e w1 ⟨rfl,g1⟩;have HB2:Hid (dX w1 (w.heap.size+1+1) jb):=HB1.o.grown g1 aft;have HG2:=hid (aa jC.o g1);clear g1;obtain ⟨⟨p0,p1,p2,p3,p4,p5,p6⟩,f0,f1,f2,f3,f4,f5,f6⟩:=jy HB2.o))
   exact aai
  ·rw[if_neg h16];have b16:(bits .and .i64 q.aL 240==16)=false:=cg.2 h16;have HV:=hid (Ki pb now q v u old x s W1 hp1 dm hxl hsl UF UG);obtain ⟨m0,m1,m2,m3,m4,m5,m6,m7,hm⟩:=oJ (Nj now q old x s);rw[hm] at HV;have Hm:=hid hm;have k0:=Sn 0 _ rfl;have k1:=Sn 1 _ rfl;have k2:=Sn 2 _ rfl;have k3:=Sn 3 _ rfl;have k4:=Sn 4 _ rfl;have k5:=Sn 5 _ rfl;have k6:=Sn 6 _ rfl;have k7:=Sn 7 _ rfl;clear hm G0 G1 B1 hW0 hW1 RQ RT s0 hp dm hxl hsl UF UG ho Sn WV hp1;go_enter func188,ntmps188
   go_wp2_with (first
    | (rw[<-HW1.o];fail_if_success done)
    | (go_at_call 228;refine HV.o.mono ?_;rintro e w1 ⟨rfl,g1⟩;have HB2:Hid (dX w1 (w.heap.size+1+1) jb):=HB1.o.grown g1 aft;have HG2:=hid (aa jC.o g1);clear g1;obtain ⟨⟨p0,p1,p2,p3,p4,p5,p6⟩,f0,f1,f2,f3,f4,f5,f6⟩:=jy HB2.o))
   exact aai
theorem ack {p:Prop} (h:p:=by
 go_enter func176,ntmps176
 go_wp2_with (first
  | (rw[<-HW0.o];fail_if_success done)
  | (go_at_call 210;refine HA.o.mono ?_;clear HA;rintro e w1 ⟨rfl,rfl⟩))
 go_wp2
 go_ret
 exact ⟨bE (by rw[HE.o];rfl),HG.o⟩):p:=h
theorem Ez (hb pb:Nat) (aC now pn:Int) (v:Value) (q:FQ) (x s:BE) (w:World) (hp:fB w pb x s) (hq:q.pre=none) :
  Calls prog 176 #[.pointer (some ⟨hb,0,none⟩),.pointer (some ⟨pb,0,none⟩),.agg (q.cells pn v).toArray] w fun e w'=>e = .returned (.int .i64 (eX aC now x q.pre))/\w.grownBy w' none:=by
 obtain ⟨W0,hW0⟩:=ar (w.alloc (.cells (q.cells pn v).toArray 269))
 have G0:w.grownBy W0 none:=by rw[hW0];exact aE w _ none
 have R0:W0.rangeAt w.heap.size 0 (q.cells pn v):=by rw[hW0];exact aW w (q.cells pn v).toArray _
 have r7:W0.cell? ⟨w.heap.size,7,none⟩=some (.bool false):=by have h:=R0 7 (.bool q.pre.isSome) rfl;rw[hq] at h;exact h
 have HA:=hid (yL pb 4 x 1 0 W0 afq afq ((hp.grown G0).c 7 _ rfl))
 have HG:=hid G0
 have HW0:=hid hW0
 have HE:Hid (eX aC now x q.pre=if x.has 1=true then 25 else 0):=by rw[hq];exact rfl
 generalize eX aC now x q.pre=pc at *
 clear G0 hW0 R0 hp hq
 generalize x.has 1=b1 at *
 cases b1 with
 | true=>
  exact ack
 | false=>
  exact ack
theorem abU {p:Prop} (h:p:=by
 clear pI
 go_wp2_with fail
 go_quiet (fail)
 go_wp2_with (first|(go_at_call 212;refine (HFr.o _).mono ?_;clear HFr;rintro e w2 ⟨rfl,m,rfl⟩))
 go_wp2
 go_ret
 exact ⟨bE HE2.o.symm,CF.before HG.o (qN.o.trans (CF.bN (aY (bh _ _) _) (Pl.has p)) (fun _ _ _ e=>e))⟩):p:=h
theorem EA (hb g pb:Nat) (ro:Value) (p:Option Pl) (rb:List UInt8) (aC now:Int) (pn:Int) (z:List UInt8) (ao:Option Addr) (n cap:Nat) (q:FQ) (x s:BE) (w:World) (hp:fB w pb x s) (hq:q.pre=some (pn,z))
  (c1:w.cell? ⟨hb,1,none⟩=some ro) (c3:w.cell? ⟨hb,3,none⟩=some (.pointer (some ⟨g,0,none⟩))) (c4:w.cell? ⟨hb,4,none⟩=some (.int .i64 now)) (cs:w.cell? ⟨g,0,none⟩=some (.int .i64 aC)) (dm:In64 now)
  (hR:Out w ro p rb) (o1:Off p hb) (o2:Off p pb) (o3:∀ j,j<188->¬ Pl.has p g j) (hn:Hid (z.length=n)) (hcap:n<=cap) (hz:At w ao z) (hsep:∀ b off,ao=some ⟨b,off,none⟩->∀ j,j<z.length->¬ Pl.has p b (off+j)) :
  Calls prog 176 #[.pointer (some ⟨hb,0,none⟩),.pointer (some ⟨pb,0,none⟩),.agg (q.cells pn (.slice ao n cap)).toArray] w fun e w'=>e = .returned (.int .i64 (eX aC now x q.pre))/\CF w w' (Pl.has p):=by
 obtain ⟨W0,hW0⟩:=ar (w.alloc (.cells (q.cells pn (.slice ao n cap)).toArray 269))
 have G0:w.grownBy W0 none:=by rw[hW0];exact aE w _ none
 have R0:W0.rangeAt w.heap.size 0 (q.cells pn (.slice ao n cap)):=by rw[hW0];exact aW w (q.cells pn (.slice ao n cap)).toArray _
 have r7:W0.cell? ⟨w.heap.size,7,none⟩=some (.bool true):=by have h:=R0 7 (.bool q.pre.isSome) rfl;rw[hq] at h;exact h
 have r8:W0.cell? ⟨w.heap.size,8,none⟩=some (.int .i64 pn):=R0 8 _ rfl
 have r9:W0.cell? ⟨w.heap.size,9,none⟩=some (.slice ao n cap):=R0 9 _ rfl
 have k1:=G0.cell c1 aft
 have p1:=(hp.grown G0).c 1 _ rfl
 have p2:=(hp.grown G0).c 2 _ rfl
 have HO:=hid (J3 ro p rb x.key ao z n cap W0.drew ((hR.grown G0).grown (bD (bh _ _))) hn hcap (hz.below (bD G0)) hsep)
 have HG:=hid G0
 have HW0:=hid hW0
 have HF:Hid (∀ W,CF W0 W (Pl.has p)->∀ t,In64 t->Calls prog 212 #[.pointer (some ⟨hb,0,none⟩),.int .i64 t] W fun e w'=>e = .returned (.bool (decide (aC<dM t now)))/\∃ m,w'=W.drewN m):=
  fun W hW t ht=>vW hb g now aC t W (hW.cell (G0.cell c3 aft) (nY o1 _)) (hW.cell (G0.cell c4 aft) (nY o1 _)) (hW.cell (G0.cell cs aft) (o3 0 afq)) dm ht
 have HE:Hid (eX aC now x q.pre=if gK (bO (dD x.key 1 z,false)).2=true then (if pn≠x.aH then 24 else if aC<dM (bO (dD x.key 1 z,false)).1 now then 37 else 0) else 24):=by
  refine hid ?_;rw[hq];unfold eX;simp only[];rw[UE];cases hd:gK (bO (dD x.key 1 z,false)).2 <;> rfl
 have ht:In64 (bO (dD x.key 1 z,false)).1:=sJ _
 have HT:=hid ht
 have aeA:Hid (∀ W,CF W0 W (Pl.has p)->W.cell? ⟨hb,1,none⟩=some ro/\W.cell? ⟨pb,1,none⟩=some (.int .i64 x.aH)/\W.cell? ⟨pb,2,none⟩=some (.int .u64 (x.key.toNat:Int))/\W.cell? ⟨w.heap.size,8,none⟩=some (.int .i64 pn)/\W.cell? ⟨w.heap.size,9,none⟩=some (.slice ao n cap)):=
  fun W hW=>⟨hW.cell k1 (nY o1 _),hW.cell p1 (nY o2 _),hW.cell p2 (nY o2 _),hW.cell r8 (O0 hR _),hW.cell r9 (O0 hR _)⟩
 generalize eX aC now x q.pre=pc at *
 generalize (bO (dD x.key 1 z,false)).1=t at *
 generalize gK (bO (dD x.key 1 z,false)).2=d at *
 clear G0 hW0 R0 hp hq c1 c3 c4 cs dm hR o1 o2 o3 hn hz hsep ht
 go_enter func176,ntmps176
 go_wp2_with (first|(rw[<-HW0.o];fail_if_success done))
 go_region_held3 (fun w'=>w'.cell? ⟨hb,1,none⟩=some ro/\w'.cell? ⟨pb,2,none⟩=some (.int .u64 (x.key.toNat:Int))/\w'.cell? ⟨w.heap.size,9,none⟩=some (.slice ao n cap)) (go_keep) (first|(go_at_call 211;refine HO.o.mono ?_;rintro e w1 ⟨rfl,C1⟩;have qN:=hid C1.dG;clear C1;obtain ⟨b1,bn,b2,b8,b9⟩:=aeA.o _ qN.o))
 clear r7 r8 r9 k1 p1 p2 HO aeA b1 b2 b9
 cases d with
 | false=>
  go_wp2_with fail;go_quiet (fail)
  go_wp2;go_ret;exact ⟨bE (by rw[HE.o];rfl),CF.before HG.o (qN.o.trans (CF.bN (aY (bh _ _) _) (Pl.has p)) (fun _ _ _ e=>e))⟩
 | true=>
  by_cases hn:pn=x.aH
  ·have hnb:(pn==x.aH)=true:=(by rw[cL];exact hn);have HN:=hid hn;clear hn;have HFr:=hid (fun k=>HF.o (w1.drewN k) (qN.o.trans (CF.bN (aY (bh _ _) _) (Pl.has p)) (fun _ _ _ e=>e)) t HT.o);have HE2:Hid (pc=if aC<dM t now then 37 else 0):=(by rw[HE.o,if_pos rfl,if_neg (fun e=>e HN.o)];exact rfl);clear HF HE;by_cases pI:aC<dM t now
   ·rw[cH pI] at HFr;rw[if_pos pI] at HE2;exact abU
   ·rw[cA pI] at HFr;rw[if_neg pI] at HE2;exact abU
  ·have hnb:(pn==x.aH)=false:=(by rw[cg];exact hn);have HE2:Hid (pc=24):=(by rw[HE.o,if_pos rfl,if_pos hn];exact rfl);go_wp2_with fail;go_quiet (fail)
   go_wp2;go_ret;exact ⟨bE HE2.o.symm,CF.before HG.o (qN.o.trans (CF.bN (aY (bh _ _) _) (Pl.has p)) (fun _ _ _ e=>e))⟩
def nN (q:FQ) (x s:BE):Int:=32+(if q.pre.isSome then 64 else 0)+(if aG q.aL 8=true then 24 else 0)+jf q.aL x s
theorem Kl (o:Int) (x s:BE):jf o x s=gI o 7 x s:=by
 unfold jf gI;simp only[show aG 7 1=true from rfl,show aG 7 2=true from rfl,show aG 7 4=true from rfl,ej,true_and]
theorem EB (now:Int) (q:FQ) (x s:BE):(lJ now q x s).ay=nN q x s:=by
 unfold lJ nN;rw[Kl]
theorem UN:∀ (b1 b2 b3:Bool),(bits .or .i64 32 ((if b1=true then 1 else 0)+(if b2=true then 2 else 0)+(if b3=true then 4 else 0))=32+((if b1=true then 1 else 0)+(if b2=true then 2 else 0)+(if b3=true then 4 else 0)))/\(bits .or .i64 (32+((if b1=true then 1 else 0)+(if b2=true then 2 else 0)+(if b3=true then 4 else 0))) 64=96+((if b1=true then 1 else 0)+(if b2=true then 2 else 0)+(if b3=true then 4 else 0)))/\(bits .or .i64 (32+((if b1=true then 1 else 0)+(if b2=true then 2 else 0)+(if b3=true then 4 else 0))) 24=56+((if b1=true then 1 else 0)+(if b2=true then 2 else 0)+(if b3=true then 4 else 0)))/\(bits .or .i64 (96+((if b1=true then 1 else 0)+(if b2=true then 2 else 0)+(if b3=true then 4 else 0))) 24=120+((if b1=true then 1 else 0)+(if b2=true then 2 else 0)+(if b3=true then 4 else 0))):=by decide
theorem De (pb:Nat) (pn:Int) (v:Value) (q:FQ) (x s:BE) (w:World) (hp:fB w pb x s) :
  Calls prog 180 #[.pointer (some ⟨pb,0,none⟩),.agg (q.cells pn v).toArray] w fun e w'=>e = .returned (.int .i64 (nN q x s))/\w.grownBy w' none:=by
 obtain ⟨W0,hW0⟩:=ar (w.alloc (.cells (q.cells pn v).toArray 269))
 have G0:w.grownBy W0 none:=by rw[hW0];exact aE w _ none
 have R0:W0.rangeAt w.heap.size 0 (q.cells pn v):=by rw[hW0];exact aW w (q.cells pn v).toArray _
 have r6:W0.cell? ⟨w.heap.size,6,none⟩=some (.int .i64 q.aL):=R0 6 _ rfl
 have r7:W0.cell? ⟨w.heap.size,7,none⟩=some (.bool q.pre.isSome):=R0 7 _ rfl
 have HA:=hid (Ah pb x s q.aL W0 (hp.grown G0))
 have HG:=hid G0
 have HW0:=hid hW0
 have hq:=jQ q.aL 8 3 afq afq
 have ho:=UN (aG q.aL 1 && (x.has 4 && s.has 4)) (aG q.aL 2 && (x.has 8 && s.has 8)) (aG q.aL 4 && (x.has 2 && s.has 2))
 unfold nN
 change bits .or .i64 32 (jf q.aL x s)=32+jf q.aL x s/\bits .or .i64 (32+jf q.aL x s) 64=96+jf q.aL x s/\bits .or .i64 (32+jf q.aL x s) 24=56+jf q.aL x s/\bits .or .i64 (96+jf q.aL x s) 24=120+jf q.aL x s at ho
 have HO:=hid ho
 clear G0 hW0 R0 hp ho
 generalize aG q.aL 8=b1 at *
 generalize jf q.aL x s=al at *
 generalize q.pre.isSome=b2 at *
 cases b1 with
 | true=>
  rw[eE] at hq;have hp:=cg.1 hq;clear hq;cases b2 with
  | true=>
   go_enter func180,ntmps180
   go_wp2_with (first
    | (rw[<-HW0.o];fail_if_success done)
    | (go_at_call 215;refine HA.o.mono ?_;clear HA;rintro e w1 ⟨rfl,g1⟩;have r6':=g1.cell r6 aft;have r7':=g1.cell r7 aft))
   go_wp2;go_ret;exact ⟨bE (by obtain ⟨e1,e2,e3,e4⟩:=HO.o;rw[e1,e2,e4]),aa HG.o g1⟩
  | false=>
   go_enter func180,ntmps180
   go_wp2_with (first
    | (rw[<-HW0.o];fail_if_success done)
    | (go_at_call 215;refine HA.o.mono ?_;clear HA;rintro e w1 ⟨rfl,g1⟩;have r6':=g1.cell r6 aft;have r7':=g1.cell r7 aft))
   go_wp2;go_ret;exact ⟨bE (by obtain ⟨e1,e2,e3,e4⟩:=HO.o;rw[e1,e3]),aa HG.o g1⟩
 | false=>
  rw[en] at hq;have hp:=cL.1 hq;clear hq;cases b2 with
  | true=>
   go_enter func180,ntmps180
   go_wp2_with (first
    | (rw[<-HW0.o];fail_if_success done)
    | (go_at_call 215;refine HA.o.mono ?_;clear HA;rintro e w1 ⟨rfl,g1⟩;have r6':=g1.cell r6 aft;have r7':=g1.cell r7 aft))
   go_wp2;go_ret;exact ⟨bE (by obtain ⟨e1,e2,e3,e4⟩:=HO.o;rw[e1,e2]),aa HG.o g1⟩
  | false=>
   go_enter func180,ntmps180
   go_wp2_with (first
    | (rw[<-HW0.o];fail_if_success done)
    | (go_at_call 215;refine HA.o.mono ?_;clear HA;rintro e w1 ⟨rfl,g1⟩;have r6':=g1.cell r6 aft;have r7':=g1.cell r7 aft))
   go_wp2;go_ret;exact ⟨bE (by obtain ⟨e1,e2,e3,e4⟩:=HO.o;rw[e1]),aa HG.o g1⟩
theorem afO {p:Prop} (h:p:=by injection e with e;exact e.symm):p:=h
def RP.drawn (r:RP) (a b c:UInt64):RP:={r with t:={r.t with aM:=a},uz:=b,uA:=c}
theorem UO {w:World} {rb:Nat} {r:RP} (h:mU w rb r) (a b c:UInt64):mU (((w.setCell ⟨rb,1,none⟩ (.int .u64 (a.toNat:Int))).setCell ⟨rb,10,none⟩ (.int .u64 (b.toNat:Int))).setCell ⟨rb,14,none⟩ (.int .u64 (c.toNat:Int))) rb (r.drawn a b c):=by
 intro i v hv;have h14:=h.at 14 _ rfl;have h10:=h.at 10 _ rfl;have h1:=h.at 1 _ rfl;rw[cC];by_cases e14:i=14
 ·subst e14;obtain rfl:Value.int .u64 (c.toNat:Int)=v:=by simpa[RP.cells,RP.drawn] using hv
  exact dB _ (ae _ (ae _ h14 afq) afq)
 by_cases e10:i=10
 ·subst e10;obtain rfl:Value.int .u64 (b.toNat:Int)=v:=by simpa[RP.cells,RP.drawn] using hv
  exact ae _ (dB _ (ae _ h10 afq)) afq
 by_cases e1:i=1
 ·subst e1;obtain rfl:Value.int .u64 (a.toNat:Int)=v:=by simpa[RP.cells,RP.drawn] using hv
  exact ae _ (ae _ (dB _ h1) afq) afq
 have h0:r.cells[i]?=some v:=by
  rw[<-hv];rcases i with _ | _ | _ | _ | _ | _ | _ | _ | _ | _ | _ | _ | _ | _ | _ | i;all_goals first | rfl|(exfalso;omega)
 have:=h.at i v h0;exact ae _ (ae _ (ae _ this (fun e=>e1 e.symm)) (fun e=>e10 e.symm)) (fun e=>e14 e.symm)
theorem O1 (hb g rb n cap:Nat) (ao:Option Addr) (r:RP) (w:World) (c3:w.cell? ⟨hb,3,none⟩=some (.pointer (some ⟨g,0,none⟩))) (hn:n<24) (hc:w.cell? ⟨g,1,none⟩=some (.slice ao n cap)) (hr:mU w rb r) (hl:Live w rb 15) :
  Calls prog 182 #[.pointer (some ⟨hb,0,none⟩),.pointer (some ⟨rb,0,none⟩)] w fun e w'=>e = .returned (.bool false)/\CF w w' (fun b _=>b=rb):=by
 obtain ⟨W0,hW0⟩:=ar (w.alloc (.cells #[.int .u64 0,.int .u64 0,.int .u64 0] 367))
 have G0:w.grownBy W0 none:=by rw[hW0];exact aE w _ none
 have R0:W0.rangeAt w.heap.size 0 [.int .u64 0,.int .u64 0,.int .u64 0]:=by rw[hW0];exact aW w #[.int .u64 0,.int .u64 0,.int .u64 0] _
 have HF:=hid (fun k=>XV g 1 n cap w.heap.size ao (W0.drewN k) hn ((aY G0 k).cell hc aft))
 have a0:W0.cell? ⟨w.heap.size,0,none⟩=some (.int .u64 0):=R0 0 _ rfl
 have a1:W0.cell? ⟨w.heap.size,1,none⟩=some (.int .u64 0):=R0 1 _ rfl
 have a2:W0.cell? ⟨w.heap.size,2,none⟩=some (.int .u64 0):=R0 2 _ rfl
 have k3:=G0.cell c3 aft
 have q1:=G0.cell (hr.at 1 _ rfl) aft
 have q10:=G0.cell (hr.at 10 _ rfl) aft
 have q14:=G0.cell (hr.at 14 _ rfl) aft
 have f1:=(hl.grown G0).frozen 1
 have f10:=(hl.grown G0).frozen 10
 have f14:=(hl.grown G0).frozen 14
 have HG:=hid G0
 have HW0:=hid hW0
 clear G0 hW0 R0 hn hr hl hc c3
 go_enter func182,ntmps182
 go_wp2_with (first|(rw[<-HW0.o];fail_if_success done))
 go_quiet (first|(go_at_call 216;refine (HF.o _).mono ?_;rintro e w1 ⟨rfl,rfl⟩;exact ⟨rfl,_,rfl⟩))
 go_wp2
 go_ret
 refine ⟨rfl,?_⟩
 repeat refine CF.setCell ?_ _ _ _ (fun _=>rfl)
 exact CF.bN (aY HG.o _) _
theorem Km (hb g rb:Nat) (q:Pl) (ds:List UInt8) (n:Nat) (r:RP) (w:World) (c3:w.cell? ⟨hb,3,none⟩=some (.pointer (some ⟨g,0,none⟩))) (hn:Hid (ds.length=n)) (Er:24<=n) (hnc:n<=q.cap) (hcm:q.cap<=9223372036854775807) (hc:w.cell? ⟨g,1,none⟩=some (.slice (some ⟨q.g,q.off,none⟩) n q.cap)) (hLg:Live w g 188) (hd:w.rangeAt q.g q.off (ds.map U8)) (hqg:q.g≠g) (aix:q.g<w.heap.size) (hr:mU w rb r) (hl:Live w rb 15) (hgr:g≠rb) (hhr:hb≠rb) (hhg:hb≠g) :
  Calls prog 182 #[.pointer (some ⟨hb,0,none⟩),.pointer (some ⟨rb,0,none⟩)] w fun e w'=>e = .returned (.bool true)/\mU w' rb (r.drawn (eO ds 0) (eO ds 1) (eO ds 2))/\(∃ off,w'.cell? ⟨g,1,none⟩=some (.slice (some ⟨q.g,off,none⟩) (n-24) (q.cap-24))/\(q.cap-24≠0->off=q.off+24)/\off<=q.off+24)/\CF w w' (fun b y=>b=g/\y=1\/b=rb):=by
 obtain ⟨W0,hW0⟩:=ar (w.alloc (.cells #[.int .u64 0,.int .u64 0,.int .u64 0] 367))
 have G0:w.grownBy W0 none:=by rw[hW0];exact aE w _ none
 have L0:Live W0 w.heap.size 3:=by rw[hW0];exact Live.new w #[.int .u64 0,.int .u64 0,.int .u64 0] _
 have hgl:=hLg.lt
 have hrl:=hl.lt
 have HF:=hid (Ud g 1 w.heap.size q ds n W0.drew hn Er hnc hcm ((bD G0).cell hc aft) ((hLg.grown (bD G0)).mono afp) (L0.grown (bD (bh _ _))) (jR hd (bD G0)) afp hqg afp)
 have hne:w.heap.size≠rb:=fun e=>by omega
 have k3:=G0.cell c3 aft
 have HRP:=hid (hr.grown G0)
 have HL:=hid (hl.grown G0)
 have hbl:hb<w.heap.size:=je c3
 have HH:Hid (hb≠w.heap.size/\g≠w.heap.size/\g≠rb/\hb≠rb/\hb≠g):=⟨by omega,by omega,hgr,hhr,hhg⟩
 have HG:=hid G0
 have HW0:=hid hW0
 clear G0 hW0 L0 hn Er hnc hcm hc hLg hd hqg aix hr hl hgr hhr hhg hgl hrl hbl c3
 go_enter func182,ntmps182
 go_wp2_with (first|(rw[<-HW0.o];fail_if_success done))
 go_region_held3 (fun w'=>w'.cell? ⟨hb,3,none⟩=some (.pointer (some ⟨g,0,none⟩))) (go_keep) (first|(go_at_call 216;refine HF.o.mono ?_;rintro e w1 ⟨rfl,ho,h3,C1⟩;have yJ:=hid ho;have qN:=hid C1.dG;have a0:=h3 0 afq;have a1:=h3 1 afq;have a2:=h3 2 afq;clear ho C1 h3;have WW:=qN.o.cell k3 (fun e=>by rcases e with e | e;exact HH.o.2.2.2.2 e.1;exact HH.o.1 e)))
 have C1:=qN.o
 have HR1:Hid (mU w1 rb r):=fun i v hv=>C1.cell (HRP.o i v hv) (fun e=>by rcases e with e | e;exact HH.o.2.2.1 e.1.symm;exact hne e.symm)
 have q1:=HR1.o.at 1 _ rfl
 have q10:=HR1.o.at 10 _ rfl
 have q14:=HR1.o.at 14 _ rfl
 have hl1:=HL.o.cf C1
 have f1:=hl1.frozen 1
 have f10:=hl1.frozen 10
 have f14:=hl1.frozen 14
 clear C1 hl1
 go_wp2
 go_ret
 refine ⟨rfl,?_,?_,?_⟩
 ·have:=HR1.o;exact UO this _ _ _
 ·obtain ⟨off,h1,h2,h3⟩:=yJ.o;refine ⟨off,?_,h2,h3⟩;have hgr:=HH.o.2.2.1;rw[World.cell?_setCell_other _ _ _ _ (fun e=>hgr afO),World.cell?_setCell_other _ _ _ _ (fun e=>hgr afO),World.cell?_setCell_other _ _ _ _ (fun e=>hgr afO)];exact h1
 ·repeat refine CF.setCell ?_ _ _ _ (fun _=>.inr rfl)
  exact (CF.before HG.o qN.o).mono (fun b _ hlt e=>by rcases e with e | e;exact .inl e;omega)
variable {w w':World}
structure xE (w:World) (hb g T:Nat) (fv ro rr:Value) (now:Int):Prop where
 c0:w.cell? ⟨hb,0,none⟩=some (.iface T fv)
 c1:w.cell? ⟨hb,1,none⟩=some ro
 c2:w.cell? ⟨hb,2,none⟩=some rr
 c3:w.cell? ⟨hb,3,none⟩=some (.pointer (some ⟨g,0,none⟩))
 c4:w.cell? ⟨hb,4,none⟩=some (.int .i64 now)
theorem xE.cf {ex:Nat->Nat->Prop} {hb g T:Nat} {fv ro rr:Value} {now:Int} (h:xE w hb g T fv ro rr now) (k:CF w w' ex) (hx:∀ y,¬ ex hb y):xE w' hb g T fv ro rr now:=
 ⟨k.cell h.c0 (hx 0),k.cell h.c1 (hx 1),k.cell h.c2 (hx 2),k.cell h.c3 (hx 3),k.cell h.c4 (hx 4)⟩
theorem xE.grown {hb g T:Nat} {fv ro rr:Value} {now:Int} (h:xE w hb g T fv ro rr now) (k:w.grownBy w' none):xE w' hb g T fv ro rr now:=h.cf (CF.bN k (fun _ _=>False)) (fun _ e=>e)
theorem vD {v:Value} {p:Option Pl} (h:Out w v p []):∃ ao cap,v = .slice ao 0 cap/\∀ w,(Instr.sliceAt 37 (.slice ao 0 cap) none (some (.int .i64 0)) none).run prog w = .ok (.slice ao 0 cap) w:=by
 rcases h with ⟨_,rfl,_⟩ | ⟨q,_,rfl,_,_,_,_⟩
 ·exact ⟨none,0,rfl,fun w=>by kernel_rfl⟩
 ·refine ⟨_,_,rfl,fun w=>?_⟩;have he:prog.elem 37=5:=by simp[Program.elem,underlying37]
  have ht':prog.underlying 37=some (.slice (prog.elem 37)):=by rw[he];exact underlying37
  rw[run_sliceAt_slice w 37 _ _ _ _ ht',run_slice_h w 37 _ _ q.cap ht' .i64 0 afq afp,he];have hz:∀ W,(sizeOf 5).run prog W = .ok 1 W:=fun _=>by kernel_rfl
  rw[hz];simp only[Result.andThen,sliced,Int.toNat_zero,Nat.sub_zero,gi];split <;> first | rfl | simp[Addr.add_lit]
theorem Dg {v:Value} {p:Option Pl} {bs:List UInt8} (h:aU w.drew w' v p bs):aU w w' v p bs:=by
 obtain ⟨p',h1,h2,h3,h4⟩:=h;exact ⟨p',h1,h2.dG,h3,h4⟩
theorem xG (hb g T:Nat) (fv ro rr:Value) (pr:Option Pl) (now code:Int) (w:World) (h:xE w hb g T fv ro rr now) (hr:Out w rr pr []) (o:Off pr hb) (dm:In64 now) (hcode:In64 code) :
  Calls prog 143 #[.pointer (some ⟨hb,0,none⟩),.int .i64 code] w fun e w'=>∃ v',e = .returned v'/\aU w w' v' pr (bu now code):=by
 have HA:=hid (yE rr pr [] now code w.drew hr.drew dm hcode aft)
 obtain ⟨ao,cap,hv,hsl⟩:=vD hr
 rw[hv] at HA
 have c2:=h.c2
 rw[hv] at c2
 have c4:=h.c4
 have HO:=hid o
 clear h hr o dm hcode hv
 go_enter func143,ntmps143
 go_wp2_with fail
 go_region_held3 (fun w'=>w'.cell? ⟨hb,2,none⟩=some (.slice ao 0 cap)/\w'.cell? ⟨hb,4,none⟩=some (.int .i64 now)) (go_keep) (first|(go_at_call 190;refine HA.o.mono ?_;rintro e w1 ⟨v',rfl,M1⟩;have HM:=hid M1;clear M1;have c2':=HM.o.cf.dG.cell c2 (nY HO.o _);have c4':=HM.o.cf.dG.cell c4 (nY HO.o _)))
 go_wp2
 go_ret
 exact ⟨_,rfl,Dg HM.o⟩
variable {M:DM} {now:Int} {es:List BE} {ask:List Value} {T g hb sb:Nat} {dS rP:Nat->Nat->Prop} {dp po pr:Option Pl} {fv ro rr rv:Value} {W W':World} {J:World->Prop}
theorem Tryz.FM:(prog.info? 328).map (·.size)=some 3:=by kernel_rfl
theorem yT (S:ByteArray) (w:World) :
  Calls prog 174 #[.string S] w fun e w'=>e = .returned (.agg #[.string S,.int .i64 6,.int .i64 1])/\w.grownBy w' none:=by
 go_enter func174,ntmps174
 go_wp2
 exact bodyPost_ret (rM results174 _ _ _ w.heap.size rfl _ ((dX.new w _ 328).load 328 _ underlying328 rfl Tryz.FM)) rfl ⟨rfl,aE _ _ none⟩
theorem wR (S:ByteArray) (w:World) :
  Calls prog 175 #[.string S] w fun e w'=>e = .returned (.agg #[.string S,.int .i64 7,.int .i64 2])/\w.grownBy w' none:=by
 go_enter func175,ntmps175
 go_wp2
 exact bodyPost_ret (rM results175 _ _ _ w.heap.size rfl _ ((dX.new w _ 328).load 328 _ underlying328 rfl Tryz.FM)) rfl ⟨rfl,aE _ _ none⟩
structure BE.In (e:BE):Prop where
 aH:1<=e.aH/\e.aH<=4611686018427387904
 bI:In64 e.bI
 aD:In64 e.aD
 name:e.name.length<=1000
structure HS (hb g base T:Nat) (fv rv:Value) (po pr dp:Option Pl) (J:World->Prop) (dS rP:Nat->Nat->Prop) (es:List BE):Prop where
 abl:∀ W,(method 520 T fv "Find").run prog W = .ok (findF T,rv) W
 finds:Finds (findF T) J dS rP rv es
 hbF:∀ y,¬ dS hb y
 QT:∀ b y,base<=b->¬ dS b y
 zL:∀ b y,base<=b->rP b y
 poJ:∀ b y,Pl.has po b y->rP b y
 prJ:∀ b y,Pl.has pr b y->rP b y
 ZN:rP g 1
 Yw:∀ y,163<=y->y<188->rP g y
 poH:Off po hb
 prH:Off pr hb
 poG:∀ j,j<188->¬ Pl.has po g j
 prG:∀ j,j<188->¬ Pl.has pr g j
 ZO:∀ y,y<188->¬ dS g y
 hbg:hb≠g
 Kn:∀ p,dp=some p->p.g≠g/\p.g≠hb/\p.g<base/\∀ y,¬ dS p.g y/\¬ Pl.has po p.g y/\¬ Pl.has pr p.g y
 gb:g<base
 hbb:hb<base
 rQ:∀ e∈es,e.In
 sorted:es.Pairwise (fun x y=>Op.bytesLess x.name y.name=true)
def Yx (po:Option Pl) (dS:Nat->Nat->Prop) (b y:Nat):Prop:=dS b y\/Pl.has po b y
theorem lF {l:List UInt8} {e:BE} (h:BE.find es l=some e):e∈es:=List.mem_of_find?_eq_some h
theorem kT {l:List UInt8} {e:BE} (h:BE.find es l=some e):e.name=l:=by
 have:=List.find?_some h;simpa using this
theorem fB.cf {w':World} {ex:Nat->Nat->Prop} {b:Nat} {x s:BE} (h:fB w b x s) (k:CF w w' ex) (hx:∀ y,¬ ex b y):fB w' b x s:=
 ⟨k.range h.ax (fun _ _=>hx _),k.range h.aV (fun _ _=>hx _)⟩
theorem kJ {wish a b:Int} (h1:In64 wish):In64 (lesser (asked wish) (lesser (sat a) (sat b))):=by
 have ha:=zK a;have hb:=zK b;unfold In64 at *;unfold lesser asked;(repeat' split) <;> omega
structure FX (w W:World) (hb g base T:Nat) (fv ro rr:Value) (po pr dp:Option Pl) (dS:Nat->Nat->Prop) (M:DM) (now:Int) (sb:Nat) (ask:List Value):Prop where
 hear:xE W hb g T fv ro rr now
 dF:dO W g 0 dp M
 o:Out W ro po []
 r:Out W rr pr []
 ask:W.rangeAt sb 0 ask
 big:w.heap.size<=W.heap.size
 cf:CF w W (Yx po dS)
theorem acR {p:Prop} (h:p:=by
 rintro j _ ((e | e) | e)
 ·exact S.QT _ _ afp e
 ·have:=hpo _ _ e;omega
 ·omega):p:=h
theorem ac0 {p:Prop} (h:p:=by
 rintro q hq j hj ((e | e) | e)
 ·exact ((S.Kn q hq).2.2.2 _).1 e
 ·exact ((S.Kn q hq).2.2.2 _).2.1 e
 ·have:=(S.Kn q hq).2.2.1;omega):p:=h
theorem aen {p:Prop} (h:p:=by
 rintro j _ h2 ((e | e) | e)
 ·exact S.ZO j afp e
 ·exact S.poG j afp e
 ·omega):p:=h
theorem FX.step {base:Nat} (h:FX w W hb g base T fv ro rr po pr dp dS M now sb ask) (S:HS hb g base T fv rv po pr dp J dS rP es) (k:CF W W' (fun b y=>Yx po dS b y\/w.heap.size<b)) (hsb:sb=w.heap.size) (hbase:base<=w.heap.size) (hpo:∀ b y,Pl.has po b y->b<w.heap.size):FX w W' hb g base T fv ro rr po pr dp dS M now sb ask:=by
 have hb1:=S.hbb;have hg1:=S.gb;refine ⟨h.hear.cf k ?_,h.dF.cf k ?_ ?_,h.o.cf k (fun _ _ j hj=>absurd hj aft),h.r.cf k (fun _ _ j hj=>absurd hj aft),k.range h.ask ?_,?_,?_⟩
 ·rintro y ((e | e) | e)
  ·exact S.hbF y e
  ·exact nY S.poH y e
  ·omega
 ·exact aen
 ·exact ac0
 ·exact acR
 ·exact br h.big k.size
 ·exact h.cf.trans k (fun i o hi e=>by rcases e with e | e;exact e;omega)
structure D8 (J:World->Prop) (w W:World) (hb g base T:Nat) (fv ro rr:Value) (po pr dp:Option Pl) (dS:Nat->Nat->Prop) (M:DM) (now:Int) (sb:Nat) (ask:List Value):Prop extends FX w W hb g base T fv ro rr po pr dp dS M now sb ask where
 j:J W
theorem D8.step {base:Nat} (h:D8 J w W hb g base T fv ro rr po pr dp dS M now sb ask) (S:HS hb g base T fv rv po pr dp J dS rP es) (k:CF W W' (fun b y=>Pl.has po b y\/w.heap.size<b)) (hsb:sb=w.heap.size) (hbase:base<=w.heap.size) (hpo:∀ b y,Pl.has po b y->b<w.heap.size):D8 J w W' hb g base T fv ro rr po pr dp dS M now sb ask:=
 ⟨h.toFX.step S (k.mono (fun _ _ _ e=>e.elim (fun e=>.inl (.inr e)) .inr)) hsb hbase hpo,S.finds.stay _ _ h.j (k.mono (fun b y _ e=>e.elim (S.poJ b y) (fun e=>S.zL b y afp)))⟩
theorem D8.found {base:Nat} (h:D8 J w W hb g base T fv ro rr po pr dp dS M now sb ask) (S:HS hb g base T fv rv po pr dp J dS rP es) (k:CF W W' dS) (hj:J W') (hsb:sb=w.heap.size) (hbase:base<=w.heap.size) (hpo:∀ b y,Pl.has po b y->b<w.heap.size):D8 J w W' hb g base T fv ro rr po pr dp dS M now sb ask:=
 ⟨h.toFX.step S (k.mono (fun _ _ _ e=>.inl (.inl e))) hsb hbase hpo,hj⟩
variable {e f:BE} {q:FQ} {aC:Int}
theorem O3 (x y:Option BE) (now:Int) (a b c d:Int) (ha:0<=a/\a<=100) (hb:0<=b/\b<=100) (hc:0<=c/\c<=100) (hd:0<=d/\d<=100):In64 (dV x y now a b c d):=by
 unfold dV In64;cases x with
 | none=>show _<=a/\a<=_;omega
 | some e=>
  cases y with
  | none=>show _<=b/\b<=_;omega
  | some f=>
   simp only[];(repeat' split) <;> omega
theorem FN {x y:Option BE} {a b c d:Int} (ha:a≠0) (hb:b≠0) (h:dV x y now a b c d=0):∃ e f,x=some e/\y=some f:=by
 cases x with
 | none=>exact absurd h ha
 | some e=>
  cases y with
  | none=>exact absurd h hb
  | some f=>exact ⟨e,f,rfl,rfl⟩
theorem Np {x y:Option BE} (hx:BE.find M.bg q.ax=x) (hy:BE.find M.bg q.aV=y) (h:dV x y now 6 7 1 2≠0):dC M now (firstM M now q)=(bu now (dV x y now 6 7 1 2),M):=by
 unfold firstM;rw[hx,hy];cases x with
 | none=>rfl
 | some e=>
  cases y with
  | none=>rfl
  | some f=>
   simp only[];rw[if_pos h];rfl
theorem uh (hx:BE.find M.bg q.ax=some e) (hy:BE.find M.bg q.aV=some f) (h:dV (some e) (some f) now 6 7 1 2=0) (hc:dh M.aC now q e f≠0):dC M now (firstM M now q)=(bu now (dh M.aC now q e f),M):=by
 unfold firstM;rw[hx,hy];simp only[];rw[if_neg (fun n=>n h),if_pos hc];rfl
theorem UQ (hx:BE.find M.bg q.ax=some e) (hy:BE.find M.bg q.aV=some f) (h:dV (some e) (some f) now 6 7 1 2=0) (hc:dh M.aC now q e f=0):dC M now (firstM M now q)=if M.aO.length<24 then (bu now 60,M) else (kQ 11 {lJ now q e f with aM:=eO M.aO 0} f q.bS e.aH e.key 3 (eO M.aO 1) (eO M.aO 2),{M with aO:=M.aO.drop 24}):=by
 unfold firstM;rw[hx,hy];simp only[];rw[if_neg (fun n=>n h),if_neg (fun n=>n hc)];rfl
theorem UR (aC now:Int) (x:BE) (p:Option (Int×List UInt8)):In64 (eX aC now x p):=by
 unfold eX In64;cases p with
 | none=>
  simp only[];split <;> omega
 | some a=>
  simp only[];cases (eH x.key 1 a.2).bind jH with
  | none=>simp only[];omega
  | some t=>simp only[];(repeat' split) <;> omega
theorem Ko (h:eX aC now e q.pre≠0):dh aC now q e f=eX aC now e q.pre:=by
 unfold dh;rw[if_pos h]
theorem QU (h:eX aC now e q.pre=0) (ho:In64 q.aL) (hb:(bits .andNot .i64 q.aL 15==0)=false):dh aC now q e f=13:=by
 unfold dh;rw[Cy q.aL ho,gd] at hb;rw[if_neg (fun n=>n h),if_pos afp]
theorem Nq (h:eX aC now e q.pre=0) (ho:In64 q.aL) (hb:(bits .andNot .i64 q.aL 15==0)=true) (hs:rD now aC q e f=false):dh aC now q e f=10:=by
 unfold dh;rw[Cy q.aL ho,eL] at hb;rw[if_neg (fun n=>n h),if_neg afp];unfold rD at hs;by_cases h8:aG q.aL 8=true
 ·rw[if_pos h8] at hs;rw[if_pos ⟨h8,fun n=>by rw[n.1,n.2] at hs;cases hs⟩]
 ·rw[if_neg h8] at hs;rw[if_neg (fun n=>h8 n.1),if_pos ⟨by simpa using h8,by simpa using hs⟩]
theorem UT (h:eX aC now e q.pre=0) (ho:In64 q.aL) (hb:(bits .andNot .i64 q.aL 15==0)=true) (hs:rD now aC q e f=true):dh aC now q e f=if fJ now q e f<=bH now q then 11 else 0:=by
 unfold dh;rw[Cy q.aL ho,eL] at hb;rw[if_neg (fun n=>n h),if_neg afp];unfold rD at hs;by_cases h8:aG q.aL 8=true
 ·rw[if_pos h8] at hs;rw[if_neg (fun n=>n.2 (by simpa using hs)),if_neg (fun n=>by rw[h8] at n;cases n.1)]
 ·rw[if_neg h8] at hs;rw[if_neg (fun n=>h8 n.1),if_neg (fun n=>by have:=n.2;simp at hs;omega)]
theorem abm (q:FQ) (x s:BE):aG (nN q x s) 4=(aG q.aL 4 && (x.has 2 && s.has 2)):=by
 unfold nN jf;generalize q.pre.isSome=b1;generalize aG q.aL 8=b2;generalize (aG q.aL 1 && (x.has 4 && s.has 4))=b3;generalize (aG q.aL 2 && (x.has 8 && s.has 8))=b4;generalize (aG q.aL 4 && (x.has 2 && s.has 2))=b5;revert b1 b2 b3 b4 b5;decide
theorem UU (q:FQ) (x s:BE):In64 (nN q x s):=by
 unfold nN jf In64;(repeat' split) <;> omega
def QV (now:Int) (q:FQ) (x s:BE):Int:=if aG (nN q x s) 4=true then lesser (asked q.bV) (lesser (aX (bH now q) x.aD) (aX (bH now q) s.aD)) else 0
theorem Nr (now:Int) (q:FQ) (x s:BE):lJ now q x s=⟨nN q x s,0,q.ax,now,bH now q,fJ now q x s,QV now q x s⟩:=by
 have h:=EB now q x s;unfold lJ at h ⊢;simp only[] at h;rw[h];unfold QV fu;rw[abm];simp only[show aG 7 4=true from rfl,ej,true_and]
theorem FO (h:dO W g 0 dp M) (Er:24<=M.aO.length):∃ qd,dp=some qd/\W.cell? ⟨g,1,none⟩=some (.slice (some ⟨qd.g,qd.off,none⟩) M.aO.length qd.cap)/\M.aO.length<=qd.cap/\qd.cap<=9223372036854775807/\W.rangeAt qd.g qd.off (M.aO.map U8)/\Live W qd.g (qd.off+qd.cap):=by
 obtain ⟨v,hv,ho⟩:=h.aO;rcases ho with ⟨_,_,h0⟩ | ⟨q,hq,rfl,h1,h2,h3,h4⟩
 ·rw[h0] at Er;exact absurd Er afq
 ·unfold maxLen at h2;exact ⟨q,hq,hv,h1,h2,h4,h3⟩
theorem Kq (h:dO W g 0 dp M):∃ ao cap,W.cell? ⟨g,1,none⟩=some (.slice ao M.aO.length cap):=by
 obtain ⟨v,hv,ho⟩:=h.aO;obtain ⟨ao,cap,rfl,_⟩:=ho.shape;exact ⟨ao,cap,hv⟩
theorem Dh {W':World} {rb:Nat} {qd:Pl} {off:Nat} (h:dO W g 0 dp M) (Er:24<=M.aO.length) (hl:M.aO.length<=qd.cap) (hcm:qd.cap<=9223372036854775807) (hr:W.rangeAt qd.g qd.off (M.aO.map U8)) (hL:Live W qd.g (qd.off+qd.cap))
  (hc:W'.cell? ⟨g,1,none⟩=some (.slice (some ⟨qd.g,off,none⟩) (M.aO.length-24) (qd.cap-24))) (ho:qd.cap-24≠0->off=qd.off+24) (ho2:off<=qd.off+24) (k:CF W W' (fun b y=>b=g/\y=1\/b=rb)) (hg:qd.g≠g) (hgr:qd.g≠rb) (hrb:g≠rb) :
  dO W' g 0 (some ⟨qd.g,off,qd.cap-24⟩) {M with aO:=M.aO.drop 24}:=by
 refine ⟨h.live.cf k,k.cell h.aC (fun e=>by rcases e with ⟨_,e⟩ | e;exact absurd e afq;exact hrb e),⟨_,hc,.inr ⟨_,rfl,?_,?_,?_,?_,?_⟩⟩,h.bg.cf k (fun j h1 h2 e=>by rcases e with ⟨_,e⟩ | e;omega;exact hrb e),k.range h.aN (fun j _ e=>by rcases e with ⟨_,e⟩ | e;omega;exact hrb e),k.cell h.count (fun e=>by rcases e with ⟨_,e⟩ | e;exact absurd e afq;exact hrb e),h.few⟩
 ·show Value.slice _ _ _=Value.slice _ _ _;rw[cy]
 ·show (M.aO.drop 24).length<=qd.cap-24;rw[cy];omega
 ·show qd.cap-24<=maxLen;unfold maxLen;omega
 ·show Live W' qd.g (off+(qd.cap-24));exact (hL.cf k).mono afp
 ·show W'.rangeAt qd.g off ((M.aO.drop 24).map U8);by_cases h0:qd.cap-24=0
  ·have:M.aO.drop 24=[]:=by
    apply ep;rw[cy];omega
   rw[this];intro j v hv;simp at hv
  ·rw[ho h0];intro j v hv;refine k.cell ?_ (fun e=>by rcases e with ⟨e,_⟩ | e;exact hg e;exact hgr e);have:=hr (24+j) v (by rw[<-hv,List.map_drop,List.getElem?_drop]);rw[fN];exact this
theorem Di {w:World} {b:Nat} {cs:Array Value} (h:dX w b cs) (n:Nat) (hn:n<=cs.size):Live w b n:=by
 obtain ⟨e,h1⟩:=h;exact ⟨cs,e,h1,hn⟩
theorem Ak (now:Int) (q:FQ) (e f:BE) (h:In64 q.dJ):In64 (fJ now q e f):=kJ h
theorem Yy (now:Int) (q:FQ) (e f:BE) (h:In64 q.bV):In64 (QV now q e f):=by
 unfold QV;split
 ·exact kJ h
 ·exact ⟨by decide,by decide⟩
theorem Ns {now:Int} {q:FQ} {e f:BE} {es:List BE} {fl rn:Int} {a b c:UInt64} {M:DM} {rp:RP} (pM:rp=⟨⟨fl,0,q.ax,now,bH now q,fJ now q e f,rn⟩,q.aV,f.aH,f.key,0,q.bS,e.aH,e.key,0⟩) (hfl:In64 fl) (hrn:In64 rn) (hq:In64 now/\In64 M.aC/\In64 q.bS/\In64 q.kX/\In64 q.dJ/\In64 q.bV/\In64 q.aL) (hxy:BE.find es q.ax=some e/\BE.find es q.aV=some f) (hes:∀ e∈es,e.In):(rp.drawn a b c).Fits:=by
 subst pM;have h1:=hes e (lF hxy.1);have h2:=hes f (lF hxy.2);have n1:=kT hxy.1;have n2:=kT hxy.2;have i1:=h1.aH;have i2:=h2.aH;refine ⟨hfl,hq.1,?_,Ak now q e f hq.2.2.2.2.1,hrn,?_,hq.2.2.1,?_,?_,?_⟩
 ·show In64 (bH now q);unfold bH;split
  ·exact hq.2.2.2.1
  ·exact hq.1
 ·show In64 f.aH;unfold In64;omega
 ·show In64 e.aH;unfold In64;omega
 ·show q.ax.length<=1000;rw[<-n1];exact h1.name
 ·show q.aV.length<=1000;rw[<-n2];exact h2.name
theorem Kr {now:Int} {q:FQ} {e f:BE} {fl rn:Int} {a b c:UInt64} {rp:RP} (pM:rp=⟨⟨fl,0,q.ax,now,bH now q,fJ now q e f,rn⟩,q.aV,f.aH,f.key,0,q.bS,e.aH,e.key,0⟩) (ht:lJ now q e f=⟨fl,0,q.ax,now,bH now q,fJ now q e f,rn⟩) (hf:f.name=q.aV):[]++(rp.drawn a b c).uB 11 3=kQ 11 {lJ now q e f with aM:=a} f q.bS e.aH e.key 3 b c:=by
 rw[<-RP.Co,pM,ht,<-hf];rfl
variable {q:NQ}
def iq (M:DM) (now:Int) (q:NQ):Except Int TK×DM:=
 match gL M now q with
 | .error c=>(.error c,M)
 | .ok (t,p)=>if bL M.aC now M.aN p≠0 then (.error (bL M.aC now M.aN p),{M with aN:=bM M.aC now M.aN p}) else (.ok t,{M with aN:=bM M.aC now M.aN p})
theorem Kv (M:DM) (now:Int) (q:NQ):uX M now q=match (iq M now q).1 with
  | .error c=>(bu now c,(iq M now q).2)
  | .ok t=>dC (iq M now q).2 now (dZ (iq M now q).2 now q t):=by
 unfold uX iq
 cases gL M now q with
 | error c=>rfl
 | ok a=>
  obtain ⟨t,p⟩:=a
  simp only[]
  by_cases h:bL M.aC now M.aN p≠0
  ·rw[if_pos h,if_pos h]
  ·rw[if_neg h,if_neg h]
theorem Ht (l:List UInt8) (j:Nat):In64 (uJ l j):=by unfold uJ;exact sJ _
theorem abE (l:List UInt8):In64 (OT l).1:=by unfold OT;exact sJ _
theorem abF (l:List UInt8) (j:Nat):In64 (Hd l j):=by unfold Hd;exact sJ _
theorem Vg (l:List UInt8):(QJ l).In:=by
 have h0:=abE l;have h1:=Ht l 0;have h2:=Ht l 1;have h3:=Ht l 2;have h4:=Ht l 3;unfold QJ;generalize (OT l).1=a0 at *;generalize uJ l 0=a1 at *;generalize uJ l 1=a2 at *;generalize uJ l 2=a3 at *;generalize uJ l 3=a4 at *;exact ⟨h0,h1,h2,h3,h4⟩
theorem Vh (l:List UInt8):In64 (Sk l).time:=by
 have h0:=abF l 0;unfold Sk;generalize Hd l 0=a0 at *;exact h0
theorem Kw (h1:q.fo≠[116,103,115]) (h2:jc q=false):iq M now q=(.error 36,M):=by
 unfold iq gL
 rw[if_pos ⟨h1,fun n=>by
  unfold jc at h2;rw[cH n.2,fR] at h2
  rcases n.1 with e | e <;> rw[e] at h2 <;> simp at h2⟩]
theorem vZ (h:q.fo=[116,103,115]\/jc q=true):¬ (q.fo≠[116,103,115]/\¬ ((aG q.aL 16=true\/aG q.aL 32=true)/\q.fo=q.aV)):=by
 rintro ⟨h1,h2⟩;rcases h with h | h
 ·exact h1 h
 ·unfold jc at h;simp only[ej,Bool.or_eq_true,eL] at h;exact h2 h
theorem Ky (h:q.fo=[116,103,115]\/jc q=true) (hf:BE.find M.bg q.fo=none):iq M now q=(.error 7,M):=by
 unfold iq gL;rw[if_neg (vZ h),hf]
theorem Pe (h:q.fo=[116,103,115]\/jc q=true) (hf:BE.find M.bg q.fo=some e) (hk:e.keyOf q.nD=none):iq M now q=(.error 44,M):=by
 unfold iq gL;rw[if_neg (vZ h),hf];simp only[hk]
theorem Ny {key:UInt64} (h:q.fo=[116,103,115]\/jc q=true) (hf:BE.find M.bg q.fo=some e) (hk:e.keyOf q.nD=some key) (hd:gK (M4 (dD key 2 q.dQ))=false):iq M now q=(.error 31,M):=by
 unfold iq gL;rw[if_neg (vZ h),hf];simp only[hk];rw[rA,hd];rfl
theorem QZ {key:UInt64} (h:q.fo=[116,103,115]\/jc q=true) (hf:BE.find M.bg q.fo=some e) (hk:e.keyOf q.nD=some key) (hd:gK (M4 (dD key 2 q.dQ))=true) (hp:gK (OQ (dD (QJ (dD key 2 q.dQ)).aM 4 q.proof))=false):iq M now q=(.error 31,M):=by
 unfold iq gL;rw[if_neg (vZ h),hf];simp only[hk];rw[rA,hd,if_pos rfl];simp only[];rw[xB,hp];rfl
theorem Vi {key:UInt64} {t:TK} {p:PF} (h:q.fo=[116,103,115]\/jc q=true) (hf:BE.find M.bg q.fo=some e) (hk:e.keyOf q.nD=some key) (hd:gK (M4 (dD key 2 q.dQ))=true) (ht:QJ (dD key 2 q.dQ)=t) (hp:gK (OQ (dD t.aM 4 q.proof))=true) (hpq:Sk (dD t.aM 4 q.proof)=p):iq M now q=if p.ax≠t.ax then (.error 36,M) else if M.aC<dM p.time now then (.error 37,M) else if bL M.aC now M.aN p≠0 then (.error (bL M.aC now M.aN p),{M with aN:=bM M.aC now M.aN p}) else (.ok t,{M with aN:=bM M.aC now M.aN p}):=by
 unfold iq gL;rw[if_neg (vZ h),hf];simp only[hk];rw[rA,hd,if_pos rfl,ht];simp only[];rw[xB,hp,if_pos rfl,hpq];simp only[];by_cases h1:p.ax≠t.ax
 ·rw[if_pos h1,if_pos h1]
 ·rw[if_neg h1,if_neg h1];by_cases h2:M.aC<dM p.time now
  ·rw[if_pos h2,if_pos h2]
  ·rw[if_neg h2,if_neg h2]
end Go.Proofs.YteknelimjfgmaaaGreatDoor
