import Derived.Test.YteknelimjfgmaaaGreatDoorGJRBoxG
import Derived.Deep.RegionHeld3
namespace Go.Proofs.YteknelimjfgmaaaGreatDoor
set_option maxHeartbeats 1000000
open Go.RowKit
set_option maxRecDepth 100000
variable {bs:List UInt8} {b:Nat} {p:Option Pl} {v:Value} {W w:World}
structure RP where
 t:TK
 aV:List UInt8
 yG:Int
 Cj:UInt64
 uz:UInt64
 bS:Int
 xm:Int
 Ck:UInt64
 uA:UInt64
def RP.cells (r:RP):List Value:=[.int .i64 r.t.ay,.int .u64 (r.t.aM.toNat:Int),.string ⟨r.t.ax.toArray⟩,.int .i64 r.t.dY,.int .i64 r.t.start,.int .i64 r.t.fin,.int .i64 r.t.aD,.string ⟨r.aV.toArray⟩,.int .i64 r.yG,.int .u64 (r.Cj.toNat:Int),.int .u64 (r.uz.toNat:Int),.int .i64 r.bS,.int .i64 r.xm,.int .u64 (r.Ck.toNat:Int),.int .u64 (r.uA.toNat:Int)]
structure RP.Fits (r:RP):Prop where
 ay:In64 r.t.ay
 dY:In64 r.t.dY
 start:In64 r.t.start
 fin:In64 r.t.fin
 aD:In64 r.t.aD
 yG:In64 r.yG
 bS:In64 r.bS
 xm:In64 r.xm
 ax:r.t.ax.length<=1000
 aV:r.aV.length<=1000
def mU (w:World) (b:Nat) (r:RP):Prop:=w.rangeAt b 0 r.cells
def Off (p:Option Pl) (b:Nat):Prop:=∀ q,p=some q->b≠q.g
theorem mU.at {r:RP} (h:mU w b r) (k:Nat) (v:Value) (hv:r.cells[k]?=some v):w.cell? ⟨b,k,none⟩=some v:=by
 have:=h k v hv;rwa [cC] at this
theorem mU.cf {w':World} {r:RP} (h:mU w b r) (k:CF w w' (Pl.has p)) (o:Off p b):mU w' b r:=
 k.range h (fun j _=>by rintro ⟨q,hq,e,_⟩;exact o q hq e)
theorem mU.grown {w':World} {r:RP} (h:mU w b r) (k:w.grownBy w' none):mU w' b r:=
 (CF.bN k (fun _ _=>False)).range h (fun _ _ e=>e)
def Ctx (w:World) (b:Nat) (r:RP) (p:Option Pl) (W:World) (v:Value) (bs:List UInt8):Prop:=
 ∃ p1,Out W v p1 bs/\(CF w W (Pl.has p)/\(p1=p\/Pl.fresh w.heap.size p1)/\∀ q,p=some q->bs.length<=q.cap->p1=p)/\mU W b r/\Off p1 b/\b<w.heap.size/\Off p b
theorem Ctx.start {r:RP} (h:Out w v p bs) (hr:mU w b r) (hb:b<w.heap.size) (o:Off p b):Ctx w b r p w v bs:=
 ⟨p,h,⟨CF.refl _ _,.inl rfl,fun _ _ _=>rfl⟩,hr,o,hb,o⟩
theorem Ctx.more {r:RP} (h:Ctx w b r p W v bs):aU w W v p bs:=by
 obtain ⟨p1,h1,h2,_⟩:=h;exact ⟨p1,h1,h2⟩
theorem Ctx.rp {r:RP} (h:Ctx w b r p W v bs):mU W b r:=by
 obtain ⟨p1,h1,h2,h3,_⟩:=h;exact h3
theorem Ctx.call {P:Program} {f:Nat} {args:Array Value} {r:RP} {bs':List UInt8} (h:Ctx w b r p W v bs) (hl:bs.length<=bs'.length)
  (k:∀ p1,Out W v p1 bs->Off p1 b->b<W.heap.size->mU W b r->Calls P f args W fun e W'=>∃ v',e = .returned v'/\aU W W' v' p1 bs') :
  Calls P f args W fun e W'=>∃ v',e = .returned v'/\Ctx w b r p W' v' bs':=by
 obtain ⟨p1,h1,h2,h3,h4,h5,h6⟩:=h
 have h7:b<W.heap.size:=fW h5 h2.1.size
 refine (k p1 h1 h4 h7 h3).mono ?_
 rintro e W' ⟨v',rfl,R⟩
 refine ⟨v',rfl,?_⟩
 have hcf:=R.cf
 obtain ⟨p2,k1,k2⟩:=aU.comp h2 R hl
 refine ⟨p2,k1,k2,h3.cf hcf h4,?_,h5,h6⟩
 rcases k2.2.1 with e | e
 ·rw[e];exact h6
 ·intro q hq;have:=e q hq;omega
theorem Ctx.shape {r:RP} {n:Nat} (h:Ctx w b r p W v bs) (hn:Hid (bs.length=n)):∃ ao cap,v = .slice ao n cap/\n<=cap/\cap<=9223372036854775807:=by
 obtain ⟨p1,h1,_⟩:=h;obtain ⟨ao,cap,h1,h2,h3,_⟩:=h1.open hn;exact ⟨ao,cap,h1,h2,h3⟩
theorem Ctx.drewN {r:RP} (h:Ctx w b r p W v bs) (n:Nat):Ctx w b r p (W.drewN n) v bs:=by
 obtain ⟨p1,h1,h2,h3,h4⟩:=h;exact ⟨p1,h1,⟨h2.1.drewN n,h2.2⟩,h3,h4⟩
theorem Ctx.cast {r:RP} {bs':List UInt8} (h:Ctx w b r p W v bs) (e:bs=bs'):Ctx w b r p W v bs':=e ▸ h
theorem oQ (ov:Value) (p:Option Pl) (bs:List UInt8) (b:Nat) (r:RP) (w:World) (hb:Out w ov p bs) (hr:mU w b r) (ho:Off p b) (hf:r.Fits) (hl:bs.length<=700000) :
  Calls Tryz.prog 255 #[.pointer (some ⟨b,0,none⟩),ov] w fun e w'=>∃ v',e = .returned v'/\aU w w' v' p (bs++gP [r.t.dY,r.t.start,r.t.fin,r.t.aD]):=by
 have c3:=hr.at 3 _ rfl
 have c4:=hr.at 4 _ rfl
 have c5:=hr.at 5 _ rfl
 have c6:=hr.at 6 _ rfl
 have HA:Hid (∀ W g,w.grownBy W none->W.rangeAt g 0 ([r.t.dY,r.t.start,r.t.fin,r.t.aD].map TZ)->w.heap.size<=g->Calls Tryz.prog 229 #[ov,.slice (some ⟨g,0,none⟩) 4 4] W fun e w'=>∃ v',e = .returned v'/\aU w w' v' p (bs++gP [r.t.dY,r.t.start,r.t.fin,r.t.aD])):=by
  intro W g hG hR hg;refine (mF _ p bs _ g 4 4 W (hb.grown hG) hR (fun q hq e=>?_) (hid rfl) ?_ afp afp).mono (fun e w' ⟨v',e1,e2⟩=>⟨v',e1,e2.before hG⟩)
  ·have:=hb.Sa q hq;omega
  ·intro x hx;simp at hx;rcases hx with rfl | rfl | rfl | rfl
   ·exact hf.dY
   ·exact hf.start
   ·exact hf.fin
   ·exact hf.aD
 have HK:Hid (∀ W,CF w W (Pl.has p)->W.cell? ⟨b,3,none⟩=some (.int .i64 r.t.dY)/\W.cell? ⟨b,4,none⟩=some (.int .i64 r.t.start)/\W.cell? ⟨b,5,none⟩=some (.int .i64 r.t.fin)/\W.cell? ⟨b,6,none⟩=some (.int .i64 r.t.aD)):=
  fun W k=>⟨(hr.cf k ho).at 3 _ rfl,(hr.cf k ho).at 4 _ rfl,(hr.cf k ho).at 5 _ rfl,(hr.cf k ho).at 6 _ rfl⟩
 obtain ⟨a1,ha1⟩:=aq r.t.dY
 obtain ⟨a2,ha2⟩:=aq r.t.start
 obtain ⟨a3,ha3⟩:=aq r.t.fin
 obtain ⟨a4,ha4⟩:=aq r.t.aD
 rw[ha1] at c3
 rw[ha2] at c4
 rw[ha3] at c5
 rw[ha4] at c6
 rw[ha1,ha2,ha3,ha4] at HA HK
 rw[ha1,ha2,ha3,ha4]
 clear ha1 ha2 ha3 ha4 hr hf hb ho
 go_enter Tryz.func255,Tryz.ntmps255
 go_wp2_with fail
 go_region_held3 (fun w'=>w'.cell? ⟨b,3,none⟩=some (.int .i64 a1)/\w'.cell? ⟨b,4,none⟩=some (.int .i64 a2)/\w'.cell? ⟨b,5,none⟩=some (.int .i64 a3)/\w'.cell? ⟨b,6,none⟩=some (.int .i64 a4)) (go_keep) (first|(go_at_call 229;refine (HA.o _ _ ?gg ?gr ?gl).mono ?_;(case gg=>exact aY (aE _ _ none) _);(case gr=>exact aW _ _ _);(case gl=>exact bd _);rintro e w2 ⟨v2,rfl,R2⟩;obtain ⟨e3,e4,e5,e6⟩:=HK.o w2 R2.cf;have HR2:=hid R2;clear R2))
 go_wp2
 go_ret
 exact ⟨_,rfl,HR2.o⟩
set_option maxHeartbeats 2000000
open Proofs.Tryz
theorem afA {p:Prop} (h:p:=by have:=HL.o;simp only[bj];omega):p:=h
theorem oH (l:List UInt8):(dw l).length<=l.length+4:=lC 4 l
theorem Cm (k:UInt64):(mo k).length<=12:=by
 have:=oH (Pure.be k 8);rw[Pure.bX] at this;exact this
theorem kZ (a b:List UInt8):a.length<=(a++b).length:=by rw[bj];omega
def RP.times (r:RP):List UInt8:=gP [r.t.dY,r.t.start,r.t.fin,r.t.aD]
theorem RP.xq (r:RP):r.times.length<=40:=kF _
def RP.fV (r:RP):List UInt8:=bQ r.t.ay++(mo r.t.aM++(dw r.t.ax++r.times))
def RP.jK (r:RP):List UInt8:=mo r.t.aM++(gP [r.bS,r.t.ay]++(r.times++dw r.aV))
def RP.ticket (r:RP):List UInt8:=Box.box 48 (dw r.aV++(bQ r.yG++dw (Pure.fq r.Cj 2 r.uz (Box.box 48 r.fV))))
def RP.part (r:RP) (use:UInt64):List UInt8:=Box.box 48 (bQ r.xm++dw (Pure.fq r.Ck use r.uA (Box.box 48 r.jK)))
theorem aa0 {p:Prop} (h:p:=by
 rw[e]
 refine (hC.cast (bs':=bs++Z) (by rw[<-hZ];simp only[cR])).call ?_ (fun p1 o1 h1 h2 h3=>nG _ p1 bs Z 48 n0 _ _ o1 Ub rfl afp (by have:=Ub.o;omega))
 rw[bj,bj]
 exact Nat.add_le_add_left (rJ 48 Z) _):p:=h
theorem zA (ov:Value) (p:Option Pl) (bs:List UInt8) (b:Nat) (r:RP) (w:World) (hb:Out w ov p bs) (hr:mU w b r) (hlt:b<w.heap.size) (ho:Off p b) (hf:r.Fits) (hl:bs.length<=400000) :
  Calls prog 241 #[.pointer (some ⟨b,0,none⟩),ov] w fun e w'=>∃ v',e = .returned v'/\aU w w' v' p (bs++r.ticket):=by
 have HF:=hid hf
 obtain ⟨n0,hn0⟩:=aq bs.length
 obtain ⟨n2,hn2⟩:=aq ((bs++dw r.aV++bQ r.yG).length)
 have Ub:=hid hn0
 have IJ:=hid hn2
 have hL:(dw r.aV).length<=1004/\(bQ r.yG).length<=10/\(bQ r.t.ay).length<=10/\(mo r.t.aM).length<=12/\(dw r.t.ax).length<=1004/\r.times.length<=40:=
  ⟨by have:=oH r.aV;have:=hf.aV;omega,(fe _).2,(fe _).2,Cm _,by have:=oH r.t.ax;have:=hf.ax;omega,r.xq⟩
 obtain ⟨l1,l2,l3,l4,l5,l6⟩:=hL
 have aom:n2<=402000:=by rw[<-hn2];simp only[bj];omega
 have aea:n0<=400000:=by omega
 have HL:=hid (And.intro hl (And.intro l1 (And.intro l2 (And.intro l3 (And.intro l4 (And.intro l5 l6))))))
 have C0:=hid (Ctx.start hb hr hlt ho)
 have c0:=hr.at 7 _ rfl
 obtain ⟨ao,cap,rfl,hcap,hcm,hat,_⟩:=hb.open Ub
 clear hb hr hat hn0 hn2 hl l1 l2 l3 l4 l5 l6 hf
 go_enter func241,ntmps241
 go_wp2_with (first
  | (go_at_call 240;refine (C0.o.call (kZ _ (dw r.aV)) (fun p1 o1 h1 h2 h3=>mE _ p1 _ _ _ o1 (by have:=HF.o.aV;omega) (by have:=HL.o.1;omega))).mono ?_;clear C0;rintro e w1 ⟨v1,rfl,C1'⟩;have c1:=C1'.rp.at 8 _ rfl;have C1:=hid C1';clear C1')
  | (go_at_call 239;refine (C1.o.call (kZ _ (bQ r.yG)) (fun p1 o1 h1 h2 h3=>mD _ p1 _ _ _ o1 HF.o.yG.1 HF.o.yG.2 afA)).mono ?_;clear C1;rintro e w2 ⟨v2,rfl,LJ⟩;have c2:=LJ.rp.at 0 _ rfl;have C2:=hid LJ;obtain ⟨ao2,cap2,rfl,hc2,hm2⟩:=LJ.shape IJ;clear LJ)
  | (go_at_call 250;refine (C2.o.call (kZ _ (bQ r.t.ay)) (fun p1 o1 h1 h2 h3=>oZ _ p1 _ _ _ o1 HF.o.ay.1 HF.o.ay.2 afA)).mono ?_;clear C2;rintro e w3 ⟨v3,rfl,XT⟩;have c3:=XT.rp.at 1 _ rfl;have C3:=hid XT;clear XT)
  | (go_at_call 254;refine (C3.o.call (kZ _ (mo r.t.aM)) (fun p1 o1 h1 h2 h3=>wO _ p1 _ _ _ o1 afA)).mono ?_;clear C3;rintro e w4 ⟨v4,rfl,Uc⟩;have c4:=Uc.rp.at 2 _ rfl;have C4:=hid Uc;clear Uc)
  | (go_at_call 240;refine (C4.o.call (kZ _ (dw r.t.ax)) (fun p1 o1 h1 h2 h3=>mE _ p1 _ _ _ o1 (by have:=HF.o.ax;omega) afA)).mono ?_;clear C4;rintro e w5 ⟨v5,rfl,C5'⟩;have C5:=hid C5';clear C5')
  | (go_at_call 255;refine (C5.o.call (kZ _ r.times) (fun p1 o1 h1 h2 h3=>oQ _ p1 _ _ _ _ o1 h3 h1 HF.o afA)).mono ?_;clear C5;rintro e w6 ⟨v6,rfl,ZG⟩;have c6:=ZG.rp.at 9 _ rfl;have c7:=ZG.rp.at 10 _ rfl;have C6:=hid ZG;clear ZG))
 have HZ:Hid (∀ k,Calls prog 256 #[v6,.int .i64 (n2:Int),.int .u64 (r.Cj.toNat:Int),.int .i64 2,.int .u64 (r.uz.toNat:Int)] (w6.drewN k) fun e W'=>∃ v',e = .returned v'/\Ctx w b r p W' v' (bs++dw r.aV++bQ r.yG++dw (Pure.fq r.Cj 2 r.uz (Box.box 48 r.fV)))):=by
  intro k;have hin:r.fV.length<=3000:=by have:=HL.o;unfold RP.fV;simp only[bj];omega
  refine ((C6.o.drewN k).cast (bs':=bs++dw r.aV++bQ r.yG++r.fV) (by simp[RP.fV,List.append_assoc])).call ?_ (fun p1 o1 h1 h2 h3=>ve _ p1 _ _ r.Cj 2 r.uz _ _ n2 _ o1 IJ rfl (hid rfl) afq afp (by have:=IJ.o;omega));have h1:=rJ 4 (Pure.fq r.Cj 2 r.uz (Box.box 48 r.fV));have h2:=rJ 48 r.fV;rw[Pure.dz] at h1;unfold dw;simp only[bj];omega
 clear C6
 go_region_held3 (fun w'=>w'.cell? ⟨b,9,none⟩=some (.int .u64 (r.Cj.toNat:Int))/\w'.cell? ⟨b,10,none⟩=some (.int .u64 (r.uz.toNat:Int))) (go_keep) (first|(go_at_call 256;refine (HZ.o _).mono ?_;rintro e w7 ⟨v7,rfl,XU⟩;have d0:=XU.rp.at 9 _ rfl;have d1:=XU.rp.at 10 _ rfl;have C7:=hid XU;clear XU))
 have HW:Hid (∀ W,Ctx w b r p W v7 (bs++dw r.aV++bQ r.yG++dw (Pure.fq r.Cj 2 r.uz (Box.box 48 r.fV)))->Calls prog 230 #[v7,.int .i64 (n0:Int),.int .u8 48] W fun e W'=>∃ v',e = .returned v'/\Ctx w b r p W' v' (bs++r.ticket)):=by
  intro W hC;obtain ⟨Z,hZ⟩:=aq (dw r.aV++(bQ r.yG++dw (Pure.fq r.Cj 2 r.uz (Box.box 48 r.fV))));have hZl:Z.length<=6000:=by
   have:=HL.o;have h1:=lC 4 (Pure.fq r.Cj 2 r.uz (Box.box 48 r.fV));have h2:=lC 48 r.fV;rw[Pure.dz] at h1;have hin:r.fV.length<=3000:=(by unfold RP.fV;simp only[bj];omega);rw[<-hZ];unfold dw at *;simp only[bj];omega
  have e:bs++r.ticket=bs++Box.box 48 Z:=by rw[RP.ticket,hZ]
  exact aa0
 clear HZ
 go_wp2_with (go_at_call 230;(first | refine (HW.o _ C7.o).mono ?_ | refine (HW.o _ (C7.o.drewN _)).mono ?_);rintro e w8 ⟨v8,rfl,C8'⟩;have C8:=hid C8';clear C8')
 go_wp2
 go_ret
 exact ⟨_,rfl,C8.o.more⟩
theorem Ctx.aeb {P:Program} {f:Nat} {args:Array Value} {w:World} {b:Nat} {r:RP} {p:Option Pl} {W W2:World} {v:Value} {bs bs':List UInt8} (h:Ctx w b r p W v bs) (hG:W.grownBy W2 none) (hl:bs.length<=bs'.length)
  (k:∀ p1,Out W2 v p1 bs->(∀ q,p1=some q->q.g<W.heap.size)->Calls P f args W2 fun e W'=>∃ v',e = .returned v'/\aU W2 W' v' p1 bs') :
  Calls P f args W2 fun e W'=>∃ v',e = .returned v'/\Ctx w b r p W' v' bs':=by
 obtain ⟨p1,h1,h2,h3,h4,h5,h6⟩:=h
 refine (k p1 (h1.grown hG) (fun q hq=>h1.Sa q hq)).mono ?_
 rintro e W' ⟨v',rfl,R⟩
 refine ⟨v',rfl,?_⟩
 have hcf:=R.cf
 obtain ⟨p2,k1,k2⟩:=aU.comp h2 (R.before hG) hl
 refine ⟨p2,k1,k2,(h3.grown hG).cf hcf h4,?_,h5,h6⟩
 rcases k2.2.1 with e | e
 ·rw[e];exact h6
 ·intro q hq;have:=e q hq;omega
theorem Cn (ov:Value) (p:Option Pl) (bs:List UInt8) (b:Nat) (r:RP) (use:UInt64) (x:Int) (w:World) (hb:Out w ov p bs) (hr:mU w b r) (hlt:b<w.heap.size) (ho:Off p b) (hf:r.Fits) (hu:Hid (x=use.toNat)) (Xn:use.toNat<9223372036854775808) (hl:bs.length<=400000) :
  Calls prog 242 #[.pointer (some ⟨b,0,none⟩),ov,.int .i64 x] w fun e w'=>∃ v',e = .returned v'/\aU w w' v' p (bs++r.part use):=by
 have HF:=hid hf
 have HU:=hid Xn
 obtain ⟨n0,hn0⟩:=aq bs.length
 obtain ⟨n1,hn1⟩:=aq ((bs++bQ r.xm).length)
 have Ub:=hid hn0
 have LK:=hid hn1
 have hL:(dw r.aV).length<=1004/\(bQ r.xm).length<=10/\(gP [r.bS,r.t.ay]).length<=20/\(mo r.t.aM).length<=12/\r.times.length<=40:=
  ⟨by have:=oH r.aV;have:=hf.aV;omega,(fe _).2,kF _,Cm _,r.xq⟩
 obtain ⟨l1,l2,l3,l4,l6⟩:=hL
 have aon:n1<=402000:=by rw[<-hn1];simp only[bj];omega
 have aea:n0<=400000:=by omega
 have HL:=hid (And.intro hl (And.intro l1 (And.intro l2 (And.intro l3 (And.intro l4 l6)))))
 have C0:=hid (Ctx.start hb hr hlt ho)
 have c0:=hr.at 12 _ rfl
 obtain ⟨ao,cap,rfl,hcap,hcm,hat,_⟩:=hb.open Ub
 clear hb hr hat hn0 hn1 hl l1 l2 l3 l4 l6 hf Xn
 go_enter func242,ntmps242
 go_wp2_with (first
  | (go_at_call 239;refine (C0.o.call (kZ _ (bQ r.xm)) (fun p1 o1 h1 h2 h3=>mD _ p1 _ _ _ o1 HF.o.xm.1 HF.o.xm.2 (by have:=HL.o;omega))).mono ?_;clear C0;rintro e w2 ⟨v2,rfl,LJ⟩;have c2:=LJ.rp.at 1 _ rfl;have C2:=hid LJ;obtain ⟨ao2,cap2,rfl,hc2,hm2⟩:=LJ.shape LK;clear LJ)
  | (go_at_call 254;refine (C2.o.call (kZ _ (mo r.t.aM)) (fun p1 o1 h1 h2 h3=>wO _ p1 _ _ _ o1 afA)).mono ?_;clear C2;rintro e w4 ⟨v4,rfl,Uc⟩;have c4:=Uc.rp.at 11 _ rfl;have c5:=Uc.rp.at 0 _ rfl;have C4:=hid Uc;clear Uc))
 have HA:Hid (∀ W g,w4.grownBy W none->W.rangeAt g 0 ([r.bS,r.t.ay].map TZ)->w4.heap.size<=g->Calls prog 229 #[v4,.slice (some ⟨g,0,none⟩) 2 2] W fun e w'=>∃ v',e = .returned v'/\Ctx w b r p w' v' (bs++bQ r.xm++mo r.t.aM++gP [r.bS,r.t.ay])):=by
  intro W g hG hR hg;refine C4.o.aeb hG (kZ _ _) (fun p1 o1 h1=>mF _ p1 _ _ g 2 2 W o1 hR (fun q hq e=>?_) (hid rfl) ?_ afp ?_)
  ·have:=h1 q hq;omega
  ·intro y hy;simp at hy;rcases hy with rfl | rfl
   ·exact HF.o.bS
   ·exact HF.o.ay
  ·have:=HL.o;simp only[bj];omega
 clear C4
 obtain ⟨nn,hnn⟩:=aq r.bS
 obtain ⟨ff,Sd⟩:=aq r.t.ay
 rw[hnn] at c4
 rw[Sd] at c5
 have HNF:=hid (And.intro hnn Sd)
 clear hnn Sd
 go_region_held3 (fun w'=>w'.cell? ⟨b,11,none⟩=some (.int .i64 nn)/\w'.cell? ⟨b,0,none⟩=some (.int .i64 ff)) (go_keep) (first|(go_at_call 229;refine (HA.o _ _ ?gg ?gr ?gl).mono ?_;(case gg=>exact aY (aE _ _ none) _);(case gr=>rw[HNF.o.1,HNF.o.2];exact aW _ _ _);(case gl=>exact bd _);rintro e w5 ⟨v5,rfl,C5'⟩;have d0:=C5'.rp.at 11 _ rfl;have d1:=C5'.rp.at 0 _ rfl;rw[HNF.o.1] at d0;rw[HNF.o.2] at d1;have C5:=hid C5';clear C5'))
 clear HA
 go_wp2_with (first
  | (go_at_call 255;(first | refine (C5.o.call (kZ _ r.times) (fun p1 o1 h1 h2 h3=>oQ _ p1 _ _ _ _ o1 h3 h1 HF.o afA)).mono ?_ | refine ((C5.o.drewN _).call (kZ _ r.times) (fun p1 o1 h1 h2 h3=>oQ _ p1 _ _ _ _ o1 h3 h1 HF.o afA)).mono ?_);clear C5;rintro e w6 ⟨v6,rfl,ZG⟩;have e7:=ZG.rp.at 7 _ rfl;have C6:=hid ZG;clear ZG)
  | (go_at_call 240;refine (C6.o.call (kZ _ (dw r.aV)) (fun p1 o1 h1 h2 h3=>mE _ p1 _ _ _ o1 (by have:=HF.o.aV;omega) afA)).mono ?_;clear C6;rintro e w7 ⟨v7,rfl,XU⟩;have e8:=XU.rp.at 13 _ rfl;have e9:=XU.rp.at 14 _ rfl;have C7:=hid XU;clear XU))
 have HZ:Hid (∀ k,Calls prog 256 #[v7,.int .i64 (n1:Int),.int .u64 (r.Ck.toNat:Int),.int .i64 x,.int .u64 (r.uA.toNat:Int)] (w7.drewN k) fun e W'=>∃ v',e = .returned v'/\Ctx w b r p W' v' (bs++bQ r.xm++dw (Pure.fq r.Ck use r.uA (Box.box 48 r.jK)))):=by
  intro k;have hin:r.jK.length<=3000:=by have:=HL.o;unfold RP.jK;simp only[bj];omega
  refine ((C7.o.drewN k).cast (bs':=bs++bQ r.xm++r.jK) (by simp[RP.jK,List.append_assoc])).call ?_ (fun p1 o1 h1 h2 h3=>ve _ p1 _ _ r.Ck use r.uA _ _ n1 _ o1 LK rfl hu HU.o afp (by have:=LK.o;omega));have h1:=rJ 4 (Pure.fq r.Ck use r.uA (Box.box 48 r.jK));have h2:=rJ 48 r.jK;rw[Pure.dz] at h1;unfold dw;simp only[bj];omega
 clear C7
 go_region_held3 (fun w'=>w'.cell? ⟨b,13,none⟩=some (.int .u64 (r.Ck.toNat:Int))/\w'.cell? ⟨b,14,none⟩=some (.int .u64 (r.uA.toNat:Int))) (go_keep) (first|(go_at_call 256;refine (HZ.o _).mono ?_;rintro e w8 ⟨v8,rfl,C8'⟩;have f0:=C8'.rp.at 13 _ rfl;have f1:=C8'.rp.at 14 _ rfl;have C8:=hid C8';clear C8'))
 have HW:Hid (∀ W,Ctx w b r p W v8 (bs++bQ r.xm++dw (Pure.fq r.Ck use r.uA (Box.box 48 r.jK)))->Calls prog 230 #[v8,.int .i64 (n0:Int),.int .u8 48] W fun e W'=>∃ v',e = .returned v'/\Ctx w b r p W' v' (bs++r.part use)):=by
  intro W hC;obtain ⟨Z,hZ⟩:=aq (bQ r.xm++dw (Pure.fq r.Ck use r.uA (Box.box 48 r.jK)));have hZl:Z.length<=6000:=by
   have:=HL.o;have h1:=lC 4 (Pure.fq r.Ck use r.uA (Box.box 48 r.jK));have h2:=lC 48 r.jK;rw[Pure.dz] at h1;have hin:r.jK.length<=3000:=(by unfold RP.jK;simp only[bj];omega);rw[<-hZ];unfold dw at *;simp only[bj];omega
  have e:bs++r.part use=bs++Box.box 48 Z:=by rw[RP.part,hZ]
  exact aa0
 clear HZ
 go_wp2_with (go_at_call 230;(first | refine (HW.o _ C8.o).mono ?_ | refine (HW.o _ (C8.o.drewN _)).mono ?_);rintro e w9 ⟨v9,rfl,C9'⟩;have C9:=hid C9';clear C9')
 go_wp2
 go_ret
 exact ⟨_,rfl,C9.o.more⟩
def RP.uB (r:RP) (kind:Int) (use:UInt64):List UInt8:=Box.box 48 (bQ kind++(dw r.t.ax++(r.ticket++r.part use)))
theorem RP.Co (t:TK) (s:BE) (bS aH:Int) (key use a b:UInt64) (kind:Int):(RP.mk t s.name s.aH s.key a bS aH key b).uB kind use=kQ kind t s bS aH key use a b:=by
 simp[RP.uB,RP.ticket,RP.part,RP.fV,RP.jK,RP.times,kQ,vT,nC,TK.plain,jm,gP]
theorem RP.lens (r:RP) (use:UInt64) (hf:r.Fits):r.ticket.length<=7000/\(r.part use).length<=7000/\(dw r.t.ax).length<=1004:=by
 have l1:=oH r.aV;have l2:=oH r.t.ax;have l3:=Cm r.t.aM;have l4:=r.xq;have l5:=(fe r.t.ay).2;have l6:=(fe r.yG).2;have l7:=(fe r.xm).2;have l8:=kF [r.bS,r.t.ay];have k1:=hf.aV;have k2:=hf.ax;simp only[cN,List.length_nil] at l8;have hin:r.fV.length<=3000:=by unfold RP.fV;simp only[bj];omega
 have hip:r.jK.length<=3000:=by unfold RP.jK;simp only[bj];omega
 refine ⟨?_,?_,by omega⟩
 ·unfold RP.ticket;have h1:=oH (Pure.fq r.Cj 2 r.uz (Box.box 48 r.fV));have h2:=lC 48 r.fV;rw[Pure.dz] at h1;refine br (lC _ _) ?_;simp only[bj];omega
 ·unfold RP.part;have h1:=oH (Pure.fq r.Ck use r.uA (Box.box 48 r.jK));have h2:=lC 48 r.jK;rw[Pure.dz] at h1;refine br (lC _ _) ?_;simp only[bj];omega
theorem yH (ov:Value) (p:Option Pl) (bs:List UInt8) (b:Nat) (r:RP) (use:UInt64) (kind x:Int) (w:World) (hb:Out w ov p bs) (hr:mU w b r) (hlt:b<w.heap.size) (ho:Off p b) (hf:r.Fits) (hk:In64 kind) (hu:Hid (x=use.toNat)) (Xn:use.toNat<9223372036854775808) (hl:bs.length<=300000) :
  Calls prog 217 #[.pointer (some ⟨b,0,none⟩),ov,.int .i64 kind,.int .i64 x] w fun e w'=>∃ v',e = .returned v'/\aU w w' v' p (bs++r.uB kind use):=by
 have HF:=hid hf
 have HU:=hid Xn
 have HKi:=hid hk
 obtain ⟨n0,hn0⟩:=aq bs.length
 have Ub:=hid hn0
 have aea:n0<=300000:=by omega
 have HL:=hid (And.intro hl (And.intro (fe kind).2 (r.lens use hf)))
 have C0:=hid (Ctx.start hb hr hlt ho)
 obtain ⟨ao,cap,rfl,hcap,hcm,hat,_⟩:=hb.open Ub
 clear hb hr hat hn0 hl hf Xn hk
 have HW:Hid (∀ v8 W,Ctx w b r p W v8 (bs++bQ kind++dw r.t.ax++r.ticket++r.part use)->Calls prog 230 #[v8,.int .i64 (n0:Int),.int .u8 48] W fun e W'=>∃ v',e = .returned v'/\Ctx w b r p W' v' (bs++r.uB kind use)):=by
  intro v8 W hC;obtain ⟨Z,hZ⟩:=aq (bQ kind++(dw r.t.ax++(r.ticket++r.part use)));have hZl:Z.length<=20000:=by
   have:=HL.o;rw[<-hZ];simp only[bj];omega
  have e:bs++r.uB kind use=bs++Box.box 48 Z:=by rw[RP.uB,hZ]
  exact aa0
 go_enter func217,ntmps217
 go_wp2_with (first
  | (go_at_call 239;refine (C0.o.call (kZ _ (bQ kind)) (fun p1 o1 h1 h2 h3=>mD _ p1 _ _ _ o1 HKi.o.1 HKi.o.2 (by have:=HL.o;omega))).mono ?_;clear C0;rintro e w1 ⟨v1,rfl,C1'⟩;have c1:=C1'.rp.at 2 _ rfl;have C1:=hid C1';clear C1')
  | (go_at_call 240;refine (C1.o.call (kZ _ (dw r.t.ax)) (fun p1 o1 h1 h2 h3=>mE _ p1 _ _ _ o1 (by have:=HF.o.ax;omega) afA)).mono ?_;clear C1;rintro e w2 ⟨v2,rfl,LJ⟩;have C2:=hid LJ;clear LJ)
  | (go_at_call 241;refine (C2.o.call (kZ _ r.ticket) (fun p1 o1 h1 h2 h3=>zA _ p1 _ _ _ _ o1 h3 h2 h1 HF.o afA)).mono ?_;clear C2;rintro e w3 ⟨v3,rfl,XT⟩;have C3:=hid XT;clear XT)
  | (go_at_call 242;refine (C3.o.call (kZ _ (r.part use)) (fun p1 o1 h1 h2 h3=>Cn _ p1 _ _ _ use x _ o1 h3 h2 h1 HF.o hu HU.o afA)).mono ?_;clear C3;rintro e w4 ⟨v4,rfl,Uc⟩;have C4:=hid Uc;clear Uc)
  | (go_at_call 230;refine (HW.o _ _ C4.o).mono ?_;rintro e w9 ⟨v9,rfl,C9'⟩;have C9:=hid C9';clear C9'))
 go_wp2
 go_ret
 exact ⟨_,rfl,C9.o.more⟩
theorem adi {p:Prop} (h:p:=by
 go_wp2_with (go_at_call 217;refine HA.o.mono ?_;rintro e w2 ⟨v2,rfl,R2⟩)
 go_wp2
 go_ret
 exact ⟨_,rfl,R2⟩):p:=h
theorem yI (ov:Value) (p:Option Pl) (bs:List UInt8) (b:Nat) (r:RP) (w:World) (hb:Out w ov p bs) (hr:mU w b r) (hlt:b<w.heap.size) (ho:Off p b) (hf:r.Fits) (hl:bs.length<=300000) :
  Calls prog 183 #[.pointer (some ⟨b,0,none⟩),ov] w fun e w'=>∃ v',e = .returned v'/\aU w w' v' p (bs++r.uB 11 3):=by
 have HA:=hid (yH ov p bs b r 3 11 3 w hb hr hlt ho hf (by constructor <;> decide) (hid rfl) afq hl)
 clear hb hr ho hf
 go_enter func183,ntmps183
 exact adi
theorem zB (ov:Value) (p:Option Pl) (bs:List UInt8) (b:Nat) (r:RP) (w:World) (hb:Out w ov p bs) (hr:mU w b r) (hlt:b<w.heap.size) (ho:Off p b) (hf:r.Fits) (hl:bs.length<=300000) :
  Calls prog 189 #[.pointer (some ⟨b,0,none⟩),ov] w fun e w'=>∃ v',e = .returned v'/\aU w w' v' p (bs++r.uB 13 5):=by
 have HA:=hid (yH ov p bs b r 5 13 5 w hb hr hlt ho hf (by constructor <;> decide) (hid rfl) afq hl)
 clear hb hr ho hf
 go_enter func189,ntmps189
 exact adi
end Go.Proofs.YteknelimjfgmaaaGreatDoor
