/-
  
  
  
  
-/
import Derived.Test.YtpibgolaaaemnaaGreatDoorGUPWriteB
import Derived.Deep.RegionHeld3
namespace Go.Proofs.YtpibgolaaaemnaaGreatDoor
open Go.RowKit
set_option maxRecDepth 100000
structure RP where
 t:TK
 az:List UInt8
 wB:Int
 Ad:UInt64
 rD:UInt64
 aB:Int
 uT:Int
 Ae:UInt64
 rE:UInt64
def RP.cells (r:RP):List Value:=[.int .i64 r.t.ay,.int .u64 (r.t.aU.toNat:Int),.string ⟨r.t.af.toArray⟩,.int .i64 r.t.eH,.int .i64 r.t.start,.int .i64 r.t.fin,.int .i64 r.t.aF,.string ⟨r.az.toArray⟩,.int .i64 r.wB,.int .u64 (r.Ad.toNat:Int),.int .u64 (r.rD.toNat:Int),.int .i64 r.aB,.int .i64 r.uT,.int .u64 (r.Ae.toNat:Int),.int .u64 (r.rE.toNat:Int)]
structure RP.Fits (r:RP):Prop where
 ay:In64 r.t.ay
 eH:In64 r.t.eH
 start:In64 r.t.start
 fin:In64 r.t.fin
 aF:In64 r.t.aF
 wB:In64 r.wB
 aB:In64 r.aB
 uT:In64 r.uT
 af:r.t.af.length≤1000
 az:r.az.length≤1000
def kQ (w:World) (b:Nat) (r:RP):Prop:=w.rangeAt b 0 r.cells
def Off (p:Option Pl) (b:Nat):Prop:=∀ q,p=some q→b≠q.g
theorem kQ.at {w:World} {b:Nat} {r:RP} (h:kQ w b r) (k:Nat) (v:Value) (hv:r.cells[k]?=some v):w.cell? ⟨b,k,none⟩=some v:=by
 have:=h k v hv
 rwa [Nat.zero_add] at this
theorem kQ.cf {w w':World} {b:Nat} {r:RP} {p:Option Pl} (h:kQ w b r) (k:CF w w' (Pl.has p)) (o:Off p b):kQ w' b r:=
 k.range h (fun j _=>by rintro ⟨q,hq,e,_⟩;exact o q hq e)
theorem kQ.grown {w w':World} {b:Nat} {r:RP} (h:kQ w b r) (k:w.grownBy w' none):kQ w' b r:=
 (CF.aW k (fun _ _=>False)).range h (fun _ _ e=>e)
def Ctx (w:World) (b:Nat) (r:RP) (p:Option Pl) (W:World) (v:Value) (bs:List UInt8):Prop:=
 ∃ p1,Out W v p1 bs∧(CF w W (Pl.has p)∧(p1=p∨Pl.fresh w.heap.size p1)∧∀ q,p=some q→bs.length≤q.cap→p1=p)∧kQ W b r∧Off p1 b∧b<w.heap.size∧Off p b
theorem Ctx.start {w:World} {b:Nat} {r:RP} {p:Option Pl} {v:Value} {bs:List UInt8} (h:Out w v p bs) (hr:kQ w b r) (hb:b<w.heap.size) (o:Off p b):Ctx w b r p w v bs:=
 ⟨p,h,⟨CF.refl _ _,.inl rfl,fun _ _ _=>rfl⟩,hr,o,hb,o⟩
theorem Ctx.more {w:World} {b:Nat} {r:RP} {p:Option Pl} {W:World} {v:Value} {bs:List UInt8} (h:Ctx w b r p W v bs):aI w W v p bs:=by
 obtain ⟨p1,h1,h2,_⟩:=h
 exact ⟨p1,h1,h2⟩
theorem Ctx.rp {w:World} {b:Nat} {r:RP} {p:Option Pl} {W:World} {v:Value} {bs:List UInt8} (h:Ctx w b r p W v bs):kQ W b r:=by
 obtain ⟨p1,h1,h2,h3,_⟩:=h
 exact h3
theorem Ctx.call {P:Program} {f:Nat} {args:Array Value} {w:World} {b:Nat} {r:RP} {p:Option Pl} {W:World} {v:Value} {bs bs':List UInt8} (h:Ctx w b r p W v bs) (hl:bs.length≤bs'.length)
  (k:∀ p1,Out W v p1 bs→Off p1 b→b<W.heap.size→kQ W b r→Calls P f args W fun e W'=>∃ v',e = .returned v'∧aI W W' v' p1 bs') :
  Calls P f args W fun e W'=>∃ v',e = .returned v'∧Ctx w b r p W' v' bs':=by
 obtain ⟨p1,h1,h2,h3,h4,h5,h6⟩:=h
 have h7:b<W.heap.size:=Nat.lt_of_lt_of_le h5 h2.1.size
 refine (k p1 h1 h4 h7 h3).mono ?_
 rintro e W' ⟨v',rfl,R⟩
 refine ⟨v',rfl,?_⟩
 have hcf:=R.cf
 obtain ⟨p2,k1,k2⟩:=aI.comp h2 R hl
 refine ⟨p2,k1,k2,h3.cf hcf h4,?_,h5,h6⟩
 rcases k2.2.1 with e | e
 ·rw[e];exact h6
 ·intro q hq
  have:=e q hq
  omega
theorem Ctx.shape {w:World} {b:Nat} {r:RP} {p:Option Pl} {W:World} {v:Value} {bs:List UInt8} {n:Nat} (h:Ctx w b r p W v bs) (hn:Hid (bs.length=n)):∃ ao cap,v = .slice ao n cap∧n≤cap∧cap≤9223372036854775807:=by
 obtain ⟨p1,h1,_⟩:=h
 obtain ⟨ao,cap,h1,h2,h3,_⟩:=h1.open hn
 exact ⟨ao,cap,h1,h2,h3⟩
theorem Ctx.drewN {w:World} {b:Nat} {r:RP} {p:Option Pl} {W:World} {v:Value} {bs:List UInt8} (h:Ctx w b r p W v bs) (n:Nat):Ctx w b r p (W.drewN n) v bs:=by
 obtain ⟨p1,h1,h2,h3,h4⟩:=h
 exact ⟨p1,h1,⟨h2.1.drewN n,h2.2⟩,h3,h4⟩
theorem Ctx.cast {w:World} {b:Nat} {r:RP} {p:Option Pl} {W:World} {v:Value} {bs bs':List UInt8} (h:Ctx w b r p W v bs) (e:bs=bs'):Ctx w b r p W v bs':=e ▸ h
set_option maxHeartbeats 1000000 in
theorem mf (ov:Value) (p:Option Pl) (bs:List UInt8) (b:Nat) (r:RP) (w:World) (hb:Out w ov p bs) (hr:kQ w b r) (ho:Off p b) (hf:r.Fits) (hl:bs.length≤700000) :
  Calls Tryz.prog 187 #[.pointer (some ⟨b,0,none⟩),ov] w fun e w'=>∃ v',e = .returned v'∧aI w w' v' p (bs++fT [r.t.eH,r.t.start,r.t.fin,r.t.aF]):=by
 have c3:=hr.at 3 _ rfl
 have c4:=hr.at 4 _ rfl
 have c5:=hr.at 5 _ rfl
 have c6:=hr.at 6 _ rfl
 have HA:Hid (∀ W g,w.grownBy W none→W.rangeAt g 0 ([r.t.eH,r.t.start,r.t.fin,r.t.aF].map Q6)→w.heap.size≤g→Calls Tryz.prog 142 #[ov,.slice (some ⟨g,0,none⟩) 4 4] W fun e w'=>∃ v',e = .returned v'∧aI w w' v' p (bs++fT [r.t.eH,r.t.start,r.t.fin,r.t.aF])):=by
  intro W g hG hR hg
  refine (kD _ p bs _ g 4 4 W (hb.grown hG) hR (fun q hq e=>?_) (hid rfl) ?_ (by omega) (by omega)).mono (fun e w' ⟨v',e1,e2⟩=>⟨v',e1,e2.before hG⟩)
  ·have:=hb.Et q hq;omega
  ·intro x hx
   simp at hx
   rcases hx with rfl | rfl | rfl | rfl
   ·exact hf.eH
   ·exact hf.start
   ·exact hf.fin
   ·exact hf.aF
 have HK:Hid (∀ W,CF w W (Pl.has p)→W.cell? ⟨b,3,none⟩=some (.int .i64 r.t.eH)∧W.cell? ⟨b,4,none⟩=some (.int .i64 r.t.start)∧W.cell? ⟨b,5,none⟩=some (.int .i64 r.t.fin)∧W.cell? ⟨b,6,none⟩=some (.int .i64 r.t.aF)):=
  fun W k=>⟨(hr.cf k ho).at 3 _ rfl,(hr.cf k ho).at 4 _ rfl,(hr.cf k ho).at 5 _ rfl,(hr.cf k ho).at 6 _ rfl⟩
 obtain ⟨a1,ha1⟩:∃ x,r.t.eH=x:=⟨_,rfl⟩
 obtain ⟨a2,ha2⟩:∃ x,r.t.start=x:=⟨_,rfl⟩
 obtain ⟨a3,ha3⟩:∃ x,r.t.fin=x:=⟨_,rfl⟩
 obtain ⟨a4,Yy⟩:∃ x,r.t.aF=x:=⟨_,rfl⟩
 rw[ha1] at c3
 rw[ha2] at c4
 rw[ha3] at c5
 rw[Yy] at c6
 rw[ha1,ha2,ha3,Yy] at HA HK
 rw[ha1,ha2,ha3,Yy]
 clear ha1 ha2 ha3 Yy hr hf hb ho
 go_enter Tryz.func187,Tryz.ntmps187
 go_wp2_with fail
 go_region_held3 (fun w'=>w'.cell? ⟨b,3,none⟩=some (.int .i64 a1)∧w'.cell? ⟨b,4,none⟩=some (.int .i64 a2)∧w'.cell? ⟨b,5,none⟩=some (.int .i64 a3)∧w'.cell? ⟨b,6,none⟩=some (.int .i64 a4)) (go_keep) (first|(go_at_call 142;refine (HA.out _ _ ?gg ?gr ?gl).mono ?_;(case gg=>exact aO (World.grownBy_alloc _ _ none) _);(case gr=>exact aQ _ _ _);(case gl=>exact Nat.le_refl _);rintro e w2 ⟨v2,rfl,R2⟩;obtain ⟨e3,e4,e5,e6⟩:=HK.out w2 R2.cf;have HR2:=hid R2;clear R2))
 go_wp2
 go_ret
 exact ⟨_,rfl,HR2.out⟩
end Go.Proofs.YtpibgolaaaemnaaGreatDoor
namespace Go.Proofs.YtpibgolaaaemnaaGreatDoor
open Go.RowKit
set_option maxRecDepth 100000
theorem lV (l:List UInt8):(bD l).length≤l.length+4:=kC 4 l
theorem Af (k:UInt64):(kY k).length≤12:=by
 have:=lV (Pure.be k 8)
 rw[Pure.di] at this
 exact this
theorem jA (a b:List UInt8):a.length≤(a++b).length:=by rw[List.length_append];omega
def RP.times (r:RP):List UInt8:=fT [r.t.eH,r.t.start,r.t.fin,r.t.aF]
theorem RP.uU (r:RP):r.times.length≤40:=jg _
def RP.fu (r:RP):List UInt8:=aN r.t.ay++(kY r.t.aU++(bD r.t.af++r.times))
def RP.iP (r:RP):List UInt8:=kY r.t.aU++(fT [r.aB,r.t.ay]++(r.times++bD r.az))
def RP.ticket (r:RP):List UInt8:=Box.box 48 (bD r.az++(aN r.wB++bD (Pure.dK r.Ad 2 r.rD (Box.box 48 r.fu))))
def RP.part (r:RP) (use:UInt64):List UInt8:=Box.box 48 (aN r.uT++bD (Pure.dK r.Ae use r.rE (Box.box 48 r.iP)))
set_option maxHeartbeats 2000000 in
theorem xI (ov:Value) (p:Option Pl) (bs:List UInt8) (b:Nat) (r:RP) (w:World) (hb:Out w ov p bs) (hr:kQ w b r) (hlt:b<w.heap.size) (ho:Off p b) (hf:r.Fits) (hl:bs.length≤400000) :
  Calls Tryz.prog 165 #[.pointer (some ⟨b,0,none⟩),ov] w fun e w'=>∃ v',e = .returned v'∧aI w w' v' p (bs++r.ticket):=by
 have HF:=hid hf
 obtain ⟨n0,hn0⟩:∃ n,bs.length=n:=⟨_,rfl⟩
 obtain ⟨n2,hn2⟩:∃ n,(bs++bD r.az++aN r.wB).length=n:=⟨_,rfl⟩
 have Q7:=hid hn0
 have HN2:=hid hn2
 have hL:(bD r.az).length≤1004∧(aN r.wB).length≤10∧(aN r.t.ay).length≤10∧(kY r.t.aU).length≤12∧(bD r.t.af).length≤1004∧r.times.length≤40:=
  ⟨by have:=lV r.az;have:=hf.az;omega,(eZ _).2,(eZ _).2,Af _,by have:=lV r.t.af;have:=hf.af;omega,r.uU⟩
 obtain ⟨l1,l2,l3,l4,l5,l6⟩:=hL
 have amf:n2≤402000:=by rw[←hn2];simp only[List.length_append];omega
 have abn:n0≤400000:=by omega
 have HL:=hid (And.intro hl (And.intro l1 (And.intro l2 (And.intro l3 (And.intro l4 (And.intro l5 l6))))))
 have C0:=hid (Ctx.start hb hr hlt ho)
 have c0:=hr.at 7 _ rfl
 obtain ⟨ao,cap,rfl,hcap,hcm,hat,_⟩:=hb.open Q7
 clear hb hr hat hn0 hn2 hl l1 l2 l3 l4 l5 l6 hf
 go_enter Tryz.func165,Tryz.ntmps165
 go_wp2_with (first
  | (go_at_call 164;refine (C0.out.call (jA _ (bD r.az)) (fun p1 o1 h1 h2 h3=>kz _ p1 _ _ _ o1 (by have:=HF.out.az;omega) (by have:=HL.out.1;omega))).mono ?_;clear C0;rintro e w1 ⟨v1,rfl,Yz⟩;have c1:=Yz.rp.at 8 _ rfl;have C1:=hid Yz;clear Yz)
  | (go_at_call 163;refine (C1.out.call (jA _ (aN r.wB)) (fun p1 o1 h1 h2 h3=>ku _ p1 _ _ _ o1 HF.out.wB.1 HF.out.wB.2 (by have:=HL.out;simp only[List.length_append];omega))).mono ?_;clear C1;rintro e w2 ⟨v2,rfl,Qn⟩;have c2:=Qn.rp.at 0 _ rfl;have C2:=hid Qn;obtain ⟨ao2,cap2,rfl,hc2,hm2⟩:=Qn.shape HN2;clear Qn)
  | (go_at_call 174;refine (C2.out.call (jA _ (aN r.t.ay)) (fun p1 o1 h1 h2 h3=>mo _ p1 _ _ _ o1 HF.out.ay.1 HF.out.ay.2 (by have:=HL.out;simp only[List.length_append];omega))).mono ?_;clear C2;rintro e w3 ⟨v3,rfl,C3'⟩;have c3:=C3'.rp.at 1 _ rfl;have C3:=hid C3';clear C3')
  | (go_at_call 186;refine (C3.out.call (jA _ (kY r.t.aU)) (fun p1 o1 h1 h2 h3=>uB _ p1 _ _ _ o1 (by have:=HL.out;simp only[List.length_append];omega))).mono ?_;clear C3;rintro e w4 ⟨v4,rfl,Q8⟩;have c4:=Q8.rp.at 2 _ rfl;have C4:=hid Q8;clear Q8)
  | (go_at_call 164;refine (C4.out.call (jA _ (bD r.t.af)) (fun p1 o1 h1 h2 h3=>kz _ p1 _ _ _ o1 (by have:=HF.out.af;omega) (by have:=HL.out;simp only[List.length_append];omega))).mono ?_;clear C4;rintro e w5 ⟨v5,rfl,YA⟩;have C5:=hid YA;clear YA)
  | (go_at_call 187;refine (C5.out.call (jA _ r.times) (fun p1 o1 h1 h2 h3=>mf _ p1 _ _ _ _ o1 h3 h1 HF.out (by have:=HL.out;simp only[List.length_append];omega))).mono ?_;clear C5;rintro e w6 ⟨v6,rfl,XG⟩;have c6:=XG.rp.at 9 _ rfl;have c7:=XG.rp.at 10 _ rfl;have C6:=hid XG;clear XG))
 have HZ:Hid (∀ k,Calls Tryz.prog 188 #[v6,.int .i64 (n2:Int),.int .u64 (r.Ad.toNat:Int),.int .i64 2,.int .u64 (r.rD.toNat:Int)] (w6.drewN k) fun e W'=>∃ v',e = .returned v'∧Ctx w b r p W' v' (bs++bD r.az++aN r.wB++bD (Pure.dK r.Ad 2 r.rD (Box.box 48 r.fu)))):=by
  intro k
  have hin:r.fu.length≤3000:=by have:=HL.out;unfold RP.fu;simp only[List.length_append];omega
  refine ((C6.out.drewN k).cast (bs':=bs++bD r.az++aN r.wB++r.fu) (by simp[RP.fu,List.append_assoc])).call ?_ (fun p1 o1 h1 h2 h3=>sG _ p1 _ _ r.Ad 2 r.rD _ _ n2 _ o1 HN2 rfl (hid rfl) (by decide) (by omega) (by have:=HN2.out;omega))
  have h1:=oH 4 (Pure.dK r.Ad 2 r.rD (Box.box 48 r.fu))
  have h2:=oH 48 r.fu
  rw[Pure.bO] at h1
  unfold bD
  simp only[List.length_append]
  omega
 clear C6
 go_region_held3 (fun w'=>w'.cell? ⟨b,9,none⟩=some (.int .u64 (r.Ad.toNat:Int))∧w'.cell? ⟨b,10,none⟩=some (.int .u64 (r.rD.toNat:Int))) (go_keep) (first|(go_at_call 188;refine (HZ.out _).mono ?_;rintro e w7 ⟨v7,rfl,VC⟩;have d0:=VC.rp.at 9 _ rfl;have d1:=VC.rp.at 10 _ rfl;have C7:=hid VC;clear VC))
 have HW:Hid (∀ W,Ctx w b r p W v7 (bs++bD r.az++aN r.wB++bD (Pure.dK r.Ad 2 r.rD (Box.box 48 r.fu)))→Calls Tryz.prog 143 #[v7,.int .i64 (n0:Int),.int .u8 48] W fun e W'=>∃ v',e = .returned v'∧Ctx w b r p W' v' (bs++r.ticket)):=by
  intro W hC
  obtain ⟨Z,hZ⟩:∃ Z,bD r.az++(aN r.wB++bD (Pure.dK r.Ad 2 r.rD (Box.box 48 r.fu)))=Z:=⟨_,rfl⟩
  have hZl:Z.length≤6000:=by
   have:=HL.out
   have h1:=kC 4 (Pure.dK r.Ad 2 r.rD (Box.box 48 r.fu))
   have h2:=kC 48 r.fu
   rw[Pure.bO] at h1
   have hin:r.fu.length≤3000:=by unfold RP.fu;simp only[List.length_append];omega
   rw[←hZ]
   unfold bD at *
   simp only[List.length_append]
   omega
  have e:bs++r.ticket=bs++Box.box 48 Z:=by rw[RP.ticket,hZ]
  rw[e]
  refine (hC.cast (bs':=bs++Z) (by rw[←hZ];simp only[List.append_assoc])).call ?_ (fun p1 o1 h1 h2 h3=>lq _ p1 bs Z 48 n0 _ _ o1 Q7 rfl (by omega) (by have:=Q7.out;omega))
  rw[List.length_append,List.length_append]
  exact Nat.add_le_add_left (oH 48 Z) _
 clear HZ
 go_wp2_with (go_at_call 143;(first | refine (HW.out _ C7.out).mono ?_ | refine (HW.out _ (C7.out.drewN _)).mono ?_);rintro e w8 ⟨v8,rfl,YB⟩;have C8:=hid YB;clear YB)
 go_wp2
 go_ret
 exact ⟨_,rfl,C8.out.more⟩
end Go.Proofs.YtpibgolaaaemnaaGreatDoor
namespace Go.Proofs.YtpibgolaaaemnaaGreatDoor
open Go.RowKit
set_option maxRecDepth 100000
theorem Ctx.abo {P:Program} {f:Nat} {args:Array Value} {w:World} {b:Nat} {r:RP} {p:Option Pl} {W W2:World} {v:Value} {bs bs':List UInt8} (h:Ctx w b r p W v bs) (hG:W.grownBy W2 none) (hl:bs.length≤bs'.length)
  (k:∀ p1,Out W2 v p1 bs→(∀ q,p1=some q→q.g<W.heap.size)→Calls P f args W2 fun e W'=>∃ v',e = .returned v'∧aI W2 W' v' p1 bs') :
  Calls P f args W2 fun e W'=>∃ v',e = .returned v'∧Ctx w b r p W' v' bs':=by
 obtain ⟨p1,h1,h2,h3,h4,h5,h6⟩:=h
 refine (k p1 (h1.grown hG) (fun q hq=>h1.Et q hq)).mono ?_
 rintro e W' ⟨v',rfl,R⟩
 refine ⟨v',rfl,?_⟩
 have hcf:=R.cf
 obtain ⟨p2,k1,k2⟩:=aI.comp h2 (R.before hG) hl
 refine ⟨p2,k1,k2,(h3.grown hG).cf hcf h4,?_,h5,h6⟩
 rcases k2.2.1 with e | e
 ·rw[e];exact h6
 ·intro q hq
  have:=e q hq
  omega
set_option maxHeartbeats 2000000 in
theorem Ag (ov:Value) (p:Option Pl) (bs:List UInt8) (b:Nat) (r:RP) (use:UInt64) (x:Int) (w:World) (hb:Out w ov p bs) (hr:kQ w b r) (hlt:b<w.heap.size) (ho:Off p b) (hf:r.Fits) (hu:Hid (x=use.toNat)) (Vq:use.toNat<9223372036854775808) (hl:bs.length≤400000) :
  Calls Tryz.prog 166 #[.pointer (some ⟨b,0,none⟩),ov,.int .i64 x] w fun e w'=>∃ v',e = .returned v'∧aI w w' v' p (bs++r.part use):=by
 have HF:=hid hf
 have HU:=hid Vq
 obtain ⟨n0,hn0⟩:∃ n,bs.length=n:=⟨_,rfl⟩
 obtain ⟨n1,hn1⟩:∃ n,(bs++aN r.uT).length=n:=⟨_,rfl⟩
 have Q7:=hid hn0
 have HN1:=hid hn1
 have hL:(bD r.az).length≤1004∧(aN r.uT).length≤10∧(fT [r.aB,r.t.ay]).length≤20∧(kY r.t.aU).length≤12∧r.times.length≤40:=
  ⟨by have:=lV r.az;have:=hf.az;omega,(eZ _).2,jg _,Af _,r.uU⟩
 obtain ⟨l1,l2,l3,l4,l6⟩:=hL
 have amg:n1≤402000:=by rw[←hn1];simp only[List.length_append];omega
 have abn:n0≤400000:=by omega
 have HL:=hid (And.intro hl (And.intro l1 (And.intro l2 (And.intro l3 (And.intro l4 l6)))))
 have C0:=hid (Ctx.start hb hr hlt ho)
 have c0:=hr.at 12 _ rfl
 obtain ⟨ao,cap,rfl,hcap,hcm,hat,_⟩:=hb.open Q7
 clear hb hr hat hn0 hn1 hl l1 l2 l3 l4 l6 hf Vq
 go_enter Tryz.func166,Tryz.ntmps166
 go_wp2_with (first
  | (go_at_call 163;refine (C0.out.call (jA _ (aN r.uT)) (fun p1 o1 h1 h2 h3=>ku _ p1 _ _ _ o1 HF.out.uT.1 HF.out.uT.2 (by have:=HL.out;omega))).mono ?_;clear C0;rintro e w2 ⟨v2,rfl,Qn⟩;have c2:=Qn.rp.at 1 _ rfl;have C2:=hid Qn;obtain ⟨ao2,cap2,rfl,hc2,hm2⟩:=Qn.shape HN1;clear Qn)
  | (go_at_call 186;refine (C2.out.call (jA _ (kY r.t.aU)) (fun p1 o1 h1 h2 h3=>uB _ p1 _ _ _ o1 (by have:=HL.out;simp only[List.length_append];omega))).mono ?_;clear C2;rintro e w4 ⟨v4,rfl,Q8⟩;have c4:=Q8.rp.at 11 _ rfl;have c5:=Q8.rp.at 0 _ rfl;have C4:=hid Q8;clear Q8))
 have HA:Hid (∀ W g,w4.grownBy W none→W.rangeAt g 0 ([r.aB,r.t.ay].map Q6)→w4.heap.size≤g→Calls Tryz.prog 142 #[v4,.slice (some ⟨g,0,none⟩) 2 2] W fun e w'=>∃ v',e = .returned v'∧Ctx w b r p w' v' (bs++aN r.uT++kY r.t.aU++fT [r.aB,r.t.ay])):=by
  intro W g hG hR hg
  refine C4.out.abo hG (jA _ _) (fun p1 o1 h1=>kD _ p1 _ _ g 2 2 W o1 hR (fun q hq e=>?_) (hid rfl) ?_ (by omega) ?_)
  ·have:=h1 q hq;omega
  ·intro y hy
   simp at hy
   rcases hy with rfl | rfl
   ·exact HF.out.aB
   ·exact HF.out.ay
  ·have:=HL.out;simp only[List.length_append];omega
 clear C4
 obtain ⟨nn,hnn⟩:∃ y,r.aB=y:=⟨_,rfl⟩
 obtain ⟨ff,hff⟩:∃ y,r.t.ay=y:=⟨_,rfl⟩
 rw[hnn] at c4
 rw[hff] at c5
 have HNF:=hid (And.intro hnn hff)
 clear hnn hff
 go_region_held3 (fun w'=>w'.cell? ⟨b,11,none⟩=some (.int .i64 nn)∧w'.cell? ⟨b,0,none⟩=some (.int .i64 ff)) (go_keep) (first|(go_at_call 142;refine (HA.out _ _ ?gg ?gr ?gl).mono ?_;(case gg=>exact aO (World.grownBy_alloc _ _ none) _);(case gr=>rw[HNF.out.1,HNF.out.2];exact aQ _ _ _);(case gl=>exact Nat.le_refl _);rintro e w5 ⟨v5,rfl,YA⟩;have d0:=YA.rp.at 11 _ rfl;have d1:=YA.rp.at 0 _ rfl;rw[HNF.out.1] at d0;rw[HNF.out.2] at d1;have C5:=hid YA;clear YA))
 clear HA
 go_wp2_with (first
  | (go_at_call 187;(first | refine (C5.out.call (jA _ r.times) (fun p1 o1 h1 h2 h3=>mf _ p1 _ _ _ _ o1 h3 h1 HF.out (by have:=HL.out;simp only[List.length_append];omega))).mono ?_ | refine ((C5.out.drewN _).call (jA _ r.times) (fun p1 o1 h1 h2 h3=>mf _ p1 _ _ _ _ o1 h3 h1 HF.out (by have:=HL.out;simp only[List.length_append];omega))).mono ?_);clear C5;rintro e w6 ⟨v6,rfl,XG⟩;have e7:=XG.rp.at 7 _ rfl;have C6:=hid XG;clear XG)
  | (go_at_call 164;refine (C6.out.call (jA _ (bD r.az)) (fun p1 o1 h1 h2 h3=>kz _ p1 _ _ _ o1 (by have:=HF.out.az;omega) (by have:=HL.out;simp only[List.length_append];omega))).mono ?_;clear C6;rintro e w7 ⟨v7,rfl,VC⟩;have e8:=VC.rp.at 13 _ rfl;have e9:=VC.rp.at 14 _ rfl;have C7:=hid VC;clear VC))
 have HZ:Hid (∀ k,Calls Tryz.prog 188 #[v7,.int .i64 (n1:Int),.int .u64 (r.Ae.toNat:Int),.int .i64 x,.int .u64 (r.rE.toNat:Int)] (w7.drewN k) fun e W'=>∃ v',e = .returned v'∧Ctx w b r p W' v' (bs++aN r.uT++bD (Pure.dK r.Ae use r.rE (Box.box 48 r.iP)))):=by
  intro k
  have hin:r.iP.length≤3000:=by have:=HL.out;unfold RP.iP;simp only[List.length_append];omega
  refine ((C7.out.drewN k).cast (bs':=bs++aN r.uT++r.iP) (by simp[RP.iP,List.append_assoc])).call ?_ (fun p1 o1 h1 h2 h3=>sG _ p1 _ _ r.Ae use r.rE _ _ n1 _ o1 HN1 rfl hu HU.out (by omega) (by have:=HN1.out;omega))
  have h1:=oH 4 (Pure.dK r.Ae use r.rE (Box.box 48 r.iP))
  have h2:=oH 48 r.iP
  rw[Pure.bO] at h1
  unfold bD
  simp only[List.length_append]
  omega
 clear C7
 go_region_held3 (fun w'=>w'.cell? ⟨b,13,none⟩=some (.int .u64 (r.Ae.toNat:Int))∧w'.cell? ⟨b,14,none⟩=some (.int .u64 (r.rE.toNat:Int))) (go_keep) (first|(go_at_call 188;refine (HZ.out _).mono ?_;rintro e w8 ⟨v8,rfl,YB⟩;have f0:=YB.rp.at 13 _ rfl;have f1:=YB.rp.at 14 _ rfl;have C8:=hid YB;clear YB))
 have HW:Hid (∀ W,Ctx w b r p W v8 (bs++aN r.uT++bD (Pure.dK r.Ae use r.rE (Box.box 48 r.iP)))→Calls Tryz.prog 143 #[v8,.int .i64 (n0:Int),.int .u8 48] W fun e W'=>∃ v',e = .returned v'∧Ctx w b r p W' v' (bs++r.part use)):=by
  intro W hC
  obtain ⟨Z,hZ⟩:∃ Z,aN r.uT++bD (Pure.dK r.Ae use r.rE (Box.box 48 r.iP))=Z:=⟨_,rfl⟩
  have hZl:Z.length≤6000:=by
   have:=HL.out
   have h1:=kC 4 (Pure.dK r.Ae use r.rE (Box.box 48 r.iP))
   have h2:=kC 48 r.iP
   rw[Pure.bO] at h1
   have hin:r.iP.length≤3000:=by unfold RP.iP;simp only[List.length_append];omega
   rw[←hZ]
   unfold bD at *
   simp only[List.length_append]
   omega
  have e:bs++r.part use=bs++Box.box 48 Z:=by rw[RP.part,hZ]
  rw[e]
  refine (hC.cast (bs':=bs++Z) (by rw[←hZ];simp only[List.append_assoc])).call ?_ (fun p1 o1 h1 h2 h3=>lq _ p1 bs Z 48 n0 _ _ o1 Q7 rfl (by omega) (by have:=Q7.out;omega))
  rw[List.length_append,List.length_append]
  exact Nat.add_le_add_left (oH 48 Z) _
 clear HZ
 go_wp2_with (go_at_call 143;(first | refine (HW.out _ C8.out).mono ?_ | refine (HW.out _ (C8.out.drewN _)).mono ?_);rintro e w9 ⟨v9,rfl,C9'⟩;have C9:=hid C9';clear C9')
 go_wp2
 go_ret
 exact ⟨_,rfl,C9.out.more⟩
end Go.Proofs.YtpibgolaaaemnaaGreatDoor
namespace Go.Proofs.YtpibgolaaaemnaaGreatDoor
open Go.RowKit
set_option maxRecDepth 100000
def RP.rF (r:RP) (kind:Int) (use:UInt64):List UInt8:=Box.box 48 (aN kind++(bD r.t.af++(r.ticket++r.part use)))
theorem RP.Ah (t:TK) (s:BE) (aB ag:Int) (key use a b:UInt64) (kind:Int):(RP.mk t s.name s.ag s.key a aB ag key b).rF kind use=gM kind t s aB ag key use a b:=by
 simp[RP.rF,RP.ticket,RP.part,RP.fu,RP.iP,RP.times,gM,tN,dR,TK.plain,iX,fT]
theorem RP.lens (r:RP) (use:UInt64) (hf:r.Fits):r.ticket.length≤7000∧(r.part use).length≤7000∧(bD r.t.af).length≤1004:=by
 have l1:=lV r.az
 have l2:=lV r.t.af
 have l3:=Af r.t.aU
 have l4:=r.uU
 have l5:=(eZ r.t.ay).2
 have l6:=(eZ r.wB).2
 have l7:=(eZ r.uT).2
 have l8:=jg [r.aB,r.t.ay]
 have k1:=hf.az
 have k2:=hf.af
 simp only[List.length_cons,List.length_nil] at l8
 have hin:r.fu.length≤3000:=by unfold RP.fu;simp only[List.length_append];omega
 have hip:r.iP.length≤3000:=by unfold RP.iP;simp only[List.length_append];omega
 refine ⟨?_,?_,by omega⟩
 ·unfold RP.ticket
  have h1:=lV (Pure.dK r.Ad 2 r.rD (Box.box 48 r.fu))
  have h2:=kC 48 r.fu
  rw[Pure.bO] at h1
  refine Nat.le_trans (kC _ _) ?_
  simp only[List.length_append]
  omega
 ·unfold RP.part
  have h1:=lV (Pure.dK r.Ae use r.rE (Box.box 48 r.iP))
  have h2:=kC 48 r.iP
  rw[Pure.bO] at h1
  refine Nat.le_trans (kC _ _) ?_
  simp only[List.length_append]
  omega
set_option maxHeartbeats 2000000 in
theorem wC (ov:Value) (p:Option Pl) (bs:List UInt8) (b:Nat) (r:RP) (use:UInt64) (kind x:Int) (w:World) (hb:Out w ov p bs) (hr:kQ w b r) (hlt:b<w.heap.size) (ho:Off p b) (hf:r.Fits) (hk:In64 kind) (hu:Hid (x=use.toNat)) (Vq:use.toNat<9223372036854775808) (hl:bs.length≤300000) :
  Calls Tryz.prog 130 #[.pointer (some ⟨b,0,none⟩),ov,.int .i64 kind,.int .i64 x] w fun e w'=>∃ v',e = .returned v'∧aI w w' v' p (bs++r.rF kind use):=by
 have HF:=hid hf
 have HU:=hid Vq
 have HKi:=hid hk
 obtain ⟨n0,hn0⟩:∃ n,bs.length=n:=⟨_,rfl⟩
 have Q7:=hid hn0
 have abn:n0≤300000:=by omega
 have HL:=hid (And.intro hl (And.intro (eZ kind).2 (r.lens use hf)))
 have C0:=hid (Ctx.start hb hr hlt ho)
 obtain ⟨ao,cap,rfl,hcap,hcm,hat,_⟩:=hb.open Q7
 clear hb hr hat hn0 hl hf Vq hk
 have HW:Hid (∀ v8 W,Ctx w b r p W v8 (bs++aN kind++bD r.t.af++r.ticket++r.part use)→Calls Tryz.prog 143 #[v8,.int .i64 (n0:Int),.int .u8 48] W fun e W'=>∃ v',e = .returned v'∧Ctx w b r p W' v' (bs++r.rF kind use)):=by
  intro v8 W hC
  obtain ⟨Z,hZ⟩:∃ Z,aN kind++(bD r.t.af++(r.ticket++r.part use))=Z:=⟨_,rfl⟩
  have hZl:Z.length≤20000:=by
   have:=HL.out
   rw[←hZ]
   simp only[List.length_append]
   omega
  have e:bs++r.rF kind use=bs++Box.box 48 Z:=by rw[RP.rF,hZ]
  rw[e]
  refine (hC.cast (bs':=bs++Z) (by rw[←hZ];simp only[List.append_assoc])).call ?_ (fun p1 o1 h1 h2 h3=>lq _ p1 bs Z 48 n0 _ _ o1 Q7 rfl (by omega) (by have:=Q7.out;omega))
  rw[List.length_append,List.length_append]
  exact Nat.add_le_add_left (oH 48 Z) _
 go_enter Tryz.func130,Tryz.ntmps130
 go_wp2_with (first
  | (go_at_call 163;refine (C0.out.call (jA _ (aN kind)) (fun p1 o1 h1 h2 h3=>ku _ p1 _ _ _ o1 HKi.out.1 HKi.out.2 (by have:=HL.out;omega))).mono ?_;clear C0;rintro e w1 ⟨v1,rfl,Yz⟩;have c1:=Yz.rp.at 2 _ rfl;have C1:=hid Yz;clear Yz)
  | (go_at_call 164;refine (C1.out.call (jA _ (bD r.t.af)) (fun p1 o1 h1 h2 h3=>kz _ p1 _ _ _ o1 (by have:=HF.out.af;omega) (by have:=HL.out;simp only[List.length_append];omega))).mono ?_;clear C1;rintro e w2 ⟨v2,rfl,Qn⟩;have C2:=hid Qn;clear Qn)
  | (go_at_call 165;refine (C2.out.call (jA _ r.ticket) (fun p1 o1 h1 h2 h3=>xI _ p1 _ _ _ _ o1 h3 h2 h1 HF.out (by have:=HL.out;simp only[List.length_append];omega))).mono ?_;clear C2;rintro e w3 ⟨v3,rfl,C3'⟩;have C3:=hid C3';clear C3')
  | (go_at_call 166;refine (C3.out.call (jA _ (r.part use)) (fun p1 o1 h1 h2 h3=>Ag _ p1 _ _ _ use x _ o1 h3 h2 h1 HF.out hu HU.out (by have:=HL.out;simp only[List.length_append];omega))).mono ?_;clear C3;rintro e w4 ⟨v4,rfl,Q8⟩;have C4:=hid Q8;clear Q8)
  | (go_at_call 143;refine (HW.out _ _ C4.out).mono ?_;rintro e w9 ⟨v9,rfl,C9'⟩;have C9:=hid C9';clear C9'))
 go_wp2
 go_ret
 exact ⟨_,rfl,C9.out.more⟩
set_option maxHeartbeats 400000 in
theorem wD (ov:Value) (p:Option Pl) (bs:List UInt8) (b:Nat) (r:RP) (w:World) (hb:Out w ov p bs) (hr:kQ w b r) (hlt:b<w.heap.size) (ho:Off p b) (hf:r.Fits) (hl:bs.length≤300000) :
  Calls Tryz.prog 97 #[.pointer (some ⟨b,0,none⟩),ov] w fun e w'=>∃ v',e = .returned v'∧aI w w' v' p (bs++r.rF 11 3):=by
 have HA:=hid (wC ov p bs b r 3 11 3 w hb hr hlt ho hf (by constructor <;> decide) (hid rfl) (by decide) hl)
 clear hb hr ho hf
 go_enter Tryz.func97,Tryz.ntmps97
 go_wp2_with (go_at_call 130;refine HA.out.mono ?_;rintro e w2 ⟨v2,rfl,R2⟩)
 go_wp2
 go_ret
 exact ⟨_,rfl,R2⟩
set_option maxHeartbeats 400000 in
theorem xJ (ov:Value) (p:Option Pl) (bs:List UInt8) (b:Nat) (r:RP) (w:World) (hb:Out w ov p bs) (hr:kQ w b r) (hlt:b<w.heap.size) (ho:Off p b) (hf:r.Fits) (hl:bs.length≤300000) :
  Calls Tryz.prog 103 #[.pointer (some ⟨b,0,none⟩),ov] w fun e w'=>∃ v',e = .returned v'∧aI w w' v' p (bs++r.rF 13 5):=by
 have HA:=hid (wC ov p bs b r 5 13 5 w hb hr hlt ho hf (by constructor <;> decide) (hid rfl) (by decide) hl)
 clear hb hr ho hf
 go_enter Tryz.func103,Tryz.ntmps103
 go_wp2_with (go_at_call 130;refine HA.out.mono ?_;rintro e w2 ⟨v2,rfl,R2⟩)
 go_wp2
 go_ret
 exact ⟨_,rfl,R2⟩
end Go.Proofs.YtpibgolaaaemnaaGreatDoor
