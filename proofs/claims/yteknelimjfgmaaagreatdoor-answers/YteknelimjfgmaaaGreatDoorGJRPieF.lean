import Derived.Test.YteknelimjfgmaaaGreatDoorGJPNexB
import Derived.Test.YteknelimjfgmaaaGreatDoorGJDeskI
namespace Go.Proofs.YteknelimjfgmaaaGreatDoor
set_option maxHeartbeats 4000000
open Proofs.Tryz Go.RowKit
set_option maxRecDepth 100000
theorem vF {p:Pc} {y:List UInt8} (h:di p.pair=some y):y=p.ins:=by
 unfold di at h;split at h
 ·injection h with h;exact h.symm
 ·cases h
def ae7 (p:PF):Prop:=In64 p.time/\In64 p.count
theorem nP:ae7 ⟨[],0,0⟩:=⟨fM,fM⟩
theorem aaf {p:Prop} (h:p:=by
 go_wp2
 refine bodyPost_ret (aJ results147 _ _ _ w.heap.size rfl _ (nO (fC HC.o _ _ _))) rfl ?_
 exact ⟨⟨[],0,0⟩,by rw[HO.o];rfl,fun q hq=>(by rw[HO.o] at hq;cases hq),nP,az (az (az (HG.o) (bd _)) (bd _)) (bd _)⟩):p:=h
theorem KJ (zs:List UInt8) (v:Value) (w:World) (h:Has w v zs) (hl:zs.length<=100000) :
  Calls prog 147 #[v] w fun e w'=>∃ p:PF,e = .returned (.tuple #[.agg p.cells.toArray,.bool (fE zs).isSome])/\(∀ q,fE zs=some q->p=q)/\ae7 p/\w.grownBy w' none:=by
 have HR:Hid (fE zs=((tK 48 zs).bind Box.dH).bind sF):=by show _=_;unfold fE;rw[tL]
 obtain ⟨O,hO⟩:=aq (fE zs)
 rw[hO] at HR ⊢
 clear hO
 have HG:=hid (aE w (.cells #[.string ⟨#[]⟩,.int .i64 0,.int .i64 0] 283) none)
 have HC:=hid (Live.new w #[.string ⟨#[]⟩,.int .i64 0,.int .i64 0] 283)
 have H1:Hid (Calls prog 67 #[v,.int .u8 48] (w.alloc (.cells #[.string ⟨#[]⟩,.int .i64 0,.int .i64 0] 283)) fun e w'=>∃ x i,e = .returned (.tuple #[x,.bool (tK 48 zs).isSome])/\Has w' x i/\i.length<=65535/\(∀ j,tK 48 zs=some j->j=i)/\(w.alloc (.cells #[.string ⟨#[]⟩,.int .i64 0,.int .i64 0] 283)).grownBy w' none):=yF 48 zs v _ (h.grown HG.o) afp
 obtain ⟨OM,hOM⟩:=aq (tK 48 zs)
 rw[hOM] at HR H1
 clear h hl hOM
 go_enter func147,ntmps147
 go_wp2_with (go_at_call 67;refine H1.o.mono ?_;clear H1;rintro e w1 ⟨x1,i,rfl,hx1,hi,hj,g1⟩;have jC:=hid (aa HG.o g1);have qN:=hid (HC.o.grown g1);have HJ:=hid hj;have HI:=hid hi;have HP:=hid (pO i x1 w1 hx1.prt afp);clear HG HC g1 hx1 hj hi)
 refine HP.o.mono ?_
 rintro e w2 ⟨x,rfl,h1,h2,g2⟩
 have HG:=hid (aa jC.o g2)
 have HC:=hid (qN.o.grown g2)
 clear HP g2 jC qN
 obtain ⟨⟨e0,k0⟩,⟨e1,k1⟩,⟨e2,k2⟩,f0,f1,f2⟩:=FP HC.o
 cases OM with
 | none=>
  have HO:Hid (O=none):=HR.o;clear HR h1 h2 HJ;simp only[Option.isSome_none];exact aaf
 | some j=>
  obtain rfl:=HJ.o j rfl;simp only[cY];have HR2:Hid (O=(Box.dH j).bind sF):=HR.o;clear HR HJ;have Fb:Hid (∀ ps,Box.dH j=some ps->∀ q∈ps,q.2.length<=65535):=fun ps hps q hq=>br (Box.kS hps q hq) HI.o;obtain ⟨cl,hcl⟩:=aq (Box.dH j);rw[hcl] at HR2 h1 h2 Fb ⊢;clear hcl HI;cases cl with
  | none=>
   have HO:Hid (O=none):=HR2.o;obtain rfl:=h2 rfl;clear HR2 h1 h2;simp only[Option.isSome_none];exact aaf
  | some ps=>
   obtain ⟨l,hv,hps,_⟩:=h1 ps rfl;clear h1 h2;simp only[cY];by_cases hn:l.length=3
   ·obtain ⟨p0,p1,p2,rfl⟩:=Ci hn;have Qf:Hid (∀ q∈[p0,p1,p2],q.ins.length<=65535):=fun q hq=>Fb.o ps rfl q.pair (by rw[<-hps];exact ev hq);clear Fb;obtain ⟨g,c,rfl,mY⟩:=hv.some aft;have AL:=hid mY;have yJ:Hid (O=(di p0.pair).bind fun c=>(bF p1.pair).bind fun t=>(bF p2.pair).bind fun n=>some ⟨c,t,n⟩):=by
     show _=_;rw[HR2.o,<-hps];rfl
    have c0:w2.cell? ⟨g,0,none⟩=some (.int .u8 (p0.tag.toNat:Int)):=mY.tag 0 aft;have c1:w2.cell? ⟨g,1,none⟩=some (.slice p0.ad p0.ins.length p0.cap):=mY.ins 0 aft;have HN:=hid (pQ p0 w2 (mY.2 p0 aft).1 (br (Qf.o p0 aft) afq));have HV:Hid (∀ W,jr W g [p0,p1,p2]->Calls prog 99 #[.slice (some ⟨g,0,none⟩) 3 c,.int .i64 1,.int .i64 3] W fun e w'=>∃ o vs,e = .returned (.tuple #[o,.bool ((bF p1.pair).isSome && (bF p2.pair).isSome)])/\qi [p1,p2] vs/\w'.ownsRow W.heap.size 2 1 o vs.length (vs.map I64)/\W.grownBy w' none):=fun W hW=>by
     have:=tN 1 3 3 g c [p0,p1,p2] W (hid rfl) afq afq afq hW;simpa[jv] using this
    have HNi:Hid (∀ y,di p0.pair=some y->y=p0.ins):=fun y hy=>vF hy;obtain ⟨N,hN⟩:=aq (di p0.pair);rw[hN] at HN yJ HNi;clear HR2 hps hn hv mY hN;simp only[cN,List.length_nil];go_wp2_with (go_at_call 98;refine HN.o.mono ?_;clear HN;rintro e w3 ⟨rfl,g3⟩;have uI:=hid (AL.o.grown g3);have mf:=hid (aa HG.o g3);have Az:=hid (HC.o.grown g3);clear AL HG HC g3 c0 c1 k0 k1 k2 f0 f1 f2)
    refine (HV.o _ uI.o).mono ?_;rintro e w4 ⟨o,vs,rfl,Vu,hown,g4⟩;obtain ⟨v1,v2,rfl,q1,q2⟩:=Vu.two;obtain ⟨go,co,rfl,hrow,_⟩:=jh hown aft;have r0:w4.cell? ⟨go,0,none⟩=some (.int .i64 v1):=hrow 0 _ rfl;have r1:w4.cell? ⟨go,1,none⟩=some (.int .i64 v2):=hrow 1 _ rfl;have HG:=hid (aa mf.o g4);have HC:=hid (Az.o.grown g4);obtain ⟨⟨e0,k0⟩,⟨e1,k1⟩,⟨e2,k2⟩,f0,f1,f2⟩:=FP HC.o;have JG:Hid ((In64 v1/\∀ y,bF p1.pair=some y->v1=y)/\(In64 v2/\∀ y,bF p2.pair=some y->v2=y)):=⟨q1,q2⟩
    obtain ⟨A,hA⟩:=aq (bF p1.pair);obtain ⟨B,hB⟩:=aq (bF p2.pair);rw[hA,hB] at yJ JG;rw[hA,hB];simp only[cN,List.length_nil];clear HV uI mf Az g4 hrow hown Vu q1 q2 hA hB Qf;cases N with
    | none=>
     have HO:Hid (O=none):=yJ.o;clear yJ;simp only[Option.isSome_none];exact aaf
    | some y=>
     obtain rfl:=HNi.o y rfl;simp only[cY];cases A with
     | none=>
      have HO:Hid (O=none):=yJ.o;clear yJ;simp only[Option.isSome_none,gh];exact aaf
     | some a=>
      obtain rfl:=JG.o.1.2 a rfl;cases B with
      | none=>
       have HO:Hid (O=none):=yJ.o;clear yJ;simp only[Option.isSome_none,cY,gf];exact aaf
      | some b=>
       obtain rfl:=JG.o.2.2 b rfl;have HO:Hid (O=some ⟨p0.ins,v1,v2⟩):=yJ.o;clear yJ;simp only[cY,fR];go_wp2_with fail;go_region;go_wp2;(try simp only[Exit.inBlock,Exit.then]);refine bodyPost_ret (aJ results147 _ _ _ w.heap.size rfl _ (nO (fC HC.o _ _ _))) rfl ?_;exact ⟨⟨p0.ins,v1,v2⟩,by rw[HO.o];rfl,fun q hq=>(by rw[HO.o] at hq;injection hq),⟨JG.o.1.1,JG.o.2.1⟩,bD (az (az (az (HG.o) (bd _)) (bd _)) (bd _))⟩
   ·have HO:Hid (O=none):=by
     show _=_;rw[HR2.o,<-hps];exact Dq _ (by rw[cw];exact hn)
    obtain ⟨ao,c,rfl,_⟩:=hv;obtain ⟨m,hm⟩:=aq l.length;rw[hm] at hn ⊢;have b2:((m:Int) != 3)=true:=(by rw[fj];omega);clear HR2 hps hn hm Fb;exact aaf
variable {b:Nat} {w:World}
theorem Hy (p0 p1 p2 p3 p4 p5 p6:Pc) (v0 v3 v4 v5 v6:Int) (h0:ik p0 v0) (h3:ik p3 v3) (h4:ik p4 v4) (h5:ik p5 v5) (h6:ik p6 v6) :
  (jo ([p0,p1,p2,p3,p4,p5,p6].map Pc.pair)).isSome=((bF p0.pair).isSome && ((di p2.pair).isSome && (jv [p3,p4,p5,p6] && (decide (p1.tag.toNat=4) && decide (p1.ins.length=8)))))/\∀ t,jo ([p0,p1,p2,p3,p4,p5,p6].map Pc.pair)=some t->t=⟨v0,Pure.joinL 0 p1.ins,p2.ins,v3,v4,v5,v6⟩:=by
 have e:jo ([p0,p1,p2,p3,p4,p5,p6].map Pc.pair)=(bF p0.pair).bind fun f=>(MG p1.pair).bind fun k=>(di p2.pair).bind fun c=>(bF p3.pair).bind fun a=>(bF p4.pair).bind fun s=>(bF p5.pair).bind fun e=>(bF p6.pair).bind fun r=>some ⟨f,k,c,a,s,e,r⟩:=rfl
 have hk:MG p1.pair=if p1.tag.toNat=4/\p1.ins.length=8 then some (Pure.joinL 0 p1.ins) else none:=rfl
 have hn:∀ y,di p2.pair=some y->y=p2.ins:=fun y hy=>vF hy
 rw[e,hk]
 unfold ik at *
 simp only[jv,List.all_cons,List.all_nil,fR]
 cases c0:bF p0.pair with
 | none=>exact ⟨rfl,fun t ht=>by cases ht⟩
 | some a0=>
  have z0:=h0.2 a0 c0;by_cases q:p1.tag.toNat=4/\p1.ins.length=8
  ·rw[if_pos q];cases c2:di p2.pair with
   | none=>exact ⟨by simp,fun t ht=>by cases ht⟩
   | some a2=>
    have z2:=hn a2 c2;cases c3:bF p3.pair with
    | none=>exact ⟨by simp,fun t ht=>by cases ht⟩
    | some a3=>
     have z3:=h3.2 a3 c3;cases c4:bF p4.pair with
     | none=>exact ⟨by simp,fun t ht=>by cases ht⟩
     | some a4=>
      have z4:=h4.2 a4 c4;cases c5:bF p5.pair with
      | none=>exact ⟨by simp,fun t ht=>by cases ht⟩
      | some a5=>
       have z5:=h5.2 a5 c5;cases c6:bF p6.pair with
       | none=>exact ⟨by simp,fun t ht=>by cases ht⟩
       | some a6=>
        have z6:=h6.2 a6 c6;refine ⟨by simp[q.1,q.2],fun t ht=>?_⟩;injection ht with ht;subst z0 z2 z3 z4 z5 z6;exact ht.symm
  ·rw[if_neg q];refine ⟨?_,fun t ht=>by cases ht⟩;show false=_;by_cases q1:p1.tag.toNat=4
   ·have q2:¬ p1.ins.length=8:=fun h=>q ⟨q1,h⟩;simp[q2]
   ·simp[q1]
theorem NL {g j k:Nat} (h:b≠g) (v:Value):(w.setCell ⟨b,k,none⟩ v).cell? ⟨g,j,none⟩=w.cell? ⟨g,j,none⟩:=World.cell?_setCell_far _ _ _ _ h
theorem Re (w:World) (a:Addr):w.drew.cell? a=w.cell? a:=rfl
theorem Vv {g j:Nat} (h:b≠g) (v0 v1 v2 v3 v4 v5 v6:Value):(((((((w.setCell ⟨b,0,none⟩ v0).setCell ⟨b,1,none⟩ v1).setCell ⟨b,2,none⟩ v2).setCell ⟨b,3,none⟩ v3).setCell ⟨b,4,none⟩ v4).setCell ⟨b,5,none⟩ v5).setCell ⟨b,6,none⟩ v6).drew.cell? ⟨g,j,none⟩=w.cell? ⟨g,j,none⟩:=by
 rw[Re,NL h,NL h,NL h,NL h,NL h,NL h,NL h]
theorem NM {o:Nat} {cs:List Value} (h:w.rangeAt b o cs):w.drew.rangeAt b o cs:=h
theorem qp:TK.In ⟨0,0,[],0,0,0,0⟩:=⟨fM,fM,fM,fM,fM⟩
theorem aaI {p:Prop} (h:p:=by
 go_wp2
 go_meet
 case rel=>exact ⟨by rw[HS.o];rfl,rfl⟩):p:=h
theorem aaO {p:Prop} (h:p:=by
 go_wp2
 refine bodyPost_ret (aJ results115 _ _ _ w.heap.size rfl _ (gY (eZ HC.o _ _ _ _ _ _ _))) rfl ?_
 exact ⟨⟨0,0,[],0,0,0,0⟩,by rw[HO.o];rfl,fun q hq=>(by rw[HO.o] at hq;cases hq),qp,az (az (az (az (az (az (az (HG.o) (bd _)) (bd _)) (bd _)) (bd _)) (bd _)) (bd _)) (bd _)⟩):p:=h
theorem yZ (zs:List UInt8) (v:Value) (w:World) (h:Has w v zs) (hl:zs.length<=100000) :
  Calls prog 115 #[v] w fun e w'=>∃ p:TK,e = .returned (.tuple #[.agg p.cells.toArray,.bool (dU zs).isSome])/\(∀ q,dU zs=some q->p=q)/\p.In/\w.grownBy w' none:=by
 have HR:Hid (dU zs=((tK 48 zs).bind Box.dH).bind jo):=by show _=_;unfold dU;rw[tL]
 obtain ⟨O,hO⟩:=aq (dU zs)
 rw[hO] at HR ⊢
 clear hO
 have HG:=hid (aE w (.cells #[.int .i64 0,.int .u64 0,.string ⟨#[]⟩,.int .i64 0,.int .i64 0,.int .i64 0,.int .i64 0] 43) none)
 have HC:=hid (Live.new w #[.int .i64 0,.int .u64 0,.string ⟨#[]⟩,.int .i64 0,.int .i64 0,.int .i64 0,.int .i64 0] 43)
 have H1:Hid (Calls prog 67 #[v,.int .u8 48] (w.alloc (.cells #[.int .i64 0,.int .u64 0,.string ⟨#[]⟩,.int .i64 0,.int .i64 0,.int .i64 0,.int .i64 0] 43)) fun e w'=>∃ x i,e = .returned (.tuple #[x,.bool (tK 48 zs).isSome])/\Has w' x i/\i.length<=65535/\(∀ j,tK 48 zs=some j->j=i)/\(w.alloc (.cells #[.int .i64 0,.int .u64 0,.string ⟨#[]⟩,.int .i64 0,.int .i64 0,.int .i64 0,.int .i64 0] 43)).grownBy w' none):=yF 48 zs v _ (h.grown HG.o) afp
 obtain ⟨OM,hOM⟩:=aq (tK 48 zs)
 rw[hOM] at HR H1
 clear h hl hOM
 go_enter func115,ntmps115
 go_wp2_with (go_at_call 67;refine H1.o.mono ?_;clear H1;rintro e w1 ⟨x1,i,rfl,hx1,hi,hj,g1⟩;have jC:=hid (aa HG.o g1);have qN:=hid (HC.o.grown g1);have HJ:=hid hj;have HI:=hid hi;have HP:=hid (pO i x1 w1 hx1.prt afp);clear HG HC g1 hx1 hj hi)
 refine HP.o.mono ?_
 rintro e w2 ⟨x,rfl,h1,h2,g2⟩
 have HG:=hid (aa jC.o g2)
 have HC:=hid (qN.o.grown g2)
 have hw1:=qN.o.lt
 clear HP g2 jC qN
 obtain ⟨⟨e0,k0⟩,⟨e1,k1⟩,⟨e2,k2⟩,⟨e3,k3⟩,⟨e4,k4⟩,⟨e5,k5⟩,⟨e6,k6⟩,f0,f1,f2,f3,f4,f5,f6⟩:=oK HC.o
 cases OM with
 | none=>
  have HO:Hid (O=none):=HR.o;clear HR h1 h2 HJ;simp only[Option.isSome_none];exact aaO
 | some j=>
  obtain rfl:=HJ.o j rfl;simp only[cY];have HR2:Hid (O=(Box.dH j).bind jo):=HR.o;clear HR HJ;have Fb:Hid (∀ ps,Box.dH j=some ps->∀ q∈ps,q.2.length<=65535):=fun ps hps q hq=>br (Box.kS hps q hq) HI.o;obtain ⟨cl,hcl⟩:=aq (Box.dH j);rw[hcl] at HR2 h1 h2 Fb ⊢;clear hcl HI;cases cl with
  | none=>
   have HO:Hid (O=none):=HR2.o;obtain rfl:=h2 rfl;clear HR2 h1 h2;simp only[Option.isSome_none];exact aaO
  | some ps=>
   obtain ⟨l,hv,hps,_,hgn⟩:=h1 ps rfl;clear h1 h2;simp only[cY];by_cases hn:l.length=7
   ·obtain ⟨p0,p1,p2,p3,p4,p5,p6,rfl⟩:=NK hn;have Qf:Hid (∀ q∈[p0,p1,p2,p3,p4,p5,p6],q.ins.length<=65535):=fun q hq=>Fb.o ps rfl q.pair (by rw[<-hps];exact ev hq);clear Fb;obtain ⟨g,c,rfl,mY⟩:=hv.some aft;have hgw:=hgn g c rfl;have hg1:w.heap.size≠g:=(by omega);clear hgn hgw;have AL:=hid mY;have yJ:Hid (O=jo ([p0,p1,p2,p3,p4,p5,p6].map Pc.pair)):=by
     show _=_;rw[HR2.o,<-hps];rfl
    have c0:w2.cell? ⟨g,0,none⟩=some (.int .u8 (p0.tag.toNat:Int)):=mY.tag 0 aft;have c1:w2.cell? ⟨g,1,none⟩=some (.slice p0.ad p0.ins.length p0.cap):=mY.ins 0 aft;have XM:=hid (sH p0 w2 (mY.2 p0 aft).1);have HN:Hid (∀ W,jr W g [p0,p1,p2,p3,p4,p5,p6]->Calls prog 98 #[.agg #[.int .u8 (p2.tag.toNat:Int),.slice p2.ad p2.ins.length p2.cap]] W fun e w'=>e = .returned (.tuple #[.string ⟨p2.ins.toArray⟩,.bool (di p2.pair).isSome])/\W.grownBy w' none):=fun W hW=>pQ p2 W (hW.2 p2 aft).1 (br (Qf.o p2 aft) afq);have HV:Hid (∀ W,jr W g [p0,p1,p2,p3,p4,p5,p6]->Calls prog 99 #[.slice (some ⟨g,0,none⟩) 7 c,.int .i64 3,.int .i64 7] W fun e w'=>∃ o vs,e = .returned (.tuple #[o,.bool (jv [p3,p4,p5,p6])])/\qi [p3,p4,p5,p6] vs/\w'.ownsRow W.heap.size 2 1 o vs.length (vs.map I64)/\W.grownBy w' none):=fun W hW=>tN 3 7 7 g c [p0,p1,p2,p3,p4,p5,p6] W (hid rfl) afq afq afq hW;have HK:Hid (∀ W,jr W g [p0,p1,p2,p3,p4,p5,p6]->Calls prog 87 #[.slice p1.ad p1.ins.length p1.cap] W fun e w'=>e = .returned (.int .u64 ((Pure.joinL 0 p1.ins).toNat:Int))/\W=w'):=fun W hW=>uM p1.ins p1.ins.length p1.ad p1.cap W (hid rfl) (br (Qf.o p1 aft) afq) (hW.2 p1 aft).1;clear HR2 hps hn hv mY;obtain ⟨bn,hbn⟩:=aq ((di p2.pair).isSome);obtain ⟨ba,hba⟩:=aq (jv [p3,p4,p5,p6]);obtain ⟨b0,hb0⟩:=aq ((bF p0.pair).isSome);rw[hb0] at XM;rw[hbn] at HN;rw[hba] at HV;have HBn:=hid hbn;have HBa:=hid hba;have HB0:=hid hb0;clear hbn hba hb0;simp only[cN,List.length_nil];go_wp2_with (first|(go_at_call 70;refine XM.o.mono ?_;clear XM;rintro e w3 ⟨v0,rfl,hv0,g3⟩;have HV0:=hid hv0;have uI:=hid (AL.o.grown g3);have mf:=hid (aa HG.o g3);have Az:=hid (HC.o.grown g3);have c4:w3.cell? ⟨g,4,none⟩=some (.int .u8 (p2.tag.toNat:Int)):=uI.o.tag 2 aft;have c5:w3.cell? ⟨g,5,none⟩=some (.slice p2.ad p2.ins.length p2.cap):=uI.o.ins 2 aft;clear AL HG HC g3 c0 c1 hv0 k0 k1 k2 k3 k4 k5 k6 f0 f1 f2 f3 f4 f5 f6)|(go_at_call 98;refine (HN.o _ uI.o).mono ?_;clear HN;rintro e w5 ⟨rfl,g5⟩;have abK:=hid (uI.o.grown g5);have QL:=hid (aa mf.o g5);have WX:=hid (Az.o.grown g5);clear uI mf Az g5 c4 c5))
    refine (HV.o _ abK.o).mono ?_;rintro e w4 ⟨o,vs,rfl,Vu,hown,g4⟩;obtain ⟨v3,v4,v5,v6,rfl,q3,q4,q5,q6⟩:=Vu.four;obtain ⟨go,co,rfl,hrow,hgo⟩:=jh hown aft;have YP:w.heap.size≠go:=(by have:=WX.o.lt;omega);clear hgo;have EC:Hid (w4.cell? ⟨go,0,none⟩=some (.int .i64 v3)/\w4.cell? ⟨go,1,none⟩=some (.int .i64 v4)/\w4.cell? ⟨go,2,none⟩=some (.int .i64 v5)/\w4.cell? ⟨go,3,none⟩=some (.int .i64 v6)):=⟨hrow 0 _ rfl,hrow 1 _ rfl,hrow 2 _ rfl,hrow 3 _ rfl⟩
    have HG:=hid (aa QL.o g4);have HC:=hid (WX.o.grown g4);have AL:=hid (abK.o.grown g4);have HT:=hid (Hy p0 p1 p2 p3 p4 p5 p6 v0 v3 v4 v5 v6 HV0.o q3 q4 q5 q6);have IP:Hid (TK.In ⟨v0,Pure.joinL 0 p1.ins,p2.ins,v3,v4,v5,v6⟩):=⟨HV0.o.1,q3.1,q4.1,q5.1,q6.1⟩
    rw[<-yJ.o,HBn.o,HBa.o,HB0.o] at HT;simp only[cN,List.length_nil];clear HV abK QL WX g4 hrow hown Vu q3 q4 q5 q6 Qf HBn HBa HB0 yJ HV0;obtain ⟨kl,hkl⟩:=aq p1.ins.length;obtain ⟨kt,hkt⟩:=aq p1.tag.toNat;have c2:w4.cell? ⟨g,2,none⟩=some (.int .u8 (p1.tag.toNat:Int)):=AL.o.tag 1 aft;have c3:w4.cell? ⟨g,3,none⟩=some (.slice p1.ad p1.ins.length p1.cap):=AL.o.ins 1 aft;rw[hkt] at c2;rw[hkl] at c3;rw[hkl] at HK;rw[hkl,hkt] at HT;clear hkl hkt;go_upto_region 8 with fail
    go_cut [79] (fun z wx=>z = .bool (!O.isSome)/\wx=w4)
    case first=>
     have HB:Hid (O.isSome=(b0 && (bn && (ba && (decide (kt=4) && decide (kl=8)))))):=HT.o.1;clear HT;cases b0 with
     | false=>
      have HS:Hid (O.isSome=false):=HB.o;clear HB;exact aaI
     | true=>
      cases bn with
      | false=>
       have HS:Hid (O.isSome=false):=HB.o;clear HB;exact aaI
      | true=>
       cases ba with
       | false=>
        have HS:Hid (O.isSome=false):=HB.o;clear HB;exact aaI
       | true=>
        by_cases h4:kt=4
        ·have hb4:((kt:Int) != 4)=false:=(by rw[eN];omega);by_cases h8:kl=8
         ·have hb8:((kl:Int) != 8)=false:=(by rw[eN];omega);have HS:Hid (O.isSome=true):=(by show _=_;rw[HB.o];simp[h4,h8]);clear HB h4 h8;exact aaI
         ·have hb8:((kl:Int) != 8)=true:=(by rw[fj];omega);have HS:Hid (O.isSome=false):=(by show _=_;rw[HB.o];simp[h8]);clear HB h4 h8;exact aaI
        ·have hb4:((kt:Int) != 4)=true:=(by rw[fj];omega);have HS:Hid (O.isSome=false):=(by show _=_;rw[HB.o];simp[h4]);clear HB h4;exact aaI
    case rest=>
     obtain ⟨rfl,rfl⟩:=hcut;have HT2:=hid HT.o.2;clear HT c2;obtain ⟨⟨e0,k0⟩,⟨e1,k1⟩,⟨e2,k2⟩,⟨e3,k3⟩,⟨e4,k4⟩,⟨e5,k5⟩,⟨e6,k6⟩,f0,f1,f2,f3,f4,f5,f6⟩:=oK HC.o;cases O with
     | none=>
      clear HT2 HK c3;simp only[Option.isSome_none,en];go_wp2;refine bodyPost_ret (aJ results115 _ _ _ w.heap.size rfl _ (gY (eZ HC.o _ _ _ _ _ _ _))) rfl ?_;exact ⟨⟨0,0,[],0,0,0,0⟩,rfl,fun q hq=>(by cases hq),qp,az (az (az (az (az (az (az (HG.o) (bd _)) (bd _)) (bd _)) (bd _)) (bd _)) (bd _)) (bd _)⟩
     | some t=>
      obtain rfl:=HT2.o t rfl;clear HT2;simp only[cY,eE];have HKd:Hid (Calls prog 87 #[.slice p1.ad kl p1.cap] (wc.drew) fun e w'=>e = .returned (.int .u64 ((Pure.joinL 0 p1.ins).toNat:Int))/\wc.drew=w'):=HK.o _ (AL.o.grown (bD (bh _ _)));obtain ⟨r0,r1,r2,r3⟩:=EC.o;have HSD:Hid (wc.drew.cell? ⟨g,3,none⟩=some (.slice p1.ad kl p1.cap)/\wc.drew.cell? ⟨go,0,none⟩=some (.int .i64 v3)/\wc.drew.cell? ⟨go,1,none⟩=some (.int .i64 v4)/\wc.drew.cell? ⟨go,2,none⟩=some (.int .i64 v5)/\wc.drew.cell? ⟨go,3,none⟩=some (.int .i64 v6)):=⟨c3,r0,r1,r2,r3⟩
      have HSE:Hid (∀ u0 u1 u2 u3 u4 u5 u6:Value,(((((((wc.setCell ⟨w.heap.size,0,none⟩ u0).setCell ⟨w.heap.size,1,none⟩ u1).setCell ⟨w.heap.size,2,none⟩ u2).setCell ⟨w.heap.size,3,none⟩ u3).setCell ⟨w.heap.size,4,none⟩ u4).setCell ⟨w.heap.size,5,none⟩ u5).setCell ⟨w.heap.size,6,none⟩ u6).drew.cell? ⟨g,3,none⟩=some (.slice p1.ad kl p1.cap)/\(((((((wc.setCell ⟨w.heap.size,0,none⟩ u0).setCell ⟨w.heap.size,1,none⟩ u1).setCell ⟨w.heap.size,2,none⟩ u2).setCell ⟨w.heap.size,3,none⟩ u3).setCell ⟨w.heap.size,4,none⟩ u4).setCell ⟨w.heap.size,5,none⟩ u5).setCell ⟨w.heap.size,6,none⟩ u6).drew.cell? ⟨go,0,none⟩=some (.int .i64 v3)/\(((((((wc.setCell ⟨w.heap.size,0,none⟩ u0).setCell ⟨w.heap.size,1,none⟩ u1).setCell ⟨w.heap.size,2,none⟩ u2).setCell ⟨w.heap.size,3,none⟩ u3).setCell ⟨w.heap.size,4,none⟩ u4).setCell ⟨w.heap.size,5,none⟩ u5).setCell ⟨w.heap.size,6,none⟩ u6).drew.cell? ⟨go,1,none⟩=some (.int .i64 v4)/\(((((((wc.setCell ⟨w.heap.size,0,none⟩ u0).setCell ⟨w.heap.size,1,none⟩ u1).setCell ⟨w.heap.size,2,none⟩ u2).setCell ⟨w.heap.size,3,none⟩ u3).setCell ⟨w.heap.size,4,none⟩ u4).setCell ⟨w.heap.size,5,none⟩ u5).setCell ⟨w.heap.size,6,none⟩ u6).drew.cell? ⟨go,2,none⟩=some (.int .i64 v5)/\(((((((wc.setCell ⟨w.heap.size,0,none⟩ u0).setCell ⟨w.heap.size,1,none⟩ u1).setCell ⟨w.heap.size,2,none⟩ u2).setCell ⟨w.heap.size,3,none⟩ u3).setCell ⟨w.heap.size,4,none⟩ u4).setCell ⟨w.heap.size,5,none⟩ u5).setCell ⟨w.heap.size,6,none⟩ u6).drew.cell? ⟨go,3,none⟩=some (.int .i64 v6)):=fun u0 u1 u2 u3 u4 u5 u6=>⟨(Vv hg1 _ _ _ _ _ _ _).trans c3,(Vv YP _ _ _ _ _ _ _).trans r0,(Vv YP _ _ _ _ _ _ _).trans r1,(Vv YP _ _ _ _ _ _ _).trans r2,(Vv YP _ _ _ _ _ _ _).trans r3⟩
      clear HK AL;go_wp2_with fail;go_region_held3 (fun w'=>w'.cell? ⟨g,3,none⟩=some (.slice p1.ad kl p1.cap)/\w'.cell? ⟨go,0,none⟩=some (.int .i64 v3)/\w'.cell? ⟨go,1,none⟩=some (.int .i64 v4)/\w'.cell? ⟨go,2,none⟩=some (.int .i64 v5)/\w'.cell? ⟨go,3,none⟩=some (.int .i64 v6)) (first|(with_reducible exact HSD.o)|(with_reducible exact ⟨c3,r0,r1,r2,r3⟩)|(with_reducible exact HSE.o _ _ _ _ _ _ _) | go_keep) (first|(go_at_call 87;refine HKd.o.mono ?_;rintro e w6 ⟨rfl,rfl⟩));go_wp2;(try simp only[Exit.inBlock,Exit.then]);refine bodyPost_ret (aJ results115 _ _ _ w.heap.size rfl _ (gY (NM (eZ HC.o _ _ _ _ _ _ _)))) rfl ?_;exact ⟨_,rfl,fun q hq=>(by injection hq),IP.o,bD (az (az (az (az (az (az (az (HG.o) (bd _)) (bd _)) (bd _)) (bd _)) (bd _)) (bd _)) (bd _))⟩
   ·have HO:Hid (O=none):=by
     show _=_;rw[HR2.o,<-hps];exact AX _ (by rw[cw];exact hn)
    obtain ⟨ao,c,rfl,_⟩:=hv;obtain ⟨m,hm⟩:=aq l.length;rw[hm] at hn ⊢;have b2:((m:Int) != 7)=true:=(by rw[fj];omega);clear HR2 hps hn hm Fb hgn;exact aaO
theorem Vw {a b:Int} (h:0<=a):a.tdiv b=a / b:=Int.tdiv_eq_ediv_of_nonneg h
theorem Vx {a b:Int} (h:0<=a):a.tmod b=a % b:=fp h
theorem kL (e:RE) (f:Int) (w:World) (hf:0<f) (h0:0<=e.ay) (h1:e.ay<64) :
  Calls prog 102 #[.agg e.arr,.int .i64 f] w fun r w'=>r = .returned (.bool (e.be.has f))/\w.grownBy w' none:=by
 have G0:=aE w (.cells e.arr 166) none
 have HG:=hid G0
 have HB:Hid (e.be.has f=decide (e.ay / f % 2=1)):=rfl
 obtain ⟨x,hx⟩:=aq e.ay
 unfold RE.arr at HG ⊢
 rw[hx] at HG h0 h1 HB ⊢
 have hd0:0<=x / f:=Int.ediv_nonneg h0 afp
 have hd1:x / f<64:=Int.lt_of_le_of_lt (Int.ediv_le_self _ h0) h1
 have e1:x.tdiv f=x / f:=Vw h0
 have e2:(x / f).tmod 2=x / f % 2:=Vx hd0
 have hne:¬ f=0:=by omega
 have hw:wrap64 (x / f)=x / f:=by unfold wrap64;omega
 have hw2:wrap64 (x / f % 2)=x / f % 2:=by unfold wrap64;omega
 clear hx G0
 go_enter func102,ntmps102
 go_wp2
 go_ret
 exact ⟨fK (by rw[HB.o];first | rfl|(rw[Bool.eq_iff_iff];simp)),HG.o⟩
theorem FY (e:RE) (now:Int) (w:World) :
  Calls prog 144 #[.agg e.arr,.int .i64 now] w fun r w'=>r = .returned (.bool (e.be.gone now))/\w.grownBy w' none:=by
 have HG:=hid (aE w (.cells e.arr 166) none)
 have HB:Hid (e.be.gone now=decide (e.bC≠0/\e.bC<=now)):=rfl
 obtain ⟨x,hx⟩:=aq e.bC
 unfold RE.arr at HG ⊢
 rw[hx] at HG HB ⊢
 clear hx
 by_cases h0:x=0
 ·subst h0;go_enter func144,ntmps144;go_wp2;go_ret;exact ⟨fK (by rw[HB.o];simp),HG.o⟩
 ·go_enter func144,ntmps144;go_wp2;go_ret;exact ⟨fK (by rw[HB.o];simp[h0]),HG.o⟩
theorem acu {p:Prop} (h:p:=by
 go_enter func114,ntmps114
 go_wp2
 go_ret2
 exact ⟨by rw[HE.o];rfl,HG.o⟩):p:=h
theorem Dr (e:RE) (n:Int) (w:World) (hn0:1<=e.aH) (hn1:e.aH<=9223372036854775807) :
  Calls prog 114 #[.agg e.arr,.int .i64 n] w fun r w'=>r = .returned (.tuple #[.int .u64 (((e.be.keyOf n).getD 0).toNat:Int),.bool (e.be.keyOf n).isSome])/\w.grownBy w' none:=by
 have HG:=hid (aE w (.cells e.arr 166) none)
 have HB:Hid (e.be.keyOf n=if n=e.aH then some e.key else if n=e.aH-1/\1<e.aH then some e.before else none):=rfl
 obtain ⟨R,hR⟩:=aq (e.be.keyOf n)
 rw[hR] at HB ⊢
 obtain ⟨x,hx⟩:=aq e.aH
 unfold RE.arr at HG ⊢
 rw[hx] at HG HB hn0 hn1 ⊢
 have hw:wrap64 (x-1)=x-1:=by unfold wrap64;omega
 clear hx hR
 by_cases c0:n=x
 ·have HE:Hid (R=some e.key):=by show _=_;rw[HB.o,if_pos c0]
  clear HB;subst c0;exact acu
 ·by_cases c1:n=x-1
  ·by_cases c2:1<x
   ·have HE:Hid (R=some e.before):=(by show _=_;rw[HB.o,if_neg c0,if_pos ⟨c1,c2⟩]);clear HB;have b0:(n==x)=false:=(by rw[cg];exact c0);have b1:(n==x-1)=true:=(by rw[cL];exact c1);clear c1;exact acu
   ·have HE:Hid (R=none):=(by show _=_;rw[HB.o,if_neg c0,if_neg (fun q=>c2 q.2)]);clear HB;have b1:(n==x-1)=true:=(by rw[cL];exact c1);clear c1;exact acu
  ·have HE:Hid (R=none):=(by show _=_;rw[HB.o,if_neg c0,if_neg (fun q=>c1 q.1)]);clear HB;exact acu
def mM (x y:BE) (now a b:Int):Int:=if x.gone now=true then a else if y.gone now=true then b else if x.has 32=true\/y.has 32=true then 12 else 0
theorem af6 {p:Prop} (h:p:=by first | with_reducible rfl|(simp only[ch];done)|(simp only[ch];omega)):p:=h
variable {g:Nat}
theorem eu {b:Nat} {e:RE} (h:w.rangeAt b 0 e.cells):w.cell? ⟨b,0,none⟩=some (.int .i64 e.k)/\w.cell? ⟨b,1,none⟩=some (.string ⟨e.name.toArray⟩)/\w.cell? ⟨b,2,none⟩=some (.int .u64 (e.yo.toNat:Int))/\w.cell? ⟨b,3,none⟩=some (.int .i64 e.bI)/\w.cell? ⟨b,4,none⟩=some (.int .i64 e.aD)/\w.cell? ⟨b,5,none⟩=some (.int .i64 e.bC)/\w.cell? ⟨b,6,none⟩=some (.int .i64 e.ay)/\w.cell? ⟨b,7,none⟩=some (.int .i64 e.aH)/\w.cell? ⟨b,8,none⟩=some (.int .u64 (e.key.toNat:Int))/\w.cell? ⟨b,9,none⟩=some (.int .u64 (e.before.toNat:Int)):=
 ⟨h 0 _ rfl,h 1 _ rfl,h 2 _ rfl,h 3 _ rfl,h 4 _ rfl,h 5 _ rfl,h 6 _ rfl,h 7 _ rfl,h 8 _ rfl,h 9 _ rfl⟩
theorem vG (w:World) (e:RE):(w.alloc (.cells e.arr 166)).rangeAt w.heap.size 0 e.cells:=aW w e.arr 166
theorem aA {w':World} {b o:Nat} {cs:List Value} (h:w.rangeAt b o cs) (k:w.grownBy w' none):w'.rangeAt b o cs:=fun i v hv=>k.cell (h i v hv) aft
theorem acJ {p:Prop} (h:p:=by
 clear HR
 go_wp2
 go_ret
 exact ⟨bE HS.o.symm,xu.o⟩):p:=h
theorem ze (d:Value) (x y:RE) (now a b:Int) (w:World) (hx:0<=x.ay/\x.ay<64) (hy:0<=y.ay/\y.ay<64) :
  Calls Tryz.prog 101 #[d,.agg x.arr,.agg y.arr,.int .i64 now,.int .i64 a,.int .i64 b] w fun e w'=>e = .returned (.int .i64 (mM x.be y.be now a b))/\w.grownBy w' none:=by
 have HX:=hid (aA (vG w x) (aE _ (.cells y.arr 166) none))
 have HY:Hid (((w.alloc (.cells x.arr 166)).alloc (.cells y.arr 166)).rangeAt (w.heap.size+1) 0 y.cells):=by
  have h:=vG (w.alloc (.cells x.arr 166)) y;rw[ch] at h;exact h
 have HG:=hid (aR (aE w (.cells x.arr 166) none) (.cells y.arr 166))
 have C1:=hid (fun W=>FY x now W)
 have C2:=hid (fun W=>FY y now W)
 have C3:=hid (fun W=>kL x 32 W afq hx.1 hx.2)
 have C4:=hid (fun W=>kL y 32 W afq hy.1 hy.2)
 have HR:Hid (mM x.be y.be now a b=if x.be.gone now=true then a else if y.be.gone now=true then b else if x.be.has 32=true\/y.be.has 32=true then 12 else 0):=rfl
 obtain ⟨R,hR⟩:=aq (mM x.be y.be now a b)
 rw[hR] at HR ⊢
 obtain ⟨p,hp⟩:=aq (x.be.gone now)
 obtain ⟨q,hq⟩:=aq (y.be.gone now)
 obtain ⟨m,hm⟩:=aq (x.be.has 32)
 obtain ⟨n,hn⟩:=aq (y.be.has 32)
 rw[hp,hq,hm,hn] at HR
 rw[hp] at C1
 rw[hq] at C2
 rw[hm] at C3
 rw[hn] at C4
 clear hp hq hm hn hR hx hy
 go_enter Tryz.func101,Tryz.ntmps101
 go_wp2_with fail
 refine (C1.o _).mono ?_
 rintro e w1 ⟨rfl,g1⟩
 have rW:=hid (aA HX.o g1)
 have HY1:=hid (aA HY.o g1)
 have jC:=hid (aa HG.o g1)
 clear HX HY HG g1 C1
 obtain ⟨y0,y1,y2,y3,y4,y5,y6,y7,y8,y9⟩:=eu HY1.o
 go_wp2_with fail
 refine (C2.o _).mono ?_
 rintro e w2 ⟨rfl,g2⟩
 have uU:=hid (aA rW.o g2)
 have HY2:=hid (aA HY1.o g2)
 have HG2:=hid (aa jC.o g2)
 clear rW HY1 jC g2 C2 y0 y1 y2 y3 y4 y5 y6 y7 y8 y9
 obtain ⟨y0,y1,y2,y3,y4,y5,y6,y7,y8,y9⟩:=eu uU.o
 go_wp2_with fail
 refine (C3.o _).mono ?_
 rintro e w3 ⟨rfl,g3⟩
 have HY3:=hid (aA HY2.o g3)
 have mf:=hid (aa HG2.o g3)
 clear uU HY2 HG2 g3 C3 y0 y1 y2 y3 y4 y5 y6 y7 y8 y9
 obtain ⟨y0,y1,y2,y3,y4,y5,y6,y7,y8,y9⟩:=eu HY3.o
 go_wp2_with fail
 refine (C4.o _).mono ?_
 rintro e w4 ⟨rfl,g4⟩
 have xu:=hid (aa mf.o g4)
 clear HY3 mf g4 C4 y0 y1 y2 y3 y4 y5 y6 y7 y8 y9
 cases p with
 | true=>
  have HS:Hid (R=a):=HR.o;exact acJ
 | false=>
  cases q with
  | true=>
   have HS:Hid (R=b):=HR.o;exact acJ
  | false=>
   cases m with
   | true=>
    have HS:Hid (R=12):=(by show _=_;rw[HR.o];simp);exact acJ
   | false=>
    cases n with
    | true=>
     have HS:Hid (R=12):=(by show _=_;rw[HR.o];simp);exact acJ
    | false=>
     have HS:Hid (R=0):=(by show _=_;rw[HR.o];simp);exact acJ
theorem YQ {cs:Array Value} {e:TypeId} {l:List Value} (hl:cs.toList=l) (h:g=w.heap.size):(w.alloc (.cells cs e)).rangeAt g 0 l:=by
 subst h hl;exact aW w cs e
theorem Vy {cs:Array Value} {e:TypeId} {n:Nat} (hn:cs.size=n) (h:g=w.heap.size):Live (w.alloc (.cells cs e)) g n:=by
 subst h hn;exact Live.new w cs e
theorem TK.nQ (t:TK):t.cells.toArray=#[.int .i64 t.ay,.int .u64 (t.aM.toNat:Int),.string ⟨t.ax.toArray⟩,.int .i64 t.dY,.int .i64 t.start,.int .i64 t.fin,.int .i64 t.aD]:=rfl
theorem Rf {W:World} {v0 v1 v2 v3 v4 v5 v6:Value} (h:w.grownBy W none) (hg:w.heap.size<=g):w.grownBy (((((((W.setCell ⟨g,0,none⟩ v0).setCell ⟨g,1,none⟩ v1).setCell ⟨g,2,none⟩ v2).setCell ⟨g,3,none⟩ v3).setCell ⟨g,4,none⟩ v4).setCell ⟨g,5,none⟩ v5).setCell ⟨g,6,none⟩ v6) none:=
 az (az (az (az (az (az (az h hg) hg) hg) hg) hg) hg) hg
theorem Hz {p:Prop} (h:p:=by repeat (first | exact YQ rfl af6 | exact Vy rfl af6 | exact aE _ _ none | refine aA ?_ (aE _ _ none) | refine Live.grown ?_ (aE _ _ none) | refine aR ?_ _)):p:=h
variable {L:List (Value×List UInt8)} {B:Nat} {W:World}
def Acc (W:World) (B:Nat) (L:List (Value×List UInt8)):Prop:=∀ x∈L,Has W x.1 x.2/\x.2.length<=B
theorem Acc.nil (W:World) (B:Nat):Acc W B []:=fun _ h=>by simp at h
theorem Has.shape {v:Value} {z:List UInt8} (h:Has W v z):∃ a c,v = .slice a z.length c:=by
 obtain ⟨a,c,h1,_⟩:=h;exact ⟨a,c,h1⟩
theorem Acc.grown {W':World} (h:Acc W B L) (k:W.grownBy W' none):Acc W' B L:=fun x hx=>⟨(h x hx).1.grown k,(h x hx).2⟩
theorem Acc.push {W':World} {o:Value} {z:List UInt8} (h:Acc W B L) (k:W.grownBy W' none) (q:Has W' o z) (hz:z.length<=B):Acc W' B ((o,z)::L):=by
 intro x hx;rcases List.mem_cons.1 hx with e | e
 ·subst e;exact ⟨q,hz⟩
 ·exact h.grown k x e
theorem Dt:∀ (L:List (Value×List UInt8)) (B:Nat),(∀ x∈L,x.2.length<=B)->(oG L).length<=L.length*B:=by
 intro L B;unfold oG;induction L with
 | nil=>intro _;simp
 | cons a L ih=>
  intro h;have h1:=h a aft;have h2:=ih (fun x hx=>h x (by simp[hx]));rw[dj,dk,bj,cN,Nat.succ_mul];omega
theorem nR (tag:UInt8) (l:List UInt8):(Box.box tag l).length<=l.length+4:=by
 rw[Box.jG];split
 ·omega
 ·split <;> omega
theorem jA (v:Int) (B:Nat) (h:10<=B):(bQ v).length<=B:=br (fe v).2 h
theorem fH (l:List UInt8) (B:Nat) (h:l.length+4<=B):(dw l).length<=B:=br (nR 4 l) h
theorem FZ (k:UInt64) (B:Nat) (h:12<=B):(mo k).length<=B:=br (nR 4 _) (by rw[Pure.bX];exact h)
theorem aeo {p:Prop} (h:p:=by
 rintro e w' ⟨o,q1,q2,q3⟩
 exact ⟨o,q1,q2,br (nR 48 _) (Nat.add_le_add_right hc 4),q3⟩):p:=h
theorem Acc.list (h:Acc W B L) (vs:Array Value) (n:Nat) (hvs:vs=(L.reverse.map fun x=>x.1).toArray) (hn:L.reverse.length=n) (zm:n<=1000) (hB:n*B<=140737488351232) :
  Calls prog 62 #[.slice (some ⟨W.heap.size,0,none⟩) n n] (W.alloc (.cells vs 37)) fun e w'=>∃ o,e = .returned o/\Has w' o (jm (L.reverse.map fun x=>x.2))/\(jm (L.reverse.map fun x=>x.2)).length<=n*B+4/\W.grownBy w' none:=by
 have hc:(oG L.reverse).length<=n*B:=by rw[<-hn];exact Dt _ B (fun x hx=>(h x (List.mem_reverse.1 hx)).2)
 refine (Qr L.reverse vs n W (fun x hx=>(h x (List.mem_reverse.1 hx)).1) hvs hn zm afp).mono ?_
 exact aeo
theorem RD.drawn {w w':World} {base yb:Nat} {M:DM} {g:RG} (hD:RD w base yb M g) {v:Value} {ds:List UInt8} (hg:w.grownBy W none) (hown:W.ownsRow w.heap.size 5 1 v ds.length (ds.map U8)) (hw:w'=W.setCell ⟨yb,3,none⟩ v) (hb:base<=w.heap.size) :
  RD w' base yb {M with aO:=ds} {g with dv:=v}/\w.grownBy w' (some yb)/\NewAt w.heap.size v:=by
 have hnew:NewAt w.heap.size v:=fun b hb=>(hown.lt b hb).1
 have hD1:RD W base yb M g:=hD.keep (fun b hb=>hg.block b (hD.lt b hb).2 aft)
 have hnb:∀ b,g.foot yb b->v.ownBlock≠some b:=fun b hb e=>by have:=hnew b e;have:=(hD.lt b hb).2;omega
 have hg':w.grownBy w' (some yb):=by
  subst hw;refine ⟨hg.os,hg.tape,hg.output,?_,fun b hb hx=>?_⟩
  ·rw[show (W.setCell ⟨yb,3,none⟩ v).heap.size=W.heap.size from by simp[World.setCell]];exact hg.size
  ·have hne:b≠yb:=fun e=>hx af4;rw[show (W.setCell ⟨yb,3,none⟩ v).heap[b]?=W.heap[b]? from by simp[World.setCell,Array.getElem?_modify,Ne.symm hne]];exact hg.block b hb aft
 have hkeep:∀ b,b≠yb->w'.heap[b]?=W.heap[b]?:=fun b hne=>by
  subst hw;simp[World.setCell,Array.getElem?_modify,Ne.symm hne]
 refine ⟨⟨⟨?_,eF hD1.dF.bg (fun b hb=>hkeep b (fun e=>hD.dF.bne afR)),fT (eF hown (fun b hb=>hkeep b (fun e=>hnb yb (.inl rfl) afR))) hb,hD.dF.here,hD.dF.bne,hnb yb (.inl rfl),?_⟩,hD.bg,eF hD1.aN (fun b hb=>hkeep b (fun e=>hD.pne afR)),hD.pne,hD.pb,?_⟩,hg',hnew⟩
 ·subst hw;have:=hD1.dF.blk.set 3 v;simpa using this
 ·cases hq:g.bv.ownBlock with
  | none=>exact .inl rfl
  | some b=>exact .inr (fun e=>hnb b (.inr (.inl hq)) e.symm)
 ·cases hq:g.pv.ownBlock with
  | none=>exact .inl rfl
  | some b=>exact .inr (fun e=>hnb b (.inr (.inr (.inl hq))) e.symm)
theorem zP (base yb:Nat) (M:DM) (g:RG) (w:World) (hD:RD w base yb M g) (h8:8<=M.aO.length) (hdl:M.aO.length<=140737488355328) (hbase:base<=w.heap.size) :
  Calls prog 146 #[.pointer (some ⟨yb,0,none⟩)] w fun e w'=>e = .returned (.int .u64 ((Pure.joinL 0 (M.aO.take 8)).toNat:Int))/\∃ v,RD w' base yb {M with aO:=M.aO.drop 8} {g with dv:=v}/\w.grownBy w' (some yb)/\NewAt w.heap.size v:=by
 obtain ⟨i0,hif,hz0,hz1,hz2⟩:=info_parts Tryz.info5
 obtain ⟨a0,c0,hdv,hnc,hcm,_,hat⟩:=iI hD.dF.aO
 obtain ⟨n,hn⟩:=aq M.aO.length
 rw[hn] at h8 hdl hdv hnc
 have k3:=hD.dF.blk.cell 3
 rw[hdv] at k3
 simp only[cx,ct,cD] at k3
 obtain ⟨a1,e1,lM⟩:=xV (P:=prog) 37 5 i0 underlying37 hif hz1 a0 n c0 (hid hn) hnc 8 (8:Int) rfl h8
 have e2:∀ w,(Instr.sliceAt 37 (.slice a0 n c0) (some (.int .i64 8)) none none).run prog w = .ok (.slice (sl a0 c0 8) (n-8) (c0-8)) w:=wJ (P:=prog) 37 5 i0 underlying37 hif hz1 a0 n c0 8 h8
 have Vz:=hat.part c0 8 (by rw[hn];exact hnc)
 obtain ⟨a2,ha2⟩:=aq (sl a0 c0 8)
 have IJ:Hid (a2=none->c0-8=0):=by
  intro e;obtain ⟨b,off,q,_⟩:=hat.addr (by rw[hn];omega);rw[<-ha2,q] at e;unfold sl at e;split at e <;> cases e
 rw[ha2] at e2 Vz
 have HD:=hid hD
 have C1:=hid (uM (M.aO.take 8) 8 a1 c0 w (hid (by rw[cG];omega)) afq (lM w hat))
 obtain ⟨j8,hj8⟩:=aq (Pure.joinL 0 (M.aO.take 8))
 rw[hj8] at C1 ⊢
 have ZV:(M.aO.drop 8).length=n-8:=by rw[cy,hn]
 have HDL:=hid ZV
 have hsz:n-8<=140737488355328:=by omega
 clear hD hat lM hj8 hdv hn ZV ha2 h8 hdl hnc hcm
 go_enter func146,ntmps146
 go_wp2_with (first|(go_at_call 87;refine C1.o.mono ?_;rintro e w' ⟨rfl,rfl⟩)|(at_builtin;refine bU _ rfl _ _ 37 rfl w.heap.size 5 i0 underlying37 hif hz0 hz1 hz2 _ 0 [] rfl (World.ownsRow_nil _ _ _ _) a2 (n-8) (c0-8) (M.aO.drop 8) rfl HDL.o IJ.o Vz afp (bd _) ?_))
 intro v1 w1 hown1 hg1 _
 have HO:Hid (w1.ownsRow w.heap.size 5 1 v1 (M.aO.drop 8).length ((M.aO.drop 8).map U8)):=hid (by rw[HDL.o];simpa using hown1)
 have HG:Hid (w.grownBy w1 none):=hid (by simpa[Value.ownBlock] using hg1)
 obtain ⟨av,cv,rfl⟩:=cu HO.o
 have B1:=HD.o.dF.blk.grown HG.o aft
 have WW:=B1.cell 3
 have f3':=B1.frozen 3
 simp only[cx,ct,cD] at WW
 clear hown1 hg1 B1 k3 Vz
 go_wp2
 go_ret
 exact ⟨rfl,_,HD.o.drawn HG.o HO.o (by rw[cy]) hbase⟩
set_option maxHeartbeats 8000000
variable {fl rn:Int} {k:Nat} {x:RE} {t:TK}
def zf (aL old:Int) (x s:BE) (b f:Int):Bool:=aG aL b && (aG old b && (x.has f && s.has f))
def gJ (c0 c1 c2:Bool) (k:Nat):Int:=(if c0=true then (if 0<k then 1 else 0) else 0)+(if c1=true then (if 1<k then 2 else 0) else 0)+(if c2=true then (if 2<k then 4 else 0) else 0)
theorem Ri (aL old:Int) (x s:BE):gJ (zf aL old x s 1 4) (zf aL old x s 2 8) (zf aL old x s 4 2) 3=gI aL old x s:=by
 unfold gJ gI zf;simp only[ej];simp
theorem uk (aL old:Int) (x s:BE) (start upto:Int):fu aL old x s start upto=if zf aL old x s 4 2=true then lesser upto (lesser (aX start x.aD) (aX start s.aD)) else 0:=by
 unfold fu zf;simp only[ej]
def TK.more (t:TK) (f r:Int):TK:={t with ay:=t.ay+f,aD:=r}
theorem Rj {f:Int} (h0:0<=f) (h1:f<4096) (c0 c1 c2:Bool) (k:Nat):0<=f+gJ c0 c1 c2 k/\f+gJ c0 c1 c2 k<8192:=by
 unfold gJ;(repeat' split) <;> omega
structure MW (w wr:World) (t:TK) (x s:RE) (fl rn:Int):Prop where
 t:wr.rangeAt w.heap.size 0 [.int .i64 fl,.int .u64 (t.aM.toNat:Int),.string ⟨t.ax.toArray⟩,.int .i64 t.dY,.int .i64 t.start,.int .i64 t.fin,.int .i64 rn]
 lt:Live wr w.heap.size 7
 x:wr.rangeAt (w.heap.size+1) 0 x.cells
 s:wr.rangeAt (w.heap.size+2) 0 s.cells
 r:Live wr (w.heap.size+3) 7
 b:wr.rangeAt (w.heap.size+4) 0 [.int .i64 1,.int .i64 2,.int .i64 4]
 f:wr.rangeAt (w.heap.size+5) 0 [.int .i64 4,.int .i64 8,.int .i64 2]
 g:w.grownBy wr none
theorem MW.grown {W':World} {s:RE} (h:MW w W t x s fl rn) (k:W.grownBy W' none):MW w W' t x s fl rn:=
 ⟨aA h.t k,h.lt.grown k,aA h.x k,aA h.s k,h.r.grown k,aA h.b k,aA h.f k,aa h.g k⟩
theorem MW.drew {s:RE} (h:MW w W t x s fl rn):MW w W.drew t x s fl rn:=h.grown (bD (bh _ _))
theorem eT {g o:Nat} {cs:List Value} (h:w.rangeAt g o cs) (hn:b≠g) (v:Value):(w.setCell ⟨b,k,none⟩ v).rangeAt g o cs:=fun j u hu=>by
 rw[World.cell?_setCell_far _ _ _ _ hn]
 exact h j u hu
theorem range_one {cs:List Value} (h:w.rangeAt b 0 cs) (hk:k<cs.length) (v:Value):(w.setCell ⟨b,k,none⟩ v).rangeAt b 0 (cs.set k v):=by
 intro j x hx;rw[List.getElem?_set] at hx;by_cases hj:k=j
 ·subst hj;rw[if_pos rfl,if_pos hk] at hx;injection hx with hx;subst hx;have:=h k cs[k] (cr hk);rw[cC] at this ⊢;exact World.cell?_setCell_same _ _ _ this
 ·rw[if_neg hj] at hx;rw[World.cell?_setCell_other _ _ _ _ (fun e=>hj (by have:=eh Addr.off e;simp at this;omega))];exact h j x hx
theorem bP {g n:Nat} (h:Live w b n) (v:Value):Live (w.setCell ⟨g,k,none⟩ v) b n:=h.cf (ex:=fun _ _=>True) ((CF.refl w _).setCell g k v (fun _=>trivial))
theorem MW.abO {s:RE} (h:MW w W t x s fl rn) (v:Int):MW w (W.setCell ⟨w.heap.size,0,none⟩ (.int .i64 v)) t x s v rn:=
 ⟨range_one h.t aft _,bP h.lt _,eT h.x afp _,eT h.s afp _,bP h.r _,eT h.b afp _,eT h.f afp _,az h.g (bd _)⟩
theorem MW.abP {s:RE} (h:MW w W t x s fl rn) (v:Int):MW w (W.setCell ⟨w.heap.size,6,none⟩ (.int .i64 v)) t x s fl v:=
 ⟨range_one h.t aft _,bP h.lt _,eT h.x afp _,eT h.s afp _,bP h.r _,eT h.b afp _,eT h.f afp _,az h.g (bd _)⟩
theorem afg {p:Prop} (h:p:=by
 have:=h.f k v hk
 rw[cC] at this
 exact ⟨e0,e1,e2,e3,e4,e5,e6,e7,e8,e9,this⟩):p:=h
theorem MW.sx {s:RE} (h:MW w W t x s fl rn) (k:Nat) (v:Value) (hk:[Value.int .i64 4,.int .i64 8,.int .i64 2][k]?=some v):W.cell? ⟨w.heap.size+1,0,none⟩=some (.int .i64 x.k)/\W.cell? ⟨w.heap.size+1,1,none⟩=some (.string ⟨x.name.toArray⟩)/\W.cell? ⟨w.heap.size+1,2,none⟩=some (.int .u64 (x.yo.toNat:Int))/\W.cell? ⟨w.heap.size+1,3,none⟩=some (.int .i64 x.bI)/\W.cell? ⟨w.heap.size+1,4,none⟩=some (.int .i64 x.aD)/\W.cell? ⟨w.heap.size+1,5,none⟩=some (.int .i64 x.bC)/\W.cell? ⟨w.heap.size+1,6,none⟩=some (.int .i64 x.ay)/\W.cell? ⟨w.heap.size+1,7,none⟩=some (.int .i64 x.aH)/\W.cell? ⟨w.heap.size+1,8,none⟩=some (.int .u64 (x.key.toNat:Int))/\W.cell? ⟨w.heap.size+1,9,none⟩=some (.int .u64 (x.before.toNat:Int))/\W.cell? ⟨w.heap.size+5,k,none⟩=some v:=by
 obtain ⟨e0,e1,e2,e3,e4,e5,e6,e7,e8,e9⟩:=eu h.x;exact afg
theorem MW.ss {s:RE} (h:MW w W t x s fl rn) (k:Nat) (v:Value) (hk:[Value.int .i64 4,.int .i64 8,.int .i64 2][k]?=some v):W.cell? ⟨w.heap.size+2,0,none⟩=some (.int .i64 s.k)/\W.cell? ⟨w.heap.size+2,1,none⟩=some (.string ⟨s.name.toArray⟩)/\W.cell? ⟨w.heap.size+2,2,none⟩=some (.int .u64 (s.yo.toNat:Int))/\W.cell? ⟨w.heap.size+2,3,none⟩=some (.int .i64 s.bI)/\W.cell? ⟨w.heap.size+2,4,none⟩=some (.int .i64 s.aD)/\W.cell? ⟨w.heap.size+2,5,none⟩=some (.int .i64 s.bC)/\W.cell? ⟨w.heap.size+2,6,none⟩=some (.int .i64 s.ay)/\W.cell? ⟨w.heap.size+2,7,none⟩=some (.int .i64 s.aH)/\W.cell? ⟨w.heap.size+2,8,none⟩=some (.int .u64 (s.key.toNat:Int))/\W.cell? ⟨w.heap.size+2,9,none⟩=some (.int .u64 (s.before.toNat:Int))/\W.cell? ⟨w.heap.size+5,k,none⟩=some v:=by
 obtain ⟨e0,e1,e2,e3,e4,e5,e6,e7,e8,e9⟩:=eu h.s;exact afg
theorem MW.s3 {s:RE} (h:MW w W t x s fl rn):W.cell? ⟨w.heap.size,4,none⟩=some (.int .i64 t.start)/\W.cell? ⟨w.heap.size+1,4,none⟩=some (.int .i64 x.aD)/\W.cell? ⟨w.heap.size+2,4,none⟩=some (.int .i64 s.aD):=⟨h.t 4 _ rfl,h.x 4 _ rfl,h.s 4 _ rfl⟩
theorem abQ {p:Prop} (h:p:=by
  have HX:=hid HC.o
  simp only[gh,gj,gf] at HX
  clear HC
  go_wp2_with (go_at_call 104;(first|(with_reducible refine Calls.mono (C3.o _) ?_)|(with_reducible refine Calls.mono (C4.o _) ?_));rintro e w' ⟨rfl,rfl⟩)
  go_meet
  case rel=>exact ⟨by rw[HX.o],rfl⟩):p:=h
theorem aeJ {p:Prop} (h:p:=by
 cases bo <;> cases bl <;> cases p <;> exact abQ):p:=h
theorem KT (t:TK) (aL old upto:Int) (x s:RE) (w:World) (hx:0<=x.ay/\x.ay<64) (hs:0<=s.ay/\s.ay<64) (UF:In64 x.aD) (UG:In64 s.aD) (hst:In64 t.start) (hf0:0<=t.ay) (hf1:t.ay<4096) :
  Calls Tryz.prog 108 #[.agg t.cells.toArray,.int .i64 aL,.int .i64 old,.agg x.arr,.agg s.arr,.int .i64 upto] w fun e w'=>e = .returned (.agg (t.more (gI aL old x.be s.be) (if zf aL old x.be s.be 4 2=true then fu aL old x.be s.be t.start upto else t.aD)).cells.toArray)/\w.grownBy w' none:=by
 rw[<-Ri,uk]
 obtain ⟨c0,hc0⟩:=aq (zf aL old x.be s.be 1 4)
 obtain ⟨c1,hc1⟩:=aq (zf aL old x.be s.be 2 8)
 obtain ⟨c2,hc2⟩:=aq (zf aL old x.be s.be 4 2)
 rw[hc0,hc1,hc2]
 have ED:=hid (Rj hf0 hf1 c0 c1 c2)
 obtain ⟨rn,hrn⟩:=aq (lesser upto (lesser (aX t.start x.be.aD) (aX t.start s.be.aD)))
 rw[hrn]
 obtain ⟨FR,LU⟩:=aq ((if c2=true then rn else t.aD))
 have hif:(if c2=true then (if c2=true then rn else 0) else t.aD)=(if c2=true then rn else t.aD):=by cases c2 <;> rfl
 rw[hif,LU]
 clear hif
 have O6:=hid LU
 have HRn:=hid hrn
 clear hrn hf0 hf1 LU
 rw[TK.nQ t]
 have hM0:MW w ((((((w.alloc (.cells #[.int .i64 t.ay,.int .u64 (t.aM.toNat:Int),.string ⟨t.ax.toArray⟩,.int .i64 t.dY,.int .i64 t.start,.int .i64 t.fin,.int .i64 t.aD] 43)).alloc (.cells x.arr 166)).alloc (.cells s.arr 166)).alloc (.cells #[.int .i64 0,.int .u64 0,.string ⟨#[]⟩,.int .i64 0,.int .i64 0,.int .i64 0,.int .i64 0] 43)).alloc (.cells #[.int .i64 1,.int .i64 2,.int .i64 4] 2)).alloc (.cells #[.int .i64 4,.int .i64 8,.int .i64 2] 3)) t x s t.ay t.aD:=by
  exact ⟨Hz,Hz,Hz,Hz,Hz,Hz,Hz,Hz⟩
 have Eb:=hid hM0
 clear hM0
 go_enter Tryz.func108,Tryz.ntmps108
 go_wp2
 go_loopw [15] (fun i wr=>∃ k:Nat,k<=3/\i = .int .i64 k/\MW w wr t x s (t.ay+gJ c0 c1 c2 k) (if c2=true/\k=3 then rn else t.aD)) (fun i _=>3-(intOf i).toNat)
 case atStart=>
  refine ⟨0,by decide,rfl,?_⟩;rw[if_neg (fun h=>by omega)];have h0:t.ay+gJ c0 c1 c2 0=t.ay:=by cases c0 <;> cases c1 <;> cases c2 <;> simp[gJ]
  rw[h0];exact Eb.o
 case round=>
  clear Eb;obtain ⟨k,hk,rfl,x91⟩:=hrel;have HM:=hid x91;clear x91;have hk4:k=0\/k=1\/k=2\/k=3:=by omega
  rcases hk4 with rfl | rfl | rfl | rfl
  ·obtain ⟨bo,Pk⟩:=aq (aG aL 1);obtain ⟨bl,hbl⟩:=aq (aG old 1);obtain ⟨p,hp⟩:=aq (x.be.has 4);obtain ⟨q,hq⟩:=aq (s.be.has 4);have C1:=hid (fun W=>kL x 4 W afq hx.1 hx.2);have C2:=hid (fun W=>kL s 4 W afq hs.1 hs.2);have C3:=hid (fun W=>eQ aL 1 0 W afq afq);have C4:=hid (fun W=>eQ old 1 0 W afq afq);rw[hp] at C1;rw[hq] at C2;rw[Pk] at C3;rw[hbl] at C4;have HC:Hid (c0=(bo && (bl && (p && q)))):=(by show _=_;rw[<-hc0,<-Pk,<-hbl,<-hp,<-hq];rfl);have Ea:Hid (t.ay+gJ c0 c1 c2 1=t.ay+gJ c0 c1 c2 0+(if c0=true then 1 else 0)):=(by show _=_;cases c0 <;> cases c1 <;> cases c2 <;> simp[gJ] <;> omega);have HB:=hid (And.intro (ED.o 0) (ED.o 1));clear Pk hbl hp hq hc0 hc1 hc2 ED;obtain ⟨fl,hfl⟩:=aq (t.ay+gJ c0 c1 c2 0);rw[hfl] at HM Ea HB;clear hfl;rw[if_neg (fun h=>absurd h.2 afq)] at HM;have Eb:=HM;have HM:=hid Eb.o.drew;obtain ⟨y0,y1,y2,y3,y4,y5,y6,y7,y8,y9,VE⟩:=HM.o.sx 0 _ rfl;go_wp2_with fail;go_region_held3 (fun w'=>w'.cell? ⟨w.heap.size+1,0,none⟩=some (.int .i64 x.k)/\w'.cell? ⟨w.heap.size+1,1,none⟩=some (.string ⟨x.name.toArray⟩)/\w'.cell? ⟨w.heap.size+1,2,none⟩=some (.int .u64 (x.yo.toNat:Int))/\w'.cell? ⟨w.heap.size+1,3,none⟩=some (.int .i64 x.bI)/\w'.cell? ⟨w.heap.size+1,4,none⟩=some (.int .i64 x.aD)/\w'.cell? ⟨w.heap.size+1,5,none⟩=some (.int .i64 x.bC)/\w'.cell? ⟨w.heap.size+1,6,none⟩=some (.int .i64 x.ay)/\w'.cell? ⟨w.heap.size+1,7,none⟩=some (.int .i64 x.aH)/\w'.cell? ⟨w.heap.size+1,8,none⟩=some (.int .u64 (x.key.toNat:Int))/\w'.cell? ⟨w.heap.size+1,9,none⟩=some (.int .u64 (x.before.toNat:Int))/\w'.cell? ⟨w.heap.size+5,0,none⟩=some (.int .i64 4)) (first|(with_reducible exact MW.sx HM.o 0 _ rfl)|(with_reducible exact MW.sx HM.o.drew 0 _ rfl) | go_keep) (first|(go_at_call 102;refine (C1.o _).mono ?_;rintro e w5 ⟨rfl,g5⟩;have ZZ:=hid (HM.o.grown g5);clear HM g5 C1;have HM:=ZZ;clear ZZ));clear y0 y1 y2 y3 y4 y5 y6 y7 y8 y9 VE Eb;have Eb:=HM;have HM:=hid Eb.o.drew;obtain ⟨y0,y1,y2,y3,y4,y5,y6,y7,y8,y9,VE⟩:=HM.o.ss 0 _ rfl;go_wp2_with fail;go_region_held3 (fun w'=>w'.cell? ⟨w.heap.size+2,0,none⟩=some (.int .i64 s.k)/\w'.cell? ⟨w.heap.size+2,1,none⟩=some (.string ⟨s.name.toArray⟩)/\w'.cell? ⟨w.heap.size+2,2,none⟩=some (.int .u64 (s.yo.toNat:Int))/\w'.cell? ⟨w.heap.size+2,3,none⟩=some (.int .i64 s.bI)/\w'.cell? ⟨w.heap.size+2,4,none⟩=some (.int .i64 s.aD)/\w'.cell? ⟨w.heap.size+2,5,none⟩=some (.int .i64 s.bC)/\w'.cell? ⟨w.heap.size+2,6,none⟩=some (.int .i64 s.ay)/\w'.cell? ⟨w.heap.size+2,7,none⟩=some (.int .i64 s.aH)/\w'.cell? ⟨w.heap.size+2,8,none⟩=some (.int .u64 (s.key.toNat:Int))/\w'.cell? ⟨w.heap.size+2,9,none⟩=some (.int .u64 (s.before.toNat:Int))/\w'.cell? ⟨w.heap.size+5,0,none⟩=some (.int .i64 4)) (first|(with_reducible exact MW.ss HM.o 0 _ rfl)|(with_reducible exact MW.ss HM.o.drew 0 _ rfl) | go_keep) (first|(go_at_call 102;refine (C2.o _).mono ?_;rintro e w6 ⟨rfl,g6⟩;have VF:=hid (HM.o.grown g6);clear HM g6 C2;have HM:=VF;clear VF));clear y0 y1 y2 y3 y4 y5 y6 y7 y8 y9 VE Eb;have z0:w6.cell? ⟨w.heap.size+4,0,none⟩=some (.int .i64 1):=HM.o.b 0 _ rfl;go_upto_region 8 with fail
   go_cut [55] (fun z wx=>z = .bool c0/\wx=w6)
   case first=>
    exact aeJ
   case rest=>
    obtain ⟨rfl,rfl⟩:=hcut;clear HC C3 C4;cases c0 with
    | false=>
     have mg:Hid (t.ay+gJ false c1 c2 1=fl):=(by show _=_;rw[Ea.o];simp);clear Ea;go_wp2;go_roundw
     case rel=>exact ⟨1,by decide,rfl,by rw[mg.o,if_neg (fun h=>absurd h.2 afq)];exact HM.o⟩
     case measure=>decide
    | true=>
     have mg:Hid (t.ay+gJ true c1 c2 1=fl+1):=(by show _=_;rw[Ea.o];simp);rw[mg.o] at HB;obtain ⟨⟨b0,b1⟩,b2,b3⟩:=HB.o;have hwr:wrap64 (fl+1)=fl+1:=(by unfold wrap64;omega);clear Ea b0 b1 b2 b3 HB;have t0:wc.cell? ⟨w.heap.size,0,none⟩=some (.int .i64 fl):=HM.o.t 0 _ rfl;have Su:=HM.o.lt.frozen 0;have hne:w.heap.size≠w.heap.size+4:=(by omega);go_wp2_with fail;go_region;have KU:=hid (HM.o.abO (fl+1)).drew;clear HM t0 Su;have z1:=KU.o.b 0 _ rfl;go_wp2;go_roundw
     case rel=>exact ⟨1,by decide,rfl,by rw[mg.o,if_neg (fun h=>absurd h.2 afq)];exact KU.o⟩
     case measure=>decide
  ·obtain ⟨bo,Pk⟩:=aq (aG aL 2);obtain ⟨bl,hbl⟩:=aq (aG old 2);obtain ⟨p,hp⟩:=aq (x.be.has 8);obtain ⟨q,hq⟩:=aq (s.be.has 8);have C1:=hid (fun W=>kL x 8 W afq hx.1 hx.2);have C2:=hid (fun W=>kL s 8 W afq hs.1 hs.2);have C3:=hid (fun W=>eQ aL 2 1 W afq afq);have C4:=hid (fun W=>eQ old 2 1 W afq afq);rw[hp] at C1;rw[hq] at C2;rw[Pk] at C3;rw[hbl] at C4;have HC:Hid (c1=(bo && (bl && (p && q)))):=(by show _=_;rw[<-hc1,<-Pk,<-hbl,<-hp,<-hq];rfl);have Ea:Hid (t.ay+gJ c0 c1 c2 2=t.ay+gJ c0 c1 c2 1+(if c1=true then 2 else 0)):=(by show _=_;cases c0 <;> cases c1 <;> cases c2 <;> simp[gJ] <;> omega);have HB:=hid (And.intro (ED.o 1) (ED.o 2));clear Pk hbl hp hq hc0 hc1 hc2 ED;obtain ⟨fl,hfl⟩:=aq (t.ay+gJ c0 c1 c2 1);rw[hfl] at HM Ea HB;clear hfl;rw[if_neg (fun h=>absurd h.2 afq)] at HM;have Eb:=HM;have HM:=hid Eb.o.drew;obtain ⟨y0,y1,y2,y3,y4,y5,y6,y7,y8,y9,VE⟩:=HM.o.sx 1 _ rfl;go_wp2_with fail;go_region_held3 (fun w'=>w'.cell? ⟨w.heap.size+1,0,none⟩=some (.int .i64 x.k)/\w'.cell? ⟨w.heap.size+1,1,none⟩=some (.string ⟨x.name.toArray⟩)/\w'.cell? ⟨w.heap.size+1,2,none⟩=some (.int .u64 (x.yo.toNat:Int))/\w'.cell? ⟨w.heap.size+1,3,none⟩=some (.int .i64 x.bI)/\w'.cell? ⟨w.heap.size+1,4,none⟩=some (.int .i64 x.aD)/\w'.cell? ⟨w.heap.size+1,5,none⟩=some (.int .i64 x.bC)/\w'.cell? ⟨w.heap.size+1,6,none⟩=some (.int .i64 x.ay)/\w'.cell? ⟨w.heap.size+1,7,none⟩=some (.int .i64 x.aH)/\w'.cell? ⟨w.heap.size+1,8,none⟩=some (.int .u64 (x.key.toNat:Int))/\w'.cell? ⟨w.heap.size+1,9,none⟩=some (.int .u64 (x.before.toNat:Int))/\w'.cell? ⟨w.heap.size+5,1,none⟩=some (.int .i64 8)) (first|(with_reducible exact MW.sx HM.o 1 _ rfl)|(with_reducible exact MW.sx HM.o.drew 1 _ rfl) | go_keep) (first|(go_at_call 102;refine (C1.o _).mono ?_;rintro e w5 ⟨rfl,g5⟩;have ZZ:=hid (HM.o.grown g5);clear HM g5 C1;have HM:=ZZ;clear ZZ));clear y0 y1 y2 y3 y4 y5 y6 y7 y8 y9 VE Eb;have Eb:=HM;have HM:=hid Eb.o.drew;obtain ⟨y0,y1,y2,y3,y4,y5,y6,y7,y8,y9,VE⟩:=HM.o.ss 1 _ rfl;go_wp2_with fail;go_region_held3 (fun w'=>w'.cell? ⟨w.heap.size+2,0,none⟩=some (.int .i64 s.k)/\w'.cell? ⟨w.heap.size+2,1,none⟩=some (.string ⟨s.name.toArray⟩)/\w'.cell? ⟨w.heap.size+2,2,none⟩=some (.int .u64 (s.yo.toNat:Int))/\w'.cell? ⟨w.heap.size+2,3,none⟩=some (.int .i64 s.bI)/\w'.cell? ⟨w.heap.size+2,4,none⟩=some (.int .i64 s.aD)/\w'.cell? ⟨w.heap.size+2,5,none⟩=some (.int .i64 s.bC)/\w'.cell? ⟨w.heap.size+2,6,none⟩=some (.int .i64 s.ay)/\w'.cell? ⟨w.heap.size+2,7,none⟩=some (.int .i64 s.aH)/\w'.cell? ⟨w.heap.size+2,8,none⟩=some (.int .u64 (s.key.toNat:Int))/\w'.cell? ⟨w.heap.size+2,9,none⟩=some (.int .u64 (s.before.toNat:Int))/\w'.cell? ⟨w.heap.size+5,1,none⟩=some (.int .i64 8)) (first|(with_reducible exact MW.ss HM.o 1 _ rfl)|(with_reducible exact MW.ss HM.o.drew 1 _ rfl) | go_keep) (first|(go_at_call 102;refine (C2.o _).mono ?_;rintro e w6 ⟨rfl,g6⟩;have VF:=hid (HM.o.grown g6);clear HM g6 C2;have HM:=VF;clear VF));clear y0 y1 y2 y3 y4 y5 y6 y7 y8 y9 VE Eb;have z0:w6.cell? ⟨w.heap.size+4,1,none⟩=some (.int .i64 2):=HM.o.b 1 _ rfl;go_upto_region 8 with fail
   go_cut [55] (fun z wx=>z = .bool c1/\wx=w6)
   case first=>
    exact aeJ
   case rest=>
    obtain ⟨rfl,rfl⟩:=hcut;clear HC C3 C4;cases c1 with
    | false=>
     have mg:Hid (t.ay+gJ c0 false c2 2=fl):=(by show _=_;rw[Ea.o];simp);clear Ea;go_wp2;go_roundw
     case rel=>exact ⟨2,by decide,rfl,by rw[mg.o,if_neg (fun h=>absurd h.2 afq)];exact HM.o⟩
     case measure=>decide
    | true=>
     have mg:Hid (t.ay+gJ c0 true c2 2=fl+2):=(by show _=_;rw[Ea.o];simp);rw[mg.o] at HB;obtain ⟨⟨b0,b1⟩,b2,b3⟩:=HB.o;have hwr:wrap64 (fl+2)=fl+2:=(by unfold wrap64;omega);clear Ea b0 b1 b2 b3 HB;have t0:wc.cell? ⟨w.heap.size,0,none⟩=some (.int .i64 fl):=HM.o.t 0 _ rfl;have Su:=HM.o.lt.frozen 0;have hne:w.heap.size≠w.heap.size+4:=(by omega);go_wp2_with fail;go_region;have KU:=hid (HM.o.abO (fl+2)).drew;clear HM t0 Su;have z1:=KU.o.b 1 _ rfl;go_wp2;go_roundw
     case rel=>exact ⟨2,by decide,rfl,by rw[mg.o,if_neg (fun h=>absurd h.2 afq)];exact KU.o⟩
     case measure=>decide
  ·obtain ⟨bo,Pk⟩:=aq (aG aL 4);obtain ⟨bl,hbl⟩:=aq (aG old 4);obtain ⟨p,hp⟩:=aq (x.be.has 2);obtain ⟨q,hq⟩:=aq (s.be.has 2);have C1:=hid (fun W=>kL x 2 W afq hx.1 hx.2);have C2:=hid (fun W=>kL s 2 W afq hs.1 hs.2);have C3:=hid (fun W=>eQ aL 4 2 W afq afq);have C4:=hid (fun W=>eQ old 4 2 W afq afq);rw[hp] at C1;rw[hq] at C2;rw[Pk] at C3;rw[hbl] at C4;have HC:Hid (c2=(bo && (bl && (p && q)))):=(by show _=_;rw[<-hc2,<-Pk,<-hbl,<-hp,<-hq];rfl);have Ea:Hid (t.ay+gJ c0 c1 c2 3=t.ay+gJ c0 c1 c2 2+(if c2=true then 4 else 0)):=(by show _=_;cases c0 <;> cases c1 <;> cases c2 <;> simp[gJ] <;> omega);have HB:=hid (And.intro (ED.o 2) (ED.o 3));clear Pk hbl hp hq hc0 hc1 hc2 ED;obtain ⟨fl,hfl⟩:=aq (t.ay+gJ c0 c1 c2 2);rw[hfl] at HM Ea HB;clear hfl;rw[if_neg (fun h=>absurd h.2 afq)] at HM;have Eb:=HM;have HM:=hid Eb.o.drew;obtain ⟨y0,y1,y2,y3,y4,y5,y6,y7,y8,y9,VE⟩:=HM.o.sx 2 _ rfl;go_wp2_with fail;go_region_held3 (fun w'=>w'.cell? ⟨w.heap.size+1,0,none⟩=some (.int .i64 x.k)/\w'.cell? ⟨w.heap.size+1,1,none⟩=some (.string ⟨x.name.toArray⟩)/\w'.cell? ⟨w.heap.size+1,2,none⟩=some (.int .u64 (x.yo.toNat:Int))/\w'.cell? ⟨w.heap.size+1,3,none⟩=some (.int .i64 x.bI)/\w'.cell? ⟨w.heap.size+1,4,none⟩=some (.int .i64 x.aD)/\w'.cell? ⟨w.heap.size+1,5,none⟩=some (.int .i64 x.bC)/\w'.cell? ⟨w.heap.size+1,6,none⟩=some (.int .i64 x.ay)/\w'.cell? ⟨w.heap.size+1,7,none⟩=some (.int .i64 x.aH)/\w'.cell? ⟨w.heap.size+1,8,none⟩=some (.int .u64 (x.key.toNat:Int))/\w'.cell? ⟨w.heap.size+1,9,none⟩=some (.int .u64 (x.before.toNat:Int))/\w'.cell? ⟨w.heap.size+5,2,none⟩=some (.int .i64 2)) (first|(with_reducible exact MW.sx HM.o 2 _ rfl)|(with_reducible exact MW.sx HM.o.drew 2 _ rfl) | go_keep) (first|(go_at_call 102;refine (C1.o _).mono ?_;rintro e w5 ⟨rfl,g5⟩;have ZZ:=hid (HM.o.grown g5);clear HM g5 C1;have HM:=ZZ;clear ZZ));clear y0 y1 y2 y3 y4 y5 y6 y7 y8 y9 VE Eb;have Eb:=HM;have HM:=hid Eb.o.drew;obtain ⟨y0,y1,y2,y3,y4,y5,y6,y7,y8,y9,VE⟩:=HM.o.ss 2 _ rfl;go_wp2_with fail;go_region_held3 (fun w'=>w'.cell? ⟨w.heap.size+2,0,none⟩=some (.int .i64 s.k)/\w'.cell? ⟨w.heap.size+2,1,none⟩=some (.string ⟨s.name.toArray⟩)/\w'.cell? ⟨w.heap.size+2,2,none⟩=some (.int .u64 (s.yo.toNat:Int))/\w'.cell? ⟨w.heap.size+2,3,none⟩=some (.int .i64 s.bI)/\w'.cell? ⟨w.heap.size+2,4,none⟩=some (.int .i64 s.aD)/\w'.cell? ⟨w.heap.size+2,5,none⟩=some (.int .i64 s.bC)/\w'.cell? ⟨w.heap.size+2,6,none⟩=some (.int .i64 s.ay)/\w'.cell? ⟨w.heap.size+2,7,none⟩=some (.int .i64 s.aH)/\w'.cell? ⟨w.heap.size+2,8,none⟩=some (.int .u64 (s.key.toNat:Int))/\w'.cell? ⟨w.heap.size+2,9,none⟩=some (.int .u64 (s.before.toNat:Int))/\w'.cell? ⟨w.heap.size+5,2,none⟩=some (.int .i64 2)) (first|(with_reducible exact MW.ss HM.o 2 _ rfl)|(with_reducible exact MW.ss HM.o.drew 2 _ rfl) | go_keep) (first|(go_at_call 102;refine (C2.o _).mono ?_;rintro e w6 ⟨rfl,g6⟩;have VF:=hid (HM.o.grown g6);clear HM g6 C2;have HM:=VF;clear VF));clear y0 y1 y2 y3 y4 y5 y6 y7 y8 y9 VE Eb;have z0:w6.cell? ⟨w.heap.size+4,2,none⟩=some (.int .i64 4):=HM.o.b 2 _ rfl;go_upto_region 8 with fail
   go_cut [55] (fun z wx=>z = .bool c2/\wx=w6)
   case first=>
    exact aeJ
   case rest=>
    obtain ⟨rfl,rfl⟩:=hcut;clear HC C3 C4;cases c2 with
    | false=>
     have mg:Hid (t.ay+gJ c0 c1 false 3=fl):=(by show _=_;rw[Ea.o];simp);clear Ea;go_wp2;go_roundw
     case rel=>exact ⟨3,by decide,rfl,by rw[mg.o,if_neg (fun h=>absurd h.1 afq)];exact HM.o⟩
     case measure=>decide
    | true=>
     have mg:Hid (t.ay+gJ c0 c1 true 3=fl+4):=(by show _=_;rw[Ea.o];simp);rw[mg.o] at HB;obtain ⟨⟨b0,b1⟩,b2,b3⟩:=HB.o;have hwr:wrap64 (fl+4)=fl+4:=(by unfold wrap64;omega);clear Ea b0 b1 b2 b3 HB;have t0:wc.cell? ⟨w.heap.size,0,none⟩=some (.int .i64 fl):=HM.o.t 0 _ rfl;have Su:=HM.o.lt.frozen 0;have hne:w.heap.size≠w.heap.size+4:=(by omega);go_wp2_with fail;go_region;have KU:=hid (HM.o.abO (fl+4)).drew;clear HM t0 Su;obtain ⟨W1,hW1⟩:=aq ((wc.setCell ⟨w.heap.size,0,none⟩ (.int .i64 (fl+4))).drew);rw[hW1] at KU ⊢;clear hW1;have z1:W1.cell? ⟨w.heap.size+4,2,none⟩=some (.int .i64 4):=KU.o.b 2 _ rfl;have C5:=hid (fun W=>lG t.start x.aD W hst UF);have C6:=hid (fun W=>lG t.start s.aD W hst UG);obtain ⟨A,hA⟩:=aq (aX t.start x.aD);obtain ⟨B,hB⟩:=aq (aX t.start s.aD);rw[hA] at C5;rw[hB] at C6;have C7:=hid (fun W=>jM A B W);obtain ⟨D,hD⟩:=aq (lesser A B);rw[hD] at C7;have C8:=hid (fun W=>jM upto D W);have aje:Hid (lesser upto D=rn):=(by show _=_;rw[<-hD,<-hA,<-hB];exact HRn.o);rw[aje.o] at C8;clear hA hB hD HRn;obtain ⟨m0,m1,m2⟩:=KU.o.s3;have t6:W1.cell? ⟨w.heap.size,6,none⟩=some (.int .i64 t.aD):=KU.o.t 6 _ rfl;have ft6:=KU.o.lt.frozen 6;go_wp2_with fail;go_region_held3 (fun w'=>w'.cell? ⟨w.heap.size,4,none⟩=some (.int .i64 t.start)/\w'.cell? ⟨w.heap.size+1,4,none⟩=some (.int .i64 x.aD)/\w'.cell? ⟨w.heap.size+2,4,none⟩=some (.int .i64 s.aD)) (first|(with_reducible exact MW.s3 KU.o)|(with_reducible exact MW.s3 KU.o.drew)|(with_reducible exact MW.s3 (KU.o.abP _))|(with_reducible exact MW.s3 (KU.o.abP _).drew) | go_keep) (first|(go_at_call 105;(first|(with_reducible refine Calls.mono (C5.o _) ?_)|(with_reducible refine Calls.mono (C6.o _) ?_));rintro e w' ⟨rfl,rfl⟩)|(go_at_call 106;(first|(with_reducible refine Calls.mono (C7.o _) ?_)|(with_reducible refine Calls.mono (C8.o _) ?_));rintro e w' ⟨rfl,rfl⟩));have HM2:=hid (KU.o.abP rn).drew;clear KU m0 m1 m2 t6 ft6 z1 C5 C6 C7 C8;go_wp2;go_roundw
     case rel=>exact ⟨3,by decide,rfl,by rw[mg.o,if_pos aft];exact HM2.o⟩
     case measure=>decide
  ·have hrr:(if c2=true/\(3:Nat)=3 then rn else t.aD)=(if c2=true then rn else t.aD):=(by simp);rw[hrr,O6.o] at HM;obtain ⟨fl,hfl⟩:=aq (t.ay+gJ c0 c1 c2 3);have Ea:=hid hfl;rw[hfl] at HM;clear hfl hrr hc0 hc1 hc2 ED HRn hk;have t0:wr.cell? ⟨w.heap.size,0,none⟩=some (.int .i64 fl):=HM.o.t 0 _ rfl;have t1:wr.cell? ⟨w.heap.size,1,none⟩=some (.int .u64 (t.aM.toNat:Int)):=HM.o.t 1 _ rfl;have t2:wr.cell? ⟨w.heap.size,2,none⟩=some (.string ⟨t.ax.toArray⟩):=HM.o.t 2 _ rfl;have t3:wr.cell? ⟨w.heap.size,3,none⟩=some (.int .i64 t.dY):=HM.o.t 3 _ rfl;have t4:wr.cell? ⟨w.heap.size,4,none⟩=some (.int .i64 t.start):=HM.o.t 4 _ rfl;have t5:wr.cell? ⟨w.heap.size,5,none⟩=some (.int .i64 t.fin):=HM.o.t 5 _ rfl;have t6:wr.cell? ⟨w.heap.size,6,none⟩=some (.int .i64 FR):=HM.o.t 6 _ rfl;obtain ⟨⟨e0,k0⟩,⟨e1,k1⟩,⟨e2,k2⟩,⟨e3,k3⟩,⟨e4,k4⟩,⟨e5,k5⟩,⟨e6,k6⟩,f0,f1,f2,f3,f4,f5,f6⟩:=oK HM.o.r;go_wp2;refine bodyPost_ret (jW Tryz.results108 _ _ _ (w.heap.size+3) rfl _ (gY (eZ HM.o.r _ _ _ _ _ _ _))) rfl ?_;refine ⟨?_,az (az (az (az (az (az (az HM.o.g afp) afp) afp) afp) afp) afp) afp⟩;rw[<-Ea.o];rfl
end Go.Proofs.YteknelimjfgmaaaGreatDoor
