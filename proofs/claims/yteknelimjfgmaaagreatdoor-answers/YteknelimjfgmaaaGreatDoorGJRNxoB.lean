import Derived.Test.YteknelimjfgmaaaGreatDoorGJSFstB
namespace Go.Proofs.YteknelimjfgmaaaGreatDoor
set_option maxHeartbeats 16000000
open Proofs.Tryz Go.RowKit
set_option maxRecDepth 100000
set_option linter.unusedSimpArgs false
theorem aah {p:Prop} (h:p:=by
 by_cases hlt:A1<t.start
 ·have HL:=hid hlt
  go_quiet (first|(go_at_call 104;(first|(with_reducible refine Calls.mono (Oh.o _) ?_)|(with_reducible refine Calls.mono (Oi.o _) ?_));rintro e w' ⟨rfl,rfl⟩;exact ⟨rfl,_,rfl⟩)|(go_at_call 105;(with_reducible refine Calls.mono (CS.o _) ?_);rintro e w' ⟨rfl,rfl⟩;exact ⟨rfl,_,rfl⟩))
  go_wp2
  go_meet
  case rel=>exact ⟨by rw[<-Ph.o,cH HL.o];rfl,_,rfl⟩
 ·have HL:=hid (eK.1 hlt)
  go_quiet (first|(go_at_call 104;(first|(with_reducible refine Calls.mono (Oh.o _) ?_)|(with_reducible refine Calls.mono (Oi.o _) ?_));rintro e w' ⟨rfl,rfl⟩;exact ⟨rfl,_,rfl⟩)|(go_at_call 105;(with_reducible refine Calls.mono (CS.o _) ?_);rintro e w' ⟨rfl,rfl⟩;exact ⟨rfl,_,rfl⟩))
  go_wp2
  go_meet
  case rel=>exact ⟨by rw[<-Ph.o,cA (eK.2 HL.o)];rfl,_,rfl⟩):p:=h
theorem ab1 {p:Prop} (h:p:=by
 go_wp2
 go_ret2
 exact ⟨_,_,rfl,by rw[HS.o];exact uo afq HW.o.d Ij.o HW.o.g⟩):p:=h
theorem Li (base yb:Nat) (M:DM) (g:RG) (now:Int) (gl c:Nat) (p0 p1 p2 p3 p4 p5 p6 p7:Pc) (w:World) (hD:RD w base yb M g) (hok:gU 4611686018427387904 M.bg) (hbase:base<=w.heap.size) (hP:jr w gl [p0,p1,p2,p3,p4,p5,p6,p7]) (hl:∀ q∈[p0,p1,p2,p3,p4,p5,p6,p7],q.ins.length<=900) (h12:bF p0.pair=some 12) (dm:In64 now) (hsk:In64 M.aC) (hin:∀ e∈M.bg,In64 e.bI/\In64 e.aD) (hdl:M.aO.length<=140737488355328) (hpr:M.aN.length<=1000) (zo:∀ y∈M.aN,In64 y.time) :
  Calls prog 72 #[.pointer (some ⟨yb,0,none⟩),.int .i64 now,.slice (some ⟨gl,0,none⟩) 8 c] w fun e w'=>∃ o k,e = .returned (.tuple #[o,.int .i64 k])/\Bp base yb g (mR M now ([p0,p1,p2,p3,p4,p5,p6,p7].map Pc.pair)) w w' o k:=by
 have c2:w.cell? ⟨gl,2,none⟩=some (.int .u8 (p1.tag.toNat:Int)):=hP.tag 1 aft
 have c3:w.cell? ⟨gl,3,none⟩=some (.slice p1.ad p1.ins.length p1.cap):=hP.ins 1 aft
 have AL:=hid hP
 have Qf:=hid hl
 have C1:=hid (yY p1 w (hP.2 p1 aft).1 (hP.2 p1 aft).2.1 (hP.2 p1 aft).2.2 (br (hl p1 aft) afq))
 have C2:Hid (∀ W,jr W gl [p0,p1,p2,p3,p4,p5,p6,p7]->Calls prog 98 #[.agg #[.int .u8 (p3.tag.toNat:Int),.slice p3.ad p3.ins.length p3.cap]] W fun e w'=>e = .returned (.tuple #[.string ⟨p3.ins.toArray⟩,.bool (di p3.pair).isSome])/\W.grownBy w' none):=fun W hW=>pQ p3 W (hW.2 p3 aft).1 (br (hl p3 aft) afq)
 have C3:Hid (∀ W,jr W gl [p0,p1,p2,p3,p4,p5,p6,p7]->Calls prog 99 #[.slice (some ⟨gl,0,none⟩) 8 c,.int .i64 4,.int .i64 8] W fun e w'=>∃ o vs,e = .returned (.tuple #[o,.bool (jv [p4,p5,p6,p7])])/\qi [p4,p5,p6,p7] vs/\w'.ownsRow W.heap.size 2 1 o vs.length (vs.map I64)/\W.grownBy w' none):=fun W hW=>tN 4 8 8 gl c [p0,p1,p2,p3,p4,p5,p6,p7] W (hid rfl) afq afq afq hW
 obtain ⟨oT,h1⟩:=aq (gD p1.pair)
 obtain ⟨b2,h2⟩:=aq ((di p3.pair).isSome)
 obtain ⟨b3,h3⟩:=aq (jv [p4,p5,p6,p7])
 have HTL:Hid (∀ x,oT=some x->x.2.2.length<=900):=fun x hx=>br (Aq (p:=p1.pair) (by rw[h1];exact hx)) (hl p1 aft)
 rw[h1] at C1
 rw[h2] at C2
 rw[h3] at C3
 have HB:=hid (And.intro h1 (And.intro h2 h3))
 clear h1 h2 h3 hP hl
 have HD:=hid hD
 obtain ⟨R,hR⟩:=aq (mR M now ([p0,p1,p2,p3,p4,p5,p6,p7].map Pc.pair))
 rw[hR]
 have HR:=hid hR
 clear hR hD
 go_enter func72,ntmps72
 go_wp2_with fail
 refine C1.o.mono ?_
 clear C1
 rintro e w1 ⟨cs,cn,cz,rfl,x91,hone,x92,g1⟩;have KD:=hid x92;clear x92;have HIN:=hid x91;clear x91
 have Lj:=hid (AL.o.grown g1)
 have jC:=hid g1
 clear AL g1 c2 c3 
 have hst:=Gc (P:=prog) (Live.new w1 #[.string ⟨cs.toArray⟩,.int .i64 cn,.slice none 0 0] 233) 2 aft cz hone
 go_upto_region 2 with fail
 refine jP (fun V=>w1.grownBy V none/\V.rangeAt w1.heap.size 0 [.string ⟨cs.toArray⟩,.int .i64 cn,cz]) ⟨aE w1 _ none,aW w1 #[.string ⟨cs.toArray⟩,.int .i64 cn,cz] _⟩ ?_
 clear hst
 rintro V ⟨gV,hcV⟩
 obtain ⟨bc,hbc⟩:=aq w1.heap.size
 rw[hbc] at hcV ⊢
 have Ij:=hid (Lj.o.grown gV)
 have IU:=hid (aa jC.o gV)
 have HCV:=hid hcV
 have Iw:Hid (∀ q,oT=some q->cs=q.1/\cn=q.2.1/\vg V cz q.2.2):=fun q hq=>⟨(KD.o q hq).1,(KD.o q hq).2.1,(KD.o q hq).2.2.1.grown gV⟩
 have c6:V.cell? ⟨gl,6,none⟩=some (.int .u8 (p3.tag.toNat:Int)):=Ij.o.tag 3 aft
 have c7:V.cell? ⟨gl,7,none⟩=some (.slice p3.ad p3.ins.length p3.cap):=Ij.o.ins 3 aft
 clear hbc gV hcV Lj jC KD
 go_wp2_with fail
 refine (C2.o _ Ij.o).mono ?_
 rintro e w2 ⟨rfl,g2⟩
 have XD:=hid (Ij.o.grown g2)
 have HG2:=hid (aa IU.o g2)
 have DZ:=hid (aA HCV.o g2)
 have Zc:Hid (∀ q,oT=some q->cs=q.1/\cn=q.2.1/\vg w2 cz q.2.2):=fun q hq=>⟨(Iw.o q hq).1,(Iw.o q hq).2.1,(Iw.o q hq).2.2.grown g2⟩
 clear c6 c7 Ij IU HCV Iw g2 C2
 go_wp2_with fail
 refine (C3.o _ XD.o).mono ?_
 rintro e w3 ⟨o,vs,rfl,Vu,hown,g3⟩
 obtain ⟨v4,v5,v6,v7,rfl,q4,q5,q6,q7⟩:=Vu.four
 obtain ⟨gv,cv,rfl,hrow,hgv⟩:=jh hown aft
 have afW:Hid (w.heap.size<=gv):=br HG2.o.size hgv
 have LK:Hid (∀ x,oT=some x->cs=x.1/\cn=x.2.1/\vg w3 cz x.2.2):=fun q hq=>⟨(Zc.o q hq).1,(Zc.o q hq).2.1,(Zc.o q hq).2.2.grown g3⟩
 have mf:=hid (aa HG2.o g3)
 have HN:Hid (N1 w w3 base yb M g gv v4 v5 v6 v7 gl [p0,p1,p2,p3,p4,p5,p6,p7] bc [.string ⟨cs.toArray⟩,.int .i64 cn,cz]):=
  ⟨HD.o.keep (fun b hb=>mf.o.block b (HD.o.lt b hb).2 aft),hrow,XD.o.grown g3,aA DZ.o g3,mf.o⟩
 have Og:=hid (Rx p0 p1 p2 p3 p4 p5 p6 p7 v4 v5 v6 v7 h12 q4 q5 q6 q7)
 have HI:=hid (And.intro q4.1 (And.intro q5.1 (And.intro q6.1 q7.1)))
 rw[HB.o.1,HB.o.2.1,HB.o.2.2] at Og
 have c4:w3.cell? ⟨gl,4,none⟩=some (.int .u8 (p2.tag.toNat:Int)):=HN.o.p.tag 2 aft
 simp only[cN,List.length_nil]
 clear C3 XD HG2 mf DZ Zc g3 Vu hown hrow hgv q4 q5 q6 q7 h12 HB
 obtain ⟨P,hP⟩:=aq (kI ([p0,p1,p2,p3,p4,p5,p6,p7].map Pc.pair))
 unfold mR at HR
 rw[hP] at Og HR
 clear hP
 go_upto_region 4 with fail
 go_cut [58] (fun z wx=>z = .bool (!P.isSome)/\w3=wx)
 case first=>
  have HX:Hid (P.isSome=(oT.isSome && (b2 && (b3 && decide (p2.tag.toNat=4))))):=Og.o.1;clear Og HR HTL LK;cases oT with
  | none=>
   have HS:Hid (P.isSome=false):=HX.o;clear HX;simp only[Option.isSome_none];exact aaI
  | some x0=>
   simp only[cY];cases b2 with
   | false=>
    have HS:Hid (P.isSome=false):=HX.o;clear HX;exact aaI
   | true=>
    cases b3 with
    | false=>
     have HS:Hid (P.isSome=false):=HX.o;clear HX;exact aaI
    | true=>
     by_cases ht:p2.tag.toNat=4
     ·have HS:Hid (P.isSome=true):=(by show _=_;rw[HX.o,cH ht];rfl);have ht2:(p2.tag.toNat:Int)=4:=(by omega);clear HX ht;exact aaI
     ·have HS:Hid (P.isSome=false):=(by show _=_;rw[HX.o,cA ht];rfl);have ht2:¬ (p2.tag.toNat:Int)=4:=(by omega);clear HX ht;go_wp2;go_meet
      case rel=>exact ⟨by rw[HS.o];congr 1;simpa using ht2,rfl⟩
 case rest=>
  obtain ⟨rfl,rfl⟩:=hcut;cases P with
  | none=>
   have HS:Hid (R=(.error 60,M)):=HR.o.symm;clear HR Og LK HTL;simp only[Option.isSome_none,en];go_wp2;go_ret2;exact ⟨_,_,rfl,by rw[HS.o];exact uo (v:=g.pv) afq HN.o.d (.inl rfl) (lh HN.o.g yb)⟩
  | some q=>
   obtain ⟨cm,hcm,hq⟩:=Og.o.2 q rfl;obtain ⟨h1,h2,h3⟩:=LK.o cm hcm;have hcl:=HTL.o cm hcm;subst hq h1 h2;obtain ⟨za,zc,hza,hz2,hz3,QC⟩:=h3;subst hza;obtain ⟨zn,hzn⟩:=aq cm.2.2.length;rw[hzn] at HN hz2;have HZ:Hid (∀ V,w3.grownBy V none->vg V (.slice za zn zc) cm.2.2):=by
    intro V hV;rw[<-hzn];exact vg.grown ⟨za,zc,rfl,by rw[hzn];exact hz2,hz3,QC⟩ hV
   clear Og LK HTL hz2 hz3 QC hcm hone HIN;simp only[cY,eE];have HLp:Hid (p2.ins.length<=900):=Qf.o p2 aft;have hyb:yb<w.heap.size:=(HD.o.lt yb (.inl rfl)).2;have Fb:=hid hcl;obtain ⟨A,hA⟩:=aq (iq M now ⟨cm.1,cm.2.1,cm.2.2,p2.ins,p3.ins,v4,v5,v6,v7⟩);have CO:Hid (∀ V,(N1 w V base yb M g gv v4 v5 v6 v7 gl [p0,p1,p2,p3,p4,p5,p6,p7] bc [.string ⟨cm.1.toArray⟩,.int .i64 cm.2.1,.slice za zn zc]/\w3.grownBy V none)->Calls prog 111 #[.pointer (some ⟨yb,0,none⟩),.int .i64 now,.agg #[.string ⟨cm.1.toArray⟩,.int .i64 cm.2.1,.slice za zn zc],.slice p2.ad p2.ins.length p2.cap,.string ⟨p3.ins.toArray⟩,.int .i64 v7] V fun e w'=>∃ t c,e = .returned (.tuple #[.agg t.cells.toArray,.int .i64 c])/\mP base yb g A V w' t c):=by
    intro V hV;rw[<-hA];exact Rn base yb M g now ⟨cm.1,cm.2.1,cm.2.2,p2.ins,p3.ins,v4,v5,v6,v7⟩ (.slice za zn zc) (.slice p2.ad p2.ins.length p2.cap) V hV.1.d hok (br hbase hV.1.g.size) (HZ.o V hV.2) Fb.o ⟨p2.ad,p2.cap,rfl,(hV.1.p.2 p2 aft).2.1,(hV.1.p.2 p2 aft).2.2,(hV.1.p.2 p2 aft).1⟩ HLp.o dm hpr zo
   have HR2:Hid (R=match A.1 with | .error c=>(.error c,A.2) | .ok t=>(dZ A.2 now ⟨cm.1,cm.2.1,cm.2.2,p2.ins,p3.ins,v4,v5,v6,v7⟩ t,A.2)):=by
    show _=_;rw[<-hA];exact HR.o.symm
   have HAA:=hid hA;clear HR hA hcl;have hv3:w3.cell? ⟨gv,3,none⟩=some (.int .i64 v7):=HN.o.v 3 _ rfl;have afX:gv≠yb:=(by have:=afW.o;omega);go_upto_region 7 with fail
   clear c4 hv3;go_cut [15,16] (fun p k wx=>∃ bo t c,p = .pointer (some ⟨bo,0,none⟩)/\k = .int .i64 c/\wx.rangeAt bo 0 t.cells/\wx.rangeAt gv 0 [.int .i64 v4,.int .i64 v5,.int .i64 v6,.int .i64 v7]/\mP base yb g A w wx t c)
   case first=>
    as_aux_lemma=>
     clear HR2 HAA HI;refine aF.start (S:=fun V=>N1 w V base yb M g gv v4 v5 v6 v7 gl [p0,p1,p2,p3,p4,p5,p6,p7] bc [.string ⟨cm.1.toArray⟩,.int .i64 cm.2.1,.slice za zn zc]/\w3.grownBy V none) 9 afv ?_;have eD:Hid (N1 w w3.drew base yb M g gv v4 v5 v6 v7 gl [p0,p1,p2,p3,p4,p5,p6,p7] bc [.string ⟨cm.1.toArray⟩,.int .i64 cm.2.1,.slice za zn zc]/\w3.grownBy w3.drew none):=⟨HN.o.grown (bD (bh _ _)),bD (bh _ _)⟩
     refine aF.tk 0 [0] ?_;refine aF.tk 1 [1] ?_;refine aF.tk 2 [2] ?_ (hy:=by intro W hW;have c0:W.cell? ⟨bc,0,none⟩=some (.string ⟨cm.1.toArray⟩):=hW.1.c 0 _ rfl;have c1:W.cell? ⟨bc,1,none⟩=some (.int .i64 cm.2.1):=hW.1.c 1 _ rfl;have c2:W.cell? ⟨bc,2,none⟩=some (.slice za zn zc):=hW.1.c 2 _ rfl;exact jS);refine aF.tk 3 [6,5,4,3] ?_;refine aF.tk 4 [6,5,4] ?_;refine aF.tk 5 [6,5] ?_;refine aF.tk 6 [6] ?_ (hy:=by intro W hW;have c5:W.cell? ⟨gl,5,none⟩=some (.slice p2.ad p2.ins.length p2.cap):=hW.1.p.ins 2 aft;exact jS);refine aF.tk 7 [7] ?_;refine aF.tk 8 [8] ?_;refine aF.two (i:=9) (j:=13) afv rfl rfl (by rfl) (by rfl) (fun K hK=>?_) (fun K hK=>?_)
     ·go_simp;refine Calls.mono (CO.o _ eD.o) ?_;rintro e Wr ⟨t,c,rfl,hO⟩;have hgv:=wz eD.o.1.v hO.2.2.2.2 afX;rw[TK.nQ t];have HO:=hid hO;have IU:=hid hgv;clear hO hgv;go_wp2_with fail;refine hkl ?_;clear hK K;refine aF.fr 10 ?_;refine aF.fr 11 ?_;refine aF.fr 12 ?_;refine aF.on 13 ?_;intro K hK;refine hkl ?_;clear hK K;refine aF.on 14 ?_;intro K hK;refine hkl ?_;clear hK K;refine aF.fr 15 ?_;refine aF.done afv ?_;go_wp2_with fail;go_meet
      case rel=>
       have k:=aE Wr (.cells #[.int .i64 t.ay,.int .u64 (t.aM.toNat:Int),.string ⟨t.ax.toArray⟩,.int .i64 t.dY,.int .i64 t.start,.int .i64 t.fin,.int .i64 t.aD] 43) none;exact ⟨Wr.heap.size,t,c,rfl,rfl,aW Wr #[.int .i64 t.ay,.int .u64 (t.aM.toNat:Int),.string ⟨t.ax.toArray⟩,.int .i64 t.dY,.int .i64 t.start,.int .i64 t.fin,.int .i64 t.aD] _,aA IU.o k,EH (Ir HO.o eD.o.1.g) k⟩
     ·go_simp;have kz:=aE w3.drew (.cells #[.int .i64 0,.int .u64 0,.string ⟨#[]⟩,.int .i64 0,.int .i64 0,.int .i64 0,.int .i64 0] 43) none;have HLz:=hid (Live.new w3.drew #[.int .i64 0,.int .u64 0,.string ⟨#[]⟩,.int .i64 0,.int .i64 0,.int .i64 0,.int .i64 0] 43);have HSZ:Hid ((w3.drew.alloc (.cells #[.int .i64 0,.int .u64 0,.string ⟨#[]⟩,.int .i64 0,.int .i64 0,.int .i64 0,.int .i64 0] 43)).heap.size=w3.heap.size+1):=ch _ _;have JX:Hid (N1 w (w3.drew.alloc (.cells #[.int .i64 0,.int .u64 0,.string ⟨#[]⟩,.int .i64 0,.int .i64 0,.int .i64 0,.int .i64 0] 43)) base yb M g gv v4 v5 v6 v7 gl [p0,p1,p2,p3,p4,p5,p6,p7] bc [.string ⟨cm.1.toArray⟩,.int .i64 cm.2.1,.slice za zn zc]/\w3.grownBy (w3.drew.alloc (.cells #[.int .i64 0,.int .u64 0,.string ⟨#[]⟩,.int .i64 0,.int .i64 0,.int .i64 0,.int .i64 0] 43)) none):=⟨eD.o.1.grown kz,aa eD.o.2 kz⟩
      refine hkx JX.o ?_;clear hK K kz;refine aF.on 9 ?_;intro K hK;refine Calls.mono (CO.o _ JX.o) ?_;rintro e Wr ⟨t,c,rfl,hO⟩;have hgv:=wz JX.o.1.v hO.2.2.2.2 afX;rw[TK.nQ t];have HO:=hid hO;have IU:=hid hgv;clear hO hgv;go_wp2_with fail;refine hkl ?_;clear hK K;have JP:Hid (Live Wr w3.heap.size 7):=KZ (b:=w3.heap.size) HLz.o HO.o.2.2.2.2 (by have:=HN.o.g.size;omega);refine aF.fr 10 ?_;refine aF.fr 11 ?_;refine aF.fr 12 ?_;obtain ⟨⟨dd0,kk0⟩,⟨dd1,kk1⟩,⟨dd2,kk2⟩,⟨dd3,kk3⟩,⟨dd4,kk4⟩,⟨dd5,kk5⟩,⟨dd6,kk6⟩,ff0,ff1,ff2,ff3,ff4,ff5,ff6⟩:=oK JP.o;refine aF.on 14 ?_;intro K hK;refine hkl ?_;clear hK K;refine aF.fr 15 ?_;refine aF.done afv ?_;go_wp2_with fail;go_meet
      case rel=>
       have hg1:gv<w3.heap.size:=Lh HN.o.v;have hsz:=HSZ.o;exact ⟨w3.heap.size,t,c,rfl,rfl,eZ JP.o _ _ _ _ _ _ _,Oe IU.o (Nat.ne_of_gt hg1) _ _ _ _ _ _ _,Iu HO.o JX.o.1.g (fun b hb=>(HN.o.d.lt b hb).2) HN.o.g.size (Nat.lt_of_lt_of_eq (Nat.lt_succ_self w3.heap.size) hsz.symm) _ _ _ _ _ _ _⟩
   case rest=>
    obtain ⟨bo,t,k1,rfl,rfl,Pk,afY,hO⟩:=hcut;obtain ⟨hTI,hE,hOk,⟨pv,Xe,x91⟩,hG⟩:=hO;have Ij:=hid x91;clear x91;obtain ⟨ps,hps⟩:=Od M now ⟨cm.1,cm.2.1,cm.2.2,p2.ins,p3.ins,v4,v5,v6,v7⟩;rw[HAA.o] at hps;obtain ⟨M1,hM1⟩:=aq A.2;rw[hM1] at Xe HR2 hps;have hok1:gU 4611686018427387904 M1.bg:=(by rw[hps];exact hok);have ajQ:In64 M1.aC:=(by rw[hps];exact hsk);have hin1:∀ e∈M1.bg,In64 e.bI/\In64 e.aD:=(by rw[hps];exact hin);have ajR:M1.aO.length<=140737488355328:=(by rw[hps];exact hdl);have Pf:=hid hTI;have Wp:base<=wc.heap.size:=br hbase hG.size;clear hps hok hsk hin hdl hpr zo hTI Fb HLp afW HZ HN CO hM1;by_cases hk:k1=0;rotate_left
    ·have HS:Hid (R=(.error k1,M1)):=by
      show _=_;rw[HR2.o];cases hA1:A.1 with
      | ok t'=>exact absurd (hOk t' hA1).1 hk
      | error c'=>rw[hE c' hA1]
     clear HR2;go_wp2;go_ret2;exact ⟨_,_,rfl,by rw[HS.o];exact uo hk Xe Ij.o hG⟩
    have HR:Hid (R=(dZ M1 now ⟨cm.1,cm.2.1,cm.2.2,p2.ins,p3.ins,v4,v5,v6,v7⟩ t,M1)):=by
     show _=_;rw[HR2.o];cases hA1:A.1 with
     | ok t'=>rw[(hOk t' hA1).2]
     | error c'=>
      have h1:=hE c' hA1;have h2:=zN (M:=M) (now:=now) (q:=⟨cm.1,cm.2.1,cm.2.2,p2.ins,p3.ins,v4,v5,v6,v7⟩) (c:=c') (by rw[HAA.o];exact hA1);omega
    refine Gb (fun V=>N2 w V base yb M1 {g with pv:=pv} gv v4 v5 v6 v7 bo t/\base<=V.heap.size) ⟨⟨Xe,afY,Pk,hG⟩,Wp⟩ ?_;clear HR2 HAA hE hOk Xe afY Pk hG Wp;subst hk;rintro W ⟨x91,x92⟩;have HbW:=hid x92;clear x92;have HW:=hid x91;clear x91;as_aux_lemma=>
     have Oh:=hid (fun W=>eQ t.ay 16 4 W afq afq);have Oi:=hid (fun W=>eQ v7 32 5 W afq afq);have CS:=hid (fun W=>lG now M1.aC W dm ajQ);obtain ⟨f16,h16⟩:=aq (aG t.ay 16);obtain ⟨o32,h32⟩:=aq (aG v7 32);obtain ⟨A1,hA1⟩:=aq (aX now M1.aC);rw[h16] at Oh;rw[h32] at Oi;rw[hA1] at CS;obtain ⟨er,her⟩:=aq (((f16 && !o32) || decide (A1<t.start)));have Ph:=hid her;have HEQ:Hid ((aG t.ay 16=true/\aG v7 32=false\/aX now M1.aC<t.start)↔er=true):=by
      show _↔_;rw[h16,h32,hA1,<-her];simp
     clear h16 h32 hA1 her;obtain ⟨t0,t1,t2,t3,t4,t5,t6⟩:=kV HW.o.o;have y0:W.cell? ⟨yb,0,none⟩=some (.int .i64 M1.aC):=by
      have:=HW.o.d.dF.blk.cell 0;simpa using this
     go_upto_region 10 with fail
     go_cut [78] (fun z wx=>z = .bool er/\∃ n,W.drewN n=wx)
     case first=>
      clear HR HEQ;cases f16 with
      | true=>
       cases o32 with
       | false=>
        go_quiet (first|(go_at_call 104;(first|(with_reducible refine Calls.mono (Oh.o _) ?_)|(with_reducible refine Calls.mono (Oi.o _) ?_));rintro e w' ⟨rfl,rfl⟩;exact ⟨rfl,_,rfl⟩)|(go_at_call 105;(with_reducible refine Calls.mono (CS.o _) ?_);rintro e w' ⟨rfl,rfl⟩;exact ⟨rfl,_,rfl⟩))
        go_wp2;go_meet
        case rel=>exact ⟨by rw[<-Ph.o];rfl,_,rfl⟩
       | true=>
        exact aah
      | false=>
       exact aah
     case rest=>
      obtain ⟨rfl,n,rfl⟩:=hcut;refine Gb (fun V=>N2 w V base yb M1 {g with pv:=pv} gv v4 v5 v6 v7 bo t/\base<=V.heap.size) ⟨HW.o.grown (aY (bh _ _) n),HbW.o⟩ ?_;clear Ph Oh Oi CS y0 t0 t1 t2 t3 t4 t5 t6 HW HbW;rintro W ⟨x91,x92⟩;have HbW:=hid x92;clear x92;have HW:=hid x91;clear x91;cases er with
      | true=>
       have hnr:=Wn (M:=M1) (q:=⟨cm.1,cm.2.1,cm.2.2,p2.ins,p3.ins,v4,v5,v6,v7⟩) (HEQ.o.2 rfl);have HS:Hid (R=(.error 33,M1)):=(by show _=_;rw[HR.o,hnr]);clear HR;exact ab1
      | false=>
      have MN:Hid (¬ (aG t.ay 16=true/\aG v7 32=false\/aX now M1.aC<t.start)):=fun h=>by have:=HEQ.o.1 h;cases this
      clear HEQ;obtain ⟨t0,t1,t2,t3,t4,t5,t6⟩:=kV HW.o.o;by_cases hfin:t.fin<now
      ·have hnr:=Za (M:=M1) (q:=⟨cm.1,cm.2.1,cm.2.2,p2.ins,p3.ins,v4,v5,v6,v7⟩) MN.o hfin;have HS:Hid (R=(.error 32,M1)):=(by show _=_;rw[HR.o,hnr]);clear HR;exact ab1
      have HRR:Hid (R=(match BE.find M1.bg p3.ins,BE.find M1.bg t.ax with
         | none,_=>.error 7
         | some _,none=>.error 6
         | some s,some x=>
         if mM s x now 2 1≠0 then .error (mM s x now 2 1)
         else if jI v7 t.ay=false then .error 13
         else match fresh now t x s v5 v6 v7 with
         | .error c=>.error c
         | .ok t2=>.ok ⟨13,t2,s,v4,0,t.aM,5⟩,M1)):=by
       show _=_
       rw[HR.o,Zb MN.o hfin]
       rfl
      clear HR MN;have HR:=HRR;clear HRR;have CA:=hid (fun W (hW:RD W base yb M1 {g with pv:=pv})=>wm base yb M1 {g with pv:=pv} p3.ins W hW hok1.len);have CB:=hid (fun W (hW:RD W base yb M1 {g with pv:=pv})=>wm base yb M1 {g with pv:=pv} t.ax W hW hok1.len);have hfa:=sN g.es p3.ins;have Qt:=sN g.es t.ax;have Fg:Hid (g.es.map RE.be=M1.bg):=HW.o.d.bg;rw[Fg.o] at hfa Qt;obtain ⟨fa,Dz⟩:=aq (fP g.es p3.ins);obtain ⟨fb,Wq⟩:=aq (fP g.es t.ax);dsimp only at CA CB;rw[Dz] at CA hfa;rw[Wq] at CB Qt;have HA:=hid hfa;have VS:=hid Qt;clear hfa Qt Dz Wq;go_wp2_with fail;refine (CA.o _ HW.o.d).mono ?_;rintro e W1 ⟨rfl,g1⟩;have HW1:=hid (HW.o.grown g1);have afZ:Hid (base<=W1.heap.size):=br HbW.o g1.size;clear HW g1 CA t0 t1 t2 t3 t4 t5 t6 HbW;obtain ⟨t0,t1,t2,t3,t4,t5,t6⟩:=kV HW1.o.o;go_wp2_with fail;refine (CB.o _ HW1.o.d).mono ?_;rintro e W2 ⟨rfl,g2⟩;have HW:=hid (HW1.o.grown g2);have HbW:Hid (base<=W2.heap.size):=br afZ.o g2.size;clear HW1 g2 CB t0 t1 t2 t3 t4 t5 t6 afZ;rcases HA.o with ⟨hm,hno⟩ | ⟨k,hk,hke,hs⟩
      ·have HS:Hid (R=(.error 7,M1)):=(by show _=_;rw[HR.o,hno]);subst hm;clear HR HA VS hno;exact ab1
      ·rcases VS.o with ⟨hm,hno⟩ | ⟨i,hi,hie,hx⟩
       ·have HS:Hid (R=(.error 6,M1)):=(by show _=_;rw[HR.o,hs,hno]);have hk0:¬ (k:Int)<0:=(by omega);subst hm hke;clear HR HA VS hno hs;exact ab1
       ·rw[hs,hx] at HR;have hi0:¬ (i:Int)<0:=(by omega);have hk0:¬ (k:Int)<0:=(by omega);have hi1:(0:Int)<=(i:Int):=(by omega);have hk1:(0:Int)<=(k:Int):=(by omega);obtain ⟨gb,cb,hbv,hrow⟩:=sO HW.o.d (by show 0<g.es.length;omega);obtain ⟨m,hm⟩:=aq g.es.length;have LG:(i:Int)<(m:Int):=(by omega);have rF:(k:Int)<(m:Int):=(by omega);have vJ:Hid (∀ V,W2.grownBy V none->V.cell? ⟨yb,1,none⟩=some (.slice (some ⟨gb,0,none⟩) m cb)/\V.rangeAt gb 0 (bK g.es)):=by
         intro V hV;refine ⟨?_,aA hrow hV⟩;have:=(HW.o.grown hV).d.dF.blk.cell 1;rw[hbv,hm] at this;simpa using this
        obtain ⟨x,hxe⟩:=aq (g.es[i]'hi);obtain ⟨s,hse⟩:=aq (g.es[k]'hk);have HMX:Hid (x.be∈M1.bg):=(by show _∈_;rw[<-Fg.o,<-hxe];exact ev (cJ hi));have Zd:Hid (s.be∈M1.bg):=(by show _∈_;rw[<-Fg.o,<-hse];exact ev (cJ hk));have HNX:Hid (x.name=t.ax):=(by show _=_;rw[<-hxe];exact kT hx);obtain ⟨y1,hr1⟩:=vJ.o W2 (bh _ _);obtain ⟨s0,s1,s2,s3,s4,s5,s6,s7,s8,s9⟩:=um hr1 k hk;rw[hse] at s0 s1 s2 s3 s4 s5 s6 s7 s8 s9 HR;rw[hxe] at HR;subst hie hke;clear hx hs hrow HA VS hbv hr1;go_upto_region 21 with fail
        refine jP (fun V=>W2.grownBy V none/\V.rangeAt W2.heap.size 0 s.cells) ⟨aE W2 _ none,vG W2 s⟩ ?_;rintro V ⟨gV,x91⟩;have HVS:=hid x91;clear x91;clear s0 s1 s2 s3 s4 s5 s6 s7 s8 s9 y1;obtain ⟨y1,hr1⟩:=vJ.o V gV;obtain ⟨s0,s1,s2,s3,s4,s5,s6,s7,s8,s9⟩:=um hr1 i hi;rw[hxe] at s0 s1 s2 s3 s4 s5 s6 s7 s8 s9;have HV:=hid (HW.o.grown gV);have HbV:Hid (base<=V.heap.size):=br HbW.o gV.size;clear  hr1 vJ gV;obtain ⟨bs,hbs⟩:=aq W2.heap.size;rw[hbs] at HVS ⊢;clear hbs HW HbW;go_upto_region 22 with fail
        refine jP (fun U=>N3 w U base yb M1 {g with pv:=pv} gv v4 v5 v6 v7 bo t x s V.heap.size bs/\base<=U.heap.size) ⟨⟨HV.o.grown (aE V _ none),vG V x,aA HVS.o (aE V _ none)⟩,br HbV.o (aE V _ none).size⟩ ?_;rintro U ⟨x91,x92⟩;have HbU:=hid x92;clear x92;have HU:=hid x91;clear x91;obtain ⟨bx,hbx⟩:=aq V.heap.size;rw[hbx] at HU ⊢;clear hbx s0 s1 s2 s3 s4 s5 s6 s7 s8 s9 y1 HV HVS HbV hi0 hk0 hi1 hk1 LG rF hxe hse hm;as_aux_lemma=>
         have hpx:=hok1.oN x.be HMX.o;have hps:=hok1.oN s.be Zd.o;have Ze:=hid (And.intro hpx.2.2.1 hpx.2.2.2);have HPS:=hid (And.intro hps.2.2.1 hps.2.2.2);clear hpx hps;have CAl:=hid (fun W=>ze (.pointer (some ⟨yb,0,none⟩)) s x now 2 1 W HPS.o Ze.o);obtain ⟨ca,hca⟩:=aq (mM s.be x.be now 2 1);rw[hca] at CAl HR;clear hca;obtain ⟨e0,e1,e2,e3,e4,e5,e6,e7,e8,e9⟩:=eu HU.o.x;obtain ⟨f0,f1,f2,f3,f4,f5,f6,f7,f8,f9⟩:=eu HU.o.s;go_wp2_with fail;refine (CAl.o _).mono ?_;rintro e U1 ⟨rfl,g1⟩;have Ry:=hid (HU.o.grown g1);have af1:Hid (base<=U1.heap.size):=br HbU.o g1.size;clear HU g1 e0 e1 e2 e3 e4 e5 e6 e7 e8 e9 f0 f1 f2 f3 f4 f5 f6 f7 f8 f9 CAl HbU;by_cases hz:ca=0;rotate_left
         ·have HS:Hid (R=(.error ca,M1)):=(by show _=_;rw[HR.o,if_pos hz]);clear HR;go_wp2;go_ret2;exact ⟨_,_,rfl,by rw[HS.o];exact uo hz Ry.o.n.d Ij.o Ry.o.n.g⟩
         rw[if_neg (fun h=>h hz)] at HR;have COp:=hid (fun W=>Iq v7 t.ay W);obtain ⟨ob,LV⟩:=aq (jI v7 t.ay);rw[LV] at COp HR;have HOB:=hid LV;clear LV;obtain ⟨t0,t1,t2,t3,t4,t5,t6⟩:=kV Ry.o.n.o;go_wp2_with fail;refine (COp.o _).mono ?_;rintro e U2 ⟨rfl,rfl⟩;clear COp hz t0 t1 t2 t3 t4 t5 t6;cases ob with
         | false=>
          have HS:Hid (R=(.error 13,M1)):=(by show _=_;rw[HR.o,if_pos rfl]);clear HR;go_wp2;go_ret2;exact ⟨_,_,rfl,by rw[HS.o];exact uo afq Ry.o.n.d Ij.o Ry.o.n.g⟩
         | true=>
         rw[if_neg afq] at HR;obtain ⟨ixl,ixr⟩:=hin1 x.be HMX.o;obtain ⟨isl,isr⟩:=hin1 s.be Zd.o;have CFr:=hid (fun W=>Rw (.pointer (some ⟨yb,0,none⟩)) now t x s v5 v6 v7 W Ze.o HPS.o ixr isr ixl isl dm Pf.o);rw[TK.nQ t] at CFr;obtain ⟨FR,LU⟩:=aq (fresh now t x.be s.be v5 v6 v7);rw[LU] at CFr HR;have O6:=hid LU;clear LU ixl ixr isl isr;go_upto_region 28 with fail
         go_cut [22,16] (fun p k wx=>∃ bt t2 c2,p = .pointer (some ⟨bt,0,none⟩)/\k = .int .i64 c2/\wx.rangeAt bt 0 t2.cells/\Bo FR t2 c2/\U2.grownBy wx none)
         case first=>
          clear HR O6 HOB;as_aux_lemma=>
           refine aF.start (S:=fun V=>N3 w V base yb M1 {g with pv:=pv} gv v4 v5 v6 v7 bo t x s bx bs) 12 afv ?_;have eD:=hid (Ry.o.grown (bD (bh _ _)));refine aF.tk 0 [0] ?_;refine aF.tk 1 [1] ?_;refine aF.tk 2 [2] ?_ (hy:=by intro W hW;obtain ⟨t0,t1,t2,t3,t4,t5,t6⟩:=kV hW.n.o;exact jS);refine aF.tk 3 [3] ?_ (hy:=by intro W hW;obtain ⟨e0,e1,e2,e3,e4,e5,e6,e7,e8,e9⟩:=eu hW.x;exact jS);refine aF.tk 4 [4] ?_ (hy:=by intro W hW;obtain ⟨e0,e1,e2,e3,e4,e5,e6,e7,e8,e9⟩:=eu hW.s;exact jS);refine aF.tk 5 [7,6,5] ?_;refine aF.tk 6 [7,6] ?_;refine aF.tk 7 [7] ?_ (hy:=by intro W hW;have e3:=hW.n.v 1 _ rfl;exact jS);refine aF.tk 8 [10,9,8] ?_;refine aF.tk 9 [10,9] ?_;refine aF.tk 10 [10] ?_ (hy:=by intro W hW;have e3:=hW.n.v 2 _ rfl;exact jS);refine aF.tk 11 [11] ?_;refine aF.two (i:=12) (j:=16) afv rfl rfl (by rfl) (by rfl) (fun K hK=>?_) (fun K hK=>?_)
           ·go_simp;refine Calls.mono (CFr.o _) ?_;rintro e Wr ⟨u,c2,rfl,hF,gF⟩;rw[TK.nQ u];have HF:=hid (And.intro hF (aa (bD (bh U2 none)) gF));clear hF gF;go_wp2_with fail;refine hkl ?_;clear hK K;refine aF.fr 13 ?_;refine aF.fr 14 ?_;refine aF.fr 15 ?_;refine aF.on 16 ?_;intro K hK;refine hkl ?_;clear hK K;refine aF.on 17 ?_;intro K hK;refine hkl ?_;clear hK K;refine aF.fr 18 ?_;refine aF.done afv ?_;go_wp2_with fail;go_meet
            case rel=>exact ⟨Wr.heap.size,u,c2,rfl,rfl,aW Wr #[.int .i64 u.ay,.int .u64 (u.aM.toNat:Int),.string ⟨u.ax.toArray⟩,.int .i64 u.dY,.int .i64 u.start,.int .i64 u.fin,.int .i64 u.aD] _,HF.o.1,aR HF.o.2 _⟩
           ·go_simp;have kz:=aE U2.drew (.cells #[.int .i64 0,.int .u64 0,.string ⟨#[]⟩,.int .i64 0,.int .i64 0,.int .i64 0,.int .i64 0] 43) none;have HLz:=hid (Live.new U2.drew #[.int .i64 0,.int .u64 0,.string ⟨#[]⟩,.int .i64 0,.int .i64 0,.int .i64 0,.int .i64 0] 43);refine hK.out _ _ (.inr (eD.o.grown kz)) ?_;have HKz:=hid kz;clear hK K kz;try simp only[Act.put,List.getElem_toArray,ft,List.getElem_cons_succ,de,dy,eo]
            refine aF.on 12 ?_;intro K hK;refine Calls.mono (CFr.o _) ?_;rintro e Wr ⟨u,c2,rfl,hF,gF⟩;rw[TK.nQ u];have JP:Hid (Live Wr U2.heap.size 7):=HLz.o.grown gF;have HF:=hid (And.intro hF (aa (aa (bD (bh U2 none)) HKz.o) gF));clear hF gF;go_wp2_with fail;refine hkl ?_;clear hK K;refine aF.fr 13 ?_;refine aF.fr 14 ?_;refine aF.fr 15 ?_;obtain ⟨⟨dd0,kk0⟩,⟨dd1,kk1⟩,⟨dd2,kk2⟩,⟨dd3,kk3⟩,⟨dd4,kk4⟩,⟨dd5,kk5⟩,⟨dd6,kk6⟩,ff0,ff1,ff2,ff3,ff4,ff5,ff6⟩:=oK JP.o;refine aF.on 17 ?_;intro K hK;refine hkl ?_;clear hK K;refine aF.fr 18 ?_;refine aF.done afv ?_;go_wp2_with fail;go_meet
            case rel=>exact ⟨U2.heap.size,u,c2,rfl,rfl,eZ JP.o _ _ _ _ _ _ _,HF.o.1,az (az (az (az (az (az (az HF.o.2 (bd _)) (bd _)) (bd _)) (bd _)) (bd _)) (bd _)) (bd _)⟩
         case rest=>
          obtain ⟨bt,u,c2,rfl,rfl,hbt,hF,gF⟩:=hcut;refine Gb (fun V=>(N3 w V base yb M1 {g with pv:=pv} gv v4 v5 v6 v7 bo t x s bx bs/\base<=V.heap.size)/\V.rangeAt bt 0 u.cells) ⟨⟨Ry.o.grown gF,br af1.o gF.size⟩,hbt⟩ ?_;clear hbt gF CFr Ry af1;rintro W3 ⟨⟨x91,x92⟩,x93⟩;have Hu3:=hid x93;clear x93;have Hb3:=hid x92;clear x92;have sQ:=hid x91;clear x91;as_aux_lemma=>
           by_cases hc2:c2=0;rotate_left
           ·have HS:Hid (R=(.error c2,M1)):=by
             show _=_;rw[HR.o];cases hr:FR with
             | error c'=>rw[hF.1 c' hr]
             | ok t'=>exact absurd (hF.2 t' hr).1 hc2
            clear HR;go_wp2;go_ret2;exact ⟨_,_,rfl,by rw[HS.o];exact uo hc2 sQ.o.n.d Ij.o sQ.o.n.g⟩
           have hFo:FR = .ok u\/∃ c',FR = .error c'/\c'=0:=by
            cases hr:FR with
            | error c'=>exact .inr ⟨c',rfl,by rw[<-hF.1 c' hr];exact hc2⟩
            | ok t'=>exact .inl (by rw[(hF.2 t' hr).2])
           have aco:FR = .ok u:=by
            rcases hFo with h | ⟨c',h,h0⟩
            ·exact h
            ·exact absurd (O6.o.trans h) (Lg h0)
           have HFin:=hid (Wo Pf.o dm HI.o.2.1 HI.o.2.2.1 (O6.o.trans aco));have HS:Hid (R=(.ok ⟨13,u,s.be,v4,0,t.aM,5⟩,M1)):=by
            show _=_;rw[HR.o,aco]
           clear HR O6 hF hFo aco HOB;obtain ⟨ad,cd,hdv⟩:=cu sQ.o.n.d.dF.aO;obtain ⟨nd,hnd⟩:=aq M1.aO.length;have y3:W3.cell? ⟨yb,3,none⟩=some (.slice ad nd cd):=by
            have:=sQ.o.n.d.dF.blk.cell 3;rw[hdv,hnd] at this;simpa using this
           have HND:=hid hnd;clear hdv hnd;by_cases hd:(nd:Int)<24
           ·go_wp2;go_ret2;exact ⟨_,_,rfl,by rw[HS.o];exact Y9 (by rw[HND.o];omega) sQ.o.n.d Ij.o sQ.o.n.g⟩
           have Ll:=hok1.num s.be Zd.o;have Lm:=hok1.name x.be HMX.o;have Lp:=hok1.name s.be Zd.o;have GL:Hid (u.ax.length<=90):=by
            show _<=_;rw[HFin.o.2,<-HNX.o];exact wB Lm
           have HSn:Hid (s.name.length<=90):=wB Lp;have CG:Hid (∀ W,RD W base yb M1 {g with pv:=pv}->base<=W.heap.size->Calls prog 109 #[.pointer (some ⟨yb,0,none⟩),.int .i64 13,.agg #[.int .i64 u.ay,.int .u64 (u.aM.toNat:Int),.string ⟨u.ax.toArray⟩,.int .i64 u.dY,.int .i64 u.start,.int .i64 u.fin,.int .i64 u.aD],.agg s.arr,.int .i64 v4,.int .i64 0,.int .u64 (t.aM.toNat:Int),.int .i64 5] W fun e w'=>∃ o,e = .returned o/\Made W.heap.size w' o (kQ 13 {u with aM:=eO M1.aO 0} s.be v4 0 t.aM 5 (eO M1.aO 1) (eO M1.aO 2))/\(∃ v,RD w' base yb {M1 with aO:=M1.aO.drop 24} {g with pv:=pv,dv:=v}/\NewAt W.heap.size v)/\W.grownBy w' (some yb)):=by
            intro W hW hb;exact KO base yb M1 {g with pv:=pv} 13 v4 0 u s t.aM 5 5 W hW (by rw[HND.o];omega) ajR hb afq afq rfl ⟨by decide,by decide⟩ HI.o.1 fM (DN Ll) HFin.o.1 GL.o HSn.o
           clear Ll Lm Lp GL HSn;go_wp2_with fail;refine aF.start (S:=fun V=>N3 w V base yb M1 {g with pv:=pv} gv v4 v5 v6 v7 bo t x s bx bs/\V.rangeAt bt 0 u.cells) 8 afv ?_;have eD:Hid (N3 w W3.drew base yb M1 {g with pv:=pv} gv v4 v5 v6 v7 bo t x s bx bs/\W3.drew.rangeAt bt 0 u.cells):=⟨sQ.o.grown (bD (bh _ _)),aA Hu3.o (bD (bh _ _))⟩
           clear y3;refine aF.tk 0 [0] ?_;refine aF.tk 1 [1] ?_ (hy:=by intro W hW;obtain ⟨t0,t1,t2,t3,t4,t5,t6⟩:=kV hW.2;exact jS);refine aF.tk 2 [2] ?_ (hy:=by intro W hW;obtain ⟨e0,e1,e2,e3,e4,e5,e6,e7,e8,e9⟩:=eu hW.1.s;exact jS);refine aF.tk 3 [5,4,3] ?_;refine aF.tk 4 [5,4] ?_;refine aF.tk 5 [5] ?_ (hy:=by intro W hW;have e3:=hW.1.n.v 0 _ rfl;exact jS);refine aF.tk 6 [7,6] ?_;refine aF.tk 7 [7] ?_ (hy:=by intro W hW;obtain ⟨t0,t1,t2,t3,t4,t5,t6⟩:=kV hW.1.n.o;exact jS);refine aF.on 8 ?_;intro K hK;refine Calls.mono (CG.o _ eD.o.1.n.d Hb3.o) ?_;rintro e w5 ⟨o,rfl,rU,⟨v,Xe,K9⟩,g5⟩;have HH:=hid (And.intro rU (And.intro Xe (And.intro g5 K9)));clear rU Xe g5 K9;go_wp2_with fail;refine hkl ?_;clear hK K CG;refine aF.fr 9 ?_;refine aF.fr 10 ?_;refine aF.done afv ?_;go_wp2;go_ret2;refine ⟨_,_,rfl,?_⟩;rw[HS.o];obtain ⟨h1,h2,h3,h4⟩:=HH.o;refine ⟨?_,⟨pv,Ij.o,fun h=>absurd rfl h,fun _=>⟨_,v,rfl,h1.base eD.o.1.n.g.size,h2,fun b hb=>br eD.o.1.n.g.size (h4 b hb)⟩⟩,gQ eD.o.1.n.g h3⟩;show _=if M1.aO.length<24 then 60 else 0;rw[if_neg (by rw[HND.o];omega)]
end Go.Proofs.YteknelimjfgmaaaGreatDoor
