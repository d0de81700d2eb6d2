import Derived.Test.YteknelimjfgmaaaGreatDoorGJRFstA
namespace Go.Proofs.YteknelimjfgmaaaGreatDoor
set_option maxHeartbeats 8000000
open Proofs.Tryz Go.RowKit
set_option maxRecDepth 100000
set_option linter.unusedSimpArgs false
theorem aa6 {p:Prop} (h:p:=by
 have HS:Hid (R = .error 10):=by show _=_;rw[vM.o,if_pos (by rw[hfc];decide),hfc]
 clear vM
 go_wp2
 go_ret2
 exact ⟨_,_,rfl,by rw[HS.o];exact gZ afq HD.o (aa sQ.o.f.g HT.o.g)⟩):p:=h
theorem acO {p:Prop} (h:p:=by
 have HS:Hid (R = .error 13):=by show _=_;rw[vM.o,if_pos (by rw[hfc];decide),hfc]
 clear vM
 go_wp2
 go_ret2
 exact ⟨_,_,rfl,by rw[HS.o];exact gZ afq HD.o sQ.o.f.g⟩):p:=h
theorem ae9 {p:Prop} (h:p:=by
 go_wp2
 go_ret2
 exact ⟨_,_,rfl,by rw[HS.o];exact gZ afq HD.o HF.o.g⟩):p:=h
theorem Iy (base yb:Nat) (M:DM) (g:RG) (now:Int) (gl c:Nat) (p0 p1 p2 p3 p4 p5 p6 p7 p8:Pc) (w:World) (hD:RD w base yb M g) (hok:gU 4611686018427387904 M.bg) (hbase:base<=w.heap.size) (hP:jr w gl [p0,p1,p2,p3,p4,p5,p6,p7,p8]) (hl:∀ q∈[p0,p1,p2,p3,p4,p5,p6,p7,p8],q.ins.length<=900) (h10:bF p0.pair=some 10) (dm:In64 now) (hsk:In64 M.aC) (hin:∀ e∈M.bg,In64 e.bI/\In64 e.aD) (hdl:M.aO.length<=140737488355328) :
  Calls prog 71 #[.pointer (some ⟨yb,0,none⟩),.int .i64 now,.slice (some ⟨gl,0,none⟩) 9 c] w fun e w'=>∃ o k,e = .returned (.tuple #[o,.int .i64 k])/\Bl base yb M g (mO M now ([p0,p1,p2,p3,p4,p5,p6,p7,p8].map Pc.pair)) w w' o k:=by
 have c2:w.cell? ⟨gl,2,none⟩=some (.int .u8 (p1.tag.toNat:Int)):=hP.tag 1 aft
 have c3:w.cell? ⟨gl,3,none⟩=some (.slice p1.ad p1.ins.length p1.cap):=hP.ins 1 aft
 have AL:=hid hP
 have C1:=hid (pQ p1 w (hP.2 p1 aft).1 (br (hl p1 aft) afq))
 have C2:Hid (∀ W,jr W gl [p0,p1,p2,p3,p4,p5,p6,p7,p8]->Calls prog 98 #[.agg #[.int .u8 (p2.tag.toNat:Int),.slice p2.ad p2.ins.length p2.cap]] W fun e w'=>e = .returned (.tuple #[.string ⟨p2.ins.toArray⟩,.bool (di p2.pair).isSome])/\W.grownBy w' none):=fun W hW=>pQ p2 W (hW.2 p2 aft).1 (br (hl p2 aft) afq)
 have C3:Hid (∀ W,jr W gl [p0,p1,p2,p3,p4,p5,p6,p7,p8]->Calls prog 99 #[.slice (some ⟨gl,0,none⟩) 9 c,.int .i64 3,.int .i64 8] W fun e w'=>∃ o vs,e = .returned (.tuple #[o,.bool (jv [p3,p4,p5,p6,p7])])/\qi [p3,p4,p5,p6,p7] vs/\w'.ownsRow W.heap.size 2 1 o vs.length (vs.map I64)/\W.grownBy w' none):=fun W hW=>tN 3 8 9 gl c [p0,p1,p2,p3,p4,p5,p6,p7,p8] W (hid rfl) afq afq afq hW
 have C4:Hid (∀ W,jr W gl [p0,p1,p2,p3,p4,p5,p6,p7,p8]->Calls prog 100 #[.agg #[.int .u8 (p8.tag.toNat:Int),.slice p8.ad p8.ins.length p8.cap]] W fun e w'=>∃ n z t,e = .returned (.tuple #[.int .i64 n,z,.bool t,.bool (lu p8.pair).isSome])/\In64 n/\GY w' (lu p8.pair) n z t/\W.grownBy w' none):=fun W hW=>XR p8 W (hW.2 p8 aft).1 (hW.2 p8 aft).2.1 (hW.2 p8 aft).2.2 (br (hl p8 aft) afq)
 obtain ⟨b1,h1⟩:=aq ((di p1.pair).isSome)
 obtain ⟨b2,h2⟩:=aq ((di p2.pair).isSome)
 obtain ⟨b3,h3⟩:=aq (jv [p3,p4,p5,p6,p7])
 obtain ⟨o8,h8⟩:=aq (lu p8.pair)
 rw[h1] at C1
 rw[h2] at C2
 rw[h3] at C3
 rw[h8] at C4
 have HB:=hid (And.intro h1 (And.intro h2 (And.intro h3 h8)))
 have HZl:Hid (∀ x,o8=some (some x)->x.2.length<=900):=fun x hx=>br (Rl (p:=p8.pair) (by rw[h8];exact hx)) (hl p8 aft)
 clear h1 h2 h3 h8 hP hl
 have HD:=hid hD
 obtain ⟨R,hR⟩:=aq (mO M now ([p0,p1,p2,p3,p4,p5,p6,p7,p8].map Pc.pair))
 rw[hR]
 have HR:=hid hR
 clear hR hD
 go_enter func71,ntmps71
 go_wp2_with (first|(go_at_call 98;(first | refine C1.o.mono ?_;clear C1;rintro e w1 ⟨rfl,g1⟩;have Lj:=hid (AL.o.grown g1);have jC:=hid g1;have c4:w1.cell? ⟨gl,4,none⟩=some (.int .u8 (p2.tag.toNat:Int)):=Lj.o.tag 2 aft;have c5:w1.cell? ⟨gl,5,none⟩=some (.slice p2.ad p2.ins.length p2.cap):=Lj.o.ins 2 aft;clear AL g1 c2 c3|(refine (C2.o _ Lj.o).mono ?_;clear C2;rintro e w2 ⟨rfl,g2⟩;have QY:=hid (Lj.o.grown g2);have HG2:=hid (aa jC.o g2);clear Lj jC g2 c4 c5))))
 refine (C3.o _ QY.o).mono ?_
 rintro e w3 ⟨o,vs,rfl,Vu,hown,g3⟩
 obtain ⟨v3,v4,v5,v6,v7,rfl,q3,q4,q5,q6,q7⟩:=Vu.five
 obtain ⟨gv,cv,rfl,hrow,_⟩:=jh hown aft
 have uI:=hid (QY.o.grown g3)
 have mf:=hid (aa HG2.o g3)
 have EC:=hid hrow
 have Og:=hid (Rk p0 p1 p2 p3 p4 p5 p6 p7 p8 v3 v4 v5 v6 v7 h10 q3 q4 q5 q6 q7)
 have HI:=hid (And.intro q3.1 (And.intro q4.1 (And.intro q5.1 (And.intro q6.1 q7.1))))
 rw[HB.o.1,HB.o.2.1,HB.o.2.2.1,HB.o.2.2.2] at Og
 have c16:w3.cell? ⟨gl,16,none⟩=some (.int .u8 (p8.tag.toNat:Int)):=uI.o.tag 8 aft
 have c17:w3.cell? ⟨gl,17,none⟩=some (.slice p8.ad p8.ins.length p8.cap):=uI.o.ins 8 aft
 simp only[cN,List.length_nil]
 clear C3 QY HG2 g3 Vu hown hrow q3 q4 q5 q6 q7 h10 HB
 go_wp2_with fail
 refine (C4.o _ uI.o).mono ?_
 rintro e w4 ⟨pn,pz,pt,rfl,ipn,hps,g4⟩
 have HFS:Hid (∀ oo,o8=some oo->FS w w4 base yb M g gv v3 v4 v5 v6 v7 pz oo/\pt=oo.isSome/\∀ x,oo=some x->pn=x.1):=by
  intro oo ho;obtain ⟨r1,r2⟩:=hps oo ho;have hg:=aa mf.o g4;exact ⟨⟨HD.o.keep (fun b hb=>hg.block b (HD.o.lt b hb).2 aft),aA EC.o g4,fun x hx=>⟨(r2 x hx).2.1,HZl.o x (by rw[ho,hx])⟩,hg⟩,r1,fun x hx=>(r2 x hx).1⟩
 have xu:=hid (aa mf.o g4)
 obtain ⟨P,hP⟩:=aq (kH ([p0,p1,p2,p3,p4,p5,p6,p7,p8].map Pc.pair))
 unfold mO at HR
 rw[hP] at Og HR
 clear hP C4 uI mf EC c16 c17 g4 hps ipn
 go_upto_region 5 with fail
 go_cut [70] (fun z wx=>z = .bool (!P.isSome)/\wx=w4)
 case first=>
  have HX:Hid (P.isSome=(b1 && (b2 && (b3 && o8.isSome)))):=Og.o.1;clear Og HR HFS;cases b1 with
  | false=>
   have HS:Hid (P.isSome=false):=HX.o;clear HX;exact aaI
  | true=>
   cases b2 with
   | false=>
    have HS:Hid (P.isSome=false):=HX.o;clear HX;exact aaI
   | true=>
    cases b3 with
    | false=>
     have HS:Hid (P.isSome=false):=HX.o;clear HX;exact aaI
    | true=>
     have HS:Hid (P.isSome=o8.isSome):=HX.o;clear HX;go_wp2;go_meet
     case rel=>exact ⟨by rw[HS.o];cases o8 <;> rfl,rfl⟩
 case rest=>
  obtain ⟨rfl,rfl⟩:=hcut;cases P with
  | none=>
   have HS:Hid (R = .error 60):=HR.o.symm;clear HR Og HFS;simp only[Option.isSome_none,en];go_wp2;go_ret2;exact ⟨_,_,rfl,by rw[HS.o];exact gZ afq HD.o xu.o⟩
  | some q=>
   obtain ⟨oo,ho,hq⟩:=Og.o.2 q rfl;obtain ⟨hFS,hpt,hpn⟩:=HFS.o oo ho;have HS:Hid (R=firstM M now q):=HR.o.symm;subst hq hpt;have HF:=hid hFS;have HPN:=hid hpn;clear HR Og HFS hFS hpn ho xu;simp only[cY,eE];have CA:=hid (fun W (hW:RD W base yb M g)=>wm base yb M g p1.ins W hW hok.len);have CB:=hid (fun W (hW:RD W base yb M g)=>wm base yb M g p2.ins W hW hok.len);have hfa:=sN g.es p1.ins;have Qt:=sN g.es p2.ins;rw[HD.o.bg] at hfa Qt;have vM:Hid (R=match BE.find M.bg p1.ins,BE.find M.bg p2.ins with | none,_=>.error 6 | some _,none=>.error 7 | some x,some s=>if mM x s now 1 2≠0 then .error (mM x s now 1 2) else if dh M.aC now ⟨p1.ins,p2.ins,v3,v4,v5,v6,v7,oo⟩ x s≠0 then .error (dh M.aC now ⟨p1.ins,p2.ins,v3,v4,v5,v6,v7,oo⟩ x s) else .ok ⟨11,lJ now ⟨p1.ins,p2.ins,v3,v4,v5,v6,v7,oo⟩ x s,s,v3,x.aH,x.key,3⟩):=HS.o;obtain ⟨fa,Dz⟩:=aq (fP g.es p1.ins);obtain ⟨fb,Wq⟩:=aq (fP g.es p2.ins);rw[Dz] at CA hfa;rw[Wq] at CB Qt;have HA:=hid hfa;have VS:=hid Qt;clear hfa Qt Dz Wq HS;go_wp2_with fail;refine (CA.o _ HF.o.d).mono ?_;rintro e w5 ⟨rfl,g5⟩;have Z9:=hid (HF.o.grown g5);clear HF g5 CA;go_wp2_with fail;refine (CB.o _ Z9.o.d).mono ?_;rintro e w6 ⟨rfl,g6⟩;have HF:=hid (Z9.o.grown g6);clear Z9 g6 CB;rcases HA.o with ⟨hm,hno⟩ | ⟨i,hi,hie,hx⟩
   ·have HS:Hid (R = .error 6):=(by show _=_;rw[vM.o,hno]);subst hm;clear vM HA VS hno;exact ae9
   ·rcases VS.o with ⟨hm,hno⟩ | ⟨k,hk,hke,hs⟩
    ·have HS:Hid (R = .error 7):=(by show _=_;rw[vM.o,hx,hno]);have hi0:¬ (i:Int)<0:=(by omega);subst hm hie;clear vM HA VS hno hx;exact ae9
    ·rw[hx,hs] at vM;have hi0:¬ (i:Int)<0:=(by omega);have hi1:(0:Int)<=(i:Int):=(by omega);have hk1:(0:Int)<=(k:Int):=(by omega);obtain ⟨gb,cb,hbv,hrow⟩:=sO HF.o.d afp;obtain ⟨m,hm⟩:=aq g.es.length;have LG:(i:Int)<(m:Int):=(by omega);have rF:(k:Int)<(m:Int):=(by omega);have y1:w6.cell? ⟨yb,1,none⟩=some (.slice (some ⟨gb,0,none⟩) m cb):=by
      have:=HF.o.d.dF.blk.cell 1;rw[hbv,hm] at this;simpa using this
     have EC:=hid hrow;obtain ⟨x,hxe⟩:=aq (g.es[i]);obtain ⟨s,hse⟩:=aq (g.es[k]);have hmx:x.be∈M.bg:=(by rw[<-HD.o.bg,<-hxe];exact ev (cJ hi));have hms:s.be∈M.bg:=(by rw[<-HD.o.bg,<-hse];exact ev (cJ hk));obtain ⟨x0,x1,x2,x3,x4,x5,x6,x7,x8,x9⟩:=um hrow i hi;rw[hxe] at x0 x1 x2 x3 x4 x5 x6 x7 x8 x9 vM;rw[hse] at vM;subst hie hke;have Z0:=hid hbv;have HNX:Hid (x.name=p1.ins):=by
      show _=_;rw[<-hxe];exact kT hx
     have HMX:=hid hmx;have Zd:=hid hms;clear hx hs hrow HA VS hbv hmx hms;go_upto_region 14 with fail
     refine Io (fun V=>FS w V base yb M g gv v3 v4 v5 v6 v7 pz oo/\V.rangeAt w6.heap.size 0 x.cells/\V.rangeAt gb 0 (bK g.es)) ⟨HF.o.grown (aE w6 _ none),vG w6 x,aA EC.o (aE w6 _ none)⟩ ?_;rintro V ⟨hV,hvx,hvr⟩;clear x0 x1 x2 x3 x4 x5 x6 x7 x8 x9 y1 HF EC;have y1:V.cell? ⟨yb,1,none⟩=some (.slice (some ⟨gb,0,none⟩) m cb):=by
      have:=hV.d.dF.blk.cell 1;rw[Z0.o,hm] at this;simpa using this
     obtain ⟨s0,s1,s2,s3,s4,s5,s6,s7,s8,s9⟩:=um hvr k hk;rw[hse] at s0 s1 s2 s3 s4 s5 s6 s7 s8 s9;have HV:=hid hV;have HVX:=hid hvx;clear hV hvx hvr Z0;obtain ⟨bx,hbx⟩:=aq w6.heap.size;rw[hbx] at HVX ⊢;clear hbx;go_upto_region 15 with fail
     refine Io (fun U=>F2 w U base yb M g gv v3 v4 v5 v6 v7 pz oo x s bx V.heap.size) ⟨HV.o.grown (aE V _ none),aA HVX.o (aE V _ none),vG V s⟩ ?_;intro U hU;have HU:=hid hU;clear hU;obtain ⟨bs,hbs⟩:=aq V.heap.size;rw[hbs] at HU ⊢;clear hbs s0 s1 s2 s3 s4 s5 s6 s7 s8 s9 y1 HV HVX hi0 hi1 hk1 LG rF;as_aux_lemma=>
      have hpx:=hok.oN x.be HMX.o;have hps:=hok.oN s.be Zd.o;have Ze:=hid (And.intro hpx.2.2.1 hpx.2.2.2);have HPS:=hid (And.intro hps.2.2.1 hps.2.2.2);clear hpx hps;have CAl:=hid (fun W=>ze (.pointer (some ⟨yb,0,none⟩)) x s now 1 2 W Ze.o HPS.o);obtain ⟨ca,hca⟩:=aq (mM x.be s.be now 1 2);rw[hca] at CAl vM;clear hca;obtain ⟨e0,e1,e2,e3,e4,e5,e6,e7,e8,e9⟩:=eu HU.o.x;obtain ⟨f0,f1,f2,f3,f4,f5,f6,f7,f8,f9⟩:=eu HU.o.s;go_wp2_with fail;refine (CAl.o _).mono ?_;rintro e U1 ⟨rfl,g1⟩;have Ry:=hid (HU.o.grown g1);clear HU g1 e0 e1 e2 e3 e4 e5 e6 e7 e8 e9 f0 f1 f2 f3 f4 f5 f6 f7 f8 f9 CAl;by_cases hz:ca=0;rotate_left
      ·have HS:Hid (R = .error ca):=(by show _=_;rw[vM.o,if_pos hz]);clear vM;go_wp2;go_ret2;exact ⟨_,_,rfl,by rw[HS.o];exact gZ hz HD.o Ry.o.f.g⟩
      subst hz;rw[if_neg (fun h=>h rfl)] at vM;have CH:=hid (fun W=>kL x 1 W afq Ze.o.1 Ze.o.2);obtain ⟨mb,hmb⟩:=aq (x.be.has 1);rw[hmb] at CH;have HMB:=hid hmb;clear hmb;obtain ⟨e0,e1,e2,e3,e4,e5,e6,e7,e8,e9⟩:=eu Ry.o.x;go_wp2_with fail;refine (CH.o _).mono ?_;rintro e U2 ⟨rfl,g2⟩;have HU2:=hid (Ry.o.grown g2);clear Ry g2 e0 e1 e2 e3 e4 e5 e6 e7 e8 e9 CH;obtain ⟨B,hB⟩:=aq ((mb && !oo.isSome));have HB2:=hid hB;go_upto_region 19 with fail
      go_cut [111] (fun z wx=>z = .bool B/\U2=wx)
      case first=>
       have HX:=hid hB;clear hB vM HPN;cases mb with
       | true=>
        go_wp2;go_meet
        case rel=>exact ⟨by rw[<-HX.o];cases oo <;> rfl,rfl⟩
       | false=>
        go_wp2;go_meet
        case rel=>exact ⟨by rw[<-HX.o];rfl,rfl⟩
      case rest=>
       obtain ⟨rfl,rfl⟩:=hcut;clear hB;cases B with
       | true=>
        have hfc:dh M.aC now ⟨p1.ins,p2.ins,v3,v4,v5,v6,v7,oo⟩ x.be s.be=25:=by
         have hb:=HB2.o;have hm:=HMB.o;cases oo with
         | some y=>simp at hb
         | none=>
          have:eX M.aC now x.be none=25:=by
           show (if x.be.has 1=true then (25:Int) else 0)=25;rw[hm];simp at hb;rw[hb];rfl
          rw[Wl (by show eX M.aC now x.be none≠0;rw[this];decide)];exact this
        have HS:Hid (R = .error 25):=(by show _=_;rw[vM.o,if_pos (by rw[hfc];decide),hfc]);clear vM;go_wp2;go_ret2;exact ⟨_,_,rfl,by rw[HS.o];exact gZ afq HD.o HU2.o.f.g⟩
       | false=>
        obtain ⟨pc,x91⟩:=aq (eX M.aC now x.be oo);have xO:=hid x91;clear x91;go_upto_if 112 with fail
        go_cut [] (fun wx=>F2 w wx base yb M g gv v3 v4 v5 v6 v7 pz oo x s bx bs/\pc=0)
        case first=>
         cases oo with
         | none=>
          have h0:pc=0:=by
           have hb:=HB2.o;have hm:=HMB.o;simp at hb;rw[hb] at hm;rw[<-xO.o];show (if x.be.has 1=true then (25:Int) else 0)=0;rw[hm];rfl
          have HH:=hid h0;clear h0 vM xO;simp only[Option.isSome_none];go_wp2;go_meet
          case rel=>exact ⟨HU2.o,HH.o⟩
         | some nz=>
          obtain ⟨pn',z'⟩:=nz;have af7:=HPN.o (pn',z') rfl;simp only at af7;subst af7;obtain ⟨x91,hz2⟩:=HU2.o.f.z _ rfl;have HZ1:=hid x91;clear x91;have CP:=hid (fun W (hW:RD W base yb M g) (hzz:vg W pz z')=>KS base yb M g x now pn z' pz W hW hzz hz2 dm);have af8:Hid (vH M.aC now x.be pn z'=pc):=xO.o;rw[af8.o] at CP;clear af8  hz2;obtain ⟨e0,e1,e2,e3,e4,e5,e6,e7,e8,e9⟩:=eu HU2.o.x;simp only[cY];go_wp2_with fail;refine (CP.o _ HU2.o.f.d HZ1.o).mono ?_;rintro e U3 ⟨rfl,g3⟩;have sQ:=hid (HU2.o.grown g3);clear HU2 g3 e0 e1 e2 e3 e4 e5 e6 e7 e8 e9 CP HZ1;by_cases hz:pc=0
          ·clear vM;go_wp2;go_meet
           case rel=>exact ⟨sQ.o,hz⟩
          ·have hfc:dh M.aC now ⟨p1.ins,p2.ins,v3,v4,v5,v6,v7,some (pn,z')⟩ x.be s.be=pc:=by
            rw[Wl (by show eX M.aC now x.be (some (pn,z'))≠0;rw[xO.o];exact hz)];exact xO.o
           have HS:Hid (R = .error pc):=(by show _=_;rw[vM.o,if_pos (by rw[hfc];exact hz),hfc]);clear vM hfc;go_wp2;go_ret2;exact ⟨_,_,rfl,by rw[HS.o];exact gZ hz HD.o sQ.o.f.g⟩
        case rest=>
         obtain ⟨Xf,hpz⟩:=hcut;rw[hpz] at xO;refine Gb (fun V=>F2 w V base yb M g gv v3 v4 v5 v6 v7 pz oo x s bx bs) Xf ?_;clear hpz Xf HU2 HB2 HMB pc;intro U3 Xf;have sQ:=hid Xf;have hv1:U3.cell? ⟨gv,1,none⟩=some (.int .i64 v4):=Xf.f.v 1 _ rfl;have hv4:U3.cell? ⟨gv,4,none⟩=some (.int .i64 v7):=Xf.f.v 4 _ rfl;clear Xf;as_aux_lemma=>
          by_cases ho1:v7<0
          ·have hfc:dh M.aC now ⟨p1.ins,p2.ins,v3,v4,v5,v6,v7,oo⟩ x.be s.be=13:=Wm xO.o (.inl ho1);exact acO
          by_cases ho2:15<v7
          ·have hfc:dh M.aC now ⟨p1.ins,p2.ins,v3,v4,v5,v6,v7,oo⟩ x.be s.be=13:=Wm xO.o (.inr ho2);exact acO
          have HOp:Hid (¬ (v7<0\/15<v7)):=fun h=>h.elim ho1 ho2;go_upto_if 138 with fail
          refine Io (fun W=>FT U3 W 32 0 p1.ins now now 0 0) (FT.new U3 _ _ _ _ _ _ _) ?_;intro W hT;have HT:=hid hT;clear hT hv1 hv4 ho1 ho2;obtain ⟨fl,hfl⟩:∃ a:Int,32+(if oo.isSome=true then 64 else 0)=a:=⟨_,rfl⟩
          have HFL:=hid hfl;have agb:0<=fl/\fl<=96:=(by rw[<-hfl];split <;> omega);clear hfl;go_cut [] (fun wx=>FT U3 wx fl 0 p1.ins now now 0 0)
          case first=>
           clear vM HPN xO agb;cases oo with
           | none=>
            have HX:Hid (fl=32):=HFL.o.symm;clear HFL;simp only[Option.isSome_none];go_wp2;go_meet
            case rel=>rw[HX.o];exact HT.o
           | some y=>
            have HX:Hid (fl=96):=HFL.o.symm;clear HFL;obtain ⟨t0,t1,t2,t3,t4,t5,t6⟩:=HT.o.tc;have Su:=HT.o.l.frozen 0;simp only[cY];go_wp2;go_meet
            case rel=>rw[HX.o];exact HT.o.Am 96
          case rest=>
           refine Gb (fun V=>FT U3 V fl 0 p1.ins now now 0 0) hcut ?_;clear hcut HT W;intro W hT;have HT:=hid hT;have VL:W.cell? ⟨yb,0,none⟩=some (.int .i64 M.aC):=by
            have:=(sQ.o.f.grown hT.g).d.dF.blk.cell 0;simpa using this
           clear hT;have CB:=hid (fun W=>eQ v7 8 3 W afq afq);have CS:=hid (fun W=>lG now M.aC W dm hsk);obtain ⟨b8,h8⟩:=aq (aG v7 8);obtain ⟨A1,hA1⟩:=aq (aX now M.aC);obtain ⟨ST,hST⟩:=aq (bH now ⟨p1.ins,p2.ins,v3,v4,v5,v6,v7,oo⟩);obtain ⟨FL,hFL⟩:=aq (fl+(if b8=true then 24 else 0));rw[h8] at CB;rw[hA1] at CS;have H8:=hid h8;have HA1:=hid hA1;have HST:=hid hST;have Ws:=hid hFL;have Wt:In64 ST:=by
            rw[<-hST];unfold bH;split
            ·exact HI.o.2.1
            ·exact dm
           have Zf:0<=FL/\FL<=200:=(by rw[<-hFL];split <;> omega);clear h8 hA1 hST hFL;go_upto_if 144 with (go_at_call 104;refine (CB.o _).mono ?_;rintro e w' ⟨rfl,rfl⟩)
           go_cut [] (fun wx=>FT U3 wx FL 0 p1.ins now ST 0 0/\Pv M.aC now ⟨p1.ins,p2.ins,v3,v4,v5,v6,v7,oo⟩ x.be s.be)
           case first=>
            cases b8 with
            | true=>
             have rW:Hid (ST=v4):=(by show _=_;rw[<-HST.o];show (if aG v7 8=true then v4 else now)=v4;rw[H8.o];rfl);have uU:Hid (FL=fl+8+16):=(by show _=_;rw[<-Ws.o,if_pos rfl];omega);have C1:=hid (fun W=>kL x 16 W afq Ze.o.1 Ze.o.2);have C2:=hid (fun W=>kL s 16 W afq HPS.o.1 HPS.o.2);obtain ⟨bp,hbp⟩:=aq (x.be.has 16);obtain ⟨bq,hbq⟩:=aq (s.be.has 16);rw[hbp] at C1;rw[hbq] at C2;have HBP:=hid hbp;have HBQ:=hid hbq;clear hbp hbq HST Ws Wt Zf CS HA1;obtain ⟨e0,e1,e2,e3,e4,e5,e6,e7,e8,e9⟩:=eu (aA sQ.o.x HT.o.g);go_wp2_with fail;refine (C1.o _).mono ?_;rintro e w1 ⟨rfl,g1⟩;have HT1:=hid (HT.o.grown g1);clear HT g1 e0 e1 e2 e3 e4 e5 e6 e7 e8 e9 C1 VL;obtain ⟨e0,e1,e2,e3,e4,e5,e6,e7,e8,e9⟩:=eu (aA sQ.o.s HT1.o.g);go_wp2_with fail;refine (C2.o _).mono ?_;rintro e w2 ⟨rfl,g2⟩;have HT:=hid (HT1.o.grown g2);clear HT1 g2 e0 e1 e2 e3 e4 e5 e6 e7 e8 e9 C2;cases bp with
             | false=>
              have hfc:dh M.aC now ⟨p1.ins,p2.ins,v3,v4,v5,v6,v7,oo⟩ x.be s.be=10:=Pt xO.o HOp.o H8.o (fun h=>by have:=h.1;rw[HBP.o] at this;cases this);exact aa6
             | true=>
              cases bq with
              | false=>
               have hfc:dh M.aC now ⟨p1.ins,p2.ins,v3,v4,v5,v6,v7,oo⟩ x.be s.be=10:=Pt xO.o HOp.o H8.o (fun h=>by have:=h.2;rw[HBQ.o] at this;cases this);exact aa6
              | true=>
               obtain ⟨t0,t1,t2,t3,t4,t5,t6⟩:=HT.o.tc;have Su:=HT.o.l.frozen 0;have ft4:=HT.o.l.frozen 4;clear vM;go_wp2;go_meet
               case rel=>
                rw[rW.o,uU.o];exact ⟨(HT.o.setSt v4).Am _,fun _=>⟨HBP.o,HBQ.o⟩,fun h=>by have:=H8.o.symm.trans h;cases this⟩
            | false=>
             have rW:Hid (ST=now):=(by show _=_;rw[<-HST.o];show (if aG v7 8=true then v4 else now)=now;rw[H8.o];rfl);have uU:Hid (FL=fl):=(by show _=_;rw[<-Ws.o];simp);clear HST Ws Wt Zf;go_wp2_with fail;refine (CS.o _).mono ?_;rintro e w1 ⟨rfl,rfl⟩;by_cases hlt:A1<v4
             ·have hfc:dh M.aC now ⟨p1.ins,p2.ins,v3,v4,v5,v6,v7,oo⟩ x.be s.be=10:=Y6 xO.o HOp.o H8.o (by rw[HA1.o];exact hlt);exact aa6
             ·have HLT:=hid (eK.1 hlt);clear vM;go_wp2;go_meet
              case rel=>
               rw[rW.o,uU.o];exact ⟨HT.o,fun h=>(by have:=H8.o.symm.trans h;cases this),fun _=>(by rw[HA1.o];exact eK.2 HLT.o)⟩
           case rest=>
            obtain ⟨hcT,hcS⟩:=hcut;refine Gb (fun V=>FT U3 V FL 0 p1.ins now ST 0 0) hcT ?_;have HSO:=hid hcS;clear hcT hcS HT w' VL CS HA1 agb;intro W hT;have HT:=hid hT;clear hT;as_aux_lemma=>
             have hfc:dh M.aC now ⟨p1.ins,p2.ins,v3,v4,v5,v6,v7,oo⟩ x.be s.be=if fJ now ⟨p1.ins,p2.ins,v3,v4,v5,v6,v7,oo⟩ x.be s.be<=ST then 11 else 0:=(by rw[<-HST.o];exact ach xO.o HOp.o HSO.o);have HFC:=hid hfc;clear hfc xO HOp HSO;obtain ⟨ixl,ixr⟩:=hin x.be HMX.o;obtain ⟨isl,isr⟩:=hin s.be Zd.o;have HIX:=hid (And.intro ixr isr);have C1:=hid (fun W=>uj v5 W);obtain ⟨A,hA⟩:=aq (asked v5);rw[hA] at C1;have C2:=hid (fun W=>lG ST x.bI W Wt ixl);obtain ⟨X1,hX⟩:=aq (aX ST x.bI);rw[hX] at C2;have C3:=hid (fun W=>lG ST s.bI W Wt isl);obtain ⟨S1,hS⟩:=aq (aX ST s.bI);rw[hS] at C3;have C4:=hid (fun W=>jM X1 S1 W);obtain ⟨E1,hE⟩:=aq (lesser X1 S1);rw[hE] at C4;have C5:=hid (fun W=>jM A E1 W);obtain ⟨D,hD⟩:=aq (lesser A E1);rw[hD] at C5;have hDe:fJ now ⟨p1.ins,p2.ins,v3,v4,v5,v6,v7,oo⟩ x.be s.be=D:=by
              rw[<-hD,<-hE,<-hA,<-hX,<-hS,<-HST.o];rfl
             rw[hDe] at HFC;have HDe:=hid hDe;clear hA hX hS hE hD hDe ixl ixr isl isr;have z5:=HT.o.tc.2.2.2.2.2.1;have ft5:=HT.o.l.frozen 5;obtain ⟨y0,y1,y2,y3⟩:=FT.c41 sQ.o HT.o;go_wp2_with fail;go_region_held3 (fun W'=>W'.cell? ⟨gv,2,none⟩=some (.int .i64 v5)/\W'.cell? ⟨U3.heap.size,4,none⟩=some (.int .i64 ST)/\W'.cell? ⟨bx,3,none⟩=some (.int .i64 x.bI)/\W'.cell? ⟨bs,3,none⟩=some (.int .i64 s.bI)) (first|(with_reducible exact FT.c41 sQ.o HT.o)|(with_reducible exact FT.c41 sQ.o HT.o.drew)|(with_reducible exact FT.c41 sQ.o (HT.o.wU _))|(with_reducible exact FT.c41 sQ.o (HT.o.wU _).drew) | go_keep) (first|(go_at_call 107;(with_reducible refine Calls.mono (C1.o _) ?_);rintro e w' ⟨rfl,rfl⟩)|(go_at_call 105;(first|(with_reducible refine Calls.mono (C2.o _) ?_)|(with_reducible refine Calls.mono (C3.o _) ?_));rintro e w' ⟨rfl,rfl⟩)|(go_at_call 106;(first|(with_reducible refine Calls.mono (C4.o _) ?_)|(with_reducible refine Calls.mono (C5.o _) ?_));rintro e w' ⟨rfl,rfl⟩));have HT2:=hid (HT.o.wU D).drew;obtain ⟨W3,hW3⟩:∃ W',(W.setCell ⟨U3.heap.size,5,none⟩ (.int .i64 D)).drew=W':=⟨_,rfl⟩
             rw[hW3] at HT2 ⊢;clear hW3 HT z5 ft5 y0 y1 y2 y3 C1 C2 C3 C4 C5;have HT:=HT2;clear HT2;obtain ⟨t0,t1,t2,t3,t4,t5,t6⟩:=HT.o.tc;by_cases hDS:D<=ST
             ·rw[if_pos hDS] at HFC;have HS:Hid (R = .error 11):=(by show _=_;rw[vM.o,if_pos (by rw[HFC.o];decide),HFC.o]);clear vM;go_wp2;go_ret2;exact ⟨_,_,rfl,by rw[HS.o];exact gZ afq HD.o (aa sQ.o.f.g HT.o.g)⟩
             rw[if_neg hDS] at HFC;have HS:Hid (R = .ok ⟨11,lJ now ⟨p1.ins,p2.ins,v3,v4,v5,v6,v7,oo⟩ x.be s.be,s.be,v3,x.aH,x.key,3⟩):=by
              show _=_;rw[vM.o,if_neg (fun h=>h HFC.o)];rfl
             clear vM HFC;have C1:=hid (fun W=>uj v6 W);obtain ⟨A,hA⟩:=aq (asked v6);rw[hA] at C1;obtain ⟨MF,hMF⟩:=aq (gI v7 7 x.be s.be);obtain ⟨MR,hMR⟩:=aq (fu v7 7 x.be s.be ST A);have C2:Hid (∀ W,Calls prog 108 #[.agg #[.int .i64 FL,.int .u64 0,.string ⟨p1.ins.toArray⟩,.int .i64 now,.int .i64 ST,.int .i64 D,.int .i64 0],.int .i64 v7,.int .i64 7,.agg x.arr,.agg s.arr,.int .i64 A] W fun e w'=>e = .returned (.agg #[.int .i64 (FL+MF),.int .u64 0,.string ⟨p1.ins.toArray⟩,.int .i64 now,.int .i64 ST,.int .i64 D,.int .i64 MR])/\W.grownBy w' none):=by
              intro W;have h:=KT ⟨FL,0,p1.ins,now,ST,D,0⟩ v7 7 A x s W Ze.o HPS.o HIX.o.1 HIX.o.2 Wt Zf.1 (by have:=Zf.2;show FL<4096;omega);dsimp only at h;rw[Ip,hMF,hMR] at h;exact h
             have HTK:Hid (lJ now ⟨p1.ins,p2.ins,v3,v4,v5,v6,v7,oo⟩ x.be s.be=⟨FL+MF,0,p1.ins,now,ST,D,MR⟩):=by
              show _=_;rw[<-hMF,<-hMR,<-hA,<-HDe.o,<-HST.o,<-Ws.o,<-HFL.o,<-H8.o];rfl
             clear hA hMF hMR;have Pf:Hid (TK.In ⟨FL+MF,0,p1.ins,now,ST,D,MR⟩):=by
              show TK.In _;rw[<-HTK.o];exact Oc dm HI.o.2.1 HI.o.2.2.1 HI.o.2.2.2.1
             go_wp2_with fail;refine aF.start (S:=fun V=>FT U3 V FL 0 p1.ins now ST D 0) 9 afv ?_;have eD:=hid HT.o.drew;clear t0 t1 t2 t3 t4 t5 t6 HT;refine aF.tk 0 [8,0] ?_ (hy:=by intro W hW;obtain ⟨t0,t1,t2,t3,t4,t5,t6⟩:=hW.tc;exact jS);refine aF.tk 1 [8,1] ?_;refine aF.tk 2 [8,2] ?_ (hy:=by intro W hW;obtain ⟨e0,e1,e2,e3,e4,e5,e6,e7,e8,e9⟩:=eu (aA sQ.o.x hW.g);exact jS);refine aF.tk 3 [8,3] ?_ (hy:=by intro W hW;obtain ⟨e0,e1,e2,e3,e4,e5,e6,e7,e8,e9⟩:=eu (aA sQ.o.s hW.g);exact jS);refine aF.tk 4 [8,7,6,5,4] ?_;refine aF.tk 5 [8,7,6,5] ?_;refine aF.tk 6 [8,7,6] ?_ (hy:=by intro W hW;have e3:=(aA sQ.o.f.v hW.g) 3 _ rfl;exact jS);refine aF.on 7 ?_;intro K hK;refine Calls.mono (C1.o _) ?_;rintro e w' ⟨rfl,rfl⟩;go_wp2_with fail;refine hkr ?_;clear hK K C1;refine aF.on 8 ?_;intro K hK;refine Calls.mono (C2.o _) ?_;rintro e w5 ⟨rfl,g5⟩;have OU:=hid (eD.o.grown g5);clear g5;go_wp2_with fail;refine hkx OU.o ?_;clear hK K C2 eD;obtain ⟨⟨e0,j0⟩,⟨e1,j1⟩,⟨e2,j2⟩,⟨e3,j3⟩,⟨e4,j4⟩,⟨e5,j5⟩,⟨e6,j6⟩,l0,l1,l2,l3,l4,l5,l6⟩:=oK OU.o.l;refine aF.on 9 ?_;intro K hK;refine hK.out _ _ (.inl afv) ?_;clear hK K;refine aF.Dw (fun V=>FT U3 V (FL+MF) 0 p1.ins now ST D MR) afv (OU.o.Ob (FL+MF) 0 p1.ins now ST D MR) ?_;clear e0 e1 e2 e3 e4 e5 e6 j0 j1 j2 j3 j4 j5 j6 l0 l1 l2 l3 l4 l5 l6 OU;intro W hT;have HT:=hid hT;clear hT;as_aux_lemma=>
              obtain ⟨ad,cd,hdv⟩:=cu sQ.o.f.d.dF.aO;obtain ⟨nd,hnd⟩:=aq M.aO.length;have y3:W.cell? ⟨yb,3,none⟩=some (.slice ad nd cd):=by
               have:=(sQ.o.f.grown HT.o.g).d.dF.blk.cell 3;rw[hdv,hnd] at this;simpa using this
              have HND:=hid hnd;clear hdv hnd;by_cases hd:(nd:Int)<24
              ·go_wp2;go_ret2;exact ⟨_,_,rfl,by rw[HS.o];exact Lf (by rw[HND.o];omega) HD.o (aa sQ.o.f.g HT.o.g)⟩
              have HBs:Hid (base<=W.heap.size):=br hbase (aa sQ.o.f.g HT.o.g).size;have aae:=hok.num x.be HMX.o;have Ll:=hok.num s.be Zd.o;have Lm:=hok.name x.be HMX.o;have Lp:=hok.name s.be Zd.o;have GL:Hid (p1.ins.length<=90):=by
               show _<=_;rw[<-HNX.o];exact wB Lm
              have HSn:Hid (s.name.length<=90):=wB Lp;have CG:Hid (∀ W,RD W base yb M g->base<=W.heap.size->Calls prog 109 #[.pointer (some ⟨yb,0,none⟩),.int .i64 11,.agg #[.int .i64 (FL+MF),.int .u64 0,.string ⟨p1.ins.toArray⟩,.int .i64 now,.int .i64 ST,.int .i64 D,.int .i64 MR],.agg s.arr,.int .i64 v3,.int .i64 x.aH,.int .u64 (x.key.toNat:Int),.int .i64 3] W fun e w'=>∃ o,e = .returned o/\Made W.heap.size w' o (kQ 11 {(⟨FL+MF,0,p1.ins,now,ST,D,MR⟩:TK) with aM:=eO M.aO 0} s.be v3 x.aH x.key 3 (eO M.aO 1) (eO M.aO 2))/\(∃ v,RD w' base yb {M with aO:=M.aO.drop 24} {g with dv:=v}/\NewAt W.heap.size v)/\W.grownBy w' (some yb)):=by
               intro W hW hb;exact KO base yb M g 11 v3 x.aH ⟨FL+MF,0,p1.ins,now,ST,D,MR⟩ s x.key 3 3 W hW (by rw[HND.o];omega) hdl hb afq afq rfl ⟨by decide,by decide⟩ HI.o.1 (DN aae) (DN Ll) Pf.o GL.o HSn.o
              clear aae Ll Lm Lp GL HSn;go_wp2_with fail;refine aF.start (S:=fun V=>FT U3 V (FL+MF) 0 p1.ins now ST D MR) 11 afv ?_;have eD:=hid HT.o.drew;clear y3;refine aF.tk 0 [0] ?_;refine aF.tk 1 [1] ?_ (hy:=by intro W hW;obtain ⟨t0,t1,t2,t3,t4,t5,t6⟩:=hW.tc;exact jS);refine aF.tk 2 [2] ?_ (hy:=by intro W hW;obtain ⟨e0,e1,e2,e3,e4,e5,e6,e7,e8,e9⟩:=eu (aA sQ.o.s hW.g);exact jS);refine aF.tk 3 [5,4,3] ?_;refine aF.tk 4 [5,4] ?_;refine aF.tk 5 [5] ?_ (hy:=by intro W hW;have e3:=(aA sQ.o.f.v hW.g) 0 _ rfl;exact jS);refine aF.tk 6 [7,6] ?_;refine aF.tk 7 [7] ?_ (hy:=by intro W hW;obtain ⟨e0,e1,e2,e3,e4,e5,e6,e7,e8,e9⟩:=eu (aA sQ.o.x hW.g);exact jS);refine aF.tk 8 [10,9,8] ?_;refine aF.tk 9 [10,9] ?_;refine aF.tk 10 [10] ?_ (hy:=by intro W hW;obtain ⟨e0,e1,e2,e3,e4,e5,e6,e7,e8,e9⟩:=eu (aA sQ.o.x hW.g);exact jS);refine aF.on 11 ?_;intro K hK;refine Calls.mono (CG.o _ (sQ.o.f.grown eD.o.g).d HBs.o) ?_;rintro e w5 ⟨o,rfl,rU,⟨v,Xe,K9⟩,g5⟩;have HH:=hid (And.intro rU (And.intro Xe (And.intro K9 g5)));clear rU Xe K9 g5;go_wp2_with fail;refine hkl ?_;clear hK K CG;refine aF.fr 12 ?_;refine aF.fr 13 ?_;refine aF.done afv ?_;go_wp2;go_ret2;refine ⟨_,_,rfl,?_⟩;rw[HS.o];obtain ⟨h1,h2,h3,h4⟩:=HH.o;have hgw:=aa sQ.o.f.g eD.o.g;refine ⟨?_,fun h=>absurd rfl h,fun _=>⟨_,v,rfl,?_,h2,fun b hb=>br hgw.size (h3 b hb),gQ (lh hgw yb) h4⟩⟩
              ·show _=if M.aO.length<24 then 60 else 0;rw[if_neg (by rw[HND.o];omega)]
              ·unfold GR.box;dsimp only;rw[HTK.o];exact h1.base hgw.size
end Go.Proofs.YteknelimjfgmaaaGreatDoor
