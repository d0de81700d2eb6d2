import Derived.Test.YteknelimjfgmaaaGreatDoorGJSZer
namespace Go.Proofs.YteknelimjfgmaaaGreatDoor
set_option maxHeartbeats 8000000
open Proofs.Tryz Go.RowKit
set_option maxRecDepth 100000
set_option linter.unusedSimpArgs false
variable {w:World}
theorem Ic {K:Act->World->Prop} {a:Act} {W:World} (X:World->Prop) (hX:X W) (h:∀ V,X V->K a V):K a W:=h W hX
theorem qw (x:Int):∃ k:UInt64,IntKind.u64.wrap x=(k.toNat:Int):=by
 refine ⟨UInt64.ofNat (x % 18446744073709551616).toNat,?_⟩;rw[IntKind.wrap_u64,UInt64.toNat_ofNat'];omega
theorem Ie (w:World):Calls prog 62 #[.slice none 0 0] w fun e w'=>∃ o,e = .returned o/\Has w' o (Box.box 48 [])/\w.grownBy w' none:=by
 have HB:Hid (∀ W,Calls prog 90 #[.int .u8 48,.slice none 0 0] W fun e w'=>∃ o,e = .returned o/\Has w' o (Box.box 48 [])/\W.grownBy w' none):=fun W=>Ua 48 [] _ W (Has.nil W) aft;go_enter func62,ntmps62;go_wp2;go_loopw [3,4] (fun o i wr=>o = .slice none 0 0/\i = .int .i64 0/\w.grownBy wr none) (fun _ _ _=>0)
 case atStart=>exact ⟨rfl,rfl,bh _ _⟩
 case round=>
  obtain ⟨rfl,rfl,x91⟩:=hrel;have HG:=hid x91;clear x91;go_wp2_with (go_at_call 90;refine (HB.o _).mono ?_;rintro e w1 ⟨o,rfl,q1,q2⟩)
  go_ret;exact ⟨_,rfl,q1,aa HG.o q2⟩
structure LB (w V:World) (base yb:Nat) (M:DM) (g:RG) (a:oL):Prop where
 d:RD V base yb M g
 c:V.rangeAt w.heap.size 0 a.cells
 g:w.grownBy V none
theorem LB.grown {V V':World} {base yb:Nat} {M:DM} {g:RG} {a:oL} (h:LB w V base yb M g a) (k:V.grownBy V' none):LB w V' base yb M g a:=
 ⟨h.d.keep (fun b hb=>k.block b (h.d.lt b hb).2 aft),aA h.c k,aa h.g k⟩
theorem LB.new {base yb:Nat} {M:DM} {g:RG} (a:oL) (t:TypeId) (hD:RD w base yb M g):LB w (w.alloc (.cells a.arr t)) base yb M g a:=by
 have k:=aE w (.cells a.arr t) none;exact ⟨hD.keep (fun b hb=>k.block b (hD.lt b hb).2 aft),aW w a.arr t,k⟩
theorem YY {w0 w':World} {v':Value} {p:Option Pl} {bs:List UInt8} (h:aU w w' v' p bs) (hp:Pl.fresh w0.heap.size p) (hg:w0.grownBy w none):Has w' v' bs/\w0.grownBy w' none:=by
 obtain ⟨p',h1,h2,h3,h4⟩:=h;obtain ⟨ao,cap,q1,q2,q3,q4,q5⟩:=h1.shape;refine ⟨⟨ao,cap,q1,q2,q3,q5,q4⟩,?_⟩
 have c:CF w0 w' (fun _ _=>False):=(CF.bN hg (fun _ _=>False)).trans h2 (fun i o hi e=>by
  obtain ⟨q,hq,hb,_⟩:=e;have:=hp q hq
  omega)
 exact c.gb (fun _ _ _ e=>e)
theorem NW (base yb:Nat) (M:DM) (g:RG) (a:oL) (w:World) (hD:RD w base yb M g) (hok:gU 4611686018427387904 M.bg) (ha:a.Ok) :
  Calls prog 60 #[.pointer (some ⟨yb,0,none⟩),.agg a.arr] w fun e w'=>∃ (o:Value) (z:List UInt8),e = .returned o/\w'.ownsRow w.heap.size 5 1 o z.length (z.map U8)/\0<z.length/\z.length<=20000000/\w.grownBy w' none:=by
 obtain ⟨i0,hif,hz0,hz1,hz2⟩:=info_parts Tryz.info5
 obtain ⟨ib,hib,La,Lb,afl⟩:=info_parts Tryz.zS
 have HL:=hid (LB.new a 45 hD)
 rw[oL.nQ] at HL ⊢
 clear hD
 go_enter func60,ntmps60
 go_upto_region 1 with fail
 refine jP (fun V=>LB w V base yb M g a) HL.o ?_
 clear HL
 intro W hW
 have HW:=hid hW
 have c1:W.cell? ⟨w.heap.size,1,none⟩=some (.string ⟨a.ax.toArray⟩):=hW.c 1 _ rfl
 clear hW
 have CK:=hid (fun W (hW:RD W base yb M g)=>Du base yb M g a.ax W hW hok)
 go_wp2_with fail
 refine (CK.o _ HW.o.d).mono ?_
 rintro e W1 ⟨key,kn,rfl,hn0,hn1,g1⟩
 have HW1:=hid (HW.o.grown g1)
 clear HW g1 CK c1
 have CL:=hid (fun W=>Ie W)
 go_wp2_with fail
 refine (CL.o _).mono ?_
 rintro e W2 ⟨o,rfl,hp,g2⟩
 have HW2:=hid (HW1.o.grown g2)
 have HP:=hid hp
 obtain ⟨pa,pc,hps⟩:=hp.shape
 subst hps
 clear HW1 g2 CL hp
 have c8:W2.cell? ⟨w.heap.size,8,none⟩=some (.int .i64 a.pre):=HW2.o.c 8 _ rfl
 go_upto_if 19 with fail
 go_cut [7] (fun p wx=>∃ z,Has wx p z/\z.length<=5000/\LB w wx base yb M g a)
 case first=>
  as_aux_lemma=>
   by_cases hp0:a.pre=0
   ·have hpb:(a.pre==0)=true:=(by rw[hp0];rfl);go_wp2;go_meet
    case rel=>exact ⟨_,HP.o,by rw[Box.jG];simp,HW2.o⟩
   ·have hpb:(a.pre==0)=false:=(by simpa using hp0);have c9:W2.cell? ⟨w.heap.size,9,none⟩=some (.int .i64 a.kU):=HW2.o.c 9 _ rfl;have CN:=hid (fun W=>p9 a.kU W ha.kU.1 ha.kU.2);go_wp2_with fail;refine (CN.o _).mono ?_;rintro e W3 ⟨pl,rfl,hown,g3⟩;have HW3:=hid (HW2.o.grown g3);have hbl:(Box.box 2 (Box.low a.kU (Box.size a.kU))).length<=10:=(fe a.kU).2;obtain ⟨bs,hbs⟩:=aq (Box.box 2 (Box.low a.kU (Box.size a.kU)));rw[hbs] at hown hbl;have HO:=hid hown;have Z5:=hid hbl;have VN:=hid (Has.own hown);have HG2:Hid (w.heap.size<=W2.heap.size):=HW2.o.g.size;have mf:=hid g3;clear g3 CN c8 c9 hown hbs hbl HP;have c8:W3.cell? ⟨w.heap.size,8,none⟩=some (.int .i64 a.pre):=HW3.o.c 8 _ rfl;go_upto_block 0 with fail
    go_cut [5,6,8] (fun k n p wx=>∃ (key:UInt64) (nn:Int) (z:List UInt8),k = .int .u64 (key.toNat:Int)/\n = .int .i64 nn/\In64 nn/\Has wx p z/\z.length<=500/\LB w wx base yb M g a)
    case first=>
     by_cases h1:a.pre=1
     ·have h1b:(a.pre==1)=true:=(by rw[h1];rfl);go_wp2;go_meet
      case rel=>exact ⟨key,kn,bs,rfl,rfl,by unfold In64;omega,VN.o,by have:=Z5.o;omega,HW3.o⟩
     ·have h1b:(a.pre==1)=false:=(by simpa using h1);by_cases h2:a.pre=2
      ·have h2b:(a.pre==2)=true:=(by rw[h2];rfl);go_wp2;go_meet
       case rel=>exact ⟨key,kn+1,bs,rfl,rfl,by unfold In64;omega,VN.o,by have:=Z5.o;omega,HW3.o⟩
      ·have h2b:(a.pre==2)=false:=(by simpa using h2);by_cases h3:a.pre=3
       ·have h3b:(a.pre==3)=true:=(by rw[h3];rfl);obtain ⟨k1,hk1⟩:=qw ((key.toNat:Int)+1);go_wp2;go_meet
        case rel=>exact ⟨k1,kn,bs,rfl,rfl,by unfold In64;omega,VN.o,by have:=Z5.o;omega,HW3.o⟩
       ·have h3b:(a.pre==3)=false:=(by simpa using h3);obtain ⟨p,x91,x92⟩:=Out.own HO.o;have HPf:=hid x92;clear x92;have YR:=hid x91;clear x91;by_cases h4:4<a.pre
        ·have hk0:0<=a.pre % 400/\a.pre % 400<400:=(by omega);obtain ⟨kk,hkk⟩:∃ k:Nat,a.pre.tmod 400=(k:Int):=⟨(a.pre % 400).toNat,by rw[fp afp];omega⟩
         have aju:kk<=400:=(by rw[fp afp] at hkk;omega);obtain ⟨v',w',hrun,hmore⟩:=EE (P:=prog) W3 37 3 37 5 i0 .i64 underlying37 underlying3 hif hz0 hz1 hz2 pl p bs YR.o kk (br aju afq) (by have:=Z5.o;omega);have HM:=hid (YY hmore HPf.o mf.o);clear hmore;go_wp2_with (at_builtin;refine Lib.wpList_append_run _ rfl _ _ _ _ rfl _ _ rfl rfl _ _ hrun ?_)
         go_meet
         case rel=>exact ⟨key,kn,_,rfl,rfl,by unfold In64;omega,HM.o.1,by have:=Z5.o;simp;omega,HW2.o.grown HM.o.2⟩
        ·have C1:=hid (fun W=>bR 1 W ⟨by decide,by decide⟩);clear YR HPf;go_wp2_with fail;refine (C1.o _).mono ?_;rintro e W4 ⟨o4,rfl,q4,g4⟩;obtain ⟨a4,c4,hs4⟩:=q4.shape;subst hs4;have si:W4.ownsRow W2.heap.size 5 1 pl bs.length (bs.map U8):=HO.o.kept g4 (eW _);have G4:=aa mf.o g4;have aau:=G4.size;obtain ⟨_,_,he4,_,_,afm,Ef⟩:=q4;injection he4 with e1 e2 e3;subst e1 e3;have hl1:(bQ 1).length<=10:=(fe 1).2;have hb4:bs.length+(bQ 1).length<=140737488355328:=(by have:=Z5.o;omega);clear C1 VN HO g4 e2;go_wp2_with (at_builtin;refine bU _ rfl _ _ 37 rfl W2.heap.size 5 i0 underlying37 hif hz0 hz1 hz2 pl bs.length bs rfl si a4 (bQ 1).length c4 (bQ 1) rfl rfl afm Ef hb4 aau ?_)
         intro v5 w5 hown5 hg5 _;have G5:W2.grownBy w5 none:=iw G4 hg5 (fun i hi=>(si.lt i hi).1);have HH:Hid (Has w5 v5 (bs++bQ 1)):=Has.own (by rw[bj,cW];exact hown5);have QL:=hid G5;clear hown5 hg5 G5 G4 si Ef afm aau;go_wp2;go_meet
         case rel=>exact ⟨key,kn,_,rfl,rfl,by unfold In64;omega,HH.o,by rw[bj];have:=Z5.o;omega,HW2.o.grown QL.o⟩
    case rest=>
     obtain ⟨ajv,nn,z2,rfl,rfl,hnn,rU,hzl,Sg⟩:=hcut;obtain ⟨za,zc,hzs⟩:=rU.shape;subst hzs;obtain ⟨zn,hzn⟩:=aq z2.length;rw[hzn];rw[hzn] at rU hzl;refine Ic (fun V=>LB w V base yb M g a/\Has V (.slice za zn zc) z2) ⟨Sg,rU⟩ ?_;clear HW3 HO Z5 VN HG2 mf HW2 c8 Sg rU;rintro V ⟨hV,rU⟩;have HV:=hid hV;have HZ:=hid rU;have TY:=hid hnn;have HZL:Hid (z2.length<=500):=(by show _<=_;rw[hzn];exact hzl);clear hV rU hnn hzn;obtain ⟨kn2,hkn2⟩:=qw a.bS;have CN:=hid (fun W=>bR nn W TY.o);have CSe:=hid (fun W (hW:Has W (.slice za zn zc) z2)=>zR ajv 1 kn2 1 z2 (.slice za zn zc) W afq afq rfl (br HZL.o afq) hW);go_wp2_with fail;refine aF.start (S:=fun X=>V.grownBy X none) 11 afv ?_;have eD:Hid (V.grownBy V.drew none):=bD (bh _ _);have HA:=hid (Acc.nil V.drew 1000);have HZ0:=hid (HZ.o.grown eD.o);clear HZ;have HZ:=HZ0;clear HZ0;refine aF.tk 0 [0] ?_;refine aF.tk 2 [2] ?_;refine aF.tk 3 [3] ?_;refine aF.tk 4 [4] ?_ (hy:=by intro W hW;have e1:W.cell? ⟨w.heap.size,3,none⟩=some (.int .i64 a.bS):=(aA HV.o.c hW) 3 _ rfl;exact jS);refine aF.tk 5 [5] ?_;refine aF.tk 6 [6] ?_;refine aF.on 1 ?_;refine bx1 (CN.o _) trivial ?_;clear HA eD HZ;intro V5 a5 c5 HA eD HZ;refine aF.on 7 ?_;intro K hK;refine Calls.mono (CSe.o _ HZ.o) ?_;rintro e V5 ⟨o5,rfl,q5,g5⟩;obtain ⟨a5,c5,rfl⟩:=q5.shape;have ZX:=hid q5;have ui:=hid (HA.o.grown g5);have Pn:=hid (aa eD.o g5);clear HA eD q5 g5 HZ;have HA:=ui;have eD:=Pn;clear ui Pn;go_wp2_with fail;refine hkr ?_;clear hK K;refine aF.on 8 ?_;refine bx0 (kR _ _ _ ZX.o (by rw[Pure.dz];have:=HZL.o;omega)) HZL.o ?_;clear HA eD ZX;intro V5 a6 c6 HA eD;refine aF.on0 9 ?_;intro K hK;refine HA.o.bsl 175 2 _ rfl 37 ib _ underlying175 hib Lb La rfl rfl afq afq ?_;refine hkx (aR eD.o _) ?_;clear hK K;refine aF.on 10 ?_;intro K hK;refine Calls.mono (HA.o.list _ 2 rfl rfl afq afq) ?_;rintro e V6 ⟨o6,rfl,q6,l6,g6⟩;have HF:=hid (And.intro q6 (And.intro l6 (aa eD.o g6)));clear q6 l6 g6;go_wp2_with fail;refine hkx HF.o.2.2 ?_;clear hK K;refine aF.on 11 ?_;intro K hK;refine hkl ?_;clear hK K;refine aF.done afv ?_;go_wp2_with fail;go_meet
     case rel=>exact ⟨_,HF.o.1,br HF.o.2.1 afq,HV.o.grown HF.o.2.2⟩
 case rest=>
  obtain ⟨z,rU,hzl,Sg⟩:=hcut;obtain ⟨za,zc,hzs⟩:=rU.shape;subst hzs;obtain ⟨zn,hzn⟩:=aq z.length;rw[hzn];rw[hzn] at rU;refine Ic (fun V=>LB w V base yb M g a/\Has V (.slice za zn zc) z) ⟨Sg,rU⟩ ?_;clear HW2 HP c8 Sg rU;rintro V ⟨x91,x92⟩;have HZ:=hid x92;clear x92;have HV:=hid x91;clear x91;have HZL:=hid hzl;clear  hzl;as_aux_lemma=>
   go_wp2_with fail;refine aF.start (S:=fun X=>V.grownBy X none) 25 afv ?_;have eD:Hid (V.grownBy V.drew none):=bD (bh _ _);have HA:=hid (Acc.nil V.drew 2000000);have HZ0:=hid (HZ.o.grown eD.o);clear HZ;have HZ:=HZ0;clear HZ0;refine aF.tk 1 [1] ?_;refine aF.tk 2 [2] ?_ (hy:=by intro W hW;have e1:W.cell? ⟨w.heap.size,1,none⟩=some (.string ⟨a.ax.toArray⟩):=(aA HV.o.c hW) 1 _ rfl;exact jS);refine aF.tk 4 [4] ?_;refine aF.tk 5 [5] ?_ (hy:=by intro W hW;have e1:W.cell? ⟨w.heap.size,2,none⟩=some (.string ⟨a.aV.toArray⟩):=(aA HV.o.c hW) 2 _ rfl;exact jS);refine aF.tk 7 [7] ?_;refine aF.tk 8 [8] ?_ (hy:=by intro W hW;have e1:W.cell? ⟨w.heap.size,3,none⟩=some (.int .i64 a.bS):=(aA HV.o.c hW) 3 _ rfl;exact jS);refine aF.tk 10 [10] ?_;refine aF.tk 11 [11] ?_ (hy:=by intro W hW;have e1:W.cell? ⟨w.heap.size,4,none⟩=some (.int .i64 a.kX):=(aA HV.o.c hW) 4 _ rfl;exact jS);refine aF.tk 13 [13] ?_;refine aF.tk 14 [14] ?_ (hy:=by intro W hW;have e1:W.cell? ⟨w.heap.size,5,none⟩=some (.int .i64 a.dJ):=(aA HV.o.c hW) 5 _ rfl;exact jS);refine aF.tk 16 [16] ?_;refine aF.tk 17 [17] ?_ (hy:=by intro W hW;have e1:W.cell? ⟨w.heap.size,6,none⟩=some (.int .i64 a.bV):=(aA HV.o.c hW) 6 _ rfl;exact jS);refine aF.tk 19 [19] ?_;refine aF.tk 20 [20] ?_ (hy:=by intro W hW;have e1:W.cell? ⟨w.heap.size,7,none⟩=some (.int .i64 a.options):=(aA HV.o.c hW) 7 _ rfl;exact jS);refine aF.tk 22 [22] ?_;refine aF.on 0 ?_;refine bx1 (bR 10 _ ⟨by decide,by decide⟩) trivial ?_;clear HA eD HZ;intro V5 a5 c5 HA eD HZ;refine aF.on 3 ?_;refine bx1 (jX a.ax _ (br ha.ax afq)) ha.ax ?_;clear HA eD HZ;intro V5 a5 c5 HA eD HZ;refine aF.on 6 ?_;refine bx1 (jX a.aV _ (br ha.aV afq)) ha.aV ?_;clear HA eD HZ;intro V5 a5 c5 HA eD HZ;refine aF.on 9 ?_;refine bx1 (bR a.bS _ ha.bS) trivial ?_;clear HA eD HZ;intro V5 a5 c5 HA eD HZ;refine aF.on 12 ?_;refine bx1 (bR a.kX _ ha.kX) trivial ?_;clear HA eD HZ;intro V5 a5 c5 HA eD HZ;refine aF.on 15 ?_;refine bx1 (bR a.dJ _ ha.dJ) trivial ?_;clear HA eD HZ;intro V5 a5 c5 HA eD HZ;refine aF.on 18 ?_;refine bx1 (bR a.bV _ ha.bV) trivial ?_;clear HA eD HZ;intro V5 a5 c5 HA eD HZ;refine aF.on 21 ?_;refine bx1 (bR a.options _ ha.options) trivial ?_;clear HA eD HZ;intro V5 a5 c5 HA eD HZ;have ui:=hid (HA.o.push (bh _ none) HZ.o (by have:=HZL.o;omega));clear HA;have HA:=ui;clear ui;refine aF.on0 23 ?_;intro K hK;refine HA.o.bsl 175 9 _ rfl 37 ib _ underlying175 hib Lb La rfl rfl afq afq ?_;refine hkx (aR eD.o _) ?_;clear hK K;refine aF.on 24 ?_;intro K hK;refine Calls.mono (HA.o.VA _ 9 rfl aft afq afq) ?_;rintro e V6 ⟨o6,z9,rfl,q6,z6,l6,g6⟩;have HF:=hid (And.intro q6 (And.intro z6 (And.intro l6 (And.intro (aa eD.o g6) (And.intro (br HV.o.g.size eD.o.size) trivial)))));clear q6 z6 l6 g6;go_wp2_with fail;refine hkx HF.o.2.2.2.1 ?_;clear hK K;refine aF.on 25 ?_;intro K hK;refine hkl ?_;clear hK K;refine aF.done afv ?_;go_wp2;go_ret;exact ⟨_,z9,rfl,fT HF.o.1 HF.o.2.2.2.2.1,HF.o.2.1,br HF.o.2.2.1 afq,aa HV.o.g HF.o.2.2.2.1⟩
theorem NY (v:UInt64) (w:World) :
  Calls prog 96 #[.int .u64 (v.toNat:Int)] w fun e w'=>∃ o,e = .returned o/\w'.ownsRow w.heap.size 5 1 o 8 ((Pure.be v 8).map U8)/\w.grownBy w' none:=by
 obtain ⟨i0,hi,hz0,hz1,hz2⟩:=info_parts Tryz.info5
 go_enter func96,ntmps96
 exact aac
theorem VO (v:UInt64) (w:World):Calls prog 96 #[.int .u64 (v.toNat:Int)] w fun e w'=>∃ o,e = .returned o/\Has w' o (Pure.be v 8)/\w.grownBy w' none:=by
 refine (NY v w).mono ?_;exact aeW
variable {M:DM} {now:Int} {n:Nat}
structure fD (M:DM) (n:Nat):Prop where
 bg:gU n M.bg
 Gd:∀ e∈M.bg,In64 e.bI/\In64 e.aD
 aC:In64 M.aC
 aO:M.aO.length<=140737488355328
 times:∀ y∈M.aN,In64 y.time
theorem fD.mono {m:Nat} (h:fD M n) (hm:n<=m):fD M m:=⟨h.bg.mono hm,h.Gd,h.aC,h.aO,h.times⟩
theorem fD.new {aC:Int} {zs:List UInt8} (h0:0<=aC) (h1:aC<=300) (hz:zs.length<=140737488355328) (n:Nat):fD ⟨aC,[],[],zs⟩ n:=
 ⟨gU.nil n,fun e he=>(by cases he),⟨by show _<=aC;omega,by show aC<=_;omega⟩,hz,fun y hy=>by cases hy⟩
theorem fD.bin (h:fD M n) (hn:n<=4611686018427387904):∀ e∈M.bg,e.In:=fun e he=>
 ⟨⟨(h.bg.num e he).1,by have:=(h.bg.num e he).2;omega⟩,(h.Gd e he).1,(h.Gd e he).2,by have:=wB (h.bg.name e he);omega⟩
theorem WG (M:DM) (now:Int) (R:Except Int GR):∃ ds,(dC M now R).2={M with aO:=ds}/\ds.length<=M.aO.length:=by
 unfold dC;cases R with
 | error c=>exact ⟨M.aO,rfl,bd _⟩
 | ok g=>
  dsimp only;split
  ·exact ⟨M.aO,rfl,bd _⟩
  ·exact ⟨M.aO.drop 24,rfl,by rw[cy];omega⟩
theorem Oq {aC:Int} {l:List PF} {p:PF} (h:∀ y∈l,In64 y.time) (hp:In64 p.time):∀ y∈bM aC now l p,In64 y.time:=by
 intro y hy;have hn:∀ y∈ig aC now l,In64 y.time:=fun y hy=>h y (List.mem_filter.1 hy).1;unfold bM at hy;split at hy
 ·rcases eg.1 hy with hy | hy
  ·exact hn y hy
  ·rw[da.1 hy];exact hp
 ·exact hn y hy
theorem RX {q:NQ} {t:TK} {p:PF} (h:gL M now q = .ok (t,p)):In64 p.time:=by
 unfold gL at h;split at h
 ·cases h
 ·split at h
  ·cases h
  ·split at h
   ·cases h
   ·split at h
    ·cases h
    ·split at h
     ·cases h
     ·rename_i p' hp;split at h
      ·cases h
      ·split at h
       ·cases h
       ·injection h with h;injection h with h1 h2;subst h1 h2;rw[xB] at hp;split at hp
        ·injection hp with hp;rw[<-hp];exact Vh _
        ·cases hp
theorem fD.draw (h:fD M n) {ds:List UInt8} (hd:ds.length<=M.aO.length):fD {M with aO:=ds} n:=⟨h.bg,h.Gd,h.aC,br hd h.aO,h.times⟩
theorem fD.proof (h:fD M n) {ps:List PF} (hd:∀ y∈ps,In64 y.time):fD {M with aN:=ps} n:=⟨h.bg,h.Gd,h.aC,h.aO,hd⟩
theorem fD.fin (h:fD M n) (now:Int) (R:Except Int GR):fD (dC M now R).2 n:=by
 obtain ⟨ds,h1,h2⟩:=WG M now R;rw[h1];exact h.draw h2
theorem fD.answer (h:fD M n) (now:Int) (bA:List UInt8):fD (fw M now bA).2 n:=by
 unfold fw;split
 ·exact h.fin now _
 ·split
  ·rename_i q _;unfold uX;split
   ·exact h
   ·rename_i t p hp;have h2:fD {M with aN:=bM M.aC now M.aN p} n:=h.proof (Oq h.times (RX hp));dsimp only;split
    ·exact h2
    ·exact h2.fin now _
  ·exact h
theorem fD.adm (h:fD M n) (hn:1<=n) (a:jV) (hl:In64 a.bI) (hr:In64 a.aD):fD {M with bg:=(gy M.bg a).1} (n+1):=by
 refine ⟨h.bg.gy hn a,?_,h.aC,h.aO,h.times⟩;have hset:∀ (i:Nat) (y:BE),(In64 y.bI/\In64 y.aD)->∀ e∈M.bg.set i y,In64 e.bI/\In64 e.aD:=by
  intro i y hy e he;rcases eJ he with he | rfl
  ·exact h.Gd e he
  ·exact hy
 show ∀ e∈(gy M.bg a).1,_;unfold gy;split
 ·split
  ·exact h.Gd
  ·split
   ·exact h.Gd
   ·split
    ·exact h.Gd
    ·split
     ·exact h.Gd
     ·intro e he;rcases eg.1 he with he | he
      ·rcases eg.1 he with he | he
       ·exact h.Gd e (List.mem_of_mem_take he)
       ·rw[da.1 he];exact ⟨hl,hr⟩
      ·exact h.Gd e (List.mem_of_mem_drop he)
 ·split
  ·split
   ·exact h.Gd
   ·split
    ·intro e he;rcases eg.1 he with he | he
     ·exact h.Gd e (List.mem_of_mem_take he)
     ·exact h.Gd e (List.mem_of_mem_drop he)
    ·split
     ·exact h.Gd
     ·rename_i x hx;split
      ·exact hset _ _ (h.Gd x (fk hx))
      ·split
       ·exact h.Gd
       ·exact hset _ _ ⟨hl,hr⟩
  ·exact h.Gd
theorem zV {l:List (List UInt8)} (h:l.flatten.length<=n):(jm l).length<=n+4:=br (nR 48 _) (Nat.add_le_add_right h 4)
theorem kM (v:Int):(bQ v).length<=10:=(fe v).2
theorem WH (k:UInt64):(mo k).length<=12:=br (nR 4 _) (by rw[Pure.bX];exact bd _)
theorem ab6 {p:Prop} (h:p:=by
 simp only[dk,List.flatten_nil,bj,List.length_nil]
 omega):p:=h
theorem qx (now c:Int):(bu now c).length<=900:=by
 unfold bu;have h1:=kM 30;have h2:=kM now;have h3:=kM c;refine br (zV (n:=30) ?_) afq;exact ab6
theorem Zk (kind:Int) (t:TK) (s:BE) (bS aH:Int) (key use a b:UInt64) (hc:t.ax.length<=90) (hs:s.name.length<=90):(kQ kind t s bS aH key use a b).length<=900:=by
 have hp:t.plain.length<=160:=by
  unfold TK.plain;have:=kM t.ay;have:=kM t.dY;have:=kM t.start;have:=kM t.fin;have:=kM t.aD;have:=WH t.aM;have:(dw t.ax).length<=94:=br (nR 4 _) afp;refine br (zV (n:=156) ?_) afq;exact ab6
 have hq:(nC t bS s).length<=170:=by
  unfold nC;have:=kM bS;have:=kM t.ay;have:=kM t.dY;have:=kM t.start;have:=kM t.fin;have:=kM t.aD;have:=WH t.aM;have:(dw s.name).length<=94:=br (nR 4 _) afp;refine br (zV (n:=166) ?_) afq;exact ab6
 have ht:(vT t s a).length<=288:=by
  unfold vT;have:=kM s.aH;have:(dw s.name).length<=94:=br (nR 4 _) afp;have:(dw (Pure.fq s.key 2 a t.plain)).length<=180:=br (nR 4 _) afE;refine br (zV (n:=284) ?_) afq;exact ab6
 have hi:(jm [bQ aH,dw (Pure.fq key use b (nC t bS s))]).length<=204:=by
  have:=kM aH;have:(dw (Pure.fq key use b (nC t bS s))).length<=190:=br (nR 4 _) afE;refine br (zV (n:=200) ?_) afq;exact ab6
 unfold kQ;have:=kM kind;have:(dw t.ax).length<=94:=br (nR 4 _) afp;refine br (zV (n:=596) ?_) afq;exact ab6
theorem aex {p:Prop} (h:p:=by
 split at h
 ·cases h
 ·injection h with h;rw[<-h]):p:=h
theorem IB {old t:TK} {x s:BE} {dJ bV aL:Int} (h:fresh now old x s dJ bV aL = .ok t):t.ax=old.ax:=by
 unfold fresh at h;split at h
 ·exact aex
 ·split at h
  ·exact aex
  ·exact aex
theorem WI {R:Except Int GR} (h:∀ g,R = .ok g->g.t.ax.length<=90/\g.s.name.length<=90):(dC M now R).1.length<=900:=by
 unfold dC;cases R with
 | error c=>exact qx now c
 | ok g=>
  dsimp only;split
  ·exact qx now 60
  ·exact Zk _ _ _ _ _ _ _ _ _ (h g rfl).1 (h g rfl).2
theorem Br (h:fD M n) {l:List UInt8} {e:BE} (hf:BE.find M.bg l=some e):l.length<=90/\e.name.length<=90:=by
 have h1:=wB (h.bg.name e (lF hf));exact ⟨by rw[<-kT hf];exact h1,h1⟩
theorem RY (h:fD M n) (now:Int) (bA:List UInt8):(fw M now bA).1.length<=900:=by
 unfold fw;split
 ·rename_i q _;refine WI (fun g hg=>?_);unfold firstM at hg;split at hg
  ·cases hg
  ·cases hg
  ·rename_i x s hx hs;split at hg
   ·cases hg
   ·split at hg
    ·cases hg
    ·injection hg with hg;rw[<-hg];exact ⟨(Br h hx).1,(Br h hs).2⟩
 ·split
  ·rename_i q _;unfold uX;split
   ·exact qx now _
   ·rename_i t p hp;dsimp only;split
    ·exact qx now _
    ·refine WI (fun g hg=>?_);unfold dZ at hg;split at hg
     ·cases hg
     ·split at hg
      ·cases hg
      ·split at hg
       ·cases hg
       ·cases hg
       ·rename_i s x hs hx;split at hg
        ·cases hg
        ·split at hg
         ·cases hg
         ·split at hg
          ·cases hg
          ·rename_i u hu;injection hg with hg;rw[<-hg];exact ⟨by show u.ax.length<=90;rw[IB hu];exact (Br h hx).1,(Br h hs).2⟩
  ·exact qx now 60
theorem Rx (p0 p1 p2 p3 p4 p5 p6 p7:Pc) (v4 v5 v6 v7:Int) (h0:bF p0.pair=some 12) (h4:ik p4 v4) (h5:ik p5 v5) (h6:ik p6 v6) (h7:ik p7 v7) :
  (kI ([p0,p1,p2,p3,p4,p5,p6,p7].map Pc.pair)).isSome=((gD p1.pair).isSome && ((di p3.pair).isSome && (jv [p4,p5,p6,p7] && decide (p2.tag.toNat=4))))/\∀ q,kI ([p0,p1,p2,p3,p4,p5,p6,p7].map Pc.pair)=some q->∃ c,gD p1.pair=some c/\q=⟨c.1,c.2.1,c.2.2,p2.ins,p3.ins,v4,v5,v6,v7⟩:=by
 have e:kI ([p0,p1,p2,p3,p4,p5,p6,p7].map Pc.pair)=(gD p1.pair).bind fun c=>(iX p2.pair).bind fun p=>(di p3.pair).bind fun s=>(bF p4.pair).bind fun n=>(bF p5.pair).bind fun t=>(bF p6.pair).bind fun r=>(bF p7.pair).bind fun o=>some ⟨c.1,c.2.1,c.2.2,p,s,n,t,r,o⟩:=by
  show (bF p0.pair).bind _=_;rw[h0];rfl
 have n3:∀ y,di p3.pair=some y->y=p3.ins:=fun y hy=>vF hy
 have et:iX p2.pair=if p2.tag.toNat=4 then some p2.ins else none:=rfl
 rw[e,et]
 unfold ik at *
 simp only[jv,List.all_cons,List.all_nil,fR]
 cases c1:gD p1.pair with
 | none=>exact ⟨rfl,fun t ht=>by cases ht⟩
 | some a1=>
  by_cases h2:p2.tag.toNat=4
  ·rw[if_pos h2];cases c3:di p3.pair with
   | none=>exact ⟨by simp,fun t ht=>by cases ht⟩
   | some a3=>
    have z3:=n3 a3 c3;cases c4:bF p4.pair with
    | none=>exact ⟨by simp,fun t ht=>by cases ht⟩
    | some a4=>
     have z4:=h4.2 a4 c4;cases c5:bF p5.pair with
     | none=>exact ⟨by simp,fun t ht=>by cases ht⟩
     | some a5=>
      have z5:=h5.2 a5 c5;cases c6:bF p6.pair with
      | none=>exact ⟨by simp,fun t ht=>by cases ht⟩
      | some a6=>
       have z6:=h6.2 a6 c6;cases c7:bF p7.pair with
       | none=>exact ⟨by simp,fun t ht=>by cases ht⟩
       | some a7=>
        have z7:=h7.2 a7 c7;refine ⟨by simp[h2],fun t ht=>⟨a1,rfl,?_⟩⟩;injection ht with ht;subst z3 z4 z5 z6 z7;exact ht.symm
  ·rw[if_neg h2];exact ⟨by simp[h2],fun t ht=>by cases ht⟩
theorem Aq {p:mW} {x:List UInt8×Int×List UInt8} (h:gD p=some x):x.2.2.length<=p.2.length:=by
 unfold gD at h;cases hp:yA p with
 | none=>rw[hp] at h;cases h
 | some ps=>
  rw[hp] at h;have hc:Box.dH p.2=some ps:=by
   unfold yA at hp;split at hp
   ·exact hp
   ·cases hp
  have h':pG ps=some x:=h;match ps,hc,h' with
  | [],_,h'=>cases h'
  | [a],_,h'=>
   have e:pG [a]=(di a).bind fun _=>none:=rfl;rw[e] at h';cases hn:di a with
   | none=>rw[hn] at h';cases h'
   | some y=>rw[hn] at h';cases h'
  | [a,b],_,h'=>
   have e:pG [a,b]=(di a).bind fun _=>(bF b).bind fun _=>none:=rfl;rw[e] at h';cases hn:di a with
   | none=>rw[hn] at h';cases h'
   | some y=>
    rw[hn] at h';cases hb:bF b with
    | none=>rw[hb] at h';cases h'
    | some z=>rw[hb] at h';cases h'
  | a::b::c::r,hc,h'=>
   have e:pG (a::b::c::r)=(di a).bind fun s=>(bF b).bind fun n=>(iX c).bind fun z=>if r=[] then some (s,n,z) else none:=rfl;rw[e] at h';cases hn:di a with
   | none=>rw[hn] at h';cases h'
   | some y=>
    rw[hn] at h';cases hb:bF b with
    | none=>rw[hb] at h';cases h'
    | some n=>
     rw[hb] at h';cases ht:iX c with
     | none=>rw[ht] at h';cases h'
     | some z=>
      rw[ht] at h';have h'':(if r=[] then some (y,n,z) else none)=some x:=h';split at h''
      ·injection h'' with h'';subst h'';have hz:z=c.2:=by
        unfold iX at ht;split at ht
        ·injection ht with ht;exact ht.symm
        ·cases ht
       rw[hz];exact Box.kS hc c aft
      ·cases h''
theorem Gc {P:Program} {W:World} {b n:Nat} (h:Live W b n) (k:Nat) (hk:k<n) (v:Value) (h1:v.oneCell'=true):(store ⟨b,k,none⟩ v).run P W = .ok () (W.setCell ⟨b,k,none⟩ v):=by
 obtain ⟨u,hu⟩:=bw.1 (h.some k hk);rw[run_store P W _ v _ h1,hu];simp[h.frozen k]
def mR (M:DM) (now:Int) (ps:List mW):Except Int GR×DM:=
 match kI ps with
 | none=>(.error 60,M)
 | some q=>
  match (iq M now q).1 with
  | .error c=>(.error c,(iq M now q).2)
  | .ok t=>(dZ (iq M now q).2 now q t,(iq M now q).2)
def Bp (base yb:Nat) (g:RG) (A:Except Int GR×DM) (w w':World) (o:Value) (c:Int):Prop:=
 c=codeOf A.2 A.1/\(∃ v,(v=g.pv\/NewAt w.heap.size v)/\(c≠0->o = .slice none 0 0/\RD w' base yb A.2 {g with pv:=v})/\(c=0->∃ gr u,A.1 = .ok gr/\Made w.heap.size w' o (gr.box A.2.aO)/\RD w' base yb {A.2 with aO:=A.2.aO.drop 24} {g with pv:=v,dv:=u}/\NewAt w.heap.size u))/\w.grownBy w' (some yb)
theorem uo {base yb:Nat} {g:RG} {M':DM} {v:Value} {c:Int} {w w':World} (hc:c≠0) (hD:RD w' base yb M' {g with pv:=v}) (hv:v=g.pv\/NewAt w.heap.size v) (k:w.grownBy w' (some yb)):Bp base yb g (.error c,M') w w' (.slice none 0 0) c:=
 ⟨rfl,⟨v,hv,fun _=>⟨rfl,hD⟩,fun h=>absurd h hc⟩,k⟩
theorem Y9 {base yb:Nat} {g:RG} {M':DM} {gr:GR} {v:Value} {w w':World} (hc:M'.aO.length<24) (hD:RD w' base yb M' {g with pv:=v}) (hv:v=g.pv\/NewAt w.heap.size v) (k:w.grownBy w' (some yb)):Bp base yb g (.ok gr,M') w w' (.slice none 0 0) 60:=
 ⟨(if_pos hc).symm,⟨v,hv,fun _=>⟨rfl,hD⟩,fun h=>absurd h afq⟩,k⟩
theorem Od (M:DM) (now:Int) (q:NQ):∃ ps,(iq M now q).2={M with aN:=ps}:=by
 unfold iq;cases gL M now q with
 | error c=>exact ⟨M.aN,rfl⟩
 | ok a=>
  obtain ⟨t,p⟩:=a;dsimp only;split
  ·exact ⟨_,rfl⟩
  ·exact ⟨_,rfl⟩
section
variable {q:NQ} {old t:TK} {x s:BE}
theorem Wn (h:aG old.ay 16=true/\aG q.aL 32=false\/aX now M.aC<old.start):dZ M now q old = .error 33:=by unfold dZ;rw[if_pos h]
theorem Za (h:¬ (aG old.ay 16=true/\aG q.aL 32=false\/aX now M.aC<old.start)) (h2:old.fin<now):dZ M now q old = .error 32:=by unfold dZ;rw[if_neg h,if_pos h2]
theorem Zb (h:¬ (aG old.ay 16=true/\aG q.aL 32=false\/aX now M.aC<old.start)) (h2:¬ old.fin<now):dZ M now q old=match BE.find M.bg q.aV,BE.find M.bg old.ax with
 | none,_=>.error 7
 | some _,none=>.error 6
 | some s,some x=>
  if mM s x now 2 1≠0 then .error (mM s x now 2 1)
  else if jI q.aL old.ay=false then .error 13
  else match fresh now old x s q.dJ q.bV q.aL with
  | .error c=>.error c
  | .ok t=>.ok ⟨13,t,s,q.bS,0,old.aM,5⟩:=by
 unfold dZ
 rw[if_neg h,if_neg h2]
 rfl
theorem aeH {p:Prop} (h:p:=by
 split at e
 ·injection e with e;omega
 ·cases e):p:=h
theorem Lg {dJ bV aL c:Int} (h:c=0):¬ fresh now old x s dJ bV aL = .error c:=by
 intro e;unfold fresh at e;split at e
 ·exact aeH
 ·split at e
  ·exact aeH
  ·exact aeH
theorem Wo {dJ bV aL:Int} (ho:old.In) (dm:In64 now) (hq:In64 dJ) (hr:In64 bV) (h:fresh now old x s dJ bV aL = .ok t):t.In/\t.ax=old.ax:=by
 unfold fresh at h;split at h
 ·split at h
  ·cases h
  ·exact acW
 ·split at h
  ·split at h
   ·cases h
   ·exact ab7
  ·split at h
   ·cases h
   ·injection h with h;subst h;refine ⟨⟨?_,ho.dY,dm,?_,?_⟩,rfl⟩
    ·show In64 (iC aL old x s);unfold iC gI In64;(repeat' split) <;> omega
    ·show In64 (gX now dJ old x s);have i1:=ho.fin;have i2:In64 (lesser (asked dJ) (lesser (aX now x.bI) (aX now s.bI))):=kJ hq;unfold gX lesser In64 at *;(repeat' split at *) <;> omega
    ·show In64 (fu aL old.ay x s now (lesser (asked bV) old.aD));have i1:=ho.aD;have i2:In64 (lesser (asked bV) (lesser (aX now x.aD) (aX now s.aD))):=kJ hr;unfold fu;split
     ·unfold lesser In64 at *;(repeat' split at *) <;> omega
     ·exact fM
end
structure N2 (w W:World) (base yb:Nat) (M:DM) (g:RG) (gv:Nat) (v0 v1 v2 v3:Int) (bo:Nat) (t:TK):Prop where
 d:RD W base yb M g
 v:W.rangeAt gv 0 [.int .i64 v0,.int .i64 v1,.int .i64 v2,.int .i64 v3]
 o:W.rangeAt bo 0 t.cells
 g:w.grownBy W (some yb)
structure N3 (w W:World) (base yb:Nat) (M:DM) (g:RG) (gv:Nat) (v0 v1 v2 v3:Int) (bo:Nat) (t:TK) (x s:RE) (bx bs:Nat):Prop where
 n:N2 w W base yb M g gv v0 v1 v2 v3 bo t
 x:W.rangeAt bx 0 x.cells
 s:W.rangeAt bs 0 s.cells
section
variable {W W':World} {base yb:Nat} {g:RG} {gv:Nat} {v0 v1 v2 v3:Int} {bo bx bs:Nat} {t:TK} {x s:RE}
theorem N2.grown (h:N2 w W base yb M g gv v0 v1 v2 v3 bo t) (k:W.grownBy W' none):N2 w W' base yb M g gv v0 v1 v2 v3 bo t:=
 ⟨h.d.keep (fun b hb=>k.block b (h.d.lt b hb).2 aft),aA h.v k,aA h.o k,gQ h.g (lh k yb)⟩
theorem N3.grown (h:N3 w W base yb M g gv v0 v1 v2 v3 bo t x s bx bs) (k:W.grownBy W' none):N3 w W' base yb M g gv v0 v1 v2 v3 bo t x s bx bs:=⟨h.n.grown k,aA h.x k,aA h.s k⟩
end
structure N1 (w W:World) (base yb:Nat) (M:DM) (g:RG) (gv:Nat) (v0 v1 v2 v3:Int) (gl:Nat) (l:List Pc) (bc:Nat) (c:List Value):Prop where
 d:RD W base yb M g
 v:W.rangeAt gv 0 [.int .i64 v0,.int .i64 v1,.int .i64 v2,.int .i64 v3]
 p:jr W gl l
 c:W.rangeAt bc 0 c
 g:w.grownBy W none
theorem N1.grown {w W W':World} {base yb:Nat} {M:DM} {g:RG} {gv:Nat} {v0 v1 v2 v3:Int} {gl bc:Nat} {l:List Pc} {c:List Value} (h:N1 w W base yb M g gv v0 v1 v2 v3 gl l bc c) (k:W.grownBy W' none):N1 w W' base yb M g gv v0 v1 v2 v3 gl l bc c:=
 ⟨h.d.keep (fun b hb=>k.block b (h.d.lt b hb).2 aft),aA h.v k,h.p.grown k,aA h.c k,aa h.g k⟩
theorem EH {base yb:Nat} {g:RG} {A:Except Int TK×DM} {w w' w2:World} {t:TK} {c:Int} (h:mP base yb g A w w' t c) (k:w'.grownBy w2 none):mP base yb g A w w2 t c:=by
 obtain ⟨h1,h2,h3,⟨v,h4,h6⟩,h5⟩:=h;exact ⟨h1,h2,h3,⟨v,h4.keep (fun b hb=>k.block b (h4.lt b hb).2 aft),h6⟩,gQ h5 (lh k yb)⟩
theorem Ir {base yb:Nat} {g:RG} {A:Except Int TK×DM} {w V w':World} {t:TK} {c:Int} (h:mP base yb g A V w' t c) (k:w.grownBy V none):mP base yb g A w w' t c:=by
 obtain ⟨h1,h2,h3,⟨v,h4,h6⟩,h5⟩:=h;exact ⟨h1,h2,h3,⟨v,h4,h6.imp id (fun h b hb=>br k.size (h b hb))⟩,gQ (lh k yb) h5⟩
theorem Iu {base yb:Nat} {g:RG} {A:Except Int TK×DM} {w V w':World} {t:TK} {c:Int} {bo:Nat} (h:mP base yb g A V w' t c) (k:w.grownBy V none) (hD:∀ b,g.foot yb b->b<bo) (hw:w.heap.size<=bo) (hV:bo<V.heap.size) (u0 u1 u2 u3 u4 u5 u6:Value) :
  mP base yb g A w (((((((w'.setCell ⟨bo,0,none⟩ u0).setCell ⟨bo,1,none⟩ u1).setCell ⟨bo,2,none⟩ u2).setCell ⟨bo,3,none⟩ u3).setCell ⟨bo,4,none⟩ u4).setCell ⟨bo,5,none⟩ u5).setCell ⟨bo,6,none⟩ u6) t c:=by
 obtain ⟨h1,h2,h3,⟨v,h4,h6⟩,h5⟩:=h
 have hn:∀ b,({g with pv:=v}:RG).foot yb b->b≠bo:=by
  intro b hb;rcases hb with e | e | e | e
  ·exact Nat.ne_of_lt (hD b (.inl e))
  ·exact Nat.ne_of_lt (hD b (.inr (.inl e)))
  ·rcases h6 with h6 | h6
   ·exact Nat.ne_of_lt (hD b (.inr (.inr (.inl (by rw[<-h6];exact e)))))
   ·have:=h6 b e;omega
  ·exact Nat.ne_of_lt (hD b (.inr (.inr (.inr e))))
 have h7:=gQ (lh k yb) h5
 exact ⟨h1,h2,h3,⟨v,((((((h4.mQ hn).mQ hn).mQ hn).mQ hn).mQ hn).mQ hn).mQ hn,h6.imp id (fun h b hb=>br k.size (h b hb))⟩,gT (gT (gT (gT (gT (gT (gT h7 hw) hw) hw) hw) hw) hw) hw⟩
theorem Oe {W:World} {b bo:Nat} {cs:List Value} (h:W.rangeAt b 0 cs) (hn:bo≠b) (u0 u1 u2 u3 u4 u5 u6:Value):(((((((W.setCell ⟨bo,0,none⟩ u0).setCell ⟨bo,1,none⟩ u1).setCell ⟨bo,2,none⟩ u2).setCell ⟨bo,3,none⟩ u3).setCell ⟨bo,4,none⟩ u4).setCell ⟨bo,5,none⟩ u5).setCell ⟨bo,6,none⟩ u6).rangeAt b 0 cs:=
 eT (eT (eT (eT (eT (eT (eT h hn _) hn _) hn _) hn _) hn _) hn _) hn _
theorem Lh {W:World} {b:Nat} {v:Value} {cs:List Value} (h:W.rangeAt b 0 (v::cs)):b<W.heap.size:=by
 have h1:=h 0 v rfl;rcases Nat.lt_or_ge b W.heap.size with h2 | h2
 ·exact h2
 ·have h3:W.cell? ⟨b,0+0,none⟩=none:=by
   simp[World.cell?,Array.getElem?_eq_none h2]
  rw[h3] at h1;cases h1
end Go.Proofs.YteknelimjfgmaaaGreatDoor
