import Derived.Test.YteknelimjfgmaaaGreatDoorGJPAdmB
namespace Go.Proofs.YteknelimjfgmaaaGreatDoor
set_option maxHeartbeats 20000000
open Proofs.Tryz Go.RowKit
set_option maxRecDepth 100000
theorem af0 {p:Prop} (h:p:=by rw[Vs.o.1];exact wS.o.2):p:=h
theorem af2 {p:Prop} (h:p:=by rw[Vs.o.1];exact wS.o.1):p:=h
variable {w:World}
theorem Ra (M:DM) (now:Int) (q:NQ):(iq M now q).2.bg=M.bg/\(iq M now q).2.aC=M.aC/\(iq M now q).2.aO=M.aO:=by
 unfold iq;cases gL M now q with
 | error c=>exact ⟨rfl,rfl,rfl⟩
 | ok a=>
  obtain ⟨t,p⟩:=a;simp only[];split <;> exact ⟨rfl,rfl,rfl⟩
theorem YK {M:DM} {now:Int} {q:NQ} {t:TK} (h:(iq M now q).1 = .ok t):t.In:=by
 unfold iq gL at h;split at h
 ·cases h
 ·rename_i t' p hc;have ht:t'=t:=by
   by_cases h0:bL M.aC now M.aN p≠0
   ·rw[if_pos h0] at h;cases h
   ·rw[if_neg h0] at h;injection h
  subst ht;split at hc
  ·cases hc
  ·split at hc
   ·cases hc
   ·split at hc
    ·cases hc
    ·rename_i key _;split at hc
     ·cases hc
     ·rename_i t2 h2;have e2:t2.In:=by
       rw[rA] at h2;split at h2
       ·injection h2 with h2;rw[<-h2];exact Vg _
       ·cases h2
      split at hc
      ·cases hc
      ·split at hc
       ·cases hc
       ·split at hc
        ·cases hc
        ·injection hc with hc;injection hc with hc _;rw[<-hc];exact e2
theorem aeG {p:Prop} (h:p:=by
 split at h
 ·injection h with h;omega
 ·cases h):p:=h
theorem KF {now c:Int} {q:NQ} {old:TK} {x s:BE} (h:nM now q old x s = .error c):c=33\/c=32\/c=11:=by
 unfold nM xC xD Nj at h;by_cases h32:AP q.aL=32
 ·rw[if_pos h32] at h;exact aeG
 ·rw[if_neg h32] at h;by_cases h16:AP q.aL=16
  ·rw[if_pos h16] at h;exact aeG
  ·rw[if_neg h16] at h;exact aeG
theorem Rb {W W1 W2:World} {hb g base T rb:Nat} {fv rv v':Value} {po pr dp:Option Pl} {J:World->Prop} {dS rP:Nat->Nat->Prop} {M':DM} {es:List BE} {bs:List UInt8} {qd IM:Pl} (hbig:w.heap.size<=W.heap.size) (hcf:CF w W (exA g po dS)) (k:CF W W1 (fun b y=>b=g/\y=1\/b=rb)) (hrb:w.heap.size<=rb) (hbase:base<=w.heap.size) (hj:J W) (h:aU W1 W2 v' pr bs) (S:HS hb g base T fv rv po pr dp J dS rP es) (hd:dO W1 g 0 (some IM) M') (hdp:dp=some qd) (hg:IM.g=qd.g):Fin w W2 g po pr dp dS v' (bs,M')/\J W2:=by
 obtain ⟨p',h1,h2,h3,_⟩:=h;refine ⟨?_,S.finds.stay _ _ (S.finds.stay _ _ hj (k.mono (fun b y _ e=>by rcases e with e | e;rw[e.1,e.2];exact S.ZN;rw[e];exact S.zL _ _ afp))) (h2.mono (fun b y _ e=>S.prJ b y e))⟩;refine ⟨⟨p',h1,h3.imp id (fun q=>lK q (br hbig k.size))⟩,⟨some IM,hd.cf h2 (fun j _ hj e=>S.prG j afp e) (fun q hq j _ e=>?_),fun q' hq'=>⟨qd,hdp,?_⟩⟩,?_⟩
 ·exact afj
 ·injection hq' with hq';subst hq';exact hg.symm
 ·exact ((hcf.mono (fun _ _ _ e=>by rcases e with e | e;exact .inr (.inl e);exact .inl ⟨e.1,.inr e.2⟩)).trans k (fun i o hi e=>by rcases e with e | e;exact .inl ⟨e.1,.inl e.2⟩;omega)).trans h2 (fun _ _ _ e=>.inr (.inr e))
theorem vE.grown {w':World} {po:Option Pl} {dS:Nat->Nat->Prop} {z:List UInt8} {v:Value} (h:vE w po dS z v) (k:w.grownBy w' none):vE w' po dS z v:=by
 obtain ⟨ao,cap,h1,h2,h3,h4⟩:=h;exact ⟨ao,cap,h1,h2,h3.below k,fun b off e j hj=>⟨(h4 b off e j hj).1,(h4 b off e j hj).2.1,fW (h4 b off e j hj).2.2 k.size⟩⟩
theorem oK {b:Nat} (h:Live w b 7):(∃ d,w.cell? ⟨b,0,none⟩=some d)/\(∃ d,w.cell? ⟨b,1,none⟩=some d)/\(∃ d,w.cell? ⟨b,2,none⟩=some d)/\(∃ d,w.cell? ⟨b,3,none⟩=some d)/\(∃ d,w.cell? ⟨b,4,none⟩=some d)/\(∃ d,w.cell? ⟨b,5,none⟩=some d)/\(∃ d,w.cell? ⟨b,6,none⟩=some d)/\w.frozen? ⟨b,0,none⟩=false/\w.frozen? ⟨b,1,none⟩=false/\w.frozen? ⟨b,2,none⟩=false/\w.frozen? ⟨b,3,none⟩=false/\w.frozen? ⟨b,4,none⟩=false/\w.frozen? ⟨b,5,none⟩=false/\w.frozen? ⟨b,6,none⟩=false:=by
 have hc:∀ j,j<7->∃ v,w.cell? ⟨b,j,none⟩=some v:=fun j hj=>bw.1 (h.some j hj);exact ⟨hc 0 afq,hc 1 afq,hc 2 afq,hc 3 afq,hc 4 afq,hc 5 afq,hc 6 afq,h.frozen 0,h.frozen 1,h.frozen 2,h.frozen 3,h.frozen 4,h.frozen 5,h.frozen 6⟩
theorem adj {p:Prop} (h:p:=by
 simp only[rC] at this
 injection this with this
 have h2:=eh (fun a:Array Value=>a[1]?) this
 simpa using h2.symm):p:=h
theorem Dp (hb g base T:Nat) (fv rv ro rr:Value) (po pr dp:Option Pl) (J:World->Prop) (dS rP:Nat->Nat->Prop) (M:DM) (now:Int) (q:NQ) (v u:Value) (w:World) (S:HS hb g base T fv rv po pr dp J dS rP M.bg) (h:xE w hb g T fv ro rr now) (hd:dO w g 0 dp M) (hJ:J w) (ho:Out w ro po []) (hr:Out w rr pr []) (hv:vE w po dS q.dQ v) (hu:vE w po dS q.proof u) (dm:In64 now) (hsk:In64 M.aC) (zo:∀ y∈M.aN,In64 y.time) (hq1:In64 q.bS) (hq2:In64 q.dJ) (hq3:In64 q.bV) (hq4:In64 q.aL) (hbase:base<=w.heap.size) :
  Calls prog 142 #[.pointer (some ⟨hb,0,none⟩),.agg (q.cells v u).toArray] w fun e w'=>∃ v',e = .returned v'/\Fin w w' g po pr dp dS v' (uX M now q)/\J w':=by
 have hbb:=S.hbb
 have hgb:=S.gb
 obtain ⟨W0,hW0⟩:=ar (((w.alloc (.cells (q.cells v u).toArray 276)).alloc (.cells jb 333)).alloc (.cells jb 333))
 have G0:w.grownBy W0 none:=by rw[hW0];exact aR (aR (aE w _ none) _) _
 have RQ:W0.rangeAt w.heap.size 0 (q.cells v u):=by rw[hW0];exact jR (aW w (q.cells v u).toArray _) (aR (aE _ _ none) _)
 have L1:Live W0 (w.heap.size+1) 7:=by
  have h:=(Live.new (w.alloc (.cells (q.cells v u).toArray 276)) jb 333).grown (aE _ (.cells jb 333) none);rw[ch] at h;rw[hW0];exact h
 have L2:Live W0 (w.heap.size+2) 7:=by
  have h:=Live.new ((w.alloc (.cells (q.cells v u).toArray 276)).alloc (.cells jb 333)) jb 333;rw[ch,ch] at h;rw[hW0];exact h
 have hpo:∀ b y,Pl.has po b y->b<w.heap.size:=fun b y e=>ho.lt e
 have UZ:∀ p,pr=some p->p.g<w.heap.size:=fun p hp=>hr.Sa p hp
 obtain ⟨AR,YD⟩:=aq (iq M now q)
 have Zy:=Q3 hb g base T fv rv ro rr po pr dp J dS rP M now q v u W0 S (h.grown G0) (hd.grown G0) (S.finds.stay _ _ hJ (CF.bN G0 _)) (ho.grown G0) (hr.grown G0) (hv.grown G0) (hu.grown G0) dm zo (br hbase G0.size)
 rw[YD] at Zy
 obtain ⟨m0,m1,m2,m3,m4,m5,m6,m7,hm⟩:=oJ AR.1
 rw[hm] at Zy
 have hNX:∀ W,dO W g 0 dp AR.2->CF W0 W (fun b y=>exA g po dS b y\/b=w.heap.size+1)->J W->∀ old,W.rangeAt (w.heap.size+1) 0 old->IQ J w W hb g T fv ro rr po pr dp dS AR.2 now (q.cells v u) old:=by
  intro W hD hC hjW old hO;refine ⟨⟨(h.grown G0).cf hC ?_,hD,(ho.grown G0).cf hC (fun _ _ j hj=>absurd hj aft),(hr.grown G0).cf hC (fun _ _ j hj=>absurd hj aft),hC.range RQ ?_,hO,L2.cf hC,br G0.size hC.size,(CF.before G0 hC).mono (fun b _ hb e=>by rcases e with e | e;exact e;omega)⟩,hjW⟩
  ·rintro y (((e | e) | e) | e)
   ·exact S.hbF y e
   ·exact nY S.poH y e
   ·exact S.hbg e.1
   ·omega
  ·rintro j _ (((e | e) | e) | e)
   ·exact S.QT _ _ afp e
   ·have:=hpo _ _ e;omega
   ·omega
   ·omega
 have ku:Hid (∀ W W' M1 old,IQ J w W hb g T fv ro rr po pr dp dS M1 now (q.cells v u) old->CF W W' (fun b y=>Pl.has po b y\/w.heap.size+1<b)->IQ J w W' hb g T fv ro rr po pr dp dS M1 now (q.cells v u) old):=fun W W' M1 old h k=>h.step S k hbase hpo
 have zM:Hid (∀ W W' M1 old,IQ J w W hb g T fv ro rr po pr dp dS M1 now (q.cells v u) old->CF W W' dS->J W'->IQ J w W' hb g T fv ro rr po pr dp dS M1 now (q.cells v u) old):=fun W W' M1 old h k j=>⟨h.toNX.step S (k.mono (fun _ _ _ e=>.inl (.inl e))) hbase hpo,j⟩
 have U4:=hid hbase
 have HNX:=hid hNX
 have HAd:=hid Zy
 have HM:=hid hm
 have Vm:=hid YD
 have EL:=hid L1
 have HST:=hid S.finds.stay
 have uK:=hid S
 have HW0:=hid hW0
 have abo:=hid UZ
 have ZU:Hid (AR.2.bg=M.bg/\AR.2.aC=M.aC/\AR.2.aO=M.aO):=by rw[<-YD];exact hid (Ra M now q)
 have HQ:Hid (In64 now/\In64 M.aC/\In64 q.bS/\In64 q.dJ/\In64 q.bV/\In64 q.aL):=⟨dm,hsk,hq1,hq2,hq3,hq4⟩
 have HN:Hid (hb<w.heap.size/\g<w.heap.size):=⟨by omega,by omega⟩
 have Pg:=hid RQ
 obtain ⟨FR,LU⟩:=aq (uX M now q)
 rw[LU]
 have hNA:=Kv M now q
 rw[LU,YD] at hNA
 have HNA:=hid hNA
 clear hNA LU YD hm Zy hNX h hd hJ ho hr hv hu dm hsk zo hq1 hq2 hq3 hq4 hW0 G0 RQ L1 L2 hpo UZ S
 go_enter func142,ntmps142
 go_wp2_with fail
 go_step3
 go_wp2_with fail
 go_step3
 go_upto_block 0 with fail
 go_cut [5] (fun c wx=>∃ code M1,c = .int .i64 code/\In64 code/\FR=(bu now code,M1)/\xE wx hb g T fv ro rr now/\dO wx g 0 dp M1/\Out wx rr pr []/\w.heap.size<=wx.heap.size/\CF w wx (exA g po dS)/\J wx)
 case first=>
  go_upto_region 3 with fail
  rw[<-HW0.o];obtain ⟨k0,k1,k2,k3,k4,k5,k6,k7,k8⟩:=kK Pg.o;go_cut [5] (fun c wx=>c = .int .i64 m7/\IQ J w wx hb g T fv ro rr po pr dp dS AR.2 now (q.cells v u) [.int .i64 m0,.int .u64 m1,.string m2,.int .i64 m3,.int .i64 m4,.int .i64 m5,.int .i64 m6]/\J wx)
  case first=>
   go_wp2_with (first|(go_at_call 185;refine HAd.o.mono ?_;clear HAd;rintro r w1 ⟨rfl,D1,j1,C1⟩;have HD1:=hid D1;have Uq:=hid j1;have qN:=hid C1;have HLv:=hid (EL.o.cf C1);clear D1 j1 C1;obtain ⟨⟨d0,q0⟩,⟨d1,q1⟩,⟨d2,q2⟩,⟨d3,q3⟩,⟨d4,q4⟩,⟨d5,q5⟩,⟨d6,q6⟩,f0,f1,f2,f3,f4,f5,f6⟩:=oK HLv.o))
   go_meet;have C2:=sM w1 (w.heap.size+1) (.int .i64 m0) (.int .u64 m1) (.string m2) (.int .i64 m3) (.int .i64 m4) (.int .i64 m5) (.int .i64 m6);have J2:J _:=HST.o _ _ Uq.o (C2.mono (fun b y _ e=>uK.o.zL b y afp));refine ⟨rfl,HNX.o _ ?_ ?_ J2 _ (jg [.int .i64 m0,.int .u64 m1,.string m2,.int .i64 m3,.int .i64 m4,.int .i64 m5,.int .i64 m6] 0 w1 (w.heap.size+1) 7 HLv.o (bd 7)),?_⟩
   ·exact HD1.o.cf C2 (fun j _ _ e=>by have:=HN.o.2;omega) (fun p hp j _ e=>by have:=(uK.o.Kn p hp).2.2.1;omega)
   ·exact (qN.o.mono (fun _ _ _ e=>.inl e)).trans C2 (fun _ _ _ e=>.inr e)
   ·exact J2
  case rest=>
   obtain ⟨rfl,x91,x92⟩:=hcut;have Uq:=hid x92;clear x92;have rW:=hid x91;clear x91;clear  k0 k1 k2 k3 k4 k5 k6 k7 k8 HAd HNX EL HW0 Pg;obtain ⟨A1,M',hA⟩:∃ a b,AR=(a,b):=⟨AR.1,AR.2,rfl⟩
   subst hA;cases A1 with
   | error cd=>
    have hcs:=zN (c:=cd) (by rw[Vm.o]);have Ve:FR=(bu now cd,M'):=HNA.o;have hm7:m7=cd:=by
     have:=HM.o;exact adj
    subst hm7;have yV:=hid Ve;clear Ve HM HNA Vm;rcases hcs with rfl | rfl | rfl | rfl | rfl | rfl | rfl
    all_goals
     go_wp2_with fail
     go_meet
     exact ⟨_,_,rfl,⟨by decide,by decide⟩,yV.o,rW.o.hear,rW.o.dF,rW.o.r,rW.o.big,rW.o.cf,rW.o.j⟩
   | ok t=>
    have hm:=HM.o;simp only[rC] at hm;have Pf:=hid (YK (t:=t) (by rw[Vm.o]));have Ve:FR=dC M' now (dZ M' now q t):=HNA.o;have yV:=hid Ve;injection hm with hm;have e0:Value.agg t.cells.toArray=Value.agg #[.int .i64 m0,.int .u64 m1,.string m2,.int .i64 m3,.int .i64 m4,.int .i64 m5,.int .i64 m6]:=Option.some.inj (eh (fun a:Array Value=>a[0]?) hm);have e1:Value.int .i64 0=Value.int .i64 m7:=Option.some.inj (eh (fun a:Array Value=>a[1]?) hm);injection e0 with e0;injection e1 with _ e1;have e0:t.cells=[.int .i64 m0,.int .u64 m1,.string m2,.int .i64 m3,.int .i64 m4,.int .i64 m5,.int .i64 m6]:=eh Array.toList e0;subst e1;rw[<-e0] at rW;clear hm e0 Ve HM HNA;have rW:Hid (IQ J w wc hb g T fv ro rr po pr dp dS M' now (q.cells v u) t.cells):=rW.o;have hkp:M'.bg=M.bg/\M'.aC=M.aC/\M'.aO=M.aO:=ZU.o;have Vs:=hid hkp;clear hkp ZU Vm;have HAh:Hid (∀ W,IQ J w W hb g T fv ro rr po pr dp dS M' now (q.cells v u) t.cells->Calls prog 186 #[.pointer (some ⟨hb,0,none⟩),.int .i64 t.start] W fun e w'=>e = .returned (.bool (decide (aX now M.aC<t.start)))/\∃ m,w'=W.drewN m):=fun W X=>by
     have hs:=X.dF.aC;rw[Vs.o.2.1] at hs;exact Ad hb g now M.aC t.start W X.hear.c3 X.hear.c4 hs HQ.o.1 HQ.o.2.1
    obtain ⟨k0,k1,k2,k3,k4,k5,k6,k7,k8⟩:=kK rW.o.ask;have t0:wc.cell? ⟨w.heap.size+1,0,none⟩=some (.int .i64 t.ay):=rW.o.old 0 _ rfl;have t4:wc.cell? ⟨w.heap.size+1,4,none⟩=some (.int .i64 t.start):=rW.o.old 4 _ rfl;have ae4:=hid (jQ t.ay 16 4 afq afq);have ae5:=hid (jQ q.aL 32 5 afq afq);obtain ⟨er,her⟩:=aq ((aG t.ay 16 && !aG q.aL 32 || decide (aX now M.aC<t.start)));have Ph:=hid her;clear her;go_upto_region 6 with fail
    go_cut [33] (fun c wx=>c = .bool er/\IQ J w wx hb g T fv ro rr po pr dp dS M' now (q.cells v u) t.cells/\J wx)
    case first=>
     have h16:=ae4.o;have h32:=ae5.o;have hAh:=HAh.o wc rW.o;obtain ⟨ah,hah⟩:=aq (decide (aX now M.aC<t.start));rw[hah] at hAh Ph;have YL:=hid hAh;clear hAh hah;generalize aG t.ay 16=b16 at *;generalize aG q.aL 32=b32 at *;cases b16 with
     | true=>
      rw[eE] at h16;have p16:=cg.1 h16;cases b32 with
      | false=>
       rw[en] at h32;have p32:=cL.1 h32;clear h16 h32;go_wp2_with fail;go_meet;exact ⟨by rw[<-Ph.o];rfl,rW.o,Uq.o⟩
      | true=>
       rw[eE] at h32;have p32:=cg.1 h32;clear h16 h32;go_wp2_with (first|(go_at_call 186;refine YL.o.mono ?_;clear YL;rintro r w2 ⟨rfl,m,hw2⟩;have HG2:Hid (wc.grownBy w2 none):=(by rw[hw2];exact aY (bh _ _) m);clear hw2))
       go_meet;exact ⟨by rw[<-Ph.o];simp[p32],ku.o _ _ _ _ rW.o (CF.bN HG2.o _),HST.o _ _ Uq.o (CF.bN HG2.o _)⟩
     | false=>
      rw[en] at h16;have p16:=cL.1 h16;clear h16 h32;go_wp2_with (first|(go_at_call 186;refine YL.o.mono ?_;clear YL;rintro r w2 ⟨rfl,m,hw2⟩;have HG2:Hid (wc.grownBy w2 none):=(by rw[hw2];exact aY (bh _ _) m);clear hw2))
      go_meet;exact ⟨by rw[<-Ph.o];simp,ku.o _ _ _ _ rW.o (CF.bN HG2.o _),HST.o _ _ Uq.o (CF.bN HG2.o _)⟩
    case rest=>
     obtain ⟨rfl,x91,x92⟩:=hcut;have HJ2:=hid x92;clear x92;have uU:=hid x91;clear x91;clear  rW Uq k0 k1 k2 k3 k4 k5 k6 k7 k8 t0 t4 ae4 ae5 HAh;obtain ⟨k0,k1,k2,k3,k4,k5,k6,k7,k8⟩:=kK uU.o.ask;cases er with
     | true=>
      have mg:Hid (FR=(bu now 33,M')):=by
       rw[yV.o,NG]
       ·exact rfl
       ·have:=Ph.o;rw[Vs.o.2.1];simpa using this
      go_wp2_with fail;go_meet;exact ⟨_,_,rfl,⟨by decide,by decide⟩,mg.o,uU.o.hear,uU.o.dF,uU.o.r,uU.o.big,uU.o.cf,uU.o.j⟩
     | false=>
      have MN:Hid (¬ (aG t.ay 16=true/\aG q.aL 32=false\/aX now M'.aC<t.start)):=by
       refine hid ?_;have:=Ph.o;rw[Vs.o.2.1];simpa using this
      have t5:wc.cell? ⟨w.heap.size+1,5,none⟩=some (.int .i64 t.fin):=uU.o.old 5 _ rfl;have c4:=uU.o.hear.c4;by_cases hlate:t.fin<now
      ·have mg:Hid (FR=(bu now 32,M')):=(by rw[yV.o,Q6 MN.o hlate];exact rfl);go_wp2_with fail;go_quiet (fail)
       go_wp2;go_meet;have hS:=ku.o wc (wc.drewN nq) _ _ uU.o (CF.bN (aY (bh _ _) nq) _);exact ⟨_,_,rfl,⟨by decide,by decide⟩,mg.o,hS.hear,hS.dF,hS.r,hS.big,hS.cf,hS.j⟩
      ·have KG:=hid hlate;go_wp2_with fail;go_quiet (fail)
       go_wp2_with fail;obtain ⟨W2,hW2⟩:=ar ((wc.drewN nq).alloc (.cells Hr 324));have G2:wc.grownBy W2 none:=(by rw[hW2];exact aR (aY (bh _ _) nq) _);obtain ⟨pb,hpb⟩:=ar wc.heap.size;have LP:Live W2 pb 16:=(by rw[hW2,hpb];exact Live.new (wc.drewN nq) Hr _);have apd:w.heap.size+2<pb:=(by rw[hpb];exact uU.o.made.lt);have ZP:=hid (ku.o _ _ _ _ uU.o (CF.bN G2 _));have HJ3:=hid (HST.o _ _ HJ2.o (CF.bN G2 _));have HLP:=hid LP;rw[<-hW2,<-hpb];clear hW2 G2 LP hpb uU HJ2 k0 k1 k2 k3 k4 k5 k6 k7 k8 t5 c4;obtain ⟨y,hy⟩:=aq (BE.find M.bg q.aV);obtain ⟨x,hx⟩:=aq (BE.find M.bg t.ax);have hFd:∀ W,J W->IQ J w W hb g T fv ro rr po pr dp dS M' now (q.cells v u) t.cells->Calls prog 173 #[.pointer (some ⟨hb,0,none⟩),.agg #[.string ⟨q.aV.toArray⟩,.int .i64 7,.int .i64 2],.agg #[.string ⟨t.ax.toArray⟩,.int .i64 6,.int .i64 1]] W fun e w'=>e = .returned (.tuple #[.agg (tQ y).toArray,.agg (tQ x).toArray,.int .i64 (dV y x now 7 6 2 1)])/\J w'/\CF W w' dS:=by
        intro W hJW XW;have:=Fy hb base T fv rv J dS rP M.bg q.aV t.ax 7 2 6 1 now W uK.o.abl uK.o.finds hJW XW.hear.c0 XW.hear.c4 uK.o.hbF uK.o.QT uK.o.zL (br hbase XW.big);rw[hy,hx] at this;exact this
       obtain ⟨v0,v1,v2,v3,v4,v5,v6,v7,hv⟩:=iZ x;obtain ⟨u0,u1,u2,u3,u4,u5,u6,u7,hu⟩:=iZ y;rw[hv,hu] at hFd;have HFd:=hid hFd;have HV:=hid hv;have HU:=hid hu;have wS:=hid (And.intro hx hy);clear hFd hv hu hx hy;have na:pb≠w.heap.size:=(by omega);have nb:pb≠w.heap.size+1:=(by omega);have a0:W2.cell? ⟨w.heap.size,4,none⟩=some (.string ⟨q.aV.toArray⟩):=ZP.o.ask 4 _ rfl;have a1:W2.cell? ⟨w.heap.size+1,2,none⟩=some (.string ⟨t.ax.toArray⟩):=ZP.o.old 2 _ rfl;go_cut [5] (fun c wx=>c = .int .i64 (dV y x now 7 6 2 1)/\wx.rangeAt pb 0 [.string v0,.int .i64 v1,.int .u64 v2,.int .u64 v3,.int .i64 v4,.int .i64 v5,.int .i64 v6,.int .i64 v7]/\wx.rangeAt pb 8 [.string u0,.int .i64 u1,.int .u64 u2,.int .u64 u3,.int .i64 u4,.int .i64 u5,.int .i64 u6,.int .i64 u7]/\IQ J w wx hb g T fv ro rr po pr dp dS M' now (q.cells v u) t.cells/\J wx)
       case first=>
        go_region_held3 (fun w'=>w'.cell? ⟨w.heap.size,4,none⟩=some (.string ⟨q.aV.toArray⟩)/\w'.cell? ⟨w.heap.size+1,2,none⟩=some (.string ⟨t.ax.toArray⟩)) (go_keep) (first
         | (go_at_call 175;refine (wR _ _).mono ?_;rintro e w4 ⟨rfl,g4⟩;have xu:=hid (iN g4);have D9:=hid (ku.o _ _ _ _ ZP.o (CF.bN (iN g4) _));clear g4;have a0':=D9.o.ask 4 _ rfl;have a1':w4.cell? ⟨w.heap.size+1,2,none⟩=some (.string ⟨t.ax.toArray⟩):=D9.o.old 2 _ rfl)
         | (go_at_call 174;refine (yT _ _).mono ?_;rintro e w5 ⟨rfl,g5⟩;have QL:=hid (aa xu.o g5);have Al:=hid (ku.o _ _ _ _ D9.o (CF.bN g5 _));clear g5;have b0':=Al.o.ask 4 _ rfl;have b1':w5.cell? ⟨w.heap.size+1,2,none⟩=some (.string ⟨t.ax.toArray⟩):=Al.o.old 2 _ rfl)
         | (go_at_call 173;refine (HFd.o _ (HST.o _ _ HJ3.o (CF.bN QL.o _)) Al.o).mono ?_;rintro e w6 ⟨rfl,j6,C6⟩;have HJ6:=hid j6;have Nw:=hid (zM.o _ _ _ _ Al.o C6 j6);have KC:=hid ((HLP.o.grown QL.o).cf C6);clear C6 j6;have c0':=Nw.o.ask 4 _ rfl;have c1':w6.cell? ⟨w.heap.size+1,2,none⟩=some (.string ⟨t.ax.toArray⟩):=Nw.o.old 2 _ rfl;have lg:=yU KC.o;obtain ⟨d0,q0⟩:=lg.1 0 afq;have f0:=lg.2 0;obtain ⟨d1,q1⟩:=lg.1 1 afq;have f1:=lg.2 1;obtain ⟨d2,q2⟩:=lg.1 2 afq;have f2:=lg.2 2;obtain ⟨d3,q3⟩:=lg.1 3 afq;have f3:=lg.2 3;obtain ⟨d4,q4⟩:=lg.1 4 afq;have f4:=lg.2 4;obtain ⟨d5,q5⟩:=lg.1 5 afq;have f5:=lg.2 5;obtain ⟨d6,q6⟩:=lg.1 6 afq;have f6:=lg.2 6;obtain ⟨d7,q7⟩:=lg.1 7 afq;have f7:=lg.2 7;obtain ⟨d8,q8⟩:=lg.1 8 afq;have f8:=lg.2 8;obtain ⟨d9,q9⟩:=lg.1 9 afq;have f9:=lg.2 9;obtain ⟨d10,q10⟩:=lg.1 10 afq;have f10:=lg.2 10;obtain ⟨d11,q11⟩:=lg.1 11 afq;have f11:=lg.2 11;obtain ⟨d12,q12⟩:=lg.1 12 afq;have f12:=lg.2 12;obtain ⟨d13,q13⟩:=lg.1 13 afq;have f13:=lg.2 13;obtain ⟨d14,q14⟩:=lg.1 14 afq;have f14:=lg.2 14;obtain ⟨d15,q15⟩:=lg.1 15 afq;have f15:=lg.2 15;clear lg))
        go_wp2;go_meet;have R8:=jg [.string u0,.int .i64 u1,.int .u64 u2,.int .u64 u3,.int .i64 u4,.int .i64 u5,.int .i64 u6,.int .i64 u7] 8 w6 pb 16 KC.o aft;have C8:CF w6 (w6.setCells pb 8 [.string u0,.int .i64 u1,.int .u64 u2,.int .u64 u3,.int .i64 u4,.int .i64 u5,.int .i64 u6,.int .i64 u7]) (fun b _=>b=pb):=CF.setCells pb _ 8 w6 (CF.refl _ _) (fun _ _ _=>rfl);have C0:CF (w6.setCells pb 8 [.string u0,.int .i64 u1,.int .u64 u2,.int .u64 u3,.int .i64 u4,.int .i64 u5,.int .i64 u6,.int .i64 u7]) ((w6.setCells pb 8 [.string u0,.int .i64 u1,.int .u64 u2,.int .u64 u3,.int .i64 u4,.int .i64 u5,.int .i64 u6,.int .i64 u7]).setCells pb 0 [.string v0,.int .i64 v1,.int .u64 v2,.int .u64 v3,.int .i64 v4,.int .i64 v5,.int .i64 v6,.int .i64 v7]) (fun b y=>b=pb/\y<8):=CF.setCells pb _ 0 _ (CF.refl _ _) (fun j hj _=>⟨rfl,by simp at hj;omega⟩);have R0:=jg [.string v0,.int .i64 v1,.int .u64 v2,.int .u64 v3,.int .i64 v4,.int .i64 v5,.int .i64 v6,.int .i64 v7] 0 _ pb 16 (KC.o.cf C8) aft;refine ⟨rfl,R0,C0.range R8 (fun _ _ e=>by omega),ku.o _ _ _ _ Nw.o ((C8.mono (fun b _ _ e=>.inr afp)).trans C0 (fun _ _ _ e=>.inr afp)),?_⟩;exact HST.o _ _ HJ6.o ((C8.mono (fun b y _ e=>uK.o.zL b y afp)).trans C0 (fun b y _ e=>uK.o.zL b y afp))
       case rest=>
        obtain ⟨rfl,x91,x92,x93,x94⟩:=hcut;have HJ7:=hid x94;clear x94;have xP:=hid x93;clear x93;have OP:=hid x92;clear x92;have Eu:=hid x91;clear x91;clear  a0 a1 ZP HJ3 HLP HFd;obtain ⟨k0,k1,k2,k3,k4,k5,k6,k7,k8⟩:=kK xP.o.ask;have t0:wc.cell? ⟨w.heap.size+1,0,none⟩=some (.int .i64 t.ay):=xP.o.old 0 _ rfl;by_cases hpc:dV y x now 7 6 2 1=0
        ·obtain ⟨sv,cl,rfl,rfl⟩:=FN afq afq hpc;have hP:fB wc pb cl sv:=⟨by have h:=Eu.o;rw[<-HV.o] at h;exact h,by have h:=OP.o;rw[<-HU.o] at h;exact h⟩
         have Kt:=hid hP;have xO:=hid hpc;rw[hpc];clear hpc hP Eu OP HV HU;have HMy:=hid (Kk q.aL t.ay wc HQ.o.2.2.2.2.2);cases hok:jI q.aL t.ay with
         | false=>
          rw[hok] at HMy;have mg:Hid (FR=(bu now 13,M')):=by
           rw[yV.o,Q8 MN.o (eK.2 KG.o) af0 af2 xO.o hok];exact rfl
          clear hok;go_wp2_with (first|(go_at_call 187;refine HMy.o.mono ?_;clear HMy;rintro r w8 ⟨rfl,rfl⟩))
          go_meet;exact ⟨_,_,rfl,⟨by decide,by decide⟩,mg.o,xP.o.hear,xP.o.dF,xP.o.r,xP.o.big,xP.o.cf,xP.o.j⟩
         | true=>
          rw[hok] at HMy;have oW:=hid hok;clear hok;go_wp2_with (first|(go_at_call 187;refine HMy.o.mono ?_;clear HMy;rintro r w8 ⟨rfl,rfl⟩))
          clear k0 k1 k2 k3 k4 k5 k6 k7 k8 t0;have YM:Hid (∀ W,fB W pb cl sv->Calls prog 188 #[.pointer (some ⟨pb,0,none⟩),.int .i64 now,.agg (q.cells v u).toArray,.agg t.cells.toArray] W fun e w'=>e = .returned (rC (nM now q t cl sv))/\W.grownBy w' none):=fun W P=>by
           have i1:=uK.o.rQ cl (lF wS.o.1);have i2:=uK.o.rQ sv (lF wS.o.2);exact QR pb now q v u t cl sv W P HQ.o.1 i1.bI i2.bI i1.aD i2.aD Pf.o
          obtain ⟨GM,hGM⟩:=aq (nM now q t cl sv);obtain ⟨n0,n1,n2,n3,n4,n5,n6,n7,hn⟩:=oJ GM;rw[hGM,hn] at YM;have HGM:=hid hGM;have Pj:=hid hn;clear hGM hn;have YN:Hid (∀ W,IQ J w W hb g T fv ro rr po pr dp dS M' now (q.cells v u) t.cells->W.cell? ⟨hb,4,none⟩=some (.int .i64 now)/\W.cell? ⟨w.heap.size,0,none⟩=some (.string ⟨q.fo.toArray⟩)/\W.cell? ⟨w.heap.size,1,none⟩=some (.int .i64 q.nD)/\W.cell? ⟨w.heap.size,2,none⟩=some (v)/\W.cell? ⟨w.heap.size,3,none⟩=some (u)/\W.cell? ⟨w.heap.size,4,none⟩=some (.string ⟨q.aV.toArray⟩)/\W.cell? ⟨w.heap.size,5,none⟩=some (.int .i64 q.bS)/\W.cell? ⟨w.heap.size,6,none⟩=some (.int .i64 q.dJ)/\W.cell? ⟨w.heap.size,7,none⟩=some (.int .i64 q.bV)/\W.cell? ⟨w.heap.size,8,none⟩=some (.int .i64 q.aL)/\W.cell? ⟨w.heap.size+1,0,none⟩=some (.int .i64 t.ay)/\W.cell? ⟨w.heap.size+1,1,none⟩=some (.int .u64 (t.aM.toNat:Int))/\W.cell? ⟨w.heap.size+1,2,none⟩=some (.string ⟨t.ax.toArray⟩)/\W.cell? ⟨w.heap.size+1,3,none⟩=some (.int .i64 t.dY)/\W.cell? ⟨w.heap.size+1,4,none⟩=some (.int .i64 t.start)/\W.cell? ⟨w.heap.size+1,5,none⟩=some (.int .i64 t.fin)/\W.cell? ⟨w.heap.size+1,6,none⟩=some (.int .i64 t.aD)):=fun W X=>⟨X.hear.c4,X.ask 0 _ rfl,X.ask 1 _ rfl,X.ask 2 _ rfl,X.ask 3 _ rfl,X.ask 4 _ rfl,X.ask 5 _ rfl,X.ask 6 _ rfl,X.ask 7 _ rfl,X.ask 8 _ rfl,X.old 0 _ rfl,X.old 1 _ rfl,X.old 2 _ rfl,X.old 3 _ rfl,X.old 4 _ rfl,X.old 5 _ rfl,X.old 6 _ rfl⟩
          have ae6:=hid (fun W (X:IQ J w W hb g T fv ro rr po pr dp dS M' now (q.cells v u) t.cells)=>YN.o _ (ku.o _ _ _ _ X ((sM W (w.heap.size+2) (.int .i64 n0) (.int .u64 n1) (.string n2) (.int .i64 n3) (.int .i64 n4) (.int .i64 n5) (.int .i64 n6)).mono (fun b _ _ e=>.inr afp))));obtain ⟨x4,xa0,xa1,xa2,xa3,xa4,xa5,xa6,xa7,xa8,xo0,xo1,xo2,xo3,xo4,xo5,xo6⟩:=YN.o _ xP.o;obtain ⟨W7,hW7⟩:=ar w8;rw[<-hW7] at xP HJ7 Kt x4 xa0 xa1 xa2 xa3 xa4 xa5 xa6 xa7 xa8 xo0 xo1 xo2 xo3 xo4 xo5 xo6;rw[<-hW7];clear hW7;go_cut [5] (fun c wx=>c = .int .i64 n7/\wx.rangeAt (w.heap.size+2) 0 [.int .i64 n0,.int .u64 n1,.string n2,.int .i64 n3,.int .i64 n4,.int .i64 n5,.int .i64 n6]/\IQ J w wx hb g T fv ro rr po pr dp dS M' now (q.cells v u) t.cells/\fB wx pb cl sv)
          case first=>
           have hPd:=Kt.o.grown (bD (bh _ _));have LW:=hid (YM.o _ hPd);clear hPd
           go_region_held3 (fun w'=>w'.cell? ⟨hb,4,none⟩=some (.int .i64 now)/\w'.cell? ⟨w.heap.size,0,none⟩=some (.string ⟨q.fo.toArray⟩)/\w'.cell? ⟨w.heap.size,1,none⟩=some (.int .i64 q.nD)/\w'.cell? ⟨w.heap.size,2,none⟩=some (v)/\w'.cell? ⟨w.heap.size,3,none⟩=some (u)/\w'.cell? ⟨w.heap.size,4,none⟩=some (.string ⟨q.aV.toArray⟩)/\w'.cell? ⟨w.heap.size,5,none⟩=some (.int .i64 q.bS)/\w'.cell? ⟨w.heap.size,6,none⟩=some (.int .i64 q.dJ)/\w'.cell? ⟨w.heap.size,7,none⟩=some (.int .i64 q.bV)/\w'.cell? ⟨w.heap.size,8,none⟩=some (.int .i64 q.aL)/\w'.cell? ⟨w.heap.size+1,0,none⟩=some (.int .i64 t.ay)/\w'.cell? ⟨w.heap.size+1,1,none⟩=some (.int .u64 (t.aM.toNat:Int))/\w'.cell? ⟨w.heap.size+1,2,none⟩=some (.string ⟨t.ax.toArray⟩)/\w'.cell? ⟨w.heap.size+1,3,none⟩=some (.int .i64 t.dY)/\w'.cell? ⟨w.heap.size+1,4,none⟩=some (.int .i64 t.start)/\w'.cell? ⟨w.heap.size+1,5,none⟩=some (.int .i64 t.fin)/\w'.cell? ⟨w.heap.size+1,6,none⟩=some (.int .i64 t.aD)) (first|(with_reducible exact ae6.o _ wT.o) | go_keep) (first
            | (go_at_call 188;refine LW.o.mono ?_;clear LW;rintro r w9 ⟨rfl,g9⟩;have wT:=hid (ku.o _ _ _ _ xP.o (CF.bN (iN g9) _));have YB:=hid (Kt.o.grown (iN g9));clear g9;obtain ⟨y4,ya0,ya1,ya2,ya3,ya4,ya5,ya6,ya7,ya8,yo0,yo1,yo2,yo3,yo4,yo5,yo6⟩:=YN.o _ wT.o;obtain ⟨⟨d0,q0⟩,⟨d1,q1⟩,⟨d2,q2⟩,⟨d3,q3⟩,⟨d4,q4⟩,⟨d5,q5⟩,⟨d6,q6⟩,f0,f1,f2,f3,f4,f5,f6⟩:=oK wT.o.made))
           go_wp2;go_meet;have C9:=sM w9 (w.heap.size+2) (.int .i64 n0) (.int .u64 n1) (.string n2) (.int .i64 n3) (.int .i64 n4) (.int .i64 n5) (.int .i64 n6);exact ⟨rfl,jg [.int .i64 n0,.int .u64 n1,.string n2,.int .i64 n3,.int .i64 n4,.int .i64 n5,.int .i64 n6] 0 w9 (w.heap.size+2) 7 wT.o.made (bd 7),ku.o _ _ _ _ wT.o (C9.mono (fun b _ _ e=>.inr afp)),YB.o.cf C9 (fun _ e=>by omega)⟩
          case rest=>
           obtain ⟨rfl,x91,x92,x93⟩:=hcut;have YB:=hid x93;clear x93;have wT:=hid x92;clear x92;have Pd:=hid x91;clear x91;clear  x4 xa0 xa1 xa2 xa3 xa4 xa5 xa6 xa7 xa8 xo0 xo1 xo2 xo3 xo4 xo5 xo6 xP Kt YM;cases GM with
           | error cd=>
            have hm7:n7=cd:=by
             have:=Pj.o;exact adj
            subst hm7;have mg:Hid (FR=(bu now n7,M')):=by
             rw[yV.o,Vq MN.o (eK.2 KG.o) af0 af2 xO.o oW.o HGM.o];exact rfl
            have hcs:=KF HGM.o;clear Pj HGM;rcases hcs with rfl | rfl | rfl
            all_goals
             go_wp2_with fail
             go_meet
             exact ⟨_,_,rfl,⟨by decide,by decide⟩,mg.o,wT.o.hear,wT.o.dF,wT.o.r,wT.o.big,wT.o.cf,wT.o.j⟩
           | ok t'=>
            have hm:=Pj.o;simp only[rC] at hm;injection hm with hm;have e0:Value.agg t'.cells.toArray=Value.agg #[.int .i64 n0,.int .u64 n1,.string n2,.int .i64 n3,.int .i64 n4,.int .i64 n5,.int .i64 n6]:=Option.some.inj (eh (fun a:Array Value=>a[0]?) hm);have e1:Value.int .i64 0=Value.int .i64 n7:=Option.some.inj (eh (fun a:Array Value=>a[1]?) hm);injection e0 with e0;injection e1 with _ e1;have e0:t'.cells=[.int .i64 n0,.int .u64 n1,.string n2,.int .i64 n3,.int .i64 n4,.int .i64 n5,.int .i64 n6]:=eh Array.toList e0;subst e1;rw[<-e0] at Pd;have Vt:=hid (YJ MN.o (eK.2 KG.o) af0 af2 xO.o oW.o HGM.o);have HGI:=hid (Vr Pf.o HQ.o.1 HQ.o.2.2.2.1 HQ.o.2.2.2.2.1 HGM.o);rw[<-yV.o] at Vt;clear hm e0 Pj HGM yV MN KG Ph YN ae6;have KH:Hid (∀ W,wc.grownBy W none->W.cell? ⟨w.heap.size+2,0,none⟩=some (.int .i64 t'.ay)/\W.cell? ⟨w.heap.size+2,1,none⟩=some (.int .u64 (t'.aM.toNat:Int))/\W.cell? ⟨w.heap.size+2,2,none⟩=some (.string ⟨t'.ax.toArray⟩)/\W.cell? ⟨w.heap.size+2,3,none⟩=some (.int .i64 t'.dY)/\W.cell? ⟨w.heap.size+2,4,none⟩=some (.int .i64 t'.start)/\W.cell? ⟨w.heap.size+2,5,none⟩=some (.int .i64 t'.fin)/\W.cell? ⟨w.heap.size+2,6,none⟩=some (.int .i64 t'.aD)/\W.cell? ⟨w.heap.size,4,none⟩=some (.string ⟨q.aV.toArray⟩)/\W.cell? ⟨w.heap.size,5,none⟩=some (.int .i64 q.bS)/\W.cell? ⟨w.heap.size+1,1,none⟩=some (.int .u64 (t.aM.toNat:Int))):=fun W hW=>⟨hW.cell (Pd.o 0 _ rfl) aft,hW.cell (Pd.o 1 _ rfl) aft,hW.cell (Pd.o 2 _ rfl) aft,hW.cell (Pd.o 3 _ rfl) aft,hW.cell (Pd.o 4 _ rfl) aft,hW.cell (Pd.o 5 _ rfl) aft,hW.cell (Pd.o 6 _ rfl) aft,hW.cell (wT.o.ask 4 _ rfl) aft,hW.cell (wT.o.ask 5 _ rfl) aft,hW.cell (wT.o.old 1 _ rfl) aft⟩
            obtain ⟨x0,x1,x2,x3,x4,x5,x6,x7,x8,x9⟩:=KH.o _ (bh _ _);go_wp2_with fail;obtain ⟨W9,YO⟩:=ar wc;rw[<-YO] at wT YB Pd KH x0 x1 x2 x3 x4 x5 x6 x7 x8 x9;rw[<-YO];clear YO;go_cut [9] (fun p wx=>∃ rb,p = .pointer (some ⟨rb,0,none⟩)/\w.heap.size+2<rb/\dX wx rb #[.int .i64 t'.ay,.int .u64 (t'.aM.toNat:Int),.string ⟨t'.ax.toArray⟩,.int .i64 t'.dY,.int .i64 t'.start,.int .i64 t'.fin,.int .i64 t'.aD,.string ⟨q.aV.toArray⟩,.int .i64 sv.aH,.int .u64 (sv.key.toNat:Int),.int .u64 0,.int .i64 q.bS,.int .i64 0,.int .u64 (t.aM.toNat:Int),.int .u64 0]/\IQ J w wx hb g T fv ro rr po pr dp dS M' now (q.cells v u) t.cells)
            case first=>
             have hb9:w.heap.size+2<W9.heap.size:=wT.o.made.lt;have nea:w.heap.size≠W9.heap.size:=(by omega);have neb:w.heap.size+1≠W9.heap.size:=(by omega);have nec:w.heap.size+2≠W9.heap.size:=(by omega);have hK8:∀ W,W9.grownBy W none->Calls prog 179 #[.pointer (some ⟨pb,8,none⟩)] W fun r w'=>r = .returned (.agg #[.int .i64 sv.aH,.int .u64 (sv.key.toNat:Int)])/\W.grownBy w' none:=fun W hW=>rO pb 8 sv W (hW.cell (YB.o.s 1 _ rfl) aft) (hW.cell (YB.o.s 2 _ rfl) aft);have HKa:Hid (Calls prog 179 #[.pointer (some ⟨pb,8,none⟩)] W9.drew fun r w'=>r = .returned (.agg #[.int .i64 sv.aH,.int .u64 (sv.key.toNat:Int)])/\W9.grownBy w' none):=(hK8 _ (bD (bh _ _))).mono fun _ _ ⟨a,b⟩=>⟨a,iN b⟩
             have QX:Hid (Calls prog 179 #[.pointer (some ⟨pb,8,none⟩)] ((W9.alloc (.cells #[.int .i64 0,.int .u64 0,.string ⟨#[]⟩,.int .i64 0,.int .i64 0,.int .i64 0,.int .i64 0,.string ⟨#[]⟩,.int .i64 0,.int .u64 0,.int .u64 0,.int .i64 0,.int .i64 0,.int .u64 0,.int .u64 0] 338)).drew) fun r w'=>r = .returned (.agg #[.int .i64 sv.aH,.int .u64 (sv.key.toNat:Int)])/\W9.grownBy w' none/\dX w' W9.heap.size #[.int .i64 0,.int .u64 0,.string ⟨#[]⟩,.int .i64 0,.int .i64 0,.int .i64 0,.int .i64 0,.string ⟨#[]⟩,.int .i64 0,.int .u64 0,.int .u64 0,.int .i64 0,.int .i64 0,.int .u64 0,.int .u64 0]):=(hK8 _ (bD (aE _ _ none))).mono fun _ _ ⟨a,b⟩=>⟨a,aa (bD (aE _ _ none)) b,(dX.new W9 _ _).drew.grown b aft⟩
             clear hK8;obtain ⟨xz0,xz1,xz2,xz3,xz4,xz5,xz6,xz7,xz8,xz9⟩:=KH.o _ (aE W9 (.cells #[.int .i64 0,.int .u64 0,.string ⟨#[]⟩,.int .i64 0,.int .i64 0,.int .i64 0,.int .i64 0,.string ⟨#[]⟩,.int .i64 0,.int .u64 0,.int .u64 0,.int .i64 0,.int .i64 0,.int .u64 0,.int .u64 0] 338) none)
             go_region_held3 (fun w'=>w'.cell? ⟨w.heap.size+2,0,none⟩=some (.int .i64 t'.ay)/\w'.cell? ⟨w.heap.size+2,1,none⟩=some (.int .u64 (t'.aM.toNat:Int))/\w'.cell? ⟨w.heap.size+2,2,none⟩=some (.string ⟨t'.ax.toArray⟩)/\w'.cell? ⟨w.heap.size+2,3,none⟩=some (.int .i64 t'.dY)/\w'.cell? ⟨w.heap.size+2,4,none⟩=some (.int .i64 t'.start)/\w'.cell? ⟨w.heap.size+2,5,none⟩=some (.int .i64 t'.fin)/\w'.cell? ⟨w.heap.size+2,6,none⟩=some (.int .i64 t'.aD)/\w'.cell? ⟨w.heap.size,4,none⟩=some (.string ⟨q.aV.toArray⟩)/\w'.cell? ⟨w.heap.size,5,none⟩=some (.int .i64 q.bS)/\w'.cell? ⟨w.heap.size+1,1,none⟩=some (.int .u64 (t.aM.toNat:Int))) (first|(with_reducible exact ⟨jZ nec z0,jZ nec z1,jZ nec z2,jZ nec z3,jZ nec z4,jZ nec z5,jZ nec z6,jZ nea z7,jZ nea z8,jZ neb z9⟩) | go_keep) (first
              | (go_at_call 179;(with_reducible apply Calls.mono HKa.o);rintro r w10 ⟨rfl,g10⟩;have NI:=hid g10;clear g10;obtain ⟨y0,y1,y2,y3,y4,y5,y6,y7,y8,y9⟩:=KH.o _ NI.o;obtain ⟨yz0,yz1,yz2,yz3,yz4,yz5,yz6,yz7,yz8,yz9⟩:=KH.o _ (aR NI.o (.cells #[.int .i64 0,.int .u64 0,.string ⟨#[]⟩,.int .i64 0,.int .i64 0,.int .i64 0,.int .i64 0,.string ⟨#[]⟩,.int .i64 0,.int .u64 0,.int .u64 0,.int .i64 0,.int .i64 0,.int .u64 0,.int .u64 0] 338));obtain ⟨yr0,yr1,yr2,yr3,yr4,yr5,yr6,yr7,yr8,yr9⟩:=KH.o _ (aR NI.o (.cells #[.int .i64 t'.ay,.int .u64 (t'.aM.toNat:Int),.string ⟨t'.ax.toArray⟩,.int .i64 t'.dY,.int .i64 t'.start,.int .i64 t'.fin,.int .i64 t'.aD,.string ⟨q.aV.toArray⟩,.int .i64 sv.aH,.int .u64 (sv.key.toNat:Int),.int .u64 0,.int .i64 q.bS,.int .i64 0,.int .u64 (t.aM.toNat:Int),.int .u64 0] 338)))
              | (go_at_call 179;(with_reducible apply Calls.mono QX.o);rintro r w10 ⟨rfl,g10,bz⟩;have NI:=hid g10;have dP:=hid bz;clear g10 bz;have t0:=dP.o.cell 0;have tf0:=dP.o.frozen 0;have t1:=dP.o.cell 1;have tf1:=dP.o.frozen 1;have t2:=dP.o.cell 2;have tf2:=dP.o.frozen 2;have t3:=dP.o.cell 3;have tf3:=dP.o.frozen 3;have t4:=dP.o.cell 4;have tf4:=dP.o.frozen 4;have t5:=dP.o.cell 5;have tf5:=dP.o.frozen 5;have t6:=dP.o.cell 6;have tf6:=dP.o.frozen 6;have t7:=dP.o.cell 7;have tf7:=dP.o.frozen 7;have t8:=dP.o.cell 8;have tf8:=dP.o.frozen 8;have t9:=dP.o.cell 9;have tf9:=dP.o.frozen 9;have t10:=dP.o.cell 10;have aeN:=dP.o.frozen 10;have t11:=dP.o.cell 11;have aeO:=dP.o.frozen 11;have t12:=dP.o.cell 12;have aeP:=dP.o.frozen 12;have t13:=dP.o.cell 13;have aeQ:=dP.o.frozen 13;have t14:=dP.o.cell 14;have aeR:=dP.o.frozen 14;obtain ⟨z0,z1,z2,z3,z4,z5,z6,z7,z8,z9⟩:=KH.o _ NI.o))
             all_goals go_wp2
             all_goals go_meet
             all_goals have lU:=ku.o _ _ _ _ wT.o (CF.bN NI.o _)
             ·exact ⟨_,rfl,(by have:=NI.o.size;omega),dX.new _ _ _,ku.o _ _ _ _ lU (CF.bN (aE _ _ none) _)⟩
             ·exact ⟨W9.heap.size,rfl,hb9,UW dP.o _ _ _ _ _ _ _ _ _ _ _ _ _ _ _,ku.o _ _ _ _ lU (abn w10 W9.heap.size _ _ _ _ _ _ _ _ _ _ _ _ _ _ _ _ (fun _=>.inr afp))⟩
            case rest=>
             obtain ⟨rb,rfl,hrb,x91,x92⟩:=hcut;have lU:=hid x92;clear x92;have Ku:=hid x91;clear x91;clear  wT YB Pd KH x0 x1 x2 x3 x4 x5 x6 x7 x8 x9;obtain ⟨rp,pM⟩:∃ r:RP,r=⟨t',q.aV,sv.aH,sv.key,0,q.bS,0,t.aM,0⟩:=⟨_,rfl⟩
             have YC:mU wc rb rp:=(by rw[pM];exact Ku.o.range);have U9:Live wc rb 15:=Di Ku.o 15 (bd 15);by_cases Er:M'.aO.length<24
             ·obtain ⟨ao,cap,hc⟩:=Kq lU.o.dF;have HD:=hid (O1 hb g rb M'.aO.length cap ao rp wc lU.o.hear.c3 Er hc YC U9);rw[if_pos Er] at Vt;clear hc YC U9 pM Er
              go_wp2_with (first
               | (go_at_call 182;refine HD.o.mono ?_;clear HD;rintro r ZQ ⟨rfl,Va⟩;have xH:=hid Va;clear Va))
              go_meet;have hS:=ku.o _ _ _ _ lU.o (xH.o.mono (fun _ _ _ e=>.inr afp));exact ⟨_,_,rfl,⟨by decide,by decide⟩,Vt.o,hS.hear,hS.dF,hS.r,hS.big,hS.cf,hS.j⟩
             ·obtain ⟨qd,hqd,hc,hcl,hcm,hcr,hcL⟩:=FO lU.o.dF afp;have hdp:=uK.o.Kn qd hqd;have hgw:=HN.o.2;have HD:=hid (Km hb g rb qd M'.aO M'.aO.length rp wc lU.o.hear.c3 (hid rfl) afp hcl hcm hc (by have:=lU.o.dF.live;rwa [cC] at this) hcr hdp.1 (hcL.lt) YC U9 afp (by have:=HN.o.1;omega) uK.o.hbg);have ZR:=hid (fun W' off=>Dh (W':=W') (rb:=rb) (off:=off) lU.o.dF afp hcl hcm hcr hcL);rw[if_neg Er] at Vt;obtain ⟨ao,cap,hv,hsl⟩:=vD lU.o.r;subst hv;have c2:=lU.o.hear.c2;have Hrp:=hid pM;have Hqd:=hid hqd;have Hdp:=hid hdp;have HHr:Hid (hb≠rb):=(by have:=HN.o.1;exact hid afp);have HLc:=hid U9.lt;have HOr:Hid (Off pr rb):=fun p hp e=>by have:=abo.o p hp;omega
              have abz:Hid (∀ W,mU W rb (rp.drawn (eO M'.aO 0) (eO M'.aO 1) (eO M'.aO 2))->Out W (.slice ao 0 cap) pr []->rb<W.heap.size->Calls prog 189 #[.pointer (some ⟨rb,0,none⟩),.slice ao 0 cap] W fun e w'=>∃ v',e = .returned v'/\aU W w' v' pr ([]++(rp.drawn (eO M'.aO 0) (eO M'.aO 1) (eO M'.aO 2)).uB 13 5)):=
               fun W h1 h2 h3=>zB (.slice ao 0 cap) pr [] rb _ W h2 h1 h3 HOr.o (Q9 Hrp.o HGI.o.1 HQ.o.2.2.1 (uK.o.rQ sv (lF wS.o.2)) (kT wS.o.2) (by rw[HGI.o.2,<-kT wS.o.1];exact (uK.o.rQ cl (lF wS.o.1)).name)) aft
              clear hc hcl hcm hcr hcL hdp hgw YC U9 pM hqd Er
              go_wp2_with (first
               | (go_at_call 182;refine HD.o.mono ?_;clear HD;rintro r ZQ ⟨rfl,Vb,Vd,Va⟩;have abA:=hid Vb;have abB:=hid Vd;have xH:=hid Va;clear Vb Vd Va;have c2':=xH.o.cell c2 (fun e=>by rcases e with ⟨e,_⟩ | e;exact uK.o.hbg e;exact HHr.o e);have HLt:=hid (fW HLc.o xH.o.size))
               | (go_at_call 189;refine (abz.o _ abA.o (lU.o.r.cf xH.o (fun _ _ j hj=>absurd hj aft)) HLt.o).mono ?_;rintro r w12 ⟨v',rfl,M12⟩;have abC:=hid M12;clear M12))
              first | go_ret|(rw[Exit.noGoto_ret];go_ret)
              refine ⟨_,rfl,?_⟩;rw[Vt.o];obtain ⟨off,k1,k2,k3⟩:=abB.o;have hM:=abC.o;rw[NH Hrp.o (kT wS.o.2)] at hM;exact Rb lU.o.big lU.o.cf xH.o afp U4.o lU.o.j hM uK.o (ZR.o ZQ off k1 k2 k3 xH.o Hdp.o.1 (by have:=Hdp.o.2.2.1;omega) (by have:=HN.o.2;omega)) Hqd.o rfl
        ·have IP:=hid (O3 y x now 7 6 2 1 afq afq afq afq);have mg:Hid (FR=(bu now (dV y x now 7 6 2 1),M')):=by
          rw[yV.o,Q7 MN.o (eK.2 KG.o) af0 af2 hpc];exact rfl
         generalize dV y x now 7 6 2 1=pcd at *;go_wp2_with fail;go_meet;exact ⟨_,_,rfl,IP.o,mg.o,xP.o.hear,xP.o.dF,xP.o.r,xP.o.big,xP.o.cf,xP.o.j⟩
 case rest=>
  obtain ⟨code,M1,rfl,hcd,x91,hH,x92,hO,x93,x94,x95⟩:=hcut;have HJc:=hid x95;clear x95;have HC:=hid x94;clear x94;have HB:=hid x93;clear x93;have HD:=hid x92;clear x92;have yV:=hid x91;clear x91;have abD:=hid (xG hb g T fv ro rr pr now code _ hH hO uK.o.prH HQ.o.1 hcd);clear hH hO hcd;go_wp2_with (first|(go_at_call 143;refine abD.o.mono ?_;rintro e w9 ⟨v',rfl,M9⟩;have Pd:=hid M9;clear M9))
  rw[Exit.noGoto_ret];go_ret;refine ⟨_,rfl,?_⟩;rw[yV.o];exact KE HD.o HB.o HC.o Pd.o uK.o HJc.o
variable {vs:List Int} {b:Nat} {p q:Pc}
theorem Tryz.KI:(prog.info? 43).map (·.size)=some 7:=by kernel_rfl
theorem Tryz.NJ:(prog.info? 283).map (·.size)=some 3:=by kernel_rfl
theorem eZ (h:Live w b 7) (v0 v1 v2 v3 v4 v5 v6:Value):(((((((w.setCell ⟨b,0,none⟩ v0).setCell ⟨b,1,none⟩ v1).setCell ⟨b,2,none⟩ v2).setCell ⟨b,3,none⟩ v3).setCell ⟨b,4,none⟩ v4).setCell ⟨b,5,none⟩ v5).setCell ⟨b,6,none⟩ v6).rangeAt b 0 [v0,v1,v2,v3,v4,v5,v6]:=jg [v0,v1,v2,v3,v4,v5,v6] 0 w b 7 h (bd 7)
theorem gY {v0 v1 v2 v3 v4 v5 v6:Value} (h:w.rangeAt b 0 [v0,v1,v2,v3,v4,v5,v6]):(loadVar 43 ⟨b,0,none⟩).run prog w = .ok (.agg #[v0,v1,v2,v3,v4,v5,v6]) w:=ji h 43 _ underlying43 rfl Tryz.KI
theorem nO {x y z:Value} (h:w.rangeAt b 0 [x,y,z]):(loadVar 283 ⟨b,0,none⟩).run prog w = .ok (.agg #[x,y,z]) w:=ji h 283 _ underlying283 rfl Tryz.NJ
theorem jh {base:Nat} {e:TypeId} {size:Nat} {v:Value} {n:Nat} {xs:List Value} (h:w.ownsRow base e size v n xs) (hn:0<n):∃ g c,v = .slice (some ⟨g,0,none⟩) n c/\w.rangeAt g 0 xs/\base<=g:=by
 have hlt:=h.lt;rcases h.2 with ⟨hv,hz⟩ | ⟨g,cp,cur,hv,hb,hg,hnc,hcm,hcs,htk⟩
 ·omega
 ·subst hv;refine ⟨g,cp,rfl,fun j u hu=>?_,(hlt g rfl).1⟩;rw[cC];rw[<-htk] at hu;have hj:j<n*size:=by
   have:=(cq.1 hu).1;rw[cG] at this;omega
  exact aff
theorem NK {α:Type} {l:List α} (h:l.length=7):∃ a b c d e f g,l=[a,b,c,d,e,f,g]:=by
 match l,h with
 | [a,b,c,d,e,f,g],_=>exact ⟨a,b,c,d,e,f,g,rfl⟩
theorem qi.two (h:qi [p,q] vs):∃ a b,vs=[a,b]/\ik p a/\ik q b:=by
 match vs,h with
 | [a,b],h=>exact ⟨a,b,rfl,h.1,h.2.1⟩
theorem qi.four {r s:Pc} (h:qi [p,q,r,s] vs):∃ a b c d,vs=[a,b,c,d]/\ik p a/\ik q b/\ik r c/\ik s d:=by
 match vs,h with
 | [a,b,c,d],h=>exact ⟨a,b,c,d,rfl,h.1,h.2.1,h.2.2.1,h.2.2.2.1⟩
theorem qi.five {r s t:Pc} (h:qi [p,q,r,s,t] vs):∃ a b c d e,vs=[a,b,c,d,e]/\ik p a/\ik q b/\ik r c/\ik s d/\ik t e:=by
 match vs,h with
 | [a,b,c,d,e],h=>exact ⟨a,b,c,d,e,rfl,h.1,h.2.1,h.2.2.1,h.2.2.2.1,h.2.2.2.2.1⟩
theorem Dq (ps:List mW) (h:ps.length≠3):sF ps=none:=by
 unfold sF;match ps with
 | []=>rfl
 | [p]=>show (di p).bind _=none;cases di p <;> rfl
 | [p,q]=>
  exact adF
 | [p,q,r]=>exact absurd rfl h
 | p::q::r::s::ps=>
  show (di p).bind _=none;cases di p with
  | none=>rfl
  | some n=>
   show (bF q).bind _=none;cases bF q with
   | none=>rfl
   | some z=>show (bF r).bind _=none;cases bF r <;> rfl
theorem lV {α β:Type} (f:mW->Option α) (k:α->List mW->Option β) (ps:List mW) (h:∀ a r,k a r=none\/r.length+1≠ps.length):bW f k ps=none:=by
 cases ps with
 | nil=>rfl
 | cons p ps=>
  show (f p).bind _=none;cases f p with
  | none=>rfl
  | some a=>
   rcases h a ps with h | h
   ·exact h
   ·exact absurd rfl h
theorem Rc {β:Type} (b:β) (ps:List mW) (h:ps.length≠0):wF b ps=none:=by
 unfold wF;rw[if_neg (fun e=>h (by rw[e];rfl))]
theorem AX (ps:List mW) (h:ps.length≠7):jo ps=none:=by
 unfold jo;refine lV _ _ _ fun _ r1=>?_;by_cases h1:r1.length+1=ps.length
 ·refine .inl (lV _ _ _ fun _ r2=>?_);by_cases h2:r2.length+1=r1.length
  ·refine .inl (lV _ _ _ fun _ r3=>?_);by_cases h3:r3.length+1=r2.length
   ·refine .inl (lV _ _ _ fun _ r4=>?_);by_cases h4:r4.length+1=r3.length
    ·refine .inl (lV _ _ _ fun _ r5=>?_);by_cases h5:r5.length+1=r4.length
     ·refine .inl (lV _ _ _ fun _ r6=>?_);by_cases h6:r6.length+1=r5.length
      ·refine .inl (lV _ _ _ fun _ r7=>?_);by_cases h7:r7.length+1=r6.length
       ·exact .inl (Rc _ _ afp)
       ·exact .inr h7
      ·exact .inr h6
     ·exact .inr h5
    ·exact .inr h4
   ·exact .inr h3
  ·exact .inr h2
 ·exact .inr h1
variable {dS:Nat->Nat->Prop} {po:Option Pl} {S:Source} {v:Value}
theorem VZ {z:List UInt8} (h:Bs S v z) (hs:At w S.1 S.2):∃ ao cap,v = .slice ao z.length cap/\z.length<=cap/\At w ao z/\∀ b off,ao=some ⟨b,off,none⟩->∀ j,j<z.length->∃ off',S.1=some ⟨b,off',none⟩/\off'<=off+j/\off+j<off'+S.2.length:=by
 obtain ⟨ao,cap,h1,h2,_,_,h5⟩:=h;refine ⟨ao,cap,h1,h2,h5 w hs,fun b off hao j hj=>Classical.byContradiction fun hno=>?_⟩;have key:At (w.setCell ⟨b,off+j,none⟩ (.bool true)) S.1 S.2:=by
  intro i hi;obtain ⟨b',off',e,hc⟩:=hs i hi;refine ⟨b',off',e,?_⟩;rw[World.cell?_setCell_other _ _ _ _ (fun e'=>?_)]
  ·exact hc
  ·have e1:=eh Addr.block e';have e2:=eh Addr.off e';simp at e1 e2;exact hno ⟨off',by rw[e,e1],by omega,by omega⟩
 obtain ⟨b1,o1,e1,c1⟩:=h5 w hs j hj;obtain ⟨b2,o2,e2,c2⟩:=h5 _ key j hj;rw[hao] at e1 e2;injection e1 with e1;injection e1 with e1a e1b _;injection e2 with e2;injection e2 with e2a e2b _;subst e1a e1b e2a e2b;rw[World.cell?_setCell_same _ _ _ c1] at c2;injection c2 with c2;cases c2
def Apart (S:Source) (po:Option Pl) (dS:Nat->Nat->Prop):Prop:=∀ b off,S.1=some ⟨b,off,none⟩->∀ j,j<S.2.length->¬ Pl.has po b (off+j)/\¬ dS b (off+j)
theorem zU {z:List UInt8} (h:Bs S v z) (hs:At w S.1 S.2) (ha:Apart S po dS):vE w po dS z v:=by
 obtain ⟨ao,cap,h1,h2,h3,h4⟩:=VZ h hs;refine ⟨ao,cap,h1,h2,h3,fun b off e j hj=>?_⟩;obtain ⟨off',e1,l1,l2⟩:=h4 b off e j hj;have:=ha b off' e1 (off+j-off') afp;rw[show off'+(off+j-off')=off+j from by omega] at this;refine ⟨this.1,this.2,?_⟩;obtain ⟨b',o',e',hc⟩:=h3 j hj;rw[e] at e';injection e' with e';injection e' with e1 _ _;subst e1;exact je hc
theorem Ps (bA:List UInt8):(OZ bA).pre=if (AQ bA).1=[] then none else some (CW bA).1:=by
 unfold OZ;with_reducible rfl
theorem V3 (bA:List UInt8) (h:Bs S v (CW bA).1.2) (hs:At w S.1 S.2) (ha:Apart S po dS):O4 w po dS (OZ bA) (CW bA).1.1 v:=by
 have hp:=Ps bA;unfold O4;rw[hp];generalize (CW bA).1=P at *;generalize (AQ bA).1=c at *;clear hp;obtain ⟨n,z⟩:=P;by_cases hc:c=[]
 ·rw[if_pos hc];exact .inl rfl
 ·rw[if_neg hc];obtain ⟨ao,cap,h1,h2,h3,h4⟩:=zU (z:=z) h hs ha;exact .inr ⟨z,ao,cap,rfl,h1,h2,h3,h4⟩
theorem N8 (bA:List UInt8) (v:Value):uf bA v=(OZ bA).cells (CW bA).1.1 v:=by
 have h1:(OZ bA).pre.isSome=decide ((AQ bA).1≠[]):=by
  rw[Ps];generalize (AQ bA).1=c;generalize (CW bA).1=P;by_cases hc:c=[]
  ·rw[if_pos hc];simp[hc]
  ·rw[if_neg hc];simp[hc]
 unfold FQ.cells;rw[h1];unfold uf OZ;with_reducible rfl
theorem Rv (bA:List UInt8) (v u:Value):zH bA v u=(WU bA).cells v u:=by
 unfold zH NQ.cells WU;with_reducible rfl
theorem Fin.before {W w':World} {g:Nat} {pr dp:Option Pl} {v':Value} {R:List UInt8×DM} (h:Fin W w' g po pr dp dS v' R) (k:w.grownBy W none):Fin w w' g po pr dp dS v' R:=by
 obtain ⟨⟨p',o1,o2⟩,h2,h3⟩:=h;exact ⟨⟨p',o1,o2.imp id (fun q=>lK q k.size)⟩,h2,CF.before k h3⟩
theorem Y2 (bA:List UInt8):∃ (q:FQ) (pn:Int) (z:List UInt8) (ok:Bool) (FC:Value->List Value),OZ bA=q/\tY bA=ok/\(CW bA).1.2=z/\uf bA=FC/\(∀ v,FC v=q.cells pn v)/\(∀ S v w po dS,Bs S v z->At w S.1 S.2->Apart S po dS->O4 w po dS q pn v)/\In64 q.bS/\In64 q.kX/\In64 q.dJ/\In64 q.bV/\In64 q.aL:=by
 with_reducible refine ⟨OZ bA,(CW bA).1.1,(CW bA).1.2,tY bA,uf bA,rfl,rfl,rfl,rfl,N8 bA,fun S v w po dS h1 h2 h3=>V3 bA h1 h2 h3,?_⟩
 have h:∀ j,In64 (yQ bA j):=fun j=>by unfold yQ;exact sJ _
 unfold OZ;dsimp only;with_reducible exact ⟨h 0,h 1,h 2,h 3,h 4⟩
theorem Y3 (bA:List UInt8):∃ (q:NQ) (z u:List UInt8) (ok:Bool) (NC:Value->Value->List Value),WU bA=q/\yS bA=ok/\(LQ bA).1.2=z/\(UC bA).1=u/\zH bA=NC/\(∀ v x,NC v x=q.cells v x)/\q.dQ=z/\q.proof=u/\In64 q.bS/\In64 q.dJ/\In64 q.bV/\In64 q.aL:=by
 with_reducible refine ⟨WU bA,(LQ bA).1.2,(UC bA).1,yS bA,zH bA,rfl,rfl,rfl,rfl,rfl,Rv bA,?_⟩
 have h:∀ j,In64 (Bi bA j):=fun j=>by unfold Bi;exact sJ _
 unfold WU;dsimp only;with_reducible exact ⟨rfl,rfl,h 0,h 1,h 2,h 3⟩
theorem N9 (M:DM) (now:Int) (bA:List UInt8):fw M now bA=if tY bA=true then dC M now (firstM M now (OZ bA)) else if yS bA=true then uX M now (WU bA) else (bu now 60,M):=by
 unfold fw;rw[M7,QH];generalize tY bA=a;generalize yS bA=b;generalize OZ bA=q;generalize WU bA=q2;cases a <;> cases b <;> rfl
theorem aeI {p:Prop} (h:p:=by
 go_ret
 exact ⟨_,rfl,by rw[<-HR.o];exact r2⟩):p:=h
theorem Il (g T:Nat) (fv rv ro rr:Value) (po pr dp:Option Pl) (J:World->Prop) (dS rP:Nat->Nat->Prop) (M:DM) (now:Int) (S:Source) (bA:List UInt8) (n:Nat) (ao:Option Addr) (cap:Nat) (w:World)
  (SS:HS (w.heap.size+1) g (w.heap.size+2) T fv rv po pr dp J dS rP M.bg) (hd:dO w g 0 dp M) (hJ:J w) (ho:Out w ro po []) (hr:Out w rr pr []) (hn:Hid (bA.length=n)) (hs:At w S.1 S.2) (hb:Bs S (.slice ao n cap) bA) (ha:Apart S po dS) (dm:In64 now) (hsk:In64 M.aC) (zo:∀ y∈M.aN,In64 y.time) :
  Calls prog 97 #[.pointer (some ⟨g,0,none⟩),.agg #[.iface T fv,ro,rr],.int .i64 now,.slice ao n cap] w fun e w'=>∃ v',e = .returned v'/\Fin w w' g po pr dp dS v' (fw M now bA)/\J w':=by
 rw[N9]
 obtain ⟨roa,roc,hro,_⟩:=vD ho
 obtain ⟨rra,rrc,hrr,_⟩:=vD hr
 subst hro hrr
 obtain ⟨W0,hW0⟩:=ar ((w.alloc (.cells #[.iface T fv,.slice roa 0 roc,.slice rra 0 rrc] 217)).alloc (.cells #[.iface T fv,.slice roa 0 roc,.slice rra 0 rrc,.pointer (some ⟨g,0,none⟩),.int .i64 now] 265))
 have G0:w.grownBy W0 none:=by rw[hW0];exact aR (aE w _ none) _
 have s0:W0.heap.size=w.heap.size+2:=by rw[hW0,ch,ch]
 have H0:xE W0 (w.heap.size+1) g T fv (.slice roa 0 roc) (.slice rra 0 rrc) now:=by
  have h:=aW (w.alloc (.cells #[.iface T fv,.slice roa 0 roc,.slice rra 0 rrc] 217)) #[.iface T fv,.slice roa 0 roc,.slice rra 0 rrc,.pointer (some ⟨g,0,none⟩),.int .i64 now] 265;rw[ch,<-hW0] at h;exact ⟨h 0 _ rfl,h 1 _ rfl,h 2 _ rfl,h 3 _ rfl,h 4 _ rfl⟩
 have C1:=hid (Ev S bA n ao cap W0 hn (hs.below G0) hb)
 have C2:=hid (fun W (hW:At W S.1 S.2)=>Hg S bA n ao cap W hn hW hb)
 obtain ⟨q,pn,z,ok1,FC,hq,hok,hz,hFC,f1,f2,i1,i2,i3,i4,i5⟩:=Y2 bA
 obtain ⟨nq,nz,nu,ok2,NC,hnq,hok2,hnz,hnu,hNC,n1,n2,n3,m1,m2,m3,m4⟩:=Y3 bA
 rw[hok,hz,hFC] at C1
 simp only[hok2,hnz,hnu,hNC] at C2
 rw[hok,hq,hok2,hnq]
 clear hq hok hz hFC hnq hok2 hnz hnu hNC
 have HQ:Hid (∀ W,W0.grownBy W none->HS (w.heap.size+1) g (w.heap.size+2) T fv rv po pr dp J dS rP M.bg/\xE W (w.heap.size+1) g T fv (.slice roa 0 roc) (.slice rra 0 rrc) now/\dO W g 0 dp M/\J W/\Out W (.slice roa 0 roc) po []/\Out W (.slice rra 0 rrc) pr []/\At W S.1 S.2/\w.heap.size+2<=W.heap.size/\w.grownBy W none):=by
  intro W k;have k2:=aa G0 k;exact ⟨SS,H0.grown k,hd.grown k2,SS.finds.stay _ _ hJ (CF.bN k2 _),ho.grown k2,hr.grown k2,hs.below k2,by have:=k.size;omega,k2⟩
 have CF1:Hid (∀ (v:Value) (W:World),W0.grownBy W none->Bs S v z->Calls prog 140 #[.pointer (some ⟨w.heap.size+1,0,none⟩),.agg (FC v).toArray] W fun e w'=>∃ v',e = .returned v'/\Fin w w' g po pr dp dS v' (dC M now (firstM M now q))/\J w'):=by
  intro v W k hv;obtain ⟨q1,q2,q3,q4,q5,q6,q7,q8,q9⟩:=HQ.o W k;rw[f1];refine (AV (w.heap.size+1) g (w.heap.size+2) T fv rv _ _ po pr dp J dS rP M now pn q v W q1 q2 q3 q4 q5 q6 (f2 S v W po dS hv q7 ha) dm hsk i1 i2 i3 i4 i5 q8).mono ?_;rintro e w' ⟨v',r1,r2,rj⟩;exact ⟨v',r1,r2.before q9,rj⟩
 have CN1:Hid (∀ (v u:Value) (W:World),W0.grownBy W none->Bs S v nz->Bs S u nu->Calls prog 142 #[.pointer (some ⟨w.heap.size+1,0,none⟩),.agg (NC v u).toArray] W fun e w'=>∃ v',e = .returned v'/\Fin w w' g po pr dp dS v' (uX M now nq)/\J w'):=by
  intro v u W k hv hu;obtain ⟨q1,q2,q3,q4,q5,q6,q7,q8,q9⟩:=HQ.o W k;rw[n1];refine (Dp (w.heap.size+1) g (w.heap.size+2) T fv rv _ _ po pr dp J dS rP M now nq v u W q1 q2 q3 q4 q5 q6 (by rw[n2];exact zU hv q7 ha) (by rw[n3];exact zU hu q7 ha) dm hsk zo m1 m2 m3 m4 q8).mono ?_;rintro e w' ⟨v',r1,r2,rj⟩;exact ⟨v',r1,r2.before q9,rj⟩
 have CR1:Hid (∀ (W:World),W0.grownBy W none->Calls prog 143 #[.pointer (some ⟨w.heap.size+1,0,none⟩),.int .i64 60] W fun e w'=>∃ v',e = .returned v'/\Fin w w' g po pr dp dS v' (bu now 60,M)/\J w'):=by
  intro W k;obtain ⟨q1,q2,q3,q4,q5,q6,q7,q8,q9⟩:=HQ.o W k;refine (xG (w.heap.size+1) g T fv _ _ pr now 60 W q2 q6 q1.prH dm ⟨by decide,by decide⟩).mono ?_;rintro e w' ⟨v',r1,r2⟩;obtain ⟨p',o1,o2,o3,_⟩:=r2;have hfin:Fin W w' g po pr dp dS v' (bu now 60,M):=by
   refine ⟨⟨p',o1,o3⟩,⟨dp,q3.cf o2 (fun j _ hj e=>q1.prG j afp e) (fun q hq j _ e=>((q1.Kn q hq).2.2.2 _).2.2 e),fun q' hq'=>⟨q',hq',rfl⟩⟩,o2.mono (fun _ _ _ e=>.inr (.inr e))⟩
  exact ⟨v',r1,hfin.before q9,q1.finds.stay _ _ q4 (o2.mono (fun b y _ e=>q1.prJ b y e))⟩
 have HAt:Hid (∀ W,W0.grownBy W none->At W S.1 S.2):=fun W k=>(HQ.o W k).2.2.2.2.2.2.1
 obtain ⟨R,hR⟩:=aq ((if ok1=true then dC M now (firstM M now q) else if ok2=true then uX M now nq else (bu now 60,M)))
 rw[hR]
 have HR:=hid hR
 clear hR
 have HW0:=hid hW0
 clear HQ hW0 G0 s0 H0 SS hd hJ ho hr hs hb ha dm hsk zo f1 f2 n1 n2 n3 i1 i2 i3 i4 i5 m1 m2 m3 m4 hn
 go_enter func97,ntmps97
 go_wp2_with (first|(rw[<-HW0.o];fail_if_success done) | fail)
 refine C1.o.mono ?_
 rintro e w1 ⟨cs,rfl,k1,⟨k2,k3⟩,g1⟩
 have L1:Live (w1.alloc (.cells tZ 269)) w1.heap.size 10:=Live.new w1 tZ 269
 have h1:∀ v∈cs.toList,v.oneCell'=true:=fun v hv=>by rw[List.all_eq_true] at k3;exact k3 v hv
 have hst:=jq (P:=prog) cs.toList L1 (by rw[db,k2];exact bd _) h1
 have RA:=World.rangeAt_setCells_same (w1.alloc (.cells tZ 269)) w1.heap.size 0 cs.toList (L1.there 0 _ (by rw[db,k2];omega))
 have Eu:=hid (And.intro RA (show (prog.info? 269).map (·.size)=some cs.toList.length by rw[Tryz.FH,db,k2]))
 have jC:=hid (aa g1 (ma w1.heap.size (bd _) cs.toList 0 _ (aE w1 (.cells tZ 269) none)))
 have HK1:=hid k1
 clear C1 k1 k3 g1 HW0 RA L1 h1
 cases ok1 with
 | true=>
  obtain ⟨v,hv,hB⟩:=HK1.o rfl;have C3:=hid (CF1.o v _ jC.o hB);rw[<-hv] at C3;rw[if_pos rfl] at HR;clear HK1 hv hB C2 CN1 CR1 CF1;go_wp2_with (first|(refine wpList_load_mid rfl 269 _ rfl w1.heap.size 0 rfl cs.toList _ Eu.o.1 underlying269 rfl Eu.o.2 ?_)|(go_at_call 140;refine C3.o.mono ?_;rintro e w' ⟨v',rfl,r2⟩))
  exact aeI
 | false=>
  rw[if_neg afq] at HR;have C4:=hid (C2.o _ (HAt.o _ jC.o));clear C2 HK1 CF1 Eu;go_wp2_with fail;refine C4.o.mono ?_;rintro e w2 ⟨cs2,rfl,k1,⟨k22,k3⟩,g2⟩;have L2:Live (w2.alloc (.cells vz 276)) w2.heap.size 9:=Live.new w2 vz 276;have h2:∀ v∈cs2.toList,v.oneCell'=true:=fun v hv=>by rw[List.all_eq_true] at k3;exact k3 v hv
  have abS:=jq (P:=prog) cs2.toList L2 (by rw[db,k22];exact bd _) h2;have RA:=World.rangeAt_setCells_same (w2.alloc (.cells vz 276)) w2.heap.size 0 cs2.toList (L2.there 0 _ (by rw[db,k22];omega));have G8:=hid (And.intro RA (show (prog.info? 276).map (·.size)=some cs2.toList.length by rw[Tryz.J6,db,k22]));have HG2:=hid (aa jC.o (aa g2 (ma w2.heap.size (bd _) cs2.toList 0 _ (aE w2 (.cells vz 276) none))));have ZH:=hid k1;clear C4 k1 k3 g2 jC L2 h2 RA hst;cases ok2 with
  | true=>
   obtain ⟨v,u,hv,hB,hU⟩:=ZH.o rfl;have C3:=hid (CN1.o v u _ HG2.o hB hU);rw[<-hv] at C3;rw[if_pos rfl] at HR;clear ZH hv hB hU CN1 CR1;go_wp2_with (first|(refine wpList_load_mid rfl 276 _ rfl w2.heap.size 0 rfl cs2.toList _ G8.o.1 underlying276 rfl G8.o.2 ?_)|(go_at_call 142;refine C3.o.mono ?_;rintro e w' ⟨v',rfl,r2⟩))
   exact aeI
  | false=>
   rw[if_neg afq] at HR;have C3:=hid (CR1.o _ HG2.o);clear ZH CN1 CR1;go_wp2_with (go_at_call 143;refine C3.o.mono ?_;rintro e w' ⟨v',rfl,r2⟩)
   exact aeI
end Go.Proofs.YteknelimjfgmaaaGreatDoor
