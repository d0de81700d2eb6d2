/-
  
-/
import Derived.Test.YtpibgolaaaemnaaGreatDoorGUPAdmB
import Derived.Deep.CutBlock
namespace Go.Proofs.YtpibgolaaaemnaaGreatDoor
open Go.RowKit
set_option maxRecDepth 100000
theorem Pm (M:DM) (now:Int) (q:NQ):(kL M now q).2.aH=M.aH∧(kL M now q).2.ax=M.ax∧(kL M now q).2.aV=M.aV:=by
 unfold kL
 cases gZ M now q with
 | error c=>exact ⟨rfl,rfl,rfl⟩
 | ok a=>
  obtain ⟨t,p⟩:=a
  simp only[]
  split <;> exact ⟨rfl,rfl,rfl⟩
theorem WI {M:DM} {now:Int} {q:NQ} {t:TK} (h:(kL M now q).1 = .ok t):t.In:=by
 unfold kL gZ at h
 split at h
 ·cases h
 ·rename_i t' p hc
  have ht:t'=t:=by
   by_cases h0:dG M.ax now M.bK p≠0
   ·rw[if_pos h0] at h;cases h
   ·rw[if_neg h0] at h;injection h
  subst ht
  split at hc
  ·cases hc
  ·split at hc
   ·cases hc
   ·split at hc
    ·cases hc
    ·rename_i key _
     split at hc
     ·cases hc
     ·rename_i t2 h2
      have e2:t2.In:=by
       rw[oo] at h2
       split at h2
       ·injection h2 with h2
        rw[←h2]
        exact SQ _
       ·cases h2
      split at hc
      ·cases hc
      ·split at hc
       ·cases hc
       ·split at hc
        ·cases hc
        ·injection hc with hc
         injection hc with hc _
         rw[←hc]
         exact e2
theorem I7 {now c:Int} {q:NQ} {old:TK} {x s:BE} (h:lH now q old x s = .error c):c=33∨c=32∨c=11:=by
 unfold lH vo vw Le at h
 by_cases h32:zg q.aJ=32
 ·rw[if_pos h32] at h
  split at h
  ·injection h with h;omega
  ·cases h
 ·rw[if_neg h32] at h
  by_cases h16:zg q.aJ=16
  ·rw[if_pos h16] at h
   split at h
   ·injection h with h;omega
   ·cases h
  ·rw[if_neg h16] at h
   split at h
   ·injection h with h;omega
   ·cases h
theorem Pn {w W W1 W2:World} {hb g base T rb:Nat} {fv rv v':Value} {po pr dp:Option Pl} {J:World→Prop} {dB oK:Nat→Nat→Prop} {M':DM} {es:List BE} {bs:List UInt8} {qd rH:Pl} (hbig:w.heap.size≤W.heap.size) (hcf:CF w W (exA g po dB)) (k:CF W W1 (fun b y=>b=g∧y=1∨b=rb)) (hrb:w.heap.size≤rb) (hbase:base≤w.heap.size) (hj:J W) (h:aI W1 W2 v' pr bs) (S:HS hb g base T fv rv po pr dp J dB oK es) (hd:cz W1 g 0 (some rH) M') (hdp:dp=some qd) (hg:rH.g=qd.g):Fin w W2 g po pr dp dB v' (bs,M')∧J W2:=by
 obtain ⟨p',h1,h2,h3,_⟩:=h
 refine ⟨?_,S.finds.stay _ _ (S.finds.stay _ _ hj (k.mono (fun b y _ e=>by rcases e with e | e;rw[e.1,e.2];exact S.XU;rw[e];exact S.xS _ _ (by omega)))) (h2.mono (fun b y _ e=>S.prJ b y e))⟩
 refine ⟨⟨p',h1,h3.imp id (fun q=>jK q (Nat.le_trans hbig k.size))⟩,⟨some rH,hd.cf h2 (fun j _ hj e=>S.prG j (by omega) e) (fun q hq j _ e=>?_),fun q' hq'=>⟨qd,hdp,?_⟩⟩,?_⟩
 ·injection hq with hq
  subst hq
  rw[hg] at e
  exact ((S.IP qd hdp).2.2.2 _).2.2 e
 ·injection hq' with hq'
  subst hq'
  exact hg.symm
 ·exact ((hcf.mono (fun _ _ _ e=>by rcases e with e | e;exact .inr (.inl e);exact .inl ⟨e.1,.inr e.2⟩)).trans k (fun i o hi e=>by rcases e with e | e;exact .inl ⟨e.1,.inl e.2⟩;omega)).trans h2 (fun _ _ _ e=>.inr (.inr e))
theorem sW.grown {w w':World} {po:Option Pl} {dB:Nat→Nat→Prop} {z:List UInt8} {v:Value} (h:sW w po dB z v) (k:w.grownBy w' none):sW w' po dB z v:=by
 obtain ⟨ao,cap,h1,h2,h3,h4⟩:=h
 exact ⟨ao,cap,h1,h2,h3.below k,fun b off e j hj=>⟨(h4 b off e j hj).1,(h4 b off e j hj).2.1,Nat.lt_of_lt_of_le (h4 b off e j hj).2.2 k.size⟩⟩
theorem X7 {w:World} {b:Nat} (h:Live w b 7):(∃ d,w.cell? ⟨b,0,none⟩=some d)∧(∃ d,w.cell? ⟨b,1,none⟩=some d)∧(∃ d,w.cell? ⟨b,2,none⟩=some d)∧(∃ d,w.cell? ⟨b,3,none⟩=some d)∧(∃ d,w.cell? ⟨b,4,none⟩=some d)∧(∃ d,w.cell? ⟨b,5,none⟩=some d)∧(∃ d,w.cell? ⟨b,6,none⟩=some d)∧w.frozen? ⟨b,0,none⟩=false∧w.frozen? ⟨b,1,none⟩=false∧w.frozen? ⟨b,2,none⟩=false∧w.frozen? ⟨b,3,none⟩=false∧w.frozen? ⟨b,4,none⟩=false∧w.frozen? ⟨b,5,none⟩=false∧w.frozen? ⟨b,6,none⟩=false:=by
 have hc:∀ j,j<7→∃ v,w.cell? ⟨b,j,none⟩=some v:=fun j hj=>Option.isSome_iff_exists.1 (h.some j hj)
 exact ⟨hc 0 (by decide),hc 1 (by decide),hc 2 (by decide),hc 3 (by decide),hc 4 (by decide),hc 5 (by decide),hc 6 (by decide),h.frozen 0,h.frozen 1,h.frozen 2,h.frozen 3,h.frozen 4,h.frozen 5,h.frozen 6⟩
set_option maxHeartbeats 20000000 in
theorem BA (hb g base T:Nat) (fv rv ro rr:Value) (po pr dp:Option Pl) (J:World→Prop) (dB oK:Nat→Nat→Prop) (M:DM) (now:Int) (q:NQ) (v u:Value) (w:World) (S:HS hb g base T fv rv po pr dp J dB oK M.aH) (h:vz w hb g T fv ro rr now) (hd:cz w g 0 dp M) (hJ:J w) (ho:Out w ro po []) (hr:Out w rr pr []) (hv:sW w po dB q.iO v) (hu:sW w po dB q.proof u) (dC:In64 now) (hsk:In64 M.ax) (yN:∀ y∈M.bK,In64 y.time) (hq1:In64 q.aB) (hq2:In64 q.dF) (hq3:In64 q.bQ) (hq4:In64 q.aJ) (hbase:base≤w.heap.size) :
  Calls Tryz.prog 64 #[.pointer (some ⟨hb,0,none⟩),.agg (q.cells v u).toArray] w fun e w'=>∃ v',e = .returned v'∧Fin w w' g po pr dp dB v' (pJ M now q)∧J w':=by
 have hbb:=S.hbb
 have hgb:=S.gb
 obtain ⟨W0,hW0⟩:∃ W,W=((w.alloc (.cells (q.cells v u).toArray 168)).alloc (.cells ik 211)).alloc (.cells ik 211):=⟨_,rfl⟩
 have G0:w.grownBy W0 none:=by rw[hW0];exact aC (aC (World.grownBy_alloc w _ none) _) _
 have RQ:W0.rangeAt w.heap.size 0 (q.cells v u):=by rw[hW0];exact fH (aQ w (q.cells v u).toArray _) (aC (World.grownBy_alloc _ _ none) _)
 have L1:Live W0 (w.heap.size+1) 7:=by
  have h:=(Live.new (w.alloc (.cells (q.cells v u).toArray 168)) ik 211).grown (World.grownBy_alloc _ (.cells ik 211) none)
  rw[World.size_alloc] at h
  rw[hW0]
  exact h
 have L2:Live W0 (w.heap.size+2) 7:=by
  have h:=Live.new ((w.alloc (.cells (q.cells v u).toArray 168)).alloc (.cells ik 211)) ik 211
  rw[World.size_alloc,World.size_alloc] at h
  rw[hW0]
  exact h
 have hpo:∀ b y,Pl.has po b y→b<w.heap.size:=fun b y e=>ho.lt e
 have Tg:∀ p,pr=some p→p.g<w.heap.size:=fun p hp=>hr.Et p hp
 obtain ⟨AR,Wz⟩:∃ R,kL M now q=R:=⟨_,rfl⟩
 have hAd:=Pb hb g base T fv rv ro rr po pr dp J dB oK M now q v u W0 S (h.grown G0) (hd.grown G0) (S.finds.stay _ _ hJ (CF.aW G0 _)) (ho.grown G0) (hr.grown G0) (hv.grown G0) (hu.grown G0) dC yN (Nat.le_trans hbase G0.size)
 rw[Wz] at hAd
 obtain ⟨m0,m1,m2,m3,m4,m5,m6,m7,hm⟩:=lX AR.1
 rw[hm] at hAd
 have hNX:∀ W,cz W g 0 dp AR.2→CF W0 W (fun b y=>exA g po dB b y∨b=w.heap.size+1)→J W→∀ old,W.rangeAt (w.heap.size+1) 0 old→F9 J w W hb g T fv ro rr po pr dp dB AR.2 now (q.cells v u) old:=by
  intro W hD hC hjW old hO
  refine ⟨⟨(h.grown G0).cf hC ?_,hD,(ho.grown G0).cf hC (fun _ _ j hj=>absurd hj (by simp)),(hr.grown G0).cf hC (fun _ _ j hj=>absurd hj (by simp)),hC.range RQ ?_,hO,L2.cf hC,Nat.le_trans G0.size hC.size,(CF.before G0 hC).mono (fun b _ hb e=>by rcases e with e | e;exact e;omega)⟩,hjW⟩
  ·rintro y (((e | e) | e) | e)
   ·exact S.hbF y e
   ·exact lM S.poH y e
   ·exact S.hbg e.1
   ·omega
  ·rintro j _ (((e | e) | e) | e)
   ·exact S.O3 _ _ (by omega) e
   ·have:=hpo _ _ e;omega
   ·omega
   ·omega
 have iM:Hid (∀ W W' M1 old,F9 J w W hb g T fv ro rr po pr dp dB M1 now (q.cells v u) old→CF W W' (fun b y=>Pl.has po b y∨w.heap.size+1<b)→F9 J w W' hb g T fv ro rr po pr dp dB M1 now (q.cells v u) old):=fun W W' M1 old h k=>h.step S k hbase hpo
 have xU:Hid (∀ W W' M1 old,F9 J w W hb g T fv ro rr po pr dp dB M1 now (q.cells v u) old→CF W W' dB→J W'→F9 J w W' hb g T fv ro rr po pr dp dB M1 now (q.cells v u) old):=fun W W' M1 old h k j=>⟨h.toNX.step S (k.mono (fun _ _ _ e=>.inl (.inl e))) hbase hpo,j⟩
 have Tj:=hid hbase
 have HNX:=hid hNX
 have HAd:=hid hAd
 have HM:=hid hm
 have J5:=hid Wz
 have yx:=hid L1
 have HST:=hid S.finds.stay
 have rW:=hid S
 have HW0:=hid hW0
 have mD:=hid G0
 have MM:=hid hpo
 have Zi:=hid Tg
 have X8:Hid (AR.2.aH=M.aH∧AR.2.ax=M.ax∧AR.2.aV=M.aV):=by rw[←Wz];exact hid (Pm M now q)
 have HQ:Hid (In64 now∧In64 M.ax∧In64 q.aB∧In64 q.dF∧In64 q.bQ∧In64 q.aJ):=⟨dC,hsk,hq1,hq2,hq3,hq4⟩
 have HN:Hid (hb<w.heap.size∧g<w.heap.size):=⟨by omega,by omega⟩
 have HR0:=hid RQ
 obtain ⟨FR,XX⟩:∃ R,pJ M now q=R:=⟨_,rfl⟩
 rw[XX]
 have Zk:=hid XX
 have hNA:=SN M now q
 rw[XX,Wz] at hNA
 have HNA:=hid hNA
 clear hNA XX Wz hm hAd hNX h hd hJ ho hr hv hu dC hsk yN hq1 hq2 hq3 hq4 hW0 G0 RQ L1 L2 hpo Tg S
 go_enter Tryz.func64,Tryz.ntmps64
 go_wp2_with fail
 go_step3
 go_wp2_with fail
 go_step3
 go_upto_block 0 with fail
 go_cut [5] (fun c wx=>∃ code M1,c = .int .i64 code∧In64 code∧FR=(aL now code,M1)∧vz wx hb g T fv ro rr now∧cz wx g 0 dp M1∧Out wx rr pr []∧w.heap.size≤wx.heap.size∧CF w wx (exA g po dB)∧J wx)
 case first=>
  go_upto_region 3 with fail
  rw[←HW0.out]
  obtain ⟨k0,k1,k2,k3,k4,k5,k6,k7,k8⟩:=jl HR0.out
  go_cut [5] (fun c wx=>c = .int .i64 m7∧F9 J w wx hb g T fv ro rr po pr dp dB AR.2 now (q.cells v u) [.int .i64 m0,.int .u64 m1,.string m2,.int .i64 m3,.int .i64 m4,.int .i64 m5,.int .i64 m6]∧J wx)
  case first=>
   go_wp2_with (first|(go_at_call 99;refine HAd.out.mono ?_;clear HAd;rintro r w1 ⟨rfl,D1,j1,C1⟩;have HD1:=hid D1;have Rx:=hid j1;have wI:=hid C1;have HLv:=hid (yx.out.cf C1);clear D1 j1 C1;obtain ⟨⟨d0,q0⟩,⟨d1,q1⟩,⟨d2,q2⟩,⟨d3,q3⟩,⟨d4,q4⟩,⟨d5,q5⟩,⟨d6,q6⟩,f0,f1,f2,f3,f4,f5,f6⟩:=X7 HLv.out))
   go_meet
   have C2:=pW w1 (w.heap.size+1) (.int .i64 m0) (.int .u64 m1) (.string m2) (.int .i64 m3) (.int .i64 m4) (.int .i64 m5) (.int .i64 m6)
   have J2:J _:=HST.out _ _ Rx.out (C2.mono (fun b y _ e=>rW.out.xS b y (by omega)))
   refine ⟨rfl,HNX.out _ ?_ ?_ J2 _ (jk [.int .i64 m0,.int .u64 m1,.string m2,.int .i64 m3,.int .i64 m4,.int .i64 m5,.int .i64 m6] 0 w1 (w.heap.size+1) 7 HLv.out (Nat.le_refl 7)),?_⟩
   ·exact HD1.out.cf C2 (fun j _ _ e=>by have:=HN.out.2;omega) (fun p hp j _ e=>by have:=(rW.out.IP p hp).2.2.1;omega)
   ·exact (wI.out.mono (fun _ _ _ e=>.inl e)).trans C2 (fun _ _ _ e=>.inr e)
   ·exact J2
  case rest=>
   obtain ⟨rfl,hX,hj⟩:=hcut
   have CU:=hid hX
   have Rx:=hid hj
   clear hX hj k0 k1 k2 k3 k4 k5 k6 k7 k8 HAd HNX yx HW0 mD HR0
   obtain ⟨A1,M',hA⟩:∃ a b,AR=(a,b):=⟨AR.1,AR.2,rfl⟩
   subst hA
   cases A1 with
   | error cd=>
    have hcs:=Pj (c:=cd) (by rw[J5.out])
    have Tv:FR=(aL now cd,M'):=HNA.out
    have hm7:m7=cd:=by
     have:=HM.out
     simp only[oq] at this
     injection this with this
     have h2:=congrArg (fun a:Array Value=>a[1]?) this
     simpa using h2.symm
    subst hm7
    have wZ:=hid Tv
    clear Tv HM HNA J5
    rcases hcs with rfl | rfl | rfl | rfl | rfl | rfl | rfl
    all_goals
     go_wp2_with fail
     go_meet
     exact ⟨_,_,rfl,⟨by decide,by decide⟩,wZ.out,CU.out.hear,CU.out.dX,CU.out.r,CU.out.big,CU.out.cf,CU.out.j⟩
   | ok t=>
    have hm:=HM.out
    simp only[oq] at hm
    have Fu:=hid (WI (t:=t) (by rw[J5.out]))
    have Tv:FR=dJ M' now (fV M' now q t):=HNA.out
    have wZ:=hid Tv
    injection hm with hm
    have e0:Value.agg t.cells.toArray=Value.agg #[.int .i64 m0,.int .u64 m1,.string m2,.int .i64 m3,.int .i64 m4,.int .i64 m5,.int .i64 m6]:=Option.some.inj (congrArg (fun a:Array Value=>a[0]?) hm)
    have e1:Value.int .i64 0=Value.int .i64 m7:=Option.some.inj (congrArg (fun a:Array Value=>a[1]?) hm)
    injection e0 with e0
    injection e1 with _ e1
    have e0:t.cells=[.int .i64 m0,.int .u64 m1,.string m2,.int .i64 m3,.int .i64 m4,.int .i64 m5,.int .i64 m6]:=congrArg Array.toList e0
    subst e1
    rw[←e0] at CU
    clear hm e0 Tv HM HNA
    have CU:Hid (F9 J w wc hb g T fv ro rr po pr dp dB M' now (q.cells v u) t.cells):=CU.out
    have hkp:M'.aH=M.aH∧M'.ax=M.ax∧M'.aV=M.aV:=X8.out
    have TF:=hid hkp
    clear hkp X8 J5
    have HAh:Hid (∀ W,F9 J w W hb g T fv ro rr po pr dp dB M' now (q.cells v u) t.cells→Calls Tryz.prog 100 #[.pointer (some ⟨hb,0,none⟩),.int .i64 t.start] W fun e w'=>e = .returned (.bool (decide (aX now M.ax<t.start)))∧∃ m,w'=W.drewN m):=fun W X=>by
     have hs:=X.dX.ax
     rw[TF.out.2.1] at hs
     exact yE hb g now M.ax t.start W X.hear.c3 X.hear.c4 hs HQ.out.1 HQ.out.2.1
    obtain ⟨k0,k1,k2,k3,k4,k5,k6,k7,k8⟩:=jl CU.out.ask
    have t0:wc.cell? ⟨w.heap.size+1,0,none⟩=some (.int .i64 t.ay):=CU.out.old 0 _ rfl
    have t4:wc.cell? ⟨w.heap.size+1,4,none⟩=some (.int .i64 t.start):=CU.out.old 4 _ rfl
    have acF:=hid (ji t.ay 16 4 (by decide) (by decide))
    have acG:=hid (ji q.aJ 32 5 (by decide) (by decide))
    obtain ⟨er,her⟩:∃ b,(aA t.ay 16 && !aA q.aJ 32 || decide (aX now M.ax<t.start))=b:=⟨_,rfl⟩
    have ZB:=hid her
    clear her
    go_upto_region 6 with fail
    go_cut [33] (fun c wx=>c = .bool er∧F9 J w wx hb g T fv ro rr po pr dp dB M' now (q.cells v u) t.cells∧J wx)
    case first=>
     have h16:=acF.out
     have h32:=acG.out
     have hAh:=HAh.out wc CU.out
     obtain ⟨ah,hah⟩:∃ b,decide (aX now M.ax<t.start)=b:=⟨_,rfl⟩
     rw[hah] at hAh ZB
     have WJ:=hid hAh
     clear hAh hah
     generalize aA t.ay 16=b16 at *
     generalize aA q.aJ 32=b32 at *
     cases b16 with
     | true=>
      rw[Bool.not_true] at h16
      have p16:=beq_eq_false_iff_ne.1 h16
      cases b32 with
      | false=>
       rw[Bool.not_false] at h32
       have p32:=beq_iff_eq.1 h32
       clear h16 h32
       go_wp2_with fail
       go_meet
       exact ⟨by rw[←ZB.out];rfl,CU.out,Rx.out⟩
      | true=>
       rw[Bool.not_true] at h32
       have p32:=beq_eq_false_iff_ne.1 h32
       clear h16 h32
       go_wp2_with (first|(go_at_call 100;refine WJ.out.mono ?_;clear WJ;rintro r w2 ⟨rfl,m,hw2⟩;have HG2:Hid (wc.grownBy w2 none):=(by rw[hw2];exact aO (World.grownBy.refl _ _) m);clear hw2))
       go_meet
       exact ⟨by rw[←ZB.out];simp[p32],iM.out _ _ _ _ CU.out (CF.aW HG2.out _),HST.out _ _ Rx.out (CF.aW HG2.out _)⟩
     | false=>
      rw[Bool.not_false] at h16
      have p16:=beq_iff_eq.1 h16
      clear h16 h32
      go_wp2_with (first|(go_at_call 100;refine WJ.out.mono ?_;clear WJ;rintro r w2 ⟨rfl,m,hw2⟩;have HG2:Hid (wc.grownBy w2 none):=(by rw[hw2];exact aO (World.grownBy.refl _ _) m);clear hw2))
      go_meet
      exact ⟨by rw[←ZB.out];simp,iM.out _ _ _ _ CU.out (CF.aW HG2.out _),HST.out _ _ Rx.out (CF.aW HG2.out _)⟩
    case rest=>
     obtain ⟨rfl,hX,hj⟩:=hcut
     have Dr:=hid hX
     have HJ2:=hid hj
     clear hX hj CU Rx k0 k1 k2 k3 k4 k5 k6 k7 k8 t0 t4 acF acG HAh
     obtain ⟨k0,k1,k2,k3,k4,k5,k6,k7,k8⟩:=jl Dr.out.ask
     cases er with
     | true=>
      have yG:Hid (FR=(aL now 33,M')):=by
       rw[wZ.out,LF]
       ·exact rfl
       ·have:=ZB.out
        rw[TF.out.2.1]
        simpa using this
      go_wp2_with fail
      go_meet
      exact ⟨_,_,rfl,⟨by decide,by decide⟩,yG.out,Dr.out.hear,Dr.out.dX,Dr.out.r,Dr.out.big,Dr.out.cf,Dr.out.j⟩
     | false=>
      have XF:Hid (¬ (aA t.ay 16=true∧aA q.aJ 32=false∨aX now M'.ax<t.start)):=by
       refine hid ?_
       have:=ZB.out
       rw[TF.out.2.1]
       simpa using this
      have t5:wc.cell? ⟨w.heap.size+1,5,none⟩=some (.int .i64 t.fin):=Dr.out.old 5 _ rfl
      have c4:=Dr.out.hear.c4
      by_cases hlate:t.fin<now
      ·have yG:Hid (FR=(aL now 32,M')):=by rw[wZ.out,Pf XF.out hlate];exact rfl
       go_wp2_with fail
       go_quiet (fail)
       go_wp2
       go_meet
       have hS:=iM.out wc (wc.drewN nq) _ _ Dr.out (CF.aW (aO (World.grownBy.refl _ _) nq) _)
       exact ⟨_,_,rfl,⟨by decide,by decide⟩,yG.out,hS.hear,hS.dX,hS.r,hS.big,hS.cf,hS.j⟩
      ·have I8:=hid hlate
       go_wp2_with fail
       go_quiet (fail)
       go_wp2_with fail
       obtain ⟨W2,hW2⟩:∃ W,W=(wc.drewN nq).alloc (.cells Fs 199):=⟨_,rfl⟩
       have G2:wc.grownBy W2 none:=by rw[hW2];exact aC (aO (World.grownBy.refl _ _) nq) _
       obtain ⟨pb,hpb⟩:∃ n,n=wc.heap.size:=⟨_,rfl⟩
       have LP:Live W2 pb 16:=by rw[hW2,hpb];exact Live.new (wc.drewN nq) Fs _
       have ang:w.heap.size+2<pb:=by rw[hpb];exact Dr.out.made.lt
       have XY:=hid (iM.out _ _ _ _ Dr.out (CF.aW G2 _))
       have HJ3:=hid (HST.out _ _ HJ2.out (CF.aW G2 _))
       have HLP:=hid LP
       rw[←hW2,←hpb]
       clear hW2 G2 LP hpb Dr HJ2 k0 k1 k2 k3 k4 k5 k6 k7 k8 t5 c4
       obtain ⟨y,hy⟩:∃ y,BE.find M.aH q.az=y:=⟨_,rfl⟩
       obtain ⟨x,hx⟩:∃ x,BE.find M.aH t.af=x:=⟨_,rfl⟩
       have hFd:∀ W,J W→F9 J w W hb g T fv ro rr po pr dp dB M' now (q.cells v u) t.cells→Calls Tryz.prog 87 #[.pointer (some ⟨hb,0,none⟩),.agg #[.string ⟨q.az.toArray⟩,.int .i64 7,.int .i64 2],.agg #[.string ⟨t.af.toArray⟩,.int .i64 6,.int .i64 1]] W fun e w'=>e = .returned (.tuple #[.agg (nG y).toArray,.agg (nG x).toArray,.int .i64 (dw y x now 7 6 2 1)])∧J w'∧CF W w' dB:=by
        intro W hJW XW
        have:=DF hb base T fv rv J dB oK M.aH q.az t.af 7 2 6 1 now W rW.out.Zc rW.out.finds hJW XW.hear.c0 XW.hear.c4 rW.out.hbF rW.out.O3 rW.out.xS (Nat.le_trans hbase XW.big)
        rw[hy,hx] at this
        exact this
       obtain ⟨v0,v1,v2,v3,v4,v5,v6,v7,hv⟩:=gB x
       obtain ⟨u0,u1,u2,u3,u4,u5,u6,u7,hu⟩:=gB y
       rw[hv,hu] at hFd
       have HFd:=hid hFd
       have HV:=hid hv
       have HU:=hid hu
       have uJ:=hid (And.intro hx hy)
       clear hFd hv hu hx hy
       have na:pb≠w.heap.size:=by omega
       have nb:pb≠w.heap.size+1:=by omega
       have a0:W2.cell? ⟨w.heap.size,4,none⟩=some (.string ⟨q.az.toArray⟩):=XY.out.ask 4 _ rfl
       have a1:W2.cell? ⟨w.heap.size+1,2,none⟩=some (.string ⟨t.af.toArray⟩):=XY.out.old 2 _ rfl
       go_cut [5] (fun c wx=>c = .int .i64 (dw y x now 7 6 2 1)∧wx.rangeAt pb 0 [.string v0,.int .i64 v1,.int .u64 v2,.int .u64 v3,.int .i64 v4,.int .i64 v5,.int .i64 v6,.int .i64 v7]∧wx.rangeAt pb 8 [.string u0,.int .i64 u1,.int .u64 u2,.int .u64 u3,.int .i64 u4,.int .i64 u5,.int .i64 u6,.int .i64 u7]∧F9 J w wx hb g T fv ro rr po pr dp dB M' now (q.cells v u) t.cells∧J wx)
       case first=>
        go_region_held3 (fun w'=>w'.cell? ⟨w.heap.size,4,none⟩=some (.string ⟨q.az.toArray⟩)∧w'.cell? ⟨w.heap.size+1,2,none⟩=some (.string ⟨t.af.toArray⟩)) (go_keep) (first
         | (go_at_call 89;refine (uI _ _).mono ?_;rintro e w4 ⟨rfl,g4⟩;have vS:=hid (gW g4);have Ck:=hid (iM.out _ _ _ _ XY.out (CF.aW (gW g4) _));clear g4;have a0':=Ck.out.ask 4 _ rfl;have a1':w4.cell? ⟨w.heap.size+1,2,none⟩=some (.string ⟨t.af.toArray⟩):=Ck.out.old 2 _ rfl)
         | (go_at_call 88;refine (wW _ _).mono ?_;rintro e w5 ⟨rfl,g5⟩;have SA:=hid (ae vS.out g5);have yM:=hid (iM.out _ _ _ _ Ck.out (CF.aW g5 _));clear g5;have b0':=yM.out.ask 4 _ rfl;have b1':w5.cell? ⟨w.heap.size+1,2,none⟩=some (.string ⟨t.af.toArray⟩):=yM.out.old 2 _ rfl)
         | (go_at_call 87;refine (HFd.out _ (HST.out _ _ HJ3.out (CF.aW SA.out _)) yM.out).mono ?_;rintro e w6 ⟨rfl,j6,C6⟩;have HJ6:=hid j6;have Lt:=hid (xU.out _ _ _ _ yM.out C6 j6);have HL6:=hid ((HLP.out.grown SA.out).cf C6);clear C6 j6;have c0':=Lt.out.ask 4 _ rfl;have c1':w6.cell? ⟨w.heap.size+1,2,none⟩=some (.string ⟨t.af.toArray⟩):=Lt.out.old 2 _ rfl;have jC:=wY HL6.out;obtain ⟨d0,q0⟩:=jC.1 0 (by decide);have f0:=jC.2 0;obtain ⟨d1,q1⟩:=jC.1 1 (by decide);have f1:=jC.2 1;obtain ⟨d2,q2⟩:=jC.1 2 (by decide);have f2:=jC.2 2;obtain ⟨d3,q3⟩:=jC.1 3 (by decide);have f3:=jC.2 3;obtain ⟨d4,q4⟩:=jC.1 4 (by decide);have f4:=jC.2 4;obtain ⟨d5,q5⟩:=jC.1 5 (by decide);have f5:=jC.2 5;obtain ⟨d6,q6⟩:=jC.1 6 (by decide);have f6:=jC.2 6;obtain ⟨d7,q7⟩:=jC.1 7 (by decide);have f7:=jC.2 7;obtain ⟨d8,q8⟩:=jC.1 8 (by decide);have f8:=jC.2 8;obtain ⟨d9,q9⟩:=jC.1 9 (by decide);have f9:=jC.2 9;obtain ⟨d10,Ve⟩:=jC.1 10 (by decide);have f10:=jC.2 10;obtain ⟨d11,Wv⟩:=jC.1 11 (by decide);have f11:=jC.2 11;obtain ⟨d12,q12⟩:=jC.1 12 (by decide);have f12:=jC.2 12;obtain ⟨d13,q13⟩:=jC.1 13 (by decide);have f13:=jC.2 13;obtain ⟨d14,q14⟩:=jC.1 14 (by decide);have f14:=jC.2 14;obtain ⟨d15,q15⟩:=jC.1 15 (by decide);have f15:=jC.2 15;clear jC))
        go_wp2
        go_meet
        have R8:=jk [.string u0,.int .i64 u1,.int .u64 u2,.int .u64 u3,.int .i64 u4,.int .i64 u5,.int .i64 u6,.int .i64 u7] 8 w6 pb 16 HL6.out (by simp)
        have C8:CF w6 (w6.setCells pb 8 [.string u0,.int .i64 u1,.int .u64 u2,.int .u64 u3,.int .i64 u4,.int .i64 u5,.int .i64 u6,.int .i64 u7]) (fun b _=>b=pb):=CF.setCells pb _ 8 w6 (CF.refl _ _) (fun _ _ _=>rfl)
        have C0:CF (w6.setCells pb 8 [.string u0,.int .i64 u1,.int .u64 u2,.int .u64 u3,.int .i64 u4,.int .i64 u5,.int .i64 u6,.int .i64 u7]) ((w6.setCells pb 8 [.string u0,.int .i64 u1,.int .u64 u2,.int .u64 u3,.int .i64 u4,.int .i64 u5,.int .i64 u6,.int .i64 u7]).setCells pb 0 [.string v0,.int .i64 v1,.int .u64 v2,.int .u64 v3,.int .i64 v4,.int .i64 v5,.int .i64 v6,.int .i64 v7]) (fun b y=>b=pb∧y<8):=CF.setCells pb _ 0 _ (CF.refl _ _) (fun j hj _=>⟨rfl,by simp at hj;omega⟩)
        have R0:=jk [.string v0,.int .i64 v1,.int .u64 v2,.int .u64 v3,.int .i64 v4,.int .i64 v5,.int .i64 v6,.int .i64 v7] 0 _ pb 16 (HL6.out.cf C8) (by simp)
        refine ⟨rfl,R0,C0.range R8 (fun _ _ e=>by omega),iM.out _ _ _ _ Lt.out ((C8.mono (fun b _ _ e=>.inr (by omega))).trans C0 (fun _ _ _ e=>.inr (by omega))),?_⟩
        exact HST.out _ _ HJ6.out ((C8.mono (fun b y _ e=>rW.out.xS b y (by omega))).trans C0 (fun b y _ e=>rW.out.xS b y (by omega)))
       case rest=>
        obtain ⟨rfl,JV,QG,hX,hj⟩:=hcut
        have vU:=hid hX
        have HJ7:=hid hj
        have JW:=hid JV
        have MP:=hid QG
        clear hX hj JV QG a0 a1 XY HJ3 HLP HFd
        obtain ⟨k0,k1,k2,k3,k4,k5,k6,k7,k8⟩:=jl vU.out.ask
        have t0:wc.cell? ⟨w.heap.size+1,0,none⟩=some (.int .i64 t.ay):=vU.out.old 0 _ rfl
        by_cases hpc:dw y x now 7 6 2 1=0
        ·obtain ⟨sv,cl,rfl,rfl⟩:=DY (by decide) (by decide) hpc
         have hP:dZ wc pb cl sv:=⟨by have h:=JW.out;rw[←HV.out] at h;exact h,by have h:=MP.out;rw[←HU.out] at h;exact h⟩
         have I1:=hid hP
         have KF:=hid hpc
         rw[hpc]
         clear hpc hP JW MP HV HU
         have HMy:=hid (IK q.aJ t.ay wc HQ.out.2.2.2.2.2)
         cases hok:ko q.aJ t.ay with
         | false=>
          rw[hok] at HMy
          have yG:Hid (FR=(aL now 13,M')):=by
           rw[wZ.out,Ph XF.out (Int.not_lt.2 I8.out) (by rw[TF.out.1];exact uJ.out.2) (by rw[TF.out.1];exact uJ.out.1) KF.out hok]
           exact rfl
          clear hok
          go_wp2_with (first|(go_at_call 101;refine HMy.out.mono ?_;clear HMy;rintro r w8 ⟨rfl,rfl⟩))
          go_meet
          exact ⟨_,_,rfl,⟨by decide,by decide⟩,yG.out,vU.out.hear,vU.out.dX,vU.out.r,vU.out.big,vU.out.cf,vU.out.j⟩
         | true=>
          rw[hok] at HMy
          have uH:=hid hok
          clear hok
          go_wp2_with (first|(go_at_call 101;refine HMy.out.mono ?_;clear HMy;rintro r w8 ⟨rfl,rfl⟩))
          clear k0 k1 k2 k3 k4 k5 k6 k7 k8 t0
          have HGr:Hid (∀ W,dZ W pb cl sv→Calls Tryz.prog 102 #[.pointer (some ⟨pb,0,none⟩),.int .i64 now,.agg (q.cells v u).toArray,.agg t.cells.toArray] W fun e w'=>e = .returned (oq (lH now q t cl sv))∧W.grownBy w' none):=fun W P=>by
           have i1:=rW.out.oL cl (jG uJ.out.1)
           have i2:=rW.out.oL sv (jG uJ.out.2)
           exact OY pb now q v u t cl sv W P HQ.out.1 i1.cO i2.cO i1.aF i2.aF Fu.out
          obtain ⟨GM,hGM⟩:∃ m,lH now q t cl sv=m:=⟨_,rfl⟩
          obtain ⟨n0,n1,n2,n3,n4,n5,n6,n7,hn⟩:=lX GM
          rw[hGM,hn] at HGr
          have HGM:=hid hGM
          have HNn:=hid hn
          clear hGM hn
          have WK:Hid (∀ W,F9 J w W hb g T fv ro rr po pr dp dB M' now (q.cells v u) t.cells→W.cell? ⟨hb,4,none⟩=some (.int .i64 now)∧W.cell? ⟨w.heap.size,0,none⟩=some (.string ⟨q.iT.toArray⟩)∧W.cell? ⟨w.heap.size,1,none⟩=some (.int .i64 q.yY)∧W.cell? ⟨w.heap.size,2,none⟩=some (v)∧W.cell? ⟨w.heap.size,3,none⟩=some (u)∧W.cell? ⟨w.heap.size,4,none⟩=some (.string ⟨q.az.toArray⟩)∧W.cell? ⟨w.heap.size,5,none⟩=some (.int .i64 q.aB)∧W.cell? ⟨w.heap.size,6,none⟩=some (.int .i64 q.dF)∧W.cell? ⟨w.heap.size,7,none⟩=some (.int .i64 q.bQ)∧W.cell? ⟨w.heap.size,8,none⟩=some (.int .i64 q.aJ)∧W.cell? ⟨w.heap.size+1,0,none⟩=some (.int .i64 t.ay)∧W.cell? ⟨w.heap.size+1,1,none⟩=some (.int .u64 (t.aU.toNat:Int))∧W.cell? ⟨w.heap.size+1,2,none⟩=some (.string ⟨t.af.toArray⟩)∧W.cell? ⟨w.heap.size+1,3,none⟩=some (.int .i64 t.eH)∧W.cell? ⟨w.heap.size+1,4,none⟩=some (.int .i64 t.start)∧W.cell? ⟨w.heap.size+1,5,none⟩=some (.int .i64 t.fin)∧W.cell? ⟨w.heap.size+1,6,none⟩=some (.int .i64 t.aF)):=fun W X=>⟨X.hear.c4,X.ask 0 _ rfl,X.ask 1 _ rfl,X.ask 2 _ rfl,X.ask 3 _ rfl,X.ask 4 _ rfl,X.ask 5 _ rfl,X.ask 6 _ rfl,X.ask 7 _ rfl,X.ask 8 _ rfl,X.old 0 _ rfl,X.old 1 _ rfl,X.old 2 _ rfl,X.old 3 _ rfl,X.old 4 _ rfl,X.old 5 _ rfl,X.old 6 _ rfl⟩
          have acH:Hid (∀ W,F9 J w W hb g T fv ro rr po pr dp dB M' now (q.cells v u) t.cells→(((((((W.setCell ⟨w.heap.size+2,0,none⟩ (.int .i64 n0)).setCell ⟨w.heap.size+2,1,none⟩ (.int .u64 n1)).setCell ⟨w.heap.size+2,2,none⟩ (.string n2)).setCell ⟨w.heap.size+2,3,none⟩ (.int .i64 n3)).setCell ⟨w.heap.size+2,4,none⟩ (.int .i64 n4)).setCell ⟨w.heap.size+2,5,none⟩ (.int .i64 n5)).setCell ⟨w.heap.size+2,6,none⟩ (.int .i64 n6)).cell? ⟨hb,4,none⟩=some (.int .i64 now)∧(((((((W.setCell ⟨w.heap.size+2,0,none⟩ (.int .i64 n0)).setCell ⟨w.heap.size+2,1,none⟩ (.int .u64 n1)).setCell ⟨w.heap.size+2,2,none⟩ (.string n2)).setCell ⟨w.heap.size+2,3,none⟩ (.int .i64 n3)).setCell ⟨w.heap.size+2,4,none⟩ (.int .i64 n4)).setCell ⟨w.heap.size+2,5,none⟩ (.int .i64 n5)).setCell ⟨w.heap.size+2,6,none⟩ (.int .i64 n6)).cell? ⟨w.heap.size,0,none⟩=some (.string ⟨q.iT.toArray⟩)∧(((((((W.setCell ⟨w.heap.size+2,0,none⟩ (.int .i64 n0)).setCell ⟨w.heap.size+2,1,none⟩ (.int .u64 n1)).setCell ⟨w.heap.size+2,2,none⟩ (.string n2)).setCell ⟨w.heap.size+2,3,none⟩ (.int .i64 n3)).setCell ⟨w.heap.size+2,4,none⟩ (.int .i64 n4)).setCell ⟨w.heap.size+2,5,none⟩ (.int .i64 n5)).setCell ⟨w.heap.size+2,6,none⟩ (.int .i64 n6)).cell? ⟨w.heap.size,1,none⟩=some (.int .i64 q.yY)∧(((((((W.setCell ⟨w.heap.size+2,0,none⟩ (.int .i64 n0)).setCell ⟨w.heap.size+2,1,none⟩ (.int .u64 n1)).setCell ⟨w.heap.size+2,2,none⟩ (.string n2)).setCell ⟨w.heap.size+2,3,none⟩ (.int .i64 n3)).setCell ⟨w.heap.size+2,4,none⟩ (.int .i64 n4)).setCell ⟨w.heap.size+2,5,none⟩ (.int .i64 n5)).setCell ⟨w.heap.size+2,6,none⟩ (.int .i64 n6)).cell? ⟨w.heap.size,2,none⟩=some (v)∧(((((((W.setCell ⟨w.heap.size+2,0,none⟩ (.int .i64 n0)).setCell ⟨w.heap.size+2,1,none⟩ (.int .u64 n1)).setCell ⟨w.heap.size+2,2,none⟩ (.string n2)).setCell ⟨w.heap.size+2,3,none⟩ (.int .i64 n3)).setCell ⟨w.heap.size+2,4,none⟩ (.int .i64 n4)).setCell ⟨w.heap.size+2,5,none⟩ (.int .i64 n5)).setCell ⟨w.heap.size+2,6,none⟩ (.int .i64 n6)).cell? ⟨w.heap.size,3,none⟩=some (u)∧(((((((W.setCell ⟨w.heap.size+2,0,none⟩ (.int .i64 n0)).setCell ⟨w.heap.size+2,1,none⟩ (.int .u64 n1)).setCell ⟨w.heap.size+2,2,none⟩ (.string n2)).setCell ⟨w.heap.size+2,3,none⟩ (.int .i64 n3)).setCell ⟨w.heap.size+2,4,none⟩ (.int .i64 n4)).setCell ⟨w.heap.size+2,5,none⟩ (.int .i64 n5)).setCell ⟨w.heap.size+2,6,none⟩ (.int .i64 n6)).cell? ⟨w.heap.size,4,none⟩=some (.string ⟨q.az.toArray⟩)∧(((((((W.setCell ⟨w.heap.size+2,0,none⟩ (.int .i64 n0)).setCell ⟨w.heap.size+2,1,none⟩ (.int .u64 n1)).setCell ⟨w.heap.size+2,2,none⟩ (.string n2)).setCell ⟨w.heap.size+2,3,none⟩ (.int .i64 n3)).setCell ⟨w.heap.size+2,4,none⟩ (.int .i64 n4)).setCell ⟨w.heap.size+2,5,none⟩ (.int .i64 n5)).setCell ⟨w.heap.size+2,6,none⟩ (.int .i64 n6)).cell? ⟨w.heap.size,5,none⟩=some (.int .i64 q.aB)∧(((((((W.setCell ⟨w.heap.size+2,0,none⟩ (.int .i64 n0)).setCell ⟨w.heap.size+2,1,none⟩ (.int .u64 n1)).setCell ⟨w.heap.size+2,2,none⟩ (.string n2)).setCell ⟨w.heap.size+2,3,none⟩ (.int .i64 n3)).setCell ⟨w.heap.size+2,4,none⟩ (.int .i64 n4)).setCell ⟨w.heap.size+2,5,none⟩ (.int .i64 n5)).setCell ⟨w.heap.size+2,6,none⟩ (.int .i64 n6)).cell? ⟨w.heap.size,6,none⟩=some (.int .i64 q.dF)∧(((((((W.setCell ⟨w.heap.size+2,0,none⟩ (.int .i64 n0)).setCell ⟨w.heap.size+2,1,none⟩ (.int .u64 n1)).setCell ⟨w.heap.size+2,2,none⟩ (.string n2)).setCell ⟨w.heap.size+2,3,none⟩ (.int .i64 n3)).setCell ⟨w.heap.size+2,4,none⟩ (.int .i64 n4)).setCell ⟨w.heap.size+2,5,none⟩ (.int .i64 n5)).setCell ⟨w.heap.size+2,6,none⟩ (.int .i64 n6)).cell? ⟨w.heap.size,7,none⟩=some (.int .i64 q.bQ)∧(((((((W.setCell ⟨w.heap.size+2,0,none⟩ (.int .i64 n0)).setCell ⟨w.heap.size+2,1,none⟩ (.int .u64 n1)).setCell ⟨w.heap.size+2,2,none⟩ (.string n2)).setCell ⟨w.heap.size+2,3,none⟩ (.int .i64 n3)).setCell ⟨w.heap.size+2,4,none⟩ (.int .i64 n4)).setCell ⟨w.heap.size+2,5,none⟩ (.int .i64 n5)).setCell ⟨w.heap.size+2,6,none⟩ (.int .i64 n6)).cell? ⟨w.heap.size,8,none⟩=some (.int .i64 q.aJ)∧(((((((W.setCell ⟨w.heap.size+2,0,none⟩ (.int .i64 n0)).setCell ⟨w.heap.size+2,1,none⟩ (.int .u64 n1)).setCell ⟨w.heap.size+2,2,none⟩ (.string n2)).setCell ⟨w.heap.size+2,3,none⟩ (.int .i64 n3)).setCell ⟨w.heap.size+2,4,none⟩ (.int .i64 n4)).setCell ⟨w.heap.size+2,5,none⟩ (.int .i64 n5)).setCell ⟨w.heap.size+2,6,none⟩ (.int .i64 n6)).cell? ⟨w.heap.size+1,0,none⟩=some (.int .i64 t.ay)∧(((((((W.setCell ⟨w.heap.size+2,0,none⟩ (.int .i64 n0)).setCell ⟨w.heap.size+2,1,none⟩ (.int .u64 n1)).setCell ⟨w.heap.size+2,2,none⟩ (.string n2)).setCell ⟨w.heap.size+2,3,none⟩ (.int .i64 n3)).setCell ⟨w.heap.size+2,4,none⟩ (.int .i64 n4)).setCell ⟨w.heap.size+2,5,none⟩ (.int .i64 n5)).setCell ⟨w.heap.size+2,6,none⟩ (.int .i64 n6)).cell? ⟨w.heap.size+1,1,none⟩=some (.int .u64 (t.aU.toNat:Int))∧(((((((W.setCell ⟨w.heap.size+2,0,none⟩ (.int .i64 n0)).setCell ⟨w.heap.size+2,1,none⟩ (.int .u64 n1)).setCell ⟨w.heap.size+2,2,none⟩ (.string n2)).setCell ⟨w.heap.size+2,3,none⟩ (.int .i64 n3)).setCell ⟨w.heap.size+2,4,none⟩ (.int .i64 n4)).setCell ⟨w.heap.size+2,5,none⟩ (.int .i64 n5)).setCell ⟨w.heap.size+2,6,none⟩ (.int .i64 n6)).cell? ⟨w.heap.size+1,2,none⟩=some (.string ⟨t.af.toArray⟩)∧(((((((W.setCell ⟨w.heap.size+2,0,none⟩ (.int .i64 n0)).setCell ⟨w.heap.size+2,1,none⟩ (.int .u64 n1)).setCell ⟨w.heap.size+2,2,none⟩ (.string n2)).setCell ⟨w.heap.size+2,3,none⟩ (.int .i64 n3)).setCell ⟨w.heap.size+2,4,none⟩ (.int .i64 n4)).setCell ⟨w.heap.size+2,5,none⟩ (.int .i64 n5)).setCell ⟨w.heap.size+2,6,none⟩ (.int .i64 n6)).cell? ⟨w.heap.size+1,3,none⟩=some (.int .i64 t.eH)∧(((((((W.setCell ⟨w.heap.size+2,0,none⟩ (.int .i64 n0)).setCell ⟨w.heap.size+2,1,none⟩ (.int .u64 n1)).setCell ⟨w.heap.size+2,2,none⟩ (.string n2)).setCell ⟨w.heap.size+2,3,none⟩ (.int .i64 n3)).setCell ⟨w.heap.size+2,4,none⟩ (.int .i64 n4)).setCell ⟨w.heap.size+2,5,none⟩ (.int .i64 n5)).setCell ⟨w.heap.size+2,6,none⟩ (.int .i64 n6)).cell? ⟨w.heap.size+1,4,none⟩=some (.int .i64 t.start)∧(((((((W.setCell ⟨w.heap.size+2,0,none⟩ (.int .i64 n0)).setCell ⟨w.heap.size+2,1,none⟩ (.int .u64 n1)).setCell ⟨w.heap.size+2,2,none⟩ (.string n2)).setCell ⟨w.heap.size+2,3,none⟩ (.int .i64 n3)).setCell ⟨w.heap.size+2,4,none⟩ (.int .i64 n4)).setCell ⟨w.heap.size+2,5,none⟩ (.int .i64 n5)).setCell ⟨w.heap.size+2,6,none⟩ (.int .i64 n6)).cell? ⟨w.heap.size+1,5,none⟩=some (.int .i64 t.fin)∧(((((((W.setCell ⟨w.heap.size+2,0,none⟩ (.int .i64 n0)).setCell ⟨w.heap.size+2,1,none⟩ (.int .u64 n1)).setCell ⟨w.heap.size+2,2,none⟩ (.string n2)).setCell ⟨w.heap.size+2,3,none⟩ (.int .i64 n3)).setCell ⟨w.heap.size+2,4,none⟩ (.int .i64 n4)).setCell ⟨w.heap.size+2,5,none⟩ (.int .i64 n5)).setCell ⟨w.heap.size+2,6,none⟩ (.int .i64 n6)).cell? ⟨w.heap.size+1,6,none⟩=some (.int .i64 t.aF)):=fun W X=>WK.out _ (iM.out _ _ _ _ X ((pW W (w.heap.size+2) _ _ _ _ _ _ _).mono (fun b _ _ e=>.inr (by omega))))
          obtain ⟨x4,xa0,xa1,xa2,xa3,xa4,xa5,xa6,xa7,xa8,xo0,xo1,xo2,xo3,xo4,xo5,xo6⟩:=WK.out _ vU.out
          obtain ⟨W7,Nb⟩:∃ W,W=w8:=⟨_,rfl⟩
          rw[←Nb] at vU HJ7 I1 x4 xa0 xa1 xa2 xa3 xa4 xa5 xa6 xa7 xa8 xo0 xo1 xo2 xo3 xo4 xo5 xo6
          rw[←Nb]
          clear Nb
          go_cut [5] (fun c wx=>c = .int .i64 n7∧wx.rangeAt (w.heap.size+2) 0 [.int .i64 n0,.int .u64 n1,.string n2,.int .i64 n3,.int .i64 n4,.int .i64 n5,.int .i64 n6]∧F9 J w wx hb g T fv ro rr po pr dp dB M' now (q.cells v u) t.cells∧dZ wx pb cl sv)
          case first=>
           have hPd:=I1.out.grown (dA (World.grownBy.refl _ _))
           have J4:=hid (HGr.out _ hPd)
           clear hPd
           go_region_held3 (fun w'=>w'.cell? ⟨hb,4,none⟩=some (.int .i64 now)∧w'.cell? ⟨w.heap.size,0,none⟩=some (.string ⟨q.iT.toArray⟩)∧w'.cell? ⟨w.heap.size,1,none⟩=some (.int .i64 q.yY)∧w'.cell? ⟨w.heap.size,2,none⟩=some (v)∧w'.cell? ⟨w.heap.size,3,none⟩=some (u)∧w'.cell? ⟨w.heap.size,4,none⟩=some (.string ⟨q.az.toArray⟩)∧w'.cell? ⟨w.heap.size,5,none⟩=some (.int .i64 q.aB)∧w'.cell? ⟨w.heap.size,6,none⟩=some (.int .i64 q.dF)∧w'.cell? ⟨w.heap.size,7,none⟩=some (.int .i64 q.bQ)∧w'.cell? ⟨w.heap.size,8,none⟩=some (.int .i64 q.aJ)∧w'.cell? ⟨w.heap.size+1,0,none⟩=some (.int .i64 t.ay)∧w'.cell? ⟨w.heap.size+1,1,none⟩=some (.int .u64 (t.aU.toNat:Int))∧w'.cell? ⟨w.heap.size+1,2,none⟩=some (.string ⟨t.af.toArray⟩)∧w'.cell? ⟨w.heap.size+1,3,none⟩=some (.int .i64 t.eH)∧w'.cell? ⟨w.heap.size+1,4,none⟩=some (.int .i64 t.start)∧w'.cell? ⟨w.heap.size+1,5,none⟩=some (.int .i64 t.fin)∧w'.cell? ⟨w.heap.size+1,6,none⟩=some (.int .i64 t.aF)) (first|(with_reducible exact acH.out _ uK.out) | go_keep) (first
            | (go_at_call 102;refine J4.out.mono ?_;clear J4;rintro r w9 ⟨rfl,g9⟩;have uK:=hid (iM.out _ _ _ _ vU.out (CF.aW (gW g9) _));have Ww:=hid (I1.out.grown (gW g9));clear g9;obtain ⟨y4,ya0,ya1,ya2,ya3,ya4,ya5,ya6,ya7,ya8,yo0,yo1,yo2,yo3,yo4,yo5,yo6⟩:=WK.out _ uK.out;obtain ⟨⟨d0,q0⟩,⟨d1,q1⟩,⟨d2,q2⟩,⟨d3,q3⟩,⟨d4,q4⟩,⟨d5,q5⟩,⟨d6,q6⟩,f0,f1,f2,f3,f4,f5,f6⟩:=X7 uK.out.made))
           go_wp2
           go_meet
           have C9:=pW w9 (w.heap.size+2) (.int .i64 n0) (.int .u64 n1) (.string n2) (.int .i64 n3) (.int .i64 n4) (.int .i64 n5) (.int .i64 n6)
           exact ⟨rfl,jk [.int .i64 n0,.int .u64 n1,.string n2,.int .i64 n3,.int .i64 n4,.int .i64 n5,.int .i64 n6] 0 w9 (w.heap.size+2) 7 uK.out.made (Nat.le_refl 7),iM.out _ _ _ _ uK.out (C9.mono (fun b _ _ e=>.inr (by omega))),Ww.out.cf C9 (fun _ e=>by omega)⟩
          case rest=>
           obtain ⟨rfl,hM,hX,hP⟩:=hcut
           have uK:=hid hX
           have Ww:=hid hP
           have Na:=hid hM
           clear hX hP hM x4 xa0 xa1 xa2 xa3 xa4 xa5 xa6 xa7 xa8 xo0 xo1 xo2 xo3 xo4 xo5 xo6 vU I1 HGr
           cases GM with
           | error cd=>
            have hm7:n7=cd:=by
             have:=HNn.out
             simp only[oq] at this
             injection this with this
             have h2:=congrArg (fun a:Array Value=>a[1]?) this
             simpa using h2.symm
            subst hm7
            have yG:Hid (FR=(aL now n7,M')):=by
             rw[wZ.out,TD XF.out (Int.not_lt.2 I8.out) (by rw[TF.out.1];exact uJ.out.2) (by rw[TF.out.1];exact uJ.out.1) KF.out uH.out HGM.out]
             exact rfl
            have hcs:=I7 HGM.out
            clear HNn HGM
            rcases hcs with rfl | rfl | rfl
            all_goals
             go_wp2_with fail
             go_meet
             exact ⟨_,_,rfl,⟨by decide,by decide⟩,yG.out,uK.out.hear,uK.out.dX,uK.out.r,uK.out.big,uK.out.cf,uK.out.j⟩
           | ok t'=>
            have hm:=HNn.out
            simp only[oq] at hm
            injection hm with hm
            have e0:Value.agg t'.cells.toArray=Value.agg #[.int .i64 n0,.int .u64 n1,.string n2,.int .i64 n3,.int .i64 n4,.int .i64 n5,.int .i64 n6]:=Option.some.inj (congrArg (fun a:Array Value=>a[0]?) hm)
            have e1:Value.int .i64 0=Value.int .i64 n7:=Option.some.inj (congrArg (fun a:Array Value=>a[1]?) hm)
            injection e0 with e0
            injection e1 with _ e1
            have e0:t'.cells=[.int .i64 n0,.int .u64 n1,.string n2,.int .i64 n3,.int .i64 n4,.int .i64 n5,.int .i64 n6]:=congrArg Array.toList e0
            subst e1
            rw[←e0] at Na
            have TG:=hid (WH XF.out (Int.not_lt.2 I8.out) (by rw[TF.out.1];exact uJ.out.2) (by rw[TF.out.1];exact uJ.out.1) KF.out uH.out HGM.out)
            have HGI:=hid (TE Fu.out HQ.out.1 HQ.out.2.2.2.1 HQ.out.2.2.2.2.1 HGM.out)
            rw[←wZ.out] at TG
            clear hm e0 HNn HGM wZ XF I8 ZB WK acH
            have I9:Hid (∀ W,wc.grownBy W none→W.cell? ⟨w.heap.size+2,0,none⟩=some (.int .i64 t'.ay)∧W.cell? ⟨w.heap.size+2,1,none⟩=some (.int .u64 (t'.aU.toNat:Int))∧W.cell? ⟨w.heap.size+2,2,none⟩=some (.string ⟨t'.af.toArray⟩)∧W.cell? ⟨w.heap.size+2,3,none⟩=some (.int .i64 t'.eH)∧W.cell? ⟨w.heap.size+2,4,none⟩=some (.int .i64 t'.start)∧W.cell? ⟨w.heap.size+2,5,none⟩=some (.int .i64 t'.fin)∧W.cell? ⟨w.heap.size+2,6,none⟩=some (.int .i64 t'.aF)∧W.cell? ⟨w.heap.size,4,none⟩=some (.string ⟨q.az.toArray⟩)∧W.cell? ⟨w.heap.size,5,none⟩=some (.int .i64 q.aB)∧W.cell? ⟨w.heap.size+1,1,none⟩=some (.int .u64 (t.aU.toNat:Int))):=fun W hW=>⟨hW.cell (Na.out 0 _ rfl) (by simp),hW.cell (Na.out 1 _ rfl) (by simp),hW.cell (Na.out 2 _ rfl) (by simp),hW.cell (Na.out 3 _ rfl) (by simp),hW.cell (Na.out 4 _ rfl) (by simp),hW.cell (Na.out 5 _ rfl) (by simp),hW.cell (Na.out 6 _ rfl) (by simp),hW.cell (uK.out.ask 4 _ rfl) (by simp),hW.cell (uK.out.ask 5 _ rfl) (by simp),hW.cell (uK.out.old 1 _ rfl) (by simp)⟩
            obtain ⟨x0,x1,x2,x3,x4,x5,x6,x7,x8,x9⟩:=I9.out _ (World.grownBy.refl _ _)
            go_wp2_with fail
            obtain ⟨W9,hW9⟩:∃ W,W=wc:=⟨_,rfl⟩
            rw[←hW9] at uK Ww Na I9 x0 x1 x2 x3 x4 x5 x6 x7 x8 x9
            rw[←hW9]
            clear hW9
            go_cut [9] (fun p wx=>∃ rb,p = .pointer (some ⟨rb,0,none⟩)∧w.heap.size+2<rb∧bI wx rb #[.int .i64 t'.ay,.int .u64 (t'.aU.toNat:Int),.string ⟨t'.af.toArray⟩,.int .i64 t'.eH,.int .i64 t'.start,.int .i64 t'.fin,.int .i64 t'.aF,.string ⟨q.az.toArray⟩,.int .i64 sv.ag,.int .u64 (sv.key.toNat:Int),.int .u64 0,.int .i64 q.aB,.int .i64 0,.int .u64 (t.aU.toNat:Int),.int .u64 0]∧F9 J w wx hb g T fv ro rr po pr dp dB M' now (q.cells v u) t.cells)
            case first=>
             have hb9:w.heap.size+2<W9.heap.size:=uK.out.made.lt
             have nea:w.heap.size≠W9.heap.size:=by omega
             have neb:w.heap.size+1≠W9.heap.size:=by omega
             have ZC:w.heap.size+2≠W9.heap.size:=by omega
             have Zl:∀ W,W9.grownBy W none→Calls Tryz.prog 93 #[.pointer (some ⟨pb,8,none⟩)] W fun r w'=>r = .returned (.agg #[.int .i64 sv.ag,.int .u64 (sv.key.toNat:Int)])∧W.grownBy w' none:=fun W hW=>oJ pb 8 sv W (hW.cell (Ww.out.s 1 _ rfl) (by simp)) (hW.cell (Ww.out.s 2 _ rfl) (by simp))
             have Zm:Hid (Calls Tryz.prog 93 #[.pointer (some ⟨pb,8,none⟩)] W9.drew fun r w'=>r = .returned (.agg #[.int .i64 sv.ag,.int .u64 (sv.key.toNat:Int)])∧W9.grownBy w' none):=(Zl _ (dA (World.grownBy.refl _ _))).mono fun _ _ ⟨a,b⟩=>⟨a,gW b⟩
             have Zn:Hid (Calls Tryz.prog 93 #[.pointer (some ⟨pb,8,none⟩)] ((W9.alloc (.cells #[.int .i64 0,.int .u64 0,.string ⟨#[]⟩,.int .i64 0,.int .i64 0,.int .i64 0,.int .i64 0,.string ⟨#[]⟩,.int .i64 0,.int .u64 0,.int .u64 0,.int .i64 0,.int .i64 0,.int .u64 0,.int .u64 0] 216)).drew) fun r w'=>r = .returned (.agg #[.int .i64 sv.ag,.int .u64 (sv.key.toNat:Int)])∧W9.grownBy w' none∧bI w' W9.heap.size #[.int .i64 0,.int .u64 0,.string ⟨#[]⟩,.int .i64 0,.int .i64 0,.int .i64 0,.int .i64 0,.string ⟨#[]⟩,.int .i64 0,.int .u64 0,.int .u64 0,.int .i64 0,.int .i64 0,.int .u64 0,.int .u64 0]):=(Zl _ (dA (World.grownBy_alloc _ _ none))).mono fun _ _ ⟨a,b⟩=>⟨a,ae (dA (World.grownBy_alloc _ _ none)) b,(bI.new W9 _ _).drew.grown b (by simp)⟩
             clear Zl
             obtain ⟨xz0,xz1,xz2,xz3,xz4,xz5,xz6,xz7,xz8,xz9⟩:=I9.out _ (World.grownBy_alloc W9 (.cells #[.int .i64 0,.int .u64 0,.string ⟨#[]⟩,.int .i64 0,.int .i64 0,.int .i64 0,.int .i64 0,.string ⟨#[]⟩,.int .i64 0,.int .u64 0,.int .u64 0,.int .i64 0,.int .i64 0,.int .u64 0,.int .u64 0] 216) none)
             go_region_held3 (fun w'=>w'.cell? ⟨w.heap.size+2,0,none⟩=some (.int .i64 t'.ay)∧w'.cell? ⟨w.heap.size+2,1,none⟩=some (.int .u64 (t'.aU.toNat:Int))∧w'.cell? ⟨w.heap.size+2,2,none⟩=some (.string ⟨t'.af.toArray⟩)∧w'.cell? ⟨w.heap.size+2,3,none⟩=some (.int .i64 t'.eH)∧w'.cell? ⟨w.heap.size+2,4,none⟩=some (.int .i64 t'.start)∧w'.cell? ⟨w.heap.size+2,5,none⟩=some (.int .i64 t'.fin)∧w'.cell? ⟨w.heap.size+2,6,none⟩=some (.int .i64 t'.aF)∧w'.cell? ⟨w.heap.size,4,none⟩=some (.string ⟨q.az.toArray⟩)∧w'.cell? ⟨w.heap.size,5,none⟩=some (.int .i64 q.aB)∧w'.cell? ⟨w.heap.size+1,1,none⟩=some (.int .u64 (t.aU.toNat:Int))) (first|(with_reducible exact ⟨iZ ZC z0,iZ ZC z1,iZ ZC z2,iZ ZC z3,iZ ZC z4,iZ ZC z5,iZ ZC z6,iZ nea z7,iZ nea z8,iZ neb z9⟩) | go_keep) (first
              | (go_at_call 93;(with_reducible apply Calls.mono Zm.out);rintro r w10 ⟨rfl,g10⟩;have LH:=hid g10;clear g10;obtain ⟨y0,y1,y2,y3,y4,y5,y6,y7,y8,y9⟩:=I9.out _ LH.out;obtain ⟨yz0,yz1,yz2,yz3,yz4,yz5,yz6,yz7,yz8,yz9⟩:=I9.out _ (aC LH.out (.cells #[.int .i64 0,.int .u64 0,.string ⟨#[]⟩,.int .i64 0,.int .i64 0,.int .i64 0,.int .i64 0,.string ⟨#[]⟩,.int .i64 0,.int .u64 0,.int .u64 0,.int .i64 0,.int .i64 0,.int .u64 0,.int .u64 0] 216));obtain ⟨yr0,yr1,yr2,yr3,yr4,yr5,yr6,yr7,yr8,yr9⟩:=I9.out _ (aC LH.out (.cells #[.int .i64 t'.ay,.int .u64 (t'.aU.toNat:Int),.string ⟨t'.af.toArray⟩,.int .i64 t'.eH,.int .i64 t'.start,.int .i64 t'.fin,.int .i64 t'.aF,.string ⟨q.az.toArray⟩,.int .i64 sv.ag,.int .u64 (sv.key.toNat:Int),.int .u64 0,.int .i64 q.aB,.int .i64 0,.int .u64 (t.aU.toNat:Int),.int .u64 0] 216)))
              | (go_at_call 93;(with_reducible apply Calls.mono Zn.out);rintro r w10 ⟨rfl,g10,bz⟩;have LH:=hid g10;have dz:=hid bz;clear g10 bz;have t0:=dz.out.cell 0;have tf0:=dz.out.frozen 0;have t1:=dz.out.cell 1;have tf1:=dz.out.frozen 1;have t2:=dz.out.cell 2;have tf2:=dz.out.frozen 2;have t3:=dz.out.cell 3;have tf3:=dz.out.frozen 3;have t4:=dz.out.cell 4;have tf4:=dz.out.frozen 4;have t5:=dz.out.cell 5;have tf5:=dz.out.frozen 5;have t6:=dz.out.cell 6;have tf6:=dz.out.frozen 6;have t7:=dz.out.cell 7;have tf7:=dz.out.frozen 7;have t8:=dz.out.cell 8;have tf8:=dz.out.frozen 8;have t9:=dz.out.cell 9;have tf9:=dz.out.frozen 9;have t10:=dz.out.cell 10;have acm:=dz.out.frozen 10;have t11:=dz.out.cell 11;have acn:=dz.out.frozen 11;have t12:=dz.out.cell 12;have aco:=dz.out.frozen 12;have t13:=dz.out.cell 13;have acp:=dz.out.frozen 13;have t14:=dz.out.cell 14;have acr:=dz.out.frozen 14;obtain ⟨z0,z1,z2,z3,z4,z5,z6,z7,z8,z9⟩:=I9.out _ LH.out))
             all_goals go_wp2
             all_goals go_meet
             all_goals have jN:=iM.out _ _ _ _ uK.out (CF.aW LH.out _)
             ·exact ⟨_,rfl,(by have:=LH.out.size;omega),bI.new _ _ _,iM.out _ _ _ _ jN (CF.aW (World.grownBy_alloc _ _ none) _)⟩
             ·exact ⟨W9.heap.size,rfl,hb9,Td dz.out _ _ _ _ _ _ _ _ _ _ _ _ _ _ _,iM.out _ _ _ _ jN (Zh w10 W9.heap.size _ _ _ _ _ _ _ _ _ _ _ _ _ _ _ _ (fun _=>.inr (by omega)))⟩
            case rest=>
             obtain ⟨rb,rfl,hrb,hB,hX⟩:=hcut
             have jN:=hid hX
             have I4:=hid hB
             clear hX hB uK Ww Na I9 x0 x1 x2 x3 x4 x5 x6 x7 x8 x9
             obtain ⟨rp,IX⟩:∃ r:RP,r=⟨t',q.az,sv.ag,sv.key,0,q.aB,0,t.aU,0⟩:=⟨_,rfl⟩
             have Wy:kQ wc rb rp:=by rw[IX];exact I4.out.range
             have Tp:Live wc rb 15:=IV I4.out 15 (Nat.le_refl 15)
             by_cases EP:M'.aV.length<24
             ·obtain ⟨ao,cap,hc⟩:=IU jN.out.dX
              have HD:=hid (M0 hb g rb M'.aV.length cap ao rp wc jN.out.hear.c3 EP hc Wy Tp)
              rw[if_pos EP] at TG
              clear hc Wy Tp IX EP
              go_wp2_with (first
               | (go_at_call 96;refine HD.out.mono ?_;clear HD;rintro r Wx ⟨rfl,Tq⟩;have vC:=hid Tq;clear Tq))
              go_meet
              have hS:=iM.out _ _ _ _ jN.out (vC.out.mono (fun _ _ _ e=>.inr (by omega)))
              exact ⟨_,_,rfl,⟨by decide,by decide⟩,TG.out,hS.hear,hS.dX,hS.r,hS.big,hS.cf,hS.j⟩
             ·obtain ⟨qd,Zr,hc,hcl,hcm,hcr,Zt⟩:=DZ jN.out.dX (by omega)
              have hdp:=rW.out.IP qd Zr
              have hgw:=HN.out.2
              have HD:=hid (IM hb g rb qd M'.aV M'.aV.length rp wc jN.out.hear.c3 (hid rfl) (by omega) hcl hcm hc (by have:=jN.out.dX.live;rwa [Nat.zero_add] at this) hcr hdp.1 (Zt.lt) Wy Tp (by omega) (by have:=HN.out.1;omega) rW.out.hbg)
              have X6:=hid (fun W' off=>Bt (W':=W') (rb:=rb) (off:=off) jN.out.dX (by omega) hcl hcm hcr Zt)
              rw[if_neg EP] at TG
              obtain ⟨ao,cap,hv,hsl⟩:=sV jN.out.r
              subst hv
              have c2:=jN.out.hear.c2
              have Hrp:=hid IX
              have Hqd:=hid Zr
              have Hdp:=hid hdp
              have HHr:Hid (hb≠rb):=by have:=HN.out.1;exact hid (by omega)
              have HLc:=hid Tp.lt
              have HOr:Hid (Off pr rb):=fun p hp e=>by have:=Zi.out p hp;omega
              have Zu:Hid (∀ W,kQ W rb (rp.drawn (dU M'.aV 0) (dU M'.aV 1) (dU M'.aV 2))→Out W (.slice ao 0 cap) pr []→rb<W.heap.size→Calls Tryz.prog 103 #[.pointer (some ⟨rb,0,none⟩),.slice ao 0 cap] W fun e w'=>∃ v',e = .returned v'∧aI W w' v' pr ([]++(rp.drawn (dU M'.aV 0) (dU M'.aV 1) (dU M'.aV 2)).rF 13 5)):=
               fun W h1 h2 h3=>xJ (.slice ao 0 cap) pr [] rb _ W h2 h1 h3 HOr.out (Pk Hrp.out HGI.out.1 HQ.out.2.2.1 (rW.out.oL sv (jG uJ.out.2)) (lJ uJ.out.2) (by rw[HGI.out.2,←lJ uJ.out.1];exact (rW.out.oL cl (jG uJ.out.1)).name)) (by simp)
              clear hc hcl hcm hcr Zt hdp hgw Wy Tp IX Zr EP
              go_wp2_with (first
               | (go_at_call 96;refine HD.out.mono ?_;clear HD;rintro r Wx ⟨rfl,Tt,Tu,Tq⟩;have Zv:=hid Tt;have Zw:=hid Tu;have vC:=hid Tq;clear Tt Tu Tq;have c2':=vC.out.cell c2 (fun e=>by rcases e with ⟨e,_⟩ | e;exact rW.out.hbg e;exact HHr.out e);have HLt:=hid (Nat.lt_of_lt_of_le HLc.out vC.out.size))
               | (go_at_call 103;refine (Zu.out _ Zv.out (jN.out.r.cf vC.out (fun _ _ j hj=>absurd hj (by simp))) HLt.out).mono ?_;rintro r w12 ⟨v',rfl,M12⟩;have Zx:=hid M12;clear M12))
              first | go_ret|(rw[Exit.noGoto_ret];go_ret)
              refine ⟨_,rfl,?_⟩
              rw[TG.out]
              obtain ⟨off,k1,k2,k3⟩:=Zw.out
              have hM:=Zx.out
              rw[LG Hrp.out (lJ uJ.out.2)] at hM
              exact Pn jN.out.big jN.out.cf vC.out (by omega) Tj.out jN.out.j hM rW.out (X6.out Wx off k1 k2 k3 vC.out Hdp.out.1 (by have:=Hdp.out.2.2.1;omega) (by have:=HN.out.2;omega)) Hqd.out rfl
        ·have CV:=hid (M3 y x now 7 6 2 1 (by decide) (by decide) (by decide) (by decide))
         have yG:Hid (FR=(aL now (dw y x now 7 6 2 1),M')):=by
          rw[wZ.out,Pg XF.out (Int.not_lt.2 I8.out) (by rw[TF.out.1];exact uJ.out.2) (by rw[TF.out.1];exact uJ.out.1) hpc]
          exact rfl
         generalize dw y x now 7 6 2 1=pcd at *
         go_wp2_with fail
         go_meet
         exact ⟨_,_,rfl,CV.out,yG.out,vU.out.hear,vU.out.dX,vU.out.r,vU.out.big,vU.out.cf,vU.out.j⟩
 case rest=>
  obtain ⟨code,M1,rfl,hcd,Tv,hH,hD,hO,hbig,hC,hjc⟩:=hcut
  have HJc:=hid hjc
  clear hjc
  have Zy:=hid (vB hb g T fv ro rr pr now code _ hH hO rW.out.prH HQ.out.1 hcd)
  have wZ:=hid Tv
  have HD:=hid hD
  have HC:=hid hC
  have HB:=hid hbig
  clear hH hO hcd Tv hD hC hbig
  go_wp2_with (first|(go_at_call 65;refine Zy.out.mono ?_;rintro e w9 ⟨v',rfl,M9⟩;have Na:=hid M9;clear M9))
  rw[Exit.noGoto_ret]
  go_ret
  refine ⟨_,rfl,?_⟩
  rw[wZ.out]
  exact I6 HD.out HB.out HC.out Na.out rW.out HJc.out
end Go.Proofs.YtpibgolaaaemnaaGreatDoor
