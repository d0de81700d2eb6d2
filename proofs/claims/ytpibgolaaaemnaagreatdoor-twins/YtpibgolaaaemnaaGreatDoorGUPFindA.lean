/-
  
  
  
  
  
  
  
  
-/
import Derived.Test.YtpibgolaaaemnaaGreatDoorGUPPrfE
import Derived.Deep.CutBlock
import Derived.Test.YtpibgolaaaemnaaGreatDoorGUPOpenB
import Derived.Test.YtpibgolaaaemnaaGreatDoorGUPOpenA
namespace Go.Proofs.YtpibgolaaaemnaaGreatDoor
open Go.RowKit
set_option maxRecDepth 100000
def nG (x:Option BE):List Value:=match x with | none=>noEntry.toList | some e=>e.aR
def kG (x:Option BE):Value:=.tuple #[.agg (nG x).toArray,.bool x.isSome]
def findF (T:Nat):Nat:=if T=119 then 219 else 225
theorem yI (T:Nat) (args:Array Value) (W:World):(callFunc (findF T) args).run Tryz.prog W = .ok (.enter (findF T) args) W:=by
 unfold findF
 split
 ·kernel_rfl
 ·kernel_rfl
structure Finds (ff:Nat) (J:World→Prop) (dB oK:Nat→Nat→Prop) (rv:Value) (es:List BE):Prop where
 call:∀ W,J W→∀ l:List UInt8,Calls Tryz.prog ff #[rv,.string ⟨l.toArray⟩] W fun e w'=>e = .returned (kG (BE.find es l))∧J w'∧CF W w' dB
 stay:∀ W W',J W→CF W W' oK→J W'
theorem gB (x:Option BE):∃ v0 v1 v2 v3 v4 v5 v6 v7,nG x=[.string v0,.int .i64 v1,.int .u64 v2,.int .u64 v3,.int .i64 v4,.int .i64 v5,.int .i64 v6,.int .i64 v7]:=by cases x <;> exact ⟨_,_,_,_,_,_,_,_,rfl⟩
theorem fH {w w':World} {b o:Nat} {cs:List Value} (h:w.rangeAt b o cs) (k:w.grownBy w' none):w'.rangeAt b o cs:=fun i v hv=>k.cell (h i v hv) (by simp)
theorem dY {w:World} {b:Nat} (h:Live w b 8):(∃ d,w.cell? ⟨b,0,none⟩=some d)∧(∃ d,w.cell? ⟨b,1,none⟩=some d)∧(∃ d,w.cell? ⟨b,2,none⟩=some d)∧(∃ d,w.cell? ⟨b,3,none⟩=some d)∧(∃ d,w.cell? ⟨b,4,none⟩=some d)∧(∃ d,w.cell? ⟨b,5,none⟩=some d)∧(∃ d,w.cell? ⟨b,6,none⟩=some d)∧(∃ d,w.cell? ⟨b,7,none⟩=some d)∧w.frozen? ⟨b,0,none⟩=false∧w.frozen? ⟨b,1,none⟩=false∧w.frozen? ⟨b,2,none⟩=false∧w.frozen? ⟨b,3,none⟩=false∧w.frozen? ⟨b,4,none⟩=false∧w.frozen? ⟨b,5,none⟩=false∧w.frozen? ⟨b,6,none⟩=false∧w.frozen? ⟨b,7,none⟩=false:=by
 have hc:∀ j,j<8→∃ v,w.cell? ⟨b,j,none⟩=some v:=fun j hj=>Option.isSome_iff_exists.1 (h.some j hj)
 exact ⟨hc 0 (by decide),hc 1 (by decide),hc 2 (by decide),hc 3 (by decide),hc 4 (by decide),hc 5 (by decide),hc 6 (by decide),hc 7 (by decide),h.frozen 0,h.frozen 1,h.frozen 2,h.frozen 3,h.frozen 4,h.frozen 5,h.frozen 6,h.frozen 7⟩
theorem iL {w:World} {b:Nat} {v0 v1 v2 v3 v4 v5 v6 v7:Value} (h:w.rangeAt b 0 [v0,v1,v2,v3,v4,v5,v6,v7]):w.cell? ⟨b,0,none⟩=some v0∧w.cell? ⟨b,1,none⟩=some v1∧w.cell? ⟨b,2,none⟩=some v2∧w.cell? ⟨b,3,none⟩=some v3∧w.cell? ⟨b,4,none⟩=some v4∧w.cell? ⟨b,5,none⟩=some v5∧w.cell? ⟨b,6,none⟩=some v6∧w.cell? ⟨b,7,none⟩=some v7:=
 ⟨h 0 _ rfl,h 1 _ rfl,h 2 _ rfl,h 3 _ rfl,h 4 _ rfl,h 5 _ rfl,h 6 _ rfl,h 7 _ rfl⟩
theorem Rw (w:World) (b c:Nat) (hbc:b≠c) (v0 v1 v2 v3 v4 v5 v6 v7 u0 u1 u2 u3 u4 u5 u6 u7:Value) (hA:w.rangeAt b 0 [v0,v1,v2,v3,v4,v5,v6,v7]) (hB:w.rangeAt c 0 [u0,u1,u2,u3,u4,u5,u6,u7]) :
  ((((((((((((((((w.setCell ⟨b,0,none⟩ v0).setCell ⟨b,1,none⟩ v1).setCell ⟨b,2,none⟩ v2).setCell ⟨b,3,none⟩ v3).setCell ⟨b,4,none⟩ v4).setCell ⟨b,5,none⟩ v5).setCell ⟨b,6,none⟩ v6).setCell ⟨b,7,none⟩ v7).setCell ⟨c,0,none⟩ u0).setCell ⟨c,1,none⟩ u1).setCell ⟨c,2,none⟩ u2).setCell ⟨c,3,none⟩ u3).setCell ⟨c,4,none⟩ u4).setCell ⟨c,5,none⟩ u5).setCell ⟨c,6,none⟩ u6).setCell ⟨c,7,none⟩ u7).rangeAt b 0 [v0,v1,v2,v3,v4,v5,v6,v7]∧((((((((((((((((w.setCell ⟨b,0,none⟩ v0).setCell ⟨b,1,none⟩ v1).setCell ⟨b,2,none⟩ v2).setCell ⟨b,3,none⟩ v3).setCell ⟨b,4,none⟩ v4).setCell ⟨b,5,none⟩ v5).setCell ⟨b,6,none⟩ v6).setCell ⟨b,7,none⟩ v7).setCell ⟨c,0,none⟩ u0).setCell ⟨c,1,none⟩ u1).setCell ⟨c,2,none⟩ u2).setCell ⟨c,3,none⟩ u3).setCell ⟨c,4,none⟩ u4).setCell ⟨c,5,none⟩ u5).setCell ⟨c,6,none⟩ u6).setCell ⟨c,7,none⟩ u7).rangeAt c 0 [u0,u1,u2,u3,u4,u5,u6,u7]∧CF w ((((((((((((((((w.setCell ⟨b,0,none⟩ v0).setCell ⟨b,1,none⟩ v1).setCell ⟨b,2,none⟩ v2).setCell ⟨b,3,none⟩ v3).setCell ⟨b,4,none⟩ v4).setCell ⟨b,5,none⟩ v5).setCell ⟨b,6,none⟩ v6).setCell ⟨b,7,none⟩ v7).setCell ⟨c,0,none⟩ u0).setCell ⟨c,1,none⟩ u1).setCell ⟨c,2,none⟩ u2).setCell ⟨c,3,none⟩ u3).setCell ⟨c,4,none⟩ u4).setCell ⟨c,5,none⟩ u5).setCell ⟨c,6,none⟩ u6).setCell ⟨c,7,none⟩ u7) (fun x _=>x=b∨x=c):=by
 obtain ⟨p0,p1,p2,p3,p4,p5,p6,p7⟩:=iL hA
 have E1:=fw w b v0 v1 v2 v3 v4 v5 v6 v7 p0 p1 p2 p3 p4 p5 p6 p7
 have C1:CF w ((((((((w.setCell ⟨b,0,none⟩ v0).setCell ⟨b,1,none⟩ v1).setCell ⟨b,2,none⟩ v2).setCell ⟨b,3,none⟩ v3).setCell ⟨b,4,none⟩ v4).setCell ⟨b,5,none⟩ v5).setCell ⟨b,6,none⟩ v6).setCell ⟨b,7,none⟩ v7) (fun x _=>x=b):=by
  repeat refine CF.setCell ?_ _ _ _ (fun _=>rfl)
  exact CF.refl _ _
 have hB2:=C1.range hB (fun _ _ e=>hbc e.symm)
 generalize ((((((((w.setCell ⟨b,0,none⟩ v0).setCell ⟨b,1,none⟩ v1).setCell ⟨b,2,none⟩ v2).setCell ⟨b,3,none⟩ v3).setCell ⟨b,4,none⟩ v4).setCell ⟨b,5,none⟩ v5).setCell ⟨b,6,none⟩ v6).setCell ⟨b,7,none⟩ v7)=W8 at *
 obtain ⟨r0,r1,r2,r3,r4,r5,r6,r7⟩:=iL hB2
 have E2:=fw W8 c u0 u1 u2 u3 u4 u5 u6 u7 r0 r1 r2 r3 r4 r5 r6 r7
 have C2:CF W8 ((((((((W8.setCell ⟨c,0,none⟩ u0).setCell ⟨c,1,none⟩ u1).setCell ⟨c,2,none⟩ u2).setCell ⟨c,3,none⟩ u3).setCell ⟨c,4,none⟩ u4).setCell ⟨c,5,none⟩ u5).setCell ⟨c,6,none⟩ u6).setCell ⟨c,7,none⟩ u7) (fun x _=>x=c):=by
  repeat refine CF.setCell ?_ _ _ _ (fun _=>rfl)
  exact CF.refl _ _
 exact ⟨C2.range E1 (fun _ _ e=>hbc e),E2,(C1.mono (fun _ _ _ e=>.inl e)).trans C2 (fun _ _ _ e=>.inr e)⟩
theorem Cy {fn:Func} {a b u:Tmp} {ty:TypeId} (h:fn.results=#[.cell a ty,.cell b ty,.tmp u]) (tmps:Array Value) (P:Program) (w:World) (ba bb:Nat) (hp:tmps.getD a undef = .pointer (some ⟨ba,0,none⟩)) (hq:tmps.getD b undef = .pointer (some ⟨bb,0,none⟩)) (x y:Value) (hl:(loadVar ty ⟨ba,0,none⟩).run P w = .ok x w) (hm:(loadVar ty ⟨bb,0,none⟩).run P w = .ok y w) :
  (results fn tmps).run P w = .ok (.tuple #[x,y,tmps.getD u undef]) w:=by
 have hp':tmps[a]?.getD undef = .pointer (some ⟨ba,0,none⟩):=by simpa using hp
 have hq':tmps[b]?.getD undef = .pointer (some ⟨bb,0,none⟩):=by simpa using hq
 simp[results,h,hp',hq',hl,hm,asAddr]
set_option maxHeartbeats 1000000 in
theorem DF (hb base T:Nat) (fv rv:Value) (J:World→Prop) (dB oK:Nat→Nat→Prop) (es:List BE) (la lb:List UInt8) (ua xa ub xb now:Int) (w:World)
  (hm:∀ W,(method 434 T fv "Find").run Tryz.prog W = .ok (findF T,rv) W) (hF:Finds (findF T) J dB oK rv es) (hJ:J w)
  (c0:w.cell? ⟨hb,0,none⟩=some (.iface T fv)) (c4:w.cell? ⟨hb,4,none⟩=some (.int .i64 now)) (h1:∀ y,¬ dB hb y) (h2:∀ b y,base≤b→¬ dB b y) (h3:∀ b y,base≤b→oK b y) (hbase:base≤w.heap.size) :
  Calls Tryz.prog 87 #[.pointer (some ⟨hb,0,none⟩),.agg #[.string ⟨la.toArray⟩,.int .i64 ua,.int .i64 xa],.agg #[.string ⟨lb.toArray⟩,.int .i64 ub,.int .i64 xb]] w fun e w'=>e = .returned (.tuple #[.agg (nG (BE.find es la)).toArray,.agg (nG (BE.find es lb)).toArray,.int .i64 (dw (BE.find es la) (BE.find es lb) now ua ub xa xb)])∧J w'∧CF w w' dB:=by
 obtain ⟨W0,hW0⟩:∃ W,W=(((w.alloc (.cells #[.string ⟨la.toArray⟩,.int .i64 ua,.int .i64 xa] 203)).alloc (.cells #[.string ⟨lb.toArray⟩,.int .i64 ub,.int .i64 xb] 203)).alloc (.cells noEntry 87)).alloc (.cells noEntry 87):=⟨_,rfl⟩
 have G0:w.grownBy W0 none:=by rw[hW0];exact aC (aC (aC (World.grownBy_alloc w _ none) _) _) _
 have s0:W0.heap.size=w.heap.size+4:=by rw[hW0];simp only[World.size_alloc]
 have RA:W0.rangeAt w.heap.size 0 [.string ⟨la.toArray⟩,.int .i64 ua,.int .i64 xa]:=by
  rw[hW0]
  exact fH (aQ w #[.string ⟨la.toArray⟩,.int .i64 ua,.int .i64 xa] _) (aC (aC (World.grownBy_alloc _ _ none) _) _)
 have RB:W0.rangeAt (w.heap.size+1) 0 [.string ⟨lb.toArray⟩,.int .i64 ub,.int .i64 xb]:=by
  have h:=fH (aQ (w.alloc (.cells #[.string ⟨la.toArray⟩,.int .i64 ua,.int .i64 xa] 203)) #[.string ⟨lb.toArray⟩,.int .i64 ub,.int .i64 xb] 203) (aC (World.grownBy_alloc _ (.cells noEntry 87) none) (.cells noEntry 87))
  rw[World.size_alloc] at h
  rw[hW0]
  exact h
 have LA:Live W0 (w.heap.size+1+1) 8:=by
  have h:=(Live.new ((w.alloc (.cells #[.string ⟨la.toArray⟩,.int .i64 ua,.int .i64 xa] 203)).alloc (.cells #[.string ⟨lb.toArray⟩,.int .i64 ub,.int .i64 xb] 203)) noEntry 87).grown (World.grownBy_alloc _ (.cells noEntry 87) none)
  rw[World.size_alloc,World.size_alloc] at h
  rw[hW0]
  exact h
 have LB:Live W0 (w.heap.size+1+1+1) 8:=by
  have h:=Live.new (((w.alloc (.cells #[.string ⟨la.toArray⟩,.int .i64 ua,.int .i64 xa] 203)).alloc (.cells #[.string ⟨lb.toArray⟩,.int .i64 ub,.int .i64 xb] 203)).alloc (.cells noEntry 87)) noEntry 87
  rw[World.size_alloc,World.size_alloc,World.size_alloc] at h
  rw[hW0]
  exact h
 obtain ⟨x,hx⟩:∃ x,BE.find es la=x:=⟨_,rfl⟩
 obtain ⟨y,hy⟩:∃ y,BE.find es lb=y:=⟨_,rfl⟩
 have HA:=hid (fun W hW=>hF.call W hW la)
 have HB:=hid (fun W hW=>hF.call W hW lb)
 rw[hx] at HA
 rw[hy] at HB
 rw[hx,hy]
 clear hx hy
 obtain ⟨v0,v1,v2,v3,v4,v5,v6,v7,hv⟩:=gB x
 obtain ⟨u0,u1,u2,u3,u4,u5,u6,u7,hu⟩:=gB y
 obtain ⟨ba,hba⟩:∃ b,x.isSome=b:=⟨_,rfl⟩
 obtain ⟨bb,hbb⟩:∃ b,y.isSome=b:=⟨_,rfl⟩
 unfold kG at HA HB
 rw[hv,hba] at HA
 rw[hu,hbb] at HB
 have HST:=hid hF.stay
 have HJ:=hid hJ
 have HW0:=hid hW0
 have Hv:=hid hv
 have Hu:=hid hu
 have Hba:=hid hba
 have Hbb:=hid hbb
 have mD:=hid G0
 have a0:=G0.cell c0 (by simp)
 have a1:W0.cell? ⟨w.heap.size,0,none⟩=some (.string ⟨la.toArray⟩):=RA 0 _ rfl
 have JW:=hid RA
 have MP:=hid RB
 have HLA:=hid LA
 have HLB:=hid LB
 have HN:Hid (w.heap.size≤hb→False):=fun e=>by have:=jh c0;omega
 have n1:w.heap.size+1+1≠hb:=fun e=>HN.out (by omega)
 have n2:w.heap.size+1+1≠w.heap.size:=by omega
 have n3:w.heap.size+1+1+1≠hb:=fun e=>HN.out (by omega)
 have n4:w.heap.size+1+1+1≠w.heap.size+1:=by omega
 have H1:=hid h1
 have H2:=hid h2
 have H3:=hid h3
 clear hF hJ hW0 hv hu hba hbb RA RB LA LB h1 h2 h3 G0
 have hcf:=yI T
 go_enter Tryz.func87,Tryz.ntmps87
 go_wp2_with fail
 rw[←HW0.out]
 go_cut [9] (fun c wx=>c = .bool ba∧wx.rangeAt (w.heap.size+1+1) 0 [.string v0,.int .i64 v1,.int .u64 v2,.int .u64 v3,.int .i64 v4,.int .i64 v5,.int .i64 v6,.int .i64 v7]∧J wx∧CF W0 wx (fun b y=>dB b y∨b=w.heap.size+1+1))
 case first=>
  go_region_held3 (fun w'=>w'.cell? ⟨hb,0,none⟩=some (.iface T fv)∧w'.cell? ⟨w.heap.size,0,none⟩=some (.string ⟨la.toArray⟩)) (go_keep) (first|((with_reducible show Calls _ (findF T) _ _ _);refine (HA.out _ (HST.out _ _ HJ.out (CF.aW (aO mD.out 1) _))).mono ?_;rintro e w1 ⟨rfl,j1,C1⟩;have b0:=C1.bM.cell a0 (H1.out 0);have b1:=C1.bM.cell a1 (H2.out _ 0 hbase);have Rx:=hid j1;have wI:=hid C1.bM;clear j1 C1;have hL:=HLA.out.cf wI.out;obtain ⟨⟨d0,q0⟩,⟨d1,q1⟩,⟨d2,q2⟩,⟨d3,q3⟩,⟨d4,q4⟩,⟨d5,q5⟩,⟨d6,q6⟩,⟨d7,q7⟩,f0,f1,f2,f3,f4,f5,f6,f7⟩:=dY hL))
  go_wp2
  go_meet
  refine ⟨rfl,fw _ _ _ _ _ _ _ _ _ _ q0 q1 q2 q3 q4 q5 q6 q7,?_,?_⟩
  ·refine HST.out _ _ Rx.out ?_
   repeat refine CF.setCell ?_ _ _ _ (fun _=>H3.out _ _ (by omega))
   exact CF.refl _ _
  ·repeat refine CF.setCell ?_ _ _ _ (fun _=>.inr rfl)
   exact wI.out.mono (fun _ _ _ e=>.inl e)
 case rest=>
  obtain ⟨rfl,JV,hj1,AU⟩:=hcut
  have HR1:=hid JV
  have Rx:=hid hj1
  have wI:=hid AU
  have k0:=AU.cell a0 (fun e=>by rcases e with e | e;exact H1.out _ e;exact HN.out (by omega))
  have k1:wc.cell? ⟨w.heap.size+1,0,none⟩=some (.string ⟨lb.toArray⟩):=AU.cell (MP.out 0 _ rfl) (fun e=>by rcases e with e | e;exact H2.out _ _ (by omega) e;omega)
  clear JV hj1 AU a0 a1
  go_wp2_with fail
  go_cut [10] (fun c wx=>c = .bool bb∧wx.rangeAt (w.heap.size+1+1+1) 0 [.string u0,.int .i64 u1,.int .u64 u2,.int .u64 u3,.int .i64 u4,.int .i64 u5,.int .i64 u6,.int .i64 u7]∧wx.rangeAt (w.heap.size+1+1) 0 [.string v0,.int .i64 v1,.int .u64 v2,.int .u64 v3,.int .i64 v4,.int .i64 v5,.int .i64 v6,.int .i64 v7]∧J wx∧CF W0 wx (fun b y=>dB b y∨b=w.heap.size+1+1∨b=w.heap.size+1+1+1))
  case first=>
   go_region_held3 (fun w'=>w'.cell? ⟨hb,0,none⟩=some (.iface T fv)∧w'.cell? ⟨w.heap.size+1,0,none⟩=some (.string ⟨lb.toArray⟩)) (go_keep) (first|((with_reducible show Calls _ (findF T) _ _ _);refine (HB.out _ (HST.out _ _ Rx.out (CF.aW (aO (World.grownBy.refl _ _) 1) _))).mono ?_;rintro e w1 ⟨rfl,j1,C1⟩;have b0:=C1.bM.cell k0 (H1.out 0);have b1:=C1.bM.cell k1 (H2.out _ 0 (by omega));have HJ2:=hid j1;have Kr:=hid C1.bM;clear j1 C1;have hL:=(HLB.out.cf wI.out).cf Kr.out;obtain ⟨⟨d0,q0⟩,⟨d1,q1⟩,⟨d2,q2⟩,⟨d3,q3⟩,⟨d4,q4⟩,⟨d5,q5⟩,⟨d6,q6⟩,⟨d7,q7⟩,f0,f1,f2,f3,f4,f5,f6,f7⟩:=dY hL))
   go_wp2
   go_meet
   have C3:=Kr.out.mono (ex':=fun b y=>dB b y∨b=w.heap.size+1+1+1) (fun _ _ _ e=>.inl e)
   refine ⟨rfl,fw _ _ _ _ _ _ _ _ _ _ q0 q1 q2 q3 q4 q5 q6 q7,?_,?_,?_⟩
   ·refine CF.range (ex:=fun b y=>dB b y∨b=w.heap.size+1+1+1) ?_ HR1.out (fun j _ e=>?_)
    ·repeat refine CF.setCell ?_ _ _ _ (fun _=>.inr rfl)
     exact C3
    ·rcases e with e | e
     ·exact H2.out _ _ (by omega) e
     ·omega
   ·refine HST.out _ _ HJ2.out ?_
    repeat refine CF.setCell ?_ _ _ _ (fun _=>H3.out _ _ (by omega))
    exact CF.refl _ _
   ·refine (wI.out.mono (fun _ _ _ e=>e.elim .inl (fun e=>.inr (.inl e)))).trans (Yu:=fun b y=>dB b y∨b=w.heap.size+1+1+1) ?_ (fun _ _ _ e=>e.elim .inl (fun e=>.inr (.inr e)))
    repeat refine CF.setCell ?_ _ _ _ (fun _=>.inr rfl)
    exact C3
  case rest=>
   obtain ⟨rfl,QG,JV,hj2,hC2⟩:=hcut
   have Ot:=hid JV
   have YM:=hid QG
   have HJ2:=hid hj2
   have Kr:=hid hC2
   clear Rx wI HR1 k0 k1
   have t1:wc.cell? ⟨w.heap.size,1,none⟩=some (.int .i64 ua):=hC2.cell (JW.out 1 _ rfl) (fun e=>by rcases e with e | e | e;exact H2.out _ _ (by omega) e;omega;omega)
   have t2:wc.cell? ⟨w.heap.size,2,none⟩=some (.int .i64 xa):=hC2.cell (JW.out 2 _ rfl) (fun e=>by rcases e with e | e | e;exact H2.out _ _ (by omega) e;omega;omega)
   have t3:wc.cell? ⟨w.heap.size+1,1,none⟩=some (.int .i64 ub):=hC2.cell (MP.out 1 _ rfl) (fun e=>by rcases e with e | e | e;exact H2.out _ _ (by omega) e;omega;omega)
   have t4:wc.cell? ⟨w.heap.size+1,2,none⟩=some (.int .i64 xb):=hC2.cell (MP.out 2 _ rfl) (fun e=>by rcases e with e | e | e;exact H2.out _ _ (by omega) e;omega;omega)
   have t5:wc.cell? ⟨hb,4,none⟩=some (.int .i64 now):=hC2.cell (mD.out.cell c4 (by simp)) (fun e=>by rcases e with e | e | e;exact H1.out _ e;exact n1 e.symm;exact n3 e.symm)
   clear JV QG hj2 hC2
   go_upto_block 0 with fail
   go_cut [8] (fun c wx=>c = .int .i64 (dw x y now ua ub xa xb)∧wx=wc)
   case first=>
    cases x with
    | none=>
     obtain rfl:ba=false:=Hba.out.symm
     go_wp2_with fail
     go_meet
     exact ⟨rfl,rfl⟩
    | some e=>
     obtain rfl:ba=true:=Hba.out.symm
     cases y with
     | none=>
      obtain rfl:bb=false:=Hbb.out.symm
      go_wp2_with fail
      go_meet
      exact ⟨rfl,rfl⟩
     | some f=>
      obtain rfl:bb=true:=Hbb.out.symm
      have re:wc.rangeAt (w.heap.size+1+1) 0 e.aR:=by have h:=Ot.out;rw[←Hv.out] at h;exact h
      have rf:wc.rangeAt (w.heap.size+1+1+1) 0 f.aR:=by have h:=YM.out;rw[←Hu.out] at h;exact h
      have Cv:=hid (AO (w.heap.size+1+1) 4 e now wc (re 6 _ rfl))
      have tZ:=hid (AO (w.heap.size+1+1+1) 4 f now wc (rf 6 _ rfl))
      have Ry:=hid (wK (w.heap.size+1+1) 4 e 32 5 wc (by decide) (by decide) (re 7 _ rfl))
      have Cx:=hid (wK (w.heap.size+1+1+1) 4 f 32 5 wc (by decide) (by decide) (rf 7 _ rfl))
      have KF:Hid (dw (some e) (some f) now ua ub xa xb=if e.gone now=true then xa else if f.gone now=true then xb else if e.has 32=true∨f.has 32=true then 12 else 0):=rfl
      clear re rf
      generalize e.gone now=b1 at *
      generalize f.gone now=b2 at *
      generalize e.has 32=b3 at *
      generalize f.has 32=b4 at *
      generalize dw (some e) (some f) now ua ub xa xb=pc at *
      cases b1 with
      | true=>
       go_wp2_with (first|(go_at_call 122;refine Cv.out.mono ?_;clear Cv;rintro e w1 ⟨rfl,rfl⟩))
       go_meet
       exact ⟨by rw[KF.out];rfl,rfl⟩
      | false=>
       cases b2 with
       | true=>
        go_wp2_with (first|(go_at_call 122;refine Cv.out.mono ?_;clear Cv;rintro e w1 ⟨rfl,rfl⟩)|(go_at_call 122;refine tZ.out.mono ?_;clear tZ;rintro e w1 ⟨rfl,rfl⟩))
        go_meet
        exact ⟨by rw[KF.out];rfl,rfl⟩
       | false=>
        cases b3 with
        | true=>
         go_wp2_with (first|(go_at_call 122;refine Cv.out.mono ?_;clear Cv;rintro e w1 ⟨rfl,rfl⟩)|(go_at_call 122;refine tZ.out.mono ?_;clear tZ;rintro e w1 ⟨rfl,rfl⟩)|(go_at_call 123;refine Ry.out.mono ?_;clear Ry;rintro e w1 ⟨rfl,rfl⟩)|(go_at_call 123;refine Cx.out.mono ?_;clear Cx;rintro e w1 ⟨rfl,rfl⟩))
         go_meet
         exact ⟨by rw[KF.out];simp,rfl⟩
        | false=>
         cases b4 with
         | true=>
          go_wp2_with (first|(go_at_call 122;refine Cv.out.mono ?_;clear Cv;rintro e w1 ⟨rfl,rfl⟩)|(go_at_call 122;refine tZ.out.mono ?_;clear tZ;rintro e w1 ⟨rfl,rfl⟩)|(go_at_call 123;refine Ry.out.mono ?_;clear Ry;rintro e w1 ⟨rfl,rfl⟩)|(go_at_call 123;refine Cx.out.mono ?_;clear Cx;rintro e w1 ⟨rfl,rfl⟩))
          go_meet
          exact ⟨by rw[KF.out];simp,rfl⟩
         | false=>
          go_wp2_with (first|(go_at_call 122;refine Cv.out.mono ?_;clear Cv;rintro e w1 ⟨rfl,rfl⟩)|(go_at_call 122;refine tZ.out.mono ?_;clear tZ;rintro e w1 ⟨rfl,rfl⟩)|(go_at_call 123;refine Ry.out.mono ?_;clear Ry;rintro e w1 ⟨rfl,rfl⟩)|(go_at_call 123;refine Cx.out.mono ?_;clear Cx;rintro e w1 ⟨rfl,rfl⟩))
          go_meet
          exact ⟨by rw[KF.out];simp,rfl⟩
   case rest=>
    obtain ⟨rfl,rfl⟩:=hcut
    clear t1 t2 t3 t4 t5
    obtain ⟨p0,p1,p2,p3,p4,p5,p6,p7⟩:=iL Ot.out
    obtain ⟨r0,r1,r2,r3,r4,r5,r6,r7⟩:=iL YM.out
    have hLA:=(HLA.out.cf Kr.out)
    have hLB:=(HLB.out.cf Kr.out)
    obtain ⟨_,_,_,_,_,_,_,_,f0,f1,f2,f3,f4,f5,f6,f7⟩:=dY hLA
    obtain ⟨_,_,_,_,_,_,_,_,g0,g1,g2,g3,g4,g5,g6,g7⟩:=dY hLB
    clear hLA hLB
    go_wp2_with fail
    have T2:=Rw wc (w.heap.size+1+1) (w.heap.size+1+1+1) (by omega) _ _ _ _ _ _ _ _ _ _ _ _ _ _ _ _ Ot.out YM.out
    refine bodyPost_ret (Cy Tryz.results87 _ _ _ (w.heap.size+1+1) (w.heap.size+1+1+1) rfl rfl _ _ (dN T2.1 87 _ Tryz.underlying87 rfl Tryz.gH) (dN T2.2.1 87 _ Tryz.underlying87 rfl Tryz.gH)) rfl ⟨by rw[Hv.out,Hu.out];rfl,?_,?_⟩
    ·exact HST.out _ _ HJ2.out (T2.2.2.mono (fun b _ _ e=>H3.out _ _ (by rcases e with e | e <;> omega)))
    ·refine ((CF.before mD.out Kr.out).trans T2.2.2 (fun _ _ _ e=>e.elim (fun e=>.inr (.inl e)) (fun e=>.inr (.inr e)))).mono (fun b _ hlt e=>?_)
     rcases e with e | e | e
     ·exact e
     ·omega
     ·omega
end Go.Proofs.YtpibgolaaaemnaaGreatDoor
namespace Go.Proofs.YtpibgolaaaemnaaGreatDoor
open Go.RowKit
set_option maxRecDepth 100000
def FQ.cells (q:FQ) (pn:Int) (v:Value):List Value:=[.string ⟨q.af.toArray⟩,.string ⟨q.az.toArray⟩,.int .i64 q.aB,.int .i64 q.eY,.int .i64 q.dF,.int .i64 q.bQ,.int .i64 q.aJ,.bool q.pre.isSome,.int .i64 pn,v]
def NQ.cells (q:NQ) (v u:Value):List Value:=[.string ⟨q.iT.toArray⟩,.int .i64 q.yY,v,u,.string ⟨q.az.toArray⟩,.int .i64 q.aB,.int .i64 q.dF,.int .i64 q.bQ,.int .i64 q.aJ]
def TK.cells (t:TK):List Value:=[.int .i64 t.ay,.int .u64 (t.aU.toNat:Int),.string ⟨t.af.toArray⟩,.int .i64 t.eH,.int .i64 t.start,.int .i64 t.fin,.int .i64 t.aF]
theorem Lb (b:Nat) (x s:BE) (f:Int) (k:Nat) (w:World) (nq:Nat) (hf:f=2 ^ k) (hk:k<63) (h:dZ w b x s) :
  Calls Tryz.prog 126 #[.pointer (some ⟨b,0,none⟩),.int .i64 f] (w.drewN nq) fun r w'=>r = .returned (.bool (x.has f && s.has f))∧∃ m,w'=w.drewN m:=
 (mE b x s f k _ hf hk (h.grown (aO (World.grownBy.refl _ _) nq))).mono fun _ _ ⟨h1,h2⟩=>⟨h1,nq,h2⟩
theorem OP (hb g:Nat) (now ax t:Int) (w:World) (nq:Nat) (c3:w.cell? ⟨hb,3,none⟩=some (.pointer (some ⟨g,0,none⟩))) (c4:w.cell? ⟨hb,4,none⟩=some (.int .i64 now)) (cs:w.cell? ⟨g,0,none⟩=some (.int .i64 ax)) (dC:In64 now) (hsk:In64 ax) :
  Calls Tryz.prog 100 #[.pointer (some ⟨hb,0,none⟩),.int .i64 t] (w.drewN nq) fun e w'=>e = .returned (.bool (decide (aX now ax<t)))∧∃ m,w'=w.drewN m:=
 (yE hb g now ax t _ ((aO (World.grownBy.refl w none) nq).cell c3 (by simp)) ((aO (World.grownBy.refl w none) nq).cell c4 (by simp)) ((aO (World.grownBy.refl w none) nq).cell cs (by simp)) dC hsk).mono fun _ _ ⟨h1,m,h2⟩=>⟨h1,nq+m,by rw[h2,World.drewN_drewN]⟩
theorem pU (s:List UInt8×Bool):In64 (bq s).1:=by
 unfold bq
 cases h:Box.num (aM 2 s.1 s.2).1 with
 | some v=>exact uX h
 | none=>exact (show In64 0 from ⟨by decide,by decide⟩)
theorem lM {p:Option Pl} {b:Nat} (h:Off p b) (o:Nat):¬ Pl.has p b o:=fun ⟨q,e1,e2,_⟩=>h q e1 e2
theorem MZ {w:World} {v:Value} {p:Option Pl} {bs:List UInt8} (h:Out w v p bs) (o:Nat):¬ Pl.has p w.heap.size o:=fun e=>Nat.lt_irrefl _ (h.lt e)
end Go.Proofs.YtpibgolaaaemnaaGreatDoor
namespace Go.Proofs.YtpibgolaaaemnaaGreatDoor
open Go.RowKit
set_option maxRecDepth 100000
abbrev ik:Array Value:=#[.int .i64 0,.int .u64 0,.string ⟨#[]⟩,.int .i64 0,.int .i64 0,.int .i64 0,.int .i64 0]
theorem sU (x:Int):In64 (sat x):=by
 unfold sat In64
 split
 ·omega
 ·split <;> omega
theorem Lc (a b:Int):lesser a b=min a b:=by
 unfold lesser
 split <;> omega
def oq (r:Except Int TK):Value:=match r with | .error c=>.tuple #[.agg ik,.int .i64 c] | .ok t=>.tuple #[.agg t.cells.toArray,.int .i64 0]
def vo (now:Int) (old:TK):Except Int TK:=if now<old.start then .error 33 else .ok {old with ay:=if aA old.ay 16=true then old.ay-16 else old.ay}
def vw (now:Int) (old:TK):Except Int TK:=if old.aF≤now then .error 32 else .ok {old with start:=now,fin:=lesser old.aF (aX now (iN old.fin old.start))}
set_option maxHeartbeats 400000 in
theorem CL (now:Int) (old:TK) (w:World) (hf:In64 old.ay) :
  Calls Tryz.prog 139 #[.int .i64 now,.agg old.cells.toArray] w fun e w'=>e = .returned (oq (vo now old))∧w.grownBy w' none:=by
 obtain ⟨W0,hW0⟩:∃ W,W=w.alloc (.cells old.cells.toArray 211):=⟨_,rfl⟩
 have G0:w.grownBy W0 none:=by rw[hW0];exact World.grownBy_alloc w _ none
 have R0:W0.rangeAt w.heap.size 0 old.cells:=by rw[hW0];exact aQ w old.cells.toArray _
 have s0:W0.heap.size=w.heap.size+1:=by rw[hW0];exact World.size_alloc _ _
 have G1:=World.grownBy_alloc W0 (.cells ik 211) none
 have r0:=G1.cell (R0 0 _ rfl) (by simp)
 have r1:=G1.cell (R0 1 _ rfl) (by simp)
 have r2:=G1.cell (R0 2 _ rfl) (by simp)
 have r3:=G1.cell (R0 3 _ rfl) (by simp)
 have r4:=G1.cell (R0 4 _ rfl) (by simp)
 have r5:=G1.cell (R0 5 _ rfl) (by simp)
 have r6:=G1.cell (R0 6 _ rfl) (by simp)
 have HG:=hid G0
 have HW0:=hid hW0
 have HN:=hid (Ii old.ay hf)
 unfold vo
 rw[←HN.out]
 by_cases hlt:now<old.start
 ·rw[if_pos hlt]
  clear G0 hW0 R0 hf HN s0
  go_enter Tryz.func139,Tryz.ntmps139
  go_wp2_with (rw[←HW0.out];fail_if_success done)
  go_wp2
  exact bodyPost_ret (aD Tryz.results139 _ _ _ W0.heap.size rfl _ ((bI.new W0 _ 211).load 211 _ Tryz.underlying211 rfl Tryz.gX)) rfl ⟨rfl,ae HG.out (World.grownBy_alloc _ _ none)⟩
 ·rw[if_neg hlt]
  clear G0 hW0 R0 hf HN s0
  go_enter Tryz.func139,Tryz.ntmps139
  go_wp2_with (rw[←HW0.out];fail_if_success done)
  go_wp2
  exact bodyPost_ret (aD Tryz.results139 _ _ _ W0.heap.size rfl _ ((bI.new W0 _ 211).load 211 _ Tryz.underlying211 rfl Tryz.gX)) rfl ⟨rfl,ae HG.out (World.grownBy_alloc _ _ none)⟩
set_option maxHeartbeats 400000 in
theorem IG (now:Int) (old:TK) (w:World) (dC:In64 now) (hs:In64 old.start) (he:In64 old.fin) :
  Calls Tryz.prog 140 #[.int .i64 now,.agg old.cells.toArray] w fun e w'=>e = .returned (oq (vw now old))∧w.grownBy w' none:=by
 obtain ⟨W0,hW0⟩:∃ W,W=w.alloc (.cells old.cells.toArray 211):=⟨_,rfl⟩
 have G0:w.grownBy W0 none:=by rw[hW0];exact World.grownBy_alloc w _ none
 have R0:W0.rangeAt w.heap.size 0 old.cells:=by rw[hW0];exact aQ w old.cells.toArray _
 have s0:W0.heap.size=w.heap.size+1:=by rw[hW0];exact World.size_alloc _ _
 have G1:=World.grownBy_alloc W0 (.cells ik 211) none
 have r0:=G1.cell (R0 0 _ rfl) (by simp)
 have r1:=G1.cell (R0 1 _ rfl) (by simp)
 have r2:=G1.cell (R0 2 _ rfl) (by simp)
 have r3:=G1.cell (R0 3 _ rfl) (by simp)
 have r4:=G1.cell (R0 4 _ rfl) (by simp)
 have r5:=G1.cell (R0 5 _ rfl) (by simp)
 have r6:=G1.cell (R0 6 _ rfl) (by simp)
 have HG:=hid G0
 have HW0:=hid hW0
 have HD:=hid (fun W=>nD old.fin old.start W he.1 he.2 hs.1 hs.2)
 have hd:In64 (iN old.fin old.start):=sU _
 have HM:=hid (fun W=>zy now (iN old.fin old.start) W dC.1 dC.2 hd.1 hd.2)
 unfold vw
 by_cases hle:old.aF≤now
 ·rw[if_pos hle]
  clear G0 hW0 R0 s0 hd dC hs he
  go_enter Tryz.func140,Tryz.ntmps140
  go_wp2_with (rw[←HW0.out];fail_if_success done)
  go_wp2
  exact bodyPost_ret (aD Tryz.results140 _ _ _ W0.heap.size rfl _ ((bI.new W0 _ 211).load 211 _ Tryz.underlying211 rfl Tryz.gX)) rfl ⟨rfl,ae HG.out (World.grownBy_alloc _ _ none)⟩
 ·rw[if_neg hle,Lc]
  have HR:Hid (W0.cell? ⟨w.heap.size,4,none⟩=some (.int .i64 old.start)∧W0.cell? ⟨w.heap.size,5,none⟩=some (.int .i64 old.fin)∧W0.cell? ⟨w.heap.size,6,none⟩=some (.int .i64 old.aF)):=⟨R0 4 _ rfl,R0 5 _ rfl,R0 6 _ rfl⟩
  generalize iN old.fin old.start=dd at *
  generalize aX now dd=ss at *
  clear G0 hW0 R0 s0 hd dC hs he
  go_enter Tryz.func140,Tryz.ntmps140
  go_wp2_with (rw[←HW0.out];fail_if_success done)
  have G2:=World.grownBy_alloc W0 (.cells #[.int .i64 old.ay,.int .u64 (old.aU.toNat:Int),.string ⟨old.af.toArray⟩,.int .i64 old.eH,.int .i64 now,.int .i64 old.fin,.int .i64 old.aF] 211) none
  have q4:=G2.cell HR.out.1 (by simp)
  have q5:=G2.cell HR.out.2.1 (by simp)
  have q6:=G2.cell HR.out.2.2 (by simp)
  have G3:=World.grownBy_alloc W0 (.cells #[.int .i64 old.ay,.int .u64 (old.aU.toNat:Int),.string ⟨old.af.toArray⟩,.int .i64 old.eH,.int .i64 now,.int .i64 (min old.aF ss),.int .i64 old.aF] 211) none
  have p4:=G3.cell HR.out.1 (by simp)
  have p5:=G3.cell HR.out.2.1 (by simp)
  have p6:=G3.cell HR.out.2.2 (by simp)
  clear G1 G2 G3 r0 r1 r2 r3 r4 r5 r6
  go_region_held3 (fun w'=>w'.cell? ⟨w.heap.size,4,none⟩=some (.int .i64 old.start)∧w'.cell? ⟨w.heap.size,5,none⟩=some (.int .i64 old.fin)∧w'.cell? ⟨w.heap.size,6,none⟩=some (.int .i64 old.aF)) (go_keep) (first|(go_at_call 173;refine (HD.out _).mono ?_;rintro e w1 ⟨rfl,rfl⟩)|(go_at_call 136;refine (HM.out _).mono ?_;rintro e w1 ⟨rfl,rfl⟩))
  go_wp2
  exact bodyPost_ret (aD Tryz.results140 _ _ _ W0.heap.size rfl _ ((bI.new W0 _ 211).drew.load 211 _ Tryz.underlying211 rfl Tryz.gX)) rfl ⟨rfl,dA (ae HG.out (World.grownBy_alloc _ _ none))⟩
end Go.Proofs.YtpibgolaaaemnaaGreatDoor
namespace Go.Proofs.YtpibgolaaaemnaaGreatDoor
open Go.RowKit
set_option maxRecDepth 100000
def Bl (o:Int) (old:TK) (x s:BE):Int:=bits .or .i64 (bits .and .i64 old.ay 448) (iA (bits .and .i64 o old.ay) x s)
def Bn (o:Int) (old:TK) (x s:BE):Int:=if aA o 64=true then bits .or .i64 (Bl o old x s) 128 else Bl o old x s
def rG (o:Int) (old:TK) (x s:BE):Int:=if aA o 128=true then bits .or .i64 (Bn o old x s) 256 else Bn o old x s
theorem Y7:∀ (k6 k7 k8 a1 a2 a4 o6 o7:Bool),
  (let kept:Int:=(if k6=true then 64 else 0)+(if k7=true then 128 else 0)+(if k8=true then 256 else 0)
   let al:Int:=(if a1=true then 1 else 0)+(if a2=true then 2 else 0)+(if a4=true then 4 else 0)
   let f1:=bits .or .i64 kept al
   let f2:=if o6=true then bits .or .i64 f1 128 else f1
   let f3:=if o7=true then bits .or .i64 f2 256 else f2
   f3=(if k6=true then 64 else 0)+(if (k7 || o6)=true then 128 else 0)+(if (k8 || o7)=true then 256 else 0)+((if a1=true then 1 else 0)+(if a2=true then 2 else 0)+(if a4=true then 4 else 0))∧aA f3 4=a4):=by decide
theorem Bo (o:Int) (old:TK) (x s:BE):rG o old x s=mq o old x s∧aA (rG o old x s) 4=(aA o 4 && aA old.ay 4 && (x.has 2 && s.has 2)):=by
 have h:=Y7 (aA old.ay 64) (aA old.ay 128) (aA old.ay 256) (aA (bits .and .i64 o old.ay) 1 && (x.has 4 && s.has 4)) (aA (bits .and .i64 o old.ay) 2 && (x.has 8 && s.has 8)) (aA (bits .and .i64 o old.ay) 4 && (x.has 2 && s.has 2)) (aA o 64) (aA o 128)
 have e:rG o old x s=(let kept:Int:=(if aA old.ay 64=true then 64 else 0)+(if aA old.ay 128=true then 128 else 0)+(if aA old.ay 256=true then 256 else 0)
   let al:Int:=iA (bits .and .i64 o old.ay) x s
   let f1:=bits .or .i64 kept al
   let f2:=if aA o 64=true then bits .or .i64 f1 128 else f1
   if aA o 128=true then bits .or .i64 f2 256 else f2):=by
  unfold rG Bn Bl
  rw[YS]
  rfl
 have e1:rG o old x s=_:=e.trans h.1
 constructor
 ·rw[e1]
  unfold mq kZ
  rw[RN,RU,Ij]
  simp only[Bool.and_eq_true,Bool.or_eq_true,and_assoc]
 ·rw[e]
  rw[←Ij]
  exact h.2
end Go.Proofs.YtpibgolaaaemnaaGreatDoor
namespace Go.Proofs.YtpibgolaaaemnaaGreatDoor
open Go.RowKit
set_option maxRecDepth 100000
set_option maxHeartbeats 1000000 in
theorem pV (b4 b5 b6 b7:Bool) (w:World) :
  Calls Tryz.prog 137 #[.int .u64 ((if b4=true then 16 else 0)+(if b5=true then 32 else 0)+(if b6=true then 64 else 0)+(if b7=true then 128 else 0))] w fun e w'=>e = .returned (.int .i64 ((if b4=true then 1 else 0)+(if b5=true then 1 else 0)+(if b6=true then 1 else 0)+(if b7=true then 1 else 0)))∧w'=w:=by
 cases b4 <;> cases b5 <;> cases b6 <;> cases b7
 all_goals
  simp only[if_true,if_false,Bool.false_eq_true,Int.add_zero,Int.zero_add]
  go_enter Tryz.func137,Tryz.ntmps137
  go_wp2
  go_ret
  exact ⟨dD (by kernel_rfl),rfl⟩
theorem Lf (o f:Int) (h:¬ (0≤o∧o<256∧aA o 8=false)):ko o f=false:=by
 unfold ko
 rw[if_pos]
 rcases Bool.eq_false_or_eq_true (aA o 8) with h8 | h8
 ·exact .inr (.inr h8)
 ·by_cases h0:o<0
  ·exact .inl h0
  ·exact .inr (.inl (by
    by_cases h1:o<256
    ·exact absurd ⟨by omega,h1,h8⟩ h
    ·omega))
theorem IJ (o f:Int) (h:0≤o∧o<256∧aA o 8=false):ko o f=if 1<oG o∨aA o 32=true∧o≠32 then false
  else if aA o 16=true∧aA f 4=false∨aA o 64=true∧aA f 1=false∨aA o 128=true∧aA f 2=false then false else !aA o 32 || aA f 16:=by
 unfold ko
 rw[if_neg]
 rintro (e | e | e)
 ·omega
 ·omega
 ·rw[h.2.2] at e;cases e
theorem Zb (o:Int) (h:0≤o∧o<256∧aA o 8=false) (h4:aA o 16=false) (h5:aA o 32=true) (h6:aA o 64=false) (h7:aA o 128=false):(bits .and .i64 o 7==0)=decide (o=32):=by
 rw[and7]
 obtain ⟨h0,h1,h8⟩:=h
 unfold aA at *
 simp only[decide_eq_false_iff_not,decide_eq_true_eq] at *
 rw[Bool.eq_iff_iff]
 simp only[Bool.and_eq_true,Bool.not_eq_true',decide_eq_false_iff_not,decide_eq_true_eq]
 omega
def SB (b4 b5 b6 b7 no7:Bool) (f:Int):Bool:=
 if 1<(if b4=true then 1 else 0)+(if b5=true then 1 else 0)+(if b6=true then 1 else 0)+(if b7=true then (1:Int) else 0) then false
 else if b4=true then aA f 4 else if b5=true then no7 && aA f 16 else if b6=true then aA f 1 else if b7=true then aA f 2 else true
theorem Wo (o f:Int) (h:0≤o∧o<256∧aA o 8=false):ko o f=SB (aA o 16) (aA o 32) (aA o 64) (aA o 128) (bits .and .i64 o 7==0) f:=by
 have h3:=Zb o h
 rw[IJ o f h]
 unfold oG
 generalize (bits .and .i64 o 7==0)=n7 at *
 generalize aA o 16=b4 at *
 generalize aA o 32=b5 at *
 generalize aA o 64=b6 at *
 generalize aA o 128=b7 at *
 by_cases h32:o=32
 ·simp only[h32,ne_eq,not_true,and_false,or_false,decide_true] at *
  cases b4 <;> cases b5 <;> cases b6 <;> cases b7 <;> simp[SB] at * <;> first | done|(cases aA f 4 <;> rfl)|(cases aA f 1 <;> rfl)|(cases aA f 2 <;> rfl) | simp[h3]
 ·simp only[h32,ne_eq,not_false_eq_true,and_true,decide_false] at *
  cases b4 <;> cases b5 <;> cases b6 <;> cases b7 <;> simp[SB] at * <;> first | done|(cases aA f 4 <;> rfl)|(cases aA f 1 <;> rfl)|(cases aA f 2 <;> rfl) | simp[h3]
end Go.Proofs.YtpibgolaaaemnaaGreatDoor
namespace Go.Proofs.YtpibgolaaaemnaaGreatDoor
open Go.RowKit
set_option maxRecDepth 100000
set_option maxHeartbeats 400000 in
theorem CO (hb pb:Nat) (ax now pn:Int) (v:Value) (q:FQ) (x s:BE) (w:World) (hp:dZ w pb x s) (hq:q.pre=none) :
  Calls Tryz.prog 90 #[.pointer (some ⟨hb,0,none⟩),.pointer (some ⟨pb,0,none⟩),.agg (q.cells pn v).toArray] w fun e w'=>e = .returned (.int .i64 (gP ax now x q.pre))∧w.grownBy w' none:=by
 obtain ⟨W0,hW0⟩:∃ W,W=w.alloc (.cells (q.cells pn v).toArray 161):=⟨_,rfl⟩
 have G0:w.grownBy W0 none:=by rw[hW0];exact World.grownBy_alloc w _ none
 have R0:W0.rangeAt w.heap.size 0 (q.cells pn v):=by rw[hW0];exact aQ w (q.cells pn v).toArray _
 have r7:W0.cell? ⟨w.heap.size,7,none⟩=some (.bool false):=by have h:=R0 7 (.bool q.pre.isSome) rfl;rw[hq] at h;exact h
 have HA:=hid (wK pb 4 x 1 0 W0 (by decide) (by decide) ((hp.grown G0).c 7 _ rfl))
 have HG:=hid G0
 have HW0:=hid hW0
 have HE:Hid (gP ax now x q.pre=if x.has 1=true then 25 else 0):=by rw[hq];exact rfl
 generalize gP ax now x q.pre=pc at *
 clear G0 hW0 R0 hp hq
 generalize x.has 1=b1 at *
 cases b1 with
 | true=>
  go_enter Tryz.func90,Tryz.ntmps90
  go_wp2_with (first
   | (rw[←HW0.out];fail_if_success done)
   | (go_at_call 123;refine HA.out.mono ?_;clear HA;rintro e w1 ⟨rfl,rfl⟩))
  go_wp2
  go_ret
  exact ⟨dD (by rw[HE.out];rfl),HG.out⟩
 | false=>
  go_enter Tryz.func90,Tryz.ntmps90
  go_wp2_with (first
   | (rw[←HW0.out];fail_if_success done)
   | (go_at_call 123;refine HA.out.mono ?_;clear HA;rintro e w1 ⟨rfl,rfl⟩))
  go_wp2
  go_ret
  exact ⟨dD (by rw[HE.out];rfl),HG.out⟩
set_option maxHeartbeats 1000000 in
theorem CP (hb g pb:Nat) (ro:Value) (p:Option Pl) (rb:List UInt8) (ax now:Int) (pn:Int) (z:List UInt8) (ao:Option Addr) (n cap:Nat) (q:FQ) (x s:BE) (w:World) (hp:dZ w pb x s) (hq:q.pre=some (pn,z))
  (c1:w.cell? ⟨hb,1,none⟩=some ro) (c3:w.cell? ⟨hb,3,none⟩=some (.pointer (some ⟨g,0,none⟩))) (c4:w.cell? ⟨hb,4,none⟩=some (.int .i64 now)) (cs:w.cell? ⟨g,0,none⟩=some (.int .i64 ax)) (dC:In64 now)
  (hR:Out w ro p rb) (o1:Off p hb) (o2:Off p pb) (o3:∀ j,j<188→¬ Pl.has p g j) (hn:Hid (z.length=n)) (hcap:n≤cap) (hz:At w ao z) (hsep:∀ b off,ao=some ⟨b,off,none⟩→∀ j,j<z.length→¬ Pl.has p b (off+j)) :
  Calls Tryz.prog 90 #[.pointer (some ⟨hb,0,none⟩),.pointer (some ⟨pb,0,none⟩),.agg (q.cells pn (.slice ao n cap)).toArray] w fun e w'=>e = .returned (.int .i64 (gP ax now x q.pre))∧CF w w' (Pl.has p):=by
 obtain ⟨W0,hW0⟩:∃ W,W=w.alloc (.cells (q.cells pn (.slice ao n cap)).toArray 161):=⟨_,rfl⟩
 have G0:w.grownBy W0 none:=by rw[hW0];exact World.grownBy_alloc w _ none
 have R0:W0.rangeAt w.heap.size 0 (q.cells pn (.slice ao n cap)):=by rw[hW0];exact aQ w (q.cells pn (.slice ao n cap)).toArray _
 have r7:W0.cell? ⟨w.heap.size,7,none⟩=some (.bool true):=by have h:=R0 7 (.bool q.pre.isSome) rfl;rw[hq] at h;exact h
 have r8:W0.cell? ⟨w.heap.size,8,none⟩=some (.int .i64 pn):=R0 8 _ rfl
 have r9:W0.cell? ⟨w.heap.size,9,none⟩=some (.slice ao n cap):=R0 9 _ rfl
 have k1:=G0.cell c1 (by simp)
 have p1:=(hp.grown G0).c 1 _ rfl
 have p2:=(hp.grown G0).c 2 _ rfl
 have HO:=hid (Ip ro p rb x.key ao z n cap W0.drew ((hR.grown G0).grown (dA (World.grownBy.refl _ _))) hn hcap (hz.below (dA G0)) hsep)
 have HG:=hid G0
 have HW0:=hid hW0
 have HF:Hid (∀ W,CF W0 W (Pl.has p)→∀ t,In64 t→Calls Tryz.prog 125 #[.pointer (some ⟨hb,0,none⟩),.int .i64 t] W fun e w'=>e = .returned (.bool (decide (ax<fE t now)))∧∃ m,w'=W.drewN m):=
  fun W hW t ht=>tY hb g now ax t W (hW.cell (G0.cell c3 (by simp)) (lM o1 _)) (hW.cell (G0.cell c4 (by simp)) (lM o1 _)) (hW.cell (G0.cell cs (by simp)) (o3 0 (by decide))) dC ht
 have HE:Hid (gP ax now x q.pre=if fM (bq (bW x.key 1 z,false)).2=true then (if pn≠x.ag then 24 else if ax<fE (bq (bW x.key 1 z,false)).1 now then 37 else 0) else 24):=by
  refine hid ?_
  rw[hq]
  unfold gP
  simp only[]
  rw[Sv]
  cases hd:fM (bq (bW x.key 1 z,false)).2 <;> rfl
 have ht:In64 (bq (bW x.key 1 z,false)).1:=pU _
 have HT:=hid ht
 have ab3:Hid (∀ W,CF W0 W (Pl.has p)→W.cell? ⟨hb,1,none⟩=some ro∧W.cell? ⟨pb,1,none⟩=some (.int .i64 x.ag)∧W.cell? ⟨pb,2,none⟩=some (.int .u64 (x.key.toNat:Int))∧W.cell? ⟨w.heap.size,8,none⟩=some (.int .i64 pn)∧W.cell? ⟨w.heap.size,9,none⟩=some (.slice ao n cap)):=
  fun W hW=>⟨hW.cell k1 (lM o1 _),hW.cell p1 (lM o2 _),hW.cell p2 (lM o2 _),hW.cell r8 (MZ hR _),hW.cell r9 (MZ hR _)⟩
 generalize gP ax now x q.pre=pc at *
 generalize (bq (bW x.key 1 z,false)).1=t at *
 generalize fM (bq (bW x.key 1 z,false)).2=d at *
 clear G0 hW0 R0 hp hq c1 c3 c4 cs dC hR o1 o2 o3 hn hz hsep ht
 go_enter Tryz.func90,Tryz.ntmps90
 go_wp2_with (first|(rw[←HW0.out];fail_if_success done))
 go_region_held3 (fun w'=>w'.cell? ⟨hb,1,none⟩=some ro∧w'.cell? ⟨pb,2,none⟩=some (.int .u64 (x.key.toNat:Int))∧w'.cell? ⟨w.heap.size,9,none⟩=some (.slice ao n cap)) (go_keep) (first|(go_at_call 124;refine HO.out.mono ?_;rintro e w1 ⟨rfl,C1⟩;have wI:=hid C1.bM;clear C1;obtain ⟨b1,bn,b2,b8,b9⟩:=ab3.out _ wI.out))
 clear r7 r8 r9 k1 p1 p2 HO ab3 b1 b2 b9
 cases d with
 | false=>
  go_wp2_with fail
  go_quiet (fail)
  go_wp2
  go_ret
  exact ⟨dD (by rw[HE.out];rfl),CF.before HG.out (wI.out.trans (CF.aW (aO (World.grownBy.refl _ _) _) (Pl.has p)) (fun _ _ _ e=>e))⟩
 | true=>
  by_cases hn:pn=x.ag
  ·have hnb:(pn==x.ag)=true:=by rw[beq_iff_eq];exact hn
   have HN:=hid hn
   clear hn
   have HFr:=hid (fun k=>HF.out (w1.drewN k) (wI.out.trans (CF.aW (aO (World.grownBy.refl _ _) _) (Pl.has p)) (fun _ _ _ e=>e)) t HT.out)
   have HE2:Hid (pc=if ax<fE t now then 37 else 0):=by rw[HE.out,if_pos rfl,if_neg (fun e=>e HN.out)];exact rfl
   clear HF HE
   by_cases lu:ax<fE t now
   ·rw[decide_eq_true lu] at HFr
    rw[if_pos lu] at HE2
    clear lu
    go_wp2_with fail
    go_quiet (fail)
    go_wp2_with (first|(go_at_call 125;refine (HFr.out _).mono ?_;clear HFr;rintro e w2 ⟨rfl,m,rfl⟩))
    go_wp2
    go_ret
    exact ⟨dD HE2.out.symm,CF.before HG.out (wI.out.trans (CF.aW (aO (World.grownBy.refl _ _) _) (Pl.has p)) (fun _ _ _ e=>e))⟩
   ·rw[decide_eq_false lu] at HFr
    rw[if_neg lu] at HE2
    clear lu
    go_wp2_with fail
    go_quiet (fail)
    go_wp2_with (first|(go_at_call 125;refine (HFr.out _).mono ?_;clear HFr;rintro e w2 ⟨rfl,m,rfl⟩))
    go_wp2
    go_ret
    exact ⟨dD HE2.out.symm,CF.before HG.out (wI.out.trans (CF.aW (aO (World.grownBy.refl _ _) _) (Pl.has p)) (fun _ _ _ e=>e))⟩
  ·have hnb:(pn==x.ag)=false:=by rw[beq_eq_false_iff_ne];exact hn
   have HE2:Hid (pc=24):=by rw[HE.out,if_pos rfl,if_pos hn];exact rfl
   go_wp2_with fail
   go_quiet (fail)
   go_wp2
   go_ret
   exact ⟨dD HE2.out.symm,CF.before HG.out (wI.out.trans (CF.aW (aO (World.grownBy.refl _ _) _) (Pl.has p)) (fun _ _ _ e=>e))⟩
end Go.Proofs.YtpibgolaaaemnaaGreatDoor
namespace Go.Proofs.YtpibgolaaaemnaaGreatDoor
open Go.RowKit
set_option maxRecDepth 100000
def ou (now ax:Int) (q:FQ) (x s:BE):Bool:=if aA q.aJ 8=true then (x.has 16 && s.has 16) else !decide (aX now ax<q.eY)
set_option maxHeartbeats 400000 in
theorem OZ (hb g pb:Nat) (now ax pn:Int) (v:Value) (q:FQ) (x s:BE) (w:World) (c3:w.cell? ⟨hb,3,none⟩=some (.pointer (some ⟨g,0,none⟩))) (c4:w.cell? ⟨hb,4,none⟩=some (.int .i64 now)) (cs:w.cell? ⟨g,0,none⟩=some (.int .i64 ax)) (dC:In64 now) (hsk:In64 ax) (hp:dZ w pb x s) :
  Calls Tryz.prog 91 #[.pointer (some ⟨hb,0,none⟩),.pointer (some ⟨pb,0,none⟩),.agg (q.cells pn v).toArray] w fun e w'=>e = .returned (.tuple #[.int .i64 (bB now q),.bool (ou now ax q x s)])∧w.grownBy w' none:=by
 obtain ⟨W0,hW0⟩:∃ W,W=w.alloc (.cells (q.cells pn v).toArray 161):=⟨_,rfl⟩
 have G0:w.grownBy W0 none:=by rw[hW0];exact World.grownBy_alloc w _ none
 have R0:W0.rangeAt w.heap.size 0 (q.cells pn v):=by rw[hW0];exact aQ w (q.cells pn v).toArray _
 have r3:W0.cell? ⟨w.heap.size,3,none⟩=some (.int .i64 q.eY):=R0 3 _ rfl
 have r6:W0.cell? ⟨w.heap.size,6,none⟩=some (.int .i64 q.aJ):=R0 6 _ rfl
 have k4:=G0.cell c4 (by simp)
 have HA:=hid (fun nq=>Lb pb x s 16 4 W0 nq (by decide) (by decide) (hp.grown G0))
 have HB:=hid (fun nq=>OP hb g now ax q.eY W0 nq (G0.cell c3 (by simp)) k4 (G0.cell cs (by simp)) dC hsk)
 have HG:=hid G0
 have HW0:=hid hW0
 have hq:=ji q.aJ 8 3 (by decide) (by decide)
 unfold bB ou
 clear G0 hW0 R0 c3 c4 cs dC hsk hp
 generalize aA q.aJ 8=b1 at *
 generalize (x.has 16 && s.has 16)=b2 at *
 generalize aX now ax=sk at *
 cases b1 with
 | true=>
  rw[Bool.not_true] at hq
  have hp:=beq_eq_false_iff_ne.1 hq
  clear hq
  go_enter Tryz.func91,Tryz.ntmps91
  go_wp2_with (rw[←HW0.out];fail_if_success done)
  go_quiet (first|(go_at_call 126;exact HA.out _))
  go_wp2
  go_ret2
  exact ⟨rfl,aO HG.out _⟩
 | false=>
  rw[Bool.not_false] at hq
  have hp:=beq_iff_eq.1 hq
  clear hq
  go_enter Tryz.func91,Tryz.ntmps91
  go_wp2_with (rw[←HW0.out];fail_if_success done)
  go_quiet (first|(go_at_call 100;exact HB.out _))
  go_wp2
  go_ret2
  exact ⟨rfl,aO HG.out _⟩
end Go.Proofs.YtpibgolaaaemnaaGreatDoor
namespace Go.Proofs.YtpibgolaaaemnaaGreatDoor
open Go.RowKit
set_option maxRecDepth 100000
def jU (q:NQ):Bool:=(aA q.aJ 16 || aA q.aJ 32) && decide (q.iT=q.az)
set_option maxHeartbeats 400000 in
theorem Bq (v u:Value) (q:NQ) (w:World) :
  Calls Tryz.prog 131 #[.agg (q.cells v u).toArray] w fun e w'=>e = .returned (.bool (jU q))∧w.grownBy w' none:=by
 obtain ⟨W0,hW0⟩:∃ W,W=w.alloc (.cells (q.cells v u).toArray 168):=⟨_,rfl⟩
 have G0:w.grownBy W0 none:=by rw[hW0];exact World.grownBy_alloc w _ none
 have R0:W0.rangeAt w.heap.size 0 (q.cells v u):=by rw[hW0];exact aQ w (q.cells v u).toArray _
 have r0:W0.cell? ⟨w.heap.size,0,none⟩=some (.string ⟨q.iT.toArray⟩):=R0 0 _ rfl
 have r4:W0.cell? ⟨w.heap.size,4,none⟩=some (.string ⟨q.az.toArray⟩):=R0 4 _ rfl
 have r8:W0.cell? ⟨w.heap.size,8,none⟩=some (.int .i64 q.aJ):=R0 8 _ rfl
 have HG:=hid G0
 have HW0:=hid hW0
 have hq:=abL q.aJ
 have HE:Hid (jU q=((aA q.aJ 16 || aA q.aJ 32) && decide (q.iT=q.az))):=rfl
 generalize jU q=sb at *
 have h2:(!aA q.aJ 16 && !aA q.aJ 32)=!(aA q.aJ 16 || aA q.aJ 32):=by simp
 rw[h2] at hq
 clear G0 hW0 R0 h2
 generalize (aA q.aJ 16 || aA q.aJ 32)=b1 at *
 cases b1 with
 | true=>
  rw[Bool.not_true] at hq
  have hp:=beq_eq_false_iff_ne.1 hq
  clear hq
  go_enter Tryz.func131,Tryz.ntmps131
  go_wp2_with (rw[←HW0.out];fail_if_success done)
  go_wp2
  go_ret
  exact ⟨iU (by rw[HE.out,show (bits .and .i64 q.aJ 48 != 0)=true from by simpa using hp];simp[Bool.beq_eq_decide_eq]),HG.out⟩
 | false=>
  rw[Bool.not_false] at hq
  have hp:=beq_iff_eq.1 hq
  clear hq
  go_enter Tryz.func131,Tryz.ntmps131
  go_wp2_with (rw[←HW0.out];fail_if_success done)
  go_wp2
  go_ret
  exact ⟨iU (by rw[HE.out];simp),HG.out⟩
end Go.Proofs.YtpibgolaaaemnaaGreatDoor
