import Derived.Test.YteknelimjfgmaaaGreatDoorGJPEntA
import Derived.Deep.CutBlock
import Derived.Test.YteknelimjfgmaaaGreatDoorGJPOpenB
namespace Go.Proofs.YteknelimjfgmaaaGreatDoor
set_option maxHeartbeats 1000000
open Proofs.Tryz Go.RowKit
set_option maxRecDepth 100000
variable {b:Nat} {w:World}
def tQ (x:Option BE):List Value:=match x with | none=>noEntry.toList | some e=>e.bG
def xw (x:Option BE):Value:=.tuple #[.agg (tQ x).toArray,.bool x.isSome]
def findF (T:Nat):Nat:=if T=247 then 283 else 279
theorem Ai (T:Nat) (args:Array Value) (W:World):(callFunc (findF T) args).run prog W = .ok (.enter (findF T) args) W:=by
 unfold findF;split
 ·kernel_rfl
 ·kernel_rfl
structure Finds (ff:Nat) (J:World->Prop) (dS rP:Nat->Nat->Prop) (rv:Value) (es:List BE):Prop where
 call:∀ W,J W->∀ l:List UInt8,Calls prog ff #[rv,.string ⟨l.toArray⟩] W fun e w'=>e = .returned (xw (BE.find es l))/\J w'/\CF W w' dS
 stay:∀ W W',J W->CF W W' rP->J W'
theorem iZ (x:Option BE):∃ v0 v1 v2 v3 v4 v5 v6 v7,tQ x=[.string v0,.int .i64 v1,.int .u64 v2,.int .u64 v3,.int .i64 v4,.int .i64 v5,.int .i64 v6,.int .i64 v7]:=by cases x <;> exact ⟨_,_,_,_,_,_,_,_,rfl⟩
theorem jR {w':World} {o:Nat} {cs:List Value} (h:w.rangeAt b o cs) (k:w.grownBy w' none):w'.rangeAt b o cs:=fun i v hv=>k.cell (h i v hv) aft
theorem nI (h:Live w b 8):(∃ d,w.cell? ⟨b,0,none⟩=some d)/\(∃ d,w.cell? ⟨b,1,none⟩=some d)/\(∃ d,w.cell? ⟨b,2,none⟩=some d)/\(∃ d,w.cell? ⟨b,3,none⟩=some d)/\(∃ d,w.cell? ⟨b,4,none⟩=some d)/\(∃ d,w.cell? ⟨b,5,none⟩=some d)/\(∃ d,w.cell? ⟨b,6,none⟩=some d)/\(∃ d,w.cell? ⟨b,7,none⟩=some d)/\w.frozen? ⟨b,0,none⟩=false/\w.frozen? ⟨b,1,none⟩=false/\w.frozen? ⟨b,2,none⟩=false/\w.frozen? ⟨b,3,none⟩=false/\w.frozen? ⟨b,4,none⟩=false/\w.frozen? ⟨b,5,none⟩=false/\w.frozen? ⟨b,6,none⟩=false/\w.frozen? ⟨b,7,none⟩=false:=by
 have hc:∀ j,j<8->∃ v,w.cell? ⟨b,j,none⟩=some v:=fun j hj=>bw.1 (h.some j hj);exact ⟨hc 0 afq,hc 1 afq,hc 2 afq,hc 3 afq,hc 4 afq,hc 5 afq,hc 6 afq,hc 7 afq,h.frozen 0,h.frozen 1,h.frozen 2,h.frozen 3,h.frozen 4,h.frozen 5,h.frozen 6,h.frozen 7⟩
theorem ry {v0 v1 v2 v3 v4 v5 v6 v7:Value} (h:w.rangeAt b 0 [v0,v1,v2,v3,v4,v5,v6,v7]):w.cell? ⟨b,0,none⟩=some v0/\w.cell? ⟨b,1,none⟩=some v1/\w.cell? ⟨b,2,none⟩=some v2/\w.cell? ⟨b,3,none⟩=some v3/\w.cell? ⟨b,4,none⟩=some v4/\w.cell? ⟨b,5,none⟩=some v5/\w.cell? ⟨b,6,none⟩=some v6/\w.cell? ⟨b,7,none⟩=some v7:=
 ⟨h 0 _ rfl,h 1 _ rfl,h 2 _ rfl,h 3 _ rfl,h 4 _ rfl,h 5 _ rfl,h 6 _ rfl,h 7 _ rfl⟩
theorem ab9 {p:Prop} (h:p:=by
 repeat refine CF.setCell ?_ _ _ _ (fun _=>rfl)
 exact CF.refl _ _):p:=h
theorem Uo (w:World) (b c:Nat) (hbc:b≠c) (v0 v1 v2 v3 v4 v5 v6 v7 u0 u1 u2 u3 u4 u5 u6 u7:Value) (hA:w.rangeAt b 0 [v0,v1,v2,v3,v4,v5,v6,v7]) (hB:w.rangeAt c 0 [u0,u1,u2,u3,u4,u5,u6,u7]) :
  ((((((((((((((((w.setCell ⟨b,0,none⟩ v0).setCell ⟨b,1,none⟩ v1).setCell ⟨b,2,none⟩ v2).setCell ⟨b,3,none⟩ v3).setCell ⟨b,4,none⟩ v4).setCell ⟨b,5,none⟩ v5).setCell ⟨b,6,none⟩ v6).setCell ⟨b,7,none⟩ v7).setCell ⟨c,0,none⟩ u0).setCell ⟨c,1,none⟩ u1).setCell ⟨c,2,none⟩ u2).setCell ⟨c,3,none⟩ u3).setCell ⟨c,4,none⟩ u4).setCell ⟨c,5,none⟩ u5).setCell ⟨c,6,none⟩ u6).setCell ⟨c,7,none⟩ u7).rangeAt b 0 [v0,v1,v2,v3,v4,v5,v6,v7]/\((((((((((((((((w.setCell ⟨b,0,none⟩ v0).setCell ⟨b,1,none⟩ v1).setCell ⟨b,2,none⟩ v2).setCell ⟨b,3,none⟩ v3).setCell ⟨b,4,none⟩ v4).setCell ⟨b,5,none⟩ v5).setCell ⟨b,6,none⟩ v6).setCell ⟨b,7,none⟩ v7).setCell ⟨c,0,none⟩ u0).setCell ⟨c,1,none⟩ u1).setCell ⟨c,2,none⟩ u2).setCell ⟨c,3,none⟩ u3).setCell ⟨c,4,none⟩ u4).setCell ⟨c,5,none⟩ u5).setCell ⟨c,6,none⟩ u6).setCell ⟨c,7,none⟩ u7).rangeAt c 0 [u0,u1,u2,u3,u4,u5,u6,u7]/\CF w ((((((((((((((((w.setCell ⟨b,0,none⟩ v0).setCell ⟨b,1,none⟩ v1).setCell ⟨b,2,none⟩ v2).setCell ⟨b,3,none⟩ v3).setCell ⟨b,4,none⟩ v4).setCell ⟨b,5,none⟩ v5).setCell ⟨b,6,none⟩ v6).setCell ⟨b,7,none⟩ v7).setCell ⟨c,0,none⟩ u0).setCell ⟨c,1,none⟩ u1).setCell ⟨c,2,none⟩ u2).setCell ⟨c,3,none⟩ u3).setCell ⟨c,4,none⟩ u4).setCell ⟨c,5,none⟩ u5).setCell ⟨c,6,none⟩ u6).setCell ⟨c,7,none⟩ u7) (fun x _=>x=b\/x=c):=by
 obtain ⟨p0,p1,p2,p3,p4,p5,p6,p7⟩:=ry hA
 have E1:=oD w b v0 v1 v2 v3 v4 v5 v6 v7 p0 p1 p2 p3 p4 p5 p6 p7
 have C1:CF w ((((((((w.setCell ⟨b,0,none⟩ v0).setCell ⟨b,1,none⟩ v1).setCell ⟨b,2,none⟩ v2).setCell ⟨b,3,none⟩ v3).setCell ⟨b,4,none⟩ v4).setCell ⟨b,5,none⟩ v5).setCell ⟨b,6,none⟩ v6).setCell ⟨b,7,none⟩ v7) (fun x _=>x=b):=by
  exact ab9
 have hB2:=C1.range hB (fun _ _ e=>hbc e.symm)
 generalize ((((((((w.setCell ⟨b,0,none⟩ v0).setCell ⟨b,1,none⟩ v1).setCell ⟨b,2,none⟩ v2).setCell ⟨b,3,none⟩ v3).setCell ⟨b,4,none⟩ v4).setCell ⟨b,5,none⟩ v5).setCell ⟨b,6,none⟩ v6).setCell ⟨b,7,none⟩ v7)=W8 at *
 obtain ⟨r0,r1,r2,r3,r4,r5,r6,r7⟩:=ry hB2
 have E2:=oD W8 c u0 u1 u2 u3 u4 u5 u6 u7 r0 r1 r2 r3 r4 r5 r6 r7
 have C2:CF W8 ((((((((W8.setCell ⟨c,0,none⟩ u0).setCell ⟨c,1,none⟩ u1).setCell ⟨c,2,none⟩ u2).setCell ⟨c,3,none⟩ u3).setCell ⟨c,4,none⟩ u4).setCell ⟨c,5,none⟩ u5).setCell ⟨c,6,none⟩ u6).setCell ⟨c,7,none⟩ u7) (fun x _=>x=c):=by
  exact ab9
 exact ⟨C2.range E1 (fun _ _ e=>hbc e),E2,(C1.mono (fun _ _ _ e=>.inl e)).trans C2 (fun _ _ _ e=>.inr e)⟩
theorem Et {fn:Func} {a b u:Tmp} {ty:TypeId} (h:fn.results=#[.cell a ty,.cell b ty,.tmp u]) (tmps:Array Value) (P:Program) (w:World) (ba bb:Nat) (hp:tmps.getD a undef = .pointer (some ⟨ba,0,none⟩)) (hq:tmps.getD b undef = .pointer (some ⟨bb,0,none⟩)) (x y:Value) (hl:(loadVar ty ⟨ba,0,none⟩).run P w = .ok x w) (hm:(loadVar ty ⟨bb,0,none⟩).run P w = .ok y w) :
  (results fn tmps).run P w = .ok (.tuple #[x,y,tmps.getD u undef]) w:=by
 have hp':tmps[a]?.getD undef = .pointer (some ⟨ba,0,none⟩):=by simpa using hp
 have hq':tmps[b]?.getD undef = .pointer (some ⟨bb,0,none⟩):=by simpa using hq
 simp[results,h,hp',hq',hl,hm,asAddr]
theorem aaj {p:Prop} (h:p:=by
 go_wp2_with (first|(go_at_call 209;refine yJ.o.mono ?_;clear yJ;rintro e w1 ⟨rfl,rfl⟩)|(go_at_call 209;refine Ee.o.mono ?_;clear Ee;rintro e w1 ⟨rfl,rfl⟩)|(go_at_call 210;refine Yc.o.mono ?_;clear Yc;rintro e w1 ⟨rfl,rfl⟩)|(go_at_call 210;refine OO.o.mono ?_;clear OO;rintro e w1 ⟨rfl,rfl⟩))
 go_meet
 exact ⟨by rw[xO.o];simp,rfl⟩):p:=h
theorem ae3 {p:Prop} (h:p:=by
 repeat refine CF.setCell ?_ _ _ _ (fun _=>H3.o _ _ afp)
 exact CF.refl _ _):p:=h
theorem Fy (hb base T:Nat) (fv rv:Value) (J:World->Prop) (dS rP:Nat->Nat->Prop) (es:List BE) (la lb:List UInt8) (ua xa ub xb now:Int) (w:World)
  (hm:∀ W,(method 520 T fv "Find").run prog W = .ok (findF T,rv) W) (hF:Finds (findF T) J dS rP rv es) (hJ:J w)
  (c0:w.cell? ⟨hb,0,none⟩=some (.iface T fv)) (c4:w.cell? ⟨hb,4,none⟩=some (.int .i64 now)) (h1:∀ y,¬ dS hb y) (h2:∀ b y,base<=b->¬ dS b y) (h3:∀ b y,base<=b->rP b y) (hbase:base<=w.heap.size) :
  Calls prog 173 #[.pointer (some ⟨hb,0,none⟩),.agg #[.string ⟨la.toArray⟩,.int .i64 ua,.int .i64 xa],.agg #[.string ⟨lb.toArray⟩,.int .i64 ub,.int .i64 xb]] w fun e w'=>e = .returned (.tuple #[.agg (tQ (BE.find es la)).toArray,.agg (tQ (BE.find es lb)).toArray,.int .i64 (dV (BE.find es la) (BE.find es lb) now ua ub xa xb)])/\J w'/\CF w w' dS:=by
 obtain ⟨W0,hW0⟩:=ar ((((w.alloc (.cells #[.string ⟨la.toArray⟩,.int .i64 ua,.int .i64 xa] 328)).alloc (.cells #[.string ⟨lb.toArray⟩,.int .i64 ub,.int .i64 xb] 328)).alloc (.cells noEntry 126)).alloc (.cells noEntry 126))
 have G0:w.grownBy W0 none:=by rw[hW0];exact aR (aR (aR (aE w _ none) _) _) _
 have s0:W0.heap.size=w.heap.size+4:=by rw[hW0];simp only[ch]
 have RA:W0.rangeAt w.heap.size 0 [.string ⟨la.toArray⟩,.int .i64 ua,.int .i64 xa]:=by
  rw[hW0];exact jR (aW w #[.string ⟨la.toArray⟩,.int .i64 ua,.int .i64 xa] _) (aR (aR (aE _ _ none) _) _)
 have RB:W0.rangeAt (w.heap.size+1) 0 [.string ⟨lb.toArray⟩,.int .i64 ub,.int .i64 xb]:=by
  have h:=jR (aW (w.alloc (.cells #[.string ⟨la.toArray⟩,.int .i64 ua,.int .i64 xa] 328)) #[.string ⟨lb.toArray⟩,.int .i64 ub,.int .i64 xb] 328) (aR (aE _ (.cells noEntry 126) none) (.cells noEntry 126));rw[ch] at h;rw[hW0];exact h
 have LA:Live W0 (w.heap.size+1+1) 8:=by
  have h:=(Live.new ((w.alloc (.cells #[.string ⟨la.toArray⟩,.int .i64 ua,.int .i64 xa] 328)).alloc (.cells #[.string ⟨lb.toArray⟩,.int .i64 ub,.int .i64 xb] 328)) noEntry 126).grown (aE _ (.cells noEntry 126) none);rw[ch,ch] at h;rw[hW0];exact h
 have LB:Live W0 (w.heap.size+1+1+1) 8:=by
  have h:=Live.new (((w.alloc (.cells #[.string ⟨la.toArray⟩,.int .i64 ua,.int .i64 xa] 328)).alloc (.cells #[.string ⟨lb.toArray⟩,.int .i64 ub,.int .i64 xb] 328)).alloc (.cells noEntry 126)) noEntry 126;rw[ch,ch,ch] at h;rw[hW0];exact h
 obtain ⟨x,hx⟩:=aq (BE.find es la)
 obtain ⟨y,hy⟩:=aq (BE.find es lb)
 have HA:=hid (fun W hW=>hF.call W hW la)
 have HB:=hid (fun W hW=>hF.call W hW lb)
 rw[hx] at HA
 rw[hy] at HB
 rw[hx,hy]
 clear hx hy
 obtain ⟨v0,v1,v2,v3,v4,v5,v6,v7,hv⟩:=iZ x
 obtain ⟨u0,u1,u2,u3,u4,u5,u6,u7,hu⟩:=iZ y
 obtain ⟨ba,hba⟩:=aq x.isSome
 obtain ⟨bb,hbb⟩:=aq y.isSome
 unfold xw at HA HB
 rw[hv,hba] at HA
 rw[hu,hbb] at HB
 have HST:=hid hF.stay
 have HJ:=hid hJ
 have HW0:=hid hW0
 have Hv:=hid hv
 have Hu:=hid hu
 have Hba:=hid hba
 have Hbb:=hid hbb
 have uH:=hid G0
 have a0:=G0.cell c0 aft
 have a1:W0.cell? ⟨w.heap.size,0,none⟩=some (.string ⟨la.toArray⟩):=RA 0 _ rfl
 have Eu:=hid RA
 have OP:=hid RB
 have HLA:=hid LA
 have HLB:=hid LB
 have HN:Hid (w.heap.size<=hb->False):=fun e=>by have:=je c0;omega
 have n1:w.heap.size+1+1≠hb:=fun e=>HN.o afp
 have n2:w.heap.size+1+1≠w.heap.size:=by omega
 have n3:w.heap.size+1+1+1≠hb:=fun e=>HN.o afp
 have H1:=hid h1
 have H2:=hid h2
 have H3:=hid h3
 clear hF hJ hW0 hv hu hba hbb RA RB LA LB h1 h2 h3 G0
 have hcf:=Ai T
 go_enter func173,ntmps173
 go_wp2_with fail
 rw[<-HW0.o]
 go_cut [9] (fun c wx=>c = .bool ba/\wx.rangeAt (w.heap.size+1+1) 0 [.string v0,.int .i64 v1,.int .u64 v2,.int .u64 v3,.int .i64 v4,.int .i64 v5,.int .i64 v6,.int .i64 v7]/\J wx/\CF W0 wx (fun b y=>dS b y\/b=w.heap.size+1+1))
 case first=>
  go_region_held3 (fun w'=>w'.cell? ⟨hb,0,none⟩=some (.iface T fv)/\w'.cell? ⟨w.heap.size,0,none⟩=some (.string ⟨la.toArray⟩)) (go_keep) (first|((with_reducible show Calls _ (findF T) _ _ _);refine (HA.o _ (HST.o _ _ HJ.o (CF.bN (aY uH.o 1) _))).mono ?_;rintro e w1 ⟨rfl,j1,C1⟩;have b0:=C1.dG.cell a0 (H1.o 0);have b1:=C1.dG.cell a1 (H2.o _ 0 hbase);have Uq:=hid j1;have qN:=hid C1.dG;clear j1 C1;have hL:=HLA.o.cf qN.o;obtain ⟨⟨d0,q0⟩,⟨d1,q1⟩,⟨d2,q2⟩,⟨d3,q3⟩,⟨d4,q4⟩,⟨d5,q5⟩,⟨d6,q6⟩,⟨d7,q7⟩,f0,f1,f2,f3,f4,f5,f6,f7⟩:=nI hL));go_wp2;go_meet;refine ⟨rfl,oD _ _ _ _ _ _ _ _ _ _ q0 q1 q2 q3 q4 q5 q6 q7,?_,?_⟩
  ·refine HST.o _ _ Uq.o ?_;exact ae3
  ·repeat refine CF.setCell ?_ _ _ _ (fun _=>.inr rfl)
   exact qN.o.mono (fun _ _ _ e=>.inl e)
 case rest=>
  obtain ⟨rfl,LF,hj1,hC1⟩:=hcut;have HR1:=hid LF;have Uq:=hid hj1;have qN:=hid hC1;have k0:=hC1.cell a0 (fun e=>by rcases e with e | e;exact H1.o _ e;exact HN.o afp);have k1:wc.cell? ⟨w.heap.size+1,0,none⟩=some (.string ⟨lb.toArray⟩):=hC1.cell (OP.o 0 _ rfl) (fun e=>by rcases e with e | e;exact H2.o _ _ afp e;omega);clear LF hj1 hC1 a0 a1;go_wp2_with fail;go_cut [10] (fun c wx=>c = .bool bb/\wx.rangeAt (w.heap.size+1+1+1) 0 [.string u0,.int .i64 u1,.int .u64 u2,.int .u64 u3,.int .i64 u4,.int .i64 u5,.int .i64 u6,.int .i64 u7]/\wx.rangeAt (w.heap.size+1+1) 0 [.string v0,.int .i64 v1,.int .u64 v2,.int .u64 v3,.int .i64 v4,.int .i64 v5,.int .i64 v6,.int .i64 v7]/\J wx/\CF W0 wx (fun b y=>dS b y\/b=w.heap.size+1+1\/b=w.heap.size+1+1+1))
  case first=>
   go_region_held3 (fun w'=>w'.cell? ⟨hb,0,none⟩=some (.iface T fv)/\w'.cell? ⟨w.heap.size+1,0,none⟩=some (.string ⟨lb.toArray⟩)) (go_keep) (first|((with_reducible show Calls _ (findF T) _ _ _);refine (HB.o _ (HST.o _ _ Uq.o (CF.bN (aY (bh _ _) 1) _))).mono ?_;rintro e w1 ⟨rfl,j1,C1⟩;have b0:=C1.dG.cell k0 (H1.o 0);have b1:=C1.dG.cell k1 (H2.o _ 0 afp);have HJ2:=hid j1;have DZ:=hid C1.dG;clear j1 C1;have hL:=(HLB.o.cf qN.o).cf DZ.o;obtain ⟨⟨d0,q0⟩,⟨d1,q1⟩,⟨d2,q2⟩,⟨d3,q3⟩,⟨d4,q4⟩,⟨d5,q5⟩,⟨d6,q6⟩,⟨d7,q7⟩,f0,f1,f2,f3,f4,f5,f6,f7⟩:=nI hL));go_wp2;go_meet;have C3:=DZ.o.mono (ex':=fun b y=>dS b y\/b=w.heap.size+1+1+1) (fun _ _ _ e=>.inl e);refine ⟨rfl,oD _ _ _ _ _ _ _ _ _ _ q0 q1 q2 q3 q4 q5 q6 q7,?_,?_,?_⟩
   ·refine CF.range (ex:=fun b y=>dS b y\/b=w.heap.size+1+1+1) ?_ HR1.o (fun j _ e=>?_)
    ·repeat refine CF.setCell ?_ _ _ _ (fun _=>.inr rfl)
     exact C3
    ·rcases e with e | e
     ·exact H2.o _ _ afp e
     ·omega
   ·refine HST.o _ _ HJ2.o ?_;exact ae3
   ·refine (qN.o.mono (fun _ _ _ e=>e.elim .inl (fun e=>.inr (.inl e)))).trans (ex2:=fun b y=>dS b y\/b=w.heap.size+1+1+1) ?_ (fun _ _ _ e=>e.elim .inl (fun e=>.inr (.inr e)));repeat refine CF.setCell ?_ _ _ _ (fun _=>.inr rfl)
    exact C3
  case rest=>
   obtain ⟨rfl,II,LF,hj2,hC2⟩:=hcut;have G8:=hid LF;have aa5:=hid II;have HJ2:=hid hj2;have DZ:=hid hC2;clear Uq qN HR1 k0 k1;have t1:wc.cell? ⟨w.heap.size,1,none⟩=some (.int .i64 ua):=hC2.cell (Eu.o 1 _ rfl) (fun e=>by rcases e with e | e | e;exact H2.o _ _ afp e;omega;omega);have t2:wc.cell? ⟨w.heap.size,2,none⟩=some (.int .i64 xa):=hC2.cell (Eu.o 2 _ rfl) (fun e=>by rcases e with e | e | e;exact H2.o _ _ afp e;omega;omega);have t3:wc.cell? ⟨w.heap.size+1,1,none⟩=some (.int .i64 ub):=hC2.cell (OP.o 1 _ rfl) (fun e=>by rcases e with e | e | e;exact H2.o _ _ afp e;omega;omega);have t4:wc.cell? ⟨w.heap.size+1,2,none⟩=some (.int .i64 xb):=hC2.cell (OP.o 2 _ rfl) (fun e=>by rcases e with e | e | e;exact H2.o _ _ afp e;omega;omega);have t5:wc.cell? ⟨hb,4,none⟩=some (.int .i64 now):=hC2.cell (uH.o.cell c4 aft) (fun e=>by rcases e with e | e | e;exact H1.o _ e;exact n1 e.symm;exact n3 e.symm);clear LF II hj2 hC2;go_upto_block 0 with fail
   go_cut [8] (fun c wx=>c = .int .i64 (dV x y now ua ub xa xb)/\wx=wc)
   case first=>
    cases x with
    | none=>
     obtain rfl:ba=false:=Hba.o.symm;go_wp2_with fail;go_meet;exact ⟨rfl,rfl⟩
    | some e=>
     obtain rfl:ba=true:=Hba.o.symm;cases y with
     | none=>
      obtain rfl:bb=false:=Hbb.o.symm;go_wp2_with fail;go_meet;exact ⟨rfl,rfl⟩
     | some f=>
      obtain rfl:bb=true:=Hbb.o.symm;have re:wc.rangeAt (w.heap.size+1+1) 0 e.bG:=(by have h:=G8.o;rw[<-Hv.o] at h;exact h);have rf:wc.rangeAt (w.heap.size+1+1+1) 0 f.bG:=(by have h:=aa5.o;rw[<-Hu.o] at h;exact h);have yJ:=hid (Cu (w.heap.size+1+1) 4 e now wc (re 6 _ rfl));have Ee:=hid (Cu (w.heap.size+1+1+1) 4 f now wc (rf 6 _ rfl));have Yc:=hid (yL (w.heap.size+1+1) 4 e 32 5 wc afq afq (re 7 _ rfl));have OO:=hid (yL (w.heap.size+1+1+1) 4 f 32 5 wc afq afq (rf 7 _ rfl));have xO:Hid (dV (some e) (some f) now ua ub xa xb=if e.gone now=true then xa else if f.gone now=true then xb else if e.has 32=true\/f.has 32=true then 12 else 0):=rfl;clear re rf;generalize e.gone now=b1 at *;generalize f.gone now=b2 at *;generalize e.has 32=b3 at *;generalize f.has 32=b4 at *;generalize dV (some e) (some f) now ua ub xa xb=pc at *;cases b1 with
      | true=>
       go_wp2_with (first|(go_at_call 209;refine yJ.o.mono ?_;clear yJ;rintro e w1 ⟨rfl,rfl⟩))
       go_meet;exact ⟨by rw[xO.o];rfl,rfl⟩
      | false=>
       cases b2 with
       | true=>
        go_wp2_with (first|(go_at_call 209;refine yJ.o.mono ?_;clear yJ;rintro e w1 ⟨rfl,rfl⟩)|(go_at_call 209;refine Ee.o.mono ?_;clear Ee;rintro e w1 ⟨rfl,rfl⟩))
        go_meet;exact ⟨by rw[xO.o];rfl,rfl⟩
       | false=>
        cases b3 with
        | true=>
         exact aaj
        | false=>
         cases b4 with
         | true=>
          exact aaj
         | false=>
          exact aaj
   case rest=>
    obtain ⟨rfl,rfl⟩:=hcut;clear t1 t2 t3 t4 t5;obtain ⟨p0,p1,p2,p3,p4,p5,p6,p7⟩:=ry G8.o;obtain ⟨r0,r1,r2,r3,r4,r5,r6,r7⟩:=ry aa5.o;have hLA:=(HLA.o.cf DZ.o)
    have Sg:=(HLB.o.cf DZ.o)
    obtain ⟨_,_,_,_,_,_,_,_,f0,f1,f2,f3,f4,f5,f6,f7⟩:=nI hLA;obtain ⟨_,_,_,_,_,_,_,_,g0,g1,g2,g3,g4,g5,g6,g7⟩:=nI Sg;clear hLA Sg;go_wp2_with fail;have T2:=Uo wc (w.heap.size+1+1) (w.heap.size+1+1+1) afp _ _ _ _ _ _ _ _ _ _ _ _ _ _ _ _ G8.o aa5.o;refine bodyPost_ret (Et results173 _ _ _ (w.heap.size+1+1) (w.heap.size+1+1+1) rfl rfl _ _ (ji T2.1 126 _ underlying126 rfl Tryz.l9) (ji T2.2.1 126 _ underlying126 rfl Tryz.l9)) rfl ⟨by rw[Hv.o,Hu.o];rfl,?_,?_⟩
    ·exact HST.o _ _ HJ2.o (T2.2.2.mono (fun b _ _ e=>H3.o _ _ (by rcases e with e | e <;> omega)))
    ·refine ((CF.before uH.o DZ.o).trans T2.2.2 (fun _ _ _ e=>e.elim (fun e=>.inr (.inl e)) (fun e=>.inr (.inr e)))).mono (fun b _ hlt e=>?_);rcases e with e | e | e
     ·exact e
     ·omega
     ·omega
def FQ.cells (q:FQ) (pn:Int) (v:Value):List Value:=[.string ⟨q.ax.toArray⟩,.string ⟨q.aV.toArray⟩,.int .i64 q.bS,.int .i64 q.kX,.int .i64 q.dJ,.int .i64 q.bV,.int .i64 q.aL,.bool q.pre.isSome,.int .i64 pn,v]
def NQ.cells (q:NQ) (v u:Value):List Value:=[.string ⟨q.fo.toArray⟩,.int .i64 q.nD,v,u,.string ⟨q.aV.toArray⟩,.int .i64 q.bS,.int .i64 q.dJ,.int .i64 q.bV,.int .i64 q.aL]
def TK.cells (t:TK):List Value:=[.int .i64 t.ay,.int .u64 (t.aM.toNat:Int),.string ⟨t.ax.toArray⟩,.int .i64 t.dY,.int .i64 t.start,.int .i64 t.fin,.int .i64 t.aD]
theorem Ng (b:Nat) (x s:BE) (f:Int) (k:Nat) (w:World) (nq:Nat) (hf:f=2 ^ k) (hk:k<63) (h:fB w b x s) :
  Calls Tryz.prog 213 #[.pointer (some ⟨b,0,none⟩),.int .i64 f] (w.drewN nq) fun r w'=>r = .returned (.bool (x.has f && s.has f))/\∃ m,w'=w.drewN m:=
 (pJ b x s f k _ hf hk (h.grown (aY (bh _ _) nq))).mono fun _ _ ⟨h1,h2⟩=>⟨h1,nq,h2⟩
theorem QK (hb g:Nat) (now aC t:Int) (w:World) (nq:Nat) (c3:w.cell? ⟨hb,3,none⟩=some (.pointer (some ⟨g,0,none⟩))) (c4:w.cell? ⟨hb,4,none⟩=some (.int .i64 now)) (cs:w.cell? ⟨g,0,none⟩=some (.int .i64 aC)) (dm:In64 now) (hsk:In64 aC) :
  Calls Tryz.prog 186 #[.pointer (some ⟨hb,0,none⟩),.int .i64 t] (w.drewN nq) fun e w'=>e = .returned (.bool (decide (aX now aC<t)))/\∃ m,w'=w.drewN m:=
 (Ad hb g now aC t _ ((aY (bh w none) nq).cell c3 aft) ((aY (bh w none) nq).cell c4 aft) ((aY (bh w none) nq).cell cs aft) dm hsk).mono fun _ _ ⟨h1,m,h2⟩=>⟨h1,nq+m,by rw[h2,World.drewN_drewN]⟩
theorem sJ (s:List UInt8×Bool):In64 (bO s).1:=by
 unfold bO;cases h:Box.num (bB 2 s.1 s.2).1 with
 | some v=>exact BP h
 | none=>exact (show In64 0 from ⟨by decide,by decide⟩)
theorem nY {p:Option Pl} {b:Nat} (h:Off p b) (o:Nat):¬ Pl.has p b o:=fun ⟨q,e1,e2,_⟩=>h q e1 e2
theorem O0 {w:World} {v:Value} {p:Option Pl} {bs:List UInt8} (h:Out w v p bs) (o:Nat):¬ Pl.has p w.heap.size o:=fun e=>fS _ (h.lt e)
abbrev jb:Array Value:=#[.int .i64 0,.int .u64 0,.string ⟨#[]⟩,.int .i64 0,.int .i64 0,.int .i64 0,.int .i64 0]
theorem zK (x:Int):In64 (sat x):=by
 unfold sat In64;split
 ·omega
 ·split <;> omega
theorem Nh (a b:Int):lesser a b=min a b:=by
 unfold lesser;split <;> omega
def rC (r:Except Int TK):Value:=match r with | .error c=>.tuple #[.agg jb,.int .i64 c] | .ok t=>.tuple #[.agg t.cells.toArray,.int .i64 0]
def xC (now:Int) (old:TK):Except Int TK:=if now<old.start then .error 33 else .ok {old with ay:=if aG old.ay 16=true then old.ay-16 else old.ay}
def xD (now:Int) (old:TK):Except Int TK:=if old.aD<=now then .error 32 else .ok {old with start:=now,fin:=lesser old.aD (aX now (fO old.fin old.start))}
theorem abY {p:Prop} (h:p:=by
 clear G0 hW0 R0 hf HN
 go_enter func226,ntmps226
 go_wp2_with (rw[<-HW0.o];fail_if_success done)
 go_wp2
 exact bodyPost_ret (aJ results226 _ _ _ W0.heap.size rfl _ ((dX.new W0 _ 333).load 333 _ underlying333 rfl Tryz.iO)) rfl ⟨rfl,aa HG.o (aE _ _ none)⟩):p:=h
theorem Ey (now:Int) (old:TK) (w:World) (hf:In64 old.ay) :
  Calls prog 226 #[.int .i64 now,.agg old.cells.toArray] w fun e w'=>e = .returned (rC (xC now old))/\w.grownBy w' none:=by
 obtain ⟨W0,hW0⟩:=ar (w.alloc (.cells old.cells.toArray 333))
 have G0:w.grownBy W0 none:=by rw[hW0];exact aE w _ none
 have R0:W0.rangeAt w.heap.size 0 old.cells:=by rw[hW0];exact aW w old.cells.toArray _
 have G1:=aE W0 (.cells jb 333) none
 have r0:=G1.cell (R0 0 _ rfl) aft
 have r1:=G1.cell (R0 1 _ rfl) aft
 have r2:=G1.cell (R0 2 _ rfl) aft
 have r3:=G1.cell (R0 3 _ rfl) aft
 have r4:=G1.cell (R0 4 _ rfl) aft
 have r5:=G1.cell (R0 5 _ rfl) aft
 have r6:=G1.cell (R0 6 _ rfl) aft
 have HG:=hid G0
 have HW0:=hid hW0
 have HN:=hid (yM old.ay hf)
 unfold xC
 rw[<-HN.o]
 by_cases hlt:now<old.start
 ·rw[if_pos hlt];exact abY
 ·rw[if_neg hlt];exact abY
theorem Kh (now:Int) (old:TK) (w:World) (dm:In64 now) (hs:In64 old.start) (he:In64 old.fin) :
  Calls prog 227 #[.int .i64 now,.agg old.cells.toArray] w fun e w'=>e = .returned (rC (xD now old))/\w.grownBy w' none:=by
 obtain ⟨W0,hW0⟩:=ar (w.alloc (.cells old.cells.toArray 333))
 have G0:w.grownBy W0 none:=by rw[hW0];exact aE w _ none
 have R0:W0.rangeAt w.heap.size 0 old.cells:=by rw[hW0];exact aW w old.cells.toArray _
 have G1:=aE W0 (.cells jb 333) none
 have r0:=G1.cell (R0 0 _ rfl) aft
 have r1:=G1.cell (R0 1 _ rfl) aft
 have r2:=G1.cell (R0 2 _ rfl) aft
 have r3:=G1.cell (R0 3 _ rfl) aft
 have r4:=G1.cell (R0 4 _ rfl) aft
 have r5:=G1.cell (R0 5 _ rfl) aft
 have r6:=G1.cell (R0 6 _ rfl) aft
 have HG:=hid G0
 have HW0:=hid hW0
 have HD:=hid (fun W=>qj old.fin old.start W he.1 he.2 hs.1 hs.2)
 have hd:In64 (fO old.fin old.start):=zK _
 have HM:=hid (fun W=>Bf now (fO old.fin old.start) W dm.1 dm.2 hd.1 hd.2)
 unfold xD
 by_cases hle:old.aD<=now
 ·rw[if_pos hle];clear G0 hW0 R0 hd dm hs he;go_enter func227,ntmps227;go_wp2_with (rw[<-HW0.o];fail_if_success done)
  go_wp2;exact bodyPost_ret (aJ results227 _ _ _ W0.heap.size rfl _ ((dX.new W0 _ 333).load 333 _ underlying333 rfl Tryz.iO)) rfl ⟨rfl,aa HG.o (aE _ _ none)⟩
 ·rw[if_neg hle,Nh];have HR:Hid (W0.cell? ⟨w.heap.size,4,none⟩=some (.int .i64 old.start)/\W0.cell? ⟨w.heap.size,5,none⟩=some (.int .i64 old.fin)/\W0.cell? ⟨w.heap.size,6,none⟩=some (.int .i64 old.aD)):=⟨R0 4 _ rfl,R0 5 _ rfl,R0 6 _ rfl⟩
  generalize fO old.fin old.start=dd at *;generalize aX now dd=ss at *;clear G0 hW0 R0 hd dm hs he;go_enter func227,ntmps227;go_wp2_with (rw[<-HW0.o];fail_if_success done)
  have G2:=aE W0 (.cells #[.int .i64 old.ay,.int .u64 (old.aM.toNat:Int),.string ⟨old.ax.toArray⟩,.int .i64 old.dY,.int .i64 now,.int .i64 old.fin,.int .i64 old.aD] 333) none;have q4:=G2.cell HR.o.1 aft;have q5:=G2.cell HR.o.2.1 aft;have q6:=G2.cell HR.o.2.2 aft;have G3:=aE W0 (.cells #[.int .i64 old.ay,.int .u64 (old.aM.toNat:Int),.string ⟨old.ax.toArray⟩,.int .i64 old.dY,.int .i64 now,.int .i64 (min old.aD ss),.int .i64 old.aD] 333) none;have p4:=G3.cell HR.o.1 aft;have p5:=G3.cell HR.o.2.1 aft;have p6:=G3.cell HR.o.2.2 aft;clear G1 G2 G3 r0 r1 r2 r3 r4 r5 r6;go_region_held3 (fun w'=>w'.cell? ⟨w.heap.size,4,none⟩=some (.int .i64 old.start)/\w'.cell? ⟨w.heap.size,5,none⟩=some (.int .i64 old.fin)/\w'.cell? ⟨w.heap.size,6,none⟩=some (.int .i64 old.aD)) (go_keep) (first|(go_at_call 249;refine (HD.o _).mono ?_;rintro e w1 ⟨rfl,rfl⟩)|(go_at_call 223;refine (HM.o _).mono ?_;rintro e w1 ⟨rfl,rfl⟩));go_wp2;exact bodyPost_ret (aJ results227 _ _ _ W0.heap.size rfl _ ((dX.new W0 _ 333).drew.load 333 _ underlying333 rfl Tryz.iO)) rfl ⟨rfl,bD (aa HG.o (aE _ _ none))⟩
def Da (o:Int) (old:TK) (x s:BE):Int:=bits .or .i64 (bits .and .i64 old.ay 448) (jf (bits .and .i64 o old.ay) x s)
def Db (o:Int) (old:TK) (x s:BE):Int:=if aG o 64=true then bits .or .i64 (Da o old x s) 128 else Da o old x s
def uC (o:Int) (old:TK) (x s:BE):Int:=if aG o 128=true then bits .or .i64 (Db o old x s) 256 else Db o old x s
theorem abh:∀ (k6 k7 k8 a1 a2 a4 o6 o7:Bool),
  (let kept:Int:=(if k6=true then 64 else 0)+(if k7=true then 128 else 0)+(if k8=true then 256 else 0)
   let al:Int:=(if a1=true then 1 else 0)+(if a2=true then 2 else 0)+(if a4=true then 4 else 0)
   let f1:=bits .or .i64 kept al
   let f2:=if o6=true then bits .or .i64 f1 128 else f1
   let f3:=if o7=true then bits .or .i64 f2 256 else f2
   f3=(if k6=true then 64 else 0)+(if (k7 || o6)=true then 128 else 0)+(if (k8 || o7)=true then 256 else 0)+((if a1=true then 1 else 0)+(if a2=true then 2 else 0)+(if a4=true then 4 else 0))/\aG f3 4=a4):=by decide
theorem Dc (o:Int) (old:TK) (x s:BE):uC o old x s=iC o old x s/\aG (uC o old x s) 4=(aG o 4 && aG old.ay 4 && (x.has 2 && s.has 2)):=by
 have h:=abh (aG old.ay 64) (aG old.ay 128) (aG old.ay 256) (aG (bits .and .i64 o old.ay) 1 && (x.has 4 && s.has 4)) (aG (bits .and .i64 o old.ay) 2 && (x.has 8 && s.has 8)) (aG (bits .and .i64 o old.ay) 4 && (x.has 2 && s.has 2)) (aG o 64) (aG o 128)
 have e:uC o old x s=(let kept:Int:=(if aG old.ay 64=true then 64 else 0)+(if aG old.ay 128=true then 128 else 0)+(if aG old.ay 256=true then 256 else 0)
   let al:Int:=jf (bits .and .i64 o old.ay) x s
   let f1:=bits .or .i64 kept al
   let f2:=if aG o 64=true then bits .or .i64 f1 128 else f1
   if aG o 128=true then bits .or .i64 f2 256 else f2):=by
  unfold uC Db Da
  rw[Ul]
  rfl
 have e1:uC o old x s=_:=e.trans h.1;constructor
 ·rw[e1];unfold iC gI;rw[Um,Un,JU];simp only[ej,Bool.or_eq_true,and_assoc]
 ·rw[e];rw[<-JU];exact h.2
theorem afF {p:Prop} (h:p:=by rw[Sm.o];exact bd _):p:=h
theorem jy {w:World} {b:Nat} {v0 v1 v2 v3 v4 v5 v6:Value} (h:dX w b #[v0,v1,v2,v3,v4,v5,v6]):(w.cell? ⟨b,0,none⟩=some v0/\w.cell? ⟨b,1,none⟩=some v1/\w.cell? ⟨b,2,none⟩=some v2/\w.cell? ⟨b,3,none⟩=some v3/\w.cell? ⟨b,4,none⟩=some v4/\w.cell? ⟨b,5,none⟩=some v5/\w.cell? ⟨b,6,none⟩=some v6)/\w.frozen? ⟨b,0,none⟩=false/\w.frozen? ⟨b,1,none⟩=false/\w.frozen? ⟨b,2,none⟩=false/\w.frozen? ⟨b,3,none⟩=false/\w.frozen? ⟨b,4,none⟩=false/\w.frozen? ⟨b,5,none⟩=false/\w.frozen? ⟨b,6,none⟩=false:=
 ⟨⟨h.cell 0,h.cell 1,h.cell 2,h.cell 3,h.cell 4,h.cell 5,h.cell 6⟩,h.frozen 0,h.frozen 1,h.frozen 2,h.frozen 3,h.frozen 4,h.frozen 5,h.frozen 6⟩
def Hq (now:Int) (q:NQ) (old:TK) (x s:BE):Int:=min old.fin (lesser (asked q.dJ) (lesser (aX now x.bI) (aX now s.bI)))
def Ni (now:Int) (q:NQ) (old:TK) (x s:BE):Int:=if aG (uC q.aL old x s) 4=true then min old.aD (lesser (asked q.bV) (lesser (aX now x.aD) (aX now s.aD))) else 0
def Nj (now:Int) (q:NQ) (old:TK) (x s:BE):Except Int TK:=if Hq now q old x s<=now then .error 11 else .ok ⟨uC q.aL old x s,0,old.ax,old.dY,now,Hq now q old x s,Ni now q old x s⟩
theorem adq {p:Prop} (h:p:=by
 have h:=aW (w.alloc (.cells (q.cells v u).toArray 276)) old.cells.toArray 333
 rw[ch] at h
 rw[hW0]
 exact h):p:=h
theorem Ki (pb:Nat) (now:Int) (q:NQ) (v u:Value) (old:TK) (x s:BE) (w:World) (hp:fB w pb x s) (dm:In64 now) (hxl:In64 x.bI) (hsl:In64 s.bI) (UF:In64 x.aD) (UG:In64 s.aD) :
  Calls prog 228 #[.pointer (some ⟨pb,0,none⟩),.int .i64 now,.agg (q.cells v u).toArray,.agg old.cells.toArray] w fun e w'=>e = .returned (rC (Nj now q old x s))/\w.grownBy w' none:=by
 obtain ⟨W0,hW0⟩:=ar ((w.alloc (.cells (q.cells v u).toArray 276)).alloc (.cells old.cells.toArray 333))
 have G0:w.grownBy W0 none:=by rw[hW0];exact aR (aE w _ none) _
 have RQ:W0.rangeAt w.heap.size 0 (q.cells v u):=by rw[hW0];exact jR (aW w (q.cells v u).toArray _) (aE _ _ none)
 have RT:W0.rangeAt (w.heap.size+1) 0 old.cells:=by
  exact adq
 have s0:W0.heap.size=w.heap.size+1+1:=by rw[hW0];simp only[ch]
 obtain ⟨t8,ht8⟩:=ar W0.heap.size
 obtain ⟨W1,hW1⟩:=ar (W0.alloc (.cells #[.int .i64 0,.int .u64 0,.string ⟨old.ax.toArray⟩,.int .i64 old.dY,.int .i64 now,.int .i64 0,.int .i64 0] 333))
 have B1:dX W1 t8 #[.int .i64 0,.int .u64 0,.string ⟨old.ax.toArray⟩,.int .i64 old.dY,.int .i64 now,.int .i64 0,.int .i64 0]:=by rw[hW1,ht8];exact dX.new _ _ _
 have G1:W0.grownBy W1 none:=by rw[hW1];exact aE _ _ none
 have HP:Hid (∀ W,W0.grownBy W none->fB W pb x s):=fun W hW=>hp.grown (aa G0 hW)
 have HC:Hid (∀ W,W0.grownBy W none->W.cell? ⟨w.heap.size,6,none⟩=some (.int .i64 q.dJ)/\W.cell? ⟨w.heap.size,7,none⟩=some (.int .i64 q.bV)/\W.cell? ⟨w.heap.size,8,none⟩=some (.int .i64 q.aL)/\W.cell? ⟨w.heap.size+1,0,none⟩=some (.int .i64 old.ay)/\W.cell? ⟨w.heap.size+1,5,none⟩=some (.int .i64 old.fin)/\W.cell? ⟨w.heap.size+1,6,none⟩=some (.int .i64 old.aD)):=
  fun W hW=>⟨hW.cell (RQ 6 _ rfl) aft,hW.cell (RQ 7 _ rfl) aft,hW.cell (RQ 8 _ rfl) aft,hW.cell (RT 0 _ rfl) aft,hW.cell (RT 5 _ rfl) aft,hW.cell (RT 6 _ rfl) aft⟩
 have r2:W0.cell? ⟨w.heap.size+1,2,none⟩=some (.string ⟨old.ax.toArray⟩):=RT 2 _ rfl
 have r3:W0.cell? ⟨w.heap.size+1,3,none⟩=some (.int .i64 old.dY):=RT 3 _ rfl
 have gz:=aE W0 (.cells jb 333) none
 have z2:=gz.cell r2 aft
 have z3:=gz.cell r3 aft
 have HE:Hid (∀ W,W0.grownBy W none->Calls prog 178 #[.pointer (some ⟨pb,0,none⟩),.int .i64 now,.int .i64 q.dJ] W fun r w'=>r = .returned (.int .i64 (lesser (asked q.dJ) (lesser (aX now x.bI) (aX now s.bI))))/\∃ m,w'=W.drewN m):=fun W hW=>JR pb x s now q.dJ W (HP.o W hW) dm hxl hsl
 have HR:Hid (∀ W,W0.grownBy W none->Calls prog 181 #[.pointer (some ⟨pb,0,none⟩),.int .i64 now,.int .i64 q.bV] W fun r w'=>r = .returned (.int .i64 (lesser (asked q.bV) (lesser (aX now x.aD) (aX now s.aD))))/\∃ m,w'=W.drewN m):=fun W hW=>Cw pb x s now q.bV W (HP.o W hW) dm UF UG
 have HAl:Hid (∀ W,W0.grownBy W none->Calls prog 215 #[.pointer (some ⟨pb,0,none⟩),.int .i64 (bits .and .i64 q.aL old.ay)] W fun r w'=>r = .returned (.int .i64 (jf (bits .and .i64 q.aL old.ay) x s))/\W.grownBy w' none):=fun W hW=>Ah pb x s _ W (HP.o W hW)
 have HD1:Hid (Hq now q old x s=min old.fin (lesser (asked q.dJ) (lesser (aX now x.bI) (aX now s.bI)))):=rfl
 have HD2:Hid (Ni now q old x s=if aG (uC q.aL old x s) 4=true then min old.aD (lesser (asked q.bV) (lesser (aX now x.aD) (aX now s.aD))) else 0):=rfl
 have HF1:Hid (Da q.aL old x s=bits .or .i64 (bits .and .i64 old.ay 448) (jf (bits .and .i64 q.aL old.ay) x s)):=rfl
 have mg:Hid (Db q.aL old x s=if aG q.aL 64=true then bits .or .i64 (Da q.aL old x s) 128 else Da q.aL old x s):=rfl
 have GZ:Hid (uC q.aL old x s=if aG q.aL 128=true then bits .or .i64 (Db q.aL old x s) 256 else Db q.aL old x s):=rfl
 have HQ6:=hid (jQ q.aL 64 6 afq afq)
 have HQ7:=hid (jQ q.aL 128 7 afq afq)
 have HQ4:=hid (jQ (uC q.aL old x s) 4 2 afq afq)
 unfold Nj
 generalize lesser (asked q.dJ) (lesser (aX now x.bI) (aX now s.bI))=e0 at *
 generalize lesser (asked q.bV) (lesser (aX now x.aD) (aX now s.aD))=e1 at *
 generalize jf (bits .and .i64 q.aL old.ay) x s=al at *
 generalize Hq now q old x s=E at *
 generalize Ni now q old x s=R at *
 generalize Da q.aL old x s=F1 at *
 generalize Db q.aL old x s=F2 at *
 generalize uC q.aL old x s=F3 at *
 generalize aG q.aL 64=o6 at *
 generalize aG q.aL 128=o7 at *
 generalize aG F3 4=o4 at *
 obtain ⟨dJ,UH⟩:=aq q.dJ
 obtain ⟨bV,hrtime⟩:=aq q.bV
 obtain ⟨aL,UI⟩:=aq q.aL
 rw[UH] at HE
 rw[hrtime] at HR
 rw[UI] at HAl HQ6 HQ7
 rw[UH,hrtime,UI] at HC
 obtain ⟨qc,hqc⟩:=aq ((q.cells v u).toArray)
 obtain ⟨oc,hoc⟩:=aq old.cells.toArray
 rw[hqc,hoc] at hW0
 rw[hqc,hoc]
 obtain ⟨mv,hmv⟩:=aq (rC (if E<=now then .error 11 else .ok ⟨F3,0,old.ax,old.dY,now,E,R⟩))
 rw[hmv]
 have HMV:=hid hmv
 clear hmv
 have n1:t8≠w.heap.size:=by omega
 have n2:t8≠w.heap.size+1:=by omega
 have uH:=hid G0
 have jC:=hid G1
 have HB1:=hid B1
 have HW0:=hid hW0
 have HW1:=hid hW1
 have Sm:=hid ht8
 clear G0 G1 B1 hW0 hW1 ht8 s0 hp dm hxl hsl UF UG RQ RT gz UH hrtime UI hqc hoc
 go_enter func228,ntmps228
 go_wp2_with (rw[<-HW0.o];fail_if_success done)
 rw[<-HW1.o,<-Sm.o]
 go_cut [9] (fun c wx=>c = .int .i64 0/\dX wx t8 #[.int .i64 0,.int .u64 0,.string ⟨old.ax.toArray⟩,.int .i64 old.dY,.int .i64 now,.int .i64 E,.int .i64 0]/\W0.grownBy wx none)
 case first=>
  obtain ⟨c6,c7,c8,d0,d5,d6⟩:=HC.o W1 jC.o;go_region_held3 (fun w'=>w'.cell? ⟨w.heap.size,6,none⟩=some (.int .i64 dJ)/\w'.cell? ⟨w.heap.size+1,5,none⟩=some (.int .i64 old.fin)) (go_keep) (first|(go_at_call 178;refine (HE.o _ (bD jC.o)).mono ?_;rintro e w1 ⟨rfl,m,hw1⟩;have HB2:Hid (dX w1 t8 #[.int .i64 0,.int .u64 0,.string ⟨old.ax.toArray⟩,.int .i64 old.dY,.int .i64 now,.int .i64 0,.int .i64 0]):=(by rw[hw1];exact HB1.o.drew.drewN m);have HG2:Hid (W0.grownBy w1 none):=(by rw[hw1];exact aY (bD jC.o) m);clear hw1;obtain ⟨c6',c7',c8',d0',d5',d6'⟩:=HC.o w1 HG2.o;obtain ⟨⟨p0,p1,p2,p3,p4,p5,p6⟩,f0,f1,f2,f3,f4,f5,f6⟩:=jy HB2.o));go_wp2;go_meet;exact ⟨rfl,by rw[HD1.o];exact HB2.o.set 5 (.int .i64 (min old.fin e0)),az HG2.o afF⟩
 case rest=>
  obtain ⟨rfl,x91,x92⟩:=hcut;have HG2:=hid x92;clear x92;have HB2:=hid x91;clear x91;obtain ⟨c6,c7,c8,d0,d5,d6⟩:=HC.o _ HG2.o;obtain ⟨⟨p0,p1,p2,p3,p4,p5,p6⟩,f0,f1,f2,f3,f4,f5,f6⟩:=jy HB2.o;by_cases hE:E<=now
  ·have abj:Hid (mv=rC (.error 11)):=(by rw[<-HMV.o,if_pos hE];exact rfl);go_wp2_with fail;have B7:=((((((HB2.o.set 0 (.int .i64 0)).set 1 (.int .u64 0)).set 2 (.string ⟨#[]⟩)).set 3 (.int .i64 0)).set 4 (.int .i64 0)).set 5 (.int .i64 0)).set 6 (.int .i64 0);refine bodyPost_ret (aJ results228 _ _ _ t8 rfl _ (B7.load 333 _ underlying333 rfl Tryz.iO)) rfl ⟨by rw[abj.o];rfl,?_⟩;refine aa uH.o ?_;repeat refine az ?_ afF
   exact HG2.o
  ·have abj:Hid (mv=rC (.ok ⟨F3,0,old.ax,old.dY,now,E,R⟩)):=(by rw[<-HMV.o,if_neg hE];exact rfl);clear HMV;go_wp2_with fail;go_cut [9] (fun c wx=>c = .int .i64 0/\dX wx t8 #[.int .i64 F1,.int .u64 0,.string ⟨old.ax.toArray⟩,.int .i64 old.dY,.int .i64 now,.int .i64 E,.int .i64 0]/\W0.grownBy wx none)
   case first=>
    clear p0 p1 p2 p3 p4 p5 p6 f0 f1 f2 f3 f4 f5 f6;go_region_held3 (fun w'=>w'.cell? ⟨w.heap.size,8,none⟩=some (.int .i64 aL)/\w'.cell? ⟨w.heap.size+1,0,none⟩=some (.int .i64 old.ay)) (go_keep) (first|(go_at_call 215;refine (HAl.o _ (bD HG2.o)).mono ?_;rintro e w1 ⟨rfl,g1⟩;have HB3:Hid (dX w1 t8 #[.int .i64 0,.int .u64 0,.string ⟨old.ax.toArray⟩,.int .i64 old.dY,.int .i64 now,.int .i64 E,.int .i64 0]):=HB2.o.drew.grown g1 aft;have mf:Hid (W0.grownBy w1 none):=aa (bD HG2.o) g1;clear g1;obtain ⟨c6',c7',c8',d0',d5',d6'⟩:=HC.o w1 mf.o;obtain ⟨⟨p0,p1,p2,p3,p4,p5,p6⟩,f0,f1,f2,f3,f4,f5,f6⟩:=jy HB3.o));go_wp2;go_meet;exact ⟨rfl,by rw[HF1.o];exact HB3.o.set 0 (.int .i64 (bits .or .i64 (bits .and .i64 old.ay 448) al)),az mf.o afF⟩
   case rest=>
    obtain ⟨rfl,x91,x92⟩:=hcut;have mf:=hid x92;clear x92;have HB3:=hid x91;clear x91;clear  HB2 HG2 c6 c7 c8 d0 d5 d6 p0 p1 p2 p3 p4 p5 p6 f0 f1 f2 f3 f4 f5 f6;obtain ⟨c6,c7,c8,d0,d5,d6⟩:=HC.o _ mf.o;obtain ⟨⟨p0,p1,p2,p3,p4,p5,p6⟩,f0,f1,f2,f3,f4,f5,f6⟩:=jy HB3.o;go_upto_if 45 with fail
    go_cut [9] (fun c wx=>c = .int .i64 0/\dX wx t8 #[.int .i64 F2,.int .u64 0,.string ⟨old.ax.toArray⟩,.int .i64 old.dY,.int .i64 now,.int .i64 E,.int .i64 0]/\W0.grownBy wx none)
    case first=>
     have hq:=HQ6.o;cases o6 with
     | true=>
      rw[eE] at hq;have hp:=cg.1 hq;clear hq;go_wp2;go_meet;exact ⟨rfl,by rw[mg.o];exact HB3.o.set 0 (.int .i64 (bits .or .i64 F1 128)),az mf.o afF⟩
     | false=>
      rw[en] at hq;have hp:=cL.1 hq;clear hq;go_wp2;go_meet;exact ⟨rfl,by rw[mg.o];exact HB3.o,mf.o⟩
    case rest=>
     obtain ⟨rfl,x91,x92⟩:=hcut;have xu:=hid x92;clear x92;have HB4:=hid x91;clear x91;clear  HB3 mf c6 c7 c8 d0 d5 d6 p0 p1 p2 p3 p4 p5 p6 f0 f1 f2 f3 f4 f5 f6;obtain ⟨c6,c7,c8,d0,d5,d6⟩:=HC.o _ xu.o;obtain ⟨⟨p0,p1,p2,p3,p4,p5,p6⟩,f0,f1,f2,f3,f4,f5,f6⟩:=jy HB4.o;go_upto_if 53 with fail
     go_cut [9] (fun c wx=>c = .int .i64 0/\dX wx t8 #[.int .i64 F3,.int .u64 0,.string ⟨old.ax.toArray⟩,.int .i64 old.dY,.int .i64 now,.int .i64 E,.int .i64 0]/\W0.grownBy wx none)
     case first=>
      have hq:=HQ7.o;cases o7 with
      | true=>
       rw[eE] at hq;have hp:=cg.1 hq;clear hq;go_wp2;go_meet;exact ⟨rfl,by rw[GZ.o];exact HB4.o.set 0 (.int .i64 (bits .or .i64 F2 256)),az xu.o afF⟩
      | false=>
       rw[en] at hq;have hp:=cL.1 hq;clear hq;go_wp2;go_meet;exact ⟨rfl,by rw[GZ.o];exact HB4.o,xu.o⟩
     case rest=>
      obtain ⟨rfl,x91,x92⟩:=hcut;have QL:=hid x92;clear x92;have HB5:=hid x91;clear x91;clear  HB4 xu c6 c7 c8 d0 d5 d6 p0 p1 p2 p3 p4 p5 p6 f0 f1 f2 f3 f4 f5 f6;obtain ⟨c6,c7,c8,d0,d5,d6⟩:=HC.o _ QL.o;obtain ⟨⟨p0,p1,p2,p3,p4,p5,p6⟩,f0,f1,f2,f3,f4,f5,f6⟩:=jy HB5.o;go_upto_if 61 with fail
      go_cut [9] (fun c wx=>c = .int .i64 0/\dX wx t8 #[.int .i64 F3,.int .u64 0,.string ⟨old.ax.toArray⟩,.int .i64 old.dY,.int .i64 now,.int .i64 E,.int .i64 R]/\W0.grownBy wx none)
      case first=>
       have hq:=HQ4.o;cases o4 with
       | true=>
        rw[eE] at hq;have hp:=cg.1 hq;clear hq;go_wp2_with fail;clear p0 p1 p2 p3 p4 p5 p6 f0 f1 f2 f3 f4 f5 f6;go_region_held3 (fun w'=>w'.cell? ⟨w.heap.size,7,none⟩=some (.int .i64 bV)/\w'.cell? ⟨w.heap.size+1,6,none⟩=some (.int .i64 old.aD)) (go_keep) (first|(go_at_call 181;refine (HR.o _ (bD QL.o)).mono ?_;rintro e w1 ⟨rfl,m,hw1⟩;have ZM:Hid (dX w1 t8 #[.int .i64 F3,.int .u64 0,.string ⟨old.ax.toArray⟩,.int .i64 old.dY,.int .i64 now,.int .i64 E,.int .i64 0]):=(by rw[hw1];exact HB5.o.drew.drewN m);have Nk:Hid (W0.grownBy w1 none):=(by rw[hw1];exact aY (bD QL.o) m);clear hw1;obtain ⟨c6',c7',c8',d0',d5',d6'⟩:=HC.o w1 Nk.o;obtain ⟨⟨p0,p1,p2,p3,p4,p5,p6⟩,f0,f1,f2,f3,f4,f5,f6⟩:=jy ZM.o));go_wp2;go_meet;exact ⟨rfl,by rw[HD2.o];exact ZM.o.set 6 (.int .i64 (min old.aD e1)),az Nk.o afF⟩
       | false=>
        rw[en] at hq;have hp:=cL.1 hq;clear hq;go_wp2;go_meet;exact ⟨rfl,by rw[HD2.o];exact HB5.o,QL.o⟩
      case rest=>
       obtain ⟨rfl,x91,x92⟩:=hcut;have Nk:=hid x92;clear x92;have ZM:=hid x91;clear x91;clear  HB5 QL c6 c7 c8 d0 d5 d6 p0 p1 p2 p3 p4 p5 p6 f0 f1 f2 f3 f4 f5 f6;obtain ⟨⟨p0,p1,p2,p3,p4,p5,p6⟩,f0,f1,f2,f3,f4,f5,f6⟩:=jy ZM.o;go_wp2_with fail;have B7:=((((((ZM.o.set 0 (.int .i64 F3)).set 1 (.int .u64 0)).set 2 (.string ⟨old.ax.toArray⟩)).set 3 (.int .i64 old.dY)).set 4 (.int .i64 now)).set 5 (.int .i64 E)).set 6 (.int .i64 R);refine bodyPost_ret (aJ results228 _ _ _ t8 rfl _ (B7.load 333 _ underlying333 rfl Tryz.iO)) rfl ⟨by rw[abj.o];rfl,?_⟩;refine aa uH.o ?_;repeat refine az ?_ afF
       exact Nk.o
theorem sK (b4 b5 b6 b7:Bool) (w:World) :
  Calls Tryz.prog 224 #[.int .u64 ((if b4=true then 16 else 0)+(if b5=true then 32 else 0)+(if b6=true then 64 else 0)+(if b7=true then 128 else 0))] w fun e w'=>e = .returned (.int .i64 ((if b4=true then 1 else 0)+(if b5=true then 1 else 0)+(if b6=true then 1 else 0)+(if b7=true then 1 else 0)))/\w'=w:=by
 cases b4 <;> cases b5 <;> cases b6 <;> cases b7
 all_goals
  simp only[ez,eC,fh,Int.add_zero,Int.zero_add]
  go_enter Tryz.func224,Tryz.ntmps224
  go_wp2
  go_ret
  exact ⟨bE afv,rfl⟩
theorem Nl (o f:Int) (h:¬ (0<=o/\o<256/\aG o 8=false)):jI o f=false:=by
 unfold jI;rw[if_pos];rcases Bool.eq_false_or_eq_true (aG o 8) with h8 | h8
 ·exact .inr (.inr h8)
 ·by_cases h0:o<0
  ·exact .inl h0
  ·exact .inr (.inl (by
    by_cases h1:o<256
    ·exact absurd ⟨by omega,h1,h8⟩ h
    ·omega))
theorem Kj (o f:Int) (h:0<=o/\o<256/\aG o 8=false):jI o f=if 1<rH o\/aG o 32=true/\o≠32 then false
  else if aG o 16=true/\aG f 4=false\/aG o 64=true/\aG f 1=false\/aG o 128=true/\aG f 2=false then false else !aG o 32 || aG f 16:=by
 unfold jI
 rw[if_neg]
 rintro (e | e | e)
 ·omega
 ·omega
 ·rw[h.2.2] at e;cases e
theorem abk (o:Int) (h:0<=o/\o<256/\aG o 8=false) (h4:aG o 16=false) (h5:aG o 32=true) (h6:aG o 64=false) (h7:aG o 128=false):(bits .and .i64 o 7==0)=decide (o=32):=by
 rw[and7];obtain ⟨h0,h1,h8⟩:=h;unfold aG at *;simp only[gd,eL] at *;rw[Bool.eq_iff_iff];simp only[ej,Bool.not_eq_true',gd,eL];omega
def UJ (b4 b5 b6 b7 no7:Bool) (f:Int):Bool:=
 if 1<(if b4=true then 1 else 0)+(if b5=true then 1 else 0)+(if b6=true then 1 else 0)+(if b7=true then (1:Int) else 0) then false
 else if b4=true then aG f 4 else if b5=true then no7 && aG f 16 else if b6=true then aG f 1 else if b7=true then aG f 2 else true
theorem acS {p:Prop} (h:p:=by
 cases b4 <;> cases b5 <;> cases b6 <;> cases b7 <;> simp[UJ] at * <;> first | done|(cases aG f 4 <;> rfl)|(cases aG f 1 <;> rfl)|(cases aG f 2 <;> rfl) | simp[h3]):p:=h
theorem Yu (o f:Int) (h:0<=o/\o<256/\aG o 8=false):jI o f=UJ (aG o 16) (aG o 32) (aG o 64) (aG o 128) (bits .and .i64 o 7==0) f:=by
 have h3:=abk o h;rw[Kj o f h];unfold rH;generalize (bits .and .i64 o 7==0)=n7 at *;generalize aG o 16=b4 at *;generalize aG o 32=b5 at *;generalize aG o 64=b6 at *;generalize aG o 128=b7 at *;by_cases h32:o=32
 ·simp only[h32,ne_eq,not_true,and_false,or_false,decide_true] at *;exact acS
 ·simp only[h32,ne_eq,not_false_eq_true,and_true,decide_false] at *;exact acS
def rD (now aC:Int) (q:FQ) (x s:BE):Bool:=if aG q.aL 8=true then (x.has 16 && s.has 16) else !decide (aX now aC<q.kX)
theorem QS (hb g pb:Nat) (now aC pn:Int) (v:Value) (q:FQ) (x s:BE) (w:World) (c3:w.cell? ⟨hb,3,none⟩=some (.pointer (some ⟨g,0,none⟩))) (c4:w.cell? ⟨hb,4,none⟩=some (.int .i64 now)) (cs:w.cell? ⟨g,0,none⟩=some (.int .i64 aC)) (dm:In64 now) (hsk:In64 aC) (hp:fB w pb x s) :
  Calls prog 177 #[.pointer (some ⟨hb,0,none⟩),.pointer (some ⟨pb,0,none⟩),.agg (q.cells pn v).toArray] w fun e w'=>e = .returned (.tuple #[.int .i64 (bH now q),.bool (rD now aC q x s)])/\w.grownBy w' none:=by
 obtain ⟨W0,hW0⟩:=ar (w.alloc (.cells (q.cells pn v).toArray 269))
 have G0:w.grownBy W0 none:=by rw[hW0];exact aE w _ none
 have R0:W0.rangeAt w.heap.size 0 (q.cells pn v):=by rw[hW0];exact aW w (q.cells pn v).toArray _
 have r3:W0.cell? ⟨w.heap.size,3,none⟩=some (.int .i64 q.kX):=R0 3 _ rfl
 have r6:W0.cell? ⟨w.heap.size,6,none⟩=some (.int .i64 q.aL):=R0 6 _ rfl
 have k4:=G0.cell c4 aft
 have HA:=hid (fun nq=>Ng pb x s 16 4 W0 nq afq afq (hp.grown G0))
 have HB:=hid (fun nq=>QK hb g now aC q.kX W0 nq (G0.cell c3 aft) k4 (G0.cell cs aft) dm hsk)
 have HG:=hid G0
 have HW0:=hid hW0
 have hq:=jQ q.aL 8 3 afq afq
 unfold bH rD
 clear G0 hW0 R0 c3 c4 cs dm hsk hp
 generalize aG q.aL 8=b1 at *
 generalize (x.has 16 && s.has 16)=b2 at *
 generalize aX now aC=sk at *
 cases b1 with
 | true=>
  rw[eE] at hq;have hp:=cg.1 hq;clear hq;go_enter func177,ntmps177;go_wp2_with (rw[<-HW0.o];fail_if_success done)
  go_quiet (first|(go_at_call 213;exact HA.o _))
  go_wp2;go_ret2;exact ⟨rfl,aY HG.o _⟩
 | false=>
  rw[en] at hq;have hp:=cL.1 hq;clear hq;go_enter func177,ntmps177;go_wp2_with (rw[<-HW0.o];fail_if_success done)
  go_quiet (first|(go_at_call 186;exact HB.o _))
  go_wp2;go_ret2;exact ⟨rfl,aY HG.o _⟩
def jc (q:NQ):Bool:=(aG q.aL 16 || aG q.aL 32) && decide (q.fo=q.aV)
theorem Df (v u:Value) (q:NQ) (w:World) :
  Calls prog 218 #[.agg (q.cells v u).toArray] w fun e w'=>e = .returned (.bool (jc q))/\w.grownBy w' none:=by
 obtain ⟨W0,hW0⟩:=ar (w.alloc (.cells (q.cells v u).toArray 276))
 have G0:w.grownBy W0 none:=by rw[hW0];exact aE w _ none
 have R0:W0.rangeAt w.heap.size 0 (q.cells v u):=by rw[hW0];exact aW w (q.cells v u).toArray _
 have r0:W0.cell? ⟨w.heap.size,0,none⟩=some (.string ⟨q.fo.toArray⟩):=R0 0 _ rfl
 have r4:W0.cell? ⟨w.heap.size,4,none⟩=some (.string ⟨q.aV.toArray⟩):=R0 4 _ rfl
 have r8:W0.cell? ⟨w.heap.size,8,none⟩=some (.int .i64 q.aL):=R0 8 _ rfl
 have HG:=hid G0
 have HW0:=hid hW0
 have hq:=aeh q.aL
 have HE:Hid (jc q=((aG q.aL 16 || aG q.aL 32) && decide (q.fo=q.aV))):=rfl
 generalize jc q=sb at *
 have h2:(!aG q.aL 16 && !aG q.aL 32)=!(aG q.aL 16 || aG q.aL 32):=by simp
 rw[h2] at hq
 clear G0 hW0 R0 h2
 generalize (aG q.aL 16 || aG q.aL 32)=b1 at *
 cases b1 with
 | true=>
  rw[eE] at hq;have hp:=cg.1 hq;clear hq;go_enter func218,ntmps218;go_wp2_with (rw[<-HW0.o];fail_if_success done)
  go_wp2;go_ret;exact ⟨fK (by rw[HE.o,show (bits .and .i64 q.aL 48 != 0)=true from by simpa using hp];simp[Bool.beq_eq_decide_eq]),HG.o⟩
 | false=>
  rw[en] at hq;have hp:=cL.1 hq;clear hq;go_enter func218,ntmps218;go_wp2_with (rw[<-HW0.o];fail_if_success done)
  go_wp2;go_ret;exact ⟨fK (by rw[HE.o];simp),HG.o⟩
end Go.Proofs.YteknelimjfgmaaaGreatDoor
