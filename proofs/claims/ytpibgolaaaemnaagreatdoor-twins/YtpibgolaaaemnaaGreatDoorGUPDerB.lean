/-
  
  
  
  
-/
import Derived.Test.YtpibgolaaaemnaaGreatDoorGUPFindA
import Derived.Deep.CutBlock
namespace Go.Proofs.YtpibgolaaaemnaaGreatDoor
open Go.RowKit
set_option maxRecDepth 100000
theorem iG {w:World} {b:Nat} {v0 v1 v2 v3 v4 v5 v6:Value} (h:bI w b #[v0,v1,v2,v3,v4,v5,v6]):(w.cell? ⟨b,0,none⟩=some v0∧w.cell? ⟨b,1,none⟩=some v1∧w.cell? ⟨b,2,none⟩=some v2∧w.cell? ⟨b,3,none⟩=some v3∧w.cell? ⟨b,4,none⟩=some v4∧w.cell? ⟨b,5,none⟩=some v5∧w.cell? ⟨b,6,none⟩=some v6)∧w.frozen? ⟨b,0,none⟩=false∧w.frozen? ⟨b,1,none⟩=false∧w.frozen? ⟨b,2,none⟩=false∧w.frozen? ⟨b,3,none⟩=false∧w.frozen? ⟨b,4,none⟩=false∧w.frozen? ⟨b,5,none⟩=false∧w.frozen? ⟨b,6,none⟩=false:=
 ⟨⟨h.cell 0,h.cell 1,h.cell 2,h.cell 3,h.cell 4,h.cell 5,h.cell 6⟩,h.frozen 0,h.frozen 1,h.frozen 2,h.frozen 3,h.frozen 4,h.frozen 5,h.frozen 6⟩
def Fj (now:Int) (q:NQ) (old:TK) (x s:BE):Int:=min old.fin (lesser (asked q.dF) (lesser (aX now x.cO) (aX now s.cO)))
def Ld (now:Int) (q:NQ) (old:TK) (x s:BE):Int:=if aA (rG q.aJ old x s) 4=true then min old.aF (lesser (asked q.bQ) (lesser (aX now x.aF) (aX now s.aF))) else 0
def Le (now:Int) (q:NQ) (old:TK) (x s:BE):Except Int TK:=if Fj now q old x s≤now then .error 11 else .ok ⟨rG q.aJ old x s,0,old.af,old.eH,now,Fj now q old x s,Ld now q old x s⟩
set_option maxHeartbeats 1000000 in
theorem II (pb:Nat) (now:Int) (q:NQ) (v u:Value) (old:TK) (x s:BE) (w:World) (hp:dZ w pb x s) (dC:In64 now) (hxl:In64 x.cO) (hsl:In64 s.cO) (Y8:In64 x.aF) (Y9:In64 s.aF) :
  Calls Tryz.prog 141 #[.pointer (some ⟨pb,0,none⟩),.int .i64 now,.agg (q.cells v u).toArray,.agg old.cells.toArray] w fun e w'=>e = .returned (oq (Le now q old x s))∧w.grownBy w' none:=by
 obtain ⟨W0,hW0⟩:∃ W,W=(w.alloc (.cells (q.cells v u).toArray 168)).alloc (.cells old.cells.toArray 211):=⟨_,rfl⟩
 have G0:w.grownBy W0 none:=by rw[hW0];exact aC (World.grownBy_alloc w _ none) _
 have RQ:W0.rangeAt w.heap.size 0 (q.cells v u):=by rw[hW0];exact fH (aQ w (q.cells v u).toArray _) (World.grownBy_alloc _ _ none)
 have RT:W0.rangeAt (w.heap.size+1) 0 old.cells:=by
  have h:=aQ (w.alloc (.cells (q.cells v u).toArray 168)) old.cells.toArray 211
  rw[World.size_alloc] at h
  rw[hW0]
  exact h
 have s0:W0.heap.size=w.heap.size+1+1:=by rw[hW0];simp only[World.size_alloc]
 obtain ⟨t8,ht8⟩:∃ t,t=W0.heap.size:=⟨_,rfl⟩
 obtain ⟨W1,hW1⟩:∃ W,W=W0.alloc (.cells #[.int .i64 0,.int .u64 0,.string ⟨old.af.toArray⟩,.int .i64 old.eH,.int .i64 now,.int .i64 0,.int .i64 0] 211):=⟨_,rfl⟩
 have B1:bI W1 t8 #[.int .i64 0,.int .u64 0,.string ⟨old.af.toArray⟩,.int .i64 old.eH,.int .i64 now,.int .i64 0,.int .i64 0]:=by rw[hW1,ht8];exact bI.new _ _ _
 have G1:W0.grownBy W1 none:=by rw[hW1];exact World.grownBy_alloc _ _ none
 have HP:Hid (∀ W,W0.grownBy W none→dZ W pb x s):=fun W hW=>hp.grown (ae G0 hW)
 have HC:Hid (∀ W,W0.grownBy W none→W.cell? ⟨w.heap.size,6,none⟩=some (.int .i64 q.dF)∧W.cell? ⟨w.heap.size,7,none⟩=some (.int .i64 q.bQ)∧W.cell? ⟨w.heap.size,8,none⟩=some (.int .i64 q.aJ)∧W.cell? ⟨w.heap.size+1,0,none⟩=some (.int .i64 old.ay)∧W.cell? ⟨w.heap.size+1,5,none⟩=some (.int .i64 old.fin)∧W.cell? ⟨w.heap.size+1,6,none⟩=some (.int .i64 old.aF)):=
  fun W hW=>⟨hW.cell (RQ 6 _ rfl) (by simp),hW.cell (RQ 7 _ rfl) (by simp),hW.cell (RQ 8 _ rfl) (by simp),hW.cell (RT 0 _ rfl) (by simp),hW.cell (RT 5 _ rfl) (by simp),hW.cell (RT 6 _ rfl) (by simp)⟩
 have r2:W0.cell? ⟨w.heap.size+1,2,none⟩=some (.string ⟨old.af.toArray⟩):=RT 2 _ rfl
 have r3:W0.cell? ⟨w.heap.size+1,3,none⟩=some (.int .i64 old.eH):=RT 3 _ rfl
 have gz:=World.grownBy_alloc W0 (.cells ik 211) none
 have z2:=gz.cell r2 (by simp)
 have z3:=gz.cell r3 (by simp)
 have HE:Hid (∀ W,W0.grownBy W none→Calls Tryz.prog 92 #[.pointer (some ⟨pb,0,none⟩),.int .i64 now,.int .i64 q.dF] W fun r w'=>r = .returned (.int .i64 (lesser (asked q.dF) (lesser (aX now x.cO) (aX now s.cO))))∧∃ m,w'=W.drewN m):=fun W hW=>H9 pb x s now q.dF W (HP.out W hW) dC hxl hsl
 have HR:Hid (∀ W,W0.grownBy W none→Calls Tryz.prog 95 #[.pointer (some ⟨pb,0,none⟩),.int .i64 now,.int .i64 q.bQ] W fun r w'=>r = .returned (.int .i64 (lesser (asked q.bQ) (lesser (aX now x.aF) (aX now s.aF))))∧∃ m,w'=W.drewN m):=fun W hW=>AQ pb x s now q.bQ W (HP.out W hW) dC Y8 Y9
 have HAl:Hid (∀ W,W0.grownBy W none→Calls Tryz.prog 128 #[.pointer (some ⟨pb,0,none⟩),.int .i64 (bits .and .i64 q.aJ old.ay)] W fun r w'=>r = .returned (.int .i64 (iA (bits .and .i64 q.aJ old.ay) x s))∧W.grownBy w' none):=fun W hW=>yK pb x s _ W (HP.out W hW)
 have HD1:Hid (Fj now q old x s=min old.fin (lesser (asked q.dF) (lesser (aX now x.cO) (aX now s.cO)))):=rfl
 have HD2:Hid (Ld now q old x s=if aA (rG q.aJ old x s) 4=true then min old.aF (lesser (asked q.bQ) (lesser (aX now x.aF) (aX now s.aF))) else 0):=rfl
 have XD:Hid (Bl q.aJ old x s=bits .or .i64 (bits .and .i64 old.ay 448) (iA (bits .and .i64 q.aJ old.ay) x s)):=rfl
 have yG:Hid (Bn q.aJ old x s=if aA q.aJ 64=true then bits .or .i64 (Bl q.aJ old x s) 128 else Bl q.aJ old x s):=rfl
 have HF3:Hid (rG q.aJ old x s=if aA q.aJ 128=true then bits .or .i64 (Bn q.aJ old x s) 256 else Bn q.aJ old x s):=rfl
 have HQ6:=hid (ji q.aJ 64 6 (by decide) (by decide))
 have HQ7:=hid (ji q.aJ 128 7 (by decide) (by decide))
 have HQ4:=hid (ji (rG q.aJ old x s) 4 2 (by decide) (by decide))
 unfold Le
 generalize lesser (asked q.dF) (lesser (aX now x.cO) (aX now s.cO))=e0 at *
 generalize lesser (asked q.bQ) (lesser (aX now x.aF) (aX now s.aF))=e1 at *
 generalize iA (bits .and .i64 q.aJ old.ay) x s=al at *
 generalize Fj now q old x s=E at *
 generalize Ld now q old x s=R at *
 generalize Bl q.aJ old x s=F1 at *
 generalize Bn q.aJ old x s=F2 at *
 generalize rG q.aJ old x s=F3 at *
 generalize aA q.aJ 64=o6 at *
 generalize aA q.aJ 128=o7 at *
 generalize aA F3 4=o4 at *
 obtain ⟨dF,Sw⟩:∃ a,q.dF=a:=⟨_,rfl⟩
 obtain ⟨bQ,hrtime⟩:∃ a,q.bQ=a:=⟨_,rfl⟩
 obtain ⟨aJ,Sy⟩:∃ a,q.aJ=a:=⟨_,rfl⟩
 rw[Sw] at HE
 rw[hrtime] at HR
 rw[Sy] at HAl HQ6 HQ7
 rw[Sw,hrtime,Sy] at HC
 obtain ⟨qc,hqc⟩:∃ c,(q.cells v u).toArray=c:=⟨_,rfl⟩
 obtain ⟨oc,hoc⟩:∃ c,old.cells.toArray=c:=⟨_,rfl⟩
 rw[hqc,hoc] at hW0
 rw[hqc,hoc]
 obtain ⟨mv,hmv⟩:∃ m,oq (if E≤now then .error 11 else .ok ⟨F3,0,old.af,old.eH,now,E,R⟩)=m:=⟨_,rfl⟩
 rw[hmv]
 have HMV:=hid hmv
 clear hmv
 have n1:t8≠w.heap.size:=by omega
 have n2:t8≠w.heap.size+1:=by omega
 have mD:=hid G0
 have nH:=hid G1
 have HB1:=hid B1
 have HW0:=hid hW0
 have HW1:=hid hW1
 have JY:=hid ht8
 have F6:=hid s0
 clear G0 G1 B1 hW0 hW1 ht8 s0 hp dC hxl hsl Y8 Y9 RQ RT gz Sw hrtime Sy hqc hoc
 go_enter Tryz.func141,Tryz.ntmps141
 go_wp2_with (rw[←HW0.out];fail_if_success done)
 rw[←HW1.out,←JY.out]
 go_cut [9] (fun c wx=>c = .int .i64 0∧bI wx t8 #[.int .i64 0,.int .u64 0,.string ⟨old.af.toArray⟩,.int .i64 old.eH,.int .i64 now,.int .i64 E,.int .i64 0]∧W0.grownBy wx none)
 case first=>
  obtain ⟨c6,c7,c8,d0,d5,d6⟩:=HC.out W1 nH.out
  go_region_held3 (fun w'=>w'.cell? ⟨w.heap.size,6,none⟩=some (.int .i64 dF)∧w'.cell? ⟨w.heap.size+1,5,none⟩=some (.int .i64 old.fin)) (go_keep) (first|(go_at_call 92;refine (HE.out _ (dA nH.out)).mono ?_;rintro e w1 ⟨rfl,m,hw1⟩;have HB2:Hid (bI w1 t8 #[.int .i64 0,.int .u64 0,.string ⟨old.af.toArray⟩,.int .i64 old.eH,.int .i64 now,.int .i64 0,.int .i64 0]):=(by rw[hw1];exact HB1.out.drew.drewN m);have HG2:Hid (W0.grownBy w1 none):=(by rw[hw1];exact aO (dA nH.out) m);clear hw1;obtain ⟨c6',c7',c8',d0',d5',d6'⟩:=HC.out w1 HG2.out;obtain ⟨⟨p0,p1,p2,p3,p4,p5,p6⟩,f0,f1,f2,f3,f4,f5,f6⟩:=iG HB2.out))
  go_wp2
  go_meet
  exact ⟨rfl,by rw[HD1.out];exact HB2.out.set 5 (.int .i64 (min old.fin e0)),aK HG2.out (by rw[JY.out];exact Nat.le_refl _)⟩
 case rest=>
  obtain ⟨rfl,B2,g2⟩:=hcut
  have HB2:=hid B2
  have HG2:=hid g2
  clear B2 g2
  obtain ⟨c6,c7,c8,d0,d5,d6⟩:=HC.out _ HG2.out
  obtain ⟨⟨p0,p1,p2,p3,p4,p5,p6⟩,f0,f1,f2,f3,f4,f5,f6⟩:=iG HB2.out
  by_cases hE:E≤now
  ·have Za:Hid (mv=oq (.error 11)):=by rw[←HMV.out,if_pos hE];exact rfl
   go_wp2_with fail
   have B7:=((((((HB2.out.set 0 (.int .i64 0)).set 1 (.int .u64 0)).set 2 (.string ⟨#[]⟩)).set 3 (.int .i64 0)).set 4 (.int .i64 0)).set 5 (.int .i64 0)).set 6 (.int .i64 0)
   refine bodyPost_ret (aD Tryz.results141 _ _ _ t8 rfl _ (B7.load 211 _ Tryz.underlying211 rfl Tryz.gX)) rfl ⟨by rw[Za.out];rfl,?_⟩
   refine ae mD.out ?_
   repeat refine aK ?_ (by rw[JY.out];exact Nat.le_refl _)
   exact HG2.out
  ·have Za:Hid (mv=oq (.ok ⟨F3,0,old.af,old.eH,now,E,R⟩)):=by rw[←HMV.out,if_neg hE];exact rfl
   clear HMV
   go_wp2_with fail
   go_cut [9] (fun c wx=>c = .int .i64 0∧bI wx t8 #[.int .i64 F1,.int .u64 0,.string ⟨old.af.toArray⟩,.int .i64 old.eH,.int .i64 now,.int .i64 E,.int .i64 0]∧W0.grownBy wx none)
   case first=>
    clear p0 p1 p2 p3 p4 p5 p6 f0 f1 f2 f3 f4 f5 f6
    go_region_held3 (fun w'=>w'.cell? ⟨w.heap.size,8,none⟩=some (.int .i64 aJ)∧w'.cell? ⟨w.heap.size+1,0,none⟩=some (.int .i64 old.ay)) (go_keep) (first|(go_at_call 128;refine (HAl.out _ (dA HG2.out)).mono ?_;rintro e w1 ⟨rfl,g1⟩;have HB3:Hid (bI w1 t8 #[.int .i64 0,.int .u64 0,.string ⟨old.af.toArray⟩,.int .i64 old.eH,.int .i64 now,.int .i64 E,.int .i64 0]):=HB2.out.drew.grown g1 (by simp);have rU:Hid (W0.grownBy w1 none):=ae (dA HG2.out) g1;clear g1;obtain ⟨c6',c7',c8',d0',d5',d6'⟩:=HC.out w1 rU.out;obtain ⟨⟨p0,p1,p2,p3,p4,p5,p6⟩,f0,f1,f2,f3,f4,f5,f6⟩:=iG HB3.out))
    go_wp2
    go_meet
    exact ⟨rfl,by rw[XD.out];exact HB3.out.set 0 (.int .i64 (bits .or .i64 (bits .and .i64 old.ay 448) al)),aK rU.out (by rw[JY.out];exact Nat.le_refl _)⟩
   case rest=>
    obtain ⟨rfl,B3,g3⟩:=hcut
    have HB3:=hid B3
    have rU:=hid g3
    clear B3 g3 HB2 HG2 c6 c7 c8 d0 d5 d6 p0 p1 p2 p3 p4 p5 p6 f0 f1 f2 f3 f4 f5 f6
    obtain ⟨c6,c7,c8,d0,d5,d6⟩:=HC.out _ rU.out
    obtain ⟨⟨p0,p1,p2,p3,p4,p5,p6⟩,f0,f1,f2,f3,f4,f5,f6⟩:=iG HB3.out
    go_upto_if 45 with fail
    go_cut [9] (fun c wx=>c = .int .i64 0∧bI wx t8 #[.int .i64 F2,.int .u64 0,.string ⟨old.af.toArray⟩,.int .i64 old.eH,.int .i64 now,.int .i64 E,.int .i64 0]∧W0.grownBy wx none)
    case first=>
     have hq:=HQ6.out
     cases o6 with
     | true=>
      rw[Bool.not_true] at hq
      have hp:=beq_eq_false_iff_ne.1 hq
      clear hq
      go_wp2
      go_meet
      exact ⟨rfl,by rw[yG.out];exact HB3.out.set 0 (.int .i64 (bits .or .i64 F1 128)),aK rU.out (by rw[JY.out];exact Nat.le_refl _)⟩
     | false=>
      rw[Bool.not_false] at hq
      have hp:=beq_iff_eq.1 hq
      clear hq
      go_wp2
      go_meet
      exact ⟨rfl,by rw[yG.out];exact HB3.out,rU.out⟩
    case rest=>
     obtain ⟨rfl,B4,g4⟩:=hcut
     have Sz:=hid B4
     have vS:=hid g4
     clear B4 g4 HB3 rU c6 c7 c8 d0 d5 d6 p0 p1 p2 p3 p4 p5 p6 f0 f1 f2 f3 f4 f5 f6
     obtain ⟨c6,c7,c8,d0,d5,d6⟩:=HC.out _ vS.out
     obtain ⟨⟨p0,p1,p2,p3,p4,p5,p6⟩,f0,f1,f2,f3,f4,f5,f6⟩:=iG Sz.out
     go_upto_if 53 with fail
     go_cut [9] (fun c wx=>c = .int .i64 0∧bI wx t8 #[.int .i64 F3,.int .u64 0,.string ⟨old.af.toArray⟩,.int .i64 old.eH,.int .i64 now,.int .i64 E,.int .i64 0]∧W0.grownBy wx none)
     case first=>
      have hq:=HQ7.out
      cases o7 with
      | true=>
       rw[Bool.not_true] at hq
       have hp:=beq_eq_false_iff_ne.1 hq
       clear hq
       go_wp2
       go_meet
       exact ⟨rfl,by rw[HF3.out];exact Sz.out.set 0 (.int .i64 (bits .or .i64 F2 256)),aK vS.out (by rw[JY.out];exact Nat.le_refl _)⟩
      | false=>
       rw[Bool.not_false] at hq
       have hp:=beq_iff_eq.1 hq
       clear hq
       go_wp2
       go_meet
       exact ⟨rfl,by rw[HF3.out];exact Sz.out,vS.out⟩
     case rest=>
      obtain ⟨rfl,B5,g5⟩:=hcut
      have HB5:=hid B5
      have SA:=hid g5
      clear B5 g5 Sz vS c6 c7 c8 d0 d5 d6 p0 p1 p2 p3 p4 p5 p6 f0 f1 f2 f3 f4 f5 f6
      obtain ⟨c6,c7,c8,d0,d5,d6⟩:=HC.out _ SA.out
      obtain ⟨⟨p0,p1,p2,p3,p4,p5,p6⟩,f0,f1,f2,f3,f4,f5,f6⟩:=iG HB5.out
      go_upto_if 61 with fail
      go_cut [9] (fun c wx=>c = .int .i64 0∧bI wx t8 #[.int .i64 F3,.int .u64 0,.string ⟨old.af.toArray⟩,.int .i64 old.eH,.int .i64 now,.int .i64 E,.int .i64 R]∧W0.grownBy wx none)
      case first=>
       have hq:=HQ4.out
       cases o4 with
       | true=>
        rw[Bool.not_true] at hq
        have hp:=beq_eq_false_iff_ne.1 hq
        clear hq
        go_wp2_with fail
        clear p0 p1 p2 p3 p4 p5 p6 f0 f1 f2 f3 f4 f5 f6
        go_region_held3 (fun w'=>w'.cell? ⟨w.heap.size,7,none⟩=some (.int .i64 bQ)∧w'.cell? ⟨w.heap.size+1,6,none⟩=some (.int .i64 old.aF)) (go_keep) (first|(go_at_call 95;refine (HR.out _ (dA SA.out)).mono ?_;rintro e w1 ⟨rfl,m,hw1⟩;have Wn:Hid (bI w1 t8 #[.int .i64 F3,.int .u64 0,.string ⟨old.af.toArray⟩,.int .i64 old.eH,.int .i64 now,.int .i64 E,.int .i64 0]):=(by rw[hw1];exact HB5.out.drew.drewN m);have HG6:Hid (W0.grownBy w1 none):=(by rw[hw1];exact aO (dA SA.out) m);clear hw1;obtain ⟨c6',c7',c8',d0',d5',d6'⟩:=HC.out w1 HG6.out;obtain ⟨⟨p0,p1,p2,p3,p4,p5,p6⟩,f0,f1,f2,f3,f4,f5,f6⟩:=iG Wn.out))
        go_wp2
        go_meet
        exact ⟨rfl,by rw[HD2.out];exact Wn.out.set 6 (.int .i64 (min old.aF e1)),aK HG6.out (by rw[JY.out];exact Nat.le_refl _)⟩
       | false=>
        rw[Bool.not_false] at hq
        have hp:=beq_iff_eq.1 hq
        clear hq
        go_wp2
        go_meet
        exact ⟨rfl,by rw[HD2.out];exact HB5.out,SA.out⟩
      case rest=>
       obtain ⟨rfl,B6,g6⟩:=hcut
       have Wn:=hid B6
       have HG6:=hid g6
       clear B6 g6 HB5 SA c6 c7 c8 d0 d5 d6 p0 p1 p2 p3 p4 p5 p6 f0 f1 f2 f3 f4 f5 f6
       obtain ⟨⟨p0,p1,p2,p3,p4,p5,p6⟩,f0,f1,f2,f3,f4,f5,f6⟩:=iG Wn.out
       go_wp2_with fail
       have B7:=((((((Wn.out.set 0 (.int .i64 F3)).set 1 (.int .u64 0)).set 2 (.string ⟨old.af.toArray⟩)).set 3 (.int .i64 old.eH)).set 4 (.int .i64 now)).set 5 (.int .i64 E)).set 6 (.int .i64 R)
       refine bodyPost_ret (aD Tryz.results141 _ _ _ t8 rfl _ (B7.load 211 _ Tryz.underlying211 rfl Tryz.gX)) rfl ⟨by rw[Za.out];rfl,?_⟩
       refine ae mD.out ?_
       repeat refine aK ?_ (by rw[JY.out];exact Nat.le_refl _)
       exact HG6.out
end Go.Proofs.YtpibgolaaaemnaaGreatDoor
namespace Go.Proofs.YtpibgolaaaemnaaGreatDoor
open Go.RowKit
set_option maxRecDepth 100000
theorem OQ (n:Int):bits .and .i64 n 240=(if aA n 16=true then 16 else 0)+(if aA n 32=true then 32 else 0)+(if aA n 64=true then 64 else 0)+(if aA n 128=true then 128 else 0):=RI n
theorem and_zero (n:Int):(bits .and .i64 n 0==0)=true:=by
 rw[beq_iff_eq]
 refine yJ (AY n 0) ⟨by decide,by decide⟩ (fun j hj=>?_)
 rw[ic n 0 j hj,kI,Bool.and_false]
set_option maxHeartbeats 400000 in
theorem OT (o f:Int) (w:World) (h:(bits .andNot .i64 o 247==0)=false) :
  Calls Tryz.prog 101 #[.int .i64 o,.int .i64 f] w fun e w'=>e = .returned (.bool false)∧w'=w:=by
 have hp:=beq_eq_false_iff_ne.1 h
 clear h
 go_enter Tryz.func101,Tryz.ntmps101
 go_wp2
 go_ret
 exact ⟨rfl,rfl⟩
set_option maxHeartbeats 400000 in
theorem Wp (o f:Int) (w:World) (h:(bits .andNot .i64 o 247==0)=true) (hw:bits .and .i64 o 240=0) :
  Calls Tryz.prog 101 #[.int .i64 o,.int .i64 f] w fun e w'=>e = .returned (.bool (true))∧w'=w:=by
 have hp:=beq_iff_eq.1 h
 clear h
 have HO:Hid (Calls Tryz.prog 137 #[.int .u64 0] w fun e w'=>e = .returned (.int .i64 0)∧w'=w):=pV false false false false w
 have HN:=hid (fe 0 w)
 have HM:=hid (fe 0 w)
 rw[show yH 0=0 from rfl] at HN HM
 have HF:=hid (and_zero f)
 go_enter Tryz.func101,Tryz.ntmps101
 go_wp2_with (first
  | (go_at_call 137;refine HO.out.mono ?_;clear HO;rintro e w1 ⟨rfl,rfl⟩)
  | (go_at_call 138;refine HN.out.mono ?_;clear HN;rintro e w1 ⟨rfl,rfl⟩)
  | (go_at_call 138;refine HM.out.mono ?_;clear HM;rintro e w1 ⟨rfl,rfl⟩))
 go_wp2
 go_ret
 exact ⟨iU HF.out,rfl⟩
set_option maxHeartbeats 400000 in
theorem SC (o f:Int) (w:World) (h:(bits .andNot .i64 o 247==0)=true) (hw:bits .and .i64 o 240=16) :
  Calls Tryz.prog 101 #[.int .i64 o,.int .i64 f] w fun e w'=>e = .returned (.bool (aA f 4))∧w'=w:=by
 have hp:=beq_iff_eq.1 h
 clear h
 have HO:Hid (Calls Tryz.prog 137 #[.int .u64 16] w fun e w'=>e = .returned (.int .i64 1)∧w'=w):=pV true false false false w
 have HN:=hid (fe 16 w)
 have HM:=hid (fe 16 w)
 rw[show yH 16=4 from rfl] at HN HM
 have HF:=hid (nE f 4 2 (by decide) (by decide))
 go_enter Tryz.func101,Tryz.ntmps101
 go_wp2_with (first
  | (go_at_call 137;refine HO.out.mono ?_;clear HO;rintro e w1 ⟨rfl,rfl⟩)
  | (go_at_call 138;refine HN.out.mono ?_;clear HN;rintro e w1 ⟨rfl,rfl⟩)
  | (go_at_call 138;refine HM.out.mono ?_;clear HM;rintro e w1 ⟨rfl,rfl⟩))
 go_wp2
 go_ret
 exact ⟨iU HF.out,rfl⟩
set_option maxHeartbeats 400000 in
theorem SE (o f:Int) (w:World) (h:(bits .andNot .i64 o 247==0)=true) (hw:bits .and .i64 o 240=64) :
  Calls Tryz.prog 101 #[.int .i64 o,.int .i64 f] w fun e w'=>e = .returned (.bool (aA f 1))∧w'=w:=by
 have hp:=beq_iff_eq.1 h
 clear h
 have HO:Hid (Calls Tryz.prog 137 #[.int .u64 64] w fun e w'=>e = .returned (.int .i64 1)∧w'=w):=pV false false true false w
 have HN:=hid (fe 64 w)
 have HM:=hid (fe 64 w)
 rw[show yH 64=1 from rfl] at HN HM
 have HF:=hid (nE f 1 0 (by decide) (by decide))
 go_enter Tryz.func101,Tryz.ntmps101
 go_wp2_with (first
  | (go_at_call 137;refine HO.out.mono ?_;clear HO;rintro e w1 ⟨rfl,rfl⟩)
  | (go_at_call 138;refine HN.out.mono ?_;clear HN;rintro e w1 ⟨rfl,rfl⟩)
  | (go_at_call 138;refine HM.out.mono ?_;clear HM;rintro e w1 ⟨rfl,rfl⟩))
 go_wp2
 go_ret
 exact ⟨iU HF.out,rfl⟩
set_option maxHeartbeats 400000 in
theorem OV (o f:Int) (w:World) (h:(bits .andNot .i64 o 247==0)=true) (hw:bits .and .i64 o 240=128) :
  Calls Tryz.prog 101 #[.int .i64 o,.int .i64 f] w fun e w'=>e = .returned (.bool (aA f 2))∧w'=w:=by
 have hp:=beq_iff_eq.1 h
 clear h
 have HO:Hid (Calls Tryz.prog 137 #[.int .u64 128] w fun e w'=>e = .returned (.int .i64 1)∧w'=w):=pV false false false true w
 have HN:=hid (fe 128 w)
 have HM:=hid (fe 128 w)
 rw[show yH 128=2 from rfl] at HN HM
 have HF:=hid (nE f 2 1 (by decide) (by decide))
 go_enter Tryz.func101,Tryz.ntmps101
 go_wp2_with (first
  | (go_at_call 137;refine HO.out.mono ?_;clear HO;rintro e w1 ⟨rfl,rfl⟩)
  | (go_at_call 138;refine HN.out.mono ?_;clear HN;rintro e w1 ⟨rfl,rfl⟩)
  | (go_at_call 138;refine HM.out.mono ?_;clear HM;rintro e w1 ⟨rfl,rfl⟩))
 go_wp2
 go_ret
 exact ⟨iU HF.out,rfl⟩
set_option maxHeartbeats 400000 in
theorem SF (o f:Int) (w:World) (h:(bits .andNot .i64 o 247==0)=true) (hw:bits .and .i64 o 240=32) :
  Calls Tryz.prog 101 #[.int .i64 o,.int .i64 f] w fun e w'=>e = .returned (.bool ((bits .and .i64 o 7==0) && aA f 16))∧w'=w:=by
 have hp:=beq_iff_eq.1 h
 clear h
 have HO:Hid (Calls Tryz.prog 137 #[.int .u64 32] w fun e w'=>e = .returned (.int .i64 1)∧w'=w):=pV false true false false w
 have HN:=hid (fe 32 w)
 have HM:=hid (fe 32 w)
 rw[show yH 32=16 from rfl] at HN HM
 have HF:=hid (nE f 16 4 (by decide) (by decide))
 by_cases h7:bits .and .i64 o 7=0
 ·rw[h7]
  go_enter Tryz.func101,Tryz.ntmps101
  go_wp2_with (first
   | (go_at_call 137;refine HO.out.mono ?_;clear HO;rintro e w1 ⟨rfl,rfl⟩)
   | (go_at_call 138;refine HN.out.mono ?_;clear HN;rintro e w1 ⟨rfl,rfl⟩)
   | (go_at_call 138;refine HM.out.mono ?_;clear HM;rintro e w1 ⟨rfl,rfl⟩))
  go_wp2
  go_ret
  exact ⟨iU HF.out,rfl⟩
 ·rw[beq_eq_false_iff_ne.2 h7,Bool.false_and]
  go_enter Tryz.func101,Tryz.ntmps101
  go_wp2_with (first
   | (go_at_call 137;refine HO.out.mono ?_;clear HO;rintro e w1 ⟨rfl,rfl⟩))
  go_wp2
  go_ret
  exact ⟨rfl,rfl⟩
set_option maxHeartbeats 400000 in
theorem Lg (o f:Int) (b4 b5 b6 b7:Bool) (w:World) (h:(bits .andNot .i64 o 247==0)=true) (hw:bits .and .i64 o 240=(if b4=true then 16 else 0)+(if b5=true then 32 else 0)+(if b6=true then 64 else 0)+(if b7=true then 128 else 0)) (hm:1<(if b4=true then 1 else 0)+(if b5=true then 1 else 0)+(if b6=true then 1 else 0)+(if b7=true then (1:Int) else 0)) :
  Calls Tryz.prog 101 #[.int .i64 o,.int .i64 f] w fun e w'=>e = .returned (.bool false)∧w'=w:=by
 have hp:=beq_iff_eq.1 h
 clear h
 have HO:=hid (pV b4 b5 b6 b7 w)
 obtain ⟨c,hc⟩:∃ c,(if b4=true then 1 else 0)+(if b5=true then 1 else 0)+(if b6=true then 1 else 0)+(if b7=true then (1:Int) else 0)=c:=⟨_,rfl⟩
 have hv:0≤(if b4=true then (16:Int) else 0)+(if b5=true then 32 else 0)+(if b6=true then 64 else 0)+(if b7=true then 128 else 0)∧(if b4=true then (16:Int) else 0)+(if b5=true then 32 else 0)+(if b6=true then 64 else 0)+(if b7=true then 128 else 0)≤240:=by
  cases b4 <;> cases b5 <;> cases b6 <;> cases b7 <;> decide
 rw[hc] at HO hm
 generalize (if b4=true then (16:Int) else 0)+(if b5=true then 32 else 0)+(if b6=true then 64 else 0)+(if b7=true then 128 else 0)=v at *
 clear hc
 obtain ⟨hv0,hv1⟩:=hv
 go_enter Tryz.func101,Tryz.ntmps101
 go_wp2_with (first
  | (go_at_call 137;refine HO.out.mono ?_;clear HO;rintro e w1 ⟨rfl,rfl⟩))
 go_wp2
 go_ret
 exact ⟨rfl,rfl⟩
theorem IK (o f:Int) (w:World) (ho:In64 o) :
  Calls Tryz.prog 101 #[.int .i64 o,.int .i64 f] w fun e w'=>e = .returned (.bool (ko o f))∧w'=w:=by
 have hA:=Ox o ho
 by_cases hg:0≤o∧o<256∧aA o 8=false
 ·rw[decide_eq_true hg] at hA
  rw[Wo o f hg]
  have hw:=OQ o
  by_cases hm:1<(if aA o 16=true then 1 else 0)+(if aA o 32=true then 1 else 0)+(if aA o 64=true then 1 else 0)+(if aA o 128=true then (1:Int) else 0)
  ·rw[SB,if_pos hm]
   exact Lg o f _ _ _ _ w hA hw hm
  ·rw[SB,if_neg hm]
   generalize aA o 16=b4 at *
   generalize aA o 32=b5 at *
   generalize aA o 64=b6 at *
   generalize aA o 128=b7 at *
   cases b4 with
   | true=>
    cases b5 with
    | true=>exact absurd (by cases b6 <;> cases b7 <;> decide) hm
    | false=>
     cases b6 with
     | true=>exact absurd (by cases b7 <;> decide) hm
     | false=>
      cases b7 with
      | true=>exact absurd (by decide) hm
      | false=>exact SC o f w hA hw
   | false=>
    cases b5 with
    | true=>
     cases b6 with
     | true=>exact absurd (by cases b7 <;> decide) hm
     | false=>
      cases b7 with
      | true=>exact absurd (by decide) hm
      | false=>exact SF o f w hA hw
    | false=>
     cases b6 with
     | true=>
      cases b7 with
      | true=>exact absurd (by decide) hm
      | false=>exact SE o f w hA hw
     | false=>
      cases b7 with
      | true=>exact OV o f w hA hw
      | false=>exact Wp o f w hA hw
 ·rw[decide_eq_false hg] at hA
  rw[Lf o f hg]
  exact OT o f w hA
end Go.Proofs.YtpibgolaaaemnaaGreatDoor
namespace Go.Proofs.YtpibgolaaaemnaaGreatDoor
open Go.RowKit
set_option maxRecDepth 100000
theorem lX (r:Except Int TK):∃ m0 m1 m2 m3 m4 m5 m6 m7,oq r = .tuple #[.agg #[.int .i64 m0,.int .u64 m1,.string m2,.int .i64 m3,.int .i64 m4,.int .i64 m5,.int .i64 m6],.int .i64 m7]:=by
 cases r with
 | error c=>exact ⟨_,_,_,_,_,_,_,_,rfl⟩
 | ok t=>exact ⟨_,_,_,_,_,_,_,_,rfl⟩
def lH (now:Int) (q:NQ) (old:TK) (x s:BE):Except Int TK:=if zg q.aJ=32 then vo now old else if zg q.aJ=16 then vw now old else Le now q old x s
structure TK.In (t:TK):Prop where
 ay:In64 t.ay
 eH:In64 t.eH
 start:In64 t.start
 fin:In64 t.fin
 aF:In64 t.aF
set_option maxHeartbeats 1000000 in
theorem OY (pb:Nat) (now:Int) (q:NQ) (v u:Value) (old:TK) (x s:BE) (w:World) (hp:dZ w pb x s) (dC:In64 now) (hxl:In64 x.cO) (hsl:In64 s.cO) (Y8:In64 x.aF) (Y9:In64 s.aF) (ho:old.In) :
  Calls Tryz.prog 102 #[.pointer (some ⟨pb,0,none⟩),.int .i64 now,.agg (q.cells v u).toArray,.agg old.cells.toArray] w fun e w'=>e = .returned (oq (lH now q old x s))∧w.grownBy w' none:=by
 obtain ⟨W0,hW0⟩:∃ W,W=(w.alloc (.cells (q.cells v u).toArray 168)).alloc (.cells old.cells.toArray 211):=⟨_,rfl⟩
 have G0:w.grownBy W0 none:=by rw[hW0];exact aC (World.grownBy_alloc w _ none) _
 have RQ:W0.rangeAt w.heap.size 0 (q.cells v u):=by rw[hW0];exact fH (aQ w (q.cells v u).toArray _) (World.grownBy_alloc _ _ none)
 have RT:W0.rangeAt (w.heap.size+1) 0 old.cells:=by
  have h:=aQ (w.alloc (.cells (q.cells v u).toArray 168)) old.cells.toArray 211
  rw[World.size_alloc] at h
  rw[hW0]
  exact h
 have s0:W0.heap.size=w.heap.size+1+1:=by rw[hW0];simp only[World.size_alloc]
 obtain ⟨W1,hW1⟩:∃ W,W=W0.alloc (.cells ik 211):=⟨_,rfl⟩
 have B1:bI W1 (w.heap.size+1+1) ik:=by rw[hW1,←s0];exact bI.new _ _ _
 have G1:W0.grownBy W1 none:=by rw[hW1];exact World.grownBy_alloc _ _ none
 have c8:=G1.cell (RQ 8 (.int .i64 q.aJ) rfl) (by simp)
 have Qt:=fH RQ G1
 have Vd:=fH RT G1
 have hp1:=hp.grown (ae G0 G1)
 have mD:=hid G0
 have nH:=hid G1
 have HB1:=hid B1
 have JY:Hid (w.heap.size+1+1=W0.heap.size):=s0.symm
 rw[hW0] at hW1
 have HW1:=hid hW1
 unfold lH
 rw[←RI]
 have e0:=Vd 0 _ rfl
 have e1:=Vd 1 _ rfl
 have e2:=Vd 2 _ rfl
 have e3:=Vd 3 _ rfl
 have e4:=Vd 4 _ rfl
 have e5:=Vd 5 _ rfl
 have e6:=Vd 6 _ rfl
 by_cases h32:bits .and .i64 q.aJ 240=32
 ·rw[if_pos h32]
  have HV:=hid (CL now old W1 ho.ay)
  obtain ⟨m0,m1,m2,m3,m4,m5,m6,m7,hm⟩:=lX (vo now old)
  rw[hm] at HV
  have Hm:=hid hm
  clear hm G0 G1 B1 hW0 hW1 RQ RT s0 hp dC hxl hsl Y8 Y9 ho Qt Vd hp1
  go_enter Tryz.func102,Tryz.ntmps102
  go_wp2_with (first
   | (rw[←HW1.out];fail_if_success done)
   | (go_at_call 139;refine HV.out.mono ?_;rintro e w1 ⟨rfl,g1⟩;have HB2:Hid (bI w1 (w.heap.size+1+1) ik):=HB1.out.grown g1 (by simp);have HG2:=hid (ae nH.out g1);clear g1;obtain ⟨⟨p0,p1,p2,p3,p4,p5,p6⟩,f0,f1,f2,f3,f4,f5,f6⟩:=iG HB2.out))
  have B7:=((((((HB2.out.set 0 (.int .i64 m0)).set 1 (.int .u64 m1)).set 2 (.string m2)).set 3 (.int .i64 m3)).set 4 (.int .i64 m4)).set 5 (.int .i64 m5)).set 6 (.int .i64 m6)
  refine bodyPost_ret (aD Tryz.results102 _ _ _ (w.heap.size+1+1) rfl _ (B7.load 211 _ Tryz.underlying211 rfl Tryz.gX)) rfl ⟨by rw[Hm.out];rfl,?_⟩
  refine ae mD.out ?_
  repeat refine aK ?_ (by rw[JY.out];exact Nat.le_refl _)
  exact HG2.out
 ·rw[if_neg h32]
  have b32:(bits .and .i64 q.aJ 240==32)=false:=beq_eq_false_iff_ne.2 h32
  by_cases h16:bits .and .i64 q.aJ 240=16
  ·rw[if_pos h16]
   have HV:=hid (IG now old W1 dC ho.start ho.fin)
   obtain ⟨m0,m1,m2,m3,m4,m5,m6,m7,hm⟩:=lX (vw now old)
   rw[hm] at HV
   have Hm:=hid hm
   clear hm G0 G1 B1 hW0 hW1 RQ RT s0 hp dC hxl hsl Y8 Y9 ho Qt Vd hp1
   go_enter Tryz.func102,Tryz.ntmps102
   go_wp2_with (first
    | (rw[←HW1.out];fail_if_success done)
    | (go_at_call 140;refine HV.out.mono ?_;rintro e w1 ⟨rfl,g1⟩;have HB2:Hid (bI w1 (w.heap.size+1+1) ik):=HB1.out.grown g1 (by simp);have HG2:=hid (ae nH.out g1);clear g1;obtain ⟨⟨p0,p1,p2,p3,p4,p5,p6⟩,f0,f1,f2,f3,f4,f5,f6⟩:=iG HB2.out))
   have B7:=((((((HB2.out.set 0 (.int .i64 m0)).set 1 (.int .u64 m1)).set 2 (.string m2)).set 3 (.int .i64 m3)).set 4 (.int .i64 m4)).set 5 (.int .i64 m5)).set 6 (.int .i64 m6)
   refine bodyPost_ret (aD Tryz.results102 _ _ _ (w.heap.size+1+1) rfl _ (B7.load 211 _ Tryz.underlying211 rfl Tryz.gX)) rfl ⟨by rw[Hm.out];rfl,?_⟩
   refine ae mD.out ?_
   repeat refine aK ?_ (by rw[JY.out];exact Nat.le_refl _)
   exact HG2.out
  ·rw[if_neg h16]
   have b16:(bits .and .i64 q.aJ 240==16)=false:=beq_eq_false_iff_ne.2 h16
   have HV:=hid (II pb now q v u old x s W1 hp1 dC hxl hsl Y8 Y9)
   obtain ⟨m0,m1,m2,m3,m4,m5,m6,m7,hm⟩:=lX (Le now q old x s)
   rw[hm] at HV
   have Hm:=hid hm
   have k0:=Qt 0 _ rfl
   have k1:=Qt 1 _ rfl
   have k2:=Qt 2 _ rfl
   have k3:=Qt 3 _ rfl
   have k4:=Qt 4 _ rfl
   have k5:=Qt 5 _ rfl
   have k6:=Qt 6 _ rfl
   have k7:=Qt 7 _ rfl
   have k8:=Qt 8 _ rfl
   clear hm G0 G1 B1 hW0 hW1 RQ RT s0 hp dC hxl hsl Y8 Y9 ho Qt Vd hp1
   go_enter Tryz.func102,Tryz.ntmps102
   go_wp2_with (first
    | (rw[←HW1.out];fail_if_success done)
    | (go_at_call 141;refine HV.out.mono ?_;rintro e w1 ⟨rfl,g1⟩;have HB2:Hid (bI w1 (w.heap.size+1+1) ik):=HB1.out.grown g1 (by simp);have HG2:=hid (ae nH.out g1);clear g1;obtain ⟨⟨p0,p1,p2,p3,p4,p5,p6⟩,f0,f1,f2,f3,f4,f5,f6⟩:=iG HB2.out))
   have B7:=((((((HB2.out.set 0 (.int .i64 m0)).set 1 (.int .u64 m1)).set 2 (.string m2)).set 3 (.int .i64 m3)).set 4 (.int .i64 m4)).set 5 (.int .i64 m5)).set 6 (.int .i64 m6)
   refine bodyPost_ret (aD Tryz.results102 _ _ _ (w.heap.size+1+1) rfl _ (B7.load 211 _ Tryz.underlying211 rfl Tryz.gX)) rfl ⟨by rw[Hm.out];rfl,?_⟩
   refine ae mD.out ?_
   repeat refine aK ?_ (by rw[JY.out];exact Nat.le_refl _)
   exact HG2.out
end Go.Proofs.YtpibgolaaaemnaaGreatDoor
namespace Go.Proofs.YtpibgolaaaemnaaGreatDoor
open Go.RowKit
set_option maxRecDepth 100000
def RP.drawn (r:RP) (a b c:UInt64):RP:={r with t:={r.t with aU:=a},rD:=b,rE:=c}
theorem SH {w:World} {rb:Nat} {r:RP} (h:kQ w rb r) (a b c:UInt64):kQ (((w.setCell ⟨rb,1,none⟩ (.int .u64 (a.toNat:Int))).setCell ⟨rb,10,none⟩ (.int .u64 (b.toNat:Int))).setCell ⟨rb,14,none⟩ (.int .u64 (c.toNat:Int))) rb (r.drawn a b c):=by
 intro i v hv
 have h14:=h.at 14 _ rfl
 have h10:=h.at 10 _ rfl
 have h1:=h.at 1 _ rfl
 rw[Nat.zero_add]
 by_cases e14:i=14
 ·subst e14
  obtain rfl:Value.int .u64 (c.toNat:Int)=v:=by simpa[RP.cells,RP.drawn] using hv
  exact bL _ (aa _ (aa _ h14 (by decide)) (by decide))
 by_cases e10:i=10
 ·subst e10
  obtain rfl:Value.int .u64 (b.toNat:Int)=v:=by simpa[RP.cells,RP.drawn] using hv
  exact aa _ (bL _ (aa _ h10 (by decide))) (by decide)
 by_cases e1:i=1
 ·subst e1
  obtain rfl:Value.int .u64 (a.toNat:Int)=v:=by simpa[RP.cells,RP.drawn] using hv
  exact aa _ (aa _ (bL _ h1) (by decide)) (by decide)
 have h0:r.cells[i]?=some v:=by
  rw[←hv]
  rcases i with _ | _ | _ | _ | _ | _ | _ | _ | _ | _ | _ | _ | _ | _ | _ | i
  all_goals first | rfl|(exfalso;omega)
 have:=h.at i v h0
 exact aa _ (aa _ (aa _ this (fun e=>e1 e.symm)) (fun e=>e10 e.symm)) (fun e=>e14 e.symm)
set_option maxHeartbeats 1000000 in
theorem M0 (hb g rb n cap:Nat) (ao:Option Addr) (r:RP) (w:World) (c3:w.cell? ⟨hb,3,none⟩=some (.pointer (some ⟨g,0,none⟩))) (hn:n<24) (hc:w.cell? ⟨g,1,none⟩=some (.slice ao n cap)) (hr:kQ w rb r) (hl:Live w rb 15) :
  Calls Tryz.prog 96 #[.pointer (some ⟨hb,0,none⟩),.pointer (some ⟨rb,0,none⟩)] w fun e w'=>e = .returned (.bool false)∧CF w w' (fun b _=>b=rb):=by
 obtain ⟨W0,hW0⟩:∃ W,W=w.alloc (.cells #[.int .u64 0,.int .u64 0,.int .u64 0] 252):=⟨_,rfl⟩
 have G0:w.grownBy W0 none:=by rw[hW0];exact World.grownBy_alloc w _ none
 have R0:W0.rangeAt w.heap.size 0 [.int .u64 0,.int .u64 0,.int .u64 0]:=by rw[hW0];exact aQ w #[.int .u64 0,.int .u64 0,.int .u64 0] _
 have HF:=hid (fun k=>VJ g 1 n cap w.heap.size ao (W0.drewN k) hn ((aO G0 k).cell hc (by simp)))
 have hne:w.heap.size≠rb:=fun e=>by have:=hl.lt;omega
 have a0:W0.cell? ⟨w.heap.size,0,none⟩=some (.int .u64 0):=R0 0 _ rfl
 have a1:W0.cell? ⟨w.heap.size,1,none⟩=some (.int .u64 0):=R0 1 _ rfl
 have a2:W0.cell? ⟨w.heap.size,2,none⟩=some (.int .u64 0):=R0 2 _ rfl
 have k3:=G0.cell c3 (by simp)
 have q1:=G0.cell (hr.at 1 _ rfl) (by simp)
 have Ve:=G0.cell (hr.at 10 _ rfl) (by simp)
 have q14:=G0.cell (hr.at 14 _ rfl) (by simp)
 have f1:=(hl.grown G0).frozen 1
 have f10:=(hl.grown G0).frozen 10
 have f14:=(hl.grown G0).frozen 14
 have HG:=hid G0
 have HW0:=hid hW0
 clear G0 hW0 R0 hn hr hl hc c3
 go_enter Tryz.func96,Tryz.ntmps96
 go_wp2_with (first|(rw[←HW0.out];fail_if_success done))
 go_quiet (first|(go_at_call 129;refine (HF.out _).mono ?_;rintro e w1 ⟨rfl,rfl⟩;exact ⟨rfl,_,rfl⟩))
 go_wp2
 go_ret
 refine ⟨rfl,?_⟩
 repeat refine CF.setCell ?_ _ _ _ (fun _=>rfl)
 exact CF.aW (aO HG.out _) _
set_option maxHeartbeats 1000000 in
theorem IM (hb g rb:Nat) (q:Pl) (ds:List UInt8) (n:Nat) (r:RP) (w:World) (c3:w.cell? ⟨hb,3,none⟩=some (.pointer (some ⟨g,0,none⟩))) (hn:Hid (ds.length=n)) (EP:24≤n) (hnc:n≤q.cap) (hcm:q.cap≤9223372036854775807) (hc:w.cell? ⟨g,1,none⟩=some (.slice (some ⟨q.g,q.off,none⟩) n q.cap)) (hLg:Live w g 188) (hd:w.rangeAt q.g q.off (ds.map U8)) (hqg:q.g≠g) (agp:q.g<w.heap.size) (hr:kQ w rb r) (hl:Live w rb 15) (hgr:g≠rb) (hhr:hb≠rb) (hhg:hb≠g) :
  Calls Tryz.prog 96 #[.pointer (some ⟨hb,0,none⟩),.pointer (some ⟨rb,0,none⟩)] w fun e w'=>e = .returned (.bool true)∧kQ w' rb (r.drawn (dU ds 0) (dU ds 1) (dU ds 2))∧(∃ off,w'.cell? ⟨g,1,none⟩=some (.slice (some ⟨q.g,off,none⟩) (n-24) (q.cap-24))∧(q.cap-24≠0→off=q.off+24)∧off≤q.off+24)∧CF w w' (fun b y=>b=g∧y=1∨b=rb):=by
 obtain ⟨W0,hW0⟩:∃ W,W=w.alloc (.cells #[.int .u64 0,.int .u64 0,.int .u64 0] 252):=⟨_,rfl⟩
 have G0:w.grownBy W0 none:=by rw[hW0];exact World.grownBy_alloc w _ none
 have L0:Live W0 w.heap.size 3:=by rw[hW0];exact Live.new w #[.int .u64 0,.int .u64 0,.int .u64 0] _
 have hgl:=hLg.lt
 have hrl:=hl.lt
 have HF:=hid (Ro g 1 w.heap.size q ds n W0.drew hn EP hnc hcm ((dA G0).cell hc (by simp)) ((hLg.grown (dA G0)).mono (by omega)) (L0.grown (dA (World.grownBy.refl _ _))) (fH hd (dA G0)) (by omega) hqg (by omega))
 have hne:w.heap.size≠rb:=fun e=>by omega
 have k3:=G0.cell c3 (by simp)
 have HRP:=hid (hr.grown G0)
 have HL:=hid (hl.grown G0)
 have hbl:hb<w.heap.size:=jh c3
 have HH:Hid (hb≠w.heap.size∧g≠w.heap.size∧g≠rb∧hb≠rb∧hb≠g):=⟨by omega,by omega,hgr,hhr,hhg⟩
 have HG:=hid G0
 have HW0:=hid hW0
 clear G0 hW0 L0 hn EP hnc hcm hc hLg hd hqg agp hr hl hgr hhr hhg hgl hrl hbl c3
 go_enter Tryz.func96,Tryz.ntmps96
 go_wp2_with (first|(rw[←HW0.out];fail_if_success done))
 go_region_held3 (fun w'=>w'.cell? ⟨hb,3,none⟩=some (.pointer (some ⟨g,0,none⟩))) (go_keep) (first|(go_at_call 129;refine HF.out.mono ?_;rintro e w1 ⟨rfl,ho,h3,C1⟩;have Cv:=hid ho;have wI:=hid C1.bM;have a0:=h3 0 (by decide);have a1:=h3 1 (by decide);have a2:=h3 2 (by decide);clear ho C1 h3;have k3':=wI.out.cell k3 (fun e=>by rcases e with e | e;exact HH.out.2.2.2.2 e.1;exact HH.out.1 e)))
 have C1:=wI.out
 have HR1:Hid (kQ w1 rb r):=fun i v hv=>C1.cell (HRP.out i v hv) (fun e=>by rcases e with e | e;exact HH.out.2.2.1 e.1.symm;exact hne e.symm)
 have q1:=HR1.out.at 1 _ rfl
 have Ve:=HR1.out.at 10 _ rfl
 have q14:=HR1.out.at 14 _ rfl
 have hl1:=HL.out.cf C1
 have f1:=hl1.frozen 1
 have f10:=hl1.frozen 10
 have f14:=hl1.frozen 14
 have hne':rb≠w.heap.size:=fun e=>hne e.symm
 clear C1 hl1
 go_wp2
 go_ret
 refine ⟨rfl,?_,?_,?_⟩
 ·have:=HR1.out
  exact SH this _ _ _
 ·obtain ⟨off,h1,h2,h3⟩:=Cv.out
  refine ⟨off,?_,h2,h3⟩
  have hgr:=HH.out.2.2.1
  rw[World.cell?_setCell_other _ _ _ _ (fun e=>hgr (by injection e with e;exact e.symm)),World.cell?_setCell_other _ _ _ _ (fun e=>hgr (by injection e with e;exact e.symm)),World.cell?_setCell_other _ _ _ _ (fun e=>hgr (by injection e with e;exact e.symm))]
  exact h1
 ·repeat refine CF.setCell ?_ _ _ _ (fun _=>.inr rfl)
  exact (CF.before HG.out wI.out).mono (fun b _ hlt e=>by rcases e with e | e;exact .inl e;omega)
end Go.Proofs.YtpibgolaaaemnaaGreatDoor
