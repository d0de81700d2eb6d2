/-
  
  
  
  
  
  
  
  
  
-/
import Derived.Test.YtpibgolaaaemnaaGreatDoorGUPBookF
import Derived.Test.YtpibgolaaaemnaaGreatDoorGUPBookH
import Derived.Test.YtpibgolaaaemnaaGreatDoorGULaw1
namespace Go.Proofs.YtpibgolaaaemnaaGreatDoor
open Go.RowKit
set_option maxRecDepth 100000
theorem GV {es:List BE} {a:jJ} (h:a.kind=1):fU es a=wG es a:=by rw[fU,if_pos h];rfl
theorem pO {es:List BE} {a:jJ} (h:a.kind=2∨a.kind=3∨a.kind=4) (hn:(BE.lT es a.name).isSome=false):fU es a=(es,6):=by
 rw[fU,if_neg (by omega),if_pos h]
 cases e:BE.lT es a.name with
 | none=>rfl
 | some i=>rw[e] at hn;cases hn
theorem GY {es:List BE} {a:jJ} (h:a.kind=2) (i:Nat) (hn:BE.lT es a.name=some i):fU es a=(es.take i++es.drop (i+1),0):=by
 rw[fU,if_neg (by omega),if_pos (.inl h)]
 simp only[hn]
 rw[if_pos h]
theorem Au {es:List BE} {a:jJ} (h:a.kind=3) (i:Nat) (hi:i<es.length) (hn:BE.lT es a.name=some i):fU es a=(es.set i (es[i].tL a.key),0):=by
 rw[fU,if_neg (by omega),if_pos (.inr (.inl h))]
 simp only[hn]
 rw[if_neg (by omega)]
 simp only[List.getElem?_eq_getElem hi]
 rw[if_pos h]
theorem Kv {es:List BE} {a:jJ} (h:a.kind=4) (i:Nat) (hi:i<es.length) (hn:BE.lT es a.name=some i) (hp:a.xC=true):fU es a=(es.set i (es[i].Gs a),0):=by
 rw[fU,if_neg (by omega),if_pos (.inr (.inr h))]
 simp only[hn]
 rw[if_neg (by omega)]
 simp only[List.getElem?_eq_getElem hi]
 rw[if_neg (by omega),if_neg (by rw[hp];simp)]
theorem Rl {es:List BE} {a:jJ} (h:a.kind=4) (i:Nat) (hi:i<es.length) (hn:BE.lT es a.name=some i) (hp:a.xC=false):fU es a=(es,1):=by
 rw[fU,if_neg (by omega),if_pos (.inr (.inr h))]
 simp only[hn]
 rw[if_neg (by omega)]
 simp only[List.getElem?_eq_getElem hi]
 rw[if_neg (by omega),if_pos hp]
theorem Kw {es:List BE} {a:jJ} (h1:a.kind≠1) (h2:a.kind≠2) (h3:a.kind≠3) (h4:a.kind≠4):fU es a=(es,1):=by
 rw[fU,if_neg h1,if_neg (by omega)]
set_option maxHeartbeats 4000000 in
theorem Ky (g o:Nat) (es:List BE) (a:jJ) (w:World) (h:bE w g o es) (hs:es.Pairwise (fun x y=>Op.bytesLess x.name y.name=true)) (iY:∀ e∈es,1≤e.ag∧e.ag≤4611686018427387904) (hf0:-9223372036854775808≤a.ay) (hf1:a.ay≤9223372036854775807) (hl:a.name.length≤9223372036854775807) :
  Calls Tryz.prog 43 #[.pointer (some ⟨g,o,none⟩),.agg a.cells] w fun e w'=>e = .returned (.int .i64 (fU es a).2)∧bE w' g o (fU es a).1∧CF w w' (EM g o):=by
 have Dt:=hid hs
 have abw:=hid iY
 have HAdd:=hid (fun w h=>VF g o es a w h hs hf0 hf1 hl)
 have GZ:=hid (fun w h=>Ko g o es a.name ⟨a.name.toArray⟩ w h hs (hid rfl))
 have Ha:=hid (fun w h=>N8 g o es a.name ⟨a.name.toArray⟩ a.key w h hs (hid rfl) iY)
 have Hd:=hid (fun w h=>EN g o es a.name ⟨a.name.toArray⟩ a w h hs (hid rfl) hf0 hf1)
 have MM:=hid (fun w=>wF a w)
 have G0:=hid (World.grownBy_alloc w (.cells a.cells 43) none)
 have HB:=hid (h.grown G0.out)
 have HA0:=hid (sK.new w a 43)
 have hlt:=h.live.lt
 clear h hs iY hf0 hf1 hl
 by_cases k1:a.kind=1
 ·have HK:=hid k1
  have kb:(a.kind==1)=true:=by rw[k1];rfl
  clear k1
  go_enter Tryz.func43,Tryz.ntmps43
  go_wp2_with fail
  refine (HAdd.out _ HB.out).mono ?_
  rintro e w1 ⟨rfl,hb1,hc1⟩
  have C:=CF.before G0.out hc1
  clear hc1 HAdd GZ Ha Hd MM
  go_wp2
  go_ret
  exact ⟨by rw[GV HK.out];rfl,by rw[GV HK.out];exact hb1,C⟩
 by_cases k2:a.kind=2
 ·have HK:=hid k2
  have kb:(a.kind==1)=false:=by rw[k2];rfl
  have kc:(a.kind==2)=true:=by rw[k2];rfl
  clear k1 k2
  go_enter Tryz.func43,Tryz.ntmps43
  go_wp2_with fail
  refine (GZ.out _ HB.out).mono ?_
  rintro e w1 hp
  have HP:=hid hp
  clear hp
  cases hat:BE.lT es a.name with
  | none=>
   have HT:Hid ((BE.lT es a.name).isSome=false):=by show _=_;rw[hat];rfl
   obtain ⟨rfl,hg⟩:=HP.out.1 HT.out
   clear HAdd GZ Ha Hd MM HP hat
   go_wp2
   go_ret
   exact ⟨by rw[pO (.inl HK.out) HT.out];rfl,by rw[pO (.inl HK.out) HT.out];exact HB.out.grown hg,CF.aW (ae G0.out hg) _⟩
  | some i=>
   have HT:=hid hat
   obtain ⟨rfl,hb1,hc1⟩:=HP.out.2 i HT.out
   clear HAdd GZ Ha Hd MM HP hat
   go_wp2
   go_ret
   exact ⟨by rw[GY HK.out i HT.out];rfl,by rw[GY HK.out i HT.out];exact hb1,CF.before G0.out hc1⟩
 by_cases k3:a.kind=3
 ·have HK:=hid k3
  have kb:(a.kind==1)=false:=by rw[k3];rfl
  have kc:(a.kind==2)=false:=by rw[k3];rfl
  have kd:(a.kind==3)=true:=by rw[k3];rfl
  clear k1 k2 k3
  go_enter Tryz.func43,Tryz.ntmps43
  go_wp2_with fail
  refine (Ha.out _ HB.out).mono ?_
  rintro e w1 hp
  have HP:=hid hp
  clear hp
  cases hat:BE.lT es a.name with
  | none=>
   have HT:Hid ((BE.lT es a.name).isSome=false):=by show _=_;rw[hat];rfl
   obtain ⟨rfl,hg⟩:=HP.out.1 HT.out
   clear HAdd GZ Ha Hd MM HP hat
   go_wp2
   go_ret
   exact ⟨by rw[pO (.inr (.inl HK.out)) HT.out];rfl,by rw[pO (.inr (.inl HK.out)) HT.out];exact HB.out.grown hg,CF.aW (ae G0.out hg) _⟩
  | some i=>
   have HT:=hid hat
   obtain ⟨hi,_⟩:=zx hat
   obtain ⟨rfl,hb1,hc1⟩:=HP.out.2 i hi HT.out
   clear HAdd GZ Ha Hd MM HP hat
   go_wp2
   go_ret
   exact ⟨by rw[Au HK.out i hi HT.out];rfl,by rw[Au HK.out i hi HT.out];exact hb1,CF.before G0.out hc1⟩
 by_cases k4:a.kind=4
 ·have HK:=hid k4
  have kb:(a.kind==1)=false:=by rw[k4];rfl
  have kc:(a.kind==2)=false:=by rw[k4];rfl
  have kd:(a.kind==3)=false:=by rw[k4];rfl
  have ke:(a.kind==4)=true:=by rw[k4];rfl
  clear k1 k2 k3 k4
  have abD:Hid (∀ w,bE w g o es→Calls Tryz.prog 59 #[.pointer (some ⟨g,o,none⟩),.string ⟨a.name.toArray⟩,.agg (sJ a.cO a.aF a.bU a.ay)] w fun e w'=>e = .returned (.int .i64 (fU es a).2)∧bE w' g o (fU es a).1∧CF w w' (EM g o)):=by
   intro w h
   refine (Hd.out w h).mono ?_
   rintro e w' ⟨p1,p2,p3⟩
   cases hat:BE.lT es a.name with
   | none=>
    have ht:(BE.lT es a.name).isSome=false:=by rw[hat];rfl
    obtain ⟨rfl,hg⟩:=p1 ht
    rw[pO (.inr (.inr HK.out)) ht]
    exact ⟨rfl,h.grown hg,CF.aW hg _⟩
   | some i=>
    obtain ⟨hi,_⟩:=zx hat
    cases hp:a.xC with
    | false=>
     obtain ⟨rfl,hg⟩:=p2 (by rw[hat];rfl) hp
     rw[Rl HK.out i hi hat hp]
     exact ⟨rfl,h.grown hg,CF.aW hg _⟩
    | true=>
     obtain ⟨rfl,hb,hc⟩:=p3 i hi hat hp
     rw[Kv HK.out i hi hat hp]
     exact ⟨rfl,hb,hc⟩
  have hne:w.heap.size≠g:=fun e=>by have:=hlt;omega
  obtain ⟨c0,c1,c2,c3,c4,c5,c6⟩:=HA0.out
  clear HAdd GZ Ha Hd
  go_enter Tryz.func43,Tryz.ntmps43
  go_wp2_with fail
  go_region_held3 (fun w'=>w'.cell? ⟨w.heap.size,0,none⟩=some (.int .i64 a.kind)∧w'.cell? ⟨w.heap.size,1,none⟩=some (.string ⟨a.name.toArray⟩)∧w'.cell? ⟨w.heap.size,2,none⟩=some (.int .u64 (a.key.toNat:Int))∧w'.cell? ⟨w.heap.size,3,none⟩=some (.int .i64 a.cO)∧w'.cell? ⟨w.heap.size,4,none⟩=some (.int .i64 a.aF)∧w'.cell? ⟨w.heap.size,5,none⟩=some (.int .i64 a.bU)∧w'.cell? ⟨w.heap.size,6,none⟩=some (.int .i64 a.ay)) (go_keep) (first|(go_at_call 60;refine (MM.out _).mono ?_;rintro e w5 ⟨rfl,hg5⟩;have G5:=gW hg5;have B5:=HB.out.grown G5;have d0:=dI G5 c0;have d1:=dI G5 c1;have d2:=dI G5 c2;have d3:=dI G5 c3;have d4:=dI G5 c4;have d5:=dI G5 c5;have d6:=dI G5 c6;clear hg5)|(go_at_call 59;refine (abD.out _ B5).mono ?_;rintro e w6 ⟨rfl,b6,C6⟩;have e0:=C6.cell d0 (fun q=>hne q.1);have e1:=C6.cell d1 (fun q=>hne q.1);have e2:=C6.cell d2 (fun q=>hne q.1);have e3:=C6.cell d3 (fun q=>hne q.1);have e4:=C6.cell d4 (fun q=>hne q.1);have e5:=C6.cell d5 (fun q=>hne q.1);have e6:=C6.cell d6 (fun q=>hne q.1)))
  go_wp2
  go_ret
  exact ⟨rfl,b6,CF.before (ae G0.out G5) C6⟩
 ·have kb:(a.kind==1)=false:=by rw[beq_eq_false_iff_ne];exact k1
  have kc:(a.kind==2)=false:=by rw[beq_eq_false_iff_ne];exact k2
  have kd:(a.kind==3)=false:=by rw[beq_eq_false_iff_ne];exact k3
  have ke:(a.kind==4)=false:=by rw[beq_eq_false_iff_ne];exact k4
  have HW:Hid (fU es a=(es,1)):=Kw k1 k2 k3 k4
  clear HAdd GZ Ha Hd MM k1 k2 k3 k4
  go_enter Tryz.func43,Tryz.ntmps43
  go_wp2
  go_ret
  exact ⟨by rw[HW.out];rfl,by rw[HW.out];exact HB.out,CF.aW G0.out _⟩
end Go.Proofs.YtpibgolaaaemnaaGreatDoor
namespace Go.Proofs.YtpibgolaaaemnaaGreatDoor
open Go.RowKit
set_option maxRecDepth 100000
set_option maxHeartbeats 1000000 in
theorem uC (g o:Nat) (es:List BE) (a:jJ) (w:World) (h:bE w g (o+2) es) (hs:es.Pairwise (fun x y=>Op.bytesLess x.name y.name=true)) (iY:∀ e∈es,1≤e.ag∧e.ag≤4611686018427387904) (hf0:-9223372036854775808≤a.ay) (hf1:a.ay≤9223372036854775807) (hl:a.name.length≤9223372036854775807) :
  Calls Tryz.prog 31 #[.pointer (some ⟨g,o,none⟩),.agg a.cells] w fun e w'=>e = .returned (.int .i64 (fU es a).2)∧bE w' g (o+2) (fU es a).1∧CF w w' (EM g (o+2)):=by
 have YH:=hid (fun w h=>Ky g (o+2) es a w h hs iY hf0 hf1 hl)
 have G0:=hid (World.grownBy_alloc w (.cells a.cells 43) none)
 have HB:=hid (h.grown G0.out)
 have hlt:=h.live.lt
 have hne:w.heap.size≠g:=fun e=>by omega
 obtain ⟨c0,c1,c2,c3,c4,c5,c6⟩:=sK.new w a 43
 clear h hs iY hf0 hf1 hl
 go_enter Tryz.func31,Tryz.ntmps31
 go_wp2_with fail
 go_region_held3 (fun w'=>w'.cell? ⟨w.heap.size,0,none⟩=some (.int .i64 a.kind)∧w'.cell? ⟨w.heap.size,1,none⟩=some (.string ⟨a.name.toArray⟩)∧w'.cell? ⟨w.heap.size,2,none⟩=some (.int .u64 (a.key.toNat:Int))∧w'.cell? ⟨w.heap.size,3,none⟩=some (.int .i64 a.cO)∧w'.cell? ⟨w.heap.size,4,none⟩=some (.int .i64 a.aF)∧w'.cell? ⟨w.heap.size,5,none⟩=some (.int .i64 a.bU)∧w'.cell? ⟨w.heap.size,6,none⟩=some (.int .i64 a.ay)) (go_keep) (first|(go_at_call 43;refine (YH.out _ (HB.out.drewN 1)).mono ?_;rintro e w6 ⟨rfl,b6,C6⟩;have e0:=C6.bM.cell c0 (fun q=>hne q.1);have e1:=C6.bM.cell c1 (fun q=>hne q.1);have e2:=C6.bM.cell c2 (fun q=>hne q.1);have e3:=C6.bM.cell c3 (fun q=>hne q.1);have e4:=C6.bM.cell c4 (fun q=>hne q.1);have e5:=C6.bM.cell c5 (fun q=>hne q.1);have e6:=C6.bM.cell c6 (fun q=>hne q.1)))
 go_wp2
 go_ret
 exact ⟨rfl,b6,CF.before G0.out C6.bM⟩
end Go.Proofs.YtpibgolaaaemnaaGreatDoor
namespace Go.Proofs.YtpibgolaaaemnaaGreatDoor
open Go.RowKit
set_option maxRecDepth 100000
def PF.aR (p:PF):List Value:=[.string ⟨p.af.toArray⟩,.int .i64 p.time,.int .i64 p.count]
def bH (l:List PF):List Value:=(l.map PF.aR).flatten
theorem gI (l:List PF):(bH l).length=l.length*3:=by
 induction l with
 | nil=>rfl
 | cons x l ih=>simp only[bH,List.map_cons,List.flatten_cons,List.length_append,List.length_cons] at *;rw[ih];show 3+_=_;omega
structure cz (w:World) (g o:Nat) (dp:Option Pl) (d:DM):Prop where
 live:Live w g (o+188)
 ax:w.cell? ⟨g,o,none⟩=some (.int .i64 d.ax)
 aV:∃ v,w.cell? ⟨g,o+1,none⟩=some v∧Out w v dp d.aV
 aH:bE w g (o+2) d.aH
 bK:w.rangeAt g (o+163) (bH d.bK)
 count:w.cell? ⟨g,o+187,none⟩=some (.int .i64 d.bK.length)
 few:d.bK.length≤8
set_option maxHeartbeats 400000 in
theorem Oe (g o:Nat) (n:Int) (w:World) (h:w.cell? ⟨g,o+24,none⟩=some (.int .i64 n)) :
  Calls Tryz.prog 53 #[.pointer (some ⟨g,o,none⟩)] w fun e w'=>e = .returned (.int .i64 n)∧w'=w:=by
 go_enter Tryz.func53,Tryz.ntmps53
 go_wp2
 go_ret
 exact ⟨rfl,rfl⟩
set_option maxHeartbeats 400000 in
theorem Rm (g o:Nat) (a:Option Addr) (n c:Nat) (w:World) (h:w.cell? ⟨g,o,none⟩=some (.slice a n c)) :
  Calls Tryz.prog 54 #[.pointer (some ⟨g,o,none⟩)] w fun e w'=>e = .returned (.int .i64 n)∧w'=w:=by
 go_enter Tryz.func54,Tryz.ntmps54
 go_wp2
 go_ret
 exact ⟨rfl,rfl⟩
end Go.Proofs.YtpibgolaaaemnaaGreatDoor
namespace Go.Proofs.YtpibgolaaaemnaaGreatDoor
open Go.RowKit
set_option maxRecDepth 100000
theorem Og {w w':World} {base:Nat} {e:TypeId} {g n c:Nat} {xs:List Value} (h:w.ownsRow base e 1 (.slice (some ⟨g,0,none⟩) n c) n xs) (k:w.grownBy w' none):w'.ownsRow base e 1 (.slice (some ⟨g,0,none⟩) n c) n xs:=
 pM h (fun b hb=>k.block b (by injection hb with hb;subst hb;exact (xK h).1) (by simp))
theorem aY {w:World} {base b j:Nat} {e:TypeId} {g n c:Nat} {u:Value} {xs:List Value} (h:w.ownsRow base e 1 (.slice (some ⟨g,0,none⟩) n c) n xs) (hb:b<base):(w.setCell ⟨b,j,none⟩ u).ownsRow base e 1 (.slice (some ⟨g,0,none⟩) n c) n xs:=by
 have hg:base≤g:=by
  rcases h.2 with ⟨hv,_⟩ | ⟨g',cap,cur,hv,hb',_⟩
  ·cases hv
  ·injection hv with e1 _ _
   injection e1 with e1
   injection e1 with e1 _ _
   subst e1
   exact hb'
 exact pM h (fun k hk=>by injection hk with hk;subst hk;exact Below.heap_setCell w _ u _ (by show g≠b;omega))
theorem YI {w:World} {g a:Nat} {c0 c1 c2 c3:Value} (h0:w.cell? ⟨g,a,none⟩=some c0) (h1:w.cell? ⟨g,a+1,none⟩=some c1) (h2:w.cell? ⟨g,a+2,none⟩=some c2) (h3:w.cell? ⟨g,a+3,none⟩=some c3):w.rangeAt g a [c0,c1,c2,c3]:=by
 intro j u hu
 match j,hu with
 | 0,hu=>injection hu with hu;subst hu;exact h0
 | 1,hu=>injection hu with hu;subst hu;exact h1
 | 2,hu=>injection hu with hu;subst hu;exact h2
 | 3,hu=>injection hu with hu;subst hu;exact h3
 | j+4,hu=>simp at hu
theorem tX (w:World) (b:Nat) (v0 v1 v2 v3:Value) {d0 d1 d2 d3:Value} (q0:w.cell? ⟨b,0,none⟩=some d0) (q1:w.cell? ⟨b,1,none⟩=some d1) (q2:w.cell? ⟨b,2,none⟩=some d2) (q3:w.cell? ⟨b,3,none⟩=some d3) :
  ((((w.setCell ⟨b,0,none⟩ v0).setCell ⟨b,1,none⟩ v1).setCell ⟨b,2,none⟩ v2).setCell ⟨b,3,none⟩ v3).rangeAt b 0 [v0,v1,v2,v3]:=by
 refine YI ?_ ?_ ?_ ?_ <;> try simp only[Nat.zero_add]
 ·exact aa _ (aa _ (aa _ (bL _ q0) (by decide)) (by decide)) (by decide)
 ·exact aa _ (aa _ (bL _ (aa _ q1 (by decide))) (by decide)) (by decide)
 ·exact aa _ (bL _ (aa _ (aa _ q2 (by decide)) (by decide))) (by decide)
 ·exact bL _ (aa _ (aa _ (aa _ q3 (by decide)) (by decide)) (by decide))
theorem dQ {fn:Func} {a:Tmp} {ty:TypeId} (h:fn.results=#[.cell a ty]) (tmps:Array Value) (P:Program) (w:World) (b:Nat) (hp:tmps.getD a undef = .pointer (some ⟨b,0,none⟩)) (x:Value) (hl:(loadVar ty ⟨b,0,none⟩).run P w = .ok x w) :
  (results fn tmps).run P w = .ok x w:=by
 have hp':tmps[a]?.getD undef = .pointer (some ⟨b,0,none⟩):=by simpa using hp
 simp[results,h,hp',hl,asAddr]
theorem Tryz.mI:(Tryz.prog.info? 54).map (·.size)=some 4:=by kernel_rfl
theorem cz.cf {w w':World} {ex:Nat→Nat→Prop} {g o:Nat} {dp:Option Pl} {d:DM} (h:cz w g o dp d) (k:CF w w' ex) (hx:∀ j,o≤j→j<o+188→¬ ex g j) (hd:∀ q,dp=some q→∀ j,j<d.aV.length→¬ ex q.g (q.off+j)):cz w' g o dp d:=by
 obtain ⟨v,hv,ho⟩:=h.aV
 exact ⟨h.live.cf k,k.cell h.ax (hx _ (by omega) (by omega)),⟨v,k.cell hv (hx _ (by omega) (by omega)),ho.cf k hd⟩,h.aH.cf k (fun j h1 h2=>hx j (by omega) (by omega)),k.range h.bK (fun j hj=>hx _ (by omega) (by rw[gI] at hj;have:=h.few;omega)),k.cell h.count (hx _ (by omega) (by omega)),h.few⟩
theorem cz.grown {w w':World} {g o:Nat} {dp:Option Pl} {d:DM} (h:cz w g o dp d) (k:w.grownBy w' none):cz w' g o dp d:=h.cf (CF.aW k (fun _ _=>False)) (fun _ _ _ e=>e) (fun _ _ _ _ e=>e)
set_option maxHeartbeats 4000000 in
theorem uD (g o:Nat) (dp:Option Pl) (d:DM) (w:World) (h:cz w g o dp d) :
  Calls Tryz.prog 39 #[.pointer (some ⟨g,o,none⟩)] w fun e w'=>∃ bn bu,e = .returned (.agg #[.slice (some ⟨bn,0,none⟩) d.aH.length d.aH.length,.slice (some ⟨bu,0,none⟩) d.aH.length d.aH.length,.int .i64 d.bK.length,.int .i64 d.aV.length])∧w'.ownsRow w.heap.size 9 1 (.slice (some ⟨bn,0,none⟩) d.aH.length d.aH.length) d.aH.length (d.aH.map fun x=>.string ⟨x.name.toArray⟩)∧w'.ownsRow w.heap.size 3 1 (.slice (some ⟨bu,0,none⟩) d.aH.length d.aH.length) d.aH.length (d.aH.map fun x=>.int .i64 x.ag)∧w.grownBy w' none:=by
 have G0:=dA (World.grownBy_alloc w (.cells #[.slice none 0 0,.slice none 0 0,.int .i64 0,.int .i64 0] 54) none)
 have HD:=hid (fun wx (k:World.grownBy (w.alloc (.cells #[.slice none 0 0,.slice none 0 0,.int .i64 0,.int .i64 0] 54)).drew wx none)=>(h.grown G0).grown k)
 have HL:Hid (Live (w.alloc (.cells #[.slice none 0 0,.slice none 0 0,.int .i64 0,.int .i64 0] 54)).drew w.heap.size 4):=(Live.new w _ _).drew
 have HG:=hid G0
 obtain ⟨v,hv,ho⟩:=h.aV
 obtain ⟨da,dc,rfl,_⟩:=ho.shape
 have HV:=hid (fun wx (k:World.grownBy (w.alloc (.cells #[.slice none 0 0,.slice none 0 0,.int .i64 0,.int .i64 0] 54)).drew wx none)=>dI k (dI G0 hv))
 clear h G0 hv ho
 go_enter Tryz.func39,Tryz.ntmps39
 go_wp2_with fail
 go_region_held3 (fun _=>True) (trivial) (first|(go_at_call 51;refine (Od g (o+2) d.aH _ (HD.out _ (World.grownBy.refl _ _)).aH).mono ?_;rintro e wN ⟨bn,rfl,oN,gN⟩)|(go_at_call 52;refine (GQ g (o+2) d.aH _ (HD.out _ gN).aH).mono ?_;rintro e wU ⟨bu,rfl,oU,gU⟩;have GU:=ae gN gU)|(go_at_call 53;refine (Oe g (o+163) d.bK.length _ (HD.out _ GU).count).mono ?_;rintro e wx ⟨rfl,rfl⟩;have L:=HL.out.grown GU;obtain ⟨d0,q0⟩:=Option.isSome_iff_exists.1 (L.some 0 (by decide));obtain ⟨d1,q1⟩:=Option.isSome_iff_exists.1 (L.some 1 (by decide));obtain ⟨d2,q2⟩:=Option.isSome_iff_exists.1 (L.some 2 (by decide));obtain ⟨d3,q3⟩:=Option.isSome_iff_exists.1 (L.some 3 (by decide));have f0:=L.frozen 0;have f1:=L.frozen 1;have f2:=L.frozen 2;have f3:=L.frozen 3)|(go_at_call 54;refine (Rm g (o+1) da d.aV.length dc _ (HV.out _ GU)).mono ?_;rintro e wx ⟨rfl,rfl⟩))
 go_wp2
 have s0:w.heap.size<w.heap.size+1:=Nat.lt_succ_self _
 have YJ:wx.ownsRow (w.heap.size+1) 9 1 (.slice (some ⟨bn,0,none⟩) d.aH.length d.aH.length) d.aH.length (d.aH.map fun x=>.string ⟨x.name.toArray⟩):=bZ (Og oN gU) (by show w.heap.size+1≤(w.alloc _).heap.size;rw[World.size_alloc];exact Nat.le_refl _)
 have YK:wx.ownsRow (w.heap.size+1) 3 1 (.slice (some ⟨bu,0,none⟩) d.aH.length d.aH.length) d.aH.length (d.aH.map fun x=>.int .i64 x.ag):=bZ oU (by have h1:=gN.size;have h2:w.heap.size+1≤(w.alloc (.cells #[.slice none 0 0,.slice none 0 0,.int .i64 0,.int .i64 0] 54)).heap.size:=(by rw[World.size_alloc];exact Nat.le_refl _);exact Nat.le_trans h2 h1)
 refine bodyPost_ret (dQ Tryz.results39 _ _ _ w.heap.size rfl _ (dN (tX wx w.heap.size _ _ _ _ q0 q1 q2 q3) 54 _ Tryz.underlying54 rfl Tryz.mI)) rfl ⟨bn,bu,rfl,?_,?_,?_⟩
 ·exact bZ (aY (aY (aY (aY YJ s0) s0) s0) s0) (Nat.le_succ _)
 ·exact bZ (aY (aY (aY (aY YK s0) s0) s0) s0) (Nat.le_succ _)
 ·exact aK (aK (aK (aK (ae HG.out GU) (Nat.le_refl _)) (Nat.le_refl _)) (Nat.le_refl _)) (Nat.le_refl _)
end Go.Proofs.YtpibgolaaaemnaaGreatDoor
namespace Go.Proofs.YtpibgolaaaemnaaGreatDoor
open Go.RowKit
set_option maxRecDepth 100000
set_option maxHeartbeats 1000000 in
theorem Av (g:Nat) (es:List BE) (a:jJ) (w:World) (h:bE w g 2 es) (hs:es.Pairwise (fun x y=>Op.bytesLess x.name y.name=true)) (iY:∀ e∈es,1≤e.ag∧e.ag≤4611686018427387904) (hf0:-9223372036854775808≤a.ay) (hf1:a.ay≤9223372036854775807) (hl:a.name.length≤9223372036854775807) :
  Calls Tryz.prog 19 #[.pointer (some ⟨g,0,none⟩),.agg a.cells] w fun e w'=>e = .returned (.int .i64 (fU es a).2)∧bE w' g 2 (fU es a).1∧CF w w' (EM g 2):=by
 have YH:=hid (fun w h=>uC g 0 es a w h hs iY hf0 hf1 hl)
 have G0:=hid (World.grownBy_alloc w (.cells a.cells 43) none)
 have HB:=hid (h.grown G0.out)
 have hlt:=h.live.lt
 have hne:w.heap.size≠g:=fun e=>by omega
 obtain ⟨c0,c1,c2,c3,c4,c5,c6⟩:=sK.new w a 43
 clear h hs iY hf0 hf1 hl
 go_enter Tryz.func19,Tryz.ntmps19
 go_wp2_with fail
 go_region_held3 (fun w'=>w'.cell? ⟨w.heap.size,0,none⟩=some (.int .i64 a.kind)∧w'.cell? ⟨w.heap.size,1,none⟩=some (.string ⟨a.name.toArray⟩)∧w'.cell? ⟨w.heap.size,2,none⟩=some (.int .u64 (a.key.toNat:Int))∧w'.cell? ⟨w.heap.size,3,none⟩=some (.int .i64 a.cO)∧w'.cell? ⟨w.heap.size,4,none⟩=some (.int .i64 a.aF)∧w'.cell? ⟨w.heap.size,5,none⟩=some (.int .i64 a.bU)∧w'.cell? ⟨w.heap.size,6,none⟩=some (.int .i64 a.ay)) (go_keep) (first|(go_at_call 31;refine (YH.out _ (HB.out.drewN 1)).mono ?_;rintro e w6 ⟨rfl,b6,C6⟩;have e0:=C6.bM.cell c0 (fun q=>hne q.1);have e1:=C6.bM.cell c1 (fun q=>hne q.1);have e2:=C6.bM.cell c2 (fun q=>hne q.1);have e3:=C6.bM.cell c3 (fun q=>hne q.1);have e4:=C6.bM.cell c4 (fun q=>hne q.1);have e5:=C6.bM.cell c5 (fun q=>hne q.1);have e6:=C6.bM.cell c6 (fun q=>hne q.1)))
 go_wp2
 go_ret
 exact ⟨rfl,b6,CF.before G0.out C6.bM⟩
set_option maxHeartbeats 1000000 in
theorem Aw (g:Nat) (dp:Option Pl) (d:DM) (w:World) (h:cz w g 0 dp d) :
  Calls Tryz.prog 25 #[.pointer (some ⟨g,0,none⟩)] w fun e w'=>∃ bn bu,e = .returned (.agg #[.slice (some ⟨bn,0,none⟩) d.aH.length d.aH.length,.slice (some ⟨bu,0,none⟩) d.aH.length d.aH.length,.int .i64 d.bK.length,.int .i64 d.aV.length])∧w'.ownsRow w.heap.size 9 1 (.slice (some ⟨bn,0,none⟩) d.aH.length d.aH.length) d.aH.length (d.aH.map fun x=>.string ⟨x.name.toArray⟩)∧w'.ownsRow w.heap.size 3 1 (.slice (some ⟨bu,0,none⟩) d.aH.length d.aH.length) d.aH.length (d.aH.map fun x=>.int .i64 x.ag)∧w.grownBy w' none:=by
 have G0:=hid (World.grownBy_alloc w (.cells #[.slice none 0 0,.slice none 0 0,.int .i64 0,.int .i64 0] 54) none)
 have HD:=hid (h.grown G0.out)
 have HL:Hid (Live (w.alloc (.cells #[.slice none 0 0,.slice none 0 0,.int .i64 0,.int .i64 0] 54)) w.heap.size 4):=Live.new w _ _
 clear h
 go_enter Tryz.func25,Tryz.ntmps25
 go_wp2_with fail
 refine (uD g 0 dp d _ HD.out).mono ?_
 rintro e wx ⟨bn,bu,rfl,oN,oU,gx⟩
 have L:=HL.out.grown gx
 obtain ⟨d0,q0⟩:=Option.isSome_iff_exists.1 (L.some 0 (by decide))
 obtain ⟨d1,q1⟩:=Option.isSome_iff_exists.1 (L.some 1 (by decide))
 obtain ⟨d2,q2⟩:=Option.isSome_iff_exists.1 (L.some 2 (by decide))
 obtain ⟨d3,q3⟩:=Option.isSome_iff_exists.1 (L.some 3 (by decide))
 have f0:=L.frozen 0
 have f1:=L.frozen 1
 have f2:=L.frozen 2
 have f3:=L.frozen 3
 have GX:=hid (ae G0.out gx)
 have ON:=hid oN
 have OU:=hid oU
 clear L gx oN oU
 go_wp2
 have s0:w.heap.size<w.heap.size+1:=Nat.lt_succ_self _
 have hs:w.heap.size+1≤(w.alloc (.cells #[.slice none 0 0,.slice none 0 0,.int .i64 0,.int .i64 0] 54)).heap.size:=by rw[World.size_alloc];exact Nat.le_refl _
 have YJ:=bZ ON.out hs
 have YK:=bZ OU.out hs
 refine bodyPost_ret (dQ Tryz.results25 _ _ _ w.heap.size rfl _ (dN (tX wx w.heap.size _ _ _ _ q0 q1 q2 q3) 54 _ Tryz.underlying54 rfl Tryz.mI)) rfl ⟨bn,bu,rfl,?_,?_,?_⟩
 ·exact bZ (aY (aY (aY (aY YJ s0) s0) s0) s0) (Nat.le_succ _)
 ·exact bZ (aY (aY (aY (aY YK s0) s0) s0) s0) (Nat.le_succ _)
 ·exact aK (aK (aK (aK GX.out (Nat.le_refl _)) (Nat.le_refl _)) (Nat.le_refl _)) (Nat.le_refl _)
end Go.Proofs.YtpibgolaaaemnaaGreatDoor
namespace Go.Proofs.YtpibgolaaaemnaaGreatDoor
open Go.RowKit
set_option maxRecDepth 100000
theorem Tryz.Oh:(Tryz.prog.info? 83).map (·.size)=some 1:=by kernel_rfl
theorem Rn {w w':World} (h:w.grownBy w' none) {a:Addr} {v:Value} (hc:w.cell? a=some v):w'.cell? a=some v:=by
 rw[World.cell?_of_block (h.block a.block (World.block_lt_of_cell? w _ hc) (by simp))];exact hc
set_option maxHeartbeats 1000000 in
theorem abE (a:Addr) (n c:Nat) (bs:List UInt8) (w:World) (hn:Hid (bs.length=n)) (hbig:n≤140737488355328) (hc:∀ i,i<n→w.cell? (a.add i)=some (.int .u8 ((bs.map fun z=>(z.toNat:Int)).getD i 0))) :
  Calls Tryz.prog 41 #[.slice (some a) n c] w fun e w'=>∃ v,e = .returned (.agg #[v])∧w'.ownsRow w.heap.size 5 1 v n (bs.map U8)∧w.grownBy w' none:=by
 have G0:=hid (World.grownBy_alloc w (.cells #[.slice none 0 0] 83) none)
 have HL:Hid (Live (w.alloc (.cells #[.slice none 0 0] 83)) w.heap.size 1):=Live.new w _ _
 go_enter Tryz.func41,Tryz.ntmps41
 go_wp2_with fail
 refine (Tryz.bytes_Clone_at a n c (bs.map fun z=>(z.toNat:Int)) _ (by rw[List.length_map];exact hn.out) hbig (fun i hi=>?_)).mono ?_
 ·exact Rn G0.out (hc i hi)
 rintro e w1 ⟨v,rfl,own,hnz,hb⟩
 have G1:World.grownBy (w.alloc (.cells #[.slice none 0 0] 83)) w1 none:=⟨hb.os,hb.tape,hb.output,hb.size,fun b hb' _=>hb.block b hb'⟩
 have L:=HL.out.grown G1
 obtain ⟨d0,q0⟩:=Option.isSome_iff_exists.1 (L.some 0 (by decide))
 have f0:=L.frozen 0
 have GX:=hid (ae G0.out G1)
 have OW:=hid own
 obtain ⟨va,vc,rfl⟩:=pq own
 have HZ:=hid hnz
 clear own hb L G1 hc hnz
 go_wp2
 have s0:w.heap.size<w.heap.size+1:=Nat.lt_succ_self _
 have hs:w.heap.size+1≤(w.alloc (.cells #[.slice none 0 0] 83)).heap.size:=by rw[World.size_alloc];exact Nat.le_refl _
 have o1:=bZ OW.out hs
 rw[List.map_map] at o1
 obtain ⟨gg,hgg⟩:∃ gg,va=some ⟨gg,0,none⟩:=by
  rcases o1.2 with ⟨hv,_⟩ | ⟨gg,cap,cur,hv,_⟩
  ·exact absurd hv HZ.out
  ·injection hv with e1 _ _
   exact ⟨gg,e1⟩
 subst hgg
 refine bodyPost_ret (dQ Tryz.results41 _ _ _ w.heap.size rfl _ (dN (cs:=[.slice (some ⟨gg,0,none⟩) n vc]) (fun j u hu=>?_) 83 _ Tryz.underlying83 rfl Tryz.Oh)) rfl ⟨_,rfl,?_,?_⟩
 ·match j,hu with
  | 0,hu=>injection hu with hu;subst hu;exact bL _ q0
  | j+1,hu=>simp at hu
 ·exact bZ (aY o1 s0) (Nat.le_succ _)
 ·exact aK GX.out (Nat.le_refl _)
end Go.Proofs.YtpibgolaaaemnaaGreatDoor
namespace Go.Proofs.YtpibgolaaaemnaaGreatDoor
open Go.RowKit
set_option maxRecDepth 100000
theorem Tryz.Ay:(Tryz.prog.info? 97).map (·.size)=some 188:=by kernel_rfl
theorem Tryz.pQ:Tryz.zeroCells97.size=188:=by kernel_rfl
theorem Tryz.He:Tryz.zeroCells97.all (·.oneCell')=true:=by kernel_rfl
theorem gJ {P:Program} {W:World} {b n:Nat} (vs:List Value) (h:Live W b n) (hn:vs.length≤n) (h1:∀ v∈vs,v.oneCell'=true):(storeCells ⟨b,0,none⟩ vs).run P W = .ok () (W.setCells b 0 vs):=by
 have:=run_storeCells_cells (P:=P) b 0 vs 0 W (fun j hj=>h.some _ (by omega)) (fun j _=>h.frozen _) h1
 simpa using this
end Go.Proofs.YtpibgolaaaemnaaGreatDoor
namespace Go.Proofs.YtpibgolaaaemnaaGreatDoor
open Go.RowKit
set_option maxRecDepth 100000
def dV (Z:List Value) (ax:Int) (dv:Value):List Value:=(Z.set 0 (.int .i64 ax)).set 1 dv
theorem iE (ax:Int) (dv:Value):(dV Tryz.zeroCells97.toList ax dv).length=188:=by
 rw[dV,List.length_set,List.length_set,Array.length_toList,Tryz.pQ]
theorem og (ax:Int) (dv:Value) (h:dv.oneCell'=true):∀ v∈dV Tryz.zeroCells97.toList ax dv,v.oneCell'=true:=by
 intro v hv
 rcases List.mem_or_eq_of_mem_set hv with hv | rfl
 ·rcases List.mem_or_eq_of_mem_set hv with hv | rfl
  ·have:=Tryz.He
   rw[Array.all_eq_true_iff_forall_mem] at this
   exact this v (Array.mem_toList_iff.1 hv)
  ·rfl
 ·exact h
set_option maxHeartbeats 1000000 in
theorem Az (ax:Int) (v:Value) (n:Nat) (xs:List Value) (w:World) (h0:0≤ax) (h1:ax≤300) (C:∀ w1,w.grownBy w1 none→Calls Tryz.prog 41 #[v] w1 fun e w'=>∃ ao c,e = .returned (.agg #[.slice ao n c])∧w'.ownsRow w1.heap.size 5 1 (.slice ao n c) n xs∧w1.grownBy w' none) :
  Calls Tryz.prog 28 #[.int .i64 ax,v] w fun e w'=>∃ ao c,e = .returned (.tuple #[.agg (dV Tryz.zeroCells97.toList ax (.slice ao n c)).toArray,.int .i64 0])∧w'.ownsRow (w.heap.size+1) 5 1 (.slice ao n c) n xs∧w.grownBy w' none:=by
 have hn:¬ ax<0:=by omega
 have hm:¬ 300<ax:=by omega
 have HC:=hid C
 clear C
 have HL:=hid (Live.new w Tryz.zeroCells97 97)
 have G0:=hid (World.grownBy_alloc w (.cells Tryz.zeroCells97 97) none)
 go_enter Tryz.func28,Tryz.ntmps28
 go_wp2_with fail
 refine (HC.out _ G0.out).mono ?_
 rintro e w1 ⟨ao,c,rfl,own,hg1⟩
 have L1:=HL.out.grown hg1
 rw[Tryz.pQ] at L1
 have hst:=gJ (P:=Tryz.prog) (dV Tryz.zeroCells97.toList ax (.slice ao n c)) L1 (by rw[iE];exact Nat.le_refl _) (og _ _ rfl)
 have RA:=World.rangeAt_setCells_same w1 w.heap.size 0 (dV Tryz.zeroCells97.toList ax (.slice ao n c)) (L1.there 0 _ (by rw[iE];omega))
 have RL:=hid (dN RA 97 _ Tryz.underlying97 rfl (by rw[Tryz.Ay,iE]))
 have GX:=hid (iK w.heap.size (Nat.le_refl _) (dV Tryz.zeroCells97.toList ax (.slice ao n c)) 0 w1 (ae G0.out hg1))
 have o1:w1.ownsRow (w.heap.size+1) 5 1 (.slice ao n c) n xs:=bZ own (by rw[World.size_alloc];exact Nat.le_refl _)
 have OX:Hid ((w1.setCells w.heap.size 0 (dV Tryz.zeroCells97.toList ax (.slice ao n c))).ownsRow (w.heap.size+1) 5 1 (.slice ao n c) n xs):=by
  refine pM o1 (fun b hb=>?_)
  have hlt:w.heap.size+1≤b:=by
   rcases o1.2 with ⟨hv,_⟩ | ⟨g',cap,cur,hv,hb',_⟩
   ·injection hv with e1 _ _;subst e1;cases hb
   ·injection hv with e1 _ _;subst e1;injection hb with hb;subst hb;exact hb'
  exact ((CF.setCells (a:=w1) (ex:=fun q _=>q=w.heap.size) w.heap.size _ 0 w1 (CF.refl _ _) (fun _ _ _=>rfl)).block b (by
   rcases o1.2 with ⟨hv,_⟩ | ⟨g',cap,cur,hv,_,hg,_⟩
   ·injection hv with e1 _ _;subst e1;cases hb
   ·injection hv with e1 _ _;subst e1;injection hb with hb;subst hb;exact (Array.getElem?_eq_some_iff.1 hg).1) (fun _ q=>by omega))
 unfold dV at hst RL GX OX
 clear RA L1 own hg1 o1
 go_wp2
 exact bodyPost_ret (aD Tryz.results28 _ _ _ w.heap.size rfl _ RL.out) rfl ⟨ao,c,rfl,OX.out,GX.out⟩
end Go.Proofs.YtpibgolaaaemnaaGreatDoor
namespace Go.Proofs.YtpibgolaaaemnaaGreatDoor
open Go.RowKit
set_option maxRecDepth 100000
theorem Jf (l:List Value):∀ (k:Nat) (Z:Array Value) (i:Nat),k+l.length≤Z.size→((l.zipIdx k).foldl (fun (acc:Array Value) (x:Value×Nat)=>acc.setIfInBounds x.snd x.fst) Z)[i]?=if k≤i∧i<k+l.length then l[i-k]? else Z[i]?:=by
 induction l with
 | nil=>intro k Z i _;rw[if_neg (by simp only[List.length_nil];omega)];rfl
 | cons x l ih=>
  intro k Z i h
  simp only[List.length_cons] at h
  rw[List.zipIdx_cons,List.foldl_cons,ih (k+1) _ i (by rw[Array.size_setIfInBounds];omega)]
  simp only[List.length_cons]
  by_cases h1:k+1≤i∧i<k+1+l.length
  ·rw[if_pos h1,if_pos (by omega),show i-k=(i-(k+1))+1 from by omega,List.getElem?_cons_succ]
  ·rw[if_neg h1]
   by_cases h2:i=k
   ·subst h2
    rw[if_pos (by omega),Nat.sub_self,List.getElem?_cons_zero,Array.getElem?_setIfInBounds_self_of_lt (by omega)]
   ·rw[if_neg (by omega),Array.getElem?_setIfInBounds_ne (by omega)]
theorem Pv (Z cs:Array Value) (h:cs.size=188) (hZ:Z.size=188):Array.foldl (fun cs x=>cs.setIfInBounds x.snd x.fst) Z cs.zipIdx 0 188=cs:=by
 have e:Array.foldl (fun (cs:Array Value) (x:Value×Nat)=>cs.setIfInBounds x.snd x.fst) Z cs.zipIdx 0 188=(cs.toList.zipIdx 0).foldl (fun (acc:Array Value) (x:Value×Nat)=>acc.setIfInBounds x.snd x.fst) Z:=by
  rw[←Array.toList_zipIdx,Array.foldl_toList,Array.size_zipIdx,h]
 rw[e]
 refine Array.ext_getElem? fun i=>?_
 rw[Jf cs.toList 0 Z i (by rw[Array.length_toList];omega),Array.length_toList,Nat.zero_add,Nat.sub_zero]
 by_cases hi:i<cs.size
 ·rw[if_pos ⟨Nat.zero_le _,hi⟩,Array.getElem?_toList]
 ·rw[if_neg (fun q=>hi q.2),Array.getElem?_eq_none (by omega),Array.getElem?_eq_none (by omega)]
theorem Tryz.yP:Tryz.zeroCells97[162]?=some (.int .i64 0):=by kernel_rfl
theorem Tryz.yQ:Tryz.zeroCells97[187]?=some (.int .i64 0):=by kernel_rfl
theorem Tryz.Pw:Tryz.zeroCells116.size=188:=by kernel_rfl
theorem LV {W:World} {b:Nat} {Z:Array Value} {ax:Int} {dv:Value} {dp:Option Pl} {bs:List UInt8} (hZ:Z.size=188) (h1:Z[162]?=some (.int .i64 0)) (h2:Z[187]?=some (.int .i64 0)) (hb:bI W b (dV Z.toList ax dv).toArray) (ho:Out W dv dp bs):cz W b 0 dp ⟨ax,[],[],bs⟩:=by
 have hl:Z.toList.length=188:=by rw[Array.length_toList,hZ]
 have hlen:(dV Z.toList ax dv).length=188:=by rw[dV,List.length_set,List.length_set,hl]
 have hcell:∀ j,W.cell? ⟨b,j,none⟩=(dV Z.toList ax dv)[j]?:=fun j=>by rw[hb.cell j,List.getElem?_toArray]
 have live:Live W b 188:=by
  obtain ⟨e,he⟩:=hb
  exact ⟨_,e,he,by rw[List.size_toArray,hlen];exact Nat.le_refl _⟩
 have lu:∀ j,1<j→(dV Z.toList ax dv)[j]?=Z[j]?:=fun j hj=>by
  rw[dV,List.getElem?_set_ne (by omega),List.getElem?_set_ne (by omega),Array.getElem?_toList]
 refine ⟨live,?_,⟨dv,?_,ho⟩,⟨live.mono (by omega),fun j u hu=>by simp[cK] at hu,?_,by simp⟩,fun j u hu=>by simp[bH] at hu,?_,by simp⟩
 ·rw[hcell,dV,List.getElem?_set_ne (by omega),List.getElem?_set_self (by omega)]
 ·rw[hcell,dV,List.getElem?_set_self (by rw[List.length_set];omega)]
 ·rw[hcell,lu _ (by omega)];exact h1
 ·rw[hcell,lu _ (by omega)];exact h2
set_option maxHeartbeats 1000000 in
theorem Jg (ax:Int) (v:Value) (n:Nat) (bs:List UInt8) (w:World) (h0:0≤ax) (h1:ax≤300) (C:∀ w1,w.grownBy w1 none→Calls Tryz.prog 41 #[v] w1 fun e w'=>∃ ao c,e = .returned (.agg #[.slice ao n c])∧w'.ownsRow w1.heap.size 5 1 (.slice ao n c) n (bs.map U8)∧w1.grownBy w' none) :
  Calls Tryz.prog 14 #[.int .i64 ax,v] w fun e w'=>∃ b dp,e = .returned (.tuple #[.pointer (some ⟨b,0,none⟩),.int .i64 0])∧cz w' b 0 dp ⟨ax,[],[],bs⟩∧w.heap.size≤b∧Pl.fresh w.heap.size dp∧(∀ q,dp=some q→q.g≠b)∧w.grownBy w' none:=by
 have HN:=hid (Az ax v n (bs.map U8) w h0 h1 C)
 clear C
 go_enter Tryz.func14,Tryz.ntmps14
 go_wp2_with fail
 refine HN.out.mono ?_
 rintro e w1 ⟨ao,c,rfl,own,hg1⟩
 obtain ⟨cs,rM⟩:∃ cs:Array Value,Hid (cs=(dV Tryz.zeroCells97.toList ax (.slice ao n c)).toArray):=⟨_,hid rfl⟩
 rw[←rM.out]
 have L1:=Live.new w1 Tryz.zeroCells97 97
 rw[Tryz.pQ] at L1
 have hcs:cs.size=188:=by rw[rM.out,List.size_toArray,iE]
 have hst:=gJ (P:=Tryz.prog) cs.toList L1 (by rw[Array.length_toList,hcs];exact Nat.le_refl _) (fun v hv=>og _ _ rfl v (by rw[rM.out] at hv;exact hv))
 have RA:=World.rangeAt_setCells_same (w1.alloc (.cells Tryz.zeroCells97 97)) w1.heap.size 0 cs.toList (L1.there 0 _ (by rw[Array.length_toList,hcs];omega))
 have SZ:(Tryz.prog.info? 97).map (·.size)=some cs.toList.length:=by rw[Tryz.Ay,Array.length_toList,hcs]
 have GW:=hid (iK w1.heap.size (Nat.le_refl _) cs.toList 0 _ (World.grownBy_alloc w1 (.cells Tryz.zeroCells97 97) none))
 have HX:=hid hcs
 have HR:=hid (And.intro RA SZ)
 have WO:=hid own
 have nH:=hid hg1
 clear L1 hcs own hg1 RA SZ HN
 go_wp2_with (refine wpList_load_mid rfl 97 _ rfl w1.heap.size 0 rfl cs.toList _ HR.out.1 Tryz.underlying97 rfl HR.out.2 ?_)
 have GF1:=ae GW.out (World.grownBy_alloc ((w1.alloc (.cells Tryz.zeroCells97 97)).setCells w1.heap.size 0 cs.toList) (.cells (Array.foldl (fun cs x=>cs.setIfInBounds x.snd x.fst) Tryz.zeroCells116 cs.zipIdx 0 188) 116) none)
 have BF:=bI.new ((w1.alloc (.cells Tryz.zeroCells97 97)).setCells w1.heap.size 0 cs.toList) (Array.foldl (fun cs x=>cs.setIfInBounds x.snd x.fst) Tryz.zeroCells116 cs.zipIdx 0 188) 116
 obtain ⟨dp,HO,hfr⟩:=Out.own WO.out
 have hq:∀ q,dp=some q→q.g<w1.heap.size:=by
  intro q e
  rcases HO with ⟨h,_⟩ | ⟨q',h,_,_,_,hl,_⟩
  ·rw[h] at e;cases e
  ·rw[h] at e;cases e;exact hl.lt
 have hsz:=GW.out.size
 have hs1:=nH.out.size
 go_ret2
 refine ⟨_,dp,rfl,LV Tryz.pQ Tryz.yP Tryz.yQ ?_ (HO.cf (CF.aW GF1 (fun _ _=>False)) (fun _ _ _ _ e=>e)),by omega,fun q e=>by have:=hfr q e;omega,fun q e=>by have:=hq q e;omega,ae nH.out GF1⟩
 have e:=Pv _ _ HX.out Tryz.Pw
 rw[←rM.out,e]
 rw[e] at BF
 exact BF
end Go.Proofs.YtpibgolaaaemnaaGreatDoor
