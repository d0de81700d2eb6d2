import Derived.Test.YteknelimjfgmaaaGreatDoorGJPBookF
import Derived.Test.YteknelimjfgmaaaGreatDoorGJSep
namespace Go.Proofs.YteknelimjfgmaaaGreatDoor
set_option maxHeartbeats 4000000
open Proofs.Tryz Go.RowKit
set_option maxRecDepth 100000
variable {es:List BE}
theorem Ju {a:jV} (h:a.kind=1):gy es a=yC es a:=by rw[gy,if_pos h];rfl
theorem sG {a:jV} (h:a.kind=2\/a.kind=3\/a.kind=4) (hn:(BE.ny es a.name).isSome=false):gy es a=(es,6):=by
 rw[gy,if_neg afp,if_pos h];cases e:BE.ny es a.name with
 | none=>rfl
 | some i=>rw[e] at hn;cases hn
theorem Jv {a:jV} (h:a.kind=2) (i:Nat) (hn:BE.ny es a.name=some i):gy es a=(es.take i++es.drop (i+1),0):=by
 rw[gy,if_neg afp,if_pos (.inl h)];simp only[hn];rw[if_pos h]
theorem Cf {a:jV} (h:a.kind=3) (i:Nat) (hi:i<es.length) (hn:BE.ny es a.name=some i):gy es a=(es.set i (es[i].iU a.key),0):=by
 rw[gy,if_neg afp,if_pos (.inr (.inl h))];simp only[hn];rw[if_neg afp];simp only[cr hi];rw[if_pos h]
theorem MI {a:jV} (h:a.kind=4) (i:Nat) (hi:i<es.length) (hn:BE.ny es a.name=some i) (hp:a.oN=true):gy es a=(es.set i (es[i].qa a),0):=by
 rw[gy,if_neg afp,if_pos (.inr (.inr h))];simp only[hn];rw[if_neg afp];simp only[cr hi];rw[if_neg afp,if_neg (by rw[hp];simp)]
theorem TU {a:jV} (h:a.kind=4) (i:Nat) (hi:i<es.length) (hn:BE.ny es a.name=some i) (hp:a.oN=false):gy es a=(es,1):=by
 rw[gy,if_neg afp,if_pos (.inr (.inr h))];simp only[hn];rw[if_neg afp];simp only[cr hi];rw[if_neg afp,if_pos hp]
theorem MJ {a:jV} (h1:a.kind≠1) (h2:a.kind≠2) (h3:a.kind≠3) (h4:a.kind≠4):gy es a=(es,1):=by
 rw[gy,if_neg h1,if_neg afp]
theorem MK (g o:Nat) (es:List BE) (a:jV) (w:World) (h:bY w g o es) (hs:es.Pairwise (fun x y=>Op.bytesLess x.name y.name=true)) (iL:∀ e∈es,1<=e.aH/\e.aH<=4611686018427387904) (hf0:-9223372036854775808<=a.ay) (hf1:a.ay<=9223372036854775807) (hl:a.name.length<=9223372036854775807) :
  Calls prog 94 #[.pointer (some ⟨g,o,none⟩),.agg a.cells] w fun e w'=>e = .returned (.int .i64 (gy es a).2)/\bY w' g o (gy es a).1/\CF w w' (GJ g o):=by
 have HAdd:=hid (fun w h=>XL g o es a w h hs hf0 hf1 hl)
 have Jw:=hid (fun w h=>MH g o es a.name ⟨a.name.toArray⟩ w h hs (hid rfl))
 have Jy:=hid (fun w h=>Qj g o es a.name ⟨a.name.toArray⟩ a.key w h hs (hid rfl) iL)
 have Jz:=hid (fun w h=>GK g o es a.name ⟨a.name.toArray⟩ a w h hs (hid rfl) hf0 hf1)
 have OJ:=hid (fun w=>yB a w)
 have G0:=hid (aE w (.cells a.cells 41) none)
 have HB:=hid (h.grown G0.o)
 have XM:=hid (wN.new w a 41)
 have hlt:=h.live.lt
 clear h hs iL hf0 hf1 hl
 by_cases k1:a.kind=1
 ·have HK:=hid k1;have kb:(a.kind==1)=true:=by rw[k1];rfl
  clear k1;go_enter func94,ntmps94;go_wp2_with fail;refine (HAdd.o _ HB.o).mono ?_;rintro e w1 ⟨rfl,hb1,hc1⟩;have C:=CF.before G0.o hc1;clear hc1 HAdd Jw Jy Jz OJ;go_wp2;go_ret;exact ⟨by rw[Ju HK.o];rfl,by rw[Ju HK.o];exact hb1,C⟩
 by_cases k2:a.kind=2
 ·have HK:=hid k2;have kb:(a.kind==1)=false:=by rw[k2];rfl
  have kc:(a.kind==2)=true:=by rw[k2];rfl
  clear k1 k2;go_enter func94,ntmps94;go_wp2_with fail;refine (Jw.o _ HB.o).mono ?_;rintro e w1 (HP:Hid _);cases hat:BE.ny es a.name with
  | none=>
   have HT:Hid ((BE.ny es a.name).isSome=false):=(by show _=_;rw[hat];rfl);obtain ⟨rfl,hg⟩:=HP.o.1 HT.o;clear HAdd Jw Jy Jz OJ HP hat;go_wp2;go_ret;exact ⟨by rw[sG (.inl HK.o) HT.o];rfl,by rw[sG (.inl HK.o) HT.o];exact HB.o.grown hg,CF.bN (aa G0.o hg) _⟩
  | some i=>
   have HT:=hid hat;obtain ⟨rfl,hb1,hc1⟩:=HP.o.2 i HT.o;clear HAdd Jw Jy Jz OJ HP hat;go_wp2;go_ret;exact ⟨by rw[Jv HK.o i HT.o];rfl,by rw[Jv HK.o i HT.o];exact hb1,CF.before G0.o hc1⟩
 by_cases k3:a.kind=3
 ·have HK:=hid k3;have kb:(a.kind==1)=false:=by rw[k3];rfl
  have kc:(a.kind==2)=false:=by rw[k3];rfl
  have kd:(a.kind==3)=true:=by rw[k3];rfl
  clear k1 k2 k3;go_enter func94,ntmps94;go_wp2_with fail;refine (Jy.o _ HB.o).mono ?_;rintro e w1 (HP:Hid _);cases hat:BE.ny es a.name with
  | none=>
   have HT:Hid ((BE.ny es a.name).isSome=false):=(by show _=_;rw[hat];rfl);obtain ⟨rfl,hg⟩:=HP.o.1 HT.o;clear HAdd Jw Jy Jz OJ HP hat;go_wp2;go_ret;exact ⟨by rw[sG (.inr (.inl HK.o)) HT.o];rfl,by rw[sG (.inr (.inl HK.o)) HT.o];exact HB.o.grown hg,CF.bN (aa G0.o hg) _⟩
  | some i=>
   have HT:=hid hat;obtain ⟨hi,_⟩:=Bb hat;obtain ⟨rfl,hb1,hc1⟩:=HP.o.2 i hi HT.o;clear HAdd Jw Jy Jz OJ HP hat;go_wp2;go_ret;exact ⟨by rw[Cf HK.o i hi HT.o];rfl,by rw[Cf HK.o i hi HT.o];exact hb1,CF.before G0.o hc1⟩
 by_cases k4:a.kind=4
 ·have HK:=hid k4;have kb:(a.kind==1)=false:=by rw[k4];rfl
  have kc:(a.kind==2)=false:=by rw[k4];rfl
  have kd:(a.kind==3)=false:=by rw[k4];rfl
  have ke:(a.kind==4)=true:=by rw[k4];rfl
  clear k1 k2 k3 k4;have ad5:Hid (∀ w,bY w g o es->Calls prog 137 #[.pointer (some ⟨g,o,none⟩),.string ⟨a.name.toArray⟩,.agg (uY a.bI a.aD a.bC a.ay)] w fun e w'=>e = .returned (.int .i64 (gy es a).2)/\bY w' g o (gy es a).1/\CF w w' (GJ g o)):=by
   intro w h;refine (Jz.o w h).mono ?_;rintro e w' ⟨p1,p2,p3⟩;cases hat:BE.ny es a.name with
   | none=>
    have ht:(BE.ny es a.name).isSome=false:=(by rw[hat];rfl);obtain ⟨rfl,hg⟩:=p1 ht;rw[sG (.inr (.inr HK.o)) ht];exact ⟨rfl,h.grown hg,CF.bN hg _⟩
   | some i=>
    obtain ⟨hi,_⟩:=Bb hat;cases hp:a.oN with
    | false=>
     obtain ⟨rfl,hg⟩:=p2 (by rw[hat];rfl) hp;rw[TU HK.o i hi hat hp];exact ⟨rfl,h.grown hg,CF.bN hg _⟩
    | true=>
     obtain ⟨rfl,hb,hc⟩:=p3 i hi hat hp;rw[MI HK.o i hi hat hp];exact ⟨rfl,hb,hc⟩
  have hne:w.heap.size≠g:=fun e=>by have:=hlt;omega
  obtain ⟨c0,c1,c2,c3,c4,c5,c6⟩:=XM.o;clear HAdd Jw Jy Jz;go_enter func94,ntmps94;go_wp2_with fail;go_region_held3 (fun w'=>w'.cell? ⟨w.heap.size,0,none⟩=some (.int .i64 a.kind)/\w'.cell? ⟨w.heap.size,1,none⟩=some (.string ⟨a.name.toArray⟩)/\w'.cell? ⟨w.heap.size,2,none⟩=some (.int .u64 (a.key.toNat:Int))/\w'.cell? ⟨w.heap.size,3,none⟩=some (.int .i64 a.bI)/\w'.cell? ⟨w.heap.size,4,none⟩=some (.int .i64 a.aD)/\w'.cell? ⟨w.heap.size,5,none⟩=some (.int .i64 a.bC)/\w'.cell? ⟨w.heap.size,6,none⟩=some (.int .i64 a.ay)) (go_keep) (first|(go_at_call 138;refine (OJ.o _).mono ?_;rintro e w5 ⟨rfl,hg5⟩;have G5:=iN hg5;have B5:=HB.o.grown G5;have d0:=dR G5 c0;have d1:=dR G5 c1;have d2:=dR G5 c2;have d3:=dR G5 c3;have d4:=dR G5 c4;have d5:=dR G5 c5;have d6:=dR G5 c6;clear hg5)|(go_at_call 137;refine (ad5.o _ B5).mono ?_;rintro e w6 ⟨rfl,b6,C6⟩;have e0:=C6.cell d0 (fun q=>hne q.1);have e1:=C6.cell d1 (fun q=>hne q.1);have e2:=C6.cell d2 (fun q=>hne q.1);have e3:=C6.cell d3 (fun q=>hne q.1);have e4:=C6.cell d4 (fun q=>hne q.1);have e5:=C6.cell d5 (fun q=>hne q.1);have e6:=C6.cell d6 (fun q=>hne q.1)));go_wp2;go_ret;exact ⟨rfl,b6,CF.before (aa G0.o G5) C6⟩
 ·have kb:(a.kind==1)=false:=by rw[cg];exact k1
  have kc:(a.kind==2)=false:=by rw[cg];exact k2
  have kd:(a.kind==3)=false:=by rw[cg];exact k3
  have ke:(a.kind==4)=false:=by rw[cg];exact k4
  have HW:Hid (gy es a=(es,1)):=MJ k1 k2 k3 k4;clear HAdd Jw Jy Jz OJ k1 k2 k3 k4;go_enter func94,ntmps94;go_wp2;go_ret;exact ⟨by rw[HW.o];rfl,by rw[HW.o];exact HB.o,CF.bN G0.o _⟩
theorem En (g o:Nat) (es:List BE) (a:jV) (w:World) (h:bY w g (o+2) es) (hs:es.Pairwise (fun x y=>Op.bytesLess x.name y.name=true)) (iL:∀ e∈es,1<=e.aH/\e.aH<=4611686018427387904) (hf0:-9223372036854775808<=a.ay) (hf1:a.ay<=9223372036854775807) (hl:a.name.length<=9223372036854775807) :
  Calls Tryz.prog 55 #[.pointer (some ⟨g,o,none⟩),.agg a.cells] w fun e w'=>e = .returned (.int .i64 (gy es a).2)/\bY w' g (o+2) (gy es a).1/\CF w w' (GJ g (o+2)):=by
 have HCh:=hid (fun w h=>MK g (o+2) es a w h hs iL hf0 hf1 hl)
 have G0:=hid (aE w (.cells a.cells 41) none)
 have HB:=hid (h.grown G0.o)
 have hlt:=h.live.lt
 have hne:w.heap.size≠g:=fun e=>by omega
 obtain ⟨c0,c1,c2,c3,c4,c5,c6⟩:=wN.new w a 41
 clear h hs iL hf0 hf1 hl
 go_enter Tryz.func55,Tryz.ntmps55
 go_wp2_with fail
 go_region_held3 (fun w'=>w'.cell? ⟨w.heap.size,0,none⟩=some (.int .i64 a.kind)/\w'.cell? ⟨w.heap.size,1,none⟩=some (.string ⟨a.name.toArray⟩)/\w'.cell? ⟨w.heap.size,2,none⟩=some (.int .u64 (a.key.toNat:Int))/\w'.cell? ⟨w.heap.size,3,none⟩=some (.int .i64 a.bI)/\w'.cell? ⟨w.heap.size,4,none⟩=some (.int .i64 a.aD)/\w'.cell? ⟨w.heap.size,5,none⟩=some (.int .i64 a.bC)/\w'.cell? ⟨w.heap.size,6,none⟩=some (.int .i64 a.ay)) (go_keep) (first|(go_at_call 94;refine (HCh.o _ (HB.o.drewN 1)).mono ?_;rintro e w6 ⟨rfl,b6,C6⟩;have e0:=C6.dG.cell c0 (fun q=>hne q.1);have e1:=C6.dG.cell c1 (fun q=>hne q.1);have e2:=C6.dG.cell c2 (fun q=>hne q.1);have e3:=C6.dG.cell c3 (fun q=>hne q.1);have e4:=C6.dG.cell c4 (fun q=>hne q.1);have e5:=C6.dG.cell c5 (fun q=>hne q.1);have e6:=C6.dG.cell c6 (fun q=>hne q.1)))
 go_wp2
 go_ret
 exact ⟨rfl,b6,CF.before G0.o C6.dG⟩
def PF.bG (p:PF):List Value:=[.string ⟨p.ax.toArray⟩,.int .i64 p.time,.int .i64 p.count]
def bZ (l:List PF):List Value:=(l.map PF.bG).flatten
theorem iH (l:List PF):(bZ l).length=l.length*3:=by
 induction l with
 | nil=>rfl
 | cons x l ih=>simp only[bZ,dj,dk,bj,cN] at *;rw[ih];show 3+_=_;omega
structure dO (w:World) (g o:Nat) (dp:Option Pl) (d:DM):Prop where
 live:Live w g (o+188)
 aC:w.cell? ⟨g,o,none⟩=some (.int .i64 d.aC)
 aO:∃ v,w.cell? ⟨g,o+1,none⟩=some v/\Out w v dp d.aO
 bg:bY w g (o+2) d.bg
 aN:w.rangeAt g (o+163) (bZ d.aN)
 count:w.cell? ⟨g,o+187,none⟩=some (.int .i64 d.aN.length)
 few:d.aN.length<=8
variable {g:Nat} {w:World}
theorem Qn {base b j:Nat} {e:TypeId} {n c:Nat} {u:Value} {xs:List Value} (h:w.ownsRow base e 1 (.slice (some ⟨g,0,none⟩) n c) n xs) (hb:b<base):(w.setCell ⟨b,j,none⟩ u).ownsRow base e 1 (.slice (some ⟨g,0,none⟩) n c) n xs:=by
 have hg:base<=g:=by
  rcases h.2 with ⟨hv,_⟩ | ⟨g',cap,cur,hv,hb',_⟩
  ·cases hv
  ·injection hv with e1 _ _;injection e1 with e1;injection e1 with e1 _ _;subst e1;exact hb'
 exact eF h (fun k hk=>by injection hk with hk;subst hk;exact Below.heap_setCell w _ u _ (by show g≠b;omega))
theorem uy {fn:Func} {a:Tmp} {ty:TypeId} (h:fn.results=#[.cell a ty]) (tmps:Array Value) (P:Program) (w:World) (b:Nat) (hp:tmps.getD a undef = .pointer (some ⟨b,0,none⟩)) (x:Value) (hl:(loadVar ty ⟨b,0,none⟩).run P w = .ok x w) :
  (results fn tmps).run P w = .ok x w:=by
 have hp':tmps[a]?.getD undef = .pointer (some ⟨b,0,none⟩):=by simpa using hp
 exact ac1
theorem dO.cf {w':World} {ex:Nat->Nat->Prop} {o:Nat} {dp:Option Pl} {d:DM} (h:dO w g o dp d) (k:CF w w' ex) (hx:∀ j,o<=j->j<o+188->¬ ex g j) (hd:∀ q,dp=some q->∀ j,j<d.aO.length->¬ ex q.g (q.off+j)):dO w' g o dp d:=by
 obtain ⟨v,hv,ho⟩:=h.aO;exact ⟨h.live.cf k,k.cell h.aC (hx _ afp afp),⟨v,k.cell hv (hx _ afp afp),ho.cf k hd⟩,h.bg.cf k (fun j h1 h2=>hx j afp afp),k.range h.aN (fun j hj=>hx _ afp (by rw[iH] at hj;have:=h.few;omega)),k.cell h.count (hx _ afp afp),h.few⟩
theorem dO.grown {w':World} {o:Nat} {dp:Option Pl} {d:DM} (h:dO w g o dp d) (k:w.grownBy w' none):dO w' g o dp d:=h.cf (CF.bN k (fun _ _=>False)) (fun _ _ _ e=>e) (fun _ _ _ _ e=>e)
theorem Cg (g:Nat) (es:List BE) (a:jV) (w:World) (h:bY w g 2 es) (hs:es.Pairwise (fun x y=>Op.bytesLess x.name y.name=true)) (iL:∀ e∈es,1<=e.aH/\e.aH<=4611686018427387904) (hf0:-9223372036854775808<=a.ay) (hf1:a.ay<=9223372036854775807) (hl:a.name.length<=9223372036854775807) :
  Calls Tryz.prog 31 #[.pointer (some ⟨g,0,none⟩),.agg a.cells] w fun e w'=>e = .returned (.int .i64 (gy es a).2)/\bY w' g 2 (gy es a).1/\CF w w' (GJ g 2):=by
 have HCh:=hid (fun w h=>En g 0 es a w h hs iL hf0 hf1 hl)
 have G0:=hid (aE w (.cells a.cells 41) none)
 have HB:=hid (h.grown G0.o)
 have hlt:=h.live.lt
 have hne:w.heap.size≠g:=fun e=>by omega
 obtain ⟨c0,c1,c2,c3,c4,c5,c6⟩:=wN.new w a 41
 clear h hs iL hf0 hf1 hl
 go_enter Tryz.func31,Tryz.ntmps31
 go_wp2_with fail
 go_region_held3 (fun w'=>w'.cell? ⟨w.heap.size,0,none⟩=some (.int .i64 a.kind)/\w'.cell? ⟨w.heap.size,1,none⟩=some (.string ⟨a.name.toArray⟩)/\w'.cell? ⟨w.heap.size,2,none⟩=some (.int .u64 (a.key.toNat:Int))/\w'.cell? ⟨w.heap.size,3,none⟩=some (.int .i64 a.bI)/\w'.cell? ⟨w.heap.size,4,none⟩=some (.int .i64 a.aD)/\w'.cell? ⟨w.heap.size,5,none⟩=some (.int .i64 a.bC)/\w'.cell? ⟨w.heap.size,6,none⟩=some (.int .i64 a.ay)) (go_keep) (first|(go_at_call 55;refine (HCh.o _ (HB.o.drewN 1)).mono ?_;rintro e w6 ⟨rfl,b6,C6⟩;have e0:=C6.dG.cell c0 (fun q=>hne q.1);have e1:=C6.dG.cell c1 (fun q=>hne q.1);have e2:=C6.dG.cell c2 (fun q=>hne q.1);have e3:=C6.dG.cell c3 (fun q=>hne q.1);have e4:=C6.dG.cell c4 (fun q=>hne q.1);have e5:=C6.dG.cell c5 (fun q=>hne q.1);have e6:=C6.dG.cell c6 (fun q=>hne q.1)))
 go_wp2
 go_ret
 exact ⟨rfl,b6,CF.before G0.o C6.dG⟩
theorem Tryz.Fq:(prog.info? 122).map (·.size)=some 1:=by kernel_rfl
theorem TV {w w':World} (h:w.grownBy w' none) {a:Addr} {v:Value} (hc:w.cell? a=some v):w'.cell? a=some v:=by
 rw[World.cell?_of_block (h.block a.block (World.block_lt_of_cell? w _ hc) aft)];exact hc
theorem ad6 (a:Addr) (n c:Nat) (bs:List UInt8) (w:World) (hn:Hid (bs.length=n)) (hbig:n<=140737488355328) (hc:∀ i,i<n->w.cell? (a.add i)=some (.int .u8 ((bs.map fun z=>(z.toNat:Int)).getD i 0))) :
  Calls prog 93 #[.slice (some a) n c] w fun e w'=>∃ v,e = .returned (.agg #[v])/\w'.ownsRow w.heap.size 5 1 v n (bs.map U8)/\w.grownBy w' none:=by
 have G0:=hid (aE w (.cells #[.slice none 0 0] 122) none)
 have HL:Hid (Live (w.alloc (.cells #[.slice none 0 0] 122)) w.heap.size 1):=Live.new w _ _
 go_enter func93,ntmps93
 go_wp2_with fail
 refine (Tryz.bytes_Clone_at a n c (bs.map fun z=>(z.toNat:Int)) _ (by rw[cw];exact hn.o) hbig (fun i hi=>?_)).mono ?_
 ·exact TV G0.o (hc i hi)
 rintro e w1 ⟨v,rfl,own,hnz,hb⟩;have G1:World.grownBy (w.alloc (.cells #[.slice none 0 0] 122)) w1 none:=⟨hb.os,hb.tape,hb.output,hb.size,fun b hb' _=>hb.block b hb'⟩
 have L:=HL.o.grown G1;obtain ⟨d0,q0⟩:=bw.1 (L.some 0 afq);have f0:=L.frozen 0;have GX:=hid (aa G0.o G1);have OW:=hid own;obtain ⟨va,vc,rfl⟩:=cu own;have HZ:=hid hnz;clear own hb L G1 hc hnz;go_wp2;have s0:w.heap.size<w.heap.size+1:=Nat.lt_succ_self _;have hs:w.heap.size+1<=(w.alloc (.cells #[.slice none 0 0] 122)).heap.size:=by rw[ch];exact bd _
 have o1:=fT OW.o hs;rw[List.map_map] at o1;obtain ⟨gg,hgg⟩:∃ gg,va=some ⟨gg,0,none⟩:=by
  rcases o1.2 with ⟨hv,_⟩ | ⟨gg,cap,cur,hv,_⟩
  ·exact absurd hv HZ.o
  ·injection hv with e1 _ _;exact ⟨gg,e1⟩
 subst hgg;refine bodyPost_ret (uy results93 _ _ _ w.heap.size rfl _ (ji (cs:=[.slice (some ⟨gg,0,none⟩) n vc]) (fun j u hu=>?_) 122 _ underlying122 rfl Tryz.Fq)) rfl ⟨_,rfl,?_,?_⟩
 ·match j,hu with
  | 0,hu=>injection hu with hu;subst hu;exact dB _ q0
  | j+1,hu=>simp at hu
 ·exact fT (Qn o1 s0) (gn _)
 ·exact az GX.o (bd _)
theorem Tryz.Ch:(prog.info? 136).map (·.size)=some 188:=by kernel_rfl
theorem Tryz.oF:zeroCells136.size=188:=by kernel_rfl
theorem Tryz.Aa:zeroCells136.all (·.oneCell')=true:=by kernel_rfl
theorem jq {P:Program} {W:World} {b n:Nat} (vs:List Value) (h:Live W b n) (hn:vs.length<=n) (h1:∀ v∈vs,v.oneCell'=true):(storeCells ⟨b,0,none⟩ vs).run P W = .ok () (W.setCells b 0 vs):=by
 have:=run_storeCells_cells (P:=P) b 0 vs 0 W (fun j hj=>h.some _ afp) (fun j _=>h.frozen _) h1;simpa using this
theorem acx {p:Prop} (h:p:=by
 go_enter func53,ntmps53
 go_wp2
 exact bodyPost_ret (aJ results53 _ _ _ w.heap.size rfl _ RL.o) rfl ⟨_,Tryz.oF,(by first | exact HO.o|(intro v hv;exact HO.o v (Array.mem_toList_iff.2 hv))),rfl,G.o⟩):p:=h
theorem JA (aC:Int) (v:Value) (w:World) (h:aC<0\/300<aC) :
  Calls prog 53 #[.int .i64 aC,v] w fun e w'=>∃ x:Array Value,x.size=188/\(∀ v∈x.toList,v.oneCell'=true)/\e = .returned (.tuple #[.agg x,.int .i64 1])/\w.grownBy w' none:=by
 have HL:=hid (Live.new w zeroCells136 136)
 have HO:Hid (∀ v∈zeroCells136.toList,v.oneCell'=true):=fun v hv=>by have:=Tryz.Aa;rw[Array.all_eq_true_iff_forall_mem] at this;exact this v (Array.mem_toList_iff.1 hv)
 have hst:=jq (P:=prog) zeroCells136.toList HL.o (by rw[db];exact bd _) HO.o
 have G:=hid (ma w.heap.size (bd _) zeroCells136.toList 0 _ (aE w (.cells zeroCells136 136) none))
 have R:=hid (World.rangeAt_setCells_same (w.alloc (.cells zeroCells136 136)) w.heap.size 0 zeroCells136.toList (HL.o.there 0 _ (by rw[db];omega)))
 have RL:=hid (ji R.o 136 _ underlying136 rfl (by rw[Tryz.Ch,db,Tryz.oF]))
 rcases h with h | h
 ·exact acx
 ·have h0:¬ aC<0:=by omega
  exact acx
def gG (Z:List Value) (aC:Int) (dv:Value):List Value:=(Z.set 0 (.int .i64 aC)).set 1 dv
theorem mr (aC:Int) (dv:Value):(gG zeroCells136.toList aC dv).length=188:=by
 rw[gG,cU,cU,db,Tryz.oF]
theorem Ab (aC:Int) (dv:Value) (h:dv.oneCell'=true):∀ v∈gG zeroCells136.toList aC dv,v.oneCell'=true:=by
 intro v hv;rcases eJ hv with hv | rfl
 ·rcases eJ hv with hv | rfl
  ·have:=Tryz.Aa;rw[Array.all_eq_true_iff_forall_mem] at this;exact this v (Array.mem_toList_iff.1 hv)
  ·rfl
 ·exact h
theorem ML (aC:Int) (v:Value) (n:Nat) (xs:List Value) (w:World) (h0:0<=aC) (h1:aC<=300) (C:∀ w1,w.grownBy w1 none->Calls prog 93 #[v] w1 fun e w'=>∃ ao c,e = .returned (.agg #[.slice ao n c])/\w'.ownsRow w1.heap.size 5 1 (.slice ao n c) n xs/\w1.grownBy w' none) :
  Calls prog 53 #[.int .i64 aC,v] w fun e w'=>∃ ao c,e = .returned (.tuple #[.agg (gG zeroCells136.toList aC (.slice ao n c)).toArray,.int .i64 0])/\w'.ownsRow (w.heap.size+1) 5 1 (.slice ao n c) n xs/\w.grownBy w' none:=by
 have hn:¬ aC<0:=by omega
 have hm:¬ 300<aC:=by omega
 have HC:=hid C
 clear C
 have HL:=hid (Live.new w zeroCells136 136)
 have G0:=hid (aE w (.cells zeroCells136 136) none)
 go_enter func53,ntmps53
 go_wp2_with fail
 refine (HC.o _ G0.o).mono ?_
 rintro e w1 ⟨ao,c,rfl,own,hg1⟩
 have L1:=HL.o.grown hg1
 rw[Tryz.oF] at L1
 have hst:=jq (P:=prog) (gG zeroCells136.toList aC (.slice ao n c)) L1 (by rw[mr];exact bd _) (Ab _ _ rfl)
 have RA:=World.rangeAt_setCells_same w1 w.heap.size 0 (gG zeroCells136.toList aC (.slice ao n c)) (L1.there 0 _ (by rw[mr];omega))
 have RL:=hid (ji RA 136 _ underlying136 rfl (by rw[Tryz.Ch,mr]))
 have GX:=hid (ma w.heap.size (bd _) (gG zeroCells136.toList aC (.slice ao n c)) 0 w1 (aa G0.o hg1))
 have o1:w1.ownsRow (w.heap.size+1) 5 1 (.slice ao n c) n xs:=fT own (by rw[ch];exact bd _)
 have OX:Hid ((w1.setCells w.heap.size 0 (gG zeroCells136.toList aC (.slice ao n c))).ownsRow (w.heap.size+1) 5 1 (.slice ao n c) n xs):=by
  refine eF o1 (fun b hb=>?_);have hlt:w.heap.size+1<=b:=by
   rcases o1.2 with ⟨hv,_⟩ | ⟨g',cap,cur,hv,hb',_⟩
   ·injection hv with e1 _ _;subst e1;cases hb
   ·injection hv with e1 _ _;subst e1;injection hb with hb;subst hb;exact hb'
  exact ((CF.setCells (a:=w1) (ex:=fun q _=>q=w.heap.size) w.heap.size _ 0 w1 (CF.refl _ _) (fun _ _ _=>rfl)).block b (by
   rcases o1.2 with ⟨hv,_⟩ | ⟨g',cap,cur,hv,_,hg,_⟩
   ·injection hv with e1 _ _;subst e1;cases hb
   ·injection hv with e1 _ _;subst e1;injection hb with hb;subst hb;exact (eA.1 hg).1) (fun _ q=>by omega))
 unfold gG at hst RL GX OX
 clear RA L1 own hg1 o1
 go_wp2
 exact bodyPost_ret (aJ results53 _ _ _ w.heap.size rfl _ RL.o) rfl ⟨ao,c,rfl,OX.o,GX.o⟩
theorem TW (l:List Value):∀ (k:Nat) (Z:Array Value) (i:Nat),k+l.length<=Z.size->((l.zipIdx k).foldl (fun (acc:Array Value) (x:Value×Nat)=>acc.setIfInBounds x.snd x.fst) Z)[i]?=if k<=i/\i<k+l.length then l[i-k]? else Z[i]?:=by
 induction l with
 | nil=>intro k Z i _;rw[if_neg (by simp only[List.length_nil];omega)];rfl
 | cons x l ih=>
  intro k Z i h;simp only[cN] at h;rw[List.zipIdx_cons,List.foldl_cons,ih (k+1) _ i (by rw[Array.size_setIfInBounds];omega)];simp only[cN];by_cases h1:k+1<=i/\i<k+1+l.length
  ·rw[if_pos h1,if_pos afp,show i-k=(i-(k+1))+1 from by omega,cD]
  ·rw[if_neg h1];by_cases h2:i=k
   ·subst h2;rw[if_pos afp,gE,ct,Array.getElem?_setIfInBounds_self_of_lt afp]
   ·rw[if_neg afp,Array.getElem?_setIfInBounds_ne afp]
theorem Qo (Z cs:Array Value) (h:cs.size=188) (hZ:Z.size=188):Array.foldl (fun cs x=>cs.setIfInBounds x.snd x.fst) Z cs.zipIdx 0 188=cs:=by
 have e:Array.foldl (fun (cs:Array Value) (x:Value×Nat)=>cs.setIfInBounds x.snd x.fst) Z cs.zipIdx 0 188=(cs.toList.zipIdx 0).foldl (fun (acc:Array Value) (x:Value×Nat)=>acc.setIfInBounds x.snd x.fst) Z:=by
  rw[<-Array.toList_zipIdx,Array.foldl_toList,Array.size_zipIdx,h]
 rw[e];refine Array.ext_getElem? fun i=>?_;rw[TW cs.toList 0 Z i (by rw[db];omega),db,cC,Nat.sub_zero];by_cases hi:i<cs.size
 ·rw[if_pos ⟨cE _,hi⟩,Array.getElem?_toList]
 ·rw[if_neg (fun q=>hi q.2),eM afp,eM afp]
theorem Tryz.JB:zeroCells136[162]?=some (.int .i64 0):=by kernel_rfl
theorem Tryz.JC:zeroCells136[187]?=some (.int .i64 0):=by kernel_rfl
theorem Tryz.Qp:zeroCells140.size=188:=by kernel_rfl
theorem MM {W:World} {b:Nat} {Z:Array Value} {aC:Int} {dv:Value} {dp:Option Pl} {bs:List UInt8} (hZ:Z.size=188) (h1:Z[162]?=some (.int .i64 0)) (h2:Z[187]?=some (.int .i64 0)) (hb:dX W b (gG Z.toList aC dv).toArray) (ho:Out W dv dp bs):dO W b 0 dp ⟨aC,[],[],bs⟩:=by
 have hl:Z.toList.length=188:=by rw[db,hZ]
 have hlen:(gG Z.toList aC dv).length=188:=by rw[gG,cU,cU,hl]
 have hcell:∀ j,W.cell? ⟨b,j,none⟩=(gG Z.toList aC dv)[j]?:=fun j=>by rw[hb.cell j,cx]
 have live:Live W b 188:=by
  obtain ⟨e,he⟩:=hb;exact ⟨_,e,he,by rw[List.size_toArray,hlen];exact bd _⟩
 have pI:∀ j,1<j->(gG Z.toList aC dv)[j]?=Z[j]?:=fun j hj=>by
  rw[gG,fm afp,fm afp,Array.getElem?_toList]
 refine ⟨live,?_,⟨dv,?_,ho⟩,⟨live.mono afp,fun j u hu=>by simp[dL] at hu,?_,by simp⟩,fun j u hu=>by simp[bZ] at hu,?_,by simp⟩
 ·rw[hcell,gG,fm afp,List.getElem?_set_self afp]
 ·rw[hcell,gG,List.getElem?_set_self (by rw[cU];omega)]
 ·rw[hcell,pI _ afp];exact h1
 ·rw[hcell,pI _ afp];exact h2
theorem JD (aC:Int) (v:Value) (n:Nat) (bs:List UInt8) (w:World) (h0:0<=aC) (h1:aC<=300) (C:∀ w1,w.grownBy w1 none->Calls prog 93 #[v] w1 fun e w'=>∃ ao c,e = .returned (.agg #[.slice ao n c])/\w'.ownsRow w1.heap.size 5 1 (.slice ao n c) n (bs.map U8)/\w1.grownBy w' none) :
  Calls prog 28 #[.int .i64 aC,v] w fun e w'=>∃ b dp,e = .returned (.tuple #[.pointer (some ⟨b,0,none⟩),.int .i64 0])/\dO w' b 0 dp ⟨aC,[],[],bs⟩/\w.heap.size<=b/\Pl.fresh w.heap.size dp/\(∀ q,dp=some q->q.g≠b)/\w.grownBy w' none:=by
 have HN:=hid (ML aC v n (bs.map U8) w h0 h1 C)
 clear C
 go_enter func28,ntmps28
 go_wp2_with fail
 refine HN.o.mono ?_
 rintro e w1 ⟨ao,c,rfl,own,hg1⟩
 obtain ⟨cs,HCs⟩:∃ cs:Array Value,Hid (cs=(gG zeroCells136.toList aC (.slice ao n c)).toArray):=⟨_,hid rfl⟩
 rw[<-HCs.o]
 have L1:=Live.new w1 zeroCells136 136
 rw[Tryz.oF] at L1
 have hcs:cs.size=188:=by rw[HCs.o,List.size_toArray,mr]
 have hst:=jq (P:=prog) cs.toList L1 (by rw[db,hcs];exact bd _) (fun v hv=>Ab _ _ rfl v (by rw[HCs.o] at hv;exact hv))
 have RA:=World.rangeAt_setCells_same (w1.alloc (.cells zeroCells136 136)) w1.heap.size 0 cs.toList (L1.there 0 _ (by rw[db,hcs];omega))
 have SZ:(prog.info? 136).map (·.size)=some cs.toList.length:=by rw[Tryz.Ch,db,hcs]
 have GW:=hid (ma w1.heap.size (bd _) cs.toList 0 _ (aE w1 (.cells zeroCells136 136) none))
 have HX:=hid hcs
 have HR:=hid (And.intro RA SZ)
 have D6:=hid own
 have jC:=hid hg1
 clear L1 hcs own hg1 RA SZ HN
 go_wp2_with (refine wpList_load_mid rfl 136 _ rfl w1.heap.size 0 rfl cs.toList _ HR.o.1 underlying136 rfl HR.o.2 ?_)
 have GF1:=aa GW.o (aE ((w1.alloc (.cells zeroCells136 136)).setCells w1.heap.size 0 cs.toList) (.cells (Array.foldl (fun cs x=>cs.setIfInBounds x.snd x.fst) zeroCells140 cs.zipIdx 0 188) 140) none)
 have BF:=dX.new ((w1.alloc (.cells zeroCells136 136)).setCells w1.heap.size 0 cs.toList) (Array.foldl (fun cs x=>cs.setIfInBounds x.snd x.fst) zeroCells140 cs.zipIdx 0 188) 140
 obtain ⟨dp,HO,hfr⟩:=Out.own D6.o
 have hq:∀ q,dp=some q->q.g<w1.heap.size:=by
  intro q e;rcases HO with ⟨h,_⟩ | ⟨q',h,_,_,_,hl,_⟩
  ·rw[h] at e;cases e
  ·rw[h] at e;cases e;exact hl.lt
 have hsz:=GW.o.size
 have hs1:=jC.o.size
 go_ret2
 refine ⟨_,dp,rfl,MM Tryz.oF Tryz.JB Tryz.JC ?_ (HO.cf (CF.bN GF1 (fun _ _=>False)) (fun _ _ _ _ e=>e)),by omega,fun q e=>by have:=hfr q e;omega,fun q e=>by have:=hq q e;omega,aa jC.o GF1⟩
 have e:=Qo _ _ HX.o Tryz.Qp
 rw[<-HCs.o,e]
 rw[e] at BF
 exact BF
theorem GN (aC:Int) (v:Value) (w:World) (h:aC<0\/300<aC) :
  Calls prog 28 #[.int .i64 aC,v] w fun e w'=>e = .returned (.tuple #[.pointer none,.int .i64 1])/\w.grownBy w' none:=by
 have HN:=hid (JA aC v w h)
 clear h
 go_enter func28,ntmps28
 go_wp2_with fail
 refine HN.o.mono ?_
 rintro e w1 ⟨cs,hcs,h1,rfl,hg1⟩
 have L1:=Live.new w1 zeroCells136 136
 rw[Tryz.oF] at L1
 have hst:=jq (P:=prog) cs.toList L1 (by rw[db,hcs];exact bd _) h1
 have GW:=hid (aa hg1 (ma w1.heap.size (bd _) cs.toList 0 _ (aE w1 (.cells zeroCells136 136) none)))
 clear L1 hg1 h1 HN
 go_wp2
 go_ret2
 exact ⟨rfl,GW.o⟩
theorem of_nil (n c:Nat) (w:World):Calls prog 93 #[.slice none n c] w fun e w'=>e = .returned (.agg #[.slice none 0 0])/\w.grownBy w' none:=by
 have G0:=hid (aE w (.cells #[.slice none 0 0] 122) none);have L:Live (w.alloc (.cells #[.slice none 0 0] 122)) w.heap.size 1:=Live.new w _ _;have f0:=L.frozen 0;clear L;go_enter func93,ntmps93;go_wp2_with fail;refine (Tryz.bytes_Clone_nil n c _).mono ?_;rintro e w1 ⟨rfl,rfl⟩;go_wp2;refine bodyPost_ret (uy results93 _ _ _ w.heap.size rfl _ (ji (cs:=[.slice none 0 0]) (fun j u hu=>?_) 122 _ underlying122 rfl Tryz.Fq)) rfl ⟨rfl,?_⟩
 ·match j,hu with
  | 0,hu=>injection hu with hu;subst hu;rw[World.cell?_alloc_at (hn:=rfl)];rfl
  | j+1,hu=>simp at hu
 ·exact G0.o
theorem EF (aC:Int) (zs:List UInt8) (n:Nat) (a:Option Addr) (cap:Nat) (gB:Option Nat) (w0 w:World) (h0:0<=aC) (h1:aC<=300) (hn:Hid (zs.length=n)) (hl:n<=140737488355328) (h:sj w0 w a cap zs gB) :
  Calls prog 28 #[.int .i64 aC,.slice a n cap] w fun e w'=>∃ b dp,e = .returned (.tuple #[.pointer (some ⟨b,0,none⟩),.int .i64 0])/\dO w' b 0 dp ⟨aC,[],[],zs⟩/\w.heap.size<=b/\Pl.fresh w.heap.size dp/\(∀ q,dp=some q->q.g≠b)/\w.grownBy w' none:=by
 refine JD aC _ n zs w h0 h1 (fun w1 k=>?_)
 have hat:=(h.grown k).at
 rcases h with ⟨rfl,rfl,rfl,_⟩ | ⟨g,rfl,_⟩
 ·obtain rfl:0=n:=hn.o;refine (of_nil 0 0 w1).mono ?_;rintro e w' ⟨rfl,g⟩;exact ⟨none,0,rfl,World.ownsRow_nil _ _ _ _,g⟩
 ·refine (ad6 ⟨g,0,none⟩ n cap zs w1 hn hl (fun i hi=>?_)).mono ?_
  ·have hi':i<zs.length:=(by rw[hn.o];exact hi);have:=hat.cells i hi';have e:(zs.map fun z=>(z.toNat:Int)).getD i 0=(zs[i].toNat:Int):=by
    rw[List.getD_eq_getElem?_getD,List.getElem?_map,cr hi'];rfl
   rw[e,Addr.add_lit];exact this
  ·rintro e w' ⟨v,rfl,own,g⟩;obtain ⟨ao,c,rfl⟩:=cu own;exact ⟨ao,c,rfl,own,g⟩
end Go.Proofs.YteknelimjfgmaaaGreatDoor
