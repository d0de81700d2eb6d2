/-
  
-/
import Derived.Test.YtpibgolaaaemnaaGreatDoorGUMem
import Derived.Test.YtpibgolaaaemnaaGreatDoorGUBase
import Derived.Lib.AppendZerosOnto
import Derived.Lib.Overlaps
import Derived.Laws.Externs
import Derived.Laws.IdiomCopy
import Derived.Shelf.Spec.SlicesInsert
namespace Go.Proofs.YtpibgolaaaemnaaGreatDoor
open Go.RowKit
set_option maxRecDepth 100000
theorem jZ {w:World} {b o:Nat} {cs ds:List Value} (h:w.rangeAt b o cs) (k:w.rangeAt b (o+cs.length) ds):w.rangeAt b o (cs++ds):=by
 intro j u hu
 by_cases hj:j<cs.length
 ·rw[List.getElem?_append_left hj] at hu
  exact h j u hu
 ·rw[List.getElem?_append_right (by omega)] at hu
  have:=k (j-cs.length) u hu
  rw[show o+cs.length+(j-cs.length)=o+j from by omega] at this
  exact this
theorem uP {w:World} {b o:Nat} {cs ds:List Value} (h:w.rangeAt b o (cs++ds)):w.rangeAt b o cs:=fun j u hu=>h j u (by rw[List.getElem?_append_left (List.getElem?_eq_some_iff.1 hu).1];exact hu)
theorem nV {w:World} {b o:Nat} {cs ds:List Value} (h:w.rangeAt b o (cs++ds)):w.rangeAt b (o+cs.length) ds:=fun j u hu=>by
 have:=h (cs.length+j) u (by rw[List.getElem?_append_right (by omega),show cs.length+j-cs.length=j from by omega];exact hu)
 rw[←Nat.add_assoc] at this
 exact this
theorem uQ {P:Program} (w:World) {ops:Array Oper} {rest:List Oper} {o:Oper} {a:Act} {Q:Exit→Act→World→Prop} (hgd:o.guard=none) (s x:Operand) (t t':TypeId)
  (ho:o.op = .call {callee:=.builtin .append,args:=#[s,x],argTypes:=#[t,t']}) (v u:Value) (hs:a.eval s=v) (hx:a.eval x=u) {v':Value} {w':World}
  (hr:(Builtin.append_ #[t,t'] o.type #[v,u]).run P w = .ok v' w') (h:wpList P ops Q rest (a.put o.dst v') w'):wpList P ops Q (o::rest) a w:=by
 refine wpList_plain hgd fun K hK=>?_
 unfold Oper.wp execOp
 simp only[ho,resolve,invoke,builtin,Sem.run_bind,Sem.run_pure,Result.andThen_ok,List.map_toArray,List.map_cons,List.map_nil,hs,hx,hr]
 exact hK _ _ h
set_option maxHeartbeats 1000000 in
theorem Kb (v:Value) (p:Option Pl) (A vs:List UInt8) (n:Nat) (i:Int) (vb voff m vc:Nat) (w:World) (hv:Out w v p A) (hn:Hid (A.length=n)) (hi:i=n) (hm:Hid (vs.length=m)) (hm0:0<m) (hvs:w.rangeAt vb voff (vs.map U8)) (hl:n+m≤1000000) :
  Calls Tryz.prog 111 #[v,.int .i64 i,.slice (some ⟨vb,voff,none⟩) m vc] w fun e w'=>∃ v',e = .returned v'∧aI w w' v' p (A++vs):=by
 subst hi
 obtain ⟨i0,hi0,hz0,hz1,hz2⟩:=info_parts Tryz.info5
 obtain ⟨ao,cap,hvv,hc1,hc2,hat,hnc⟩:=hv.open hn
 have hsrc:=qp (P:=Tryz.prog) (w:=w) Tryz.underlying25 (some ⟨vb,voff,none⟩) m vc vs hm.out (At.rZ hvs)
 subst hvv
 have hm1:((m:Int)==0)=false:=by rw[beq_eq_false_iff_ne];omega
 have hi1:((n:Int)==(n:Int))=true:=by simp
 clear hat hnc
 go_enter Tryz.func111,Tryz.ntmps111
 go_wp2_with (at_builtin;refine bY _ rfl _ _ 25 25 rfl 5 i0 Tryz.underlying25 hi0 hz0 hz1 hz2 _ _ p A vs rfl rfl hv m hsrc (by rw[hn.out,hm.out];omega) ?_;intro v1 w1 R)
 all_goals
  go_wp2
  go_ret
  exact ⟨v1,rfl,R⟩
set_option maxHeartbeats 1000000 in
theorem Gg (g off cap:Nat) (A B vs:List UInt8) (i n:Nat) (ii:Int) (vb voff m vc:Nat) (w:World) (hcm:cap≤maxLen) (hL:Live w g (off+cap)) (hr:w.rangeAt g off ((A++B).map U8)) (hi:Hid (A.length=i)) (hii:ii=i) (hn:Hid ((A++B).length=n)) (hin:i<n) (hm:Hid (vs.length=m)) (hm0:0<m)
  (hvL:Live w vb (voff+m)) (hvs:w.rangeAt vb voff (vs.map U8)) (hne:vb≠g) (hroom:n+m≤cap) :
  Calls Tryz.prog 111 #[.slice (some ⟨g,off,none⟩) n cap,.int .i64 ii,.slice (some ⟨vb,voff,none⟩) m vc] w fun e w'=>e = .returned (.slice (some ⟨g,off,none⟩) (n+m) cap)∧w'.rangeAt g off ((A++vs++B).map U8)∧CF w w' (fun b o=>b=g∧off≤o∧o<off+cap):=by
 subst hii
 have hc2:cap≤9223372036854775807:=by unfold maxLen at hcm;exact hcm
 have hm1:((m:Int)==0)=false:=by rw[beq_eq_false_iff_ne];omega
 have hi1:((i:Int)==(n:Int))=false:=by rw[beq_eq_false_iff_ne];omega
 have hBl:B.length=n-i:=by have h1:=hi.out;have h2:=hn.out;rw[List.length_append] at h2;omega
 have HB:=hid hBl
 obtain ⟨afk,tV,hV1,hV2⟩:=hvL
 obtain ⟨aa6,tG,hG1,hG2⟩:=hL
 obtain ⟨i0,hi0,hz0,hz1,hz2⟩:=info_parts Tryz.info5
 have hszz:(Tryz.prog.info? 5).map (·.size)=some 1:=by rw[hi0];simp[hz1]
 have hw1:IntKind.i64.wrap ((i:Int)+(m:Int))=(i:Int)+(m:Int):=by rw[IntKind.wrap_i64];omega
 have hb1:(0:Int)≤(i:Int)+(m:Int):=by omega
 have hin':i≤n:=by omega
 have htn:((i:Int)+(m:Int)).toNat=i+m:=by omega
 have hb2:¬ (cap=i+m):=by omega
 have hb3:(i:Int)≤(n:Int)+(m:Int):=by omega
 have hb4:¬ (cap=i):=by omega
 have hL:Live w g (off+cap):=⟨aa6,tG,hG1,hG2⟩
 have hov:∀ lb cb,(callFunc 155 #[.slice (some ⟨vb,voff,none⟩) m vc,.slice (some ⟨g,off+(i+m),none⟩) lb cb]).run Tryz.prog w = .ok (.value (.bool false)) w:=fun lb cb=>by
  rw[run_callFunc_extern Tryz.func155 (by kernel_rfl) (by kernel_rfl) (by kernel_rfl) (e:=Extern.SlicesOverlaps.overlaps #[25,25] #[4]) (by kernel_rfl),
   Lib.run_overlaps_apart w 25 4 5 Tryz.underlying25 1 Tryz.sizeOf5 ⟨vb,voff,none⟩ ⟨g,off+(i+m),none⟩ m vc lb cb hne tV tG afk.size aa6.size (by simp[World.shape?,hV1]) (by simp[World.shape?,hG1]) (by omega) (by simp[World.frozen?,hV1]) (by simp[World.frozen?,hV1])]
  rfl
 have hcp1:∀ ty dc sc,(Builtin.copy_ #[25,25] ty #[.slice (some ⟨g,off+(i+m),none⟩) (n+m-(i+m)) dc,.slice (some ⟨g,off+i,none⟩) (n+m-i) sc]).run Tryz.prog w.drew = .ok (goInt (B.map U8).length) (w.drew.setCells g (off+(i+m)) (B.map U8)):=fun ty dc sc=>
  run_copy_cells w.drew _ _ ty 5 g (off+(i+m)) (n+m-(i+m)) dc ⟨g,off+i,none⟩ (n+m-i) sc (B.map U8) Tryz.underlying25 hszz (by rw[List.length_map,HB.out];simp only[Nat.min_def];split <;> omega)
   (fun j u hu=>by
    rw[Addr.add_lit,Nat.add_assoc]
    exact hr (i+j) u (by rw[List.map_append,List.getElem?_append_right (by rw[List.length_map,hi.out];omega),List.length_map,hi.out,show i+j-i=j from by omega];exact hu))
   (fun j hj=>by rw[Nat.add_assoc];exact hL.some _ (by rw[List.length_map,HB.out] at hj;omega)) (fun j _=>hL.frozen _) (qh B)
 obtain ⟨W1,hW1⟩:∃ W1,W1=w.drew.setCells g (off+(i+m)) (B.map U8):=⟨_,rfl⟩
 have F1:CF w W1 (fun b o=>b=g∧off≤o∧o<off+cap):=by
  rw[hW1]
  exact CF.setCells g (B.map U8) _ _ (CF.refl w _).drew (fun j hj _=>⟨rfl,by omega,by rw[List.length_map,HB.out] at hj;omega⟩)
 have hB1:W1.rangeAt g (off+(i+m)) (B.map U8):=by
  rw[hW1]
  exact World.rangeAt_setCells_same _ _ _ _ (hL.drew.there _ _ (by rw[List.length_map,HB.out];omega))
 have hA1:W1.rangeAt g off (A.map U8):=by
  rw[hW1]
  refine World.rangeAt_setCells_apart (fun j u hu=>?_) _ _ _ (.inr (.inl (by rw[List.length_map,hi.out];omega)))
  exact hr j u (by rw[List.map_append,List.getElem?_append_left (List.getElem?_eq_some_iff.1 hu).1];exact hu)
 have aa7:W1.rangeAt vb voff (vs.map U8):=F1.range hvs (fun j _ h=>hne h.1)
 have hL1:=hL.cf F1
 have hcp2:∀ (W:World),(∀ x,W.cell? x=W1.cell? x)→(∀ x,W.frozen? x=W1.frozen? x)→∀ ty dc,(Builtin.copy_ #[25,25] ty #[.slice (some ⟨g,off+i,none⟩) (n+m-i) dc,.slice (some ⟨vb,voff,none⟩) m vc]).run Tryz.prog W = .ok (goInt (vs.map U8).length) (W.setCells g (off+i) (vs.map U8)):=fun W hWc hWf ty dc=>
  run_copy_cells W _ _ ty 5 g (off+i) (n+m-i) dc ⟨vb,voff,none⟩ m vc (vs.map U8) Tryz.underlying25 hszz (by rw[List.length_map,hm.out];simp only[Nat.min_def];split <;> omega)
   (fun j u hu=>by rw[Addr.add_lit,hWc];exact aa7 j u hu) (fun j hj=>by rw[hWc,Nat.add_assoc];exact hL1.some _ (by rw[List.length_map,hm.out] at hj;omega)) (fun j _=>by rw[hWf];exact hL1.frozen _) (qh vs)
 rw[←hW1] at hcp1
 have XD:=hid F1
 have HA1:=hid hA1
 have HB1:=hid hB1
 have yx:=hid hL1
 clear hW1 F1 hB1 hA1 aa7 hL1 hr hvs hV1 hV2 hG1 hG2 hL hBl hszz hi0 hz0 hz1 hz2
 go_enter Tryz.func111,Tryz.ntmps111
 go_wp2_with (simp only[hov])
 go_region_law (refine step_copy_runI rfl _ _ 25 25 rfl _ _ (by simp[Act.eval,Act.put]) (by simp[Act.eval,Act.put]) (hcp1 _ _ _) ?_)
 go_wp2_with (at_builtin;refine wpList_copy_runI _ rfl _ _ 25 25 rfl _ _ rfl rfl (hcp2 _ (fun _=>rfl) (fun _=>rfl) _ _) ?_)
 go_ret
 refine ⟨rfl,?_,?_⟩
 ·have hth:W1.there g (off+i) (vs.map U8).length:=yx.out.there _ _ (by rw[List.length_map,hm.out];omega)
  rw[List.map_append,List.map_append]
  refine jZ (jZ (World.rangeAt_setCells_apart HA1.out _ _ _ (.inr (.inl (by rw[List.length_map,hi.out];omega)))) ?_) ?_
  ·rw[List.length_map,hi.out]
   exact World.rangeAt_setCells_same _ _ _ _ hth
  ·rw[List.length_append,List.length_map,List.length_map,hi.out,hm.out]
   exact World.rangeAt_setCells_apart HB1.out _ _ _ (.inr (.inr (by rw[List.length_map,hm.out];omega)))
 ·exact CF.setCells g (vs.map U8) _ _ XD.out (fun j hj _=>⟨rfl,by omega,by rw[List.length_map,hm.out] at hj;omega⟩)
set_option maxHeartbeats 1000000 in
theorem Gh (g off cap:Nat) (A B vs:List UInt8) (i n:Nat) (ii:Int) (vb voff m vc:Nat) (w:World) (hcm:cap≤maxLen) (hnc:n≤cap) (hgl:g<w.heap.size) (hr:w.rangeAt g off ((A++B).map U8)) (hi:Hid (A.length=i)) (hii:ii=i) (hn:Hid ((A++B).length=n)) (hin:i<n) (hm:Hid (vs.length=m)) (hm0:0<m)
  (hvs:w.rangeAt vb voff (vs.map U8)) (hroom:cap<n+m) (hl:n+m≤1000000) :
  Calls Tryz.prog 111 #[.slice (some ⟨g,off,none⟩) n cap,.int .i64 ii,.slice (some ⟨vb,voff,none⟩) m vc] w fun e w'=>∃ c',e = .returned (.slice (some ⟨w.heap.size,0,none⟩) (n+m) c')∧n+m≤c'∧c'≤maxLen∧Live w' w.heap.size c'∧w'.rangeAt w.heap.size 0 ((A++vs++B).map U8)∧w.grownBy w' none:=by
 subst hii
 have hc2:cap≤9223372036854775807:=by unfold maxLen at hcm;exact hcm
 have hm1:((m:Int)==0)=false:=by rw[beq_eq_false_iff_ne];omega
 have hi1:((i:Int)==(n:Int))=false:=by rw[beq_eq_false_iff_ne];omega
 have hBl:B.length=n-i:=by have h1:=hi.out;have h2:=hn.out;rw[List.length_append] at h2;omega
 have HB:=hid hBl
 obtain ⟨i0,hi0,hz0,hz1,hz2⟩:=info_parts Tryz.info5
 have hszz:(Tryz.prog.info? 5).map (·.size)=some 1:=by rw[hi0];simp[hz1]
 have JV:w.rangeAt g off (A.map U8):=uP (by rw[←List.map_append];exact hr)
 have QG:w.rangeAt g (off+i) (B.map U8):=by
  have:=nV (cs:=A.map U8) (ds:=B.map U8) (by rw[←List.map_append];exact hr)
  rw[List.length_map,hi.out] at this
  exact this
 have hold:(Builtin.firstCells i0.size i (.slice (some ⟨g,off,none⟩) i cap)).run Tryz.prog w.drew = .ok (A.map U8).toArray w.drew:=
  run_firstCells_some w.drew _ i ⟨g,off,none⟩ i cap (A.map U8) (by rw[List.length_map,hi.out,hz1,Nat.mul_one]) (fun j u hu=>by rw[Addr.add_lit];exact JV j u hu)
 have hap:=fun ty=>Lib.run_append_grow_zeros (P:=Tryz.prog) w 25 3 ty 5 i0 (.int .u8 0) .i64 .i64 Tryz.underlying25 Tryz.underlying3 hi0 hz0 (some ⟨g,off,none⟩) i cap (A.map U8) hold (n+m-i) (by omega) (by omega) (by omega) (by omega) (by rw[hz2];omega) (growslice_fits (by omega) (by rw[hz2];omega))
 rw[show i+(n+m-i)=n+m from by omega] at hap
 have hge:=grownCap_ge w (n+m) cap 5
 have hgm:grownCap w (n+m) cap 5≤maxLen:=grownCap_le_maxLen w _ cap 5 (by unfold maxLen;omega)
 obtain ⟨C,hC⟩:∃ C,grownCap w (n+m) cap 5=C:=⟨_,rfl⟩
 rw[hC] at hap hge hgm
 obtain ⟨cs0,Vp⟩:∃ cs0,cs0=(A.map U8).toArray++Builtin.zeroCells (Value.int .u8 0).cells (n+m-i)++Builtin.zeroCells (Value.int .u8 0).cells (C-(n+m)):=⟨_,rfl⟩
 rw[←Vp] at hap
 have hcsz:cs0.size=C:=by rw[Vp];simp[size_zeroCells,Value.cells,hi.out];omega
 obtain ⟨W0,hW0⟩:∃ W0,W0=w.drew.alloc (.cells cs0 5):=⟨_,rfl⟩
 have G0:w.grownBy W0 none:=by rw[hW0];exact aC (dA (World.grownBy.refl _ _)) _
 have L0:Live W0 w.heap.size C:=by rw[hW0,←hcsz];exact Live.new w.drew cs0 5
 have R0:W0.rangeAt w.heap.size 0 (A.map U8):=by
  rw[hW0]
  intro j u hu
  refine aQ w.drew cs0 5 j u ?_
  rw[Vp,Array.toList_append,Array.toList_append,List.append_assoc,List.getElem?_append_left (by simpa using (List.getElem?_eq_some_iff.1 hu).1)]
  simpa using hu
 rw[←hW0] at hap
 clear hW0 Vp hcsz
 have aa8:W0.rangeAt vb voff (vs.map U8):=fun j u hu=>G0.cell (hvs j u hu) (by simp)
 have aa9:W0.rangeAt g (off+i) (B.map U8):=fun j u hu=>G0.cell (QG j u hu) (by simp)
 have hcp1:∀ ty dc,(Builtin.copy_ #[25,25] ty #[.slice (some ⟨w.heap.size,i,none⟩) (n+m-i) dc,.slice (some ⟨vb,voff,none⟩) m vc]).run Tryz.prog W0 = .ok (goInt (vs.map U8).length) (W0.setCells w.heap.size i (vs.map U8)):=fun ty dc=>
  run_copy_cells W0 _ _ ty 5 w.heap.size i (n+m-i) dc ⟨vb,voff,none⟩ m vc (vs.map U8) Tryz.underlying25 hszz (by rw[List.length_map,hm.out];simp only[Nat.min_def];split <;> omega)
   (fun j u hu=>by rw[Addr.add_lit];exact aa8 j u hu) (fun j hj=>L0.some _ (by rw[List.length_map,hm.out] at hj;omega)) (fun j _=>L0.frozen _) (qh vs)
 obtain ⟨W1,hW1⟩:∃ W1,W1=W0.setCells w.heap.size i (vs.map U8):=⟨_,rfl⟩
 rw[←hW1] at hcp1
 have F1:CF W0 W1 (fun b _=>b=w.heap.size):=by rw[hW1];exact CF.setCells _ _ _ _ (CF.refl _ _) (fun _ _ _=>rfl)
 have RA1:W1.rangeAt w.heap.size 0 (A.map U8):=by rw[hW1];exact World.rangeAt_setCells_apart R0 _ _ _ (.inr (.inl (by rw[List.length_map,hi.out];omega)))
 have RV1:W1.rangeAt w.heap.size i (vs.map U8):=by rw[hW1];exact World.rangeAt_setCells_same _ _ _ _ (L0.there _ _ (by rw[List.length_map,hm.out];omega))
 have L1:=L0.cf F1
 have aba:W1.rangeAt g (off+i) (B.map U8):=F1.range aa9 (fun j _ h=>by omega)
 clear hW1
 have hcp2:∀ ty dc sc,(Builtin.copy_ #[25,25] ty #[.slice (some ⟨w.heap.size,i+m,none⟩) (n+m-(i+m)) dc,.slice (some ⟨g,off+i,none⟩) (n-i) sc]).run Tryz.prog W1.drew = .ok (goInt (B.map U8).length) (W1.drew.setCells w.heap.size (i+m) (B.map U8)):=fun ty dc sc=>
  run_copy_cells W1.drew _ _ ty 5 w.heap.size (i+m) (n+m-(i+m)) dc ⟨g,off+i,none⟩ (n-i) sc (B.map U8) Tryz.underlying25 hszz (by rw[List.length_map,HB.out];simp only[Nat.min_def];split <;> omega)
   (fun j u hu=>by rw[Addr.add_lit];exact aba j u hu) (fun j hj=>L1.some _ (by rw[List.length_map,HB.out] at hj;omega)) (fun j _=>L1.frozen _) (qh B)
 obtain ⟨W2,hW2⟩:∃ W2,W2=W1.drew.setCells w.heap.size (i+m) (B.map U8):=⟨_,rfl⟩
 rw[←hW2] at hcp2
 have F2:CF W1 W2 (fun b _=>b=w.heap.size):=by rw[hW2];exact CF.setCells _ _ _ _ (CF.refl _ _).drew (fun _ _ _=>rfl)
 have RA2:W2.rangeAt w.heap.size 0 (A.map U8):=by rw[hW2];exact World.rangeAt_setCells_apart (by simpa using RA1) _ _ _ (.inr (.inl (by rw[List.length_map,hi.out];omega)))
 have RV2:W2.rangeAt w.heap.size i (vs.map U8):=by rw[hW2];exact World.rangeAt_setCells_apart (by simpa using RV1) _ _ _ (.inr (.inl (by rw[List.length_map,hm.out];omega)))
 have RB2:W2.rangeAt w.heap.size (i+m) (B.map U8):=by rw[hW2];exact World.rangeAt_setCells_same _ _ _ _ (L1.drew.there _ _ (by rw[List.length_map,HB.out];omega))
 have L2:=L1.cf F2
 clear hW2
 have RR:Hid (Live W2 w.heap.size C∧W2.rangeAt w.heap.size 0 ((A++vs++B).map U8)∧w.grownBy W2 none):=by
  refine ⟨L2,?_,?_⟩
  ·rw[List.map_append,List.map_append]
   refine jZ (jZ RA2 ?_) ?_
   ·rw[List.length_map,hi.out,Nat.zero_add];exact RV2
   ·rw[List.length_append,List.length_map,List.length_map,hi.out,hm.out,Nat.zero_add];exact RB2
  ·exact (((CF.aW G0 (fun _ _=>False)).trans F1 (fun b o hb e=>by omega)).trans F2 (fun b o hb e=>by omega)).gb (fun _ _ _ e=>e)
 clear RA1 RV1 RA2 RV2 RB2 F1 F2 L0 L1 L2 R0 G0 aa8 aa9 aba JV QG hr hvs hold hBl hi0 hz0 hz1 hz2 hszz hC
 have hb1:(0:Int)≤(i:Int)+(m:Int):=by omega
 have hb0:(0:Int)≤(n:Int)+(m:Int)-(i:Int):=by omega
 have htn:((i:Int)+(m:Int)).toNat=i+m:=by omega
 have hb2:¬ (C=i+m):=by omega
 have hb4:¬ (cap=i):=by omega
 have hb5:¬ (C=i):=by omega
 have hcI:(cap:Int)<(n:Int)+(m:Int):=by omega
 have hsub:(((n+m-i:Nat)):Int)=(n:Int)+(m:Int)-(i:Int):=by omega
 rw[hsub] at hap
 clear hsub
 go_enter Tryz.func111,Tryz.ntmps111
 go_wp2_with (first|(at_builtin;refine uQ _ rfl _ _ 25 3 rfl _ _ rfl rfl (hap _) ?_)|(at_builtin;refine wpList_copy_runI _ rfl _ _ 25 25 rfl _ _ rfl rfl (hcp1 _ _) ?_))
 have hC2:C≤9223372036854775807:=by unfold maxLen at hgm;exact hgm
 have hiI:(i:Int)≤(n:Int)+(m:Int):=by omega
 have hin':i≤n:=by omega
 have hiM:(i:Int)+(m:Int)≤(n:Int)+(m:Int):=by omega
 have hw1:IntKind.i64.wrap ((i:Int)+(m:Int))=(i:Int)+(m:Int):=by rw[IntKind.wrap_i64];omega
 go_region_law (refine step_copy_runI rfl _ _ 25 25 rfl _ _ (by simp[Act.eval,Act.put]) (by simp[Act.eval,Act.put]) (hcp2 _ _ _) ?_)
 go_wp2
 go_ret
 exact ⟨C,rfl,hge,hgm,RR.out.1,RR.out.2.1,RR.out.2.2⟩
theorem zS (v:Value) (p:Option Pl) (A B vs:List UInt8) (i:Nat) (ii:Int) (vb voff m vc:Nat) (w:World) (hv:Out w v p (A++B)) (hi:Hid (A.length=i)) (hii:ii=i) (hm:Hid (vs.length=m)) (hm0:0<m) (hvL:Live w vb (voff+m)) (hvs:w.rangeAt vb voff (vs.map U8)) (hne:∀ q,p=some q→vb≠q.g) (hl:(A++B).length+m≤1000000) :
  Calls Tryz.prog 111 #[v,.int .i64 ii,.slice (some ⟨vb,voff,none⟩) m vc] w fun e w'=>∃ v',e = .returned v'∧aI w w' v' p (A++vs++B):=by
 by_cases hB:B=[]
 ·subst hB
  rw[List.append_nil] at hv hl
  refine (Kb v p A vs i ii vb voff m vc w hv hi hii hm hm0 hvs (by rw[←hi.out];exact hl)).mono ?_
  rintro e w' ⟨v',h1,h2⟩
  exact ⟨v',h1,by rw[List.append_nil];exact h2⟩
 ·have hBp:=List.length_pos_iff.2 hB
  have hlen:(A++B).length=A.length+B.length:=List.length_append
  rcases hv with ⟨_,_,h⟩ | ⟨q,hp,rfl,h1,h2,h3,h4⟩
  ·rw[h] at hlen;simp at hlen;omega
  ·have hin:i<(A++B).length:=by have:=hi.out;omega
   by_cases hroom:(A++B).length+m≤q.cap
   ·refine (Gg q.g q.off q.cap A B vs i (A++B).length ii vb voff m vc w h2 h3 h4 hi hii (hid rfl) hin hm hm0 hvL hvs (hne q hp) hroom).mono ?_
    rintro e w' ⟨rfl,r1,r2⟩
    have hL:(A++vs++B).length=(A++B).length+m:=by simp only[List.length_append];rw[hm.out];omega
    refine ⟨_,rfl,p,.inr ⟨q,hp,by rw[hL],by rw[hL];exact hroom,h2,h3.cf r2,r1⟩,r2.mono (fun b o _ e=>⟨q,hp,e⟩),.inl rfl,fun _ _ _=>rfl⟩
   ·refine (Gh q.g q.off q.cap A B vs i (A++B).length ii vb voff m vc w h2 h1 h3.lt h4 hi hii (hid rfl) hin hm hm0 hvs (by omega) hl).mono ?_
    rintro e w' ⟨c',rfl,r1,r2,r3,r4,r5⟩
    have hL:(A++vs++B).length=(A++B).length+m:=by simp only[List.length_append];rw[hm.out];omega
    refine ⟨_,rfl,some ⟨w.heap.size,0,c'⟩,.inr ⟨_,rfl,by rw[hL],by rw[hL];exact r1,r2,by simpa using r3,r4⟩,CF.aW r5 _,.inr (fun q' hq=>by injection hq with hq;subst hq;exact Nat.le_refl _),fun q' hq hle=>?_⟩
    rw[hp] at hq
    injection hq with hq
    subst hq
    rw[hL] at hle
    omega
end Go.Proofs.YtpibgolaaaemnaaGreatDoor
