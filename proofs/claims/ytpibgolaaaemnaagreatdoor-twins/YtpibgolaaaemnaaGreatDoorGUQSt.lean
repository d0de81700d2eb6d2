/-
  
  
  
  
  
  
-/
import Derived.Test.YtpibgolaaaemnaaGreatDoorGUQPool
import Derived.Test.YtpibgolaaaemnaaGreatDoorGUPBookG
import Derived.Test.YtpibgolaaaemnaaGreatDoorGUQLookC
namespace Go.Proofs.YtpibgolaaaemnaaGreatDoor
open Go.RowKit
set_option maxRecDepth 100000
set_option maxHeartbeats 1000000 in
theorem BD (g:Nat) (dp:Option Pl) (d:DM) (w:World) (h:cz w g 0 dp d) :
  Calls Tryz.prog 40 #[.pointer (some ⟨g,0,none⟩)] w fun e w'=>∃ bn bu,e = .returned (.agg #[.slice (some ⟨bn,0,none⟩) d.aH.length d.aH.length,.slice (some ⟨bu,0,none⟩) d.aH.length d.aH.length,.int .i64 d.bK.length,.int .i64 d.aV.length])∧w'.ownsRow w.heap.size 9 1 (.slice (some ⟨bn,0,none⟩) d.aH.length d.aH.length) d.aH.length (d.aH.map fun x=>.string ⟨x.name.toArray⟩)∧w'.ownsRow w.heap.size 3 1 (.slice (some ⟨bu,0,none⟩) d.aH.length d.aH.length) d.aH.length (d.aH.map fun x=>.int .i64 x.ag)∧w.grownBy w' none:=by
 have G0:=hid (World.grownBy_alloc w (.cells #[.slice none 0 0,.slice none 0 0,.int .i64 0,.int .i64 0] 54) none)
 have HD:=hid (h.grown G0.out)
 have HL:Hid (Live (w.alloc (.cells #[.slice none 0 0,.slice none 0 0,.int .i64 0,.int .i64 0] 54)) w.heap.size 4):=Live.new w _ _
 clear h
 go_enter Tryz.func40,Tryz.ntmps40
 go_wp2_with fail
 refine (uD g 0 dp d _ HD.out).mono ?_
 rintro e wx ⟨bn,bu,rfl,oN,oU,gx⟩
 have L:=HL.out.grown gx
 obtain ⟨d0,q0⟩:=Option.isSome_iff_exists.1 (L.some 0 (by decide))
 obtain ⟨d1,q1⟩:=Option.isSome_iff_exists.1 (L.some 1 (by decide))
 obtain ⟨d2,q2⟩:=Option.isSome_iff_exists.1 (L.some 2 (by decide))
 obtain ⟨d3,q3⟩:=Option.isSome_iff_exists.1 (L.some 3 (by decide))
 have f0:=L.frozen 0
 have f1:=L.frozen 1
 have f2:=L.frozen 2
 have f3:=L.frozen 3
 have GX:=hid (ae G0.out gx)
 have ON:=hid oN
 have OU:=hid oU
 clear L gx oN oU
 go_wp2
 have s0:w.heap.size<w.heap.size+1:=Nat.lt_succ_self _
 have hs:w.heap.size+1≤(w.alloc (.cells #[.slice none 0 0,.slice none 0 0,.int .i64 0,.int .i64 0] 54)).heap.size:=by rw[World.size_alloc];exact Nat.le_refl _
 have YJ:=bZ ON.out hs
 have YK:=bZ OU.out hs
 refine bodyPost_ret (dQ Tryz.results40 _ _ _ w.heap.size rfl _ (dN (tX wx w.heap.size _ _ _ _ q0 q1 q2 q3) 54 _ Tryz.underlying54 rfl Tryz.mI)) rfl ⟨bn,bu,rfl,?_,?_,?_⟩
 ·exact bZ (aY (aY (aY (aY YJ s0) s0) s0) s0) (Nat.le_succ _)
 ·exact bZ (aY (aY (aY (aY YK s0) s0) s0) s0) (Nat.le_succ _)
 ·exact aK (aK (aK (aK GX.out (Nat.le_refl _)) (Nat.le_refl _)) (Nat.le_refl _)) (Nat.le_refl _)
set_option maxHeartbeats 1000000 in
theorem zn (g:Nat) (dp:Option Pl) (d:DM) (w:World) (h:cz w g 0 dp d) :
  Calls Tryz.prog 26 #[.pointer (some ⟨g,0,none⟩)] w fun e w'=>∃ bn bu,e = .returned (.agg #[.slice (some ⟨bn,0,none⟩) d.aH.length d.aH.length,.slice (some ⟨bu,0,none⟩) d.aH.length d.aH.length,.int .i64 d.bK.length,.int .i64 d.aV.length])∧w'.ownsRow w.heap.size 9 1 (.slice (some ⟨bn,0,none⟩) d.aH.length d.aH.length) d.aH.length (d.aH.map fun x=>.string ⟨x.name.toArray⟩)∧w'.ownsRow w.heap.size 3 1 (.slice (some ⟨bu,0,none⟩) d.aH.length d.aH.length) d.aH.length (d.aH.map fun x=>.int .i64 x.ag)∧w.grownBy w' none:=by
 have G0:=hid (World.grownBy_alloc w (.cells #[.slice none 0 0,.slice none 0 0,.int .i64 0,.int .i64 0] 54) none)
 have HD:=hid (h.grown G0.out)
 have HL:Hid (Live (w.alloc (.cells #[.slice none 0 0,.slice none 0 0,.int .i64 0,.int .i64 0] 54)) w.heap.size 4):=Live.new w _ _
 clear h
 go_enter Tryz.func26,Tryz.ntmps26
 go_wp2_with fail
 refine (BD g dp d _ HD.out).mono ?_
 rintro e wx ⟨bn,bu,rfl,oN,oU,gx⟩
 have L:=HL.out.grown gx
 obtain ⟨d0,q0⟩:=Option.isSome_iff_exists.1 (L.some 0 (by decide))
 obtain ⟨d1,q1⟩:=Option.isSome_iff_exists.1 (L.some 1 (by decide))
 obtain ⟨d2,q2⟩:=Option.isSome_iff_exists.1 (L.some 2 (by decide))
 obtain ⟨d3,q3⟩:=Option.isSome_iff_exists.1 (L.some 3 (by decide))
 have f0:=L.frozen 0
 have f1:=L.frozen 1
 have f2:=L.frozen 2
 have f3:=L.frozen 3
 have GX:=hid (ae G0.out gx)
 have ON:=hid oN
 have OU:=hid oU
 clear L gx oN oU
 go_wp2
 have s0:w.heap.size<w.heap.size+1:=Nat.lt_succ_self _
 have hs:w.heap.size+1≤(w.alloc (.cells #[.slice none 0 0,.slice none 0 0,.int .i64 0,.int .i64 0] 54)).heap.size:=by rw[World.size_alloc];exact Nat.le_refl _
 have YJ:=bZ ON.out hs
 have YK:=bZ OU.out hs
 refine bodyPost_ret (dQ Tryz.results26 _ _ _ w.heap.size rfl _ (dN (tX wx w.heap.size _ _ _ _ q0 q1 q2 q3) 54 _ Tryz.underlying54 rfl Tryz.mI)) rfl ⟨bn,bu,rfl,?_,?_,?_⟩
 ·exact bZ (aY (aY (aY (aY YJ s0) s0) s0) s0) (Nat.le_succ _)
 ·exact bZ (aY (aY (aY (aY YK s0) s0) s0) s0) (Nat.le_succ _)
 ·exact aK (aK (aK (aK GX.out (Nat.le_refl _)) (Nat.le_refl _)) (Nat.le_refl _)) (Nat.le_refl _)
theorem Tryz.Jd:(Tryz.prog.info? 129).map (·.size)=some 3:=by kernel_rfl
theorem TQ (w:World) (b:Nat) (v0 v1 v2:Value) {d0 d1 d2:Value} (q0:w.cell? ⟨b,0,none⟩=some d0) (q1:w.cell? ⟨b,1,none⟩=some d1) (q2:w.cell? ⟨b,2,none⟩=some d2):(((w.setCell ⟨b,0,none⟩ v0).setCell ⟨b,1,none⟩ v1).setCell ⟨b,2,none⟩ v2).rangeAt b 0 [v0,v1,v2]:=by
 intro j v hv
 have h1:=LU w b v0 v1 q0 q1
 match j,hv with
 | 0,hv=>
  rw[World.cell?_setCell_other _ _ _ _ (fun e=>by injection e with _ e;omega)]
  exact h1 0 v hv
 | 1,hv=>
  rw[World.cell?_setCell_other _ _ _ _ (fun e=>by injection e with _ e;omega)]
  exact h1 1 v hv
 | 2,hv=>
  injection hv with hv
  subst hv
  exact World.cell?_setCell_same _ _ _ (by rw[World.cell?_setCell_other _ _ _ _ (fun e=>by injection e with _ e;omega),World.cell?_setCell_other _ _ _ _ (fun e=>by injection e with _ e;omega)];exact q2)
 | j+3,hv=>simp at hv
def Je (w:World) (e:Ending) (w':World):Prop:=∃ k:Nat,k≤4∧e = .returned (.agg #[.int .i64 2,.int .i64 2,.int .i64 k])∧w.grownBy w' none
set_option maxHeartbeats 1000000 in
theorem CY (g:Nat) (dp:Option Pl) (M:DM) (w:World) (h:eP w g dp M) :
  Calls Tryz.prog 49 #[.pointer (some ⟨g,0,none⟩)] w fun e w'=>Je w e w':=by
 have G0:=hid (dA (World.grownBy_alloc w (.cells #[.int .i64 0,.int .i64 0,.int .i64 0] 129) none))
 have HL:Hid (Live (w.alloc (.cells #[.int .i64 0,.int .i64 0,.int .i64 0] 129)).drew w.heap.size 3):=(Live.new w _ _).drew
 have HQ:=hid (h.grown G0.out)
 obtain ⟨ls,nx,hlk,_⟩:=HQ.out.look
 have HK:=hid hlk
 obtain ⟨k,hk⟩:∃ k,ls.length=k:=⟨_,rfl⟩
 have HKl:=hid hk
 have HF:=hid (RG g 222 _ HQ.out.pool)
 have HC:=hid (KL g 188 ls nx _ hlk)
 rw[hk] at HC
 have L:=HL.out
 obtain ⟨d0,q0⟩:=Option.isSome_iff_exists.1 (L.some 0 (by decide))
 obtain ⟨d1,q1⟩:=Option.isSome_iff_exists.1 (L.some 1 (by decide))
 obtain ⟨d2,q2⟩:=Option.isSome_iff_exists.1 (L.some 2 (by decide))
 have f0:=L.frozen 0
 have f1:=L.frozen 1
 have f2:=L.frozen 2
 clear h hlk hk L
 go_enter Tryz.func49,Tryz.ntmps49
 go_wp2_with fail
 go_region_held3 (fun _=>True) (trivial) (first|(go_at_call 71;refine HF.out.mono ?_;rintro e w1 ⟨rfl,rfl⟩)|(go_at_call 72;refine HC.out.mono ?_;rintro e w2 ⟨rfl,rfl⟩))
 go_wp2
 have RA:(w.alloc (.cells #[.int .i64 2,.int .i64 2,.int .i64 k] 129)).drew.rangeAt w.heap.size 0 [.int .i64 2,.int .i64 2,.int .i64 k]:=aQ w #[.int .i64 2,.int .i64 2,.int .i64 k] 129
 refine bodyPost_ret (dQ Tryz.results49 _ _ _ w.heap.size rfl _ (dN RA 129 _ Tryz.underlying129 rfl Tryz.Jd)) rfl ⟨k,?_,rfl,dA (World.grownBy_alloc w _ none)⟩
 rw[←HKl.out];exact HK.out.len
set_option maxHeartbeats 1000000 in
theorem BG (g:Nat) (dp:Option Pl) (M:DM) (w:World) (h:eP w g dp M) :
  Calls Tryz.prog 37 #[.pointer (some ⟨g,0,none⟩)] w fun e w'=>Je w e w':=by
 have G0:=hid (World.grownBy_alloc w (.cells #[.int .i64 0,.int .i64 0,.int .i64 0] 129) none)
 have HL:Hid (Live (w.alloc (.cells #[.int .i64 0,.int .i64 0,.int .i64 0] 129)) w.heap.size 3):=Live.new w _ _
 have HP:=hid (CY g dp M _ (h.grown G0.out))
 clear h
 go_enter Tryz.func37,Tryz.ntmps37
 go_wp2_with fail
 refine HP.out.mono ?_
 rintro e wx ⟨k,hk,rfl,gx⟩
 have L:=HL.out.grown gx
 obtain ⟨d0,q0⟩:=Option.isSome_iff_exists.1 (L.some 0 (by decide))
 obtain ⟨d1,q1⟩:=Option.isSome_iff_exists.1 (L.some 1 (by decide))
 obtain ⟨d2,q2⟩:=Option.isSome_iff_exists.1 (L.some 2 (by decide))
 have f0:=L.frozen 0
 have f1:=L.frozen 1
 have f2:=L.frozen 2
 have GX:=hid (ae G0.out gx)
 have HKk:=hid hk
 clear L gx HP hk
 go_wp2
 refine bodyPost_ret (dQ Tryz.results37 _ _ _ w.heap.size rfl _ (dN (TQ _ w.heap.size _ _ _ q0 q1 q2) 129 _ Tryz.underlying129 rfl Tryz.Jd)) rfl ⟨k,HKk.out,rfl,?_⟩
 repeat refine aK ?_ (Nat.le_refl _)
 exact GX.out
end Go.Proofs.YtpibgolaaaemnaaGreatDoor
namespace Go.Proofs.YtpibgolaaaemnaaGreatDoor
open Go.RowKit
set_option maxRecDepth 100000
theorem Tryz.D6:(Tryz.prog.info? 108).map (·.size)=some 824:=by kernel_rfl
theorem Tryz.ui:Tryz.zeroCells108.size=824:=by kernel_rfl
theorem Tryz.BH:Tryz.zeroCells112.size=824:=by kernel_rfl
theorem Tryz.Fw:Tryz.zeroCells108.all (·.oneCell')=true:=by kernel_rfl
theorem Tryz.Fx:Tryz.zeroCells108[220]?=some (.int .i64 0):=by kernel_rfl
theorem Tryz.Fy:Tryz.zeroCells108[221]?=some (.int .i64 0):=by kernel_rfl
theorem Tryz.Fz:Tryz.zeroCells108[522]?=some (.bool false):=by kernel_rfl
theorem Tryz.FB:Tryz.zeroCells108[823]?=some (.bool false):=by kernel_rfl
theorem D7 (Z cs:Array Value) (n:Nat) (h:cs.size=n) (hZ:n≤Z.size):(Array.foldl (fun cs x=>cs.setIfInBounds x.snd x.fst) Z cs.zipIdx 0 n).size=Z.size∧∀ i,(Array.foldl (fun (cs:Array Value) (x:Value×Nat)=>cs.setIfInBounds x.snd x.fst) Z cs.zipIdx 0 n)[i]?=if i<n then cs[i]? else Z[i]?:=by
 have e:Array.foldl (fun (cs:Array Value) (x:Value×Nat)=>cs.setIfInBounds x.snd x.fst) Z cs.zipIdx 0 n=(cs.toList.zipIdx 0).foldl (fun (acc:Array Value) (x:Value×Nat)=>acc.setIfInBounds x.snd x.fst) Z:=by
  rw[←Array.toList_zipIdx,Array.foldl_toList,Array.size_zipIdx,h]
 have hg:∀ i,(Array.foldl (fun (cs:Array Value) (x:Value×Nat)=>cs.setIfInBounds x.snd x.fst) Z cs.zipIdx 0 n)[i]?=if i<n then cs[i]? else Z[i]?:=fun i=>by
  rw[e,Jf cs.toList 0 Z i (by rw[Array.length_toList];omega),Array.length_toList,Nat.zero_add,Nat.sub_zero,h]
  by_cases hi:i<n
  ·rw[if_pos ⟨Nat.zero_le _,hi⟩,if_pos hi,Array.getElem?_toList]
  ·rw[if_neg (fun q=>hi q.2),if_neg hi]
 refine ⟨?_,hg⟩
 have hlt:∀ i,i<(Array.foldl (fun (cs:Array Value) (x:Value×Nat)=>cs.setIfInBounds x.snd x.fst) Z cs.zipIdx 0 n).size↔i<Z.size:=fun i=>by
  have:=hg i
  constructor
  ·intro hi
   rw[Array.getElem?_eq_getElem hi] at this
   by_cases h1:i<n
   ·omega
   ·rw[if_neg h1] at this
    exact (Array.getElem?_eq_some_iff.1 this.symm).1
  ·intro hi
   by_cases h1:i<n
   ·have hci:i<cs.size:=by omega
    rw[if_pos h1,show cs[i]?=some cs[i] from Array.getElem?_eq_getElem hci] at this
    exact (Array.getElem?_eq_some_iff.1 this).1
   ·rw[if_neg h1,Array.getElem?_eq_getElem hi] at this
    exact (Array.getElem?_eq_some_iff.1 this).1
 have h1:=hlt Z.size
 have h2:=hlt (Array.foldl (fun (cs:Array Value) (x:Value×Nat)=>cs.setIfInBounds x.snd x.fst) Z cs.zipIdx 0 n).size
 omega
structure xW (X:Array Value) (ax:Int) (dv:Value):Prop where
 size:X.size=824
 one:∀ v∈X.toList,v.oneCell'=true
 dX:∀ j,j<188→X[j]?=(dV Tryz.zeroCells97.toList ax dv)[j]?
 rest:∀ j,188≤j→X[j]?=Tryz.zeroCells108[j]?
theorem xW.made {X cs:Array Value} {ax:Int} {dv:Value} (hcs:cs=(dV Tryz.zeroCells97.toList ax dv).toArray) (hd:dv.oneCell'=true) (hX:Array.foldl (fun cs x=>cs.setIfInBounds x.snd x.fst) Tryz.zeroCells108 cs.zipIdx 0 188=X):xW X ax dv:=by
 have hs:cs.size=188:=by rw[hcs,List.size_toArray,iE]
 obtain ⟨h1,h2⟩:=D7 Tryz.zeroCells108 cs 188 hs (by rw[Tryz.ui];omega)
 rw[hX] at h1 h2
 refine ⟨by rw[h1,Tryz.ui],fun v hv=>?_,fun j hj=>by rw[h2 j,if_pos hj,hcs,List.getElem?_toArray],fun j hj=>by rw[h2 j,if_neg (by omega)]⟩
 obtain ⟨i,hi,rfl⟩:=List.getElem_of_mem hv
 have hi':i<X.size:=by rw[Array.length_toList] at hi;exact hi
 have h3:=h2 i
 rw[Array.getElem?_eq_getElem hi'] at h3
 rw[Array.getElem_toList]
 by_cases hlt:i<188
 ·rw[if_pos hlt,hcs,List.getElem?_toArray] at h3
  exact og ax dv hd _ (List.mem_of_getElem? h3.symm)
 ·rw[if_neg hlt] at h3
  have:=Tryz.Fw
  rw[Array.all_eq_true_iff_forall_mem] at this
  exact this _ (Array.mem_of_getElem? h3.symm)
theorem Px {W:World} {b:Nat} {X:Array Value} {ax:Int} {dv:Value} {dp:Option Pl} {bs:List UInt8} (hb:bI W b X) (hX:xW X ax dv) (ho:Out W dv dp bs):eP W b dp ⟨ax,[],[],bs⟩:=by
 have hc:∀ j,W.cell? ⟨b,j,none⟩=X[j]?:=fun j=>hb.cell j
 have live:Live W b 824:=by
  obtain ⟨e,he⟩:=hb
  exact ⟨_,e,he,by rw[hX.size];exact Nat.le_refl _⟩
 have hl:Tryz.zeroCells97.toList.length=188:=by rw[Array.length_toList,Tryz.pQ]
 have lu:∀ j,1<j→j<188→W.cell? ⟨b,j,none⟩=Tryz.zeroCells97[j]?:=fun j hj h2=>by
  rw[hc,hX.dX j h2,dV,List.getElem?_set_ne (by omega),List.getElem?_set_ne (by omega),Array.getElem?_toList]
 have hrest:∀ j v,188≤j→Tryz.zeroCells108[j]?=some v→W.cell? ⟨b,j,none⟩=some v:=fun j v hj h=>by rw[hc,hX.rest j hj,h]
 refine ⟨⟨live.mono (by decide),?_,⟨dv,?_,ho⟩,⟨live.mono (by decide),fun j u hu=>by simp[cK] at hu,?_,by simp⟩,fun j u hu=>by simp[bH] at hu,?_,by simp⟩,⟨[],0,⟨live.mono (by decide),fun k hk=>absurd hk (by simp),hrest 220 _ (by decide) Tryz.Fx,hrest 221 _ (by decide) Tryz.Fy,by simp,by decide,fun _=>rfl⟩,fun e he=>by cases he⟩,⟨live,hrest 522 _ (by decide) Tryz.Fz,hrest 823 _ (by decide) Tryz.FB⟩⟩
 ·rw[hc,hX.dX 0 (by decide),dV,List.getElem?_set_ne (by omega),List.getElem?_set_self (by omega)]
 ·rw[hc,hX.dX 1 (by decide),dV,List.getElem?_set_self (by rw[List.length_set];omega)]
 ·rw[lu 162 (by decide) (by decide)];exact Tryz.yP
 ·rw[lu 187 (by decide) (by decide)];exact Tryz.yQ
set_option maxHeartbeats 2000000 in
theorem Jh (ax:Int) (v:Value) (n:Nat) (xs:List Value) (w:World) (h0:0≤ax) (h1:ax≤300) (C:∀ w1,w.grownBy w1 none→Calls Tryz.prog 41 #[v] w1 fun e w'=>∃ ao c,e = .returned (.agg #[.slice ao n c])∧w'.ownsRow w1.heap.size 5 1 (.slice ao n c) n xs∧w1.grownBy w' none) :
  Calls Tryz.prog 27 #[.int .i64 ax,v] w fun e w'=>∃ X ao c,e = .returned (.tuple #[.agg X,.int .i64 0])∧xW X ax (.slice ao n c)∧w'.ownsRow (w.heap.size+1) 5 1 (.slice ao n c) n xs∧w.grownBy w' none:=by
 have G0:=hid (World.grownBy_alloc w (.cells Tryz.zeroCells108 108) none)
 have D8:Hid (Live (w.alloc (.cells Tryz.zeroCells108 108)) w.heap.size 824):=by
  have h:=Live.new w Tryz.zeroCells108 108
  rw[Tryz.ui] at h
  exact h
 have HN:=hid (Az ax v n xs (w.alloc (.cells Tryz.zeroCells108 108)) h0 h1 (fun w1 k=>C w1 (ae G0.out k)))
 clear C h0 h1
 go_enter Tryz.func27,Tryz.ntmps27
 go_wp2_with fail
 refine HN.out.mono ?_
 rintro e w1 ⟨ao,c,rfl,own,hg1⟩
 obtain ⟨cs,rM⟩:∃ cs:Array Value,Hid (cs=(dV Tryz.zeroCells97.toList ax (.slice ao n c)).toArray):=⟨_,hid rfl⟩
 rw[←rM.out]
 have L1:=Live.new w1 Tryz.zeroCells97 97
 rw[Tryz.pQ] at L1
 have hcs:cs.size=188:=by rw[rM.out,List.size_toArray,iE]
 have hst:=gJ (P:=Tryz.prog) cs.toList L1 (by rw[Array.length_toList,hcs];exact Nat.le_refl _) (fun v hv=>og _ _ rfl v (by rw[rM.out] at hv;exact hv))
 have RA:=World.rangeAt_setCells_same (w1.alloc (.cells Tryz.zeroCells97 97)) w1.heap.size 0 cs.toList (L1.there 0 _ (by rw[Array.length_toList,hcs];omega))
 have SZ:(Tryz.prog.info? 97).map (·.size)=some cs.toList.length:=by rw[Tryz.Ay,Array.length_toList,hcs]
 obtain ⟨w2,hw2⟩:∃ W,W=(w1.alloc (.cells Tryz.zeroCells97 97)).setCells w1.heap.size 0 cs.toList:=⟨_,rfl⟩
 have GW:w1.grownBy w2 none:=by rw[hw2];exact iK w1.heap.size (Nat.le_refl _) cs.toList 0 _ (World.grownBy_alloc w1 _ none)
 rw[←hw2] at RA hst
 obtain ⟨X,hX⟩:∃ X,Array.foldl (fun cs x=>cs.setIfInBounds x.snd x.fst) Tryz.zeroCells108 cs.zipIdx 0 188=X:=⟨_,rfl⟩
 have hQ:xW X ax (.slice ao n c):=xW.made rM.out rfl hX
 have L2:Live w2 w.heap.size 824:=(D8.out.grown hg1).grown GW
 have LM:=gJ (P:=Tryz.prog) X.toList L2 (by rw[Array.length_toList,hQ.size];exact Nat.le_refl _) hQ.one
 have RB:=World.rangeAt_setCells_same w2 w.heap.size 0 X.toList (L2.there 0 _ (by rw[Array.length_toList,hQ.size];omega))
 have RL:=hid (dN RB 108 _ Tryz.underlying108 rfl (by rw[Tryz.D6,Array.length_toList,hQ.size]))
 have HQ:=hid hQ
 have HR:=hid (And.intro RA SZ)
 have HG2:=hid (iK w.heap.size (Nat.le_refl _) X.toList 0 w2 (ae (ae G0.out hg1) GW))
 have o1:w1.ownsRow (w.heap.size+1) 5 1 (.slice ao n c) n xs:=bZ own (by rw[World.size_alloc];omega)
 have WO:Hid ((w2.setCells w.heap.size 0 X.toList).ownsRow (w.heap.size+1) 5 1 (.slice ao n c) n xs):=by
  have o2:w2.ownsRow (w.heap.size+1) 5 1 (.slice ao n c) n xs:=World.ownsRow.kept o1 GW (Classical.em _)
  refine pM o2 (fun b hb=>?_)
  have hlt:=o2.lt b hb
  exact (CF.setCells (a:=w2) (ex:=fun q _=>q=w.heap.size) w.heap.size _ 0 w2 (CF.refl _ _) (fun _ _ _=>rfl)).block b hlt.2 (fun _ q=>by omega)
 have X9:=hid hw2
 have hXs:=hQ.size
 clear RA SZ L1 L2 RB own o1 hg1 GW hQ hw2 HN
 go_wp2_with (first|(rw[←X9.out];fail_if_success done)|(refine wpList_load_mid rfl 97 _ rfl w1.heap.size 0 rfl cs.toList _ HR.out.1 Tryz.underlying97 rfl HR.out.2 ?_))
 exact bodyPost_ret (aD Tryz.results27 _ _ _ w.heap.size rfl _ RL.out) rfl ⟨X,ao,c,rfl,HQ.out,WO.out,HG2.out⟩
end Go.Proofs.YtpibgolaaaemnaaGreatDoor
namespace Go.Proofs.YtpibgolaaaemnaaGreatDoor
open Go.RowKit
set_option maxRecDepth 100000
set_option maxHeartbeats 2000000 in
theorem Ji (ax:Int) (v:Value) (n:Nat) (bs:List UInt8) (w:World) (h0:0≤ax) (h1:ax≤300) (C:∀ w1,w.grownBy w1 none→Calls Tryz.prog 41 #[v] w1 fun e w'=>∃ ao c,e = .returned (.agg #[.slice ao n c])∧w'.ownsRow w1.heap.size 5 1 (.slice ao n c) n (bs.map U8)∧w1.grownBy w' none) :
  Calls Tryz.prog 13 #[.int .i64 ax,v] w fun e w'=>∃ b dp,e = .returned (.tuple #[.pointer (some ⟨b,0,none⟩),.int .i64 0])∧eP w' b dp ⟨ax,[],[],bs⟩∧w.heap.size≤b∧Pl.fresh w.heap.size dp∧(∀ q,dp=some q→q.g≠b)∧w.grownBy w' none:=by
 have HN:=hid (Jh ax v n (bs.map U8) w h0 h1 C)
 clear C h0 h1
 go_enter Tryz.func13,Tryz.ntmps13
 go_wp2_with fail
 refine HN.out.mono ?_
 rintro e w1 ⟨X,ao,c,rfl,hQ,own,hg1⟩
 have hXs:=hQ.size
 have L1:=Live.new w1 Tryz.zeroCells108 108
 rw[Tryz.ui] at L1
 have hst:=gJ (P:=Tryz.prog) X.toList L1 (by rw[Array.length_toList,hXs];exact Nat.le_refl _) hQ.one
 have RA:=World.rangeAt_setCells_same (w1.alloc (.cells Tryz.zeroCells108 108)) w1.heap.size 0 X.toList (L1.there 0 _ (by rw[Array.length_toList,hXs];omega))
 have SZ:(Tryz.prog.info? 108).map (·.size)=some X.toList.length:=by rw[Tryz.D6,Array.length_toList,hXs]
 obtain ⟨w2,hw2⟩:∃ W,W=(w1.alloc (.cells Tryz.zeroCells108 108)).setCells w1.heap.size 0 X.toList:=⟨_,rfl⟩
 have GW:w1.grownBy w2 none:=by rw[hw2];exact iK w1.heap.size (Nat.le_refl _) X.toList 0 _ (World.grownBy_alloc w1 _ none)
 rw[←hw2] at RA hst
 have hY:Array.foldl (fun cs x=>cs.setIfInBounds x.snd x.fst) Tryz.zeroCells112 X.zipIdx 0 824=X:=by
  obtain ⟨q1,q2⟩:=D7 Tryz.zeroCells112 X 824 hXs (by rw[Tryz.BH];exact Nat.le_refl _)
  refine Array.ext_getElem? fun i=>?_
  rw[q2 i]
  by_cases hi:i<824
  ·rw[if_pos hi]
  ·rw[if_neg hi,Array.getElem?_eq_none (by rw[Tryz.BH];omega),Array.getElem?_eq_none (by omega)]
 have HQ:=hid hQ
 have HR:=hid (And.intro RA SZ)
 have X9:=hid hw2
 have HG:=hid (And.intro hg1 GW)
 have WO:=hid own
 clear RA SZ L1 own hg1 GW hQ hw2 HN
 go_wp2_with (first|(rw[←X9.out];fail_if_success done)|(refine wpList_load_mid rfl 108 _ rfl w1.heap.size 0 rfl X.toList _ HR.out.1 Tryz.underlying108 rfl HR.out.2 ?_))
 have GA:=World.grownBy_alloc w2 (.cells X 112) none
 obtain ⟨dp,Cv,hfr⟩:=Out.own WO.out
 have HO:=Cv.grown (ae HG.out.2 GA)
 have hq:∀ q,dp=some q→q.g<w1.heap.size:=fun q e=>Cv.Et q e
 have hs1:=HG.out.1.size
 have hs2:=HG.out.2.size
 go_ret2
 exact ⟨_,dp,rfl,Px (bI.new w2 X _) HQ.out HO,by omega,fun q e=>by have:=hfr q e;omega,fun q e=>by have:=hq q e;omega,ae (ae HG.out.1 HG.out.2) GA⟩
end Go.Proofs.YtpibgolaaaemnaaGreatDoor
namespace Go.Proofs.YtpibgolaaaemnaaGreatDoor
open Go.RowKit
set_option maxRecDepth 100000
def jm (q:Bool) (w:World) (g:Nat) (dp:Option Pl) (M:DM):Prop:=match q with | true=>eP w g dp M | false=>cz w g 0 dp M
theorem jm.dX {q:Bool} {w:World} {g:Nat} {dp:Option Pl} {M:DM} (h:jm q w g dp M):cz w g 0 dp M:=by
 cases q with
 | true=>exact eP.dX h
 | false=>exact h
theorem jm.cf {q:Bool} {w w':World} {ex:Nat→Nat→Prop} {g:Nat} {dp:Option Pl} {M:DM} (h:jm q w g dp M) (k:CF w w' ex) (hg:∀ y,¬ ex g y) (hd:∀ p,dp=some p→∀ y,¬ ex p.g y):jm q w' g dp M:=by
 cases q with
 | true=>exact eP.cf h k hg hd
 | false=>exact cz.cf h k (fun _ _ _=>hg _) (fun p hp _ _=>hd p hp _)
theorem jm.grown {q:Bool} {w w':World} {g:Nat} {dp:Option Pl} {M:DM} (h:jm q w g dp M) (k:w.grownBy w' none):jm q w' g dp M:=h.cf (CF.aW k (fun _ _=>False)) (fun _ e=>e) (fun _ _ _ e=>e)
def uL (q:Bool) (g:Nat):Array Value:=match q with | true=>#[.pointer none,.pointer (some ⟨g,0,none⟩)] | false=>#[.pointer (some ⟨g,0,none⟩),.pointer none]
structure TR (q:Bool) (w w':World) (g:Nat) (dp:Option Pl) (v':Value) (R:List UInt8×DM):Prop where
 out:∃ p',Out w' v' p' R.1∧Pl.fresh w.heap.size p'
 dX:∃ rH,jm q w' g rH R.2∧∀ q',rH=some q'→∃ q,dp=some q∧q.g=q'.g
 cf:CF w w' (fun b _=>b=g)
theorem TR.shape {q:Bool} {w w':World} {g:Nat} {dp:Option Pl} {v':Value} {R:List UInt8×DM} (h:TR q w w' g dp v' R):∃ a c,v' = .slice a R.1.length c:=by
 obtain ⟨p',ho,_⟩:=h.out
 obtain ⟨a,c,hv,_⟩:=ho.shape
 exact ⟨a,c,hv⟩
theorem TR.ofFin {w w':World} {g:Nat} {dp:Option Pl} {v':Value} {R:List UInt8×DM} (h:Fin w w' g none none dp (fun _ _=>False) v' R):TR false w w' g dp v' R:=by
 refine ⟨?_,h.dX,h.cf.mono (fun b y _ e=>?_)⟩
 ·obtain ⟨p',ho,hp⟩:=h.out
  exact ⟨p',ho,hp.elim (fun e=>by rw[e];exact fun q hq=>by cases hq) id⟩
 ·rcases e with e|(e | e) | e
  ·exact e.1
  ·exact e.elim
  ·obtain ⟨q,hq,_⟩:=e;cases hq
  ·obtain ⟨q,hq,_⟩:=e;cases hq
end Go.Proofs.YtpibgolaaaemnaaGreatDoor
namespace Go.Proofs.YtpibgolaaaemnaaGreatDoor
open Go.RowKit
set_option maxRecDepth 100000
abbrev jr:=jJ×Int×Value
def jr.cells (j:jr):List Value:=(bF j.1 j.2.1 j.2.2).toList
def dM (js:List jr):List Value:=(js.map jr.cells).flatten
def fJ (ds:List (Value×Int)):List Value:=(ds.map fun d=>[d.1,.int .i64 d.2]).flatten
theorem oz:∀ ds:List (Value×Int),(fJ ds).length=ds.length*2
 | []=>rfl
 | d::ds=>by
  have h:=oz ds
  unfold fJ at h ⊢
  simp only[List.map_cons,List.flatten_cons,List.length_append,List.length_cons,List.length_nil,h]
  omega
theorem zo (ds:List (Value×Int)) (v:Value) (r:Int):fJ (ds++[(v,r)])=fJ ds++[v,.int .i64 r]:=by simp[fJ]
theorem uM:∀ (js:List jr) (i j:Nat) (hi:i<js.length),j<9→(dM js)[i*9+j]?=(js[i]).cells[j]?:=by
 intro js
 induction js with
 | nil=>intro i j hi;simp at hi
 | cons y js ih=>
  intro i j hi hj
  have hy:y.cells.length=9:=rfl
  cases i with
  | zero=>
   show (y.cells++dM js)[0*9+j]?=_
   rw[Nat.zero_mul,Nat.zero_add,List.getElem?_append_left (by rw[hy];exact hj)]
   rfl
  | succ i=>
   show (y.cells++dM js)[(i+1)*9+j]?=_
   rw[List.getElem?_append_right (by rw[hy];omega),hy,show (i+1)*9+j-9=i*9+j by omega,ih i j (by simpa using hi) hj]
   rfl
theorem PU {W:World} {b k:Nat} {cs:List Value} {d0 d1:Value} (h:W.rangeAt b 0 cs) (hl:cs.length=k*2) (q0:W.cell? ⟨b,k*2,none⟩=some d0) (q1:W.cell? ⟨b,k*2+1,none⟩=some d1) (v0 v1:Value):((W.setCell ⟨b,k*2,none⟩ v0).setCell ⟨b,k*2+1,none⟩ v1).rangeAt b 0 (cs++[v0,v1]):=by
 intro j u hu
 have n1:∀ i,i≠k*2→(⟨b,k*2,none⟩:Addr)≠⟨b,i,none⟩:=fun i hi e=>hi (by injection e with _ e;exact e.symm)
 have n2:∀ i,i≠k*2+1→(⟨b,k*2+1,none⟩:Addr)≠⟨b,i,none⟩:=fun i hi e=>hi (by injection e with _ e;exact e.symm)
 rw[Nat.zero_add]
 by_cases hj:j<k*2
 ·rw[List.getElem?_append_left (by omega)] at hu
  rw[World.cell?_setCell_other _ _ _ _ (n2 j (by omega)),World.cell?_setCell_other _ _ _ _ (n1 j (by omega))]
  have:=h j u hu
  rwa [Nat.zero_add] at this
 ·rw[List.getElem?_append_right (by omega),hl] at hu
  by_cases h0:j=k*2
  ·subst h0
   rw[Nat.sub_self] at hu
   obtain rfl:v0=u:=by simpa using hu
   rw[World.cell?_setCell_other _ _ _ _ (n2 _ (by omega))]
   exact World.cell?_setCell_same _ _ _ q0
  ·by_cases h1:j=k*2+1
   ·subst h1
    rw[show k*2+1-k*2=1 by omega] at hu
    obtain rfl:v1=u:=by simpa using hu
    have q2:(W.setCell ⟨b,k*2,none⟩ v0).cell? ⟨b,k*2+1,none⟩=some d1:=by rw[World.cell?_setCell_other _ _ _ _ (n1 _ (by omega))];exact q1
    exact World.cell?_setCell_same _ _ _ q2
   ·have h2:=(List.getElem?_eq_some_iff.1 hu).1
    simp at h2
    omega
theorem FI {w w':World} {b o:Nat} {cs:List Value} (h:w.rangeAt b o cs) (k:w.grownBy w' none):w'.rangeAt b o cs:=fun i v hv=>k.cell (h i v hv) (by simp)
def BP (w:World) (g n:Nat) (I:List (Value×Int)→World→Prop) (e:Ending) (w':World):Prop:=
 ∃ (ob:Nat) (ds:List (Value×Int)),e = .returned (.tuple #[.slice (some ⟨ob,0,none⟩) n n,.int .i64 0])∧w.heap.size≤ob∧ob<w'.heap.size∧ds.length=n∧I ds w'∧w'.rangeAt ob 0 (fJ ds)∧CF w w' (fun b _=>b=g)
theorem Tryz.Ul:(Tryz.prog.info? 71).map (fun i=>(i.zero,i.size,i.bytes))=some (some (.agg #[.slice none 0 0,.int .i64 0]),2,32):=by kernel_rfl
set_option maxHeartbeats 2000000 in
theorem Jt (g jb:Nat) (n cap:Nat) (js:List jr) (w:World) (I:List (Value×Int)→World→Prop) (hn:Hid (js.length=n)) (hmax:n≤16) (hv:∀ j∈js,∃ ao m c,j.2.2 = .slice ao m c)
  (hj:w.rangeAt jb 0 (dM js)) (hjl:jb<w.heap.size) (ZN:jb≠g) (hg:g<w.heap.size) (hI0:I [] w) (hI:∀ ds W W',I ds W→CF W W' (fun b _=>b=w.heap.size)→I ds W')
  (step:∀ ds W (h:ds.length<js.length),w.heap.size<W.heap.size→I ds W→Calls Tryz.prog 42 #[.iface 119 (.pointer (some ⟨g,0,none⟩)),.agg (bF (js[ds.length]).1 (js[ds.length]).2.1 (js[ds.length]).2.2)] W fun e w'=>∃ va vn vc r,e = .returned (.agg #[.slice va vn vc,.int .i64 r])∧I (ds++[(.slice va vn vc,r)]) w'∧CF W w' (fun b _=>b=g)) :
  Calls Tryz.prog 30 #[.iface 119 (.pointer (some ⟨g,0,none⟩)),.slice (some ⟨jb,0,none⟩) n cap] w fun e w'=>BP w g n I e w':=by
 obtain ⟨i0,hif,hz0,hz1,hz2⟩:=info_parts Tryz.Ul
 have WV:=run_makeSlice (P:=Tryz.prog) w 66 71 i0 _ Tryz.underlying66 hif hz0 .i64 .i64 (n:Int) (n:Int) (by omega) (Int.le_refl _) (by rw[hz1];omega) (by rw[hz2];omega) (by omega)
 rw[hz1] at WV
 simp only[Int.toNat_natCast] at WV
 obtain ⟨Z,hZ⟩:∃ Z,madeCells (Value.agg #[.slice none 0 0,.int .i64 0]).cells (n*2)=Z:=⟨_,rfl⟩
 have hZs:Z.size=n*2:=by rw[←hZ];exact size_madeCells _ _
 rw[hZ] at WV
 obtain ⟨W1,hW1⟩:∃ W,w.alloc (.cells Z 71)=W:=⟨_,rfl⟩
 have G1:w.grownBy W1 none:=by rw[←hW1];exact World.grownBy_alloc w _ none
 have yx:Hid (Live W1 w.heap.size (n*2)):=by show Live _ _ _;rw[←hW1,←hZs];exact Live.new w _ _
 have HI1:Hid (I [] W1):=hI [] w W1 hI0 (CF.aW G1 _)
 have wI:Hid (CF w W1 (fun b _=>b=g)):=CF.aW G1 _
 rw[hW1] at WV
 have HJ:=hid hj
 have HI:=hid hI
 have iM:=hid step
 have HV:=hid hv
 have Hn:=hid hn.out
 have Hg:=hid (And.intro hjl (And.intro ZN hg))
 clear hZ hZs hW1 G1 hj hI step hv hI0 hn hjl ZN hg hif hz0 hz1 hz2
 have hn16:¬ (16:Int)<(n:Int):=by omega
 go_enter Tryz.func30,Tryz.ntmps30
 go_wp2
 go_loopw [7,8,17] (fun _ _ i wr=>∃ (k:Nat) (ds:List (Value×Int)),k≤n∧i = .int .i64 k∧ds.length=k∧I ds wr∧Live wr w.heap.size (n*2)∧wr.rangeAt w.heap.size 0 (fJ ds)∧CF w wr (fun b _=>b=g)) (fun _ _ i _=>n-(intOf i).toNat)
 case atStart=>exact ⟨0,[],Nat.zero_le _,rfl,rfl,HI1.out,yx.out,fun j v hv=>by simp[fJ] at hv,wI.out⟩
 case round=>
  obtain ⟨k,ds,hk,rfl,hdl,hId,hLv,hRg,hCF⟩:=hrel
  have HK:=hid (And.intro hdl (And.intro hId (And.intro hLv (And.intro hRg hCF))))
  clear hdl hId hLv hRg hCF
  by_cases hlt:k<n
  ·have hkl:ds.length<js.length:=by rw[HK.out.1,Hn.out];exact hlt
   have hk2:k<js.length:=by rw[Hn.out];exact hlt
   obtain ⟨⟨a,now,v⟩,hx⟩:∃ x,js[k]=x:=⟨_,rfl⟩
   obtain ⟨ao,m,c,hvs⟩:=HV.out _ (List.getElem_mem hk2)
   rw[hx] at hvs
   obtain rfl:v = .slice ao m c:=hvs
   have hcell:∀ j u,((bF a now (.slice ao m c)).toList)[j]?=some u→wr.cell? ⟨jb,k*9+j,none⟩=some u:=fun j u hu=>by
    have hj9:j<9:=(List.getElem?_eq_some_iff.1 hu).1
    have h:=(HK.out.2.2.2.2.range HJ.out (fun _ _ e=>Hg.out.2.1 e)) (k*9+j) u (by rw[uM js k j hk2 hj9,hx];exact hu)
    rwa [Nat.zero_add] at h
   have e0:wr.cell? ⟨jb,k*9,none⟩=some (.int .i64 a.kind):=hcell 0 _ rfl
   have e1:wr.cell? ⟨jb,k*9+1,none⟩=some (.string ⟨a.name.toArray⟩):=hcell 1 _ rfl
   have e2:wr.cell? ⟨jb,k*9+2,none⟩=some (.int .u64 (a.key.toNat:Int)):=hcell 2 _ rfl
   have e3:wr.cell? ⟨jb,k*9+3,none⟩=some (.int .i64 a.cO):=hcell 3 _ rfl
   have e4:wr.cell? ⟨jb,k*9+4,none⟩=some (.int .i64 a.aF):=hcell 4 _ rfl
   have e5:wr.cell? ⟨jb,k*9+5,none⟩=some (.int .i64 a.bU):=hcell 5 _ rfl
   have e6:wr.cell? ⟨jb,k*9+6,none⟩=some (.int .i64 a.ay):=hcell 6 _ rfl
   have e7:wr.cell? ⟨jb,k*9+7,none⟩=some (.int .i64 now):=hcell 7 _ rfl
   have e8:wr.cell? ⟨jb,k*9+8,none⟩=some (.slice ao m c):=hcell 8 _ rfl
   have xD:=hid (World.grownBy_alloc wr (.cells (bF a now (.slice ao m c)) 45) none)
   have HD0:=iM.out ds _ hkl (Nat.lt_of_lt_of_le HK.out.2.2.1.lt xD.out.size) (HI.out ds wr _ HK.out.2.1 (CF.aW xD.out _))
   have hds:js[ds.length]=(a,now,.slice ao m c):=by rw[←hx];congr 1;exact HK.out.1
   rw[hds] at HD0
   have HD:=hid HD0
   have rT:(k:Int)<(n:Int):=by omega
   have hk0:(0:Int)≤(k:Int):=by omega
   clear HD0 hds hcell hx hkl
   go_wp2_with (first|(go_at_call 42;refine HD.out.mono ?_;clear HD;rintro e w2 ⟨va,vn,vc,r,rfl,P2,C2⟩;have Vf:=hid P2;have Kr:=hid C2;have hL:=(HK.out.2.2.1.grown xD.out).cf C2;obtain ⟨d0,q0⟩:=Option.isSome_iff_exists.1 (hL.some (k*2) (by omega));obtain ⟨d1,q1⟩:=Option.isSome_iff_exists.1 (hL.some (k*2+1) (by omega));have f0:=hL.frozen (k*2);have f1:=hL.frozen (k*2+1);have HL2:=hid hL;clear P2 C2 hL))
   go_roundw
   case rel=>
    have hS:CF w2 ((w2.setCell ⟨w.heap.size,k*2,none⟩ (.slice va vn vc)).setCell ⟨w.heap.size,k*2+1,none⟩ (.int .i64 r)) (fun b _=>b=w.heap.size):=((CF.refl w2 (fun b _=>b=w.heap.size)).setCell w.heap.size (k*2) _ (fun _=>rfl)).setCell w.heap.size (k*2+1) _ (fun _=>rfl)
    have hR2:=(Kr.out.range (FI (HK.out.2.2.2.1) xD.out) (fun _ _ e=>by have:=Hg.out.2.2;omega))
    refine ⟨k+1,ds++[(.slice va vn vc,r)],by omega,by go_num,by simp[HK.out.1],HI.out _ _ _ Vf.out hS,HL2.out.cf hS,?_,?_⟩
    ·rw[zo]
     exact PU hR2 (by rw[oz,HK.out.1]) q0 q1 _ _
    ·exact ((HK.out.2.2.2.2.trans (CF.aW xD.out (fun b _=>b=g)) (fun _ _ _ e=>e)).trans Kr.out (fun _ _ _ e=>e)).trans hS (fun _ _ hb e=>by omega)
   case measure=>simp[intOf];omega
  ·have hkn:k=n:=by omega
   subst hkn
   go_wp2
   go_ret2
   exact ⟨_,ds,rfl,Nat.le_refl _,HK.out.2.2.1.lt,HK.out.1,HK.out.2.1,HK.out.2.2.2.1,HK.out.2.2.2.2⟩
end Go.Proofs.YtpibgolaaaemnaaGreatDoor
namespace Go.Proofs.YtpibgolaaaemnaaGreatDoor
open Go.RowKit
set_option maxRecDepth 100000
set_option maxHeartbeats 1000000 in
theorem Ju (g jb:Nat) (n cap:Nat) (js:List jr) (w:World) (I:List (Value×Int)→World→Prop) (hn:Hid (js.length=n)) (hmax:n≤16) (hv:∀ j∈js,∃ ao m c,j.2.2 = .slice ao m c)
  (hj:w.rangeAt jb 0 (dM js)) (hjl:jb<w.heap.size) (ZN:jb≠g) (hg:g<w.heap.size) (hI0:I [] w) (hI:∀ ds W W',I ds W→CF W W' (fun b _=>b=w.heap.size)→I ds W')
  (step:∀ ds W (h:ds.length<js.length),w.heap.size<W.heap.size→I ds W→Calls Tryz.prog 42 #[.iface 119 (.pointer (some ⟨g,0,none⟩)),.agg (bF (js[ds.length]).1 (js[ds.length]).2.1 (js[ds.length]).2.2)] W fun e w'=>∃ va vn vc r,e = .returned (.agg #[.slice va vn vc,.int .i64 r])∧I (ds++[(.slice va vn vc,r)]) w'∧CF W w' (fun b _=>b=g)) :
  Calls Tryz.prog 18 #[.pointer (some ⟨g,0,none⟩),.slice (some ⟨jb,0,none⟩) n cap] w fun e w'=>BP w g n I e w':=by
 have HB:=hid (Jt g jb n cap js w I hn hmax hv hj hjl ZN hg hI0 hI step)
 clear hn hmax hv hj hjl ZN hg hI0 hI step
 go_enter Tryz.func18,Tryz.ntmps18
 go_wp2_with fail
 refine HB.out.mono ?_
 rintro e w' ⟨ob,ds,rfl,h⟩
 have HH:=hid h
 clear h HB
 go_wp2
 go_ret2
 exact ⟨ob,ds,rfl,HH.out⟩
abbrev gF:=jJ×Int×List UInt8
def xZ (M:DM) (j:gF):(List UInt8×Int)×DM:=
 if j.1.kind=0 then (((cB M j.2.1 j.2.2).1,0),(cB M j.2.1 j.2.2).2) else (([],(fU M.aH j.1).2),{M with aH:=(fU M.aH j.1).1})
def ek (M:DM) (js:List gF):DM:=js.foldl (fun M j=>(xZ M j).2) M
theorem vJ (M:DM) (js:List gF) (j:gF):ek M (js++[j])=(xZ (ek M js) j).2:=by simp[ek]
structure gF.Ok (j:gF):Prop where
 cO:In64 j.1.cO
 aF:In64 j.1.aF
 ay:In64 j.1.ay
 name:j.1.name.length≤140737488355328
 now:In64 j.2.1
theorem dE.xZ {M:DM} {n:Nat} (h:dE M n) (hn:1≤n) {j:gF} (hj:j.Ok):dE (xZ M j).2 (n+1):=by
 unfold Go.Proofs.YtpibgolaaaemnaaGreatDoor.xZ
 split
 ·exact (h.answer _ _).mono (by omega)
 ·exact h.adm hn _ hj.cO hj.aF
theorem dE.ek {M:DM} {n:Nat} (h:dE M n) (hn:1≤n):∀ (js:List gF),(∀ j∈js,j.Ok)→dE (ek M js) (n+js.length):=by
 intro js
 induction js generalizing M n with
 | nil=>intro _;exact h
 | cons j js ih=>
  intro hj
  have:=ih (h.xZ hn (hj j (by simp))) (by omega) (fun x hx=>hj x (by simp[hx]))
  rw[List.length_cons,show n+(js.length+1)=n+1+js.length by omega]
  exact this
def BQ (n:Nat) (W:World) (d:Value×Int) (j:gF) (r:List UInt8×Int):Prop:=d.2=r.2∧if j.1.kind=0 then ∃ p,Out W d.1 p r.1∧Pl.fresh n p else d.1 = .slice none 0 0
theorem BQ.cf {n:Nat} {W W':World} {ex:Nat→Nat→Prop} {d:Value×Int} {j:gF} {r:List UInt8×Int} (h:BQ n W d j r) (k:CF W W' ex) (hx:∀ b y,n≤b→¬ ex b y):BQ n W' d j r:=by
 refine ⟨h.1,?_⟩
 have h2:=h.2
 by_cases hk:j.1.kind=0
 ·rw[if_pos hk] at h2 ⊢
  obtain ⟨p,ho,hf⟩:=h2
  exact ⟨p,ho.cf k (fun q hq _ _=>hx _ _ (hf q hq)),hf⟩
 ·rw[if_neg hk] at h2 ⊢
  exact h2
def Yc (w:World) (g:Nat) (v:Value) (aG:List UInt8):Prop:=∃ ao cap,v = .slice ao aG.length cap∧At w ao aG∧Bs (ao,aG) v aG∧∀ b off,ao=some ⟨b,off,none⟩→b≠g
structure QI (w:World) (g:Nat) (dp:Option Pl) (M:DM) (ms:List gF) (ds:List (Value×Int)) (W:World):Prop where
 len:ds.length≤ms.length
 dX:∃ rH,eP W g rH (ek M (ms.take ds.length))∧∀ q',rH=some q'→∃ q,dp=some q∧q.g=q'.g
 said:∀ i (h:i<ds.length) (h':i<ms.length),BQ (w.heap.size+1) W ds[i] ms[i] (xZ (ek M (ms.take i)) ms[i]).1
 cf:CF w W (fun b _=>b=g)
theorem QI.snoc {w:World} {g:Nat} {dp:Option Pl} {M:DM} {ms:List gF} {ds:List (Value×Int)} {W w':World} (h:QI w g dp M ms ds W) (hl:ds.length<ms.length) (k:CF W w' (fun b _=>b=g)) (hg:g<w.heap.size) (d:Value×Int)
  (hd:∃ rH,eP w' g rH (xZ (ek M (ms.take ds.length)) (ms[ds.length])).2∧∀ q',rH=some q'→∃ q,dp=some q∧q.g=q'.g) (hs:BQ (w.heap.size+1) w' d (ms[ds.length]) (xZ (ek M (ms.take ds.length)) (ms[ds.length])).1):QI w g dp M ms (ds++[d]) w':=by
 refine ⟨by rw[List.length_append,List.length_singleton];omega,?_,fun i h1 h2=>?_,h.cf.trans k (fun _ _ _ e=>e)⟩
 ·rw[List.length_append,List.length_singleton,List.take_succ_eq_append_getElem hl,vJ]
  exact hd
 ·rw[List.length_append,List.length_singleton] at h1
  by_cases hi:i<ds.length
  ·rw[List.getElem_append_left hi]
   exact (h.said i hi h2).cf k (fun b y hb e=>by omega)
  ·obtain rfl:i=ds.length:=by omega
   rw[List.getElem_append_right (Nat.le_refl _)]
   simpa using hs
set_option maxHeartbeats 1000000 in
theorem Me (g jb n cap N:Nat) (js:List jr) (ms:List gF) (dp:Option Pl) (M:DM) (w:World) (hq:eP w g dp M) (vV:∀ q,dp=some q→q.g≠g) (hdl:∀ q,dp=some q→q.g<w.heap.size) (hM:dE M N) (hN1:1≤N) (hN:N+16≤4611686018427387904)
  (hn:Hid (js.length=n)) (hmax:n≤16) (hl:ms.length=n) (hms:∀ j∈ms,j.Ok) (hjm:∀ i (h:i<js.length) (h':i<ms.length),(js[i]).1=(ms[i]).1∧(js[i]).2.1=(ms[i]).2.1∧Yc w g (js[i]).2.2 (ms[i]).2.2)
  (hj:w.rangeAt jb 0 (dM js)) (hjl:jb<w.heap.size) (ZN:jb≠g) :
  Calls Tryz.prog 18 #[.pointer (some ⟨g,0,none⟩),.slice (some ⟨jb,0,none⟩) n cap] w fun e w'=>BP w g n (QI w g dp M ms) e w':=by
 have hg:g<w.heap.size:=hq.dX.live.lt
 refine Ju g jb n cap js w (QI w g dp M ms) hn hmax (fun j hx=>?_) hj hjl ZN hg ⟨Nat.zero_le _,⟨dp,hq,fun q' h=>⟨q',h,rfl⟩⟩,fun i h=>(by simp at h),CF.refl w _⟩ (fun ds W W' h k=>?_) (fun ds W h hW hI=>?_)
 ·obtain ⟨i,hi,rfl⟩:=List.getElem_of_mem hx
  obtain ⟨_,_,ao,c,hv,_⟩:=hjm i hi (by rw[hl,←hn.out];exact hi)
  exact ⟨ao,_,c,hv⟩
 ·obtain ⟨rH,h1,h2⟩:=h.dX
  refine ⟨h.len,⟨rH,h1.cf k (fun y e=>by omega) (fun q hq' y e=>?_),h2⟩,fun i hi hi'=>(h.said i hi hi').cf k (fun b y hb e=>by omega),h.cf.trans k (fun b y hb e=>by omega)⟩
  obtain ⟨q0,e0,e1⟩:=h2 q hq'
  have:=hdl q0 e0
  omega
 ·have hlm:ds.length<ms.length:=by rw[hl,←hn.out];exact h
  obtain ⟨j1,j2,ao,c,hv,hat,hbs,hao⟩:=hjm ds.length h hlm
  obtain ⟨rH,d1,d2⟩:=hI.dX
  have hinv:=hM.ek hN1 (ms.take ds.length) (fun j hx=>hms j (List.mem_of_mem_take hx))
  have BR:dE (ek M (ms.take ds.length)) (N+16):=hinv.mono (by rw[List.length_take];omega)
  have ac2:∀ q,rH=some q→q.g≠g:=fun q hq'=>by
   obtain ⟨q0,e0,e1⟩:=d2 q hq'
   have:=vV q0 e0
   omega
  have hok:=hms _ (List.getElem_mem hlm)
  obtain ⟨x,hx⟩:∃ x,ms[ds.length]=x:=⟨_,rfl⟩
  rw[hx] at j1 j2 hv hat hbs hok
  obtain ⟨M1,hM1⟩:∃ M1,ek M (ms.take ds.length)=M1:=⟨_,rfl⟩
  rw[hM1] at d1 BR
  rw[j1,j2,hv]
  by_cases hk:x.1.kind=0
  ·have hkb:(x.1.kind==0)=true:=by rw[hk];rfl
   have ahi:At W ao x.2.2:=hat.cf hI.cf (fun b off e _ _ e2=>hao b off e e2)
   rw[hv] at hbs
   refine (Pt g rH M1 x.1 x.2.1 x.2.2 x.2.2.length ao c W d1 ac2 (BR.bin hN) BR.aH.sorted (hid rfl) ahi hao hbs hok.now BR.ax BR.times (PW BR _ _) hkb).mono ?_
   rintro e w' ⟨v',rfl,F⟩
   obtain ⟨a,c',hs⟩:=F.shape
   obtain ⟨p',o1,o2⟩:=F.out
   obtain ⟨dp2,f1,f2⟩:=F.dX
   subst hs
   have e1:xZ M1 x=(((cB M1 x.2.1 x.2.2).1,0),(cB M1 x.2.1 x.2.2).2):=by unfold xZ;rw[if_pos hk]
   refine ⟨a,_,c',0,rfl,hI.snoc hlm F.cf hg _ ⟨dp2,by rw[hx,hM1,e1];exact f1,fun q' hq'=>?_⟩ ?_,F.cf⟩
   ·obtain ⟨q1,e2,e3⟩:=f2 q' hq'
    obtain ⟨q0,e4,e5⟩:=d2 q1 e2
    exact ⟨q0,e4,e5.trans e3⟩
   ·rw[hx,hM1,e1]
    refine ⟨rfl,?_⟩
    rw[if_pos hk]
    exact ⟨p',o1,fun q hq'=>by have:=o2 q hq';omega⟩
  ·have hkb:(x.1.kind==0)=false:=by simpa using hk
   refine (TP g rH M1 (N+16) x.1 x.2.1 _ W d1 ac2 BR.aH hN hok.ay.1 hok.ay.2 (by have:=hok.name;omega) hkb).mono ?_
   rintro e w' ⟨rfl,f1,f2⟩
   have e1:xZ M1 x=(([],(fU M1.aH x.1).2),{M1 with aH:=(fU M1.aH x.1).1}):=by unfold xZ;rw[if_neg hk]
   refine ⟨none,0,0,_,rfl,hI.snoc hlm f2 hg _ ⟨rH,by rw[hx,hM1,e1];exact f1,d2⟩ ?_,f2⟩
   rw[hx,hM1,e1]
   refine ⟨rfl,?_⟩
   rw[if_neg hk]
end Go.Proofs.YtpibgolaaaemnaaGreatDoor
