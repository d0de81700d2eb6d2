/-
  
  
  
  
  
  
  
-/
import Derived.Test.YtbanfbpfapjfcaaGreatDoorGTQAns
import Derived.Test.YtbanfbpfapjfcaaGreatDoorGTPBookG
import Derived.Test.YtbanfbpfapjfcaaGreatDoorGTKReadE
namespace Go.Proofs.YtbanfbpfapjfcaaGreatDoor
open Go.RowKit
set_option maxRecDepth 100000
theorem make_done (w : World) : (Instr.makeSlice 86 (.int .i64 1) (.int .i64 1)).run Tryz.prog w = .ok (.slice (some ⟨w.heap.size,0,none⟩) 1 1) (w.alloc (.cells #[.slice none 0 0,.int .i64 0] 93)) := by kernel_rfl
def OneDone (w : World) (Post : World → World → Value → Int → Prop) (e : Ending) (w' : World) : Prop :=
 ∃ (ob : Nat) (x : Value) (r : Int) (W w1 : World),e = .returned (.tuple #[.slice (some ⟨ob,0,none⟩) 1 1,.int .i64 0]) ∧ w.grownBy W none ∧ w.heap.size ≤ ob ∧ ob < W.heap.size ∧ Post W w1 x r ∧ W.heap.size ≤ w1.heap.size ∧ CF w1 w' (fun b _ => b = ob) ∧ w'.rangeAt ob 0 [x,.int .i64 r]
set_option maxHeartbeats 2000000 in
theorem qbatch_one (g jb : Nat) (cap : Nat) (a : Adm) (now : Int) (v : Value) (w : World) (Post : World → World → Value → Int → Prop) (hv : ∃ ao n c,v = .slice ao n c)
  (hj : w.rangeAt jb 0 (jobCells a now v).toList)
  (C : ∀ W,w.grownBy W none → Calls Tryz.prog 88 #[.iface 152 (.pointer (some ⟨g,0,none⟩)),.agg (jobCells a now v)] W fun e w' => ∃ va vn vc r,e = .returned (.agg #[.slice va vn vc,.int .i64 r]) ∧ Post W w' (.slice va vn vc) r ∧ CF W w' (fun b _ => b = g)) (hg : g < w.heap.size) :
  Calls Tryz.prog 57 #[.iface 152 (.pointer (some ⟨g,0,none⟩)),.slice (some ⟨jb,0,none⟩) 1 cap] w fun e w' => OneDone w Post e w' := by
 obtain ⟨ao,n,c,rfl⟩ := hv
 have k0 : w.cell? ⟨jb,0,none⟩ = some (.int .i64 a.kind) := hj 0 _ rfl
 have k1 : w.cell? ⟨jb,1,none⟩ = some (.string ⟨a.name.toArray⟩) := hj 1 _ rfl
 have k2 : w.cell? ⟨jb,2,none⟩ = some (.int .u64 (a.key.toNat : Int)) := hj 2 _ rfl
 have k3 : w.cell? ⟨jb,3,none⟩ = some (.int .i64 a.life) := hj 3 _ rfl
 have k4 : w.cell? ⟨jb,4,none⟩ = some (.int .i64 a.renew) := hj 4 _ rfl
 have k5 : w.cell? ⟨jb,5,none⟩ = some (.int .i64 a.expire) := hj 5 _ rfl
 have k6 : w.cell? ⟨jb,6,none⟩ = some (.int .i64 a.flags) := hj 6 _ rfl
 have k7 : w.cell? ⟨jb,7,none⟩ = some (.int .i64 now) := hj 7 _ rfl
 have k8 : w.cell? ⟨jb,8,none⟩ = some (.slice ao n c) := hj 8 _ rfl
 have hmk := make_done
 have HC := hid C
 clear C hj
 go_enter Tryz.func57,Tryz.ntmps57
 obtain ⟨W1,hW1⟩ : ∃ W,W = w.alloc (.cells #[.slice none 0 0,.int .i64 0] 93) := ⟨_,rfl⟩
 have G1 : w.grownBy W1 none := by rw [hW1]; exact World.grownBy_alloc w _ none
 have HL1 : Hid (Live W1 w.heap.size 2) := by show Live _ _ _; rw [hW1]; exact Live.new w _ _
 have s1 : W1.heap.size = w.heap.size + 1 := by rw [hW1]; exact World.size_alloc _ _
 have m0 := G1.cell k0 (by simp)
 have m1 := G1.cell k1 (by simp)
 have m2 := G1.cell k2 (by simp)
 have m3 := G1.cell k3 (by simp)
 have m4 := G1.cell k4 (by simp)
 have m5 := G1.cell k5 (by simp)
 have m6 := G1.cell k6 (by simp)
 have m7 := G1.cell k7 (by simp)
 have m8 := G1.cell k8 (by simp)
 have HG1 := hid G1
 have HW1 := hid hW1
 have HS1 := hid s1
 have Hg := hid hg
 clear k0 k1 k2 k3 k4 k5 k6 k7 k8 G1 hW1 s1 hg
 go_wp2_with (first | (rw [← HW1.out]; fail_if_success done) | fail)
 go_loopw [7,8,17] (fun _ _ i wr => (i = .int .i64 0 ∧ W1 = wr) ∨ (i = .int .i64 1 ∧ ∃ (x : Value) (r : Int) (W w1 : World),w.grownBy W none ∧ w.heap.size < W.heap.size ∧ Post W w1 x r ∧ W.heap.size ≤ w1.heap.size ∧ CF w1 wr (fun b _ => b = w.heap.size) ∧ wr.rangeAt w.heap.size 0 [x,.int .i64 r])) (fun _ _ i _ => 1 - (intOf i).toNat)
 case atStart => exact .inl ⟨rfl,rfl⟩
 case round =>
  rcases hrel with ⟨rfl,rfl⟩ | ⟨rfl,x,r,W,w1,h1,h2,h3,h4,h5,h6⟩
  ·have HGJ := hid (World.grownBy_alloc W1 (.cells (jobCells a now (.slice ao n c)) 90) none)
   have HD := hid (HC.out _ (gb_trans HG1.out HGJ.out))
   go_wp2_with (first | (go_at_call 88; refine HD.out.mono ?_; clear HD; rintro e w2 ⟨va,vn,vc,r,rfl,P2,C2⟩; have HP2 := hid P2; have HC2 := hid C2; have hL := (HL1.out.grown HGJ.out).cf C2; obtain ⟨d0,e0⟩ := Option.isSome_iff_exists.1 (hL.some 0 (by decide)); obtain ⟨d1,e1⟩ := Option.isSome_iff_exists.1 (hL.some 1 (by decide)); have f0 := hL.frozen 0; have f1 := hL.frozen 1; clear P2 C2 hL))
   go_roundw
   case rel =>
    refine .inr ⟨rfl,_,_,_,_,gb_trans HG1.out HGJ.out,?_,HP2.out,HC2.out.size,?_,twoSet w2 w.heap.size _ _ e0 e1⟩
    ·have := HS1.out; have := HGJ.out.size; omega
    ·repeat refine CF.setCell ?_ _ _ _ (fun _ => rfl)
     exact CF.refl _ _
   case measure => simp [intOf]
  ·have HX : Hid (w.grownBy W none ∧ w.heap.size < W.heap.size ∧ Post W w1 x r ∧ W.heap.size ≤ w1.heap.size ∧ CF w1 wr (fun b _ => b = w.heap.size) ∧ wr.rangeAt w.heap.size 0 [x,.int .i64 r]) := ⟨h1,h2,h3,h4,h5,h6⟩
   clear h1 h2 h3 h4 h5 h6
   go_wp2
   go_ret2
   obtain ⟨h1,h2,h3,h4,h5,h6⟩ := HX.out
   exact ⟨_,x,r,W,w1,rfl,h1,Nat.le_refl _,h2,h3,h4,h5,h6⟩
end Go.Proofs.YtbanfbpfapjfcaaGreatDoor
namespace Go.Proofs.YtbanfbpfapjfcaaGreatDoor
open Go.RowKit
set_option maxRecDepth 100000
set_option maxHeartbeats 1000000 in
theorem wbatch_one (g jb : Nat) (cap : Nat) (a : Adm) (now : Int) (v : Value) (w : World) (Post : World → World → Value → Int → Prop) (hv : ∃ ao n c,v = .slice ao n c)
  (hj : w.rangeAt jb 0 (jobCells a now v).toList)
  (C : ∀ W,w.grownBy W none → Calls Tryz.prog 88 #[.iface 152 (.pointer (some ⟨g,0,none⟩)),.agg (jobCells a now v)] W fun e w' => ∃ va vn vc r,e = .returned (.agg #[.slice va vn vc,.int .i64 r]) ∧ Post W w' (.slice va vn vc) r ∧ CF W w' (fun b _ => b = g)) (hg : g < w.heap.size) :
  Calls Tryz.prog 32 #[.pointer (some ⟨g,0,none⟩),.slice (some ⟨jb,0,none⟩) 1 cap] w fun e w' => OneDone w Post e w' := by
 have HB := hid (qbatch_one g jb cap a now v w Post hv hj C hg)
 clear hv hj C hg
 go_enter Tryz.func32,Tryz.ntmps32
 go_wp2_with fail
 refine HB.out.mono ?_
 rintro e w' ⟨ob,x,r,W,w1,rfl,h⟩
 have HH := hid h
 clear h HB
 go_wp2
 go_ret2
 exact ⟨ob,x,r,W,w1,rfl,HH.out⟩
end Go.Proofs.YtbanfbpfapjfcaaGreatDoor
namespace Go.Proofs.YtbanfbpfapjfcaaGreatDoor
open Go.RowKit
set_option maxRecDepth 100000
theorem Tryz.sizeQuick : (Tryz.prog.info? 163).map (·.size) = some 824 := by kernel_rfl
theorem Tryz.zeroQuick : Tryz.zeroCells163.size = 824 := by kernel_rfl
theorem Tryz.zeroWQuick : Tryz.zeroCells165.size = 824 := by kernel_rfl
theorem Tryz.zeroQuickOne : Tryz.zeroCells163.all (·.oneCell') = true := by kernel_rfl
theorem Tryz.zeroQuick220 : Tryz.zeroCells163[220]? = some (.int .i64 0) := by kernel_rfl
theorem Tryz.zeroQuick221 : Tryz.zeroCells163[221]? = some (.int .i64 0) := by kernel_rfl
theorem Tryz.zeroQuick522 : Tryz.zeroCells163[522]? = some (.bool false) := by kernel_rfl
theorem Tryz.zeroQuick823 : Tryz.zeroCells163[823]? = some (.bool false) := by kernel_rfl
theorem fold_over (Z cs : Array Value) (n : Nat) (h : cs.size = n) (hZ : n ≤ Z.size) : (Array.foldl (fun cs x => cs.setIfInBounds x.snd x.fst) Z cs.zipIdx 0 n).size = Z.size ∧ ∀ i,(Array.foldl (fun (cs : Array Value) (x : Value × Nat) => cs.setIfInBounds x.snd x.fst) Z cs.zipIdx 0 n)[i]? = if i < n then cs[i]? else Z[i]? := by
 have e : Array.foldl (fun (cs : Array Value) (x : Value × Nat) => cs.setIfInBounds x.snd x.fst) Z cs.zipIdx 0 n = (cs.toList.zipIdx 0).foldl (fun (acc : Array Value) (x : Value × Nat) => acc.setIfInBounds x.snd x.fst) Z := by
  rw [← Array.toList_zipIdx,Array.foldl_toList,Array.size_zipIdx,h]
 have hg : ∀ i,(Array.foldl (fun (cs : Array Value) (x : Value × Nat) => cs.setIfInBounds x.snd x.fst) Z cs.zipIdx 0 n)[i]? = if i < n then cs[i]? else Z[i]? := fun i => by
  rw [e,fold_set cs.toList 0 Z i (by rw [Array.length_toList]; omega),Array.length_toList,Nat.zero_add,Nat.sub_zero,h]
  by_cases hi : i < n
  ·rw [if_pos ⟨Nat.zero_le _,hi⟩,if_pos hi,Array.getElem?_toList]
  ·rw [if_neg (fun q => hi q.2),if_neg hi]
 refine ⟨?_,hg⟩
 have hlt : ∀ i,i < (Array.foldl (fun (cs : Array Value) (x : Value × Nat) => cs.setIfInBounds x.snd x.fst) Z cs.zipIdx 0 n).size ↔ i < Z.size := fun i => by
  have := hg i
  constructor
  ·intro hi
   rw [Array.getElem?_eq_getElem hi] at this
   by_cases h1 : i < n
   ·omega
   ·rw [if_neg h1] at this
    exact (Array.getElem?_eq_some_iff.1 this.symm).1
  ·intro hi
   by_cases h1 : i < n
   ·have hci : i < cs.size := by omega
    rw [if_pos h1,show cs[i]? = some cs[i] from Array.getElem?_eq_getElem hci] at this
    exact (Array.getElem?_eq_some_iff.1 this).1
   ·rw [if_neg h1,Array.getElem?_eq_getElem hi] at this
    exact (Array.getElem?_eq_some_iff.1 this).1
 have h1 := hlt Z.size
 have h2 := hlt (Array.foldl (fun (cs : Array Value) (x : Value × Nat) => cs.setIfInBounds x.snd x.fst) Z cs.zipIdx 0 n).size
 omega
structure QCells (X : Array Value) (skew : Int) (dv : Value) : Prop where
 size : X.size = 824
 one : ∀ v ∈ X.toList,v.oneCell' = true
 desk : ∀ j,j < 188 → X[j]? = (newCells Tryz.zeroCells148.toList skew dv)[j]?
 rest : ∀ j,188 ≤ j → X[j]? = Tryz.zeroCells163[j]?
theorem QCells.made {X cs : Array Value} {skew : Int} {dv : Value} (hcs : cs = (newCells Tryz.zeroCells148.toList skew dv).toArray) (hd : dv.oneCell' = true) (hX : Array.foldl (fun cs x => cs.setIfInBounds x.snd x.fst) Tryz.zeroCells163 cs.zipIdx 0 188 = X) : QCells X skew dv := by
 have hs : cs.size = 188 := by rw [hcs,List.size_toArray,newDesk_length]
 obtain ⟨h1,h2⟩ := fold_over Tryz.zeroCells163 cs 188 hs (by rw [Tryz.zeroQuick]; omega)
 rw [hX] at h1 h2
 refine ⟨by rw [h1,Tryz.zeroQuick],fun v hv => ?_,fun j hj => by rw [h2 j,if_pos hj,hcs,List.getElem?_toArray],fun j hj => by rw [h2 j,if_neg (by omega)]⟩
 obtain ⟨i,hi,rfl⟩ := List.getElem_of_mem hv
 have hi' : i < X.size := by rw [Array.length_toList] at hi; exact hi
 have h3 := h2 i
 rw [Array.getElem?_eq_getElem hi'] at h3
 rw [Array.getElem_toList]
 by_cases hlt : i < 188
 ·rw [if_pos hlt,hcs,List.getElem?_toArray] at h3
  exact newDesk_one skew dv hd _ (List.mem_of_getElem? h3.symm)
 ·rw [if_neg hlt] at h3
  have := Tryz.zeroQuickOne
  rw [Array.all_eq_true_iff_forall_mem] at this
  exact this _ (Array.mem_of_getElem? h3.symm)
theorem quick_new {W : World} {b : Nat} {X : Array Value} {skew : Int} {dv : Value} {dp : Option Pl} {bs : List UInt8} (hb : Blk W b X) (hX : QCells X skew dv) (ho : Out W dv dp bs) : QuickAt W b dp ⟨skew,[],[],bs⟩ := by
 have hc : ∀ j,W.cell? ⟨b,j,none⟩ = X[j]? := fun j => hb.cell j
 have live : Live W b 824 := by
  obtain ⟨e,he⟩ := hb
  exact ⟨_,e,he,by rw [hX.size]; exact Nat.le_refl _⟩
 have hl : Tryz.zeroCells148.toList.length = 188 := by rw [Array.length_toList,Tryz.zeroDesk]
 have hfar : ∀ j,1 < j → j < 188 → W.cell? ⟨b,j,none⟩ = Tryz.zeroCells148[j]? := fun j hj h2 => by
  rw [hc,hX.desk j h2,newCells,List.getElem?_set_ne (by omega),List.getElem?_set_ne (by omega),Array.getElem?_toList]
 have hrest : ∀ j v,188 ≤ j → Tryz.zeroCells163[j]? = some v → W.cell? ⟨b,j,none⟩ = some v := fun j v hj h => by rw [hc,hX.rest j hj,h]
 refine ⟨⟨live.mono (by decide),?_,⟨dv,?_,ho⟩,⟨live.mono (by decide),fun j u hu => by simp [beCells] at hu,?_,by simp⟩,fun j u hu => by simp [pfCells] at hu,?_,by simp⟩,⟨[],0,⟨live.mono (by decide),fun k hk => absurd hk (by simp),hrest 220 _ (by decide) Tryz.zeroQuick220,hrest 221 _ (by decide) Tryz.zeroQuick221,by simp,by decide,fun _ => rfl⟩,fun e he => by cases he⟩,⟨live,hrest 522 _ (by decide) Tryz.zeroQuick522,hrest 823 _ (by decide) Tryz.zeroQuick823⟩⟩
 ·rw [hc,hX.desk 0 (by decide),newCells,List.getElem?_set_ne (by omega),List.getElem?_set_self (by omega)]
 ·rw [hc,hX.desk 1 (by decide),newCells,List.getElem?_set_self (by rw [List.length_set]; omega)]
 ·rw [hfar 162 (by decide) (by decide)]; exact Tryz.zeroDesk162
 ·rw [hfar 187 (by decide) (by decide)]; exact Tryz.zeroDesk187
set_option maxHeartbeats 2000000 in
theorem quickNew_ok (skew : Int) (v : Value) (n : Nat) (xs : List Value) (w : World) (h0 : 0 ≤ skew) (h1 : skew ≤ 300) (C : ∀ w1,w.grownBy w1 none → Calls Tryz.prog 128 #[v] w1 fun e w' => ∃ ao c,e = .returned (.agg #[.slice ao n c]) ∧ w'.ownsRow w1.heap.size 5 1 (.slice ao n c) n xs ∧ w1.grownBy w' none) :
  Calls Tryz.prog 85 #[.int .i64 skew,v] w fun e w' => ∃ X ao c,e = .returned (.tuple #[.agg X,.int .i64 0]) ∧ QCells X skew (.slice ao n c) ∧ w'.ownsRow (w.heap.size + 1) 5 1 (.slice ao n c) n xs ∧ w.grownBy w' none := by
 have G0 := hid (World.grownBy_alloc w (.cells Tryz.zeroCells163 163) none)
 have HL0 : Hid (Live (w.alloc (.cells Tryz.zeroCells163 163)) w.heap.size 824) := by
  have h := Live.new w Tryz.zeroCells163 163
  rw [Tryz.zeroQuick] at h
  exact h
 have HN := hid (deskNew_ok skew v n xs (w.alloc (.cells Tryz.zeroCells163 163)) h0 h1 (fun w1 k => C w1 (gb_trans G0.out k)))
 clear C h0 h1
 go_enter Tryz.func85,Tryz.ntmps85
 go_wp2_with fail
 refine HN.out.mono ?_
 rintro e w1 ⟨ao,c,rfl,own,hg1⟩
 obtain ⟨cs,HCs⟩ : ∃ cs : Array Value,Hid (cs = (newCells Tryz.zeroCells148.toList skew (.slice ao n c)).toArray) := ⟨_,hid rfl⟩
 rw [← HCs.out]
 have L1 := Live.new w1 Tryz.zeroCells148 148
 rw [Tryz.zeroDesk] at L1
 have hcs : cs.size = 188 := by rw [HCs.out,List.size_toArray,newDesk_length]
 have hst := run_store_live (P := Tryz.prog) cs.toList L1 (by rw [Array.length_toList,hcs]; exact Nat.le_refl _) (fun v hv => newDesk_one _ _ rfl v (by rw [HCs.out] at hv; exact hv))
 have RA := World.rangeAt_setCells_same (w1.alloc (.cells Tryz.zeroCells148 148)) w1.heap.size 0 cs.toList (L1.there 0 _ (by rw [Array.length_toList,hcs]; omega))
 have SZ : (Tryz.prog.info? 148).map (·.size) = some cs.toList.length := by rw [Tryz.sizeDesk,Array.length_toList,hcs]
 obtain ⟨w2,hw2⟩ : ∃ W,W = (w1.alloc (.cells Tryz.zeroCells148 148)).setCells w1.heap.size 0 cs.toList := ⟨_,rfl⟩
 have GW : w1.grownBy w2 none := by rw [hw2]; exact gb_setCells w1.heap.size (Nat.le_refl _) cs.toList 0 _ (World.grownBy_alloc w1 _ none)
 rw [← hw2] at RA hst
 obtain ⟨X,hX⟩ : ∃ X,Array.foldl (fun cs x => cs.setIfInBounds x.snd x.fst) Tryz.zeroCells163 cs.zipIdx 0 188 = X := ⟨_,rfl⟩
 have hQ : QCells X skew (.slice ao n c) := QCells.made HCs.out rfl hX
 have L2 : Live w2 w.heap.size 824 := (HL0.out.grown hg1).grown GW
 have hst2 := run_store_live (P := Tryz.prog) X.toList L2 (by rw [Array.length_toList,hQ.size]; exact Nat.le_refl _) hQ.one
 have RB := World.rangeAt_setCells_same w2 w.heap.size 0 X.toList (L2.there 0 _ (by rw [Array.length_toList,hQ.size]; omega))
 have RL := hid (load_of RB 163 _ Tryz.underlying163 rfl (by rw [Tryz.sizeQuick,Array.length_toList,hQ.size]))
 have HQ := hid hQ
 have HR := hid (And.intro RA SZ)
 have HG2 := hid (gb_setCells w.heap.size (Nat.le_refl _) X.toList 0 w2 (gb_trans (gb_trans G0.out hg1) GW))
 have o1 : w1.ownsRow (w.heap.size + 1) 5 1 (.slice ao n c) n xs := own_base own (by rw [World.size_alloc]; omega)
 have HOw : Hid ((w2.setCells w.heap.size 0 X.toList).ownsRow (w.heap.size + 1) 5 1 (.slice ao n c) n xs) := by
  have o2 : w2.ownsRow (w.heap.size + 1) 5 1 (.slice ao n c) n xs := World.ownsRow.kept o1 GW (Classical.em _)
  refine own_keep o2 (fun b hb => ?_)
  have hlt := o2.lt b hb
  exact (CF.setCells (a := w2) (ex := fun q _ => q = w.heap.size) w.heap.size _ 0 w2 (CF.refl _ _) (fun _ _ _ => rfl)).block b hlt.2 (fun _ q => by omega)
 have Hw2 := hid hw2
 have hXs := hQ.size
 clear RA SZ L1 L2 RB own o1 hg1 GW hQ hw2 HN
 go_wp2_with (first | (rw [← Hw2.out]; fail_if_success done) | (refine wpList_load_mid rfl 148 _ rfl w1.heap.size 0 rfl cs.toList _ HR.out.1 Tryz.underlying148 rfl HR.out.2 ?_))
 exact bodyPost_ret (results_celltmp Tryz.results85 _ _ _ w.heap.size rfl _ RL.out) rfl ⟨X,ao,c,rfl,HQ.out,HOw.out,HG2.out⟩
end Go.Proofs.YtbanfbpfapjfcaaGreatDoor
namespace Go.Proofs.YtbanfbpfapjfcaaGreatDoor
open Go.RowKit
set_option maxRecDepth 100000
set_option maxHeartbeats 2000000 in
theorem newQuick_ok (skew : Int) (v : Value) (n : Nat) (bs : List UInt8) (w : World) (h0 : 0 ≤ skew) (h1 : skew ≤ 300) (C : ∀ w1,w.grownBy w1 none → Calls Tryz.prog 128 #[v] w1 fun e w' => ∃ ao c,e = .returned (.agg #[.slice ao n c]) ∧ w'.ownsRow w1.heap.size 5 1 (.slice ao n c) n (bs.map U8) ∧ w1.grownBy w' none) :
  Calls Tryz.prog 54 #[.int .i64 skew,v] w fun e w' => ∃ b dp,e = .returned (.tuple #[.pointer (some ⟨b,0,none⟩),.int .i64 0]) ∧ QuickAt w' b dp ⟨skew,[],[],bs⟩ ∧ w.heap.size ≤ b ∧ Pl.fresh w.heap.size dp ∧ (∀ q,dp = some q → q.g ≠ b) ∧ w.grownBy w' none := by
 have HN := hid (quickNew_ok skew v n (bs.map U8) w h0 h1 C)
 clear C h0 h1
 go_enter Tryz.func54,Tryz.ntmps54
 go_wp2_with fail
 refine HN.out.mono ?_
 rintro e w1 ⟨X,ao,c,rfl,hQ,own,hg1⟩
 have hXs := hQ.size
 have L1 := Live.new w1 Tryz.zeroCells163 163
 rw [Tryz.zeroQuick] at L1
 have hst := run_store_live (P := Tryz.prog) X.toList L1 (by rw [Array.length_toList,hXs]; exact Nat.le_refl _) hQ.one
 have RA := World.rangeAt_setCells_same (w1.alloc (.cells Tryz.zeroCells163 163)) w1.heap.size 0 X.toList (L1.there 0 _ (by rw [Array.length_toList,hXs]; omega))
 have SZ : (Tryz.prog.info? 163).map (·.size) = some X.toList.length := by rw [Tryz.sizeQuick,Array.length_toList,hXs]
 obtain ⟨w2,hw2⟩ : ∃ W,W = (w1.alloc (.cells Tryz.zeroCells163 163)).setCells w1.heap.size 0 X.toList := ⟨_,rfl⟩
 have GW : w1.grownBy w2 none := by rw [hw2]; exact gb_setCells w1.heap.size (Nat.le_refl _) X.toList 0 _ (World.grownBy_alloc w1 _ none)
 rw [← hw2] at RA hst
 have hY : Array.foldl (fun cs x => cs.setIfInBounds x.snd x.fst) Tryz.zeroCells165 X.zipIdx 0 824 = X := by
  obtain ⟨q1,q2⟩ := fold_over Tryz.zeroCells165 X 824 hXs (by rw [Tryz.zeroWQuick]; exact Nat.le_refl _)
  refine Array.ext_getElem? fun i => ?_
  rw [q2 i]
  by_cases hi : i < 824
  ·rw [if_pos hi]
  ·rw [if_neg hi,Array.getElem?_eq_none (by rw [Tryz.zeroWQuick]; omega),Array.getElem?_eq_none (by omega)]
 have HQ := hid hQ
 have HR := hid (And.intro RA SZ)
 have Hw2 := hid hw2
 have HG := hid (And.intro hg1 GW)
 have HOw := hid own
 clear RA SZ L1 own hg1 GW hQ hw2 HN
 go_wp2_with (first | (rw [← Hw2.out]; fail_if_success done) | (refine wpList_load_mid rfl 163 _ rfl w1.heap.size 0 rfl X.toList _ HR.out.1 Tryz.underlying163 rfl HR.out.2 ?_))
 have GA := World.grownBy_alloc w2 (.cells X 165) none
 obtain ⟨dp,HO1,hfr⟩ := Out.own HOw.out
 have HO := HO1.grown (gb_trans HG.out.2 GA)
 have hq : ∀ q,dp = some q → q.g < w1.heap.size := fun q e => HO1.ltg q e
 have hs1 := HG.out.1.size
 have hs2 := HG.out.2.size
 go_ret2
 exact ⟨_,dp,rfl,quick_new (Blk.new w2 X _) HQ.out HO,by omega,fun q e => by have := hfr q e; omega,fun q e => by have := hq q e; omega,gb_trans (gb_trans HG.out.1 HG.out.2) GA⟩
end Go.Proofs.YtbanfbpfapjfcaaGreatDoor
namespace Go.Proofs.YtbanfbpfapjfcaaGreatDoor
open Go.RowKit
set_option maxRecDepth 100000
def DeskIs (q : Bool) (w : World) (g : Nat) (dp : Option Pl) (M : DM) : Prop := match q with | true => QuickAt w g dp M | false => DeskAt w g 0 dp M
theorem DeskIs.desk {q : Bool} {w : World} {g : Nat} {dp : Option Pl} {M : DM} (h : DeskIs q w g dp M) : DeskAt w g 0 dp M := by
 cases q with
 | true => exact QuickAt.desk h
 | false => exact h
theorem DeskIs.cf {q : Bool} {w w' : World} {ex : Nat → Nat → Prop} {g : Nat} {dp : Option Pl} {M : DM} (h : DeskIs q w g dp M) (k : CF w w' ex) (hg : ∀ y,¬ ex g y) (hd : ∀ p,dp = some p → ∀ y,¬ ex p.g y) : DeskIs q w' g dp M := by
 cases q with
 | true => exact QuickAt.cf h k hg hd
 | false => exact DeskAt.cf h k (fun _ _ _ => hg _) (fun p hp _ _ => hd p hp _)
theorem DeskIs.grown {q : Bool} {w w' : World} {g : Nat} {dp : Option Pl} {M : DM} (h : DeskIs q w g dp M) (k : w.grownBy w' none) : DeskIs q w' g dp M := h.cf (CF.of_gb k (fun _ _ => False)) (fun _ e => e) (fun _ _ _ e => e)
def deskV (q : Bool) (g : Nat) : Array Value := match q with | true => #[.pointer none,.pointer (some ⟨g,0,none⟩)] | false => #[.pointer (some ⟨g,0,none⟩),.pointer none]
structure KFin (q : Bool) (w w' : World) (g : Nat) (dp : Option Pl) (v' : Value) (R : List UInt8 × DM) : Prop where
 out : ∃ p',Out w' v' p' R.1 ∧ Pl.fresh w.heap.size p'
 desk : ∃ dp',DeskIs q w' g dp' R.2 ∧ ∀ q',dp' = some q' → ∃ q,dp = some q ∧ q.g = q'.g
 cf : CF w w' (fun b _ => b = g)
theorem KFin.shape {q : Bool} {w w' : World} {g : Nat} {dp : Option Pl} {v' : Value} {R : List UInt8 × DM} (h : KFin q w w' g dp v' R) : ∃ a c,v' = .slice a R.1.length c := by
 obtain ⟨p',ho,_⟩ := h.out
 obtain ⟨a,c,hv,_⟩ := ho.shape
 exact ⟨a,c,hv⟩
theorem KFin.ofFin {w w' : World} {g : Nat} {dp : Option Pl} {v' : Value} {R : List UInt8 × DM} (h : Fin w w' g none none dp (fun _ _ => False) v' R) : KFin false w w' g dp v' R := by
 refine ⟨?_,h.desk,h.cf.mono (fun b y _ e => ?_)⟩
 ·obtain ⟨p',ho,hp⟩ := h.out
  exact ⟨p',ho,hp.elim (fun e => by rw [e]; exact fun q hq => by cases hq) id⟩
 ·rcases e with e | (e | e) | e
  ·exact e.1
  ·exact e.elim
  ·obtain ⟨q,hq,_⟩ := e; cases hq
  ·obtain ⟨q,hq,_⟩ := e; cases hq
theorem KFin.ofQFin {w w' : World} {g : Nat} {dp : Option Pl} {v' : Value} {R : List UInt8 × DM} (h : QFin w w' g dp v' R) : KFin true w w' g dp v' R := ⟨h.out,h.desk,h.cf⟩
theorem KFin.before {q : Bool} {w W w' : World} {g : Nat} {dp : Option Pl} {v' : Value} {R : List UInt8 × DM} (h : KFin q W w' g dp v' R) (k : w.grownBy W none) : KFin q w w' g dp v' R := by
 obtain ⟨p',ho,hp⟩ := h.out
 exact ⟨⟨p',ho,fun x hx => Nat.le_trans k.size (hp x hx)⟩,h.desk,CF.before k h.cf⟩
set_option maxHeartbeats 1000000 in
theorem kanswer_plain (g : Nat) (dp : Option Pl) (M : DM) (now : Int) (req : List UInt8) (n : Nat) (ao : Option Addr) (cap : Nat) (w : World) (hq : DeskAt w g 0 dp M) (hdx : ∀ q,dp = some q → q.g ≠ g) (hin : ∀ e ∈ M.book,e.In) (hso : M.book.Pairwise (fun x y => Op.bytesLess x.name y.name = true))
  (hn : Hid (req.length = n)) (hs : At w ao req) (hb : Bs (ao,req) (.slice ao n cap) req) (hnow : In64 now) (hsk : In64 M.skew) (htm : ∀ y ∈ M.proofs,In64 y.time) :
  Calls Tryz.prog 17 #[.agg (deskV false g),.int .i64 now,.slice ao n cap] w fun e w' => ∃ v',e = .returned v' ∧ KFin false w w' g dp v' (answerM M now req) := by
 have G0 := World.grownBy_alloc w (.cells #[.pointer (some ⟨g,0,none⟩),.pointer none] 31) none
 have HA := hid (plainAnswer_d g dp M now (ao,req) req n ao cap _ (hq.grown G0) hdx hin hso hn (hs.below G0) hb hnow hsk htm)
 have HG := hid G0
 obtain ⟨R,hR⟩ : ∃ R,answerM M now req = R := ⟨_,rfl⟩
 rw [hR] at HA ⊢
 clear hq hdx hin hso hn hs hb hnow hsk htm G0 hR
 unfold deskV
 go_enter Tryz.func17,Tryz.ntmps17
 go_wp2_with (go_at_call 31; refine HA.out.mono ?_; rintro e w1 ⟨v1,rfl,F1⟩; obtain ⟨a1,c1,hv1⟩ := (KFin.ofFin F1).shape; subst hv1; have HF1 := hid F1; clear F1)
 go_ret
 exact ⟨_,rfl,(KFin.ofFin HF1.out).before HG.out⟩
end Go.Proofs.YtbanfbpfapjfcaaGreatDoor
namespace Go.Proofs.YtbanfbpfapjfcaaGreatDoor
open Go.RowKit
set_option maxRecDepth 100000
abbrev noAdm : Adm := ⟨0,[],0,0,0,0,0⟩
set_option maxHeartbeats 2000000 in
theorem kanswer_quick (g : Nat) (dp : Option Pl) (M : DM) (now : Int) (req : List UInt8) (n : Nat) (ao : Option Addr) (cap : Nat) (w : World) (hq : QuickAt w g dp M) (hdx : ∀ q,dp = some q → q.g ≠ g) (hin : ∀ e ∈ M.book,e.In) (hso : M.book.Pairwise (fun x y => Op.bytesLess x.name y.name = true))
  (hn : Hid (req.length = n)) (hs : At w ao req) (hao : ∀ b off,ao = some ⟨b,off,none⟩ → b ≠ g) (hb : Bs (ao,req) (.slice ao n cap) req) (hnow : In64 now) (hsk : In64 M.skew) (htm : ∀ y ∈ M.proofs,In64 y.time) (hlen : (answerM M now req).1.length ≤ 900) :
  Calls Tryz.prog 17 #[.agg (deskV true g),.int .i64 now,.slice ao n cap] w fun e w' => ∃ v',e = .returned v' ∧ KFin true w w' g dp v' (answerM M now req) := by
 obtain ⟨W0,hW0⟩ : ∃ W,W = (w.alloc (.cells #[.pointer none,.pointer (some ⟨g,0,none⟩)] 31)).alloc (.cells #[.int .i64 0,.string ⟨#[]⟩,.int .u64 0,.int .i64 0,.int .i64 0,.int .i64 0,.int .i64 0,.int .i64 now,.slice ao n cap] 90) := ⟨_,rfl⟩
 have G0 : w.grownBy W0 none := by rw [hW0]; exact gb_alloc (World.grownBy_alloc w _ none) _
 have RJ : W0.rangeAt (w.heap.size + 1) 0 (jobCells noAdm now (.slice ao n cap)).toList := by
  have h := cells_range (w.alloc (.cells #[.pointer none,.pointer (some ⟨g,0,none⟩)] 31)) #[.int .i64 0,.string ⟨#[]⟩,.int .u64 0,.int .i64 0,.int .i64 0,.int .i64 0,.int .i64 0,.int .i64 now,.slice ao n cap] 90
  rw [World.size_alloc] at h
  rw [hW0]
  exact h
 have hgl : g < w.heap.size := hq.desk.live.lt
 have hdl : ∀ q,dp = some q → q.g < w.heap.size := fun q h => hq.desk.ltg h
 obtain ⟨R,hR⟩ : ∃ R,answerM M now req = R := ⟨_,rfl⟩
 have HB := hid (wbatch_one g (w.heap.size + 1) 1 noAdm now (.slice ao n cap) W0 (fun W w' x r => QFin W w' g dp x R ∧ r = 0) ⟨_,_,_,rfl⟩ RJ (fun W k => by
  refine (do_answer g dp M noAdm now req n ao cap W ((hq.grown G0).grown k) hdx hin hso hn ((hs.below G0).below k) hao hb hnow hsk htm hlen rfl).mono ?_
  rintro e w' ⟨v',rfl,F⟩
  rw [hR] at F
  obtain ⟨a1,c1,hv1⟩ := F.shape
  subst hv1
  exact ⟨a1,_,c1,0,rfl,⟨F,rfl⟩,F.cf⟩) (by have := G0.size; omega))
 rw [hR]
 have HG := hid G0
 have HW0 := hid hW0
 have Hgl := hid (And.intro hgl hdl)
 clear hq hdx hin hso hn hs hao hb hnow hsk htm hlen G0 hR RJ hW0 hgl hdl
 unfold deskV
 go_enter Tryz.func17,Tryz.ntmps17
 go_wp2_with (first | (rw [← HW0.out]; fail_if_success done) | (go_at_call 32; refine HB.out.mono ?_; clear HB; rintro e w1 ⟨ob,x,r,W,w2,rfl,h1,h2,h3,⟨h4,rfl⟩,h5,h6,h7⟩; obtain ⟨a1,c1,hv1⟩ := h4.shape; subst hv1; have y0 : w1.cell? ⟨ob,0,none⟩ = some (.slice a1 R.1.length c1) := h7 0 _ rfl; have y1 : w1.cell? ⟨ob,1,none⟩ = some (.int .i64 0) := h7 1 _ rfl; have HF := hid (And.intro h1 (And.intro h2 (And.intro h3 (And.intro h4 (And.intro h5 h6))))); clear h1 h2 h3 h4 h5 h6 h7))
 go_ret
 obtain ⟨h1,h2,h3,h4,h5,h6⟩ := HF.out
 refine ⟨_,rfl,KFin.ofQFin ?_⟩
 exact h4.after (gb_trans HG.out h1) ob (Nat.le_trans HG.out.size h2) h3 Hgl.out.1 Hgl.out.2 h6
set_option maxHeartbeats 1000000 in
theorem kadmin_plain (g : Nat) (dp : Option Pl) (M : DM) (n : Nat) (a : Adm) (w : World) (hq : DeskAt w g 0 dp M) (hdx : ∀ q,dp = some q → q.g ≠ g) (hok : BookOk n M.book) (hn : n ≤ 4611686018427387904) (hf0 : -9223372036854775808 ≤ a.flags) (hf1 : a.flags ≤ 9223372036854775807) (hl : a.name.length ≤ 9223372036854775807) :
  Calls Tryz.prog 25 #[.agg (deskV false g),.agg a.cells] w fun e w' => e = .returned (.int .i64 (admB M.book a).2) ∧ DeskAt w' g 0 dp { M with book := (admB M.book a).1 } ∧ CF w w' (fun b _ => b = g) := by
 obtain ⟨W0,hW0⟩ : ∃ W,W = (w.alloc (.cells #[.pointer (some ⟨g,0,none⟩),.pointer none] 31)).alloc (.cells a.cells 61) := ⟨_,rfl⟩
 have G0 : w.grownBy W0 none := by rw [hW0]; exact gb_alloc (World.grownBy_alloc w _ none) _
 have RJ : W0.rangeAt (w.heap.size + 1) 0 a.cells.toList := by
  have h := cells_range (w.alloc (.cells #[.pointer (some ⟨g,0,none⟩),.pointer none] 31)) a.cells 61
  rw [World.size_alloc] at h
  rw [hW0]
  exact h
 have D0 : W0.cell? ⟨w.heap.size,0,none⟩ = some (.pointer (some ⟨g,0,none⟩)) := by
  have h := range_gb (cells_range w #[.pointer (some ⟨g,0,none⟩),.pointer none] 31) (World.grownBy_alloc _ (.cells a.cells 61) none)
  rw [hW0]
  exact h 0 _ rfl
 have HA := hid (plainAdmin_any g M.book a W0 (hq.book.grown G0) hok.sorted (fun e he => ⟨(hok.num e he).1,by have := (hok.num e he).2; omega⟩) hf0 hf1 hl)
 have HQ : Hid (∀ W,CF w W (exB g 2) → BookAt W g 2 (admB M.book a).1 → DeskAt W g 0 dp { M with book := (admB M.book a).1 }) := fun W k hb => hq.bookedQ k hb hdx
 have k0 : W0.cell? ⟨w.heap.size + 1,0,none⟩ = some (.int .i64 a.kind) := RJ 0 _ rfl
 have k1 : W0.cell? ⟨w.heap.size + 1,1,none⟩ = some (.string ⟨a.name.toArray⟩) := RJ 1 _ rfl
 have k2 : W0.cell? ⟨w.heap.size + 1,2,none⟩ = some (.int .u64 (a.key.toNat : Int)) := RJ 2 _ rfl
 have k3 : W0.cell? ⟨w.heap.size + 1,3,none⟩ = some (.int .i64 a.life) := RJ 3 _ rfl
 have k4 : W0.cell? ⟨w.heap.size + 1,4,none⟩ = some (.int .i64 a.renew) := RJ 4 _ rfl
 have k5 : W0.cell? ⟨w.heap.size + 1,5,none⟩ = some (.int .i64 a.expire) := RJ 5 _ rfl
 have k6 : W0.cell? ⟨w.heap.size + 1,6,none⟩ = some (.int .i64 a.flags) := RJ 6 _ rfl
 obtain ⟨r,hr⟩ : ∃ r,(admB M.book a).2 = r := ⟨_,rfl⟩
 obtain ⟨es',hes⟩ : ∃ es',(admB M.book a).1 = es' := ⟨_,rfl⟩
 rw [hr,hes] at HA
 rw [hes] at HQ
 rw [hr,hes]
 have HG := hid G0
 have HW0 := hid hW0
 clear hq hdx hok hn hf0 hf1 hl G0 hW0 RJ hr hes
 unfold deskV
 go_enter Tryz.func25,Tryz.ntmps25
 go_wp2_with (first | (rw [← HW0.out]; fail_if_success done) | (go_at_call 45; refine HA.out.mono ?_; rintro e w1 ⟨rfl,b1,C1⟩; have HB1 := hid b1; have HC1 := hid C1; clear b1 C1))
 go_ret
 have hc := CF.before HG.out HC1.out
 exact ⟨rfl,HQ.out _ hc HB1.out,hc.mono (fun _ _ _ e => e.1)⟩
set_option maxHeartbeats 2000000 in
theorem kadmin_quick (g : Nat) (dp : Option Pl) (M : DM) (n : Nat) (a : Adm) (w : World) (hq : QuickAt w g dp M) (hdx : ∀ q,dp = some q → q.g ≠ g) (hok : BookOk n M.book) (hn : n ≤ 4611686018427387904) (hf0 : -9223372036854775808 ≤ a.flags) (hf1 : a.flags ≤ 9223372036854775807) (hl : a.name.length ≤ 9223372036854775807) (hk : (a.kind == 0) = false) :
  Calls Tryz.prog 25 #[.agg (deskV true g),.agg a.cells] w fun e w' => e = .returned (.int .i64 (admB M.book a).2) ∧ QuickAt w' g dp { M with book := (admB M.book a).1 } ∧ CF w w' (fun b _ => b = g) := by
 obtain ⟨W1,hW1⟩ : ∃ W,W = (w.alloc (.cells #[.pointer none,.pointer (some ⟨g,0,none⟩)] 31)).alloc (.cells a.cells 61) := ⟨_,rfl⟩
 have G1 : w.grownBy W1 none := by rw [hW1]; exact gb_alloc (World.grownBy_alloc w _ none) _
 have s1 : W1.heap.size = w.heap.size + 1 + 1 := by rw [hW1]; simp only [World.size_alloc]
 have RJ : W1.rangeAt (w.heap.size + 1) 0 a.cells.toList := by
  have h := cells_range (w.alloc (.cells #[.pointer none,.pointer (some ⟨g,0,none⟩)] 31)) a.cells 61
  rw [World.size_alloc] at h
  rw [hW1]
  exact h
 have RD := range_gb (cells_range w #[.pointer none,.pointer (some ⟨g,0,none⟩)] 31) (World.grownBy_alloc _ (.cells a.cells 61) none)
 rw [← hW1] at RD
 have D0 : W1.cell? ⟨w.heap.size,0,none⟩ = some (.pointer none) := RD 0 _ rfl
 have D1 : W1.cell? ⟨w.heap.size,1,none⟩ = some (.pointer (some ⟨g,0,none⟩)) := RD 1 _ rfl
 obtain ⟨W0,hW0⟩ : ∃ W,W = W1.alloc (.cells (jobCells a 0 (.slice none 0 0)) 90) := ⟨_,rfl⟩
 have G0 : W1.grownBy W0 none := by rw [hW0]; exact World.grownBy_alloc W1 _ none
 have RB : W0.rangeAt W1.heap.size 0 (jobCells a 0 (.slice none 0 0)).toList := by rw [hW0]; exact cells_range W1 _ _
 have hgl : g < w.heap.size := hq.desk.live.lt
 have hdl : ∀ q,dp = some q → q.g < w.heap.size := fun q h => hq.desk.ltg h
 obtain ⟨r0,hr⟩ : ∃ r,(admB M.book a).2 = r := ⟨_,rfl⟩
 obtain ⟨M',hM'⟩ : ∃ M',({ M with book := (admB M.book a).1 } : DM) = M' := ⟨_,rfl⟩
 have HB := hid (wbatch_one g W1.heap.size 1 a 0 (.slice none 0 0) W0 (fun W w' x r => QuickAt w' g dp M' ∧ CF W w' (fun b _ => b = g) ∧ r = r0 ∧ x = .slice none 0 0) ⟨_,_,_,rfl⟩ RB (fun W k => by
  refine (do_admin g dp M n a 0 (.slice none 0 0) W (((hq.grown G1).grown G0).grown k) hdx hok hn hf0 hf1 hl hk).mono ?_
  rintro e w' ⟨rfl,h1,h2⟩
  rw [hM'] at h1
  exact ⟨none,0,0,_,rfl,⟨h1,h2,hr,rfl⟩,h2⟩) (by have := G0.size; have := G1.size; omega))
 rw [s1] at HB
 have k0 : W1.cell? ⟨w.heap.size + 1,0,none⟩ = some (.int .i64 a.kind) := RJ 0 _ rfl
 have k1 : W1.cell? ⟨w.heap.size + 1,1,none⟩ = some (.string ⟨a.name.toArray⟩) := RJ 1 _ rfl
 have k2 : W1.cell? ⟨w.heap.size + 1,2,none⟩ = some (.int .u64 (a.key.toNat : Int)) := RJ 2 _ rfl
 have k3 : W1.cell? ⟨w.heap.size + 1,3,none⟩ = some (.int .i64 a.life) := RJ 3 _ rfl
 have k4 : W1.cell? ⟨w.heap.size + 1,4,none⟩ = some (.int .i64 a.renew) := RJ 4 _ rfl
 have k5 : W1.cell? ⟨w.heap.size + 1,5,none⟩ = some (.int .i64 a.expire) := RJ 5 _ rfl
 have k6 : W1.cell? ⟨w.heap.size + 1,6,none⟩ = some (.int .i64 a.flags) := RJ 6 _ rfl
 rw [hr,hM']
 have HG := hid (gb_trans G1 G0)
 have HW0 := hid hW0
 have HW1 := hid hW1
 have HS1 := hid s1
 have Hgl := hid (And.intro hgl hdl)
 clear hq hdx hok hn hf0 hf1 hl hk G0 G1 hW0 hW1 RJ RB RD hr hM' hgl hdl s1
 unfold deskV
 go_enter Tryz.func25,Tryz.ntmps25
 go_wp2_with (first | (rw [← HW1.out]; fail_if_success done) | (rw [← HW0.out]; fail_if_success done) | (go_at_call 32; (try rw [HS1.out]); refine HB.out.mono ?_; clear HB; rintro e w1 ⟨ob,x,r,W,w2,rfl,h1,h2,h3,⟨h4,h8,rfl,rfl⟩,h5,h6,h7⟩; have y0 : w1.cell? ⟨ob,0,none⟩ = some (.slice none 0 0) := h7 0 _ rfl; have y1 : w1.cell? ⟨ob,1,none⟩ = some (.int .i64 r) := h7 1 _ rfl; have HF := hid (And.intro h1 (And.intro h2 (And.intro h3 (And.intro h4 (And.intro h8 h6))))); clear h1 h2 h3 h4 h5 h6 h7 h8))
 go_ret
 obtain ⟨h1,h2,h3,h4,h8,h6⟩ := HF.out
 have hs := HG.out.size
 refine ⟨rfl,h4.cf h6 (fun _ e => by have := Hgl.out.1; omega) (fun q hq _ e => by have := Hgl.out.2 q hq; omega),(CF.before (gb_trans HG.out h1) h8).trans h6 (fun _ _ hlt e => by omega)⟩
end Go.Proofs.YtbanfbpfapjfcaaGreatDoor
namespace Go.Proofs.YtbanfbpfapjfcaaGreatDoor
open Go.RowKit
set_option maxRecDepth 100000
def pickN (c : Int) (n : Nat) : Nat := if c < 0 then (-(c + 1)).toNat % n else c.toNat % n
theorem ret_i64K {a b : Int} (h : a = b) : Ending.returned (.int .i64 a) = .returned (.int .i64 b) := by rw [h]
theorem pickN_neg (c n : Int) (h : c < 0) (hn : 1 ≤ n) : -(c + 1).tmod n = ((pickN c n.toNat : Nat) : Int) := by
 unfold pickN
 rw [if_pos h,← Int.neg_tmod,Int.tmod_eq_emod_of_nonneg (by omega),Int.natCast_emod,Int.toNat_of_nonneg (by omega),Int.toNat_of_nonneg (by omega)]
theorem pickN_pos (c n : Int) (h : 0 ≤ c) (hn : 1 ≤ n) : c % n = ((pickN c n.toNat : Nat) : Int) := by
 unfold pickN
 rw [if_neg (by omega),Int.natCast_emod,Int.toNat_of_nonneg h,Int.toNat_of_nonneg (by omega)]
theorem pickN_lt (c : Int) (n : Nat) (hn : 1 ≤ n) : pickN c n < n := by
 unfold pickN; split <;> exact Nat.mod_lt _ hn
set_option maxHeartbeats 400000 in
theorem kpick_any (c : Int) (n : Int) (w : World) (hc : -9223372036854775808 ≤ c ∧ c ≤ 9223372036854775807) (hn : 1 ≤ n ∧ n ≤ 9223372036854775807) :
  Calls Tryz.prog 14 #[.int .i64 c,.int .i64 n] w fun e w' => e = .returned (.int .i64 (pickN c n.toNat : Int)) ∧ w = w' := by
 obtain ⟨c1,c2⟩ := hc
 obtain ⟨n1,n2⟩ := hn
 by_cases h : c < 0
 ·go_enter Tryz.func14,Tryz.ntmps14
  go_wp2
  go_ret
  exact ⟨ret_i64K (pickN_neg c n h n1),rfl⟩
 ·go_enter Tryz.func14,Tryz.ntmps14
  go_wp2
  go_ret
  exact ⟨ret_i64K (pickN_pos c n (by omega) n1),rfl⟩
set_option maxHeartbeats 400000 in
theorem kleast_any (a b : Int) (w : World) : Calls Tryz.prog 16 #[.int .i64 a,.int .i64 b] w fun e w' => e = .returned (.int .i64 (if a < b then a else b)) ∧ w = w' := by
 by_cases h : a < b
 ·rw [if_pos h]
  go_enter Tryz.func16,Tryz.ntmps16
  go_wp2
  go_ret
  exact ⟨rfl,rfl⟩
 ·rw [if_neg h]
  go_enter Tryz.func16,Tryz.ntmps16
  go_wp2
  go_ret
  exact ⟨rfl,rfl⟩
def KMade (n : Nat) (w : World) (o : Value) (z : List UInt8) : Prop := w.ownsRow n 5 1 o z.length (z.map U8)
def KH (w : World) (v : Value) (zs : List UInt8) : Prop := ∃ ao cap,v = .slice ao zs.length cap ∧ zs.length ≤ cap ∧ cap ≤ 9223372036854775807 ∧ (ao = none → cap = 0) ∧ At w ao zs
theorem KH.grown {w w' : World} {v : Value} {zs : List UInt8} (h : KH w v zs) (k : w.grownBy w' none) : KH w' v zs := by
 obtain ⟨ao,cap,h1,h2,h3,h4,h5⟩ := h
 exact ⟨ao,cap,h1,h2,h3,h4,h5.below k⟩
theorem KH.out {w : World} {v : Value} {p : Option Pl} {zs : List UInt8} (h : Out w v p zs) : KH w v zs := by
 obtain ⟨ao,cap,h1,h2,h3,h4,h5⟩ := h.shape
 exact ⟨ao,cap,h1,h2,by unfold maxLen at h3; exact h3,h5,h4⟩
theorem KMade.has {n : Nat} {w : World} {o : Value} {z : List UInt8} (h : KMade n w o z) : KH w o z := by
 obtain ⟨p,ho,_⟩ := Out.own h
 exact KH.out ho
theorem KH.shape {w : World} {v : Value} {zs : List UInt8} (h : KH w v zs) : ∃ ao cap,v = .slice ao zs.length cap := by
 obtain ⟨ao,cap,h1,_⟩ := h
 exact ⟨ao,cap,h1⟩
theorem KMade.grown {n : Nat} {w w' : World} {o : Value} {z : List UInt8} (h : KMade n w o z) (k : w.grownBy w' none) : KMade n w' o z := World.ownsRow.kept h k (Classical.em _)
set_option maxHeartbeats 1000000 in
theorem kname_any (l : List UInt8) (w : World) (hl : l.length ≤ 255) :
  Calls Tryz.prog 35 #[.string ⟨l.toArray⟩] w fun e w' => ∃ o,e = .returned o ∧ KMade w.heap.size w' o (txtBox l) ∧ w.grownBy w' none := by
 have hl2 : l.length ≤ 140737488355328 := by omega
 go_enter Tryz.func35,Tryz.ntmps35
 go_wp2_with (first | (refine wpList_bytes_of _ rfl _ 9 32 rfl 5 Tryz.underlying9 Tryz.underlying32 Tryz.underlying5 l rfl hl2 ?_; intro b3 cap3 w3 hc3 hc3m hat3 hg3) | (go_at_call 58; refine (kbox_any 4 l l.length _ _ _ (hid rfl) hl (hid (fun h => by cases h)) hat3).mono ?_; rintro e w1 ⟨o,rfl,q1,q2⟩))
 go_ret
 exact ⟨_,rfl,own_base q1 hg3.size,gb_trans hg3 q2⟩
end Go.Proofs.YtbanfbpfapjfcaaGreatDoor
