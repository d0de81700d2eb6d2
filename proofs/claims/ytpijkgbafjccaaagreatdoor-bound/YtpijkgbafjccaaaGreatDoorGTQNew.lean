/-
  
  
  
  
-/
import Derived.Test.YtpijkgbafjccaaaGreatDoorGTQDo
import Derived.Test.YtpijkgbafjccaaaGreatDoorGTPBookG
namespace Go.Proofs.YtpijkgbafjccaaaGreatDoor
open Go.RowKit
set_option maxRecDepth 100000
theorem Tryz.sizeQuick : (Tryz.prog.info? 113).map (·.size) = some 824 := by kernel_rfl
theorem Tryz.zeroQuick : Tryz.zeroCells113.size = 824 := by kernel_rfl
theorem Tryz.zeroWQuick : Tryz.zeroCells115.size = 824 := by kernel_rfl
theorem Tryz.zeroQuickOne : Tryz.zeroCells113.all (·.oneCell') = true := by kernel_rfl
theorem Tryz.zeroQuick220 : Tryz.zeroCells113[220]? = some (.int .i64 0) := by kernel_rfl
theorem Tryz.zeroQuick221 : Tryz.zeroCells113[221]? = some (.int .i64 0) := by kernel_rfl
theorem Tryz.zeroQuick522 : Tryz.zeroCells113[522]? = some (.bool false) := by kernel_rfl
theorem Tryz.zeroQuick823 : Tryz.zeroCells113[823]? = some (.bool false) := by kernel_rfl
theorem fold_over (Z cs : Array Value) (n : Nat) (h : cs.size = n) (hZ : n ≤ Z.size) : (Array.foldl (fun cs x => cs.setIfInBounds x.snd x.fst) Z cs.zipIdx 0 n).size = Z.size ∧ ∀ i,(Array.foldl (fun (cs : Array Value) (x : Value × Nat) => cs.setIfInBounds x.snd x.fst) Z cs.zipIdx 0 n)[i]? = if i < n then cs[i]? else Z[i]? := by
 have e : Array.foldl (fun (cs : Array Value) (x : Value × Nat) => cs.setIfInBounds x.snd x.fst) Z cs.zipIdx 0 n = (cs.toList.zipIdx 0).foldl (fun (acc : Array Value) (x : Value × Nat) => acc.setIfInBounds x.snd x.fst) Z := by
  rw [← Array.toList_zipIdx,Array.foldl_toList,Array.size_zipIdx,h]
 have hg : ∀ i,(Array.foldl (fun (cs : Array Value) (x : Value × Nat) => cs.setIfInBounds x.snd x.fst) Z cs.zipIdx 0 n)[i]? = if i < n then cs[i]? else Z[i]? := fun i => by
  rw [e,fold_set cs.toList 0 Z i (by rw [Array.length_toList]; omega),Array.length_toList,Nat.zero_add,Nat.sub_zero,h]
  by_cases hi : i < n
  ·rw [if_pos ⟨Nat.zero_le _,hi⟩,if_pos hi,Array.getElem?_toList]
  ·rw [if_neg (fun q => hi q.2),if_neg hi]
 refine ⟨?_,hg⟩
 have hlt : ∀ i,i < (Array.foldl (fun (cs : Array Value) (x : Value × Nat) => cs.setIfInBounds x.snd x.fst) Z cs.zipIdx 0 n).size ↔ i < Z.size := fun i => by
  have := hg i
  constructor
  ·intro hi
   rw [Array.getElem?_eq_getElem hi] at this
   by_cases h1 : i < n
   ·omega
   ·rw [if_neg h1] at this
    exact (Array.getElem?_eq_some_iff.1 this.symm).1
  ·intro hi
   by_cases h1 : i < n
   ·have hci : i < cs.size := by omega
    rw [if_pos h1,show cs[i]? = some cs[i] from Array.getElem?_eq_getElem hci] at this
    exact (Array.getElem?_eq_some_iff.1 this).1
   ·rw [if_neg h1,Array.getElem?_eq_getElem hi] at this
    exact (Array.getElem?_eq_some_iff.1 this).1
 have h1 := hlt Z.size
 have h2 := hlt (Array.foldl (fun (cs : Array Value) (x : Value × Nat) => cs.setIfInBounds x.snd x.fst) Z cs.zipIdx 0 n).size
 omega
structure QCells (X : Array Value) (skew : Int) (dv : Value) : Prop where
 size : X.size = 824
 one : ∀ v ∈ X.toList,v.oneCell' = true
 desk : ∀ j,j < 188 → X[j]? = (newCells Tryz.zeroCells100.toList skew dv)[j]?
 rest : ∀ j,188 ≤ j → X[j]? = Tryz.zeroCells113[j]?
theorem QCells.made {X cs : Array Value} {skew : Int} {dv : Value} (hcs : cs = (newCells Tryz.zeroCells100.toList skew dv).toArray) (hd : dv.oneCell' = true) (hX : Array.foldl (fun cs x => cs.setIfInBounds x.snd x.fst) Tryz.zeroCells113 cs.zipIdx 0 188 = X) : QCells X skew dv := by
 have hs : cs.size = 188 := by rw [hcs,List.size_toArray,newDesk_length]
 obtain ⟨h1,h2⟩ := fold_over Tryz.zeroCells113 cs 188 hs (by rw [Tryz.zeroQuick]; omega)
 rw [hX] at h1 h2
 refine ⟨by rw [h1,Tryz.zeroQuick],fun v hv => ?_,fun j hj => by rw [h2 j,if_pos hj,hcs,List.getElem?_toArray],fun j hj => by rw [h2 j,if_neg (by omega)]⟩
 obtain ⟨i,hi,rfl⟩ := List.getElem_of_mem hv
 have hi' : i < X.size := by rw [Array.length_toList] at hi; exact hi
 have h3 := h2 i
 rw [Array.getElem?_eq_getElem hi'] at h3
 rw [Array.getElem_toList]
 by_cases hlt : i < 188
 ·rw [if_pos hlt,hcs,List.getElem?_toArray] at h3
  exact newDesk_one skew dv hd _ (List.mem_of_getElem? h3.symm)
 ·rw [if_neg hlt] at h3
  have := Tryz.zeroQuickOne
  rw [Array.all_eq_true_iff_forall_mem] at this
  exact this _ (Array.mem_of_getElem? h3.symm)
theorem quick_new {W : World} {b : Nat} {X : Array Value} {skew : Int} {dv : Value} {dp : Option Pl} {bs : List UInt8} (hb : Blk W b X) (hX : QCells X skew dv) (ho : Out W dv dp bs) : QuickAt W b dp ⟨skew,[],[],bs⟩ := by
 have hc : ∀ j,W.cell? ⟨b,j,none⟩ = X[j]? := fun j => hb.cell j
 have live : Live W b 824 := by
  obtain ⟨e,he⟩ := hb
  exact ⟨_,e,he,by rw [hX.size]; exact Nat.le_refl _⟩
 have hl : Tryz.zeroCells100.toList.length = 188 := by rw [Array.length_toList,Tryz.zeroDesk]
 have hfar : ∀ j,1 < j → j < 188 → W.cell? ⟨b,j,none⟩ = Tryz.zeroCells100[j]? := fun j hj h2 => by
  rw [hc,hX.desk j h2,newCells,List.getElem?_set_ne (by omega),List.getElem?_set_ne (by omega),Array.getElem?_toList]
 have hrest : ∀ j v,188 ≤ j → Tryz.zeroCells113[j]? = some v → W.cell? ⟨b,j,none⟩ = some v := fun j v hj h => by rw [hc,hX.rest j hj,h]
 refine ⟨⟨live.mono (by decide),?_,⟨dv,?_,ho⟩,⟨live.mono (by decide),fun j u hu => by simp [beCells] at hu,?_,by simp⟩,fun j u hu => by simp [pfCells] at hu,?_,by simp⟩,⟨[],0,⟨live.mono (by decide),fun k hk => absurd hk (by simp),hrest 220 _ (by decide) Tryz.zeroQuick220,hrest 221 _ (by decide) Tryz.zeroQuick221,by simp,by decide,fun _ => rfl⟩,fun e he => by cases he⟩,⟨live,hrest 522 _ (by decide) Tryz.zeroQuick522,hrest 823 _ (by decide) Tryz.zeroQuick823⟩⟩
 ·rw [hc,hX.desk 0 (by decide),newCells,List.getElem?_set_ne (by omega),List.getElem?_set_self (by omega)]
 ·rw [hc,hX.desk 1 (by decide),newCells,List.getElem?_set_self (by rw [List.length_set]; omega)]
 ·rw [hfar 162 (by decide) (by decide)]; exact Tryz.zeroDesk162
 ·rw [hfar 187 (by decide) (by decide)]; exact Tryz.zeroDesk187
set_option maxHeartbeats 2000000 in
theorem quickNew_ok (skew : Int) (v : Value) (n : Nat) (xs : List Value) (w : World) (h0 : 0 ≤ skew) (h1 : skew ≤ 300) (C : ∀ w1,w.grownBy w1 none → Calls Tryz.prog 58 #[v] w1 fun e w' => ∃ ao c,e = .returned (.agg #[.slice ao n c]) ∧ w'.ownsRow w1.heap.size 5 1 (.slice ao n c) n xs ∧ w1.grownBy w' none) :
  Calls Tryz.prog 42 #[.int .i64 skew,v] w fun e w' => ∃ X ao c,e = .returned (.tuple #[.agg X,.int .i64 0]) ∧ QCells X skew (.slice ao n c) ∧ w'.ownsRow (w.heap.size + 1) 5 1 (.slice ao n c) n xs ∧ w.grownBy w' none := by
 have G0 := hid (World.grownBy_alloc w (.cells Tryz.zeroCells113 113) none)
 have HL0 : Hid (Live (w.alloc (.cells Tryz.zeroCells113 113)) w.heap.size 824) := by
  have h := Live.new w Tryz.zeroCells113 113
  rw [Tryz.zeroQuick] at h
  exact h
 have HN := hid (deskNew_ok skew v n xs (w.alloc (.cells Tryz.zeroCells113 113)) h0 h1 (fun w1 k => C w1 (gb_trans G0.out k)))
 clear C h0 h1
 go_enter Tryz.func42,Tryz.ntmps42
 go_wp2_with fail
 refine HN.out.mono ?_
 rintro e w1 ⟨ao,c,rfl,own,hg1⟩
 obtain ⟨cs,HCs⟩ : ∃ cs : Array Value,Hid (cs = (newCells Tryz.zeroCells100.toList skew (.slice ao n c)).toArray) := ⟨_,hid rfl⟩
 rw [← HCs.out]
 have L1 := Live.new w1 Tryz.zeroCells100 100
 rw [Tryz.zeroDesk] at L1
 have hcs : cs.size = 188 := by rw [HCs.out,List.size_toArray,newDesk_length]
 have hst := run_store_live (P := Tryz.prog) cs.toList L1 (by rw [Array.length_toList,hcs]; exact Nat.le_refl _) (fun v hv => newDesk_one _ _ rfl v (by rw [HCs.out] at hv; exact hv))
 have RA := World.rangeAt_setCells_same (w1.alloc (.cells Tryz.zeroCells100 100)) w1.heap.size 0 cs.toList (L1.there 0 _ (by rw [Array.length_toList,hcs]; omega))
 have SZ : (Tryz.prog.info? 100).map (·.size) = some cs.toList.length := by rw [Tryz.sizeDesk,Array.length_toList,hcs]
 obtain ⟨w2,hw2⟩ : ∃ W,W = (w1.alloc (.cells Tryz.zeroCells100 100)).setCells w1.heap.size 0 cs.toList := ⟨_,rfl⟩
 have GW : w1.grownBy w2 none := by rw [hw2]; exact gb_setCells w1.heap.size (Nat.le_refl _) cs.toList 0 _ (World.grownBy_alloc w1 _ none)
 rw [← hw2] at RA hst
 obtain ⟨X,hX⟩ : ∃ X,Array.foldl (fun cs x => cs.setIfInBounds x.snd x.fst) Tryz.zeroCells113 cs.zipIdx 0 188 = X := ⟨_,rfl⟩
 have hQ : QCells X skew (.slice ao n c) := QCells.made HCs.out rfl hX
 have L2 : Live w2 w.heap.size 824 := (HL0.out.grown hg1).grown GW
 have hst2 := run_store_live (P := Tryz.prog) X.toList L2 (by rw [Array.length_toList,hQ.size]; exact Nat.le_refl _) hQ.one
 have RB := World.rangeAt_setCells_same w2 w.heap.size 0 X.toList (L2.there 0 _ (by rw [Array.length_toList,hQ.size]; omega))
 have RL := hid (load_of RB 113 _ Tryz.underlying113 rfl (by rw [Tryz.sizeQuick,Array.length_toList,hQ.size]))
 have HQ := hid hQ
 have HR := hid (And.intro RA SZ)
 have HG2 := hid (gb_setCells w.heap.size (Nat.le_refl _) X.toList 0 w2 (gb_trans (gb_trans G0.out hg1) GW))
 have o1 : w1.ownsRow (w.heap.size + 1) 5 1 (.slice ao n c) n xs := own_base own (by rw [World.size_alloc]; omega)
 have HOw : Hid ((w2.setCells w.heap.size 0 X.toList).ownsRow (w.heap.size + 1) 5 1 (.slice ao n c) n xs) := by
  have o2 : w2.ownsRow (w.heap.size + 1) 5 1 (.slice ao n c) n xs := World.ownsRow.kept o1 GW (Classical.em _)
  refine own_keep o2 (fun b hb => ?_)
  have hlt := o2.lt b hb
  exact (CF.setCells (a := w2) (ex := fun q _ => q = w.heap.size) w.heap.size _ 0 w2 (CF.refl _ _) (fun _ _ _ => rfl)).block b hlt.2 (fun _ q => by omega)
 have Hw2 := hid hw2
 have hXs := hQ.size
 clear RA SZ L1 L2 RB own o1 hg1 GW hQ hw2 HN
 go_wp2_with (first | (rw [← Hw2.out]; fail_if_success done) | (refine wpList_load_mid rfl 100 _ rfl w1.heap.size 0 rfl cs.toList _ HR.out.1 Tryz.underlying100 rfl HR.out.2 ?_))
 exact bodyPost_ret (results_celltmp Tryz.results42 _ _ _ w.heap.size rfl _ RL.out) rfl ⟨X,ao,c,rfl,HQ.out,HOw.out,HG2.out⟩
end Go.Proofs.YtpijkgbafjccaaaGreatDoor
namespace Go.Proofs.YtpijkgbafjccaaaGreatDoor
open Go.RowKit
set_option maxRecDepth 100000
set_option maxHeartbeats 2000000 in
theorem newQuick_ok (skew : Int) (v : Value) (n : Nat) (bs : List UInt8) (w : World) (h0 : 0 ≤ skew) (h1 : skew ≤ 300) (C : ∀ w1,w.grownBy w1 none → Calls Tryz.prog 58 #[v] w1 fun e w' => ∃ ao c,e = .returned (.agg #[.slice ao n c]) ∧ w'.ownsRow w1.heap.size 5 1 (.slice ao n c) n (bs.map U8) ∧ w1.grownBy w' none) :
  Calls Tryz.prog 29 #[.int .i64 skew,v] w fun e w' => ∃ b dp,e = .returned (.tuple #[.pointer (some ⟨b,0,none⟩),.int .i64 0]) ∧ QuickAt w' b dp ⟨skew,[],[],bs⟩ ∧ w.heap.size ≤ b ∧ Pl.fresh w.heap.size dp ∧ (∀ q,dp = some q → q.g ≠ b) ∧ w.grownBy w' none := by
 have HN := hid (quickNew_ok skew v n (bs.map U8) w h0 h1 C)
 clear C h0 h1
 go_enter Tryz.func29,Tryz.ntmps29
 go_wp2_with fail
 refine HN.out.mono ?_
 rintro e w1 ⟨X,ao,c,rfl,hQ,own,hg1⟩
 have hXs := hQ.size
 have L1 := Live.new w1 Tryz.zeroCells113 113
 rw [Tryz.zeroQuick] at L1
 have hst := run_store_live (P := Tryz.prog) X.toList L1 (by rw [Array.length_toList,hXs]; exact Nat.le_refl _) hQ.one
 have RA := World.rangeAt_setCells_same (w1.alloc (.cells Tryz.zeroCells113 113)) w1.heap.size 0 X.toList (L1.there 0 _ (by rw [Array.length_toList,hXs]; omega))
 have SZ : (Tryz.prog.info? 113).map (·.size) = some X.toList.length := by rw [Tryz.sizeQuick,Array.length_toList,hXs]
 obtain ⟨w2,hw2⟩ : ∃ W,W = (w1.alloc (.cells Tryz.zeroCells113 113)).setCells w1.heap.size 0 X.toList := ⟨_,rfl⟩
 have GW : w1.grownBy w2 none := by rw [hw2]; exact gb_setCells w1.heap.size (Nat.le_refl _) X.toList 0 _ (World.grownBy_alloc w1 _ none)
 rw [← hw2] at RA hst
 have hY : Array.foldl (fun cs x => cs.setIfInBounds x.snd x.fst) Tryz.zeroCells115 X.zipIdx 0 824 = X := by
  obtain ⟨q1,q2⟩ := fold_over Tryz.zeroCells115 X 824 hXs (by rw [Tryz.zeroWQuick]; exact Nat.le_refl _)
  refine Array.ext_getElem? fun i => ?_
  rw [q2 i]
  by_cases hi : i < 824
  ·rw [if_pos hi]
  ·rw [if_neg hi,Array.getElem?_eq_none (by rw [Tryz.zeroWQuick]; omega),Array.getElem?_eq_none (by omega)]
 have HQ := hid hQ
 have HR := hid (And.intro RA SZ)
 have Hw2 := hid hw2
 have HG := hid (And.intro hg1 GW)
 have HOw := hid own
 clear RA SZ L1 own hg1 GW hQ hw2 HN
 go_wp2_with (first | (rw [← Hw2.out]; fail_if_success done) | (refine wpList_load_mid rfl 113 _ rfl w1.heap.size 0 rfl X.toList _ HR.out.1 Tryz.underlying113 rfl HR.out.2 ?_))
 have GA := World.grownBy_alloc w2 (.cells X 115) none
 obtain ⟨dp,HO1,hfr⟩ := Out.own HOw.out
 have HO := HO1.grown (gb_trans HG.out.2 GA)
 have hq : ∀ q,dp = some q → q.g < w1.heap.size := fun q e => HO1.ltg q e
 have hs1 := HG.out.1.size
 have hs2 := HG.out.2.size
 go_ret2
 exact ⟨_,dp,rfl,quick_new (Blk.new w2 X _) HQ.out HO,by omega,fun q e => by have := hfr q e; omega,fun q e => by have := hq q e; omega,gb_trans (gb_trans HG.out.1 HG.out.2) GA⟩
end Go.Proofs.YtpijkgbafjccaaaGreatDoor
namespace Go.Proofs.YtpijkgbafjccaaaGreatDoor
open Go.RowKit
set_option maxRecDepth 100000
def DeskIs (q : Bool) (w : World) (g : Nat) (dp : Option Pl) (M : DM) : Prop := match q with | true => QuickAt w g dp M | false => DeskAt w g 0 dp M
theorem DeskIs.desk {q : Bool} {w : World} {g : Nat} {dp : Option Pl} {M : DM} (h : DeskIs q w g dp M) : DeskAt w g 0 dp M := by
 cases q with
 | true => exact QuickAt.desk h
 | false => exact h
theorem DeskIs.cf {q : Bool} {w w' : World} {ex : Nat → Nat → Prop} {g : Nat} {dp : Option Pl} {M : DM} (h : DeskIs q w g dp M) (k : CF w w' ex) (hg : ∀ y,¬ ex g y) (hd : ∀ p,dp = some p → ∀ y,¬ ex p.g y) : DeskIs q w' g dp M := by
 cases q with
 | true => exact QuickAt.cf h k hg hd
 | false => exact DeskAt.cf h k (fun _ _ _ => hg _) (fun p hp _ _ => hd p hp _)
theorem DeskIs.grown {q : Bool} {w w' : World} {g : Nat} {dp : Option Pl} {M : DM} (h : DeskIs q w g dp M) (k : w.grownBy w' none) : DeskIs q w' g dp M := h.cf (CF.of_gb k (fun _ _ => False)) (fun _ e => e) (fun _ _ _ e => e)
def deskV (q : Bool) (g : Nat) : Array Value := match q with | true => #[.pointer none,.pointer (some ⟨g,0,none⟩)] | false => #[.pointer (some ⟨g,0,none⟩),.pointer none]
structure KFin (q : Bool) (w w' : World) (g : Nat) (dp : Option Pl) (v' : Value) (R : List UInt8 × DM) : Prop where
 out : ∃ p',Out w' v' p' R.1 ∧ Pl.fresh w.heap.size p'
 desk : ∃ dp',DeskIs q w' g dp' R.2 ∧ ∀ q',dp' = some q' → ∃ q,dp = some q ∧ q.g = q'.g
 cf : CF w w' (fun b _ => b = g)
theorem KFin.shape {q : Bool} {w w' : World} {g : Nat} {dp : Option Pl} {v' : Value} {R : List UInt8 × DM} (h : KFin q w w' g dp v' R) : ∃ a c,v' = .slice a R.1.length c := by
 obtain ⟨p',ho,_⟩ := h.out
 obtain ⟨a,c,hv,_⟩ := ho.shape
 exact ⟨a,c,hv⟩
theorem KFin.ofFin {w w' : World} {g : Nat} {dp : Option Pl} {v' : Value} {R : List UInt8 × DM} (h : Fin w w' g none none dp (fun _ _ => False) v' R) : KFin false w w' g dp v' R := by
 refine ⟨?_,h.desk,h.cf.mono (fun b y _ e => ?_)⟩
 ·obtain ⟨p',ho,hp⟩ := h.out
  exact ⟨p',ho,hp.elim (fun e => by rw [e]; exact fun q hq => by cases hq) id⟩
 ·rcases e with e | (e | e) | e
  ·exact e.1
  ·exact e.elim
  ·obtain ⟨q,hq,_⟩ := e; cases hq
  ·obtain ⟨q,hq,_⟩ := e; cases hq
theorem KFin.ofQFin {w w' : World} {g : Nat} {dp : Option Pl} {v' : Value} {R : List UInt8 × DM} (h : QFin w w' g dp v' R) : KFin true w w' g dp v' R := ⟨h.out,h.desk,h.cf⟩
theorem KFin.before {q : Bool} {w W w' : World} {g : Nat} {dp : Option Pl} {v' : Value} {R : List UInt8 × DM} (h : KFin q W w' g dp v' R) (k : w.grownBy W none) : KFin q w w' g dp v' R := by
 obtain ⟨p',ho,hp⟩ := h.out
 exact ⟨⟨p',ho,fun x hx => Nat.le_trans k.size (hp x hx)⟩,h.desk,CF.before k h.cf⟩
set_option maxHeartbeats 1000000 in
theorem kanswer_plain (g : Nat) (dp : Option Pl) (M : DM) (now : Int) (req : List UInt8) (n : Nat) (ao : Option Addr) (cap : Nat) (w : World) (hq : DeskAt w g 0 dp M) (hdx : ∀ q,dp = some q → q.g ≠ g) (hin : ∀ e ∈ M.book,e.In) (hso : M.book.Pairwise (fun x y => Op.bytesLess x.name y.name = true))
  (hn : Hid (req.length = n)) (hs : At w ao req) (hb : Bs (ao,req) (.slice ao n cap) req) (hnow : In64 now) (hsk : In64 M.skew) (htm : ∀ y ∈ M.proofs,In64 y.time) :
  Calls Tryz.prog 10 #[.agg (deskV false g),.int .i64 now,.slice ao n cap] w fun e w' => ∃ v',e = .returned v' ∧ KFin false w w' g dp v' (answerM M now req) := by
 have G0 := World.grownBy_alloc w (.cells #[.pointer (some ⟨g,0,none⟩),.pointer none] 25) none
 have HA := hid (plainAnswer_d g dp M now (ao,req) req n ao cap _ (hq.grown G0) hdx hin hso hn (hs.below G0) hb hnow hsk htm)
 have HG := hid G0
 obtain ⟨R,hR⟩ : ∃ R,answerM M now req = R := ⟨_,rfl⟩
 rw [hR] at HA ⊢
 clear hq hdx hin hso hn hs hb hnow hsk htm G0 hR
 unfold deskV
 go_enter Tryz.func10,Tryz.ntmps10
 go_wp2_with (go_at_call 24; refine HA.out.mono ?_; rintro e w1 ⟨v1,rfl,F1⟩; obtain ⟨a1,c1,hv1⟩ := (KFin.ofFin F1).shape; subst hv1; have HF1 := hid F1; clear F1)
 go_ret
 exact ⟨_,rfl,(KFin.ofFin HF1.out).before HG.out⟩
end Go.Proofs.YtpijkgbafjccaaaGreatDoor
namespace Go.Proofs.YtpijkgbafjccaaaGreatDoor
open Go.RowKit
set_option maxRecDepth 100000
abbrev noAdm : Adm := ⟨0,[],0,0,0,0,0⟩
set_option maxHeartbeats 2000000 in
theorem kanswer_quick (g : Nat) (dp : Option Pl) (M : DM) (now : Int) (req : List UInt8) (n : Nat) (ao : Option Addr) (cap : Nat) (w : World) (hq : QuickAt w g dp M) (hdx : ∀ q,dp = some q → q.g ≠ g) (hin : ∀ e ∈ M.book,e.In) (hso : M.book.Pairwise (fun x y => Op.bytesLess x.name y.name = true))
  (hn : Hid (req.length = n)) (hs : At w ao req) (hao : ∀ b off,ao = some ⟨b,off,none⟩ → b ≠ g) (hb : Bs (ao,req) (.slice ao n cap) req) (hnow : In64 now) (hsk : In64 M.skew) (htm : ∀ y ∈ M.proofs,In64 y.time) (hlen : (answerM M now req).1.length ≤ 900) :
  Calls Tryz.prog 10 #[.agg (deskV true g),.int .i64 now,.slice ao n cap] w fun e w' => ∃ v',e = .returned v' ∧ KFin true w w' g dp v' (answerM M now req) := by
 obtain ⟨W0,hW0⟩ : ∃ W,W = (w.alloc (.cells #[.pointer none,.pointer (some ⟨g,0,none⟩)] 25)).alloc (.cells #[.int .i64 0,.string ⟨#[]⟩,.int .u64 0,.int .i64 0,.int .i64 0,.int .i64 0,.int .i64 0,.int .i64 now,.slice ao n cap] 64) := ⟨_,rfl⟩
 have G0 : w.grownBy W0 none := by rw [hW0]; exact gb_alloc (World.grownBy_alloc w _ none) _
 have RJ : W0.rangeAt (w.heap.size + 1) 0 (jobCells noAdm now (.slice ao n cap)).toList := by
  have h := cells_range (w.alloc (.cells #[.pointer none,.pointer (some ⟨g,0,none⟩)] 25)) #[.int .i64 0,.string ⟨#[]⟩,.int .u64 0,.int .i64 0,.int .i64 0,.int .i64 0,.int .i64 0,.int .i64 now,.slice ao n cap] 64
  rw [World.size_alloc] at h
  rw [hW0]
  exact h
 have hgl : g < w.heap.size := hq.desk.live.lt
 have hdl : ∀ q,dp = some q → q.g < w.heap.size := fun q h => hq.desk.ltg h
 obtain ⟨R,hR⟩ : ∃ R,answerM M now req = R := ⟨_,rfl⟩
 have HB := hid (wbatch_one g (w.heap.size + 1) 1 noAdm now (.slice ao n cap) W0 (fun W w' x r => QFin W w' g dp x R ∧ r = 0) ⟨_,_,_,rfl⟩ RJ (fun W k => by
  refine (do_answer g dp M noAdm now req n ao cap W ((hq.grown G0).grown k) hdx hin hso hn ((hs.below G0).below k) hao hb hnow hsk htm hlen rfl).mono ?_
  rintro e w' ⟨v',rfl,F⟩
  rw [hR] at F
  obtain ⟨a1,c1,hv1⟩ := F.shape
  subst hv1
  exact ⟨a1,_,c1,0,rfl,⟨F,rfl⟩,F.cf⟩) (by have := G0.size; omega))
 rw [hR]
 have HG := hid G0
 have HW0 := hid hW0
 have Hgl := hid (And.intro hgl hdl)
 clear hq hdx hin hso hn hs hao hb hnow hsk htm hlen G0 hR RJ hW0 hgl hdl
 unfold deskV
 go_enter Tryz.func10,Tryz.ntmps10
 go_wp2_with (first | (rw [← HW0.out]; fail_if_success done) | (go_at_call 21; refine HB.out.mono ?_; clear HB; rintro e w1 ⟨ob,x,r,W,w2,rfl,h1,h2,h3,⟨h4,rfl⟩,h5,h6,h7⟩; obtain ⟨a1,c1,hv1⟩ := h4.shape; subst hv1; have y0 : w1.cell? ⟨ob,0,none⟩ = some (.slice a1 R.1.length c1) := h7 0 _ rfl; have y1 : w1.cell? ⟨ob,1,none⟩ = some (.int .i64 0) := h7 1 _ rfl; have HF := hid (And.intro h1 (And.intro h2 (And.intro h3 (And.intro h4 (And.intro h5 h6))))); clear h1 h2 h3 h4 h5 h6 h7))
 go_ret
 obtain ⟨h1,h2,h3,h4,h5,h6⟩ := HF.out
 refine ⟨_,rfl,KFin.ofQFin ?_⟩
 exact h4.after (gb_trans HG.out h1) ob (Nat.le_trans HG.out.size h2) h3 Hgl.out.1 Hgl.out.2 h6
set_option maxHeartbeats 1000000 in
theorem kadmin_plain (g : Nat) (dp : Option Pl) (M : DM) (n : Nat) (a : Adm) (w : World) (hq : DeskAt w g 0 dp M) (hdx : ∀ q,dp = some q → q.g ≠ g) (hok : BookOk n M.book) (hn : n ≤ 4611686018427387904) (hf0 : -9223372036854775808 ≤ a.flags) (hf1 : a.flags ≤ 9223372036854775807) (hl : a.name.length ≤ 9223372036854775807) :
  Calls Tryz.prog 8 #[.agg (deskV false g),.agg a.cells] w fun e w' => e = .returned (.int .i64 (admB M.book a).2) ∧ DeskAt w' g 0 dp { M with book := (admB M.book a).1 } ∧ CF w w' (fun b _ => b = g) := by
 obtain ⟨W0,hW0⟩ : ∃ W,W = (w.alloc (.cells #[.pointer (some ⟨g,0,none⟩),.pointer none] 25)).alloc (.cells a.cells 40) := ⟨_,rfl⟩
 have G0 : w.grownBy W0 none := by rw [hW0]; exact gb_alloc (World.grownBy_alloc w _ none) _
 have RJ : W0.rangeAt (w.heap.size + 1) 0 a.cells.toList := by
  have h := cells_range (w.alloc (.cells #[.pointer (some ⟨g,0,none⟩),.pointer none] 25)) a.cells 40
  rw [World.size_alloc] at h
  rw [hW0]
  exact h
 have D0 : W0.cell? ⟨w.heap.size,0,none⟩ = some (.pointer (some ⟨g,0,none⟩)) := by
  have h := range_gb (cells_range w #[.pointer (some ⟨g,0,none⟩),.pointer none] 25) (World.grownBy_alloc _ (.cells a.cells 40) none)
  rw [hW0]
  exact h 0 _ rfl
 have HA := hid (plainAdmin_any g M.book a W0 (hq.book.grown G0) hok.sorted (fun e he => ⟨(hok.num e he).1,by have := (hok.num e he).2; omega⟩) hf0 hf1 hl)
 have HQ : Hid (∀ W,CF w W (exB g 2) → BookAt W g 2 (admB M.book a).1 → DeskAt W g 0 dp { M with book := (admB M.book a).1 }) := fun W k hb => hq.bookedQ k hb hdx
 have k0 : W0.cell? ⟨w.heap.size + 1,0,none⟩ = some (.int .i64 a.kind) := RJ 0 _ rfl
 have k1 : W0.cell? ⟨w.heap.size + 1,1,none⟩ = some (.string ⟨a.name.toArray⟩) := RJ 1 _ rfl
 have k2 : W0.cell? ⟨w.heap.size + 1,2,none⟩ = some (.int .u64 (a.key.toNat : Int)) := RJ 2 _ rfl
 have k3 : W0.cell? ⟨w.heap.size + 1,3,none⟩ = some (.int .i64 a.life) := RJ 3 _ rfl
 have k4 : W0.cell? ⟨w.heap.size + 1,4,none⟩ = some (.int .i64 a.renew) := RJ 4 _ rfl
 have k5 : W0.cell? ⟨w.heap.size + 1,5,none⟩ = some (.int .i64 a.expire) := RJ 5 _ rfl
 have k6 : W0.cell? ⟨w.heap.size + 1,6,none⟩ = some (.int .i64 a.flags) := RJ 6 _ rfl
 obtain ⟨r,hr⟩ : ∃ r,(admB M.book a).2 = r := ⟨_,rfl⟩
 obtain ⟨es',hes⟩ : ∃ es',(admB M.book a).1 = es' := ⟨_,rfl⟩
 rw [hr,hes] at HA
 rw [hes] at HQ
 rw [hr,hes]
 have HG := hid G0
 have HW0 := hid hW0
 clear hq hdx hok hn hf0 hf1 hl G0 hW0 RJ hr hes
 unfold deskV
 go_enter Tryz.func8,Tryz.ntmps8
 go_wp2_with (first | (rw [← HW0.out]; fail_if_success done) | (go_at_call 20; refine HA.out.mono ?_; rintro e w1 ⟨rfl,b1,C1⟩; have HB1 := hid b1; have HC1 := hid C1; clear b1 C1))
 go_ret
 have hc := CF.before HG.out HC1.out
 exact ⟨rfl,HQ.out _ hc HB1.out,hc.mono (fun _ _ _ e => e.1)⟩
set_option maxHeartbeats 2000000 in
theorem kadmin_quick (g : Nat) (dp : Option Pl) (M : DM) (n : Nat) (a : Adm) (w : World) (hq : QuickAt w g dp M) (hdx : ∀ q,dp = some q → q.g ≠ g) (hok : BookOk n M.book) (hn : n ≤ 4611686018427387904) (hf0 : -9223372036854775808 ≤ a.flags) (hf1 : a.flags ≤ 9223372036854775807) (hl : a.name.length ≤ 9223372036854775807) (hk : (a.kind == 0) = false) :
  Calls Tryz.prog 8 #[.agg (deskV true g),.agg a.cells] w fun e w' => e = .returned (.int .i64 (admB M.book a).2) ∧ QuickAt w' g dp { M with book := (admB M.book a).1 } ∧ CF w w' (fun b _ => b = g) := by
 obtain ⟨W1,hW1⟩ : ∃ W,W = (w.alloc (.cells #[.pointer none,.pointer (some ⟨g,0,none⟩)] 25)).alloc (.cells a.cells 40) := ⟨_,rfl⟩
 have G1 : w.grownBy W1 none := by rw [hW1]; exact gb_alloc (World.grownBy_alloc w _ none) _
 have s1 : W1.heap.size = w.heap.size + 1 + 1 := by rw [hW1]; simp only [World.size_alloc]
 have RJ : W1.rangeAt (w.heap.size + 1) 0 a.cells.toList := by
  have h := cells_range (w.alloc (.cells #[.pointer none,.pointer (some ⟨g,0,none⟩)] 25)) a.cells 40
  rw [World.size_alloc] at h
  rw [hW1]
  exact h
 have RD := range_gb (cells_range w #[.pointer none,.pointer (some ⟨g,0,none⟩)] 25) (World.grownBy_alloc _ (.cells a.cells 40) none)
 rw [← hW1] at RD
 have D0 : W1.cell? ⟨w.heap.size,0,none⟩ = some (.pointer none) := RD 0 _ rfl
 have D1 : W1.cell? ⟨w.heap.size,1,none⟩ = some (.pointer (some ⟨g,0,none⟩)) := RD 1 _ rfl
 obtain ⟨W0,hW0⟩ : ∃ W,W = W1.alloc (.cells (jobCells a 0 (.slice none 0 0)) 64) := ⟨_,rfl⟩
 have G0 : W1.grownBy W0 none := by rw [hW0]; exact World.grownBy_alloc W1 _ none
 have RB : W0.rangeAt W1.heap.size 0 (jobCells a 0 (.slice none 0 0)).toList := by rw [hW0]; exact cells_range W1 _ _
 have hgl : g < w.heap.size := hq.desk.live.lt
 have hdl : ∀ q,dp = some q → q.g < w.heap.size := fun q h => hq.desk.ltg h
 obtain ⟨r0,hr⟩ : ∃ r,(admB M.book a).2 = r := ⟨_,rfl⟩
 obtain ⟨M',hM'⟩ : ∃ M',({ M with book := (admB M.book a).1 } : DM) = M' := ⟨_,rfl⟩
 have HB := hid (wbatch_one g W1.heap.size 1 a 0 (.slice none 0 0) W0 (fun W w' x r => QuickAt w' g dp M' ∧ CF W w' (fun b _ => b = g) ∧ r = r0 ∧ x = .slice none 0 0) ⟨_,_,_,rfl⟩ RB (fun W k => by
  refine (do_admin g dp M n a 0 (.slice none 0 0) W (((hq.grown G1).grown G0).grown k) hdx hok hn hf0 hf1 hl hk).mono ?_
  rintro e w' ⟨rfl,h1,h2⟩
  rw [hM'] at h1
  exact ⟨none,0,0,_,rfl,⟨h1,h2,hr,rfl⟩,h2⟩) (by have := G0.size; have := G1.size; omega))
 rw [s1] at HB
 have k0 : W1.cell? ⟨w.heap.size + 1,0,none⟩ = some (.int .i64 a.kind) := RJ 0 _ rfl
 have k1 : W1.cell? ⟨w.heap.size + 1,1,none⟩ = some (.string ⟨a.name.toArray⟩) := RJ 1 _ rfl
 have k2 : W1.cell? ⟨w.heap.size + 1,2,none⟩ = some (.int .u64 (a.key.toNat : Int)) := RJ 2 _ rfl
 have k3 : W1.cell? ⟨w.heap.size + 1,3,none⟩ = some (.int .i64 a.life) := RJ 3 _ rfl
 have k4 : W1.cell? ⟨w.heap.size + 1,4,none⟩ = some (.int .i64 a.renew) := RJ 4 _ rfl
 have k5 : W1.cell? ⟨w.heap.size + 1,5,none⟩ = some (.int .i64 a.expire) := RJ 5 _ rfl
 have k6 : W1.cell? ⟨w.heap.size + 1,6,none⟩ = some (.int .i64 a.flags) := RJ 6 _ rfl
 rw [hr,hM']
 have HG := hid (gb_trans G1 G0)
 have HW0 := hid hW0
 have HW1 := hid hW1
 have HS1 := hid s1
 have Hgl := hid (And.intro hgl hdl)
 clear hq hdx hok hn hf0 hf1 hl hk G0 G1 hW0 hW1 RJ RB RD hr hM' hgl hdl s1
 unfold deskV
 go_enter Tryz.func8,Tryz.ntmps8
 go_wp2_with (first | (rw [← HW1.out]; fail_if_success done) | (rw [← HW0.out]; fail_if_success done) | (go_at_call 21; (try rw [HS1.out]); refine HB.out.mono ?_; clear HB; rintro e w1 ⟨ob,x,r,W,w2,rfl,h1,h2,h3,⟨h4,h8,rfl,rfl⟩,h5,h6,h7⟩; have y0 : w1.cell? ⟨ob,0,none⟩ = some (.slice none 0 0) := h7 0 _ rfl; have y1 : w1.cell? ⟨ob,1,none⟩ = some (.int .i64 r) := h7 1 _ rfl; have HF := hid (And.intro h1 (And.intro h2 (And.intro h3 (And.intro h4 (And.intro h8 h6))))); clear h1 h2 h3 h4 h5 h6 h7 h8))
 go_ret
 obtain ⟨h1,h2,h3,h4,h8,h6⟩ := HF.out
 have hs := HG.out.size
 refine ⟨rfl,h4.cf h6 (fun _ e => by have := Hgl.out.1; omega) (fun q hq _ e => by have := Hgl.out.2 q hq; omega),(CF.before (gb_trans HG.out h1) h8).trans h6 (fun _ _ hlt e => by omega)⟩
end Go.Proofs.YtpijkgbafjccaaaGreatDoor
