/-
  
  
  
  
-/
import Derived.Test.YtpijkgbafjccaaaGreatDoorGTPFindP
import Derived.Test.YtpijkgbafjccaaaGreatDoorGTPNexB
import Derived.Test.YtpijkgbafjccaaaGreatDoorGTPBookG
namespace Go.Proofs.YtpijkgbafjccaaaGreatDoor
open Go.RowKit
set_option maxRecDepth 100000
set_option maxHeartbeats 2000000 in
theorem remember_num (g o m nx m' nx' : Nat) (e : BE) (w : World) (hl : Live w g (o + 34)) (hc : w.cell? ⟨g,o + 32,none⟩ = some (.int .i64 m)) (hx : w.cell? ⟨g,o + 33,none⟩ = some (.int .i64 nx)) (hn : nx < 4) (hm : m ≤ 4)
  (hm' : min ((m : Int) + 1) 4 = m') (hn' : ((nx : Int) + 1) % 4 = nx') :
  Calls Tryz.prog 224 #[.pointer (some ⟨g,o,none⟩),.agg e.pcells.toArray] w fun r w' => r = .returned (.tuple #[]) ∧ w'.rangeAt g (o + nx * 8) e.pcells ∧ w'.cell? ⟨g,o + 32,none⟩ = some (.int .i64 m') ∧ w'.cell? ⟨g,o + 33,none⟩ = some (.int .i64 nx') ∧ CF w w' (fun b y => b = g ∧ (o + nx * 8 ≤ y ∧ y < o + nx * 8 + 8 ∨ y = o + 32 ∨ y = o + 33)) := by
 obtain ⟨v0,v1,v2,v3,v4,v5,v6,v7,hv,hv0⟩ := pcells_eight e
 clear hv0
 rw [hv]
 obtain ⟨W0,hW0⟩ : ∃ W,W = w.alloc (.cells #[.string v0,.int .i64 v1,.int .u64 v2,.int .u64 v3,.int .i64 v4,.int .i64 v5,.int .i64 v6,.int .i64 v7] 90) := ⟨_,rfl⟩
 have hG0 : w.grownBy W0 none := by rw [hW0]; exact World.grownBy_alloc w _ none
 have hX : W0.rangeAt w.heap.size 0 [.string v0,.int .i64 v1,.int .u64 v2,.int .u64 v3,.int .i64 v4,.int .i64 v5,.int .i64 v6,.int .i64 v7] := by rw [hW0]; exact cells_range w #[.string v0,.int .i64 v1,.int .u64 v2,.int .u64 v3,.int .i64 v4,.int .i64 v5,.int .i64 v6,.int .i64 v7] _
 obtain ⟨x0,x1,x2,x3,x4,x5,x6,x7⟩ := eight_cells hX
 have c1 := hG0.cell hc (by simp)
 have c2 := hG0.cell hx (by simp)
 have hne : w.heap.size ≠ g := fun e => by have := hl.lt; omega
 have hL := hl.grown hG0
 have f0 := hL.frozen (o + nx * 8)
 have f1 := hL.frozen (o + nx * 8 + 1)
 have f2 := hL.frozen (o + nx * 8 + 2)
 have f3 := hL.frozen (o + nx * 8 + 3)
 have f4 := hL.frozen (o + nx * 8 + 4)
 have f5 := hL.frozen (o + nx * 8 + 5)
 have f6 := hL.frozen (o + nx * 8 + 6)
 have f7 := hL.frozen (o + nx * 8 + 7)
 obtain ⟨d0,q0⟩ := Option.isSome_iff_exists.1 (hL.some (o + nx * 8) (by omega))
 obtain ⟨d1,q1⟩ := Option.isSome_iff_exists.1 (hL.some (o + nx * 8 + 1) (by omega))
 obtain ⟨d2,q2⟩ := Option.isSome_iff_exists.1 (hL.some (o + nx * 8 + 2) (by omega))
 obtain ⟨d3,q3⟩ := Option.isSome_iff_exists.1 (hL.some (o + nx * 8 + 3) (by omega))
 obtain ⟨d4,q4⟩ := Option.isSome_iff_exists.1 (hL.some (o + nx * 8 + 4) (by omega))
 obtain ⟨d5,q5⟩ := Option.isSome_iff_exists.1 (hL.some (o + nx * 8 + 5) (by omega))
 obtain ⟨d6,q6⟩ := Option.isSome_iff_exists.1 (hL.some (o + nx * 8 + 6) (by omega))
 obtain ⟨d7,q7⟩ := Option.isSome_iff_exists.1 (hL.some (o + nx * 8 + 7) (by omega))
 have hnI : (nx : Int) < 4 := by omega
 have HG := hid hG0
 have HW0 := hid hW0
 have HL := hid hl
 have HLW := hid hL
 obtain ⟨W1,hW1⟩ : ∃ W,W = W0.setCells g (o + nx * 8) [.string v0,.int .i64 v1,.int .u64 v2,.int .u64 v3,.int .i64 v4,.int .i64 v5,.int .i64 v6,.int .i64 v7] := ⟨_,rfl⟩
 have HRG : Hid (W1.rangeAt g (o + nx * 8) [.string v0,.int .i64 v1,.int .u64 v2,.int .u64 v3,.int .i64 v4,.int .i64 v5,.int .i64 v6,.int .i64 v7]) := by
  show World.rangeAt _ _ _ _
  rw [hW1]
  exact World.rangeAt_setCells_same W0 g (o + nx * 8) _ (hL.there _ _ (by show _ + 8 ≤ _; omega))
 have HCF : Hid (CF W0 W1 (fun b y => b = g ∧ o + nx * 8 ≤ y ∧ y < o + nx * 8 + 8)) := by
  show CF _ _ _
  rw [hW1]
  exact CF.setCells g _ _ W0 (CF.refl _ _) (fun j hj _ => ⟨rfl,by omega,by have hj : j < 8 := hj; omega⟩)
 have HY : Hid (W1.cell? ⟨g,o + 32,none⟩ = some (.int .i64 m) ∧ W1.cell? ⟨g,o + 33,none⟩ = some (.int .i64 nx)) := ⟨HCF.out.cell c1 (fun e => by omega),HCF.out.cell c2 (fun e => by omega)⟩
 have HF : Hid (∀ j,W1.frozen? ⟨g,j,none⟩ = false) := fun j => (hL.cf HCF.out).frozen j
 have HY1 : Hid (∀ v,(W1.setCell ⟨g,o + 33,none⟩ v).cell? ⟨g,o + 32,none⟩ = some (.int .i64 m)) := fun v => by
  rw [World.cell?_setCell_other _ _ _ _ (fun e => by injection e with _ e; omega)]
  exact HY.out.1
 have HC33 : Hid (∀ v,CF W1 (W1.setCell ⟨g,o + 33,none⟩ v) (fun b y => b = g ∧ y = o + 33)) := fun v => (CF.refl _ _).setCell g (o + 33) _ (fun _ => ⟨rfl,rfl⟩)
 have y1 : ∀ v,(W1.setCell ⟨g,o + 33,none⟩ v).drew.cell? ⟨g,o + 32,none⟩ = some (.int .i64 m) := HY1.out
 have y2 : W1.drew.cell? ⟨g,o + 33,none⟩ = some (.int .i64 nx) := HY.out.2
 have z1 : ∀ v,(W1.setCell ⟨g,o + 33,none⟩ v).drew.frozen? ⟨g,o + 32,none⟩ = false := fun v => ((hL.cf HCF.out).cf (HC33.out v)).frozen _
 have z2 : W1.drew.frozen? ⟨g,o + 33,none⟩ = false := HF.out _
 have HW1 := hid hW1
 have HM' := hid hm'
 have HN' := hid hn'
 clear hG0 hX hW0 hc hx hL hl hW1 hm' hn'
 go_enter Tryz.func224,Tryz.ntmps224
 go_wp2_with (first | (rw [← HW0.out]; fail_if_success done) | fail)
 go_region
 all_goals
  simp only [World.setCells] at HW1
  rw [← HW1.out]
  go_wp2
  go_end0
  refine ⟨rfl,?_,?_,?_,?_⟩
  ·refine CF.range (w := W1) (ex := fun b y => b = g ∧ (y = o + 32 ∨ y = o + 33)) ?_ HRG.out (fun j hj e => by have hj : j < 8 := hj; omega)
   first
   | exact (((CF.refl _ _).setCell g (o + 33) _ (fun _ => ⟨rfl,.inr rfl⟩)).setCell g (o + 32) _ (fun _ => ⟨rfl,.inl rfl⟩)).drew
   | exact (((CF.refl _ _).setCell g (o + 33) _ (fun _ => ⟨rfl,.inr rfl⟩)).drew.setCell g (o + 32) _ (fun _ => ⟨rfl,.inl rfl⟩))
  ·rw [← HM'.out]
   exact World.cell?_setCell_same _ _ _ (HY1.out _)
  ·rw [← HN'.out]
   show ((W1.setCell ⟨g,o + 33,none⟩ _).setCell ⟨g,o + 32,none⟩ _).cell? _ = _
   rw [World.cell?_setCell_other _ _ _ _ (fun e => by injection e with _ e; omega)]
   exact World.cell?_setCell_same _ _ _ HY.out.2
  ·have C0 := (CF.before HG.out HCF.out).mono (ex' := fun b y => b = g ∧ (o + nx * 8 ≤ y ∧ y < o + nx * 8 + 8 ∨ y = o + 32 ∨ y = o + 33)) (fun _ _ _ e => ⟨e.1,.inl e.2⟩)
   first
   | exact ((C0.setCell g (o + 33) _ (fun _ => ⟨rfl,.inr (.inr rfl)⟩)).setCell g (o + 32) _ (fun _ => ⟨rfl,.inr (.inl rfl)⟩)).drew
   | exact ((C0.setCell g (o + 33) _ (fun _ => ⟨rfl,.inr (.inr rfl)⟩)).drew.setCell g (o + 32) _ (fun _ => ⟨rfl,.inr (.inl rfl)⟩))
theorem remember_any (g o : Nat) (ls : List BE) (nx : Nat) (e : BE) (w : World) (h : LookAt w g o ls nx) :
  Calls Tryz.prog 224 #[.pointer (some ⟨g,o,none⟩),.agg e.pcells.toArray] w fun r w' => r = .returned (.tuple #[]) ∧ (∃ nx',LookAt w' g o (remM ls nx e) nx') ∧ CF w w' (fun b y => b = g ∧ o ≤ y ∧ y < o + 34) := by
 have h4 := h.len
 have hn := h.nx4
 obtain ⟨m',hm'⟩ : ∃ m' : Nat,min ((ls.length : Int) + 1) 4 = m' := ⟨(min ((ls.length : Int) + 1) 4).toNat,by omega⟩
 obtain ⟨nx',hn'⟩ : ∃ n' : Nat,((nx : Int) + 1) % 4 = n' := ⟨(((nx : Int) + 1) % 4).toNat,by omega⟩
 refine (remember_num g o ls.length nx m' nx' e w h.live h.count h.next hn h4 hm' hn').mono ?_
 rintro r w' ⟨rfl,h1,h2,h3,h5⟩
 have hk : ∀ k (hk : k < ls.length),k ≠ nx → w'.rangeAt g (o + k * 8) ls[k].pcells := fun k hk hne => h5.range (h.ent k hk) (fun j hj e => by have hj : j < 8 := hj; omega)
 refine ⟨rfl,⟨nx',h.live.cf h5,?_,?_,h3,?_,by omega,?_⟩,h5.mono (fun b y _ e => ⟨e.1,by omega,by omega⟩)⟩
 ·unfold remM
  split
  ·rename_i hlt
   have hnx := h.nxl hlt
   intro k hk2
   rw [List.length_append,List.length_singleton] at hk2
   by_cases e1 : k < ls.length
   ·rw [List.getElem_append_left e1]
    exact hk k e1 (by omega)
   ·obtain rfl : k = ls.length := by omega
    rw [List.getElem_append_right (Nat.le_refl _)]
    simp only [Nat.sub_self,List.getElem_cons_zero]
    rw [hnx] at h1
    exact h1
  ·intro k hk2
   rw [List.length_set] at hk2
   by_cases e1 : nx = k
   ·subst e1
    rw [List.getElem_set_self]
    exact h1
   ·rw [List.getElem_set_ne e1]
    exact hk k hk2 (fun q => e1 q.symm)
 ·rw [h2,← hm']
  congr 2
  unfold remM
  split
  ·rw [List.length_append,List.length_singleton]; omega
  ·rw [List.length_set]; omega
 ·unfold remM
  split
  ·rw [List.length_append,List.length_singleton]; omega
  ·rw [List.length_set]; omega
 ·unfold remM
  split
  ·rename_i hlt
   have hnx := h.nxl hlt
   rw [List.length_append,List.length_singleton]; omega
  ·rw [List.length_set]; omega
end Go.Proofs.YtpijkgbafjccaaaGreatDoor
namespace Go.Proofs.YtpijkgbafjccaaaGreatDoor
open Go.RowKit
set_option maxRecDepth 100000
theorem bs_cells {S : Source} {v : Value} {z : List UInt8} {w : World} (h : Bs S v z) (hs : At w S.1 S.2) : ∃ ao cap,v = .slice ao z.length cap ∧ z.length ≤ cap ∧ At w ao z ∧ ∀ b off,ao = some ⟨b,off,none⟩ → ∀ j,j < z.length → ∃ off',S.1 = some ⟨b,off',none⟩ ∧ off' ≤ off + j ∧ off + j < off' + S.2.length := by
 obtain ⟨ao,cap,h1,h2,_,_,h5⟩ := h
 refine ⟨ao,cap,h1,h2,h5 w hs,fun b off hao j hj => Classical.byContradiction fun hno => ?_⟩
 have key : At (w.setCell ⟨b,off + j,none⟩ (.bool true)) S.1 S.2 := by
  intro i hi
  obtain ⟨b',off',e,hc⟩ := hs i hi
  refine ⟨b',off',e,?_⟩
  rw [World.cell?_setCell_other _ _ _ _ (fun e' => ?_)]
  ·exact hc
  ·have e1 := congrArg Addr.block e'
   have e2 := congrArg Addr.off e'
   simp at e1 e2
   exact hno ⟨off',by rw [e,e1],by omega,by omega⟩
 obtain ⟨b1,o1,e1,c1⟩ := h5 w hs j hj
 obtain ⟨b2,o2,e2,c2⟩ := h5 _ key j hj
 rw [hao] at e1 e2
 injection e1 with e1
 injection e1 with e1a e1b _
 injection e2 with e2
 injection e2 with e2a e2b _
 subst e1a e1b e2a e2b
 rw [World.cell?_setCell_same _ _ _ c1] at c2
 injection c2 with c2
 cases c2
def Apart (S : Source) (po : Option Pl) (exF : Nat → Nat → Prop) : Prop := ∀ b off,S.1 = some ⟨b,off,none⟩ → ∀ j,j < S.2.length → ¬ Pl.has po b (off + j) ∧ ¬ exF b (off + j)
theorem bs_byteAt {S : Source} {v : Value} {z : List UInt8} {w : World} {po : Option Pl} {exF : Nat → Nat → Prop} (h : Bs S v z) (hs : At w S.1 S.2) (ha : Apart S po exF) : ByteAt w po exF z v := by
 obtain ⟨ao,cap,h1,h2,h3,h4⟩ := bs_cells h hs
 refine ⟨ao,cap,h1,h2,h3,fun b off e j hj => ?_⟩
 obtain ⟨off',e1,l1,l2⟩ := h4 b off e j hj
 have := ha b off' e1 (off + j - off') (by omega)
 rw [show off' + (off + j - off') = off + j from by omega] at this
 refine ⟨this.1,this.2,?_⟩
 obtain ⟨b',o',e',hc⟩ := h3 j hj
 rw [e] at e'
 injection e' with e'
 injection e' with e1 _ _
 subst e1
 exact cell_block hc
theorem rfQ_pre (req : List UInt8) : (rfQ req).pre = if (rfC req).1 = [] then none else some (rfP req).1 := by
 unfold rfQ
 with_reducible rfl
theorem bs_preAt {S : Source} {v : Value} {w : World} {po : Option Pl} {exF : Nat → Nat → Prop} (req : List UInt8) (h : Bs S v (rfP req).1.2) (hs : At w S.1 S.2) (ha : Apart S po exF) : PreAt w po exF (rfQ req) (rfP req).1.1 v := by
 have hp := rfQ_pre req
 unfold PreAt
 rw [hp]
 generalize (rfP req).1 = P at *
 generalize (rfC req).1 = c at *
 clear hp
 obtain ⟨n,z⟩ := P
 by_cases hc : c = []
 ·rw [if_pos hc]
  exact .inl rfl
 ·rw [if_neg hc]
  obtain ⟨ao,cap,h1,h2,h3,h4⟩ := bs_byteAt (z := z) h hs ha
  exact .inr ⟨z,ao,cap,rfl,h1,h2,h3,h4⟩
theorem firstCs_is (req : List UInt8) (v : Value) : firstCs req v = (rfQ req).cells (rfP req).1.1 v := by
 have h1 : (rfQ req).pre.isSome = decide ((rfC req).1 ≠ []) := by
  rw [rfQ_pre]
  generalize (rfC req).1 = c
  generalize (rfP req).1 = P
  by_cases hc : c = []
  ·rw [if_pos hc]; simp [hc]
  ·rw [if_neg hc]; simp [hc]
 unfold FQ.cells
 rw [h1]
 unfold firstCs rfQ
 with_reducible rfl
theorem nextCs_is (req : List UInt8) (v u : Value) : nextCs req v u = (rnQ req).cells v u := by
 unfold nextCs NQ.cells rnQ
 with_reducible rfl
theorem Fin.before {w W w' : World} {g : Nat} {po pr dp : Option Pl} {exF : Nat → Nat → Prop} {v' : Value} {R : List UInt8 × DM} (h : Fin W w' g po pr dp exF v' R) (k : w.grownBy W none) : Fin w w' g po pr dp exF v' R := by
 obtain ⟨⟨p',o1,o2⟩,h2,h3⟩ := h
 exact ⟨⟨p',o1,o2.imp id (fun q => fresh_mono q k.size)⟩,h2,CF.before k h3⟩
end Go.Proofs.YtpijkgbafjccaaaGreatDoor
namespace Go.Proofs.YtpijkgbafjccaaaGreatDoor
open Go.RowKit
set_option maxRecDepth 100000
theorem rf_pack (req : List UInt8) : ∃ (q : FQ) (pn : Int) (z : List UInt8) (ok : Bool) (FC : Value → List Value),rfQ req = q ∧ rfOk req = ok ∧ (rfP req).1.2 = z ∧ firstCs req = FC ∧ (∀ v,FC v = q.cells pn v) ∧ (∀ S v w po exF,Bs S v z → At w S.1 S.2 → Apart S po exF → PreAt w po exF q pn v) ∧ In64 q.nonce ∧ In64 q.sFrom ∧ In64 q.till ∧ In64 q.rtime ∧ In64 q.opts := by
 with_reducible refine ⟨rfQ req,(rfP req).1.1,(rfP req).1.2,rfOk req,firstCs req,rfl,rfl,rfl,rfl,firstCs_is req,fun S v w po exF h1 h2 h3 => bs_preAt req h1 h2 h3,?_⟩
 have h : ∀ j,In64 (rfN req j) := fun j => by unfold rfN; exact stepN_in _
 unfold rfQ
 dsimp only
 with_reducible exact ⟨h 0,h 1,h 2,h 3,h 4⟩
theorem rn_pack (req : List UInt8) : ∃ (q : NQ) (z u : List UInt8) (ok : Bool) (NC : Value → Value → List Value),rnQ req = q ∧ rnOk req = ok ∧ (rnZ req).1.2 = z ∧ (rnP req).1 = u ∧ nextCs req = NC ∧ (∀ v x,NC v x = q.cells v x) ∧ q.tsealed = z ∧ q.proof = u ∧ In64 q.nonce ∧ In64 q.till ∧ In64 q.rtime ∧ In64 q.opts := by
 with_reducible refine ⟨rnQ req,(rnZ req).1.2,(rnP req).1,rnOk req,nextCs req,rfl,rfl,rfl,rfl,rfl,nextCs_is req,?_⟩
 have h : ∀ j,In64 (rnN req j) := fun j => by unfold rnN; exact stepN_in _
 unfold rnQ
 dsimp only
 with_reducible exact ⟨rfl,rfl,h 0,h 1,h 2,h 3⟩
theorem answerM_is (M : DM) (now : Int) (req : List UInt8) : answerM M now req = if rfOk req = true then finishM M now (firstM M now (rfQ req)) else if rnOk req = true then nextM M now (rnQ req) else (refusalBox now 60,M) := by
 unfold answerM
 rw [first_same,next_same]
 generalize rfOk req = a
 generalize rnOk req = b
 generalize rfQ req = q
 generalize rnQ req = q2
 cases a <;> cases b <;> rfl
set_option maxHeartbeats 4000000 in
theorem answerBy_any (g T : Nat) (fv rv ro rr : Value) (po pr dp : Option Pl) (J : World → Prop) (exF exJ : Nat → Nat → Prop) (M : DM) (now : Int) (S : Source) (req : List UInt8) (n : Nat) (ao : Option Addr) (cap : Nat) (w : World)
  (SS : HS (w.heap.size + 1) g (w.heap.size + 2) T fv rv po pr dp J exF exJ M.book) (hd : DeskAt w g 0 dp M) (hJ : J w) (ho : Out w ro po []) (hr : Out w rr pr []) (hn : Hid (req.length = n)) (hs : At w S.1 S.2) (hb : Bs S (.slice ao n cap) req) (ha : Apart S po exF) (hnow : In64 now) (hsk : In64 M.skew) (htm : ∀ y ∈ M.proofs,In64 y.time) :
  Calls Tryz.prog 54 #[.pointer (some ⟨g,0,none⟩),.agg #[.iface T fv,ro,rr],.int .i64 now,.slice ao n cap] w fun e w' => ∃ v',e = .returned v' ∧ Fin w w' g po pr dp exF v' (answerM M now req) ∧ J w' := by
 rw [answerM_is]
 obtain ⟨roa,roc,hro,_⟩ := cut_zero ho
 obtain ⟨rra,rrc,hrr,_⟩ := cut_zero hr
 subst hro hrr
 obtain ⟨W0,hW0⟩ : ∃ W,W = (w.alloc (.cells #[.iface T fv,.slice roa 0 roc,.slice rra 0 rrc] 147)).alloc (.cells #[.iface T fv,.slice roa 0 roc,.slice rra 0 rrc,.pointer (some ⟨g,0,none⟩),.int .i64 now] 161) := ⟨_,rfl⟩
 have G0 : w.grownBy W0 none := by rw [hW0]; exact gb_alloc (World.grownBy_alloc w _ none) _
 have s0 : W0.heap.size = w.heap.size + 2 := by rw [hW0,World.size_alloc,World.size_alloc]
 have H0 : Hear W0 (w.heap.size + 1) g T fv (.slice roa 0 roc) (.slice rra 0 rrc) now := by
  have h := cells_range (w.alloc (.cells #[.iface T fv,.slice roa 0 roc,.slice rra 0 rrc] 147)) #[.iface T fv,.slice roa 0 roc,.slice rra 0 rrc,.pointer (some ⟨g,0,none⟩),.int .i64 now] 161
  rw [World.size_alloc,← hW0] at h
  exact ⟨h 0 _ rfl,h 1 _ rfl,h 2 _ rfl,h 3 _ rfl,h 4 _ rfl⟩
 have C1 := hid (readFirst_any S req n ao cap W0 hn (hs.below G0) hb)
 have C2 := hid (fun W (hW : At W S.1 S.2) => readNext_any S req n ao cap W hn hW hb)
 obtain ⟨q,pn,z,ok1,FC,hq,hok,hz,hFC,f1,f2,i1,i2,i3,i4,i5⟩ := rf_pack req
 obtain ⟨nq,nz,nu,ok2,NC,hnq,hok2,hnz,hnu,hNC,n1,n2,n3,m1,m2,m3,m4⟩ := rn_pack req
 rw [hok,hz,hFC] at C1
 simp only [hok2,hnz,hnu,hNC] at C2
 rw [hok,hq,hok2,hnq]
 clear hq hok hz hFC hnq hok2 hnz hnu hNC
 have HQ : Hid (∀ W,W0.grownBy W none → HS (w.heap.size + 1) g (w.heap.size + 2) T fv rv po pr dp J exF exJ M.book ∧ Hear W (w.heap.size + 1) g T fv (.slice roa 0 roc) (.slice rra 0 rrc) now ∧ DeskAt W g 0 dp M ∧ J W ∧ Out W (.slice roa 0 roc) po [] ∧ Out W (.slice rra 0 rrc) pr [] ∧ At W S.1 S.2 ∧ w.heap.size + 2 ≤ W.heap.size ∧ w.grownBy W none) := by
  intro W k
  have k2 := gb_trans G0 k
  exact ⟨SS,H0.grown k,hd.grown k2,SS.finds.stay _ _ hJ (CF.of_gb k2 _),ho.grown k2,hr.grown k2,hs.below k2,by have := k.size; omega,k2⟩
 have CF1 : Hid (∀ (v : Value) (W : World),W0.grownBy W none → Bs S v z → Calls Tryz.prog 68 #[.pointer (some ⟨w.heap.size + 1,0,none⟩),.agg (FC v).toArray] W fun e w' => ∃ v',e = .returned v' ∧ Fin w w' g po pr dp exF v' (finishM M now (firstM M now q)) ∧ J w') := by
  intro v W k hv
  obtain ⟨q1,q2,q3,q4,q5,q6,q7,q8,q9⟩ := HQ.out W k
  rw [f1]
  refine (answerFirst_any (w.heap.size + 1) g (w.heap.size + 2) T fv rv _ _ po pr dp J exF exJ M now pn q v W q1 q2 q3 q4 q5 q6 (f2 S v W po exF hv q7 ha) hnow hsk i1 i2 i3 i4 i5 q8).mono ?_
  rintro e w' ⟨v',r1,r2,rj⟩
  exact ⟨v',r1,r2.before q9,rj⟩
 have CN1 : Hid (∀ (v u : Value) (W : World),W0.grownBy W none → Bs S v nz → Bs S u nu → Calls Tryz.prog 70 #[.pointer (some ⟨w.heap.size + 1,0,none⟩),.agg (NC v u).toArray] W fun e w' => ∃ v',e = .returned v' ∧ Fin w w' g po pr dp exF v' (nextM M now nq) ∧ J w') := by
  intro v u W k hv hu
  obtain ⟨q1,q2,q3,q4,q5,q6,q7,q8,q9⟩ := HQ.out W k
  rw [n1]
  refine (answerNext_any (w.heap.size + 1) g (w.heap.size + 2) T fv rv _ _ po pr dp J exF exJ M now nq v u W q1 q2 q3 q4 q5 q6 (by rw [n2]; exact bs_byteAt hv q7 ha) (by rw [n3]; exact bs_byteAt hu q7 ha) hnow hsk htm m1 m2 m3 m4 q8).mono ?_
  rintro e w' ⟨v',r1,r2,rj⟩
  exact ⟨v',r1,r2.before q9,rj⟩
 have CR1 : Hid (∀ (W : World),W0.grownBy W none → Calls Tryz.prog 71 #[.pointer (some ⟨w.heap.size + 1,0,none⟩),.int .i64 60] W fun e w' => ∃ v',e = .returned v' ∧ Fin w w' g po pr dp exF v' (refusalBox now 60,M) ∧ J w') := by
  intro W k
  obtain ⟨q1,q2,q3,q4,q5,q6,q7,q8,q9⟩ := HQ.out W k
  refine (refuse_any (w.heap.size + 1) g T fv _ _ pr now 60 W q2 q6 q1.prH hnow ⟨by decide,by decide⟩).mono ?_
  rintro e w' ⟨v',r1,r2⟩
  obtain ⟨p',o1,o2,o3,_⟩ := r2
  have hfin : Fin W w' g po pr dp exF v' (refusalBox now 60,M) := by
   refine ⟨⟨p',o1,o3⟩,⟨dp,q3.cf o2 (fun j _ hj e => q1.prG j (by omega) e) (fun q hq j _ e => ((q1.dpF q hq).2.2.2 _).2.2 e),fun q' hq' => ⟨q',hq',rfl⟩⟩,o2.mono (fun _ _ _ e => .inr (.inr e))⟩
  exact ⟨v',r1,hfin.before q9,q1.finds.stay _ _ q4 (o2.mono (fun b y _ e => q1.prJ b y e))⟩
 have HAt : Hid (∀ W,W0.grownBy W none → At W S.1 S.2) := fun W k => (HQ.out W k).2.2.2.2.2.2.1
 obtain ⟨R,hR⟩ : ∃ R,(if ok1 = true then finishM M now (firstM M now q) else if ok2 = true then nextM M now nq else (refusalBox now 60,M)) = R := ⟨_,rfl⟩
 rw [hR]
 have HR := hid hR
 clear hR
 have HW0 := hid hW0
 clear HQ hW0 G0 s0 H0 SS hd hJ ho hr hs hb ha hnow hsk htm f1 f2 n1 n2 n3 i1 i2 i3 i4 i5 m1 m2 m3 m4 hn
 go_enter Tryz.func54,Tryz.ntmps54
 go_wp2_with (first | (rw [← HW0.out]; fail_if_success done) | fail)
 refine C1.out.mono ?_
 rintro e w1 ⟨cs,rfl,k1,⟨k2,k3⟩,g1⟩
 have L1 : Live (w1.alloc (.cells firstZ 165)) w1.heap.size 10 := Live.new w1 firstZ 165
 have h1 : ∀ v ∈ cs.toList,v.oneCell' = true := fun v hv => by rw [List.all_eq_true] at k3; exact k3 v hv
 have hst := run_store_live (P := Tryz.prog) cs.toList L1 (by rw [Array.length_toList,k2]; exact Nat.le_refl _) h1
 have RA := World.rangeAt_setCells_same (w1.alloc (.cells firstZ 165)) w1.heap.size 0 cs.toList (L1.there 0 _ (by rw [Array.length_toList,k2]; omega))
 have HRA := hid (And.intro RA (show (Tryz.prog.info? 165).map (·.size) = some cs.toList.length by rw [Tryz.sizeFirst,Array.length_toList,k2]))
 have HG1 := hid (gb_trans g1 (gb_setCells w1.heap.size (Nat.le_refl _) cs.toList 0 _ (World.grownBy_alloc w1 (.cells firstZ 165) none)))
 have HK1 := hid k1
 clear C1 k1 k3 g1 HW0 RA L1 h1
 cases ok1 with
 | true =>
  obtain ⟨v,hv,hB⟩ := HK1.out rfl
  have C3 := hid (CF1.out v _ HG1.out hB)
  rw [← hv] at C3
  rw [if_pos rfl] at HR
  clear HK1 hv hB C2 CN1 CR1 CF1
  go_wp2_with (first | (refine wpList_load_mid rfl 165 _ rfl w1.heap.size 0 rfl cs.toList _ HRA.out.1 Tryz.underlying165 rfl HRA.out.2 ?_) | (go_at_call 68; refine C3.out.mono ?_; rintro e w' ⟨v',rfl,r2⟩))
  go_ret
  exact ⟨_,rfl,by rw [← HR.out]; exact r2⟩
 | false =>
  rw [if_neg (by decide)] at HR
  have C4 := hid (C2.out _ (HAt.out _ HG1.out))
  clear C2 HK1 CF1 HRA
  go_wp2_with fail
  refine C4.out.mono ?_
  rintro e w2 ⟨cs2,rfl,k1,⟨k22,k3⟩,g2⟩
  have L2 : Live (w2.alloc (.cells nextZ 172)) w2.heap.size 9 := Live.new w2 nextZ 172
  have h2 : ∀ v ∈ cs2.toList,v.oneCell' = true := fun v hv => by rw [List.all_eq_true] at k3; exact k3 v hv
  have hst2 := run_store_live (P := Tryz.prog) cs2.toList L2 (by rw [Array.length_toList,k22]; exact Nat.le_refl _) h2
  have RA := World.rangeAt_setCells_same (w2.alloc (.cells nextZ 172)) w2.heap.size 0 cs2.toList (L2.there 0 _ (by rw [Array.length_toList,k22]; omega))
  have HRA2 := hid (And.intro RA (show (Tryz.prog.info? 172).map (·.size) = some cs2.toList.length by rw [Tryz.sizeNext,Array.length_toList,k22]))
  have HG2 := hid (gb_trans HG1.out (gb_trans g2 (gb_setCells w2.heap.size (Nat.le_refl _) cs2.toList 0 _ (World.grownBy_alloc w2 (.cells nextZ 172) none))))
  have HK2 := hid k1
  clear C4 k1 k3 g2 HG1 L2 h2 RA hst
  cases ok2 with
  | true =>
   obtain ⟨v,u,hv,hB,hU⟩ := HK2.out rfl
   have C3 := hid (CN1.out v u _ HG2.out hB hU)
   rw [← hv] at C3
   rw [if_pos rfl] at HR
   clear HK2 hv hB hU CN1 CR1
   go_wp2_with (first | (refine wpList_load_mid rfl 172 _ rfl w2.heap.size 0 rfl cs2.toList _ HRA2.out.1 Tryz.underlying172 rfl HRA2.out.2 ?_) | (go_at_call 70; refine C3.out.mono ?_; rintro e w' ⟨v',rfl,r2⟩))
   go_ret
   exact ⟨_,rfl,by rw [← HR.out]; exact r2⟩
  | false =>
   rw [if_neg (by decide)] at HR
   have C3 := hid (CR1.out _ HG2.out)
   clear HK2 CN1 CR1
   go_wp2_with (go_at_call 71; refine C3.out.mono ?_; rintro e w' ⟨v',rfl,r2⟩)
   go_ret
   exact ⟨_,rfl,by rw [← HR.out]; exact r2⟩
end Go.Proofs.YtpijkgbafjccaaaGreatDoor
namespace Go.Proofs.YtpijkgbafjccaaaGreatDoor
open Go.RowKit
set_option maxRecDepth 100000
theorem DeskAt.ltg {w : World} {g o : Nat} {dp : Option Pl} {d : DM} (h : DeskAt w g o dp d) {q : Pl} (hq : dp = some q) : q.g < w.heap.size := by
 obtain ⟨v,_,ho⟩ := h.draws
 exact ho.ltg q hq
abbrev exBookD (g : Nat) (b y : Nat) : Prop := ¬ (b = g ∧ 2 ≤ y ∧ y < 163)
theorem hs_plainD (w : World) (g : Nat) (dp : Option Pl) (M : DM) (hd : DeskAt w g 0 dp M) (hdx : ∀ q,dp = some q → q.g ≠ g) (hin : ∀ e ∈ M.book,e.In) (hso : M.book.Pairwise (fun x y => Op.bytesLess x.name y.name = true)) :
  HS (w.heap.size + 1) g (w.heap.size + 2) 131 (.pointer (some ⟨g,0,none⟩)) (.pointer (some ⟨g,0,none⟩)) none none dp (fun W => BookAt W g 2 M.book) (fun _ _ => False) (exBookD g) M.book := by
 have hg : g < w.heap.size := hd.live.lt
 have hno : ∀ b y,¬ Pl.has none b y := fun b y h => by obtain ⟨q,e,_⟩ := h; cases e
 refine ⟨meth_plain g,finds_plain g M.book hso,fun _ h => h,fun _ _ _ h => h,fun b y hb h => by have := h.1; omega,fun b y h => absurd h (hno b y),fun b y h => absurd h (hno b y),fun h => by omega,fun y h1 _ h => by omega,(fun q h => by cases h),(fun q h => by cases h),fun j _ => hno _ _,fun j _ => hno _ _,fun _ _ h => h,by omega,fun p hp => ?_,by omega,by omega,hin,hso⟩
 have h1 : p.g < w.heap.size := hd.ltg hp
 exact ⟨hdx p hp,by omega,by omega,fun y => ⟨fun h => h,hno _ _,hno _ _⟩⟩
set_option maxHeartbeats 1000000 in
theorem deskAnswer_d (g : Nat) (dp : Option Pl) (M : DM) (now : Int) (S : Source) (req : List UInt8) (n : Nat) (ao : Option Addr) (cap : Nat) (w : World) (hd : DeskAt w g 0 dp M) (hdx : ∀ q,dp = some q → q.g ≠ g) (hin : ∀ e ∈ M.book,e.In) (hso : M.book.Pairwise (fun x y => Op.bytesLess x.name y.name = true))
  (hn : Hid (req.length = n)) (hs : At w S.1 S.2) (hb : Bs S (.slice ao n cap) req) (hnow : In64 now) (hsk : In64 M.skew) (htm : ∀ y ∈ M.proofs,In64 y.time) :
  Calls Tryz.prog 38 #[.pointer (some ⟨g,0,none⟩),.int .i64 now,.slice ao n cap] w fun e w' => ∃ v',e = .returned v' ∧ Fin w w' g none none dp (fun _ _ => False) v' (answerM M now req) := by
 have C1 := hid (answerBy_any g 131 (.pointer (some ⟨g,0,none⟩)) (.pointer (some ⟨g,0,none⟩)) (.slice none 0 0) (.slice none 0 0) none none dp _ _ _ M now S req n ao cap w (hs_plainD w g dp M hd hdx hin hso) hd hd.book (Out.nil w) (Out.nil w) hn hs hb (fun b off _ j _ => ⟨fun h => (by obtain ⟨q,e,_⟩ := h; cases e),fun h => h⟩) hnow hsk htm)
 obtain ⟨R,hR⟩ : ∃ R,answerM M now req = R := ⟨_,rfl⟩
 rw [hR] at C1 ⊢
 clear hR hd hdx hin hso hn hs hb hnow hsk htm
 go_enter Tryz.func38,Tryz.ntmps38
 go_wp2_with (go_at_call 54; refine C1.out.mono ?_; rintro e w' ⟨v',rfl,r,_⟩)
 go_ret
 exact ⟨_,rfl,r⟩
set_option maxHeartbeats 1000000 in
theorem plainAnswer_d (g : Nat) (dp : Option Pl) (M : DM) (now : Int) (S : Source) (req : List UInt8) (n : Nat) (ao : Option Addr) (cap : Nat) (w : World) (hd : DeskAt w g 0 dp M) (hdx : ∀ q,dp = some q → q.g ≠ g) (hin : ∀ e ∈ M.book,e.In) (hso : M.book.Pairwise (fun x y => Op.bytesLess x.name y.name = true))
  (hn : Hid (req.length = n)) (hs : At w S.1 S.2) (hb : Bs S (.slice ao n cap) req) (hnow : In64 now) (hsk : In64 M.skew) (htm : ∀ y ∈ M.proofs,In64 y.time) :
  Calls Tryz.prog 24 #[.pointer (some ⟨g,0,none⟩),.int .i64 now,.slice ao n cap] w fun e w' => ∃ v',e = .returned v' ∧ Fin w w' g none none dp (fun _ _ => False) v' (answerM M now req) := by
 have C1 := hid (deskAnswer_d g dp M now S req n ao cap w hd hdx hin hso hn hs hb hnow hsk htm)
 obtain ⟨R,hR⟩ : ∃ R,answerM M now req = R := ⟨_,rfl⟩
 rw [hR] at C1 ⊢
 clear hR hd hdx hin hso hn hs hb hnow hsk htm
 go_enter Tryz.func24,Tryz.ntmps24
 go_wp2_with (go_at_call 38; refine C1.out.mono ?_; rintro e w' ⟨v',rfl,r⟩)
 go_ret
 exact ⟨_,rfl,r⟩
end Go.Proofs.YtpijkgbafjccaaaGreatDoor
