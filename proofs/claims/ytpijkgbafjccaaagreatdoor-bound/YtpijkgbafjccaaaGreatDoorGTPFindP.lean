/-
  
  
  
  
  
  
  
  
  
  
  
-/
import Derived.Test.YtpijkgbafjccaaaGreatDoorGTPFindA
import Derived.Test.YtpijkgbafjccaaaGreatDoorGTPBookG
import Derived.Test.YtpijkgbafjccaaaGreatDoorGTPDerB
namespace Go.Proofs.YtpijkgbafjccaaaGreatDoor
open Go.RowKit
set_option maxRecDepth 100000
theorem find_at : ∀ (es : List BE) (l : List UInt8),((BE.at? es l).isSome = false → BE.find es l = none) ∧ ∀ i (hi : i < es.length),BE.at? es l = some i → BE.find es l = some es[i] := by
 intro es l
 unfold BE.at? BE.find
 induction es with
 | nil => exact ⟨fun _ => rfl,fun i hi => absurd hi (by simp)⟩
 | cons e es ih =>
  rw [List.findIdx?_cons,List.find?_cons]
  cases h : (e.name == l) with
  | true =>
   simp only [if_true]
   refine ⟨fun n => by simp at n,fun i hi hn => ?_⟩
   have : i = 0 := by simpa using hn.symm
   subst this
   rfl
  | false =>
   simp only [Bool.false_eq_true,if_false]
   refine ⟨fun n => ih.1 (by simpa using n),fun i hi hn => ?_⟩
   rw [Option.map_eq_some_iff] at hn
   obtain ⟨j,hj,rfl⟩ := hn
   have hj2 : j < es.length := by simpa using hi
   rw [ih.2 j hj2 hj]
   rfl
theorem bookFind_q (g : Nat) (es : List BE) (l : List UInt8) (w : World) (h : BookAt w g 2 es) (hs : es.Pairwise (fun x y => Op.bytesLess x.name y.name = true)) :
  Calls Tryz.prog 225 #[.pointer (some ⟨g,2,none⟩),.string ⟨l.toArray⟩] w fun e w' => e = .returned (foundV (BE.find es l)) ∧ w.grownBy w' none := by
 refine (find_any g 2 es l _ w h hs (hid rfl)).mono ?_
 rintro e w' ⟨h1,h2,h3⟩
 refine ⟨?_,h3⟩
 have hf := find_at es l
 cases ha : BE.at? es l with
 | none =>
  rw [hf.1 (by rw [ha]; rfl)]
  exact h1 (by rw [ha]; rfl)
 | some i =>
  obtain ⟨hi,_⟩ := at_some ha
  rw [hf.2 i hi ha]
  exact h2 i hi ha
set_option maxHeartbeats 1000000 in
theorem deskFind_any (g : Nat) (es : List BE) (l : List UInt8) (w : World) (h : BookAt w g 2 es) (hs : es.Pairwise (fun x y => Op.bytesLess x.name y.name = true)) :
  Calls Tryz.prog 223 #[.pointer (some ⟨g,0,none⟩),.string ⟨l.toArray⟩] w fun e w' => e = .returned (foundV (BE.find es l)) ∧ w.grownBy w' none := by
 have G0 := World.grownBy_alloc w (.cells noEntry 90) none
 have hB := bookFind_q g es l _ (h.grown G0) hs
 obtain ⟨x,hx⟩ : ∃ x,BE.find es l = x := ⟨_,rfl⟩
 rw [hx] at hB
 rw [hx]
 obtain ⟨v0,v1,v2,v3,v4,v5,v6,v7,hv⟩ := foundC_eight x
 unfold foundV at hB ⊢
 rw [hv] at hB
 rw [hv]
 obtain ⟨bx,hbx⟩ : ∃ b,x.isSome = b := ⟨_,rfl⟩
 rw [hbx] at hB
 rw [hbx]
 have HB := hid hB
 have HG := hid G0
 have HL := hid (Live.new w noEntry 90)
 clear hB G0 hv hbx hx h hs
 go_enter Tryz.func223,Tryz.ntmps223
 go_wp2_with (first | (go_at_call 225; refine HB.out.mono ?_; clear HB; rintro e w1 ⟨rfl,g1⟩; have HG1 := hid (gb_trans HG.out g1); have hL := HL.out.grown g1; clear g1; obtain ⟨⟨d0,q0⟩,⟨d1,q1⟩,⟨d2,q2⟩,⟨d3,q3⟩,⟨d4,q4⟩,⟨d5,q5⟩,⟨d6,q6⟩,⟨d7,q7⟩,f0,f1,f2,f3,f4,f5,f6,f7⟩ := live_eight hL))
 refine bodyPost_ret (results_celltmp Tryz.results223 _ _ _ w.heap.size rfl _ (load_of (eightSet w1 w.heap.size _ _ _ _ _ _ _ _ q0 q1 q2 q3 q4 q5 q6 q7) 90 _ Tryz.underlying90 rfl Tryz.sizeEntry)) rfl ⟨rfl,?_⟩
 repeat refine gb_store ?_ (Nat.le_refl _)
 exact HG1.out
theorem finds_plain (g : Nat) (es : List BE) (hs : es.Pairwise (fun x y => Op.bytesLess x.name y.name = true)) : Finds (findF 131) (fun W => BookAt W g 2 es) (fun _ _ => False) (fun b y => ¬ (b = g ∧ 2 ≤ y ∧ y < 163)) (.pointer (some ⟨g,0,none⟩)) es :=
 ⟨fun W hW l => (deskFind_any g es l W hW hs).mono fun _ _ ⟨a,b⟩ => ⟨a,hW.grown b,CF.of_gb b _⟩,fun _ _ hW k => hW.cf k (fun _ h1 h2 e => e ⟨rfl,h1,h2⟩)⟩
theorem meth_plain (g : Nat) : ∀ W,(method 431 131 (.pointer (some ⟨g,0,none⟩)) "Find").run Tryz.prog W = .ok (findF 131,.pointer (some ⟨g,0,none⟩)) W := fun _ => by kernel_rfl
end Go.Proofs.YtpijkgbafjccaaaGreatDoor
namespace Go.Proofs.YtpijkgbafjccaaaGreatDoor
open Go.RowKit
set_option maxRecDepth 100000
theorem str_eqQ {a b : List UInt8} {S T : ByteArray} (hS : S = ⟨a.toArray⟩) (hT : T = ⟨b.toArray⟩) : (S.toList == T.toList) = (a == b) := by
 subst hS hT
 rw [ByteArray.toList_mk,ByteArray.toList_mk]
structure LookAt (w : World) (g o : Nat) (ls : List BE) (nx : Nat) : Prop where
 live : Live w g (o + 34)
 ent : ∀ k (hk : k < ls.length),w.rangeAt g (o + k * 8) ls[k].pcells
 count : w.cell? ⟨g,o + 32,none⟩ = some (.int .i64 ls.length)
 next : w.cell? ⟨g,o + 33,none⟩ = some (.int .i64 nx)
 len : ls.length ≤ 4
 nx4 : nx < 4
 nxl : ls.length < 4 → nx = ls.length
theorem LookAt.cf {w w' : World} {ex : Nat → Nat → Prop} {g o : Nat} {ls : List BE} {nx : Nat} (h : LookAt w g o ls nx) (k : CF w w' ex) (hx : ∀ j,o ≤ j → j < o + 34 → ¬ ex g j) : LookAt w' g o ls nx :=
 ⟨h.live.cf k,fun i hi => k.range (h.ent i hi) (fun j hj => hx _ (by omega) (by have := h.len; have hj : j < 8 := hj; omega)),k.cell h.count (hx _ (by omega) (by omega)),k.cell h.next (hx _ (by omega) (by omega)),h.len,h.nx4,h.nxl⟩
theorem LookAt.grown {w w' : World} {g o : Nat} {ls : List BE} {nx : Nat} (h : LookAt w g o ls nx) (k : w.grownBy w' none) : LookAt w' g o ls nx := h.cf (CF.of_gb k (fun _ _ => False)) (fun _ _ _ e => e)
theorem pcells_eight (e : BE) : ∃ v0 v1 v2 v3 v4 v5 v6 v7,e.pcells = [.string v0,.int .i64 v1,.int .u64 v2,.int .u64 v3,.int .i64 v4,.int .i64 v5,.int .i64 v6,.int .i64 v7] ∧ v0 = ⟨e.name.toArray⟩ := ⟨_,_,_,_,_,_,_,_,rfl,rfl⟩
theorem find_none_of {ls : List BE} {l : List UInt8} (h : ∀ j (hj : j < ls.length),ls[j].name ≠ l) : BE.find ls l = none := by
 unfold BE.find
 rw [List.find?_eq_none]
 intro e he hn
 obtain ⟨j,hj,rfl⟩ := List.getElem_of_mem he
 exact h j hj (by simpa using hn)
theorem find_some_of {ls : List BE} {l : List UInt8} {k : Nat} (hk : k < ls.length) (hn : ls[k].name = l) (h : ∀ j (hj : j < ls.length),j < k → ls[j].name ≠ l) : BE.find ls l = some ls[k] := by
 unfold BE.find
 rw [List.find?_eq_some_iff_getElem]
 refine ⟨by simpa using hn,k,hk,rfl,fun j hj => ?_⟩
 simpa using h j (by omega) hj
set_option maxHeartbeats 400000 in
theorem lcount_any (g o : Nat) (ls : List BE) (nx : Nat) (w : World) (h : LookAt w g o ls nx) :
  Calls Tryz.prog 56 #[.pointer (some ⟨g,o,none⟩)] w fun e w' => e = .returned (.int .i64 ls.length) ∧ w' = w := by
 have c1 := h.count
 clear h
 go_enter Tryz.func56,Tryz.ntmps56
 go_wp2
 go_ret
 exact ⟨rfl,rfl⟩
set_option maxHeartbeats 1000000 in
theorem lfind_any (g o : Nat) (ls : List BE) (nx : Nat) (l : List UInt8) (w : World) (h : LookAt w g o ls nx) :
  Calls Tryz.prog 222 #[.pointer (some ⟨g,o,none⟩),.string ⟨l.toArray⟩] w fun e w' => e = .returned (foundV (BE.find ls l)) ∧ w.grownBy w' none := by
 obtain ⟨W0,hW0⟩ : ∃ W,W = w.alloc (.cells noEntry 90) := ⟨_,rfl⟩
 have HG0 : Hid (w.grownBy W0 none) := by show World.grownBy _ _ _; rw [hW0]; exact World.grownBy_alloc w _ none
 have HLv : Hid (Live W0 w.heap.size 8) := by show Live _ _ _; rw [hW0]; exact Live.new w noEntry _
 obtain ⟨m,hm⟩ : ∃ m,ls.length = m := ⟨_,rfl⟩
 have c1 := HG0.out.cell h.count (by simp)
 rw [hm] at c1
 have hm4 : m ≤ 4 := by rw [← hm]; exact h.len
 have HE : Hid (∀ k (hk : k < ls.length),W0.rangeAt g (o + k * 8) ls[k].pcells) := fun k hk => range_gb (h.ent k hk) HG0.out
 obtain ⟨S,hS⟩ : ∃ S : ByteArray,S = ⟨l.toArray⟩ := ⟨_,rfl⟩
 rw [← hS]
 obtain ⟨⟨d0,q0⟩,⟨d1,q1⟩,⟨d2,q2⟩,⟨d3,q3⟩,⟨d4,q4⟩,⟨d5,q5⟩,⟨d6,q6⟩,⟨d7,q7⟩,f0,f1,f2,f3,f4,f5,f6,f7⟩ := live_eight HLv.out
 have hne : g ≠ w.heap.size := fun e => by have := h.live.lt; omega
 have HS := hid hS
 have HM := hid hm
 have HW0 := hid hW0
 have HNe := hid hne
 clear hS hm hW0 h hne
 go_enter Tryz.func222,Tryz.ntmps222
 go_wp2_with (first | (rw [← HW0.out]; fail_if_success done) | fail)
 go_loopw [6,11] (fun _ i wr => ∃ k : Nat,k ≤ m ∧ i = .int .i64 k ∧ wr = W0 ∧ Hid (∀ j (hj : j < ls.length),j < k → ls[j].name ≠ l)) (fun _ i _ => m - (intOf i).toNat)
 case atStart => exact ⟨0,Nat.zero_le _,rfl,rfl,fun j _ hj => by omega⟩
 case round =>
  obtain ⟨k,hk,rfl,rfl,hI⟩ := hrel
  by_cases hlt : k < m
  ·have hkI : (k : Int) < (m : Int) := by omega
   have hk4 : (k : Int) < 4 := by omega
   have hk0 : (0 : Int) ≤ (k : Int) := by omega
   have hlt' : k < ls.length := by rw [HM.out]; exact hlt
   obtain ⟨e,he⟩ : ∃ e,ls[k] = e := ⟨_,rfl⟩
   have hr := HE.out k hlt'
   rw [he] at hr
   obtain ⟨v0,v1,v2,v3,v4,v5,v6,v7,hv,hv0⟩ := pcells_eight e
   have HV := hid hv
   rw [hv] at hr
   have x0 : wr.cell? ⟨g,o + k * 8,none⟩ = some (.string v0) := hr 0 _ rfl
   have x1 : wr.cell? ⟨g,o + k * 8 + 1,none⟩ = some (.int .i64 v1) := hr 1 _ rfl
   have x2 : wr.cell? ⟨g,o + k * 8 + 2,none⟩ = some (.int .u64 v2) := hr 2 _ rfl
   have x3 : wr.cell? ⟨g,o + k * 8 + 3,none⟩ = some (.int .u64 v3) := hr 3 _ rfl
   have x4 : wr.cell? ⟨g,o + k * 8 + 4,none⟩ = some (.int .i64 v4) := hr 4 _ rfl
   have x5 : wr.cell? ⟨g,o + k * 8 + 5,none⟩ = some (.int .i64 v5) := hr 5 _ rfl
   have x6 : wr.cell? ⟨g,o + k * 8 + 6,none⟩ = some (.int .i64 v6) := hr 6 _ rfl
   have x7 : wr.cell? ⟨g,o + k * 8 + 7,none⟩ = some (.int .i64 v7) := hr 7 _ rfl
   have HEq : Hid ((v0.toList == S.toList) = (e.name == l)) := str_eqQ hv0 HS.out
   have HEe := hid he
   clear hr hv he hv0
   by_cases hc : (v0.toList == S.toList) = true
   ·go_wp2_with fail
    have hnm : ls[k].name = l := by rw [HEe.out]; have := HEq.out; rw [hc] at this; simpa using this.symm
    have hf := find_some_of hlt' hnm hI.out
    rw [HEe.out] at hf
    rw [hf]
    refine bodyPost_ret (results_celltmp Tryz.results222 _ _ _ w.heap.size rfl _ (load_of (eightSet _ w.heap.size _ _ _ _ _ _ _ _ q0 q1 q2 q3 q4 q5 q6 q7) 90 _ Tryz.underlying90 rfl Tryz.sizeEntry)) rfl ⟨by simp only [foundV,foundC]; rw [HV.out]; rfl,?_⟩
    repeat refine gb_store ?_ (Nat.le_refl _)
    exact HG0.out
   ·have hc2 : (v0.toList == S.toList) = false := by simpa using hc
    clear hc
    go_wp2
    go_roundw
    case rel =>
     refine ⟨k + 1,by omega,by go_num,by first | rfl | trivial,fun j hj hjk => ?_⟩
     by_cases e2 : j = k
     ·subst e2
      rw [HEe.out]
      have := HEq.out
      rw [hc2] at this
      simpa using this.symm
     ·exact hI.out j hj (by omega)
    case measure => simp [intOf]; omega
  ·have hkm : k = m := by omega
   subst hkm
   go_wp2
   rw [find_none_of (fun j hj => hI.out j hj (by rw [← HM.out]; exact hj))]
   refine bodyPost_ret (results_celltmp Tryz.results222 _ _ _ w.heap.size rfl _ (load_of (eightSet _ w.heap.size _ _ _ _ _ _ _ _ q0 q1 q2 q3 q4 q5 q6 q7) 90 _ Tryz.underlying90 rfl Tryz.sizeEntry)) rfl ⟨rfl,?_⟩
   repeat refine gb_store ?_ (Nat.le_refl _)
   exact HG0.out
end Go.Proofs.YtpijkgbafjccaaaGreatDoor
namespace Go.Proofs.YtpijkgbafjccaaaGreatDoor
open Go.RowKit
set_option maxRecDepth 100000
theorem run_store_mid {P : Program} {W : World} {b n : Nat} (o : Nat) (vs : List Value) (h : Live W b n) (hn : o + vs.length ≤ n) (h1 : ∀ v ∈ vs,v.oneCell' = true) : (storeCells ⟨b,o,none⟩ vs).run P W = .ok () (W.setCells b o vs) := by
 have := run_storeCells_cells (P := P) b o vs 0 W (fun j hj => h.some _ (by omega)) (fun j _ => h.frozen _) h1
 simpa using this
def lookZ : Array Value := #[.string ⟨#[]⟩,.int .i64 0,.int .u64 0,.int .u64 0,.int .i64 0,.int .i64 0,.int .i64 0,.int .i64 0,.string ⟨#[]⟩,.int .i64 0,.int .u64 0,.int .u64 0,.int .i64 0,.int .i64 0,.int .i64 0,.int .i64 0,.string ⟨#[]⟩,.int .i64 0,.int .u64 0,.int .u64 0,.int .i64 0,.int .i64 0,.int .i64 0,.int .i64 0,.string ⟨#[]⟩,.int .i64 0,.int .u64 0,.int .u64 0,.int .i64 0,.int .i64 0,.int .i64 0,.int .i64 0,.int .i64 0,.int .i64 0]
theorem Tryz.sizeLook : (Tryz.prog.info? 105).map (·.size) = some lookZ.size := by kernel_rfl
theorem lookZ_one : lookZ.all (·.oneCell') = true := by kernel_rfl
set_option maxHeartbeats 1000000 in
theorem forget_any (g o : Nat) (w : World) (h : Live w g (o + 34)) :
  Calls Tryz.prog 218 #[.pointer (some ⟨g,o,none⟩)] w fun e w' => e = .returned (.tuple #[]) ∧ LookAt w' g o [] 0 ∧ CF w w' (fun b y => b = g ∧ o ≤ y ∧ y < o + 34) := by
 have HC : Hid (CF w (w.setCells g o lookZ.toList) (fun b y => b = g ∧ o ≤ y ∧ y < o + 34)) := CF.setCells g _ o w (CF.refl _ _) (fun j hj _ => ⟨rfl,by omega,by have hj : j < 34 := hj; omega⟩)
 have HR := hid (World.rangeAt_setCells_same w g o lookZ.toList (h.there o _ (Nat.le_refl _)))
 have HL := hid h
 clear h
 go_enter Tryz.func218,Tryz.ntmps218
 go_wp2_with (refine wpList_store_mid rfl 105 _ _ rfl g o lookZ rfl rfl (HL.out.there o _ (Nat.le_refl _)) Tryz.sizeLook lookZ_one ?_)
 go_end0
 exact ⟨rfl,⟨HL.out.cf HC.out,fun k hk => absurd hk (by simp),HR.out 32 _ rfl,HR.out 33 _ rfl,by simp,by decide,fun _ => rfl⟩,HC.out⟩
def remM (ls : List BE) (nx : Nat) (e : BE) : List BE := if ls.length < 4 then ls ++ [e] else ls.set nx e
theorem remM_mem {ls : List BE} {nx : Nat} {e x : BE} (h : x ∈ remM ls nx e) : x ∈ ls ∨ x = e := by
 unfold remM at h
 split at h
 ·rcases List.mem_append.1 h with h | h
  ·exact .inl h
  ·exact .inr (List.mem_singleton.1 h)
 ·exact List.mem_or_eq_of_mem_set h
end Go.Proofs.YtpijkgbafjccaaaGreatDoor
namespace Go.Proofs.YtpijkgbafjccaaaGreatDoor
open Go.RowKit
set_option maxRecDepth 100000
def flagsM (q : FQ) (x s : BE) : Int := 32 + (if q.pre.isSome then 64 else 0) + (if bitB q.opts 8 = true then 24 else 0) + allowM q.opts x s
theorem allowM_more (o : Int) (x s : BE) : allowM o x s = moreFlags o 7 x s := by
 unfold allowM moreFlags
 simp only [show bitB 7 1 = true from rfl,show bitB 7 2 = true from rfl,show bitB 7 4 = true from rfl,Bool.and_eq_true,true_and]
theorem firstTK_flags (now : Int) (q : FQ) (x s : BE) : (firstTK now q x s).flags = flagsM q x s := by
 unfold firstTK flagsM
 rw [allowM_more]
theorem or_flags : ∀ (b1 b2 b3 : Bool),(bits .or .i64 32 ((if b1 = true then 1 else 0) + (if b2 = true then 2 else 0) + (if b3 = true then 4 else 0)) = 32 + ((if b1 = true then 1 else 0) + (if b2 = true then 2 else 0) + (if b3 = true then 4 else 0))) ∧ (bits .or .i64 (32 + ((if b1 = true then 1 else 0) + (if b2 = true then 2 else 0) + (if b3 = true then 4 else 0))) 64 = 96 + ((if b1 = true then 1 else 0) + (if b2 = true then 2 else 0) + (if b3 = true then 4 else 0))) ∧ (bits .or .i64 (32 + ((if b1 = true then 1 else 0) + (if b2 = true then 2 else 0) + (if b3 = true then 4 else 0))) 24 = 56 + ((if b1 = true then 1 else 0) + (if b2 = true then 2 else 0) + (if b3 = true then 4 else 0))) ∧ (bits .or .i64 (96 + ((if b1 = true then 1 else 0) + (if b2 = true then 2 else 0) + (if b3 = true then 4 else 0))) 24 = 120 + ((if b1 = true then 1 else 0) + (if b2 = true then 2 else 0) + (if b3 = true then 4 else 0))) := by decide
set_option maxHeartbeats 400000 in
theorem firstFlags_any (pb : Nat) (pn : Int) (v : Value) (q : FQ) (x s : BE) (w : World) (hp : PairAt w pb x s) :
  Calls Tryz.prog 100 #[.pointer (some ⟨pb,0,none⟩),.agg (q.cells pn v).toArray] w fun e w' => e = .returned (.int .i64 (flagsM q x s)) ∧ w.grownBy w' none := by
 obtain ⟨W0,hW0⟩ : ∃ W,W = w.alloc (.cells (q.cells pn v).toArray 165) := ⟨_,rfl⟩
 have G0 : w.grownBy W0 none := by rw [hW0]; exact World.grownBy_alloc w _ none
 have R0 : W0.rangeAt w.heap.size 0 (q.cells pn v) := by rw [hW0]; exact cells_range w (q.cells pn v).toArray _
 have r6 : W0.cell? ⟨w.heap.size,6,none⟩ = some (.int .i64 q.opts) := R0 6 _ rfl
 have r7 : W0.cell? ⟨w.heap.size,7,none⟩ = some (.bool q.pre.isSome) := R0 7 _ rfl
 have HA := hid (allowed_any pb x s q.opts W0 (hp.grown G0))
 have HG := hid G0
 have HW0 := hid hW0
 have hq := and_one0 q.opts 8 3 (by decide) (by decide)
 have ho := or_flags (bitB q.opts 1 && (x.has 4 && s.has 4)) (bitB q.opts 2 && (x.has 8 && s.has 8)) (bitB q.opts 4 && (x.has 2 && s.has 2))
 unfold flagsM
 change bits .or .i64 32 (allowM q.opts x s) = 32 + allowM q.opts x s ∧ bits .or .i64 (32 + allowM q.opts x s) 64 = 96 + allowM q.opts x s ∧ bits .or .i64 (32 + allowM q.opts x s) 24 = 56 + allowM q.opts x s ∧ bits .or .i64 (96 + allowM q.opts x s) 24 = 120 + allowM q.opts x s at ho
 have HO := hid ho
 clear G0 hW0 R0 hp ho
 generalize bitB q.opts 8 = b1 at *
 generalize allowM q.opts x s = al at *
 generalize q.pre.isSome = b2 at *
 cases b1 with
 | true =>
  rw [Bool.not_true] at hq
  have hp := beq_eq_false_iff_ne.1 hq
  clear hq
  cases b2 with
  | true =>
   go_enter Tryz.func100,Tryz.ntmps100
   go_wp2_with (first
    | (rw [← HW0.out]; fail_if_success done)
    | (go_at_call 138; refine HA.out.mono ?_; clear HA; rintro e w1 ⟨rfl,g1⟩; have r6' := g1.cell r6 (by simp); have r7' := g1.cell r7 (by simp)))
   go_wp2
   go_ret
   exact ⟨ret_i64 (by obtain ⟨e1,e2,e3,e4⟩ := HO.out; rw [e1,e2,e4]),gb_trans HG.out g1⟩
  | false =>
   go_enter Tryz.func100,Tryz.ntmps100
   go_wp2_with (first
    | (rw [← HW0.out]; fail_if_success done)
    | (go_at_call 138; refine HA.out.mono ?_; clear HA; rintro e w1 ⟨rfl,g1⟩; have r6' := g1.cell r6 (by simp); have r7' := g1.cell r7 (by simp)))
   go_wp2
   go_ret
   exact ⟨ret_i64 (by obtain ⟨e1,e2,e3,e4⟩ := HO.out; rw [e1,e3]),gb_trans HG.out g1⟩
 | false =>
  rw [Bool.not_false] at hq
  have hp := beq_iff_eq.1 hq
  clear hq
  cases b2 with
  | true =>
   go_enter Tryz.func100,Tryz.ntmps100
   go_wp2_with (first
    | (rw [← HW0.out]; fail_if_success done)
    | (go_at_call 138; refine HA.out.mono ?_; clear HA; rintro e w1 ⟨rfl,g1⟩; have r6' := g1.cell r6 (by simp); have r7' := g1.cell r7 (by simp)))
   go_wp2
   go_ret
   exact ⟨ret_i64 (by obtain ⟨e1,e2,e3,e4⟩ := HO.out; rw [e1,e2]),gb_trans HG.out g1⟩
  | false =>
   go_enter Tryz.func100,Tryz.ntmps100
   go_wp2_with (first
    | (rw [← HW0.out]; fail_if_success done)
    | (go_at_call 138; refine HA.out.mono ?_; clear HA; rintro e w1 ⟨rfl,g1⟩; have r6' := g1.cell r6 (by simp); have r7' := g1.cell r7 (by simp)))
   go_wp2
   go_ret
   exact ⟨ret_i64 (by obtain ⟨e1,e2,e3,e4⟩ := HO.out; rw [e1]),gb_trans HG.out g1⟩
end Go.Proofs.YtpijkgbafjccaaaGreatDoor
namespace Go.Proofs.YtpijkgbafjccaaaGreatDoor
open Go.RowKit
set_option maxRecDepth 100000
structure Hear (w : World) (hb g T : Nat) (fv ro rr : Value) (now : Int) : Prop where
 c0 : w.cell? ⟨hb,0,none⟩ = some (.iface T fv)
 c1 : w.cell? ⟨hb,1,none⟩ = some ro
 c2 : w.cell? ⟨hb,2,none⟩ = some rr
 c3 : w.cell? ⟨hb,3,none⟩ = some (.pointer (some ⟨g,0,none⟩))
 c4 : w.cell? ⟨hb,4,none⟩ = some (.int .i64 now)
theorem Hear.cf {w w' : World} {ex : Nat → Nat → Prop} {hb g T : Nat} {fv ro rr : Value} {now : Int} (h : Hear w hb g T fv ro rr now) (k : CF w w' ex) (hx : ∀ y,¬ ex hb y) : Hear w' hb g T fv ro rr now :=
 ⟨k.cell h.c0 (hx 0),k.cell h.c1 (hx 1),k.cell h.c2 (hx 2),k.cell h.c3 (hx 3),k.cell h.c4 (hx 4)⟩
theorem Hear.grown {w w' : World} {hb g T : Nat} {fv ro rr : Value} {now : Int} (h : Hear w hb g T fv ro rr now) (k : w.grownBy w' none) : Hear w' hb g T fv ro rr now := h.cf (CF.of_gb k (fun _ _ => False)) (fun _ e => e)
theorem cut_zero {w : World} {v : Value} {p : Option Pl} (h : Out w v p []) : ∃ ao cap,v = .slice ao 0 cap ∧ ∀ w,(Instr.sliceAt 26 (.slice ao 0 cap) none (some (.int .i64 0)) none).run Tryz.prog w = .ok (.slice ao 0 cap) w := by
 rcases h with ⟨_,rfl,_⟩ | ⟨q,_,rfl,_,_,_,_⟩
 ·exact ⟨none,0,rfl,fun w => by kernel_rfl⟩
 ·refine ⟨_,_,rfl,fun w => ?_⟩
  have he : Tryz.prog.elem 26 = 5 := by simp [Program.elem,Tryz.underlying26]
  have ht' : Tryz.prog.underlying 26 = some (.slice (Tryz.prog.elem 26)) := by rw [he]; exact Tryz.underlying26
  rw [run_sliceAt_slice w 26 _ _ _ _ ht',run_slice_h w 26 _ _ q.cap ht' .i64 0 (by decide) (by omega),he]
  have hz : ∀ W,(sizeOf 5).run Tryz.prog W = .ok 1 W := fun _ => by kernel_rfl
  rw [hz]
  simp only [Result.andThen,sliced,Int.toNat_zero,Nat.sub_zero,Nat.zero_mul]
  split <;> first | rfl | simp [Addr.add_lit]
theorem outMore_undrew {w w' : World} {v : Value} {p : Option Pl} {bs : List UInt8} (h : OutMore w.drew w' v p bs) : OutMore w w' v p bs := by
 obtain ⟨p',h1,h2,h3,h4⟩ := h
 exact ⟨p',h1,h2.undrew,h3,h4⟩
set_option maxHeartbeats 1000000 in
theorem refuse_any (hb g T : Nat) (fv ro rr : Value) (pr : Option Pl) (now code : Int) (w : World) (h : Hear w hb g T fv ro rr now) (hr : Out w rr pr []) (o : Off pr hb) (hnow : In64 now) (hcode : In64 code) :
  Calls Tryz.prog 71 #[.pointer (some ⟨hb,0,none⟩),.int .i64 code] w fun e w' => ∃ v',e = .returned v' ∧ OutMore w w' v' pr (refusalBox now code) := by
 have HA := hid (appendRefusal_out rr pr [] now code w.drew hr.drew hnow hcode (by simp))
 obtain ⟨ao,cap,hv,hsl⟩ := cut_zero hr
 rw [hv] at HA
 have c2 := h.c2
 rw [hv] at c2
 have c4 := h.c4
 have HO := hid o
 clear h hr o hnow hcode hv
 go_enter Tryz.func71,Tryz.ntmps71
 go_wp2_with fail
 go_region_held3 (fun w' => w'.cell? ⟨hb,2,none⟩ = some (.slice ao 0 cap) ∧ w'.cell? ⟨hb,4,none⟩ = some (.int .i64 now)) (go_keep) (first | (go_at_call 110; refine HA.out.mono ?_; rintro e w1 ⟨v',rfl,M1⟩; have HM := hid M1; clear M1; have c2' := HM.out.cf.undrew.cell c2 (off_has HO.out _); have c4' := HM.out.cf.undrew.cell c4 (off_has HO.out _)))
 go_wp2
 go_ret
 exact ⟨_,rfl,outMore_undrew HM.out⟩
end Go.Proofs.YtpijkgbafjccaaaGreatDoor
namespace Go.Proofs.YtpijkgbafjccaaaGreatDoor
open Go.RowKit
set_option maxRecDepth 100000
theorem Tryz.sizeParty : (Tryz.prog.info? 211).map (·.size) = some 3 := by kernel_rfl
set_option maxHeartbeats 400000 in
theorem asClient_any (S : ByteArray) (w : World) :
  Calls Tryz.prog 94 #[.string S] w fun e w' => e = .returned (.agg #[.string S,.int .i64 6,.int .i64 1]) ∧ w.grownBy w' none := by
 go_enter Tryz.func94,Tryz.ntmps94
 go_wp2
 exact bodyPost_ret (results_cellA Tryz.results94 _ _ _ w.heap.size rfl _ ((Blk.new w _ 211).load 211 _ Tryz.underlying211 rfl Tryz.sizeParty)) rfl ⟨rfl,World.grownBy_alloc _ _ none⟩
set_option maxHeartbeats 400000 in
theorem asService_any (S : ByteArray) (w : World) :
  Calls Tryz.prog 95 #[.string S] w fun e w' => e = .returned (.agg #[.string S,.int .i64 7,.int .i64 2]) ∧ w.grownBy w' none := by
 go_enter Tryz.func95,Tryz.ntmps95
 go_wp2
 exact bodyPost_ret (results_cellA Tryz.results95 _ _ _ w.heap.size rfl _ ((Blk.new w _ 211).load 211 _ Tryz.underlying211 rfl Tryz.sizeParty)) rfl ⟨rfl,World.grownBy_alloc _ _ none⟩
structure BE.In (e : BE) : Prop where
 number : 1 ≤ e.number ∧ e.number ≤ 4611686018427387904
 life : In64 e.life
 renew : In64 e.renew
 name : e.name.length ≤ 1000
structure HS (hb g base T : Nat) (fv rv : Value) (po pr dp : Option Pl) (J : World → Prop) (exF exJ : Nat → Nat → Prop) (es : List BE) : Prop where
 meth : ∀ W,(method 431 T fv "Find").run Tryz.prog W = .ok (findF T,rv) W
 finds : Finds (findF T) J exF exJ rv es
 hbF : ∀ y,¬ exF hb y
 newF : ∀ b y,base ≤ b → ¬ exF b y
 newJ : ∀ b y,base ≤ b → exJ b y
 poJ : ∀ b y,Pl.has po b y → exJ b y
 prJ : ∀ b y,Pl.has pr b y → exJ b y
 drawJ : exJ g 1
 proofsJ : ∀ y,163 ≤ y → y < 188 → exJ g y
 poH : Off po hb
 prH : Off pr hb
 poG : ∀ j,j < 188 → ¬ Pl.has po g j
 prG : ∀ j,j < 188 → ¬ Pl.has pr g j
 deskF : ∀ y,y < 188 → ¬ exF g y
 hbg : hb ≠ g
 dpF : ∀ p,dp = some p → p.g ≠ g ∧ p.g ≠ hb ∧ p.g < base ∧ ∀ y,¬ exF p.g y ∧ ¬ Pl.has po p.g y ∧ ¬ Pl.has pr p.g y
 gb : g < base
 hbb : hb < base
 bookOk : ∀ e ∈ es,e.In
 sorted : es.Pairwise (fun x y => Op.bytesLess x.name y.name = true)
def exX (po : Option Pl) (exF : Nat → Nat → Prop) (b y : Nat) : Prop := exF b y ∨ Pl.has po b y
theorem find_mem {es : List BE} {l : List UInt8} {e : BE} (h : BE.find es l = some e) : e ∈ es := List.mem_of_find?_eq_some h
theorem find_name {es : List BE} {l : List UInt8} {e : BE} (h : BE.find es l = some e) : e.name = l := by
 have := List.find?_some h
 simpa using this
theorem PairAt.cf {w w' : World} {ex : Nat → Nat → Prop} {b : Nat} {x s : BE} (h : PairAt w b x s) (k : CF w w' ex) (hx : ∀ y,¬ ex b y) : PairAt w' b x s :=
 ⟨k.range h.client (fun _ _ => hx _),k.range h.service (fun _ _ => hx _)⟩
theorem earliest_in {wish a b : Int} (h1 : In64 wish) : In64 (lesser (asked wish) (lesser (sat a) (sat b))) := by
 have ha := sat_in a
 have hb := sat_in b
 unfold In64 at *
 unfold lesser asked
 (repeat' split) <;> omega
structure FX (w W : World) (hb g base T : Nat) (fv ro rr : Value) (po pr dp : Option Pl) (exF : Nat → Nat → Prop) (M : DM) (now : Int) (sb : Nat) (ask : List Value) : Prop where
 hear : Hear W hb g T fv ro rr now
 desk : DeskAt W g 0 dp M
 o : Out W ro po []
 r : Out W rr pr []
 ask : W.rangeAt sb 0 ask
 big : w.heap.size ≤ W.heap.size
 cf : CF w W (exX po exF)
theorem FX.step {w W W' : World} {hb g base T : Nat} {fv rv ro rr : Value} {po pr dp : Option Pl} {J : World → Prop} {exF exJ : Nat → Nat → Prop} {M : DM} {es : List BE} {now : Int} {sb : Nat} {ask : List Value} (h : FX w W hb g base T fv ro rr po pr dp exF M now sb ask) (S : HS hb g base T fv rv po pr dp J exF exJ es) (k : CF W W' (fun b y => exX po exF b y ∨ w.heap.size < b)) (hsb : sb = w.heap.size) (hbase : base ≤ w.heap.size) (hpo : ∀ b y,Pl.has po b y → b < w.heap.size) : FX w W' hb g base T fv ro rr po pr dp exF M now sb ask := by
 have hb1 := S.hbb
 have hg1 := S.gb
 refine ⟨h.hear.cf k ?_,h.desk.cf k ?_ ?_,h.o.cf k (fun _ _ j hj => absurd hj (by simp)),h.r.cf k (fun _ _ j hj => absurd hj (by simp)),k.range h.ask ?_,?_,?_⟩
 ·rintro y ((e | e) | e)
  ·exact S.hbF y e
  ·exact off_has S.poH y e
  ·omega
 ·rintro j _ h2 ((e | e) | e)
  ·exact S.deskF j (by omega) e
  ·exact S.poG j (by omega) e
  ·omega
 ·rintro q hq j hj ((e | e) | e)
  ·exact ((S.dpF q hq).2.2.2 _).1 e
  ·exact ((S.dpF q hq).2.2.2 _).2.1 e
  ·have := (S.dpF q hq).2.2.1; omega
 ·rintro j _ ((e | e) | e)
  ·exact S.newF _ _ (by omega) e
  ·have := hpo _ _ e; omega
  ·omega
 ·exact Nat.le_trans h.big k.size
 ·exact h.cf.trans k (fun i o hi e => by rcases e with e | e; exact e; omega)
structure FXJ (J : World → Prop) (w W : World) (hb g base T : Nat) (fv ro rr : Value) (po pr dp : Option Pl) (exF : Nat → Nat → Prop) (M : DM) (now : Int) (sb : Nat) (ask : List Value) : Prop extends FX w W hb g base T fv ro rr po pr dp exF M now sb ask where
 j : J W
theorem FXJ.step {w W W' : World} {hb g base T : Nat} {fv rv ro rr : Value} {po pr dp : Option Pl} {J : World → Prop} {exF exJ : Nat → Nat → Prop} {M : DM} {es : List BE} {now : Int} {sb : Nat} {ask : List Value} (h : FXJ J w W hb g base T fv ro rr po pr dp exF M now sb ask) (S : HS hb g base T fv rv po pr dp J exF exJ es) (k : CF W W' (fun b y => Pl.has po b y ∨ w.heap.size < b)) (hsb : sb = w.heap.size) (hbase : base ≤ w.heap.size) (hpo : ∀ b y,Pl.has po b y → b < w.heap.size) : FXJ J w W' hb g base T fv ro rr po pr dp exF M now sb ask :=
 ⟨h.toFX.step S (k.mono (fun _ _ _ e => e.elim (fun e => .inl (.inr e)) .inr)) hsb hbase hpo,S.finds.stay _ _ h.j (k.mono (fun b y _ e => e.elim (S.poJ b y) (fun e => S.newJ b y (by omega))))⟩
theorem FXJ.found {w W W' : World} {hb g base T : Nat} {fv rv ro rr : Value} {po pr dp : Option Pl} {J : World → Prop} {exF exJ : Nat → Nat → Prop} {M : DM} {es : List BE} {now : Int} {sb : Nat} {ask : List Value} (h : FXJ J w W hb g base T fv ro rr po pr dp exF M now sb ask) (S : HS hb g base T fv rv po pr dp J exF exJ es) (k : CF W W' exF) (hj : J W') (hsb : sb = w.heap.size) (hbase : base ≤ w.heap.size) (hpo : ∀ b y,Pl.has po b y → b < w.heap.size) : FXJ J w W' hb g base T fv ro rr po pr dp exF M now sb ask :=
 ⟨h.toFX.step S (k.mono (fun _ _ _ e => .inl (.inl e))) hsb hbase hpo,hj⟩
end Go.Proofs.YtpijkgbafjccaaaGreatDoor
namespace Go.Proofs.YtpijkgbafjccaaaGreatDoor
open Go.RowKit
set_option maxRecDepth 100000
theorem pair_in (x y : Option BE) (now : Int) (a b c d : Int) (ha : 0 ≤ a ∧ a ≤ 100) (hb : 0 ≤ b ∧ b ≤ 100) (hc : 0 ≤ c ∧ c ≤ 100) (hd : 0 ≤ d ∧ d ≤ 100) : In64 (pairCode x y now a b c d) := by
 unfold pairCode In64
 cases x with
 | none => show _ ≤ a ∧ a ≤ _; omega
 | some e =>
  cases y with
  | none => show _ ≤ b ∧ b ≤ _; omega
  | some f =>
   simp only []
   (repeat' split) <;> omega
theorem pair_zero {x y : Option BE} {now a b c d : Int} (ha : a ≠ 0) (hb : b ≠ 0) (h : pairCode x y now a b c d = 0) : ∃ e f,x = some e ∧ y = some f := by
 cases x with
 | none => exact absurd h ha
 | some e =>
  cases y with
  | none => exact absurd h hb
  | some f => exact ⟨e,f,rfl,rfl⟩
theorem first_pair {M : DM} {now : Int} {q : FQ} {x y : Option BE} (hx : BE.find M.book q.client = x) (hy : BE.find M.book q.service = y) (h : pairCode x y now 6 7 1 2 ≠ 0) : finishM M now (firstM M now q) = (refusalBox now (pairCode x y now 6 7 1 2),M) := by
 unfold firstM
 rw [hx,hy]
 cases x with
 | none => rfl
 | some e =>
  cases y with
  | none => rfl
  | some f =>
   simp only []
   rw [if_pos h]
   rfl
theorem first_code {M : DM} {now : Int} {q : FQ} {e f : BE} (hx : BE.find M.book q.client = some e) (hy : BE.find M.book q.service = some f) (h : pairCode (some e) (some f) now 6 7 1 2 = 0) (hc : firstCode M.skew now q e f ≠ 0) : finishM M now (firstM M now q) = (refusalBox now (firstCode M.skew now q e f),M) := by
 unfold firstM
 rw [hx,hy]
 simp only []
 rw [if_neg (fun n => n h),if_pos hc]
 rfl
theorem first_ok {M : DM} {now : Int} {q : FQ} {e f : BE} (hx : BE.find M.book q.client = some e) (hy : BE.find M.book q.service = some f) (h : pairCode (some e) (some f) now 6 7 1 2 = 0) (hc : firstCode M.skew now q e f = 0) : finishM M now (firstM M now q) = if M.draws.length < 24 then (refusalBox now 60,M) else (giveBox 11 { firstTK now q e f with session := drawAt M.draws 0 } f q.nonce e.number e.key 3 (drawAt M.draws 1) (drawAt M.draws 2),{ M with draws := M.draws.drop 24 }) := by
 unfold firstM
 rw [hx,hy]
 simp only []
 rw [if_neg (fun n => n h),if_neg (fun n => n hc)]
 rfl
theorem pre_in (skew now : Int) (x : BE) (p : Option (Int × List UInt8)) : In64 (preCode skew now x p) := by
 unfold preCode In64
 cases p with
 | none =>
  simp only []
  split <;> omega
 | some a =>
  simp only []
  cases (openL x.key 1 a.2).bind timeIn with
  | none => simp only []; omega
  | some t => simp only []; (repeat' split) <;> omega
theorem code_pre {skew now : Int} {q : FQ} {e f : BE} (h : preCode skew now e q.pre ≠ 0) : firstCode skew now q e f = preCode skew now e q.pre := by
 unfold firstCode
 rw [if_pos h]
theorem code_opts {skew now : Int} {q : FQ} {e f : BE} (h : preCode skew now e q.pre = 0) (ho : In64 q.opts) (hb : (bits .andNot .i64 q.opts 15 == 0) = false) : firstCode skew now q e f = 13 := by
 unfold firstCode
 rw [andNot15 q.opts ho,decide_eq_false_iff_not] at hb
 rw [if_neg (fun n => n h),if_pos (by omega)]
theorem code_start {skew now : Int} {q : FQ} {e f : BE} (h : preCode skew now e q.pre = 0) (ho : In64 q.opts) (hb : (bits .andNot .i64 q.opts 15 == 0) = true) (hs : startOk now skew q e f = false) : firstCode skew now q e f = 10 := by
 unfold firstCode
 rw [andNot15 q.opts ho,decide_eq_true_eq] at hb
 rw [if_neg (fun n => n h),if_neg (by omega)]
 unfold startOk at hs
 by_cases h8 : bitB q.opts 8 = true
 ·rw [if_pos h8] at hs
  rw [if_pos ⟨h8,fun n => by rw [n.1,n.2] at hs; cases hs⟩]
 ·rw [if_neg h8] at hs
  rw [if_neg (fun n => h8 n.1),if_pos ⟨by simpa using h8,by simpa using hs⟩]
theorem code_end {skew now : Int} {q : FQ} {e f : BE} (h : preCode skew now e q.pre = 0) (ho : In64 q.opts) (hb : (bits .andNot .i64 q.opts 15 == 0) = true) (hs : startOk now skew q e f = true) : firstCode skew now q e f = if firstEnd now q e f ≤ firstStart now q then 11 else 0 := by
 unfold firstCode
 rw [andNot15 q.opts ho,decide_eq_true_eq] at hb
 rw [if_neg (fun n => n h),if_neg (by omega)]
 unfold startOk at hs
 by_cases h8 : bitB q.opts 8 = true
 ·rw [if_pos h8] at hs
  rw [if_neg (fun n => n.2 (by simpa using hs)),if_neg (fun n => by rw [h8] at n; cases n.1)]
 ·rw [if_neg h8] at hs
  rw [if_neg (fun n => h8 n.1),if_neg (fun n => by have := n.2; simp at hs; omega)]
theorem flags4 (q : FQ) (x s : BE) : bitB (flagsM q x s) 4 = (bitB q.opts 4 && (x.has 2 && s.has 2)) := by
 unfold flagsM allowM
 generalize q.pre.isSome = b1
 generalize bitB q.opts 8 = b2
 generalize (bitB q.opts 1 && (x.has 4 && s.has 4)) = b3
 generalize (bitB q.opts 2 && (x.has 8 && s.has 8)) = b4
 generalize (bitB q.opts 4 && (x.has 2 && s.has 2)) = b5
 revert b1 b2 b3 b4 b5
 decide
theorem flags_in (q : FQ) (x s : BE) : In64 (flagsM q x s) := by
 unfold flagsM allowM In64
 (repeat' split) <;> omega
def renM (now : Int) (q : FQ) (x s : BE) : Int := if bitB (flagsM q x s) 4 = true then lesser (asked q.rtime) (lesser (satAdd (firstStart now q) x.renew) (satAdd (firstStart now q) s.renew)) else 0
theorem firstTK_is (now : Int) (q : FQ) (x s : BE) : firstTK now q x s = ⟨flagsM q x s,0,q.client,now,firstStart now q,firstEnd now q x s,renM now q x s⟩ := by
 have h := firstTK_flags now q x s
 unfold firstTK at h ⊢
 simp only [] at h
 rw [h]
 unfold renM moreRenew
 rw [flags4]
 simp only [show bitB 7 4 = true from rfl,Bool.and_eq_true,true_and]
end Go.Proofs.YtpijkgbafjccaaaGreatDoor
namespace Go.Proofs.YtpijkgbafjccaaaGreatDoor
open Go.RowKit
set_option maxRecDepth 100000
theorem desk_many {W : World} {g : Nat} {dp : Option Pl} {M : DM} (h : DeskAt W g 0 dp M) (h24 : 24 ≤ M.draws.length) : ∃ qd,dp = some qd ∧ W.cell? ⟨g,1,none⟩ = some (.slice (some ⟨qd.g,qd.off,none⟩) M.draws.length qd.cap) ∧ M.draws.length ≤ qd.cap ∧ qd.cap ≤ 9223372036854775807 ∧ W.rangeAt qd.g qd.off (M.draws.map U8) ∧ Live W qd.g (qd.off + qd.cap) := by
 obtain ⟨v,hv,ho⟩ := h.draws
 rcases ho with ⟨_,_,h0⟩ | ⟨q,hq,rfl,h1,h2,h3,h4⟩
 ·rw [h0] at h24
  exact absurd h24 (by decide)
 ·unfold maxLen at h2
  exact ⟨q,hq,hv,h1,h2,h4,h3⟩
theorem desk_few {W : World} {g : Nat} {dp : Option Pl} {M : DM} (h : DeskAt W g 0 dp M) : ∃ ao cap,W.cell? ⟨g,1,none⟩ = some (.slice ao M.draws.length cap) := by
 obtain ⟨v,hv,ho⟩ := h.draws
 obtain ⟨ao,cap,rfl,_⟩ := ho.shape
 exact ⟨ao,cap,hv⟩
theorem desk_after {W W' : World} {g rb : Nat} {M : DM} {qd : Pl} {off : Nat} {dp : Option Pl} (h : DeskAt W g 0 dp M) (h24 : 24 ≤ M.draws.length) (hl : M.draws.length ≤ qd.cap) (hcm : qd.cap ≤ 9223372036854775807) (hr : W.rangeAt qd.g qd.off (M.draws.map U8)) (hL : Live W qd.g (qd.off + qd.cap))
  (hc : W'.cell? ⟨g,1,none⟩ = some (.slice (some ⟨qd.g,off,none⟩) (M.draws.length - 24) (qd.cap - 24))) (ho : qd.cap - 24 ≠ 0 → off = qd.off + 24) (ho2 : off ≤ qd.off + 24) (k : CF W W' (fun b y => b = g ∧ y = 1 ∨ b = rb)) (hg : qd.g ≠ g) (hgr : qd.g ≠ rb) (hrb : g ≠ rb) :
  DeskAt W' g 0 (some ⟨qd.g,off,qd.cap - 24⟩) { M with draws := M.draws.drop 24 } := by
 refine ⟨h.live.cf k,k.cell h.skew (fun e => by rcases e with ⟨_,e⟩ | e; exact absurd e (by decide); exact hrb e),⟨_,hc,.inr ⟨_,rfl,?_,?_,?_,?_,?_⟩⟩,h.book.cf k (fun j h1 h2 e => by rcases e with ⟨_,e⟩ | e; omega; exact hrb e),k.range h.proofs (fun j _ e => by rcases e with ⟨_,e⟩ | e; omega; exact hrb e),k.cell h.count (fun e => by rcases e with ⟨_,e⟩ | e; exact absurd e (by decide); exact hrb e),h.few⟩
 ·show Value.slice _ _ _ = Value.slice _ _ _
  rw [List.length_drop]
 ·show (M.draws.drop 24).length ≤ qd.cap - 24
  rw [List.length_drop]
  omega
 ·show qd.cap - 24 ≤ maxLen
  unfold maxLen
  omega
 ·show Live W' qd.g (off + (qd.cap - 24))
  exact (hL.cf k).mono (by omega)
 ·show W'.rangeAt qd.g off ((M.draws.drop 24).map U8)
  by_cases h0 : qd.cap - 24 = 0
  ·have : M.draws.drop 24 = [] := by
    apply List.eq_nil_of_length_eq_zero
    rw [List.length_drop]
    omega
   rw [this]
   intro j v hv
   simp at hv
  ·rw [ho h0]
   intro j v hv
   refine k.cell ?_ (fun e => by rcases e with ⟨e,_⟩ | e; exact hg e; exact hgr e)
   have := hr (24 + j) v (by rw [← hv,List.map_drop,List.getElem?_drop])
   rw [Nat.add_assoc]
   exact this
theorem blk_live {w : World} {b : Nat} {cs : Array Value} (h : Blk w b cs) (n : Nat) (hn : n ≤ cs.size) : Live w b n := by
 obtain ⟨e,h1⟩ := h
 exact ⟨cs,e,h1,hn⟩
end Go.Proofs.YtpijkgbafjccaaaGreatDoor
namespace Go.Proofs.YtpijkgbafjccaaaGreatDoor
open Go.RowKit
set_option maxRecDepth 100000
theorem firstEnd_in (now : Int) (q : FQ) (e f : BE) (h : In64 q.till) : In64 (firstEnd now q e f) := earliest_in h
theorem renM_in (now : Int) (q : FQ) (e f : BE) (h : In64 q.rtime) : In64 (renM now q e f) := by
 unfold renM
 split
 ·exact earliest_in h
 ·exact ⟨by decide,by decide⟩
theorem fits_first {now : Int} {q : FQ} {e f : BE} {es : List BE} {fl rn : Int} {a b c : UInt64} {M : DM} {rp : RP} (hrp : rp = ⟨⟨fl,0,q.client,now,firstStart now q,firstEnd now q e f,rn⟩,q.service,f.number,f.key,0,q.nonce,e.number,e.key,0⟩) (hfl : In64 fl) (hrn : In64 rn) (hq : In64 now ∧ In64 M.skew ∧ In64 q.nonce ∧ In64 q.sFrom ∧ In64 q.till ∧ In64 q.rtime ∧ In64 q.opts) (hxy : BE.find es q.client = some e ∧ BE.find es q.service = some f) (hes : ∀ e ∈ es,e.In) : (rp.drawn a b c).Fits := by
 subst hrp
 have h1 := hes e (find_mem hxy.1)
 have h2 := hes f (find_mem hxy.2)
 have n1 := find_name hxy.1
 have n2 := find_name hxy.2
 have i1 := h1.number
 have i2 := h2.number
 refine ⟨hfl,hq.1,?_,firstEnd_in now q e f hq.2.2.2.2.1,hrn,?_,hq.2.2.1,?_,?_,?_⟩
 ·show In64 (firstStart now q)
  unfold firstStart
  split
  ·exact hq.2.2.2.1
  ·exact hq.1
 ·show In64 f.number
  unfold In64
  omega
 ·show In64 e.number
  unfold In64
  omega
 ·show q.client.length ≤ 1000
  rw [← n1]
  exact h1.name
 ·show q.service.length ≤ 1000
  rw [← n2]
  exact h2.name
theorem reply_first {now : Int} {q : FQ} {e f : BE} {fl rn : Int} {a b c : UInt64} {rp : RP} (hrp : rp = ⟨⟨fl,0,q.client,now,firstStart now q,firstEnd now q e f,rn⟩,q.service,f.number,f.key,0,q.nonce,e.number,e.key,0⟩) (ht : firstTK now q e f = ⟨fl,0,q.client,now,firstStart now q,firstEnd now q e f,rn⟩) (hf : f.name = q.service) : [] ++ (rp.drawn a b c).reply 11 3 = giveBox 11 { firstTK now q e f with session := a } f q.nonce e.number e.key 3 b c := by
 rw [← RP.reply_give,hrp,ht,← hf]
 rfl
end Go.Proofs.YtpijkgbafjccaaaGreatDoor
namespace Go.Proofs.YtpijkgbafjccaaaGreatDoor
open Go.RowKit
set_option maxRecDepth 100000
def admM (M : DM) (now : Int) (q : NQ) : Except Int TK × DM :=
 match nextOpen M now q with
 | .error c => (.error c,M)
 | .ok (t,p) => if proofCode M.skew now M.proofs p ≠ 0 then (.error (proofCode M.skew now M.proofs p),{ M with proofs := proofsNext M.skew now M.proofs p }) else (.ok t,{ M with proofs := proofsNext M.skew now M.proofs p })
theorem next_adm (M : DM) (now : Int) (q : NQ) : nextM M now q = match (admM M now q).1 with
  | .error c => (refusalBox now c,(admM M now q).2)
  | .ok t => finishM (admM M now q).2 now (nextRest (admM M now q).2 now q t) := by
 unfold nextM admM
 cases nextOpen M now q with
 | error c => rfl
 | ok a =>
  obtain ⟨t,p⟩ := a
  simp only []
  by_cases h : proofCode M.skew now M.proofs p ≠ 0
  ·rw [if_pos h,if_pos h]
  ·rw [if_neg h,if_neg h]
theorem tkN_in (l : List UInt8) (j : Nat) : In64 (tkN l j) := by unfold tkN; exact stepN_in _
theorem tkF_in (l : List UInt8) : In64 (tkF l).1 := by unfold tkF; exact stepN_in _
theorem pfN_in (l : List UInt8) (j : Nat) : In64 (pfN l j) := by unfold pfN; exact stepN_in _
theorem tkQ_in (l : List UInt8) : (tkQ l).In := by
 have h0 := tkF_in l
 have h1 := tkN_in l 0
 have h2 := tkN_in l 1
 have h3 := tkN_in l 2
 have h4 := tkN_in l 3
 unfold tkQ
 generalize (tkF l).1 = a0 at *
 generalize tkN l 0 = a1 at *
 generalize tkN l 1 = a2 at *
 generalize tkN l 2 = a3 at *
 generalize tkN l 3 = a4 at *
 exact ⟨h0,h1,h2,h3,h4⟩
theorem pfQ_in (l : List UInt8) : In64 (pfQ l).time := by
 have h0 := pfN_in l 0
 unfold pfQ
 generalize pfN l 0 = a0 at *
 exact h0
theorem adm_self {M : DM} {now : Int} {q : NQ} (h1 : q.tsvc ≠ [116,103,115]) (h2 : selfB q = false) : admM M now q = (.error 36,M) := by
 unfold admM nextOpen
 rw [if_pos ⟨h1,fun n => by
  unfold selfB at h2
  rw [decide_eq_true n.2,Bool.and_true] at h2
  rcases n.1 with e | e <;> rw [e] at h2 <;> simp at h2⟩]
theorem self_ok {q : NQ} (h : q.tsvc = [116,103,115] ∨ selfB q = true) : ¬ (q.tsvc ≠ [116,103,115] ∧ ¬ ((bitB q.opts 16 = true ∨ bitB q.opts 32 = true) ∧ q.tsvc = q.service)) := by
 rintro ⟨h1,h2⟩
 rcases h with h | h
 ·exact h1 h
 ·unfold selfB at h
  simp only [Bool.and_eq_true,Bool.or_eq_true,decide_eq_true_eq] at h
  exact h2 h
theorem adm_none {M : DM} {now : Int} {q : NQ} (h : q.tsvc = [116,103,115] ∨ selfB q = true) (hf : BE.find M.book q.tsvc = none) : admM M now q = (.error 7,M) := by
 unfold admM nextOpen
 rw [if_neg (self_ok h),hf]
theorem adm_key {M : DM} {now : Int} {q : NQ} {e : BE} (h : q.tsvc = [116,103,115] ∨ selfB q = true) (hf : BE.find M.book q.tsvc = some e) (hk : e.keyOf q.tnum = none) : admM M now q = (.error 44,M) := by
 unfold admM nextOpen
 rw [if_neg (self_ok h),hf]
 simp only [hk]
theorem adm_ticket {M : DM} {now : Int} {q : NQ} {e : BE} {key : UInt64} (h : q.tsvc = [116,103,115] ∨ selfB q = true) (hf : BE.find M.book q.tsvc = some e) (hk : e.keyOf q.tnum = some key) (hd : doneB (tkE (openP key 2 q.tsealed)) = false) : admM M now q = (.error 31,M) := by
 unfold admM nextOpen
 rw [if_neg (self_ok h),hf]
 simp only [hk]
 rw [ticket_same,hd]
 rfl
theorem adm_proof {M : DM} {now : Int} {q : NQ} {e : BE} {key : UInt64} (h : q.tsvc = [116,103,115] ∨ selfB q = true) (hf : BE.find M.book q.tsvc = some e) (hk : e.keyOf q.tnum = some key) (hd : doneB (tkE (openP key 2 q.tsealed)) = true) (hp : doneB (pfE (openP (tkQ (openP key 2 q.tsealed)).session 4 q.proof)) = false) : admM M now q = (.error 31,M) := by
 unfold admM nextOpen
 rw [if_neg (self_ok h),hf]
 simp only [hk]
 rw [ticket_same,hd,if_pos rfl]
 simp only []
 rw [proof_same,hp]
 rfl
theorem adm_rest {M : DM} {now : Int} {q : NQ} {e : BE} {key : UInt64} {t : TK} {p : PF} (h : q.tsvc = [116,103,115] ∨ selfB q = true) (hf : BE.find M.book q.tsvc = some e) (hk : e.keyOf q.tnum = some key) (hd : doneB (tkE (openP key 2 q.tsealed)) = true) (ht : tkQ (openP key 2 q.tsealed) = t) (hp : doneB (pfE (openP t.session 4 q.proof)) = true) (hpq : pfQ (openP t.session 4 q.proof) = p) : admM M now q = if p.client ≠ t.client then (.error 36,M) else if M.skew < apartT p.time now then (.error 37,M) else if proofCode M.skew now M.proofs p ≠ 0 then (.error (proofCode M.skew now M.proofs p),{ M with proofs := proofsNext M.skew now M.proofs p }) else (.ok t,{ M with proofs := proofsNext M.skew now M.proofs p }) := by
 unfold admM nextOpen
 rw [if_neg (self_ok h),hf]
 simp only [hk]
 rw [ticket_same,hd,if_pos rfl,ht]
 simp only []
 rw [proof_same,hp,if_pos rfl,hpq]
 simp only []
 by_cases h1 : p.client ≠ t.client
 ·rw [if_pos h1,if_pos h1]
 ·rw [if_neg h1,if_neg h1]
  by_cases h2 : M.skew < apartT p.time now
  ·rw [if_pos h2,if_pos h2]
  ·rw [if_neg h2,if_neg h2]
end Go.Proofs.YtpijkgbafjccaaaGreatDoor
namespace Go.Proofs.YtpijkgbafjccaaaGreatDoor
open Go.RowKit
set_option maxRecDepth 100000
theorem tk_cells (l : List UInt8) : (tkQ l).cells.toArray = #[.int .i64 (tkF l).1,.int .u64 ((tkK l).1.toNat : Int),.string ⟨(tkC l).1.toArray⟩,.int .i64 (tkN l 0),.int .i64 (tkN l 1),.int .i64 (tkN l 2),.int .i64 (tkN l 3)] := by
 unfold tkQ
 generalize (tkF l).1 = a0
 generalize (tkK l).1 = a1
 generalize (tkC l).1 = a2
 generalize tkN l 0 = a3
 generalize tkN l 1 = a4
 generalize tkN l 2 = a5
 generalize tkN l 3 = a6
 rfl
theorem pf_cells (l : List UInt8) : (pfQ l).pcells.toArray = #[.string ⟨(pfA l).1.toArray⟩,.int .i64 (pfN l 0),.int .i64 (pfN l 1)] := by
 unfold pfQ
 generalize (pfA l).1 = a0
 generalize pfN l 0 = a1
 generalize pfN l 1 = a2
 rfl
theorem openTicket_q (rv : Value) (p : Option Pl) (rb : List UInt8) (key : UInt64) (ao : Option Addr) (z : List UInt8) (n cap : Nat) (w : World) (hR : Out w rv p rb) (hn : Hid (z.length = n)) (hcap : n ≤ cap) (hz : At w ao z) (hsep : ∀ b off,ao = some ⟨b,off,none⟩ → ∀ j,j < z.length → ¬ Pl.has p b (off + j)) :
  Calls Tryz.prog 143 #[rv,.int .u64 (key.toNat : Int),.slice ao n cap] w fun e w' => e = .returned (.tuple #[.agg (tkQ (openP key 2 z)).cells.toArray,.bool (doneB (tkE (openP key 2 z)))]) ∧ CF w w' (Pl.has p) := by
 have h := openTicket_any rv p rb key ao z n cap w hR hn hcap hz hsep
 rw [← tk_cells] at h
 exact h
theorem openProof_q (rv : Value) (p : Option Pl) (rb : List UInt8) (key : UInt64) (ao : Option Addr) (z : List UInt8) (n cap : Nat) (w : World) (hR : Out w rv p rb) (hn : Hid (z.length = n)) (hcap : n ≤ cap) (hz : At w ao z) (hsep : ∀ b off,ao = some ⟨b,off,none⟩ → ∀ j,j < z.length → ¬ Pl.has p b (off + j)) :
  Calls Tryz.prog 144 #[rv,.int .u64 (key.toNat : Int),.slice ao n cap] w fun e w' => e = .returned (.tuple #[.agg (pfQ (openP key 4 z)).pcells.toArray,.bool (doneB (pfE (openP key 4 z)))]) ∧ CF w w' (Pl.has p) := by
 have h := openProof_any rv p rb key ao z n cap w hR hn hcap hz hsep
 rw [← pf_cells] at h
 exact h
end Go.Proofs.YtpijkgbafjccaaaGreatDoor
