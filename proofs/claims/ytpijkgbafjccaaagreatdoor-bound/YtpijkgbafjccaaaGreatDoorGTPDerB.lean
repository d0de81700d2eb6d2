/-
  
  
  
  
-/
import Derived.Test.YtpijkgbafjccaaaGreatDoorGTPFindA
import Derived.Deep.CutBlock
namespace Go.Proofs.YtpijkgbafjccaaaGreatDoor
open Go.RowKit
set_option maxRecDepth 100000
theorem blk_seven {w : World} {b : Nat} {v0 v1 v2 v3 v4 v5 v6 : Value} (h : Blk w b #[v0,v1,v2,v3,v4,v5,v6]) : (w.cell? ⟨b,0,none⟩ = some v0 ∧ w.cell? ⟨b,1,none⟩ = some v1 ∧ w.cell? ⟨b,2,none⟩ = some v2 ∧ w.cell? ⟨b,3,none⟩ = some v3 ∧ w.cell? ⟨b,4,none⟩ = some v4 ∧ w.cell? ⟨b,5,none⟩ = some v5 ∧ w.cell? ⟨b,6,none⟩ = some v6) ∧ w.frozen? ⟨b,0,none⟩ = false ∧ w.frozen? ⟨b,1,none⟩ = false ∧ w.frozen? ⟨b,2,none⟩ = false ∧ w.frozen? ⟨b,3,none⟩ = false ∧ w.frozen? ⟨b,4,none⟩ = false ∧ w.frozen? ⟨b,5,none⟩ = false ∧ w.frozen? ⟨b,6,none⟩ = false :=
 ⟨⟨h.cell 0,h.cell 1,h.cell 2,h.cell 3,h.cell 4,h.cell 5,h.cell 6⟩,h.frozen 0,h.frozen 1,h.frozen 2,h.frozen 3,h.frozen 4,h.frozen 5,h.frozen 6⟩
def derE (now : Int) (q : NQ) (old : TK) (x s : BE) : Int := min old.fin (lesser (asked q.till) (lesser (satAdd now x.life) (satAdd now s.life)))
def derR (now : Int) (q : NQ) (old : TK) (x s : BE) : Int := if bitB (derF3 q.opts old x s) 4 = true then min old.renew (lesser (asked q.rtime) (lesser (satAdd now x.renew) (satAdd now s.renew))) else 0
def derM (now : Int) (q : NQ) (old : TK) (x s : BE) : Except Int TK := if derE now q old x s ≤ now then .error 11 else .ok ⟨derF3 q.opts old x s,0,old.client,old.auth,now,derE now q old x s,derR now q old x s⟩
set_option maxHeartbeats 1000000 in
theorem derived_any (pb : Nat) (now : Int) (q : NQ) (v u : Value) (old : TK) (x s : BE) (w : World) (hp : PairAt w pb x s) (hnow : In64 now) (hxl : In64 x.life) (hsl : In64 s.life) (hxr : In64 x.renew) (hsr : In64 s.renew) :
  Calls Tryz.prog 151 #[.pointer (some ⟨pb,0,none⟩),.int .i64 now,.agg (q.cells v u).toArray,.agg old.cells.toArray] w fun e w' => e = .returned (madeV (derM now q old x s)) ∧ w.grownBy w' none := by
 obtain ⟨W0,hW0⟩ : ∃ W,W = (w.alloc (.cells (q.cells v u).toArray 172)).alloc (.cells old.cells.toArray 219) := ⟨_,rfl⟩
 have G0 : w.grownBy W0 none := by rw [hW0]; exact gb_alloc (World.grownBy_alloc w _ none) _
 have RQ : W0.rangeAt w.heap.size 0 (q.cells v u) := by rw [hW0]; exact range_gb (cells_range w (q.cells v u).toArray _) (World.grownBy_alloc _ _ none)
 have RT : W0.rangeAt (w.heap.size + 1) 0 old.cells := by
  have h := cells_range (w.alloc (.cells (q.cells v u).toArray 172)) old.cells.toArray 219
  rw [World.size_alloc] at h
  rw [hW0]
  exact h
 have s0 : W0.heap.size = w.heap.size + 1 + 1 := by rw [hW0]; simp only [World.size_alloc]
 obtain ⟨t8,ht8⟩ : ∃ t,t = W0.heap.size := ⟨_,rfl⟩
 obtain ⟨W1,hW1⟩ : ∃ W,W = W0.alloc (.cells #[.int .i64 0,.int .u64 0,.string ⟨old.client.toArray⟩,.int .i64 old.auth,.int .i64 now,.int .i64 0,.int .i64 0] 219) := ⟨_,rfl⟩
 have B1 : Blk W1 t8 #[.int .i64 0,.int .u64 0,.string ⟨old.client.toArray⟩,.int .i64 old.auth,.int .i64 now,.int .i64 0,.int .i64 0] := by rw [hW1,ht8]; exact Blk.new _ _ _
 have G1 : W0.grownBy W1 none := by rw [hW1]; exact World.grownBy_alloc _ _ none
 have HP : Hid (∀ W,W0.grownBy W none → PairAt W pb x s) := fun W hW => hp.grown (gb_trans G0 hW)
 have HC : Hid (∀ W,W0.grownBy W none → W.cell? ⟨w.heap.size,6,none⟩ = some (.int .i64 q.till) ∧ W.cell? ⟨w.heap.size,7,none⟩ = some (.int .i64 q.rtime) ∧ W.cell? ⟨w.heap.size,8,none⟩ = some (.int .i64 q.opts) ∧ W.cell? ⟨w.heap.size + 1,0,none⟩ = some (.int .i64 old.flags) ∧ W.cell? ⟨w.heap.size + 1,5,none⟩ = some (.int .i64 old.fin) ∧ W.cell? ⟨w.heap.size + 1,6,none⟩ = some (.int .i64 old.renew)) :=
  fun W hW => ⟨hW.cell (RQ 6 _ rfl) (by simp),hW.cell (RQ 7 _ rfl) (by simp),hW.cell (RQ 8 _ rfl) (by simp),hW.cell (RT 0 _ rfl) (by simp),hW.cell (RT 5 _ rfl) (by simp),hW.cell (RT 6 _ rfl) (by simp)⟩
 have r2 : W0.cell? ⟨w.heap.size + 1,2,none⟩ = some (.string ⟨old.client.toArray⟩) := RT 2 _ rfl
 have r3 : W0.cell? ⟨w.heap.size + 1,3,none⟩ = some (.int .i64 old.auth) := RT 3 _ rfl
 have gz := World.grownBy_alloc W0 (.cells noGrant 219) none
 have z2 := gz.cell r2 (by simp)
 have z3 := gz.cell r3 (by simp)
 have HE : Hid (∀ W,W0.grownBy W none → Calls Tryz.prog 98 #[.pointer (some ⟨pb,0,none⟩),.int .i64 now,.int .i64 q.till] W fun r w' => r = .returned (.int .i64 (lesser (asked q.till) (lesser (satAdd now x.life) (satAdd now s.life)))) ∧ ∃ m,w' = W.drewN m) := fun W hW => pend_any pb x s now q.till W (HP.out W hW) hnow hxl hsl
 have HR : Hid (∀ W,W0.grownBy W none → Calls Tryz.prog 101 #[.pointer (some ⟨pb,0,none⟩),.int .i64 now,.int .i64 q.rtime] W fun r w' => r = .returned (.int .i64 (lesser (asked q.rtime) (lesser (satAdd now x.renew) (satAdd now s.renew)))) ∧ ∃ m,w' = W.drewN m) := fun W hW => prenew_any pb x s now q.rtime W (HP.out W hW) hnow hxr hsr
 have HAl : Hid (∀ W,W0.grownBy W none → Calls Tryz.prog 138 #[.pointer (some ⟨pb,0,none⟩),.int .i64 (bits .and .i64 q.opts old.flags)] W fun r w' => r = .returned (.int .i64 (allowM (bits .and .i64 q.opts old.flags) x s)) ∧ W.grownBy w' none) := fun W hW => allowed_any pb x s _ W (HP.out W hW)
 have HD1 : Hid (derE now q old x s = min old.fin (lesser (asked q.till) (lesser (satAdd now x.life) (satAdd now s.life)))) := rfl
 have HD2 : Hid (derR now q old x s = if bitB (derF3 q.opts old x s) 4 = true then min old.renew (lesser (asked q.rtime) (lesser (satAdd now x.renew) (satAdd now s.renew))) else 0) := rfl
 have HF1 : Hid (derF1 q.opts old x s = bits .or .i64 (bits .and .i64 old.flags 448) (allowM (bits .and .i64 q.opts old.flags) x s)) := rfl
 have HF2 : Hid (derF2 q.opts old x s = if bitB q.opts 64 = true then bits .or .i64 (derF1 q.opts old x s) 128 else derF1 q.opts old x s) := rfl
 have HF3 : Hid (derF3 q.opts old x s = if bitB q.opts 128 = true then bits .or .i64 (derF2 q.opts old x s) 256 else derF2 q.opts old x s) := rfl
 have HQ6 := hid (and_one0 q.opts 64 6 (by decide) (by decide))
 have HQ7 := hid (and_one0 q.opts 128 7 (by decide) (by decide))
 have HQ4 := hid (and_one0 (derF3 q.opts old x s) 4 2 (by decide) (by decide))
 unfold derM
 generalize lesser (asked q.till) (lesser (satAdd now x.life) (satAdd now s.life)) = e0 at *
 generalize lesser (asked q.rtime) (lesser (satAdd now x.renew) (satAdd now s.renew)) = e1 at *
 generalize allowM (bits .and .i64 q.opts old.flags) x s = al at *
 generalize derE now q old x s = E at *
 generalize derR now q old x s = R at *
 generalize derF1 q.opts old x s = F1 at *
 generalize derF2 q.opts old x s = F2 at *
 generalize derF3 q.opts old x s = F3 at *
 generalize bitB q.opts 64 = o6 at *
 generalize bitB q.opts 128 = o7 at *
 generalize bitB F3 4 = o4 at *
 obtain ⟨till,htill⟩ : ∃ a,q.till = a := ⟨_,rfl⟩
 obtain ⟨rtime,hrtime⟩ : ∃ a,q.rtime = a := ⟨_,rfl⟩
 obtain ⟨opts,hopts⟩ : ∃ a,q.opts = a := ⟨_,rfl⟩
 rw [htill] at HE
 rw [hrtime] at HR
 rw [hopts] at HAl HQ6 HQ7
 rw [htill,hrtime,hopts] at HC
 obtain ⟨qc,hqc⟩ : ∃ c,(q.cells v u).toArray = c := ⟨_,rfl⟩
 obtain ⟨oc,hoc⟩ : ∃ c,old.cells.toArray = c := ⟨_,rfl⟩
 rw [hqc,hoc] at hW0
 rw [hqc,hoc]
 obtain ⟨mv,hmv⟩ : ∃ m,madeV (if E ≤ now then .error 11 else .ok ⟨F3,0,old.client,old.auth,now,E,R⟩) = m := ⟨_,rfl⟩
 rw [hmv]
 have HMV := hid hmv
 clear hmv
 have n1 : t8 ≠ w.heap.size := by omega
 have n2 : t8 ≠ w.heap.size + 1 := by omega
 have HG0 := hid G0
 have HG1 := hid G1
 have HB1 := hid B1
 have HW0 := hid hW0
 have HW1 := hid hW1
 have HT8 := hid ht8
 have HS0 := hid s0
 clear G0 G1 B1 hW0 hW1 ht8 s0 hp hnow hxl hsl hxr hsr RQ RT gz htill hrtime hopts hqc hoc
 go_enter Tryz.func151,Tryz.ntmps151
 go_wp2_with (rw [← HW0.out]; fail_if_success done)
 rw [← HW1.out,← HT8.out]
 go_cut [9] (fun c wx => c = .int .i64 0 ∧ Blk wx t8 #[.int .i64 0,.int .u64 0,.string ⟨old.client.toArray⟩,.int .i64 old.auth,.int .i64 now,.int .i64 E,.int .i64 0] ∧ W0.grownBy wx none)
 case first =>
  obtain ⟨c6,c7,c8,d0,d5,d6⟩ := HC.out W1 HG1.out
  go_region_held3 (fun w' => w'.cell? ⟨w.heap.size,6,none⟩ = some (.int .i64 till) ∧ w'.cell? ⟨w.heap.size + 1,5,none⟩ = some (.int .i64 old.fin)) (go_keep) (first | (go_at_call 98; refine (HE.out _ (gb_drew HG1.out)).mono ?_; rintro e w1 ⟨rfl,m,hw1⟩; have HB2 : Hid (Blk w1 t8 #[.int .i64 0,.int .u64 0,.string ⟨old.client.toArray⟩,.int .i64 old.auth,.int .i64 now,.int .i64 0,.int .i64 0]) := (by rw [hw1]; exact HB1.out.drew.drewN m); have HG2 : Hid (W0.grownBy w1 none) := (by rw [hw1]; exact gb_drewN (gb_drew HG1.out) m); clear hw1; obtain ⟨c6',c7',c8',d0',d5',d6'⟩ := HC.out w1 HG2.out; obtain ⟨⟨p0,p1,p2,p3,p4,p5,p6⟩,f0,f1,f2,f3,f4,f5,f6⟩ := blk_seven HB2.out))
  go_wp2
  go_meet
  exact ⟨rfl,by rw [HD1.out]; exact HB2.out.set 5 (.int .i64 (min old.fin e0)),gb_store HG2.out (by rw [HT8.out]; exact Nat.le_refl _)⟩
 case rest =>
  obtain ⟨rfl,B2,g2⟩ := hcut
  have HB2 := hid B2
  have HG2 := hid g2
  clear B2 g2
  obtain ⟨c6,c7,c8,d0,d5,d6⟩ := HC.out _ HG2.out
  obtain ⟨⟨p0,p1,p2,p3,p4,p5,p6⟩,f0,f1,f2,f3,f4,f5,f6⟩ := blk_seven HB2.out
  by_cases hE : E ≤ now
  ·have HMV2 : Hid (mv = madeV (.error 11)) := by rw [← HMV.out,if_pos hE]; exact rfl
   go_wp2_with fail
   have B7 := ((((((HB2.out.set 0 (.int .i64 0)).set 1 (.int .u64 0)).set 2 (.string ⟨#[]⟩)).set 3 (.int .i64 0)).set 4 (.int .i64 0)).set 5 (.int .i64 0)).set 6 (.int .i64 0)
   refine bodyPost_ret (results_celltmp Tryz.results151 _ _ _ t8 rfl _ (B7.load 219 _ Tryz.underlying219 rfl Tryz.sizeGrant)) rfl ⟨by rw [HMV2.out]; rfl,?_⟩
   refine gb_trans HG0.out ?_
   repeat refine gb_store ?_ (by rw [HT8.out]; exact Nat.le_refl _)
   exact HG2.out
  ·have HMV2 : Hid (mv = madeV (.ok ⟨F3,0,old.client,old.auth,now,E,R⟩)) := by rw [← HMV.out,if_neg hE]; exact rfl
   clear HMV
   go_wp2_with fail
   go_cut [9] (fun c wx => c = .int .i64 0 ∧ Blk wx t8 #[.int .i64 F1,.int .u64 0,.string ⟨old.client.toArray⟩,.int .i64 old.auth,.int .i64 now,.int .i64 E,.int .i64 0] ∧ W0.grownBy wx none)
   case first =>
    clear p0 p1 p2 p3 p4 p5 p6 f0 f1 f2 f3 f4 f5 f6
    go_region_held3 (fun w' => w'.cell? ⟨w.heap.size,8,none⟩ = some (.int .i64 opts) ∧ w'.cell? ⟨w.heap.size + 1,0,none⟩ = some (.int .i64 old.flags)) (go_keep) (first | (go_at_call 138; refine (HAl.out _ (gb_drew HG2.out)).mono ?_; rintro e w1 ⟨rfl,g1⟩; have HB3 : Hid (Blk w1 t8 #[.int .i64 0,.int .u64 0,.string ⟨old.client.toArray⟩,.int .i64 old.auth,.int .i64 now,.int .i64 E,.int .i64 0]) := HB2.out.drew.grown g1 (by simp); have HG3 : Hid (W0.grownBy w1 none) := gb_trans (gb_drew HG2.out) g1; clear g1; obtain ⟨c6',c7',c8',d0',d5',d6'⟩ := HC.out w1 HG3.out; obtain ⟨⟨p0,p1,p2,p3,p4,p5,p6⟩,f0,f1,f2,f3,f4,f5,f6⟩ := blk_seven HB3.out))
    go_wp2
    go_meet
    exact ⟨rfl,by rw [HF1.out]; exact HB3.out.set 0 (.int .i64 (bits .or .i64 (bits .and .i64 old.flags 448) al)),gb_store HG3.out (by rw [HT8.out]; exact Nat.le_refl _)⟩
   case rest =>
    obtain ⟨rfl,B3,g3⟩ := hcut
    have HB3 := hid B3
    have HG3 := hid g3
    clear B3 g3 HB2 HG2 c6 c7 c8 d0 d5 d6 p0 p1 p2 p3 p4 p5 p6 f0 f1 f2 f3 f4 f5 f6
    obtain ⟨c6,c7,c8,d0,d5,d6⟩ := HC.out _ HG3.out
    obtain ⟨⟨p0,p1,p2,p3,p4,p5,p6⟩,f0,f1,f2,f3,f4,f5,f6⟩ := blk_seven HB3.out
    go_upto_if 45 with fail
    go_cut [9] (fun c wx => c = .int .i64 0 ∧ Blk wx t8 #[.int .i64 F2,.int .u64 0,.string ⟨old.client.toArray⟩,.int .i64 old.auth,.int .i64 now,.int .i64 E,.int .i64 0] ∧ W0.grownBy wx none)
    case first =>
     have hq := HQ6.out
     cases o6 with
     | true =>
      rw [Bool.not_true] at hq
      have hp := beq_eq_false_iff_ne.1 hq
      clear hq
      go_wp2
      go_meet
      exact ⟨rfl,by rw [HF2.out]; exact HB3.out.set 0 (.int .i64 (bits .or .i64 F1 128)),gb_store HG3.out (by rw [HT8.out]; exact Nat.le_refl _)⟩
     | false =>
      rw [Bool.not_false] at hq
      have hp := beq_iff_eq.1 hq
      clear hq
      go_wp2
      go_meet
      exact ⟨rfl,by rw [HF2.out]; exact HB3.out,HG3.out⟩
    case rest =>
     obtain ⟨rfl,B4,g4⟩ := hcut
     have HB4 := hid B4
     have HG4 := hid g4
     clear B4 g4 HB3 HG3 c6 c7 c8 d0 d5 d6 p0 p1 p2 p3 p4 p5 p6 f0 f1 f2 f3 f4 f5 f6
     obtain ⟨c6,c7,c8,d0,d5,d6⟩ := HC.out _ HG4.out
     obtain ⟨⟨p0,p1,p2,p3,p4,p5,p6⟩,f0,f1,f2,f3,f4,f5,f6⟩ := blk_seven HB4.out
     go_upto_if 53 with fail
     go_cut [9] (fun c wx => c = .int .i64 0 ∧ Blk wx t8 #[.int .i64 F3,.int .u64 0,.string ⟨old.client.toArray⟩,.int .i64 old.auth,.int .i64 now,.int .i64 E,.int .i64 0] ∧ W0.grownBy wx none)
     case first =>
      have hq := HQ7.out
      cases o7 with
      | true =>
       rw [Bool.not_true] at hq
       have hp := beq_eq_false_iff_ne.1 hq
       clear hq
       go_wp2
       go_meet
       exact ⟨rfl,by rw [HF3.out]; exact HB4.out.set 0 (.int .i64 (bits .or .i64 F2 256)),gb_store HG4.out (by rw [HT8.out]; exact Nat.le_refl _)⟩
      | false =>
       rw [Bool.not_false] at hq
       have hp := beq_iff_eq.1 hq
       clear hq
       go_wp2
       go_meet
       exact ⟨rfl,by rw [HF3.out]; exact HB4.out,HG4.out⟩
     case rest =>
      obtain ⟨rfl,B5,g5⟩ := hcut
      have HB5 := hid B5
      have HG5 := hid g5
      clear B5 g5 HB4 HG4 c6 c7 c8 d0 d5 d6 p0 p1 p2 p3 p4 p5 p6 f0 f1 f2 f3 f4 f5 f6
      obtain ⟨c6,c7,c8,d0,d5,d6⟩ := HC.out _ HG5.out
      obtain ⟨⟨p0,p1,p2,p3,p4,p5,p6⟩,f0,f1,f2,f3,f4,f5,f6⟩ := blk_seven HB5.out
      go_upto_if 61 with fail
      go_cut [9] (fun c wx => c = .int .i64 0 ∧ Blk wx t8 #[.int .i64 F3,.int .u64 0,.string ⟨old.client.toArray⟩,.int .i64 old.auth,.int .i64 now,.int .i64 E,.int .i64 R] ∧ W0.grownBy wx none)
      case first =>
       have hq := HQ4.out
       cases o4 with
       | true =>
        rw [Bool.not_true] at hq
        have hp := beq_eq_false_iff_ne.1 hq
        clear hq
        go_wp2_with fail
        clear p0 p1 p2 p3 p4 p5 p6 f0 f1 f2 f3 f4 f5 f6
        go_region_held3 (fun w' => w'.cell? ⟨w.heap.size,7,none⟩ = some (.int .i64 rtime) ∧ w'.cell? ⟨w.heap.size + 1,6,none⟩ = some (.int .i64 old.renew)) (go_keep) (first | (go_at_call 101; refine (HR.out _ (gb_drew HG5.out)).mono ?_; rintro e w1 ⟨rfl,m,hw1⟩; have HB6 : Hid (Blk w1 t8 #[.int .i64 F3,.int .u64 0,.string ⟨old.client.toArray⟩,.int .i64 old.auth,.int .i64 now,.int .i64 E,.int .i64 0]) := (by rw [hw1]; exact HB5.out.drew.drewN m); have HG6 : Hid (W0.grownBy w1 none) := (by rw [hw1]; exact gb_drewN (gb_drew HG5.out) m); clear hw1; obtain ⟨c6',c7',c8',d0',d5',d6'⟩ := HC.out w1 HG6.out; obtain ⟨⟨p0,p1,p2,p3,p4,p5,p6⟩,f0,f1,f2,f3,f4,f5,f6⟩ := blk_seven HB6.out))
        go_wp2
        go_meet
        exact ⟨rfl,by rw [HD2.out]; exact HB6.out.set 6 (.int .i64 (min old.renew e1)),gb_store HG6.out (by rw [HT8.out]; exact Nat.le_refl _)⟩
       | false =>
        rw [Bool.not_false] at hq
        have hp := beq_iff_eq.1 hq
        clear hq
        go_wp2
        go_meet
        exact ⟨rfl,by rw [HD2.out]; exact HB5.out,HG5.out⟩
      case rest =>
       obtain ⟨rfl,B6,g6⟩ := hcut
       have HB6 := hid B6
       have HG6 := hid g6
       clear B6 g6 HB5 HG5 c6 c7 c8 d0 d5 d6 p0 p1 p2 p3 p4 p5 p6 f0 f1 f2 f3 f4 f5 f6
       obtain ⟨⟨p0,p1,p2,p3,p4,p5,p6⟩,f0,f1,f2,f3,f4,f5,f6⟩ := blk_seven HB6.out
       go_wp2_with fail
       have B7 := ((((((HB6.out.set 0 (.int .i64 F3)).set 1 (.int .u64 0)).set 2 (.string ⟨old.client.toArray⟩)).set 3 (.int .i64 old.auth)).set 4 (.int .i64 now)).set 5 (.int .i64 E)).set 6 (.int .i64 R)
       refine bodyPost_ret (results_celltmp Tryz.results151 _ _ _ t8 rfl _ (B7.load 219 _ Tryz.underlying219 rfl Tryz.sizeGrant)) rfl ⟨by rw [HMV2.out]; rfl,?_⟩
       refine gb_trans HG0.out ?_
       repeat refine gb_store ?_ (by rw [HT8.out]; exact Nat.le_refl _)
       exact HG6.out
end Go.Proofs.YtpijkgbafjccaaaGreatDoor
namespace Go.Proofs.YtpijkgbafjccaaaGreatDoor
open Go.RowKit
set_option maxRecDepth 100000
theorem wayM_bits (n : Int) : bits .and .i64 n 240 = (if bitB n 16 = true then 16 else 0) + (if bitB n 32 = true then 32 else 0) + (if bitB n 64 = true then 64 else 0) + (if bitB n 128 = true then 128 else 0) := and240 n
theorem and_zero (n : Int) : (bits .and .i64 n 0 == 0) = true := by
 rw [beq_iff_eq]
 refine ext64 (and_in n 0) ⟨by decide,by decide⟩ (fun j hj => ?_)
 rw [bit_and n 0 j hj,bit_zero,Bool.and_false]
set_option maxHeartbeats 400000 in
theorem mayBe_bad (o f : Int) (w : World) (h : (bits .andNot .i64 o 247 == 0) = false) :
  Calls Tryz.prog 107 #[.int .i64 o,.int .i64 f] w fun e w' => e = .returned (.bool false) ∧ w' = w := by
 have hp := beq_eq_false_iff_ne.1 h
 clear h
 go_enter Tryz.func107,Tryz.ntmps107
 go_wp2
 go_ret
 exact ⟨rfl,rfl⟩
set_option maxHeartbeats 400000 in
theorem mayBe_0 (o f : Int) (w : World) (h : (bits .andNot .i64 o 247 == 0) = true) (hw : bits .and .i64 o 240 = 0) :
  Calls Tryz.prog 107 #[.int .i64 o,.int .i64 f] w fun e w' => e = .returned (.bool (true)) ∧ w' = w := by
 have hp := beq_iff_eq.1 h
 clear h
 have HO : Hid (Calls Tryz.prog 147 #[.int .u64 0] w fun e w' => e = .returned (.int .i64 0) ∧ w' = w) := ones_any false false false false w
 have HN := hid (neededFor_any 0 w)
 have HM := hid (neededFor_any 0 w)
 rw [show needM 0 = 0 from rfl] at HN HM
 have HF := hid (and_zero f)
 go_enter Tryz.func107,Tryz.ntmps107
 go_wp2_with (first
  | (go_at_call 147; refine HO.out.mono ?_; clear HO; rintro e w1 ⟨rfl,rfl⟩)
  | (go_at_call 148; refine HN.out.mono ?_; clear HN; rintro e w1 ⟨rfl,rfl⟩)
  | (go_at_call 148; refine HM.out.mono ?_; clear HM; rintro e w1 ⟨rfl,rfl⟩))
 go_wp2
 go_ret
 exact ⟨ret_bool HF.out,rfl⟩
set_option maxHeartbeats 400000 in
theorem mayBe_16 (o f : Int) (w : World) (h : (bits .andNot .i64 o 247 == 0) = true) (hw : bits .and .i64 o 240 = 16) :
  Calls Tryz.prog 107 #[.int .i64 o,.int .i64 f] w fun e w' => e = .returned (.bool (bitB f 4)) ∧ w' = w := by
 have hp := beq_iff_eq.1 h
 clear h
 have HO : Hid (Calls Tryz.prog 147 #[.int .u64 16] w fun e w' => e = .returned (.int .i64 1) ∧ w' = w) := ones_any true false false false w
 have HN := hid (neededFor_any 16 w)
 have HM := hid (neededFor_any 16 w)
 rw [show needM 16 = 4 from rfl] at HN HM
 have HF := hid (and_bit_eq f 4 2 (by decide) (by decide))
 go_enter Tryz.func107,Tryz.ntmps107
 go_wp2_with (first
  | (go_at_call 147; refine HO.out.mono ?_; clear HO; rintro e w1 ⟨rfl,rfl⟩)
  | (go_at_call 148; refine HN.out.mono ?_; clear HN; rintro e w1 ⟨rfl,rfl⟩)
  | (go_at_call 148; refine HM.out.mono ?_; clear HM; rintro e w1 ⟨rfl,rfl⟩))
 go_wp2
 go_ret
 exact ⟨ret_bool HF.out,rfl⟩
set_option maxHeartbeats 400000 in
theorem mayBe_64 (o f : Int) (w : World) (h : (bits .andNot .i64 o 247 == 0) = true) (hw : bits .and .i64 o 240 = 64) :
  Calls Tryz.prog 107 #[.int .i64 o,.int .i64 f] w fun e w' => e = .returned (.bool (bitB f 1)) ∧ w' = w := by
 have hp := beq_iff_eq.1 h
 clear h
 have HO : Hid (Calls Tryz.prog 147 #[.int .u64 64] w fun e w' => e = .returned (.int .i64 1) ∧ w' = w) := ones_any false false true false w
 have HN := hid (neededFor_any 64 w)
 have HM := hid (neededFor_any 64 w)
 rw [show needM 64 = 1 from rfl] at HN HM
 have HF := hid (and_bit_eq f 1 0 (by decide) (by decide))
 go_enter Tryz.func107,Tryz.ntmps107
 go_wp2_with (first
  | (go_at_call 147; refine HO.out.mono ?_; clear HO; rintro e w1 ⟨rfl,rfl⟩)
  | (go_at_call 148; refine HN.out.mono ?_; clear HN; rintro e w1 ⟨rfl,rfl⟩)
  | (go_at_call 148; refine HM.out.mono ?_; clear HM; rintro e w1 ⟨rfl,rfl⟩))
 go_wp2
 go_ret
 exact ⟨ret_bool HF.out,rfl⟩
set_option maxHeartbeats 400000 in
theorem mayBe_128 (o f : Int) (w : World) (h : (bits .andNot .i64 o 247 == 0) = true) (hw : bits .and .i64 o 240 = 128) :
  Calls Tryz.prog 107 #[.int .i64 o,.int .i64 f] w fun e w' => e = .returned (.bool (bitB f 2)) ∧ w' = w := by
 have hp := beq_iff_eq.1 h
 clear h
 have HO : Hid (Calls Tryz.prog 147 #[.int .u64 128] w fun e w' => e = .returned (.int .i64 1) ∧ w' = w) := ones_any false false false true w
 have HN := hid (neededFor_any 128 w)
 have HM := hid (neededFor_any 128 w)
 rw [show needM 128 = 2 from rfl] at HN HM
 have HF := hid (and_bit_eq f 2 1 (by decide) (by decide))
 go_enter Tryz.func107,Tryz.ntmps107
 go_wp2_with (first
  | (go_at_call 147; refine HO.out.mono ?_; clear HO; rintro e w1 ⟨rfl,rfl⟩)
  | (go_at_call 148; refine HN.out.mono ?_; clear HN; rintro e w1 ⟨rfl,rfl⟩)
  | (go_at_call 148; refine HM.out.mono ?_; clear HM; rintro e w1 ⟨rfl,rfl⟩))
 go_wp2
 go_ret
 exact ⟨ret_bool HF.out,rfl⟩
set_option maxHeartbeats 400000 in
theorem mayBe_32 (o f : Int) (w : World) (h : (bits .andNot .i64 o 247 == 0) = true) (hw : bits .and .i64 o 240 = 32) :
  Calls Tryz.prog 107 #[.int .i64 o,.int .i64 f] w fun e w' => e = .returned (.bool ((bits .and .i64 o 7 == 0) && bitB f 16)) ∧ w' = w := by
 have hp := beq_iff_eq.1 h
 clear h
 have HO : Hid (Calls Tryz.prog 147 #[.int .u64 32] w fun e w' => e = .returned (.int .i64 1) ∧ w' = w) := ones_any false true false false w
 have HN := hid (neededFor_any 32 w)
 have HM := hid (neededFor_any 32 w)
 rw [show needM 32 = 16 from rfl] at HN HM
 have HF := hid (and_bit_eq f 16 4 (by decide) (by decide))
 by_cases h7 : bits .and .i64 o 7 = 0
 ·rw [h7]
  go_enter Tryz.func107,Tryz.ntmps107
  go_wp2_with (first
   | (go_at_call 147; refine HO.out.mono ?_; clear HO; rintro e w1 ⟨rfl,rfl⟩)
   | (go_at_call 148; refine HN.out.mono ?_; clear HN; rintro e w1 ⟨rfl,rfl⟩)
   | (go_at_call 148; refine HM.out.mono ?_; clear HM; rintro e w1 ⟨rfl,rfl⟩))
  go_wp2
  go_ret
  exact ⟨ret_bool HF.out,rfl⟩
 ·rw [beq_eq_false_iff_ne.2 h7,Bool.false_and]
  go_enter Tryz.func107,Tryz.ntmps107
  go_wp2_with (first
   | (go_at_call 147; refine HO.out.mono ?_; clear HO; rintro e w1 ⟨rfl,rfl⟩))
  go_wp2
  go_ret
  exact ⟨rfl,rfl⟩
set_option maxHeartbeats 400000 in
theorem mayBe_many (o f : Int) (b4 b5 b6 b7 : Bool) (w : World) (h : (bits .andNot .i64 o 247 == 0) = true) (hw : bits .and .i64 o 240 = (if b4 = true then 16 else 0) + (if b5 = true then 32 else 0) + (if b6 = true then 64 else 0) + (if b7 = true then 128 else 0)) (hm : 1 < (if b4 = true then 1 else 0) + (if b5 = true then 1 else 0) + (if b6 = true then 1 else 0) + (if b7 = true then (1 : Int) else 0)) :
  Calls Tryz.prog 107 #[.int .i64 o,.int .i64 f] w fun e w' => e = .returned (.bool false) ∧ w' = w := by
 have hp := beq_iff_eq.1 h
 clear h
 have HO := hid (ones_any b4 b5 b6 b7 w)
 obtain ⟨c,hc⟩ : ∃ c,(if b4 = true then 1 else 0) + (if b5 = true then 1 else 0) + (if b6 = true then 1 else 0) + (if b7 = true then (1 : Int) else 0) = c := ⟨_,rfl⟩
 have hv : 0 ≤ (if b4 = true then (16 : Int) else 0) + (if b5 = true then 32 else 0) + (if b6 = true then 64 else 0) + (if b7 = true then 128 else 0) ∧ (if b4 = true then (16 : Int) else 0) + (if b5 = true then 32 else 0) + (if b6 = true then 64 else 0) + (if b7 = true then 128 else 0) ≤ 240 := by
  cases b4 <;> cases b5 <;> cases b6 <;> cases b7 <;> decide
 rw [hc] at HO hm
 generalize (if b4 = true then (16 : Int) else 0) + (if b5 = true then 32 else 0) + (if b6 = true then 64 else 0) + (if b7 = true then 128 else 0) = v at *
 clear hc
 obtain ⟨hv0,hv1⟩ := hv
 go_enter Tryz.func107,Tryz.ntmps107
 go_wp2_with (first
  | (go_at_call 147; refine HO.out.mono ?_; clear HO; rintro e w1 ⟨rfl,rfl⟩))
 go_wp2
 go_ret
 exact ⟨rfl,rfl⟩
theorem deskMay_any (o f : Int) (w : World) (ho : In64 o) :
  Calls Tryz.prog 107 #[.int .i64 o,.int .i64 f] w fun e w' => e = .returned (.bool (optsOk o f)) ∧ w' = w := by
 have hA := andNot247 o ho
 by_cases hg : 0 ≤ o ∧ o < 256 ∧ bitB o 8 = false
 ·rw [decide_eq_true hg] at hA
  rw [mayM_is o f hg]
  have hw := wayM_bits o
  by_cases hm : 1 < (if bitB o 16 = true then 1 else 0) + (if bitB o 32 = true then 1 else 0) + (if bitB o 64 = true then 1 else 0) + (if bitB o 128 = true then (1 : Int) else 0)
  ·rw [mayM,if_pos hm]
   exact mayBe_many o f _ _ _ _ w hA hw hm
  ·rw [mayM,if_neg hm]
   generalize bitB o 16 = b4 at *
   generalize bitB o 32 = b5 at *
   generalize bitB o 64 = b6 at *
   generalize bitB o 128 = b7 at *
   cases b4 with
   | true =>
    cases b5 with
    | true => exact absurd (by cases b6 <;> cases b7 <;> decide) hm
    | false =>
     cases b6 with
     | true => exact absurd (by cases b7 <;> decide) hm
     | false =>
      cases b7 with
      | true => exact absurd (by decide) hm
      | false => exact mayBe_16 o f w hA hw
   | false =>
    cases b5 with
    | true =>
     cases b6 with
     | true => exact absurd (by cases b7 <;> decide) hm
     | false =>
      cases b7 with
      | true => exact absurd (by decide) hm
      | false => exact mayBe_32 o f w hA hw
    | false =>
     cases b6 with
     | true =>
      cases b7 with
      | true => exact absurd (by decide) hm
      | false => exact mayBe_64 o f w hA hw
     | false =>
      cases b7 with
      | true => exact mayBe_128 o f w hA hw
      | false => exact mayBe_0 o f w hA hw
 ·rw [decide_eq_false hg] at hA
  rw [optsOk_bad o f hg]
  exact mayBe_bad o f w hA
end Go.Proofs.YtpijkgbafjccaaaGreatDoor
namespace Go.Proofs.YtpijkgbafjccaaaGreatDoor
open Go.RowKit
set_option maxRecDepth 100000
theorem madeV_seven (r : Except Int TK) : ∃ m0 m1 m2 m3 m4 m5 m6 m7,madeV r = .tuple #[.agg #[.int .i64 m0,.int .u64 m1,.string m2,.int .i64 m3,.int .i64 m4,.int .i64 m5,.int .i64 m6],.int .i64 m7] := by
 cases r with
 | error c => exact ⟨_,_,_,_,_,_,_,_,rfl⟩
 | ok t => exact ⟨_,_,_,_,_,_,_,_,rfl⟩
def grantM (now : Int) (q : NQ) (old : TK) (x s : BE) : Except Int TK := if wayM q.opts = 32 then validM now old else if wayM q.opts = 16 then renewM now old else derM now q old x s
structure TK.In (t : TK) : Prop where
 flags : In64 t.flags
 auth : In64 t.auth
 start : In64 t.start
 fin : In64 t.fin
 renew : In64 t.renew
set_option maxHeartbeats 1000000 in
theorem grant_any (pb : Nat) (now : Int) (q : NQ) (v u : Value) (old : TK) (x s : BE) (w : World) (hp : PairAt w pb x s) (hnow : In64 now) (hxl : In64 x.life) (hsl : In64 s.life) (hxr : In64 x.renew) (hsr : In64 s.renew) (ho : old.In) :
  Calls Tryz.prog 108 #[.pointer (some ⟨pb,0,none⟩),.int .i64 now,.agg (q.cells v u).toArray,.agg old.cells.toArray] w fun e w' => e = .returned (madeV (grantM now q old x s)) ∧ w.grownBy w' none := by
 obtain ⟨W0,hW0⟩ : ∃ W,W = (w.alloc (.cells (q.cells v u).toArray 172)).alloc (.cells old.cells.toArray 219) := ⟨_,rfl⟩
 have G0 : w.grownBy W0 none := by rw [hW0]; exact gb_alloc (World.grownBy_alloc w _ none) _
 have RQ : W0.rangeAt w.heap.size 0 (q.cells v u) := by rw [hW0]; exact range_gb (cells_range w (q.cells v u).toArray _) (World.grownBy_alloc _ _ none)
 have RT : W0.rangeAt (w.heap.size + 1) 0 old.cells := by
  have h := cells_range (w.alloc (.cells (q.cells v u).toArray 172)) old.cells.toArray 219
  rw [World.size_alloc] at h
  rw [hW0]
  exact h
 have s0 : W0.heap.size = w.heap.size + 1 + 1 := by rw [hW0]; simp only [World.size_alloc]
 obtain ⟨W1,hW1⟩ : ∃ W,W = W0.alloc (.cells noGrant 219) := ⟨_,rfl⟩
 have B1 : Blk W1 (w.heap.size + 1 + 1) noGrant := by rw [hW1,← s0]; exact Blk.new _ _ _
 have G1 : W0.grownBy W1 none := by rw [hW1]; exact World.grownBy_alloc _ _ none
 have c8 := G1.cell (RQ 8 (.int .i64 q.opts) rfl) (by simp)
 have RQ1 := range_gb RQ G1
 have RT1 := range_gb RT G1
 have hp1 := hp.grown (gb_trans G0 G1)
 have HG0 := hid G0
 have HG1 := hid G1
 have HB1 := hid B1
 have HT8 : Hid (w.heap.size + 1 + 1 = W0.heap.size) := s0.symm
 rw [hW0] at hW1
 have HW1 := hid hW1
 unfold grantM
 rw [← and240]
 have e0 := RT1 0 _ rfl
 have e1 := RT1 1 _ rfl
 have e2 := RT1 2 _ rfl
 have e3 := RT1 3 _ rfl
 have e4 := RT1 4 _ rfl
 have e5 := RT1 5 _ rfl
 have e6 := RT1 6 _ rfl
 by_cases h32 : bits .and .i64 q.opts 240 = 32
 ·rw [if_pos h32]
  have HV := hid (validated_any now old W1 ho.flags)
  obtain ⟨m0,m1,m2,m3,m4,m5,m6,m7,hm⟩ := madeV_seven (validM now old)
  rw [hm] at HV
  have Hm := hid hm
  clear hm G0 G1 B1 hW0 hW1 RQ RT s0 hp hnow hxl hsl hxr hsr ho RQ1 RT1 hp1
  go_enter Tryz.func108,Tryz.ntmps108
  go_wp2_with (first
   | (rw [← HW1.out]; fail_if_success done)
   | (go_at_call 149; refine HV.out.mono ?_; rintro e w1 ⟨rfl,g1⟩; have HB2 : Hid (Blk w1 (w.heap.size + 1 + 1) noGrant) := HB1.out.grown g1 (by simp); have HG2 := hid (gb_trans HG1.out g1); clear g1; obtain ⟨⟨p0,p1,p2,p3,p4,p5,p6⟩,f0,f1,f2,f3,f4,f5,f6⟩ := blk_seven HB2.out))
  have B7 := ((((((HB2.out.set 0 (.int .i64 m0)).set 1 (.int .u64 m1)).set 2 (.string m2)).set 3 (.int .i64 m3)).set 4 (.int .i64 m4)).set 5 (.int .i64 m5)).set 6 (.int .i64 m6)
  refine bodyPost_ret (results_celltmp Tryz.results108 _ _ _ (w.heap.size + 1 + 1) rfl _ (B7.load 219 _ Tryz.underlying219 rfl Tryz.sizeGrant)) rfl ⟨by rw [Hm.out]; rfl,?_⟩
  refine gb_trans HG0.out ?_
  repeat refine gb_store ?_ (by rw [HT8.out]; exact Nat.le_refl _)
  exact HG2.out
 ·rw [if_neg h32]
  have b32 : (bits .and .i64 q.opts 240 == 32) = false := beq_eq_false_iff_ne.2 h32
  by_cases h16 : bits .and .i64 q.opts 240 = 16
  ·rw [if_pos h16]
   have HV := hid (renewed_any now old W1 hnow ho.start ho.fin)
   obtain ⟨m0,m1,m2,m3,m4,m5,m6,m7,hm⟩ := madeV_seven (renewM now old)
   rw [hm] at HV
   have Hm := hid hm
   clear hm G0 G1 B1 hW0 hW1 RQ RT s0 hp hnow hxl hsl hxr hsr ho RQ1 RT1 hp1
   go_enter Tryz.func108,Tryz.ntmps108
   go_wp2_with (first
    | (rw [← HW1.out]; fail_if_success done)
    | (go_at_call 150; refine HV.out.mono ?_; rintro e w1 ⟨rfl,g1⟩; have HB2 : Hid (Blk w1 (w.heap.size + 1 + 1) noGrant) := HB1.out.grown g1 (by simp); have HG2 := hid (gb_trans HG1.out g1); clear g1; obtain ⟨⟨p0,p1,p2,p3,p4,p5,p6⟩,f0,f1,f2,f3,f4,f5,f6⟩ := blk_seven HB2.out))
   have B7 := ((((((HB2.out.set 0 (.int .i64 m0)).set 1 (.int .u64 m1)).set 2 (.string m2)).set 3 (.int .i64 m3)).set 4 (.int .i64 m4)).set 5 (.int .i64 m5)).set 6 (.int .i64 m6)
   refine bodyPost_ret (results_celltmp Tryz.results108 _ _ _ (w.heap.size + 1 + 1) rfl _ (B7.load 219 _ Tryz.underlying219 rfl Tryz.sizeGrant)) rfl ⟨by rw [Hm.out]; rfl,?_⟩
   refine gb_trans HG0.out ?_
   repeat refine gb_store ?_ (by rw [HT8.out]; exact Nat.le_refl _)
   exact HG2.out
  ·rw [if_neg h16]
   have b16 : (bits .and .i64 q.opts 240 == 16) = false := beq_eq_false_iff_ne.2 h16
   have HV := hid (derived_any pb now q v u old x s W1 hp1 hnow hxl hsl hxr hsr)
   obtain ⟨m0,m1,m2,m3,m4,m5,m6,m7,hm⟩ := madeV_seven (derM now q old x s)
   rw [hm] at HV
   have Hm := hid hm
   have k0 := RQ1 0 _ rfl
   have k1 := RQ1 1 _ rfl
   have k2 := RQ1 2 _ rfl
   have k3 := RQ1 3 _ rfl
   have k4 := RQ1 4 _ rfl
   have k5 := RQ1 5 _ rfl
   have k6 := RQ1 6 _ rfl
   have k7 := RQ1 7 _ rfl
   have k8 := RQ1 8 _ rfl
   clear hm G0 G1 B1 hW0 hW1 RQ RT s0 hp hnow hxl hsl hxr hsr ho RQ1 RT1 hp1
   go_enter Tryz.func108,Tryz.ntmps108
   go_wp2_with (first
    | (rw [← HW1.out]; fail_if_success done)
    | (go_at_call 151; refine HV.out.mono ?_; rintro e w1 ⟨rfl,g1⟩; have HB2 : Hid (Blk w1 (w.heap.size + 1 + 1) noGrant) := HB1.out.grown g1 (by simp); have HG2 := hid (gb_trans HG1.out g1); clear g1; obtain ⟨⟨p0,p1,p2,p3,p4,p5,p6⟩,f0,f1,f2,f3,f4,f5,f6⟩ := blk_seven HB2.out))
   have B7 := ((((((HB2.out.set 0 (.int .i64 m0)).set 1 (.int .u64 m1)).set 2 (.string m2)).set 3 (.int .i64 m3)).set 4 (.int .i64 m4)).set 5 (.int .i64 m5)).set 6 (.int .i64 m6)
   refine bodyPost_ret (results_celltmp Tryz.results108 _ _ _ (w.heap.size + 1 + 1) rfl _ (B7.load 219 _ Tryz.underlying219 rfl Tryz.sizeGrant)) rfl ⟨by rw [Hm.out]; rfl,?_⟩
   refine gb_trans HG0.out ?_
   repeat refine gb_store ?_ (by rw [HT8.out]; exact Nat.le_refl _)
   exact HG2.out
end Go.Proofs.YtpijkgbafjccaaaGreatDoor
namespace Go.Proofs.YtpijkgbafjccaaaGreatDoor
open Go.RowKit
set_option maxRecDepth 100000
def RP.drawn (r : RP) (a b c : UInt64) : RP := { r with t := { r.t with session := a },tdraw := b,pdraw := c }
theorem rp_drawn {w : World} {rb : Nat} {r : RP} (h : RpAt w rb r) (a b c : UInt64) : RpAt (((w.setCell ⟨rb,1,none⟩ (.int .u64 (a.toNat : Int))).setCell ⟨rb,10,none⟩ (.int .u64 (b.toNat : Int))).setCell ⟨rb,14,none⟩ (.int .u64 (c.toNat : Int))) rb (r.drawn a b c) := by
 intro i v hv
 have h14 := h.at 14 _ rfl
 have h10 := h.at 10 _ rfl
 have h1 := h.at 1 _ rfl
 rw [Nat.zero_add]
 by_cases e14 : i = 14
 ·subst e14
  obtain rfl : Value.int .u64 (c.toNat : Int) = v := by simpa [RP.cells,RP.drawn] using hv
  exact set_same _ (set_other _ (set_other _ h14 (by decide)) (by decide))
 by_cases e10 : i = 10
 ·subst e10
  obtain rfl : Value.int .u64 (b.toNat : Int) = v := by simpa [RP.cells,RP.drawn] using hv
  exact set_other _ (set_same _ (set_other _ h10 (by decide))) (by decide)
 by_cases e1 : i = 1
 ·subst e1
  obtain rfl : Value.int .u64 (a.toNat : Int) = v := by simpa [RP.cells,RP.drawn] using hv
  exact set_other _ (set_other _ (set_same _ h1) (by decide)) (by decide)
 have h0 : r.cells[i]? = some v := by
  rw [← hv]
  rcases i with _ | _ | _ | _ | _ | _ | _ | _ | _ | _ | _ | _ | _ | _ | _ | i
  all_goals first | rfl | (exfalso; omega)
 have := h.at i v h0
 exact set_other _ (set_other _ (set_other _ this (fun e => e1 e.symm)) (fun e => e10 e.symm)) (fun e => e14 e.symm)
set_option maxHeartbeats 1000000 in
theorem draw_no (hb g rb n cap : Nat) (ao : Option Addr) (r : RP) (w : World) (c3 : w.cell? ⟨hb,3,none⟩ = some (.pointer (some ⟨g,0,none⟩))) (hn : n < 24) (hc : w.cell? ⟨g,1,none⟩ = some (.slice ao n cap)) (hr : RpAt w rb r) (hl : Live w rb 15) :
  Calls Tryz.prog 102 #[.pointer (some ⟨hb,0,none⟩),.pointer (some ⟨rb,0,none⟩)] w fun e w' => e = .returned (.bool false) ∧ CF w w' (fun b _ => b = rb) := by
 obtain ⟨W0,hW0⟩ : ∃ W,W = w.alloc (.cells #[.int .u64 0,.int .u64 0,.int .u64 0] 260) := ⟨_,rfl⟩
 have G0 : w.grownBy W0 none := by rw [hW0]; exact World.grownBy_alloc w _ none
 have R0 : W0.rangeAt w.heap.size 0 [.int .u64 0,.int .u64 0,.int .u64 0] := by rw [hW0]; exact cells_range w #[.int .u64 0,.int .u64 0,.int .u64 0] _
 have HF := hid (fun k => fill_no g 1 n cap w.heap.size ao (W0.drewN k) hn ((gb_drewN G0 k).cell hc (by simp)))
 have hne : w.heap.size ≠ rb := fun e => by have := hl.lt; omega
 have a0 : W0.cell? ⟨w.heap.size,0,none⟩ = some (.int .u64 0) := R0 0 _ rfl
 have a1 : W0.cell? ⟨w.heap.size,1,none⟩ = some (.int .u64 0) := R0 1 _ rfl
 have a2 : W0.cell? ⟨w.heap.size,2,none⟩ = some (.int .u64 0) := R0 2 _ rfl
 have k3 := G0.cell c3 (by simp)
 have q1 := G0.cell (hr.at 1 _ rfl) (by simp)
 have q10 := G0.cell (hr.at 10 _ rfl) (by simp)
 have q14 := G0.cell (hr.at 14 _ rfl) (by simp)
 have f1 := (hl.grown G0).frozen 1
 have f10 := (hl.grown G0).frozen 10
 have f14 := (hl.grown G0).frozen 14
 have HG := hid G0
 have HW0 := hid hW0
 clear G0 hW0 R0 hn hr hl hc c3
 go_enter Tryz.func102,Tryz.ntmps102
 go_wp2_with (first | (rw [← HW0.out]; fail_if_success done))
 go_quiet (first | (go_at_call 139; refine (HF.out _).mono ?_; rintro e w1 ⟨rfl,rfl⟩; exact ⟨rfl,_,rfl⟩))
 go_wp2
 go_ret
 refine ⟨rfl,?_⟩
 repeat refine CF.setCell ?_ _ _ _ (fun _ => rfl)
 exact CF.of_gb (gb_drewN HG.out _) _
set_option maxHeartbeats 1000000 in
theorem draw_yes (hb g rb : Nat) (q : Pl) (ds : List UInt8) (n : Nat) (r : RP) (w : World) (c3 : w.cell? ⟨hb,3,none⟩ = some (.pointer (some ⟨g,0,none⟩))) (hn : Hid (ds.length = n)) (h24 : 24 ≤ n) (hnc : n ≤ q.cap) (hcm : q.cap ≤ 9223372036854775807) (hc : w.cell? ⟨g,1,none⟩ = some (.slice (some ⟨q.g,q.off,none⟩) n q.cap)) (hLg : Live w g 188) (hd : w.rangeAt q.g q.off (ds.map U8)) (hqg : q.g ≠ g) (hqlt : q.g < w.heap.size) (hr : RpAt w rb r) (hl : Live w rb 15) (hgr : g ≠ rb) (hhr : hb ≠ rb) (hhg : hb ≠ g) :
  Calls Tryz.prog 102 #[.pointer (some ⟨hb,0,none⟩),.pointer (some ⟨rb,0,none⟩)] w fun e w' => e = .returned (.bool true) ∧ RpAt w' rb (r.drawn (drawAt ds 0) (drawAt ds 1) (drawAt ds 2)) ∧ (∃ off,w'.cell? ⟨g,1,none⟩ = some (.slice (some ⟨q.g,off,none⟩) (n - 24) (q.cap - 24)) ∧ (q.cap - 24 ≠ 0 → off = q.off + 24) ∧ off ≤ q.off + 24) ∧ CF w w' (fun b y => b = g ∧ y = 1 ∨ b = rb) := by
 obtain ⟨W0,hW0⟩ : ∃ W,W = w.alloc (.cells #[.int .u64 0,.int .u64 0,.int .u64 0] 260) := ⟨_,rfl⟩
 have G0 : w.grownBy W0 none := by rw [hW0]; exact World.grownBy_alloc w _ none
 have L0 : Live W0 w.heap.size 3 := by rw [hW0]; exact Live.new w #[.int .u64 0,.int .u64 0,.int .u64 0] _
 have hgl := hLg.lt
 have hrl := hl.lt
 have HF := hid (fill_yes g 1 w.heap.size q ds n W0.drew hn h24 hnc hcm ((gb_drew G0).cell hc (by simp)) ((hLg.grown (gb_drew G0)).mono (by omega)) (L0.grown (gb_drew (World.grownBy.refl _ _))) (range_gb hd (gb_drew G0)) (by omega) hqg (by omega))
 have hne : w.heap.size ≠ rb := fun e => by omega
 have k3 := G0.cell c3 (by simp)
 have HRP := hid (hr.grown G0)
 have HL := hid (hl.grown G0)
 have hbl : hb < w.heap.size := cell_block c3
 have HH : Hid (hb ≠ w.heap.size ∧ g ≠ w.heap.size ∧ g ≠ rb ∧ hb ≠ rb ∧ hb ≠ g) := ⟨by omega,by omega,hgr,hhr,hhg⟩
 have HG := hid G0
 have HW0 := hid hW0
 clear G0 hW0 L0 hn h24 hnc hcm hc hLg hd hqg hqlt hr hl hgr hhr hhg hgl hrl hbl c3
 go_enter Tryz.func102,Tryz.ntmps102
 go_wp2_with (first | (rw [← HW0.out]; fail_if_success done))
 go_region_held3 (fun w' => w'.cell? ⟨hb,3,none⟩ = some (.pointer (some ⟨g,0,none⟩))) (go_keep) (first | (go_at_call 139; refine HF.out.mono ?_; rintro e w1 ⟨rfl,ho,h3,C1⟩; have HO1 := hid ho; have HC1 := hid C1.undrew; have a0 := h3 0 (by decide); have a1 := h3 1 (by decide); have a2 := h3 2 (by decide); clear ho C1 h3; have k3' := HC1.out.cell k3 (fun e => by rcases e with e | e; exact HH.out.2.2.2.2 e.1; exact HH.out.1 e)))
 have C1 := HC1.out
 have HR1 : Hid (RpAt w1 rb r) := fun i v hv => C1.cell (HRP.out i v hv) (fun e => by rcases e with e | e; exact HH.out.2.2.1 e.1.symm; exact hne e.symm)
 have q1 := HR1.out.at 1 _ rfl
 have q10 := HR1.out.at 10 _ rfl
 have q14 := HR1.out.at 14 _ rfl
 have hl1 := HL.out.cf C1
 have f1 := hl1.frozen 1
 have f10 := hl1.frozen 10
 have f14 := hl1.frozen 14
 have hne' : rb ≠ w.heap.size := fun e => hne e.symm
 clear C1 hl1
 go_wp2
 go_ret
 refine ⟨rfl,?_,?_,?_⟩
 ·have := HR1.out
  exact rp_drawn this _ _ _
 ·obtain ⟨off,h1,h2,h3⟩ := HO1.out
  refine ⟨off,?_,h2,h3⟩
  have hgr := HH.out.2.2.1
  rw [World.cell?_setCell_other _ _ _ _ (fun e => hgr (by injection e with e; exact e.symm)),World.cell?_setCell_other _ _ _ _ (fun e => hgr (by injection e with e; exact e.symm)),World.cell?_setCell_other _ _ _ _ (fun e => hgr (by injection e with e; exact e.symm))]
  exact h1
 ·repeat refine CF.setCell ?_ _ _ _ (fun _ => .inr rfl)
  exact (CF.before HG.out HC1.out).mono (fun b _ hlt e => by rcases e with e | e; exact .inl e; omega)
end Go.Proofs.YtpijkgbafjccaaaGreatDoor
