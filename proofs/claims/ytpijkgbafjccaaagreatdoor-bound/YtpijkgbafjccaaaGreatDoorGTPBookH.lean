/-
  
-/
import Derived.Test.YtpijkgbafjccaaaGreatDoorGTPBookC
import Derived.Test.YtpijkgbafjccaaaGreatDoorGTOwn
import Derived.Test.YtpijkgbafjccaaaGreatDoorGTSep
import Derived.Deep.OwnRows
namespace Go.Proofs.YtpijkgbafjccaaaGreatDoor
open Go.RowKit
set_option maxRecDepth 100000
theorem Tryz.makeStr : (Tryz.prog.info? 9).map (fun i => (i.zero,i.size,i.bytes)) = some (some (.string ⟨#[]⟩),1,16) := by kernel_rfl
theorem Tryz.makeInt : (Tryz.prog.info? 3).map (fun i => (i.zero,i.size,i.bytes)) = some (some (.int .i64 0),1,8) := by kernel_rfl
theorem made_list (z : Value) (n : Nat) : (madeCells #[z] n).toList = List.replicate n z := by
 refine List.ext_getElem? fun i => ?_
 simp only [madeCells,Array.toList_map,Array.toList_range,List.getElem?_map,List.getElem?_replicate]
 by_cases h : i < n
 ·rw [List.getElem?_range h,if_pos h]
  simp [Nat.mod_one]
 ·rw [List.getElem?_eq_none (by rw [List.length_range]; omega),if_neg h]
  rfl
theorem own_made (w : World) (z : Value) (n : Nat) (e : TypeId) (hn : n ≤ maxLen) : (w.alloc (.cells (madeCells #[z] n) e)).ownsRow w.heap.size e 1 (.slice (some ⟨w.heap.size,0,none⟩) n n) n (List.replicate n z) :=
 ⟨by rw [List.length_replicate,Nat.mul_one],.inr ⟨_,n,madeCells #[z] n,rfl,Nat.le_refl _,heap_alloc_new w _,Nat.le_refl _,hn,by rw [size_madeCells,Nat.mul_one],by rw [made_list,Nat.mul_one,List.take_of_length_le (by rw [List.length_replicate]; exact Nat.le_refl _)]⟩⟩
theorem own_there {w : World} {base : Nat} {e : TypeId} {g n c : Nat} {xs : List Value} (h : w.ownsRow base e 1 (.slice (some ⟨g,0,none⟩) n c) n xs) : g < w.heap.size ∧ ∀ j,j < n → ∃ v,w.cell? ⟨g,j,none⟩ = some v := by
 rcases h.2 with ⟨hv,_⟩ | ⟨g',cap,cur,hv,hb,hg,hnc,hcm,hcs,htk⟩
 ·cases hv
 ·injection hv with e1 _ e3
  injection e1 with e1
  injection e1 with e1 _ _
  subst e1 e3
  refine ⟨(Array.getElem?_eq_some_iff.1 hg).1,fun j hj => ?_⟩
  have hjc : j < cur.size := by rw [hcs]; omega
  exact ⟨cur[j],by simp [World.cell?,hg,hjc]⟩
def partly (z : Value) (xs : List Value) (n k : Nat) : List Value := xs.take k ++ List.replicate (n - k) z
theorem partly_zero (z : Value) (xs : List Value) (n : Nat) : partly z xs n 0 = List.replicate n z := by simp [partly]
theorem partly_all (z : Value) (xs : List Value) (n : Nat) (h : xs.length = n) : partly z xs n n = xs := by simp [partly,← h]
theorem partly_set (z : Value) (xs : List Value) (n k : Nat) (h : xs.length = n) (hk : k < n) : (partly z xs n k).set k (xs[k]'(by omega)) = partly z xs n (k + 1) := by
 unfold partly
 rw [List.set_append_right _ _ (by rw [List.length_take]; omega),List.length_take,Nat.min_eq_left (by omega),Nat.sub_self,show n - k = (n - (k + 1)) + 1 from by omega,List.replicate_succ,List.set_cons_zero,List.take_succ_eq_append_getElem (by omega),List.append_assoc]
 rfl
set_option maxHeartbeats 1000000 in
theorem names_any (g o : Nat) (es : List BE) (w : World) (h : BookAt w g o es) :
  Calls Tryz.prog 44 #[.pointer (some ⟨g,o,none⟩)] w fun e w' => ∃ b,e = .returned (.slice (some ⟨b,0,none⟩) es.length es.length) ∧ w'.ownsRow w.heap.size 9 1 (.slice (some ⟨b,0,none⟩) es.length es.length) es.length (es.map fun x => .string ⟨x.name.toArray⟩) ∧ w.grownBy w' none := by
 have hc := h.count
 have hl := h.len
 have hgw := h.live.lt
 have HE := hid (fun w h => entries_any g o es w h)
 obtain ⟨n,HLn⟩ : ∃ n,Hid (es.length = n) := ⟨_,hid rfl⟩
 rw [HLn.out] at hc hl HE ⊢
 have hmk := fun w => run_make_row' (P := Tryz.prog) 32 9 (.string ⟨#[]⟩) 16 Tryz.underlying32 Tryz.makeStr rfl .i64 .i64 n (by omega) (by omega) w
 have G0 := hid (World.grownBy_alloc w (.cells (madeCells #[.string ⟨#[]⟩] n) 9) none)
 have O0 := hid (own_made w (.string ⟨#[]⟩) n 9 (by unfold maxLen; omega))
 have HB := hid h
 obtain ⟨xs,HXs⟩ : ∃ xs : List Value,Hid (xs = es.map fun x => .string ⟨x.name.toArray⟩) := ⟨_,hid rfl⟩
 have HXl : Hid (xs.length = n) := by show _ = _; rw [HXs.out,List.length_map]; exact HLn.out
 rw [← HXs.out]
 clear h
 go_enter Tryz.func44,Tryz.ntmps44
 go_wp2_with fail
 refine (HE.out _ (HB.out.grown G0.out)).mono ?_
 rintro e w' ⟨rfl,q,rfl⟩
 clear HE hmk
 have O1 : Hid (((w.alloc (.cells (madeCells #[.string ⟨#[]⟩] n) 9)).drewN q).ownsRow w.heap.size 9 1 (.slice (some ⟨w.heap.size,0,none⟩) n n) n (partly (.string ⟨#[]⟩) xs n 0)) := by
  rw [partly_zero]; exact O0.out
 have G1 := hid (gb_drewN G0.out q)
 clear O0 G0
 go_wp2_with fail
 go_loopw [14] (fun c wr => ∃ k : Nat,k ≤ n ∧ c = .int .i64 k ∧ wr.ownsRow w.heap.size 9 1 (.slice (some ⟨w.heap.size,0,none⟩) n n) n (partly (.string ⟨#[]⟩) xs n k) ∧ w.grownBy wr none) (fun c _ => ((n : Int) - intOf c).toNat)
 case atStart => exact ⟨0,Nat.zero_le _,rfl,O1.out,G1.out⟩
 case round =>
  obtain ⟨k,hk,rfl,hown,hgr⟩ := hrel
  by_cases hlt : k < n
  ·have hkl : k < es.length := by rw [HLn.out]; exact hlt
   have hkI : (k : Int) < (n : Int) := by omega
   have hk0 : (0 : Int) ≤ (k : Int) := by omega
   have hBr := HB.out.grown hgr
   obtain ⟨k0,k1,k2,k3,k4,k5,k6,k7⟩ := hBr.eight k hkl _ rfl
   have HV : Hid (xs[k]'(by rw [HXl.out]; exact hlt) = .string ⟨(es[k]).name.toArray⟩) := by show _ = _; simp only [HXs.out,List.getElem_map]
   obtain ⟨hbs,hth⟩ := own_there hown
   obtain ⟨vk,hvk⟩ := hth k hlt
   have hfz := own_frozen hown k
   clear hBr hth
   go_wp2
   go_roundw
   case rel =>
    refine ⟨k + 1,hlt,rfl,?_,gb_alloc (gb_store hgr (Nat.le_refl _)) _⟩
    have S := own_set hown k (xs[k]'(by rw [HXl.out]; exact hlt))
    rw [partly_set _ xs n k HXl.out hlt,HV.out] at S
    exact own_keep S (fun b hb => heap_alloc_old _ _ (by injection hb with hb; subst hb; rw [World.size_setCell]; exact hbs))
   case measure => simp [intOf]; omega
  ·have hkI : ¬ (k : Int) < (n : Int) := by omega
   have hkn : k = n := by omega
   subst hkn
   go_wp2
   go_ret
   exact ⟨w.heap.size,rfl,by rw [← partly_all (.string ⟨#[]⟩) xs k HXl.out]; exact hown,hgr⟩
set_option maxHeartbeats 1000000 in
theorem numbers_any (g o : Nat) (es : List BE) (w : World) (h : BookAt w g o es) :
  Calls Tryz.prog 45 #[.pointer (some ⟨g,o,none⟩)] w fun e w' => ∃ b,e = .returned (.slice (some ⟨b,0,none⟩) es.length es.length) ∧ w'.ownsRow w.heap.size 3 1 (.slice (some ⟨b,0,none⟩) es.length es.length) es.length (es.map fun x => .int .i64 x.number) ∧ w.grownBy w' none := by
 have hc := h.count
 have hl := h.len
 have hgw := h.live.lt
 have HE := hid (fun w h => entries_any g o es w h)
 obtain ⟨n,HLn⟩ : ∃ n,Hid (es.length = n) := ⟨_,hid rfl⟩
 rw [HLn.out] at hc hl HE ⊢
 have hmk := fun w => run_make_row' (P := Tryz.prog) 33 3 (.int .i64 0) 8 Tryz.underlying33 Tryz.makeInt rfl .i64 .i64 n (by omega) (by omega) w
 have G0 := hid (World.grownBy_alloc w (.cells (madeCells #[.int .i64 0] n) 3) none)
 have O0 := hid (own_made w (.int .i64 0) n 3 (by unfold maxLen; omega))
 have HB := hid h
 obtain ⟨xs,HXs⟩ : ∃ xs : List Value,Hid (xs = es.map fun x => .int .i64 x.number) := ⟨_,hid rfl⟩
 have HXl : Hid (xs.length = n) := by show _ = _; rw [HXs.out,List.length_map]; exact HLn.out
 rw [← HXs.out]
 clear h
 go_enter Tryz.func45,Tryz.ntmps45
 go_wp2_with fail
 refine (HE.out _ (HB.out.grown G0.out)).mono ?_
 rintro e w' ⟨rfl,q,rfl⟩
 clear HE hmk
 have O1 : Hid (((w.alloc (.cells (madeCells #[.int .i64 0] n) 3)).drewN q).ownsRow w.heap.size 3 1 (.slice (some ⟨w.heap.size,0,none⟩) n n) n (partly (.int .i64 0) xs n 0)) := by
  rw [partly_zero]; exact O0.out
 have G1 := hid (gb_drewN G0.out q)
 clear O0 G0
 go_wp2_with fail
 go_loopw [14] (fun c wr => ∃ k : Nat,k ≤ n ∧ c = .int .i64 k ∧ wr.ownsRow w.heap.size 3 1 (.slice (some ⟨w.heap.size,0,none⟩) n n) n (partly (.int .i64 0) xs n k) ∧ w.grownBy wr none) (fun c _ => ((n : Int) - intOf c).toNat)
 case atStart => exact ⟨0,Nat.zero_le _,rfl,O1.out,G1.out⟩
 case round =>
  obtain ⟨k,hk,rfl,hown,hgr⟩ := hrel
  by_cases hlt : k < n
  ·have hkl : k < es.length := by rw [HLn.out]; exact hlt
   have hkI : (k : Int) < (n : Int) := by omega
   have hk0 : (0 : Int) ≤ (k : Int) := by omega
   have hBr := HB.out.grown hgr
   obtain ⟨k0,k1,k2,k3,k4,k5,k6,k7⟩ := hBr.eight k hkl _ rfl
   have HV : Hid (xs[k]'(by rw [HXl.out]; exact hlt) = .int .i64 (es[k]).number) := by show _ = _; simp only [HXs.out,List.getElem_map]
   obtain ⟨hbs,hth⟩ := own_there hown
   obtain ⟨vk,hvk⟩ := hth k hlt
   have hfz := own_frozen hown k
   clear hBr hth
   go_wp2
   go_roundw
   case rel =>
    refine ⟨k + 1,hlt,rfl,?_,gb_alloc (gb_store hgr (Nat.le_refl _)) _⟩
    have S := own_set hown k (xs[k]'(by rw [HXl.out]; exact hlt))
    rw [partly_set _ xs n k HXl.out hlt,HV.out] at S
    exact own_keep S (fun b hb => heap_alloc_old _ _ (by injection hb with hb; subst hb; rw [World.size_setCell]; exact hbs))
   case measure => simp [intOf]; omega
  ·have hkI : ¬ (k : Int) < (n : Int) := by omega
   have hkn : k = n := by omega
   subst hkn
   go_wp2
   go_ret
   exact ⟨w.heap.size,rfl,by rw [← partly_all (.int .i64 0) xs k HXl.out]; exact hown,hgr⟩
end Go.Proofs.YtpijkgbafjccaaaGreatDoor
