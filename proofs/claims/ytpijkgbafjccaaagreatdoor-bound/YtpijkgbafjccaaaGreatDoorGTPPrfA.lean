/-
  
  
  
  
  
-/
import Derived.Test.YtpijkgbafjccaaaGreatDoorGTPFillA
import Derived.Laws.StructEq
import Derived.Test.YtpijkgbafjccaaaGreatDoorGTBoxA
import Derived.Lib.SliceRun
namespace Go.Proofs.YtpijkgbafjccaaaGreatDoor
open Go.RowKit
set_option maxRecDepth 100000
theorem pfCells_append (a b : List PF) : pfCells (a ++ b) = pfCells a ++ pfCells b := by simp [pfCells]
theorem pfCells_get (l : List PF) : ∀ (k j : Nat) (hk : k < l.length),j < 3 → (pfCells l)[k * 3 + j]? = (l[k]).pcells[j]? := by
 induction l with
 | nil => intro k j hk; simp at hk
 | cons x l ih =>
  intro k j hk hj
  have e : pfCells (x :: l) = x.pcells ++ pfCells l := by simp [pfCells]
  rw [e]
  cases k with
  | zero => rw [Nat.zero_mul,Nat.zero_add,List.getElem?_append_left (by show j < 3; exact hj)]; rfl
  | succ k =>
   rw [List.getElem?_append_right (by show 3 ≤ (k + 1) * 3 + j; omega),show (k + 1) * 3 + j - x.pcells.length = k * 3 + j from by show (k + 1) * 3 + j - 3 = k * 3 + j; omega]
   exact ih k j (by simpa using hk) hj
theorem pf_at {w : World} {g o : Nat} {l : List PF} (h : w.rangeAt g o (pfCells l)) (k : Nat) (hk : k < l.length) (j : Nat) (hj : j < 3) (v : Value) (hv : (l[k]).pcells[j]? = some v) : w.cell? ⟨g,o + k * 3 + j,none⟩ = some v := by
 have := h (k * 3 + j) v (by rw [pfCells_get l k j hk hj]; exact hv)
 rw [← Nat.add_assoc] at this
 exact this
set_option maxHeartbeats 400000 in
theorem remembered_any (g o n : Nat) (w : World) (hn : n ≤ 8) (h : w.cell? ⟨g,o + 24,none⟩ = some (.int .i64 (n : Int))) :
  Calls Tryz.prog 188 #[.pointer (some ⟨g,o,none⟩)] w fun e w' => e = .returned (.slice (some ⟨g,o,none⟩) n 8) ∧ ∃ m,w' = w.drewN m := by
 have hnI : (n : Int) ≤ 8 := by omega
 go_enter Tryz.func188,Tryz.ntmps188
 go_wp2
 go_quiet (fail)
 go_wp2
 go_ret
 exact ⟨rfl,_,rfl⟩
theorem pf_eql (x y : PF) (w : World) : (binOp .eql 95 (.agg x.pcells.toArray) (.agg y.pcells.toArray)).run Tryz.prog w = .ok (.bool (decide (x = y))) w := by
 have hs : Tryz.prog.stoodInHeld 95 = false := by kernel_rfl
 have hu := Tryz.underlying95
 have hf : Tryz.prog.underlying 95 = some (.struct (Tryz.prog.fieldsOf 95)) := by rw [Program.fieldsOf,hu]
 rw [run_eql_struct,run_equalIn_struct w 9999 _ _ _ hf hs,Program.fieldsOf,hu]
 have e9 : ∀ (a b : ByteArray) (w : World),(Op.equalIn 9999 9 (.string a) (.string b)).run Tryz.prog w = .ok (a.toList == b.toList) w := fun a b w => run_equalIn_string w 9998 9 a b Tryz.underlying9
 have e2 : ∀ (a b : Int) (w : World),(Op.equalIn 9999 2 (.int .i64 a) (.int .i64 b)).run Tryz.prog w = .ok (a == b) w := fun a b w => run_equalIn_int w 9998 2 .i64 .i64 a b Tryz.underlying2
 obtain ⟨xc,xt,xn⟩ := x
 obtain ⟨yc,yt,yn⟩ := y
 simp [Op.eqFields,go_sem,PF.pcells,e9,e2]
 by_cases h1 : xc = yc <;> by_cases h2 : xt = yt <;> by_cases h3 : xn = yn <;> simp [h1,h2,h3]
theorem pf_guard (x y : PF) (op : BinOp) (a b : Operand) (w : World) : (eqGuard op 95 a b (.agg x.pcells.toArray) (.agg y.pcells.toArray)).run Tryz.prog w = .ok () w :=
 run_eqGuard_agg w op _ a b _ _ (by kernel_rfl)
set_option maxHeartbeats 1000000 in
theorem pindex_any (g o n c : Nat) (l : List PF) (x : PF) (w : World) (hn : Hid (l.length = n)) (hn8 : n ≤ 8) (hc : n ≤ c) (h : w.rangeAt g o (pfCells l)) :
  Calls Tryz.prog 196 #[.slice (some ⟨g,o,none⟩) n c,.agg x.pcells.toArray] w fun e w' => ∃ i : Int,e = .returned (.int .i64 i) ∧ ((decide (0 ≤ i)) = decide (x ∈ l)) ∧ -1 ≤ i ∧ i ≤ 8 ∧ w.grownBy w' none := by
 have HH := hid h
 clear h
 have HGD := hid (fun (y : PF) (op : BinOp) (a b : Operand) (w : World) => pf_guard x y op a b w)
 have HEQ := hid (fun (y : PF) (w : World) => pf_eql x y w)
 obtain ⟨W0,hW0⟩ : ∃ W,W = w.alloc (.cells x.pcells.toArray 95) := ⟨_,rfl⟩
 have HG0 : Hid (w.grownBy W0 none) := by show _; rw [hW0]; exact World.grownBy_alloc w _ none
 have HX : Hid (W0.rangeAt w.heap.size 0 x.pcells) := by show _; rw [hW0]; exact cells_range w x.pcells.toArray _
 have HW0 := hid hW0
 clear hW0
 go_enter Tryz.func196,Tryz.ntmps196
 go_wp2
 rw [← HW0.out]
 go_loopw [5,8] (fun _ i wr => ∃ k q : Nat,k ≤ n ∧ i = .int .i64 k ∧ wr = W0.drewN q ∧ Hid (∀ j (hj : j < l.length),j < k → x ≠ l[j])) (fun _ i _ => n - (intOf i).toNat)
 case atStart => exact ⟨0,0,Nat.zero_le _,rfl,rfl,fun j _ hj => by omega⟩
 case round =>
  obtain ⟨k,q,hk,rfl,rfl,hI⟩ := hrel
  by_cases hlt : k < n
  ·have hkI : (k : Int) < (n : Int) := by omega
   have hlt' : k < l.length := by rw [hn.out]; exact hlt
   obtain ⟨y,hy⟩ : ∃ y,l[k] = y := ⟨_,rfl⟩
   have hr := HH.out
   have y0 : ∀ m,(W0.drewN m).cell? ⟨g,o + k * 3,none⟩ = some (.string ⟨y.client.toArray⟩) := fun m => HG0.out.cell (pf_at hr k hlt' 0 (by omega) _ (by rw [hy]; rfl)) (by simp)
   have y1 : ∀ m,(W0.drewN m).cell? ⟨g,o + k * 3 + 1,none⟩ = some (.int .i64 y.time) := fun m => HG0.out.cell (pf_at hr k hlt' 1 (by omega) _ (by rw [hy]; rfl)) (by simp)
   have y2 : ∀ m,(W0.drewN m).cell? ⟨g,o + k * 3 + 2,none⟩ = some (.int .i64 y.count) := fun m => HG0.out.cell (pf_at hr k hlt' 2 (by omega) _ (by rw [hy]; rfl)) (by simp)
   have x0 : ∀ m,(W0.drewN m).cell? ⟨w.heap.size,0,none⟩ = some (.string ⟨x.client.toArray⟩) := fun m => HX.out 0 _ rfl
   have x1 : ∀ m,(W0.drewN m).cell? ⟨w.heap.size,1,none⟩ = some (.int .i64 x.time) := fun m => HX.out 1 _ rfl
   have x2 : ∀ m,(W0.drewN m).cell? ⟨w.heap.size,2,none⟩ = some (.int .i64 x.count) := fun m => HX.out 2 _ rfl
   obtain ⟨d,hd⟩ : ∃ d,decide (x = y) = d := ⟨_,rfl⟩
   have qe : ∀ w : World,(binOp .eql 95 (.agg #[.string ⟨x.client.toArray⟩,.int .i64 x.time,.int .i64 x.count]) (.agg #[.string ⟨y.client.toArray⟩,.int .i64 y.time,.int .i64 y.count])).run Tryz.prog w = .ok (.bool d) w := fun w => by rw [← hd]; exact HEQ.out y w
   have qg : ∀ (op : BinOp) (a b : Operand) (w : World),(eqGuard op 95 a b (.agg #[.string ⟨x.client.toArray⟩,.int .i64 x.time,.int .i64 x.count]) (.agg #[.string ⟨y.client.toArray⟩,.int .i64 y.time,.int .i64 y.count])).run Tryz.prog w = .ok () w := fun op a b w => HGD.out y op a b w
   have HY := hid hy
   have HD := hid hd
   clear hy hd hr
   cases d with
   | true =>
    go_wp2_with fail
    go_quiet (fail)
    go_wp2
    go_ret
    refine ⟨k,rfl,?_,by omega,by omega,gb_drewN (gb_drewN HG0.out _) _⟩
    have hxy : x = y := of_decide_eq_true HD.out
    have hm : x ∈ l := by rw [hxy,← HY.out]; exact List.getElem_mem hlt'
    rw [decide_eq_true hm,decide_eq_true (by omega)]
   | false =>
    go_wp2_with fail
    go_quiet (fail)
    go_wp2
    go_roundw
    case rel =>
     refine ⟨k + 1,_,by omega,by go_num,rfl,fun j hj hjk => ?_⟩
     by_cases e : j = k
     ·subst e
      rw [HY.out]
      exact of_decide_eq_false HD.out
     ·exact hI.out j hj (by omega)
    case measure => simp [intOf]; omega
  ·have hks : k = n := by omega
   subst hks
   go_wp2
   go_ret
   refine ⟨-1,rfl,?_,by omega,by omega,gb_drewN HG0.out _⟩
   have : x ∉ l := fun e => by
    obtain ⟨j,hj,e⟩ := List.getElem_of_mem e
    exact hI.out j hj (by rw [← hn.out]; exact hj) e.symm
   rw [decide_eq_false this]
   rfl
set_option maxHeartbeats 400000 in
theorem pcontains_any (g o n c : Nat) (l : List PF) (x : PF) (w : World) (hn : Hid (l.length = n)) (hn8 : n ≤ 8) (hc : n ≤ c) (h : w.rangeAt g o (pfCells l)) :
  Calls Tryz.prog 190 #[.slice (some ⟨g,o,none⟩) n c,.agg x.pcells.toArray] w fun e w' => e = .returned (.bool (decide (x ∈ l))) ∧ w.grownBy w' none := by
 obtain ⟨W0,hW0⟩ : ∃ W,W = w.alloc (.cells x.pcells.toArray 95) := ⟨_,rfl⟩
 have hG0 : w.grownBy W0 none := by rw [hW0]; exact World.grownBy_alloc w _ none
 have hX : W0.rangeAt w.heap.size 0 x.pcells := by rw [hW0]; exact cells_range w x.pcells.toArray _
 have x0 : W0.cell? ⟨w.heap.size,0,none⟩ = some (.string ⟨x.client.toArray⟩) := hX 0 _ rfl
 have x1 : W0.cell? ⟨w.heap.size,1,none⟩ = some (.int .i64 x.time) := hX 1 _ rfl
 have x2 : W0.cell? ⟨w.heap.size,2,none⟩ = some (.int .i64 x.count) := hX 2 _ rfl
 have HI := hid (pindex_any g o n c l x W0 hn hn8 hc ((CF.of_gb hG0 (fun _ _ => False)).range h (fun _ _ e => e)))
 have HG := hid hG0
 have HW0 := hid hW0
 clear hG0 hX hW0 h
 go_enter Tryz.func190,Tryz.ntmps190
 go_wp2_with (first | (rw [← HW0.out]; fail_if_success done) | fail)
 refine HI.out.mono ?_
 rintro e w2 ⟨i,rfl,hi,h0,h1,g2⟩
 have HI2 := hid hi
 have HG2 := hid (gb_trans HG.out g2)
 clear hi g2 HI
 go_wp2
 go_ret
 exact ⟨by rw [← HI2.out]; rfl,HG2.out⟩
set_option maxHeartbeats 400000 in
theorem phas_any (g o : Nat) (l : List PF) (x : PF) (w : World) (h : w.rangeAt g o (pfCells l)) (hc : w.cell? ⟨g,o + 24,none⟩ = some (.int .i64 l.length)) (hn8 : l.length ≤ 8) :
  Calls Tryz.prog 173 #[.pointer (some ⟨g,o,none⟩),.agg x.pcells.toArray] w fun e w' => e = .returned (.bool (decide (x ∈ l))) ∧ w.grownBy w' none := by
 obtain ⟨W0,hW0⟩ : ∃ W,W = w.alloc (.cells x.pcells.toArray 95) := ⟨_,rfl⟩
 have hG0 : w.grownBy W0 none := by rw [hW0]; exact World.grownBy_alloc w _ none
 have hX : W0.rangeAt w.heap.size 0 x.pcells := by rw [hW0]; exact cells_range w x.pcells.toArray _
 have x0 : W0.cell? ⟨w.heap.size,0,none⟩ = some (.string ⟨x.client.toArray⟩) := hX 0 _ rfl
 have x1 : W0.cell? ⟨w.heap.size,1,none⟩ = some (.int .i64 x.time) := hX 1 _ rfl
 have x2 : W0.cell? ⟨w.heap.size,2,none⟩ = some (.int .i64 x.count) := hX 2 _ rfl
 obtain ⟨n,hn⟩ : ∃ n,l.length = n := ⟨_,rfl⟩
 have HR : Hid (∀ m,Calls Tryz.prog 188 #[.pointer (some ⟨g,o,none⟩)] (W0.drewN m) fun e w' => e = .returned (.slice (some ⟨g,o,none⟩) n 8) ∧ ∃ m',w' = W0.drewN m') := by
  intro m
  refine (remembered_any g o n (W0.drewN m) (by omega) ((gb_drewN hG0 m).cell (by rw [← hn]; exact hc) (by simp))).mono ?_
  rintro e w' ⟨e1,m',e2⟩
  exact ⟨e1,m + m',by rw [e2,World.drewN_drewN]⟩
 have HI : Hid (∀ m,Calls Tryz.prog 190 #[.slice (some ⟨g,o,none⟩) n 8,.agg x.pcells.toArray] (W0.drewN m) fun e w' => e = .returned (.bool (decide (x ∈ l))) ∧ W0.grownBy w' none) := by
  intro m
  refine (pcontains_any g o n 8 l x (W0.drewN m) hn (by omega) (by omega) ((CF.of_gb (gb_drewN hG0 m) (fun _ _ => False)).range h (fun _ _ e => e))).mono ?_
  rintro e w' ⟨e1,e2⟩
  exact ⟨e1,gb_trans (gb_drewN (World.grownBy.refl _ _) m) e2⟩
 have HX : Hid (∀ W,W0.grownBy W none → W.cell? ⟨w.heap.size,0,none⟩ = some (.string ⟨x.client.toArray⟩) ∧ W.cell? ⟨w.heap.size,1,none⟩ = some (.int .i64 x.time) ∧ W.cell? ⟨w.heap.size,2,none⟩ = some (.int .i64 x.count)) :=
  fun W k => ⟨k.cell x0 (by simp),k.cell x1 (by simp),k.cell x2 (by simp)⟩
 have HG := hid hG0
 have HW0 := hid hW0
 clear hG0 hX hW0 h hc hn
 go_enter Tryz.func173,Tryz.ntmps173
 go_wp2_with fail
 rw [← HW0.out]
 go_region_held3 (fun w' => w'.cell? ⟨w.heap.size,0,none⟩ = some (.string ⟨x.client.toArray⟩) ∧ w'.cell? ⟨w.heap.size,1,none⟩ = some (.int .i64 x.time) ∧ w'.cell? ⟨w.heap.size,2,none⟩ = some (.int .i64 x.count)) (go_keep) (first | (go_at_call 188; refine (HR.out _).mono ?_; rintro e w' ⟨rfl,m,rfl⟩) | (go_at_call 190; refine (HI.out _).mono ?_; rintro e w2 ⟨rfl,g2⟩; obtain ⟨e0,e1,e2⟩ := HX.out w2 g2; have HG2 := hid (gb_trans HG.out g2); clear g2))
 all_goals
  go_wp2
  go_ret
  exact ⟨rfl,HG2.out⟩
end Go.Proofs.YtpijkgbafjccaaaGreatDoor
namespace Go.Proofs.YtpijkgbafjccaaaGreatDoor
open Go.RowKit
set_option maxRecDepth 100000
set_option maxHeartbeats 400000 in
theorem padd_full (g o : Nat) (x : PF) (w : World) (hc : w.cell? ⟨g,o + 24,none⟩ = some (.int .i64 8)) :
  Calls Tryz.prog 174 #[.pointer (some ⟨g,o,none⟩),.agg x.pcells.toArray] w fun e w' => e = .returned (.bool false) ∧ w.grownBy w' none := by
 have G0 := World.grownBy_alloc w (.cells x.pcells.toArray 95) none
 have c1 := G0.cell hc (by simp)
 have HG := hid G0
 clear G0
 go_enter Tryz.func174,Tryz.ntmps174
 go_wp2
 go_ret
 exact ⟨rfl,HG.out⟩
set_option maxHeartbeats 1000000 in
theorem padd_ok (g o n : Nat) (l : List PF) (x : PF) (w : World) (hl : Live w g (o + 25)) (h : w.rangeAt g o (pfCells l)) (hc : w.cell? ⟨g,o + 24,none⟩ = some (.int .i64 n)) (hn : Hid (l.length = n)) (hn8 : n < 8) :
  Calls Tryz.prog 174 #[.pointer (some ⟨g,o,none⟩),.agg x.pcells.toArray] w fun e w' => e = .returned (.bool true) ∧ w'.rangeAt g o (pfCells (l ++ [x])) ∧ w'.cell? ⟨g,o + 24,none⟩ = some (.int .i64 ((n : Int) + 1)) ∧ CF w w' (fun b y => b = g ∧ o ≤ y ∧ y < o + 25) := by
 obtain ⟨W0,hW0⟩ : ∃ W,W = w.alloc (.cells x.pcells.toArray 95) := ⟨_,rfl⟩
 have hG0 : w.grownBy W0 none := by rw [hW0]; exact World.grownBy_alloc w _ none
 have hX : W0.rangeAt w.heap.size 0 x.pcells := by rw [hW0]; exact cells_range w x.pcells.toArray _
 have x0 : W0.cell? ⟨w.heap.size,0,none⟩ = some (.string ⟨x.client.toArray⟩) := hX 0 _ rfl
 have x1 : W0.cell? ⟨w.heap.size,1,none⟩ = some (.int .i64 x.time) := hX 1 _ rfl
 have x2 : W0.cell? ⟨w.heap.size,2,none⟩ = some (.int .i64 x.count) := hX 2 _ rfl
 have c1 := hG0.cell hc (by simp)
 have hne : w.heap.size ≠ g := fun e => by have := hl.lt; omega
 have hL := hl.grown hG0
 have f0 := hL.frozen (o + n * 3)
 have f1 := hL.frozen (o + n * 3 + 1)
 have f2 := hL.frozen (o + n * 3 + 2)
 have f3 := hL.frozen (o + 24)
 obtain ⟨d0,q0⟩ := Option.isSome_iff_exists.1 (hL.some (o + n * 3) (by omega))
 obtain ⟨d1,q1⟩ := Option.isSome_iff_exists.1 (hL.some (o + n * 3 + 1) (by omega))
 obtain ⟨d2,q2⟩ := Option.isSome_iff_exists.1 (hL.some (o + n * 3 + 2) (by omega))
 have hnI : (n : Int) < 8 := by omega
 have hne8 : ((n : Int) == 8) = false := by rw [beq_eq_false_iff_ne]; omega
 have HG := hid hG0
 have HW0 := hid hW0
 have HH := hid h
 have HL := hid hl
 clear hG0 hX hW0 h hc hL hl
 go_enter Tryz.func174,Tryz.ntmps174
 go_wp2_with (first | (rw [← HW0.out]; fail_if_success done) | fail)
 have k0 : o + n * 3 ≠ o + 24 := by omega
 have k1 : o + n * 3 + 1 ≠ o + 24 := by omega
 have k2 : o + n * 3 + 2 ≠ o + 24 := by omega
 obtain ⟨W1,hW1⟩ : ∃ W,W = ((W0.setCell ⟨g,o + n * 3,none⟩ (.string ⟨x.client.toArray⟩)).setCell ⟨g,o + n * 3 + 1,none⟩ (.int .i64 x.time)).setCell ⟨g,o + n * 3 + 2,none⟩ (.int .i64 x.count) := ⟨_,rfl⟩
 have hfar : ∀ y,W1.cell? ⟨w.heap.size,y,none⟩ = W0.cell? ⟨w.heap.size,y,none⟩ := fun y => by
  rw [hW1,World.cell?_setCell_far _ _ _ _ (fun e => hne e.symm),World.cell?_setCell_far _ _ _ _ (fun e => hne e.symm),World.cell?_setCell_far _ _ _ _ (fun e => hne e.symm)]
 have hoff : ∀ y,y ≠ o + n * 3 → y ≠ o + n * 3 + 1 → y ≠ o + n * 3 + 2 → W1.cell? ⟨g,y,none⟩ = W0.cell? ⟨g,y,none⟩ := fun y e0 e1 e2 => by
  rw [hW1,World.cell?_setCell_other _ _ _ _ (fun e => e2 (by injection e with _ e; exact e.symm)),World.cell?_setCell_other _ _ _ _ (fun e => e1 (by injection e with _ e; exact e.symm)),World.cell?_setCell_other _ _ _ _ (fun e => e0 (by injection e with _ e; exact e.symm))]
 have HY : Hid (W1.cell? ⟨g,o + 24,none⟩ = some (.int .i64 n) ∧ W1.cell? ⟨w.heap.size,0,none⟩ = some (.string ⟨x.client.toArray⟩) ∧ W1.cell? ⟨w.heap.size,1,none⟩ = some (.int .i64 x.time) ∧ W1.cell? ⟨w.heap.size,2,none⟩ = some (.int .i64 x.count)) :=
  ⟨by rw [hoff _ k0.symm k1.symm k2.symm]; exact c1,by rw [hfar]; exact x0,by rw [hfar]; exact x1,by rw [hfar]; exact x2⟩
 have HCF : Hid (CF w W1 (fun b y => b = g ∧ o ≤ y ∧ y < o + 25)) := by
  show CF _ _ _
  rw [hW1]
  exact (((CF.of_gb HG.out _).setCell g (o + n * 3) _ (fun _ => ⟨rfl,by omega,by omega⟩)).setCell g (o + n * 3 + 1) _ (fun _ => ⟨rfl,by omega,by omega⟩)).setCell g (o + n * 3 + 2) _ (fun _ => ⟨rfl,by omega,by omega⟩)
 have HRG : Hid (W1.rangeAt g o (pfCells (l ++ [x]))) := by
  show World.rangeAt _ _ _ _
  intro j u hu
  rw [pfCells_append] at hu
  have hpl := pfCells_length l
  rw [hn.out] at hpl
  by_cases hj : j < n * 3
  ·rw [List.getElem?_append_left (by omega)] at hu
   rw [hoff _ (by omega) (by omega) (by omega)]
   exact HG.out.cell (HH.out j u hu) (by simp)
  ·rw [List.getElem?_append_right (by omega),hpl] at hu
   have hj3 : j - n * 3 < 3 := by have := (List.getElem?_eq_some_iff.1 hu).1; simp [pfCells,PF.pcells] at this; omega
   have h0 : W1.cell? ⟨g,o + n * 3,none⟩ = some (.string ⟨x.client.toArray⟩) := by
    rw [hW1,World.cell?_setCell_other _ _ _ _ (fun e => by injection e with _ e; omega),World.cell?_setCell_other _ _ _ _ (fun e => by injection e with _ e; omega)]
    exact World.cell?_setCell_same _ _ _ q0
   have h1 : W1.cell? ⟨g,o + n * 3 + 1,none⟩ = some (.int .i64 x.time) := by
    rw [hW1,World.cell?_setCell_other _ _ _ _ (fun e => by injection e with _ e; omega)]
    exact World.cell?_setCell_same _ _ _ (by rw [World.cell?_setCell_other _ _ _ _ (fun e => by injection e with _ e; omega)]; exact q1)
   have h2 : W1.cell? ⟨g,o + n * 3 + 2,none⟩ = some (.int .i64 x.count) := by
    rw [hW1]
    exact World.cell?_setCell_same _ _ _ (by rw [World.cell?_setCell_other _ _ _ _ (fun e => by injection e with _ e; omega),World.cell?_setCell_other _ _ _ _ (fun e => by injection e with _ e; omega)]; exact q2)
   obtain ⟨i,hi⟩ : ∃ i,j - n * 3 = i := ⟨_,rfl⟩
   rw [hi] at hu hj3
   have hji : j = n * 3 + i := by omega
   subst hji
   match i,hj3 with
   | 0,_ => simp [pfCells,PF.pcells] at hu; rw [← hu]; exact h0
   | 1,_ => simp [pfCells,PF.pcells] at hu; rw [← hu]; exact h1
   | 2,_ => simp [pfCells,PF.pcells] at hu; rw [← hu]; exact h2
 have HF3 : Hid (W1.frozen? ⟨g,o + 24,none⟩ = false) := (HL.out.cf HCF.out).frozen _
 have HW1 := hid hW1
 clear hfar hoff hW1
 have y1 : W1.drew.cell? ⟨g,o + 24,none⟩ = some (.int .i64 n) := HY.out.1
 have z0 : W1.drew.frozen? ⟨g,o + 24,none⟩ = false := HF3.out
 go_region
 all_goals
  rw [← HW1.out]
  go_wp2
  go_ret
  refine ⟨rfl,?_,World.cell?_setCell_same _ _ _ y1,HCF.out.drew.setCell g (o + 24) _ (fun _ => ⟨rfl,by omega,by omega⟩)⟩
  intro j u hu
  have hj := (List.getElem?_eq_some_iff.1 hu).1
  rw [pfCells_length,List.length_append,hn.out,List.length_singleton] at hj
  show (W1.setCell ⟨g,o + 24,none⟩ (.int .i64 ((n : Int) + 1))).cell? ⟨g,o + j,none⟩ = some u
  rw [World.cell?_setCell_other _ _ _ _ (fun e => by injection e with _ e; omega)]
  exact HRG.out j u hu
end Go.Proofs.YtpijkgbafjccaaaGreatDoor
namespace Go.Proofs.YtpijkgbafjccaaaGreatDoor
open Go.RowKit
set_option maxRecDepth 100000
theorem apartT_comm (a b : Int) : apartT a b = apartT b a := by
 unfold apartT
 by_cases h : a < b
 ·rw [if_pos h,if_neg (by omega)]
 ·by_cases h2 : b < a
  ·rw [if_neg h,if_pos h2]
  ·have : a = b := by omega
   subst this
   rfl
theorem apart_q (a b : Int) (w : World) (nq : Nat) (ha : In64 a) (hb : In64 b) :
  Calls Tryz.prog 166 #[.int .i64 a,.int .i64 b] (w.drewN nq) fun e w'' => e = .returned (.int .i64 (apartT a b)) ∧ ∃ m,w'' = w.drewN m :=
 (apart_any a b _ ha.1 ha.2 hb.1 hb.2).mono fun _ _ ⟨h1,h2⟩ => ⟨h1,nq,h2⟩
theorem sum_q (a b : Int) (w : World) (nq : Nat) (ha : In64 a) (hb : In64 b) :
  Calls Tryz.prog 146 #[.int .i64 a,.int .i64 b] (w.drewN nq) fun e w'' => e = .returned (.int .i64 (satAdd a b)) ∧ ∃ m,w'' = w.drewN m :=
 (sum_any a b _ ha.1 ha.2 hb.1 hb.2).mono fun _ _ ⟨h1,h2⟩ => ⟨h1,nq,h2⟩
set_option maxHeartbeats 400000 in
theorem isFar_any (hb g : Nat) (now skew t : Int) (w : World) (c3 : w.cell? ⟨hb,3,none⟩ = some (.pointer (some ⟨g,0,none⟩))) (c4 : w.cell? ⟨hb,4,none⟩ = some (.int .i64 now)) (cs : w.cell? ⟨g,0,none⟩ = some (.int .i64 skew)) (hnow : In64 now) (ht : In64 t) :
  Calls Tryz.prog 135 #[.pointer (some ⟨hb,0,none⟩),.int .i64 t] w fun e w' => e = .returned (.bool (decide (skew < apartT t now))) ∧ ∃ m,w' = w.drewN m := by
 have HA : Hid (∀ nq,Calls Tryz.prog 166 #[.int .i64 now,.int .i64 t] (w.drewN nq) fun e w'' => e = .returned (.int .i64 (apartT t now)) ∧ ∃ m,w'' = w.drewN m) := fun nq => by rw [apartT_comm]; exact apart_q now t w nq hnow ht
 clear hnow ht
 generalize apartT t now = a at *
 go_enter Tryz.func135,Tryz.ntmps135
 go_wp2_with fail
 go_quiet (first | (go_at_call 166; exact HA.out _))
 go_wp2
 go_ret
 exact ⟨rfl,_,rfl⟩
set_option maxHeartbeats 400000 in
theorem isAhead_any (hb g : Nat) (now skew t : Int) (w : World) (c3 : w.cell? ⟨hb,3,none⟩ = some (.pointer (some ⟨g,0,none⟩))) (c4 : w.cell? ⟨hb,4,none⟩ = some (.int .i64 now)) (cs : w.cell? ⟨g,0,none⟩ = some (.int .i64 skew)) (hnow : In64 now) (hsk : In64 skew) :
  Calls Tryz.prog 106 #[.pointer (some ⟨hb,0,none⟩),.int .i64 t] w fun e w' => e = .returned (.bool (decide (satAdd now skew < t))) ∧ ∃ m,w' = w.drewN m := by
 have HA : Hid (∀ nq,Calls Tryz.prog 146 #[.int .i64 now,.int .i64 skew] (w.drewN nq) fun e w'' => e = .returned (.int .i64 (satAdd now skew)) ∧ ∃ m,w'' = w.drewN m) := fun nq => sum_q now skew w nq hnow hsk
 clear hnow hsk
 generalize satAdd now skew = a at *
 go_enter Tryz.func106,Tryz.ntmps106
 go_wp2_with fail
 go_quiet (first | (go_at_call 146; exact HA.out _))
 go_wp2
 go_ret
 exact ⟨rfl,_,rfl⟩
end Go.Proofs.YtpijkgbafjccaaaGreatDoor
namespace Go.Proofs.YtpijkgbafjccaaaGreatDoor
open Go.RowKit
set_option maxRecDepth 100000
def farV (hb : Nat) : Value := .func (.func 135) #[.pointer (some ⟨hb,0,none⟩)] #[]
def dropV (cb : Nat) : Value := .func (.func 189) #[] #[.pointer (some ⟨cb,0,none⟩)]
structure FarAt (w : World) (cb hb g : Nat) (now skew : Int) : Prop where
 box : w.cell? ⟨cb,0,none⟩ = some (farV hb)
 desk : w.cell? ⟨hb,3,none⟩ = some (.pointer (some ⟨g,0,none⟩))
 now : w.cell? ⟨hb,4,none⟩ = some (.int .i64 now)
 skew : w.cell? ⟨g,0,none⟩ = some (.int .i64 skew)
theorem FarAt.grown {w w' : World} {cb hb g : Nat} {now skew : Int} (h : FarAt w cb hb g now skew) (k : w.grownBy w' none) : FarAt w' cb hb g now skew :=
 ⟨k.cell h.box (by simp),k.cell h.desk (by simp),k.cell h.now (by simp),k.cell h.skew (by simp)⟩
def isFarB (skew now : Int) (y : PF) : Bool := decide (skew < apartT y.time now)
set_option maxHeartbeats 400000 in
theorem drop1_any (cb hb g : Nat) (now skew : Int) (y : PF) (w : World) (h : FarAt w cb hb g now skew) (hnow : In64 now) (ht : In64 y.time) :
  Calls Tryz.prog 189 #[.agg y.pcells.toArray,.pointer (some ⟨cb,0,none⟩)] w fun e w' => e = .returned (.bool (isFarB skew now y)) ∧ w.grownBy w' none := by
 obtain ⟨W0,hW0⟩ : ∃ W,W = w.alloc (.cells y.pcells.toArray 95) := ⟨_,rfl⟩
 have hG0 : w.grownBy W0 none := by rw [hW0]; exact World.grownBy_alloc w _ none
 have hX : W0.rangeAt w.heap.size 0 y.pcells := by rw [hW0]; exact cells_range w y.pcells.toArray _
 have x1 : W0.cell? ⟨w.heap.size,1,none⟩ = some (.int .i64 y.time) := hX 1 _ rfl
 have h0 := h.grown hG0
 have cb0 := h0.box
 unfold farV at cb0
 have HI := hid (isFar_any hb g now skew y.time W0 h0.desk h0.now h0.skew hnow ht)
 have HG := hid hG0
 have HW0 := hid hW0
 clear hG0 hX hW0 h h0 hnow ht
 go_enter Tryz.func189,Tryz.ntmps189
 go_wp2_with (first | (rw [← HW0.out]; fail_if_success done) | fail)
 refine HI.out.mono ?_
 rintro e w2 ⟨rfl,m,rfl⟩
 have HG2 := hid (gb_drewN HG.out m)
 go_wp2
 go_ret
 exact ⟨rfl,HG2.out⟩
set_option maxHeartbeats 1000000 in
theorem pindexF_any (cb hb dg g o n c : Nat) (now skew : Int) (l : List PF) (w : World) (hf : FarAt w cb hb dg now skew) (hnow : In64 now) (ht : ∀ y ∈ l,In64 y.time) (hn : Hid (l.length = n)) (hn8 : n ≤ 8) (hc : n ≤ c) (h : w.rangeAt g o (pfCells l)) :
  Calls Tryz.prog 195 #[.slice (some ⟨g,o,none⟩) n c,dropV cb] w fun e w' => (e = .returned (.int .i64 (-1)) ∧ (∀ j (hj : j < l.length),isFarB skew now l[j] = false) ∨ ∃ k,∃ hk : k < l.length,e = .returned (.int .i64 (k : Int)) ∧ isFarB skew now l[k] = true ∧ ∀ j (hj : j < l.length),j < k → isFarB skew now l[j] = false) ∧ w.grownBy w' none := by
 have HH := hid h
 have HF := hid hf
 have HT := hid ht
 have HNow := hid hnow
 clear h hf ht hnow
 unfold dropV
 go_enter Tryz.func195,Tryz.ntmps195
 go_wp2
 go_loopw [5,8] (fun _ i wr => ∃ k : Nat,k ≤ n ∧ i = .int .i64 k ∧ Hid (w.grownBy wr none) ∧ Hid (∀ j (hj : j < l.length),j < k → isFarB skew now l[j] = false)) (fun _ i _ => n - (intOf i).toNat)
 case atStart => exact ⟨0,Nat.zero_le _,rfl,World.grownBy.refl _ _,fun j _ hj => by omega⟩
 case round =>
  obtain ⟨k,hk,rfl,hG,hI⟩ := hrel
  by_cases hlt : k < n
  ·have hkI : (k : Int) < (n : Int) := by omega
   have hlt' : k < l.length := by rw [hn.out]; exact hlt
   obtain ⟨y,hy⟩ : ∃ y,l[k] = y := ⟨_,rfl⟩
   have hr := HH.out
   have y0 : wr.cell? ⟨g,o + k * 3,none⟩ = some (.string ⟨y.client.toArray⟩) := hG.out.cell (pf_at hr k hlt' 0 (by omega) _ (by rw [hy]; rfl)) (by simp)
   have y1 : wr.cell? ⟨g,o + k * 3 + 1,none⟩ = some (.int .i64 y.time) := hG.out.cell (pf_at hr k hlt' 1 (by omega) _ (by rw [hy]; rfl)) (by simp)
   have y2 : wr.cell? ⟨g,o + k * 3 + 2,none⟩ = some (.int .i64 y.count) := hG.out.cell (pf_at hr k hlt' 2 (by omega) _ (by rw [hy]; rfl)) (by simp)
   have HD := hid (drop1_any cb hb dg now skew y wr (HF.out.grown hG.out) HNow.out (HT.out y (by rw [← hy]; exact List.getElem_mem hlt')))
   obtain ⟨d,hd⟩ : ∃ d,isFarB skew now y = d := ⟨_,rfl⟩
   rw [hd] at HD
   have HY := hid hy
   have HDD := hid hd
   clear hy hd hr
   cases d with
   | true =>
    go_wp2_with (go_at_call 189; refine HD.out.mono ?_; rintro e w2 ⟨rfl,g2⟩; have HG2 := hid (gb_trans hG.out g2); clear g2)
    go_wp2
    go_ret
    exact ⟨.inr ⟨k,hlt',rfl,by rw [HY.out]; exact HDD.out,hI.out⟩,HG2.out⟩
   | false =>
    go_wp2_with (go_at_call 189; refine HD.out.mono ?_; rintro e w2 ⟨rfl,g2⟩; have HG2 := hid (gb_trans hG.out g2); clear g2)
    go_wp2
    go_roundw
    case rel =>
     refine ⟨k + 1,by omega,by go_num,HG2.out,fun j hj hjk => ?_⟩
     by_cases e : j = k
     ·subst e
      rw [HY.out]
      exact HDD.out
     ·exact hI.out j hj (by omega)
    case measure => simp [intOf]; omega
  ·have hks : k = n := by omega
   subst hks
   go_wp2
   go_ret
   exact ⟨.inl ⟨rfl,fun j hj => hI.out j hj (by rw [← hn.out]; exact hj)⟩,hG.out⟩
end Go.Proofs.YtpijkgbafjccaaaGreatDoor
namespace Go.Proofs.YtpijkgbafjccaaaGreatDoor
open Go.RowKit
set_option maxRecDepth 100000
def pfZero : Array Value := #[.string ⟨#[]⟩,.int .i64 0,.int .i64 0]
theorem pfZero_one (m : Nat) : ∀ v ∈ (Builtin.zeroCells pfZero m).toList,v.oneCell' = true := by
 intro v hv
 simp [Builtin.zeroCells] at hv
 obtain ⟨i,_,e⟩ := hv
 have h3 : i % 3 < 3 := Nat.mod_lt _ (by omega)
 have hs : pfZero.size = 3 := rfl
 rw [hs] at e
 rw [← e]
 generalize i % 3 = j at *
 match j,h3 with
 | 0,_ => rfl
 | 1,_ => rfl
 | 2,_ => rfl
theorem pf_clear (w : World) (g o m c : Nat) (ty : TypeId) (hm : 0 < m) (hl : Live w g (o + m * 3)) :
  (Builtin.clear_ #[303] ty #[.slice (some ⟨g,o,none⟩) m c]).run Tryz.prog w = .ok (.tuple #[]) (w.setCells g o (Builtin.zeroCells pfZero m).toList) := by
 have hz : (Builtin.zeroCells pfZero m).toList.length = m * 3 := by simp [Builtin.zeroCells]; rfl
 have hst := run_storeCells_cells (P := Tryz.prog) g o (Builtin.zeroCells pfZero m).toList 0 w (fun j hj => by rw [Nat.add_zero]; exact hl.some _ (by rw [hz] at hj; omega)) (fun j hj => by rw [Nat.add_zero]; exact hl.frozen _) (pfZero_one m)
 simp only [Nat.add_zero] at hst
 obtain ⟨k,rfl⟩ : ∃ k,m = k + 1 := ⟨m - 1,by omega⟩
 simp [Builtin.clear_,run_underlying Tryz.underlying303,Value.cells]
 show ((Sem.run Tryz.prog (storeCells ⟨g,o,none⟩ (Builtin.zeroCells pfZero (k + 1)).toList) w).andThen _) = _
 rw [hst]
 rfl
def inRoom (g o : Nat) (b y : Nat) : Prop := b = g ∧ o ≤ y ∧ y < o + 24
theorem FarAt.cf {w w' : World} {cb hb dg g o : Nat} {now skew : Int} (h : FarAt w cb hb dg now skew) (k : CF w w' (inRoom g o)) (h1 : cb ≠ g) (h2 : hb ≠ g) (h3 : 0 < o) : FarAt w' cb hb dg now skew :=
 ⟨k.cell h.box (fun e => h1 e.1),k.cell h.desk (fun e => h2 e.1),k.cell h.now (fun e => h2 e.1),k.cell h.skew (fun e => by have := e.2.1; omega)⟩
def nearB (skew now : Int) (y : PF) : Bool := !isFarB skew now y
def keptP (skew now : Int) (l : List PF) : List PF := l.filter (nearB skew now)
theorem keptP_take {skew now : Int} {l : List PF} {k : Nat} (h : k < l.length) : keptP skew now (l.take (k + 1)) = keptP skew now (l.take k) ++ (if nearB skew now l[k] = true then [l[k]] else []) := by
 unfold keptP
 rw [List.take_succ_eq_append_getElem h,List.filter_append]
 cases hb : nearB skew now l[k] <;> simp [hb]
theorem keptP_all {skew now : Int} {l : List PF} (h : ∀ j (hj : j < l.length),isFarB skew now l[j] = false) : keptP skew now l = l := by
 unfold keptP
 apply List.filter_eq_self.2
 intro x hx
 obtain ⟨j,hj,rfl⟩ := List.getElem_of_mem hx
 simp [nearB,h j hj]
theorem keptP_first {skew now : Int} {l : List PF} {k : Nat} (hk : k < l.length) (h1 : isFarB skew now l[k] = true) (h : ∀ j (hj : j < l.length),j < k → isFarB skew now l[j] = false) : keptP skew now (l.take (k + 1)) = l.take k := by
 rw [keptP_take hk,keptP_all (l := l.take k) (fun j hj => ?_)]
 ·simp [nearB,h1]
 ·rw [List.getElem_take]
  exact h j _ (by rw [List.length_take] at hj; omega)
theorem keptP_le (skew now : Int) (l : List PF) : (keptP skew now l).length ≤ l.length := List.length_filter_le _ _
end Go.Proofs.YtpijkgbafjccaaaGreatDoor
