/-
  
-/
import Derived.Test.YtbanfbpfapjfcaaGreatDoorGTPPrfE
import Derived.Deep.CutBlock
namespace Go.Proofs.YtbanfbpfapjfcaaGreatDoor
open Go.RowKit
set_option maxRecDepth 100000
def foundC (x : Option BE) : List Value := match x with | none => noEntry.toList | some e => e.pcells
def foundV (x : Option BE) : Value := .tuple #[.agg (foundC x).toArray,.bool x.isSome]
def findF (T : Nat) : Nat := if T = 152 then 315 else 321
theorem findF_enter (T : Nat) (args : Array Value) (W : World) : (callFunc (findF T) args).run Tryz.prog W = .ok (.enter (findF T) args) W := by
 unfold findF
 split
 ·kernel_rfl
 ·kernel_rfl
structure Finds (ff : Nat) (J : World → Prop) (exF exJ : Nat → Nat → Prop) (rv : Value) (es : List BE) : Prop where
 call : ∀ W,J W → ∀ l : List UInt8,Calls Tryz.prog ff #[rv,.string ⟨l.toArray⟩] W fun e w' => e = .returned (foundV (BE.find es l)) ∧ J w' ∧ CF W w' exF
 stay : ∀ W W',J W → CF W W' exJ → J W'
theorem foundC_eight (x : Option BE) : ∃ v0 v1 v2 v3 v4 v5 v6 v7,foundC x = [.string v0,.int .i64 v1,.int .u64 v2,.int .u64 v3,.int .i64 v4,.int .i64 v5,.int .i64 v6,.int .i64 v7] := by cases x <;> exact ⟨_,_,_,_,_,_,_,_,rfl⟩
theorem range_gb {w w' : World} {b o : Nat} {cs : List Value} (h : w.rangeAt b o cs) (k : w.grownBy w' none) : w'.rangeAt b o cs := fun i v hv => k.cell (h i v hv) (by simp)
theorem live_eight {w : World} {b : Nat} (h : Live w b 8) : (∃ d,w.cell? ⟨b,0,none⟩ = some d) ∧ (∃ d,w.cell? ⟨b,1,none⟩ = some d) ∧ (∃ d,w.cell? ⟨b,2,none⟩ = some d) ∧ (∃ d,w.cell? ⟨b,3,none⟩ = some d) ∧ (∃ d,w.cell? ⟨b,4,none⟩ = some d) ∧ (∃ d,w.cell? ⟨b,5,none⟩ = some d) ∧ (∃ d,w.cell? ⟨b,6,none⟩ = some d) ∧ (∃ d,w.cell? ⟨b,7,none⟩ = some d) ∧ w.frozen? ⟨b,0,none⟩ = false ∧ w.frozen? ⟨b,1,none⟩ = false ∧ w.frozen? ⟨b,2,none⟩ = false ∧ w.frozen? ⟨b,3,none⟩ = false ∧ w.frozen? ⟨b,4,none⟩ = false ∧ w.frozen? ⟨b,5,none⟩ = false ∧ w.frozen? ⟨b,6,none⟩ = false ∧ w.frozen? ⟨b,7,none⟩ = false := by
 have hc : ∀ j,j < 8 → ∃ v,w.cell? ⟨b,j,none⟩ = some v := fun j hj => Option.isSome_iff_exists.1 (h.some j hj)
 exact ⟨hc 0 (by decide),hc 1 (by decide),hc 2 (by decide),hc 3 (by decide),hc 4 (by decide),hc 5 (by decide),hc 6 (by decide),hc 7 (by decide),h.frozen 0,h.frozen 1,h.frozen 2,h.frozen 3,h.frozen 4,h.frozen 5,h.frozen 6,h.frozen 7⟩
theorem eight_cells {w : World} {b : Nat} {v0 v1 v2 v3 v4 v5 v6 v7 : Value} (h : w.rangeAt b 0 [v0,v1,v2,v3,v4,v5,v6,v7]) : w.cell? ⟨b,0,none⟩ = some v0 ∧ w.cell? ⟨b,1,none⟩ = some v1 ∧ w.cell? ⟨b,2,none⟩ = some v2 ∧ w.cell? ⟨b,3,none⟩ = some v3 ∧ w.cell? ⟨b,4,none⟩ = some v4 ∧ w.cell? ⟨b,5,none⟩ = some v5 ∧ w.cell? ⟨b,6,none⟩ = some v6 ∧ w.cell? ⟨b,7,none⟩ = some v7 :=
 ⟨h 0 _ rfl,h 1 _ rfl,h 2 _ rfl,h 3 _ rfl,h 4 _ rfl,h 5 _ rfl,h 6 _ rfl,h 7 _ rfl⟩
theorem twoEight (w : World) (b c : Nat) (hbc : b ≠ c) (v0 v1 v2 v3 v4 v5 v6 v7 u0 u1 u2 u3 u4 u5 u6 u7 : Value) (hA : w.rangeAt b 0 [v0,v1,v2,v3,v4,v5,v6,v7]) (hB : w.rangeAt c 0 [u0,u1,u2,u3,u4,u5,u6,u7]) :
  ((((((((((((((((w.setCell ⟨b,0,none⟩ v0).setCell ⟨b,1,none⟩ v1).setCell ⟨b,2,none⟩ v2).setCell ⟨b,3,none⟩ v3).setCell ⟨b,4,none⟩ v4).setCell ⟨b,5,none⟩ v5).setCell ⟨b,6,none⟩ v6).setCell ⟨b,7,none⟩ v7).setCell ⟨c,0,none⟩ u0).setCell ⟨c,1,none⟩ u1).setCell ⟨c,2,none⟩ u2).setCell ⟨c,3,none⟩ u3).setCell ⟨c,4,none⟩ u4).setCell ⟨c,5,none⟩ u5).setCell ⟨c,6,none⟩ u6).setCell ⟨c,7,none⟩ u7).rangeAt b 0 [v0,v1,v2,v3,v4,v5,v6,v7] ∧ ((((((((((((((((w.setCell ⟨b,0,none⟩ v0).setCell ⟨b,1,none⟩ v1).setCell ⟨b,2,none⟩ v2).setCell ⟨b,3,none⟩ v3).setCell ⟨b,4,none⟩ v4).setCell ⟨b,5,none⟩ v5).setCell ⟨b,6,none⟩ v6).setCell ⟨b,7,none⟩ v7).setCell ⟨c,0,none⟩ u0).setCell ⟨c,1,none⟩ u1).setCell ⟨c,2,none⟩ u2).setCell ⟨c,3,none⟩ u3).setCell ⟨c,4,none⟩ u4).setCell ⟨c,5,none⟩ u5).setCell ⟨c,6,none⟩ u6).setCell ⟨c,7,none⟩ u7).rangeAt c 0 [u0,u1,u2,u3,u4,u5,u6,u7] ∧ CF w ((((((((((((((((w.setCell ⟨b,0,none⟩ v0).setCell ⟨b,1,none⟩ v1).setCell ⟨b,2,none⟩ v2).setCell ⟨b,3,none⟩ v3).setCell ⟨b,4,none⟩ v4).setCell ⟨b,5,none⟩ v5).setCell ⟨b,6,none⟩ v6).setCell ⟨b,7,none⟩ v7).setCell ⟨c,0,none⟩ u0).setCell ⟨c,1,none⟩ u1).setCell ⟨c,2,none⟩ u2).setCell ⟨c,3,none⟩ u3).setCell ⟨c,4,none⟩ u4).setCell ⟨c,5,none⟩ u5).setCell ⟨c,6,none⟩ u6).setCell ⟨c,7,none⟩ u7) (fun x _ => x = b ∨ x = c) := by
 obtain ⟨p0,p1,p2,p3,p4,p5,p6,p7⟩ := eight_cells hA
 have E1 := eightSet w b v0 v1 v2 v3 v4 v5 v6 v7 p0 p1 p2 p3 p4 p5 p6 p7
 have C1 : CF w ((((((((w.setCell ⟨b,0,none⟩ v0).setCell ⟨b,1,none⟩ v1).setCell ⟨b,2,none⟩ v2).setCell ⟨b,3,none⟩ v3).setCell ⟨b,4,none⟩ v4).setCell ⟨b,5,none⟩ v5).setCell ⟨b,6,none⟩ v6).setCell ⟨b,7,none⟩ v7) (fun x _ => x = b) := by
  repeat refine CF.setCell ?_ _ _ _ (fun _ => rfl)
  exact CF.refl _ _
 have hB2 := C1.range hB (fun _ _ e => hbc e.symm)
 generalize ((((((((w.setCell ⟨b,0,none⟩ v0).setCell ⟨b,1,none⟩ v1).setCell ⟨b,2,none⟩ v2).setCell ⟨b,3,none⟩ v3).setCell ⟨b,4,none⟩ v4).setCell ⟨b,5,none⟩ v5).setCell ⟨b,6,none⟩ v6).setCell ⟨b,7,none⟩ v7) = W8 at *
 obtain ⟨r0,r1,r2,r3,r4,r5,r6,r7⟩ := eight_cells hB2
 have E2 := eightSet W8 c u0 u1 u2 u3 u4 u5 u6 u7 r0 r1 r2 r3 r4 r5 r6 r7
 have C2 : CF W8 ((((((((W8.setCell ⟨c,0,none⟩ u0).setCell ⟨c,1,none⟩ u1).setCell ⟨c,2,none⟩ u2).setCell ⟨c,3,none⟩ u3).setCell ⟨c,4,none⟩ u4).setCell ⟨c,5,none⟩ u5).setCell ⟨c,6,none⟩ u6).setCell ⟨c,7,none⟩ u7) (fun x _ => x = c) := by
  repeat refine CF.setCell ?_ _ _ _ (fun _ => rfl)
  exact CF.refl _ _
 exact ⟨C2.range E1 (fun _ _ e => hbc e),E2,(C1.mono (fun _ _ _ e => .inl e)).trans C2 (fun _ _ _ e => .inr e)⟩
theorem results_cctmp {fn : Func} {a b u : Tmp} {ty : TypeId} (h : fn.results = #[.cell a ty,.cell b ty,.tmp u]) (tmps : Array Value) (P : Program) (w : World) (ba bb : Nat) (hp : tmps.getD a undef = .pointer (some ⟨ba,0,none⟩)) (hq : tmps.getD b undef = .pointer (some ⟨bb,0,none⟩)) (x y : Value) (hl : (loadVar ty ⟨ba,0,none⟩).run P w = .ok x w) (hm : (loadVar ty ⟨bb,0,none⟩).run P w = .ok y w) :
  (results fn tmps).run P w = .ok (.tuple #[x,y,tmps.getD u undef]) w := by
 have hp' : tmps[a]?.getD undef = .pointer (some ⟨ba,0,none⟩) := by simpa using hp
 have hq' : tmps[b]?.getD undef = .pointer (some ⟨bb,0,none⟩) := by simpa using hq
 simp [results,h,hp',hq',hl,hm,asAddr]
set_option maxHeartbeats 1000000 in
theorem hfind_any (hb base T : Nat) (fv rv : Value) (J : World → Prop) (exF exJ : Nat → Nat → Prop) (es : List BE) (la lb : List UInt8) (ua xa ub xb now : Int) (w : World)
  (hm : ∀ W,(method 555 T fv "Find").run Tryz.prog W = .ok (findF T,rv) W) (hF : Finds (findF T) J exF exJ rv es) (hJ : J w)
  (c0 : w.cell? ⟨hb,0,none⟩ = some (.iface T fv)) (c4 : w.cell? ⟨hb,4,none⟩ = some (.int .i64 now)) (h1 : ∀ y,¬ exF hb y) (h2 : ∀ b y,base ≤ b → ¬ exF b y) (h3 : ∀ b y,base ≤ b → exJ b y) (hbase : base ≤ w.heap.size) :
  Calls Tryz.prog 182 #[.pointer (some ⟨hb,0,none⟩),.agg #[.string ⟨la.toArray⟩,.int .i64 ua,.int .i64 xa],.agg #[.string ⟨lb.toArray⟩,.int .i64 ub,.int .i64 xb]] w fun e w' => e = .returned (.tuple #[.agg (foundC (BE.find es la)).toArray,.agg (foundC (BE.find es lb)).toArray,.int .i64 (pairCode (BE.find es la) (BE.find es lb) now ua ub xa xb)]) ∧ J w' ∧ CF w w' exF := by
 obtain ⟨W0,hW0⟩ : ∃ W,W = (((w.alloc (.cells #[.string ⟨la.toArray⟩,.int .i64 ua,.int .i64 xa] 335)).alloc (.cells #[.string ⟨lb.toArray⟩,.int .i64 ub,.int .i64 xb] 335)).alloc (.cells noEntry 138)).alloc (.cells noEntry 138) := ⟨_,rfl⟩
 have G0 : w.grownBy W0 none := by rw [hW0]; exact gb_alloc (gb_alloc (gb_alloc (World.grownBy_alloc w _ none) _) _) _
 have s0 : W0.heap.size = w.heap.size + 4 := by rw [hW0]; simp only [World.size_alloc]
 have RA : W0.rangeAt w.heap.size 0 [.string ⟨la.toArray⟩,.int .i64 ua,.int .i64 xa] := by
  rw [hW0]
  exact range_gb (cells_range w #[.string ⟨la.toArray⟩,.int .i64 ua,.int .i64 xa] _) (gb_alloc (gb_alloc (World.grownBy_alloc _ _ none) _) _)
 have RB : W0.rangeAt (w.heap.size + 1) 0 [.string ⟨lb.toArray⟩,.int .i64 ub,.int .i64 xb] := by
  have h := range_gb (cells_range (w.alloc (.cells #[.string ⟨la.toArray⟩,.int .i64 ua,.int .i64 xa] 335)) #[.string ⟨lb.toArray⟩,.int .i64 ub,.int .i64 xb] 335) (gb_alloc (World.grownBy_alloc _ (.cells noEntry 138) none) (.cells noEntry 138))
  rw [World.size_alloc] at h
  rw [hW0]
  exact h
 have LA : Live W0 (w.heap.size + 1 + 1) 8 := by
  have h := (Live.new ((w.alloc (.cells #[.string ⟨la.toArray⟩,.int .i64 ua,.int .i64 xa] 335)).alloc (.cells #[.string ⟨lb.toArray⟩,.int .i64 ub,.int .i64 xb] 335)) noEntry 138).grown (World.grownBy_alloc _ (.cells noEntry 138) none)
  rw [World.size_alloc,World.size_alloc] at h
  rw [hW0]
  exact h
 have LB : Live W0 (w.heap.size + 1 + 1 + 1) 8 := by
  have h := Live.new (((w.alloc (.cells #[.string ⟨la.toArray⟩,.int .i64 ua,.int .i64 xa] 335)).alloc (.cells #[.string ⟨lb.toArray⟩,.int .i64 ub,.int .i64 xb] 335)).alloc (.cells noEntry 138)) noEntry 138
  rw [World.size_alloc,World.size_alloc,World.size_alloc] at h
  rw [hW0]
  exact h
 obtain ⟨x,hx⟩ : ∃ x,BE.find es la = x := ⟨_,rfl⟩
 obtain ⟨y,hy⟩ : ∃ y,BE.find es lb = y := ⟨_,rfl⟩
 have HA := hid (fun W hW => hF.call W hW la)
 have HB := hid (fun W hW => hF.call W hW lb)
 rw [hx] at HA
 rw [hy] at HB
 rw [hx,hy]
 clear hx hy
 obtain ⟨v0,v1,v2,v3,v4,v5,v6,v7,hv⟩ := foundC_eight x
 obtain ⟨u0,u1,u2,u3,u4,u5,u6,u7,hu⟩ := foundC_eight y
 obtain ⟨ba,hba⟩ : ∃ b,x.isSome = b := ⟨_,rfl⟩
 obtain ⟨bb,hbb⟩ : ∃ b,y.isSome = b := ⟨_,rfl⟩
 unfold foundV at HA HB
 rw [hv,hba] at HA
 rw [hu,hbb] at HB
 have HST := hid hF.stay
 have HJ := hid hJ
 have HW0 := hid hW0
 have Hv := hid hv
 have Hu := hid hu
 have Hba := hid hba
 have Hbb := hid hbb
 have HG0 := hid G0
 have a0 := G0.cell c0 (by simp)
 have a1 : W0.cell? ⟨w.heap.size,0,none⟩ = some (.string ⟨la.toArray⟩) := RA 0 _ rfl
 have HRA := hid RA
 have HRB := hid RB
 have HLA := hid LA
 have HLB := hid LB
 have HN : Hid (w.heap.size ≤ hb → False) := fun e => by have := cell_block c0; omega
 have n1 : w.heap.size + 1 + 1 ≠ hb := fun e => HN.out (by omega)
 have n2 : w.heap.size + 1 + 1 ≠ w.heap.size := by omega
 have n3 : w.heap.size + 1 + 1 + 1 ≠ hb := fun e => HN.out (by omega)
 have n4 : w.heap.size + 1 + 1 + 1 ≠ w.heap.size + 1 := by omega
 have H1 := hid h1
 have H2 := hid h2
 have H3 := hid h3
 clear hF hJ hW0 hv hu hba hbb RA RB LA LB h1 h2 h3 G0
 have hcf := findF_enter T
 go_enter Tryz.func182,Tryz.ntmps182
 go_wp2_with fail
 rw [← HW0.out]
 go_cut [9] (fun c wx => c = .bool ba ∧ wx.rangeAt (w.heap.size + 1 + 1) 0 [.string v0,.int .i64 v1,.int .u64 v2,.int .u64 v3,.int .i64 v4,.int .i64 v5,.int .i64 v6,.int .i64 v7] ∧ J wx ∧ CF W0 wx (fun b y => exF b y ∨ b = w.heap.size + 1 + 1))
 case first =>
  go_region_held3 (fun w' => w'.cell? ⟨hb,0,none⟩ = some (.iface T fv) ∧ w'.cell? ⟨w.heap.size,0,none⟩ = some (.string ⟨la.toArray⟩)) (go_keep) (first | ((with_reducible show Calls _ (findF T) _ _ _); refine (HA.out _ (HST.out _ _ HJ.out (CF.of_gb (gb_drewN HG0.out 1) _))).mono ?_; rintro e w1 ⟨rfl,j1,C1⟩; have b0 := C1.undrew.cell a0 (H1.out 0); have b1 := C1.undrew.cell a1 (H2.out _ 0 hbase); have HJ1 := hid j1; have HC1 := hid C1.undrew; clear j1 C1; have hL := HLA.out.cf HC1.out; obtain ⟨⟨d0,q0⟩,⟨d1,q1⟩,⟨d2,q2⟩,⟨d3,q3⟩,⟨d4,q4⟩,⟨d5,q5⟩,⟨d6,q6⟩,⟨d7,q7⟩,f0,f1,f2,f3,f4,f5,f6,f7⟩ := live_eight hL))
  go_wp2
  go_meet
  refine ⟨rfl,eightSet _ _ _ _ _ _ _ _ _ _ q0 q1 q2 q3 q4 q5 q6 q7,?_,?_⟩
  ·refine HST.out _ _ HJ1.out ?_
   repeat refine CF.setCell ?_ _ _ _ (fun _ => H3.out _ _ (by omega))
   exact CF.refl _ _
  ·repeat refine CF.setCell ?_ _ _ _ (fun _ => .inr rfl)
   exact HC1.out.mono (fun _ _ _ e => .inl e)
 case rest =>
  obtain ⟨rfl,hrA,hj1,hC1⟩ := hcut
  have HR1 := hid hrA
  have HJ1 := hid hj1
  have HC1 := hid hC1
  have k0 := hC1.cell a0 (fun e => by rcases e with e | e; exact H1.out _ e; exact HN.out (by omega))
  have k1 : wc.cell? ⟨w.heap.size + 1,0,none⟩ = some (.string ⟨lb.toArray⟩) := hC1.cell (HRB.out 0 _ rfl) (fun e => by rcases e with e | e; exact H2.out _ _ (by omega) e; omega)
  clear hrA hj1 hC1 a0 a1
  go_wp2_with fail
  go_cut [10] (fun c wx => c = .bool bb ∧ wx.rangeAt (w.heap.size + 1 + 1 + 1) 0 [.string u0,.int .i64 u1,.int .u64 u2,.int .u64 u3,.int .i64 u4,.int .i64 u5,.int .i64 u6,.int .i64 u7] ∧ wx.rangeAt (w.heap.size + 1 + 1) 0 [.string v0,.int .i64 v1,.int .u64 v2,.int .u64 v3,.int .i64 v4,.int .i64 v5,.int .i64 v6,.int .i64 v7] ∧ J wx ∧ CF W0 wx (fun b y => exF b y ∨ b = w.heap.size + 1 + 1 ∨ b = w.heap.size + 1 + 1 + 1))
  case first =>
   go_region_held3 (fun w' => w'.cell? ⟨hb,0,none⟩ = some (.iface T fv) ∧ w'.cell? ⟨w.heap.size + 1,0,none⟩ = some (.string ⟨lb.toArray⟩)) (go_keep) (first | ((with_reducible show Calls _ (findF T) _ _ _); refine (HB.out _ (HST.out _ _ HJ1.out (CF.of_gb (gb_drewN (World.grownBy.refl _ _) 1) _))).mono ?_; rintro e w1 ⟨rfl,j1,C1⟩; have b0 := C1.undrew.cell k0 (H1.out 0); have b1 := C1.undrew.cell k1 (H2.out _ 0 (by omega)); have HJ2 := hid j1; have HC2 := hid C1.undrew; clear j1 C1; have hL := (HLB.out.cf HC1.out).cf HC2.out; obtain ⟨⟨d0,q0⟩,⟨d1,q1⟩,⟨d2,q2⟩,⟨d3,q3⟩,⟨d4,q4⟩,⟨d5,q5⟩,⟨d6,q6⟩,⟨d7,q7⟩,f0,f1,f2,f3,f4,f5,f6,f7⟩ := live_eight hL))
   go_wp2
   go_meet
   have C3 := HC2.out.mono (ex' := fun b y => exF b y ∨ b = w.heap.size + 1 + 1 + 1) (fun _ _ _ e => .inl e)
   refine ⟨rfl,eightSet _ _ _ _ _ _ _ _ _ _ q0 q1 q2 q3 q4 q5 q6 q7,?_,?_,?_⟩
   ·refine CF.range (ex := fun b y => exF b y ∨ b = w.heap.size + 1 + 1 + 1) ?_ HR1.out (fun j _ e => ?_)
    ·repeat refine CF.setCell ?_ _ _ _ (fun _ => .inr rfl)
     exact C3
    ·rcases e with e | e
     ·exact H2.out _ _ (by omega) e
     ·omega
   ·refine HST.out _ _ HJ2.out ?_
    repeat refine CF.setCell ?_ _ _ _ (fun _ => H3.out _ _ (by omega))
    exact CF.refl _ _
   ·refine (HC1.out.mono (fun _ _ _ e => e.elim .inl (fun e => .inr (.inl e)))).trans (ex2 := fun b y => exF b y ∨ b = w.heap.size + 1 + 1 + 1) ?_ (fun _ _ _ e => e.elim .inl (fun e => .inr (.inr e)))
    repeat refine CF.setCell ?_ _ _ _ (fun _ => .inr rfl)
    exact C3
  case rest =>
   obtain ⟨rfl,hrB,hrA,hj2,hC2⟩ := hcut
   have HRA2 := hid hrA
   have HRB2 := hid hrB
   have HJ2 := hid hj2
   have HC2 := hid hC2
   clear HJ1 HC1 HR1 k0 k1
   have t1 : wc.cell? ⟨w.heap.size,1,none⟩ = some (.int .i64 ua) := hC2.cell (HRA.out 1 _ rfl) (fun e => by rcases e with e | e | e; exact H2.out _ _ (by omega) e; omega; omega)
   have t2 : wc.cell? ⟨w.heap.size,2,none⟩ = some (.int .i64 xa) := hC2.cell (HRA.out 2 _ rfl) (fun e => by rcases e with e | e | e; exact H2.out _ _ (by omega) e; omega; omega)
   have t3 : wc.cell? ⟨w.heap.size + 1,1,none⟩ = some (.int .i64 ub) := hC2.cell (HRB.out 1 _ rfl) (fun e => by rcases e with e | e | e; exact H2.out _ _ (by omega) e; omega; omega)
   have t4 : wc.cell? ⟨w.heap.size + 1,2,none⟩ = some (.int .i64 xb) := hC2.cell (HRB.out 2 _ rfl) (fun e => by rcases e with e | e | e; exact H2.out _ _ (by omega) e; omega; omega)
   have t5 : wc.cell? ⟨hb,4,none⟩ = some (.int .i64 now) := hC2.cell (HG0.out.cell c4 (by simp)) (fun e => by rcases e with e | e | e; exact H1.out _ e; exact n1 e.symm; exact n3 e.symm)
   clear hrA hrB hj2 hC2
   go_upto_block 0 with fail
   go_cut [8] (fun c wx => c = .int .i64 (pairCode x y now ua ub xa xb) ∧ wx = wc)
   case first =>
    cases x with
    | none =>
     obtain rfl : ba = false := Hba.out.symm
     go_wp2_with fail
     go_meet
     exact ⟨rfl,rfl⟩
    | some e =>
     obtain rfl : ba = true := Hba.out.symm
     cases y with
     | none =>
      obtain rfl : bb = false := Hbb.out.symm
      go_wp2_with fail
      go_meet
      exact ⟨rfl,rfl⟩
     | some f =>
      obtain rfl : bb = true := Hbb.out.symm
      have re : wc.rangeAt (w.heap.size + 1 + 1) 0 e.pcells := by have h := HRA2.out; rw [← Hv.out] at h; exact h
      have rf : wc.rangeAt (w.heap.size + 1 + 1 + 1) 0 f.pcells := by have h := HRB2.out; rw [← Hu.out] at h; exact h
      have HO1 := hid (isOver_any (w.heap.size + 1 + 1) 4 e now wc (re 6 _ rfl))
      have HO2 := hid (isOver_any (w.heap.size + 1 + 1 + 1) 4 f now wc (rf 6 _ rfl))
      have HH1 := hid (has_any (w.heap.size + 1 + 1) 4 e 32 5 wc (by decide) (by decide) (re 7 _ rfl))
      have HH2 := hid (has_any (w.heap.size + 1 + 1 + 1) 4 f 32 5 wc (by decide) (by decide) (rf 7 _ rfl))
      have HPC : Hid (pairCode (some e) (some f) now ua ub xa xb = if e.gone now = true then xa else if f.gone now = true then xb else if e.has 32 = true ∨ f.has 32 = true then 12 else 0) := rfl
      clear re rf
      generalize e.gone now = b1 at *
      generalize f.gone now = b2 at *
      generalize e.has 32 = b3 at *
      generalize f.has 32 = b4 at *
      generalize pairCode (some e) (some f) now ua ub xa xb = pc at *
      cases b1 with
      | true =>
       go_wp2_with (first | (go_at_call 226; refine HO1.out.mono ?_; clear HO1; rintro e w1 ⟨rfl,rfl⟩))
       go_meet
       exact ⟨by rw [HPC.out]; rfl,rfl⟩
      | false =>
       cases b2 with
       | true =>
        go_wp2_with (first | (go_at_call 226; refine HO1.out.mono ?_; clear HO1; rintro e w1 ⟨rfl,rfl⟩) | (go_at_call 226; refine HO2.out.mono ?_; clear HO2; rintro e w1 ⟨rfl,rfl⟩))
        go_meet
        exact ⟨by rw [HPC.out]; rfl,rfl⟩
       | false =>
        cases b3 with
        | true =>
         go_wp2_with (first | (go_at_call 226; refine HO1.out.mono ?_; clear HO1; rintro e w1 ⟨rfl,rfl⟩) | (go_at_call 226; refine HO2.out.mono ?_; clear HO2; rintro e w1 ⟨rfl,rfl⟩) | (go_at_call 227; refine HH1.out.mono ?_; clear HH1; rintro e w1 ⟨rfl,rfl⟩) | (go_at_call 227; refine HH2.out.mono ?_; clear HH2; rintro e w1 ⟨rfl,rfl⟩))
         go_meet
         exact ⟨by rw [HPC.out]; simp,rfl⟩
        | false =>
         cases b4 with
         | true =>
          go_wp2_with (first | (go_at_call 226; refine HO1.out.mono ?_; clear HO1; rintro e w1 ⟨rfl,rfl⟩) | (go_at_call 226; refine HO2.out.mono ?_; clear HO2; rintro e w1 ⟨rfl,rfl⟩) | (go_at_call 227; refine HH1.out.mono ?_; clear HH1; rintro e w1 ⟨rfl,rfl⟩) | (go_at_call 227; refine HH2.out.mono ?_; clear HH2; rintro e w1 ⟨rfl,rfl⟩))
          go_meet
          exact ⟨by rw [HPC.out]; simp,rfl⟩
         | false =>
          go_wp2_with (first | (go_at_call 226; refine HO1.out.mono ?_; clear HO1; rintro e w1 ⟨rfl,rfl⟩) | (go_at_call 226; refine HO2.out.mono ?_; clear HO2; rintro e w1 ⟨rfl,rfl⟩) | (go_at_call 227; refine HH1.out.mono ?_; clear HH1; rintro e w1 ⟨rfl,rfl⟩) | (go_at_call 227; refine HH2.out.mono ?_; clear HH2; rintro e w1 ⟨rfl,rfl⟩))
          go_meet
          exact ⟨by rw [HPC.out]; simp,rfl⟩
   case rest =>
    obtain ⟨rfl,rfl⟩ := hcut
    clear t1 t2 t3 t4 t5
    obtain ⟨p0,p1,p2,p3,p4,p5,p6,p7⟩ := eight_cells HRA2.out
    obtain ⟨r0,r1,r2,r3,r4,r5,r6,r7⟩ := eight_cells HRB2.out
    have hLA := (HLA.out.cf HC2.out)
    have hLB := (HLB.out.cf HC2.out)
    obtain ⟨_,_,_,_,_,_,_,_,f0,f1,f2,f3,f4,f5,f6,f7⟩ := live_eight hLA
    obtain ⟨_,_,_,_,_,_,_,_,g0,g1,g2,g3,g4,g5,g6,g7⟩ := live_eight hLB
    clear hLA hLB
    go_wp2_with fail
    have T2 := twoEight wc (w.heap.size + 1 + 1) (w.heap.size + 1 + 1 + 1) (by omega) _ _ _ _ _ _ _ _ _ _ _ _ _ _ _ _ HRA2.out HRB2.out
    refine bodyPost_ret (results_cctmp Tryz.results182 _ _ _ (w.heap.size + 1 + 1) (w.heap.size + 1 + 1 + 1) rfl rfl _ _ (load_of T2.1 138 _ Tryz.underlying138 rfl Tryz.sizeEntry) (load_of T2.2.1 138 _ Tryz.underlying138 rfl Tryz.sizeEntry)) rfl ⟨by rw [Hv.out,Hu.out]; rfl,?_,?_⟩
    ·exact HST.out _ _ HJ2.out (T2.2.2.mono (fun b _ _ e => H3.out _ _ (by rcases e with e | e <;> omega)))
    ·refine ((CF.before HG0.out HC2.out).trans T2.2.2 (fun _ _ _ e => e.elim (fun e => .inr (.inl e)) (fun e => .inr (.inr e)))).mono (fun b _ hlt e => ?_)
     rcases e with e | e | e
     ·exact e
     ·omega
     ·omega
end Go.Proofs.YtbanfbpfapjfcaaGreatDoor
