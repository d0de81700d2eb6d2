/-
  Contract of World.free and World.step at a step that shows. Conditions: in each statement.
-/
import Derived.Test.YtbanfbpfapjfcaaGreatDoorGLaw7
import Derived.Test.YtbanfbpfapjfcaaGreatDoorGRBoxK
namespace Go.Proofs.YtbanfbpfapjfcaaGreatDoor
open Go.RowKit
set_option maxRecDepth 100000

theorem gb_of_below {w w' : World} (h : Below w.heap.size w w') : w.grownBy w' none := ⟨h.os, h.tape, h.output, h.size, fun i hi _ => h.block i hi⟩

set_option maxHeartbeats 1000000 in
theorem free_show (wb : Nat) (kind B C : Int) (K D : UInt64) (zs : List UInt8) (c1 c6 c8 c9 c10 c11 c12 c13 c14 c15 c16 c17 c18 c19 c20 c21 c22 c23 c24 c25 c26 c27 c28 c29 c30 c31 c32 c33 c34 c35 c36 c37 c38 c39 c40 : Value) (w : World) (hk1 : (kind == 1) = false) (hk2 : (kind == 2) = false) (hk3 : (kind == 3) = false) (hk : (kind == 4) = true) (hl : zs.length ≤ 140737488351232) (htab : TabHere w) :
    Calls Tryz.prog 46 #[.pointer (some ⟨wb, 0, none⟩), .agg #[.int .i64 kind, c1, .int .i64 B, .int .i64 C, .int .u64 (K.toNat : Int), .int .u64 (D.toNat : Int), c6, .string ⟨zs.toArray⟩, c8, c9, c10, c11, c12, c13, c14, c15, c16, c17, c18, c19, c20, c21, c22, c23, c24, c25, c26, c27, c28, c29, c30, c31, c32, c33, c34, c35, c36, c37, c38, c39, c40]] w fun e w' => e = .returned (.bool true) ∧ w.grownBy w' none := by
  have hl2 : zs.length ≤ 140737488355328 := by omega
  have hO := OpAt.new w kind B C K D zs c1 c6 c8 c9 c10 c11 c12 c13 c14 c15 c16 c17 c18 c19 c20 c21 c22 c23 c24 c25 c26 c27 c28 c29 c30 c31 c32 c33 c34 c35 c36 c37 c38 c39 c40
  obtain ⟨st, ec, HSR⟩ : ∃ (st : ByteArray) (ec : Int), Hid (showRes zs = .tuple #[.string st, .int .i64 ec]) := by
    cases h : shown zs with
    | none => exact ⟨_, _, showRes_none h⟩
    | some t => exact ⟨_, _, showRes_some h⟩
  go_enter Tryz.func46, Tryz.ntmps46
  go_wp2_with fail
  refine (lent_all zs _ _ hl).mono ?_
  rintro e w1 ⟨a, cap, gB, rfl, hL, hg1⟩
  have hO1 := hO.grown hg1 (by simp)
  have G1 := gb_trans (World.grownBy_alloc w _ none) hg1
  have hold : ∀ j, some j = gB → w.heap.size + 1 ≤ j := fun j hj => by have := hL.old j hj; simpa using this
  have hgb : gB ≠ some w.heap.size := fun e => by have := hold _ e.symm; omega
  have hcp := hL.cap
  obtain ⟨hcp1, hcp2⟩ := hcp
  obtain ⟨k0, k2, k3, k4, k5, k7⟩ := hO1
  clear hO hg1
  go_wp2_with fail
  refine (wshow_any zs zs.length a cap _ (hid rfl) hcp1 hcp2 hL.at (tab_grown htab G1)).mono ?_
  rintro e w2 ⟨rfl, hb2⟩
  have hg2 := gb_of_below hb2
  have hL2 := hL.grown hg2
  have hO2 : OpAt w2 w.heap.size kind B C K D zs := OpAt.grown ⟨k0, k2, k3, k4, k5, k7⟩ hg2 (by simp)
  have G2 := gb_trans G1 hg2
  rw [HSR.out]
  clear k0 k2 k3 k4 k5 k7 hL G1 hg2 hb2
  obtain ⟨k0, k2, k3, k4, k5, k7⟩ := hO2
  go_wp2_with fail
  refine (back_all zs zs.length a cap gB _ _ (hid rfl) hl hL2).mono ?_
  rintro e w4 ⟨rfl, hg4⟩
  have hO4 : OpAt w4 w.heap.size kind B C K D zs := OpAt.grown ⟨k0, k2, k3, k4, k5, k7⟩ hg4 hgb
  have G4 : w.grownBy w4 none := gb_newer G2 hg4 (fun j hj => by have := hold j hj; omega)
  clear k0 k2 k3 k4 k5 k7 hg4 hL2 G2
  obtain ⟨k0, k2, k3, k4, k5, k7⟩ := hO4
  go_wp2_with (first | (refine wpList_bytes_of _ rfl _ 9 32 rfl 5 Tryz.underlying9 Tryz.underlying32 Tryz.underlying5 zs rfl hl2 ?_; intro b5 cap5 w5 hc5 hc5m hat5 hg5))
  have G5 := gb_trans G4 hg5
  refine (rShow_any zs zs.length _ cap5 _ (hid rfl) hl2 hc5 (by unfold maxLen at hc5m; exact hc5m) hat5 (tab_grown htab G5)).mono ?_
  rintro e w6 ⟨rfl, hg6⟩
  have G6 := gb_trans G5 hg6
  rw [HSR.out]
  clear k0 k2 k3 k4 k5 k7 hg5 hg6 G4 hat5 G5
  go_wp2
  go_ret
  exact ⟨rfl, G6⟩

set_option maxHeartbeats 1000000 in
theorem step_show (wb : Nat) (B C : Int) (K D : UInt64) (zs : List UInt8) (c1 c6 c8 c9 c10 c11 c12 c13 c14 c15 c16 c17 c18 c19 c20 c21 c22 c23 c24 c25 c26 c27 c28 c29 c30 c31 c32 c33 c34 c35 c36 c37 c38 c39 c40 : Value) (kind : Int) (w : World) (hk4 : kind = 4) (hl : zs.length ≤ 140737488351232) (htab : TabHere w) :
    Calls Tryz.prog 27 #[.pointer (some ⟨wb, 0, none⟩), .agg #[.int .i64 kind, c1, .int .i64 B, .int .i64 C, .int .u64 (K.toNat : Int), .int .u64 (D.toNat : Int), c6, .string ⟨zs.toArray⟩, c8, c9, c10, c11, c12, c13, c14, c15, c16, c17, c18, c19, c20, c21, c22, c23, c24, c25, c26, c27, c28, c29, c30, c31, c32, c33, c34, c35, c36, c37, c38, c39, c40]] w fun e w' => e = .returned (.bool true) ∧ w.grownBy w' none := by
  subst hk4
  have G := World.grownBy_alloc w (.cells ((#[.int .i64 4, c1, .int .i64 B, .int .i64 C, .int .u64 (K.toNat : Int), .int .u64 (D.toNat : Int), c6, .string ⟨zs.toArray⟩, c8, c9, c10, c11, c12, c13, c14, c15, c16, c17, c18, c19, c20, c21, c22, c23, c24, c25, c26, c27, c28, c29, c30, c31, c32, c33, c34, c35, c36, c37, c38, c39, c40] : Array Value)) 82) none
  have CC := free_show wb 4 B C K D zs c1 c6 c8 c9 c10 c11 c12 c13 c14 c15 c16 c17 c18 c19 c20 c21 c22 c23 c24 c25 c26 c27 c28 c29 c30 c31 c32 c33 c34 c35 c36 c37 c38 c39 c40 (w.alloc (.cells #[.int .i64 4, c1, .int .i64 B, .int .i64 C, .int .u64 (K.toNat : Int), .int .u64 (D.toNat : Int), c6, .string ⟨zs.toArray⟩, c8, c9, c10, c11, c12, c13, c14, c15, c16, c17, c18, c19, c20, c21, c22, c23, c24, c25, c26, c27, c28, c29, c30, c31, c32, c33, c34, c35, c36, c37, c38, c39, c40] 82)) rfl rfl rfl rfl hl (tab_grown htab G)
  have C2 : Calls Tryz.prog 46 #[.pointer (some ⟨wb, 0, none⟩), .agg #[.int .i64 4, c1, .int .i64 B, .int .i64 C, .int .u64 (K.toNat : Int), .int .u64 (D.toNat : Int), c6, .string ⟨zs.toArray⟩, c8, c9, c10, c11, c12, c13, c14, c15, c16, c17, c18, c19, c20, c21, c22, c23, c24, c25, c26, c27, c28, c29, c30, c31, c32, c33, c34, c35, c36, c37, c38, c39, c40]] (w.alloc (.cells #[.int .i64 4, c1, .int .i64 B, .int .i64 C, .int .u64 (K.toNat : Int), .int .u64 (D.toNat : Int), c6, .string ⟨zs.toArray⟩, c8, c9, c10, c11, c12, c13, c14, c15, c16, c17, c18, c19, c20, c21, c22, c23, c24, c25, c26, c27, c28, c29, c30, c31, c32, c33, c34, c35, c36, c37, c38, c39, c40] 82)) fun e w' => e = .returned (.bool true) ∧ w.grownBy w' none :=
    CC.mono fun e w' ⟨h1, h2⟩ => ⟨h1, gb_trans G h2⟩
  have hrow : (w.alloc (.cells #[.int .i64 4, c1, .int .i64 B, .int .i64 C, .int .u64 (K.toNat : Int), .int .u64 (D.toNat : Int), c6, .string ⟨zs.toArray⟩, c8, c9, c10, c11, c12, c13, c14, c15, c16, c17, c18, c19, c20, c21, c22, c23, c24, c25, c26, c27, c28, c29, c30, c31, c32, c33, c34, c35, c36, c37, c38, c39, c40] 82)).heap[w.heap.size]? = some (.cells #[.int .i64 4, c1, .int .i64 B, .int .i64 C, .int .u64 (K.toNat : Int), .int .u64 (D.toNat : Int), c6, .string ⟨zs.toArray⟩, c8, c9, c10, c11, c12, c13, c14, c15, c16, c17, c18, c19, c20, c21, c22, c23, c24, c25, c26, c27, c28, c29, c30, c31, c32, c33, c34, c35, c36, c37, c38, c39, c40] 82 (0, 0)) := heap_alloc_new w _
  clear G CC
  go_enter Tryz.func27, Tryz.ntmps27
  go_wp2_with (refine wpList_load_row rfl 82 _ rfl w.heap.size rfl 82 _ (0, 0) _ hrow Tryz.underlying82 rfl Tryz.size82 ?_)
  refine C2.mono ?_
  rintro e w' ⟨rfl, R⟩
  clear C2 hrow
  go_wp2
  go_ret
  exact ⟨rfl, R⟩
end Go.Proofs.YtbanfbpfapjfcaaGreatDoor
