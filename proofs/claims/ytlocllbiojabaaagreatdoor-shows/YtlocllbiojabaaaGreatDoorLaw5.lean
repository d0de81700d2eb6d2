/-
  Contract of World.free at a step that seals: the program's answer is the document's, and the owner's book has two lists more. Conditions: in each statement.
-/
import Derived.Test.YtlocllbiojabaaaGreatDoorLaw4
namespace Go.Proofs.YtlocllbiojabaaaGreatDoor
open Go.RowKit
set_option maxRecDepth 100000

theorem below_gb {base : Nat} {w w' : World} (h : w.grownBy w' none) (hb : base ≤ w.heap.size) : Below base w w' := ⟨h.os, h.tape, h.output, h.size, fun k hk => h.block k (by omega) (by simp)⟩
theorem below_frm {base : Nat} {w w' : World} {ex : Nat → Prop} (h : Frm w w' ex) (hb : base ≤ w.heap.size) (hx : ∀ k, ex k → base ≤ k) : Below base w w' :=
  ⟨h.os, h.tape, h.output, h.size, fun k hk => h.block k (by omega) (fun e => by have := hx k e; omega)⟩

theorem Inv.vb_lt {base wb : Nat} {w : World} {l : List Ent} {vb : Value} (h : Inv base wb w l vb) (k : Nat) (hk : some k = vb.ownBlock) : base ≤ k ∧ k < w.heap.size := h.2.1.lt k hk.symm
theorem Inv.wb_lt {base wb : Nat} {w : World} {l : List Ent} {vb : Value} (h : Inv base wb w l vb) : wb < w.heap.size := (Array.getElem?_eq_some_iff.1 h.1).1

/-- Both lists that came out of one step are written over. -/
structure TwoMore (base wb : Nat) (w w' : World) (l : List Ent) : Prop where
  inv : ∃ l' vb', Inv base wb w' l' vb' ∧ l'.length ≤ l.length + 2
  below : Below base w w'

def badSeal (B : Int) (n : Nat) : Prop := isU B = false ∨ (isU B = true ∧ 200 < n)
theorem isU_out {B : Int} (h : isU B = false) : B < 1 ∨ 5 < B := by simp [isU] at h; omega
theorem isU_in {B : Int} (h : isU B = true) : 1 ≤ B ∧ B ≤ 5 := by simp [isU] at h; omega

theorem wseal_bad (K D : UInt64) (B : Int) (a : Option Addr) (n cap : Nat) (w : World) (h : Hid (badSeal B n)) :
    Calls Tryz.prog 22 #[.int .u64 (K.toNat : Int), .int .i64 B, .int .u64 (D.toNat : Int), .slice a n cap] w fun e w' => e = .returned (.tuple #[.slice none 0 0, .int .i64 1]) ∧ w = w' := by
  rcases h.out with h | ⟨h1, h2⟩
  · exact wseal_use _ _ B _ w h
  · exact wseal_long _ _ B a n cap w h1 h2
theorem rseal_bad (K D : UInt64) (B : Int) (a : Option Addr) (n cap : Nat) (w : World) (h : Hid (badSeal B n)) :
    Calls Tryz.prog 23 #[.int .u64 (K.toNat : Int), .int .i64 B, .int .u64 (D.toNat : Int), .slice a n cap] w fun e w' => e = .returned (.tuple #[.slice none 0 0, .int .i64 1]) ∧ w = w' := by
  rcases h.out with h | ⟨h1, h2⟩
  · exact rseal_use _ _ B _ w (isU_out h)
  · exact rseal_long _ _ B a n cap w (isU_in h1).1 (isU_in h1).2 h2

theorem len_two (l : List Ent) (x : Ent) (h : (l.length + 2) * 104 ≤ 140737488355328) : ((l ++ [x]).length + 1) * 104 ≤ 140737488355328 := by
  rw [List.length_append]
  exact h

/-- A nil list is written over. -/
theorem lbyte_nil (base wb : Nat) (l : List Ent) (vb : Value) (w : World) (hI : Inv base wb w l vb) (hbase : base ≤ w.heap.size) (hll : (l.length + 1) * 104 ≤ 140737488355328) :
    Calls Tryz.prog 24 #[.pointer (some ⟨wb, 2, none⟩), .slice none 0 0] w fun e w' => e = .returned (.tuple #[]) ∧ ∃ x vb', Inv base wb w' (l ++ [x]) vb' ∧ Below base w w' := by
  refine (lbyte_any base wb 0 none [] l vb none w hI hbase (hid rfl) (by omega) (hid fun _ => rfl) (hid (.inl ⟨rfl, rfl⟩)) hll).mono ?_
  rintro e w' ⟨rfl, x, vb', h1, h2, _, _⟩
  refine ⟨rfl, x, vb', h1, below_frm h2 hbase ?_⟩
  rintro k (h | h | h)
  · rw [h]; exact hI.2.2.2.2
  · exact (hI.vb_lt k h).1
  · cases h

set_option maxHeartbeats 1000000 in
theorem free_seal_bad (base wb : Nat) (l : List Ent) (vb : Value) (kind B C : Int) (K D : UInt64) (zs : List UInt8) (c1 c6 c8 c9 c10 c11 c12 c13 c14 c15 c16 c17 c18 c19 c20 c21 c22 c23 c24 c25 c26 c27 c28 c29 c30 c31 c32 c33 c34 c35 c36 c37 c38 c39 c40 : Value) (w : World) (hk1 : (kind == 1) = false) (hk2 : (kind == 2) = true) (hl : zs.length ≤ 140737488351232) (hbad : Hid (badSeal B zs.length))
    (hI : Inv base wb w l vb) (hbase : base ≤ w.heap.size) (hll : (l.length + 2) * 104 ≤ 140737488355328) :
    Calls Tryz.prog 10 #[.pointer (some ⟨wb, 0, none⟩), .agg #[.int .i64 kind, c1, .int .i64 B, .int .i64 C, .int .u64 (K.toNat : Int), .int .u64 (D.toNat : Int), c6, .string ⟨zs.toArray⟩, c8, c9, c10, c11, c12, c13, c14, c15, c16, c17, c18, c19, c20, c21, c22, c23, c24, c25, c26, c27, c28, c29, c30, c31, c32, c33, c34, c35, c36, c37, c38, c39, c40]] w fun e w' => e = .returned (.bool true) ∧ TwoMore base wb w w' l := by
  have hl2 : zs.length ≤ 140737488355328 := by omega
  have hO := OpAt.new w kind B C K D zs c1 c6 c8 c9 c10 c11 c12 c13 c14 c15 c16 c17 c18 c19 c20 c21 c22 c23 c24 c25 c26 c27 c28 c29 c30 c31 c32 c33 c34 c35 c36 c37 c38 c39 c40
  have heq := fun (w : World) => Lib.run_eql_slice_nil (P := Tryz.prog) w 37 5 none 0 0 0 0 Tryz.underlying37
  have hcv := fun (w : World) => run_string_of (P := Tryz.prog) w 37 9 5 Tryz.underlying37 Tryz.underlying5 Tryz.underlying9 none 0 [] (At.nil w none)
  simp only [List.length_nil] at hcv
  go_enter Tryz.func10, Tryz.ntmps10
  go_wp2_with fail
  refine (lent_all zs _ _ hl).mono ?_
  rintro e w1 ⟨a, cap, gB, rfl, hL, hg1⟩
  have hO1 := hO.grown hg1 (by simp)
  have G1 := gb_trans (World.grownBy_alloc w _ none) hg1
  have hold : ∀ j, some j = gB → w.heap.size + 1 ≤ j := fun j hj => by have := hL.old j hj; simpa using this
  have hgb : gB ≠ some w.heap.size := fun e => by have := hold _ e.symm; omega
  obtain ⟨k0, k2, k3, k4, k5, k7⟩ := hO1
  clear hO
  go_wp2_with (go_at_call 22; refine (wseal_bad K D B a zs.length cap _ hbad).mono ?_; rintro e w' ⟨rfl, rfl⟩)
  refine (back_all zs zs.length a cap gB _ _ (hid rfl) hl hL).mono ?_
  rintro e w2 ⟨rfl, hg2⟩
  have hO2 : OpAt w2 w.heap.size kind B C K D zs := OpAt.grown ⟨k0, k2, k3, k4, k5, k7⟩ hg2 hgb
  have G2 : w.grownBy w2 none := gb_newer G1 hg2 (fun j hj => by have := hold j hj; omega)
  clear k0 k2 k3 k4 k5 k7 hg1 hg2 hL G1
  obtain ⟨k0, k2, k3, k4, k5, k7⟩ := hO2
  go_wp2_with (first | (refine wpList_bytes_of _ rfl _ 9 37 rfl 5 Tryz.underlying9 Tryz.underlying37 Tryz.underlying5 zs rfl hl2 ?_; intro b3 cap3 w3 hc3 hc3m hat3 hg3) | (go_at_call 23; refine (rseal_bad K D B _ zs.length cap3 _ hbad).mono ?_; rintro e w' ⟨rfl, rfl⟩))
  have G3 := gb_trans G2 hg3
  have hI3 := hI.grown G3
  have hb3 : base ≤ w3.heap.size := Nat.le_trans hbase G3.size
  have B3 := below_gb G3 hbase
  have hll1 : (l.length + 1) * 104 ≤ 140737488355328 := by omega
  clear hI G2 hg3 G3 hat3 k0 k2 k3 k4 k5 k7
  refine (lbyte_nil base wb l vb _ hI3 hb3 hll1).mono ?_
  rintro e w4 ⟨rfl, x, vb4, hI4, B4⟩
  have hb4 : base ≤ w4.heap.size := Nat.le_trans hb3 B4.size
  have hll2 := len_two l x hll
  clear hI3
  go_wp2_with fail
  refine (lbyte_nil base wb (l ++ [x]) vb4 _ hI4 hb4 hll2).mono ?_
  rintro e w5 ⟨rfl, y, vb5, hI5, B5⟩
  clear hI4
  have R : TwoMore base wb w w5 l := ⟨⟨_, _, hI5, by simp⟩, (B3.trans B4).trans B5⟩
  clear hI5 B3 B4 B5
  go_wp2
  go_ret
  exact ⟨rfl, R⟩

theorem buf_frm {w w' : World} {g cap : Nat} {bs : List UInt8} {ex : Nat → Prop} (h : Buf w g cap bs) (k : Frm w w' ex) (hx : ¬ ex g) : Buf w' g cap bs := h.kept (k.block g h.lt hx)

/-- Two full lists are written over, one behind the other. -/
theorem lbyte_two (base wb n g1 g2 : Nat) (bs : List UInt8) (l : List Ent) (vb : Value) (w0 w : World) (hI0 : Inv base wb w0 l vb) (G : w0.grownBy w none) (hbase : base ≤ w0.heap.size) (hn : Hid (bs.length = n)) (hp : 0 < n) (hnl : n ≤ 100000)
    (h1 : Buf w g1 n bs) (h2 : Buf w g2 n bs) (o1 : w0.heap.size ≤ g1) (o2 : w0.heap.size ≤ g2) (hne : g1 ≠ g2) (hll : (l.length + 2) * 104 ≤ 140737488355328) :
    Calls Tryz.prog 24 #[.pointer (some ⟨wb, 2, none⟩), .slice (some ⟨g1, 0, none⟩) n n] w fun e w' => e = .returned (.tuple #[]) ∧
      Calls Tryz.prog 24 #[.pointer (some ⟨wb, 2, none⟩), .slice (some ⟨g2, 0, none⟩) n n] w' fun e w' => e = .returned (.tuple #[]) ∧ TwoMore base wb w0 w' l := by
  have hI := hI0.grown G
  have hb : base ≤ w.heap.size := Nat.le_trans hbase G.size
  have hw := hI0.wb_lt
  have f1 := hI0.fresh g1 o1
  have f2 := hI0.fresh g2 o2
  have v1 : vb.ownBlock ≠ some g1 := fun e => by have := (hI0.vb_lt g1 e.symm).2; omega
  have v2 : vb.ownBlock ≠ some g2 := fun e => by have := (hI0.vb_lt g2 e.symm).2; omega
  refine (lbyte_any base wb n (some ⟨g1, 0, none⟩) bs l vb (some g1) w hI hb hn hnl (hid (by intro h; cases h)) (hid (.inr ⟨g1, rfl, rfl, hp, h1, by omega, v1, f1, by omega⟩)) (by omega)).mono ?_
  rintro e w' ⟨rfl, x, vb', hI', hF, hv, hfr⟩
  refine ⟨rfl, ?_⟩
  have hb' : base ≤ w'.heap.size := Nat.le_trans hb hF.size
  have h2' : Buf w' g2 n bs := buf_frm h2 hF (by rintro (h | h | h); omega; exact v2 h.symm; simp at h; exact hne h.symm)
  have v2' : vb'.ownBlock ≠ some g2 := by
    rcases hv with h | ⟨b, h, h3⟩
    · rw [h]; exact v2
    · rw [h]; have := h2.lt; simp; omega
  have B1 : Below base w w' := below_frm hF hb (by rintro k (h | h | h); rw [h]; exact hI.2.2.2.2; exact (hI.vb_lt k h).1; simp at h; omega)
  refine (lbyte_any base wb n (some ⟨g2, 0, none⟩) bs (l ++ [x]) vb' (some g2) w' hI' hb' hn hnl (hid (by intro h; cases h)) (hid (.inr ⟨g2, rfl, rfl, hp, h2', by omega, v2', hfr g2 h2.lt (by simp; omega) f2, by omega⟩)) (by simp; omega)).mono ?_
  rintro e w'' ⟨rfl, y, vb'', hI'', hF', _, _⟩
  have B2 : Below base w' w'' := below_frm hF' hb' (by rintro k (h | h | h); rw [h]; exact hI.2.2.2.2; exact (hI'.vb_lt k h).1; simp at h; omega)
  exact ⟨rfl, ⟨⟨_, _, hI'', by simp⟩, ((below_gb G hbase).trans B1).trans B2⟩⟩

set_option maxHeartbeats 1000000 in
theorem free_seal_ok (base wb : Nat) (l : List Ent) (vb : Value) (kind B C : Int) (K D : UInt64) (zs : List UInt8) (c1 c6 c8 c9 c10 c11 c12 c13 c14 c15 c16 c17 c18 c19 c20 c21 c22 c23 c24 c25 c26 c27 c28 c29 c30 c31 c32 c33 c34 c35 c36 c37 c38 c39 c40 : Value) (w : World) (hk1 : (kind == 1) = false) (hk2 : (kind == 2) = true) (hl : zs.length ≤ 200) (hU : isU B = true)
    (hI : Inv base wb w l vb) (hbase : base ≤ w.heap.size) (hll : (l.length + 2) * 104 ≤ 140737488355328) :
    Calls Tryz.prog 10 #[.pointer (some ⟨wb, 0, none⟩), .agg #[.int .i64 kind, c1, .int .i64 B, .int .i64 C, .int .u64 (K.toNat : Int), .int .u64 (D.toNat : Int), c6, .string ⟨zs.toArray⟩, c8, c9, c10, c11, c12, c13, c14, c15, c16, c17, c18, c19, c20, c21, c22, c23, c24, c25, c26, c27, c28, c29, c30, c31, c32, c33, c34, c35, c36, c37, c38, c39, c40]] w fun e w' => e = .returned (.bool true) ∧ TwoMore base wb w w' l := by
  have hl1 : zs.length ≤ 140737488351232 := by omega
  have hl2 : zs.length ≤ 140737488355328 := by omega
  have hB := isU_in hU
  obtain ⟨hB1, hB2⟩ := hB
  have HU : Hid (B = ((UInt64.ofNat B.toNat).toNat : Int)) := by show _ = _; rw [Pure.ofNat_small _ (by omega), Int.toNat_of_nonneg (by omega)]
  generalize UInt64.ofNat B.toNat = uu at *
  obtain ⟨S, HS⟩ : ∃ S, Hid (S = Pure.sealL K uu D zs) := ⟨_, hid rfl⟩
  have HSl : Hid (S.length = zs.length + 16) := by show _ = _; rw [HS.out, Pure.sealL_length]
  have hO := OpAt.new w kind B C K D zs c1 c6 c8 c9 c10 c11 c12 c13 c14 c15 c16 c17 c18 c19 c20 c21 c22 c23 c24 c25 c26 c27 c28 c29 c30 c31 c32 c33 c34 c35 c36 c37 c38 c39 c40
  go_enter Tryz.func10, Tryz.ntmps10
  go_wp2_with fail
  refine (lent_all zs _ _ hl1).mono ?_
  rintro e w1 ⟨a, cap, gB, rfl, hL, hg1⟩
  have hO1 := hO.grown hg1 (by simp)
  have G1 := gb_trans (World.grownBy_alloc w _ none) hg1
  have hold : ∀ j, some j = gB → w.heap.size + 1 ≤ j := fun j hj => by have := hL.old j hj; simpa using this
  have hgb : gB ≠ some w.heap.size := fun e => by have := hold _ e.symm; omega
  have hgl : ∀ j, some j = gB → j < w1.heap.size := by
    intro j hj
    rcases hL with ⟨_, _, _, h⟩ | ⟨g, _, h2, _, h4⟩
    · rw [h] at hj; cases hj
    · rw [h2] at hj; cases hj; exact h4.lt
  obtain ⟨k0, k2, k3, k4, k5, k7⟩ := hO1
  clear hO hg1
  go_wp2_with fail
  refine (wseal_ok K uu D B a zs zs.length cap _ hU HU (hid rfl) hl hL.at).mono ?_
  rintro e w2 ⟨g1, rfl, o1, hb1, hg2⟩
  rw [← HS.out] at hb1
  have hL2 := hL.grown hg2
  have hO2 : OpAt w2 w.heap.size kind B C K D zs := OpAt.grown ⟨k0, k2, k3, k4, k5, k7⟩ hg2 (by simp)
  clear k0 k2 k3 k4 k5 k7
  obtain ⟨k0, k2, k3, k4, k5, k7⟩ := hO2
  go_wp2_with fail
  refine (wseal_ok K uu D B a zs zs.length cap _ hU HU (hid rfl) hl hL2.at).mono ?_
  rintro e w3 ⟨g2, rfl, o2, hb2, hg3⟩
  rw [← HS.out] at hb2
  have hL3 := hL2.grown hg3
  have hb1' := hb1.grown hg3 (by simp)
  have hne : g1 ≠ g2 := by have := hb1.lt; omega
  have hO3 : OpAt w3 w.heap.size kind B C K D zs := OpAt.grown ⟨k0, k2, k3, k4, k5, k7⟩ hg3 (by simp)
  clear k0 k2 k3 k4 k5 k7
  obtain ⟨k0, k2, k3, k4, k5, k7⟩ := hO3
  go_wp2_with fail
  refine (back_all zs zs.length a cap gB _ _ (hid rfl) hl1 hL3).mono ?_
  rintro e w4 ⟨rfl, hg4⟩
  have hO4 : OpAt w4 w.heap.size kind B C K D zs := OpAt.grown ⟨k0, k2, k3, k4, k5, k7⟩ hg4 hgb
  have s2 := hg2.size
  have hb1'' := hb1'.grown hg4 (fun e => by have := hgl g1 e; omega)
  have hb2'' := hb2.grown hg4 (fun e => by have := hgl g2 e; omega)
  have G4 : w.grownBy w4 none := gb_newer (gb_trans (gb_trans G1 hg2) hg3) hg4 (fun j hj => by have := hold j hj; omega)
  have s1 := G1.size
  clear k0 k2 k3 k4 k5 k7 hg2 hg3 hg4 hL hL2 hL3 hb1 hb1' hb2
  obtain ⟨k0, k2, k3, k4, k5, k7⟩ := hO4
  go_wp2_with (first | (refine wpList_bytes_of _ rfl _ 9 37 rfl 5 Tryz.underlying9 Tryz.underlying37 Tryz.underlying5 zs rfl hl2 ?_; intro b5 cap5 w5 hc5 hc5m hat5 hg5))
  refine (rseal_ok K uu D B zs zs.length _ cap5 _ hB1 hB2 HU (hid rfl) hl (hid (by intro h; cases h)) hat5).mono ?_
  rintro e w6 ⟨a6, c6, rfl, hat6, hg6⟩
  rw [← HS.out] at hat6
  have K46 := gb_trans hg5 hg6
  have G6 := gb_trans G4 K46
  have f1 := hb1''.grown K46 (by simp)
  have f2 := hb2''.grown K46 (by simp)
  have r1 := run_string_of (P := Tryz.prog) w6 37 9 5 Tryz.underlying37 Tryz.underlying5 Tryz.underlying9 (some ⟨g1, 0, none⟩) (zs.length + 16) S f1.at
  have r2 := run_string_of (P := Tryz.prog) w6 37 9 5 Tryz.underlying37 Tryz.underlying5 Tryz.underlying9 (some ⟨g2, 0, none⟩) (zs.length + 16) S f2.at
  have r3 := run_string_of (P := Tryz.prog) w6 37 9 5 Tryz.underlying37 Tryz.underlying5 Tryz.underlying9 a6 c6 S hat6
  rw [HSl.out] at r1 r2 r3
  have CC := lbyte_two base wb (zs.length + 16) g1 g2 S l vb w w6 hI G6 hbase HSl (by omega) (by omega) f1 f2 (by omega) (by omega) hne hll
  clear k0 k2 k3 k4 k5 k7 hg5 hg6 K46 G4 hb1'' hb2'' hat5 hat6 f1 f2
  go_wp2_with fail
  refine CC.mono ?_
  rintro e w7 ⟨rfl, CD⟩
  clear r1 r2 r3
  go_wp2_with fail
  refine CD.mono ?_
  rintro e w8 ⟨rfl, R⟩
  go_wp2
  go_ret
  exact ⟨rfl, R⟩

end Go.Proofs.YtlocllbiojabaaaGreatDoor
