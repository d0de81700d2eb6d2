/-
  Contract of World.free at a step that opens a seal. Conditions: in each statement.
-/
import Derived.Test.YtlocllbiojabaaaGreatDoorLaw5
namespace Go.Proofs.YtlocllbiojabaaaGreatDoor
open Go.RowKit
set_option maxRecDepth 100000

set_option maxHeartbeats 400000 in
theorem wunseal_use (key x : Int) (v : Value) (w : World) (hx : isU x = false) :
    Calls Tryz.prog 25 #[.int .u64 key, .int .i64 x, v] w fun e w' => e = .returned (.tuple #[.slice none 0 0, .int .i64 1]) ∧ w = w' := by
  go_enter Tryz.func25, Tryz.ntmps25
  go_wp2_with (go_at_call 49; refine (unseal_use key x v _ hx).mono ?_; rintro e w' ⟨rfl, rfl⟩)
  go_ret2
  exact ⟨rfl, rfl⟩

/-- What does not open, and the error's number. -/
def badOpen (K uu : UInt64) (B : Int) (zs : List UInt8) (ec : Int) : Prop :=
  (isU B = false ∧ ec = 1) ∨ (isU B = true ∧ ec = 3 ∧ (zs.length < 16 ∨ 216 < zs.length)) ∨ (isU B = true ∧ ec = 3 ∧ B = uu.toNat ∧ 16 ≤ zs.length ∧ zs.length ≤ 216 ∧ Pure.opens K uu zs = false)

theorem wunseal_bad (K uu : UInt64) (B ec : Int) (a : Option Addr) (zs : List UInt8) (cap : Nat) (w : World) (h : Hid (badOpen K uu B zs ec)) (hat : At w a zs) (hc : zs.length ≤ cap) (hcm : cap ≤ 9223372036854775807) :
    Calls Tryz.prog 25 #[.int .u64 (K.toNat : Int), .int .i64 B, .slice a zs.length cap] w fun e w' => e = .returned (.tuple #[.slice none 0 0, .int .i64 ec]) ∧ w.grownBy w' none := by
  rcases h.out with ⟨h1, rfl⟩ | ⟨h1, rfl, h2⟩ | ⟨h1, rfl, h2, h3, h4, h5⟩
  · refine (wunseal_use _ B _ w h1).mono ?_
    rintro e w' ⟨rfl, rfl⟩
    exact ⟨rfl, World.grownBy.refl _ _⟩
  · refine (wunseal_size _ B a zs.length cap w h1 h2).mono ?_
    rintro e w' ⟨rfl, rfl⟩
    exact ⟨rfl, World.grownBy.refl _ _⟩
  · obtain ⟨b, off, rfl, hb⟩ := hat.addr (by omega)
    exact wunseal_no K uu B b off zs zs.length cap w h1 h2 (hid rfl) h3 h4 hc hcm hb hat h5

theorem runseal_bad (K uu : UInt64) (B ec : Int) (a : Option Addr) (zs : List UInt8) (cap : Nat) (w : World) (h : Hid (badOpen K uu B zs ec)) (hat : At w a zs) (hc : zs.length ≤ cap) (hcm : cap ≤ 9223372036854775807) :
    Calls Tryz.prog 26 #[.int .u64 (K.toNat : Int), .int .i64 B, .slice a zs.length cap] w fun e w' => e = .returned (.tuple #[.slice none 0 0, .int .i64 ec]) ∧ w.grownBy w' none := by
  rcases h.out with ⟨h1, rfl⟩ | ⟨h1, rfl, h2⟩ | ⟨h1, rfl, h2, h3, h4, h5⟩
  · refine (runseal_use _ B _ w (isU_out h1)).mono ?_
    rintro e w' ⟨rfl, rfl⟩
    exact ⟨rfl, World.grownBy.refl _ _⟩
  · refine (runseal_size _ B a zs.length cap w (isU_in h1).1 (isU_in h1).2 h2).mono ?_
    rintro e w' ⟨rfl, rfl⟩
    exact ⟨rfl, World.grownBy.refl _ _⟩
  · obtain ⟨b, off, rfl, hb⟩ := hat.addr (by omega)
    obtain ⟨M, hM⟩ : ∃ M, zs.length = M + 16 := ⟨zs.length - 16, by omega⟩
    have C := runseal_any K uu B b off zs M cap w (isU_in h1).1 (isU_in h1).2 h2 hM (by omega) (by omega) hcm hat
    rw [hM]
    refine C.mono ?_
    rintro e w' ⟨_, q, r⟩
    exact ⟨q h5, r⟩

theorem wunseal_ok (K uu : UInt64) (B : Int) (a : Option Addr) (zs : List UInt8) (M cap : Nat) (w : World) (hU : isU B = true) (hB : Hid (B = uu.toNat)) (hM : Hid (zs.length = M + 16)) (hMl : M ≤ 200) (ho : Hid (Pure.opens K uu zs = true)) (hat : At w a zs) (hc : zs.length ≤ cap) (hcm : cap ≤ 9223372036854775807) :
    Calls Tryz.prog 25 #[.int .u64 (K.toNat : Int), .int .i64 B, .slice a zs.length cap] w fun e w' => ∃ g, e = .returned (.tuple #[.slice (some ⟨g, 0, none⟩) M M, .int .i64 0]) ∧ w.heap.size ≤ g ∧ Buf w' g M (Pure.plainOf K uu zs) ∧ w.grownBy w' none := by
  have hM' := hM.out
  obtain ⟨b, off, rfl, hb⟩ := hat.addr (by omega)
  have C := wunseal_yes K uu B b off zs zs.length cap w hU hB (hid rfl) (by omega) (by omega) hc hcm hb hat ho
  rw [show zs.length - 16 = M from by omega] at C
  exact C

theorem runseal_ok (K uu : UInt64) (B : Int) (a : Option Addr) (zs : List UInt8) (M cap : Nat) (w : World) (hU : isU B = true) (hB : Hid (B = uu.toNat)) (hM : Hid (zs.length = M + 16)) (hMl : M ≤ 200) (ho : Hid (Pure.opens K uu zs = true)) (hat : At w a zs) (hc : zs.length ≤ cap) (hcm : cap ≤ 9223372036854775807) :
    Calls Tryz.prog 26 #[.int .u64 (K.toNat : Int), .int .i64 B, .slice a zs.length cap] w fun e w' => ∃ a' c, e = .returned (.tuple #[.slice a' M c, .int .i64 0]) ∧ At w' a' (Pure.plainOf K uu zs) ∧ w.grownBy w' none := by
  have hM' := hM.out
  obtain ⟨b, off, rfl, hb⟩ := hat.addr (by omega)
  have C := runseal_any K uu B b off zs M cap w (isU_in hU).1 (isU_in hU).2 hB hM hMl (by omega) hcm hat
  rw [hM']
  refine C.mono ?_
  rintro e w' ⟨q, _, r⟩
  obtain ⟨a', c, q1, q2⟩ := q ho.out
  exact ⟨a', c, q1, q2, r⟩

/-- Two empty lists are written over, one behind the other. -/
theorem lbyte_two0 (base wb : Nat) (a1 a2 : Option Addr) (l : List Ent) (vb : Value) (w0 w : World) (hI0 : Inv base wb w0 l vb) (G : w0.grownBy w none) (hbase : base ≤ w0.heap.size) (hll : (l.length + 2) * 104 ≤ 140737488355328) :
    Calls Tryz.prog 24 #[.pointer (some ⟨wb, 2, none⟩), .slice a1 0 0] w fun e w' => e = .returned (.tuple #[]) ∧
      Calls Tryz.prog 24 #[.pointer (some ⟨wb, 2, none⟩), .slice a2 0 0] w' fun e w' => e = .returned (.tuple #[]) ∧ TwoMore base wb w0 w' l := by
  have hI := hI0.grown G
  have hb : base ≤ w.heap.size := Nat.le_trans hbase G.size
  refine (lbyte_any base wb 0 a1 [] l vb none w hI hb (hid rfl) (by omega) (hid fun _ => rfl) (hid (.inl ⟨rfl, rfl⟩)) (by omega)).mono ?_
  rintro e w' ⟨rfl, x, vb', hI', hF, _, _⟩
  refine ⟨rfl, ?_⟩
  have hb' : base ≤ w'.heap.size := Nat.le_trans hb hF.size
  have B1 : Below base w w' := below_frm hF hb (by rintro k (h | h | h); rw [h]; exact hI.2.2.2.2; exact (hI.vb_lt k h).1; cases h)
  refine (lbyte_any base wb 0 a2 [] (l ++ [x]) vb' none w' hI' hb' (hid rfl) (by omega) (hid fun _ => rfl) (hid (.inl ⟨rfl, rfl⟩)) (len_two l x hll)).mono ?_
  rintro e w'' ⟨rfl, y, vb'', hI'', hF', _, _⟩
  have B2 : Below base w' w'' := below_frm hF' hb' (by rintro k (h | h | h); rw [h]; exact hI.2.2.2.2; exact (hI'.vb_lt k h).1; cases h)
  exact ⟨rfl, ⟨⟨_, _, hI'', by simp⟩, ((below_gb G hbase).trans B1).trans B2⟩⟩

set_option maxHeartbeats 1000000 in
theorem free_unseal_bad (base wb : Nat) (l : List Ent) (vb : Value) (kind B C ec : Int) (K D uu : UInt64) (zs : List UInt8) (c1 c6 c8 c9 c10 c11 c12 c13 c14 c15 c16 c17 c18 c19 c20 c21 c22 c23 c24 c25 c26 c27 c28 c29 c30 c31 c32 c33 c34 c35 c36 c37 c38 c39 c40 : Value) (w : World) (hk1 : (kind == 1) = false) (hk2 : (kind == 2) = false) (hk3 : (kind == 3) = true) (hl : zs.length ≤ 140737488351232) (hbad : Hid (badOpen K uu B zs ec)) (hec : (ec == 0) = false)
    (hI : Inv base wb w l vb) (hbase : base ≤ w.heap.size) (hll : (l.length + 2) * 104 ≤ 140737488355328) :
    Calls Tryz.prog 10 #[.pointer (some ⟨wb, 0, none⟩), .agg #[.int .i64 kind, c1, .int .i64 B, .int .i64 C, .int .u64 (K.toNat : Int), .int .u64 (D.toNat : Int), c6, .string ⟨zs.toArray⟩, c8, c9, c10, c11, c12, c13, c14, c15, c16, c17, c18, c19, c20, c21, c22, c23, c24, c25, c26, c27, c28, c29, c30, c31, c32, c33, c34, c35, c36, c37, c38, c39, c40]] w fun e w' => e = .returned (.bool true) ∧ TwoMore base wb w w' l := by
  have hl2 : zs.length ≤ 140737488355328 := by omega
  have hO := OpAt.new w kind B C K D zs c1 c6 c8 c9 c10 c11 c12 c13 c14 c15 c16 c17 c18 c19 c20 c21 c22 c23 c24 c25 c26 c27 c28 c29 c30 c31 c32 c33 c34 c35 c36 c37 c38 c39 c40
  have heq := fun (w : World) => Lib.run_eql_slice_nil (P := Tryz.prog) w 37 5 none 0 0 0 0 Tryz.underlying37
  have hcv := fun (w : World) => run_string_of (P := Tryz.prog) w 37 9 5 Tryz.underlying37 Tryz.underlying5 Tryz.underlying9 none 0 [] (At.nil w none)
  simp only [List.length_nil] at hcv
  go_enter Tryz.func10, Tryz.ntmps10
  go_wp2_with fail
  refine (lent_all zs _ _ hl).mono ?_
  rintro e w1 ⟨a, cap, gB, rfl, hL, hg1⟩
  have hO1 := hO.grown hg1 (by simp)
  have G1 := gb_trans (World.grownBy_alloc w _ none) hg1
  have hold : ∀ j, some j = gB → w.heap.size + 1 ≤ j := fun j hj => by have := hL.old j hj; simpa using this
  have hgb : gB ≠ some w.heap.size := fun e => by have := hold _ e.symm; omega
  have hcp := hL.cap
  obtain ⟨hcp1, hcp2⟩ := hcp
  obtain ⟨k0, k2, k3, k4, k5, k7⟩ := hO1
  clear hO hg1
  go_wp2_with fail
  refine (wunseal_bad K uu B ec a zs cap _ hbad hL.at hcp1 hcp2).mono ?_
  rintro e w2 ⟨rfl, hg2⟩
  have hL2 := hL.grown hg2
  have hO2 : OpAt w2 w.heap.size kind B C K D zs := OpAt.grown ⟨k0, k2, k3, k4, k5, k7⟩ hg2 (by simp)
  clear k0 k2 k3 k4 k5 k7
  obtain ⟨k0, k2, k3, k4, k5, k7⟩ := hO2
  go_wp2_with fail
  refine (wunseal_bad K uu B ec a zs cap _ hbad hL2.at hcp1 hcp2).mono ?_
  rintro e w3 ⟨rfl, hg3⟩
  have hL3 := hL2.grown hg3
  have hO3 : OpAt w3 w.heap.size kind B C K D zs := OpAt.grown ⟨k0, k2, k3, k4, k5, k7⟩ hg3 (by simp)
  clear k0 k2 k3 k4 k5 k7
  obtain ⟨k0, k2, k3, k4, k5, k7⟩ := hO3
  go_wp2_with fail
  refine (back_all zs zs.length a cap gB _ _ (hid rfl) hl hL3).mono ?_
  rintro e w4 ⟨rfl, hg4⟩
  have hO4 : OpAt w4 w.heap.size kind B C K D zs := OpAt.grown ⟨k0, k2, k3, k4, k5, k7⟩ hg4 hgb
  have G4 : w.grownBy w4 none := gb_newer (gb_trans (gb_trans G1 hg2) hg3) hg4 (fun j hj => by have := hold j hj; omega)
  clear k0 k2 k3 k4 k5 k7 hg2 hg3 hg4 hL hL2 hL3 G1
  obtain ⟨k0, k2, k3, k4, k5, k7⟩ := hO4
  go_wp2_with (first | (refine wpList_bytes_of _ rfl _ 9 37 rfl 5 Tryz.underlying9 Tryz.underlying37 Tryz.underlying5 zs rfl hl2 ?_; intro b5 cap5 w5 hc5 hc5m hat5 hg5))
  refine (runseal_bad K uu B ec _ zs cap5 _ hbad hat5 hc5 (by unfold maxLen at hc5m; exact hc5m)).mono ?_
  rintro e w6 ⟨rfl, hg6⟩
  have G6 := gb_trans G4 (gb_trans hg5 hg6)
  have CC := lbyte_two0 base wb none none l vb w w6 hI G6 hbase hll
  clear k0 k2 k3 k4 k5 k7 hg5 hg6 G4 hat5 hI
  go_wp2_with fail
  refine CC.mono ?_
  rintro e w7 ⟨rfl, CD⟩
  clear CC
  go_wp2_with fail
  refine CD.mono ?_
  rintro e w8 ⟨rfl, R⟩
  clear CD
  go_wp2
  go_ret
  exact ⟨rfl, R⟩

set_option maxHeartbeats 1000000 in
theorem free_unseal_ok (base wb : Nat) (l : List Ent) (vb : Value) (kind B C : Int) (K D uu : UInt64) (zs : List UInt8) (M : Nat) (c1 c6 c8 c9 c10 c11 c12 c13 c14 c15 c16 c17 c18 c19 c20 c21 c22 c23 c24 c25 c26 c27 c28 c29 c30 c31 c32 c33 c34 c35 c36 c37 c38 c39 c40 : Value) (w : World) (hk1 : (kind == 1) = false) (hk2 : (kind == 2) = false) (hk3 : (kind == 3) = true) (hU : isU B = true) (HU : Hid (B = uu.toNat)) (HM : Hid (zs.length = M + 16)) (hMl : M ≤ 200) (ho : Hid (Pure.opens K uu zs = true))
    (hI : Inv base wb w l vb) (hbase : base ≤ w.heap.size) (hll : (l.length + 2) * 104 ≤ 140737488355328) :
    Calls Tryz.prog 10 #[.pointer (some ⟨wb, 0, none⟩), .agg #[.int .i64 kind, c1, .int .i64 B, .int .i64 C, .int .u64 (K.toNat : Int), .int .u64 (D.toNat : Int), c6, .string ⟨zs.toArray⟩, c8, c9, c10, c11, c12, c13, c14, c15, c16, c17, c18, c19, c20, c21, c22, c23, c24, c25, c26, c27, c28, c29, c30, c31, c32, c33, c34, c35, c36, c37, c38, c39, c40]] w fun e w' => e = .returned (.bool true) ∧ TwoMore base wb w w' l := by
  have hl : zs.length ≤ 140737488351232 := by rw [HM.out]; omega
  have hl2 : zs.length ≤ 140737488355328 := by omega
  obtain ⟨S, HS⟩ : ∃ S, Hid (S = Pure.plainOf K uu zs) := ⟨_, hid rfl⟩
  have HSl : Hid (S.length = M) := by show _ = _; rw [HS.out, Pure.plainOf_length, HM.out]; omega
  have hO := OpAt.new w kind B C K D zs c1 c6 c8 c9 c10 c11 c12 c13 c14 c15 c16 c17 c18 c19 c20 c21 c22 c23 c24 c25 c26 c27 c28 c29 c30 c31 c32 c33 c34 c35 c36 c37 c38 c39 c40
  go_enter Tryz.func10, Tryz.ntmps10
  go_wp2_with fail
  refine (lent_all zs _ _ hl).mono ?_
  rintro e w1 ⟨a, cap, gB, rfl, hL, hg1⟩
  have hO1 := hO.grown hg1 (by simp)
  have G1 := gb_trans (World.grownBy_alloc w _ none) hg1
  have hold : ∀ j, some j = gB → w.heap.size + 1 ≤ j := fun j hj => by have := hL.old j hj; simpa using this
  have hgb : gB ≠ some w.heap.size := fun e => by have := hold _ e.symm; omega
  have hgl : ∀ j, some j = gB → j < w1.heap.size := by
    intro j hj
    rcases hL with ⟨_, _, _, h⟩ | ⟨g, _, h2, _, h4⟩
    · rw [h] at hj; cases hj
    · rw [h2] at hj; cases hj; exact h4.lt
  obtain ⟨hcp1, hcp2⟩ := hL.cap
  obtain ⟨k0, k2, k3, k4, k5, k7⟩ := hO1
  clear hO hg1
  go_wp2_with fail
  refine (wunseal_ok K uu B a zs M cap _ hU HU HM hMl ho hL.at hcp1 hcp2).mono ?_
  rintro e w2 ⟨g1, rfl, o1, hb1, hg2⟩
  rw [← HS.out] at hb1
  have hL2 := hL.grown hg2
  have hO2 : OpAt w2 w.heap.size kind B C K D zs := OpAt.grown ⟨k0, k2, k3, k4, k5, k7⟩ hg2 (by simp)
  clear k0 k2 k3 k4 k5 k7
  obtain ⟨k0, k2, k3, k4, k5, k7⟩ := hO2
  go_wp2_with fail
  refine (wunseal_ok K uu B a zs M cap _ hU HU HM hMl ho hL2.at hcp1 hcp2).mono ?_
  rintro e w3 ⟨g2, rfl, o2, hb2, hg3⟩
  rw [← HS.out] at hb2
  have hL3 := hL2.grown hg3
  have hb1' := hb1.grown hg3 (by simp)
  have hne : g1 ≠ g2 := by have := hb1.lt; omega
  have hO3 : OpAt w3 w.heap.size kind B C K D zs := OpAt.grown ⟨k0, k2, k3, k4, k5, k7⟩ hg3 (by simp)
  clear k0 k2 k3 k4 k5 k7
  obtain ⟨k0, k2, k3, k4, k5, k7⟩ := hO3
  go_wp2_with fail
  refine (back_all zs zs.length a cap gB _ _ (hid rfl) hl hL3).mono ?_
  rintro e w4 ⟨rfl, hg4⟩
  have hO4 : OpAt w4 w.heap.size kind B C K D zs := OpAt.grown ⟨k0, k2, k3, k4, k5, k7⟩ hg4 hgb
  have s2 := hg2.size
  have hb1'' := hb1'.grown hg4 (fun e => by have := hgl g1 e; omega)
  have hb2'' := hb2.grown hg4 (fun e => by have := hgl g2 e; omega)
  have G4 : w.grownBy w4 none := gb_newer (gb_trans (gb_trans G1 hg2) hg3) hg4 (fun j hj => by have := hold j hj; omega)
  have s1 := G1.size
  clear k0 k2 k3 k4 k5 k7 hg2 hg3 hg4 hL hL2 hL3 hb1 hb1' hb2
  obtain ⟨k0, k2, k3, k4, k5, k7⟩ := hO4
  go_wp2_with (first | (refine wpList_bytes_of _ rfl _ 9 37 rfl 5 Tryz.underlying9 Tryz.underlying37 Tryz.underlying5 zs rfl hl2 ?_; intro b5 cap5 w5 hc5 hc5m hat5 hg5))
  refine (runseal_ok K uu B _ zs M cap5 _ hU HU HM hMl ho hat5 hc5 (by unfold maxLen at hc5m; exact hc5m)).mono ?_
  rintro e w6 ⟨a6, c6, rfl, hat6, hg6⟩
  rw [← HS.out] at hat6
  have K46 := gb_trans hg5 hg6
  have G6 := gb_trans G4 K46
  have f1 := hb1''.grown K46 (by simp)
  have f2 := hb2''.grown K46 (by simp)
  have r1 := run_string_of (P := Tryz.prog) w6 37 9 5 Tryz.underlying37 Tryz.underlying5 Tryz.underlying9 (some ⟨g1, 0, none⟩) M S f1.at
  have r2 := run_string_of (P := Tryz.prog) w6 37 9 5 Tryz.underlying37 Tryz.underlying5 Tryz.underlying9 (some ⟨g2, 0, none⟩) M S f2.at
  have r3 := run_string_of (P := Tryz.prog) w6 37 9 5 Tryz.underlying37 Tryz.underlying5 Tryz.underlying9 a6 c6 S hat6
  rw [HSl.out] at r1 r2 r3
  have CC : Calls Tryz.prog 24 #[.pointer (some ⟨wb, 2, none⟩), .slice (some ⟨g1, 0, none⟩) M M] w6 fun e w' => e = .returned (.tuple #[]) ∧
      Calls Tryz.prog 24 #[.pointer (some ⟨wb, 2, none⟩), .slice (some ⟨g2, 0, none⟩) M M] w' fun e w' => e = .returned (.tuple #[]) ∧ TwoMore base wb w w' l := by
    by_cases hM0 : M = 0
    · subst hM0
      exact lbyte_two0 base wb (some ⟨g1, 0, none⟩) (some ⟨g2, 0, none⟩) l vb w w6 hI G6 hbase hll
    · exact lbyte_two base wb M g1 g2 S l vb w w6 hI G6 hbase HSl (by omega) (by omega) f1 f2 (by omega) (by omega) hne hll
  clear k0 k2 k3 k4 k5 k7 hg5 hg6 K46 G4 hb1'' hb2'' hat5 hat6 f1 f2
  go_wp2_with fail
  refine CC.mono ?_
  rintro e w7 ⟨rfl, CD⟩
  clear r1 r2 r3 CC
  go_wp2_with fail
  refine CD.mono ?_
  rintro e w8 ⟨rfl, R⟩
  clear CD
  go_wp2
  go_ret
  exact ⟨rfl, R⟩

end Go.Proofs.YtlocllbiojabaaaGreatDoor
