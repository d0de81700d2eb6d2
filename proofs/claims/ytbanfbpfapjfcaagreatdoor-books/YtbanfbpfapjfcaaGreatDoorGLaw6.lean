/-
  Contract of World.free at a step that opens a seal. Conditions: in each statement.
  Contracts of World.free and World.step at every step that hashes, seals or opens. Conditions: what the world holds; the text has at most 2 to the 47th bytes less 4096.
  Blocks that are younger than what the world holds, and stay as they were. Conditions: in each statement.
  One list more, of one kind, that lies in one new block without spare room. Conditions: in each statement.
-/
import Derived.Test.YtbanfbpfapjfcaaGreatDoorGLaw5
import Derived.Test.YtbanfbpfapjfcaaGreatDoorGLooks
import Derived.Test.YtbanfbpfapjfcaaGreatDoorGLSepByte
namespace Go.Proofs.YtbanfbpfapjfcaaGreatDoor
open Go.RowKit
set_option maxRecDepth 100000
variable {PP QP : Type} {D : Desks PP QP} {base wb : Nat}

set_option maxHeartbeats 400000 in
theorem wunseal_use (key x : Int) (v : Value) (w : World) (hx : isU x = false) :
    Calls Tryz.prog 61 #[.int .u64 key, .int .i64 x, v] w fun e w' => e = .returned (.tuple #[.slice none 0 0, .int .i64 1]) ∧ w = w' := by
  go_enter Tryz.func61, Tryz.ntmps61
  go_wp2_with (go_at_call 93; refine (unseal_use key x v _ hx).mono ?_; rintro e w' ⟨rfl, rfl⟩)
  go_ret2
  exact ⟨rfl, rfl⟩

/-- What does not open, and the error's number. -/
def badOpen (K uu : UInt64) (B : Int) (zs : List UInt8) (ec : Int) : Prop :=
  (isU B = false ∧ ec = 1) ∨ (isU B = true ∧ ec = 3 ∧ (zs.length < 16 ∨ 216 < zs.length)) ∨ (isU B = true ∧ ec = 3 ∧ B = uu.toNat ∧ 16 ≤ zs.length ∧ zs.length ≤ 216 ∧ Pure.opens K uu zs = false)

theorem wunseal_bad (K uu : UInt64) (B ec : Int) (a : Option Addr) (zs : List UInt8) (cap : Nat) (w : World) (h : Hid (badOpen K uu B zs ec)) (hat : At w a zs) (hc : zs.length ≤ cap) :
    Calls Tryz.prog 61 #[.int .u64 (K.toNat : Int), .int .i64 B, .slice a zs.length cap] w fun e w' => e = .returned (.tuple #[.slice none 0 0, .int .i64 ec]) ∧ w.grownBy w' none := by
  rcases h.out with ⟨h1, rfl⟩ | ⟨h1, rfl, h2⟩ | ⟨h1, rfl, h2, h3, h4, h5⟩
  · refine (wunseal_use _ B _ w h1).mono ?_
    rintro e w' ⟨rfl, rfl⟩
    exact ⟨rfl, World.grownBy.refl _ _⟩
  · refine (wunseal_size _ B a zs.length cap w h1 h2).mono ?_
    rintro e w' ⟨rfl, rfl⟩
    exact ⟨rfl, World.grownBy.refl _ _⟩
  · exact wunseal_no K uu B a zs zs.length cap w h1 h2 (hid rfl) h3 h4 hc hat h5

theorem runseal_bad (K uu : UInt64) (B ec : Int) (a : Option Addr) (zs : List UInt8) (cap : Nat) (w : World) (h : Hid (badOpen K uu B zs ec)) (hat : At w a zs) (hc : zs.length ≤ cap) (hcm : cap ≤ 9223372036854775807) :
    Calls Tryz.prog 73 #[.int .u64 (K.toNat : Int), .int .i64 B, .slice a zs.length cap] w fun e w' => e = .returned (.tuple #[.slice none 0 0, .int .i64 ec]) ∧ w.grownBy w' none := by
  rcases h.out with ⟨h1, rfl⟩ | ⟨h1, rfl, h2⟩ | ⟨h1, rfl, h2, h3, h4, h5⟩
  · refine (runseal_use _ B _ w (isU_out h1)).mono ?_
    rintro e w' ⟨rfl, rfl⟩
    exact ⟨rfl, World.grownBy.refl _ _⟩
  · refine (runseal_size _ B a zs.length cap w (isU_in h1).1 (isU_in h1).2 h2).mono ?_
    rintro e w' ⟨rfl, rfl⟩
    exact ⟨rfl, World.grownBy.refl _ _⟩
  · obtain ⟨b, off, rfl, hb⟩ := hat.addr (by omega)
    obtain ⟨M, hM⟩ : ∃ M, zs.length = M + 16 := ⟨zs.length - 16, by omega⟩
    have C := runseal_any K uu B b off zs M cap w (isU_in h1).1 (isU_in h1).2 h2 hM (by omega) (by omega) hcm hat
    rw [hM]
    refine C.mono ?_
    rintro e w' ⟨_, q, r⟩
    exact ⟨q h5, r⟩

theorem wunseal_ok (K uu : UInt64) (B : Int) (a : Option Addr) (zs : List UInt8) (M cap : Nat) (w : World) (hU : isU B = true) (hB : Hid (B = uu.toNat)) (hM : Hid (zs.length = M + 16)) (hMl : M ≤ 200) (ho : Hid (Pure.opens K uu zs = true)) (hat : At w a zs) (hc : zs.length ≤ cap) :
    Calls Tryz.prog 61 #[.int .u64 (K.toNat : Int), .int .i64 B, .slice a zs.length cap] w fun e w' => ∃ v p, e = .returned (.tuple #[v, .int .i64 0]) ∧ Out w' v p (Pure.plainOf K uu zs) ∧ Pl.fresh w.heap.size p ∧ w.grownBy w' none := by
  have hM' := hM.out
  exact wunseal_yes K uu B a zs zs.length cap w hU hB (hid rfl) (by omega) (by omega) hc hat ho

theorem runseal_ok (K uu : UInt64) (B : Int) (a : Option Addr) (zs : List UInt8) (M cap : Nat) (w : World) (hU : isU B = true) (hB : Hid (B = uu.toNat)) (hM : Hid (zs.length = M + 16)) (hMl : M ≤ 200) (ho : Hid (Pure.opens K uu zs = true)) (hat : At w a zs) (hc : zs.length ≤ cap) (hcm : cap ≤ 9223372036854775807) :
    Calls Tryz.prog 73 #[.int .u64 (K.toNat : Int), .int .i64 B, .slice a zs.length cap] w fun e w' => ∃ a' c, e = .returned (.tuple #[.slice a' M c, .int .i64 0]) ∧ At w' a' (Pure.plainOf K uu zs) ∧ w.grownBy w' none := by
  have hM' := hM.out
  obtain ⟨b, off, rfl, hb⟩ := hat.addr (by omega)
  have C := runseal_any K uu B b off zs M cap w (isU_in hU).1 (isU_in hU).2 hB hM hMl (by omega) hcm hat
  rw [hM']
  refine C.mono ?_
  rintro e w' ⟨q, _, r⟩
  obtain ⟨a', c, q1, q2⟩ := q ho.out
  exact ⟨a', c, q1, q2, r⟩

theorem Out.at' {w : World} {ao : Option Addr} {n cap : Nat} {p : Option Pl} {bs : List UInt8} (h : Out w (.slice ao n cap) p bs) (hn : Hid (bs.length = n)) : At w ao bs := by
  obtain ⟨a, c, e, _, _, h4, _⟩ := h.open hn
  injection e with e1 e2 e3
  subst e1
  exact h4

set_option maxHeartbeats 1000000 in
theorem free_unseal_bad (d : WD PP QP) (kind B C ec : Int) (K DD uu : UInt64) (zs : List UInt8) (c1 c6 c8 c9 c10 c11 c12 c13 c14 c15 c16 c17 c18 c19 c20 c21 c22 c23 c24 c25 c26 c27 c28 c29 c30 c31 c32 c33 c34 c35 c36 c37 c38 c39 c40 : Value) (w : World) (hk1 : (kind == 1) = false) (hk2 : (kind == 2) = false) (hk3 : (kind == 3) = true) (hl : zs.length ≤ 140737488351232) (hbad : Hid (badOpen K uu B zs ec)) (hec : (ec == 0) = false)
    (hI : SepW D base wb d w) (hll : (d.eb.length + 2) * 112 ≤ 140737488355328) :
    Calls Tryz.prog 46 #[.pointer (some ⟨wb, 0, none⟩), .agg #[.int .i64 kind, c1, .int .i64 B, .int .i64 C, .int .u64 (K.toNat : Int), .int .u64 (DD.toNat : Int), c6, .string ⟨zs.toArray⟩, c8, c9, c10, c11, c12, c13, c14, c15, c16, c17, c18, c19, c20, c21, c22, c23, c24, c25, c26, c27, c28, c29, c30, c31, c32, c33, c34, c35, c36, c37, c38, c39, c40]] w fun e w' => e = .returned (.bool true) ∧ More D base wb 2 d w w' := by
  have hl2 : zs.length ≤ 140737488355328 := by omega
  have hO := OpAt.new w kind B C K DD zs c1 c6 c8 c9 c10 c11 c12 c13 c14 c15 c16 c17 c18 c19 c20 c21 c22 c23 c24 c25 c26 c27 c28 c29 c30 c31 c32 c33 c34 c35 c36 c37 c38 c39 c40
  have heq := fun (w : World) => Lib.run_eql_slice_nil (P := Tryz.prog) w 32 5 none 0 0 0 0 Tryz.underlying32
  have hcv := fun (w : World) => run_string_of (P := Tryz.prog) w 32 9 5 Tryz.underlying32 Tryz.underlying5 Tryz.underlying9 none 0 [] (At.nil w none)
  simp only [List.length_nil] at hcv
  go_enter Tryz.func46, Tryz.ntmps46
  go_wp2_with fail
  refine (lent_all zs _ _ hl).mono ?_
  rintro e w1 ⟨a, cap, gB, rfl, hL, hg1⟩
  have hO1 := hO.grown hg1 (by simp)
  have G1 := gb_trans (World.grownBy_alloc w _ none) hg1
  have hold : ∀ j, some j = gB → w.heap.size + 1 ≤ j := fun j hj => by have := hL.old j hj; simpa using this
  have hgb : gB ≠ some w.heap.size := fun e => by have := hold _ e.symm; omega
  have hcp := hL.cap
  obtain ⟨hcp1, hcp2⟩ := hcp
  obtain ⟨k0, k2, k3, k4, k5, k7⟩ := hO1
  clear hO hg1
  go_wp2_with fail
  refine (wunseal_bad K uu B ec a zs cap _ hbad hL.at hcp1).mono ?_
  rintro e w2 ⟨rfl, hg2⟩
  have hL2 := hL.grown hg2
  have hO2 : OpAt w2 w.heap.size kind B C K DD zs := OpAt.grown ⟨k0, k2, k3, k4, k5, k7⟩ hg2 (by simp)
  clear k0 k2 k3 k4 k5 k7
  obtain ⟨k0, k2, k3, k4, k5, k7⟩ := hO2
  go_wp2_with fail
  refine (wunseal_bad K uu B ec a zs cap _ hbad hL2.at hcp1).mono ?_
  rintro e w3 ⟨rfl, hg3⟩
  have hL3 := hL2.grown hg3
  have hO3 : OpAt w3 w.heap.size kind B C K DD zs := OpAt.grown ⟨k0, k2, k3, k4, k5, k7⟩ hg3 (by simp)
  clear k0 k2 k3 k4 k5 k7
  obtain ⟨k0, k2, k3, k4, k5, k7⟩ := hO3
  go_wp2_with fail
  refine (back_all zs zs.length a cap gB _ _ (hid rfl) hl hL3).mono ?_
  rintro e w4 ⟨rfl, hg4⟩
  have hO4 : OpAt w4 w.heap.size kind B C K DD zs := OpAt.grown ⟨k0, k2, k3, k4, k5, k7⟩ hg4 hgb
  have G4 : w.grownBy w4 none := gb_newer (gb_trans (gb_trans G1 hg2) hg3) hg4 (fun j hj => by have := hold j hj; omega)
  clear k0 k2 k3 k4 k5 k7 hg2 hg3 hg4 hL hL2 hL3 G1
  obtain ⟨k0, k2, k3, k4, k5, k7⟩ := hO4
  go_wp2_with (first | (refine wpList_bytes_of _ rfl _ 9 32 rfl 5 Tryz.underlying9 Tryz.underlying32 Tryz.underlying5 zs rfl hl2 ?_; intro b5 cap5 w5 hc5 hc5m hat5 hg5))
  refine (runseal_bad K uu B ec _ zs cap5 _ hbad hat5 hc5 (by unfold maxLen at hc5m; exact hc5m)).mono ?_
  rintro e w6 ⟨rfl, hg6⟩
  have G6 := gb_trans G4 (gb_trans hg5 hg6)
  have CC := byte_two d (.slice none 0 0) (.slice none 0 0) none none [] [] w w6 hI G6 (Out.nil _) (Out.nil _) (by simp) (by simp) (fun q hq => by cases hq) (fun q hq => by cases hq) (fun q1 q2 hq => by cases hq) hll
  clear k0 k2 k3 k4 k5 k7 hg5 hg6 G4 hat5 hI
  go_wp2_with fail
  refine CC.mono ?_
  rintro e w7 ⟨rfl, CD⟩
  clear CC
  go_wp2_with fail
  refine CD.mono ?_
  rintro e w8 ⟨rfl, R⟩
  clear CD
  go_wp2
  go_ret
  exact ⟨rfl, R⟩

set_option maxHeartbeats 1000000 in
theorem free_unseal_ok (d : WD PP QP) (kind B C : Int) (K DD uu : UInt64) (zs : List UInt8) (M : Nat) (c1 c6 c8 c9 c10 c11 c12 c13 c14 c15 c16 c17 c18 c19 c20 c21 c22 c23 c24 c25 c26 c27 c28 c29 c30 c31 c32 c33 c34 c35 c36 c37 c38 c39 c40 : Value) (w : World) (hk1 : (kind == 1) = false) (hk2 : (kind == 2) = false) (hk3 : (kind == 3) = true) (hU : isU B = true) (HU : Hid (B = uu.toNat)) (HM : Hid (zs.length = M + 16)) (hMl : M ≤ 200) (ho : Hid (Pure.opens K uu zs = true))
    (hI : SepW D base wb d w) (hll : (d.eb.length + 2) * 112 ≤ 140737488355328) :
    Calls Tryz.prog 46 #[.pointer (some ⟨wb, 0, none⟩), .agg #[.int .i64 kind, c1, .int .i64 B, .int .i64 C, .int .u64 (K.toNat : Int), .int .u64 (DD.toNat : Int), c6, .string ⟨zs.toArray⟩, c8, c9, c10, c11, c12, c13, c14, c15, c16, c17, c18, c19, c20, c21, c22, c23, c24, c25, c26, c27, c28, c29, c30, c31, c32, c33, c34, c35, c36, c37, c38, c39, c40]] w fun e w' => e = .returned (.bool true) ∧ More D base wb 2 d w w' := by
  have hl : zs.length ≤ 140737488351232 := by rw [HM.out]; omega
  have hl2 : zs.length ≤ 140737488355328 := by omega
  obtain ⟨S, HS⟩ : ∃ S, Hid (S = Pure.plainOf K uu zs) := ⟨_, hid rfl⟩
  have HSl : Hid (S.length = M) := by show _ = _; rw [HS.out, Pure.plainOf_length, HM.out]; omega
  have hO := OpAt.new w kind B C K DD zs c1 c6 c8 c9 c10 c11 c12 c13 c14 c15 c16 c17 c18 c19 c20 c21 c22 c23 c24 c25 c26 c27 c28 c29 c30 c31 c32 c33 c34 c35 c36 c37 c38 c39 c40
  go_enter Tryz.func46, Tryz.ntmps46
  go_wp2_with fail
  refine (lent_all zs _ _ hl).mono ?_
  rintro e w1 ⟨a, cap, gB, rfl, hL, hg1⟩
  have hO1 := hO.grown hg1 (by simp)
  have G1 := gb_trans (World.grownBy_alloc w _ none) hg1
  have hold : ∀ j, some j = gB → w.heap.size + 1 ≤ j := fun j hj => by have := hL.old j hj; simpa using this
  have hgb : gB ≠ some w.heap.size := fun e => by have := hold _ e.symm; omega
  have hgl : ∀ j, some j = gB → j < w1.heap.size := by
    intro j hj
    rcases hL with ⟨_, _, _, h⟩ | ⟨g, _, h2, _, h4⟩
    · rw [h] at hj; cases hj
    · rw [h2] at hj; cases hj; exact h4.lt
  obtain ⟨hcp1, hcp2⟩ := hL.cap
  obtain ⟨k0, k2, k3, k4, k5, k7⟩ := hO1
  clear hO hg1
  go_wp2_with fail
  refine (wunseal_ok K uu B a zs M cap _ hU HU HM hMl ho hL.at hcp1).mono ?_
  rintro e w2 ⟨v1, p1, rfl, hb1, o1, hg2⟩
  rw [← HS.out] at hb1
  obtain ⟨a1, c1, hv1, _, _, _, _⟩ := hb1.open HSl
  subst hv1
  have hL2 := hL.grown hg2
  have hO2 : OpAt w2 w.heap.size kind B C K DD zs := OpAt.grown ⟨k0, k2, k3, k4, k5, k7⟩ hg2 (by simp)
  clear k0 k2 k3 k4 k5 k7
  obtain ⟨k0, k2, k3, k4, k5, k7⟩ := hO2
  go_wp2_with fail
  refine (wunseal_ok K uu B a zs M cap _ hU HU HM hMl ho hL2.at hcp1).mono ?_
  rintro e w3 ⟨v2, p2, rfl, hb2, o2, hg3⟩
  rw [← HS.out] at hb2
  obtain ⟨a2, c2, hv2, _, _, _, _⟩ := hb2.open HSl
  subst hv2
  have hL3 := hL2.grown hg3
  have hb1' := hb1.grown hg3
  have HNE := hid (fun (q1 q2 : Pl) (h1 : p1 = some q1) (h2 : p2 = some q2) => show q1.g ≠ q2.g from by have := hb1.ltg q1 h1; have := o2 q2 h2; omega)
  have hO3 : OpAt w3 w.heap.size kind B C K DD zs := OpAt.grown ⟨k0, k2, k3, k4, k5, k7⟩ hg3 (by simp)
  clear k0 k2 k3 k4 k5 k7
  obtain ⟨k0, k2, k3, k4, k5, k7⟩ := hO3
  go_wp2_with fail
  refine (back_all zs zs.length a cap gB _ _ (hid rfl) hl hL3).mono ?_
  rintro e w4 ⟨rfl, hg4⟩
  have hO4 : OpAt w4 w.heap.size kind B C K DD zs := OpAt.grown ⟨k0, k2, k3, k4, k5, k7⟩ hg4 hgb
  have s2 := hg2.size
  have hb1'' := hb1'.frm (Frm.of_gb hg4) (fun q hq e => by have := hgl q.g e.symm; have := o1 q hq; omega)
  have hb2'' := hb2.frm (Frm.of_gb hg4) (fun q hq e => by have := hgl q.g e.symm; have := o2 q hq; omega)
  have G4 : w.grownBy w4 none := gb_newer (gb_trans (gb_trans G1 hg2) hg3) hg4 (fun j hj => by have := hold j hj; omega)
  have s1 := G1.size
  clear k0 k2 k3 k4 k5 k7 hg2 hg3 hg4 hL hL2 hL3 hb1 hb1' hb2
  obtain ⟨k0, k2, k3, k4, k5, k7⟩ := hO4
  go_wp2_with (first | (refine wpList_bytes_of _ rfl _ 9 32 rfl 5 Tryz.underlying9 Tryz.underlying32 Tryz.underlying5 zs rfl hl2 ?_; intro b5 cap5 w5 hc5 hc5m hat5 hg5))
  refine (runseal_ok K uu B _ zs M cap5 _ hU HU HM hMl ho hat5 hc5 (by unfold maxLen at hc5m; exact hc5m)).mono ?_
  rintro e w6 ⟨a6, c6, rfl, hat6, hg6⟩
  rw [← HS.out] at hat6
  have K46 := gb_trans hg5 hg6
  have G6 := gb_trans G4 K46
  have f1 := hb1''.grown K46
  have f2 := hb2''.grown K46
  have r1 := run_string_of (P := Tryz.prog) w6 32 9 5 Tryz.underlying32 Tryz.underlying5 Tryz.underlying9 a1 c1 S (f1.at' HSl)
  have r2 := run_string_of (P := Tryz.prog) w6 32 9 5 Tryz.underlying32 Tryz.underlying5 Tryz.underlying9 a2 c2 S (f2.at' HSl)
  have r3 := run_string_of (P := Tryz.prog) w6 32 9 5 Tryz.underlying32 Tryz.underlying5 Tryz.underlying9 a6 c6 S hat6
  rw [HSl.out] at r1 r2 r3
  have CC := byte_two d (.slice a1 M c1) (.slice a2 M c2) p1 p2 S S w w6 hI G6 f1 f2 (by rw [HSl.out]; omega) (by rw [HSl.out]; omega) (fresh_mono o1 (by omega)) (fresh_mono o2 (by omega)) HNE.out hll
  clear k0 k2 k3 k4 k5 k7 hg5 hg6 K46 G4 hb1'' hb2'' hat5 hat6 f1 f2
  go_wp2_with fail
  refine CC.mono ?_
  rintro e w7 ⟨rfl, CD⟩
  clear r1 r2 r3 CC
  go_wp2_with fail
  refine CD.mono ?_
  rintro e w8 ⟨rfl, R⟩
  clear CD
  go_wp2
  go_ret
  exact ⟨rfl, R⟩
end Go.Proofs.YtbanfbpfapjfcaaGreatDoor
namespace Go.Proofs.YtbanfbpfapjfcaaGreatDoor
open Go.RowKit
set_option maxRecDepth 100000
variable {PP QP : Type} {D : Desks PP QP} {base wb : Nat}

theorem free_any (d : WD PP QP) (kind B C : Int) (K DD : UInt64) (zs : List UInt8) (c1 c6 c8 c9 c10 c11 c12 c13 c14 c15 c16 c17 c18 c19 c20 c21 c22 c23 c24 c25 c26 c27 c28 c29 c30 c31 c32 c33 c34 c35 c36 c37 c38 c39 c40 : Value) (w : World) (hk : kind = 1 ∨ kind = 2 ∨ kind = 3) (hl : zs.length ≤ 140737488351232)
    (hI : SepW D base wb d w) (hll : (d.eb.length + 2) * 112 ≤ 140737488355328) :
    Calls Tryz.prog 46 #[.pointer (some ⟨wb, 0, none⟩), .agg #[.int .i64 kind, c1, .int .i64 B, .int .i64 C, .int .u64 (K.toNat : Int), .int .u64 (DD.toNat : Int), c6, .string ⟨zs.toArray⟩, c8, c9, c10, c11, c12, c13, c14, c15, c16, c17, c18, c19, c20, c21, c22, c23, c24, c25, c26, c27, c28, c29, c30, c31, c32, c33, c34, c35, c36, c37, c38, c39, c40]] w fun e w' => e = .returned (.bool true) ∧ More D base wb 2 d w w' := by
  have HU : isU B = true → B = ((UInt64.ofNat B.toNat).toNat : Int) := by
    intro h
    have := isU_in h
    rw [Pure.ofNat_small _ (by omega), Int.toNat_of_nonneg (by omega)]
  rcases hk with rfl | rfl | rfl
  · refine (free_hash wb 1 B C K DD zs c1 c6 c8 c9 c10 c11 c12 c13 c14 c15 c16 c17 c18 c19 c20 c21 c22 c23 c24 c25 c26 c27 c28 c29 c30 c31 c32 c33 c34 c35 c36 c37 c38 c39 c40 w rfl hl).mono ?_
    rintro e w' ⟨rfl, hg⟩
    exact ⟨rfl, More.none 2 hI hg⟩
  · by_cases hU : isU B = true
    · by_cases hn : zs.length ≤ 200
      · exact free_seal_ok d 2 B C K DD zs c1 c6 c8 c9 c10 c11 c12 c13 c14 c15 c16 c17 c18 c19 c20 c21 c22 c23 c24 c25 c26 c27 c28 c29 c30 c31 c32 c33 c34 c35 c36 c37 c38 c39 c40 w rfl rfl hn hU hI hll
      · exact free_seal_bad d 2 B C K DD zs c1 c6 c8 c9 c10 c11 c12 c13 c14 c15 c16 c17 c18 c19 c20 c21 c22 c23 c24 c25 c26 c27 c28 c29 c30 c31 c32 c33 c34 c35 c36 c37 c38 c39 c40 w rfl rfl hl (.inr ⟨hU, by omega⟩) hI hll
    · exact free_seal_bad d 2 B C K DD zs c1 c6 c8 c9 c10 c11 c12 c13 c14 c15 c16 c17 c18 c19 c20 c21 c22 c23 c24 c25 c26 c27 c28 c29 c30 c31 c32 c33 c34 c35 c36 c37 c38 c39 c40 w rfl rfl hl (.inl (by simpa using hU)) hI hll
  · by_cases hU : isU B = true
    · by_cases hn : zs.length < 16 ∨ 216 < zs.length
      · exact free_unseal_bad d 3 B C 3 K DD 0 zs c1 c6 c8 c9 c10 c11 c12 c13 c14 c15 c16 c17 c18 c19 c20 c21 c22 c23 c24 c25 c26 c27 c28 c29 c30 c31 c32 c33 c34 c35 c36 c37 c38 c39 c40 w rfl rfl rfl hl (.inr (.inl ⟨hU, rfl, hn⟩)) rfl hI hll
      · cases ho : Pure.opens K (UInt64.ofNat B.toNat) zs
        · exact free_unseal_bad d 3 B C 3 K DD (UInt64.ofNat B.toNat) zs c1 c6 c8 c9 c10 c11 c12 c13 c14 c15 c16 c17 c18 c19 c20 c21 c22 c23 c24 c25 c26 c27 c28 c29 c30 c31 c32 c33 c34 c35 c36 c37 c38 c39 c40 w rfl rfl rfl hl (.inr (.inr ⟨hU, rfl, HU hU, by omega, by omega, ho⟩)) rfl hI hll
        · exact free_unseal_ok d 3 B C K DD (UInt64.ofNat B.toNat) zs (zs.length - 16) c1 c6 c8 c9 c10 c11 c12 c13 c14 c15 c16 c17 c18 c19 c20 c21 c22 c23 c24 c25 c26 c27 c28 c29 c30 c31 c32 c33 c34 c35 c36 c37 c38 c39 c40 w rfl rfl rfl hU (HU hU) (hid (by omega)) (by omega) ho hI hll
    · exact free_unseal_bad d 3 B C 1 K DD 0 zs c1 c6 c8 c9 c10 c11 c12 c13 c14 c15 c16 c17 c18 c19 c20 c21 c22 c23 c24 c25 c26 c27 c28 c29 c30 c31 c32 c33 c34 c35 c36 c37 c38 c39 c40 w rfl rfl rfl hl (.inl ⟨by simpa using hU, rfl⟩) rfl hI hll

theorem Tryz.size82 : (Tryz.prog.info? 82).map (·.size) = some 41 := by kernel_rfl

/-- A struct is read, wherever its cells lie. -/
theorem wpList_load_at {P : Program} {ops : Array Oper} {rest : List Oper} {o : Oper} {a : Act} {w : World} {Q : Exit → Act → World → Prop} (hgd : o.guard = none) (ty : TypeId) (x : Operand) (ho : o.op = .load ty x)
    (ad : Addr) (hx : a.eval x = .pointer (some ad)) (cs : Array Value) (d : TypeDesc) (hc : ∀ j v, cs.toList[j]? = some v → w.cell? (ad.add j) = some v)
    (hu : P.underlying ty = some d) (hd : (match d with | .struct _ | .array _ _ => true | _ => false) = true) (hi : (P.info? ty).map (·.size) = some cs.size)
    (h : wpList P ops Q rest (a.put o.dst (.agg cs)) w) : wpList P ops Q (o :: rest) a w := by
  refine wpList_plain hgd fun K hK => ?_
  have hl : (loadCells ad cs.toList.length).run P w = .ok cs.toList.toArray w := run_loadCells_list (P := P) w ad cs.toList hc
  have hrun : (loadVar ty ad).run P w = .ok (.agg cs) w := by
    cases hq : P.info? ty with
    | none => simp [hq] at hi
    | some i =>
      have hs : i.size = cs.size := by simpa [hq] using hi
      have hagg : (isAgg ty).run P w = .ok true w := by
        unfold isAgg
        rw [Sem.run_bind, run_underlying hu w]
        cases d <;> simp_all
      simp only [Array.length_toList, Array.toArray_toList] at hl
      simp [loadVar, Sem.run_bind, hagg, sizeOf, typeInfo, hq, hs, hl]
  unfold Oper.wp execOp
  simp only [ho, hx, Instr.loadAt, Instr.sureAddr, Sem.run_bind, Sem.run_pure, Result.andThen_ok, hrun]
  exact hK _ _ h

set_option maxHeartbeats 1000000 in
theorem step_any (d : WD PP QP) (kind B C : Int) (K DD : UInt64) (zs : List UInt8) (c1 c6 c8 c9 c10 c11 c12 c13 c14 c15 c16 c17 c18 c19 c20 c21 c22 c23 c24 c25 c26 c27 c28 c29 c30 c31 c32 c33 c34 c35 c36 c37 c38 c39 c40 : Value) (w : World) (hk : Hid (kind = 1 ∨ kind = 2 ∨ kind = 3)) (hl : zs.length ≤ 140737488351232)
    (hI : SepW D base wb d w) (hll : (d.eb.length + 2) * 112 ≤ 140737488355328) :
    Calls Tryz.prog 27 #[.pointer (some ⟨wb, 0, none⟩), .agg #[.int .i64 kind, c1, .int .i64 B, .int .i64 C, .int .u64 (K.toNat : Int), .int .u64 (DD.toNat : Int), c6, .string ⟨zs.toArray⟩, c8, c9, c10, c11, c12, c13, c14, c15, c16, c17, c18, c19, c20, c21, c22, c23, c24, c25, c26, c27, c28, c29, c30, c31, c32, c33, c34, c35, c36, c37, c38, c39, c40]] w fun e w' => e = .returned (.bool true) ∧ More D base wb 2 d w w' := by
  have G := World.grownBy_alloc w (.cells #[.int .i64 kind, c1, .int .i64 B, .int .i64 C, .int .u64 (K.toNat : Int), .int .u64 (DD.toNat : Int), c6, .string ⟨zs.toArray⟩, c8, c9, c10, c11, c12, c13, c14, c15, c16, c17, c18, c19, c20, c21, c22, c23, c24, c25, c26, c27, c28, c29, c30, c31, c32, c33, c34, c35, c36, c37, c38, c39, c40] 82) none
  have hI1 := hI.grown G
  have CC := free_any d kind B C K DD zs c1 c6 c8 c9 c10 c11 c12 c13 c14 c15 c16 c17 c18 c19 c20 c21 c22 c23 c24 c25 c26 c27 c28 c29 c30 c31 c32 c33 c34 c35 c36 c37 c38 c39 c40 _ hk.out hl hI1 hll
  have C2 : Calls Tryz.prog 46 #[.pointer (some ⟨wb, 0, none⟩), .agg #[.int .i64 kind, c1, .int .i64 B, .int .i64 C, .int .u64 (K.toNat : Int), .int .u64 (DD.toNat : Int), c6, .string ⟨zs.toArray⟩, c8, c9, c10, c11, c12, c13, c14, c15, c16, c17, c18, c19, c20, c21, c22, c23, c24, c25, c26, c27, c28, c29, c30, c31, c32, c33, c34, c35, c36, c37, c38, c39, c40]] (w.alloc (.cells #[.int .i64 kind, c1, .int .i64 B, .int .i64 C, .int .u64 (K.toNat : Int), .int .u64 (DD.toNat : Int), c6, .string ⟨zs.toArray⟩, c8, c9, c10, c11, c12, c13, c14, c15, c16, c17, c18, c19, c20, c21, c22, c23, c24, c25, c26, c27, c28, c29, c30, c31, c32, c33, c34, c35, c36, c37, c38, c39, c40] 82)) fun e w' => e = .returned (.bool true) ∧ More D base wb 2 d w w' :=
    CC.mono fun e w' ⟨h1, h2⟩ => ⟨h1, h2.before G hI.room⟩
  have hrow : (w.alloc (.cells #[.int .i64 kind, c1, .int .i64 B, .int .i64 C, .int .u64 (K.toNat : Int), .int .u64 (DD.toNat : Int), c6, .string ⟨zs.toArray⟩, c8, c9, c10, c11, c12, c13, c14, c15, c16, c17, c18, c19, c20, c21, c22, c23, c24, c25, c26, c27, c28, c29, c30, c31, c32, c33, c34, c35, c36, c37, c38, c39, c40] 82)).heap[w.heap.size]? = some (.cells #[.int .i64 kind, c1, .int .i64 B, .int .i64 C, .int .u64 (K.toNat : Int), .int .u64 (DD.toNat : Int), c6, .string ⟨zs.toArray⟩, c8, c9, c10, c11, c12, c13, c14, c15, c16, c17, c18, c19, c20, c21, c22, c23, c24, c25, c26, c27, c28, c29, c30, c31, c32, c33, c34, c35, c36, c37, c38, c39, c40] 82 (0, 0)) := heap_alloc_new w _
  clear hI hI1 G CC
  rcases hk.out with rfl | rfl | rfl
  all_goals
    clear hk
    go_enter Tryz.func27, Tryz.ntmps27
    go_wp2_with (refine wpList_load_row rfl 82 _ rfl w.heap.size rfl 82 _ (0, 0) _ hrow Tryz.underlying82 rfl Tryz.size82 ?_)
    refine C2.mono ?_
    rintro e w' ⟨rfl, R⟩
    clear C2 hrow
    go_wp2
    go_ret
    exact ⟨rfl, R⟩

end Go.Proofs.YtbanfbpfapjfcaaGreatDoor
namespace Go.Proofs.YtbanfbpfapjfcaaGreatDoor
open Go.RowKit
set_option maxRecDepth 100000
variable {PP QP : Type}

/-- Of the blocks that were there in w, all but those of U are nobody's (or the plain desks' row's), and are as they were. -/
def FreeB (D : Desks PP QP) (wb : Nat) (U : Nat → Prop) (d : WD PP QP) (w wk : World) : Prop := ∀ b, b < w.heap.size → ¬ U b → (∀ j, WD.F D wb d j b → j = 1) ∧ wk.heap[b]? = w.heap[b]?
/-- What the world holds but for the plain desks' row. -/
def HeldB (D : Desks PP QP) (wb : Nat) (d : WD PP QP) (b : Nat) : Prop := ∃ j, j ≠ 1 ∧ WD.F D wb d j b
/-- The plain desks' row, and what is nobody's, stay as they were. -/
structure KeptP (D : Desks PP QP) (wb : Nat) (d : WD PP QP) (w w' : World) : Prop where
  pv : w'.cell? ⟨wb, 0, none⟩ = some d.pv
  blk : ∀ b, b < w.heap.size → ¬ HeldB D wb d b → w'.heap[b]? = w.heap[b]?
theorem FreeB.start {D : Desks PP QP} {wb : Nat} {d : WD PP QP} {w : World} : FreeB D wb (HeldB D wb d) d w w :=
  fun _ _ hu => ⟨fun j hj => Classical.byContradiction fun e => hu ⟨j, e, hj⟩, rfl⟩
theorem FreeB.blk {D : Desks PP QP} {wb : Nat} {U : Nat → Prop} {d : WD PP QP} {w wk : World} (h : FreeB D wb U d w wk) {g : Nat} {cs : Array Value} (hb : Blk w g cs) (hu : ¬ U g) : Blk wk g cs := hb.kept (h g hb.lt hu).2
theorem HeldB.lt {D : Desks PP QP} {base wb : Nat} {d : WD PP QP} {w : World} (h : SepW D base wb d w) {b : Nat} (hb : HeldB D wb d b) : b < w.heap.size := by
  obtain ⟨j, _, hj⟩ := hb
  exact h.lt j b hj
theorem own_blk {w : World} {base : Nat} {e : TypeId} {g n : Nat} {xs : List Value} (h : w.ownsRow base e 1 (.slice (some ⟨g, 0, none⟩) n n) n xs) : Blk w g xs.toArray ∧ base ≤ g := by
  rcases h.2 with ⟨hv, _⟩ | ⟨g', cap, cur, hv, hb, hg, _, _, hsz, ht⟩
  · cases hv
  · injection hv with e1 _ e3
    injection e1 with e1
    injection e1 with e1 _ _
    subst e1 e3
    refine ⟨⟨e, ?_⟩, hb⟩
    rw [hg, ← ht, Nat.mul_one, List.take_of_length_le (by rw [Array.length_toList, hsz]; omega), Array.toArray_toList]
theorem own_ne {w : World} {ba bb : Nat} {e f : TypeId} {g h n m cn cm : Nat} {xs ys : List Value} (hx : w.ownsRow ba e 1 (.slice (some ⟨g, 0, none⟩) n cn) n xs) (hy : w.ownsRow bb f 1 (.slice (some ⟨h, 0, none⟩) m cm) m ys) (hne : e ≠ f) : g ≠ h := by
  rcases hx.2 with ⟨hv, _⟩ | ⟨g', cap, cur, hv, _, hg, _⟩
  · cases hv
  · rcases hy.2 with ⟨hu, _⟩ | ⟨h', cap', cur', hu, _, hh, _⟩
    · cases hu
    · injection hv with e1 _ _
      injection e1 with e1
      injection e1 with e1 _ _
      injection hu with e2 _ _
      injection e2 with e2
      injection e2 with e2 _ _
      subst e1 e2
      intro e
      rw [e, hh] at hg
      injection hg with hg
      injection hg with _ hg _
      exact hne hg.symm
theorem Blk.four {w : World} {g : Nat} {a b c d : Value} (h : Blk w g #[a, b, c, d]) : w.cell? ⟨g, 0, none⟩ = some a ∧ w.cell? ⟨g, 1, none⟩ = some b ∧ w.cell? ⟨g, 2, none⟩ = some c ∧ w.cell? ⟨g, 3, none⟩ = some d := ⟨h.cell 0, h.cell 1, h.cell 2, h.cell 3⟩
end Go.Proofs.YtbanfbpfapjfcaaGreatDoor
namespace Go.Proofs.YtbanfbpfapjfcaaGreatDoor
open Go.RowKit
set_option maxRecDepth 100000
variable {PP QP : Type} {D : Desks PP QP} {base wb : Nat}

theorem int_step (d : WD PP QP) (g n : Nat) (vs : List Value) (w : World) (hS : SepW D base wb d w) (hn : Hid (vs.length = n)) (hnl : n ≤ 100000) (hb : Blk w g vs.toArray) (hbg : base ≤ g) (hfr : ∀ j, ¬ WD.F D wb d j g) (hll : (d.ei.length + 1) * 112 ≤ 140737488355328) :
    Calls Tryz.prog 83 #[.pointer (some ⟨wb, 2, none⟩), .slice (some ⟨g, 0, none⟩) n n] w fun e w' => e = .returned (.tuple #[]) ∧ (∃ x v', SepW D base wb { d with iv := v', ei := d.ei ++ [x] } w' ∧ ∀ j b, WD.F D wb { d with iv := v', ei := d.ei ++ [x] } j b → WD.F D wb d j b ∨ b = g ∨ w.heap.size ≤ b) ∧ Below base w w' ∧ Frm w w' (fun b => b = wb ∨ d.iv.ownBlock = some b ∨ b = g) := by
  have h0 : Blk w wb d.cells := hS.here 0
  have h3 : w.ownsRow base 120 5 d.iv d.ei.length (evCells d.ei) := hS.here 5
  have hwb : WD.F D wb d 0 wb := rfl
  have hbv : d.iv.ownBlock ≠ some wb := fun e => by have := hS.one 0 5 wb hwb e; omega
  obtain ⟨gB, hgB, hgn⟩ : ∃ gB : Option Nat, ((n = 0 ∧ gB = none) ∨ ∃ g', gB = some g' ∧ (some ⟨g, 0, none⟩ : Option Addr) = some ⟨g', 0, none⟩ ∧ 0 < n ∧ Blk w g' vs.toArray ∧ g' ≠ wb ∧ d.iv.ownBlock ≠ some g') ∧ ∀ b, gB = some b → b = g := by
    by_cases e : n = 0
    · exact ⟨none, .inl ⟨e, rfl⟩, fun b h => by cases h⟩
    · exact ⟨some g, .inr ⟨g, rfl, rfl, by omega, hb, fun e => hfr 0 e, fun e => hfr 5 e⟩, fun b h => by injection h with h; exact h.symm⟩
  refine (lint_V base wb n (some ⟨g, 0, none⟩) vs d.ei d.iv d.cells gB w h0 rfl h3 hbv hS.room hn hnl (hid (fun e => by cases e)) (hid hgB) hll).mono ?_
  rintro e w' ⟨rfl, hM⟩
  have hM' := hM
  obtain ⟨x, v', _, _, _, _, h4, _⟩ := hM'
  have R := hS.int (fun b hb' => by rw [hgn b hb']; exact ⟨hbg, hb.lt, hfr⟩) hM
  obtain ⟨⟨x1, v1, s1, s2⟩, s3⟩ := R
  refine ⟨rfl, ⟨x1, v1, s1, fun j b hj => ?_⟩, s3, h4.mono (fun b _ e => ?_)⟩
  · rcases s2 j b hj with e | e | e
    · exact .inl e
    · exact .inr (.inl (hgn b e))
    · exact .inr (.inr e)
  · rcases e with e | e | e
    · exact .inl e
    · exact .inr (.inl e)
    · exact .inr (.inr (hgn b e))
theorem int_free (d : WD PP QP) (g n m : Nat) (U : Nat → Prop) (vs : List Value) (w wk : World) (hS : SepW D base wb d wk) (hF : FreeB D wb U d w wk) (hw : w.heap.size ≤ wk.heap.size) (hb0 : base ≤ g) (hn : Hid (vs.length = n)) (hnl : n ≤ 100000) (hb : Blk w g vs.toArray) (hu : ¬ U g) (hpv : d.pv.ownBlock ≠ some g) (hll : (d.ei.length + 1) * 112 ≤ 140737488355328) :
    Calls Tryz.prog 83 #[.pointer (some ⟨wb, 2, none⟩), .slice (some ⟨g, 0, none⟩) n n] (wk.drewN m) fun e w' => e = .returned (.tuple #[]) ∧ ∃ x v', SepW D base wb { d with iv := v', ei := d.ei ++ [x] } w' ∧ FreeB D wb (fun b => U b ∨ b = g) { d with iv := v', ei := d.ei ++ [x] } w w' ∧ Below base wk w' ∧ w.heap.size ≤ w'.heap.size := by
  have hbk : Blk (wk.drewN m) g vs.toArray := (hF.blk hb hu).drewN m
  have hno : ∀ j, ¬ WD.F D wb d j g := fun j hj => by
    have e := (hF g hb.lt hu).1 j hj
    subst e
    exact hpv hj
  refine (int_step d g n vs (wk.drewN m) (hS.grown (gb_drewN (World.grownBy.refl wk none) m)) hn hnl hbk hb0 hno hll).mono ?_
  rintro e w' ⟨rfl, ⟨x, v', s1, s2⟩, s3, s4⟩
  have z : wk.heap.size ≤ w'.heap.size := s4.size
  refine ⟨rfl, x, v', s1, fun b h2 h3 => ?_, ⟨s3.os, s3.tape, s3.output, s3.size, s3.block⟩, by omega⟩
  have hu' : ¬ U b := fun e => h3 (.inl e)
  have hne : b ≠ g := fun e => h3 (.inr e)
  obtain ⟨q1, q2⟩ := hF b h2 hu'
  refine ⟨fun j hj => ?_, ?_⟩
  · rcases s2 j b hj with e | e | e
    · exact q1 j e
    · exact absurd e hne
    · have e : wk.heap.size ≤ b := e; omega
  · rw [← q2]
    refine s4.block b (by show b < wk.heap.size; omega) ?_
    rintro (e | e | e)
    · have := q1 0 e; omega
    · have := q1 5 e; omega
    · exact hne e
end Go.Proofs.YtbanfbpfapjfcaaGreatDoor
