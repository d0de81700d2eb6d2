/-
  Contract of Lists.looks over lists of bytes, numbers and texts: nothing but its own mark stands in each list. Conditions: so it is; there are no lists of what was done.
-/
import Derived.Test.YtbanfbpfapjfcaaGreatDoorGLawAInt
namespace Go.Proofs.YtbanfbpfapjfcaaGreatDoor
open Go.RowKit
set_option maxRecDepth 100000

/-- The lists of one kind: the row of entries, each marked. -/
structure LRow (w : World) (base : Nat) (ent : TypeId) (v : Value) (l : List EntV) (isMark : Value → Prop) : Prop where
  row : w.ownsRow base ent 5 v l.length (evCells l)
  ok : ∀ x ∈ l, x.ok w
  mark : ∀ x ∈ l, isMark x.mark
theorem LRow.grown {w w' : World} {base : Nat} {ent : TypeId} {v : Value} {l : List EntV} {p : Value → Prop} (h : LRow w base ent v l p) (k : w.grownBy w' none) : LRow w' base ent v l p :=
  ⟨h.row.kept k (Classical.em _), fun x hx => (h.ok x hx).keep (fun b hb => k.block b ((h.ok x hx).lt hb) (by simp)), h.mark⟩

set_option maxHeartbeats 4000000 in
theorem looks_V (base wb : Nat) (v0 v1 : Value) (vB vI vS : Value) (eB eI eS : List EntV) (w : World) (hW : Blk w wb #[v0, v1, vB, vI, vS, .slice none 0 0])
    (hB : LRow w base 117 vB eB isMB) (hI : LRow w base 120 vI eI isMI) (hS : LRow w base 123 vS eS isMS) (lB : eB.length ≤ 140737488355328) (lI : eI.length ≤ 140737488355328) (lS : eS.length ≤ 140737488355328) :
    Calls Tryz.prog 28 #[.pointer (some ⟨wb, 2, none⟩)] w fun e w' => e = .returned (.bool true) ∧ w.grownBy w' none := by
  obtain ⟨aB, cB, hvB⟩ := own_shape hB.row
  obtain ⟨aI, cI, hvI⟩ := own_shape hI.row
  obtain ⟨aS, cS, hvS⟩ := own_shape hS.row
  subst hvB hvI hvS
  have G : w.grownBy w none := World.grownBy.refl _ _
  go_enter Tryz.func28, Tryz.ntmps28
  go_wp2
  go_loopw [3, 4, 5, 6, 7, 8, 9] (fun o i _ _ _ _ _ wr => ∃ k : Nat, k ≤ eB.length ∧ i = .int .i64 k ∧ o = .bool true ∧ w.grownBy wr none) (fun _ i _ _ _ _ _ _ => eB.length - (intOf i).toNat)
  case atStart => exact ⟨0, Nat.zero_le _, rfl, rfl, G⟩
  case round =>
    obtain ⟨k, hk, rfl, rfl, hgr⟩ := hrel
    have hWr := hW.grown hgr (by simp)
    have hrB := hB.grown hgr
    have hc : wr.cell? ⟨wb, 2, none⟩ = some (.slice aB eB.length cB) := (hWr.cell 2).trans rfl
    by_cases hlt : k < eB.length
    · have hkI : (k : Int) < (eB.length : Int) := by omega
      have hk0 : (0 : Int) ≤ (k : Int) := by omega
      have hx := hrB.ok eB[k] (List.getElem_mem hlt)
      obtain ⟨m, hm⟩ := hrB.mark eB[k] (List.getElem_mem hlt)
      obtain ⟨g0, hab⟩ : ∃ g0, aB = some ⟨g0, 0, none⟩ := by
        rcases hrB.row.2 with ⟨h, h2⟩ | ⟨g, cap, cur, h, _⟩
        · omega
        · simp at h; exact ⟨g, h.1⟩
      subst hab
      have hcell : ∀ j, j < 5 → wr.cell? ⟨g0, k * 5 + j, none⟩ = (eB[k]).cells[j]? := by
        intro j hj
        rw [hrB.row.cellAt (k * 5 + j) (by omega)]
        exact evCells_get eB k j hlt hj
      obtain ⟨X, hX⟩ : ∃ X, X = eB[k] := ⟨_, rfl⟩
      rw [← hX] at hx hcell hm
      clear hX
      obtain ⟨⟨pl, nl, cl⟩, ⟨p1, n1, c1⟩, ⟨p2, n2, c2⟩, ⟨p3, n3, c3⟩, mk⟩ := X
      have hm' : mk = .int .u8 (m.toNat : Int) := hm
      subst hm'
      clear hm
      have q0 : wr.cell? ⟨g0, k * 5, none⟩ = some (.slice pl nl cl) := hcell 0 (by omega)
      have q1 : wr.cell? ⟨g0, k * 5 + 1, none⟩ = some (.slice p1 n1 c1) := hcell 1 (by omega)
      have q2 : wr.cell? ⟨g0, k * 5 + 2, none⟩ = some (.slice p2 n2 c2) := hcell 2 (by omega)
      have q3 : wr.cell? ⟨g0, k * 5 + 3, none⟩ = some (.slice p3 n3 c3) := hcell 3 (by omega)
      have q4 : wr.cell? ⟨g0, k * 5 + 4, none⟩ = some (.int .u8 (m.toNat : Int)) := hcell 4 (by omega)
      obtain ⟨⟨b0, t0⟩, ⟨b1, t1⟩, ⟨b2, t2⟩, ⟨b3, t3⟩⟩ := hx
      simp only at b0 t0 b1 t1 b2 t2 b3 t3
      have K : ∀ o, wr.grownBy (wr.alloc o) none := fun o => World.grownBy_alloc wr o none
      clear hcell hrB hWr hB hI hS hW
      go_wp2_with (first | (go_at_call_of 50 pl; refine (allbyte_V nl pl cl m _ b0 (t0.below (K _))).mono ?_; rintro e w' ⟨rfl, rfl⟩) | (go_at_call_of 50 p1; refine (allbyte_V n1 p1 c1 m _ b1 (t1.below (K _))).mono ?_; rintro e w' ⟨rfl, rfl⟩) | (go_at_call_of 50 p2; refine (allbyte_V n2 p2 c2 m _ b2 (t2.below (K _))).mono ?_; rintro e w' ⟨rfl, rfl⟩) | (go_at_call_of 50 p3; refine (allbyte_V n3 p3 c3 m _ b3 (t3.below (K _))).mono ?_; rintro e w' ⟨rfl, rfl⟩))
      go_roundw
      case rel => exact ⟨k + 1, by omega, by go_num, rfl, gb_trans hgr (K _)⟩
      case measure => simp [intOf]; omega
    · have hkI : ¬ (k : Int) < (eB.length : Int) := by omega
      clear hrB hWr
      go_wp2
      clear hc hkI hlt hk
      obtain ⟨wzB, hwzB⟩ : ∃ w', w' = wr := ⟨wr, rfl⟩
      subst hwzB
      go_loopw [3, 10, 11, 12, 13, 14, 15] (fun o i _ _ _ _ _ wr => ∃ k : Nat, k ≤ eI.length ∧ i = .int .i64 k ∧ o = .bool true ∧ w.grownBy wr none) (fun _ i _ _ _ _ _ _ => eI.length - (intOf i).toNat)
      case atStart => exact ⟨0, Nat.zero_le _, rfl, rfl, hgr⟩
      case round =>
        clear hgr
        obtain ⟨k, hk, rfl, rfl, hgr⟩ := hrel
        have hWr := hW.grown hgr (by simp)
        have hrI := hI.grown hgr
        have hc : wr.cell? ⟨wb, 3, none⟩ = some (.slice aI eI.length cI) := (hWr.cell 3).trans rfl
        by_cases hlt : k < eI.length
        · have hkI : (k : Int) < (eI.length : Int) := by omega
          have hk0 : (0 : Int) ≤ (k : Int) := by omega
          have hx := hrI.ok eI[k] (List.getElem_mem hlt)
          obtain ⟨m, hm⟩ := hrI.mark eI[k] (List.getElem_mem hlt)
          obtain ⟨g0, hab⟩ : ∃ g0, aI = some ⟨g0, 0, none⟩ := by
            rcases hrI.row.2 with ⟨h, h2⟩ | ⟨g, cap, cur, h, _⟩
            · omega
            · simp at h; exact ⟨g, h.1⟩
          subst hab
          have hcell : ∀ j, j < 5 → wr.cell? ⟨g0, k * 5 + j, none⟩ = (eI[k]).cells[j]? := by
            intro j hj
            rw [hrI.row.cellAt (k * 5 + j) (by omega)]
            exact evCells_get eI k j hlt hj
          obtain ⟨X, hX⟩ : ∃ X, X = eI[k] := ⟨_, rfl⟩
          rw [← hX] at hx hcell hm
          clear hX
          obtain ⟨⟨pl, nl, cl⟩, ⟨p1, n1, c1⟩, ⟨p2, n2, c2⟩, ⟨p3, n3, c3⟩, mk⟩ := X
          have hm' : mk = .int .i64 m := hm
          subst hm'
          clear hm
          have q0 : wr.cell? ⟨g0, k * 5, none⟩ = some (.slice pl nl cl) := hcell 0 (by omega)
          have q1 : wr.cell? ⟨g0, k * 5 + 1, none⟩ = some (.slice p1 n1 c1) := hcell 1 (by omega)
          have q2 : wr.cell? ⟨g0, k * 5 + 2, none⟩ = some (.slice p2 n2 c2) := hcell 2 (by omega)
          have q3 : wr.cell? ⟨g0, k * 5 + 3, none⟩ = some (.slice p3 n3 c3) := hcell 3 (by omega)
          have q4 : wr.cell? ⟨g0, k * 5 + 4, none⟩ = some (.int .i64 m) := hcell 4 (by omega)
          obtain ⟨⟨b0, t0⟩, ⟨b1, t1⟩, ⟨b2, t2⟩, ⟨b3, t3⟩⟩ := hx
          simp only at b0 t0 b1 t1 b2 t2 b3 t3
          have K : ∀ o, wr.grownBy (wr.alloc o) none := fun o => World.grownBy_alloc wr o none
          clear hcell hrI hWr hB hI hS hW
          go_wp2_with (first | (go_at_call_of 51 pl; refine (allint_V nl pl cl m _ b0 (t0.below (K _))).mono ?_; rintro e w' ⟨rfl, rfl⟩) | (go_at_call_of 51 p1; refine (allint_V n1 p1 c1 m _ b1 (t1.below (K _))).mono ?_; rintro e w' ⟨rfl, rfl⟩) | (go_at_call_of 51 p2; refine (allint_V n2 p2 c2 m _ b2 (t2.below (K _))).mono ?_; rintro e w' ⟨rfl, rfl⟩) | (go_at_call_of 51 p3; refine (allint_V n3 p3 c3 m _ b3 (t3.below (K _))).mono ?_; rintro e w' ⟨rfl, rfl⟩))
          go_roundw
          case rel => exact ⟨k + 1, by omega, by go_num, rfl, gb_trans hgr (K _)⟩
          case measure => simp [intOf]; omega
        · have hkI : ¬ (k : Int) < (eI.length : Int) := by omega
          clear hrI hWr
          go_wp2
          clear hc hkI hlt hk
          obtain ⟨wzI, hwzI⟩ : ∃ w', w' = wr := ⟨wr, rfl⟩
          subst hwzI
          go_loopw [3, 16, 17, 18, 19, 20, 21] (fun o i _ _ _ _ _ wr => ∃ k : Nat, k ≤ eS.length ∧ i = .int .i64 k ∧ o = .bool true ∧ w.grownBy wr none) (fun _ i _ _ _ _ _ _ => eS.length - (intOf i).toNat)
          case atStart => exact ⟨0, Nat.zero_le _, rfl, rfl, hgr⟩
          case round =>
            clear hgr
            obtain ⟨k, hk, rfl, rfl, hgr⟩ := hrel
            have hWr := hW.grown hgr (by simp)
            have hrS := hS.grown hgr
            have hc : wr.cell? ⟨wb, 4, none⟩ = some (.slice aS eS.length cS) := (hWr.cell 4).trans rfl
            by_cases hlt : k < eS.length
            · have hkI : (k : Int) < (eS.length : Int) := by omega
              have hk0 : (0 : Int) ≤ (k : Int) := by omega
              have hx := hrS.ok eS[k] (List.getElem_mem hlt)
              obtain ⟨m, hm⟩ := hrS.mark eS[k] (List.getElem_mem hlt)
              obtain ⟨g0, hab⟩ : ∃ g0, aS = some ⟨g0, 0, none⟩ := by
                rcases hrS.row.2 with ⟨h, h2⟩ | ⟨g, cap, cur, h, _⟩
                · omega
                · simp at h; exact ⟨g, h.1⟩
              subst hab
              have hcell : ∀ j, j < 5 → wr.cell? ⟨g0, k * 5 + j, none⟩ = (eS[k]).cells[j]? := by
                intro j hj
                rw [hrS.row.cellAt (k * 5 + j) (by omega)]
                exact evCells_get eS k j hlt hj
              obtain ⟨X, hX⟩ : ∃ X, X = eS[k] := ⟨_, rfl⟩
              rw [← hX] at hx hcell hm
              clear hX
              obtain ⟨⟨pl, nl, cl⟩, ⟨p1, n1, c1⟩, ⟨p2, n2, c2⟩, ⟨p3, n3, c3⟩, mk⟩ := X
              have hm' : mk = .string m := hm
              subst hm'
              clear hm
              have q0 : wr.cell? ⟨g0, k * 5, none⟩ = some (.slice pl nl cl) := hcell 0 (by omega)
              have q1 : wr.cell? ⟨g0, k * 5 + 1, none⟩ = some (.slice p1 n1 c1) := hcell 1 (by omega)
              have q2 : wr.cell? ⟨g0, k * 5 + 2, none⟩ = some (.slice p2 n2 c2) := hcell 2 (by omega)
              have q3 : wr.cell? ⟨g0, k * 5 + 3, none⟩ = some (.slice p3 n3 c3) := hcell 3 (by omega)
              have q4 : wr.cell? ⟨g0, k * 5 + 4, none⟩ = some (.string m) := hcell 4 (by omega)
              obtain ⟨⟨b0, t0⟩, ⟨b1, t1⟩, ⟨b2, t2⟩, ⟨b3, t3⟩⟩ := hx
              simp only at b0 t0 b1 t1 b2 t2 b3 t3
              have K : ∀ o, wr.grownBy (wr.alloc o) none := fun o => World.grownBy_alloc wr o none
              clear hcell hrS hWr hB hI hS hW
              go_wp2_with (first | (go_at_call_of 52 pl; refine (allstr_V nl pl cl m _ b0 (t0.below (K _))).mono ?_; rintro e w' ⟨rfl, rfl⟩) | (go_at_call_of 52 p1; refine (allstr_V n1 p1 c1 m _ b1 (t1.below (K _))).mono ?_; rintro e w' ⟨rfl, rfl⟩) | (go_at_call_of 52 p2; refine (allstr_V n2 p2 c2 m _ b2 (t2.below (K _))).mono ?_; rintro e w' ⟨rfl, rfl⟩) | (go_at_call_of 52 p3; refine (allstr_V n3 p3 c3 m _ b3 (t3.below (K _))).mono ?_; rintro e w' ⟨rfl, rfl⟩))
              go_roundw
              case rel => exact ⟨k + 1, by omega, by go_num, rfl, gb_trans hgr (K _)⟩
              case measure => simp [intOf]; omega
            · have hkI : ¬ (k : Int) < (eS.length : Int) := by omega
              have hc5 : wr.cell? ⟨wb, 5, none⟩ = some (.slice none 0 0) := (hWr.cell 5).trans rfl
              clear hrS hWr hB hI hS hW
              go_wp2
              refine wp_loop_rounds 1 ?_
              rw [rounds_succ]
              go_wp2
              go_ret
              exact ⟨rfl, hgr⟩
end Go.Proofs.YtbanfbpfapjfcaaGreatDoor
