/-
  Contract of Lists.looks: nothing but its own mark stands in each list. Conditions: the owner's book holds.
-/
import Derived.Test.YtlocllbiojabaaaGreatDoorLaw2
namespace Go.Proofs.YtlocllbiojabaaaGreatDoor
open Go.RowKit
set_option maxRecDepth 100000

theorem entCells_get (l : List Ent) : ∀ (k j : Nat) (hk : k < l.length), j < 5 → (entCells l)[k * 5 + j]? = (l[k]).cells[j]? := by
  induction l with
  | nil => intro k j hk; simp at hk
  | cons x l ih =>
    intro k j hk hj
    have e : entCells (x :: l) = x.cells ++ entCells l := by simp [entCells]
    rw [e]
    cases k with
    | zero => rw [Nat.zero_mul, Nat.zero_add, List.getElem?_append_left (by rw [Ent.cells_length]; exact hj)]; rfl
    | succ k =>
      rw [List.getElem?_append_right (by rw [Ent.cells_length]; omega), Ent.cells_length, show (k + 1) * 5 + j - 5 = k * 5 + j from by omega]
      exact ih k j (by simpa using hk) hj

theorem rep_all (n : Nat) (m : UInt8) : ∀ z ∈ List.replicate n m, z = m := fun _ h => List.eq_of_mem_replicate h

set_option maxHeartbeats 1000000 in
theorem looks_any (base wb : Nat) (l : List Ent) (vb : Value) (w : World) (hI : Inv base wb w l vb) (hll : l.length ≤ 140737488355328) :
    Calls Tryz.prog 9 #[.pointer (some ⟨wb, 2, none⟩)] w fun e w' => e = .returned (.bool true) ∧ w.grownBy w' none := by
  obtain ⟨ab, cb, hvb⟩ := own_shape hI.2.1
  subst hvb
  go_enter Tryz.func9, Tryz.ntmps9
  go_wp2
  go_loopw [3, 4, 5, 6, 7, 8, 9] (fun o i _ _ _ _ _ wr => ∃ k : Nat, k ≤ l.length ∧ i = .int .i64 k ∧ o = .bool true ∧ w.grownBy wr none) (fun _ i _ _ _ _ _ _ => l.length - (intOf i).toNat)
  case atStart => exact ⟨0, Nat.zero_le _, rfl, rfl, World.grownBy.refl _ _⟩
  case round =>
    obtain ⟨k, hk, rfl, rfl, hgr⟩ := hrel
    have hIr := hI.grown hgr
    have hc2 : wr.cell? ⟨wb, 2, none⟩ = some (.slice ab l.length cb) := by rw [cell_of_row wr wb 2 _ _ _ hIr.1]; rfl
    by_cases hlt : k < l.length
    · have hx := hIr.2.2.2.1 l[k] (List.getElem_mem hlt)
      obtain ⟨g0, hab⟩ : ∃ g0, ab = some ⟨g0, 0, none⟩ := by
        rcases hI.2.1.2 with ⟨h, h2⟩ | ⟨g, cap, cur, h, _⟩
        · omega
        · simp at h; exact ⟨g, h.1⟩
      subst hab
      have hcell : ∀ j, j < 5 → wr.cell? ⟨g0, k * 5 + j, none⟩ = (l[k]).cells[j]? := by
        intro j hj
        rw [hIr.2.1.cellAt (k * 5 + j) (by omega)]
        exact entCells_get l k j hlt hj
      obtain ⟨X, hX⟩ : ∃ X, X = l[k] := ⟨_, rfl⟩
      rw [← hX] at hx hcell
      clear hX
      obtain ⟨⟨pl, nl, cl⟩, ⟨p1, n1, c1⟩, ⟨p2, n2, c2⟩, ⟨p3, n3, c3⟩, m⟩ := X
      have q0 : wr.cell? ⟨g0, k * 5, none⟩ = some (.slice pl nl cl) := hcell 0 (by omega)
      have q1 : wr.cell? ⟨g0, k * 5 + 1, none⟩ = some (.slice p1 n1 c1) := hcell 1 (by omega)
      have q2 : wr.cell? ⟨g0, k * 5 + 2, none⟩ = some (.slice p2 n2 c2) := hcell 2 (by omega)
      have q3 : wr.cell? ⟨g0, k * 5 + 3, none⟩ = some (.slice p3 n3 c3) := hcell 3 (by omega)
      have q4 : wr.cell? ⟨g0, k * 5 + 4, none⟩ = some (.int .u8 (m.toNat : Int)) := hcell 4 (by omega)
      obtain ⟨⟨b0, t0, _⟩, ⟨b1, t1, _⟩, ⟨b2, t2, _⟩, ⟨b3, t3, _⟩⟩ := hx
      simp only at b0 t0 b1 t1 b2 t2 b3 t3
      have K : ∀ o, wr.grownBy (wr.alloc o) none := fun o => World.grownBy_alloc wr o none
      clear hcell hIr hI
      have L : ∀ n, Hid ((List.replicate n m).length = n) := fun n => hid List.length_replicate
      have M : ∀ n, Hid (∀ z ∈ List.replicate n m, z = m) := fun n => hid (rep_all n m)
      go_wp2_with (first | (go_at_call_of 14 pl; refine (allBytes_any _ m nl pl cl _ (L nl) b0 (M nl) (t0.below (K _))).mono ?_; rintro e w' ⟨rfl, rfl⟩) | (go_at_call_of 14 p1; refine (allBytes_any _ m n1 p1 c1 _ (L n1) b1 (M n1) (t1.below (K _))).mono ?_; rintro e w' ⟨rfl, rfl⟩) | (go_at_call_of 14 p2; refine (allBytes_any _ m n2 p2 c2 _ (L n2) b2 (M n2) (t2.below (K _))).mono ?_; rintro e w' ⟨rfl, rfl⟩) | (go_at_call_of 14 p3; refine (allBytes_any _ m n3 p3 c3 _ (L n3) b3 (M n3) (t3.below (K _))).mono ?_; rintro e w' ⟨rfl, rfl⟩))
      go_roundw
      case rel => exact ⟨k + 1, by omega, by go_num, rfl, gb_trans hgr (K _)⟩
      case measure => simp [intOf]; omega
    · have hc3 : wr.cell? ⟨wb, 3, none⟩ = some (.slice none 0 0) := by rw [cell_of_row wr wb 3 _ _ _ hIr.1]; rfl
      have hc4 : wr.cell? ⟨wb, 4, none⟩ = some (.slice none 0 0) := by rw [cell_of_row wr wb 4 _ _ _ hIr.1]; rfl
      have hc5 : wr.cell? ⟨wb, 5, none⟩ = some (.slice none 0 0) := by rw [cell_of_row wr wb 5 _ _ _ hIr.1]; rfl
      clear hI hIr
      go_wp2
      refine wp_loop_rounds 1 ?_
      rw [rounds_succ]
      go_wp2
      refine wp_loop_rounds 1 ?_
      rw [rounds_succ]
      go_wp2
      refine wp_loop_rounds 1 ?_
      rw [rounds_succ]
      go_wp2
      go_ret
      exact ⟨rfl, hgr⟩

end Go.Proofs.YtlocllbiojabaaaGreatDoor
