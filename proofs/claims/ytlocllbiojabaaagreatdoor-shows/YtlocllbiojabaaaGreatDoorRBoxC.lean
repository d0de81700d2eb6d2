/-
  What the document's Number asks of a number before it writes it: whether so many bytes hold it. Conditions: in each statement.
-/
import Derived.Test.YtlocllbiojabaaaGreatDoorRBoxB
namespace Go.Proofs.YtlocllbiojabaaaGreatDoor
open Go.RowKit
set_option maxRecDepth 100000

theorem seven {k : Nat} (h1 : 1 ≤ k) (h8 : k < 8) : k = 1 ∨ k = 2 ∨ k = 3 ∨ k = 4 ∨ k = 5 ∨ k = 6 ∨ k = 7 := by omega
set_option maxHeartbeats 1000000 in
theorem test_ne {v : Int} {k : Nat} (h0 : -9223372036854775808 ≤ v) (h1 : v ≤ 9223372036854775807) (hk1 : 1 ≤ k) (hk : k < Box.size v) : (wrap64 (v * 2 ^ (64 - 8 * k)) / 2 ^ (64 - 8 * k) != v) = true := by
  have hs := (size_bounds v).2
  rw [bne_iff_ne]
  unfold wrap64
  rcases seven hk1 (by omega) with rfl | rfl | rfl | rfl | rfl | rfl | rfl <;> simp only [Nat.reduceMul, Nat.reduceSub, Int.reducePow] <;> unfold Box.size at hk <;> (repeat' split at hk) <;> omega
set_option maxHeartbeats 1000000 in
theorem test_eq {v : Int} {k : Nat} (h0 : -9223372036854775808 ≤ v) (h1 : v ≤ 9223372036854775807) (hk8 : k < 8) (hk : k = Box.size v) : (wrap64 (v * 2 ^ (64 - 8 * k)) / 2 ^ (64 - 8 * k) != v) = false := by
  have hs := (size_bounds v).1
  rw [bne_eq_false_iff_eq]
  unfold wrap64
  rcases seven (k := k) (by omega) hk8 with rfl | rfl | rfl | rfl | rfl | rfl | rfl <;> simp only [Nat.reduceMul, Nat.reduceSub, Int.reducePow] <;> unfold Box.size at hk <;> (repeat' split at hk) <;> omega

end Go.Proofs.YtlocllbiojabaaaGreatDoor
