/-
  Contract of hashOn: it returns the hash of the bytes that lie in its slice, going on from a hash; memory stays as it was. Conditions: the bytes are read at the slice, at most 2 to the 47th of them.
-/
import Derived.Test.YtenpbfenekgobaaProg
import Derived.Test.YtenpbfenekgobaaLaws
namespace Go.Proofs.Ytenpbfenekgobaa
open Go.RowKit

set_option maxHeartbeats 400000 in
theorem hashOn_any (h : UInt64) (zs : List UInt8) (ao : Option Addr) (cap : Nat) (w : World) (hl : zs.length ≤ 140737488355328) (hc : At w ao zs) :
    Calls Try.prog 15 #[.int .u64 (h.toNat : Int), .slice ao zs.length cap] w fun e w' => e = .returned (.int .u64 ((Pure.hashL h zs).toNat : Int)) ∧ w = w' := by
  go_enter Try.func15, Try.ntmps15
  go_wp2
  go_loop [0, 6, 9] (fun hh _ i => ∃ k : Nat, k ≤ zs.length ∧ i = .int .i64 k ∧ hh = .int .u64 ((Pure.hashL h (zs.take k)).toNat : Int)) (fun _ _ i => zs.length - (intOf i).toNat)
  case atStart => exact ⟨0, Nat.zero_le _, rfl, rfl⟩
  case round =>
    obtain ⟨k, hk, rfl, rfl⟩ := hrel
    by_cases hlt : k < zs.length
    · obtain ⟨b, off, rfl, hck⟩ := hc k hlt
      clear hc
      go_wp2
      go_round
      case rel => exact ⟨k + 1, by omega, by go_num, val_u64 (by rw [take_snoc hlt, Pure.hashL_snoc]; exact step_int _ _)⟩
      case measure => simp [intOf]; omega
    · clear hc
      go_wp2
      go_ret
      exact ⟨ret_u64 (by rw [List.take_of_length_le (by omega)]), rfl⟩

end Go.Proofs.Ytenpbfenekgobaa
