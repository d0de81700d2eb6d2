/-
  Contract: does nothing but the mark stand in a list? Conditions: nothing else does.
  Contract: does nothing but the mark stand in a list? Conditions: nothing else does.
  Contract: does nothing but the mark stand in a list? Conditions: nothing else does.
-/
import Derived.Test.YtbanfbpfapjfcaaGreatDoorGSep
namespace Go.Proofs.YtbanfbpfapjfcaaGreatDoor
open Go.RowKit
set_option maxRecDepth 100000

set_option maxHeartbeats 1000000 in
theorem allint_V (n : Nat) (ao : Option Addr) (cap : Nat) (m : Int) (w : World) (hl : n ≤ 9223372036854775807) (hc : CAt w ao (List.replicate n (.int .i64 m : Value))) :
    Calls Tryz.prog 51 #[.slice ao n cap, .int .i64 m] w fun e w' => e = .returned (.bool true) ∧ w = w' := by
  go_enter Tryz.func51, Tryz.ntmps51
  go_wp2
  go_loop [5] (fun i => ∃ k : Nat, k ≤ n ∧ i = .int .i64 k) (fun i => n - (intOf i).toNat)
  case atStart => exact ⟨0, Nat.zero_le _, rfl⟩
  case round =>
    obtain ⟨k, hk, rfl⟩ := hrel
    by_cases hlt : k < n
    · have hkI : (k : Int) < (n : Int) := by omega
      have hk0 : (0 : Int) ≤ (k : Int) := by omega
      obtain ⟨b, off, rfl, hck⟩ := hc k _ (by rw [List.getElem?_replicate, if_pos hlt])
      clear hc
      go_wp2
      go_round
      case rel => exact ⟨k + 1, by omega, by go_num⟩
      case measure => simp [intOf]; omega
    · have hkI : ¬ (k : Int) < (n : Int) := by omega
      clear hc
      go_wp2
      go_ret
      exact ⟨rfl, rfl⟩
end Go.Proofs.YtbanfbpfapjfcaaGreatDoor
namespace Go.Proofs.YtbanfbpfapjfcaaGreatDoor
open Go.RowKit
set_option maxRecDepth 100000

set_option maxHeartbeats 1000000 in
theorem allstr_V (n : Nat) (ao : Option Addr) (cap : Nat) (M : ByteArray) (w : World) (hl : n ≤ 9223372036854775807) (hc : CAt w ao (List.replicate n (.string M : Value))) :
    Calls Tryz.prog 52 #[.slice ao n cap, .string M] w fun e w' => e = .returned (.bool true) ∧ w = w' := by
  go_enter Tryz.func52, Tryz.ntmps52
  go_wp2
  go_loop [5] (fun i => ∃ k : Nat, k ≤ n ∧ i = .int .i64 k) (fun i => n - (intOf i).toNat)
  case atStart => exact ⟨0, Nat.zero_le _, rfl⟩
  case round =>
    obtain ⟨k, hk, rfl⟩ := hrel
    by_cases hlt : k < n
    · have hkI : (k : Int) < (n : Int) := by omega
      have hk0 : (0 : Int) ≤ (k : Int) := by omega
      obtain ⟨b, off, rfl, hck⟩ := hc k _ (by rw [List.getElem?_replicate, if_pos hlt])
      clear hc
      go_wp2
      go_round
      case rel => exact ⟨k + 1, by omega, by go_num⟩
      case measure => simp [intOf]; omega
    · have hkI : ¬ (k : Int) < (n : Int) := by omega
      clear hc
      go_wp2
      go_ret
      exact ⟨rfl, rfl⟩
end Go.Proofs.YtbanfbpfapjfcaaGreatDoor
namespace Go.Proofs.YtbanfbpfapjfcaaGreatDoor
open Go.RowKit
set_option maxRecDepth 100000

set_option maxHeartbeats 1000000 in
theorem allbyte_V (n : Nat) (ao : Option Addr) (cap : Nat) (m : UInt8) (w : World) (hl : n ≤ 9223372036854775807) (hc : CAt w ao (List.replicate n (.int .u8 (m.toNat : Int) : Value))) :
    Calls Tryz.prog 50 #[.slice ao n cap, .int .u8 (m.toNat : Int)] w fun e w' => e = .returned (.bool true) ∧ w = w' := by
  go_enter Tryz.func50, Tryz.ntmps50
  go_wp2
  go_loop [5] (fun i => ∃ k : Nat, k ≤ n ∧ i = .int .i64 k) (fun i => n - (intOf i).toNat)
  case atStart => exact ⟨0, Nat.zero_le _, rfl⟩
  case round =>
    obtain ⟨k, hk, rfl⟩ := hrel
    by_cases hlt : k < n
    · have hkI : (k : Int) < (n : Int) := by omega
      have hk0 : (0 : Int) ≤ (k : Int) := by omega
      obtain ⟨b, off, rfl, hck⟩ := hc k _ (by rw [List.getElem?_replicate, if_pos hlt])
      clear hc
      go_wp2
      go_round
      case rel => exact ⟨k + 1, by omega, by go_num⟩
      case measure => simp [intOf]; omega
    · have hkI : ¬ (k : Int) < (n : Int) := by omega
      clear hc
      go_wp2
      go_ret
      exact ⟨rfl, rfl⟩
end Go.Proofs.YtbanfbpfapjfcaaGreatDoor
