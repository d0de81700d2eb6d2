/-
  Contracts of hashOn, Join, isUse, Hash and both instances of Append: what each call returns and what it leaves of memory. Conditions: in each statement (where the bytes lie; room in the block that is written).
-/
import Derived.Test.YtbanfbpfapjfcaaGreatDoorProg
import Derived.Test.YtbanfbpfapjfcaaGreatDoorGLaws
import Derived.Test.YtbanfbpfapjfcaaGreatDoorGBase
namespace Go.Proofs.YtbanfbpfapjfcaaGreatDoor
open Go.RowKit
set_option maxRecDepth 100000

set_option maxHeartbeats 400000 in
theorem hashOn_any (h : UInt64) (zs : List UInt8) (ao : Option Addr) (cap : Nat) (w : World) (hl : zs.length ≤ 140737488355328) (hc : At w ao zs) :
    Calls Tryz.prog 138 #[.int .u64 (h.toNat : Int), .slice ao zs.length cap] w fun e w' => e = .returned (.int .u64 ((Pure.hashL h zs).toNat : Int)) ∧ w = w' := by
  go_enter Tryz.func138, Tryz.ntmps138
  go_wp2
  go_loop [0, 6, 9] (fun hh _ i => ∃ k : Nat, k ≤ zs.length ∧ i = .int .i64 k ∧ hh = .int .u64 ((Pure.hashL h (zs.take k)).toNat : Int)) (fun _ _ i => zs.length - (intOf i).toNat)
  case atStart => exact ⟨0, Nat.zero_le _, rfl, rfl⟩
  case round =>
    obtain ⟨k, hk, rfl, rfl⟩ := hrel
    by_cases hlt : k < zs.length
    · obtain ⟨b, off, rfl, hck⟩ := hc k hlt
      clear hc
      go_wp2
      go_round
      case rel => exact ⟨k + 1, by omega, by go_num, val_u64 (by rw [take_snoc hlt, Pure.hashL_snoc]; exact step_int _ _)⟩
      case measure => simp [intOf]; omega
    · clear hc
      go_wp2
      go_ret
      exact ⟨ret_u64 (by rw [List.take_of_length_le (by omega)]), rfl⟩

set_option maxHeartbeats 400000 in
theorem join_any (h : UInt64) (zs : List UInt8) (ao : Option Addr) (cap : Nat) (w : World) (hl : zs.length ≤ 140737488355328) (hc : At w ao zs) :
    Calls Tryz.prog 208 #[.int .u64 (h.toNat : Int), .slice ao zs.length cap] w fun e w' => e = .returned (.int .u64 ((Pure.joinL h zs).toNat : Int)) ∧ w = w' := by
  go_enter Tryz.func208, Tryz.ntmps208
  go_wp2
  go_loop [5, 7, 11] (fun hh _ i => ∃ k : Nat, k ≤ zs.length ∧ i = .int .i64 k ∧ hh = .int .u64 ((Pure.joinL h (zs.take k)).toNat : Int)) (fun _ _ i => zs.length - (intOf i).toNat)
  case atStart => exact ⟨0, Nat.zero_le _, rfl, rfl⟩
  case round =>
    obtain ⟨k, hk, rfl, rfl⟩ := hrel
    by_cases hlt : k < zs.length
    · obtain ⟨b, off, rfl, hck⟩ := hc k hlt
      clear hc
      go_wp2
      go_round
      case rel => exact ⟨k + 1, by omega, by go_num, val_u64 (by rw [take_snoc hlt, Pure.joinL_snoc]; exact join_int _ _)⟩
      case measure => simp [intOf]; omega
    · clear hc
      go_wp2
      go_ret
      exact ⟨ret_u64 (by rw [List.take_of_length_le (by omega)]), rfl⟩

def isU (c : Int) : Bool := decide (1 ≤ c ∧ c ≤ 5)

set_option maxHeartbeats 400000 in
theorem isUse_any (c : Int) (w : World) :
    Calls Tryz.prog 94 #[.int .i64 c] w fun e w' => e = .returned (.bool (isU c)) ∧ w = w' := by
  by_cases h : 1 ≤ c
  · by_cases h2 : c ≤ 5
    · go_enter Tryz.func94, Tryz.ntmps94
      go_wp2
      go_ret
      exact ⟨by simp [isU, h, h2], rfl⟩
    · have h3 : isU c = false := by simp [isU]; omega
      go_enter Tryz.func94, Tryz.ntmps94
      go_wp2
      go_ret
      exact ⟨rfl, rfl⟩
  · have h3 : isU c = false := by simp [isU]; omega
    go_enter Tryz.func94, Tryz.ntmps94
    go_wp2
    go_ret
    exact ⟨rfl, rfl⟩

set_option maxHeartbeats 400000 in
theorem hash_any (zs : List UInt8) (ao : Option Addr) (cap : Nat) (w : World) (hl : zs.length ≤ 140737488355328) (hc : At w ao zs) :
    Calls Tryz.prog 103 #[.slice ao zs.length cap] w fun e w' => e = .returned (.int .u64 ((Pure.hashL 0 zs).toNat : Int)) ∧ w = w' := by
  go_enter Tryz.func103, Tryz.ntmps103
  go_wp2_with (go_at_call 138; refine (hashOn_any 0 zs ao cap _ hl hc).mono ?_; rintro e w' ⟨rfl, rfl⟩)
  go_ret
  exact ⟨rfl, rfl⟩


set_option maxHeartbeats 400000 in
theorem append64_any (g cap : Nat) (bs : List UInt8) (v : UInt64) (size n : Nat) (w : World) (hb : Buf w g cap bs) (hn : n = bs.length) (hs : size ≤ 8) (hr : bs.length + size ≤ cap) :
    Calls Tryz.prog 141 #[.slice (some ⟨g, 0, none⟩) n cap, .int .u64 (v.toNat : Int), .int .i64 size] w fun e w' => e = .returned (.slice (some ⟨g, 0, none⟩) (n + size) cap) ∧ Buf w' g cap (bs ++ Pure.be v size) ∧ w.grownBy w' (some g) := by
  subst hn
  obtain ⟨i0, hi, hz0, hz1, hz2⟩ := info_parts Tryz.info5
  go_enter Tryz.func141, Tryz.ntmps141
  go_wp2
  go_loopw [0, 8] (fun o i wr => ∃ k : Nat, k ≤ size ∧ i = .int .i64 ((size : Int) - 1 - k) ∧ o = .slice (some ⟨g, 0, none⟩) (bs.length + k) cap ∧ Buf wr g cap (bs ++ Pure.beTo v size k) ∧ w.grownBy wr (some g)) (fun _ i _ => (intOf i + 1).toNat)
  case atStart => exact ⟨0, Nat.zero_le _, by go_num, rfl, by simpa [Pure.beTo_zero] using hb, World.grownBy.refl _ _⟩
  case round =>
    obtain ⟨k, hk, rfl, rfl, hbr, hgr⟩ := hrel
    by_cases hlt : k < size
    · go_wp2_with (at_builtin; refine wpList_append_buf _ rfl _ _ 32 rfl 5 i0 Tryz.underlying32 hi hz1 g _ cap (bs ++ Pure.beTo v size k) [Pure.byteAt v (size - 1 - k)] rfl (hbr.alloc _) ?c1 ⟨wr.heap.size, 0, none⟩ 1 1 rfl rfl ?c2 ?c3 ?_)
      case c1 => simp [Pure.beTo_length]
      case c2 => exact byteAt_new _ _ _ _
      case c3 => simp [Pure.beTo_length]; omega
      · intro w1 hb1 hg1
        have R : Buf w1 g cap (bs ++ Pure.beTo v size (k + 1)) ∧ w.grownBy w1 (some g) := ⟨by rw [Pure.beTo_succ]; simpa only [List.append_assoc] using hb1, gb_trans (gb_alloc hgr _) hg1⟩
        clear hb1 hg1 hbr hgr hb
        go_wp2
        go_roundw
        case rel => exact ⟨k + 1, by omega, by go_num, rfl, R.1, R.2⟩
        case measure => simp [intOf]; omega
    · have hks : k = size := by omega
      subst hks
      go_wp2
      go_ret
      exact ⟨rfl, hbr, hgr⟩

set_option maxHeartbeats 400000 in
theorem appendInt_any (g cap : Nat) (bs : List UInt8) (v : UInt64) (size n : Nat) (w : World) (hb : Buf w g cap bs) (hn : n = bs.length) (hs : size ≤ 8) (hr : bs.length + size ≤ cap) (x : Int) (hx : x = v.toNat) (hv : v.toNat < 9223372036854775808) :
    Calls Tryz.prog 209 #[.slice (some ⟨g, 0, none⟩) n cap, .int .i64 x, .int .i64 size] w fun e w' => e = .returned (.slice (some ⟨g, 0, none⟩) (n + size) cap) ∧ Buf w' g cap (bs ++ Pure.be v size) ∧ w.grownBy w' (some g) := by
  subst hn hx
  obtain ⟨i0, hi, hz0, hz1, hz2⟩ := info_parts Tryz.info5
  go_enter Tryz.func209, Tryz.ntmps209
  go_wp2
  go_loopw [0, 8] (fun o i wr => ∃ k : Nat, k ≤ size ∧ i = .int .i64 ((size : Int) - 1 - k) ∧ o = .slice (some ⟨g, 0, none⟩) (bs.length + k) cap ∧ Buf wr g cap (bs ++ Pure.beTo v size k) ∧ w.grownBy wr (some g)) (fun _ i _ => (intOf i + 1).toNat)
  case atStart => exact ⟨0, Nat.zero_le _, by go_num, rfl, by simpa [Pure.beTo_zero] using hb, World.grownBy.refl _ _⟩
  case round =>
    obtain ⟨k, hk, rfl, rfl, hbr, hgr⟩ := hrel
    by_cases hlt : k < size
    · go_wp2_with (at_builtin; refine wpList_append_buf _ rfl _ _ 32 rfl 5 i0 Tryz.underlying32 hi hz1 g _ cap (bs ++ Pure.beTo v size k) [Pure.byteAt v (size - 1 - k)] rfl (hbr.alloc _) ?c1 ⟨wr.heap.size, 0, none⟩ 1 1 rfl rfl ?c2 ?c3 ?_)
      case c1 => simp [Pure.beTo_length]
      case c2 => exact byteAt_new _ _ _ _
      case c3 => simp [Pure.beTo_length]; omega
      · intro w1 hb1 hg1
        have R : Buf w1 g cap (bs ++ Pure.beTo v size (k + 1)) ∧ w.grownBy w1 (some g) := ⟨by rw [Pure.beTo_succ]; simpa only [List.append_assoc] using hb1, gb_trans (gb_alloc hgr _) hg1⟩
        clear hb1 hg1 hbr hgr hb
        go_wp2
        go_roundw
        case rel => exact ⟨k + 1, by omega, by go_num, rfl, R.1, R.2⟩
        case measure => simp [intOf]; omega
    · have hks : k = size := by omega
      subst hks
      go_wp2
      go_ret
      exact ⟨rfl, hbr, hgr⟩

end Go.Proofs.YtbanfbpfapjfcaaGreatDoor
