/-
  Contracts of Join, pick, isUse, Hash, same and both instances of Append. Conditions: in each statement (bounds of the arguments; where the bytes lie; room in the block that is written).
-/
import Derived.Test.YtenpbfenekgobaaW1
namespace Go.Proofs.Ytenpbfenekgobaa
open Go.RowKit

set_option maxHeartbeats 400000 in
theorem join_any (h : UInt64) (zs : List UInt8) (ao : Option Addr) (cap : Nat) (w : World) (hl : zs.length ≤ 140737488355328) (hc : At w ao zs) :
    Calls Try.prog 16 #[.int .u64 (h.toNat : Int), .slice ao zs.length cap] w fun e w' => e = .returned (.int .u64 ((Pure.joinL h zs).toNat : Int)) ∧ w = w' := by
  go_enter Try.func16, Try.ntmps16
  go_wp2
  go_loop [5, 7, 11] (fun hh _ i => ∃ k : Nat, k ≤ zs.length ∧ i = .int .i64 k ∧ hh = .int .u64 ((Pure.joinL h (zs.take k)).toNat : Int)) (fun _ _ i => zs.length - (intOf i).toNat)
  case atStart => exact ⟨0, Nat.zero_le _, rfl, rfl⟩
  case round =>
    obtain ⟨k, hk, rfl, rfl⟩ := hrel
    by_cases hlt : k < zs.length
    · obtain ⟨b, off, rfl, hck⟩ := hc k hlt
      clear hc
      go_wp2
      go_round
      case rel => exact ⟨k + 1, by omega, by go_num, val_u64 (by rw [take_snoc hlt, Pure.joinL_snoc]; exact join_int _ _)⟩
      case measure => simp [intOf]; omega
    · clear hc
      go_wp2
      go_ret
      exact ⟨ret_u64 (by rw [List.take_of_length_le (by omega)]), rfl⟩

def pickN (c : Int) (n : Nat) : Nat := if c < 0 then (-(c + 1)).toNat % n else c.toNat % n
theorem ret_i64 {a b : Int} (h : a = b) : Ending.returned (.int .i64 a) = .returned (.int .i64 b) := by rw [h]

theorem pickN_neg (c n : Int) (h : c < 0) (hn : 1 ≤ n) : -(c + 1).tmod n = ((pickN c n.toNat : Nat) : Int) := by
  unfold pickN
  rw [if_pos h, ← Int.neg_tmod, Int.tmod_eq_emod_of_nonneg (by omega), Int.natCast_emod, Int.toNat_of_nonneg (by omega), Int.toNat_of_nonneg (by omega)]
theorem pickN_pos (c n : Int) (h : 0 ≤ c) (hn : 1 ≤ n) : c % n = ((pickN c n.toNat : Nat) : Int) := by
  unfold pickN
  rw [if_neg (by omega), Int.natCast_emod, Int.toNat_of_nonneg h, Int.toNat_of_nonneg (by omega)]
theorem pickN_lt (c : Int) (n : Nat) (hn : 1 ≤ n) : pickN c n < n := by
  unfold pickN; split <;> exact Nat.mod_lt _ hn

set_option maxHeartbeats 400000 in
theorem pick_any (c : Int) (n : Int) (w : World) (hc : -9223372036854775808 ≤ c ∧ c ≤ 9223372036854775807) (hn : 1 ≤ n ∧ n ≤ 9223372036854775807) :
    Calls Try.prog 4 #[.int .i64 c, .int .i64 n] w fun e w' => e = .returned (.int .i64 (pickN c n.toNat : Int)) ∧ w = w' := by
  obtain ⟨c1, c2⟩ := hc
  obtain ⟨n1, n2⟩ := hn
  by_cases h : c < 0
  · go_enter Try.func4, Try.ntmps4
    go_wp2
    go_ret
    exact ⟨ret_i64 (pickN_neg c n h n1), rfl⟩
  · go_enter Try.func4, Try.ntmps4
    go_wp2
    go_ret
    exact ⟨ret_i64 (pickN_pos c n (by omega) n1), rfl⟩

def isU (c : Int) : Bool := decide (1 ≤ c ∧ c ≤ 5)

set_option maxHeartbeats 400000 in
theorem isUse_any (c : Int) (w : World) :
    Calls Try.prog 11 #[.int .i64 c] w fun e w' => e = .returned (.bool (isU c)) ∧ w = w' := by
  by_cases h : 1 ≤ c
  · by_cases h2 : c ≤ 5
    · go_enter Try.func11, Try.ntmps11
      go_wp2
      go_ret
      exact ⟨by simp [isU, h, h2], rfl⟩
    · have h3 : isU c = false := by simp [isU]; omega
      go_enter Try.func11, Try.ntmps11
      go_wp2
      go_ret
      exact ⟨rfl, rfl⟩
  · have h3 : isU c = false := by simp [isU]; omega
    go_enter Try.func11, Try.ntmps11
    go_wp2
    go_ret
    exact ⟨rfl, rfl⟩

set_option maxHeartbeats 400000 in
theorem hash_any (zs : List UInt8) (ao : Option Addr) (cap : Nat) (w : World) (hl : zs.length ≤ 140737488355328) (hc : At w ao zs) :
    Calls Try.prog 18 #[.slice ao zs.length cap] w fun e w' => e = .returned (.int .u64 ((Pure.hashL 0 zs).toNat : Int)) ∧ w = w' := by
  go_enter Try.func18, Try.ntmps18
  go_wp2_with (go_at_call 15; refine (hashOn_any 0 zs ao cap _ hl hc).mono ?_; rintro e w' ⟨rfl, rfl⟩)
  go_ret
  exact ⟨rfl, rfl⟩

set_option maxHeartbeats 400000 in
theorem same_any (xs ys : List UInt8) (ao bo : Option Addr) (ca cb : Nat) (w : World) (ha : At w ao xs) (hb : At w bo ys) :
    Calls Try.prog 7 #[.slice ao xs.length ca, .slice bo ys.length cb] w fun e w' => e = .returned (.bool (xs == ys)) ∧ w = w' := by
  have r1 := run_string_of (P := Try.prog) w 23 9 5 Try.underlying23 Try.underlying5 Try.underlying9 ao ca xs ha
  have r2 := run_string_of (P := Try.prog) w 23 9 5 Try.underlying23 Try.underlying5 Try.underlying9 bo cb ys hb
  clear ha hb
  go_enter Try.func7, Try.ntmps7
  go_wp2
  go_ret
  exact ⟨rfl, rfl⟩

theorem Try.info5 : (Try.prog.info? 5).map (fun i => (i.zero, i.size, i.bytes)) = some (some (.int .u8 0), 1, 1) := by kernel_rfl

set_option maxHeartbeats 400000 in
theorem append64_any (g cap : Nat) (bs : List UInt8) (v : UInt64) (size n : Nat) (w : World) (hb : Buf w g cap bs) (hn : n = bs.length) (hs : size ≤ 8) (hr : bs.length + size ≤ cap) :
    Calls Try.prog 13 #[.slice (some ⟨g, 0, none⟩) n cap, .int .u64 (v.toNat : Int), .int .i64 size] w fun e w' => e = .returned (.slice (some ⟨g, 0, none⟩) (n + size) cap) ∧ Buf w' g cap (bs ++ Pure.be v size) ∧ w.grownBy w' (some g) := by
  subst hn
  obtain ⟨i0, hi, hz0, hz1, hz2⟩ := info_parts Try.info5
  go_enter Try.func13, Try.ntmps13
  go_wp2
  go_loopw [0, 8] (fun o i wr => ∃ k : Nat, k ≤ size ∧ i = .int .i64 ((size : Int) - 1 - k) ∧ o = .slice (some ⟨g, 0, none⟩) (bs.length + k) cap ∧ Buf wr g cap (bs ++ Pure.beTo v size k) ∧ w.grownBy wr (some g)) (fun _ i _ => (intOf i + 1).toNat)
  case atStart => exact ⟨0, Nat.zero_le _, by go_num, rfl, by simpa [Pure.beTo_zero] using hb, World.grownBy.refl _ _⟩
  case round =>
    obtain ⟨k, hk, rfl, rfl, hbr, hgr⟩ := hrel
    by_cases hlt : k < size
    · go_wp2_with (at_builtin; refine wpList_append_buf _ rfl _ _ 23 rfl 5 i0 Try.underlying23 hi hz1 g _ cap (bs ++ Pure.beTo v size k) [Pure.byteAt v (size - 1 - k)] rfl (hbr.alloc _) ?c1 ⟨wr.heap.size, 0, none⟩ 1 1 rfl rfl ?c2 ?c3 ?_)
      case c1 => simp [Pure.beTo_length]
      case c2 => exact byteAt_new _ _ _ _
      case c3 => simp [Pure.beTo_length]; omega
      · intro w1 hb1 hg1
        have R : Buf w1 g cap (bs ++ Pure.beTo v size (k + 1)) ∧ w.grownBy w1 (some g) := ⟨by rw [Pure.beTo_succ]; simpa only [List.append_assoc] using hb1, gb_trans (gb_alloc hgr _) hg1⟩
        clear hb1 hg1 hbr hgr hb
        go_wp2
        go_roundw
        case rel => exact ⟨k + 1, by omega, by go_num, rfl, R.1, R.2⟩
        case measure => simp [intOf]; omega
    · have hks : k = size := by omega
      subst hks
      go_wp2
      go_ret
      exact ⟨rfl, hbr, hgr⟩

set_option maxHeartbeats 400000 in
theorem appendInt_any (g cap : Nat) (bs : List UInt8) (v : UInt64) (size n : Nat) (w : World) (hb : Buf w g cap bs) (hn : n = bs.length) (hs : size ≤ 8) (hr : bs.length + size ≤ cap) (x : Int) (hx : x = v.toNat) (hv : v.toNat < 9223372036854775808) :
    Calls Try.prog 17 #[.slice (some ⟨g, 0, none⟩) n cap, .int .i64 x, .int .i64 size] w fun e w' => e = .returned (.slice (some ⟨g, 0, none⟩) (n + size) cap) ∧ Buf w' g cap (bs ++ Pure.be v size) ∧ w.grownBy w' (some g) := by
  subst hn hx
  obtain ⟨i0, hi, hz0, hz1, hz2⟩ := info_parts Try.info5
  go_enter Try.func17, Try.ntmps17
  go_wp2
  go_loopw [0, 8] (fun o i wr => ∃ k : Nat, k ≤ size ∧ i = .int .i64 ((size : Int) - 1 - k) ∧ o = .slice (some ⟨g, 0, none⟩) (bs.length + k) cap ∧ Buf wr g cap (bs ++ Pure.beTo v size k) ∧ w.grownBy wr (some g)) (fun _ i _ => (intOf i + 1).toNat)
  case atStart => exact ⟨0, Nat.zero_le _, by go_num, rfl, by simpa [Pure.beTo_zero] using hb, World.grownBy.refl _ _⟩
  case round =>
    obtain ⟨k, hk, rfl, rfl, hbr, hgr⟩ := hrel
    by_cases hlt : k < size
    · go_wp2_with (at_builtin; refine wpList_append_buf _ rfl _ _ 23 rfl 5 i0 Try.underlying23 hi hz1 g _ cap (bs ++ Pure.beTo v size k) [Pure.byteAt v (size - 1 - k)] rfl (hbr.alloc _) ?c1 ⟨wr.heap.size, 0, none⟩ 1 1 rfl rfl ?c2 ?c3 ?_)
      case c1 => simp [Pure.beTo_length]
      case c2 => exact byteAt_new _ _ _ _
      case c3 => simp [Pure.beTo_length]; omega
      · intro w1 hb1 hg1
        have R : Buf w1 g cap (bs ++ Pure.beTo v size (k + 1)) ∧ w.grownBy w1 (some g) := ⟨by rw [Pure.beTo_succ]; simpa only [List.append_assoc] using hb1, gb_trans (gb_alloc hgr _) hg1⟩
        clear hb1 hg1 hbr hgr hb
        go_wp2
        go_roundw
        case rel => exact ⟨k + 1, by omega, by go_num, rfl, R.1, R.2⟩
        case measure => simp [intOf]; omega
    · have hks : k = size := by omega
      subst hks
      go_wp2
      go_ret
      exact ⟨rfl, hbr, hgr⟩

end Go.Proofs.Ytenpbfenekgobaa
