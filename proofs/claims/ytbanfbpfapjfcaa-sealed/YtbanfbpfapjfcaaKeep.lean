/-
  Contracts of the small functions of wardenkeep: pick, same, eight. Conditions: in each statement.
-/
import Derived.Test.YtbanfbpfapjfcaaCalls
namespace Go.Proofs.Ytbanfbpfapjfcaa
open Go.RowKit
set_option maxRecDepth 100000

def pickN (c : Int) (n : Nat) : Nat := if c < 0 then (-(c + 1)).toNat % n else c.toNat % n

theorem ret_i64 {a b : Int} (h : a = b) : Ending.returned (.int .i64 a) = .returned (.int .i64 b) := by rw [h]

theorem pickN_neg (c n : Int) (h : c < 0) (hn : 1 ≤ n) : -(c + 1).tmod n = ((pickN c n.toNat : Nat) : Int) := by
  unfold pickN
  rw [if_pos h, ← Int.neg_tmod, Int.tmod_eq_emod_of_nonneg (by omega), Int.natCast_emod, Int.toNat_of_nonneg (by omega), Int.toNat_of_nonneg (by omega)]

theorem pickN_pos (c n : Int) (h : 0 ≤ c) (hn : 1 ≤ n) : c % n = ((pickN c n.toNat : Nat) : Int) := by
  unfold pickN
  rw [if_neg (by omega), Int.natCast_emod, Int.toNat_of_nonneg h, Int.toNat_of_nonneg (by omega)]

theorem pickN_lt (c : Int) (n : Nat) (hn : 1 ≤ n) : pickN c n < n := by
  unfold pickN; split <;> exact Nat.mod_lt _ hn

set_option maxHeartbeats 400000 in
theorem pick_any (c : Int) (n : Int) (w : World) (hc : -9223372036854775808 ≤ c ∧ c ≤ 9223372036854775807) (hn : 1 ≤ n ∧ n ≤ 9223372036854775807) :
    Calls Try.prog 4 #[.int .i64 c, .int .i64 n] w fun e w' => e = .returned (.int .i64 (pickN c n.toNat : Int)) ∧ w = w' := by
  obtain ⟨c1, c2⟩ := hc
  obtain ⟨n1, n2⟩ := hn
  by_cases h : c < 0
  · go_enter Try.func4, Try.ntmps4
    go_wp2
    go_ret
    exact ⟨ret_i64 (pickN_neg c n h n1), rfl⟩
  · go_enter Try.func4, Try.ntmps4
    go_wp2
    go_ret
    exact ⟨ret_i64 (pickN_pos c n (by omega) n1), rfl⟩

set_option maxHeartbeats 400000 in
theorem same_any (xs ys : List UInt8) (ao bo : Option Addr) (ca cb : Nat) (w : World) (ha : At w ao xs) (hb : At w bo ys) :
    Calls Try.prog 7 #[.slice ao xs.length ca, .slice bo ys.length cb] w fun e w' => e = .returned (.bool (xs == ys)) ∧ w = w' := by
  have r1 := run_string_of (P := Try.prog) w 23 9 5 Try.underlying23 Try.underlying5 Try.underlying9 ao ca xs ha
  have r2 := run_string_of (P := Try.prog) w 23 9 5 Try.underlying23 Try.underlying5 Try.underlying9 bo cb ys hb
  clear ha hb
  go_enter Try.func7, Try.ntmps7
  go_wp2
  go_ret
  exact ⟨rfl, rfl⟩

set_option maxHeartbeats 400000 in
theorem eight_any (v : UInt64) (w : World) :
    Calls Try.prog 8 #[.int .u64 (v.toNat : Int)] w fun e w' => ∃ ao cap, e = .returned (.slice ao 8 cap) ∧ At w' ao (Pure.be v 8) ∧ w.grownBy w' none := by
  obtain ⟨i0, hi, hz0, hz1, hz2⟩ := info_parts Try.info5
  go_enter Try.func8, Try.ntmps8
  go_wp2
  go_loopw [3, 4] (fun o i wr => ∃ k : Nat, k ≤ 8 ∧ i = .int .i64 ((7 : Int) - k) ∧ wr.ownsRow w.heap.size 5 1 o k ((Pure.beTo v 8 k).map U8) ∧ w.grownBy wr none) (fun _ i _ => (intOf i + 1).toNat)
  case atStart => exact ⟨0, by omega, rfl, World.ownsRow_nil _ _ _ _, World.grownBy.refl _ _⟩
  case round =>
    obtain ⟨k, hk, rfl, hown, hgr⟩ := hrel
    have hsz := hgr.size
    by_cases hlt : k < 8
    · go_wp2_with (at_builtin; refine wpList_append_own _ rfl _ _ 23 rfl w.heap.size 5 i0 (.int .u8 0) 1 1 Try.underlying23 hi hz0 hz1 hz2 rfl (by decide) _ _ _ rfl (hown.alloc _) ⟨wr.heap.size, 0, none⟩ 1 1 ([Pure.byteAt v (7 - k)].map U8) rfl rfl ?c1 ?c2 ?c3 ?c4 ?c5 ?_)
      case c1 => exact byteAt_cells _ _ _ _
      case c2 => exact one_map _
      case c3 => unfold maxLen; omega
      case c4 => omega
      case c5 => simp; omega
      · intro v' w1 hown' hg1 _
        have R : w1.ownsRow w.heap.size 5 1 v' (k + 1) ((Pure.beTo v 8 (k + 1)).map U8) ∧ w.grownBy w1 none := ⟨by rw [Pure.beTo_succ, List.map_append]; exact hown', gb_row (gb_alloc hgr _) hg1 (fun i hi => (hown.lt i hi).1)⟩
        clear hown hown' hg1 hgr
        go_wp2
        go_roundw
        case rel => exact ⟨k + 1, by omega, by go_num, R.1, R.2⟩
        case measure => simp [intOf]; omega
    · have hk8 : k = 8 := by omega
      subst hk8
      obtain ⟨ao, cap, hv, hat⟩ : ∃ ao cap, u3 = .slice ao 8 cap ∧ At wr ao (Pure.be v 8) := by
        obtain ⟨ao, cap, hv, _, _, _, hat⟩ := own_at hown
        exact ⟨ao, cap, hv, hat⟩
      subst hv
      clear hown
      go_wp2
      go_ret
      exact ⟨ao, cap, rfl, hat, hgr⟩

end Go.Proofs.Ytbanfbpfapjfcaa
