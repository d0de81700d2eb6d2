/-
  Contract of Sealed where the plain is longer than 200 bytes: it returns true. Conditions: at most 2 to the 47th bytes less 4096 (the reach of every row).
-/
import Derived.Test.YtbanfbpfapjfcaaKeep
import Derived.Lib.SliceRun
namespace Go.Proofs.Ytbanfbpfapjfcaa
open Go.RowKit
set_option maxRecDepth 100000

theorem pick_n (c x : Int) (m : Nat) (w : World) (hx : x = (m : Int)) (c1 : -9223372036854775808 ≤ c) (c2 : c ≤ 9223372036854775807) (h1 : 1 ≤ m) (h2 : m ≤ 9223372036854775807) :
    Calls Try.prog 4 #[.int .i64 c, .int .i64 x] w fun e w' => e = .returned (.int .i64 (pickN c m : Int)) ∧ w = w' := by
  subst hx
  have h := pick_any c (m : Int) w ⟨c1, c2⟩ ⟨by omega, by omega⟩
  rw [Int.toNat_natCast] at h
  exact h

set_option maxHeartbeats 1000000 in
theorem sealed_long (k draw : UInt64) (use at' by' : Int) (ao : Option Addr) (zs : List UInt8) (n cap : Nat) (w : World) (hN : Hid (zs.length = n)) (hz : At w ao zs) (hnc : ao = none → cap = 0) (hn : n ≤ 140737488351232) (hlong : 200 < n)
    (u1 : -9223372036854775808 ≤ use) (u2 : use ≤ 9223372036854775807) :
    Calls Try.prog 3 #[.int .u64 (k.toNat : Int), .int .i64 use, .int .u64 (draw.toNat : Int), .slice ao n cap, .int .i64 at', .int .i64 by'] w fun e w' => e = .returned (.bool true) ∧ w.grownBy w' none := by
  obtain ⟨i0, hi, hz0, hz1, hz2⟩ := info_parts Try.info5
  have hp := pickN_lt use 5 (by omega)
  have hU : isU (1 + (pickN use 5 : Int)) = true := by simp [isU]; omega
  have hm5 : 5 ≤ 9223372036854775807 := by omega
  have hnb : n ≤ 140737488355328 := by omega
  have heq := fun (w : World) => Lib.run_eql_slice_nil (P := Try.prog) w 23 5 none 0 0 0 0 Try.underlying23
  have H : Hid (ao = none → cap = 0) := hnc
  clear hnc
  go_enter Try.func3, Try.ntmps3
  go_wp2_with (first | (go_at_call 4; refine (pick_n use 5 5 _ rfl u1 u2 (by decide) hm5).mono ?_; rintro e w' ⟨rfl, rfl⟩) | (at_builtin; refine wpList_append_new _ rfl _ _ 23 rfl 5 i0 Try.underlying23 hi hz0 hz1 hz2 rfl ao n cap zs rfl hN.out H.out hz hnb ?_; intro ah ch w1 hch1 hch2 hah hg1) | (go_at_call 5; refine (wseal_long _ _ _ _ _ _ _ hU hlong).mono ?_; rintro e w' ⟨rfl, rfl⟩))
  go_ret
  exact ⟨rfl, hg1⟩

end Go.Proofs.Ytbanfbpfapjfcaa
