/-
  Contract of wardenkeep's number: a number's box, as the document writes it. Conditions: in the statement.
-/
import Derived.Test.YtbanfbpfapjfcaaDoorKBoxA
namespace Go.Proofs.YtbanfbpfapjfcaaDoor
open Go.RowKit
set_option maxRecDepth 100000

/-- One byte less holds what is left. -/
theorem size_shift {v : Int} (h0 : -9223372036854775808 ≤ v) (h1 : v ≤ 9223372036854775807) (h : 127 < v ∨ v < -128) : Box.size v = Box.size (v / 256) + 1 := by
  unfold Box.size
  (repeat' split) <;> omega
theorem size_small {v : Int} (h : ¬ (127 < v)) (h' : ¬ (v < -128)) : Box.size v = 1 := by
  unfold Box.size
  rw [if_pos (by omega)]

set_option maxHeartbeats 1000000 in
theorem knumber_any (v : Int) (w : World) (h0 : -9223372036854775808 ≤ v) (h1 : v ≤ 9223372036854775807) :
    Calls Tryd.prog 4 #[.int .i64 v] w fun e w' => ∃ o, e = .returned o ∧ w'.ownsRow w.heap.size 5 1 o (Box.box 2 (Box.low v (Box.size v))).length ((Box.box 2 (Box.low v (Box.size v))).map U8) ∧ w.grownBy w' none := by
  obtain ⟨i0, hif, hz0, hz1, hz2⟩ := info_parts Tryd.info5
  go_enter Tryd.func4, Tryd.ntmps4
  go_wp2
  go_loop [3, 4] (fun n m => ∃ (k : Nat) (x : Int), 1 ≤ k ∧ n = .int .i64 k ∧ m = .int .i64 x ∧ -9223372036854775808 ≤ x ∧ x ≤ 9223372036854775807 ∧ Hid (Box.size v + 1 = k + Box.size x) ∧ k ≤ 8) (fun n _ => 9 - (intOf n).toNat)
  case atStart => exact ⟨1, v, by omega, rfl, rfl, h0, h1, by show _ = _; omega, by omega⟩
  case round =>
    obtain ⟨k, x, hk1, rfl, rfl, hx0, hx1, HS, hk8⟩ := hrel
    by_cases hg : 127 < x ∨ x < -128
    · have hsz := size_shift hx0 hx1 hg
      have hb := (size_bounds (x / 256)).1
      have hv8 := (size_bounds v).2
      have hk9 : k < 8 := by have := HS.out; omega
      have HS2 : Hid (Box.size v + 1 = k + 1 + Box.size (x / 256)) := by show _ = _; have := HS.out; omega
      clear hsz hb hv8 HS
      by_cases hg1 : 127 < x
      · go_wp2
        go_round
        case rel => exact ⟨k + 1, x / 256, by omega, by go_num, by go_num, by omega, by omega, HS2, by omega⟩
        case measure => simp [intOf]; omega
      · have hg2 : x < -128 := by omega
        go_wp2
        go_round
        case rel => exact ⟨k + 1, x / 256, by omega, by go_num, by go_num, by omega, by omega, HS2, by omega⟩
        case measure => simp [intOf]; omega
    · have hg1 : ¬ 127 < x := by omega
      have hg2 : ¬ x < -128 := by omega
      have HK : Hid (Box.size v = k) := by show _ = _; have := size_small hg1 hg2; have := HS.out; omega
      clear HS hg
      rw [HK.out]
      go_wp2
      go_loopw [5, 6] (fun o i wr => ∃ j : Nat, j ≤ k ∧ i = .int .i64 ((k : Int) - 1 - j) ∧ wr.ownsRow w.heap.size 5 1 o j ((Box.lowTo v k j).map U8) ∧ w.grownBy wr none) (fun _ i _ => (intOf i + 1).toNat)
      case atStart => exact ⟨0, by omega, by go_num, World.ownsRow_nil _ _ _ _, World.grownBy.refl _ _⟩
      case round =>
        obtain ⟨j, hj, rfl, hown, hgr⟩ := hrel
        have hsz := hgr.size
        by_cases hlt : j < k
        · go_wp2_with (at_builtin; refine wpList_append_at _ rfl _ _ 22 rfl w.heap.size 5 i0 Tryd.underlying22 hif hz0 hz1 hz2 _ _ _ rfl (hown.alloc _) (some ⟨wr.heap.size, 0, none⟩) 1 1 [Box.byteI v (k - 1 - j)] rfl rfl ?a1 ?a2 ?a3 ?a4 ?_)
          case a1 => intro h; cases h
          case a2 => exact bytes_new wr _ _ _ (by simp only [List.map_cons, List.map_nil, U8]; rw [byteI_int])
          case a3 => omega
          case a4 => simp; omega
          intro v1 w1 hown1 hg1' _
          have R : w1.ownsRow w.heap.size 5 1 v1 (j + 1) ((Box.lowTo v k (j + 1)).map U8) ∧ w.grownBy w1 none := by
            refine ⟨?_, gb_row (gb_alloc hgr _) hg1' (fun i hi => (hown.lt i hi).1)⟩
            rw [Box.lowTo]
            simpa using hown1
          clear hown hown1 hg1' hgr
          go_wp2
          go_roundw
          case rel => exact ⟨j + 1, by omega, by go_num, R.1, R.2⟩
          case measure => simp [intOf]; omega
        · have hjk : j = k := by omega
          subst hjk
          obtain ⟨a3, c3, rfl, _, _, hnc, hat3⟩ := own_at2 hown
          go_wp2_with fail
          refine (kbox_any 2 (Box.low v j) j a3 c3 _ (Box.low_length v j) (by omega) hnc hat3).mono ?_
          rintro e w2 ⟨o, rfl, hown2, hg2'⟩
          have G2 := gb_trans hgr hg2'
          have R2 : w2.ownsRow w.heap.size 5 1 o (Box.box 2 (Box.low v j)).length ((Box.box 2 (Box.low v j)).map U8) := own_down hown2 hsz
          clear hown hown2 hg2' hgr
          go_wp2
          go_ret
          exact ⟨_, rfl, by rw [HK.out]; exact R2, G2⟩
end Go.Proofs.YtbanfbpfapjfcaaDoor
