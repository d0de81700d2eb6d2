/-
  Contract of the document's Number. Conditions: in the statement.
-/
import Derived.Test.YtbanfbpfapjfcaaGreatDoorGRBoxB
namespace Go.Proofs.YtbanfbpfapjfcaaGreatDoor
open Go.RowKit
set_option maxRecDepth 100000

set_option maxHeartbeats 1000000 in
theorem rnumberBox_any (v : Int) (w : World) (h0 : -9223372036854775808 ≤ v) (h1 : v ≤ 9223372036854775807) :
    Calls Tryz.prog 116 #[.int .i64 v] w fun e w' => ∃ o, e = .returned o ∧ w'.ownsRow w.heap.size 5 1 o (Box.box 2 (Box.low v (Box.size v))).length ((Box.box 2 (Box.low v (Box.size v))).map U8) ∧ w.grownBy w' none := by
  obtain ⟨i0, hif, hz0, hz1, hz2⟩ := info_parts Tryz.info5
  go_enter Tryz.func116, Tryz.ntmps116
  go_wp2
  go_loop [3] (fun n => ∃ k : Nat, 1 ≤ k ∧ k ≤ Box.size v ∧ n = .int .i64 k) (fun n => 8 - (intOf n).toNat)
  case atStart => exact ⟨1, by omega, (size_bounds v).1, rfl⟩
  case round =>
    obtain ⟨k, hk1, hk2, rfl⟩ := hrel
    have hs8 := (size_bounds v).2
    by_cases hk : k < Box.size v
    · have hk8 : (k : Int) < 8 := by omega
      have hq := test_ne h0 h1 hk1 hk
      go_wp2
      go_round
      case rel => exact ⟨k + 1, by omega, by omega, by go_num⟩
      case measure => simp [intOf]; omega
    · have hke : k = Box.size v := by omega
      have HK : Hid (Box.size v = k) := hke.symm
      have hk8 : k ≤ 8 := by omega
      have hq : Hid ((k : Int) < 8 → (wrap64 (v * 2 ^ (64 - 8 * k)) / 2 ^ (64 - 8 * k) != v) = false) := fun h => test_eq h0 h1 (by omega) hke
      rw [hke.symm]
      clear hke hk2 hs8 hk
      by_cases h8 : (k : Int) < 8
      · have hq' := hq.out h8
        go_wp2
        go_loopw [4, 5] (fun o i wr => ∃ j : Nat, j ≤ k ∧ i = .int .i64 ((k : Int) - 1 - j) ∧ wr.ownsRow w.heap.size 5 1 o j ((Box.lowTo v k j).map U8) ∧ w.grownBy wr none) (fun _ i _ => (intOf i + 1).toNat)
        case atStart => exact ⟨0, by omega, by go_num, World.ownsRow_nil _ _ _ _, World.grownBy.refl _ _⟩
        case round =>
          obtain ⟨j, hj, rfl, hown, hgr⟩ := hrel
          have hsz := hgr.size
          by_cases hlt : j < k
          · go_wp2_with (at_builtin; refine wpList_append_at _ rfl _ _ 32 rfl w.heap.size 5 i0 Tryz.underlying32 hif hz0 hz1 hz2 _ _ _ rfl (hown.alloc _) (some ⟨wr.heap.size, 0, none⟩) 1 1 [Box.byteI v (k - 1 - j)] rfl rfl ?a1 ?a2 ?a3 ?a4 ?_)
            case a1 => intro h; cases h
            case a2 => exact bytes_new wr _ _ _ (by simp only [List.map_cons, List.map_nil, U8]; rw [byteI_int])
            case a3 => omega
            case a4 => simp; omega
            intro v1 w1 hown1 hg1 _
            have R : w1.ownsRow w.heap.size 5 1 v1 (j + 1) ((Box.lowTo v k (j + 1)).map U8) ∧ w.grownBy w1 none := by
              refine ⟨?_, gb_row (gb_alloc hgr _) hg1 (fun i hi => (hown.lt i hi).1)⟩
              rw [Box.lowTo]
              simpa using hown1
            clear hown hown1 hg1 hgr
            go_wp2
            go_roundw
            case rel => exact ⟨j + 1, by omega, by go_num, R.1, R.2⟩
            case measure => simp [intOf]; omega
          · have hjk : j = k := by omega
            subst hjk
            obtain ⟨a3, c3, rfl, _, _, hnc, hat3⟩ := own_at2 hown
            go_wp2_with fail
            refine (rbox_any 2 (Box.low v j) j a3 c3 _ (Box.low_length v j) (by omega) hnc hat3).mono ?_
            rintro e w2 ⟨o, rfl, hown2, hg2⟩
            have G2 := gb_trans hgr hg2
            have R2 : w2.ownsRow w.heap.size 5 1 o (Box.box 2 (Box.low v j)).length ((Box.box 2 (Box.low v j)).map U8) := own_down hown2 hsz
            clear hown hown2 hg2 hgr
            go_wp2
            go_ret
            exact ⟨_, rfl, by rw [HK.out]; exact R2, G2⟩
      · go_wp2
        go_loopw [4, 5] (fun o i wr => ∃ j : Nat, j ≤ k ∧ i = .int .i64 ((k : Int) - 1 - j) ∧ wr.ownsRow w.heap.size 5 1 o j ((Box.lowTo v k j).map U8) ∧ w.grownBy wr none) (fun _ i _ => (intOf i + 1).toNat)
        case atStart => exact ⟨0, by omega, by go_num, World.ownsRow_nil _ _ _ _, World.grownBy.refl _ _⟩
        case round =>
          obtain ⟨j, hj, rfl, hown, hgr⟩ := hrel
          have hsz := hgr.size
          by_cases hlt : j < k
          · go_wp2_with (at_builtin; refine wpList_append_at _ rfl _ _ 32 rfl w.heap.size 5 i0 Tryz.underlying32 hif hz0 hz1 hz2 _ _ _ rfl (hown.alloc _) (some ⟨wr.heap.size, 0, none⟩) 1 1 [Box.byteI v (k - 1 - j)] rfl rfl ?b1 ?b2 ?b3 ?b4 ?_)
            case b1 => intro h; cases h
            case b2 => exact bytes_new wr _ _ _ (by simp only [List.map_cons, List.map_nil, U8]; rw [byteI_int])
            case b3 => omega
            case b4 => simp; omega
            intro v1 w1 hown1 hg1 _
            have R : w1.ownsRow w.heap.size 5 1 v1 (j + 1) ((Box.lowTo v k (j + 1)).map U8) ∧ w.grownBy w1 none := by
              refine ⟨?_, gb_row (gb_alloc hgr _) hg1 (fun i hi => (hown.lt i hi).1)⟩
              rw [Box.lowTo]
              simpa using hown1
            clear hown hown1 hg1 hgr
            go_wp2
            go_roundw
            case rel => exact ⟨j + 1, by omega, by go_num, R.1, R.2⟩
            case measure => simp [intOf]; omega
          · have hjk : j = k := by omega
            subst hjk
            obtain ⟨a3, c3, rfl, _, _, hnc, hat3⟩ := own_at2 hown
            go_wp2_with fail
            refine (rbox_any 2 (Box.low v j) j a3 c3 _ (Box.low_length v j) (by omega) hnc hat3).mono ?_
            rintro e w2 ⟨o, rfl, hown2, hg2⟩
            have G2 := gb_trans hgr hg2
            have R2 : w2.ownsRow w.heap.size 5 1 o (Box.box 2 (Box.low v j)).length ((Box.box 2 (Box.low v j)).map U8) := own_down hown2 hsz
            clear hown hown2 hg2 hgr
            go_wp2
            go_ret
            exact ⟨_, rfl, by rw [HK.out]; exact R2, G2⟩
end Go.Proofs.YtbanfbpfapjfcaaGreatDoor
