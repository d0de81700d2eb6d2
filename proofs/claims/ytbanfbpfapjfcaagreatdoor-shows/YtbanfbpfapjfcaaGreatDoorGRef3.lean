/-
  Contracts of the document's answer: Opened, Seal and Unseal. Conditions: in each statement.
-/
import Derived.Test.YtbanfbpfapjfcaaGreatDoorGRef2
namespace Go.Proofs.YtbanfbpfapjfcaaGreatDoor
open Go.RowKit
set_option maxRecDepth 100000

theorem run_slice_lo {P : Program} (t e : TypeId) (i : TypeInfo) (ht : P.underlying t = some (.slice e)) (hi : P.info? e = some i) (hs : i.size = 1) (b off len cap l h : Nat) (y z : Int) (hy : y = (l : Int)) (hz : z = (h : Int)) (hl : l ≤ h) (hh : h ≤ cap) (hlc : l < cap) (w : World) :
    (Instr.sliceAt t (.slice (some ⟨b, off, none⟩) len cap) (some (.int .i64 y)) (some (.int .i64 z)) none).run P w = .ok (.slice (some ⟨b, off + l, none⟩) (h - l) (cap - l)) w := by
  subst hy hz
  have he : P.elem t = e := by simp [Program.elem, ht]
  have ht' : P.underlying t = some (.slice (P.elem t)) := by rw [he]; exact ht
  have hcl : cap ≠ l := by omega
  rw [run_sliceAt_slice w t _ _ _ _ ht', run_slice_lh w t _ len cap ht' .i64 .i64 (l : Int) (h : Int) (by omega) (by omega) (by omega), he]
  simp [sizeOf, typeInfo, hi, hs, sliced, hcl, Addr.add_lit]

set_option maxHeartbeats 400000 in
theorem ropened_few (key : Int) (x : Int) (ao : Option Addr) (n cap : Nat) (w : World) (hn : n < 16) :
    Calls Tryz.prog 105 #[.int .u64 key, .int .i64 x, .slice ao n cap] w fun e w' => e = .returned (.tuple #[.slice none 0 0, .bool false]) ∧ w = w' := by
  go_enter Tryz.func105, Tryz.ntmps105
  go_wp2
  go_ret2
  exact ⟨rfl, rfl⟩

set_option maxHeartbeats 400000 in
theorem ropened_any (key use : UInt64) (x : Int) (b off : Nat) (zs : List UInt8) (M cap : Nat) (w : World) (hx1 : 1 ≤ x) (hx2 : x ≤ 5) (hu : Hid (x = use.toNat)) (hL : Hid (zs.length = M + 16)) (h200 : M ≤ 200) (hcap : M + 16 ≤ cap) (hcm : cap ≤ 9223372036854775807) (hz : At w (some ⟨b, off, none⟩) zs) :
    Calls Tryz.prog 105 #[.int .u64 (key.toNat : Int), .int .i64 x, .slice (some ⟨b, off, none⟩) (M + 16) cap] w fun e w' =>
      (Pure.opens key use zs = true → ∃ g c, e = .returned (.tuple #[.slice (some ⟨g, 8, none⟩) M c, .bool true]) ∧ At w' (some ⟨g, 8, none⟩) (Pure.plainOf key use zs)) ∧
      (Pure.opens key use zs = false → e = .returned (.tuple #[.slice none 0 0, .bool false])) ∧ w.grownBy w' none := by
  obtain ⟨i0, hif, hz0, hz1, hz2⟩ := info_parts Tryz.info5
  have hsl : ∀ w, (Instr.sliceAt 32 (.slice (some ⟨b, off, none⟩) (M + 16) cap) (some (.int .i64 8)) (some (.int .i64 ((M : Int) + 16 - 8))) none).run Tryz.prog w = .ok (.slice (some ⟨b, off + 8, none⟩) M (cap - 8)) w := by
    intro w
    have h := run_slice_lo (P := Tryz.prog) 32 5 i0 Tryz.underlying32 hif hz1 b off (M + 16) cap 8 (M + 8) 8 ((M : Int) + 16 - 8) (by omega) (by omega) (by omega) (by omega) (by omega) w
    rw [show M + 8 - 8 = M from by omega] at h
    exact h
  have HM : Hid (((zs.drop 8).take M).length = M) := by have h := hL.out; show _ = _; simp; omega
  have HP : Hid ((Pure.plainOf key use zs).length = M) := by have h := hL.out; show _ = _; rw [Pure.plainOf_length, h]; omega
  have HS : Hid ((Pure.sealL key use (Pure.drawOf zs) (Pure.plainOf key use zs)).length = M + 16) := by show _ = _; rw [Pure.sealL_length, HP.out]
  have hl1 : M ≤ 1000 := by omega
  have hl2 : M + 16 ≤ 140737488355328 := by omega
  go_enter Tryz.func105, Tryz.ntmps105
  go_wp2_with fail
  refine (rnumber_any (zs.take 8) 8 _ _ _ (by have h := hL.out; show _ = _; rw [List.length_take]; omega) (by omega) (hz.take 8)).mono ?_
  rintro e w' ⟨rfl, rfl⟩
  go_wp2_with fail
  refine (rsealed_any key use (Pure.drawOf zs) x ((zs.drop 8).take M) M (some ⟨b, off + 8, none⟩) (cap - 8) _ ⟨hx1, hx2⟩ hu HM hl1 (by intro h; cases h) ((hz.drop 8).take _)).mono ?_
  rintro e w1 ⟨o1, rfl, hown1, hg1⟩
  obtain ⟨g, c1, hv, hc1, hc1m, hat1⟩ : ∃ g c, o1 = .slice (some ⟨g, 0, none⟩) (M + 16) c ∧ M + 16 ≤ c ∧ c ≤ maxLen ∧ At w1 (some ⟨g, 0, none⟩) (Pure.sealL key use (Pure.drawOf zs) ((zs.drop 8).take M)) := by
    obtain ⟨ao, cap, hv, h1, h2, _, h4⟩ := own_at2 hown1
    rcases hown1.2 with ⟨hv', _⟩ | ⟨g, cap', cur, hv', _⟩
    · rw [hv] at hv'; simp at hv'
    · rw [hv] at hv'; simp at hv'
      obtain ⟨rfl, rfl⟩ := hv'
      exact ⟨g, cap, hv, h1, h2, h4⟩
  subst hv
  have hsl2 : ∀ w, (Instr.sliceAt 32 (.slice (some ⟨g, 0, none⟩) (M + 16) c1) (some (.int .i64 8)) (some (.int .i64 ((M : Int) + 16 - 8))) none).run Tryz.prog w = .ok (.slice (some ⟨g, 8, none⟩) M (c1 - 8)) w := by
    intro w
    have h := run_slice_lo (P := Tryz.prog) 32 5 i0 Tryz.underlying32 hif hz1 g 0 (M + 16) c1 8 (M + 8) 8 ((M : Int) + 16 - 8) (by omega) (by omega) (by omega) (by omega) (by omega) w
    rw [show M + 8 - 8 = M from by omega, Nat.zero_add] at h
    exact h
  have hat2 : At w1 (some ⟨g, 8, none⟩) (Pure.plainOf key use zs) := by
    have h := (hat1.drop 8).take M
    have e : ((Pure.sealL key use (Pure.drawOf zs) ((zs.drop 8).take M)).drop 8).take M = Pure.plainOf key use zs := by
      have hh := Pure.mid_of key use (Pure.drawOf zs) ((zs.drop 8).take M)
      rw [HM.out] at hh
      rw [hh]
      unfold Pure.plainOf
      rw [hL.out, Nat.add_sub_cancel]
    rw [e, Nat.zero_add] at h
    exact h
  clear hown1 hat1 hsl
  go_wp2_with fail
  refine (rsealed_any key use (Pure.drawOf zs) x (Pure.plainOf key use zs) M (some ⟨g, 8, none⟩) (c1 - 8) _ ⟨hx1, hx2⟩ hu HP hl1 (by intro h; cases h) hat2).mono ?_
  rintro e w2 ⟨o2, rfl, hown2, hg2⟩
  obtain ⟨a2, c2, hv, _, _, _, hat3⟩ := own_at2 hown2
  subst hv
  have G2 := gb_trans hg1 hg2
  have hz2' := hz.below G2
  have hat4 := hat2.below hg2
  clear hown2 hg1 hg2 hat2 hsl2
  go_wp2_with fail
  refine (rsame_any (Pure.sealL key use (Pure.drawOf zs) (Pure.plainOf key use zs)) zs (M + 16) (M + 16) _ _ _ _ _ HS hL hl2 hat3 hz2').mono ?_
  rintro e w3 ⟨rfl, hg3⟩
  have G3 := gb_trans G2 hg3
  have hat5 := hat4.below hg3
  clear G2 hg3 hat4 hat3 hz2'
  rw [Pure.seal_again key use zs (by rw [hL.out]; omega)]
  cases ho : Pure.opens key use zs
  all_goals
    have HO := hid ho
    clear ho
    go_wp2
    go_ret2
    first
      | exact ⟨fun h => absurd h (by rw [HO.out]; decide), fun _ => rfl, G3⟩
      | exact ⟨fun _ => ⟨g, c1 - 8, rfl, hat5⟩, fun h => absurd h (by rw [HO.out]; decide), G3⟩

set_option maxHeartbeats 400000 in
theorem rseal_use (key draw x : Int) (v : Value) (w : World) (hx : x < 1 ∨ 5 < x) :
    Calls Tryz.prog 71 #[.int .u64 key, .int .i64 x, .int .u64 draw, v] w fun e w' => e = .returned (.tuple #[.slice none 0 0, .int .i64 1]) ∧ w = w' := by
  rcases hx with hx | hx
  · go_enter Tryz.func71, Tryz.ntmps71
    go_wp2
    go_ret2
    exact ⟨rfl, rfl⟩
  · have h1 : ¬ x < 1 := by omega
    go_enter Tryz.func71, Tryz.ntmps71
    go_wp2
    go_ret2
    exact ⟨rfl, rfl⟩

set_option maxHeartbeats 400000 in
theorem rseal_long (key draw x : Int) (ao : Option Addr) (n cap : Nat) (w : World) (hx1 : 1 ≤ x) (hx2 : x ≤ 5) (hn : 200 < n) :
    Calls Tryz.prog 71 #[.int .u64 key, .int .i64 x, .int .u64 draw, .slice ao n cap] w fun e w' => e = .returned (.tuple #[.slice none 0 0, .int .i64 1]) ∧ w = w' := by
  go_enter Tryz.func71, Tryz.ntmps71
  go_wp2
  go_ret2
  exact ⟨rfl, rfl⟩

set_option maxHeartbeats 400000 in
theorem rseal_ok (key use draw : UInt64) (x : Int) (zs : List UInt8) (n : Nat) (ao : Option Addr) (cap : Nat) (w : World) (hx1 : 1 ≤ x) (hx2 : x ≤ 5) (hu : Hid (x = use.toNat)) (hn : Hid (zs.length = n)) (hl : n ≤ 200) (hnc : Hid (ao = none → cap = 0)) (hz : At w ao zs) :
    Calls Tryz.prog 71 #[.int .u64 (key.toNat : Int), .int .i64 x, .int .u64 (draw.toNat : Int), .slice ao n cap] w fun e w' =>
      ∃ a c, e = .returned (.tuple #[.slice a (n + 16) c, .int .i64 0]) ∧ At w' a (Pure.sealL key use draw zs) ∧ w.grownBy w' none := by
  have hl1 : n ≤ 1000 := by omega
  go_enter Tryz.func71, Tryz.ntmps71
  go_wp2_with fail
  refine (rsealed_any key use draw x zs n ao cap _ ⟨hx1, hx2⟩ hu hn hl1 hnc.out hz).mono ?_
  rintro e w1 ⟨o1, rfl, hown1, hg1⟩
  obtain ⟨a1, c1, hv, _, _, _, hat⟩ := own_at2 hown1
  subst hv
  clear hown1
  go_wp2
  go_ret2
  exact ⟨a1, c1, rfl, hat, hg1⟩

set_option maxHeartbeats 400000 in
theorem runseal_use (key x : Int) (v : Value) (w : World) (hx : x < 1 ∨ 5 < x) :
    Calls Tryz.prog 73 #[.int .u64 key, .int .i64 x, v] w fun e w' => e = .returned (.tuple #[.slice none 0 0, .int .i64 1]) ∧ w = w' := by
  rcases hx with hx | hx
  · go_enter Tryz.func73, Tryz.ntmps73
    go_wp2
    go_ret2
    exact ⟨rfl, rfl⟩
  · have h1 : ¬ x < 1 := by omega
    go_enter Tryz.func73, Tryz.ntmps73
    go_wp2
    go_ret2
    exact ⟨rfl, rfl⟩

set_option maxHeartbeats 400000 in
theorem runseal_size (key x : Int) (ao : Option Addr) (n cap : Nat) (w : World) (hx1 : 1 ≤ x) (hx2 : x ≤ 5) (hn : n < 16 ∨ 216 < n) :
    Calls Tryz.prog 73 #[.int .u64 key, .int .i64 x, .slice ao n cap] w fun e w' => e = .returned (.tuple #[.slice none 0 0, .int .i64 3]) ∧ w = w' := by
  rcases hn with hn | hn
  · have h2 : ¬ 216 < n := by omega
    go_enter Tryz.func73, Tryz.ntmps73
    go_wp2_with (go_at_call 105; refine (ropened_few key x ao n cap _ hn).mono ?_; rintro e w' ⟨rfl, rfl⟩)
    go_ret2
    exact ⟨rfl, rfl⟩
  · go_enter Tryz.func73, Tryz.ntmps73
    go_wp2
    go_ret2
    exact ⟨rfl, rfl⟩

set_option maxHeartbeats 400000 in
theorem runseal_any (key use : UInt64) (x : Int) (b off : Nat) (zs : List UInt8) (M cap : Nat) (w : World) (hx1 : 1 ≤ x) (hx2 : x ≤ 5) (hu : Hid (x = use.toNat)) (hL : Hid (zs.length = M + 16)) (h200 : M ≤ 200) (hcap : M + 16 ≤ cap) (hcm : cap ≤ 9223372036854775807) (hz : At w (some ⟨b, off, none⟩) zs) :
    Calls Tryz.prog 73 #[.int .u64 (key.toNat : Int), .int .i64 x, .slice (some ⟨b, off, none⟩) (M + 16) cap] w fun e w' =>
      (Pure.opens key use zs = true → ∃ a c, e = .returned (.tuple #[.slice a M c, .int .i64 0]) ∧ At w' a (Pure.plainOf key use zs)) ∧
      (Pure.opens key use zs = false → e = .returned (.tuple #[.slice none 0 0, .int .i64 3])) ∧ w.grownBy w' none := by
  go_enter Tryz.func73, Tryz.ntmps73
  go_wp2_with fail
  refine (ropened_any key use x b off zs M cap _ hx1 hx2 hu hL h200 hcap hcm hz).mono ?_
  rintro e w1 ⟨h1, h2, h3⟩
  cases ho : Pure.opens key use zs
  · obtain rfl := h2 ho
    have HO := hid ho
    clear h1 h2 ho
    go_wp2
    go_ret2
    exact ⟨fun h => absurd h (by rw [HO.out]; decide), fun _ => rfl, h3⟩
  · obtain ⟨g, c, rfl, hat⟩ := h1 ho
    have HO := hid ho
    clear h1 h2 ho
    go_wp2
    go_ret2
    exact ⟨fun _ => ⟨_, c, rfl, hat⟩, fun h => absurd h (by rw [HO.out]; decide), h3⟩

end Go.Proofs.YtbanfbpfapjfcaaGreatDoor
