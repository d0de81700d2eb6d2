/-
  Contracts of the document's answer: box. Conditions: in each statement.
  Contracts of the document's answer: hex. Conditions: in each statement.
  What the document's Number asks of a number before it writes it: whether so many bytes hold it. Conditions: in each statement.
  Contract of the document's Number. Conditions: in the statement.
-/
import Derived.Test.YtbanfbpfapjfcaaGreatDoorGBoxM
import Derived.Test.YtbanfbpfapjfcaaGreatDoorGRef2
import Derived.Deep.RegionWith
import Derived.Deep.QuietTactic
namespace Go.Proofs.YtbanfbpfapjfcaaGreatDoor
open Go.RowKit
set_option maxRecDepth 100000

set_option maxHeartbeats 1000000 in
theorem rbox_any (tag : UInt8) (zs : List UInt8) (n : Nat) (ao : Option Addr) (cap : Nat) (w : World) (hn : Hid (zs.length = n)) (hl : n ≤ 65535) (hnc : Hid (ao = none → cap = 0)) (hz : At w ao zs) :
    Calls Tryz.prog 152 #[.int .u8 (tag.toNat : Int), .slice ao n cap] w fun e w' => ∃ o, e = .returned o ∧ w'.ownsRow w.heap.size 5 1 o (Box.box tag zs).length ((Box.box tag zs).map U8) ∧ w.grownBy w' none := by
  obtain ⟨i0, hif, hz0, hz1, hz2⟩ := info_parts Tryz.info5
  have hown0 := own_new w 5 tag
  have G0 : w.grownBy (w.alloc (.cells #[.int .u8 (tag.toNat : Int)] 5)) none := World.grownBy_alloc w _ none
  by_cases h1 : n < 128
  · have h1' : (n : Int) < 128 := by omega
    have HL : Hid (Box.box tag zs = [tag] ++ [UInt8.ofNat n] ++ zs) := by show _ = _; rw [Box.box, Box.head, hn.out, if_pos h1]; rfl
    go_enter Tryz.func152, Tryz.ntmps152
    go_wp2_with (at_builtin; refine wpList_append_at _ rfl _ _ 32 rfl w.heap.size 5 i0 Tryz.underlying32 hif hz0 hz1 hz2 _ _ _ rfl (hown0.alloc _) (some ⟨w.heap.size + 1, 0, none⟩) 1 1 [UInt8.ofNat n] rfl rfl ?c1 ?c2 ?c3 ?c4 ?_)
    case c1 => intro h; cases h
    case c2 => exact bytes_new1 w _ _ _ _ (by simp only [List.map_cons, List.map_nil, U8, UInt8.toNat_ofNat']; rw [Nat.mod_eq_of_lt (by omega)])
    case c3 => omega
    case c4 => simp; omega
    intro v1 w1 hown1 hg1 _
    have G1 : w.grownBy w1 none := gb_row (gb_alloc G0 _) hg1 (fun i hi => (hown0.lt i hi).1)
    have hz1' := hz.below G1
    have hsz1 := G1.size
    clear hown0 hg1 G0
    go_wp2_with (at_builtin; refine wpList_append_at _ rfl _ _ 32 rfl w.heap.size 5 i0 Tryz.underlying32 hif hz0 hz1 hz2 v1 (1 + 1) ([tag] ++ [UInt8.ofNat n]) rfl (by simpa using hown1) ao n cap zs rfl hn.out hnc.out hz1' (by omega) hsz1 ?_)
    intro v2 w2 hown2 hg2 _
    have G2 : w.grownBy w2 none := gb_row G1 hg2 (fun i hi => (hown1.lt i hi).1)
    have R : w2.ownsRow w.heap.size 5 1 v2 (Box.box tag zs).length ((Box.box tag zs).map U8) := by
      rw [HL.out, List.length_append, hn.out]
      simpa using hown2
    clear hown1 hown2 hg2 G1
    go_wp2
    go_ret
    exact ⟨_, rfl, R, G2⟩
  · by_cases h2 : n < 256
    · have h1' : ¬ (n : Int) < 128 := by omega
      have h2' : (n : Int) < 256 := by omega
      have HL : Hid (Box.box tag zs = [tag] ++ [129, UInt8.ofNat n] ++ zs) := by show _ = _; rw [Box.box, Box.head, hn.out, if_neg h1, if_pos h2]; rfl
      go_enter Tryz.func152, Tryz.ntmps152
      go_wp2_with (at_builtin; refine wpList_append_at _ rfl _ _ 32 rfl w.heap.size 5 i0 Tryz.underlying32 hif hz0 hz1 hz2 _ _ _ rfl (hown0.alloc _) (some ⟨w.heap.size + 1, 0, none⟩) 2 2 [129, UInt8.ofNat n] rfl rfl ?d1 ?d2 ?d3 ?d4 ?_)
      case d2 => exact bytes_new1 w _ _ _ _ (by simp only [List.map_cons, List.map_nil, U8, UInt8.toNat_ofNat']; rw [Nat.mod_eq_of_lt (by omega)]; rfl)
      case d4 => first | omega | (simp; omega)
      intro v1 w1 hown1 hg1 _
      have G1 : w.grownBy w1 none := gb_row (gb_alloc G0 _) hg1 (fun i hi => (hown0.lt i hi).1)
      have hz1' := hz.below G1
      have hsz1 := G1.size
      clear hown0 hg1 G0
      go_wp2_with (at_builtin; refine wpList_append_at _ rfl _ _ 32 rfl w.heap.size 5 i0 Tryz.underlying32 hif hz0 hz1 hz2 v1 (1 + 2) ([tag] ++ [129, UInt8.ofNat n]) rfl (by simpa using hown1) ao n cap zs rfl hn.out hnc.out hz1' (by omega) hsz1 ?_)
      intro v2 w2 hown2 hg2 _
      have G2 : w.grownBy w2 none := gb_row G1 hg2 (fun i hi => (hown1.lt i hi).1)
      have R : w2.ownsRow w.heap.size 5 1 v2 (Box.box tag zs).length ((Box.box tag zs).map U8) := by
        rw [HL.out, List.length_append, hn.out]
        simpa using hown2
      clear hown1 hown2 hg2 G1
      go_wp2
      go_ret
      exact ⟨_, rfl, R, G2⟩
    · have h1' : ¬ (n : Int) < 128 := by omega
      have h2' : ¬ (n : Int) < 256 := by omega
      have HL : Hid (Box.box tag zs = [tag] ++ [130, UInt8.ofNat (n / 256), UInt8.ofNat (n % 256)] ++ zs) := by show _ = _; rw [Box.box, Box.head, hn.out, if_neg h1, if_neg h2]; rfl
      go_enter Tryz.func152, Tryz.ntmps152
      go_wp2_with (at_builtin; refine wpList_append_at _ rfl _ _ 32 rfl w.heap.size 5 i0 Tryz.underlying32 hif hz0 hz1 hz2 _ _ _ rfl (hown0.alloc _) (some ⟨w.heap.size + 1, 0, none⟩) 3 3 [130, UInt8.ofNat (n / 256), UInt8.ofNat (n % 256)] rfl rfl ?e1 ?e2 ?e3 ?e4 ?_)
      case e2 => exact bytes_new1 w _ _ _ _ (by simp only [List.map_cons, List.map_nil, U8, UInt8.toNat_ofNat']; rw [Nat.mod_eq_of_lt (show n / 256 < 2 ^ 8 by omega), Nat.mod_eq_of_lt (show n % 256 < 2 ^ 8 by omega)]; rfl)
      case e4 => first | omega | (simp; omega)
      intro v1 w1 hown1 hg1 _
      have G1 : w.grownBy w1 none := gb_row (gb_alloc G0 _) hg1 (fun i hi => (hown0.lt i hi).1)
      have hz1' := hz.below G1
      have hsz1 := G1.size
      clear hown0 hg1 G0
      go_wp2_with (at_builtin; refine wpList_append_at _ rfl _ _ 32 rfl w.heap.size 5 i0 Tryz.underlying32 hif hz0 hz1 hz2 v1 (1 + 3) ([tag] ++ [130, UInt8.ofNat (n / 256), UInt8.ofNat (n % 256)]) rfl (by simpa using hown1) ao n cap zs rfl hn.out hnc.out hz1' (by omega) hsz1 ?_)
      intro v2 w2 hown2 hg2 _
      have G2 : w.grownBy w2 none := gb_row G1 hg2 (fun i hi => (hown1.lt i hi).1)
      have R : w2.ownsRow w.heap.size 5 1 v2 (Box.box tag zs).length ((Box.box tag zs).map U8) := by
        rw [HL.out, List.length_append, hn.out]
        simpa using hown2
      clear hown1 hown2 hg2 G1
      go_wp2
      go_ret
      exact ⟨_, rfl, R, G2⟩
end Go.Proofs.YtbanfbpfapjfcaaGreatDoor
namespace Go.Proofs.YtbanfbpfapjfcaaGreatDoor
open Go.RowKit
set_option maxRecDepth 100000

theorem dig_part (m : Nat) (h : m < 16) : (⟨#[48, 49, 50, 51, 52, 53, 54, 55, 56, 57, 97, 98, 99, 100, 101, 102]⟩ : ByteArray).extract m (m + 1) = ⟨#[Box.dig m]⟩ := by
  have : ∀ m : Fin 16, ((⟨#[48, 49, 50, 51, 52, 53, 54, 55, 56, 57, 97, 98, 99, 100, 101, 102]⟩ : ByteArray).extract m.val (m.val + 1)).data.toList = [Box.dig m.val] := by decide
  have h2 := this ⟨m, h⟩
  refine ByteArray.ext (Array.toList_inj.1 ?_)
  exact h2
theorem dig_slice {P : Program} (t : TypeId) (ht : P.underlying t = some .string) (x y : Int) (m : Nat) (hm : m < 16) (hx : x = (m : Int)) (hy : y = (m : Int) + 1) (w : World) :
    (Instr.sliceAt t (.string (⟨#[48, 49, 50, 51, 52, 53, 54, 55, 56, 57, 97, 98, 99, 100, 101, 102]⟩ : ByteArray)) (some (.int .u8 x)) (some (.int .u8 y)) none).run P w = .ok (.string ⟨#[Box.dig m]⟩) w := by
  subst hx hy
  rw [run_sliceAt_string w t _ _ _ _ ht, run_slice_string w t _ .u8 .u8 (m : Int) ((m : Int) + 1) ht (by omega) (by omega) (by show ((m : Int) + 1) ≤ 16; omega), Int.toNat_natCast, show ((m : Int) + 1).toNat = m + 1 from by omega, dig_part m hm]
theorem dig_list (m : Nat) (h : m < 16) : List.take 1 (List.drop m [48, 49, 50, 51, 52, 53, 54, 55, 56, 57, 97, 98, 99, 100, 101, 102]) = [Box.dig m] := by
  have : ∀ m : Fin 16, List.take 1 (List.drop m.val [48, 49, 50, 51, 52, 53, 54, 55, 56, 57, 97, 98, 99, 100, 101, 102]) = [Box.dig m.val] := by decide
  exact this ⟨m, h⟩
theorem dig_size : (⟨#[48, 49, 50, 51, 52, 53, 54, 55, 56, 57, 97, 98, 99, 100, 101, 102]⟩ : ByteArray).size = 16 := rfl
theorem hex_take2 {zs : List UInt8} {k : Nat} (h : k < zs.length) : Box.hex (zs.take (k + 1)) = Box.hex (zs.take k) ++ [Box.dig (zs[k].toNat / 16), Box.dig (zs[k].toNat % 16)] := by
  rw [take_snoc h, Box.hex_append]; rfl
theorem wrap8 (x : Int) (h0 : 0 ≤ x) (h1 : x < 256) : IntKind.u8.wrap x = x := by
  simp [IntKind.wrap, IntKind.bits, IntKind.signed]
  omega

set_option maxHeartbeats 1000000 in
theorem rhex_any (zs : List UInt8) (n : Nat) (ao : Option Addr) (cap : Nat) (w : World) (hn : Hid (zs.length = n)) (hl : n ≤ 100000) (hz : At w ao zs) :
    Calls Tryz.prog 153 #[.slice ao n cap] w fun e w' => e = .returned (.string ⟨(Box.hex zs).toArray⟩) ∧ ∃ m, w' = w.drewN m := by
  go_enter Tryz.func153, Tryz.ntmps153
  go_wp2
  go_loopw [4, 5] (fun s i wr => ∃ k : Nat, k ≤ n ∧ i = .int .i64 k ∧ (∃ b : ByteArray, s = .string b ∧ Hid (b = ⟨(Box.hex (zs.take k)).toArray⟩) ∧ b.size ≤ 2 * k) ∧ ∃ m, wr = w.drewN m) (fun _ i _ => n - (intOf i).toNat)
  case atStart => exact ⟨0, Nat.zero_le _, rfl, ⟨_, rfl, rfl, by simp [ByteArray.size]⟩, 0, rfl⟩
  case round =>
    obtain ⟨k, hk, rfl, ⟨sb, rfl, HS, hsz⟩, m, rfl⟩ := hrel
    have hsz2 : sb.size ≤ 200000 := by omega
    by_cases hlt : k < n
    · have hlt' : k < zs.length := by rw [hn.out]; exact hlt
      obtain ⟨b, off, rfl, hck⟩ := hz k hlt'
      have hzk := (zs[k]).toNat_lt
      have hp1 : (k : Int) < (n : Int) := by omega
      have hp2 : (0 : Int) ≤ (k : Int) := by omega
      have hs1 := fun w => dig_slice (P := Tryz.prog) 9 Tryz.underlying9 (IntKind.u8.wrap ((zs[k].toNat : Int) / 16)) (IntKind.u8.wrap (IntKind.u8.wrap ((zs[k].toNat : Int) / 16) + 1)) (zs[k].toNat / 16) (by omega) (by rw [wrap8 _ (by omega) (by omega)]; omega) (by rw [wrap8 ((zs[k].toNat : Int) / 16) (by omega) (by omega), wrap8 _ (by omega) (by omega)]; omega) w
      have hs2 := fun w => dig_slice (P := Tryz.prog) 9 Tryz.underlying9 (IntKind.u8.wrap ((zs[k].toNat : Int) % 16)) (IntKind.u8.wrap (IntKind.u8.wrap ((zs[k].toNat : Int) % 16) + 1)) (zs[k].toNat % 16) (by omega) (by rw [wrap8 _ (by omega) (by omega)]; omega) (by rw [wrap8 ((zs[k].toNat : Int) % 16) (by omega) (by omega), wrap8 _ (by omega) (by omega)]; omega) w
      go_wp2_with fail
      go_quiet (fail)
      go_wp2
      go_roundw
      case rel =>
        refine ⟨k + 1, by omega, by go_num, ⟨_, rfl, ?_, ?_⟩, _, rfl⟩
        · show _ = _
          rw [HS.out, hex_take2 hlt']
          refine ByteArray.ext (Array.toList_inj.1 ?_)
          simp
          rw [dig_list _ (by omega), dig_list _ (by omega)]
          rfl
        · simp [ByteArray.size_append, dig_size]
          omega
      case measure => simp [intOf]; omega
    · go_wp2
      go_ret
      exact ⟨by rw [HS.out, List.take_of_length_le (by rw [hn.out]; omega)]; rfl, _, rfl⟩
end Go.Proofs.YtbanfbpfapjfcaaGreatDoor
namespace Go.Proofs.YtbanfbpfapjfcaaGreatDoor
open Go.RowKit
set_option maxRecDepth 100000

theorem seven {k : Nat} (h1 : 1 ≤ k) (h8 : k < 8) : k = 1 ∨ k = 2 ∨ k = 3 ∨ k = 4 ∨ k = 5 ∨ k = 6 ∨ k = 7 := by omega
set_option maxHeartbeats 1000000 in
theorem test_ne {v : Int} {k : Nat} (h0 : -9223372036854775808 ≤ v) (h1 : v ≤ 9223372036854775807) (hk1 : 1 ≤ k) (hk : k < Box.size v) : (wrap64 (v * 2 ^ (64 - 8 * k)) / 2 ^ (64 - 8 * k) != v) = true := by
  have hs := (size_bounds v).2
  rw [bne_iff_ne]
  unfold wrap64
  rcases seven hk1 (by omega) with rfl | rfl | rfl | rfl | rfl | rfl | rfl <;> simp only [Nat.reduceMul, Nat.reduceSub, Int.reducePow] <;> unfold Box.size at hk <;> (repeat' split at hk) <;> omega
set_option maxHeartbeats 1000000 in
theorem test_eq {v : Int} {k : Nat} (h0 : -9223372036854775808 ≤ v) (h1 : v ≤ 9223372036854775807) (hk8 : k < 8) (hk : k = Box.size v) : (wrap64 (v * 2 ^ (64 - 8 * k)) / 2 ^ (64 - 8 * k) != v) = false := by
  have hs := (size_bounds v).1
  rw [bne_eq_false_iff_eq]
  unfold wrap64
  rcases seven (k := k) (by omega) hk8 with rfl | rfl | rfl | rfl | rfl | rfl | rfl <;> simp only [Nat.reduceMul, Nat.reduceSub, Int.reducePow] <;> unfold Box.size at hk <;> (repeat' split at hk) <;> omega

end Go.Proofs.YtbanfbpfapjfcaaGreatDoor
namespace Go.Proofs.YtbanfbpfapjfcaaGreatDoor
open Go.RowKit
set_option maxRecDepth 100000

set_option maxHeartbeats 1000000 in
theorem rnumberBox_any (v : Int) (w : World) (h0 : -9223372036854775808 ≤ v) (h1 : v ≤ 9223372036854775807) :
    Calls Tryz.prog 116 #[.int .i64 v] w fun e w' => ∃ o, e = .returned o ∧ w'.ownsRow w.heap.size 5 1 o (Box.box 2 (Box.low v (Box.size v))).length ((Box.box 2 (Box.low v (Box.size v))).map U8) ∧ w.grownBy w' none := by
  obtain ⟨i0, hif, hz0, hz1, hz2⟩ := info_parts Tryz.info5
  go_enter Tryz.func116, Tryz.ntmps116
  go_wp2
  go_loop [3] (fun n => ∃ k : Nat, 1 ≤ k ∧ k ≤ Box.size v ∧ n = .int .i64 k) (fun n => 8 - (intOf n).toNat)
  case atStart => exact ⟨1, by omega, (size_bounds v).1, rfl⟩
  case round =>
    obtain ⟨k, hk1, hk2, rfl⟩ := hrel
    have hs8 := (size_bounds v).2
    by_cases hk : k < Box.size v
    · have hk8 : (k : Int) < 8 := by omega
      have hq := test_ne h0 h1 hk1 hk
      go_wp2
      go_round
      case rel => exact ⟨k + 1, by omega, by omega, by go_num⟩
      case measure => simp [intOf]; omega
    · have hke : k = Box.size v := by omega
      have HK : Hid (Box.size v = k) := hke.symm
      have hk8 : k ≤ 8 := by omega
      have hq : Hid ((k : Int) < 8 → (wrap64 (v * 2 ^ (64 - 8 * k)) / 2 ^ (64 - 8 * k) != v) = false) := fun h => test_eq h0 h1 (by omega) hke
      rw [hke.symm]
      clear hke hk2 hs8 hk
      by_cases h8 : (k : Int) < 8
      · have hq' := hq.out h8
        go_wp2
        go_loopw [4, 5] (fun o i wr => ∃ j : Nat, j ≤ k ∧ i = .int .i64 ((k : Int) - 1 - j) ∧ wr.ownsRow w.heap.size 5 1 o j ((Box.lowTo v k j).map U8) ∧ w.grownBy wr none) (fun _ i _ => (intOf i + 1).toNat)
        case atStart => exact ⟨0, by omega, by go_num, World.ownsRow_nil _ _ _ _, World.grownBy.refl _ _⟩
        case round =>
          obtain ⟨j, hj, rfl, hown, hgr⟩ := hrel
          have hsz := hgr.size
          by_cases hlt : j < k
          · go_wp2_with (at_builtin; refine wpList_append_at _ rfl _ _ 32 rfl w.heap.size 5 i0 Tryz.underlying32 hif hz0 hz1 hz2 _ _ _ rfl (hown.alloc _) (some ⟨wr.heap.size, 0, none⟩) 1 1 [Box.byteI v (k - 1 - j)] rfl rfl ?a1 ?a2 ?a3 ?a4 ?_)
            case a1 => intro h; cases h
            case a2 => exact bytes_new wr _ _ _ (by simp only [List.map_cons, List.map_nil, U8]; rw [byteI_int])
            case a3 => omega
            case a4 => simp; omega
            intro v1 w1 hown1 hg1 _
            have R : w1.ownsRow w.heap.size 5 1 v1 (j + 1) ((Box.lowTo v k (j + 1)).map U8) ∧ w.grownBy w1 none := by
              refine ⟨?_, gb_row (gb_alloc hgr _) hg1 (fun i hi => (hown.lt i hi).1)⟩
              rw [Box.lowTo]
              simpa using hown1
            clear hown hown1 hg1 hgr
            go_wp2
            go_roundw
            case rel => exact ⟨j + 1, by omega, by go_num, R.1, R.2⟩
            case measure => simp [intOf]; omega
          · have hjk : j = k := by omega
            subst hjk
            obtain ⟨a3, c3, rfl, _, _, hnc, hat3⟩ := own_at2 hown
            go_wp2_with fail
            refine (rbox_any 2 (Box.low v j) j a3 c3 _ (Box.low_length v j) (by omega) hnc hat3).mono ?_
            rintro e w2 ⟨o, rfl, hown2, hg2⟩
            have G2 := gb_trans hgr hg2
            have R2 : w2.ownsRow w.heap.size 5 1 o (Box.box 2 (Box.low v j)).length ((Box.box 2 (Box.low v j)).map U8) := own_down hown2 hsz
            clear hown hown2 hg2 hgr
            go_wp2
            go_ret
            exact ⟨_, rfl, by rw [HK.out]; exact R2, G2⟩
      · go_wp2
        go_loopw [4, 5] (fun o i wr => ∃ j : Nat, j ≤ k ∧ i = .int .i64 ((k : Int) - 1 - j) ∧ wr.ownsRow w.heap.size 5 1 o j ((Box.lowTo v k j).map U8) ∧ w.grownBy wr none) (fun _ i _ => (intOf i + 1).toNat)
        case atStart => exact ⟨0, by omega, by go_num, World.ownsRow_nil _ _ _ _, World.grownBy.refl _ _⟩
        case round =>
          obtain ⟨j, hj, rfl, hown, hgr⟩ := hrel
          have hsz := hgr.size
          by_cases hlt : j < k
          · go_wp2_with (at_builtin; refine wpList_append_at _ rfl _ _ 32 rfl w.heap.size 5 i0 Tryz.underlying32 hif hz0 hz1 hz2 _ _ _ rfl (hown.alloc _) (some ⟨wr.heap.size, 0, none⟩) 1 1 [Box.byteI v (k - 1 - j)] rfl rfl ?b1 ?b2 ?b3 ?b4 ?_)
            case b1 => intro h; cases h
            case b2 => exact bytes_new wr _ _ _ (by simp only [List.map_cons, List.map_nil, U8]; rw [byteI_int])
            case b3 => omega
            case b4 => simp; omega
            intro v1 w1 hown1 hg1 _
            have R : w1.ownsRow w.heap.size 5 1 v1 (j + 1) ((Box.lowTo v k (j + 1)).map U8) ∧ w.grownBy w1 none := by
              refine ⟨?_, gb_row (gb_alloc hgr _) hg1 (fun i hi => (hown.lt i hi).1)⟩
              rw [Box.lowTo]
              simpa using hown1
            clear hown hown1 hg1 hgr
            go_wp2
            go_roundw
            case rel => exact ⟨j + 1, by omega, by go_num, R.1, R.2⟩
            case measure => simp [intOf]; omega
          · have hjk : j = k := by omega
            subst hjk
            obtain ⟨a3, c3, rfl, _, _, hnc, hat3⟩ := own_at2 hown
            go_wp2_with fail
            refine (rbox_any 2 (Box.low v j) j a3 c3 _ (Box.low_length v j) (by omega) hnc hat3).mono ?_
            rintro e w2 ⟨o, rfl, hown2, hg2⟩
            have G2 := gb_trans hgr hg2
            have R2 : w2.ownsRow w.heap.size 5 1 o (Box.box 2 (Box.low v j)).length ((Box.box 2 (Box.low v j)).map U8) := own_down hown2 hsz
            clear hown hown2 hg2 hgr
            go_wp2
            go_ret
            exact ⟨_, rfl, by rw [HK.out]; exact R2, G2⟩
end Go.Proofs.YtbanfbpfapjfcaaGreatDoor
