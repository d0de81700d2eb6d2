/-
  Contracts of the document's answer: hex. Conditions: in each statement.
  What the document's Number asks of a number before it writes it: whether so many bytes hold it. Conditions: in each statement.
-/
import Derived.Test.YtbanfbpfapjfcaaGreatDoorGRBoxA
import Derived.Deep.RegionWith
import Derived.Deep.QuietTactic
namespace Go.Proofs.YtbanfbpfapjfcaaGreatDoor
open Go.RowKit
set_option maxRecDepth 100000

theorem dig_part (m : Nat) (h : m < 16) : (⟨#[48, 49, 50, 51, 52, 53, 54, 55, 56, 57, 97, 98, 99, 100, 101, 102]⟩ : ByteArray).extract m (m + 1) = ⟨#[Box.dig m]⟩ := by
  have : ∀ m : Fin 16, ((⟨#[48, 49, 50, 51, 52, 53, 54, 55, 56, 57, 97, 98, 99, 100, 101, 102]⟩ : ByteArray).extract m.val (m.val + 1)).data.toList = [Box.dig m.val] := by decide
  have h2 := this ⟨m, h⟩
  refine ByteArray.ext (Array.toList_inj.1 ?_)
  exact h2
theorem dig_slice {P : Program} (t : TypeId) (ht : P.underlying t = some .string) (x y : Int) (m : Nat) (hm : m < 16) (hx : x = (m : Int)) (hy : y = (m : Int) + 1) (w : World) :
    (Instr.sliceAt t (.string (⟨#[48, 49, 50, 51, 52, 53, 54, 55, 56, 57, 97, 98, 99, 100, 101, 102]⟩ : ByteArray)) (some (.int .u8 x)) (some (.int .u8 y)) none).run P w = .ok (.string ⟨#[Box.dig m]⟩) w := by
  subst hx hy
  rw [run_sliceAt_string w t _ _ _ _ ht, run_slice_string w t _ .u8 .u8 (m : Int) ((m : Int) + 1) ht (by omega) (by omega) (by show ((m : Int) + 1) ≤ 16; omega), Int.toNat_natCast, show ((m : Int) + 1).toNat = m + 1 from by omega, dig_part m hm]
theorem dig_list (m : Nat) (h : m < 16) : List.take 1 (List.drop m [48, 49, 50, 51, 52, 53, 54, 55, 56, 57, 97, 98, 99, 100, 101, 102]) = [Box.dig m] := by
  have : ∀ m : Fin 16, List.take 1 (List.drop m.val [48, 49, 50, 51, 52, 53, 54, 55, 56, 57, 97, 98, 99, 100, 101, 102]) = [Box.dig m.val] := by decide
  exact this ⟨m, h⟩
theorem dig_size : (⟨#[48, 49, 50, 51, 52, 53, 54, 55, 56, 57, 97, 98, 99, 100, 101, 102]⟩ : ByteArray).size = 16 := rfl
theorem hex_take2 {zs : List UInt8} {k : Nat} (h : k < zs.length) : Box.hex (zs.take (k + 1)) = Box.hex (zs.take k) ++ [Box.dig (zs[k].toNat / 16), Box.dig (zs[k].toNat % 16)] := by
  rw [take_snoc h, Box.hex_append]; rfl
theorem wrap8 (x : Int) (h0 : 0 ≤ x) (h1 : x < 256) : IntKind.u8.wrap x = x := by
  simp [IntKind.wrap, IntKind.bits, IntKind.signed]
  omega

set_option maxHeartbeats 1000000 in
theorem rhex_any (zs : List UInt8) (n : Nat) (ao : Option Addr) (cap : Nat) (w : World) (hn : Hid (zs.length = n)) (hl : n ≤ 100000) (hz : At w ao zs) :
    Calls Tryz.prog 153 #[.slice ao n cap] w fun e w' => e = .returned (.string ⟨(Box.hex zs).toArray⟩) ∧ ∃ m, w' = w.drewN m := by
  go_enter Tryz.func153, Tryz.ntmps153
  go_wp2
  go_loopw [4, 5] (fun s i wr => ∃ k : Nat, k ≤ n ∧ i = .int .i64 k ∧ (∃ b : ByteArray, s = .string b ∧ Hid (b = ⟨(Box.hex (zs.take k)).toArray⟩) ∧ b.size ≤ 2 * k) ∧ ∃ m, wr = w.drewN m) (fun _ i _ => n - (intOf i).toNat)
  case atStart => exact ⟨0, Nat.zero_le _, rfl, ⟨_, rfl, rfl, by simp [ByteArray.size]⟩, 0, rfl⟩
  case round =>
    obtain ⟨k, hk, rfl, ⟨sb, rfl, HS, hsz⟩, m, rfl⟩ := hrel
    have hsz2 : sb.size ≤ 200000 := by omega
    by_cases hlt : k < n
    · have hlt' : k < zs.length := by rw [hn.out]; exact hlt
      obtain ⟨b, off, rfl, hck⟩ := hz k hlt'
      have hzk := (zs[k]).toNat_lt
      have hp1 : (k : Int) < (n : Int) := by omega
      have hp2 : (0 : Int) ≤ (k : Int) := by omega
      have hs1 := fun w => dig_slice (P := Tryz.prog) 9 Tryz.underlying9 (IntKind.u8.wrap ((zs[k].toNat : Int) / 16)) (IntKind.u8.wrap (IntKind.u8.wrap ((zs[k].toNat : Int) / 16) + 1)) (zs[k].toNat / 16) (by omega) (by rw [wrap8 _ (by omega) (by omega)]; omega) (by rw [wrap8 ((zs[k].toNat : Int) / 16) (by omega) (by omega), wrap8 _ (by omega) (by omega)]; omega) w
      have hs2 := fun w => dig_slice (P := Tryz.prog) 9 Tryz.underlying9 (IntKind.u8.wrap ((zs[k].toNat : Int) % 16)) (IntKind.u8.wrap (IntKind.u8.wrap ((zs[k].toNat : Int) % 16) + 1)) (zs[k].toNat % 16) (by omega) (by rw [wrap8 _ (by omega) (by omega)]; omega) (by rw [wrap8 ((zs[k].toNat : Int) % 16) (by omega) (by omega), wrap8 _ (by omega) (by omega)]; omega) w
      go_wp2_with fail
      go_quiet (fail)
      go_wp2
      go_roundw
      case rel =>
        refine ⟨k + 1, by omega, by go_num, ⟨_, rfl, ?_, ?_⟩, _, rfl⟩
        · show _ = _
          rw [HS.out, hex_take2 hlt']
          refine ByteArray.ext (Array.toList_inj.1 ?_)
          simp
          rw [dig_list _ (by omega), dig_list _ (by omega)]
          rfl
        · simp [ByteArray.size_append, dig_size]
          omega
      case measure => simp [intOf]; omega
    · go_wp2
      go_ret
      exact ⟨by rw [HS.out, List.take_of_length_le (by rw [hn.out]; omega)]; rfl, _, rfl⟩
end Go.Proofs.YtbanfbpfapjfcaaGreatDoor
namespace Go.Proofs.YtbanfbpfapjfcaaGreatDoor
open Go.RowKit
set_option maxRecDepth 100000

theorem seven {k : Nat} (h1 : 1 ≤ k) (h8 : k < 8) : k = 1 ∨ k = 2 ∨ k = 3 ∨ k = 4 ∨ k = 5 ∨ k = 6 ∨ k = 7 := by omega
set_option maxHeartbeats 1000000 in
theorem test_ne {v : Int} {k : Nat} (h0 : -9223372036854775808 ≤ v) (h1 : v ≤ 9223372036854775807) (hk1 : 1 ≤ k) (hk : k < Box.size v) : (wrap64 (v * 2 ^ (64 - 8 * k)) / 2 ^ (64 - 8 * k) != v) = true := by
  have hs := (size_bounds v).2
  rw [bne_iff_ne]
  unfold wrap64
  rcases seven hk1 (by omega) with rfl | rfl | rfl | rfl | rfl | rfl | rfl <;> simp only [Nat.reduceMul, Nat.reduceSub, Int.reducePow] <;> unfold Box.size at hk <;> (repeat' split at hk) <;> omega
set_option maxHeartbeats 1000000 in
theorem test_eq {v : Int} {k : Nat} (h0 : -9223372036854775808 ≤ v) (h1 : v ≤ 9223372036854775807) (hk8 : k < 8) (hk : k = Box.size v) : (wrap64 (v * 2 ^ (64 - 8 * k)) / 2 ^ (64 - 8 * k) != v) = false := by
  have hs := (size_bounds v).1
  rw [bne_eq_false_iff_eq]
  unfold wrap64
  rcases seven (k := k) (by omega) hk8 with rfl | rfl | rfl | rfl | rfl | rfl | rfl <;> simp only [Nat.reduceMul, Nat.reduceSub, Int.reducePow] <;> unfold Box.size at hk <;> (repeat' split at hk) <;> omega

end Go.Proofs.YtbanfbpfapjfcaaGreatDoor
