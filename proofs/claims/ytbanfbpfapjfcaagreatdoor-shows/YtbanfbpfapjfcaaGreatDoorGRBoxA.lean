/-
  Contracts of the document's answer: box. Conditions: in each statement.
-/
import Derived.Test.YtbanfbpfapjfcaaGreatDoorGBoxM
import Derived.Test.YtbanfbpfapjfcaaGreatDoorGRef2
namespace Go.Proofs.YtbanfbpfapjfcaaGreatDoor
open Go.RowKit
set_option maxRecDepth 100000

set_option maxHeartbeats 1000000 in
theorem rbox_any (tag : UInt8) (zs : List UInt8) (n : Nat) (ao : Option Addr) (cap : Nat) (w : World) (hn : Hid (zs.length = n)) (hl : n ≤ 65535) (hnc : Hid (ao = none → cap = 0)) (hz : At w ao zs) :
    Calls Tryz.prog 152 #[.int .u8 (tag.toNat : Int), .slice ao n cap] w fun e w' => ∃ o, e = .returned o ∧ w'.ownsRow w.heap.size 5 1 o (Box.box tag zs).length ((Box.box tag zs).map U8) ∧ w.grownBy w' none := by
  obtain ⟨i0, hif, hz0, hz1, hz2⟩ := info_parts Tryz.info5
  have hown0 := own_new w 5 tag
  have G0 : w.grownBy (w.alloc (.cells #[.int .u8 (tag.toNat : Int)] 5)) none := World.grownBy_alloc w _ none
  by_cases h1 : n < 128
  · have h1' : (n : Int) < 128 := by omega
    have HL : Hid (Box.box tag zs = [tag] ++ [UInt8.ofNat n] ++ zs) := by show _ = _; rw [Box.box, Box.head, hn.out, if_pos h1]; rfl
    go_enter Tryz.func152, Tryz.ntmps152
    go_wp2_with (at_builtin; refine wpList_append_at _ rfl _ _ 32 rfl w.heap.size 5 i0 Tryz.underlying32 hif hz0 hz1 hz2 _ _ _ rfl (hown0.alloc _) (some ⟨w.heap.size + 1, 0, none⟩) 1 1 [UInt8.ofNat n] rfl rfl ?c1 ?c2 ?c3 ?c4 ?_)
    case c1 => intro h; cases h
    case c2 => exact bytes_new1 w _ _ _ _ (by simp only [List.map_cons, List.map_nil, U8, UInt8.toNat_ofNat']; rw [Nat.mod_eq_of_lt (by omega)])
    case c3 => omega
    case c4 => simp; omega
    intro v1 w1 hown1 hg1 _
    have G1 : w.grownBy w1 none := gb_row (gb_alloc G0 _) hg1 (fun i hi => (hown0.lt i hi).1)
    have hz1' := hz.below G1
    have hsz1 := G1.size
    clear hown0 hg1 G0
    go_wp2_with (at_builtin; refine wpList_append_at _ rfl _ _ 32 rfl w.heap.size 5 i0 Tryz.underlying32 hif hz0 hz1 hz2 v1 (1 + 1) ([tag] ++ [UInt8.ofNat n]) rfl (by simpa using hown1) ao n cap zs rfl hn.out hnc.out hz1' (by omega) hsz1 ?_)
    intro v2 w2 hown2 hg2 _
    have G2 : w.grownBy w2 none := gb_row G1 hg2 (fun i hi => (hown1.lt i hi).1)
    have R : w2.ownsRow w.heap.size 5 1 v2 (Box.box tag zs).length ((Box.box tag zs).map U8) := by
      rw [HL.out, List.length_append, hn.out]
      simpa using hown2
    clear hown1 hown2 hg2 G1
    go_wp2
    go_ret
    exact ⟨_, rfl, R, G2⟩
  · by_cases h2 : n < 256
    · have h1' : ¬ (n : Int) < 128 := by omega
      have h2' : (n : Int) < 256 := by omega
      have HL : Hid (Box.box tag zs = [tag] ++ [129, UInt8.ofNat n] ++ zs) := by show _ = _; rw [Box.box, Box.head, hn.out, if_neg h1, if_pos h2]; rfl
      go_enter Tryz.func152, Tryz.ntmps152
      go_wp2_with (at_builtin; refine wpList_append_at _ rfl _ _ 32 rfl w.heap.size 5 i0 Tryz.underlying32 hif hz0 hz1 hz2 _ _ _ rfl (hown0.alloc _) (some ⟨w.heap.size + 1, 0, none⟩) 2 2 [129, UInt8.ofNat n] rfl rfl ?d1 ?d2 ?d3 ?d4 ?_)
      case d2 => exact bytes_new1 w _ _ _ _ (by simp only [List.map_cons, List.map_nil, U8, UInt8.toNat_ofNat']; rw [Nat.mod_eq_of_lt (by omega)]; rfl)
      case d4 => first | omega | (simp; omega)
      intro v1 w1 hown1 hg1 _
      have G1 : w.grownBy w1 none := gb_row (gb_alloc G0 _) hg1 (fun i hi => (hown0.lt i hi).1)
      have hz1' := hz.below G1
      have hsz1 := G1.size
      clear hown0 hg1 G0
      go_wp2_with (at_builtin; refine wpList_append_at _ rfl _ _ 32 rfl w.heap.size 5 i0 Tryz.underlying32 hif hz0 hz1 hz2 v1 (1 + 2) ([tag] ++ [129, UInt8.ofNat n]) rfl (by simpa using hown1) ao n cap zs rfl hn.out hnc.out hz1' (by omega) hsz1 ?_)
      intro v2 w2 hown2 hg2 _
      have G2 : w.grownBy w2 none := gb_row G1 hg2 (fun i hi => (hown1.lt i hi).1)
      have R : w2.ownsRow w.heap.size 5 1 v2 (Box.box tag zs).length ((Box.box tag zs).map U8) := by
        rw [HL.out, List.length_append, hn.out]
        simpa using hown2
      clear hown1 hown2 hg2 G1
      go_wp2
      go_ret
      exact ⟨_, rfl, R, G2⟩
    · have h1' : ¬ (n : Int) < 128 := by omega
      have h2' : ¬ (n : Int) < 256 := by omega
      have HL : Hid (Box.box tag zs = [tag] ++ [130, UInt8.ofNat (n / 256), UInt8.ofNat (n % 256)] ++ zs) := by show _ = _; rw [Box.box, Box.head, hn.out, if_neg h1, if_neg h2]; rfl
      go_enter Tryz.func152, Tryz.ntmps152
      go_wp2_with (at_builtin; refine wpList_append_at _ rfl _ _ 32 rfl w.heap.size 5 i0 Tryz.underlying32 hif hz0 hz1 hz2 _ _ _ rfl (hown0.alloc _) (some ⟨w.heap.size + 1, 0, none⟩) 3 3 [130, UInt8.ofNat (n / 256), UInt8.ofNat (n % 256)] rfl rfl ?e1 ?e2 ?e3 ?e4 ?_)
      case e2 => exact bytes_new1 w _ _ _ _ (by simp only [List.map_cons, List.map_nil, U8, UInt8.toNat_ofNat']; rw [Nat.mod_eq_of_lt (show n / 256 < 2 ^ 8 by omega), Nat.mod_eq_of_lt (show n % 256 < 2 ^ 8 by omega)]; rfl)
      case e4 => first | omega | (simp; omega)
      intro v1 w1 hown1 hg1 _
      have G1 : w.grownBy w1 none := gb_row (gb_alloc G0 _) hg1 (fun i hi => (hown0.lt i hi).1)
      have hz1' := hz.below G1
      have hsz1 := G1.size
      clear hown0 hg1 G0
      go_wp2_with (at_builtin; refine wpList_append_at _ rfl _ _ 32 rfl w.heap.size 5 i0 Tryz.underlying32 hif hz0 hz1 hz2 v1 (1 + 3) ([tag] ++ [130, UInt8.ofNat (n / 256), UInt8.ofNat (n % 256)]) rfl (by simpa using hown1) ao n cap zs rfl hn.out hnc.out hz1' (by omega) hsz1 ?_)
      intro v2 w2 hown2 hg2 _
      have G2 : w.grownBy w2 none := gb_row G1 hg2 (fun i hi => (hown1.lt i hi).1)
      have R : w2.ownsRow w.heap.size 5 1 v2 (Box.box tag zs).length ((Box.box tag zs).map U8) := by
        rw [HL.out, List.length_append, hn.out]
        simpa using hown2
      clear hown1 hown2 hg2 G1
      go_wp2
      go_ret
      exact ⟨_, rfl, R, G2⟩
end Go.Proofs.YtbanfbpfapjfcaaGreatDoor
