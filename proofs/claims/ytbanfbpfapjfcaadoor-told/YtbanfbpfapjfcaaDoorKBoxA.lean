/-
  Contracts of what puts boxes together in package wardenkeep: box, text. Conditions: in each statement.
-/
import Derived.Test.YtbanfbpfapjfcaaDoorBoxM
namespace Go.Proofs.YtbanfbpfapjfcaaDoor
open Go.RowKit
set_option maxRecDepth 100000

set_option maxHeartbeats 1000000 in
theorem kbox_any (tag : UInt8) (zs : List UInt8) (n : Nat) (ao : Option Addr) (cap : Nat) (w : World) (hn : Hid (zs.length = n)) (hl : n ≤ 255) (hnc : Hid (ao = none → cap = 0)) (hz : At w ao zs) :
    Calls Tryd.prog 11 #[.int .u8 (tag.toNat : Int), .slice ao n cap] w fun e w' => ∃ o, e = .returned o ∧ w'.ownsRow w.heap.size 5 1 o (Box.box tag zs).length ((Box.box tag zs).map U8) ∧ w.grownBy w' none := by
  obtain ⟨i0, hif, hz0, hz1, hz2⟩ := info_parts Tryd.info5
  have hown0 := own_new w 5 tag
  have G0 : w.grownBy (w.alloc (.cells #[.int .u8 (tag.toNat : Int)] 5)) none := World.grownBy_alloc w _ none
  by_cases h1 : n < 128
  · have h1' : ¬ (127 : Int) < (n : Int) := by omega
    have HL : Hid (Box.box tag zs = [tag] ++ [UInt8.ofNat n] ++ zs) := by show _ = _; rw [Box.box, Box.head, hn.out, if_pos h1]; rfl
    go_enter Tryd.func11, Tryd.ntmps11
    go_wp2_with (at_builtin; refine wpList_append_at _ rfl _ _ 22 rfl w.heap.size 5 i0 Tryd.underlying22 hif hz0 hz1 hz2 _ _ _ rfl (hown0.alloc _) (some ⟨w.heap.size + 1, 0, none⟩) 1 1 [UInt8.ofNat n] rfl rfl ?c1 ?c2 ?c3 ?c4 ?_)
    case c2 => exact bytes_new1 w _ _ _ _ (by simp only [List.map_cons, List.map_nil, U8, UInt8.toNat_ofNat']; rw [Nat.mod_eq_of_lt (by omega)])
    case c4 => first | omega | (simp; omega)
    intro v1 w1 hown1 hg1 _
    have G1 : w.grownBy w1 none := gb_row (gb_alloc G0 _) hg1 (fun i hi => (hown0.lt i hi).1)
    have hz1' := hz.below G1
    have hsz1 := G1.size
    clear hown0 hg1 G0
    go_wp2_with (at_builtin; refine wpList_append_at _ rfl _ _ 22 rfl w.heap.size 5 i0 Tryd.underlying22 hif hz0 hz1 hz2 v1 (1 + 1) ([tag] ++ [UInt8.ofNat n]) rfl (by simpa using hown1) ao n cap zs rfl hn.out hnc.out hz1' (by omega) hsz1 ?_)
    intro v2 w2 hown2 hg2 _
    have G2 : w.grownBy w2 none := gb_row G1 hg2 (fun i hi => (hown1.lt i hi).1)
    have R : w2.ownsRow w.heap.size 5 1 v2 (Box.box tag zs).length ((Box.box tag zs).map U8) := by
      rw [HL.out, List.length_append, hn.out]
      simpa using hown2
    clear hown1 hown2 hg2 G1
    go_wp2
    go_ret
    exact ⟨_, rfl, R, G2⟩
  · have h1' : (127 : Int) < (n : Int) := by omega
    have HL : Hid (Box.box tag zs = [tag] ++ [129] ++ [UInt8.ofNat n] ++ zs) := by show _ = _; rw [Box.box, Box.head, hn.out, if_neg h1, if_pos (by omega)]; rfl
    go_enter Tryd.func11, Tryd.ntmps11
    go_wp2_with (at_builtin; refine wpList_append_at _ rfl _ _ 22 rfl w.heap.size 5 i0 Tryd.underlying22 hif hz0 hz1 hz2 _ _ _ rfl (hown0.alloc _) (some ⟨w.heap.size + 1, 0, none⟩) 1 1 [129] rfl rfl ?d1 ?d2 ?d3 ?d4 ?_)
    case d1 => intro h; cases h
    case d3 => omega
    case d2 => exact bytes_new1 w _ _ _ _ rfl
    case d4 => first | omega | (simp; omega)
    intro v1 w1 hown1 hg1 _
    have G1 : w.grownBy w1 none := gb_row (gb_alloc G0 _) hg1 (fun i hi => (hown0.lt i hi).1)
    have hsz1 := G1.size
    clear hown0 hg1 G0
    go_wp2_with (at_builtin; refine wpList_append_at _ rfl _ _ 22 rfl w.heap.size 5 i0 Tryd.underlying22 hif hz0 hz1 hz2 v1 (1 + 1) ([tag] ++ [129]) rfl (by simpa using hown1.alloc _) (some ⟨w1.heap.size, 0, none⟩) 1 1 [UInt8.ofNat n] rfl rfl ?f1 ?f2 ?f3 ?f4 ?_)
    case f1 => intro h; cases h
    case f3 => omega
    case f2 => exact bytes_new w1 _ _ _ (by simp only [List.map_cons, List.map_nil, U8, UInt8.toNat_ofNat']; rw [Nat.mod_eq_of_lt (by omega)])
    case f4 => first | omega | (simp; omega)
    intro v2 w2 hown2 hg2 _
    have G2 : w.grownBy w2 none := gb_row (gb_alloc G1 _) hg2 (fun i hi => (hown1.lt i hi).1)
    have hz2' := hz.below G2
    have hsz2 := G2.size
    clear hown1 hg2 G1
    go_wp2_with (at_builtin; refine wpList_append_at _ rfl _ _ 22 rfl w.heap.size 5 i0 Tryd.underlying22 hif hz0 hz1 hz2 v2 (1 + 1 + 1) ([tag] ++ [129] ++ [UInt8.ofNat n]) rfl (by simpa using hown2) ao n cap zs rfl hn.out hnc.out hz2' (by omega) hsz2 ?_)
    intro v3 w3 hown3 hg3 _
    have G3 : w.grownBy w3 none := gb_row G2 hg3 (fun i hi => (hown2.lt i hi).1)
    have R : w3.ownsRow w.heap.size 5 1 v3 (Box.box tag zs).length ((Box.box tag zs).map U8) := by
      rw [HL.out, List.length_append, hn.out]
      simpa using hown3
    clear hown2 hown3 hg3 G2
    go_wp2
    go_ret
    exact ⟨_, rfl, R, G3⟩

set_option maxHeartbeats 1000000 in
theorem ktext_any (zs : List UInt8) (n : Nat) (ao : Option Addr) (cap : Nat) (w : World) (hn : Hid (zs.length = n)) (hl : n ≤ 255) (hnc : Hid (ao = none → cap = 0)) (hz : At w ao zs) :
    Calls Tryd.prog 6 #[.slice ao n cap] w fun e w' => ∃ o, e = .returned o ∧ w'.ownsRow w.heap.size 5 1 o (Box.box 4 zs).length ((Box.box 4 zs).map U8) ∧ w.grownBy w' none := by
  have hB := kbox_any 4 zs n ao cap w hn hl hnc hz
  go_enter Tryd.func6, Tryd.ntmps6
  go_wp2_with fail
  refine hB.mono ?_
  rintro e w1 ⟨o, rfl, hown, hg⟩
  clear hB
  go_wp2
  go_ret
  exact ⟨_, rfl, hown, hg⟩
end Go.Proofs.YtbanfbpfapjfcaaDoor
