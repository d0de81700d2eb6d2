/-
  Contract of the document's show and of its Show, in the words of Box.pshow and Box.whole. Conditions: in each statement.
-/
import Derived.Test.YtbanfbpfapjfcaaGreatDoorGRBoxH
import Derived.Test.YtbanfbpfapjfcaaGreatDoorGBoxH
namespace Go.Proofs.YtbanfbpfapjfcaaGreatDoor
open Go.RowKit
set_option maxRecDepth 100000

theorem gb_grow (w : World) (k : Nat) (os : Array Obj) : w.grownBy (Sort.grow (w.drewN k) os) none := by
  have h := Lib.below_grow w.heap.size w (Nat.le_refl _) k os
  exact ⟨h.os, h.tape, h.output, h.size, fun i hi _ => h.block i hi⟩
theorem formatInt_any (n : Int) (h0 : -9223372036854775808 ≤ n) (h1 : n ≤ 9223372036854775807) (w : World) (htab : TabHere w) :
    Calls Tryz.prog 92 #[.int .i64 n, .int .i64 10] w fun e w' => e = .returned (.string ⟨(Lib.itoa n).toArray⟩) ∧ w.grownBy w' none :=
  (Go.Proofs.Tryz.strconv_FormatInt_10 n h0 h1 w htab).mono fun e w' ⟨he, k, os, hw⟩ => ⟨he, by rw [hw]; exact gb_grow w k os⟩

/-- What show answers. -/
def ShowSaid (d : Nat) (tag : UInt8) (zs : List UInt8) (e : Ending) : Prop :=
  (∀ t, Box.pshow d tag zs = some t → e = .returned (.tuple #[.string ⟨t.toArray⟩, .bool true])) ∧
  (Box.pshow d tag zs = none → ∃ s : ByteArray, s.size ≤ 22 + 22 * zs.length ∧ e = .returned (.tuple #[.string s, .bool false]))
theorem tab_grown {w w' : World} (h : TabHere w) (k : w.grownBy w' none) : TabHere w' := Lib.tabBelow_of_tabIs h w' (gb_below k)

theorem showSaid_no {d : Nat} {tag : UInt8} {zs : List UInt8} {s : ByteArray} (h : Box.pshow d tag zs = none) (hs : s.size ≤ 22 + 22 * zs.length) : ShowSaid d tag zs (.returned (.tuple #[.string s, .bool false])) :=
  ⟨fun t h' => by rw [h] at h'; simp at h', fun _ => ⟨s, hs, rfl⟩⟩
theorem showSaid_yes {d : Nat} {tag : UInt8} {zs t : List UInt8} (h : Box.pshow d tag zs = some t) : ShowSaid d tag zs (.returned (.tuple #[.string ⟨t.toArray⟩, .bool true])) :=
  ⟨fun t' h' => by rw [h] at h'; simp only [Option.some.injEq] at h'; subst h'; rfl, fun h' => by rw [h] at h'; simp at h'⟩

set_option maxHeartbeats 1000000 in
theorem show_num (d : Nat) (deep : Int) (tag : UInt8) (zs : List UInt8) (n : Nat) (ao : Option Addr) (cap : Nat) (w : World) (hn : Hid (zs.length = n)) (ht : tag.toNat = 2) (hc : At w ao zs) (htab : TabHere w) :
    Calls Tryz.prog 107 #[.agg #[.int .u8 (tag.toNat : Int), .slice ao n cap], .int .i64 deep] w fun e w' => ShowSaid d tag zs e ∧ w.grownBy w' none := by
  have h2 : ((tag.toNat : Int) == 2) = true := by rw [beq_iff_eq]; omega
  have HT : Hid (tag.toNat = 2) := ht
  have HD : Hid (Box.pshow d tag zs = (Box.num zs).map Lib.itoa) := by show _ = _; rw [Box.pshow_leaf d tag zs (by omega), Box.leaf, if_pos ht]
  clear ht
  have G0 : w.grownBy (w.alloc (.cells #[.int .u8 (tag.toNat : Int), .slice ao n cap] 217)) none := World.grownBy_alloc w _ none
  have hV := rvalue_any tag ao zs n cap _ hn (hc.below G0)
  cases hnum : Box.num zs with
  | some v =>
    have hvb := num_bounds hnum
    have HNum := hid hnum
    clear hnum
    go_enter Tryz.func107, Tryz.ntmps107
    go_wp2_with fail
    refine hV.mono ?_
    rintro e w1 ⟨hs, hg1⟩
    obtain rfl := hs.1 v HT.out HNum.out
    have G1 := gb_trans G0 hg1
    have hF := formatInt_any v hvb.1 hvb.2 w1 (tab_grown htab G1)
    clear hs hg1 hV
    go_wp2_with fail
    refine hF.mono ?_
    rintro e w2 ⟨rfl, hg2⟩
    have G2 := gb_trans G1 hg2
    clear hF hg2
    go_wp2
    go_ret2
    exact ⟨showSaid_yes (by rw [HD.out, HNum.out]; rfl), G2⟩
  | none =>
    have HNum := hid hnum
    clear hnum
    go_enter Tryz.func107, Tryz.ntmps107
    go_wp2_with fail
    refine hV.mono ?_
    rintro e w1 ⟨hs, hg1⟩
    obtain ⟨v, hv1, hv2, rfl⟩ := hs.2 (.inr HNum.out)
    have G1 := gb_trans G0 hg1
    have hF := formatInt_any v hv1 hv2 w1 (tab_grown htab G1)
    clear hs hg1 hV
    go_wp2_with fail
    refine hF.mono ?_
    rintro e w2 ⟨rfl, hg2⟩
    have G2 := gb_trans G1 hg2
    clear hF hg2
    go_wp2
    go_ret2
    refine ⟨showSaid_no (by rw [HD.out, HNum.out]; rfl) ?_, G2⟩
    have := Lib.itoa_length_le v hv1 hv2
    simp only [ByteArray.size, List.size_toArray]
    omega

set_option maxHeartbeats 1000000 in
theorem show_text (d : Nat) (deep : Int) (tag : UInt8) (zs : List UInt8) (n : Nat) (ao : Option Addr) (cap : Nat) (w : World) (hn : Hid (zs.length = n)) (hl : n ≤ 1000) (ht : tag.toNat = 4) (hc : At w ao zs) :
    Calls Tryz.prog 107 #[.agg #[.int .u8 (tag.toNat : Int), .slice ao n cap], .int .i64 deep] w fun e w' => ShowSaid d tag zs e ∧ w.grownBy w' none := by
  have h2 : ((tag.toNat : Int) == 2) = false := by rw [beq_eq_false_iff_ne]; omega
  have h4 : ((tag.toNat : Int) == 4) = true := by rw [beq_iff_eq]; omega
  have HD : Hid (Box.pshow d tag zs = some (34 :: Box.hex zs ++ [34])) := by show _ = _; rw [Box.pshow_leaf d tag zs (by omega), Box.leaf, if_neg (by omega), if_pos ht]
  clear ht
  have G0 : w.grownBy (w.alloc (.cells #[.int .u8 (tag.toNat : Int), .slice ao n cap] 217)) none := World.grownBy_alloc w _ none
  have hV := rhex_any zs n ao cap _ hn (by omega) (hc.below G0)
  have hsz : (⟨(Box.hex zs).toArray⟩ : ByteArray).size ≤ 2000 := by simp only [ByteArray.size, List.size_toArray]; rw [Box.hex_length, hn.out]; omega
  obtain ⟨H, HH⟩ : ∃ H : ByteArray, Hid ((⟨(Box.hex zs).toArray⟩ : ByteArray) = H) := ⟨_, rfl⟩
  rw [HH.out] at hV hsz
  go_enter Tryz.func107, Tryz.ntmps107
  go_wp2_with fail
  refine hV.mono ?_
  rintro e w1 ⟨rfl, m, rfl⟩
  clear hV
  go_wp2
  go_ret2
  refine ⟨⟨fun t h => ?_, fun h => by rw [HD.out] at h; simp at h⟩, gb_drewN G0 m⟩
  rw [HD.out] at h
  simp only [Option.some.injEq] at h
  subst h
  rw [← HH.out]
  rfl

set_option maxHeartbeats 1000000 in
theorem show_other (d : Nat) (deep : Int) (tag : UInt8) (zs : List UInt8) (w : World) (h2 : tag.toNat ≠ 2) (h4 : tag.toNat ≠ 4) (h48 : tag.toNat ≠ 48) (ao : Option Addr) (n cap : Nat) :
    Calls Tryz.prog 107 #[.agg #[.int .u8 (tag.toNat : Int), .slice ao n cap], .int .i64 deep] w fun e w' => ShowSaid d tag zs e ∧ w.grownBy w' none := by
  have h2' : ((tag.toNat : Int) == 2) = false := by rw [beq_eq_false_iff_ne]; omega
  have h4' : ((tag.toNat : Int) == 4) = false := by rw [beq_eq_false_iff_ne]; omega
  have h48' : ((tag.toNat : Int) == 48) = false := by rw [beq_eq_false_iff_ne]; omega
  have HD : Hid (Box.pshow d tag zs = none) := by show _ = _; rw [Box.pshow_leaf d tag zs h48, Box.leaf, if_neg h2, if_neg h4]
  clear h2 h4 h48
  go_enter Tryz.func107, Tryz.ntmps107
  go_wp2
  go_ret2
  exact ⟨showSaid_no HD.out (by simp [ByteArray.size]), World.grownBy_alloc w _ none⟩
end Go.Proofs.YtbanfbpfapjfcaaGreatDoor
