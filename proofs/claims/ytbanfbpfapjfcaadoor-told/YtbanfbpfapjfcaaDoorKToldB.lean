/-
  Contracts of wardenkeep's shown, is and same. Conditions: in each statement.
-/
import Derived.Test.YtbanfbpfapjfcaaDoorKToldA
namespace Go.Proofs.YtbanfbpfapjfcaaDoor
open Go.RowKit
set_option maxRecDepth 100000

theorem gb_of_below {w w' : World} (h : Below w.heap.size w w') : w.grownBy w' none := ⟨h.os, h.tape, h.output, h.size, fun i hi _ => h.block i hi⟩
theorem showRes_some {l t : List UInt8} (h : shown l = some t) : showRes l = .tuple #[.string ⟨t.toArray⟩, .int .i64 0] := by rw [showRes, h]
theorem showRes_none {l : List UInt8} (h : shown l = none) : showRes l = .tuple #[.string ⟨#[]⟩, .int .i64 2] := by rw [showRes, h]
theorem shown_cut {l : List UInt8} (h : Box.cut l = none) : shown l = none := by
  rw [shown, Box.whole_eq, h]
  split <;> rfl
theorem shown_rest {l i : List UInt8} {tag a : UInt8} {r : List UInt8} (h : Box.cut l = some (tag, i, a :: r)) : shown l = none := by
  rw [shown, Box.whole_eq, h]
  split <;> rfl
theorem shown_one {l i : List UInt8} {tag : UInt8} (h : Box.cut l = some (tag, i, [])) (hl : l.length ≤ 300) : shown l = Box.pshow 8 tag i := by
  rw [shown, if_pos hl, Box.whole_eq, h]

set_option maxHeartbeats 1000000 in
theorem kshown_any (tag : UInt8) (i t zs : List UInt8) (n : Nat) (ao : Option Addr) (cap : Nat) (w : World) (hn : Hid (zs.length = n)) (h300 : n ≤ 300) (hcap : n ≤ cap) (hcm : cap ≤ 9223372036854775807) (hat : At w ao zs) (hcu : Hid (Box.cut zs = some (tag, i, []))) (hp : Hid (Box.pshow 8 tag i = some t)) (hi : i.length ≤ 300) (htab : TabHere w) :
    Calls Tryd.prog 7 #[.slice ao n cap] w fun e w' => ∃ (kk vv : Int) (a2 : Option Addr) (n2 c2 : Nat) (a3 : Option Addr) (n3 c3 : Nat), e = .returned (.agg #[.int .u8 kk, .int .i64 vv, .slice a2 n2 c2, .slice a3 n3 c3]) ∧
      PartIs 8 w' (fun b => w.heap.size ≤ b ∧ b < w'.heap.size) tag i (partCells kk vv a2 n2 c2 a3 n3 c3) ∧ w.grownBy w' none := by
  have hlt := Box.pshow_length 8 tag i t hp.out
  have hres : showRes zs = .tuple #[.string ⟨t.toArray⟩, .int .i64 0] := showRes_some (by rw [shown_one hcu.out (by rw [hn.out]; exact h300), hp.out])
  have G0 : w.grownBy (w.alloc (.cells zeroPart 30)) none := World.grownBy_alloc w _ none
  have hB0 := Blk.new w zeroPart 30
  have hW := wshow_any zs n ao cap (w.alloc (.cells zeroPart 30)) hn hcap hcm (hat.below G0) (tab_grown htab G0)
  rw [hres] at hW
  go_enter Tryd.func7, Tryd.ntmps7
  go_wp2_with fail
  refine hW.mono ?_
  rintro e w1 ⟨rfl, hb1⟩
  have hg1 := gb_of_below hb1
  have hB1 := hB0.grown hg1 (by simp)
  have G1 := gb_trans G0 hg1
  have hRd := read_all 8 tag i t t [] t.length 0 ⟨t.toArray⟩ w1 (hid rfl) (hid rfl) (by omega) hp (hid (by simp)) (hid (.inl rfl)) (tab_grown htab G1)
  have hz : ((0 : Nat) : Int) = 0 := rfl
  rw [hz] at hRd
  clear hW hb1 hg1 hB0
  go_wp2_with fail
  refine hRd.mono ?_
  rintro e w2 ⟨kk, vv, a2, n2, c2, a3, n3, c3, rfl, hkk, hPart, hg2⟩
  have hB2 := (hB1.grown hg2 (by simp)).alloc (.cells #[.int .u8 kk, .int .i64 vv, .slice a2 n2 c2, .slice a3 n3 c3] 30)
  have G2 := gb_alloc (gb_trans G1 hg2) (.cells #[.int .u8 kk, .int .i64 vv, .slice a2 n2 c2, .slice a3 n3 c3] 30)
  have r0 := hB2.cell 0
  have r1 := hB2.cell 1
  have r2 := hB2.cell 2
  have r3 := hB2.cell 3
  have s0 := hB2.frozen 0
  have s1 := hB2.frozen 1
  have s2 := hB2.frozen 2
  have s3 := hB2.frozen 3
  simp only [List.getElem?_toArray, List.getElem?_cons_zero, List.getElem?_cons_succ] at r0 r1 r2 r3
  have hs1 := G1.size
  have hs0 : w.heap.size < w1.heap.size := hB1.lt
  clear hRd hB1
  go_wp2
  (try simp only [Exit.inBlock, Exit.then])
  refine bodyPost_ret (results_cell1 rfl _ _ _ w.heap.size rfl _ (partLoad (blk_set4 hB2 _ _ _ _))) rfl ?_
  refine ⟨kk, vv, a2, n2, c2, a3, n3, c3, rfl, ?_, gb_set4 G2 (Nat.le_refl _)⟩
  refine hPart.keep (fun b hb => ?_) (fun b hb => ⟨by omega, by simp only [World.size_setCell, World.size_alloc]; omega⟩)
  have hne : b ≠ w.heap.size := by omega
  rw [Below.heap_setCell _ _ _ _ hne, Below.heap_setCell _ _ _ _ hne, Below.heap_setCell _ _ _ _ hne, Below.heap_setCell _ _ _ _ hne, Below.heap_alloc _ _ b hb.2]

set_option maxHeartbeats 1000000 in
theorem kis_any (vv : Int) (a2 : Option Addr) (n2 c2 g m c3 : Nat) (K : ByteArray) (w : World) (hK : K.size = m) (hm : m ≤ 100) (hc : ∀ k, k < m → ∃ z : UInt8, w.cell? ⟨g, k * 4, none⟩ = some (.int .u8 (z.toNat : Int)) ∧ ∀ h : k < K.size, K[k]'h = z) :
    Calls Tryd.prog 8 #[.agg #[.int .u8 108, .int .i64 vv, .slice a2 n2 c2, .slice (some ⟨g, 0, none⟩) m c3], .string K] w fun e w' => e = .returned (.bool true) ∧ w.grownBy w' none := by
  have G0 : w.grownBy (w.alloc (.cells #[.int .u8 108, .int .i64 vv, .slice a2 n2 c2, .slice (some ⟨g, 0, none⟩) m c3] 30)) none := World.grownBy_alloc w _ none
  go_enter Tryd.func8, Tryd.ntmps8
  go_wp2
  go_loopw [5] (fun i wr => ∃ k q : Nat, k ≤ m ∧ i = .int .i64 k ∧ wr = (w.alloc (.cells #[.int .u8 108, .int .i64 vv, .slice a2 n2 c2, .slice (some ⟨g, 0, none⟩) m c3] 30)).drewN q) (fun i _ => m - (intOf i).toNat)
  case atStart => exact ⟨0, 0, Nat.zero_le _, rfl, rfl⟩
  case round =>
    obtain ⟨k, q, hk, rfl, rfl⟩ := hrel
    by_cases hlt : k < m
    · obtain ⟨z, hz1, hz2⟩ := hc k hlt
      have hz1' := G0.cell hz1 (by simp)
      have hkI : (k : Int) < (m : Int) := by omega
      have hk0 : (0 : Int) ≤ (k : Int) := by omega
      clear hc hz1
      go_wp2_with fail
      go_quiet (fail)
      go_wp2
      go_roundw
      case rel => exact ⟨k + 1, _, by omega, by go_num, rfl⟩
      case measure => simp [intOf]; omega
    · have hkI : ¬ (k : Int) < (m : Int) := by omega
      clear hc
      go_wp2
      go_ret
      exact ⟨rfl, gb_drewN G0 q⟩

set_option maxHeartbeats 400000 in
theorem ksame_any (zs : List UInt8) (n : Nat) (a b : Option Addr) (ca cb : Nat) (w : World) (hn : Hid (zs.length = n)) (ha : At w a zs) (hb : At w b zs) :
    Calls Tryd.prog 9 #[.slice a n ca, .slice b n cb] w fun e w' => e = .returned (.bool true) ∧ w = w' := by
  obtain rfl := hn.out
  have hcv1 := run_string_of (P := Tryd.prog) w 22 9 5 Tryd.underlying22 Tryd.underlying5 Tryd.underlying9 a ca zs ha
  have hcv2 := run_string_of (P := Tryd.prog) w 22 9 5 Tryd.underlying22 Tryd.underlying5 Tryd.underlying9 b cb zs hb
  clear ha hb
  go_enter Tryd.func9, Tryd.ntmps9
  go_wp2
  go_ret
  exact ⟨rfl, rfl⟩
end Go.Proofs.YtbanfbpfapjfcaaDoor
