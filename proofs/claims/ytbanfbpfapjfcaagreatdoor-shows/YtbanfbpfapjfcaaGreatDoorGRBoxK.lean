/-
  Contract of the document's Show: the same two results as the program's. Conditions: in the statement.
-/
import Derived.Test.YtbanfbpfapjfcaaGreatDoorGRBoxJ
namespace Go.Proofs.YtbanfbpfapjfcaaGreatDoor
open Go.RowKit
set_option maxRecDepth 100000

theorem showRes_none {l : List UInt8} (h : shown l = none) : showRes l = .tuple #[.string ⟨#[]⟩, .int .i64 2] := by rw [showRes, h]
theorem showRes_some {l t : List UInt8} (h : shown l = some t) : showRes l = .tuple #[.string ⟨t.toArray⟩, .int .i64 0] := by rw [showRes, h]
theorem shown_cut {l : List UInt8} (h : Box.cut l = none) : shown l = none := by
  rw [shown, Box.whole_eq, h]
  split <;> rfl
theorem shown_rest {l i : List UInt8} {tag a : UInt8} {r : List UInt8} (h : Box.cut l = some (tag, i, a :: r)) : shown l = none := by
  rw [shown, Box.whole_eq, h]
  split <;> rfl
theorem shown_long {l : List UInt8} (h : 300 < l.length) : shown l = none := by rw [shown, if_neg (by omega)]
theorem shown_one {l i : List UInt8} {tag : UInt8} (h : Box.cut l = some (tag, i, [])) (hl : l.length ≤ 300) : shown l = Box.pshow 8 tag i := by
  rw [shown, if_pos hl, Box.whole_eq, h]

set_option maxHeartbeats 2000000 in
theorem rShow_any (zs : List UInt8) (n : Nat) (ao : Option Addr) (cap : Nat) (w : World) (hn : Hid (zs.length = n)) (hl : n ≤ 140737488355328) (hcap : n ≤ cap) (hcm : cap ≤ 9223372036854775807) (hc : At w ao zs) (htab : TabHere w) :
    Calls Tryz.prog 74 #[.slice ao n cap] w fun e w' => e = .returned (showRes zs) ∧ w.grownBy w' none := by
  by_cases h2 : n < 2
  · have HS : Hid (showRes zs = .tuple #[.string ⟨#[]⟩, .int .i64 2]) := showRes_none (shown_cut (cut_short (by rw [hn.out]; exact h2)))
    go_enter Tryz.func74, Tryz.ntmps74
    go_wp2_with fail
    refine (first_short n ao cap _ h2).mono ?_
    rintro e w1 ⟨rfl, hg1⟩
    have G1 := gb_alloc hg1 (.cells zeroP 217)
    clear hg1
    go_wp2
    go_ret2
    exact ⟨by rw [HS.out]; rfl, G1⟩
  · obtain ⟨b, off, rfl, _⟩ := hc.addr (by rw [hn.out]; omega)
    have hF := first_any zs n b off cap w hn (by omega) hl hcap hcm hc
    cases hcu : Box.cut zs with
    | none =>
      have HS : Hid (showRes zs = .tuple #[.string ⟨#[]⟩, .int .i64 2]) := showRes_none (shown_cut hcu)
      rw [hcu] at hF
      clear hcu
      go_enter Tryz.func74, Tryz.ntmps74
      go_wp2_with fail
      refine hF.mono ?_
      rintro e w1 ⟨_, k2, hg1⟩
      obtain ⟨x, xa, xk, xc, rfl⟩ := k2 trivial
      have G1 := gb_alloc hg1 (.cells #[.int .u8 x, .slice xa xk xc] 217)
      clear hg1 hF k2
      go_wp2
      go_ret2
      exact ⟨by rw [HS.out]; rfl, G1⟩
    | some tr =>
      obtain ⟨tag, i, r⟩ := tr
      have hcl := Box.cut_length hcu
      rw [hn.out] at hcl
      cases r with
      | cons ra r =>
        have HS : Hid (showRes zs = .tuple #[.string ⟨#[]⟩, .int .i64 2]) := showRes_none (shown_rest hcu)
        obtain ⟨rl, hrl⟩ : ∃ rl, (ra :: r).length = rl := ⟨_, rfl⟩
        have hr : (0 : Int) < (rl : Int) := by rw [List.length_cons] at hrl; omega
        have HRL := hid hrl
        rw [hcu] at hF
        clear hcu hrl
        obtain ⟨rr, hrr⟩ : ∃ rr, rr = ra :: r := ⟨_, rfl⟩
        rw [← hrr] at hF hcl HRL
        clear hrr
        go_enter Tryz.func74, Tryz.ntmps74
        go_wp2_with fail
        refine hF.mono ?_
        rintro e w1 ⟨k1, _, hg1⟩
        obtain ⟨a1, c1, a2, c2, rfl, _, _, _, _, _, _⟩ := k1 tag i rr rfl
        have G1 := gb_alloc hg1 (.cells #[.int .u8 (tag.toNat : Int), .slice a1 i.length c1] 217)
        clear hg1 hF k1
        rw [HRL.out]
        go_wp2
        go_ret2
        exact ⟨by rw [HS.out]; rfl, G1⟩
      | nil =>
        by_cases h300 : 300 < n
        · have h300' : (300 : Int) < (n : Int) := by omega
          have HS : Hid (showRes zs = .tuple #[.string ⟨#[]⟩, .int .i64 2]) := showRes_none (shown_long (by rw [hn.out]; exact h300))
          rw [hcu] at hF
          clear hcu
          go_enter Tryz.func74, Tryz.ntmps74
          go_wp2_with fail
          refine hF.mono ?_
          rintro e w1 ⟨k1, _, hg1⟩
          obtain ⟨a1, c1, a2, c2, rfl, _, _, _, _, _, _⟩ := k1 tag i [] rfl
          have G1 := gb_alloc hg1 (.cells #[.int .u8 (tag.toNat : Int), .slice a1 i.length c1] 217)
          clear hg1 hF k1
          simp only [List.length_nil]
          go_wp2
          go_ret2
          exact ⟨by rw [HS.out]; rfl, G1⟩
        · have h300' : ¬ (300 : Int) < (n : Int) := by omega
          have HS : Hid (shown zs = Box.pshow (9 - 1) tag i) := shown_one hcu (by rw [hn.out]; omega)
          rw [hcu] at hF
          clear hcu
          go_enter Tryz.func74, Tryz.ntmps74
          go_wp2_with fail
          refine hF.mono ?_
          rintro e w1 ⟨k1, _, hg1⟩
          obtain ⟨a1, c1, a2, c2, rfl, hx1, hx2, hx3, _, _, _⟩ := k1 tag i [] rfl
          have G1 := gb_alloc hg1 (.cells #[.int .u8 (tag.toNat : Int), .slice a1 i.length c1] 217)
          have hSh := show_all (i.length + 1) 1 tag i i.length a1 c1 _ (by omega) (hid rfl) hx2 (by omega) (by omega) (by simp at hcl; omega) (hx1 _ (hc.below G1)) (tab_grown htab G1)
          clear hg1 hF k1 hx1
          simp only [List.length_nil]
          go_wp2_with fail
          refine hSh.mono ?_
          rintro e w2 ⟨hs, hg2⟩
          have G2 := gb_trans G1 hg2
          clear hSh hg2
          cases hps : Box.pshow (9 - 1) tag i with
          | none =>
            obtain ⟨s, _, rfl⟩ := hs.2 hps
            have HR : Hid (showRes zs = .tuple #[.string ⟨#[]⟩, .int .i64 2]) := showRes_none (by rw [HS.out, hps])
            clear hs hps
            go_wp2
            go_ret2
            exact ⟨by rw [HR.out]; rfl, G2⟩
          | some t =>
            obtain rfl := hs.1 t hps
            have HR : Hid (showRes zs = .tuple #[.string ⟨t.toArray⟩, .int .i64 0]) := showRes_some (by rw [HS.out, hps])
            clear hs hps
            go_wp2
            go_ret2
            exact ⟨by rw [HR.out]; rfl, G2⟩
end Go.Proofs.YtbanfbpfapjfcaaGreatDoor
