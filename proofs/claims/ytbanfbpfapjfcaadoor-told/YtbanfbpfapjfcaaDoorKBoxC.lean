/-
  Contract of wardenkeep's list: a list's box of boxes. Conditions: in the statement.
-/
import Derived.Test.YtbanfbpfapjfcaaDoorKBoxB
namespace Go.Proofs.YtbanfbpfapjfcaaDoor
open Go.RowKit
set_option maxRecDepth 100000

/-- A slice of bytes: where it lies, its room, its bytes. -/
abbrev KIt := Option Addr × Nat × List UInt8
/-- Slices of bytes, one behind the other, in a row. -/
def KItems (w : World) (ao : Option Addr) (l : List KIt) : Prop :=
  ∀ j, (hj : j < l.length) → ∃ b, ao = some ⟨b, 0, none⟩ ∧ w.cell? ⟨b, j, none⟩ = some (.slice (l[j]).1 (l[j]).2.2.length (l[j]).2.1) ∧ At w (l[j]).1 (l[j]).2.2 ∧ ((l[j]).1 = none → (l[j]).2.1 = 0)
def kcat (l : List KIt) : List UInt8 := (l.map fun x => x.2.2).flatten
theorem kcat_snoc (l : List KIt) (k : Nat) (h : k < l.length) : kcat (l.take (k + 1)) = kcat (l.take k) ++ (l[k]).2.2 := by
  unfold kcat
  rw [List.take_succ_eq_append_getElem h, List.map_append, List.flatten_append]
  simp only [List.map_cons, List.map_nil, List.flatten_cons, List.flatten_nil, List.append_nil]
theorem kcat_le (l : List KIt) (k : Nat) : (kcat (l.take k)).length ≤ (kcat l).length := by
  conv => rhs; rw [← List.take_append_drop k l]
  unfold kcat
  rw [List.map_append, List.flatten_append, List.length_append]
  omega
theorem KItems.grown {w w' : World} {ao : Option Addr} {l : List KIt} (h : KItems w ao l) (k : w.grownBy w' none) : KItems w' ao l := by
  intro j hj
  obtain ⟨b, h0, h1, h2, h3⟩ := h j hj
  exact ⟨b, h0, k.cell h1 (by simp), h2.below k, h3⟩

set_option maxHeartbeats 1000000 in
theorem klist_any (ao : Option Addr) (cap m : Nat) (l : List KIt) (w : World) (hm : Hid (l.length = m)) (hml : m ≤ 1000) (hl : (kcat l).length ≤ 255) (hi : KItems w ao l) :
    Calls Tryd.prog 5 #[.slice ao m cap] w fun e w' => ∃ o, e = .returned o ∧ w'.ownsRow w.heap.size 5 1 o (Box.box 48 (kcat l)).length ((Box.box 48 (kcat l)).map U8) ∧ w.grownBy w' none := by
  obtain ⟨i0, hif, hz0, hz1, hz2⟩ := info_parts Tryd.info5
  go_enter Tryd.func5, Tryd.ntmps5
  go_wp2
  go_loopw [3, 4] (fun o i wr => ∃ k : Nat, k ≤ m ∧ i = .int .i64 k ∧ wr.ownsRow w.heap.size 5 1 o (kcat (l.take k)).length ((kcat (l.take k)).map U8) ∧ w.grownBy wr none) (fun _ i _ => m - (intOf i).toNat)
  case atStart => exact ⟨0, by omega, rfl, World.ownsRow_nil _ _ _ _, World.grownBy.refl _ _⟩
  case round =>
    obtain ⟨k, hk, rfl, hown, hgr⟩ := hrel
    have hsz := hgr.size
    by_cases hlt : k < m
    · have hlt' : k < l.length := by rw [hm.out]; exact hlt
      obtain ⟨b, rfl, hc, hat, hnc⟩ := (hi.grown hgr) k hlt'
      have hle := kcat_le l (k + 1)
      rw [kcat_snoc l k hlt', List.length_append] at hle
      have hbd : (kcat (l.take k)).length + ((l[k]).2.2).length ≤ 140737488355328 := by omega
      have HN : Hid ((l[k]).1 = none → (l[k]).2.1 = 0) := hnc
      clear hnc hle hi
      go_wp2_with (at_builtin; refine wpList_append_at _ rfl _ _ 22 rfl w.heap.size 5 i0 Tryd.underlying22 hif hz0 hz1 hz2 _ _ _ rfl hown _ _ _ ((l[k]).2.2) rfl rfl HN.out hat hbd hsz ?_)
      intro v' w1 hown' hg1 _
      have R : w1.ownsRow w.heap.size 5 1 v' (kcat (l.take (k + 1))).length ((kcat (l.take (k + 1))).map U8) ∧ w.grownBy w1 none := ⟨by rw [kcat_snoc l k hlt', List.length_append, List.map_append]; exact hown', gb_row hgr hg1 (fun i hi => (hown.lt i hi).1)⟩
      clear hown hown' hg1 hgr hat hbd HN hc
      go_wp2
      go_roundw
      case rel => exact ⟨k + 1, by omega, by go_num, R.1, R.2⟩
      case measure => simp [intOf]; omega
    · have hkm : k = m := by omega
      subst hkm
      clear hi
      have hkI : ¬ (k : Int) < (k : Int) := by omega
      have hown2 := hown
      rw [List.take_of_length_le (by rw [hm.out]; omega)] at hown2
      obtain ⟨a3, c3, rfl, _, _, hnc, hat3⟩ := own_at2 hown2
      have HE : Hid (kcat (l.take k) = kcat l) := by show _ = _; rw [List.take_of_length_le (by rw [hm.out]; omega)]
      clear hown
      have hB := kbox_any 48 (kcat l) (kcat l).length a3 c3 wr (hid rfl) hl hnc hat3
      go_wp2_with fail
      refine hB.mono ?_
      rintro e w2 ⟨o, rfl, hown3, hg2⟩
      have G2 := gb_trans hgr hg2
      have R2 := own_down hown3 hsz
      clear hown3 hg2 hgr hB hown2
      go_wp2
      go_ret
      exact ⟨_, rfl, R2, G2⟩
end Go.Proofs.YtbanfbpfapjfcaaDoor
