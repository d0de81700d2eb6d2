/-
  Contracts of boxes.Show and of warden.Show. Conditions: in each statement.
-/
import Derived.Test.YtbanfbpfapjfcaaGreatDoorGBoxG
namespace Go.Proofs.YtbanfbpfapjfcaaGreatDoor
open Go.RowKit
set_option maxRecDepth 100000

abbrev TabHere (w : World) : Prop := Lib.TabIs Tryz.prog w tabName .u64 Lib.pow10Tab

set_option maxHeartbeats 1000000 in
theorem bShow_any (zs : List UInt8) (n : Nat) (ao : Option Addr) (cap : Nat) (w : World) (hn : Hid (zs.length = n)) (hl : n ≤ 100000) (hcap : n ≤ cap) (hcm : cap ≤ 9223372036854775807) (hat : At w ao zs) (htab : TabHere w) :
    Calls Tryz.prog 89 #[.slice ao n cap] w fun e w' =>
      (∀ t, Box.whole zs = some t → e = .returned (.tuple #[.string ⟨t.toArray⟩, .bool true])) ∧
      (Box.whole zs = none → e = .returned (.tuple #[.string ⟨#[]⟩, .bool false])) ∧ Below w.heap.size w w' := by
  have hsh := show_any 8 (by omega) w.heap.size (.slice none 0 0) 0 [] zs n ao cap w (World.ownsRow_nil _ _ _ _) (Nat.le_refl _) hn hl hcap hcm hat.low (by omega) (Lib.tabBelow_of_tabIs htab)
  have HW : Hid (Box.whole zs = match Box.show1 8 zs with | some (t, []) => some t | _ => none) := rfl
  cases hs : Box.show1 8 zs with
  | none =>
    rw [hs] at HW hsh
    clear hs
    go_enter Tryz.func89, Tryz.ntmps89
    go_wp2_with fail
    refine hsh.mono ?_
    rintro e w' ⟨_, k2, hb⟩
    obtain ⟨o, v, rfl⟩ := k2 trivial
    clear k2 hsh
    go_wp2
    go_ret2
    exact ⟨fun t h => by rw [HW.out] at h; simp at h, fun _ => rfl, hb⟩
  | some tr =>
    obtain ⟨t, r⟩ := tr
    rw [hs] at HW hsh
    clear hs
    by_cases hr : r.length = 0
    · have hr' : r = [] := List.eq_nil_of_length_eq_zero hr
      subst hr'
      go_enter Tryz.func89, Tryz.ntmps89
      go_wp2_with fail
      refine hsh.mono ?_
      rintro e w' ⟨k1, _, hb⟩
      obtain ⟨o, a2, c2, rfl, hown, _, _, _⟩ := k1 t [] rfl
      clear k1 hsh hr
      rw [List.nil_append, Nat.zero_add] at hown
      obtain ⟨a3, c3, rfl, _, _, _, hat3⟩ := own_at2 hown
      have hcv := run_string_of (P := Tryz.prog) w' 32 9 5 Tryz.underlying32 Tryz.underlying5 Tryz.underlying9 a3 c3 t hat3
      simp only [List.length_nil]
      go_wp2
      go_ret2
      refine ⟨fun t' h => ?_, (fun h => by rw [HW.out] at h; simp at h), hb⟩
      rw [HW.out] at h
      simp only [Option.some.injEq] at h
      subst h
      rfl
    · have hr2 : (0 : Int) < (r.length : Int) := by omega
      have HN : Hid (Box.whole zs = none) := by
        show _ = _
        rw [HW.out]
        cases r with
        | nil => simp at hr
        | cons a r => rfl
      go_enter Tryz.func89, Tryz.ntmps89
      go_wp2_with fail
      refine hsh.mono ?_
      rintro e w' ⟨k1, _, hb⟩
      obtain ⟨o, a2, c2, rfl, _, _, _, _⟩ := k1 t r rfl
      clear k1 hsh hr
      go_wp2
      go_ret2
      exact ⟨fun t h => by rw [HN.out] at h; simp at h, fun _ => rfl, hb⟩

/-- What a box is told as. -/
def shown (l : List UInt8) : Option (List UInt8) := if l.length ≤ 300 then Box.whole l else none
/-- The two results of Show. -/
def showRes (l : List UInt8) : Value :=
  match shown l with
  | some t => .tuple #[.string ⟨t.toArray⟩, .int .i64 0]
  | none => .tuple #[.string ⟨#[]⟩, .int .i64 2]

set_option maxHeartbeats 1000000 in
theorem wshow_any (zs : List UInt8) (n : Nat) (ao : Option Addr) (cap : Nat) (w : World) (hn : Hid (zs.length = n)) (hcap : n ≤ cap) (hcm : cap ≤ 9223372036854775807) (hat : At w ao zs) (htab : TabHere w) :
    Calls Tryz.prog 59 #[.slice ao n cap] w fun e w' => e = .returned (showRes zs) ∧ Below w.heap.size w w' := by
  by_cases h : n ≤ 300
  · have h' : ¬ ((300 : Int) < (n : Int)) := by omega
    have hsh := bShow_any zs n ao cap w hn (by omega) hcap hcm hat htab
    have HS : Hid (showRes zs = match Box.whole zs with | some t => .tuple #[.string ⟨t.toArray⟩, .int .i64 0] | none => .tuple #[.string ⟨#[]⟩, .int .i64 2]) := by
      show _ = _
      rw [showRes, shown, if_pos (by rw [hn.out]; exact h)]
    cases hs : Box.whole zs with
    | none =>
      rw [hs] at HS hsh
      clear hs
      go_enter Tryz.func59, Tryz.ntmps59
      go_wp2_with fail
      refine hsh.mono ?_
      rintro e w' ⟨_, k2, hb⟩
      obtain rfl := k2 trivial
      clear k2 hsh
      go_wp2
      go_ret2
      exact ⟨by rw [HS.out]; rfl, hb⟩
    | some t =>
      rw [hs] at HS hsh
      clear hs
      go_enter Tryz.func59, Tryz.ntmps59
      go_wp2_with fail
      refine hsh.mono ?_
      rintro e w' ⟨k1, _, hb⟩
      obtain rfl := k1 t rfl
      clear k1 hsh
      go_wp2
      go_ret2
      exact ⟨by rw [HS.out]; rfl, hb⟩
  · have h' : ((300 : Int) < (n : Int)) := by omega
    have HS : Hid (showRes zs = .tuple #[.string ⟨#[]⟩, .int .i64 2]) := by
      show _ = _
      rw [showRes, shown, if_neg (by rw [hn.out]; exact h)]
    go_enter Tryz.func59, Tryz.ntmps59
    go_wp2
    go_ret2
    exact ⟨by rw [HS.out]; rfl, Below.refl _ _⟩
end Go.Proofs.YtbanfbpfapjfcaaGreatDoor
