/-
  Contract of boxes.show at every depth, of boxes.Show and of warden.Show. Conditions: in each statement.
-/
import Derived.Test.YtbanfbpfapjfcaaGreatDoorGBoxF
namespace Go.Proofs.YtbanfbpfapjfcaaGreatDoor
open Go.RowKit
set_option maxRecDepth 100000

/-- What showList does at a depth. -/
def ListAt (d : Nat) (inner : List UInt8 → Option (List (List UInt8))) : Prop :=
  ∀ (B : Nat) (sv : Value) (n0 : Nat) (bs zs : List UInt8) (n : Nat) (ao : Option Addr) (cap : Nat) (w : World), w.ownsRow B 5 1 sv n0 (bs.map U8) → B ≤ w.heap.size → Hid (zs.length = n) → n ≤ 100000 → n ≤ cap → cap ≤ 9223372036854775807 → Low B w ao zs → n0 ≤ 100000000 * (999 - d) → Tab B w →
    Calls Tryz.prog 203 #[sv, .slice ao n cap, .int .i64 (d : Int)] w fun e w' =>
      (∀ ts, inner zs = some ts → ∃ o, e = .returned (.tuple #[o, .bool true]) ∧ w'.ownsRow B 5 1 o (n0 + ((Box.commas ts).length + 2)) ((bs ++ (123 :: Box.commas ts ++ [125])).map U8)) ∧
      (inner zs = none → ∃ o, e = .returned (.tuple #[o, .bool false])) ∧ Below B w w'

theorem list_zero : ListAt 0 (fun _ => none) := by
  intro B sv n0 bs zs n ao cap w _ _ _ _ _ _ _ _ _
  exact (showList_zero sv (.slice ao n cap) w).mono fun e w' ⟨h1, h2⟩ => ⟨fun ts h => by simp at h, fun _ => ⟨_, h1⟩, h2 ▸ Below.refl _ _⟩

theorem list_succ (d : Nat) (hd : d ≤ 8) (ih : ShowAt d) : ListAt (d + 1) (Box.allL (Box.show1 d)) := by
  intro B sv n0 bs zs n ao cap w h1 h2 h3 h4 h5 h6 h7 h8 h9
  have := showList_succ d hd ih B sv n0 bs zs n ao cap w h1 h2 h3 h4 h5 h6 h7 (by omega) h9
  rw [show (((d + 1 : Nat)) : Int) = (d : Int) + 1 from by omega]
  exact this

theorem tag_lit {tag : UInt8} {k : Nat} (h : tag.toNat = k) : ((tag.toNat : Int) == (k : Int)) = true := by rw [beq_iff_eq]; omega

set_option maxHeartbeats 1000000 in
theorem show_of_list (d : Nat) (hd : d ≤ 8) (inner : List UInt8 → Option (List (List UInt8))) (hl : ListAt d inner)
    (hs : ∀ zs, Box.show1 d zs = match Box.cut zs with | none => none | some (tag, i, r) => (Box.piece inner tag i).map (·, r)) : ShowAt d := by
  intro B sv n0 bs zs n ao cap w hown hB hn hn1 hcap hcm hlow hb htab
  have hcut := cut_any zs n ao cap w hn (by omega) hcap hcm hlow.here
  have HS := hid (hs zs)
  clear hs
  cases hcu : Box.cut zs with
  | none =>
    rw [hcu] at HS hcut
    clear hcu
    go_enter Tryz.func134, Tryz.ntmps134
    go_wp2_with fail
    refine hcut.mono ?_
    rintro e w' ⟨_, k2, m, rfl⟩
    obtain rfl := k2 trivial
    clear k2 hcut
    go_wp2
    go_ret3
    exact ⟨fun t r h => by rw [HS.out] at h; simp at h, fun _ => ⟨_, _, rfl⟩, bel_drewN (Below.refl _ _) _⟩
  | some tir =>
    obtain ⟨tag, i, r⟩ := tir
    have hcl := Box.cut_length hcu
    rw [hn.out] at hcl
    rw [hcu] at HS hcut
    clear hcu
    go_enter Tryz.func134, Tryz.ntmps134
    go_wp2_with fail
    refine hcut.mono ?_
    rintro e w1 ⟨k1, _, m, rfl⟩
    obtain ⟨a1, c1, a2, c2, rfl, hp1, hc1, hcc1, hp2, hc2, hcc2⟩ := k1 tag i r rfl
    clear k1 hcut
    have hB1 : B ≤ (w.drewN m).heap.size := hB
    have hown1 : (w.drewN m).ownsRow B 5 1 sv n0 (bs.map U8) := hown
    have Bm : Below B w (w.drewN m) := bel_drewN (Below.refl _ _) m
    have hlow1 := (hlow.part hp1).on Bm
    have htab1 := htab.on Bm
    by_cases t2 : tag.toNat = 2
    · have q2 : ((tag.toNat : Int) == 2) = true := tag_lit t2
      have HP : Hid (Box.show1 d zs = ((Box.num i).map Lib.itoa).map (·, r)) := by show _ = _; rw [HS.out]; simp [Box.piece, Box.leaf, t2]
      go_wp2_with fail
      refine (showNumber_any B sv n0 bs i i.length a1 c1 _ hown1 hB1 (hid rfl) (by omega) hc1 hlow1.here (by omega) htab1).mono ?_
      rintro e w2 ⟨k1, k2, B2⟩
      cases hnum : Box.num i with
      | none =>
        obtain ⟨o, rfl⟩ := k2 hnum
        rw [hnum] at HP
        clear k1 k2 hnum
        go_wp2
        go_ret3
        exact ⟨fun t r h => by rw [HP.out] at h; simp at h, fun _ => ⟨_, _, rfl⟩, Bm.trans B2⟩
      | some v =>
        obtain ⟨o, rfl, hown2⟩ := k1 v hnum
        rw [hnum] at HP
        clear k1 k2 hnum
        go_wp2
        go_ret3
        refine ⟨fun t r' h => ?_, (fun h => by rw [HP.out] at h; simp at h), Bm.trans B2⟩
        rw [HP.out] at h
        simp only [Option.map_some, Option.some.injEq, Prod.mk.injEq] at h
        obtain ⟨rfl, rfl⟩ := h
        exact ⟨_, a2, c2, rfl, hown2, hp2, hc2, hcc2⟩
    · have q2 : ((tag.toNat : Int) == 2) = false := by rw [beq_eq_false_iff_ne]; omega
      by_cases t4 : tag.toNat = 4
      · have q4 : ((tag.toNat : Int) == 4) = true := tag_lit t4
        have HP : Hid (Box.show1 d zs = some (34 :: Box.hex i ++ [34], r)) := by show _ = _; rw [HS.out]; simp [Box.piece, Box.leaf, t4]
        go_wp2_with fail
        refine (showText_any B sv n0 bs i i.length a1 c1 _ hown1 hB1 (hid rfl) hlow1 (by omega)).mono ?_
        rintro e w2 ⟨o, rfl, hown2, B2⟩
        go_wp2
        go_ret3
        refine ⟨fun t r' h => ?_, (fun h => by rw [HP.out] at h; simp at h), Bm.trans B2⟩
        rw [HP.out] at h
        simp only [Option.some.injEq, Prod.mk.injEq] at h
        obtain ⟨rfl, rfl⟩ := h
        refine ⟨_, a2, c2, rfl, ?_, hp2, hc2, hcc2⟩
        rw [show (34 :: Box.hex i ++ [34] : List UInt8).length = 2 * i.length + 2 from by simp [Box.hex_length]]
        exact hown2
      · have q4 : ((tag.toNat : Int) == 4) = false := by rw [beq_eq_false_iff_ne]; omega
        by_cases t48 : tag.toNat = 48
        · have q48 : ((tag.toNat : Int) == 48) = true := tag_lit t48
          have HP : Hid (Box.show1 d zs = ((inner i).map fun ts => 123 :: Box.commas ts ++ [125]).map (·, r)) := by show _ = _; rw [HS.out]; simp [Box.piece, t48]
          go_wp2_with fail
          refine (hl B sv n0 bs i i.length a1 c1 _ hown1 hB1 (hid rfl) (by omega) hc1 (by omega) hlow1 hb htab1).mono ?_
          rintro e w2 ⟨k1, k2, B2⟩
          cases hin : inner i with
          | none =>
            obtain ⟨o, rfl⟩ := k2 hin
            rw [hin] at HP
            clear k1 k2 hin
            go_wp2
            go_ret3
            exact ⟨fun t r h => by rw [HP.out] at h; simp at h, fun _ => ⟨_, _, rfl⟩, Bm.trans B2⟩
          | some ts =>
            obtain ⟨o, rfl, hown2⟩ := k1 ts hin
            rw [hin] at HP
            clear k1 k2 hin
            go_wp2
            go_ret3
            refine ⟨fun t r' h => ?_, (fun h => by rw [HP.out] at h; simp at h), Bm.trans B2⟩
            rw [HP.out] at h
            simp only [Option.map_some, Option.some.injEq, Prod.mk.injEq] at h
            obtain ⟨rfl, rfl⟩ := h
            refine ⟨_, a2, c2, rfl, ?_, hp2, hc2, hcc2⟩
            rw [show (123 :: Box.commas ts ++ [125] : List UInt8).length = (Box.commas ts).length + 2 from by simp]
            exact hown2
        · have q48 : ((tag.toNat : Int) == 48) = false := by rw [beq_eq_false_iff_ne]; omega
          have HP : Hid (Box.show1 d zs = none) := by show _ = _; rw [HS.out]; simp [Box.piece, Box.leaf, t2, t4, t48]
          go_wp2_with fail
          go_ret3
          exact ⟨fun t r h => by rw [HP.out] at h; simp at h, fun _ => ⟨_, _, rfl⟩, Bm⟩

theorem show_any (d : Nat) (hd : d ≤ 8) : ShowAt d := by
  induction d with
  | zero =>
    refine show_of_list 0 hd _ list_zero fun zs => ?_
    rw [Box.show1]
    cases Box.cut zs with
    | none => rfl
    | some tir =>
      obtain ⟨tag, i, r⟩ := tir
      simp only [Box.piece]
      split
      · rename_i h
        simp [Box.leaf, h]
      · rfl
  | succ d ih => exact show_of_list (d + 1) hd _ (list_succ d (by omega) (ih (by omega))) fun zs => by rw [Box.show1]; rfl
end Go.Proofs.YtbanfbpfapjfcaaGreatDoor
