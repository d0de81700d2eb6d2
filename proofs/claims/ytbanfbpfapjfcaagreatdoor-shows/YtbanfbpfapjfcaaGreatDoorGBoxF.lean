/-
  Contracts of boxes.showList and boxes.show, at every depth. Conditions: in each statement.
-/
import Derived.Test.YtbanfbpfapjfcaaGreatDoorGBoxD
import Derived.Test.YtbanfbpfapjfcaaGreatDoorGBox
namespace Go.Proofs.YtbanfbpfapjfcaaGreatDoor
open Go.RowKit
set_option maxRecDepth 100000

def lenOf : Value → Nat
  | .slice _ n _ => n
  | _ => 0

/-- What show does at a depth. -/
def ShowAt (d : Nat) : Prop :=
  ∀ (B : Nat) (sv : Value) (n0 : Nat) (bs zs : List UInt8) (n : Nat) (ao : Option Addr) (cap : Nat) (w : World), w.ownsRow B 5 1 sv n0 (bs.map U8) → B ≤ w.heap.size → Hid (zs.length = n) → n ≤ 100000 → n ≤ cap → cap ≤ 9223372036854775807 → Low B w ao zs → n0 ≤ 100000000 * (999 - d) → Tab B w →
    Calls Tryz.prog 134 #[sv, .slice ao n cap, .int .i64 (d : Int)] w fun e w' =>
      (∀ t r, Box.show1 d zs = some (t, r) → ∃ o a2 c2, e = .returned (.tuple #[o, .slice a2 r.length c2, .bool true]) ∧ w'.ownsRow B 5 1 o (n0 + t.length) ((bs ++ t).map U8) ∧ (∀ w0, At w0 ao zs → At w0 a2 r) ∧ r.length ≤ c2 ∧ c2 ≤ cap) ∧
      (Box.show1 d zs = none → ∃ o v, e = .returned (.tuple #[o, v, .bool false])) ∧ Below B w w'

set_option maxHeartbeats 1000000 in
theorem showList_zero (sv : Value) (v : Value) (w : World) :
    Calls Tryz.prog 203 #[sv, v, .int .i64 0] w fun e w' => e = .returned (.tuple #[.slice none 0 0, .bool false]) ∧ w = w' := by
  go_enter Tryz.func203, Tryz.ntmps203
  go_wp2
  go_ret2
  exact ⟨rfl, rfl⟩

set_option maxHeartbeats 1000000 in
theorem showList_succ (d : Nat) (hd : d ≤ 8) (ih : ShowAt d) (B : Nat) (sv : Value) (n0 : Nat) (bs zs : List UInt8) (n : Nat) (ao : Option Addr) (cap : Nat) (w : World) (hown : w.ownsRow B 5 1 sv n0 (bs.map U8)) (hB : B ≤ w.heap.size) (hn : Hid (zs.length = n)) (hl : n ≤ 100000) (hcap : n ≤ cap) (hcm : cap ≤ 9223372036854775807) (hlow : Low B w ao zs) (hb : n0 ≤ 100000000 * (998 - d)) (htab : Tab B w) :
    Calls Tryz.prog 203 #[sv, .slice ao n cap, .int .i64 ((d : Int) + 1)] w fun e w' =>
      (∀ ts, Box.allL (Box.show1 d) zs = some ts → ∃ o, e = .returned (.tuple #[o, .bool true]) ∧ w'.ownsRow B 5 1 o (n0 + ((Box.commas ts).length + 2)) ((bs ++ (123 :: Box.commas ts ++ [125])).map U8)) ∧
      (Box.allL (Box.show1 d) zs = none → ∃ o, e = .returned (.tuple #[o, .bool false])) ∧ Below B w w' := by
  obtain ⟨i0, hif, hz0, hz1, hz2⟩ := info_parts Tryz.info5
  have hdn : (((d : Int) + 1) == 0) = false := by rw [beq_eq_false_iff_ne]; omega
  go_enter Tryz.func203, Tryz.ntmps203
  go_wp2_with (at_builtin; refine wpList_append_at _ rfl _ _ 32 rfl B 5 i0 Tryz.underlying32 hif hz0 hz1 hz2 _ _ _ rfl (hown.alloc _) (some ⟨w.heap.size, 0, none⟩) 1 1 [123] rfl rfl ?c1 ?c2 ?c3 ?c4 ?_)
  case c1 => intro h; cases h
  case c2 => exact bytes_new w _ _ _ rfl
  case c3 => omega
  case c4 => simp; omega
  intro v1 w1 hown1 hg1 _
  have B1 : Below B w w1 := bel_row (bel_alloc (Below.refl _ _) hB _) hg1 (fun i hi => (hown.lt i hi).1) (by simp; omega)
  clear hown hg1
  go_wp2
  go_loopw [0, 1, 7, 8] (fun o i _ f wr => ∃ (rem : List UInt8) (done : List (List UInt8)) (a' : Option Addr) (c' : Nat), i = .slice a' rem.length c' ∧ rem.length ≤ n ∧ rem.length ≤ c' ∧ c' ≤ cap ∧ (∀ w0, At w0 ao zs → At w0 a' rem) ∧ f = .bool (decide (done = [])) ∧ Hid (Box.allL (Box.show1 d) zs = (Box.allL (Box.show1 d) rem).map (done ++ ·)) ∧ (Box.commas done).length + 22 * rem.length ≤ 22 * n ∧ wr.ownsRow B 5 1 o (n0 + 1 + (Box.commas done).length) ((bs ++ [123] ++ Box.commas done).map U8) ∧ Below B w wr) (fun _ i _ _ _ => lenOf i)
  case atStart => exact ⟨zs, [], ao, cap, by rw [hn.out], by rw [hn.out]; omega, by rw [hn.out]; exact hcap, Nat.le_refl _, fun _ h => h, rfl, by show _ = _; cases Box.allL (Box.show1 d) zs <;> rfl, by simp [Box.commas, hn.out], by simpa [Box.commas] using hown1, B1⟩
  case round =>
    obtain ⟨rem, done, a', c', rfl, hrn, hrc, hcc, hpart, rfl, HA, hlen, hown, hbl⟩ := hrel
    have hBr := Nat.le_trans hB hbl.size
    by_cases h0 : 0 < rem.length
    · have hgt : ((0 : Int) < (rem.length : Int)) := by omega
      by_cases hdone : done = []
      · subst hdone
        go_wp2_with fail
        refine (ih B u0 (n0 + 1 + (Box.commas []).length) (bs ++ [123] ++ Box.commas []) rem rem.length a' c' _ hown hBr (hid rfl) (by omega) hrc (by omega) ((hlow.part hpart).on hbl) (by simp [Box.commas]; omega) (htab.on hbl)).mono ?_
        rintro e w3 ⟨k1, k2, B3⟩
        replace B3 := hbl.trans B3
        cases hsh : Box.show1 d rem with
        | none =>
          obtain ⟨o, v, rfl⟩ := k2 hsh
          have HN : Hid (Box.allL (Box.show1 d) zs = none) := by show _ = _; rw [HA.out, Box.allL_none h0 hsh]; rfl
          clear k1 k2 hsh
          go_wp2
          go_ret2
          exact ⟨fun ts h => by rw [HN.out] at h; simp at h, fun _ => ⟨_, rfl⟩, B3⟩
        | some tr =>
          obtain ⟨t, r⟩ := tr
          obtain ⟨o, a2, c2, rfl, hown3, hp3, hc3, hc4⟩ := k1 t r hsh
          have hshr := Box.show1_shrinks d rem t r hsh
          have htl := Box.show1_told d rem t r hsh
          have HA3 : Hid (Box.allL (Box.show1 d) zs = (Box.allL (Box.show1 d) r).map ([t] ++ ·)) := by
            show _ = _
            rw [HA.out, Box.allL_some (Box.show1_shrinks d) hsh, Option.map_map]
            first | rfl | (congr 1; funext x; simp)
          have HC3 : Hid (Box.commas [t] = t) := by
            show _ = _
            rfl
          clear k1 k2 hsh
          go_wp2
          go_roundw
          case rel =>
            refine ⟨r, [t], a2, c2, rfl, by omega, hc3, by omega, fun w0 h => hp3 w0 (hpart w0 h), by simp, HA3, ?_, ?_, B3⟩
            · rw [HC3.out]; simp [Box.commas] at hlen; omega
            · rw [HC3.out]
              simpa [Box.commas] using hown3
          case measure => simp [lenOf]; omega
      · have hdf : decide (done = []) = false := by simpa using hdone
        rw [hdf]
        go_wp2_with (at_builtin; refine wpList_append_at _ rfl _ _ 32 rfl B 5 i0 Tryz.underlying32 hif hz0 hz1 hz2 _ _ _ rfl (hown.alloc _) (some ⟨wr.heap.size, 0, none⟩) 1 1 [44] rfl rfl ?c1 ?c2 ?c3 ?c4 ?_)
        case c1 => intro h; cases h
        case c2 => exact bytes_new wr _ _ _ rfl
        case c3 => omega
        case c4 => simp; omega
        intro v2 w2 hown2 hg2 _
        have B2 : Below B w w2 := bel_row (bel_alloc hbl hBr _) hg2 (fun i hi => (hown.lt i hi).1) (by simp; omega)
        have hB2 := Nat.le_trans hB B2.size
        clear hown hg2 hdf
        go_wp2_with fail
        refine (ih B v2 (n0 + 1 + (Box.commas done).length + 1) (bs ++ [123] ++ Box.commas done ++ [44]) rem rem.length a' c' _ (by simpa using hown2) hB2 (hid rfl) (by omega) hrc (by omega) ((hlow.part hpart).on B2) (by omega) (htab.on B2)).mono ?_
        rintro e w3 ⟨k1, k2, B3⟩
        replace B3 := B2.trans B3
        cases hsh : Box.show1 d rem with
        | none =>
          obtain ⟨o, v, rfl⟩ := k2 hsh
          have HN : Hid (Box.allL (Box.show1 d) zs = none) := by show _ = _; rw [HA.out, Box.allL_none h0 hsh]; rfl
          clear k1 k2 hsh
          go_wp2
          go_ret2
          exact ⟨fun ts h => by rw [HN.out] at h; simp at h, fun _ => ⟨_, rfl⟩, B3⟩
        | some tr =>
          obtain ⟨t, r⟩ := tr
          obtain ⟨o, a2, c2, rfl, hown3, hp3, hc3, hc4⟩ := k1 t r hsh
          have hshr := Box.show1_shrinks d rem t r hsh
          have htl := Box.show1_told d rem t r hsh
          have HA3 : Hid (Box.allL (Box.show1 d) zs = (Box.allL (Box.show1 d) r).map ((done ++ [t]) ++ ·)) := by
            show _ = _
            rw [HA.out, Box.allL_some (Box.show1_shrinks d) hsh, Option.map_map]
            first | rfl | (congr 1; funext x; simp)
          have HC3 : Hid (Box.commas (done ++ [t]) = Box.commas done ++ 44 :: t) := by
            show _ = _
            rw [Box.commas_snoc, if_neg hdone]
          clear k1 k2 hsh
          go_wp2
          go_roundw
          case rel =>
            refine ⟨r, done ++ [t], a2, c2, rfl, by omega, hc3, by omega, fun w0 h => hp3 w0 (hpart w0 h), by simp, HA3, ?_, ?_, B3⟩
            · rw [HC3.out]; simp; omega
            · rw [HC3.out]
              rw [List.length_append, List.length_cons, show n0 + 1 + ((Box.commas done).length + (t.length + 1)) = n0 + 1 + (Box.commas done).length + 1 + t.length from by omega]; simpa using hown3
          case measure => simp [lenOf]; omega
    · have hr0 : rem = [] := List.eq_nil_of_length_eq_zero (by omega)
      subst hr0
      have HE : Hid (Box.allL (Box.show1 d) zs = some done) := by show _ = _; rw [HA.out, Box.allL_nil]; simp
      simp only [List.length_nil] at *
      go_wp2_with (at_builtin; refine wpList_append_at _ rfl _ _ 32 rfl B 5 i0 Tryz.underlying32 hif hz0 hz1 hz2 _ _ _ rfl (hown.alloc _) (some ⟨wr.heap.size, 0, none⟩) 1 1 [125] rfl rfl ?c1 ?c2 ?c3 ?c4 ?_)
      case c1 => intro h; cases h
      case c2 => exact bytes_new wr _ _ _ rfl
      case c3 => omega
      case c4 => simp; omega
      intro v2 w2 hown2 hg2 _
      have B2 : Below B w w2 := bel_row (bel_alloc hbl hBr _) hg2 (fun i hi => (hown.lt i hi).1) (by simp; omega)
      clear hown hg2
      go_wp2
      go_ret2
      refine ⟨fun ts h => ?_, (fun h => by rw [HE.out] at h; simp at h), B2⟩
      rw [HE.out] at h
      simp only [Option.some.injEq] at h
      subst h
      refine ⟨_, rfl, ?_⟩
      rw [show n0 + ((Box.commas done).length + 2) = n0 + 1 + (Box.commas done).length + 1 from by omega]
      simpa using hown2
end Go.Proofs.YtbanfbpfapjfcaaGreatDoor
