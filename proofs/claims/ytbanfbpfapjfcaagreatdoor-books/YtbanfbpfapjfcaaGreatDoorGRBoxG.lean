/-
  Contract of the document's value: the number in a number's box, in the words of Box.num. Conditions: in the statement.
-/
import Derived.Test.YtbanfbpfapjfcaaGreatDoorGRBoxF
import Derived.Test.YtbanfbpfapjfcaaGreatDoorGBoxC
namespace Go.Proofs.YtbanfbpfapjfcaaGreatDoor
open Go.RowKit
set_option maxRecDepth 100000

/-- What value answers. -/
def ValSaid (tag : UInt8) (zs : List UInt8) (e : Ending) : Prop :=
  (∀ v, tag.toNat = 2 → Box.num zs = some v → e = .returned (.tuple #[.int .i64 v, .bool true])) ∧
  ((tag.toNat ≠ 2 ∨ Box.num zs = none) → ∃ v : Int, -9223372036854775808 ≤ v ∧ v ≤ 9223372036854775807 ∧ e = .returned (.tuple #[.int .i64 v, .bool false]))

theorem val_not {tag : UInt8} {zs : List UInt8} (h : tag.toNat ≠ 2 ∨ Box.num zs = none) : ValSaid tag zs (.returned (.tuple #[.int .i64 0, .bool false])) :=
  ⟨fun v h1 h2 => by rcases h with h | h; exact absurd h1 h; rw [h] at h2; simp at h2, fun _ => ⟨0, by decide, by decide, rfl⟩⟩

set_option maxHeartbeats 1000000 in
theorem value_tag (tag : UInt8) (ao : Option Addr) (zs : List UInt8) (n : Nat) (cap : Nat) (w : World) (h : tag.toNat ≠ 2) :
    Calls Tryz.prog 121 #[.agg #[.int .u8 (tag.toNat : Int), .slice ao n cap]] w fun e w' => ValSaid tag zs e ∧ w.grownBy w' none := by
  have hb : ((tag.toNat : Int) != 2) = true := by rw [bne_iff_ne]; omega
  have HV := val_not (zs := zs) (.inl h)
  clear h
  go_enter Tryz.func121, Tryz.ntmps121
  go_wp2
  go_ret2
  exact ⟨HV, World.grownBy_alloc w _ none⟩

set_option maxHeartbeats 1000000 in
theorem value_size (tag : UInt8) (ao : Option Addr) (zs : List UInt8) (n : Nat) (cap : Nat) (w : World) (hn : Hid (zs.length = n)) (ht : tag.toNat = 2) (h : n < 1 ∨ 8 < n) :
    Calls Tryz.prog 121 #[.agg #[.int .u8 (tag.toNat : Int), .slice ao n cap]] w fun e w' => ValSaid tag zs e ∧ w.grownBy w' none := by
  have hb : ((tag.toNat : Int) != 2) = false := by rw [bne_eq_false_iff_eq]; omega
  have HV := val_not (tag := tag) (zs := zs) (.inr (by rw [Box.num, if_neg (by rw [hn.out]; omega)]))
  clear ht
  by_cases h1 : n < 1
  · have h1' : (n : Int) < 1 := by omega
    go_enter Tryz.func121, Tryz.ntmps121
    go_wp2
    go_ret2
    exact ⟨HV, World.grownBy_alloc w _ none⟩
  · have h1' : ¬ (n : Int) < 1 := by omega
    have h2' : (8 : Int) < (n : Int) := by omega
    go_enter Tryz.func121, Tryz.ntmps121
    go_wp2
    go_ret2
    exact ⟨HV, World.grownBy_alloc w _ none⟩

theorem val_part {zs : List UInt8} {k : Nat} (h1 : 1 ≤ k) (h8 : k ≤ 7) (hk : k ≤ zs.length) : -36028797018963968 ≤ Box.valFrom (Box.sign (zs.getD 0 0)) ((zs.drop 1).take (k - 1)) ∧ Box.valFrom (Box.sign (zs.getD 0 0)) ((zs.drop 1).take (k - 1)) < 36028797018963968 := by
  have hs := Box.sign_bounds (zs.getD 0 0)
  have h := Box.valFrom_bounds (M := 128) ((zs.drop 1).take (k - 1)) _ hs.1 hs.2
  have e : ((zs.drop 1).take (k - 1)).length = k - 1 := by simp; omega
  rw [e] at h
  have hp : (256 : Int) ^ (k - 1) ≤ 256 ^ 6 := by
    have : (256 : Nat) ^ (k - 1) ≤ 256 ^ 6 := Nat.pow_le_pow_right (by decide) (by omega)
    rw [show (256 : Int) = ((256 : Nat) : Int) from rfl, ← Int.natCast_pow, ← Int.natCast_pow]
    exact Int.ofNat_le.2 this
  have e6 : (256 : Int) ^ 6 = 281474976710656 := by decide
  rw [e6] at hp
  omega
theorem val_next {zs : List UInt8} {k : Nat} (h1 : 1 ≤ k) (hk : k < zs.length) : Box.valFrom (Box.sign (zs.getD 0 0)) ((zs.drop 1).take (k + 1 - 1)) = Box.valFrom (Box.sign (zs.getD 0 0)) ((zs.drop 1).take (k - 1)) * 256 + (zs[k].toNat : Int) := by
  have hl : k - 1 < (zs.drop 1).length := by simp; omega
  rw [show k + 1 - 1 = (k - 1) + 1 from by omega, take_snoc hl, Box.valFrom_snoc, List.getElem_drop]
  congr 4
  omega

set_option maxHeartbeats 4000000 in
theorem value_any (tag : UInt8) (b off : Nat) (zs : List UInt8) (n : Nat) (cap : Nat) (w : World) (hn : Hid (zs.length = n)) (ht : tag.toNat = 2) (h1 : 1 ≤ n) (h8 : n ≤ 8) (hc : At w (some ⟨b, off, none⟩) zs) :
    Calls Tryz.prog 121 #[.agg #[.int .u8 (tag.toNat : Int), .slice (some ⟨b, off, none⟩) n cap]] w fun e w' => ValSaid tag zs e ∧ w.grownBy w' none := by
  have hb : ((tag.toNat : Int) != 2) = false := by rw [bne_eq_false_iff_eq]; omega
  have HT : Hid (tag.toNat = 2) := ht
  clear ht
  have h1' : ¬ (n : Int) < 1 := by omega
  have h8' : ¬ (8 : Int) < (n : Int) := by omega
  have hp0 : (0 : Int) < (n : Int) := by omega
  have G0 : w.grownBy (w.alloc (.cells #[.int .u8 (tag.toNat : Int), .slice (some ⟨b, off, none⟩) n cap] 217)) none := World.grownBy_alloc w _ none
  have hcw := hc.below G0
  have hB0 := Blk.new w #[.int .u8 (tag.toNat : Int), .slice (some ⟨b, off, none⟩) n cap] 217
  have hc0 := at_got hcw 0 (by rw [hn.out]; omega)
  rw [Nat.add_zero] at hc0
  have hsi := sign_int (zs.getD 0 0)
  have hsb := Box.sign_bounds (zs.getD 0 0)
  generalize hz0 : (zs.getD 0 0) = z0 at hc0 hsi hsb
  generalize hsz : Box.sign z0 = s0 at hsi hsb
  have HZ : Hid (Box.sign (zs.getD 0 0) = s0) := by show _ = _; rw [hz0, hsz]
  clear hz0 hsz
  go_enter Tryz.func121, Tryz.ntmps121
  go_wp2_with fail
  go_loop [4, 5] (fun v i => ∃ k : Nat, 1 ≤ k ∧ k ≤ n ∧ i = .int .i64 k ∧ ∃ V : Int, v = .int .i64 V ∧ Hid (V = Box.valFrom (Box.sign (zs.getD 0 0)) ((zs.drop 1).take (k - 1)))) (fun _ i => n - (intOf i).toNat)
  case atStart => exact ⟨1, by omega, h1, rfl, _, rfl, by show _ = _; rw [HZ.out]; simp [Box.valFrom]⟩
  case round =>
    obtain ⟨k, hk1, hk, rfl, V, rfl, HV⟩ := hrel
    by_cases hlt : k < n
    · have hlt' : k < zs.length := by rw [hn.out]; exact hlt
      have hkI : (k : Int) < (n : Int) := by omega
      have hk0 : (0 : Int) ≤ (k : Int) := by omega
      have hck := hcw.cells k hlt'
      have hzk := (zs[k]).toNat_lt
      have hVb := val_part hk1 (by omega) (by rw [hn.out]; omega)
      rw [← HV.out] at hVb
      go_wp2
      go_round
      case rel => exact ⟨k + 1, by omega, by omega, by go_num, _, rfl, by show _ = _; rw [val_next hk1 hlt', ← HV.out]⟩
      case measure => simp [intOf]; omega
    · have hkn : k = n := by omega
      subst hkn
      have HVal : Hid (V = Box.val zs) := by
        show _ = _
        rw [HV.out, Box.val, List.take_of_length_le (by rw [List.length_drop, hn.out]; omega)]
      have hVb := Box.val_bounds (l := zs) (by rw [hn.out]; exact h1) (by rw [hn.out]; exact h8)
      rw [← HVal.out] at hVb
      have hkI : ¬ (k : Int) < (k : Int) := by omega
      go_wp2_with fail
      refine (rnumberBox_any V _ hVb.1 hVb.2).mono ?_
      rintro e w1 ⟨o, rfl, hown1, hg1⟩
      obtain ⟨a4, c4, rfl, _, _, _, hat4⟩ := own_at2 hown1
      have hB1 := hB0.grown hg1 (by simp)
      have G1 := gb_trans G0 hg1
      have p1 := hB1.cell 1
      simp only [List.getElem?_toArray, List.getElem?_cons_zero, List.getElem?_cons_succ] at p1
      clear hown1 hg1 hB0 hcw hc0
      go_wp2_with fail
      refine (rbox_any 2 zs k (some ⟨b, off, none⟩) cap _ hn (by omega) (hid (fun h => by cases h)) (hc.below G1)).mono ?_
      rintro e w2 ⟨o, rfl, hown2, hg2⟩
      obtain ⟨a5, c5, rfl, _, _, _, hat5⟩ := own_at2 hown2
      have hat4' := hat4.below hg2
      have G2 := gb_trans G1 hg2
      have hBL : (Box.box 2 (Box.low V (Box.size V))).length ≤ 140737488355328 := by
        have := (size_bounds V).2
        rw [Box.box_length, Box.low_length]
        split <;> (try split) <;> omega
      have hSame := rsame_any (Box.box 2 (Box.low V (Box.size V))) (Box.box 2 zs) _ _ a4 a5 c4 c5 w2 (hid rfl) (hid rfl) hBL hat4' hat5
      clear hown2 hg2 hat4 hat4' hat5 hB1 p1
      go_wp2_with fail
      refine hSame.mono ?_
      rintro e w3 ⟨rfl, hg3⟩
      have G3 := gb_trans G2 hg3
      clear hSame hg3
      by_cases hq : Box.box 2 (Box.low V (Box.size V)) = Box.box 2 zs
      · have hq' : (Box.box 2 (Box.low V (Box.size V)) == Box.box 2 zs) = true := by rw [beq_iff_eq]; exact hq
        have hnum : Box.num zs = some V := by
          rw [Box.again_iff (by rw [hn.out]; exact h1) (by rw [hn.out]; exact h8) V HVal.out _ rfl] at hq
          rw [Box.num, ← HVal.out, if_pos ⟨by rw [hn.out]; exact h1, by rw [hn.out]; exact h8, hq⟩]
        have HNum := hid hnum
        rw [hq']
        clear hq hq' hnum
        go_wp2
        go_ret2
        refine ⟨⟨fun v _ hv => ?_, fun h => ?_⟩, G3⟩
        · rw [HNum.out] at hv
          simp only [Option.some.injEq] at hv
          subst hv
          rfl
        · rcases h with h | h
          · exact absurd HT.out h
          · rw [HNum.out] at h; simp at h
      · have hq' : (Box.box 2 (Box.low V (Box.size V)) == Box.box 2 zs) = false := by rw [beq_eq_false_iff_ne]; exact hq
        have hnum : Box.num zs = none := by
          rw [Box.again_iff (by rw [hn.out]; exact h1) (by rw [hn.out]; exact h8) V HVal.out _ rfl] at hq
          rw [Box.num, ← HVal.out, if_neg (fun h => hq h.2.2)]
        have HNum := hid hnum
        rw [hq']
        clear hq hq' hnum
        go_wp2
        go_ret2
        refine ⟨⟨fun v _ hv => ?_, fun h => ⟨V, hVb.1, hVb.2, rfl⟩⟩, G3⟩
        rw [HNum.out] at hv
        simp at hv

theorem rvalue_any (tag : UInt8) (ao : Option Addr) (zs : List UInt8) (n : Nat) (cap : Nat) (w : World) (hn : Hid (zs.length = n)) (hc : At w ao zs) :
    Calls Tryz.prog 121 #[.agg #[.int .u8 (tag.toNat : Int), .slice ao n cap]] w fun e w' => ValSaid tag zs e ∧ w.grownBy w' none := by
  by_cases ht : tag.toNat = 2
  · by_cases h : n < 1 ∨ 8 < n
    · exact value_size tag ao zs n cap w hn ht h
    · obtain ⟨b, off, rfl, _⟩ := hc.addr (by rw [hn.out]; omega)
      exact value_any tag b off zs n cap w hn ht (by omega) (by omega) hc
  · exact value_tag tag ao zs n cap w ht
end Go.Proofs.YtbanfbpfapjfcaaGreatDoor
