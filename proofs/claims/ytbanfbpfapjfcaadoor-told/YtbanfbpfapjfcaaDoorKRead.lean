/-
  Contracts of what reads a told text in package wardenkeep: digit, whole64. Conditions: in each statement.
-/
import Derived.Test.YtbanfbpfapjfcaaDoorKBoxC
import Derived.Test.YtbanfbpfapjfcaaDoorBoxH
namespace Go.Proofs.YtbanfbpfapjfcaaDoor
open Go.RowKit
set_option maxRecDepth 100000

theorem dig_int (m : Nat) (h : m < 16) : ((Box.dig m).toNat : Int) = if m < 10 then 48 + (m : Int) else 87 + (m : Int) := by
  unfold Box.dig
  split <;> (rw [UInt8.toNat_ofNat', Nat.mod_eq_of_lt (by omega)]; omega)

set_option maxHeartbeats 400000 in
theorem kdigit_any (m : Nat) (w : World) (h : m < 16) : Calls Tryd.prog 14 #[.int .u8 ((Box.dig m).toNat : Int)] w fun e w' => e = .returned (.int .i64 m) ∧ w = w' := by
  rw [dig_int m h]
  by_cases h10 : m < 10
  · rw [if_pos h10]
    go_enter Tryd.func14, Tryd.ntmps14
    go_wp2
    go_ret
    exact ⟨ret_i64 (by omega), rfl⟩
  · rw [if_neg h10]
    go_enter Tryd.func14, Tryd.ntmps14
    go_wp2
    go_ret
    exact ⟨ret_i64 (by omega), rfl⟩

/-- What decimal digits say. -/
def valD (l : List UInt8) : Nat := l.foldl (fun a b => a * 10 + (b.toNat - 48)) 0
theorem valD_snoc (l : List UInt8) (b : UInt8) : valD (l ++ [b]) = valD l * 10 + (b.toNat - 48) := by simp [valD]
theorem decDigits_val (u : Nat) : valD (Lib.decDigits u) = u ∧ ∀ b ∈ Lib.decDigits u, 48 ≤ b.toNat ∧ b.toNat ≤ 57 := by
  induction u using Nat.strongRecOn with
  | ind u ih =>
    rw [Lib.decDigits]
    split
    · rename_i h
      have e : (UInt8.ofNat (48 + u)).toNat = 48 + u := by rw [UInt8.toNat_ofNat', Nat.mod_eq_of_lt (by omega)]
      refine ⟨by simp only [valD, List.foldl_cons, List.foldl_nil]; rw [e]; omega, ?_⟩
      intro b hb
      rw [List.mem_singleton.1 hb, e]
      omega
    · rename_i h
      obtain ⟨h1, h2⟩ := ih (u / 10) (by omega)
      have e : (UInt8.ofNat (48 + u % 10)).toNat = 48 + u % 10 := by rw [UInt8.toNat_ofNat', Nat.mod_eq_of_lt (by omega)]
      refine ⟨by rw [valD_snoc, h1, e]; omega, ?_⟩
      intro b hb
      rcases List.mem_append.1 hb with hb | hb
      · exact h2 b hb
      · rw [List.mem_singleton.1 hb, e]
        omega
theorem valD_take (l : List UInt8) (k : Nat) : valD (l.take k) ≤ valD l := by
  induction h : l.length - k generalizing k with
  | zero => rw [List.take_of_length_le (by omega)]; exact Nat.le_refl _
  | succ n ih =>
    have hk : k < l.length := by omega
    have h1 := ih (k + 1) (by omega)
    rw [List.take_succ_eq_append_getElem hk, valD_snoc] at h1
    omega

theorem bget {S : ByteArray} {l : List UInt8} (hS : S = ⟨l.toArray⟩) (j : Nat) (h : j < S.size) : S[j]'h = l.getD j 0 := by
  subst hS
  have hj : j < l.length := by simpa [ByteArray.size] using h
  simp only [List.getD, List.getElem?_eq_getElem hj, Option.getD_some]
  rfl
theorem getD_mem {l : List UInt8} {j : Nat} (h : j < l.length) : l.getD j 0 ∈ l := by
  rw [show l.getD j 0 = l[j] from by simp [List.getD, List.getElem?_eq_getElem h]]
  exact List.getElem_mem h
theorem valD_next {l : List UInt8} {k : Nat} (h : k < l.length) : valD (l.take (k + 1)) = valD (l.take k) * 10 + ((l.getD k 0).toNat - 48) := by
  rw [List.take_succ_eq_append_getElem h, valD_snoc]
  simp [List.getD, List.getElem?_eq_getElem h]

set_option maxHeartbeats 1000000 in
theorem whole_pos (l : List UInt8) (n : Nat) (S : ByteArray) (w : World) (hS : Hid (S = ⟨l.toArray⟩)) (hn : Hid (l.length = n)) (hl : n ≤ 100) (hd : ∀ b ∈ l, 48 ≤ b.toNat ∧ b.toNat ≤ 57) (hv : valD l ≤ 9223372036854775807) :
    Calls Tryd.prog 15 #[.string S] w fun e w' => e = .returned (.int .i64 (valD l : Int)) ∧ w = w' := by
  have hsz : S.size = n := by rw [hS.out, ← hn.out]; simp [ByteArray.size]
  go_enter Tryd.func15, Tryd.ntmps15
  go_wp2
  go_loop [3, 4] (fun x i => ∃ (k p : Nat), k ≤ n ∧ i = .int .i64 k ∧ x = .int .i64 (p : Int) ∧ Hid (p = valD (l.take k))) (fun _ i => n - (intOf i).toNat)
  case atStart => exact ⟨0, 0, Nat.zero_le _, rfl, rfl, rfl⟩
  case round =>
    obtain ⟨k, p, hk, rfl, rfl, HP⟩ := hrel
    by_cases hlt : k < n
    · have hlt' : k < l.length := by rw [hn.out]; exact hlt
      have hkI : (k : Int) < (n : Int) := by omega
      have hk0 : (0 : Int) ≤ (k : Int) := by omega
      have hnx := valD_next hlt'
      have hle := valD_take l (k + 1)
      rw [hnx, ← HP.out] at hle
      have hgk := bget hS.out k
      have hg0 := bget hS.out 0
      have hdk := hd _ (getD_mem hlt')
      have hd0 := hd _ (getD_mem (show 0 < l.length by omega))
      have HNX : Hid (p * 10 + ((l.getD k 0).toNat - 48) = valD (l.take (k + 1))) := by show _ = _; rw [hnx, ← HP.out]
      clear hnx
      generalize l.getD k 0 = zk at *
      generalize l.getD 0 0 = z0 at *
      have b1 : ((zk.toNat : Int) == 45) = false := by rw [beq_eq_false_iff_ne]; omega
      have b2 : ((z0.toNat : Int) == 45) = false := by rw [beq_eq_false_iff_ne]; omega
      obtain ⟨d, hdd⟩ : ∃ d : Nat, zk.toNat = 48 + d := ⟨zk.toNat - 48, by omega⟩
      have hdI : (zk.toNat : Int) = 48 + (d : Int) := by omega
      rw [hdI] at b1
      have hbd : 10 * (p : Int) + (d : Int) ≤ 9223372036854775807 := by omega
      have hd9 : d ≤ 9 := by omega
      have HD : Hid (zk.toNat = 48 + d) := hdd
      clear hdd hdk hd0 hle
      go_wp2
      go_round
      case rel => exact ⟨k + 1, p * 10 + d, by omega, by go_num, val_i64 (by omega), by show _ = _; rw [← HNX.out, HD.out]; omega⟩
      case measure => simp [intOf]; omega
    · have hkn : k = n := by omega
      subst hkn
      have hkI : ¬ (k : Int) < (k : Int) := by omega
      have HV : Hid (p = valD l) := by show _ = _; rw [HP.out, List.take_of_length_le (by rw [hn.out]; exact Nat.le_refl _)]
      go_wp2
      go_ret
      exact ⟨ret_i64 (by rw [HV.out]), rfl⟩

set_option maxHeartbeats 1000000 in
theorem whole_neg (l : List UInt8) (n : Nat) (S : ByteArray) (w : World) (hS : Hid (S = ⟨(45 :: l).toArray⟩)) (hn : Hid (l.length = n)) (hl : n ≤ 100) (hd : ∀ b ∈ l, 48 ≤ b.toNat ∧ b.toNat ≤ 57) (hv : valD l ≤ 9223372036854775808) :
    Calls Tryd.prog 15 #[.string S] w fun e w' => e = .returned (.int .i64 (-(valD l : Int))) ∧ w = w' := by
  have hsz : S.size = n + 1 := by rw [hS.out, ← hn.out]; simp [ByteArray.size]
  have hg0 : ∀ h : 0 < S.size, S[0]'h = 45 := fun h => bget hS.out 0 h
  go_enter Tryd.func15, Tryd.ntmps15
  go_wp2
  go_loop [3, 4] (fun x i => ∃ (k p : Nat), k ≤ n + 1 ∧ i = .int .i64 k ∧ x = .int .i64 (-(p : Int)) ∧ Hid (p = valD (l.take (k - 1)))) (fun _ i => n + 1 - (intOf i).toNat)
  case atStart => exact ⟨0, 0, Nat.zero_le _, rfl, rfl, rfl⟩
  case round =>
    obtain ⟨k, p, hk, rfl, rfl, HP⟩ := hrel
    by_cases hk0 : k = 0
    · subst hk0
      have HP0 : Hid (p = 0) := HP
      go_wp2
      go_round
      case rel => exact ⟨1, p, by omega, by go_num, rfl, HP0⟩
      case measure => simp [intOf]
    · obtain ⟨q, rfl⟩ : ∃ q, k = q + 1 := ⟨k - 1, by omega⟩
      rw [show q + 1 - 1 = q from by omega] at HP
      by_cases hlt : q < n
      · have hlt' : q < l.length := by rw [hn.out]; exact hlt
        have hnx := valD_next hlt'
        have hle := valD_take l (q + 1)
        rw [hnx, ← HP.out] at hle
        have hgk : ∀ h : q + 1 < S.size, S[q + 1]'h = l.getD q 0 := fun h => by rw [bget hS.out (q + 1) h]; rfl
        have hdk := hd _ (getD_mem hlt')
        have HNX : Hid (p * 10 + ((l.getD q 0).toNat - 48) = valD (l.take (q + 1))) := by show _ = _; rw [hnx, ← HP.out]
        clear hnx
        generalize l.getD q 0 = zk at *
        have b1 : ((zk.toNat : Int) == 45) = false := by rw [beq_eq_false_iff_ne]; omega
        obtain ⟨d, hdd⟩ : ∃ d : Nat, zk.toNat = 48 + d := ⟨zk.toNat - 48, by omega⟩
        have hdI : (zk.toNat : Int) = 48 + (d : Int) := by omega
        rw [hdI] at b1
        have hbd : 10 * (p : Int) + (d : Int) ≤ 9223372036854775808 := by omega
        have hd9 : d ≤ 9 := by omega
        have HD : Hid (zk.toNat = 48 + d) := hdd
        have hkI : ((q + 1 : Nat) : Int) = (q : Int) + 1 := by omega
        rw [hkI]
        clear hdd hdk hle
        go_wp2
        go_round
        case rel => exact ⟨q + 2, p * 10 + d, by omega, by go_num, val_i64 (by omega), by show _ = _; rw [show q + 2 - 1 = q + 1 from by omega, ← HNX.out, HD.out]; omega⟩
        case measure => simp [intOf]; omega
      · have hkn : q = n := by omega
        subst hkn
        have hkI : ((q + 1 : Nat) : Int) = (q : Int) + 1 := by omega
        have hkJ : ¬ ((q : Int) + 1) < ((q : Int) + 1) := by omega
        have HV : Hid (p = valD l) := by show _ = _; rw [HP.out, List.take_of_length_le (by rw [hn.out]; exact Nat.le_refl _)]
        rw [hkI]
        go_wp2
        go_ret
        exact ⟨ret_i64 (by rw [HV.out]), rfl⟩

theorem kwhole_any (v : Int) (S : ByteArray) (w : World) (hS : Hid (S = ⟨(Lib.itoa v).toArray⟩)) (h0 : -9223372036854775808 ≤ v) (h1 : v ≤ 9223372036854775807) :
    Calls Tryd.prog 15 #[.string S] w fun e w' => e = .returned (.int .i64 v) ∧ w = w' := by
  have hlen := Lib.itoa_length_le v h0 h1
  by_cases hv : v < 0
  · have hi : Lib.itoa v = 45 :: Lib.decDigits v.natAbs := by rw [Lib.itoa, if_pos hv]
    rw [hi] at hS hlen
    obtain ⟨d1, d2⟩ := decDigits_val v.natAbs
    have C := whole_neg (Lib.decDigits v.natAbs) _ S w hS (hid rfl) (by simp at hlen; omega) d2 (by rw [d1]; omega)
    rw [d1] at C
    refine C.mono fun e w' ⟨h, h'⟩ => ⟨?_, h'⟩
    rw [h]
    exact ret_i64 (by omega)
  · have hi : Lib.itoa v = Lib.decDigits v.toNat := by rw [Lib.itoa, if_neg hv]
    rw [hi] at hS hlen
    obtain ⟨d1, d2⟩ := decDigits_val v.toNat
    have C := whole_pos (Lib.decDigits v.toNat) _ S w hS (hid rfl) (by omega) d2 (by rw [d1]; omega)
    rw [d1] at C
    refine C.mono fun e w' ⟨h, h'⟩ => ⟨?_, h'⟩
    rw [h]
    exact ret_i64 (by omega)

/-- The signs of a number's text: neither a comma nor a brace nor a quote. -/
theorem itoa_signs (v : Int) : Lib.itoa v ≠ [] ∧ ∀ b ∈ Lib.itoa v, b.toNat = 45 ∨ (48 ≤ b.toNat ∧ b.toNat ≤ 57) := by
  have hne : ∀ u, Lib.decDigits u ≠ [] := by
    intro u h
    rw [Lib.decDigits] at h
    split at h <;> simp at h
  unfold Lib.itoa
  split
  · refine ⟨by simp, fun b hb => ?_⟩
    rcases List.mem_cons.1 hb with rfl | hb
    · exact .inl rfl
    · exact .inr ((decDigits_val _).2 b hb)
  · exact ⟨hne _, fun b hb => .inr ((decDigits_val _).2 b hb)⟩

/-- What stands at a place of a text. -/
theorem drop_cons {L r : List UInt8} {i : Nat} {x : UInt8} (h : L.drop i = x :: r) : L.getD i 0 = x ∧ L.drop (i + 1) = r ∧ i < L.length := by
  have hi : i < L.length := by
    have := congrArg List.length h
    simp at this
    omega
  refine ⟨?_, ?_, hi⟩
  · have : (L.drop i)[0]? = some x := by rw [h]; rfl
    rw [List.getElem?_drop, Nat.add_zero] at this
    simp [List.getD, this]
  · rw [← List.drop_drop, h]
    rfl
theorem drop_nil {L : List UInt8} {i : Nat} (h : L.drop i = []) : L.length ≤ i := by
  have := congrArg List.length h
  simp at this
  omega
/-- What may stand behind a part. -/
def Ends (post : List UInt8) : Prop := post = [] ∨ (∃ r, post = 44 :: r) ∨ ∃ r, post = 125 :: r
end Go.Proofs.YtbanfbpfapjfcaaDoor
