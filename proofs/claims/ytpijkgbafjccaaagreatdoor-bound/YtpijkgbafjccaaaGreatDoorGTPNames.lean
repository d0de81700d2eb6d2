/-
  
  
  
-/
import Derived.Test.YtpijkgbafjccaaaGreatDoorGTBoxM
namespace Go.Proofs.YtpijkgbafjccaaaGreatDoor
open Go.RowKit
set_option maxRecDepth 100000
theorem strAt {S : ByteArray} {l : List UInt8} (hS : S = ⟨l.toArray⟩) (j : Nat) (h : j < S.size) : S[j]'h = l.getD j 0 := by
 subst hS
 have hj : j < l.length := by simpa [ByteArray.size] using h
 simp only [List.getD,List.getElem?_eq_getElem hj,Option.getD_some]
 rfl
set_option maxHeartbeats 1000000 in
theorem isPart_any (z : UInt8) (w : World) : Calls Tryz.prog 119 #[.int .u8 (z.toNat : Int)] w fun e w' => e = .returned (.bool (isPart z)) ∧ w = w' := by
 have hz := z.toNat_lt
 have HP : Hid (isPart z = decide ((97 ≤ z.toNat ∧ z.toNat ≤ 122) ∨ (48 ≤ z.toNat ∧ z.toNat ≤ 57) ∨ z.toNat = 47)) := rfl
 have key : ∀ b,isPart z = b → (b = true ↔ ((97 ≤ z.toNat ∧ z.toNat ≤ 122) ∨ (48 ≤ z.toNat ∧ z.toNat ≤ 57) ∨ z.toNat = 47)) := by
  intro b hb
  rw [← hb,HP.out,decide_eq_true_iff]
 cases hp : isPart z
 ·have hn : ¬ ((97 ≤ z.toNat ∧ z.toNat ≤ 122) ∨ (48 ≤ z.toNat ∧ z.toNat ≤ 57) ∨ z.toNat = 47) := fun h => by have := (key _ hp).2 h; cases this
  have d47 : ((z.toNat : Int) == 47) = false := by rw [beq_eq_false_iff_ne]; omega
  clear key HP hp
  by_cases h1 : 97 ≤ z.toNat
  ·have h1' : (97 : Int) ≤ (z.toNat : Int) := by omega
   have h2 : ¬ (z.toNat : Int) ≤ 122 := by omega
   have h3 : ¬ (z.toNat : Int) ≤ 57 := by omega
   clear hn
   go_enter Tryz.func119,Tryz.ntmps119
   go_wp2
   go_ret
   exact ⟨rfl,rfl⟩
  ·have h1' : ¬ (97 : Int) ≤ (z.toNat : Int) := by omega
   by_cases h4 : 48 ≤ z.toNat
   ·have h4' : (48 : Int) ≤ (z.toNat : Int) := by omega
    have h3 : ¬ (z.toNat : Int) ≤ 57 := by omega
    clear hn
    go_enter Tryz.func119,Tryz.ntmps119
    go_wp2
    go_ret
    exact ⟨rfl,rfl⟩
   ·have h4' : ¬ (48 : Int) ≤ (z.toNat : Int) := by omega
    clear hn
    go_enter Tryz.func119,Tryz.ntmps119
    go_wp2
    go_ret
    exact ⟨rfl,rfl⟩
 ·have hy := (key _ hp).1 rfl
  clear key HP hp
  by_cases h1 : 97 ≤ z.toNat ∧ z.toNat ≤ 122
  ·have h1' : (97 : Int) ≤ (z.toNat : Int) := by omega
   have h2 : (z.toNat : Int) ≤ 122 := by omega
   clear hy h1
   go_enter Tryz.func119,Tryz.ntmps119
   go_wp2
   go_ret
   exact ⟨rfl,rfl⟩
  ·by_cases h4 : 48 ≤ z.toNat ∧ z.toNat ≤ 57
   ·have h1' : ¬ (97 : Int) ≤ (z.toNat : Int) := by omega
    have h4' : (48 : Int) ≤ (z.toNat : Int) := by omega
    have h3 : (z.toNat : Int) ≤ 57 := by omega
    clear hy h1 h4
    go_enter Tryz.func119,Tryz.ntmps119
    go_wp2
    go_ret
    exact ⟨rfl,rfl⟩
   ·have h1' : ¬ (97 : Int) ≤ (z.toNat : Int) := by omega
    have h4' : ¬ (48 : Int) ≤ (z.toNat : Int) := by omega
    have d47 : ((z.toNat : Int) == 47) = true := by rw [beq_iff_eq]; omega
    clear hy h1 h4
    go_enter Tryz.func119,Tryz.ntmps119
    go_wp2
    go_ret
    exact ⟨rfl,rfl⟩
set_option maxHeartbeats 1000000 in
theorem isName_any (l : List UInt8) (n : Nat) (S : ByteArray) (w : World) (hS : Hid (S = ⟨l.toArray⟩)) (hn : Hid (l.length = n)) (hl : n ≤ 9223372036854775807) :
  Calls Tryz.prog 75 #[.string S] w fun e w' => e = .returned (.bool (isNameL l)) ∧ w = w' := by
 have hsz : S.size = n := by rw [hS.out,← hn.out]; simp [ByteArray.size]
 have HE : Hid (isNameL l = (decide (1 ≤ n ∧ n ≤ 16) && l.all isPart)) := by show _ = _; rw [isNameL,hn.out]
 by_cases h1 : 1 ≤ n
 ·by_cases h16 : n ≤ 16
  ·have h1' : ¬ (n : Int) < 1 := by omega
   have h16' : ¬ (16 : Int) < (n : Int) := by omega
   have HE2 : Hid (isNameL l = l.all isPart) := by show _ = _; rw [HE.out,decide_eq_true ⟨h1,h16⟩,Bool.true_and]
   clear HE
   go_enter Tryz.func75,Tryz.ntmps75
   go_wp2
   go_loop [3,14] (fun _ i => ∃ k : Nat,k ≤ n ∧ i = .int .i64 k ∧ Hid ((l.take k).all isPart = true)) (fun _ i => n - (intOf i).toNat)
   case atStart => exact ⟨0,Nat.zero_le _,rfl,hid (by simp)⟩
   case round =>
    obtain ⟨k,hk,rfl,HA⟩ := hrel
    by_cases hlt : k < n
    ·have hlt' : k < l.length := by rw [hn.out]; exact hlt
     have hgk := strAt hS.out k
     have HNx := hid (all_take_succ hlt')
     rw [HA.out,Bool.true_and] at HNx
     have HBad : Hid (isPart (l.getD k 0) = false → isNameL l = false) := by
      intro h
      rw [HE2.out]
      have hm : l.getD k 0 ∈ l := by
       rw [show l.getD k 0 = l[k] from by simp [List.getD,List.getElem?_eq_getElem hlt']]
       exact List.getElem_mem hlt'
      rw [List.all_eq_false]
      exact ⟨_,hm,by rw [h]; simp⟩
     generalize l.getD k 0 = z at hgk HNx HBad
     have hkI : (k : Int) < (n : Int) := by omega
     have hk0 : (0 : Int) ≤ (k : Int) := by omega
     cases hp : isPart z
     ·have HF := hid (HBad.out hp)
      clear HBad HNx
      go_wp2_with (go_at_call 119; refine (isPart_any z _).mono ?_; rintro e w' ⟨rfl,rfl⟩)
      go_ret
      exact ⟨by rw [HF.out]; rfl,rfl⟩
     ·have HY := hid (HNx.out.trans hp)
      clear HBad HNx
      go_wp2_with (go_at_call 119; refine (isPart_any z _).mono ?_; rintro e w' ⟨rfl,rfl⟩)
      go_round
      case rel => exact ⟨k + 1,by omega,by go_num,HY⟩
      case measure => simp [intOf]; omega
    ·have hkn : k = n := by omega
     subst hkn
     have HR : Hid (isNameL l = true) := by show _ = _; rw [HE2.out,← HA.out,List.take_of_length_le (by rw [hn.out]; exact Nat.le_refl _)]
     have hkI : ¬ (k : Int) < (k : Int) := by omega
     go_wp2
     go_ret
     exact ⟨by rw [HR.out]; rfl,rfl⟩
  ·have h1' : ¬ (n : Int) < 1 := by omega
   have h16' : (16 : Int) < (n : Int) := by omega
   have HR : Hid (isNameL l = false) := by show _ = _; rw [HE.out,decide_eq_false (fun h => h16 h.2),Bool.false_and]
   go_enter Tryz.func75,Tryz.ntmps75
   go_wp2
   go_ret
   exact ⟨by rw [HR.out]; rfl,rfl⟩
 ·have h1' : (n : Int) < 1 := by omega
  have HR : Hid (isNameL l = false) := by show _ = _; rw [HE.out,decide_eq_false (fun h => h1 h.1),Bool.false_and]
  go_enter Tryz.func75,Tryz.ntmps75
  go_wp2
  go_ret
  exact ⟨by rw [HR.out]; rfl,rfl⟩
end Go.Proofs.YtpijkgbafjccaaaGreatDoor
namespace Go.Proofs.YtpijkgbafjccaaaGreatDoor
open Go.RowKit
theorem ofInt_nat (n : Int) : (BitVec.ofInt 64 n).toNat = (n % 18446744073709551616).toNat := by
 rw [BitVec.toNat_ofInt]; rfl
theorem lsb_bit (n : Int) (k : Nat) (hk : k < 64) : (BitVec.ofInt 64 n).getLsbD k = bitB n (2 ^ k) := by
 rw [bitB,← BitVec.testBit_toNat,ofInt_nat,Nat.testBit_eq_decide_div_mod_eq]
 congr 1
 have hp : (0 : Int) < 2 ^ k := Int.pow_pos (by decide)
 have e : ((n % 18446744073709551616).toNat / 2 ^ k % 2 : Nat) = 1 ↔ n / 2 ^ k % 2 = 1 := by
  have h0 : 0 ≤ n % 18446744073709551616 := Int.emod_nonneg _ (by decide)
  have h1 : (((n % 18446744073709551616).toNat / 2 ^ k % 2 : Nat) : Int) = n % 18446744073709551616 / 2 ^ k % 2 := by
   rw [Int.natCast_emod,Int.natCast_ediv,Int.toNat_of_nonneg h0]
   simp
  have h2 : n % 18446744073709551616 / 2 ^ k % 2 = n / 2 ^ k % 2 := by
   have h64 : (18446744073709551616 : Int) = 2 ^ k * 2 ^ (64 - k) := by
    rw [← Int.pow_add,show k + (64 - k) = 64 from by omega]; rfl
   have hd : n / 2 ^ k = n % 18446744073709551616 / 2 ^ k + 2 ^ (64 - k) * (n / 18446744073709551616) := by
    have := Int.emod_add_mul_ediv n 18446744073709551616
    conv => lhs; rw [← this,h64,Int.mul_assoc]
    rw [Int.add_mul_ediv_left _ _ (by omega),← h64]
   rw [hd,show (64 - k) = (64 - k - 1) + 1 from by omega,Int.pow_succ,Int.mul_comm (2 ^ (64 - k - 1)) 2,Int.mul_assoc,Int.add_mul_emod_self_left]
  omega
 simp only [e]
theorem bits_lsb (v : BitVec 64) : (IntKind.i64.wrap (v.toNat : Int)) = v.toInt := by
 rw [IntKind.wrap_i64,BitVec.toInt_eq_toNat_cond]
 have := v.isLt
 split <;> omega
theorem i64_and (a b : Int) : bits .and .i64 a b = (BitVec.ofInt 64 a &&& BitVec.ofInt 64 b).toInt := bits_lsb _
theorem i64_andNot (a b : Int) : bits .andNot .i64 a b = (BitVec.ofInt 64 a &&& ~~~ BitVec.ofInt 64 b).toInt := bits_lsb _
theorem ofInt_toInt' (v : BitVec 64) : BitVec.ofInt 64 v.toInt = v := BitVec.ofInt_toInt
theorem high_zero (n : Int) (h0 : -9223372036854775808 ≤ n) (h1 : n ≤ 9223372036854775807) (v : BitVec 64) (k : Nat) (hk : k < 63) (hv : ∀ j,j < 64 → v.getLsbD j = (bitB n (2 ^ j) && decide (k ≤ j))) : (v.toInt = 0) ↔ (0 ≤ n ∧ n < 2 ^ k) := by
 have hn : (BitVec.ofInt 64 n).toInt = n := by rw [BitVec.toInt_ofInt,Int.bmod_def]; split <;> omega
 have hval : v = (BitVec.ofInt 64 n >>> k) <<< k := by
  apply BitVec.eq_of_getLsbD_eq
  intro j hj
  rw [hv j hj,BitVec.getLsbD_shiftLeft,BitVec.getLsbD_ushiftRight]
  by_cases h : k ≤ j
  ·have : ¬ j < k := by omega
   simp [h,this,hj,← lsb_bit n j hj,show k + (j - k) = j from by omega]
  ·have : j < k := by omega
   simp [h,this]
 have hlt := (BitVec.ofInt 64 n).isLt
 have hz : v.toInt = 0 ↔ (BitVec.ofInt 64 n).toNat / 2 ^ k = 0 := by
  have h3 : v.toInt = 0 ↔ v = 0#64 := by
   constructor
   ·intro h; have := congrArg (BitVec.ofInt 64) h; rw [ofInt_toInt'] at this; exact this
   ·intro h; rw [h]; rfl
  rw [h3,hval]
  constructor
  ·intro h
   have h4 := congrArg BitVec.toNat h
   rw [BitVec.toNat_shiftLeft,BitVec.toNat_ushiftRight,Nat.shiftLeft_eq,Nat.shiftRight_eq_div_pow] at h4
   have h5 : (BitVec.ofInt 64 n).toNat / 2 ^ k * 2 ^ k ≤ (BitVec.ofInt 64 n).toNat := Nat.div_mul_le_self _ _
   rw [Nat.mod_eq_of_lt (by omega)] at h4
   have h6 : 0 < 2 ^ k := Nat.two_pow_pos k
   have h7 : (BitVec.ofInt 64 n).toNat / 2 ^ k * 2 ^ k = 0 := h4
   rcases Nat.mul_eq_zero.1 h7 with h8 | h8
   ·exact h8
   ·omega
  ·intro h
   apply BitVec.eq_of_toNat_eq
   rw [BitVec.toNat_shiftLeft,BitVec.toNat_ushiftRight,Nat.shiftRight_eq_div_pow,h]
   simp
 rw [hz,Nat.div_eq_zero_iff_lt (Nat.two_pow_pos k),ofInt_nat]
 have hp : (2 : Nat) ^ k ≤ 2 ^ 62 := Nat.pow_le_pow_right (by decide) (by omega)
 have hc : ((2 ^ k : Nat) : Int) = 2 ^ k := by simp
 constructor
 ·intro h
  have : (2 : Nat) ^ 62 = 4611686018427387904 := by decide
  omega
 ·intro h
  omega
theorem andNot_low (n : Int) (h0 : -9223372036854775808 ≤ n) (h1 : n ≤ 9223372036854775807) (k : Nat) (hk : k < 63) (m : Int) (hm : ∀ j,j < 64 → bitB m (2 ^ j) = decide (j < k)) : (bits .andNot .i64 n m = 0) ↔ (0 ≤ n ∧ n < 2 ^ k) := by
 rw [i64_andNot]
 refine high_zero n h0 h1 _ k hk (fun j hj => ?_)
 rw [BitVec.getLsbD_and,BitVec.getLsbD_not,lsb_bit n j hj,lsb_bit m j hj,hm j hj]
 by_cases h : j < k
 ·have : ¬ k ≤ j := by omega
  simp [h,this]
 ·have : k ≤ j := by omega
  simp [h,this,hj]
theorem low63 : ∀ j,j < 64 → bitB 63 (2 ^ j) = decide (j < 6) := by decide
theorem low15 : ∀ j,j < 64 → bitB 15 (2 ^ j) = decide (j < 4) := by decide
theorem andNot63 (n : Int) (h0 : -9223372036854775808 ≤ n) (h1 : n ≤ 9223372036854775807) : (bits .andNot .i64 n 63 == 0) = decide (0 ≤ n ∧ n < 64) := by
 have := andNot_low n h0 h1 6 (by decide) 63 low63
 rw [Bool.eq_iff_iff,beq_iff_eq,decide_eq_true_iff]
 exact this
end Go.Proofs.YtpijkgbafjccaaaGreatDoor
namespace Go.Proofs.YtpijkgbafjccaaaGreatDoor
open Go.RowKit
set_option maxRecDepth 100000
theorem bit_and (a b : Int) (k : Nat) (hk : k < 64) : bitB (bits .and .i64 a b) (2 ^ k) = (bitB a (2 ^ k) && bitB b (2 ^ k)) := by
 rw [i64_and,← lsb_bit _ k hk,ofInt_toInt',BitVec.getLsbD_and,lsb_bit a k hk,lsb_bit b k hk]
theorem bit_andNot (a b : Int) (k : Nat) (hk : k < 64) : bitB (bits .andNot .i64 a b) (2 ^ k) = (bitB a (2 ^ k) && !bitB b (2 ^ k)) := by
 rw [i64_andNot,← lsb_bit _ k hk,ofInt_toInt',BitVec.getLsbD_and,BitVec.getLsbD_not,lsb_bit a k hk,lsb_bit b k hk]
 simp [hk]
theorem and_in (a b : Int) : -9223372036854775808 ≤ bits .and .i64 a b ∧ bits .and .i64 a b ≤ 9223372036854775807 := by
 rw [i64_and]
 have h1 := BitVec.toInt_lt (x := BitVec.ofInt 64 a &&& BitVec.ofInt 64 b)
 have h2 := BitVec.le_toInt (x := BitVec.ofInt 64 a &&& BitVec.ofInt 64 b)
 omega
theorem andNot_in (a b : Int) : -9223372036854775808 ≤ bits .andNot .i64 a b ∧ bits .andNot .i64 a b ≤ 9223372036854775807 := by
 rw [i64_andNot]
 have h1 := BitVec.toInt_lt (x := BitVec.ofInt 64 a &&& ~~~ BitVec.ofInt 64 b)
 have h2 := BitVec.le_toInt (x := BitVec.ofInt 64 a &&& ~~~ BitVec.ofInt 64 b)
 omega
theorem ext64 {a b : Int} (ha : -9223372036854775808 ≤ a ∧ a ≤ 9223372036854775807) (hb : -9223372036854775808 ≤ b ∧ b ≤ 9223372036854775807) (h : ∀ k,k < 64 → bitB a (2 ^ k) = bitB b (2 ^ k)) : a = b := by
 have e : BitVec.ofInt 64 a = BitVec.ofInt 64 b := by
  apply BitVec.eq_of_getLsbD_eq
  intro j hj
  rw [lsb_bit a j hj,lsb_bit b j hj,h j hj]
 have ea : (BitVec.ofInt 64 a).toInt = a := by rw [BitVec.toInt_ofInt,Int.bmod_def]; split <;> omega
 have eb : (BitVec.ofInt 64 b).toInt = b := by rw [BitVec.toInt_ofInt,Int.bmod_def]; split <;> omega
 rw [← ea,← eb,e]
theorem bit_zero (k : Nat) : bitB 0 (2 ^ k) = false := by
 unfold bitB
 rw [Int.zero_ediv]
 rfl
theorem and_none (n m : Int) (ks : List Nat) (hk : ∀ k ∈ ks,k < 64) (hm : ∀ j,j < 64 → bitB m (2 ^ j) = decide (j ∈ ks)) : (bits .and .i64 n m == 0) = ks.all (fun k => !bitB n (2 ^ k)) := by
 rw [Bool.eq_iff_iff,beq_iff_eq,List.all_eq_true]
 constructor
 ·intro h k hkk
  have h1 := bit_and n m k (hk k hkk)
  rw [h,bit_zero,hm k (hk k hkk),decide_eq_true hkk,Bool.and_true] at h1
  rw [← h1]
  rfl
 ·intro h
  refine ext64 (and_in n m) ⟨by decide,by decide⟩ (fun j hj => ?_)
  rw [bit_and n m j hj,hm j hj,bit_zero]
  by_cases hjk : j ∈ ks
  ·have := h j hjk
   simp at this
   rw [this]
   rfl
  ·rw [decide_eq_false hjk,Bool.and_false]
theorem m48 : ∀ j,j < 64 → bitB 48 (2 ^ j) = decide (j ∈ [4,5]) := by decide
theorem m7 : ∀ j,j < 64 → bitB 7 (2 ^ j) = decide (j ∈ [0,1,2]) := by decide
theorem m240 : ∀ j,j < 64 → bitB 240 (2 ^ j) = decide (j ∈ [4,5,6,7]) := by decide
theorem m448 : ∀ j,j < 64 → bitB 448 (2 ^ j) = decide (j ∈ [6,7,8]) := by decide
theorem m247 : ∀ j,j < 64 → bitB 247 (2 ^ j) = decide (j < 8 ∧ j ≠ 3) := by decide
theorem m255 : ∀ j,j < 64 → bitB 255 (2 ^ j) = decide (j < 8) := by decide
theorem and48 (n : Int) : (bits .and .i64 n 48 == 0) = (!bitB n 16 && !bitB n 32) := by
 rw [and_none n 48 [4,5] (by decide) m48]
 simp
theorem and7 (n : Int) : (bits .and .i64 n 7 == 0) = (!bitB n 1 && (!bitB n 2 && !bitB n 4)) := by
 rw [and_none n 7 [0,1,2] (by decide) m7]
 simp
theorem and_one0 (n f : Int) (k : Nat) (hf : f = 2 ^ k) (hk : k < 63) : (bits .and .i64 n f == 0) = !bitB n f := by
 subst hf
 have hb := bit_and n (2 ^ k) k (by omega)
 have hs : bitB (2 ^ k) (2 ^ k) = true := by
  unfold bitB
  rw [Int.ediv_self (by have := Nat.pow_pos (n := k) (show 0 < 2 by decide); have e : (2 : Int) ^ k = ((2 ^ k : Nat) : Int) := by simp
                        omega)]
  rfl
 rw [hs,Bool.and_true] at hb
 cases h : bitB n (2 ^ k) with
 | true =>
  rw [h] at hb
  rw [Bool.not_true,beq_eq_false_iff_ne]
  intro e
  rw [e,bit_zero] at hb
  cases hb
 | false =>
  rw [Bool.not_false,beq_iff_eq]
  refine ext64 (and_in n _) ⟨by decide,by decide⟩ (fun j hj => ?_)
  rw [bit_and n _ j hj,bit_zero]
  by_cases e : j = k
  ·subst e
   rw [h]
   rfl
  ·have e2 : bitB (2 ^ k) (2 ^ j) = false := by
    rw [← lsb_bit _ j hj]
    have hv : BitVec.ofInt 64 (2 ^ k) = BitVec.twoPow 64 k := by
     apply BitVec.eq_of_toNat_eq
     have hp : (2 : Int) ^ k < 2 ^ 63 := by
      have h := Nat.pow_lt_pow_right (a := 2) (by decide) hk
      exact_mod_cast h
     have hp0 : (0 : Int) < 2 ^ k := by
      have h := Nat.pow_pos (n := k) (show 0 < 2 by decide)
      exact_mod_cast h
     rw [ofInt_nat,BitVec.toNat_twoPow]
     have : ((2 : Int) ^ k % 18446744073709551616) = 2 ^ k := Int.emod_eq_of_lt (by omega) (by omega)
     rw [this]
     have h2 : ((2 : Int) ^ k).toNat = 2 ^ k := by
      have : (2 : Int) ^ k = ((2 ^ k : Nat) : Int) := by simp
      rw [this,Int.toNat_natCast]
     rw [h2,Nat.mod_eq_of_lt (Nat.pow_lt_pow_right (by decide) (by omega))]
    rw [hv,BitVec.getLsbD_twoPow]
    simp
    omega
   rw [e2,Bool.and_false]
def wayM (n : Int) : Int := (if bitB n 16 = true then 16 else 0) + (if bitB n 32 = true then 32 else 0) + (if bitB n 64 = true then 64 else 0) + (if bitB n 128 = true then 128 else 0)
theorem and240 (n : Int) : bits .and .i64 n 240 = wayM n := by
 unfold wayM
 have e : ∀ j,j < 64 → j ∉ [4,5,6,7] → bitB (bits .and .i64 n 240) (2 ^ j) = false := fun j hj hn => by rw [bit_and n 240 j hj,m240 j hj,decide_eq_false hn,Bool.and_false]
 have e4 := bit_and n 240 4 (by decide)
 have e5 := bit_and n 240 5 (by decide)
 have e6 := bit_and n 240 6 (by decide)
 have e7 := bit_and n 240 7 (by decide)
 rw [m240 _ (by decide)] at e4 e5 e6 e7
 have i := and_in n 240
 generalize bits .and .i64 n 240 = v at *
 have f4 : bitB v (2 ^ 4) = bitB n 16 := by simpa using e4
 have f5 : bitB v (2 ^ 5) = bitB n 32 := by simpa using e5
 have f6 : bitB v (2 ^ 6) = bitB n 64 := by simpa using e6
 have f7 : bitB v (2 ^ 7) = bitB n 128 := by simpa using e7
 clear e4 e5 e6 e7
 have D : ∀ (b4 b5 b6 b7 : Bool) (j : Nat),j < 64 → bitB ((if b4 = true then 16 else 0) + (if b5 = true then 32 else 0) + (if b6 = true then 64 else 0) + (if b7 = true then 128 else 0)) (2 ^ j) = (j == 4 && b4 || (j == 5 && b5 || (j == 6 && b6 || j == 7 && b7))) := by decide
 refine ext64 i ?_ (fun j hj => ?_)
 ·cases bitB n 16 <;> cases bitB n 32 <;> cases bitB n 64 <;> cases bitB n 128 <;> exact ⟨by decide,by decide⟩
 ·rw [D _ _ _ _ j hj]
  by_cases j4 : j = 4
  ·subst j4; rw [f4]; simp
  by_cases j5 : j = 5
  ·subst j5; rw [f5]; simp
  by_cases j6 : j = 6
  ·subst j6; rw [f6]; simp
  by_cases j7 : j = 7
  ·subst j7; rw [f7]; simp
  rw [e j hj (by simp; omega)]
  simp [j4,j5,j6,j7]
theorem and448 (n : Int) : bits .and .i64 n 448 = keptFlags n := by
 unfold keptFlags
 have e : ∀ j,j < 64 → j ∉ [6,7,8] → bitB (bits .and .i64 n 448) (2 ^ j) = false := fun j hj hn => by rw [bit_and n 448 j hj,m448 j hj,decide_eq_false hn,Bool.and_false]
 have e6 := bit_and n 448 6 (by decide)
 have e7 := bit_and n 448 7 (by decide)
 have e8 := bit_and n 448 8 (by decide)
 rw [m448 _ (by decide)] at e6 e7 e8
 have i := and_in n 448
 generalize bits .and .i64 n 448 = v at *
 have f6 : bitB v (2 ^ 6) = bitB n 64 := by simpa using e6
 have f7 : bitB v (2 ^ 7) = bitB n 128 := by simpa using e7
 have f8 : bitB v (2 ^ 8) = bitB n 256 := by simpa using e8
 clear e6 e7 e8
 have D : ∀ (b6 b7 b8 : Bool) (j : Nat),j < 64 → bitB ((if b6 = true then 64 else 0) + (if b7 = true then 128 else 0) + (if b8 = true then 256 else 0)) (2 ^ j) = (j == 6 && b6 || (j == 7 && b7 || j == 8 && b8)) := by decide
 refine ext64 i ?_ (fun j hj => ?_)
 ·cases bitB n 64 <;> cases bitB n 128 <;> cases bitB n 256 <;> exact ⟨by decide,by decide⟩
 ·rw [D _ _ _ j hj]
  by_cases j6 : j = 6
  ·subst j6; rw [f6]; simp
  by_cases j7 : j = 7
  ·subst j7; rw [f7]; simp
  by_cases j8 : j = 8
  ·subst j8; rw [f8]; simp
  rw [e j hj (by simp; omega)]
  simp [j6,j7,j8]
theorem andNot247 (n : Int) (h : -9223372036854775808 ≤ n ∧ n ≤ 9223372036854775807) : (bits .andNot .i64 n 247 == 0) = decide (0 ≤ n ∧ n < 256 ∧ bitB n 8 = false) := by
 rw [Bool.eq_iff_iff,beq_iff_eq,decide_eq_true_iff]
 have hl := andNot_low n h.1 h.2 8 (by decide) 255 m255
 constructor
 ·intro e
  have hb : ∀ j,j < 64 → (bitB n (2 ^ j) && !bitB 247 (2 ^ j)) = false := fun j hj => by rw [← bit_andNot n 247 j hj,e,bit_zero]
  have e2 : bits .andNot .i64 n 255 = 0 := ext64 (andNot_in n 255) ⟨by decide,by decide⟩ (fun j hj => by
   rw [bit_andNot n 255 j hj,bit_zero,m255 j hj]
   have := hb j hj
   rw [m247 j hj] at this
   by_cases j8 : j < 8
   ·simp [j8]
   ·simpa [j8] using this)
  have h3 := hb 3 (by decide)
  have h4 := hl.1 e2
  exact ⟨h4.1,h4.2,by rw [m247 3 (by decide)] at h3; simpa using h3⟩
 ·rintro ⟨h0,h1,h3⟩
  have e2 := hl.2 ⟨h0,h1⟩
  refine ext64 (andNot_in n 247) ⟨by decide,by decide⟩ (fun j hj => ?_)
  have h5 := bit_andNot n 255 j hj
  rw [e2,bit_zero,m255 j hj] at h5
  rw [bit_andNot n 247 j hj,bit_zero,m247 j hj]
  by_cases j3 : j = 3
  ·subst j3
   rw [show bitB n (2 ^ 3) = false from h3]
   rfl
  ·simpa [j3] using h5.symm
theorem andNot15 (n : Int) (h : -9223372036854775808 ≤ n ∧ n ≤ 9223372036854775807) : (bits .andNot .i64 n 15 == 0) = decide (0 ≤ n ∧ n < 16) := by
 have := andNot_low n h.1 h.2 4 (by decide) 15 low15
 rw [Bool.eq_iff_iff,beq_iff_eq,decide_eq_true_iff]
 exact this
theorem m16 : ∀ j,j < 64 → bitB 16 (2 ^ j) = decide (j = 4) := by decide
theorem andNot16 (n : Int) (h : -9223372036854775808 ≤ n ∧ n ≤ 9223372036854775807) : bits .andNot .i64 n 16 = if bitB n 16 = true then n - 16 else n := by
 cases hb : bitB n 16 with
 | false =>
  rw [if_neg (by decide)]
  refine ext64 (andNot_in n 16) h (fun j hj => ?_)
  rw [bit_andNot n 16 j hj,m16 j hj]
  by_cases j4 : j = 4
  ·subst j4
   rw [show bitB n (2 ^ 4) = false from hb]
   rfl
  ·simp [j4]
 | true =>
  rw [if_pos rfl]
  have hi := andNot_in n 16
  have h4 := bit_andNot n 16 4 (by decide)
  rw [m16 4 (by decide),show bitB n (2 ^ 4) = true from hb] at h4
  rw [i64_andNot] at hi h4 ⊢
  have hx : BitVec.ofInt 64 n = (BitVec.ofInt 64 n &&& ~~~ BitVec.ofInt 64 16) + BitVec.ofInt 64 16 := by
   rw [BitVec.add_eq_or_of_and_eq_zero]
   ·apply BitVec.eq_of_getLsbD_eq
    intro j hj
    rw [BitVec.getLsbD_or,BitVec.getLsbD_and,BitVec.getLsbD_not,lsb_bit n j hj,lsb_bit 16 j hj,m16 j hj]
    by_cases j4 : j = 4
    ·subst j4
     rw [show bitB n (2 ^ 4) = true from hb]
     rfl
    ·simp [j4,hj]
   ·apply BitVec.eq_of_getLsbD_eq
    intro j hj
    rw [BitVec.getLsbD_and,BitVec.getLsbD_and,BitVec.getLsbD_not]
    cases (BitVec.ofInt 64 16).getLsbD j <;> simp
  have hn : (BitVec.ofInt 64 n).toInt = n := by rw [BitVec.toInt_ofInt,Int.bmod_def]; split <;> omega
  have e2 := congrArg BitVec.toInt hx
  rw [BitVec.toInt_add,hn] at e2
  generalize (BitVec.ofInt 64 n &&& ~~~ BitVec.ofInt 64 16).toInt = r at *
  rw [show (BitVec.ofInt 64 16).toInt = 16 from rfl,Int.bmod_def] at e2
  unfold bitB at h4
  simp at h4
  split at e2 <;> omega
theorem bit_and1 (a b : Int) : bitB (bits .and .i64 a b) 1 = (bitB a 1 && bitB b 1) := bit_and a b 0 (by decide)
theorem bit_and2 (a b : Int) : bitB (bits .and .i64 a b) 2 = (bitB a 2 && bitB b 2) := bit_and a b 1 (by decide)
theorem bit_and4 (a b : Int) : bitB (bits .and .i64 a b) 4 = (bitB a 4 && bitB b 4) := bit_and a b 2 (by decide)
end Go.Proofs.YtpijkgbafjccaaaGreatDoor
