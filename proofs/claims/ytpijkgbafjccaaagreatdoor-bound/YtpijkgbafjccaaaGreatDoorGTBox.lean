/-
  
  
-/
import Derived.Lib.ItoaLen
import Derived.Lib.BitFns
import Derived.Test.YtpijkgbafjccaaaGreatDoorGTPure
namespace Go.Proofs.YtpijkgbafjccaaaGreatDoor.Box
def cutLen (l : List UInt8) : Option (Nat × List UInt8) :=
 if 1 ≤ l.length ∧ (l.getD 0 0).toNat < 128 then some ((l.getD 0 0).toNat,l.drop 1)
 else if 2 ≤ l.length ∧ (l.getD 0 0).toNat = 129 then (if 128 ≤ (l.getD 1 0).toNat then some ((l.getD 1 0).toNat,l.drop 2) else none)
 else if 3 ≤ l.length ∧ (l.getD 0 0).toNat = 130 then (if 256 ≤ (l.getD 1 0).toNat * 256 + (l.getD 2 0).toNat then some ((l.getD 1 0).toNat * 256 + (l.getD 2 0).toNat,l.drop 3) else none)
 else none
def cut (l : List UInt8) : Option (UInt8 × List UInt8 × List UInt8) :=
 if l.length = 0 then none
 else match cutLen (l.drop 1) with
  | some (n,r) => if n ≤ r.length then some (l.getD 0 0,r.take n,r.drop n) else none
  | none => none
def sign (b : UInt8) : Int := if b.toNat < 128 then b.toNat else (b.toNat : Int) - 256
def valFrom (v : Int) (l : List UInt8) : Int := l.foldl (fun a b => a * 256 + (b.toNat : Int)) v
def val (l : List UInt8) : Int := valFrom (sign (l.getD 0 0)) (l.drop 1)
def size (v : Int) : Nat :=
 if -128 ≤ v ∧ v < 128 then 1
 else if -32768 ≤ v ∧ v < 32768 then 2
 else if -8388608 ≤ v ∧ v < 8388608 then 3
 else if -2147483648 ≤ v ∧ v < 2147483648 then 4
 else if -549755813888 ≤ v ∧ v < 549755813888 then 5
 else if -140737488355328 ≤ v ∧ v < 140737488355328 then 6
 else if -36028797018963968 ≤ v ∧ v < 36028797018963968 then 7
 else 8
def num (l : List UInt8) : Option Int := if 1 ≤ l.length ∧ l.length ≤ 8 ∧ size (val l) = l.length then some (val l) else none
theorem sign_bounds (b : UInt8) : -128 ≤ sign b ∧ sign b < 128 := by
 have := b.toNat_lt
 unfold sign
 split <;> omega
theorem valFrom_nil (v : Int) : valFrom v [] = v := rfl
theorem valFrom_cons (v : Int) (b : UInt8) (l : List UInt8) : valFrom v (b :: l) = valFrom (v * 256 + (b.toNat : Int)) l := rfl
theorem valFrom_snoc (v : Int) (l : List UInt8) (b : UInt8) : valFrom v (l ++ [b]) = valFrom v l * 256 + (b.toNat : Int) := by simp [valFrom]
theorem valFrom_bounds {M : Int} (l : List UInt8) (v : Int) (h0 : -M ≤ v) (h1 : v < M) : -(M * 256 ^ l.length) ≤ valFrom v l ∧ valFrom v l < M * 256 ^ l.length := by
 induction l generalizing v M with
 | nil => simp [valFrom]; omega
 | cons b l ih =>
  have hb := b.toNat_lt
  have h := ih (M := M * 256) (v * 256 + (b.toNat : Int)) (by omega) (by omega)
  rw [valFrom_cons,List.length_cons,Int.pow_succ,Int.mul_comm (256 ^ l.length) 256,← Int.mul_assoc]
  exact h
theorem val_bounds {l : List UInt8} (h1 : 1 ≤ l.length) (h8 : l.length ≤ 8) : -9223372036854775808 ≤ val l ∧ val l ≤ 9223372036854775807 := by
 have hs := sign_bounds (l.getD 0 0)
 have h := valFrom_bounds (M := 128) (l.drop 1) _ hs.1 hs.2
 have hk : l.length - 1 ≤ 7 := by omega
 have e : (l.drop 1).length = l.length - 1 := by simp
 rw [e] at h
 have hp : (256 : Int) ^ (l.length - 1) ≤ 256 ^ 7 := by
  have : (256 : Nat) ^ (l.length - 1) ≤ 256 ^ 7 := Nat.pow_le_pow_right (by decide) hk
  rw [show (256 : Int) = ((256 : Nat) : Int) from rfl,← Int.natCast_pow,← Int.natCast_pow]
  exact Int.ofNat_le.2 this
 unfold val
 have e7 : (256 : Int) ^ 7 = 72057594037927936 := by decide
 rw [e7] at hp
 omega
theorem bitLen_le {k x : Nat} (hx : x < 2 ^ 64) : Lib.bitLen x ≤ k ↔ x < 2 ^ k := by
 induction k generalizing x with
 | zero =>
  by_cases h : x = 0
  ·subst h; simp [Lib.bitLen,Lib.bitLenAux]
  ·rw [Lib.bitLen_half x h hx]; simp; omega
 | succ k ih =>
  by_cases h : x = 0
  ·subst h; simp [Lib.bitLen,Lib.bitLenAux]; exact Nat.two_pow_pos _
  ·rw [Lib.bitLen_half x h hx,Nat.pow_succ]
   have := ih (x := x / 2) (by omega)
   omega
theorem size_bits (v : Int) (h0 : -9223372036854775808 ≤ v) (h1 : v ≤ 9223372036854775807) (m : Nat) (hm : (m : Int) = if v < 0 then -v - 1 else v) :
  (Lib.bitLen m + 8) / 8 = size v := by
 have hx : m < 2 ^ 64 := by split at hm <;> omega
 have l7 := bitLen_le (k := 7) hx
 have l15 := bitLen_le (k := 15) hx
 have l23 := bitLen_le (k := 23) hx
 have l31 := bitLen_le (k := 31) hx
 have l39 := bitLen_le (k := 39) hx
 have l47 := bitLen_le (k := 47) hx
 have l55 := bitLen_le (k := 55) hx
 have l63 := bitLen_le (k := 63) hx
 simp only [Nat.reducePow] at *
 unfold size
 split at hm <;> (repeat' split) <;> omega
def dig (n : Nat) : UInt8 := if n < 10 then UInt8.ofNat (48 + n) else UInt8.ofNat (87 + n)
def hex (l : List UInt8) : List UInt8 := l.flatMap fun b => [dig (b.toNat / 16),dig (b.toNat % 16)]
theorem hex_length (l : List UInt8) : (hex l).length = 2 * l.length := by
 induction l with
 | nil => rfl
 | cons b l ih => simp only [hex,List.flatMap_cons,List.length_append,List.length_cons,List.length_nil] at *; omega
theorem hex_append (a b : List UInt8) : hex (a ++ b) = hex a ++ hex b := by simp [hex]
def all (sh : List UInt8 → Option (List UInt8 × List UInt8)) : Nat → List UInt8 → Option (List (List UInt8))
 | 0,l => if l.length = 0 then some [] else none
 | n + 1,l => if l.length = 0 then some [] else
  match sh l with
  | none => none
  | some (t,r) => (all sh n r).map (t :: ·)
def commas : List (List UInt8) → List UInt8
 | [] => []
 | [t] => t
 | t :: ts => t ++ 44 :: commas ts
def leaf (tag : UInt8) (l : List UInt8) : Option (List UInt8) :=
 if tag.toNat = 2 then (num l).map Lib.itoa else if tag.toNat = 4 then some (34 :: hex l ++ [34]) else none
def piece (inner : List UInt8 → Option (List (List UInt8))) (tag : UInt8) (l : List UInt8) : Option (List UInt8) :=
 if tag.toNat = 48 then (inner l).map fun ts => 123 :: commas ts ++ [125] else leaf tag l
def show1 : Nat → List UInt8 → Option (List UInt8 × List UInt8)
 | 0,l => match cut l with
  | none => none
  | some (tag,i,r) => (leaf tag i).map (·,r)
 | d + 1,l => match cut l with
  | none => none
  | some (tag,i,r) => (piece (fun i => all (show1 d) i.length i) tag i).map (·,r)
def whole (l : List UInt8) : Option (List UInt8) :=
 match show1 8 l with
 | some (t,[]) => some t
 | _ => none
theorem cutLen_length {l r : List UInt8} {n : Nat} (h : cutLen l = some (n,r)) : r.length < l.length := by
 unfold cutLen at h
 (repeat' split at h) <;> simp at h <;> obtain ⟨_,rfl⟩ := h <;> simp <;> omega
theorem cut_length {l i r : List UInt8} {tag : UInt8} (h : cut l = some (tag,i,r)) : i.length + r.length + 2 ≤ l.length := by
 unfold cut at h
 split at h
 ·simp at h
 ·split at h
  ·rename_i n r' h'
   have := cutLen_length h'
   split at h
   ·simp at h
    obtain ⟨_,rfl,rfl⟩ := h
    simp at *
    omega
   ·simp at h
  ·simp at h
end Go.Proofs.YtpijkgbafjccaaaGreatDoor.Box
namespace Go.Proofs.YtpijkgbafjccaaaGreatDoor.Box
def allL (sh : List UInt8 → Option (List UInt8 × List UInt8)) (l : List UInt8) : Option (List (List UInt8)) := all sh l.length l
def Shrinks (sh : List UInt8 → Option (List UInt8 × List UInt8)) : Prop := ∀ l t r,sh l = some (t,r) → r.length < l.length
theorem all_fuel {sh : List UInt8 → Option (List UInt8 × List UInt8)} (hs : Shrinks sh) : ∀ (n : Nat) (l : List UInt8),l.length ≤ n → all sh n l = allL sh l := by
 suffices H : ∀ (n m : Nat) (l : List UInt8),l.length ≤ n → l.length ≤ m → all sh n l = all sh m l from fun n l h => H n l.length l h (Nat.le_refl _)
 intro n
 induction n with
 | zero =>
  intro m l h1 _
  have h0 : l.length = 0 := by omega
  cases m with
  | zero => rfl
  | succ m => simp [all,h0]
 | succ n ih =>
  intro m l h1 h2
  cases m with
  | zero =>
   have h0 : l.length = 0 := by omega
   simp [all,h0]
  | succ m =>
   by_cases h0 : l.length = 0
   ·simp [all,h0]
   ·simp only [all,if_neg h0]
    cases h : sh l with
    | none => rfl
    | some tr =>
     obtain ⟨t,r⟩ := tr
     have := hs l t r h
     simp only
     rw [ih m r (by omega) (by omega)]
theorem allL_nil (sh : List UInt8 → Option (List UInt8 × List UInt8)) : allL sh [] = some [] := rfl
theorem allL_none {sh : List UInt8 → Option (List UInt8 × List UInt8)} {l : List UInt8} (h0 : 0 < l.length) (h : sh l = none) : allL sh l = none := by
 unfold allL
 obtain ⟨m,hm⟩ : ∃ m,l.length = m + 1 := ⟨l.length - 1,by omega⟩
 rw [hm,all,if_neg (by omega),h]
theorem allL_some {sh : List UInt8 → Option (List UInt8 × List UInt8)} (hs : Shrinks sh) {l t r : List UInt8} (h : sh l = some (t,r)) : allL sh l = (allL sh r).map (t :: ·) := by
 have hlt := hs l t r h
 unfold allL
 obtain ⟨m,hm⟩ : ∃ m,l.length = m + 1 := ⟨l.length - 1,by omega⟩
 rw [hm,all,if_neg (by omega),h]
 simp only
 rw [all_fuel hs m r (by omega)]
 rfl
theorem show1_shrinks (d : Nat) : Shrinks (show1 d) := by
 intro l t r h
 cases d with
 | zero =>
  rw [show1] at h
  split at h
  ·simp at h
  ·rename_i tag i r' hc
   have := cut_length hc
   simp only [Option.map_eq_some_iff,Prod.mk.injEq] at h
   obtain ⟨_,_,_,rfl⟩ := h
   omega
 | succ d =>
  rw [show1] at h
  split at h
  ·simp at h
  ·rename_i tag i r' hc
   have := cut_length hc
   simp only [Option.map_eq_some_iff,Prod.mk.injEq] at h
   obtain ⟨_,_,_,rfl⟩ := h
   omega
theorem commas_snoc (ts : List (List UInt8)) (t : List UInt8) : commas (ts ++ [t]) = if ts = [] then t else commas ts ++ 44 :: t := by
 induction ts with
 | nil => rfl
 | cons a ts ih =>
  cases ts with
  | nil => rfl
  | cons b ts =>
   rw [if_neg (by simp)] at *
   show a ++ 44 :: commas ((b :: ts) ++ [t]) = (a ++ 44 :: commas (b :: ts)) ++ 44 :: t
   rw [ih]
   simp
def Told (sh : List UInt8 → Option (List UInt8 × List UInt8)) : Prop := ∀ l t r,sh l = some (t,r) → t.length + 1 + 22 * r.length ≤ 22 * l.length
theorem commas_cons_le (t : List UInt8) (ts : List (List UInt8)) : (commas (t :: ts)).length ≤ t.length + 1 + (commas ts).length := by
 cases ts with
 | nil => simp [commas]
 | cons b ts => simp [commas]; omega
theorem allL_length {sh : List UInt8 → Option (List UInt8 × List UInt8)} (hs : Shrinks sh) (ht : Told sh) : ∀ (n : Nat) (l : List UInt8) (ts : List (List UInt8)),l.length ≤ n → allL sh l = some ts → (commas ts).length ≤ 22 * l.length := by
 intro n
 induction n with
 | zero =>
  intro l ts h1 h
  have : l = [] := List.eq_nil_of_length_eq_zero (by omega)
  subst this
  rw [allL_nil] at h
  simp only [Option.some.injEq] at h
  subst h
  simp [commas]
 | succ n ih =>
  intro l ts h1 h
  cases hl : sh l with
  | none =>
   by_cases h0 : 0 < l.length
   ·rw [allL_none h0 hl] at h; simp at h
   ·have : l = [] := List.eq_nil_of_length_eq_zero (by omega)
    subst this
    rw [allL_nil] at h
    simp only [Option.some.injEq] at h
    subst h
    simp [commas]
  | some tr =>
   obtain ⟨t,r⟩ := tr
   rw [allL_some hs hl] at h
   simp only [Option.map_eq_some_iff] at h
   obtain ⟨ts',h',rfl⟩ := h
   have h2 := hs l t r hl
   have h3 := ih r ts' (by omega) h'
   have h4 := ht l t r hl
   have h5 := commas_cons_le t ts'
   omega
theorem leaf_length {tag : UInt8} {i t : List UInt8} (h : leaf tag i = some t) : t.length ≤ 21 + 2 * i.length := by
 unfold leaf at h
 split at h
 ·simp only [Option.map_eq_some_iff] at h
  obtain ⟨v,hv,rfl⟩ := h
  unfold num at hv
  split at hv
  ·rename_i hc
   simp only [Option.some.injEq] at hv
   subst hv
   have hb := val_bounds hc.1 hc.2.1
   have := Lib.itoa_length_le _ hb.1 hb.2
   omega
  ·simp at hv
 ·split at h
  ·simp only [Option.some.injEq] at h
   subst h
   simp [hex_length]
   omega
  ·simp at h
theorem show1_told (d : Nat) : Told (show1 d) := by
 induction d with
 | zero =>
  intro l t r h
  rw [show1] at h
  split at h
  ·simp at h
  ·rename_i tag i r' hc
   have := cut_length hc
   simp only [Option.map_eq_some_iff,Prod.mk.injEq] at h
   obtain ⟨t',ht,rfl,rfl⟩ := h
   have := leaf_length ht
   omega
 | succ d ih =>
  intro l t r h
  rw [show1] at h
  split at h
  ·simp at h
  ·rename_i tag i r' hc
   have := cut_length hc
   simp only [Option.map_eq_some_iff,Prod.mk.injEq] at h
   obtain ⟨t',ht,rfl,rfl⟩ := h
   unfold piece at ht
   split at ht
   ·simp only [Option.map_eq_some_iff] at ht
    obtain ⟨ts,h1,rfl⟩ := ht
    have := allL_length (show1_shrinks d) ih i.length i ts (Nat.le_refl _) h1
    simp
    omega
   ·have := leaf_length ht
    omega
end Go.Proofs.YtpijkgbafjccaaaGreatDoor.Box
