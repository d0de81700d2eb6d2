/-
  Plain mathematics of boxes: how one is cut off some bytes, what a number's box holds, how a box is told as a text; no program. Conditions: none.
-/
import Derived.Lib.ItoaLen
import Derived.Lib.BitFns
import Derived.Test.YtbanfbpfapjfcaaDoorPure
namespace Go.Proofs.YtbanfbpfapjfcaaDoor.Box

/-- The length that some bytes begin with, and what is behind it. -/
def cutLen (l : List UInt8) : Option (Nat × List UInt8) :=
  if 1 ≤ l.length ∧ (l.getD 0 0).toNat < 128 then some ((l.getD 0 0).toNat, l.drop 1)
  else if 2 ≤ l.length ∧ (l.getD 0 0).toNat = 129 then (if 128 ≤ (l.getD 1 0).toNat then some ((l.getD 1 0).toNat, l.drop 2) else none)
  else if 3 ≤ l.length ∧ (l.getD 0 0).toNat = 130 then (if 256 ≤ (l.getD 1 0).toNat * 256 + (l.getD 2 0).toNat then some ((l.getD 1 0).toNat * 256 + (l.getD 2 0).toNat, l.drop 3) else none)
  else none

/-- The first box of some bytes: its tag, what is in it, what is behind it. -/
def cut (l : List UInt8) : Option (UInt8 × List UInt8 × List UInt8) :=
  if l.length = 0 then none
  else match cutLen (l.drop 1) with
    | some (n, r) => if n ≤ r.length then some (l.getD 0 0, r.take n, r.drop n) else none
    | none => none

/-- A byte as a number with a sign. -/
def sign (b : UInt8) : Int := if b.toNat < 128 then b.toNat else (b.toNat : Int) - 256
/-- What a number's bytes say. -/
def valFrom (v : Int) (l : List UInt8) : Int := l.foldl (fun a b => a * 256 + (b.toNat : Int)) v
def val (l : List UInt8) : Int := valFrom (sign (l.getD 0 0)) (l.drop 1)

/-- As few bytes as hold a number. -/
def size (v : Int) : Nat :=
  if -128 ≤ v ∧ v < 128 then 1
  else if -32768 ≤ v ∧ v < 32768 then 2
  else if -8388608 ≤ v ∧ v < 8388608 then 3
  else if -2147483648 ≤ v ∧ v < 2147483648 then 4
  else if -549755813888 ≤ v ∧ v < 549755813888 then 5
  else if -140737488355328 ≤ v ∧ v < 140737488355328 then 6
  else if -36028797018963968 ≤ v ∧ v < 36028797018963968 then 7
  else 8

/-- The number in a number's box. -/
def num (l : List UInt8) : Option Int := if 1 ≤ l.length ∧ l.length ≤ 8 ∧ size (val l) = l.length then some (val l) else none

theorem sign_bounds (b : UInt8) : -128 ≤ sign b ∧ sign b < 128 := by
  have := b.toNat_lt
  unfold sign
  split <;> omega

theorem valFrom_nil (v : Int) : valFrom v [] = v := rfl
theorem valFrom_cons (v : Int) (b : UInt8) (l : List UInt8) : valFrom v (b :: l) = valFrom (v * 256 + (b.toNat : Int)) l := rfl
theorem valFrom_snoc (v : Int) (l : List UInt8) (b : UInt8) : valFrom v (l ++ [b]) = valFrom v l * 256 + (b.toNat : Int) := by simp [valFrom]

theorem valFrom_bounds {M : Int} (l : List UInt8) (v : Int) (h0 : -M ≤ v) (h1 : v < M) : -(M * 256 ^ l.length) ≤ valFrom v l ∧ valFrom v l < M * 256 ^ l.length := by
  induction l generalizing v M with
  | nil => simp [valFrom]; omega
  | cons b l ih =>
    have hb := b.toNat_lt
    have h := ih (M := M * 256) (v * 256 + (b.toNat : Int)) (by omega) (by omega)
    rw [valFrom_cons, List.length_cons, Int.pow_succ, Int.mul_comm (256 ^ l.length) 256, ← Int.mul_assoc]
    exact h

theorem val_bounds {l : List UInt8} (h1 : 1 ≤ l.length) (h8 : l.length ≤ 8) : -9223372036854775808 ≤ val l ∧ val l ≤ 9223372036854775807 := by
  have hs := sign_bounds (l.getD 0 0)
  have h := valFrom_bounds (M := 128) (l.drop 1) _ hs.1 hs.2
  have hk : l.length - 1 ≤ 7 := by omega
  have e : (l.drop 1).length = l.length - 1 := by simp
  rw [e] at h
  have hp : (256 : Int) ^ (l.length - 1) ≤ 256 ^ 7 := by
    have : (256 : Nat) ^ (l.length - 1) ≤ 256 ^ 7 := Nat.pow_le_pow_right (by decide) hk
    rw [show (256 : Int) = ((256 : Nat) : Int) from rfl, ← Int.natCast_pow, ← Int.natCast_pow]
    exact Int.ofNat_le.2 this
  unfold val
  have e7 : (256 : Int) ^ 7 = 72057594037927936 := by decide
  rw [e7] at hp
  omega

theorem bitLen_le {k x : Nat} (hx : x < 2 ^ 64) : Lib.bitLen x ≤ k ↔ x < 2 ^ k := by
  induction k generalizing x with
  | zero =>
    by_cases h : x = 0
    · subst h; simp [Lib.bitLen, Lib.bitLenAux]
    · rw [Lib.bitLen_half x h hx]; simp; omega
  | succ k ih =>
    by_cases h : x = 0
    · subst h; simp [Lib.bitLen, Lib.bitLenAux]; exact Nat.two_pow_pos _
    · rw [Lib.bitLen_half x h hx, Nat.pow_succ]
      have := ih (x := x / 2) (by omega)
      omega

/-- The size by way of how many bits are needed. -/
theorem size_bits (v : Int) (h0 : -9223372036854775808 ≤ v) (h1 : v ≤ 9223372036854775807) (m : Nat) (hm : (m : Int) = if v < 0 then -v - 1 else v) :
    (Lib.bitLen m + 8) / 8 = size v := by
  have hx : m < 2 ^ 64 := by split at hm <;> omega
  have l7 := bitLen_le (k := 7) hx
  have l15 := bitLen_le (k := 15) hx
  have l23 := bitLen_le (k := 23) hx
  have l31 := bitLen_le (k := 31) hx
  have l39 := bitLen_le (k := 39) hx
  have l47 := bitLen_le (k := 47) hx
  have l55 := bitLen_le (k := 55) hx
  have l63 := bitLen_le (k := 63) hx
  simp only [Nat.reducePow] at *
  unfold size
  split at hm <;> (repeat' split) <;> omega

/-- The two hexadecimal digits of a byte. -/
def dig (n : Nat) : UInt8 := if n < 10 then UInt8.ofNat (48 + n) else UInt8.ofNat (87 + n)
def hex (l : List UInt8) : List UInt8 := l.flatMap fun b => [dig (b.toNat / 16), dig (b.toNat % 16)]
theorem hex_length (l : List UInt8) : (hex l).length = 2 * l.length := by
  induction l with
  | nil => rfl
  | cons b l ih => simp only [hex, List.flatMap_cons, List.length_append, List.length_cons, List.length_nil] at *; omega
theorem hex_append (a b : List UInt8) : hex (a ++ b) = hex a ++ hex b := by simp [hex]

/-- Boxes one behind the other, each told. -/
def all (sh : List UInt8 → Option (List UInt8 × List UInt8)) : Nat → List UInt8 → Option (List (List UInt8))
  | 0, l => if l.length = 0 then some [] else none
  | n + 1, l => if l.length = 0 then some [] else
    match sh l with
    | none => none
    | some (t, r) => (all sh n r).map (t :: ·)

/-- Texts with a comma between each two. -/
def commas : List (List UInt8) → List UInt8
  | [] => []
  | [t] => t
  | t :: ts => t ++ 44 :: commas ts

/-- A box as a text; lists in one another at most so deep. -/
def leaf (tag : UInt8) (l : List UInt8) : Option (List UInt8) :=
  if tag.toNat = 2 then (num l).map Lib.itoa else if tag.toNat = 4 then some (34 :: hex l ++ [34]) else none
def piece (inner : List UInt8 → Option (List (List UInt8))) (tag : UInt8) (l : List UInt8) : Option (List UInt8) :=
  if tag.toNat = 48 then (inner l).map fun ts => 123 :: commas ts ++ [125] else leaf tag l
def show1 : Nat → List UInt8 → Option (List UInt8 × List UInt8)
  | 0, l => match cut l with
    | none => none
    | some (tag, i, r) => (leaf tag i).map (·, r)
  | d + 1, l => match cut l with
    | none => none
    | some (tag, i, r) => (piece (fun i => all (show1 d) i.length i) tag i).map (·, r)

/-- The whole: one box, nothing behind it. -/
def whole (l : List UInt8) : Option (List UInt8) :=
  match show1 8 l with
  | some (t, []) => some t
  | _ => none

theorem cutLen_length {l r : List UInt8} {n : Nat} (h : cutLen l = some (n, r)) : r.length < l.length := by
  unfold cutLen at h
  (repeat' split at h) <;> simp at h <;> obtain ⟨_, rfl⟩ := h <;> simp <;> omega

theorem cut_length {l i r : List UInt8} {tag : UInt8} (h : cut l = some (tag, i, r)) : i.length + r.length + 2 ≤ l.length := by
  unfold cut at h
  split at h
  · simp at h
  · split at h
    · rename_i n r' h'
      have := cutLen_length h'
      split at h
      · simp at h
        obtain ⟨_, rfl, rfl⟩ := h
        simp at *
        omega
      · simp at h
    · simp at h
end Go.Proofs.YtbanfbpfapjfcaaDoor.Box
