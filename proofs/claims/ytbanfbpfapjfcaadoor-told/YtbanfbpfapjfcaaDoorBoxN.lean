/-
  Plain mathematics: a box that was written is cut off again; a number's bytes say it; a box with a byte more or less is none. Conditions: in each statement.
-/
import Derived.Test.YtbanfbpfapjfcaaDoorBoxM
namespace Go.Proofs.YtbanfbpfapjfcaaDoor.Box

theorem cut_box (tag : UInt8) (l r : List UInt8) (h : l.length ≤ 65535) : cut (box tag l ++ r) = some (tag, l, r) := by
  rw [box, head]
  by_cases h1 : l.length < 128
  · rw [if_pos h1]
    have e : (UInt8.ofNat l.length).toNat = l.length := by rw [UInt8.toNat_ofNat', Nat.mod_eq_of_lt (by omega)]
    simp [cut, cutLen, e, h1]
  · rw [if_neg h1]
    by_cases h2 : l.length < 256
    · rw [if_pos h2]
      have e : (UInt8.ofNat l.length).toNat = l.length := by rw [UInt8.toNat_ofNat', Nat.mod_eq_of_lt (by omega)]
      have h3 : 128 ≤ l.length := by omega
      simp [cut, cutLen, e, h3]
    · rw [if_neg h2]
      have e1 : (UInt8.ofNat (l.length / 256)).toNat = l.length / 256 := by rw [UInt8.toNat_ofNat', Nat.mod_eq_of_lt (by omega)]
      have e2 : (UInt8.ofNat (l.length % 256)).toNat = l.length % 256 := by rw [UInt8.toNat_ofNat', Nat.mod_eq_of_lt (by omega)]
      have h3 : 256 ≤ l.length / 256 * 256 + l.length % 256 := by omega
      have h4 : l.length / 256 * 256 + l.length % 256 = l.length := by omega
      rw [h4] at h3
      simp [cut, cutLen, e1, e2, h4, h3]
theorem cutsL_box (tag : UInt8) (l r : List UInt8) (h : l.length ≤ 65535) : cutsL (box tag l ++ r) = (cutsL r).map ((tag, l) :: ·) := cutsL_some (cut_box tag l r h)

theorem byteI_add (v : Int) : v = v / 256 * 256 + ((byteI v 0).toNat : Int) := by
  unfold byteI
  rw [Nat.mul_zero, Int.pow_zero, Int.ediv_one, UInt8.toNat_ofNat', Nat.mod_eq_of_lt (by omega)]
  omega
theorem low_succ (v : Int) (k : Nat) : low v (k + 1) = low (v / 256) k ++ [byteI v 0] := by
  have := low_snoc (v / 256) (byteI v 0) k
  rw [← byteI_add] at this
  exact this
theorem val_snoc {l : List UInt8} (h : 1 ≤ l.length) (b : UInt8) : val (l ++ [b]) = val l * 256 + (b.toNat : Int) := by
  cases l with
  | nil => simp at h
  | cons a l => simp only [val, List.cons_append, List.getD_cons_zero, List.drop_succ_cons, List.drop_zero]; rw [valFrom_snoc]
theorem val_low : ∀ (k : Nat) (v M : Int), M = 128 * 256 ^ k → -M ≤ v → v < M → val (low v (k + 1)) = v := by
  intro k
  induction k with
  | zero =>
    intro v M hM h0 h1
    rw [Int.pow_zero] at hM
    have e : low v 1 = [byteI v 0] := rfl
    rw [e]
    simp only [val, List.getD_cons_zero, List.drop_succ_cons, List.drop_zero, valFrom_nil]
    have hb := byteI_add v
    have hl := (byteI v 0).toNat_lt
    unfold sign
    split <;> omega
  | succ k ih =>
    intro v M hM h0 h1
    rw [low_succ, val_snoc (by rw [low_length]; omega)]
    have hM' : M = 128 * 256 ^ k * 256 := by rw [hM, Int.pow_succ, Int.mul_assoc]
    rw [ih (v / 256) (128 * 256 ^ k) rfl (by omega) (by omega), ← byteI_add]
theorem num_low (v : Int) (h0 : -9223372036854775808 ≤ v) (h1 : v ≤ 9223372036854775807) : num (low v (size v)) = some v := by
  have hs := size_bounds v
  have hv : val (low v (size v)) = v := by
    obtain ⟨k, hk⟩ : ∃ k, size v = k + 1 := ⟨size v - 1, by omega⟩
    rw [hk]
    have hk8 : k = 0 ∨ k = 1 ∨ k = 2 ∨ k = 3 ∨ k = 4 ∨ k = 5 ∨ k = 6 ∨ k = 7 := by omega
    rcases hk8 with rfl | rfl | rfl | rfl | rfl | rfl | rfl | rfl
    all_goals
      refine val_low _ v _ rfl ?_ ?_ <;> simp only [Int.reducePow, Int.reduceMul] <;> unfold size at hk <;> (repeat' split at hk) <;> omega
  rw [num, hv, low_length, if_pos ⟨hs.1, hs.2, rfl⟩]

/-- One byte less is no box. -/
theorem cut_less (tag : UInt8) (l : List UInt8) (h1 : 1 ≤ l.length) (h : l.length ≤ 255) : cut ((box tag l).take ((box tag l).length - 1)) = none := by
  obtain ⟨x, y, hl⟩ : ∃ x y, l = x ++ [y] := ⟨l.dropLast, l.getLast (by intro e; rw [e] at h1; simp at h1), (List.dropLast_concat_getLast _).symm⟩
  have hb : (box tag l).take ((box tag l).length - 1) = head tag l.length ++ x := by
    have e : box tag l = (head tag l.length ++ x) ++ [y] := by
      rw [box]
      conv => lhs; rw [hl]
      simp [hl]
    rw [e]
    have : ((head tag l.length ++ x) ++ [y]).length - 1 = (head tag l.length ++ x).length := by simp
    rw [this, List.take_left]
  have hx : x.length + 1 = l.length := by rw [hl]; simp
  rw [hb, head]
  by_cases h2 : l.length < 128
  · rw [if_pos h2]
    have e : (UInt8.ofNat l.length).toNat = l.length := by rw [UInt8.toNat_ofNat', Nat.mod_eq_of_lt (by omega)]
    have h3 : ¬ l.length ≤ x.length := by omega
    simp [cut, cutLen, e, h2]
    omega
  · rw [if_neg h2, if_pos (by omega)]
    have e : (UInt8.ofNat l.length).toNat = l.length := by rw [UInt8.toNat_ofNat', Nat.mod_eq_of_lt (by omega)]
    have h3 : 128 ≤ l.length := by omega
    simp [cut, cutLen, e, h3]
    omega
end Go.Proofs.YtbanfbpfapjfcaaDoor.Box

namespace Go.Proofs.YtbanfbpfapjfcaaDoor
open Go.RowKit

/-- A number's box; some of them, one behind the other. -/
def numBox (v : Int) : List UInt8 := Box.box 2 (Box.low v (Box.size v))
def numsCat (l : List Int) : List UInt8 := (l.map numBox).flatten
theorem numBox_length (v : Int) : 3 ≤ (numBox v).length ∧ (numBox v).length ≤ 10 := by
  have := size_bounds v
  rw [numBox, Box.box_length, Box.low_length, if_pos (by omega)]
  omega
theorem numsCat_length (l : List Int) : (numsCat l).length ≤ 10 * l.length := by
  induction l with
  | nil => simp [numsCat]
  | cons v l ih =>
    have := (numBox_length v).2
    simp only [numsCat, List.map_cons, List.flatten_cons, List.length_append, List.length_cons] at *
    omega
theorem cutsL_nums (l : List Int) : Box.cutsL (numsCat l) = some (l.map fun v => ((2 : UInt8), Box.low v (Box.size v))) := by
  induction l with
  | nil => rfl
  | cons v l ih =>
    have e : numsCat (v :: l) = Box.box 2 (Box.low v (Box.size v)) ++ numsCat l := by simp [numsCat, numBox]
    have := size_bounds v
    rw [e, Box.cutsL_box _ _ _ (by rw [Box.low_length]; omega), ih]
    rfl
def I64' (v : Int) : Prop := -9223372036854775808 ≤ v ∧ v ≤ 9223372036854775807
theorem tells_nums (d : Nat) (l : List Int) (h : ∀ v ∈ l, I64' v) : Box.tells d (l.map fun v => ((2 : UInt8), Box.low v (Box.size v))) = some (l.map Lib.itoa) := by
  induction l with
  | nil => rfl
  | cons v l ih =>
    have hv := h v List.mem_cons_self
    have hp : Box.pshow d 2 (Box.low v (Box.size v)) = some (Lib.itoa v) := by
      rw [Box.pshow_leaf d 2 _ (by decide), Box.leaf, if_pos (by decide), Box.num_low v hv.1 hv.2]
      rfl
    simp only [List.map_cons, Box.tells, hp, ih (fun v hv => h v (List.mem_cons_of_mem _ hv)), Option.map_some]
end Go.Proofs.YtbanfbpfapjfcaaDoor
