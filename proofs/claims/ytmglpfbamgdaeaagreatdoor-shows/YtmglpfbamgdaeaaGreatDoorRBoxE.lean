/-
  Plain mathematics: the bytes of what a number's bytes say are these again; the first box of some bytes, by writing it anew. Conditions: none.
-/
import Derived.Test.YtmglpfbamgdaeaaGreatDoorRBoxD
import Derived.Test.YtmglpfbamgdaeaaGreatDoorBoxE
namespace Go.Proofs.YtmglpfbamgdaeaaGreatDoor.Box

theorem byteI_zero (x : Int) (b : UInt8) : byteI (x * 256 + (b.toNat : Int)) 0 = b := by
  have := b.toNat_lt
  unfold byteI
  rw [Nat.mul_zero, Int.pow_zero, Int.ediv_one, show (x * 256 + (b.toNat : Int)) % 256 = (b.toNat : Int) from by omega, Int.toNat_natCast]
  simp
theorem byteI_succ (x : Int) (b : UInt8) (i : Nat) : byteI (x * 256 + (b.toNat : Int)) (i + 1) = byteI x i := by
  have := b.toNat_lt
  unfold byteI
  rw [show 8 * (i + 1) = 8 + 8 * i from by omega, Int.pow_add, show (2 : Int) ^ 8 = 256 from by decide, ← Int.ediv_ediv_of_nonneg (by decide), show (x * 256 + (b.toNat : Int)) / 256 = x from by omega]
theorem lowTo_snoc (x : Int) (b : UInt8) (k j : Nat) (h : j ≤ k) : lowTo (x * 256 + (b.toNat : Int)) (k + 1) j = lowTo x k j := by
  induction j with
  | zero => rfl
  | succ j ih => rw [lowTo, lowTo, ih (by omega), show k + 1 - 1 - j = (k - 1 - j) + 1 from by omega, byteI_succ]
theorem low_snoc (x : Int) (b : UInt8) (k : Nat) : low (x * 256 + (b.toNat : Int)) (k + 1) = low x k ++ [b] := by
  unfold low
  rw [lowTo, lowTo_snoc x b k k (Nat.le_refl _), show k + 1 - 1 - k = 0 from by omega, byteI_zero]
theorem low_valFrom (l : List UInt8) (v : Int) (k : Nat) : low (valFrom v l) (k + l.length) = low v k ++ l := by
  induction l generalizing v k with
  | nil => simp [valFrom]
  | cons b l ih =>
    rw [valFrom_cons, List.length_cons, show k + (l.length + 1) = (k + 1) + l.length from by omega, ih, low_snoc]
    simp
theorem low_sign (b : UInt8) : low (sign b) 1 = [b] := by
  have h := low_snoc (if b.toNat < 128 then 0 else -1) b 0
  have e : (if b.toNat < 128 then (0 : Int) else -1) * 256 + (b.toNat : Int) = sign b := by
    unfold sign
    split <;> omega
  rw [e] at h
  exact h
theorem low_val {l : List UInt8} (h : 1 ≤ l.length) : low (val l) l.length = l := by
  cases l with
  | nil => simp at h
  | cons b l =>
    have := low_valFrom l (sign b) 1
    rw [low_sign] at this
    simp only [val, List.getD_cons_zero, List.drop_succ_cons, List.drop_zero, List.length_cons]
    rw [Nat.add_comm]
    exact this

theorem box_length (tag : UInt8) (l : List UInt8) : (box tag l).length = l.length + (if l.length < 128 then 2 else if l.length < 256 then 3 else 4) := by
  rw [box, List.length_append, head_length]
  omega
/-- A number's bytes are as few as hold it, if writing it anew makes the same. -/
theorem again_iff {l : List UInt8} (h1 : 1 ≤ l.length) (h8 : l.length ≤ 8) (v : Int) (hv : v = val l) (n : Nat) (hn : n = size v) : box 2 (low v n) = box 2 l ↔ size v = l.length := by
  subst hv hn
  constructor
  · intro h
    have := congrArg List.length h
    have hs : size (val l) ≤ 8 := (size_bounds _).2
    rw [box_length, box_length, low_length, if_pos (by omega), if_pos (by omega)] at this
    omega
  · intro h
    rw [h, low_val h1]

/-- How long what is in the first box says it is, and how many bytes are ahead of it. -/
def lead (l : List UInt8) : Nat × Nat :=
  if (l.getD 1 0).toNat = 129 ∧ 2 < l.length then ((l.getD 2 0).toNat, 3)
  else if (l.getD 1 0).toNat = 130 ∧ 3 < l.length then ((l.getD 2 0).toNat * 256 + (l.getD 3 0).toNat, 4)
  else ((l.getD 1 0).toNat, 2)
/-- The first box, by writing it anew. -/
def again (l : List UInt8) : Option (UInt8 × List UInt8 × List UInt8) :=
  if 2 ≤ l.length ∧ (lead l).2 + (lead l).1 ≤ l.length ∧ box (l.getD 0 0) ((l.drop (lead l).2).take (lead l).1) = l.take ((lead l).2 + (lead l).1) then
    some (l.getD 0 0, (l.drop (lead l).2).take (lead l).1, l.drop ((lead l).2 + (lead l).1))
  else none

theorem ofNat_toNat (b : UInt8) : UInt8.ofNat b.toNat = b := by simp
theorem two (l : List UInt8) (h : 2 ≤ l.length) : ∃ a b r, l = a :: b :: r := by
  match l, h with
  | a :: b :: r, _ => exact ⟨a, b, r, rfl⟩
theorem take_plus (a b : Nat) (l : List UInt8) : l.take (a + b) = l.take a ++ (l.drop a).take b := by rw [List.take_add]

theorem again_no {tag : UInt8} {l : List UInt8} {n k : Nat} (hk : k + n ≤ l.length) (h : (if n < 128 then 2 else if n < 256 then 3 else 4) ≠ k) : ¬ box tag ((l.drop k).take n) = l.take (k + n) := by
  intro e
  have := congrArg List.length e
  have hl : ((l.drop k).take n).length = n := by simp; omega
  rw [box_length, hl] at this
  simp only [List.length_take] at this
  rw [Nat.min_eq_left hk] at this
  omega
theorem again_yes {tag : UInt8} {l : List UInt8} {n k : Nat} (hk : k + n ≤ l.length) (h : head tag n = l.take k) : box tag ((l.drop k).take n) = l.take (k + n) := by
  have hl : ((l.drop k).take n).length = n := by simp; omega
  rw [box, hl, h, List.take_add]

theorem cut_again (l : List UInt8) : again l = cut l := by
  by_cases h2 : 2 ≤ l.length
  · obtain ⟨tag, b, r, rfl⟩ := two l h2
    have hb := b.toNat_lt
    unfold cut
    rw [if_neg (by simp), List.drop_succ_cons, List.drop_zero]
    unfold again
    by_cases c1 : b.toNat = 129 ∧ 2 < (tag :: b :: r).length
    · have hL : lead (tag :: b :: r) = (((tag :: b :: r).getD 2 0).toNat, 3) := by unfold lead; rw [if_pos (by simpa using c1)]
      rw [hL]
      cases r with
      | nil => simp at c1
      | cons x r =>
        have hx := x.toNat_lt
        have hC : cutLen (b :: x :: r) = if 128 ≤ x.toNat then some (x.toNat, r) else none := by
          unfold cutLen
          rw [if_neg (by simp [c1.1]), if_pos (by simp [c1.1])]
          rfl
        rw [hC]
        have e1 : ((tag :: b :: x :: r).getD 2 0) = x := rfl
        have e0 : ((tag :: b :: x :: r).getD 0 0) = tag := rfl
        simp only [e1, e0]
        by_cases hk : 3 + x.toNat ≤ (tag :: b :: x :: r).length
        · by_cases hx2 : 128 ≤ x.toNat
          · have hy := again_yes (tag := tag) hk (by unfold head; rw [if_neg (by omega), if_pos (by omega), ofNat_toNat]; rw [show (129 : UInt8) = b from by rw [← ofNat_toNat b, c1.1]; rfl]; rfl)
            rw [if_pos ⟨h2, hk, hy⟩, if_pos hx2]
            simp only
            rw [if_pos (by simp at hk; omega), ← List.drop_drop]
            rfl
          · have hy := again_no (tag := tag) hk (by rw [if_pos (by omega)]; omega)
            rw [if_neg (fun h => hy h.2.2), if_neg hx2]
        · rw [if_neg (fun h => hk h.2.1)]
          split
          · rename_i n' r' h'
            split at h'
            · simp only [Option.some.injEq, Prod.mk.injEq] at h'
              obtain ⟨rfl, rfl⟩ := h'
              rw [if_neg (by simp at hk; omega)]
            · simp at h'
          · rfl
    · by_cases c2 : b.toNat = 130 ∧ 3 < (tag :: b :: r).length
      · have hL : lead (tag :: b :: r) = (((tag :: b :: r).getD 2 0).toNat * 256 + ((tag :: b :: r).getD 3 0).toNat, 4) := by unfold lead; rw [if_neg (by simpa using c1), if_pos (by simpa using c2)]
        rw [hL]
        match r, c2 with
        | [], c2 => simp at c2
        | [x], c2 => simp at c2
        | x :: y :: r, c2 =>
          have hx := x.toNat_lt
          have hy' := y.toNat_lt
          have hC : cutLen (b :: x :: y :: r) = if 256 ≤ x.toNat * 256 + y.toNat then some (x.toNat * 256 + y.toNat, r) else none := by
            unfold cutLen
            rw [if_neg (by simp [c2.1]), if_neg (by simp [c2.1]), if_pos (by simp [c2.1])]
            rfl
          rw [hC]
          have e1 : ((tag :: b :: x :: y :: r).getD 2 0) = x := rfl
          have e3 : ((tag :: b :: x :: y :: r).getD 3 0) = y := rfl
          have e0 : ((tag :: b :: x :: y :: r).getD 0 0) = tag := rfl
          simp only [e1, e0, e3]
          by_cases hk : 4 + (x.toNat * 256 + y.toNat) ≤ (tag :: b :: x :: y :: r).length
          · by_cases hx2 : 256 ≤ x.toNat * 256 + y.toNat
            · have hy := again_yes (tag := tag) hk (by
                unfold head
                rw [if_neg (by omega), if_neg (by omega), show (x.toNat * 256 + y.toNat) / 256 = x.toNat from by omega, show (x.toNat * 256 + y.toNat) % 256 = y.toNat from by omega, ofNat_toNat, ofNat_toNat, show (130 : UInt8) = b from by rw [← ofNat_toNat b, c2.1]; rfl]
                rfl)
              rw [if_pos ⟨h2, hk, hy⟩, if_pos hx2]
              simp only
              rw [if_pos (by simp at hk; omega), ← List.drop_drop]
              rfl
            · have hy := again_no (tag := tag) hk (by split <;> (try split) <;> omega)
              rw [if_neg (fun h => hy h.2.2), if_neg hx2]
          · rw [if_neg (fun h => hk h.2.1)]
            split
            · rename_i n' r' h'
              split at h'
              · simp only [Option.some.injEq, Prod.mk.injEq] at h'
                obtain ⟨rfl, rfl⟩ := h'
                rw [if_neg (by simp at hk; omega)]
              · simp at h'
            · rfl
      · have hL : lead (tag :: b :: r) = (((tag :: b :: r).getD 1 0).toNat, 2) := by unfold lead; rw [if_neg (by simpa using c1), if_neg (by simpa using c2)]
        rw [hL]
        have e1 : ((tag :: b :: r).getD 1 0) = b := rfl
        have e0 : ((tag :: b :: r).getD 0 0) = tag := rfl
        simp only [e1, e0]
        by_cases hb2 : b.toNat < 128
        · have hC : cutLen (b :: r) = some (b.toNat, r) := by
            unfold cutLen
            rw [if_pos (by simpa using hb2)]
            rfl
          rw [hC]
          by_cases hk : 2 + b.toNat ≤ (tag :: b :: r).length
          · have hy := again_yes (tag := tag) hk (by unfold head; rw [if_pos hb2, ofNat_toNat]; rfl)
            rw [if_pos ⟨h2, hk, hy⟩]
            simp only
            rw [if_pos (by simp at hk; omega), ← List.drop_drop]
            rfl
          · rw [if_neg (fun h => hk h.2.1)]
            simp only
            rw [if_neg (by simp at hk; omega)]
        · have hC : cutLen (b :: r) = none := by
            unfold cutLen
            rw [if_neg (fun h => hb2 h.2), if_neg (fun h => c1 ⟨h.2, by have := h.1; simp only [List.length_cons] at this ⊢; omega⟩), if_neg (fun h => c2 ⟨h.2, by have := h.1; simp only [List.length_cons] at this ⊢; omega⟩)]
          rw [hC]
          refine if_neg (fun h => again_no (tag := tag) h.2.1 ?_ h.2.2)
          rw [if_neg hb2]
          split <;> omega
  · unfold again cut
    rw [if_neg (fun h => h2 h.1)]
    split
    · rfl
    · have hC : cutLen (l.drop 1) = none := by
        have : (l.drop 1).length = 0 := by simp; omega
        unfold cutLen
        rw [if_neg (by omega), if_neg (by omega), if_neg (by omega)]
      rw [hC]
end Go.Proofs.YtmglpfbamgdaeaaGreatDoor.Box
