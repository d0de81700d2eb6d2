/-
  Plain mathematics: how a box is written, a number's bytes, the first box by writing it anew, boxes one behind the other as pieces, what is told of them; and small laws of memory. Conditions: none.
-/
import Derived.Test.YtbanfbpfapjfcaaGreatDoorGBox
import Derived.Test.YtbanfbpfapjfcaaGreatDoorGBase
namespace Go.Proofs.YtbanfbpfapjfcaaGreatDoor
theorem size_bounds (v : Int) : 1 ≤ Box.size v ∧ Box.size v ≤ 8 := by unfold Box.size; (repeat' split) <;> omega
end Go.Proofs.YtbanfbpfapjfcaaGreatDoor
namespace Go.Proofs.YtbanfbpfapjfcaaGreatDoor.Box

/-- What is written ahead of what is in a box. -/
def head (tag : UInt8) (n : Nat) : List UInt8 :=
  if n < 128 then [tag, UInt8.ofNat n] else if n < 256 then [tag, 129, UInt8.ofNat n] else [tag, 130, UInt8.ofNat (n / 256), UInt8.ofNat (n % 256)]
/-- A box. -/
def box (tag : UInt8) (l : List UInt8) : List UInt8 := head tag l.length ++ l
theorem head_length (tag : UInt8) (n : Nat) : (head tag n).length = if n < 128 then 2 else if n < 256 then 3 else 4 := by
  unfold head
  split
  · rfl
  · split <;> rfl
/-- A byte of a number, from the low end. -/
def byteI (v : Int) (i : Nat) : UInt8 := UInt8.ofNat (v / 2 ^ (8 * i) % 256).toNat
/-- The first j of its k lowest bytes, the high one first. -/
def lowTo (v : Int) (k : Nat) : Nat → List UInt8
  | 0 => []
  | j + 1 => lowTo v k j ++ [byteI v (k - 1 - j)]
def low (v : Int) (k : Nat) : List UInt8 := lowTo v k k
theorem lowTo_length (v : Int) (k j : Nat) : (lowTo v k j).length = j := by
  induction j with
  | zero => rfl
  | succ j ih => simp [lowTo, ih]
theorem low_length (v : Int) (k : Nat) : (low v k).length = k := lowTo_length v k k

theorem byteI_zero (x : Int) (b : UInt8) : byteI (x * 256 + (b.toNat : Int)) 0 = b := by
  have := b.toNat_lt
  unfold byteI
  rw [Nat.mul_zero, Int.pow_zero, Int.ediv_one, show (x * 256 + (b.toNat : Int)) % 256 = (b.toNat : Int) from by omega, Int.toNat_natCast]
  simp
theorem byteI_succ (x : Int) (b : UInt8) (i : Nat) : byteI (x * 256 + (b.toNat : Int)) (i + 1) = byteI x i := by
  have := b.toNat_lt
  unfold byteI
  rw [show 8 * (i + 1) = 8 + 8 * i from by omega, Int.pow_add, show (2 : Int) ^ 8 = 256 from by decide, ← Int.ediv_ediv_of_nonneg (by decide), show (x * 256 + (b.toNat : Int)) / 256 = x from by omega]
theorem lowTo_snoc (x : Int) (b : UInt8) (k j : Nat) (h : j ≤ k) : lowTo (x * 256 + (b.toNat : Int)) (k + 1) j = lowTo x k j := by
  induction j with
  | zero => rfl
  | succ j ih => rw [lowTo, lowTo, ih (by omega), show k + 1 - 1 - j = (k - 1 - j) + 1 from by omega, byteI_succ]
theorem low_snoc (x : Int) (b : UInt8) (k : Nat) : low (x * 256 + (b.toNat : Int)) (k + 1) = low x k ++ [b] := by
  unfold low
  rw [lowTo, lowTo_snoc x b k k (Nat.le_refl _), show k + 1 - 1 - k = 0 from by omega, byteI_zero]
theorem low_valFrom (l : List UInt8) (v : Int) (k : Nat) : low (valFrom v l) (k + l.length) = low v k ++ l := by
  induction l generalizing v k with
  | nil => simp [valFrom]
  | cons b l ih =>
    rw [valFrom_cons, List.length_cons, show k + (l.length + 1) = (k + 1) + l.length from by omega, ih, low_snoc]
    simp
theorem low_sign (b : UInt8) : low (sign b) 1 = [b] := by
  have h := low_snoc (if b.toNat < 128 then 0 else -1) b 0
  have e : (if b.toNat < 128 then (0 : Int) else -1) * 256 + (b.toNat : Int) = sign b := by
    unfold sign
    split <;> omega
  rw [e] at h
  exact h
theorem low_val {l : List UInt8} (h : 1 ≤ l.length) : low (val l) l.length = l := by
  cases l with
  | nil => simp at h
  | cons b l =>
    have := low_valFrom l (sign b) 1
    rw [low_sign] at this
    simp only [val, List.getD_cons_zero, List.drop_succ_cons, List.drop_zero, List.length_cons]
    rw [Nat.add_comm]
    exact this

theorem box_length (tag : UInt8) (l : List UInt8) : (box tag l).length = l.length + (if l.length < 128 then 2 else if l.length < 256 then 3 else 4) := by
  rw [box, List.length_append, head_length]
  omega
/-- A number's bytes are as few as hold it, if writing it anew makes the same. -/
theorem again_iff {l : List UInt8} (h1 : 1 ≤ l.length) (h8 : l.length ≤ 8) (v : Int) (hv : v = val l) (n : Nat) (hn : n = size v) : box 2 (low v n) = box 2 l ↔ size v = l.length := by
  subst hv hn
  constructor
  · intro h
    have := congrArg List.length h
    have hs : size (val l) ≤ 8 := (size_bounds _).2
    rw [box_length, box_length, low_length, if_pos (by omega), if_pos (by omega)] at this
    omega
  · intro h
    rw [h, low_val h1]

/-- How long what is in the first box says it is, and how many bytes are ahead of it. -/
def lead (l : List UInt8) : Nat × Nat :=
  if (l.getD 1 0).toNat = 129 ∧ 2 < l.length then ((l.getD 2 0).toNat, 3)
  else if (l.getD 1 0).toNat = 130 ∧ 3 < l.length then ((l.getD 2 0).toNat * 256 + (l.getD 3 0).toNat, 4)
  else ((l.getD 1 0).toNat, 2)
/-- The first box, by writing it anew. -/
def again (l : List UInt8) : Option (UInt8 × List UInt8 × List UInt8) :=
  if 2 ≤ l.length ∧ (lead l).2 + (lead l).1 ≤ l.length ∧ box (l.getD 0 0) ((l.drop (lead l).2).take (lead l).1) = l.take ((lead l).2 + (lead l).1) then
    some (l.getD 0 0, (l.drop (lead l).2).take (lead l).1, l.drop ((lead l).2 + (lead l).1))
  else none

theorem ofNat_toNat (b : UInt8) : UInt8.ofNat b.toNat = b := by simp
theorem two (l : List UInt8) (h : 2 ≤ l.length) : ∃ a b r, l = a :: b :: r := by
  match l, h with
  | a :: b :: r, _ => exact ⟨a, b, r, rfl⟩
theorem take_plus (a b : Nat) (l : List UInt8) : l.take (a + b) = l.take a ++ (l.drop a).take b := by rw [List.take_add]

theorem again_no {tag : UInt8} {l : List UInt8} {n k : Nat} (hk : k + n ≤ l.length) (h : (if n < 128 then 2 else if n < 256 then 3 else 4) ≠ k) : ¬ box tag ((l.drop k).take n) = l.take (k + n) := by
  intro e
  have := congrArg List.length e
  have hl : ((l.drop k).take n).length = n := by simp; omega
  rw [box_length, hl] at this
  simp only [List.length_take] at this
  rw [Nat.min_eq_left hk] at this
  omega
theorem again_yes {tag : UInt8} {l : List UInt8} {n k : Nat} (hk : k + n ≤ l.length) (h : head tag n = l.take k) : box tag ((l.drop k).take n) = l.take (k + n) := by
  have hl : ((l.drop k).take n).length = n := by simp; omega
  rw [box, hl, h, List.take_add]

theorem cut_again (l : List UInt8) : again l = cut l := by
  by_cases h2 : 2 ≤ l.length
  · obtain ⟨tag, b, r, rfl⟩ := two l h2
    have hb := b.toNat_lt
    unfold cut
    rw [if_neg (by simp), List.drop_succ_cons, List.drop_zero]
    unfold again
    by_cases c1 : b.toNat = 129 ∧ 2 < (tag :: b :: r).length
    · have hL : lead (tag :: b :: r) = (((tag :: b :: r).getD 2 0).toNat, 3) := by unfold lead; rw [if_pos (by simpa using c1)]
      rw [hL]
      cases r with
      | nil => simp at c1
      | cons x r =>
        have hx := x.toNat_lt
        have hC : cutLen (b :: x :: r) = if 128 ≤ x.toNat then some (x.toNat, r) else none := by
          unfold cutLen
          rw [if_neg (by simp [c1.1]), if_pos (by simp [c1.1])]
          rfl
        rw [hC]
        have e1 : ((tag :: b :: x :: r).getD 2 0) = x := rfl
        have e0 : ((tag :: b :: x :: r).getD 0 0) = tag := rfl
        simp only [e1, e0]
        by_cases hk : 3 + x.toNat ≤ (tag :: b :: x :: r).length
        · by_cases hx2 : 128 ≤ x.toNat
          · have hy := again_yes (tag := tag) hk (by unfold head; rw [if_neg (by omega), if_pos (by omega), ofNat_toNat]; rw [show (129 : UInt8) = b from by rw [← ofNat_toNat b, c1.1]; rfl]; rfl)
            rw [if_pos ⟨h2, hk, hy⟩, if_pos hx2]
            simp only
            rw [if_pos (by simp at hk; omega), ← List.drop_drop]
            rfl
          · have hy := again_no (tag := tag) hk (by rw [if_pos (by omega)]; omega)
            rw [if_neg (fun h => hy h.2.2), if_neg hx2]
        · rw [if_neg (fun h => hk h.2.1)]
          split
          · rename_i n' r' h'
            split at h'
            · simp only [Option.some.injEq, Prod.mk.injEq] at h'
              obtain ⟨rfl, rfl⟩ := h'
              rw [if_neg (by simp at hk; omega)]
            · simp at h'
          · rfl
    · by_cases c2 : b.toNat = 130 ∧ 3 < (tag :: b :: r).length
      · have hL : lead (tag :: b :: r) = (((tag :: b :: r).getD 2 0).toNat * 256 + ((tag :: b :: r).getD 3 0).toNat, 4) := by unfold lead; rw [if_neg (by simpa using c1), if_pos (by simpa using c2)]
        rw [hL]
        match r, c2 with
        | [], c2 => simp at c2
        | [x], c2 => simp at c2
        | x :: y :: r, c2 =>
          have hx := x.toNat_lt
          have hy' := y.toNat_lt
          have hC : cutLen (b :: x :: y :: r) = if 256 ≤ x.toNat * 256 + y.toNat then some (x.toNat * 256 + y.toNat, r) else none := by
            unfold cutLen
            rw [if_neg (by simp [c2.1]), if_neg (by simp [c2.1]), if_pos (by simp [c2.1])]
            rfl
          rw [hC]
          have e1 : ((tag :: b :: x :: y :: r).getD 2 0) = x := rfl
          have e3 : ((tag :: b :: x :: y :: r).getD 3 0) = y := rfl
          have e0 : ((tag :: b :: x :: y :: r).getD 0 0) = tag := rfl
          simp only [e1, e0, e3]
          by_cases hk : 4 + (x.toNat * 256 + y.toNat) ≤ (tag :: b :: x :: y :: r).length
          · by_cases hx2 : 256 ≤ x.toNat * 256 + y.toNat
            · have hy := again_yes (tag := tag) hk (by
                unfold head
                rw [if_neg (by omega), if_neg (by omega), show (x.toNat * 256 + y.toNat) / 256 = x.toNat from by omega, show (x.toNat * 256 + y.toNat) % 256 = y.toNat from by omega, ofNat_toNat, ofNat_toNat, show (130 : UInt8) = b from by rw [← ofNat_toNat b, c2.1]; rfl]
                rfl)
              rw [if_pos ⟨h2, hk, hy⟩, if_pos hx2]
              simp only
              rw [if_pos (by simp at hk; omega), ← List.drop_drop]
              rfl
            · have hy := again_no (tag := tag) hk (by split <;> (try split) <;> omega)
              rw [if_neg (fun h => hy h.2.2), if_neg hx2]
          · rw [if_neg (fun h => hk h.2.1)]
            split
            · rename_i n' r' h'
              split at h'
              · simp only [Option.some.injEq, Prod.mk.injEq] at h'
                obtain ⟨rfl, rfl⟩ := h'
                rw [if_neg (by simp at hk; omega)]
              · simp at h'
            · rfl
      · have hL : lead (tag :: b :: r) = (((tag :: b :: r).getD 1 0).toNat, 2) := by unfold lead; rw [if_neg (by simpa using c1), if_neg (by simpa using c2)]
        rw [hL]
        have e1 : ((tag :: b :: r).getD 1 0) = b := rfl
        have e0 : ((tag :: b :: r).getD 0 0) = tag := rfl
        simp only [e1, e0]
        by_cases hb2 : b.toNat < 128
        · have hC : cutLen (b :: r) = some (b.toNat, r) := by
            unfold cutLen
            rw [if_pos (by simpa using hb2)]
            rfl
          rw [hC]
          by_cases hk : 2 + b.toNat ≤ (tag :: b :: r).length
          · have hy := again_yes (tag := tag) hk (by unfold head; rw [if_pos hb2, ofNat_toNat]; rfl)
            rw [if_pos ⟨h2, hk, hy⟩]
            simp only
            rw [if_pos (by simp at hk; omega), ← List.drop_drop]
            rfl
          · rw [if_neg (fun h => hk h.2.1)]
            simp only
            rw [if_neg (by simp at hk; omega)]
        · have hC : cutLen (b :: r) = none := by
            unfold cutLen
            rw [if_neg (fun h => hb2 h.2), if_neg (fun h => c1 ⟨h.2, by have := h.1; simp only [List.length_cons] at this ⊢; omega⟩), if_neg (fun h => c2 ⟨h.2, by have := h.1; simp only [List.length_cons] at this ⊢; omega⟩)]
          rw [hC]
          refine if_neg (fun h => again_no (tag := tag) h.2.1 ?_ h.2.2)
          rw [if_neg hb2]
          split <;> omega
  · unfold again cut
    rw [if_neg (fun h => h2 h.1)]
    split
    · rfl
    · have hC : cutLen (l.drop 1) = none := by
        have : (l.drop 1).length = 0 := by simp; omega
        unfold cutLen
        rw [if_neg (by omega), if_neg (by omega), if_neg (by omega)]
      rw [hC]

def cuts : Nat → List UInt8 → Option (List (UInt8 × List UInt8))
  | 0, l => if l.length = 0 then some [] else none
  | n + 1, l => if l.length = 0 then some [] else
    match cut l with
    | none => none
    | some (t, i, r) => (cuts n r).map ((t, i) :: ·)
theorem cuts_fuel : ∀ (n m : Nat) (l : List UInt8), l.length ≤ n → l.length ≤ m → cuts n l = cuts m l := by
  intro n
  induction n with
  | zero =>
    intro m l h1 _
    have h0 : l.length = 0 := by omega
    cases m with
    | zero => rfl
    | succ m => simp [cuts, h0]
  | succ n ih =>
    intro m l h1 h2
    cases m with
    | zero =>
      have h0 : l.length = 0 := by omega
      simp [cuts, h0]
    | succ m =>
      by_cases h0 : l.length = 0
      · simp [cuts, h0]
      · simp only [cuts, if_neg h0]
        cases h : cut l with
        | none => rfl
        | some tr =>
          obtain ⟨t, i, r⟩ := tr
          have := cut_length h
          simp only
          rw [ih m r (by omega) (by omega)]
def cutsL (l : List UInt8) : Option (List (UInt8 × List UInt8)) := cuts l.length l
theorem cutsL_nil {l : List UInt8} (h : l.length = 0) : cutsL l = some [] := by
  have : l = [] := List.eq_nil_of_length_eq_zero h
  subst this
  rfl
theorem cutsL_none {l : List UInt8} (h0 : 0 < l.length) (h : cut l = none) : cutsL l = none := by
  unfold cutsL
  obtain ⟨m, hm⟩ : ∃ m, l.length = m + 1 := ⟨l.length - 1, by omega⟩
  rw [hm, cuts, if_neg (by omega), h]
theorem cutsL_some {l i r : List UInt8} {t : UInt8} (h : cut l = some (t, i, r)) : cutsL l = (cutsL r).map ((t, i) :: ·) := by
  have hlt := cut_length h
  unfold cutsL
  obtain ⟨m, hm⟩ : ∃ m, l.length = m + 1 := ⟨l.length - 1, by omega⟩
  rw [hm, cuts, if_neg (by omega), h]
  simp only
  rw [cuts_fuel m r.length r (by omega) (by omega)]

/-- How many bytes pieces take, at the least. -/
def wt : List (UInt8 × List UInt8) → Nat
  | [] => 0
  | p :: ps => p.2.length + 2 + wt ps
theorem wt_append (a b : List (UInt8 × List UInt8)) : wt (a ++ b) = wt a + wt b := by
  induction a with
  | nil => simp [wt]
  | cons p a ih => simp only [List.cons_append, wt, ih]; omega
theorem cutsL_wt : ∀ (n : Nat) (l : List UInt8) (ps : List (UInt8 × List UInt8)), l.length ≤ n → cutsL l = some ps → wt ps ≤ l.length := by
  intro n
  induction n with
  | zero =>
    intro l ps h1 h
    rw [cutsL_nil (by omega)] at h
    simp only [Option.some.injEq] at h
    subst h
    simp [wt]
  | succ n ih =>
    intro l ps h1 h
    by_cases h0 : l.length = 0
    · rw [cutsL_nil h0] at h
      simp only [Option.some.injEq] at h
      subst h
      simp [wt]
    · cases hc : cut l with
      | none => rw [cutsL_none (by omega) hc] at h; simp at h
      | some tr =>
        obtain ⟨t, i, r⟩ := tr
        have hl := cut_length hc
        rw [cutsL_some hc] at h
        simp only [Option.map_eq_some_iff] at h
        obtain ⟨ps', h', rfl⟩ := h
        have := ih r ps' (by omega) h'
        simp only [wt]
        omega

/-- A piece as a text; lists in one another at most so deep. -/
def pshow : Nat → UInt8 → List UInt8 → Option (List UInt8)
  | 0, tag, i => leaf tag i
  | d + 1, tag, i => piece (fun i => allL (show1 d) i) tag i
def tells (d : Nat) : List (UInt8 × List UInt8) → Option (List (List UInt8))
  | [] => some []
  | p :: ps => match pshow d p.1 p.2 with
    | none => none
    | some t => (tells d ps).map (t :: ·)
theorem show1_eq (d : Nat) (l : List UInt8) : show1 d l = match cut l with
    | none => none
    | some (tag, i, r) => (pshow d tag i).map (·, r) := by
  cases d with
  | zero => rw [show1]; rfl
  | succ d => rw [show1]; rfl
theorem allL_tells (d : Nat) : ∀ (n : Nat) (l : List UInt8), l.length ≤ n → allL (show1 d) l = match cutsL l with
    | none => none
    | some ps => tells d ps := by
  intro n
  induction n with
  | zero =>
    intro l h1
    have : l = [] := List.eq_nil_of_length_eq_zero (by omega)
    subst this
    rfl
  | succ n ih =>
    intro l h1
    by_cases h0 : l.length = 0
    · have : l = [] := List.eq_nil_of_length_eq_zero h0
      subst this
      rfl
    · have hs := show1_eq d l
      cases hc : cut l with
      | none =>
        rw [hc] at hs
        rw [cutsL_none (by omega) hc, allL_none (by omega) hs]
      | some tr =>
        obtain ⟨t, i, r⟩ := tr
        have hl := cut_length hc
        rw [hc] at hs
        simp only at hs
        rw [cutsL_some hc]
        cases hp : pshow d t i with
        | none =>
          rw [hp] at hs
          rw [allL_none (by omega) hs]
          cases cutsL r with
          | none => rfl
          | some ps => simp [tells, hp]
        | some x =>
          rw [hp] at hs
          rw [allL_some (show1_shrinks d) hs, ih r (by omega)]
          cases cutsL r with
          | none => rfl
          | some ps => simp [tells, hp]
theorem pshow_list (d : Nat) (tag : UInt8) (i : List UInt8) (h : tag.toNat = 48) : pshow (d + 1) tag i = match cutsL i with
    | none => none
    | some ps => (tells d ps).map fun ts => 123 :: commas ts ++ [125] := by
  rw [pshow, piece, if_pos h, allL_tells d i.length i (Nat.le_refl _)]
  cases cutsL i with
  | none => rfl
  | some ps => rfl
theorem pshow_leaf (d : Nat) (tag : UInt8) (i : List UInt8) (h : tag.toNat ≠ 48) : pshow d tag i = leaf tag i := by
  cases d with
  | zero => rfl
  | succ d => rw [pshow, piece, if_neg h]
theorem pshow_zero (tag : UInt8) (i : List UInt8) (h : tag.toNat = 48) : pshow 0 tag i = none := by
  rw [pshow, leaf, if_neg (by omega), if_neg (by omega)]
theorem tells_snoc (d : Nat) (ps : List (UInt8 × List UInt8)) (p : UInt8 × List UInt8) : tells d (ps ++ [p]) = match tells d ps with
    | none => none
    | some ts => (pshow d p.1 p.2).map fun t => ts ++ [t] := by
  induction ps with
  | nil =>
    simp only [List.nil_append, tells]
    cases pshow d p.1 p.2 with
    | none => rfl
    | some t => rfl
  | cons q ps ih =>
    simp only [List.cons_append, tells]
    cases pshow d q.1 q.2 with
    | none => rfl
    | some t =>
      simp only
      rw [ih]
      cases tells d ps with
      | none => rfl
      | some ts =>
        simp only [Option.map_some]
        cases pshow d p.1 p.2 with
        | none => rfl
        | some u => rfl
theorem tells_none {d : Nat} {a b : List (UInt8 × List UInt8)} (h : tells d a = none) : tells d (a ++ b) = none := by
  induction a with
  | nil => simp [tells] at h
  | cons q a ih =>
    simp only [List.cons_append, tells] at h ⊢
    cases hq : pshow d q.1 q.2 with
    | none => rfl
    | some t =>
      rw [hq] at h
      simp only [Option.map_eq_none_iff] at h
      simp only
      rw [ih h]
      rfl
theorem tells_length {d : Nat} {ps : List (UInt8 × List UInt8)} : ∀ {ts : List (List UInt8)}, tells d ps = some ts → ts.length = ps.length := by
  induction ps with
  | nil => intro ts h; simp only [tells, Option.some.injEq] at h; subst h; rfl
  | cons q ps ih =>
    intro ts h
    simp only [tells] at h
    cases hq : pshow d q.1 q.2 with
    | none => rw [hq] at h; simp at h
    | some t =>
      rw [hq] at h
      simp only [Option.map_eq_some_iff] at h
      obtain ⟨ts', h', rfl⟩ := h
      simp [ih h']
theorem pshow_length : ∀ (d : Nat) (tag : UInt8) (i t : List UInt8), pshow d tag i = some t → t.length ≤ 22 + 22 * i.length := by
  intro d tag i t h
  by_cases h48 : tag.toNat = 48
  · cases d with
    | zero => rw [pshow_zero tag i h48] at h; simp at h
    | succ d =>
      rw [pshow, piece, if_pos h48] at h
      simp only [Option.map_eq_some_iff] at h
      obtain ⟨ts, h1, rfl⟩ := h
      have := allL_length (show1_shrinks d) (show1_told d) i.length i ts (Nat.le_refl _) h1
      simp
      omega
  · rw [pshow_leaf d tag i h48] at h
    have := leaf_length h
    omega
theorem whole_eq (l : List UInt8) : whole l = match cut l with
    | some (tag, i, []) => pshow 8 tag i
    | _ => none := by
  unfold whole
  rw [show1_eq]
  cases cut l with
  | none => rfl
  | some tr =>
    obtain ⟨tag, i, r⟩ := tr
    cases r with
    | nil =>
      simp only
      cases pshow 8 tag i with
      | none => rfl
      | some t => rfl
    | cons a r =>
      simp only
      cases pshow 8 tag i with
      | none => rfl
      | some t => rfl
end Go.Proofs.YtbanfbpfapjfcaaGreatDoor.Box
namespace Go.Proofs.YtbanfbpfapjfcaaGreatDoor
open Go.RowKit
set_option maxRecDepth 100000

theorem own_new (w : World) (e : TypeId) (b : UInt8) : (w.alloc (.cells #[.int .u8 (b.toNat : Int)] e)).ownsRow w.heap.size e 1 (.slice (some ⟨w.heap.size, 0, none⟩) 1 1) 1 ([b].map U8) := by
  refine ⟨rfl, Or.inr ⟨w.heap.size, 1, _, rfl, Nat.le_refl _, heap_alloc_new w _, Nat.le_refl _, by decide, rfl, rfl⟩⟩

theorem bytes_new1 (w : World) (o : Obj) (e : TypeId) (cs : Array Value) (bs : List UInt8) (h : cs.toList = bs.map U8) : At ((w.alloc o).alloc (.cells cs e)) (some ⟨w.heap.size + 1, 0, none⟩) bs := by
  have := bytes_new (w.alloc o) e cs bs h
  rw [World.size_alloc] at this
  exact this

theorem u8_nat (n : Nat) (h : n < 256) : IntKind.u8.wrap (n : Int) = ((UInt8.ofNat n).toNat : Int) := by
  rw [UInt8.toNat_ofNat', Nat.mod_eq_of_lt (by omega)]
  simp [IntKind.wrap, IntKind.bits, IntKind.signed]
  omega

theorem byteI_int (v : Int) (i : Nat) : v / 2 ^ (8 * i) % 256 = ((Box.byteI v i).toNat : Int) := by
  unfold Box.byteI
  generalize v / 2 ^ (8 * i) = x
  rw [UInt8.toNat_ofNat', Nat.mod_eq_of_lt (by omega)]
  omega

theorem own_down {w : World} {base base' : Nat} {e : TypeId} {size : Nat} {v : Value} {n : Nat} {xs : List Value} (h : w.ownsRow base e size v n xs) (hb : base' ≤ base) : w.ownsRow base' e size v n xs := by
  obtain ⟨h1, h2⟩ := h
  refine ⟨h1, ?_⟩
  rcases h2 with h2 | ⟨g, c, cur, hv, hbg, hr⟩
  · exact Or.inl h2
  · exact Or.inr ⟨g, c, cur, hv, Nat.le_trans hb hbg, hr⟩
end Go.Proofs.YtbanfbpfapjfcaaGreatDoor
