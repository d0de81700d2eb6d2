/-
  Plain mathematics of lists of boxes: fuel, lengths, commas. Conditions: none.
-/
import Derived.Test.YtbanfbpfapjfcaaDoorBox
namespace Go.Proofs.YtbanfbpfapjfcaaDoor.Box

def allL (sh : List UInt8 → Option (List UInt8 × List UInt8)) (l : List UInt8) : Option (List (List UInt8)) := all sh l.length l
def Shrinks (sh : List UInt8 → Option (List UInt8 × List UInt8)) : Prop := ∀ l t r, sh l = some (t, r) → r.length < l.length

theorem all_fuel {sh : List UInt8 → Option (List UInt8 × List UInt8)} (hs : Shrinks sh) : ∀ (n : Nat) (l : List UInt8), l.length ≤ n → all sh n l = allL sh l := by
  suffices H : ∀ (n m : Nat) (l : List UInt8), l.length ≤ n → l.length ≤ m → all sh n l = all sh m l from fun n l h => H n l.length l h (Nat.le_refl _)
  intro n
  induction n with
  | zero =>
    intro m l h1 _
    have h0 : l.length = 0 := by omega
    cases m with
    | zero => rfl
    | succ m => simp [all, h0]
  | succ n ih =>
    intro m l h1 h2
    cases m with
    | zero =>
      have h0 : l.length = 0 := by omega
      simp [all, h0]
    | succ m =>
      by_cases h0 : l.length = 0
      · simp [all, h0]
      · simp only [all, if_neg h0]
        cases h : sh l with
        | none => rfl
        | some tr =>
          obtain ⟨t, r⟩ := tr
          have := hs l t r h
          simp only
          rw [ih m r (by omega) (by omega)]

theorem allL_nil (sh : List UInt8 → Option (List UInt8 × List UInt8)) : allL sh [] = some [] := rfl
theorem allL_none {sh : List UInt8 → Option (List UInt8 × List UInt8)} {l : List UInt8} (h0 : 0 < l.length) (h : sh l = none) : allL sh l = none := by
  unfold allL
  obtain ⟨m, hm⟩ : ∃ m, l.length = m + 1 := ⟨l.length - 1, by omega⟩
  rw [hm, all, if_neg (by omega), h]
theorem allL_some {sh : List UInt8 → Option (List UInt8 × List UInt8)} (hs : Shrinks sh) {l t r : List UInt8} (h : sh l = some (t, r)) : allL sh l = (allL sh r).map (t :: ·) := by
  have hlt := hs l t r h
  unfold allL
  obtain ⟨m, hm⟩ : ∃ m, l.length = m + 1 := ⟨l.length - 1, by omega⟩
  rw [hm, all, if_neg (by omega), h]
  simp only
  rw [all_fuel hs m r (by omega)]
  rfl

theorem show1_shrinks (d : Nat) : Shrinks (show1 d) := by
  intro l t r h
  cases d with
  | zero =>
    rw [show1] at h
    split at h
    · simp at h
    · rename_i tag i r' hc
      have := cut_length hc
      simp only [Option.map_eq_some_iff, Prod.mk.injEq] at h
      obtain ⟨_, _, _, rfl⟩ := h
      omega
  | succ d =>
    rw [show1] at h
    split at h
    · simp at h
    · rename_i tag i r' hc
      have := cut_length hc
      simp only [Option.map_eq_some_iff, Prod.mk.injEq] at h
      obtain ⟨_, _, _, rfl⟩ := h
      omega

theorem commas_snoc (ts : List (List UInt8)) (t : List UInt8) : commas (ts ++ [t]) = if ts = [] then t else commas ts ++ 44 :: t := by
  induction ts with
  | nil => rfl
  | cons a ts ih =>
    cases ts with
    | nil => rfl
    | cons b ts =>
      rw [if_neg (by simp)] at *
      show a ++ 44 :: commas ((b :: ts) ++ [t]) = (a ++ 44 :: commas (b :: ts)) ++ 44 :: t
      rw [ih]
      simp

/-- How long what is told can be. -/
def Told (sh : List UInt8 → Option (List UInt8 × List UInt8)) : Prop := ∀ l t r, sh l = some (t, r) → t.length + 1 + 22 * r.length ≤ 22 * l.length

theorem commas_cons_le (t : List UInt8) (ts : List (List UInt8)) : (commas (t :: ts)).length ≤ t.length + 1 + (commas ts).length := by
  cases ts with
  | nil => simp [commas]
  | cons b ts => simp [commas]; omega

theorem allL_length {sh : List UInt8 → Option (List UInt8 × List UInt8)} (hs : Shrinks sh) (ht : Told sh) : ∀ (n : Nat) (l : List UInt8) (ts : List (List UInt8)), l.length ≤ n → allL sh l = some ts → (commas ts).length ≤ 22 * l.length := by
  intro n
  induction n with
  | zero =>
    intro l ts h1 h
    have : l = [] := List.eq_nil_of_length_eq_zero (by omega)
    subst this
    rw [allL_nil] at h
    simp only [Option.some.injEq] at h
    subst h
    simp [commas]
  | succ n ih =>
    intro l ts h1 h
    cases hl : sh l with
    | none =>
      by_cases h0 : 0 < l.length
      · rw [allL_none h0 hl] at h; simp at h
      · have : l = [] := List.eq_nil_of_length_eq_zero (by omega)
        subst this
        rw [allL_nil] at h
        simp only [Option.some.injEq] at h
        subst h
        simp [commas]
    | some tr =>
      obtain ⟨t, r⟩ := tr
      rw [allL_some hs hl] at h
      simp only [Option.map_eq_some_iff] at h
      obtain ⟨ts', h', rfl⟩ := h
      have h2 := hs l t r hl
      have h3 := ih r ts' (by omega) h'
      have h4 := ht l t r hl
      have h5 := commas_cons_le t ts'
      omega

theorem leaf_length {tag : UInt8} {i t : List UInt8} (h : leaf tag i = some t) : t.length ≤ 21 + 2 * i.length := by
  unfold leaf at h
  split at h
  · simp only [Option.map_eq_some_iff] at h
    obtain ⟨v, hv, rfl⟩ := h
    unfold num at hv
    split at hv
    · rename_i hc
      simp only [Option.some.injEq] at hv
      subst hv
      have hb := val_bounds hc.1 hc.2.1
      have := Lib.itoa_length_le _ hb.1 hb.2
      omega
    · simp at hv
  · split at h
    · simp only [Option.some.injEq] at h
      subst h
      simp [hex_length]
      omega
    · simp at h

theorem show1_told (d : Nat) : Told (show1 d) := by
  induction d with
  | zero =>
    intro l t r h
    rw [show1] at h
    split at h
    · simp at h
    · rename_i tag i r' hc
      have := cut_length hc
      simp only [Option.map_eq_some_iff, Prod.mk.injEq] at h
      obtain ⟨t', ht, rfl, rfl⟩ := h
      have := leaf_length ht
      omega
  | succ d ih =>
    intro l t r h
    rw [show1] at h
    split at h
    · simp at h
    · rename_i tag i r' hc
      have := cut_length hc
      simp only [Option.map_eq_some_iff, Prod.mk.injEq] at h
      obtain ⟨t', ht, rfl, rfl⟩ := h
      unfold piece at ht
      split at ht
      · simp only [Option.map_eq_some_iff] at ht
        obtain ⟨ts, h1, rfl⟩ := ht
        have := allL_length (show1_shrinks d) ih i.length i ts (Nat.le_refl _) h1
        simp
        omega
      · have := leaf_length ht
        omega
end Go.Proofs.YtbanfbpfapjfcaaDoor.Box
