/-
  The contract of read at every part, lists in one another too. Conditions: in each statement.
-/
import Derived.Test.YtbanfbpfapjfcaaDoorKReadC
namespace Go.Proofs.YtbanfbpfapjfcaaDoor
open Go.RowKit
set_option maxRecDepth 100000

theorem Tryd.infoPart : (Tryd.prog.info? 30).map (fun i => (i.zero, i.size, i.bytes)) = some (some (.agg zeroPart), 4, 64) := by kernel_rfl

/-- The four cells of a part, by their kinds. -/
abbrev partCells (kk vv : Int) (a2 : Option Addr) (n2 c2 : Nat) (a3 : Option Addr) (n3 c3 : Nat) : List Value := [.int .u8 kk, .int .i64 vv, .slice a2 n2 c2, .slice a3 n3 c3]
/-- What read gives. -/
def ReadSaid (d : Nat) (tag : UInt8) (ins : List UInt8) (p : Nat) (w : World) (e : Ending) (w' : World) : Prop :=
  ∃ (kk vv : Int) (a2 : Option Addr) (n2 c2 : Nat) (a3 : Option Addr) (n3 c3 : Nat), e = .returned (.tuple #[.agg #[.int .u8 kk, .int .i64 vv, .slice a2 n2 c2, .slice a3 n3 c3], .int .i64 (p : Int)]) ∧ (kk == 0) = false ∧
    PartIs d w' (fun b => w.heap.size ≤ b ∧ b < w'.heap.size) tag ins (partCells kk vv a2 n2 c2 a3 n3 c3) ∧ w.grownBy w' none
def ReadAt (d : Nat) : Prop := ∀ (tag : UInt8) (ins L t post : List UInt8) (N i0 : Nat) (S : ByteArray) (w : World), Hid (S = ⟨L.toArray⟩) → Hid (L.length = N) → N ≤ 1000000 → Hid (Box.pshow d tag ins = some t) → Hid (L.drop i0 = t ++ post) → Hid (Ends post) → TabHere w →
  Calls Tryd.prog 12 #[.string S, .int .i64 (i0 : Int)] w fun e w' => ReadSaid d tag ins (i0 + t.length) w e w'

theorem leaf_cases {tag : UInt8} {ins t : List UInt8} (h : Box.leaf tag ins = some t) : (tag.toNat = 2 ∧ ∃ v, Box.num ins = some v ∧ Lib.itoa v = t) ∨ (tag.toNat = 4 ∧ t = 34 :: Box.hex ins ++ [34]) := by
  unfold Box.leaf at h
  split at h
  · rename_i h2
    simp only [Option.map_eq_some_iff] at h
    exact .inl ⟨h2, h⟩
  · split at h
    · rename_i h4
      simp only [Option.some.injEq] at h
      exact .inr ⟨h4, h.symm⟩
    · simp at h
theorem pshow_first {d : Nat} {tag : UInt8} {ins t : List UInt8} (h : Box.pshow d tag ins = some t) : ∃ c r, t = c :: r ∧ c.toNat ≠ 125 ∧ c.toNat ≠ 44 := by
  have hl : ∀ {t}, Box.leaf tag ins = some t → ∃ c r, t = c :: r ∧ c.toNat ≠ 125 ∧ c.toNat ≠ 44 := by
    intro t h
    rcases leaf_cases h with ⟨_, v, _, rfl⟩ | ⟨_, rfl⟩
    · obtain ⟨h1, h2⟩ := itoa_signs v
      cases hi : Lib.itoa v with
      | nil => exact absurd hi h1
      | cons c r =>
        have := h2 c (by rw [hi]; exact List.mem_cons_self)
        exact ⟨c, r, rfl, by omega, by omega⟩
    · exact ⟨34, _, rfl, by decide, by decide⟩
  cases d with
  | zero => exact hl h
  | succ d =>
    rw [Box.pshow, Box.piece] at h
    split at h
    · simp only [Option.map_eq_some_iff] at h
      obtain ⟨ts, _, rfl⟩ := h
      exact ⟨123, _, rfl, by decide, by decide⟩
    · exact hl h
theorem tells_get {d : Nat} : ∀ {ps : List (UInt8 × List UInt8)} {ts : List (List UInt8)}, Box.tells d ps = some ts → ∀ k, k < ps.length → Box.pshow d (ps.getD k (0, [])).1 (ps.getD k (0, [])).2 = some (ts.getD k []) := by
  intro ps
  induction ps with
  | nil => intro ts _ k hk; simp at hk
  | cons q ps ih =>
    intro ts h k hk
    simp only [Box.tells] at h
    cases hq : Box.pshow d q.1 q.2 with
    | none => rw [hq] at h; simp at h
    | some t =>
      rw [hq] at h
      simp only [Option.map_eq_some_iff] at h
      obtain ⟨ts', h', rfl⟩ := h
      cases k with
      | zero => simpa using hq
      | succ k => simpa using ih h' k (by simpa using hk)
theorem drop_getD {α : Type} {l : List α} {k : Nat} (x : α) (h : k < l.length) : l.drop k = l.getD k x :: l.drop (k + 1) := by
  rw [List.drop_eq_getElem_cons h]
  simp [List.getD, List.getElem?_eq_getElem h]
/-- What is left of a list's text at a part. -/
theorem commas_drop {ts : List (List UInt8)} {k : Nat} (h : k < ts.length) : Box.commas (ts.drop k) = if k + 1 < ts.length then ts.getD k [] ++ 44 :: Box.commas (ts.drop (k + 1)) else ts.getD k [] := by
  rw [drop_getD [] h]
  split
  · rename_i h2
    rw [drop_getD [] h2]
    rfl
  · rename_i h2
    rw [List.drop_of_length_le (show ts.length ≤ k + 1 by omega)]
    rfl
theorem flat4_get (css : List (List Value)) (h4 : ∀ j, j < css.length → (css.getD j []).length = 4) : ∀ k j, k < css.length → j < 4 → css.flatten[k * 4 + j]? = (css.getD k [])[j]? := by
  induction css with
  | nil => intro k j hk; simp at hk
  | cons x css ih =>
    intro k j hk hj
    have hx : x.length = 4 := h4 0 (by simp)
    rw [List.flatten_cons]
    cases k with
    | zero => rw [Nat.zero_mul, Nat.zero_add, List.getElem?_append_left (by omega)]; rfl
    | succ k =>
      rw [List.getElem?_append_right (by omega), hx, show (k + 1) * 4 + j - 4 = k * 4 + j from by omega]
      exact ih (fun j hj => h4 (j + 1) (by simpa using hj)) k j (by simpa using hk) hj

theorem read_leaf (d : Nat) (tag : UInt8) (ins L t post : List UInt8) (N i0 : Nat) (S : ByteArray) (w : World) (hS : Hid (S = ⟨L.toArray⟩)) (hN : Hid (L.length = N)) (hNl : N ≤ 1000000) (hp : Hid (Box.leaf tag ins = some t)) (hL : Hid (L.drop i0 = t ++ post)) (hE : Hid (Ends post)) (htab : TabHere w) :
    Calls Tryd.prog 12 #[.string S, .int .i64 (i0 : Int)] w fun e w' => ReadSaid d tag ins (i0 + t.length) w e w' := by
  rcases leaf_cases hp.out with ⟨h2, v, hv, ht⟩ | ⟨h4, ht⟩
  · have hb := num_bounds hv
    refine (read_num v L t post N i0 S w hS hN hNl hL (hid ht) hE hb.1 hb.2 htab).mono fun e w' ⟨he, hg⟩ => ?_
    exact ⟨110, v, none, 0, 0, none, 0, 0, he, rfl, PartIs.leaf (.inl ⟨h2, v, hv, rfl⟩), hg⟩
  · refine (read_text ins L post ins.length N i0 S w hS hN hNl (hid rfl) (hid (by rw [hL.out, ht]; simp))).mono fun e w' ⟨a, c, he, hat, hb, hg⟩ => ?_
    refine ⟨116, 0, a, ins.length, c, none, 0, 0, ?_, rfl, PartIs.leaf (.inr ⟨h4, a, c, rfl, hat, hb⟩), hg⟩
    rw [he]
    refine tup_pos ?_
    rw [ht]
    simp [Box.hex_length]
    omega
end Go.Proofs.YtbanfbpfapjfcaaDoor
