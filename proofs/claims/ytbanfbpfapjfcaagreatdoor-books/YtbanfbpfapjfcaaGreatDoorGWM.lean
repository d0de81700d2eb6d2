/-
  The desk as mathematics: names, entries, the book, what Admin does to it, and that a book that can be stays one. Conditions: in each statement.
  Plain mathematics: a box that was written is cut off again; a number's bytes say it; a box with a byte more or less is none. Conditions: in each statement.
-/
import Derived.Test.YtbanfbpfapjfcaaGreatDoorGBoxM
namespace Go.Proofs.YtbanfbpfapjfcaaGreatDoor
open Go.RowKit
set_option maxRecDepth 100000

/-- May it be in a name? -/
def isPart (z : UInt8) : Bool := decide ((97 ≤ z.toNat ∧ z.toNat ≤ 122) ∨ (48 ≤ z.toNat ∧ z.toNat ≤ 57) ∨ z.toNat = 47)
/-- Is it a name? -/
def isNameL (l : List UInt8) : Bool := decide (1 ≤ l.length ∧ l.length ≤ 16) && l.all isPart
theorem all_take_succ {l : List UInt8} {k : Nat} (h : k < l.length) : (l.take (k + 1)).all isPart = ((l.take k).all isPart && isPart (l.getD k 0)) := by
  rw [List.take_succ_eq_append_getElem h, List.all_append]
  simp [List.getD, List.getElem?_eq_getElem h]

/-- What is done to a book. -/
structure Adm where
  kind : Int
  name : List UInt8
  key : UInt64
  life : Int
  renew : Int
  expire : Int
  flags : Int
abbrev Adm.cells (a : Adm) : Array Value := #[.int .i64 a.kind, .string ⟨a.name.toArray⟩, .int .u64 (a.key.toNat : Int), .int .i64 a.life, .int .i64 a.renew, .int .i64 a.expire, .int .i64 a.flags]
def Adm.pol (a : Adm) : Bool := decide (0 ≤ a.life ∧ 0 ≤ a.renew ∧ 0 ≤ a.flags ∧ a.flags < 64)

/-- An entry of a book. -/
structure BE where
  name : List UInt8
  number : Int
  key : UInt64
  before : UInt64
  life : Int
  renew : Int
  expire : Int
  flags : Int
/-- A proof that is remembered. -/
structure PF where
  client : List UInt8
  time : Int
  count : Int
  deriving DecidableEq
/-- A desk. -/
structure DM where
  skew : Int
  book : List BE
  proofs : List PF
  draws : List UInt8

/-- Where the entry of a name is. -/
def BE.at? (es : List BE) (l : List UInt8) : Option Nat := es.findIdx? (fun e => e.name == l)
/-- Where a name would be put. -/
def BE.ins : List BE → List UInt8 → Nat
  | [], _ => 0
  | e :: es, l => if Op.bytesLess e.name l then BE.ins es l + 1 else 0
def BE.new (a : Adm) : BE := ⟨a.name, 1, a.key, 0, a.life, a.renew, a.expire, a.flags⟩
def BE.rekeyed (x : BE) (key : UInt64) : BE := ⟨x.name, x.number + 1, key, x.key, x.life, x.renew, x.expire, x.flags⟩
def BE.repol (x : BE) (a : Adm) : BE := ⟨x.name, x.number, x.key, x.before, a.life, a.renew, a.expire, a.flags⟩

/-- What Admin does to a book, and what it answers. -/
def admB (es : List BE) (a : Adm) : List BE × Int :=
  if a.kind = 1 then
    (if isNameL a.name = false then (es, 4) else if a.pol = false then (es, 1) else if (BE.at? es a.name).isSome then (es, 5) else if 20 ≤ es.length then (es, 7)
     else (es.take (BE.ins es a.name) ++ [BE.new a] ++ es.drop (BE.ins es a.name), 0))
  else if a.kind = 2 ∨ a.kind = 3 ∨ a.kind = 4 then
    match BE.at? es a.name with
    | none => (es, 6)
    | some i =>
      if a.kind = 2 then (es.take i ++ es.drop (i + 1), 0)
      else match es[i]? with
      | none => (es, 6)
      | some x => if a.kind = 3 then (es.set i (x.rekeyed a.key), 0) else if a.pol = false then (es, 1) else (es.set i (x.repol a), 0)
  else (es, 1)

/-- A book that can be: few entries, each of its own name, in their order; key numbers from 1 to n. -/
structure BookOk (n : Nat) (es : List BE) : Prop where
  len : es.length ≤ 20
  name : ∀ e ∈ es, isNameL e.name = true
  num : ∀ e ∈ es, 1 ≤ e.number ∧ e.number ≤ (n : Int)
  pol : ∀ e ∈ es, 0 ≤ e.life ∧ 0 ≤ e.renew ∧ 0 ≤ e.flags ∧ e.flags < 64
  sorted : es.Pairwise fun x y => Op.bytesLess x.name y.name = true

theorem bl_irrefl : ∀ a : List UInt8, Op.bytesLess a a = false
  | [] => rfl
  | x :: a => by simp [Op.bytesLess, bl_irrefl a]
theorem bl_nil_right : ∀ a : List UInt8, Op.bytesLess a [] = false
  | [] => rfl
  | _ :: _ => rfl
theorem bl_trans : ∀ {a b c : List UInt8}, Op.bytesLess a b = true → Op.bytesLess b c = true → Op.bytesLess a c = true := by
  intro a
  induction a with
  | nil =>
    intro b c h1 h2
    cases c with
    | nil => rw [bl_nil_right] at h2; cases h2
    | cons z c => rfl
  | cons x a ih =>
    intro b c h1 h2
    cases b with
    | nil => rw [bl_nil_right] at h1; cases h1
    | cons y b =>
      cases c with
      | nil => rw [bl_nil_right] at h2; cases h2
      | cons z c =>
        simp only [Op.bytesLess, Bool.or_eq_true, Bool.and_eq_true, decide_eq_true_eq, beq_iff_eq] at h1 h2 ⊢
        rcases h1 with h1 | ⟨rfl, h1⟩
        · rcases h2 with h2 | ⟨rfl, h2⟩
          · exact .inl (UInt8.lt_trans h1 h2)
          · exact .inl h1
        · rcases h2 with h2 | ⟨rfl, h2⟩
          · exact .inl h2
          · exact .inr ⟨rfl, ih h1 h2⟩
theorem bl_total : ∀ {a b : List UInt8}, Op.bytesLess a b = false → a ≠ b → Op.bytesLess b a = true := by
  intro a
  induction a with
  | nil =>
    intro b h1 h2
    cases b with
    | nil => exact absurd rfl h2
    | cons y b => simp [Op.bytesLess] at h1
  | cons x a ih =>
    intro b h1 h2
    cases b with
    | nil => rfl
    | cons y b =>
      simp only [Op.bytesLess, Bool.or_eq_false_iff, Bool.and_eq_false_iff, decide_eq_false_iff_not, beq_eq_false_iff_ne] at h1
      simp only [Op.bytesLess, Bool.or_eq_true, Bool.and_eq_true, decide_eq_true_eq, beq_iff_eq]
      obtain ⟨h3, h4⟩ := h1
      by_cases e : x = y
      · subst e
        refine .inr ⟨rfl, ih (by rcases h4 with h | h; exact absurd rfl h; exact h) (fun e => h2 (by rw [e]))⟩
      · left
        rcases UInt8.lt_or_lt_of_ne e with h | h
        · exact absurd h h3
        · exact h

theorem ins_le (es : List BE) (l : List UInt8) : BE.ins es l ≤ es.length := by
  induction es with
  | nil => exact Nat.le_refl _
  | cons x es ih => simp only [BE.ins, List.length_cons]; split <;> omega
theorem ins_front (l : List UInt8) : ∀ (es : List BE), ∀ x ∈ es.take (BE.ins es l), Op.bytesLess x.name l = true := by
  intro es
  induction es with
  | nil => intro x hx; simp at hx
  | cons y es ih =>
    intro x hx
    simp only [BE.ins] at hx
    split at hx
    · rename_i h
      rw [List.take_succ_cons] at hx
      rcases List.mem_cons.1 hx with e | e
      · rw [e]; exact h
      · exact ih x e
    · simp at hx
theorem ins_behind (l : List UInt8) : ∀ (es : List BE), es.Pairwise (fun x y => Op.bytesLess x.name y.name = true) → (∀ x ∈ es, x.name ≠ l) → ∀ x ∈ es.drop (BE.ins es l), Op.bytesLess l x.name = true := by
  intro es
  induction es with
  | nil => intro _ _ x hx; simp at hx
  | cons y es ih =>
    intro hs hn x hx
    rw [List.pairwise_cons] at hs
    simp only [BE.ins] at hx
    split at hx
    · rw [List.drop_succ_cons] at hx
      exact ih hs.2 (fun z hz => hn z (List.mem_cons_of_mem _ hz)) x hx
    · rename_i h
      have hy : Op.bytesLess l y.name = true := bl_total (by simpa using h) (hn y (List.mem_cons_self ..))
      rw [List.drop_zero] at hx
      rcases List.mem_cons.1 hx with e | e
      · rw [e]; exact hy
      · exact bl_trans hy (hs.1 x e)

theorem at_none {es : List BE} {l : List UInt8} (h : BE.at? es l = none) : ∀ x ∈ es, x.name ≠ l := by
  intro x hx e
  rw [BE.at?, List.findIdx?_eq_none_iff] at h
  have := h x hx
  simp [e] at this
theorem at_some {es : List BE} {l : List UInt8} {i : Nat} (h : BE.at? es l = some i) : ∃ hi : i < es.length, es[i].name = l := by
  rw [BE.at?, List.findIdx?_eq_some_iff_getElem] at h
  obtain ⟨hi, h2, _⟩ := h
  exact ⟨hi, by simpa using h2⟩
theorem mem_ins {es : List BE} {e x : BE} {k : Nat} (h : x ∈ es.take k ++ [e] ++ es.drop k) : x = e ∨ x ∈ es := by
  simp only [List.mem_append, List.mem_singleton] at h
  rcases h with (h | h) | h
  · exact .inr (List.mem_of_mem_take h)
  · exact .inl h
  · exact .inr (List.mem_of_mem_drop h)
theorem mem_del {es : List BE} {x : BE} {k : Nat} (h : x ∈ es.take k ++ es.drop (k + 1)) : x ∈ es := by
  rw [List.mem_append] at h
  rcases h with h | h
  · exact List.mem_of_mem_take h
  · exact List.mem_of_mem_drop h
theorem BookOk.mono {n m : Nat} {es : List BE} (h : BookOk n es) (k : n ≤ m) : BookOk m es := ⟨h.len, h.name, fun e he => by have := h.num e he; omega, h.pol, h.sorted⟩
theorem BookOk.nil (n : Nat) : BookOk n [] := ⟨by simp, by simp, by simp, by simp, .nil⟩
theorem pairwise_set {es : List BE} (hs : es.Pairwise (fun x y => Op.bytesLess x.name y.name = true)) (i : Nat) (y : BE) (hi : i < es.length) (hy : y.name = es[i].name) : (es.set i y).Pairwise (fun x y => Op.bytesLess x.name y.name = true) := by
  have hm : (es.set i y).map BE.name = es.map BE.name := by
    rw [List.map_set, hy]
    apply List.ext_getElem?
    intro j
    rw [List.getElem?_set]
    split
    · rename_i e
      subst e
      simp [hi]
    · rfl
  have h1 : (es.map BE.name).Pairwise (fun x y => Op.bytesLess x y = true) := by rw [List.pairwise_map]; exact hs
  rw [← hm, List.pairwise_map] at h1
  exact h1

theorem BookOk.admB {n : Nat} {es : List BE} (h : BookOk n es) (hn : 1 ≤ n) (a : Adm) : BookOk (n + 1) (admB es a).1 := by
  have h1 := h.mono (Nat.le_succ n)
  have hset : ∀ (i : Nat) (x y : BE), es[i]? = some x → y.name = x.name → (1 ≤ y.number ∧ y.number ≤ ((n + 1 : Nat) : Int)) → (0 ≤ y.life ∧ 0 ≤ y.renew ∧ 0 ≤ y.flags ∧ y.flags < 64) → BookOk (n + 1) (es.set i y) := by
    intro i x y hx e1 e2 e3
    obtain ⟨hi, hx2⟩ := List.getElem?_eq_some_iff.1 hx
    have hxm : x ∈ es := by rw [← hx2]; exact List.getElem_mem hi
    refine ⟨by simpa using h.len, ?_, ?_, ?_, pairwise_set h.sorted i y hi (by rw [hx2]; exact e1)⟩
    · intro e he
      rcases List.mem_or_eq_of_mem_set he with q | q
      · exact h.name e q
      · rw [q, e1]; exact h.name x hxm
    · intro e he
      rcases List.mem_or_eq_of_mem_set he with q | q
      · exact h1.num e q
      · rw [q]; exact e2
    · intro e he
      rcases List.mem_or_eq_of_mem_set he with q | q
      · exact h.pol e q
      · rw [q]; exact e3
  have hpol : a.pol ≠ false → 0 ≤ a.life ∧ 0 ≤ a.renew ∧ 0 ≤ a.flags ∧ a.flags < 64 := by
    intro hp
    have : a.pol = true := by simpa using hp
    simpa [Adm.pol] using this
  unfold Proofs.YtbanfbpfapjfcaaGreatDoor.admB
  split
  · split
    · exact h1
    · rename_i hnm
      split
      · exact h1
      · rename_i hp
        split
        · exact h1
        · rename_i hat
          split
          · exact h1
          · rename_i hfull
            have hat' : BE.at? es a.name = none := by simpa using hat
            have hno := at_none hat'
            have hle := ins_le es a.name
            refine ⟨by simp; omega, ?_, ?_, ?_, ?_⟩
            · intro e he
              rcases mem_ins he with q | q
              · rw [q]; show isNameL a.name = true; simpa using hnm
              · exact h.name e q
            · intro e he
              rcases mem_ins he with q | q
              · rw [q]; show 1 ≤ (1 : Int) ∧ (1 : Int) ≤ _; omega
              · exact h1.num e q
            · intro e he
              rcases mem_ins he with q | q
              · rw [q]; exact hpol hp
              · exact h.pol e q
            · rw [List.append_assoc, List.pairwise_append]
              refine ⟨h.sorted.sublist (List.take_sublist ..), ?_, ?_⟩
              · rw [List.singleton_append, List.pairwise_cons]
                exact ⟨fun x hx => ins_behind a.name es h.sorted hno x hx, h.sorted.sublist (List.drop_sublist ..)⟩
              · intro x hx y hy
                rw [List.singleton_append] at hy
                have hxl := ins_front a.name es x hx
                rcases List.mem_cons.1 hy with q | q
                · rw [q]; exact hxl
                · exact bl_trans hxl (ins_behind a.name es h.sorted hno y q)
  · split
    · split
      · exact h1
      · rename_i i hi
        split
        · refine ⟨?_, fun e he => h.name e (mem_del he), fun e he => h1.num e (mem_del he), fun e he => h.pol e (mem_del he), ?_⟩
          · have := h.len; simp; omega
          · have hsub : (es.take i ++ es.drop (i + 1)).Sublist es := by
              conv => rhs; rw [← List.take_append_drop i es]
              exact List.Sublist.append (List.Sublist.refl _) (by rw [← List.drop_drop]; exact List.drop_sublist ..)
            exact h.sorted.sublist hsub
        · split
          · exact h1
          · rename_i x hx
            obtain ⟨hi2, hx2⟩ := List.getElem?_eq_some_iff.1 hx
            have hxm : x ∈ es := by rw [← hx2]; exact List.getElem_mem hi2
            split
            · exact hset i x (x.rekeyed a.key) hx rfl (by have := h.num x hxm; show 1 ≤ x.number + 1 ∧ x.number + 1 ≤ _; omega) (h.pol x hxm)
            · split
              · exact h1
              · rename_i hp
                exact hset i x (x.repol a) hx rfl (h1.num x hxm) (hpol hp)
    · exact h1
end Go.Proofs.YtbanfbpfapjfcaaGreatDoor
namespace Go.Proofs.YtbanfbpfapjfcaaGreatDoor.Box

theorem cut_box (tag : UInt8) (l r : List UInt8) (h : l.length ≤ 65535) : cut (box tag l ++ r) = some (tag, l, r) := by
  rw [box, head]
  by_cases h1 : l.length < 128
  · rw [if_pos h1]
    have e : (UInt8.ofNat l.length).toNat = l.length := by rw [UInt8.toNat_ofNat', Nat.mod_eq_of_lt (by omega)]
    simp [cut, cutLen, e, h1]
  · rw [if_neg h1]
    by_cases h2 : l.length < 256
    · rw [if_pos h2]
      have e : (UInt8.ofNat l.length).toNat = l.length := by rw [UInt8.toNat_ofNat', Nat.mod_eq_of_lt (by omega)]
      have h3 : 128 ≤ l.length := by omega
      simp [cut, cutLen, e, h3]
    · rw [if_neg h2]
      have e1 : (UInt8.ofNat (l.length / 256)).toNat = l.length / 256 := by rw [UInt8.toNat_ofNat', Nat.mod_eq_of_lt (by omega)]
      have e2 : (UInt8.ofNat (l.length % 256)).toNat = l.length % 256 := by rw [UInt8.toNat_ofNat', Nat.mod_eq_of_lt (by omega)]
      have h3 : 256 ≤ l.length / 256 * 256 + l.length % 256 := by omega
      have h4 : l.length / 256 * 256 + l.length % 256 = l.length := by omega
      rw [h4] at h3
      simp [cut, cutLen, e1, e2, h4, h3]
theorem cutsL_box (tag : UInt8) (l r : List UInt8) (h : l.length ≤ 65535) : cutsL (box tag l ++ r) = (cutsL r).map ((tag, l) :: ·) := cutsL_some (cut_box tag l r h)

theorem byteI_add (v : Int) : v = v / 256 * 256 + ((byteI v 0).toNat : Int) := by
  unfold byteI
  rw [Nat.mul_zero, Int.pow_zero, Int.ediv_one, UInt8.toNat_ofNat', Nat.mod_eq_of_lt (by omega)]
  omega
theorem low_succ (v : Int) (k : Nat) : low v (k + 1) = low (v / 256) k ++ [byteI v 0] := by
  have := low_snoc (v / 256) (byteI v 0) k
  rw [← byteI_add] at this
  exact this
theorem val_snoc {l : List UInt8} (h : 1 ≤ l.length) (b : UInt8) : val (l ++ [b]) = val l * 256 + (b.toNat : Int) := by
  cases l with
  | nil => simp at h
  | cons a l => simp only [val, List.cons_append, List.getD_cons_zero, List.drop_succ_cons, List.drop_zero]; rw [valFrom_snoc]
theorem val_low : ∀ (k : Nat) (v M : Int), M = 128 * 256 ^ k → -M ≤ v → v < M → val (low v (k + 1)) = v := by
  intro k
  induction k with
  | zero =>
    intro v M hM h0 h1
    rw [Int.pow_zero] at hM
    have e : low v 1 = [byteI v 0] := rfl
    rw [e]
    simp only [val, List.getD_cons_zero, List.drop_succ_cons, List.drop_zero, valFrom_nil]
    have hb := byteI_add v
    have hl := (byteI v 0).toNat_lt
    unfold sign
    split <;> omega
  | succ k ih =>
    intro v M hM h0 h1
    rw [low_succ, val_snoc (by rw [low_length]; omega)]
    have hM' : M = 128 * 256 ^ k * 256 := by rw [hM, Int.pow_succ, Int.mul_assoc]
    rw [ih (v / 256) (128 * 256 ^ k) rfl (by omega) (by omega), ← byteI_add]
theorem num_low (v : Int) (h0 : -9223372036854775808 ≤ v) (h1 : v ≤ 9223372036854775807) : num (low v (size v)) = some v := by
  have hs := size_bounds v
  have hv : val (low v (size v)) = v := by
    obtain ⟨k, hk⟩ : ∃ k, size v = k + 1 := ⟨size v - 1, by omega⟩
    rw [hk]
    have hk8 : k = 0 ∨ k = 1 ∨ k = 2 ∨ k = 3 ∨ k = 4 ∨ k = 5 ∨ k = 6 ∨ k = 7 := by omega
    rcases hk8 with rfl | rfl | rfl | rfl | rfl | rfl | rfl | rfl
    all_goals
      refine val_low _ v _ rfl ?_ ?_ <;> simp only [Int.reducePow, Int.reduceMul] <;> unfold size at hk <;> (repeat' split at hk) <;> omega
  rw [num, hv, low_length, if_pos ⟨hs.1, hs.2, rfl⟩]

/-- One byte less is no box. -/
theorem cut_less (tag : UInt8) (l : List UInt8) (h1 : 1 ≤ l.length) (h : l.length ≤ 255) : cut ((box tag l).take ((box tag l).length - 1)) = none := by
  obtain ⟨x, y, hl⟩ : ∃ x y, l = x ++ [y] := ⟨l.dropLast, l.getLast (by intro e; rw [e] at h1; simp at h1), (List.dropLast_concat_getLast _).symm⟩
  have hb : (box tag l).take ((box tag l).length - 1) = head tag l.length ++ x := by
    have e : box tag l = (head tag l.length ++ x) ++ [y] := by
      rw [box]
      conv => lhs; rw [hl]
      simp [hl]
    rw [e]
    have : ((head tag l.length ++ x) ++ [y]).length - 1 = (head tag l.length ++ x).length := by simp
    rw [this, List.take_left]
  have hx : x.length + 1 = l.length := by rw [hl]; simp
  rw [hb, head]
  by_cases h2 : l.length < 128
  · rw [if_pos h2]
    have e : (UInt8.ofNat l.length).toNat = l.length := by rw [UInt8.toNat_ofNat', Nat.mod_eq_of_lt (by omega)]
    have h3 : ¬ l.length ≤ x.length := by omega
    simp [cut, cutLen, e, h2]
    omega
  · rw [if_neg h2, if_pos (by omega)]
    have e : (UInt8.ofNat l.length).toNat = l.length := by rw [UInt8.toNat_ofNat', Nat.mod_eq_of_lt (by omega)]
    have h3 : 128 ≤ l.length := by omega
    simp [cut, cutLen, e, h3]
    omega
end Go.Proofs.YtbanfbpfapjfcaaGreatDoor.Box

namespace Go.Proofs.YtbanfbpfapjfcaaGreatDoor
open Go.RowKit

/-- A number's box; some of them, one behind the other. -/
def numBox (v : Int) : List UInt8 := Box.box 2 (Box.low v (Box.size v))
def numsCat (l : List Int) : List UInt8 := (l.map numBox).flatten
theorem numBox_length (v : Int) : 3 ≤ (numBox v).length ∧ (numBox v).length ≤ 10 := by
  have := size_bounds v
  rw [numBox, Box.box_length, Box.low_length, if_pos (by omega)]
  omega
theorem numsCat_length (l : List Int) : (numsCat l).length ≤ 10 * l.length := by
  induction l with
  | nil => simp [numsCat]
  | cons v l ih =>
    have := (numBox_length v).2
    simp only [numsCat, List.map_cons, List.flatten_cons, List.length_append, List.length_cons] at *
    omega
theorem cutsL_nums (l : List Int) : Box.cutsL (numsCat l) = some (l.map fun v => ((2 : UInt8), Box.low v (Box.size v))) := by
  induction l with
  | nil => rfl
  | cons v l ih =>
    have e : numsCat (v :: l) = Box.box 2 (Box.low v (Box.size v)) ++ numsCat l := by simp [numsCat, numBox]
    have := size_bounds v
    rw [e, Box.cutsL_box _ _ _ (by rw [Box.low_length]; omega), ih]
    rfl
def I64' (v : Int) : Prop := -9223372036854775808 ≤ v ∧ v ≤ 9223372036854775807
theorem tells_nums (d : Nat) (l : List Int) (h : ∀ v ∈ l, I64' v) : Box.tells d (l.map fun v => ((2 : UInt8), Box.low v (Box.size v))) = some (l.map Lib.itoa) := by
  induction l with
  | nil => rfl
  | cons v l ih =>
    have hv := h v List.mem_cons_self
    have hp : Box.pshow d 2 (Box.low v (Box.size v)) = some (Lib.itoa v) := by
      rw [Box.pshow_leaf d 2 _ (by decide), Box.leaf, if_pos (by decide), Box.num_low v hv.1 hv.2]
      rfl
    simp only [List.map_cons, Box.tells, hp, ih (fun v hv => h v (List.mem_cons_of_mem _ hv)), Option.map_some]
end Go.Proofs.YtbanfbpfapjfcaaGreatDoor
