/-
  Parts of the memory that do not meet: each part says something of its own blocks; who writes into one part alone leaves the others as they were. Conditions: in each statement.
  Lists that came out, of any one-cell elements: what their owner keeps of them. Laws of slices without spare room. Conditions: in each statement.
  Contract: does nothing but the mark stand in a list? Conditions: nothing else does.
  Contract: does nothing but the mark stand in a list? Conditions: nothing else does.
  Contract: does nothing but the mark stand in a list? Conditions: nothing else does.
-/
import Derived.Test.YtbanfbpfapjfcaaGreatDoorGRows2
import Derived.Test.YtbanfbpfapjfcaaGreatDoorGLaw2
namespace Go.Proofs.YtbanfbpfapjfcaaGreatDoor
open Go.RowKit

theorem own_keep {w w' : World} {base : Nat} {e : TypeId} {size : Nat} {v : Value} {n : Nat} {xs : List Value} (h : w.ownsRow base e size v n xs) (hk : ∀ b, v.ownBlock = some b → w'.heap[b]? = w.heap[b]?) : w'.ownsRow base e size v n xs := by
  refine ⟨h.1, ?_⟩
  rcases h.2 with hn | ⟨g, cap, cur, rfl, hb, hgg, rest⟩
  · exact .inl hn
  · exact .inr ⟨g, cap, cur, rfl, hb, (hk g rfl).trans hgg, rest⟩
theorem Frm.refl (w : World) (ex : Nat → Prop) : Frm w w ex := ⟨rfl, rfl, rfl, Nat.le_refl _, fun _ _ _ => rfl⟩
theorem Frm.mono {w w' : World} {ex ex' : Nat → Prop} (h : Frm w w' ex) (k : ∀ b, b < w.heap.size → ex b → ex' b) : Frm w w' ex' := ⟨h.os, h.tape, h.output, h.size, fun b hb hx => h.block b hb (fun e => hx (k b hb e))⟩
theorem Frm.trans {a b c : World} {ex : Nat → Prop} (h : Frm a b ex) (k : Frm b c fun i => ex i ∨ a.heap.size ≤ i) : Frm a c ex := by
  have s := h.size
  refine ⟨k.os.trans h.os, k.tape.trans h.tape, k.output.trans h.output, Nat.le_trans h.size k.size, fun i hi hx => ?_⟩
  rw [k.block i (by omega) (by rintro (e | e); exact hx e; omega), h.block i hi hx]
theorem Frm.trans2 {a b c : World} {ex ex2 : Nat → Prop} (h : Frm a b ex) (k : Frm b c ex2) : Frm a c fun i => ex i ∨ ex2 i := by
  have s := h.size
  refine ⟨k.os.trans h.os, k.tape.trans h.tape, k.output.trans h.output, Nat.le_trans h.size k.size, fun i hi hx => ?_⟩
  rw [k.block i (by omega) (fun e => hx (.inr e)), h.block i hi (fun e => hx (.inl e))]
theorem Frm.of_gb {w w' : World} {row : Option Nat} (h : w.grownBy w' row) : Frm w w' fun b => row = some b := ⟨h.os, h.tape, h.output, h.size, fun b hb hx => h.block b hb (fun e => hx e.symm)⟩
theorem Frm.of_none {w w' : World} (h : w.grownBy w' none) (ex : Nat → Prop) : Frm w w' ex := ⟨h.os, h.tape, h.output, h.size, fun b hb _ => h.block b hb (by simp)⟩
theorem Frm.gb {w w' : World} {ex : Nat → Prop} (h : Frm w w' ex) (hx : ∀ b, b < w.heap.size → ¬ ex b) : w.grownBy w' none := ⟨h.os, h.tape, h.output, h.size, fun b hb _ => h.block b hb (hx b hb)⟩
theorem Frm.below {w w' : World} {ex : Nat → Prop} {B : Nat} (h : Frm w w' ex) (hB : B ≤ w.heap.size) (hx : ∀ b, ex b → B ≤ b) : Below B w w' := ⟨h.os, h.tape, h.output, h.size, fun b hb => h.block b (by omega) (fun e => by have := hx b e; omega)⟩
theorem Frm.setCell {a w : World} {ex : Nat → Prop} (h : Frm a w ex) (p : Addr) (u : Value) (hp : ex p.block ∨ a.heap.size ≤ p.block) : Frm a (w.setCell p u) ex :=
  h.trans ⟨rfl, rfl, rfl, by simp [World.setCell], fun k _ hx => Below.heap_setCell _ _ _ _ (fun e => hx (by rw [e]; exact hp))⟩
theorem Frm.set {a w : World} {ex : Nat → Prop} {g : Nat} (h : Frm a w ex) (hg : ex g) (j : Nat) (u : Value) : Frm a (w.setCell ⟨g, j, none⟩ u) ex := h.setCell ⟨g, j, none⟩ u (.inl hg)

section
variable {S : Type} {C : S → Nat → World → Prop} {Foot : S → Nat → Nat → Prop}
/-- What a part says hangs on its own blocks alone. -/
def Loc (C : S → Nat → World → Prop) (Foot : S → Nat → Nat → Prop) : Prop := ∀ s k w w', C s k w → (∀ b, Foot s k b → w'.heap[b]? = w.heap[b]?) → C s k w'
/-- Every part holds, they lie from B on, and no two meet. -/
structure Sep (C : S → Nat → World → Prop) (Foot : S → Nat → Nat → Prop) (B : Nat) (s : S) (w : World) : Prop where
  here : ∀ k, C s k w
  lt : ∀ k b, Foot s k b → b < w.heap.size
  base : ∀ k b, Foot s k b → B ≤ b
  one : ∀ j k b, Foot s j b → Foot s k b → j = k
  room : B ≤ w.heap.size
theorem Sep.grown (L : Loc C Foot) {B : Nat} {s : S} {w w' : World} (h : Sep C Foot B s w) (g : w.grownBy w' none) : Sep C Foot B s w' :=
  have z := g.size
  ⟨fun k => L s k w w' (h.here k) (fun b hb => g.block b (h.lt k b hb) (by simp)), fun k b hb => by have := h.lt k b hb; omega, h.base, h.one, by have := h.room; omega⟩
/-- One part is turned into another, which lies where it lay or in new memory. -/
theorem Sep.act (L : Loc C Foot) {B : Nat} {s s' : S} {w w' : World} (h : Sep C Foot B s w) (k : Nat) (f : Frm w w' (Foot s k)) (hc : C s' k w') (hf : ∀ b, Foot s' k b → Foot s k b ∨ w.heap.size ≤ b) (hl : ∀ b, Foot s' k b → b < w'.heap.size)
    (ho : ∀ j, j ≠ k → (C s j w' → C s' j w') ∧ ∀ b, Foot s' j b → Foot s j b) : Sep C Foot B s' w' := by
  have z := f.size
  have hroom := h.room
  refine ⟨fun j => ?_, fun j b hb => ?_, fun j b hb => ?_, fun i j b hi hj => ?_, by omega⟩
  · by_cases e : j = k
    · subst e; exact hc
    · refine (ho j e).1 (L s j w w' (h.here j) (fun b hb => f.block b (h.lt j b hb) (fun e2 => e (h.one j k b hb e2))))
  · by_cases e : j = k
    · subst e; exact hl b hb
    · have := h.lt j b ((ho j e).2 b hb); omega
  · by_cases e : j = k
    · subst e
      rcases hf b hb with e2 | e2
      · exact h.base j b e2
      · omega
    · exact h.base j b ((ho j e).2 b hb)
  · by_cases e : i = k
    · by_cases e2 : j = k
      · omega
      · subst e
        have q := (ho j e2).2 b hj
        rcases hf b hi with r | r
        · exact h.one i j b r q
        · have := h.lt j b q; omega
    · have p := (ho i e).2 b hi
      by_cases e2 : j = k
      · subst e2
        rcases hf b hj with r | r
        · exact h.one i j b p r
        · have := h.lt i b p; omega
      · exact h.one i j b p ((ho j e2).2 b hj)
/-- One part is written into, nothing else changes. -/
theorem Sep.act1 (L : Loc C Foot) {B : Nat} {s : S} {w w' : World} (h : Sep C Foot B s w) (k : Nat) (f : Frm w w' (Foot s k)) (hc : C s k w') : Sep C Foot B s w' :=
  h.act L k f hc (fun b hb => .inl hb) (fun b hb => by have := h.lt k b hb; have := f.size; omega) (fun j _ => ⟨fun x => x, fun b hb => hb⟩)
end
end Go.Proofs.YtbanfbpfapjfcaaGreatDoor
namespace Go.Proofs.YtbanfbpfapjfcaaGreatDoor
open Go.RowKit
set_option maxRecDepth 100000

/-- A list that came out, three others begun at it, and the owner's mark. -/
structure EntV where
  l : Sl
  one : Sl
  two : Sl
  three : Sl
  mark : Value
def EntV.cells (x : EntV) : List Value := [x.l.val, x.one.val, x.two.val, x.three.val, x.mark]
def evCells (l : List EntV) : List Value := (l.map EntV.cells).flatten
theorem evCells_snoc (l : List EntV) (x : EntV) : evCells (l ++ [x]) = evCells l ++ x.cells := by simp [evCells]
theorem evCells_get (l : List EntV) : ∀ (k j : Nat) (hk : k < l.length), j < 5 → (evCells l)[k * 5 + j]? = (l[k]).cells[j]? := by
  induction l with
  | nil => intro k j hk; simp at hk
  | cons x l ih =>
    intro k j hk hj
    have e : evCells (x :: l) = x.cells ++ evCells l := by simp [evCells]
    rw [e]
    cases k with
    | zero => rw [Nat.zero_mul, Nat.zero_add, List.getElem?_append_left (by show j < 5; exact hj)]; rfl
    | succ k =>
      rw [List.getElem?_append_right (by show 5 ≤ (k + 1) * 5 + j; omega), show (k + 1) * 5 + j - x.cells.length = k * 5 + j from by show (k + 1) * 5 + j - 5 = k * 5 + j; omega]
      exact ih k j (by simpa using hk) hj

/-- The slice holds the mark alone. -/
def MarkedV (w : World) (m : Value) (s : Sl) : Prop := s.2.1 ≤ 9223372036854775807 ∧ CAt w s.1 (List.replicate s.2.1 m)
/-- One of its bytes lies in this block. -/
def Sl.on (s : Sl) (b : Nat) : Prop := ∃ off, s.1 = some ⟨b, off, none⟩ ∧ 0 < s.2.1
def EntV.ok (w : World) (x : EntV) : Prop := MarkedV w x.mark x.l ∧ MarkedV w x.mark x.one ∧ MarkedV w x.mark x.two ∧ MarkedV w x.mark x.three
def EntV.on (x : EntV) (b : Nat) : Prop := x.l.on b ∨ x.one.on b ∨ x.two.on b ∨ x.three.on b
theorem MarkedV.keep {w w' : World} {m : Value} {s : Sl} (h : MarkedV w m s) (k : ∀ b, s.on b → w'.heap[b]? = w.heap[b]?) : MarkedV w' m s := by
  refine ⟨h.1, fun j u hu => ?_⟩
  obtain ⟨b, off, e1, e2⟩ := h.2 j u hu
  have hj := (List.getElem?_eq_some_iff.1 hu).1
  rw [List.length_replicate] at hj
  refine ⟨b, off, e1, ?_⟩
  rw [World.cell?_of_block (w := w) (w' := w') (a := ⟨b, off + j, none⟩) (k b ⟨off, e1, by omega⟩)]
  exact e2
theorem EntV.ok.keep {w w' : World} {x : EntV} (h : x.ok w) (k : ∀ b, x.on b → w'.heap[b]? = w.heap[b]?) : x.ok w' :=
  ⟨h.1.keep (fun b hb => k b (.inl hb)), h.2.1.keep (fun b hb => k b (.inr (.inl hb))), h.2.2.1.keep (fun b hb => k b (.inr (.inr (.inl hb)))), h.2.2.2.keep (fun b hb => k b (.inr (.inr (.inr hb))))⟩
theorem MarkedV.lt {w : World} {m : Value} {s : Sl} (h : MarkedV w m s) {b : Nat} (hb : s.on b) : b < w.heap.size := by
  obtain ⟨off, e1, e2⟩ := hb
  obtain ⟨b', off', e3, e4⟩ := h.2 0 m (by simp [e2])
  rw [e1] at e3
  injection e3 with e3
  injection e3 with e3 _ _
  subst e3
  exact World.block_lt_of_cell? w _ e4
theorem EntV.ok.lt {w : World} {x : EntV} (h : x.ok w) {b : Nat} (hb : x.on b) : b < w.heap.size := by
  rcases hb with e | e | e | e
  · exact h.1.lt e
  · exact h.2.1.lt e
  · exact h.2.2.1.lt e
  · exact h.2.2.2.lt e
theorem cat_rep (n k : Nat) (m : Value) : List.replicate n m ++ List.replicate k m = List.replicate (n + k) m := by rw [List.replicate_append_replicate]
theorem own_markedV {w : World} {base : Nat} {e : TypeId} {v : Value} {n : Nat} {m : Value} (h : w.ownsRow base e 1 v n (List.replicate n m)) (hn : n ≤ 9223372036854775807) :
    ∃ s : Sl, v = s.val ∧ s.2.1 = n ∧ MarkedV w m s ∧ ∀ b, s.on b → v.ownBlock = some b ∧ base ≤ b := by
  obtain ⟨ao, cap, hv⟩ := own_shape h
  subst hv
  refine ⟨(ao, n, cap), rfl, rfl, ⟨hn, own_cat h⟩, ?_⟩
  rintro b ⟨off, e1, e2⟩
  have e1' : ao = some ⟨b, off, none⟩ := e1
  subst e1'
  exact ⟨rfl, (h.lt b rfl).1⟩

/-- 'append(xs, ys...)' onto a slice without spare room, of one-cell elements. -/
theorem wpList_grow1 {P : Program} (w : World) {ops : Array Oper} {rest : List Oper} {o : Oper} {a : Act} {Q : Exit → Act → World → Prop}
    (hg : o.guard = none) (s x : Operand) (t : TypeId) (hop : o.op = Op.call { callee := Callee.builtin Builtin.append, args := #[s, x], argTypes := #[t, t] })
    (e : TypeId) (i : TypeInfo) (z : Value) (bytes : Nat) (h1 : P.underlying t = some (.slice e)) (h2 : P.info? e = some i) (h3 : i.zero = some z) (h4 : i.size = 1) (h5 : i.bytes = bytes) (h6 : z.cells.size = 1)
    (ao : Option Addr) (n : Nat) (xs : List Value) (hs : a.eval s = .slice ao n n) (hn : xs.length = n) (hnone : ao = none → n = 0) (hat : CAt w ao xs) (b c : Nat) (ys : List Value) (hx : a.eval x = .slice (some ⟨b, 0, none⟩) ys.length c) (hp : 0 < ys.length) (hy : CAt w (some ⟨b, 0, none⟩) ys) (h1c : ∀ u ∈ ys, u.oneCell' = true) (b2 : n + ys.length ≤ 1000000) (b3 : bytes ≤ 1000)
    (hK : ∀ v' w', w'.ownsRow w.heap.size e 1 v' (n + ys.length) (xs ++ ys) → w.grownBy w' none → wpList P ops Q rest (a.put o.dst v') w') :
    wpList P ops Q (o :: rest) a w := by
  have hcat : ∀ (ad : Addr) (zs : List Value), CAt w (some ad) zs → ∀ j u, zs[j]? = some u → w.cell? (ad.add j) = some u := by
    intro ad zs h j u hu
    obtain ⟨b, off, e1, e2⟩ := h j u hu
    injection e1 with e1
    subst e1
    rw [Addr.add_lit]
    exact e2
  have hm : (n + ys.length) * bytes ≤ 140737488355328 := Nat.le_trans (Nat.mul_le_mul b2 b3) (by omega)
  exact wpList_append_grows w hg s x t hop e i z 1 bytes h1 h2 h3 h4 h5 h6 (by decide) ao n n xs hs (fun h => ⟨hnone h, hnone h⟩) (by rw [hn, Nat.mul_one]) (fun bb hb => by subst hb; exact hcat bb xs hat) ⟨b, 0, none⟩ ys.length c ys hx (by rw [Nat.mul_one]) (hcat _ _ hy) h1c (by omega) (by unfold maxLen; omega) hm hK
theorem cat_new (w : World) (cs : Array Value) (e : TypeId) : CAt (w.alloc (.cells cs e)) (some ⟨w.heap.size, 0, none⟩) cs.toList := by
  intro j u hu
  refine ⟨w.heap.size, 0, rfl, ?_⟩
  rw [Nat.zero_add, World.cell?_alloc_at (hn := rfl)]
  simpa using hu
theorem rep_set (vs : List Value) (m : Value) (k : Nat) (h : k < vs.length) : (List.replicate k m ++ vs.drop k).set k m = List.replicate (k + 1) m ++ vs.drop (k + 1) := by
  rw [List.set_append_right _ _ (by simp)]
  simp only [List.length_replicate, Nat.sub_self]
  rw [List.drop_eq_getElem_cons h, List.set_cons_zero, List.replicate_succ', List.append_assoc]
  rfl
theorem Blk.cat {w : World} {g : Nat} {cs : List Value} (h : Blk w g cs.toArray) : CAt w (some ⟨g, 0, none⟩) cs := by
  intro j u hu
  refine ⟨g, 0, rfl, ?_⟩
  rw [Nat.zero_add, h.cell]
  simpa using hu
def isMB (v : Value) : Prop := ∃ m : UInt8, v = .int .u8 (m.toNat : Int)
def isMI (v : Value) : Prop := ∃ m : Int, v = .int .i64 m
def isMS (v : Value) : Prop := ∃ m : ByteArray, v = .string m
/-- Where the parts of an entry lie: in the list that was handed over, or in new memory. -/
def XOn (x : EntV) (gB : Option Nat) (n : Nat) : Prop := ∀ b, x.on b → gB = some b ∨ n ≤ b
/-- One list more. -/
def LMore (base wb j : Nat) (ent : TypeId) (mk : Value → Prop) (gB : Option Nat) (vb : Value) (cs : Array Value) (ents : List EntV) (w w' : World) : Prop :=
  ∃ x vb', mk x.mark ∧ Blk w' wb (cs.setIfInBounds j vb') ∧ w'.ownsRow base ent 5 vb' (ents.length + 1) (evCells (ents ++ [x])) ∧ x.ok w' ∧ Frm w w' (fun b => b = wb ∨ vb.ownBlock = some b ∨ gB = some b) ∧
    (∀ b, vb'.ownBlock = some b → vb.ownBlock = some b ∨ w.heap.size ≤ b) ∧ ∀ b, x.on b → b ≠ wb ∧ vb'.ownBlock ≠ some b ∧ (gB = some b ∨ w.heap.size ≤ b)
theorem LMore.push {base wb j : Nat} {ent : TypeId} {mk : Value → Prop} {gB : Option Nat} {vb vb' : Value} {cs : Array Value} {ents : List EntV} {w wr wa w5 : World} {x : EntV} {xc : List Value} (hlt : ∀ k, vb.ownBlock = some k → base ≤ k ∧ k < w.heap.size) (hne : vb.ownBlock ≠ some wb) (hwb : wb < w.heap.size)
    (Fr : Frm w wr (fun b => gB = some b)) (hx : x.ok wr) (hxc : x.cells = xc) (hxo : XOn x gB w.heap.size) (hg : ∀ g, gB = some g → g ≠ wb ∧ vb.ownBlock ≠ some g) (ga : wr.grownBy wa vb.ownBlock) (h5 : wa.grownBy w5 vb.ownBlock)
    (hW : Blk w5 wb cs) (hown : w5.ownsRow base ent 5 vb' (ents.length + 1) (evCells ents ++ xc)) (hb : vb'.ownBlock = vb.ownBlock ∨ vb'.ownBlock = some wa.heap.size) (hmk : mk x.mark) : LMore base wb j ent mk gB vb cs ents w (w5.setCell ⟨wb, j, none⟩ vb') := by
  have s1 := Fr.size
  have s2 := ga.size
  have s3 := h5.size
  have hnw : vb'.ownBlock ≠ some wb := by
    rcases hb with e | e
    · rw [e]; exact hne
    · rw [e]; simp; omega
  have hxb : ∀ b, x.on b → b ≠ wb ∧ vb.ownBlock ≠ some b := by
    intro b hb
    rcases hxo b hb with e | e
    · exact hg b e
    · exact ⟨by omega, fun e2 => by have := (hlt b e2).2; omega⟩
  refine ⟨x, vb', hmk, hW.set j vb', ?_, ?_, ?_, ?_, ?_⟩
  · rw [evCells_snoc, hxc]
    exact own_keep hown (fun b hb => Below.heap_setCell _ _ _ _ (fun e => hnw (by rw [hb, e])))
  · refine hx.keep (fun b hb => ?_)
    have hlt2 := hx.lt hb
    rw [Below.heap_setCell _ _ _ _ (hxb b hb).1, h5.block b (by omega) (fun e => (hxb b hb).2 e.symm), ga.block b hlt2 (fun e => (hxb b hb).2 e.symm)]
  · refine ⟨(h5.os.trans ga.os).trans Fr.os, (h5.tape.trans ga.tape).trans Fr.tape, (h5.output.trans ga.output).trans Fr.output, by rw [World.size_setCell]; omega, fun b hb hx => ?_⟩
    rw [Below.heap_setCell _ _ _ _ (fun e => hx (.inl e)), h5.block b (by omega) (fun e => hx (.inr (.inl e.symm))), ga.block b (by omega) (fun e => hx (.inr (.inl e.symm))), Fr.block b hb (fun e => hx (.inr (.inr e)))]
  · intro b e
    rcases hb with e2 | e2
    · exact .inl (by rw [← e2]; exact e)
    · rw [e2] at e; injection e with e; exact .inr (by omega)
  · intro b hb2
    refine ⟨(hxb b hb2).1, fun e => ?_, hxo b hb2⟩
    rcases hb with e2 | e2
    · exact (hxb b hb2).2 (by rw [← e2]; exact e)
    · rw [e2] at e
      injection e with e
      have := hx.lt hb2
      omega
end Go.Proofs.YtbanfbpfapjfcaaGreatDoor
namespace Go.Proofs.YtbanfbpfapjfcaaGreatDoor
open Go.RowKit
set_option maxRecDepth 100000

set_option maxHeartbeats 1000000 in
theorem allint_V (n : Nat) (ao : Option Addr) (cap : Nat) (m : Int) (w : World) (hl : n ≤ 9223372036854775807) (hc : CAt w ao (List.replicate n (.int .i64 m : Value))) :
    Calls Tryz.prog 51 #[.slice ao n cap, .int .i64 m] w fun e w' => e = .returned (.bool true) ∧ w = w' := by
  go_enter Tryz.func51, Tryz.ntmps51
  go_wp2
  go_loop [5] (fun i => ∃ k : Nat, k ≤ n ∧ i = .int .i64 k) (fun i => n - (intOf i).toNat)
  case atStart => exact ⟨0, Nat.zero_le _, rfl⟩
  case round =>
    obtain ⟨k, hk, rfl⟩ := hrel
    by_cases hlt : k < n
    · have hkI : (k : Int) < (n : Int) := by omega
      have hk0 : (0 : Int) ≤ (k : Int) := by omega
      obtain ⟨b, off, rfl, hck⟩ := hc k _ (by rw [List.getElem?_replicate, if_pos hlt])
      clear hc
      go_wp2
      go_round
      case rel => exact ⟨k + 1, by omega, by go_num⟩
      case measure => simp [intOf]; omega
    · have hkI : ¬ (k : Int) < (n : Int) := by omega
      clear hc
      go_wp2
      go_ret
      exact ⟨rfl, rfl⟩
end Go.Proofs.YtbanfbpfapjfcaaGreatDoor
namespace Go.Proofs.YtbanfbpfapjfcaaGreatDoor
open Go.RowKit
set_option maxRecDepth 100000

set_option maxHeartbeats 1000000 in
theorem allstr_V (n : Nat) (ao : Option Addr) (cap : Nat) (M : ByteArray) (w : World) (hl : n ≤ 9223372036854775807) (hc : CAt w ao (List.replicate n (.string M : Value))) :
    Calls Tryz.prog 52 #[.slice ao n cap, .string M] w fun e w' => e = .returned (.bool true) ∧ w = w' := by
  go_enter Tryz.func52, Tryz.ntmps52
  go_wp2
  go_loop [5] (fun i => ∃ k : Nat, k ≤ n ∧ i = .int .i64 k) (fun i => n - (intOf i).toNat)
  case atStart => exact ⟨0, Nat.zero_le _, rfl⟩
  case round =>
    obtain ⟨k, hk, rfl⟩ := hrel
    by_cases hlt : k < n
    · have hkI : (k : Int) < (n : Int) := by omega
      have hk0 : (0 : Int) ≤ (k : Int) := by omega
      obtain ⟨b, off, rfl, hck⟩ := hc k _ (by rw [List.getElem?_replicate, if_pos hlt])
      clear hc
      go_wp2
      go_round
      case rel => exact ⟨k + 1, by omega, by go_num⟩
      case measure => simp [intOf]; omega
    · have hkI : ¬ (k : Int) < (n : Int) := by omega
      clear hc
      go_wp2
      go_ret
      exact ⟨rfl, rfl⟩
end Go.Proofs.YtbanfbpfapjfcaaGreatDoor
namespace Go.Proofs.YtbanfbpfapjfcaaGreatDoor
open Go.RowKit
set_option maxRecDepth 100000

set_option maxHeartbeats 1000000 in
theorem allbyte_V (n : Nat) (ao : Option Addr) (cap : Nat) (m : UInt8) (w : World) (hl : n ≤ 9223372036854775807) (hc : CAt w ao (List.replicate n (.int .u8 (m.toNat : Int) : Value))) :
    Calls Tryz.prog 50 #[.slice ao n cap, .int .u8 (m.toNat : Int)] w fun e w' => e = .returned (.bool true) ∧ w = w' := by
  go_enter Tryz.func50, Tryz.ntmps50
  go_wp2
  go_loop [5] (fun i => ∃ k : Nat, k ≤ n ∧ i = .int .i64 k) (fun i => n - (intOf i).toNat)
  case atStart => exact ⟨0, Nat.zero_le _, rfl⟩
  case round =>
    obtain ⟨k, hk, rfl⟩ := hrel
    by_cases hlt : k < n
    · have hkI : (k : Int) < (n : Int) := by omega
      have hk0 : (0 : Int) ≤ (k : Int) := by omega
      obtain ⟨b, off, rfl, hck⟩ := hc k _ (by rw [List.getElem?_replicate, if_pos hlt])
      clear hc
      go_wp2
      go_round
      case rel => exact ⟨k + 1, by omega, by go_num⟩
      case measure => simp [intOf]; omega
    · have hkI : ¬ (k : Int) < (n : Int) := by omega
      clear hc
      go_wp2
      go_ret
      exact ⟨rfl, rfl⟩
end Go.Proofs.YtbanfbpfapjfcaaGreatDoor
