/-
  What the owner of the lists that came out keeps, and the contract of Lists.byte: a list more, over which a mark is written. Conditions: the list has no spare room; nothing else lies in its memory.
-/
import Derived.Test.YtbanfbpfapjfcaaGreatDoorGLaw1
namespace Go.Proofs.YtbanfbpfapjfcaaGreatDoor
open Go.RowKit
set_option maxRecDepth 100000

theorem Tryz.info117 : (Tryz.prog.info? 117).map (fun i => (i.zero, i.size, i.bytes)) = some (some (.agg #[.slice none 0 0, .slice none 0 0, .slice none 0 0, .slice none 0 0, .int .u8 0]), 5, 104) := by kernel_rfl

/-- A slice: its address, its length, its capacity. -/
abbrev Sl := Option Addr × Nat × Nat
def Sl.val (s : Sl) : Value := .slice s.1 s.2.1 s.2.2
/-- A list that came out, three others begun at it, and the owner's mark. -/
structure Ent where
  l : Sl
  one : Sl
  two : Sl
  three : Sl
  mark : UInt8
def Ent.cells (x : Ent) : List Value := [x.l.val, x.one.val, x.two.val, x.three.val, .int .u8 (x.mark.toNat : Int)]
theorem Ent.cells_length (x : Ent) : x.cells.length = 5 := rfl

/-- The slice holds the mark alone, and lies neither in the block wb nor in ab. -/
def Marked (w : World) (wb : Nat) (ab : Option Nat) (m : UInt8) (s : Sl) : Prop :=
  s.2.1 ≤ 9223372036854775807 ∧ At w s.1 (List.replicate s.2.1 m) ∧ ∀ b off, s.1 = some ⟨b, off, none⟩ → 0 < s.2.1 → b ≠ wb ∧ some b ≠ ab
def EntOk (w : World) (wb : Nat) (ab : Option Nat) (x : Ent) : Prop :=
  Marked w wb ab x.mark x.l ∧ Marked w wb ab x.mark x.one ∧ Marked w wb ab x.mark x.two ∧ Marked w wb ab x.mark x.three

def entCells (l : List Ent) : List Value := (l.map Ent.cells).flatten

/-- The owner's book: the struct in the block wb, whose only list is vb, with the entries l. -/
def Inv (base wb : Nat) (w : World) (l : List Ent) (vb : Value) : Prop :=
  w.heap[wb]? = some (.cells #[.slice none 0 0, .slice none 0 0, vb, .slice none 0 0, .slice none 0 0, .slice none 0 0] 74 (0, 0)) ∧
  w.ownsRow base 117 5 vb l.length (entCells l) ∧ vb.ownBlock ≠ some wb ∧ (∀ x ∈ l, EntOk w wb vb.ownBlock x) ∧ base ≤ wb

theorem Marked.kept {w w' : World} {wb : Nat} {ab ab' : Option Nat} {m : UInt8} {s : Sl} (h : Marked w wb ab m s) (hk : ∀ b off, s.1 = some ⟨b, off, none⟩ → 0 < s.2.1 → w'.heap[b]? = w.heap[b]?) (hab : ∀ b off, s.1 = some ⟨b, off, none⟩ → 0 < s.2.1 → some b ≠ ab') : Marked w' wb ab' m s := by
  obtain ⟨h1, h2, h3⟩ := h
  refine ⟨h1, ?_, fun b off hs hp => ⟨(h3 b off hs hp).1, hab b off hs hp⟩⟩
  intro j hj
  obtain ⟨b, off, e1, e2⟩ := h2 j hj
  have hp : 0 < s.2.1 := by simp at hj; omega
  refine ⟨b, off, e1, ?_⟩
  have := World.cell?_of_block (w := w) (w' := w') (a := ⟨b, off + j, none⟩) (hk b off e1 hp)
  rw [this]
  exact e2

theorem Marked.lt {w : World} {wb : Nat} {ab : Option Nat} {m : UInt8} {s : Sl} (h : Marked w wb ab m s) (b off : Nat) (hs : s.1 = some ⟨b, off, none⟩) (hp : 0 < s.2.1) : b < w.heap.size := by
  obtain ⟨b', off', h1, h2⟩ := h.2.1.addr (by simpa using hp)
  rw [hs] at h1
  simp at h1
  omega

/-- New memory alone: the book stays. -/
theorem Inv.grown {base wb : Nat} {w w' : World} {l : List Ent} {vb : Value} (h : Inv base wb w l vb) (k : w.grownBy w' none) : Inv base wb w' l vb := by
  obtain ⟨h1, h2, h3, h4, h5⟩ := h
  have hwb : wb < w.heap.size := (Array.getElem?_eq_some_iff.1 h1).1
  refine ⟨(k.block wb hwb (by simp)).trans h1, h2.kept k (by cases hv : vb.ownBlock <;> simp), h3, ?_, h5⟩
  intro x hx
  obtain ⟨a1, a2, a3, a4⟩ := h4 x hx
  have q : ∀ s, Marked w wb vb.ownBlock x.mark s → Marked w' wb vb.ownBlock x.mark s := fun s hs => hs.kept (fun b off e hp => k.block b (hs.lt b off e hp) (by simp)) (fun b off e hp => (hs.2.2 b off e hp).2)
  exact ⟨q _ a1, q _ a2, q _ a3, q _ a4⟩

/-- Nothing of the entries lies in the block g. -/
def Fresh (l : List Ent) (g : Nat) : Prop :=
  ∀ x ∈ l, ∀ s, s = x.l ∨ s = x.one ∨ s = x.two ∨ s = x.three → ∀ off, s.1 = some ⟨g, off, none⟩ → s.2.1 = 0

theorem Inv.fresh {base wb : Nat} {w : World} {l : List Ent} {vb : Value} (h : Inv base wb w l vb) (g : Nat) (hg : w.heap.size ≤ g) : Fresh l g := by
  intro x hx s hs off he
  obtain ⟨a1, a2, a3, a4⟩ := h.2.2.2.1 x hx
  have q : Marked w wb vb.ownBlock x.mark s := by rcases hs with rfl | rfl | rfl | rfl <;> assumption
  by_cases hp : 0 < s.2.1
  · have := q.lt g off he hp; omega
  · omega

/-- Another block is written: the book stays. -/
theorem Inv.other {base wb : Nat} {w w' : World} {l : List Ent} {vb : Value} {g : Nat} (h : Inv base wb w l vb) (k : w.grownBy w' (some g)) (hw : g ≠ wb) (hv : vb.ownBlock ≠ some g) (hf : Fresh l g) : Inv base wb w' l vb := by
  obtain ⟨h1, h2, h3, h4, h5⟩ := h
  have hwb : wb < w.heap.size := (Array.getElem?_eq_some_iff.1 h1).1
  refine ⟨(k.block wb hwb (by simp; omega)).trans h1, h2.kept k (.inr hv), h3, ?_, h5⟩
  intro x hx
  obtain ⟨a1, a2, a3, a4⟩ := h4 x hx
  have q : ∀ s, (s = x.l ∨ s = x.one ∨ s = x.two ∨ s = x.three) → Marked w wb vb.ownBlock x.mark s → Marked w' wb vb.ownBlock x.mark s := fun s hsx hs =>
    hs.kept (fun b off e hp => k.block b (hs.lt b off e hp) (by simp; intro e2; subst e2; have := hf x hx s hsx off e; omega)) (fun b off e hp => (hs.2.2 b off e hp).2)
  exact ⟨q _ (.inl rfl) a1, q _ (.inr (.inl rfl)) a2, q _ (.inr (.inr (.inl rfl))) a3, q _ (.inr (.inr (.inr rfl))) a4⟩

theorem mark_int (n : Nat) : ((n : Int) % 251) = ((UInt8.ofNat (n % 251)).toNat : Int) := by
  rw [UInt8.toNat_ofNat', Nat.mod_eq_of_lt (by omega)]
  omega

theorem replicate_set (zs : List UInt8) (m : UInt8) (k : Nat) (h : k < zs.length) : (List.replicate k m ++ zs.drop k).set k m = List.replicate (k + 1) m ++ zs.drop (k + 1) := by
  rw [List.set_append_right _ _ (by simp)]
  simp only [List.length_replicate, Nat.sub_self]
  rw [List.drop_eq_getElem_cons h, List.set_cons_zero, List.replicate_succ', List.append_assoc]
  rfl

/-- Every block that was there is as it was, but for some. -/
structure Frm (w w' : World) (ex : Nat → Prop) : Prop where
  os : w'.os = w.os
  tape : w'.tape = w.tape
  output : w'.output = w.output
  size : w.heap.size ≤ w'.heap.size
  block : ∀ k, k < w.heap.size → ¬ ex k → w'.heap[k]? = w.heap[k]?

/-- 'append(xs, ys...)' onto a slice without spare room. -/
theorem wpList_grow_at {P : Program} (w : World) {ops : Array Oper} {rest : List Oper} {o : Oper} {a : Act} {Q : Exit → Act → World → Prop}
    (hg : o.guard = none) (s x : Operand) (t : TypeId) (hop : o.op = Op.call { callee := Callee.builtin Builtin.append, args := #[s, x], argTypes := #[t, t] })
    (e : TypeId) (i : TypeInfo) (h1 : P.underlying t = some (.slice e)) (h2 : P.info? e = some i) (h3 : i.zero = some (.int .u8 0)) (h4 : i.size = 1) (h5 : i.bytes = 1)
    (ao : Option Addr) (n : Nat) (xs : List UInt8) (hs : a.eval s = .slice ao n n) (hn : xs.length = n) (hnone : ao = none → n = 0) (hat : At w ao xs) (ad : Addr) (m c : Nat) (ys : List UInt8) (hx : a.eval x = .slice (some ad) m c) (hm : ys.length = m) (hp : 0 < m) (hy : At w (some ad) ys) (hb : n + m ≤ 140737488355328)
    (hK : ∀ v' w', w'.ownsRow w.heap.size e 1 v' (n + m) ((xs ++ ys).map U8) → w.grownBy w' none → wpList P ops Q rest (a.put o.dst v') w') :
    wpList P ops Q (o :: rest) a w := by
  subst hn hm
  refine wpList_append_grows w hg s x t hop e i (.int .u8 0) 1 1 h1 h2 h3 h4 h5 rfl (by decide) ao xs.length xs.length (xs.map U8) hs (fun h => ⟨hnone h, hnone h⟩) (by simp) ?_ ad ys.length c (ys.map U8) hx (by simp) (cells_map hy) (one_map ys) (by omega) (by unfold maxLen; omega) (by omega) ?_
  · intro b hb'
    subst hb'
    exact cells_map hat
  · intro v' w' h6 h7
    exact hK v' w' (by rw [List.map_append]; exact h6) h7

theorem own_base {w : World} {base base' : Nat} {e : TypeId} {size : Nat} {v : Value} {n : Nat} {xs : List Value} (h : w.ownsRow base e size v n xs) (hb : base' ≤ base) : w.ownsRow base' e size v n xs := by
  refine ⟨h.1, ?_⟩
  rcases h.2 with h | ⟨g, cap, cur, h1, h2, h3⟩
  · exact .inl h
  · exact .inr ⟨g, cap, cur, h1, Nat.le_trans hb h2, h3⟩

theorem rep_app (n k : Nat) (m : UInt8) : List.replicate n m ++ List.replicate k m = List.replicate (n + k) m := by rw [List.replicate_append_replicate]

theorem own_marked {w : World} {base wb : Nat} {ab : Option Nat} {e : TypeId} {v : Value} {n : Nat} {m : UInt8} (h : w.ownsRow base e 1 v n ((List.replicate n m).map U8)) (hn : n ≤ 9223372036854775807) (hw : ∀ b, base ≤ b → b ≠ wb ∧ some b ≠ ab) :
    ∃ s : Sl, v = s.val ∧ s.2.1 = n ∧ Marked w wb ab m s ∧ (∀ b off, s.1 = some ⟨b, off, none⟩ → base ≤ b) := by
  obtain ⟨ao, cap, hv, _, _, _, hat⟩ := own_at2 h
  have hb : ∀ b off, ao = some ⟨b, off, none⟩ → base ≤ b := by
    intro b off hs
    subst hv hs
    exact (h.lt b rfl).1
  exact ⟨(ao, n, cap), hv, rfl, ⟨hn, hat, fun b off hs _ => hw b (hb b off hs)⟩, hb⟩

theorem entCells_snoc (l : List Ent) (x : Ent) : entCells (l ++ [x]) = entCells l ++ x.cells := by simp [entCells]

/-- What storing one entry more does to the book. -/
theorem inv_push {base wb : Nat} {wr w5 : World} {l : List Ent} {x : Ent} {vb vb' : Value} (hI : Inv base wb wr l vb) (hx : EntOk wr wb vb.ownBlock x) (hown : w5.ownsRow base 117 5 vb' (l.length + 1) (entCells l ++ x.cells))
    (hg : wr.grownBy w5 vb.ownBlock) (hb : vb'.ownBlock = vb.ownBlock ∨ ∃ b, vb'.ownBlock = some b ∧ wr.heap.size ≤ b) :
    Inv base wb (w5.setCell ⟨wb, 2, none⟩ vb') (l ++ [x]) vb' ∧ Frm wr (w5.setCell ⟨wb, 2, none⟩ vb') (fun k => k = wb ∨ some k = vb.ownBlock) := by
  have hwb : wb < wr.heap.size := (Array.getElem?_eq_some_iff.1 hI.1).1
  have hne : vb'.ownBlock ≠ some wb := by
    rcases hb with h | ⟨b, h, h2⟩
    · rw [h]; exact hI.2.2.1
    · rw [h]; simp; omega
  have h5 : w5.heap[wb]? = some (.cells #[.slice none 0 0, .slice none 0 0, vb, .slice none 0 0, .slice none 0 0, .slice none 0 0] 74 (0, 0)) := (hg.block wb hwb (fun e => hI.2.2.1 e.symm)).trans hI.1
  have hblk : ∀ k, k ≠ wb → (w5.setCell ⟨wb, 2, none⟩ vb').heap[k]? = w5.heap[k]? := fun k hk => Below.heap_setCell w5 _ vb' k hk
  have hfr : Frm wr (w5.setCell ⟨wb, 2, none⟩ vb') (fun k => k = wb ∨ some k = vb.ownBlock) :=
    ⟨hg.os, hg.tape, hg.output, by rw [World.size_setCell]; exact hg.size, fun k hk hex => (hblk k (fun e => hex (.inl e))).trans (hg.block k hk (fun e => hex (.inr e)))⟩
  refine ⟨⟨?_, ?_, hne, ?_, hI.2.2.2.2⟩, hfr⟩
  · rw [setCell_eq_setRow w5 wb 2 _ _ _ vb' h5]
    exact setRow_heap w5 wb _ _ _ _ h5
  · rw [entCells_snoc, List.length_append]
    exact hown.kept (gb_set0 (World.grownBy.refl w5 (some wb))) (.inr hne)
  · intro y hy
    have hold : EntOk wr wb vb.ownBlock y := by
      rcases List.mem_append.1 hy with h | h
      · exact hI.2.2.2.1 y h
      · rw [List.mem_singleton.1 h]; exact hx
    have q : ∀ s, Marked wr wb vb.ownBlock y.mark s → Marked (w5.setCell ⟨wb, 2, none⟩ vb') wb vb'.ownBlock y.mark s := by
      intro s hs
      refine hs.kept (fun b off e hp => hfr.block b (hs.lt b off e hp) (by rintro (h | h); exact (hs.2.2 b off e hp).1 h; exact (hs.2.2 b off e hp).2 h)) (fun b off e hp h => ?_)
      rcases hb with h2 | ⟨b', h2, h3⟩
      · exact (hs.2.2 b off e hp).2 (h.trans h2)
      · rw [h2] at h; have := hs.lt b off e hp; simp at h; omega
    exact ⟨q _ hold.1, q _ hold.2.1, q _ hold.2.2.1, q _ hold.2.2.2⟩

theorem cell_grown {w w' : World} {o : Obj} {row : Option Nat} {b : Nat} {cs : Array Value} {e : TypeId} (hg : (w.alloc o).grownBy w' row) (h : w.heap[b]? = some (.cells cs e (0, 0))) (hne : row ≠ some b) : w'.heap[b]? = some (.cells cs e (0, 0)) := by
  have hb : b < w.heap.size := (Array.getElem?_eq_some_iff.1 h).1
  rw [hg.block b (by simp; omega) (fun e => hne e.symm), Below.heap_alloc w o b hb]
  exact h

theorem Frm.chain {w wo wr w6 : World} {gB vbB : Option Nat} {wb : Nat} (h1 : w.grownBy wo gB) (h2 : wo.grownBy wr none) (h3 : Frm wr w6 (fun k => k = wb ∨ some k = vbB)) : Frm w w6 (fun k => k = wb ∨ some k = vbB ∨ some k = gB) := by
  have s1 := h1.size
  have s2 := h2.size
  refine ⟨h3.os.trans (h2.os.trans h1.os), h3.tape.trans (h2.tape.trans h1.tape), h3.output.trans (h2.output.trans h1.output), Nat.le_trans s1 (Nat.le_trans s2 h3.size), fun k hk hex => ?_⟩
  rw [h3.block k (by omega) (by rintro (h | h); exact hex (.inl h); exact hex (.inr (.inl h))), h2.block k (by omega) (by simp), h1.block k hk (fun h => hex (.inr (.inr h)))]

set_option maxHeartbeats 1000000 in
theorem lbyte_any (base wb n : Nat) (a : Option Addr) (zs : List UInt8) (l : List Ent) (vb : Value) (gB : Option Nat) (w : World) (hI : Inv base wb w l vb) (hbase : base ≤ w.heap.size) (hn : Hid (zs.length = n)) (hnl : n ≤ 100000)
    (ha : Hid (a = none → n = 0)) (hB : Hid ((n = 0 ∧ gB = none) ∨ ∃ g, gB = some g ∧ a = some ⟨g, 0, none⟩ ∧ 0 < n ∧ Buf w g n zs ∧ g ≠ wb ∧ vb.ownBlock ≠ some g ∧ Fresh l g ∧ base ≤ g)) (hll : (l.length + 1) * 104 ≤ 140737488355328) :
    Calls Tryz.prog 72 #[.pointer (some ⟨wb, 2, none⟩), .slice a n n] w fun e w' => e = .returned (.tuple #[]) ∧
      ∃ x vb', Inv base wb w' (l ++ [x]) vb' ∧ Frm w w' (fun k => k = wb ∨ some k = vb.ownBlock ∨ some k = gB) ∧ (vb'.ownBlock = vb.ownBlock ∨ ∃ b, vb'.ownBlock = some b ∧ w.heap.size ≤ b) ∧ (∀ g', g' < w.heap.size → some g' ≠ gB → Fresh l g' → Fresh (l ++ [x]) g') := by
  obtain ⟨i0, hif, hz0, hz1, hz2⟩ := info_parts Tryz.info5
  obtain ⟨ie, hie, he0, he1, he2⟩ := info_parts Tryz.info117
  obtain ⟨ab, cb, hvb⟩ := own_shape hI.2.1
  subst hvb
  have hc2 : w.cell? ⟨wb, 2, none⟩ = some (.slice ab l.length cb) := by rw [cell_of_row w wb 2 _ _ _ hI.1]; rfl
  obtain ⟨m, hm⟩ : ∃ m : UInt8, m = UInt8.ofNat (l.length % 251) := ⟨_, rfl⟩
  have HM : Hid ((l.length : Int) % 251 = (m.toNat : Int)) := by show _ = _; rw [hm]; exact mark_int _
  clear hm
  have hlb : l.length ≤ 140737488355328 := by omega
  go_enter Tryz.func72, Tryz.ntmps72
  go_wp2
  rw [HM.out]
  go_loopw [5] (fun i wr => ∃ k : Nat, k ≤ n ∧ i = .int .i64 k ∧ At wr a (List.replicate k m ++ zs.drop k) ∧ w.grownBy wr gB ∧ (∀ g, gB = some g → Buf wr g n (List.replicate k m ++ zs.drop k))) (fun i _ => n - (intOf i).toNat)
  case atStart =>
    refine ⟨0, Nat.zero_le _, rfl, ?_, World.grownBy.refl _ _, ?_⟩
    · rcases hB.out with ⟨h1, h2⟩ | ⟨g, h1, h2, h3, h4, _⟩
      · have hz : zs = [] := List.length_eq_zero_iff.1 (by rw [hn.out]; exact h1)
        subst hz
        exact At.nil _ _
      · subst h2
        simpa using h4.at
    · intro g hg
      rcases hB.out with ⟨h1, h2⟩ | ⟨g', h1, h2, h3, h4, _⟩
      · rw [h2] at hg; cases hg
      · rw [h1] at hg; cases hg
        simpa using h4
  case round =>
    obtain ⟨k, hk, rfl, hat, hgr, hbf⟩ := hrel
    by_cases hlt : k < n
    · obtain ⟨g, hg1, hg2⟩ : ∃ g, gB = some g ∧ a = some ⟨g, 0, none⟩ := by
        rcases hB.out with ⟨h1, h2⟩ | ⟨g, h1, h2, _⟩
        · omega
        · exact ⟨g, h1, h2⟩
      have hbr := hbf g hg1
      subst hg1 hg2
      have hkl : k < (List.replicate k m ++ zs.drop k).length := by have h := hn.out; simp; omega
      have hck := hbr.cell k hkl
      have hfk := hbr.frozen k
      have R := hbr.set k m
      rw [replicate_set zs m k (by rw [hn.out]; exact hlt)] at R
      have G := gb_set0 (j := k) (u := .int .u8 (m.toNat : Int)) hgr
      clear hbf hat hgr hbr
      go_wp2
      go_roundw
      case rel => exact ⟨k + 1, by omega, by go_num, R.at, G, fun g hg => by cases hg; exact R⟩
      case measure => simp [intOf]; omega
    · have hkn : k = n := by omega
      subst hkn
      have hatm : At wr a (List.replicate k m) := by
        rw [List.drop_of_length_le (by rw [hn.out]; omega), List.append_nil] at hat; exact hat
      have Hrl : Hid ((List.replicate k m).length = k) := List.length_replicate
      have hb1 : k + 1 ≤ 140737488355328 := by omega
      have hb2 : k + 2 ≤ 140737488355328 := by omega
      clear hat hbf hc2
      go_wp2_with (first | (at_builtin; refine wpList_grow_at _ rfl (.tmp 27) (.tmp 29) 32 rfl 5 i0 Tryz.underlying32 hif hz0 hz1 hz2 a k (List.replicate k m) rfl Hrl.out ha.out (hatm.below (World.grownBy_alloc _ _ _)) ⟨wr.heap.size, 0, none⟩ 1 1 [m] rfl rfl (by omega) (bytes_new wr _ _ _ rfl) hb1 ?_; intro v1 w1 hown1 hg1; have K1 := gb_trans (World.grownBy_alloc wr _ none) hg1; have hat1 := hatm.below K1) | (at_builtin; refine wpList_grow_at _ rfl (.tmp 31) (.tmp 34) 32 rfl 5 i0 Tryz.underlying32 hif hz0 hz1 hz2 a k (List.replicate k m) rfl Hrl.out ha.out (hat1.below (World.grownBy_alloc _ _ _)) ⟨w1.heap.size, 0, none⟩ 2 2 [m, m] rfl rfl (by omega) (bytes_new w1 _ _ _ rfl) hb2 ?_; intro v2 w2 hown2 hg2; have K2 := gb_trans (World.grownBy_alloc w1 _ none) hg2; have hat2 := hat1.below K2))
      have hown1' := hown1.kept K2 (by cases h : v1.ownBlock <;> simp)
      have K12 := gb_trans K1 K2
      have hszA := K1.size
      have hszB := K2.size
      have hszC := hgr.size
      clear hown1 hg1 hg2 hatm hat1 K1 K2
      obtain ⟨wo, hwo⟩ : ∃ wo, wo = wr := ⟨wr, rfl⟩
      subst hwo
      go_loopw [8, 9] (fun o i w3 => ∃ j : Nat, j ≤ 64 ∧ i = .int .i64 j ∧ ((j = 0 ∧ o = .slice a k k) ∨ (0 < j ∧ w3.ownsRow w2.heap.size 5 1 o (k + j) ((List.replicate (k + j) m).map U8))) ∧ w2.grownBy w3 none) (fun _ i _ => 64 - (intOf i).toNat)
      case atStart => exact ⟨0, by omega, rfl, .inl ⟨rfl, rfl⟩, World.grownBy.refl _ _⟩
      case round =>
        obtain ⟨j, hj, rfl, ho, hg3⟩ := hrel
        have hsz3 := hg3.size
        by_cases hlt64 : j < 64
        · have hbj : k + j + 1 ≤ 140737488355328 := by omega
          rcases ho with ⟨hj0, ho0⟩ | ⟨hj0, hown3⟩
          · subst hj0 ho0
            have hat3 := hat2.below hg3
            go_wp2_with (at_builtin; refine wpList_grow_at _ rfl _ _ 32 rfl 5 i0 Tryz.underlying32 hif hz0 hz1 hz2 a k (List.replicate k m) rfl Hrl.out ha.out (hat3.below (World.grownBy_alloc _ _ _)) ⟨wr.heap.size, 0, none⟩ 1 1 [m] rfl rfl (by omega) (bytes_new wr _ _ _ rfl) hb1 ?_; intro v4 w4 hown4 hg4)
            have R : w4.ownsRow w2.heap.size 5 1 v4 (k + 1) ((List.replicate (k + 1) m).map U8) ∧ w2.grownBy w4 none := ⟨own_base (by rw [← rep_app]; exact hown4) (by simp; omega), gb_trans (gb_alloc hg3 _) hg4⟩
            clear hown4 hg4 hat3 hg3
            go_wp2
            go_roundw
            case rel => exact ⟨1, by omega, by go_num, .inr ⟨by omega, R.1⟩, R.2⟩
            case measure => simp [intOf]
          · go_wp2_with (at_builtin; refine wpList_append_at _ rfl _ _ 32 rfl w2.heap.size 5 i0 Tryz.underlying32 hif hz0 hz1 hz2 _ _ _ rfl (hown3.alloc _) (some ⟨wr.heap.size, 0, none⟩) 1 1 [m] rfl rfl (by intro h; cases h) (bytes_new wr _ _ _ rfl) hbj (by simp; omega) ?_; intro v4 w4 hown4 hg4 _)
            have R : w4.ownsRow w2.heap.size 5 1 v4 (k + (j + 1)) ((List.replicate (k + (j + 1)) m).map U8) ∧ w2.grownBy w4 none := ⟨by rw [← Nat.add_assoc, ← rep_app (k + j) 1 m]; exact hown4, gb_row (gb_alloc hg3 _) hg4 (fun i hi => (hown3.lt i hi).1)⟩
            clear hown4 hg4 hg3 hown3
            go_wp2
            go_roundw
            case rel => exact ⟨j + 1, by omega, by go_num, .inr ⟨by omega, R.1⟩, R.2⟩
            case measure => simp [intOf]; omega
        · have hj64 : j = 64 := by omega
          subst hj64
          obtain ⟨hown3⟩ : Nonempty (PLift (wr.ownsRow w2.heap.size 5 1 u8 (k + 64) ((List.replicate (k + 64) m).map U8))) := by
            rcases ho with ⟨h, _⟩ | ⟨_, h⟩
            · omega
            · exact ⟨⟨h⟩⟩
          have hown3 := hown3.down
          clear ho hlt64 hj
          have K3 := gb_trans K12 hg3
          have hown1x := hown1'.kept hg3 (by cases h : v1.ownBlock <;> simp)
          have hown2x := hown2.kept hg3 (by cases h : v2.ownBlock <;> simp)
          have hat3 := hat2.below hg3
          clear hown1' hown2 hat2 hg3
          have hIo : Inv base wb wo l (.slice ab l.length cb) := by
            rcases hB.out with ⟨_, h2⟩ | ⟨g, h1, _, _, _, h5, h6, h7, _⟩
            · subst h2; exact hI.grown hgr
            · subst h1; exact hI.other hgr h5 h6 h7
          have hIr := hIo.grown K3
          have hwbw : wb < w.heap.size := (Array.getElem?_eq_some_iff.1 hI.1).1
          have hszR := K3.size
          have hfresh : ∀ b, wo.heap.size ≤ b → b ≠ wb ∧ some b ≠ (Value.slice ab l.length cb).ownBlock := by
            intro b hb
            refine ⟨by omega, fun e => ?_⟩
            have := (hI.2.1.lt b e.symm).2
            omega
          obtain ⟨⟨p1, n1, c1⟩, hv1, hn1, hm1, hb1'⟩ := own_marked (wb := wb) (ab := (Value.slice ab l.length cb).ownBlock) (n := k + 1) (m := m) (by rw [← rep_app]; exact hown1x) (by omega) (fun b hb => hfresh b (by simp at hb; omega))
          obtain ⟨⟨p2, n2, c2⟩, hv2, hn2, hm2, hb2'⟩ := own_marked (wb := wb) (ab := (Value.slice ab l.length cb).ownBlock) (n := k + 2) (m := m) (by rw [← rep_app]; exact hown2x) (by omega) (fun b hb => hfresh b (by simp at hb; omega))
          obtain ⟨⟨p3, n3, c3⟩, hv3, hn3, hm3, hb3'⟩ := own_marked (wb := wb) (ab := (Value.slice ab l.length cb).ownBlock) (n := k + 64) (m := m) hown3 (by omega) (fun b hb => hfresh b (by omega))
          change v1 = .slice p1 n1 c1 at hv1
          change v2 = .slice p2 n2 c2 at hv2
          change u8 = .slice p3 n3 c3 at hv3
          subst hv1 hv2 hv3
          have hml : Marked wr wb (Value.slice ab l.length cb).ownBlock m (a, k, k) := by
            refine ⟨by show k ≤ _; omega, hat3, fun b off hs hp => ?_⟩
            rcases hB.out with ⟨h1, _⟩ | ⟨g, _, h2, _, _, h5, h6, _⟩
            · simp at hp; omega
            · simp only at hs
              rw [h2] at hs
              simp at hs
              obtain ⟨rfl, _⟩ := hs
              exact ⟨h5, fun e => h6 e.symm⟩
          obtain ⟨x, hx⟩ : ∃ x : Ent, x = ⟨(a, k, k), (p1, n1, c1), (p2, n2, c2), (p3, n3, c3), m⟩ := ⟨_, rfl⟩
          have hxok : EntOk wr wb (Value.slice ab l.length cb).ownBlock x := by subst hx; exact ⟨hml, hm1, hm2, hm3⟩
          have hcr : wr.cell? ⟨wb, 2, none⟩ = some (.slice ab l.length cb) := by rw [cell_of_row wr wb 2 _ _ _ hIr.1]; rfl
          have HX : Hid (x.cells = [.slice a k k, .slice p1 n1 c1, .slice p2 n2 c2, .slice p3 n3 c3, .int .u8 (m.toNat : Int)]) := by subst hx; rfl
          have HXF : Hid (∀ g', g' < w.heap.size → some g' ≠ gB → Fresh l g' → Fresh (l ++ [x]) g') := by
            intro g' hg' hgB hF y hy s hs off he
            rcases List.mem_append.1 hy with h | h
            · exact hF y h s hs off he
            · rw [List.mem_singleton.1 h, hx] at hs
              rcases hs with rfl | rfl | rfl | rfl
              · rcases hB.out with ⟨h1, _⟩ | ⟨g, h1, h2, _⟩
                · exact h1
                · exfalso
                  simp only at he
                  rw [h2] at he
                  simp at he
                  exact hgB (by rw [h1, he.1])
              · exfalso; have := hb1' g' off he; simp at this; omega
              · exfalso; have := hb2' g' off he; simp at this; omega
              · exfalso; have := hb3' g' off he; omega
          have hll1 : l.length + 1 ≤ maxLen := by unfold maxLen; omega
          have hbr : base ≤ wr.heap.size := by omega
          clear hx hml hm1 hm2 hm3 hb1' hb2' hb3' hown1x hown2x hown3 hat3 hn1 hn2 hn3 hIo
          go_wp2_with (at_builtin; refine wpList_append_blk _ rfl _ _ 67 rfl base 117 ie _ 5 104 Tryz.underlying67 hie he0 he1 he2 rfl (by decide) _ _ _ rfl (hIr.2.1.alloc _) ⟨wr.heap.size, 0, none⟩ 1 1 [.slice a k k, .slice p1 n1 c1, .slice p2 n2 c2, .slice p3 n3 c3, .int .u8 (m.toNat : Int)] rfl rfl (cells_new wr _ _) (by intro u hu; simp at hu; rcases hu with rfl | rfl | rfl | rfl | rfl <;> rfl) (by omega) hll1 hll (by simp; omega) ?_; intro vb' w5 hown5 hg5 hblk; obtain ⟨ab', cb', hvb'⟩ := own_shape hown5; subst hvb'; have h5w := cell_grown hg5 hIr.1 hIr.2.2.1; have hc5 : w5.cell? ⟨wb, 2, none⟩ = some (.slice ab l.length cb) := (by rw [cell_of_row w5 wb 2 _ _ _ h5w]; rfl); have hf5 : w5.frozen? ⟨wb, 2, none⟩ = false := (by simp [World.frozen?, h5w]); clear h5w)
          go_end0
          have R := inv_push (vb' := .slice ab' (l.length + 1) cb') hIr hxok (by rw [HX.out]; exact hown5) (gb_trans (World.grownBy_alloc wr _ _) hg5) (by rcases hblk.out with h | h; exact .inl h; exact .inr ⟨_, h, by simp⟩)
          refine ⟨rfl, x, _, R.1, Frm.chain hgr K3 R.2, ?_, HXF.out⟩
          rcases hblk.out with h | h
          · exact .inl h
          · exact .inr ⟨_, h, by simp; omega⟩

end Go.Proofs.YtbanfbpfapjfcaaGreatDoor
