/-
  What the law's world holds: the desks' rows, the lists that came out, the desks themselves; each part lies apart from the others. Conditions: in each statement.
  One list more, of one kind: what the world holds then. Conditions: in each statement.
-/
import Derived.Test.YtbanfbpfapjfcaaGreatDoorGLawB
import Derived.Test.YtbanfbpfapjfcaaGreatDoorGLooks
namespace Go.Proofs.YtbanfbpfapjfcaaGreatDoor
open Go.RowKit
set_option maxRecDepth 100000

section
variable {S : Type} {C : S → Nat → World → Prop} {Foot : S → Nat → Nat → Prop}
/-- Some parts are turned into others, which lie where they lay or in memory that was nobody's. -/
theorem Sep.acts (L : Loc C Foot) {B : Nat} {s s' : S} {w w' : World} (h : Sep C Foot B s w) (K : Nat → Prop) (ex : Nat → Prop) (f : Frm w w' ex) (hx : ∀ b, ex b → (∃ k, K k ∧ Foot s k b) ∨ ∀ j, ¬ Foot s j b)
    (hc : ∀ k, K k → C s' k w') (hf : ∀ k b, K k → Foot s' k b → B ≤ b ∧ b < w'.heap.size ∧ ((∃ j, K j ∧ Foot s j b) ∨ ∀ j, ¬ Foot s j b)) (hd : ∀ i j b, K i → K j → Foot s' i b → Foot s' j b → i = j)
    (ho : ∀ j, ¬ K j → (C s j w' → C s' j w') ∧ ∀ b, Foot s' j b → Foot s j b) : Sep C Foot B s' w' := by
  have z := f.size
  have hroom := h.room
  have hkeep : ∀ j, ¬ K j → ∀ b, Foot s j b → w'.heap[b]? = w.heap[b]? := fun j hj b hb => f.block b (h.lt j b hb) (fun e => by
    rcases hx b e with ⟨k, hk, e2⟩ | e2
    · exact hj (by rw [h.one j k b hb e2]; exact hk)
    · exact e2 j hb)
  refine ⟨fun j => ?_, fun j b hb => ?_, fun j b hb => ?_, fun i j b hi hj => ?_, by omega⟩
  · by_cases e : K j
    · exact hc j e
    · exact (ho j e).1 (L s j w w' (h.here j) (hkeep j e))
  · by_cases e : K j
    · exact (hf j b e hb).2.1
    · have := h.lt j b ((ho j e).2 b hb); omega
  · by_cases e : K j
    · exact (hf j b e hb).1
    · exact h.base j b ((ho j e).2 b hb)
  · by_cases e : K i
    · by_cases e2 : K j
      · exact hd i j b e e2 hi hj
      · have q := (ho j e2).2 b hj
        rcases (hf i b e hi).2.2 with ⟨k, hk, r⟩ | r
        · exact absurd (by rw [h.one j k b q r]; exact hk) e2
        · exact absurd q (r j)
    · have p := (ho i e).2 b hi
      by_cases e2 : K j
      · rcases (hf j b e2 hj).2.2 with ⟨k, hk, r⟩ | r
        · exact absurd (by rw [h.one i k b p r]; exact hk) e
        · exact absurd p (r i)
      · exact h.one i j b p ((ho j e2).2 b hj)
end

/-- Something that is said of some blocks alone. -/
structure Asrt where
  P : World → Prop
  foot : Nat → Prop
  loc : ∀ w w', P w → (∀ b, foot b → w'.heap[b]? = w.heap[b]?) → P w'
def Asrt.emp : Asrt := ⟨fun _ => True, fun _ => False, fun _ _ _ _ => trivial⟩

/-- What the world holds. -/
structure WD (PP QP : Type) where
  pv : Value
  qv : Value
  bv : Value
  iv : Value
  sv : Value
  dv : Value
  ps : List PP
  qs : List QP
  eb : List EntV
  ei : List EntV
  es : List EntV
  ed : List EntV
abbrev WD.cells {PP QP : Type} (d : WD PP QP) : Array Value := #[d.pv, d.qv, d.bv, d.iv, d.sv, d.dv]
/-- How the desks lie. -/
structure Desks (PP QP : Type) where
  pas : PP → Asrt
  pb : PP → Nat
  qas : QP → Asrt
  qb : QP → Nat
def ptrTo (b : Nat) : Value := .pointer (some ⟨b, 0, none⟩)

def MarkedD (w : World) (m : Value) (s : Sl) : Prop := s.2.1 ≤ 9223372036854775807 ∧ CAt w s.1 (List.replicate s.2.1 [.slice none 0 0, m]).flatten
def EntV.okD (w : World) (x : EntV) : Prop := MarkedD w x.mark x.l ∧ MarkedD w x.mark x.one ∧ MarkedD w x.mark x.two ∧ MarkedD w x.mark x.three
def Ents.on (l : List EntV) (b : Nat) : Prop := ∃ x ∈ l, x.on b

variable {PP QP : Type} (D : Desks PP QP) (base wb : Nat)
def WD.C (d : WD PP QP) (k : Nat) (w : World) : Prop :=
  match k with
  | 0 => Blk w wb d.cells
  | 1 => w.ownsRow base 112 1 d.pv d.ps.length (d.ps.map fun p => ptrTo (D.pb p))
  | 2 => w.ownsRow base 114 1 d.qv d.qs.length (d.qs.map fun q => ptrTo (D.qb q))
  | 3 => w.ownsRow base 117 5 d.bv d.eb.length (evCells d.eb)
  | 4 => ∀ x ∈ d.eb, x.ok w ∧ isMB x.mark
  | 5 => w.ownsRow base 120 5 d.iv d.ei.length (evCells d.ei)
  | 6 => ∀ x ∈ d.ei, x.ok w ∧ isMI x.mark
  | 7 => w.ownsRow base 123 5 d.sv d.es.length (evCells d.es)
  | 8 => ∀ x ∈ d.es, x.ok w ∧ isMS x.mark
  | 9 => w.ownsRow base 126 5 d.dv d.ed.length (evCells d.ed)
  | 10 => ∀ x ∈ d.ed, x.okD w ∧ isMI x.mark
  | k + 11 => if k % 2 = 0 then ∀ p, d.ps[k / 2]? = some p → (D.pas p).P w else ∀ q, d.qs[k / 2]? = some q → (D.qas q).P w
def WD.F (d : WD PP QP) (k b : Nat) : Prop :=
  match k with
  | 0 => b = wb
  | 1 => d.pv.ownBlock = some b
  | 2 => d.qv.ownBlock = some b
  | 3 => d.bv.ownBlock = some b
  | 4 => Ents.on d.eb b
  | 5 => d.iv.ownBlock = some b
  | 6 => Ents.on d.ei b
  | 7 => d.sv.ownBlock = some b
  | 8 => Ents.on d.es b
  | 9 => d.dv.ownBlock = some b
  | 10 => Ents.on d.ed b
  | k + 11 => if k % 2 = 0 then ∃ p, d.ps[k / 2]? = some p ∧ (D.pas p).foot b else ∃ q, d.qs[k / 2]? = some q ∧ (D.qas q).foot b
theorem MarkedD.keep {w w' : World} {m : Value} {s : Sl} (h : MarkedD w m s) (k : ∀ b, s.on b → w'.heap[b]? = w.heap[b]?) : MarkedD w' m s := by
  refine ⟨h.1, fun j u hu => ?_⟩
  obtain ⟨b, off, e1, e2⟩ := h.2 j u hu
  have hp : 0 < s.2.1 := by
    rcases Nat.eq_zero_or_pos s.2.1 with e | e
    · rw [e] at hu; simp at hu
    · exact e
  refine ⟨b, off, e1, ?_⟩
  rw [World.cell?_of_block (w := w) (w' := w') (a := ⟨b, off + j, none⟩) (k b ⟨off, e1, hp⟩)]
  exact e2
theorem WD.loc : Loc (WD.C D base wb) (WD.F D wb) := by
  intro d k w w' h hk
  have row : ∀ {e : TypeId} {size : Nat} {v : Value} {n : Nat} {xs : List Value}, w.ownsRow base e size v n xs → (∀ b, v.ownBlock = some b → w'.heap[b]? = w.heap[b]?) → w'.ownsRow base e size v n xs := fun a b => own_keep a b
  match k, h, hk with
  | 0, h, hk => exact Blk.kept h (hk wb rfl)
  | 1, h, hk => exact row h hk
  | 2, h, hk => exact row h hk
  | 3, h, hk => exact row h hk
  | 4, h, hk => exact fun x hx => ⟨(h x hx).1.keep (fun b hb => hk b ⟨x, hx, hb⟩), (h x hx).2⟩
  | 5, h, hk => exact row h hk
  | 6, h, hk => exact fun x hx => ⟨(h x hx).1.keep (fun b hb => hk b ⟨x, hx, hb⟩), (h x hx).2⟩
  | 7, h, hk => exact row h hk
  | 8, h, hk => exact fun x hx => ⟨(h x hx).1.keep (fun b hb => hk b ⟨x, hx, hb⟩), (h x hx).2⟩
  | 9, h, hk => exact row h hk
  | 10, h, hk => exact fun x hx => ⟨⟨(h x hx).1.1.keep (fun b hb => hk b ⟨x, hx, .inl hb⟩), (h x hx).1.2.1.keep (fun b hb => hk b ⟨x, hx, .inr (.inl hb)⟩), (h x hx).1.2.2.1.keep (fun b hb => hk b ⟨x, hx, .inr (.inr (.inl hb))⟩), (h x hx).1.2.2.2.keep (fun b hb => hk b ⟨x, hx, .inr (.inr (.inr hb))⟩)⟩, (h x hx).2⟩
  | k + 11, h, hk =>
    simp only [WD.C, WD.F] at h hk ⊢
    by_cases e : k % 2 = 0
    · rw [if_pos e] at h ⊢
      simp only [e, if_true] at hk
      exact fun p hp => (D.pas p).loc w w' (h p hp) (fun b hb => hk b ⟨p, hp, hb⟩)
    · rw [if_neg e] at h ⊢
      simp only [e, if_false] at hk
      exact fun q hq => (D.qas q).loc w w' (h q hq) (fun b hb => hk b ⟨q, hq, hb⟩)
/-- All of it holds. -/
abbrev SepW (d : WD PP QP) (w : World) : Prop := Sep (WD.C D base wb) (WD.F D wb) base d w
variable {D base wb}
theorem SepW.grown {d : WD PP QP} {w w' : World} (h : SepW D base wb d w) (g : w.grownBy w' none) : SepW D base wb d w' := Sep.grown (WD.loc D base wb) h g

theorem SepW.below {d : WD PP QP} {w w' : World} {ex : Nat → Prop} {w0 : World} (h : SepW D base wb d w0) (g : Below base w0 w) (f : Frm w w' ex) (hx : ∀ b, ex b → base ≤ b) : Below base w0 w' := g.trans (f.below (by have := h.room; have := g.size; omega) hx)
end Go.Proofs.YtbanfbpfapjfcaaGreatDoor
namespace Go.Proofs.YtbanfbpfapjfcaaGreatDoor
open Go.RowKit
set_option maxRecDepth 100000
variable {PP QP : Type} {D : Desks PP QP} {base wb : Nat}

theorem SepW.byte {d : WD PP QP} {w w' : World} {gB : Option Nat} (h : SepW D base wb d w) (hg : ∀ g, gB = some g → base ≤ g ∧ g < w.heap.size ∧ ∀ j, ¬ WD.F D wb d j g) (k : LMore base wb 2 117 isMB gB d.bv d.cells d.eb w w') :
    (∃ x v, SepW D base wb { d with bv := v, eb := d.eb ++ [x] } w' ∧ ∀ j b, WD.F D wb { d with bv := v, eb := d.eb ++ [x] } j b → WD.F D wb d j b ∨ gB = some b ∨ w.heap.size ≤ b) ∧ Below base w w' := by
  obtain ⟨x, v, hmk, h1, h2, h3, h4, h5, h6⟩ := k
  have z := h4.size
  have hroom := h.room
  have hnew : ∀ b, w.heap.size ≤ b → ∀ j, ¬ WD.F D wb d j b := fun b hb j hj => by have := h.lt j b hj; omega
  have hex : ∀ b, (b = wb ∨ d.bv.ownBlock = some b ∨ gB = some b) → (∃ k, (k = 0 ∨ k = 3 ∨ k = 4) ∧ WD.F D wb d k b) ∨ ∀ j, ¬ WD.F D wb d j b := by
    rintro b (e | e | e)
    · exact .inl ⟨0, .inl rfl, e⟩
    · exact .inl ⟨3, .inr (.inl rfl), e⟩
    · exact .inr (hg b e).2.2
  have hent : ∀ y ∈ d.eb, ∀ b, y.on b → WD.F D wb d 4 b := fun y hy b hb => ⟨y, hy, hb⟩
  have hvn : ∀ b, v.ownBlock = some b → WD.F D wb d 3 b ∨ w.heap.size ≤ b := h5
  have hwb : WD.F D wb d 0 wb := rfl
  have hxn : ∀ b, x.on b → base ≤ b ∧ ∀ j, ¬ WD.F D wb d j b := fun b hb => by
    rcases (h6 b hb).2.2 with e | e
    · exact ⟨(hg b e).1, (hg b e).2.2⟩
    · exact ⟨by omega, hnew b e⟩
  refine ⟨⟨x, v, Sep.acts (WD.loc D base wb) h (fun k => k = 0 ∨ k = 3 ∨ k = 4) _ h4 hex ?_ ?_ ?_ ?_, ?_⟩, h4.below hroom ?_⟩
  · rintro k (rfl | rfl | rfl)
    · exact h1
    · show w'.ownsRow base 117 5 v (d.eb ++ [x]).length (evCells (d.eb ++ [x]))
      rw [List.length_append]
      exact h2
    · intro y hy
      rcases List.mem_append.1 hy with hy | hy
      · have hold := h.here 4 y hy
        refine ⟨hold.1.keep (fun b hb => h4.block b (h.lt _ b (hent y hy b hb)) ?_), hold.2⟩
        rintro (e | e | e)
        · have := h.one 4 0 b (hent y hy b hb) e; omega
        · have := h.one 4 3 b (hent y hy b hb) e; omega
        · exact (hg b e).2.2 _ (hent y hy b hb)
      · rw [List.mem_singleton.1 hy]; exact ⟨h3, hmk⟩
  · rintro k b (rfl | rfl | rfl) hb
    · have e : b = wb := hb
      subst e
      exact ⟨h.base 0 b hwb, h1.lt, .inl ⟨0, .inl rfl, hwb⟩⟩
    · have e : v.ownBlock = some b := hb
      refine ⟨(h2.lt b e).1, (h2.lt b e).2, ?_⟩
      rcases hvn b e with e2 | e2
      · exact .inl ⟨3, .inr (.inl rfl), e2⟩
      · exact .inr (hnew b e2)
    · obtain ⟨y, hy, hb⟩ := hb
      rcases List.mem_append.1 hy with hy | hy
      · have e := hent y hy b hb
        exact ⟨h.base _ b e, by have := h.lt _ b e; omega, .inl ⟨4, .inr (.inr rfl), e⟩⟩
      · rw [List.mem_singleton.1 hy] at hb
        exact ⟨(hxn b hb).1, h3.lt hb, .inr (hxn b hb).2⟩
  · have h03 : v.ownBlock ≠ some wb := fun e => by
      rcases hvn wb e with e2 | e2
      · have := h.one 0 3 wb hwb e2; omega
      · exact hnew wb e2 0 hwb
    have h04 : ¬ Ents.on (d.eb ++ [x]) wb := by
      rintro ⟨y, hy, hb⟩
      rcases List.mem_append.1 hy with hy | hy
      · have := h.one 0 4 wb hwb (hent y hy wb hb); omega
      · rw [List.mem_singleton.1 hy] at hb; exact (h6 wb hb).1 rfl
    have h34 : ∀ b, v.ownBlock = some b → ¬ Ents.on (d.eb ++ [x]) b := by
      rintro b e ⟨y, hy, hb⟩
      rcases List.mem_append.1 hy with hy | hy
      · rcases hvn b e with e2 | e2
        · have := h.one 3 4 b e2 (hent y hy b hb); omega
        · exact hnew b e2 _ (hent y hy b hb)
      · rw [List.mem_singleton.1 hy] at hb; exact (h6 b hb).2.1 e
    rintro i j b (rfl | rfl | rfl) (rfl | rfl | rfl) hi hj
    · rfl
    · have e : b = wb := hi; subst e; exact absurd hj h03
    · have e : b = wb := hi; subst e; exact absurd hj h04
    · have e : b = wb := hj; subst e; exact absurd hi h03
    · rfl
    · exact absurd hj (h34 b hi)
    · have e : b = wb := hj; subst e; exact absurd hi h04
    · exact absurd hi (h34 b hj)
    · rfl
  · intro j hj
    have n0 : j ≠ 0 := fun e => hj (.inl e)
    have n1 : j ≠ 3 := fun e => hj (.inr (.inl e))
    have n2 : j ≠ 4 := fun e => hj (.inr (.inr e))
    match j, n0, n1, n2 with
    | 1, _, _, _ => exact ⟨fun q => q, fun _ q => q⟩
    | 2, _, _, _ => exact ⟨fun q => q, fun _ q => q⟩
    | 3, _, n1, _ => first | exact absurd rfl n1 | exact ⟨fun q => q, fun _ q => q⟩
    | 4, _, _, n2 => first | exact absurd rfl n2 | exact ⟨fun q => q, fun _ q => q⟩
    | 5, _, n1, _ => first | exact absurd rfl n1 | exact ⟨fun q => q, fun _ q => q⟩
    | 6, _, _, n2 => first | exact absurd rfl n2 | exact ⟨fun q => q, fun _ q => q⟩
    | 7, _, n1, _ => first | exact absurd rfl n1 | exact ⟨fun q => q, fun _ q => q⟩
    | 8, _, _, n2 => first | exact absurd rfl n2 | exact ⟨fun q => q, fun _ q => q⟩
    | 9, _, _, _ => exact ⟨fun q => q, fun _ q => q⟩
    | 10, _, _, _ => exact ⟨fun q => q, fun _ q => q⟩
    | k + 11, _, _, _ => exact ⟨fun q => q, fun _ q => q⟩
  · intro j b hb
    by_cases e1 : j = 3
    · subst e1
      rcases hvn b hb with e | e
      · exact .inl e
      · exact .inr (.inr e)
    · by_cases e2 : j = 4
      · subst e2
        obtain ⟨y, hy, hb⟩ := hb
        rcases List.mem_append.1 hy with hy | hy
        · exact .inl (hent y hy b hb)
        · rw [List.mem_singleton.1 hy] at hb
          exact .inr (h6 b hb).2.2
      · left
        match j, e1, e2 with
        | 0, _, _ => exact hb
        | 1, _, _ => exact hb
        | 2, _, _ => exact hb
        | 3, n1, _ => first | exact absurd rfl n1 | exact hb
        | 4, _, n2 => first | exact absurd rfl n2 | exact hb
        | 5, n1, _ => first | exact absurd rfl n1 | exact hb
        | 6, _, n2 => first | exact absurd rfl n2 | exact hb
        | 7, n1, _ => first | exact absurd rfl n1 | exact hb
        | 8, _, n2 => first | exact absurd rfl n2 | exact hb
        | 9, _, _ => exact hb
        | 10, _, _ => exact hb
        | k + 11, _, _ => exact hb
  · rintro b (e | e | e)
    · rw [e]; exact h.base 0 wb hwb
    · exact h.base 3 b e
    · exact (hg b e).1
end Go.Proofs.YtbanfbpfapjfcaaGreatDoor
