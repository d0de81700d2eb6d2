/-
  What holds between the steps of a script; each step that hashes, seals, opens or shows keeps it, and so does a look at the lists. Conditions: in each statement.
-/
import Derived.Test.YtbanfbpfapjfcaaGreatDoorGScript
import Derived.Test.YtbanfbpfapjfcaaGreatDoorGLooks
namespace Go.Proofs.YtbanfbpfapjfcaaGreatDoor
open Go.RowKit
set_option maxRecDepth 100000
variable {PP QP : Type} {D : Desks PP QP}

/-- Between the steps, behind i of them: the world began at w1. -/
structure LI (D : Desks PP QP) (PN : PP → Nat → Prop) (QN : QP → Nat → Prop) (w1 : World) (i : Nat) (wr : World) (d : WD PP QP) : Prop where
  sep : SepW D w1.heap.size w1.heap.size d wr
  below : Below w1.heap.size w1 wr
  eb : d.eb.length ≤ 2 * i
  ei : d.ei.length ≤ 2 * i
  es : d.es.length ≤ 2 * i
  ps : d.ps.length ≤ i
  qs : d.qs.length ≤ i
  dv : d.dv = .slice none 0 0
  ed : d.ed = []
  pn : ∀ p ∈ d.ps, PN p i
  qn : ∀ q ∈ d.qs, QN q i
variable {PN : PP → Nat → Prop} {QN : QP → Nat → Prop}
theorem LI.mono (hP : ∀ p i, PN p i → PN p (i + 1)) (hQ : ∀ q i, QN q i → QN q (i + 1)) {w1 wr : World} {i : Nat} {d : WD PP QP} (h : LI D PN QN w1 i wr d) : LI D PN QN w1 (i + 1) wr d :=
  ⟨h.sep, h.below, by have := h.eb; omega, by have := h.ei; omega, by have := h.es; omega, by have := h.ps; omega, by have := h.qs; omega, h.dv, h.ed, fun p hp => hP p i (h.pn p hp), fun q hq => hQ q i (h.qn q hq)⟩
theorem LI.grown {w1 wr w' : World} {i : Nat} {d : WD PP QP} (h : LI D PN QN w1 i wr d) (g : wr.grownBy w' none) : LI D PN QN w1 i w' d :=
  ⟨h.sep.grown g, h.below.trans (below_gb g h.below.size), h.eb, h.ei, h.es, h.ps, h.qs, h.dv, h.ed, h.pn, h.qn⟩
theorem LI.more (hP : ∀ p i, PN p i → PN p (i + 1)) (hQ : ∀ q i, QN q i → QN q (i + 1)) {w1 wr w' : World} {i : Nat} {d : WD PP QP} (h : LI D PN QN w1 i wr d) (k : More D w1.heap.size w1.heap.size 2 d wr w') : ∃ d', LI D PN QN w1 (i + 1) w' d' := by
  obtain ⟨⟨d', s, e1, e2, l1, l2, l3, e3, e4⟩, b⟩ := k
  have := h.eb
  have := h.ei
  have := h.es
  exact ⟨d', s, h.below.trans b, by omega, by omega, by omega, by rw [e1]; have := h.ps; omega, by rw [e2]; have := h.qs; omega, e3.trans h.dv, e4.trans h.ed, fun p hp => hP p i (h.pn p (by rw [← e1]; exact hp)), fun q hq => hQ q i (h.qn q (by rw [← e2]; exact hq))⟩
theorem LI.start {w1 wr : World} (hg : (w1.alloc world0).grownBy wr none) : LI D PN QN w1 0 wr ⟨.slice none 0 0, .slice none 0 0, .slice none 0 0, .slice none 0 0, .slice none 0 0, .slice none 0 0, [], [], [], [], [], []⟩ := by
  have hb : Blk wr w1.heap.size #[.slice none 0 0, .slice none 0 0, .slice none 0 0, .slice none 0 0, .slice none 0 0, .slice none 0 0] := (Blk.new w1 _ _).grown hg (by simp)
  have G := gb_trans (World.grownBy_alloc w1 _ none) hg
  have nof : ∀ j b, WD.F D w1.heap.size ⟨.slice none 0 0, .slice none 0 0, .slice none 0 0, .slice none 0 0, .slice none 0 0, .slice none 0 0, [], [], [], [], [], []⟩ j b → j = 0 ∧ b = w1.heap.size := by
    intro j b h
    match j, h with
    | 0, h => exact ⟨rfl, h⟩
    | 1, h => cases h
    | 2, h => cases h
    | 3, h => cases h
    | 4, h => obtain ⟨_, h, _⟩ := h; cases h
    | 5, h => cases h
    | 6, h => obtain ⟨_, h, _⟩ := h; cases h
    | 7, h => cases h
    | 8, h => obtain ⟨_, h, _⟩ := h; cases h
    | 9, h => cases h
    | 10, h => obtain ⟨_, h, _⟩ := h; cases h
    | k + 11, h =>
      simp only [WD.F] at h
      split at h <;> simp at h
  refine ⟨⟨fun j => ?_, fun j b h => by rw [(nof j b h).2]; exact hb.lt, fun j b h => by rw [(nof j b h).2]; exact Nat.le_refl _, fun i j b h k => by rw [(nof i b h).1, (nof j b k).1], by have := G.size; omega⟩, gb_below G, by simp, by simp, by simp, by simp, by simp, rfl, rfl, by simp, by simp⟩
  match j with
  | 0 => exact hb
  | 1 => exact World.ownsRow_nil _ _ _ _
  | 2 => exact World.ownsRow_nil _ _ _ _
  | 3 => exact World.ownsRow_nil _ _ _ _
  | 4 => intro x hx; cases hx
  | 5 => exact World.ownsRow_nil _ _ _ _
  | 6 => intro x hx; cases hx
  | 7 => exact World.ownsRow_nil _ _ _ _
  | 8 => intro x hx; cases hx
  | 9 => exact World.ownsRow_nil _ _ _ _
  | 10 => intro x hx; cases hx
  | k + 11 => simp only [WD.C]; split <;> (intro p hp; simp at hp)
/-- A look. -/
theorem LI.looks {w1 wr : World} {i : Nat} {d : WD PP QP} (h : LI D PN QN w1 i wr d) (hi : i * 392 ≤ 140737488355328 + 392) :
    Calls Tryz.prog 28 #[.pointer (some ⟨w1.heap.size, 2, none⟩)] wr fun e w' => e = .returned (.bool true) ∧ LI D PN QN w1 i w' d := by
  have h0 : Blk wr w1.heap.size d.cells := h.sep.here 0
  rw [WD.cells, h.dv] at h0
  have a := h.eb
  have b := h.ei
  have c := h.es
  refine (looks_V w1.heap.size w1.heap.size d.pv d.qv d.bv d.iv d.sv d.eb d.ei d.es wr h0 ⟨h.sep.here 3, fun x hx => (h.sep.here 4 x hx).1, fun x hx => (h.sep.here 4 x hx).2⟩ ⟨h.sep.here 5, fun x hx => (h.sep.here 6 x hx).1, fun x hx => (h.sep.here 6 x hx).2⟩ ⟨h.sep.here 7, fun x hx => (h.sep.here 8 x hx).1, fun x hx => (h.sep.here 8 x hx).2⟩ (by omega) (by omega) (by omega)).mono ?_
  rintro e w' ⟨rfl, g⟩
  exact ⟨rfl, h.grown g⟩
/-- A step of the kinds 1 to 4. -/
theorem LI.seal (hP : ∀ p i, PN p i → PN p (i + 1)) (hQ : ∀ q i, QN q i → QN q (i + 1)) {w1 wr : World} {i : Nat} {d : WD PP QP} (h : LI D PN QN w1 i wr d) (hi : i * 392 ≤ 140737488355328) {kind : Int} {cs : Array Value} (hk : kind = 1 ∨ kind = 2 ∨ kind = 3) (hgo : OpOk kind cs) :
    Calls Tryz.prog 27 #[.pointer (some ⟨w1.heap.size, 0, none⟩), .agg cs] wr fun e w' => e = .returned (.bool true) ∧ ∃ d', LI D PN QN w1 (i + 1) w' d' := by
  obtain ⟨o, c15, c16, c17, c18, c19, c20, c21, c22, c23, c24, c25, c26, c27, c28, c29, c30, c31, c32, c33, c34, c35, c36, c37, c38, c39, c40, hok, hko, rfl⟩ := hgo
  have a := h.eb
  refine (step_any d o.kind o.B o.C o.K o.D o.zs (.int .i64 o.A) (.int .i64 o.now) (.int .i64 o.ak) (.string ⟨o.an.toArray⟩) (.int .u64 (o.key.toNat : Int)) (.int .i64 o.life) (.int .i64 o.renew) (.int .i64 o.expire) (.int .i64 o.flags) c15 c16 c17 c18 c19 c20 c21 c22 c23 c24 c25 c26 c27 c28 c29 c30 c31 c32 c33 c34 c35 c36 c37 c38 c39 c40 wr (hid (by rw [hko]; exact hk)) hok.2.2.2.2.2.1 h.sep (by omega)).mono ?_
  rintro e w' ⟨rfl, m⟩
  exact ⟨rfl, h.more hP hQ m⟩
theorem LI.show (hP : ∀ p i, PN p i → PN p (i + 1)) (hQ : ∀ q i, QN q i → QN q (i + 1)) {w1 wr : World} {i : Nat} {d : WD PP QP} (h : LI D PN QN w1 i wr d) (htab : TabHere wr) {kind : Int} {cs : Array Value} (hk : kind = 4) (hgo : OpOk kind cs) :
    Calls Tryz.prog 27 #[.pointer (some ⟨w1.heap.size, 0, none⟩), .agg cs] wr fun e w' => e = .returned (.bool true) ∧ ∃ d', LI D PN QN w1 (i + 1) w' d' := by
  obtain ⟨o, c15, c16, c17, c18, c19, c20, c21, c22, c23, c24, c25, c26, c27, c28, c29, c30, c31, c32, c33, c34, c35, c36, c37, c38, c39, c40, hok, hko, rfl⟩ := hgo
  refine (step_show w1.heap.size o.B o.C o.K o.D o.zs (.int .i64 o.A) (.int .i64 o.now) (.int .i64 o.ak) (.string ⟨o.an.toArray⟩) (.int .u64 (o.key.toNat : Int)) (.int .i64 o.life) (.int .i64 o.renew) (.int .i64 o.expire) (.int .i64 o.flags) c15 c16 c17 c18 c19 c20 c21 c22 c23 c24 c25 c26 c27 c28 c29 c30 c31 c32 c33 c34 c35 c36 c37 c38 c39 c40 o.kind wr (by rw [hko, hk]) hok.2.2.2.2.2.1 htab).mono ?_
  rintro e w' ⟨rfl, g⟩
  exact ⟨rfl, d, (h.grown g).mono hP hQ⟩
end Go.Proofs.YtbanfbpfapjfcaaGreatDoor
