/-
  Contract of Lists.looks over lists of bytes, numbers and texts: nothing but its own mark stands in each list. Conditions: so it is; there are no lists of what was done.
  What the law's world holds: the desks' rows, the lists that came out, the desks themselves; each part lies apart from the others. Conditions: in each statement.
-/
import Derived.Test.YtbanfbpfapjfcaaGreatDoorGSep
import Derived.Test.YtbanfbpfapjfcaaGreatDoorGLawB
namespace Go.Proofs.YtbanfbpfapjfcaaGreatDoor
open Go.RowKit
set_option maxRecDepth 100000

/-- The lists of one kind: the row of entries, each marked. -/
structure LRow (w : World) (base : Nat) (ent : TypeId) (v : Value) (l : List EntV) (isMark : Value → Prop) : Prop where
  row : w.ownsRow base ent 5 v l.length (evCells l)
  ok : ∀ x ∈ l, x.ok w
  mark : ∀ x ∈ l, isMark x.mark
theorem LRow.grown {w w' : World} {base : Nat} {ent : TypeId} {v : Value} {l : List EntV} {p : Value → Prop} (h : LRow w base ent v l p) (k : w.grownBy w' none) : LRow w' base ent v l p :=
  ⟨h.row.kept k (Classical.em _), fun x hx => (h.ok x hx).keep (fun b hb => k.block b ((h.ok x hx).lt hb) (by simp)), h.mark⟩

set_option maxHeartbeats 4000000 in
theorem looks_V (base wb : Nat) (v0 v1 : Value) (vB vI vS : Value) (eB eI eS : List EntV) (w : World) (hW : Blk w wb #[v0, v1, vB, vI, vS, .slice none 0 0])
    (hB : LRow w base 117 vB eB isMB) (hI : LRow w base 120 vI eI isMI) (hS : LRow w base 123 vS eS isMS) (lB : eB.length ≤ 140737488355328) (lI : eI.length ≤ 140737488355328) (lS : eS.length ≤ 140737488355328) :
    Calls Tryz.prog 28 #[.pointer (some ⟨wb, 2, none⟩)] w fun e w' => e = .returned (.bool true) ∧ w.grownBy w' none := by
  obtain ⟨aB, cB, hvB⟩ := own_shape hB.row
  obtain ⟨aI, cI, hvI⟩ := own_shape hI.row
  obtain ⟨aS, cS, hvS⟩ := own_shape hS.row
  subst hvB hvI hvS
  have G : w.grownBy w none := World.grownBy.refl _ _
  go_enter Tryz.func28, Tryz.ntmps28
  go_wp2
  go_loopw [3, 4, 5, 6, 7, 8, 9] (fun o i _ _ _ _ _ wr => ∃ k : Nat, k ≤ eB.length ∧ i = .int .i64 k ∧ o = .bool true ∧ w.grownBy wr none) (fun _ i _ _ _ _ _ _ => eB.length - (intOf i).toNat)
  case atStart => exact ⟨0, Nat.zero_le _, rfl, rfl, G⟩
  case round =>
    obtain ⟨k, hk, rfl, rfl, hgr⟩ := hrel
    have hWr := hW.grown hgr (by simp)
    have hrB := hB.grown hgr
    have hc : wr.cell? ⟨wb, 2, none⟩ = some (.slice aB eB.length cB) := (hWr.cell 2).trans rfl
    by_cases hlt : k < eB.length
    · have hkI : (k : Int) < (eB.length : Int) := by omega
      have hk0 : (0 : Int) ≤ (k : Int) := by omega
      have hx := hrB.ok eB[k] (List.getElem_mem hlt)
      obtain ⟨m, hm⟩ := hrB.mark eB[k] (List.getElem_mem hlt)
      obtain ⟨g0, hab⟩ : ∃ g0, aB = some ⟨g0, 0, none⟩ := by
        rcases hrB.row.2 with ⟨h, h2⟩ | ⟨g, cap, cur, h, _⟩
        · omega
        · simp at h; exact ⟨g, h.1⟩
      subst hab
      have hcell : ∀ j, j < 5 → wr.cell? ⟨g0, k * 5 + j, none⟩ = (eB[k]).cells[j]? := by
        intro j hj
        rw [hrB.row.cellAt (k * 5 + j) (by omega)]
        exact evCells_get eB k j hlt hj
      obtain ⟨X, hX⟩ : ∃ X, X = eB[k] := ⟨_, rfl⟩
      rw [← hX] at hx hcell hm
      clear hX
      obtain ⟨⟨pl, nl, cl⟩, ⟨p1, n1, c1⟩, ⟨p2, n2, c2⟩, ⟨p3, n3, c3⟩, mk⟩ := X
      have hm' : mk = .int .u8 (m.toNat : Int) := hm
      subst hm'
      clear hm
      have q0 : wr.cell? ⟨g0, k * 5, none⟩ = some (.slice pl nl cl) := hcell 0 (by omega)
      have q1 : wr.cell? ⟨g0, k * 5 + 1, none⟩ = some (.slice p1 n1 c1) := hcell 1 (by omega)
      have q2 : wr.cell? ⟨g0, k * 5 + 2, none⟩ = some (.slice p2 n2 c2) := hcell 2 (by omega)
      have q3 : wr.cell? ⟨g0, k * 5 + 3, none⟩ = some (.slice p3 n3 c3) := hcell 3 (by omega)
      have q4 : wr.cell? ⟨g0, k * 5 + 4, none⟩ = some (.int .u8 (m.toNat : Int)) := hcell 4 (by omega)
      obtain ⟨⟨b0, t0⟩, ⟨b1, t1⟩, ⟨b2, t2⟩, ⟨b3, t3⟩⟩ := hx
      simp only at b0 t0 b1 t1 b2 t2 b3 t3
      have K : ∀ o, wr.grownBy (wr.alloc o) none := fun o => World.grownBy_alloc wr o none
      clear hcell hrB hWr hB hI hS hW
      go_wp2_with (first | (go_at_call_of 50 pl; refine (allbyte_V nl pl cl m _ b0 (t0.below (K _))).mono ?_; rintro e w' ⟨rfl, rfl⟩) | (go_at_call_of 50 p1; refine (allbyte_V n1 p1 c1 m _ b1 (t1.below (K _))).mono ?_; rintro e w' ⟨rfl, rfl⟩) | (go_at_call_of 50 p2; refine (allbyte_V n2 p2 c2 m _ b2 (t2.below (K _))).mono ?_; rintro e w' ⟨rfl, rfl⟩) | (go_at_call_of 50 p3; refine (allbyte_V n3 p3 c3 m _ b3 (t3.below (K _))).mono ?_; rintro e w' ⟨rfl, rfl⟩))
      go_roundw
      case rel => exact ⟨k + 1, by omega, by go_num, rfl, gb_trans hgr (K _)⟩
      case measure => simp [intOf]; omega
    · have hkI : ¬ (k : Int) < (eB.length : Int) := by omega
      clear hrB hWr
      go_wp2
      clear hc hkI hlt hk
      obtain ⟨wzB, hwzB⟩ : ∃ w', w' = wr := ⟨wr, rfl⟩
      subst hwzB
      go_loopw [3, 10, 11, 12, 13, 14, 15] (fun o i _ _ _ _ _ wr => ∃ k : Nat, k ≤ eI.length ∧ i = .int .i64 k ∧ o = .bool true ∧ w.grownBy wr none) (fun _ i _ _ _ _ _ _ => eI.length - (intOf i).toNat)
      case atStart => exact ⟨0, Nat.zero_le _, rfl, rfl, hgr⟩
      case round =>
        clear hgr
        obtain ⟨k, hk, rfl, rfl, hgr⟩ := hrel
        have hWr := hW.grown hgr (by simp)
        have hrI := hI.grown hgr
        have hc : wr.cell? ⟨wb, 3, none⟩ = some (.slice aI eI.length cI) := (hWr.cell 3).trans rfl
        by_cases hlt : k < eI.length
        · have hkI : (k : Int) < (eI.length : Int) := by omega
          have hk0 : (0 : Int) ≤ (k : Int) := by omega
          have hx := hrI.ok eI[k] (List.getElem_mem hlt)
          obtain ⟨m, hm⟩ := hrI.mark eI[k] (List.getElem_mem hlt)
          obtain ⟨g0, hab⟩ : ∃ g0, aI = some ⟨g0, 0, none⟩ := by
            rcases hrI.row.2 with ⟨h, h2⟩ | ⟨g, cap, cur, h, _⟩
            · omega
            · simp at h; exact ⟨g, h.1⟩
          subst hab
          have hcell : ∀ j, j < 5 → wr.cell? ⟨g0, k * 5 + j, none⟩ = (eI[k]).cells[j]? := by
            intro j hj
            rw [hrI.row.cellAt (k * 5 + j) (by omega)]
            exact evCells_get eI k j hlt hj
          obtain ⟨X, hX⟩ : ∃ X, X = eI[k] := ⟨_, rfl⟩
          rw [← hX] at hx hcell hm
          clear hX
          obtain ⟨⟨pl, nl, cl⟩, ⟨p1, n1, c1⟩, ⟨p2, n2, c2⟩, ⟨p3, n3, c3⟩, mk⟩ := X
          have hm' : mk = .int .i64 m := hm
          subst hm'
          clear hm
          have q0 : wr.cell? ⟨g0, k * 5, none⟩ = some (.slice pl nl cl) := hcell 0 (by omega)
          have q1 : wr.cell? ⟨g0, k * 5 + 1, none⟩ = some (.slice p1 n1 c1) := hcell 1 (by omega)
          have q2 : wr.cell? ⟨g0, k * 5 + 2, none⟩ = some (.slice p2 n2 c2) := hcell 2 (by omega)
          have q3 : wr.cell? ⟨g0, k * 5 + 3, none⟩ = some (.slice p3 n3 c3) := hcell 3 (by omega)
          have q4 : wr.cell? ⟨g0, k * 5 + 4, none⟩ = some (.int .i64 m) := hcell 4 (by omega)
          obtain ⟨⟨b0, t0⟩, ⟨b1, t1⟩, ⟨b2, t2⟩, ⟨b3, t3⟩⟩ := hx
          simp only at b0 t0 b1 t1 b2 t2 b3 t3
          have K : ∀ o, wr.grownBy (wr.alloc o) none := fun o => World.grownBy_alloc wr o none
          clear hcell hrI hWr hB hI hS hW
          go_wp2_with (first | (go_at_call_of 51 pl; refine (allint_V nl pl cl m _ b0 (t0.below (K _))).mono ?_; rintro e w' ⟨rfl, rfl⟩) | (go_at_call_of 51 p1; refine (allint_V n1 p1 c1 m _ b1 (t1.below (K _))).mono ?_; rintro e w' ⟨rfl, rfl⟩) | (go_at_call_of 51 p2; refine (allint_V n2 p2 c2 m _ b2 (t2.below (K _))).mono ?_; rintro e w' ⟨rfl, rfl⟩) | (go_at_call_of 51 p3; refine (allint_V n3 p3 c3 m _ b3 (t3.below (K _))).mono ?_; rintro e w' ⟨rfl, rfl⟩))
          go_roundw
          case rel => exact ⟨k + 1, by omega, by go_num, rfl, gb_trans hgr (K _)⟩
          case measure => simp [intOf]; omega
        · have hkI : ¬ (k : Int) < (eI.length : Int) := by omega
          clear hrI hWr
          go_wp2
          clear hc hkI hlt hk
          obtain ⟨wzI, hwzI⟩ : ∃ w', w' = wr := ⟨wr, rfl⟩
          subst hwzI
          go_loopw [3, 16, 17, 18, 19, 20, 21] (fun o i _ _ _ _ _ wr => ∃ k : Nat, k ≤ eS.length ∧ i = .int .i64 k ∧ o = .bool true ∧ w.grownBy wr none) (fun _ i _ _ _ _ _ _ => eS.length - (intOf i).toNat)
          case atStart => exact ⟨0, Nat.zero_le _, rfl, rfl, hgr⟩
          case round =>
            clear hgr
            obtain ⟨k, hk, rfl, rfl, hgr⟩ := hrel
            have hWr := hW.grown hgr (by simp)
            have hrS := hS.grown hgr
            have hc : wr.cell? ⟨wb, 4, none⟩ = some (.slice aS eS.length cS) := (hWr.cell 4).trans rfl
            by_cases hlt : k < eS.length
            · have hkI : (k : Int) < (eS.length : Int) := by omega
              have hk0 : (0 : Int) ≤ (k : Int) := by omega
              have hx := hrS.ok eS[k] (List.getElem_mem hlt)
              obtain ⟨m, hm⟩ := hrS.mark eS[k] (List.getElem_mem hlt)
              obtain ⟨g0, hab⟩ : ∃ g0, aS = some ⟨g0, 0, none⟩ := by
                rcases hrS.row.2 with ⟨h, h2⟩ | ⟨g, cap, cur, h, _⟩
                · omega
                · simp at h; exact ⟨g, h.1⟩
              subst hab
              have hcell : ∀ j, j < 5 → wr.cell? ⟨g0, k * 5 + j, none⟩ = (eS[k]).cells[j]? := by
                intro j hj
                rw [hrS.row.cellAt (k * 5 + j) (by omega)]
                exact evCells_get eS k j hlt hj
              obtain ⟨X, hX⟩ : ∃ X, X = eS[k] := ⟨_, rfl⟩
              rw [← hX] at hx hcell hm
              clear hX
              obtain ⟨⟨pl, nl, cl⟩, ⟨p1, n1, c1⟩, ⟨p2, n2, c2⟩, ⟨p3, n3, c3⟩, mk⟩ := X
              have hm' : mk = .string m := hm
              subst hm'
              clear hm
              have q0 : wr.cell? ⟨g0, k * 5, none⟩ = some (.slice pl nl cl) := hcell 0 (by omega)
              have q1 : wr.cell? ⟨g0, k * 5 + 1, none⟩ = some (.slice p1 n1 c1) := hcell 1 (by omega)
              have q2 : wr.cell? ⟨g0, k * 5 + 2, none⟩ = some (.slice p2 n2 c2) := hcell 2 (by omega)
              have q3 : wr.cell? ⟨g0, k * 5 + 3, none⟩ = some (.slice p3 n3 c3) := hcell 3 (by omega)
              have q4 : wr.cell? ⟨g0, k * 5 + 4, none⟩ = some (.string m) := hcell 4 (by omega)
              obtain ⟨⟨b0, t0⟩, ⟨b1, t1⟩, ⟨b2, t2⟩, ⟨b3, t3⟩⟩ := hx
              simp only at b0 t0 b1 t1 b2 t2 b3 t3
              have K : ∀ o, wr.grownBy (wr.alloc o) none := fun o => World.grownBy_alloc wr o none
              clear hcell hrS hWr hB hI hS hW
              go_wp2_with (first | (go_at_call_of 52 pl; refine (allstr_V nl pl cl m _ b0 (t0.below (K _))).mono ?_; rintro e w' ⟨rfl, rfl⟩) | (go_at_call_of 52 p1; refine (allstr_V n1 p1 c1 m _ b1 (t1.below (K _))).mono ?_; rintro e w' ⟨rfl, rfl⟩) | (go_at_call_of 52 p2; refine (allstr_V n2 p2 c2 m _ b2 (t2.below (K _))).mono ?_; rintro e w' ⟨rfl, rfl⟩) | (go_at_call_of 52 p3; refine (allstr_V n3 p3 c3 m _ b3 (t3.below (K _))).mono ?_; rintro e w' ⟨rfl, rfl⟩))
              go_roundw
              case rel => exact ⟨k + 1, by omega, by go_num, rfl, gb_trans hgr (K _)⟩
              case measure => simp [intOf]; omega
            · have hkI : ¬ (k : Int) < (eS.length : Int) := by omega
              have hc5 : wr.cell? ⟨wb, 5, none⟩ = some (.slice none 0 0) := (hWr.cell 5).trans rfl
              clear hrS hWr hB hI hS hW
              go_wp2
              refine wp_loop_rounds 1 ?_
              rw [rounds_succ]
              go_wp2
              go_ret
              exact ⟨rfl, hgr⟩
end Go.Proofs.YtbanfbpfapjfcaaGreatDoor
namespace Go.Proofs.YtbanfbpfapjfcaaGreatDoor
open Go.RowKit
set_option maxRecDepth 100000

section
variable {S : Type} {C : S → Nat → World → Prop} {Foot : S → Nat → Nat → Prop}
/-- Some parts are turned into others, which lie where they lay or in memory that was nobody's. -/
theorem Sep.acts (L : Loc C Foot) {B : Nat} {s s' : S} {w w' : World} (h : Sep C Foot B s w) (K : Nat → Prop) (ex : Nat → Prop) (f : Frm w w' ex) (hx : ∀ b, ex b → (∃ k, K k ∧ Foot s k b) ∨ ∀ j, ¬ Foot s j b)
    (hc : ∀ k, K k → C s' k w') (hf : ∀ k b, K k → Foot s' k b → B ≤ b ∧ b < w'.heap.size ∧ ((∃ j, K j ∧ Foot s j b) ∨ ∀ j, ¬ Foot s j b)) (hd : ∀ i j b, K i → K j → Foot s' i b → Foot s' j b → i = j)
    (ho : ∀ j, ¬ K j → (C s j w' → C s' j w') ∧ ∀ b, Foot s' j b → Foot s j b) : Sep C Foot B s' w' := by
  have z := f.size
  have hroom := h.room
  have hkeep : ∀ j, ¬ K j → ∀ b, Foot s j b → w'.heap[b]? = w.heap[b]? := fun j hj b hb => f.block b (h.lt j b hb) (fun e => by
    rcases hx b e with ⟨k, hk, e2⟩ | e2
    · exact hj (by rw [h.one j k b hb e2]; exact hk)
    · exact e2 j hb)
  refine ⟨fun j => ?_, fun j b hb => ?_, fun j b hb => ?_, fun i j b hi hj => ?_, by omega⟩
  · by_cases e : K j
    · exact hc j e
    · exact (ho j e).1 (L s j w w' (h.here j) (hkeep j e))
  · by_cases e : K j
    · exact (hf j b e hb).2.1
    · have := h.lt j b ((ho j e).2 b hb); omega
  · by_cases e : K j
    · exact (hf j b e hb).1
    · exact h.base j b ((ho j e).2 b hb)
  · by_cases e : K i
    · by_cases e2 : K j
      · exact hd i j b e e2 hi hj
      · have q := (ho j e2).2 b hj
        rcases (hf i b e hi).2.2 with ⟨k, hk, r⟩ | r
        · exact absurd (by rw [h.one j k b q r]; exact hk) e2
        · exact absurd q (r j)
    · have p := (ho i e).2 b hi
      by_cases e2 : K j
      · rcases (hf j b e2 hj).2.2 with ⟨k, hk, r⟩ | r
        · exact absurd (by rw [h.one i k b p r]; exact hk) e
        · exact absurd p (r i)
      · exact h.one i j b p ((ho j e2).2 b hj)
end

/-- Something that is said of some blocks alone. -/
structure Asrt where
  P : World → Prop
  foot : Nat → Prop
  loc : ∀ w w', P w → (∀ b, foot b → w'.heap[b]? = w.heap[b]?) → P w'
def Asrt.emp : Asrt := ⟨fun _ => True, fun _ => False, fun _ _ _ _ => trivial⟩

/-- What the world holds. -/
structure WD (PP QP : Type) where
  pv : Value
  qv : Value
  bv : Value
  iv : Value
  sv : Value
  dv : Value
  ps : List PP
  qs : List QP
  eb : List EntV
  ei : List EntV
  es : List EntV
  ed : List EntV
abbrev WD.cells {PP QP : Type} (d : WD PP QP) : Array Value := #[d.pv, d.qv, d.bv, d.iv, d.sv, d.dv]
/-- How the desks lie. -/
structure Desks (PP QP : Type) where
  pas : PP → Asrt
  pb : PP → Nat
  qas : QP → Asrt
  qb : QP → Nat
def ptrTo (b : Nat) : Value := .pointer (some ⟨b, 0, none⟩)

def MarkedD (w : World) (m : Value) (s : Sl) : Prop := s.2.1 ≤ 9223372036854775807 ∧ CAt w s.1 (List.replicate s.2.1 [.slice none 0 0, m]).flatten
def EntV.okD (w : World) (x : EntV) : Prop := MarkedD w x.mark x.l ∧ MarkedD w x.mark x.one ∧ MarkedD w x.mark x.two ∧ MarkedD w x.mark x.three
def Ents.on (l : List EntV) (b : Nat) : Prop := ∃ x ∈ l, x.on b

variable {PP QP : Type} (D : Desks PP QP) (base wb : Nat)
def WD.C (d : WD PP QP) (k : Nat) (w : World) : Prop :=
  match k with
  | 0 => Blk w wb d.cells
  | 1 => w.ownsRow base 112 1 d.pv d.ps.length (d.ps.map fun p => ptrTo (D.pb p))
  | 2 => w.ownsRow base 114 1 d.qv d.qs.length (d.qs.map fun q => ptrTo (D.qb q))
  | 3 => w.ownsRow base 117 5 d.bv d.eb.length (evCells d.eb)
  | 4 => ∀ x ∈ d.eb, x.ok w ∧ isMB x.mark
  | 5 => w.ownsRow base 120 5 d.iv d.ei.length (evCells d.ei)
  | 6 => ∀ x ∈ d.ei, x.ok w ∧ isMI x.mark
  | 7 => w.ownsRow base 123 5 d.sv d.es.length (evCells d.es)
  | 8 => ∀ x ∈ d.es, x.ok w ∧ isMS x.mark
  | 9 => w.ownsRow base 126 5 d.dv d.ed.length (evCells d.ed)
  | 10 => ∀ x ∈ d.ed, x.okD w ∧ isMI x.mark
  | k + 11 => if k % 2 = 0 then ∀ p, d.ps[k / 2]? = some p → (D.pas p).P w else ∀ q, d.qs[k / 2]? = some q → (D.qas q).P w
def WD.F (d : WD PP QP) (k b : Nat) : Prop :=
  match k with
  | 0 => b = wb
  | 1 => d.pv.ownBlock = some b
  | 2 => d.qv.ownBlock = some b
  | 3 => d.bv.ownBlock = some b
  | 4 => Ents.on d.eb b
  | 5 => d.iv.ownBlock = some b
  | 6 => Ents.on d.ei b
  | 7 => d.sv.ownBlock = some b
  | 8 => Ents.on d.es b
  | 9 => d.dv.ownBlock = some b
  | 10 => Ents.on d.ed b
  | k + 11 => if k % 2 = 0 then ∃ p, d.ps[k / 2]? = some p ∧ (D.pas p).foot b else ∃ q, d.qs[k / 2]? = some q ∧ (D.qas q).foot b
theorem MarkedD.keep {w w' : World} {m : Value} {s : Sl} (h : MarkedD w m s) (k : ∀ b, s.on b → w'.heap[b]? = w.heap[b]?) : MarkedD w' m s := by
  refine ⟨h.1, fun j u hu => ?_⟩
  obtain ⟨b, off, e1, e2⟩ := h.2 j u hu
  have hp : 0 < s.2.1 := by
    rcases Nat.eq_zero_or_pos s.2.1 with e | e
    · rw [e] at hu; simp at hu
    · exact e
  refine ⟨b, off, e1, ?_⟩
  rw [World.cell?_of_block (w := w) (w' := w') (a := ⟨b, off + j, none⟩) (k b ⟨off, e1, hp⟩)]
  exact e2
theorem WD.loc : Loc (WD.C D base wb) (WD.F D wb) := by
  intro d k w w' h hk
  have row : ∀ {e : TypeId} {size : Nat} {v : Value} {n : Nat} {xs : List Value}, w.ownsRow base e size v n xs → (∀ b, v.ownBlock = some b → w'.heap[b]? = w.heap[b]?) → w'.ownsRow base e size v n xs := fun a b => own_keep a b
  match k, h, hk with
  | 0, h, hk => exact Blk.kept h (hk wb rfl)
  | 1, h, hk => exact row h hk
  | 2, h, hk => exact row h hk
  | 3, h, hk => exact row h hk
  | 4, h, hk => exact fun x hx => ⟨(h x hx).1.keep (fun b hb => hk b ⟨x, hx, hb⟩), (h x hx).2⟩
  | 5, h, hk => exact row h hk
  | 6, h, hk => exact fun x hx => ⟨(h x hx).1.keep (fun b hb => hk b ⟨x, hx, hb⟩), (h x hx).2⟩
  | 7, h, hk => exact row h hk
  | 8, h, hk => exact fun x hx => ⟨(h x hx).1.keep (fun b hb => hk b ⟨x, hx, hb⟩), (h x hx).2⟩
  | 9, h, hk => exact row h hk
  | 10, h, hk => exact fun x hx => ⟨⟨(h x hx).1.1.keep (fun b hb => hk b ⟨x, hx, .inl hb⟩), (h x hx).1.2.1.keep (fun b hb => hk b ⟨x, hx, .inr (.inl hb)⟩), (h x hx).1.2.2.1.keep (fun b hb => hk b ⟨x, hx, .inr (.inr (.inl hb))⟩), (h x hx).1.2.2.2.keep (fun b hb => hk b ⟨x, hx, .inr (.inr (.inr hb))⟩)⟩, (h x hx).2⟩
  | k + 11, h, hk =>
    simp only [WD.C, WD.F] at h hk ⊢
    by_cases e : k % 2 = 0
    · rw [if_pos e] at h ⊢
      simp only [e, if_true] at hk
      exact fun p hp => (D.pas p).loc w w' (h p hp) (fun b hb => hk b ⟨p, hp, hb⟩)
    · rw [if_neg e] at h ⊢
      simp only [e, if_false] at hk
      exact fun q hq => (D.qas q).loc w w' (h q hq) (fun b hb => hk b ⟨q, hq, hb⟩)
/-- All of it holds. -/
abbrev SepW (d : WD PP QP) (w : World) : Prop := Sep (WD.C D base wb) (WD.F D wb) base d w
variable {D base wb}
theorem SepW.grown {d : WD PP QP} {w w' : World} (h : SepW D base wb d w) (g : w.grownBy w' none) : SepW D base wb d w' := Sep.grown (WD.loc D base wb) h g

theorem SepW.below {d : WD PP QP} {w w' : World} {ex : Nat → Prop} {w0 : World} (h : SepW D base wb d w0) (g : Below base w0 w) (f : Frm w w' ex) (hx : ∀ b, ex b → base ≤ b) : Below base w0 w' := g.trans (f.below (by have := h.room; have := g.size; omega) hx)
end Go.Proofs.YtbanfbpfapjfcaaGreatDoor
