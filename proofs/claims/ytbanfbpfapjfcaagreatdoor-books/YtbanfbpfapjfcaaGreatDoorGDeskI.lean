/-
  Contract of the document's Admin where it gives a new key. Conditions: in the statement.
  Contract of the document's Admin where it sets a policy. Conditions: in the statement.
-/
import Derived.Test.YtbanfbpfapjfcaaGreatDoorGDeskE
import Derived.OneCell
import Derived.Test.YtbanfbpfapjfcaaGreatDoorGSep
namespace Go.Proofs.YtbanfbpfapjfcaaGreatDoor
open Go.RowKit
set_option maxRecDepth 100000

theorem RE.cells_length (e : RE) : e.cells.length = 10 := rfl
theorem reCells_cons (y : RE) (es : List RE) : reCells (y :: es) = y.cells ++ reCells es := by simp [reCells]
theorem set_left (xs ys : List Value) (j : Nat) (v : Value) (h : j < xs.length) : (xs ++ ys).set j v = xs.set j v ++ ys := by rw [List.set_append, if_pos h]
theorem set_right (xs ys : List Value) (j : Nat) (v : Value) : (xs ++ ys).set (xs.length + j) v = xs ++ ys.set j v := by rw [List.set_append, if_neg (by omega), Nat.add_sub_cancel_left]
/-- The entry with a new key. -/
def RE.rekeyed (x : RE) (key : UInt64) : RE := ⟨x.k, x.name, x.akey, x.life, x.renew, x.expire, x.flags, x.number + 1, key, x.key⟩
theorem reCells_rekey (key : UInt64) : ∀ (es : List RE) (i : Nat) (hi : i < es.length), (((reCells es).set (i * 10 + 7) (.int .i64 (es[i].number + 1))).set (i * 10 + 8) (.int .u64 (key.toNat : Int))).set (i * 10 + 9) (.int .u64 (es[i].key.toNat : Int)) = reCells (es.set i (es[i].rekeyed key)) := by
  intro es
  induction es with
  | nil => intro i hi; simp at hi
  | cons y es ih =>
    intro i hi
    cases i with
    | zero =>
      rw [reCells_cons, Nat.zero_mul, Nat.zero_add, Nat.zero_add, Nat.zero_add, set_left _ _ 7 _ (by rw [RE.cells_length]; omega), set_left _ _ 8 _ (by rw [List.length_set, RE.cells_length]; omega), set_left _ _ 9 _ (by rw [List.length_set, List.length_set, RE.cells_length]; omega)]
      show _ = reCells (y.rekeyed key :: es)
      rw [reCells_cons]
      rfl
    | succ i =>
      have h := ih i (by simpa using hi)
      rw [reCells_cons, show (i + 1) * 10 + 7 = y.cells.length + (i * 10 + 7) from by rw [RE.cells_length]; omega, show (i + 1) * 10 + 8 = y.cells.length + (i * 10 + 8) from by rw [RE.cells_length]; omega, show (i + 1) * 10 + 9 = y.cells.length + (i * 10 + 9) from by rw [RE.cells_length]; omega, set_right, set_right, set_right]
      show _ = reCells (y :: es.set i _)
      rw [reCells_cons]
      exact congrArg _ h

set_option maxHeartbeats 2000000 in
theorem radmin_rekey (base pb : Nat) (skew : Int) (g0 cb : Nat) (pv dv : Value) (es : List RE) (ds : List UInt8) (m i : Nat) (a : Adm) (w : World) (hD : RDesk w base pb skew (.slice (some ⟨g0, 0, none⟩) m cb) pv dv es ds) (hm : Hid (es.length = m)) (hml : m ≤ 20) (hak : a.kind = 3) (hfi : findE es a.name = (i : Int)) (him : i < m) (him' : i < es.length) (hnum : es[i].number < 4611686018427387904) (hnum0 : 0 ≤ es[i].number) :
    Calls Tryz.prog 76 #[.pointer (some ⟨pb, 0, none⟩), .agg a.cells] w fun r w' => r = .returned (.int .i64 0) ∧ RDesk w' base pb skew (.slice (some ⟨g0, 0, none⟩) m cb) pv dv (es.set i (es[i].rekeyed a.key)) ds ∧ Frm w w' (fun g => g = g0) := by
  have hrp := fun w => rpolicy_any a w
  have hF := fun w hx => rfind_any base pb skew (.slice (some ⟨g0, 0, none⟩) m cb) pv dv es ds a.name m ⟨a.name.toArray⟩ w hx hm (by omega) (hid rfl)
  rw [hfi] at hF
  generalize a.pol = pl at hrp
  obtain ⟨ak, an, key, life, renew, expire, flags⟩ := a
  obtain rfl : ak = 3 := hak
  simp only [Adm.cells] at hrp hF ⊢
  have G0 : w.grownBy (w.alloc (.cells #[.int .i64 3, .string ⟨an.toArray⟩, .int .u64 (key.toNat : Int), .int .i64 life, .int .i64 renew, .int .i64 expire, .int .i64 flags] 61)) none := World.grownBy_alloc w _ none
  have hB0 := Blk.new w #[.int .i64 3, .string ⟨an.toArray⟩, .int .u64 (key.toNat : Int), .int .i64 life, .int .i64 renew, .int .i64 expire, .int .i64 flags] 61
  have hF0 := hF _ (hD.grown G0)
  clear hF hfi
  go_enter Tryz.func76, Tryz.ntmps76
  go_wp2_with fail
  refine hF0.mono ?_
  rintro e w1 ⟨rfl, hg1⟩
  have hB1 := hB0.grown hg1 (by simp)
  have G1 := gb_trans G0 hg1
  have f0 := hB1.cell 0
  have f1 := hB1.cell 1
  have f2 := hB1.cell 2
  have f3 := hB1.cell 3
  have f4 := hB1.cell 4
  have f5 := hB1.cell 5
  have f6 := hB1.cell 6
  simp only [List.getElem?_toArray, List.getElem?_cons_zero, List.getElem?_cons_succ] at f0 f1 f2 f3 f4 f5 f6
  clear hF0 hg1
  go_wp2_with fail
  refine (hrp _).mono ?_
  rintro e w2 ⟨rfl, hg2⟩
  have hB2 := hB1.grown hg2 (by simp)
  have G2 := gb_trans G1 hg2
  have hD2 := hD.grown G2
  clear f0 f1 f2 f3 f4 f5 f6 hrp hg2 hB1
  have f0 := hB2.cell 0
  have f2 := hB2.cell 2
  have c1 := hD2.blk.cell 1
  simp only [List.getElem?_toArray, List.getElem?_cons_zero, List.getElem?_cons_succ] at f0 f2 c1
  have hbk := hD2.book
  rw [hm.out] at hbk
  have hc : ∀ j, j < 10 → w2.cell? ⟨g0, i * 10 + j, none⟩ = (es[i]).cells[j]? := fun j hj => by
    rw [hbk.cellAt (i * 10 + j) (by omega), reCells_get es i j him' hj]
  obtain ⟨x, hx⟩ : ∃ x, x = es[i] := ⟨_, rfl⟩
  have HX := hid hx
  rw [← hx] at hc hnum hnum0
  clear hx
  have d0 : w2.cell? ⟨g0, i * 10, none⟩ = some (.int .i64 x.k) := hc 0 (by omega)
  have d1 : w2.cell? ⟨g0, i * 10 + 1, none⟩ = some (.string ⟨x.name.toArray⟩) := hc 1 (by omega)
  have d2 : w2.cell? ⟨g0, i * 10 + 2, none⟩ = some (.int .u64 (x.akey.toNat : Int)) := hc 2 (by omega)
  have d3 : w2.cell? ⟨g0, i * 10 + 3, none⟩ = some (.int .i64 x.life) := hc 3 (by omega)
  have d4 : w2.cell? ⟨g0, i * 10 + 4, none⟩ = some (.int .i64 x.renew) := hc 4 (by omega)
  have d5 : w2.cell? ⟨g0, i * 10 + 5, none⟩ = some (.int .i64 x.expire) := hc 5 (by omega)
  have d6 : w2.cell? ⟨g0, i * 10 + 6, none⟩ = some (.int .i64 x.flags) := hc 6 (by omega)
  have d7 : w2.cell? ⟨g0, i * 10 + 7, none⟩ = some (.int .i64 x.number) := hc 7 (by omega)
  have d8 : w2.cell? ⟨g0, i * 10 + 8, none⟩ = some (.int .u64 (x.key.toNat : Int)) := hc 8 (by omega)
  have d9 : w2.cell? ⟨g0, i * 10 + 9, none⟩ = some (.int .u64 (x.before.toNat : Int)) := hc 9 (by omega)
  have hiI : (i : Int) < (m : Int) := by omega
  have hi0 : (0 : Int) ≤ (i : Int) := by omega
  have hin : ¬ (i : Int) < 0 := by omega
  have Ka := World.grownBy_alloc w2 (.cells x.arr 230) none
  have c1a := Ka.cell c1 (by simp)
  have f0a := Ka.cell f0 (by simp)
  have f2a := Ka.cell f2 (by simp)
  have d7a := Ka.cell d7 (by simp)
  have h7f : (w2.alloc (.cells x.arr 230)).frozen? ⟨g0, i * 10 + 7, none⟩ = false := own_frozen (hbk.alloc _) _
  have hg0lt := (hD.book.lt g0 rfl).2
  have hne1 : pb ≠ g0 := fun e => hD.bne (by rw [e]; rfl)
  have hs2 := G2.size
  have hrowA := hbk.alloc (.cells x.arr 230)
  have hrow7 := own_set hrowA (i * 10 + 7) (.int .i64 (x.number + 1))
  have hlen : (reCells es).length = m * 10 := by rw [reCells_length, hm.out]
  have far : ∀ (W : World) (j : Nat) (u : Value) (b o : Nat) (y : Option Value), b ≠ g0 → W.cell? ⟨b, o, none⟩ = y → (W.setCell ⟨g0, j, none⟩ u).cell? ⟨b, o, none⟩ = y := fun W j u b o y hb hy => by
    rw [show (W.setCell ⟨g0, j, none⟩ u).cell? ⟨b, o, none⟩ = W.cell? ⟨b, o, none⟩ from by simp [World.cell?, Below.heap_setCell W ⟨g0, j, none⟩ u b hb]]; exact hy
  have z1 := far _ (i * 10 + 7) (.int .i64 (x.number + 1)) pb 1 _ hne1 c1a
  have z2 := far _ (i * 10 + 7) (.int .i64 (x.number + 1)) w.heap.size 2 _ (by omega) f2a
  have z8 : ((w2.alloc (.cells x.arr 230)).setCell ⟨g0, i * 10 + 7, none⟩ (.int .i64 (x.number + 1))).cell? ⟨w2.heap.size, 8, none⟩ = some (.int .u64 (x.key.toNat : Int)) := far _ _ _ _ _ _ (by omega) (by rw [World.cell?_alloc_at (hn := rfl)]; rfl)
  have e8 : ((w2.alloc (.cells x.arr 230)).setCell ⟨g0, i * 10 + 7, none⟩ (.int .i64 (x.number + 1))).cell? ⟨g0, i * 10 + 8, none⟩ = some (.int .u64 (x.key.toNat : Int)) := by
    rw [hrow7.cellAt (i * 10 + 8) (by omega), List.getElem?_set_ne (by omega), reCells_get es i 8 him' (by omega), ← HX.out]; rfl
  have e9 : ((w2.alloc (.cells x.arr 230)).setCell ⟨g0, i * 10 + 7, none⟩ (.int .i64 (x.number + 1))).cell? ⟨g0, i * 10 + 9, none⟩ = some (.int .u64 (x.before.toNat : Int)) := by
    rw [hrow7.cellAt (i * 10 + 9) (by omega), List.getElem?_set_ne (by omega), reCells_get es i 9 him' (by omega), ← HX.out]; rfl
  have e8f := own_frozen hrow7 (i * 10 + 8)
  have e9f := own_frozen hrow7 (i * 10 + 9)
  have hrow8 := own_set hrow7 (i * 10 + 8) (.int .u64 (key.toNat : Int))
  have hrow9 := own_set hrow8 (i * 10 + 9) (.int .u64 (x.key.toNat : Int))
  have hdn : dv.ownBlock ≠ some g0 := fun e => by
    rcases hD.apart with h | h
    · cases h
    · exact h (by rw [e]; rfl)
  have hset : (((reCells es).set (i * 10 + 7) (.int .i64 (x.number + 1))).set (i * 10 + 8) (.int .u64 (key.toNat : Int))).set (i * 10 + 9) (.int .u64 (x.key.toNat : Int)) = reCells (es.set i (es[i].rekeyed key)) := by
    rw [HX.out]
    exact reCells_rekey key es i him'
  rw [hset] at hrow9
  have RD : ∃ W3, W3 = ((((w2.alloc (.cells x.arr 230)).setCell ⟨g0, i * 10 + 7, none⟩ (.int .i64 (x.number + 1))).setCell ⟨g0, i * 10 + 8, none⟩ (.int .u64 (key.toNat : Int))).setCell ⟨g0, i * 10 + 9, none⟩ (.int .u64 (x.key.toNat : Int))) ∧ RDesk W3 base pb skew (.slice (some ⟨g0, 0, none⟩) m cb) pv dv (es.set i (es[i].rekeyed key)) ds ∧ Frm w W3 (fun g => g = g0) := by
    refine ⟨_, rfl, ⟨(((hD2.blk.alloc _).other _ _ hne1).other _ _ hne1).other _ _ hne1, by rw [List.length_set, hm.out]; exact hrow9, ownsRow_setCell_other (ownsRow_setCell_other (ownsRow_setCell_other (hD2.draws.alloc _) hdn _) hdn _) hdn _, hD.here, hD.bne, hD.dne, hD.apart⟩, ⟨G2.os, G2.tape, G2.output, by simp only [World.size_setCell, World.size_alloc]; omega, fun g hg hne => ?_⟩⟩
    rw [Below.heap_setCell _ _ _ _ hne, Below.heap_setCell _ _ _ _ hne, Below.heap_setCell _ _ _ _ hne, Below.heap_alloc w2 _ g (by omega), G2.block g hg (by simp)]
  obtain ⟨W3, hW3, RD1, RD2⟩ := RD
  have HW3 := hid hW3
  have HRD : Hid (RDesk W3.drew.drew base pb skew (.slice (some ⟨g0, 0, none⟩) m cb) pv dv (es.set i (es[i].rekeyed key)) ds ∧ Frm w W3.drew.drew (fun g => g = g0)) := ⟨⟨RD1.blk.drew.drew, RD1.book, RD1.draws, RD1.here, RD1.bne, RD1.dne, RD1.apart⟩, ⟨RD2.os, RD2.tape, RD2.output, RD2.size, RD2.block⟩⟩
  clear hW3 RD1 RD2 hset
  clear hc hrow7 hrow8 hrow9 hrowA far
  go_wp2_with fail
  go_region
  go_wp2_with fail
  go_region
  all_goals
    go_wp2
    go_ret
    refine ⟨rfl, ?_⟩
    have h := HRD.out
    rw [HW3.out] at h
    exact h
end Go.Proofs.YtbanfbpfapjfcaaGreatDoor
namespace Go.Proofs.YtbanfbpfapjfcaaGreatDoor
open Go.RowKit
set_option maxRecDepth 100000

/-- The entry with a new policy. -/
def RE.repol (x : RE) (a : Adm) : RE := ⟨a.kind, a.name, a.key, a.life, a.renew, a.expire, a.flags, x.number, x.key, x.before⟩
theorem reCells_repol (a : Adm) : ∀ (es : List RE) (i : Nat) (hi : i < es.length), ((((((((reCells es).set (i * 10) (.int .i64 a.kind)).set (i * 10 + 1) (.string ⟨a.name.toArray⟩)).set (i * 10 + 2) (.int .u64 (a.key.toNat : Int))).set (i * 10 + 3) (.int .i64 a.life)).set (i * 10 + 4) (.int .i64 a.renew)).set (i * 10 + 5) (.int .i64 a.expire)).set (i * 10 + 6) (.int .i64 a.flags)) = reCells (es.set i (es[i].repol a)) := by
  intro es
  induction es with
  | nil => intro i hi; simp at hi
  | cons y es ih =>
    intro i hi
    cases i with
    | zero =>
      rw [reCells_cons]
      simp only [Nat.zero_mul, Nat.zero_add]
      rw [set_left _ _ 0 _ (by rw [RE.cells_length]; omega), set_left _ _ 1 _ (by simp only [List.length_set, RE.cells_length]; omega), set_left _ _ 2 _ (by simp only [List.length_set, RE.cells_length]; omega), set_left _ _ 3 _ (by simp only [List.length_set, RE.cells_length]; omega), set_left _ _ 4 _ (by simp only [List.length_set, RE.cells_length]; omega), set_left _ _ 5 _ (by simp only [List.length_set, RE.cells_length]; omega), set_left _ _ 6 _ (by simp only [List.length_set, RE.cells_length]; omega)]
      show _ = reCells (y.repol a :: es)
      rw [reCells_cons]
      rfl
    | succ i =>
      have h := ih i (by simpa using hi)
      rw [reCells_cons, show (i + 1) * 10 + 1 = y.cells.length + (i * 10 + 1) from by rw [RE.cells_length]; omega, show (i + 1) * 10 + 2 = y.cells.length + (i * 10 + 2) from by rw [RE.cells_length]; omega, show (i + 1) * 10 + 3 = y.cells.length + (i * 10 + 3) from by rw [RE.cells_length]; omega, show (i + 1) * 10 + 4 = y.cells.length + (i * 10 + 4) from by rw [RE.cells_length]; omega, show (i + 1) * 10 + 5 = y.cells.length + (i * 10 + 5) from by rw [RE.cells_length]; omega, show (i + 1) * 10 + 6 = y.cells.length + (i * 10 + 6) from by rw [RE.cells_length]; omega, show (i + 1) * 10 = y.cells.length + i * 10 from by rw [RE.cells_length]; omega, set_right, set_right, set_right, set_right, set_right, set_right, set_right]
      show _ = reCells (y :: es.set i _)
      rw [reCells_cons]
      exact congrArg _ h

set_option maxHeartbeats 2000000 in
theorem radmin_repol (base pb : Nat) (skew : Int) (g0 cb : Nat) (pv dv : Value) (es : List RE) (ds : List UInt8) (m i : Nat) (a : Adm) (w : World) (hD : RDesk w base pb skew (.slice (some ⟨g0, 0, none⟩) m cb) pv dv es ds) (hm : Hid (es.length = m)) (hml : m ≤ 20) (hak : a.kind = 4) (hfi : findE es a.name = (i : Int)) (him : i < m) (him' : i < es.length) (hpol : a.pol = true) :
    Calls Tryz.prog 76 #[.pointer (some ⟨pb, 0, none⟩), .agg a.cells] w fun r w' => r = .returned (.int .i64 0) ∧ RDesk w' base pb skew (.slice (some ⟨g0, 0, none⟩) m cb) pv dv (es.set i (es[i].repol a)) ds ∧ Frm w w' (fun g => g = g0) := by
  have hrp := fun w => rpolicy_any a w
  have hF := fun w hx => rfind_any base pb skew (.slice (some ⟨g0, 0, none⟩) m cb) pv dv es ds a.name m ⟨a.name.toArray⟩ w hx hm (by omega) (hid rfl)
  rw [hfi] at hF
  rw [hpol] at hrp
  clear hpol
  obtain ⟨ak, an, key, life, renew, expire, flags⟩ := a
  obtain rfl : ak = 4 := hak
  simp only [Adm.cells] at hrp hF ⊢
  have G0 : w.grownBy (w.alloc (.cells #[.int .i64 4, .string ⟨an.toArray⟩, .int .u64 (key.toNat : Int), .int .i64 life, .int .i64 renew, .int .i64 expire, .int .i64 flags] 61)) none := World.grownBy_alloc w _ none
  have hB0 := Blk.new w #[.int .i64 4, .string ⟨an.toArray⟩, .int .u64 (key.toNat : Int), .int .i64 life, .int .i64 renew, .int .i64 expire, .int .i64 flags] 61
  have hF0 := hF _ (hD.grown G0)
  clear hF hfi
  go_enter Tryz.func76, Tryz.ntmps76
  go_wp2_with fail
  refine hF0.mono ?_
  rintro e w1 ⟨rfl, hg1⟩
  have hB1 := hB0.grown hg1 (by simp)
  have G1 := gb_trans G0 hg1
  have f0 := hB1.cell 0
  have f1 := hB1.cell 1
  have f2 := hB1.cell 2
  have f3 := hB1.cell 3
  have f4 := hB1.cell 4
  have f5 := hB1.cell 5
  have f6 := hB1.cell 6
  simp only [List.getElem?_toArray, List.getElem?_cons_zero, List.getElem?_cons_succ] at f0 f1 f2 f3 f4 f5 f6
  clear hF0 hg1
  go_wp2_with fail
  refine (hrp _).mono ?_
  rintro e w2 ⟨rfl, hg2⟩
  have hB2 := hB1.grown hg2 (by simp)
  have G2 := gb_trans G1 hg2
  have hD2 := hD.grown G2
  clear f0 f1 f2 f3 f4 f5 f6 hrp hg2 hB1
  have f0 := hB2.cell 0
  have f1 := hB2.cell 1
  have f2 := hB2.cell 2
  have f3 := hB2.cell 3
  have f4 := hB2.cell 4
  have f5 := hB2.cell 5
  have f6 := hB2.cell 6
  have c1 := hD2.blk.cell 1
  simp only [List.getElem?_toArray, List.getElem?_cons_zero, List.getElem?_cons_succ] at f0 f1 f2 f3 f4 f5 f6 c1
  have hbk := hD2.book
  rw [hm.out] at hbk
  have hc : ∀ j, j < 10 → w2.cell? ⟨g0, i * 10 + j, none⟩ = (es[i]).cells[j]? := fun j hj => by
    rw [hbk.cellAt (i * 10 + j) (by omega), reCells_get es i j him' hj]
  obtain ⟨x, hx⟩ : ∃ x, x = es[i] := ⟨_, rfl⟩
  have HX := hid hx
  rw [← hx] at hc
  clear hx
  have d0 : w2.cell? ⟨g0, i * 10, none⟩ = some (.int .i64 x.k) := hc 0 (by omega)
  have d1 : w2.cell? ⟨g0, i * 10 + 1, none⟩ = some (.string ⟨x.name.toArray⟩) := hc 1 (by omega)
  have d2 : w2.cell? ⟨g0, i * 10 + 2, none⟩ = some (.int .u64 (x.akey.toNat : Int)) := hc 2 (by omega)
  have d3 : w2.cell? ⟨g0, i * 10 + 3, none⟩ = some (.int .i64 x.life) := hc 3 (by omega)
  have d4 : w2.cell? ⟨g0, i * 10 + 4, none⟩ = some (.int .i64 x.renew) := hc 4 (by omega)
  have d5 : w2.cell? ⟨g0, i * 10 + 5, none⟩ = some (.int .i64 x.expire) := hc 5 (by omega)
  have d6 : w2.cell? ⟨g0, i * 10 + 6, none⟩ = some (.int .i64 x.flags) := hc 6 (by omega)
  have d7 : w2.cell? ⟨g0, i * 10 + 7, none⟩ = some (.int .i64 x.number) := hc 7 (by omega)
  have d8 : w2.cell? ⟨g0, i * 10 + 8, none⟩ = some (.int .u64 (x.key.toNat : Int)) := hc 8 (by omega)
  have d9 : w2.cell? ⟨g0, i * 10 + 9, none⟩ = some (.int .u64 (x.before.toNat : Int)) := hc 9 (by omega)
  have hiI : (i : Int) < (m : Int) := by omega
  have hi0 : (0 : Int) ≤ (i : Int) := by omega
  have hin : ¬ (i : Int) < 0 := by omega
  have Ka := World.grownBy_alloc w2 (.cells x.arr 230) none
  have c1a := Ka.cell c1 (by simp)
  have f0a := Ka.cell f0 (by simp)
  have f1a := Ka.cell f1 (by simp)
  have f2a := Ka.cell f2 (by simp)
  have f3a := Ka.cell f3 (by simp)
  have f4a := Ka.cell f4 (by simp)
  have f5a := Ka.cell f5 (by simp)
  have f6a := Ka.cell f6 (by simp)
  have d0a := Ka.cell d0 (by simp)
  have d1a := Ka.cell d1 (by simp)
  have d2a := Ka.cell d2 (by simp)
  have d3a := Ka.cell d3 (by simp)
  have d4a := Ka.cell d4 (by simp)
  have d5a := Ka.cell d5 (by simp)
  have d6a := Ka.cell d6 (by simp)
  have hff := fun j => own_frozen (hbk.alloc (.cells x.arr 230)) j
  have h0f := hff (i * 10)
  have h1f := hff (i * 10 + 1)
  have h2f := hff (i * 10 + 2)
  have h3f := hff (i * 10 + 3)
  have h4f := hff (i * 10 + 4)
  have h5f := hff (i * 10 + 5)
  have h6f := hff (i * 10 + 6)
  have hg0lt := (hD.book.lt g0 rfl).2
  have hne1 : pb ≠ g0 := fun e => hD.bne (by rw [e]; rfl)
  have hs2 := G2.size
  have hr0 := own_set (hbk.alloc (.cells x.arr 230)) (i * 10) (.int .i64 4)
  have hr1 := own_set hr0 (i * 10 + 1) (.string ⟨an.toArray⟩)
  have hr2 := own_set hr1 (i * 10 + 2) (.int .u64 (key.toNat : Int))
  have hr3 := own_set hr2 (i * 10 + 3) (.int .i64 life)
  have hr4 := own_set hr3 (i * 10 + 4) (.int .i64 renew)
  have hr5 := own_set hr4 (i * 10 + 5) (.int .i64 expire)
  have hr6 := own_set hr5 (i * 10 + 6) (.int .i64 flags)
  have hdn : dv.ownBlock ≠ some g0 := fun e => by
    rcases hD.apart with h | h
    · cases h
    · exact h (by rw [e]; rfl)
  rw [reCells_repol ⟨4, an, key, life, renew, expire, flags⟩ es i him'] at hr6
  have RD : ∃ W3, W3 = ((((((((w2.alloc (.cells x.arr 230)).setCell ⟨g0, i * 10, none⟩ (.int .i64 4)).setCell ⟨g0, i * 10 + 1, none⟩ (.string ⟨an.toArray⟩)).setCell ⟨g0, i * 10 + 2, none⟩ (.int .u64 (key.toNat : Int))).setCell ⟨g0, i * 10 + 3, none⟩ (.int .i64 life)).setCell ⟨g0, i * 10 + 4, none⟩ (.int .i64 renew)).setCell ⟨g0, i * 10 + 5, none⟩ (.int .i64 expire)).setCell ⟨g0, i * 10 + 6, none⟩ (.int .i64 flags)) ∧ RDesk W3 base pb skew (.slice (some ⟨g0, 0, none⟩) m cb) pv dv (es.set i (es[i].repol ⟨4, an, key, life, renew, expire, flags⟩)) ds ∧ Frm w W3 (fun g => g = g0) := by
    refine ⟨_, rfl, ⟨((((((((hD2.blk.alloc _).other _ _ hne1).other _ _ hne1).other _ _ hne1).other _ _ hne1).other _ _ hne1).other _ _ hne1).other _ _ hne1), by rw [List.length_set, hm.out]; exact hr6, (ownsRow_setCell_other (ownsRow_setCell_other (ownsRow_setCell_other (ownsRow_setCell_other (ownsRow_setCell_other (ownsRow_setCell_other (ownsRow_setCell_other (hD2.draws.alloc _) hdn _) hdn _) hdn _) hdn _) hdn _) hdn _) hdn _), hD.here, hD.bne, hD.dne, hD.apart⟩, ?_⟩
    iterate 7 refine Frm.set (g := g0) (ex := fun g => g = g0) ?_ (Eq.refl g0) _ _
    exact Frm.of_none (gb_trans G2 Ka) _
  obtain ⟨W3, hW3, RD1, RD2⟩ := RD
  have HW3 := hid hW3
  have HRD : Hid (RDesk W3.drew base pb skew (.slice (some ⟨g0, 0, none⟩) m cb) pv dv (es.set i (es[i].repol ⟨4, an, key, life, renew, expire, flags⟩)) ds ∧ Frm w W3.drew (fun g => g = g0)) := ⟨⟨RD1.blk.drew, RD1.book, RD1.draws, RD1.here, RD1.bne, RD1.dne, RD1.apart⟩, ⟨RD2.os, RD2.tape, RD2.output, RD2.size, RD2.block⟩⟩
  clear hW3 RD1 RD2 hc hr0 hr1 hr2 hr3 hr4 hr5 hr6 hff
  go_wp2_with fail
  go_region
  all_goals
    go_wp2
    go_ret
    refine ⟨rfl, ?_⟩
    have h := HRD.out
    rw [HW3.out] at h
    exact h
end Go.Proofs.YtbanfbpfapjfcaaGreatDoor
