/-
  Contracts of the document's Admin where it deletes, and where a policy is wrong. Conditions: in the statement.
  Contract of the law's sameState at two states that say the same. Conditions: in the statement.
  The document's list of entries says the same as the model's. Conditions: in each statement.
  The document's desk, whole: what lies where, and the contract of its Admin at every step, in the words of the model. Conditions: in each statement.
-/
import Derived.Test.YtbanfbpfapjfcaaGreatDoorGDeskI
import Derived.Test.YtbanfbpfapjfcaaGreatDoorGSep
namespace Go.Proofs.YtbanfbpfapjfcaaGreatDoor
open Go.RowKit
set_option maxRecDepth 100000

set_option maxHeartbeats 2000000 in
theorem radmin_del (base pb : Nat) (skew : Int) (g0 cb : Nat) (pv dv : Value) (es : List RE) (ds : List UInt8) (m i : Nat) (a : Adm) (w : World) (hD : RDesk w base pb skew (.slice (some ⟨g0, 0, none⟩) m cb) pv dv es ds) (hm : Hid (es.length = m)) (hml : m ≤ 20) (hak : a.kind = 2) (hfi : findE es a.name = (i : Int)) (him : i < m) (him' : i < es.length) (hbase : base ≤ w.heap.size) :
    Calls Tryz.prog 76 #[.pointer (some ⟨pb, 0, none⟩), .agg a.cells] w fun r w' => r = .returned (.int .i64 0) ∧ ∃ bv', RDesk w' base pb skew bv' pv dv (es.take i ++ es.drop (i + 1)) ds ∧ w.grownBy w' (some pb) ∧ NewAt w.heap.size bv' := by
  obtain ⟨ie, hie, he0, he1, he2⟩ := info_parts Tryz.infoRE
  have hrp := fun w => rpolicy_any a w
  have hF := fun w hx => rfind_any base pb skew (.slice (some ⟨g0, 0, none⟩) m cb) pv dv es ds a.name m ⟨a.name.toArray⟩ w hx hm (by omega) (hid rfl)
  rw [hfi] at hF
  generalize a.pol = pl at hrp
  obtain ⟨ak, an, key, life, renew, expire, flags⟩ := a
  obtain rfl : ak = 2 := hak
  simp only [Adm.cells] at hrp hF ⊢
  have G0 : w.grownBy (w.alloc (.cells #[.int .i64 2, .string ⟨an.toArray⟩, .int .u64 (key.toNat : Int), .int .i64 life, .int .i64 renew, .int .i64 expire, .int .i64 flags] 61)) none := World.grownBy_alloc w _ none
  have hB0 := Blk.new w #[.int .i64 2, .string ⟨an.toArray⟩, .int .u64 (key.toNat : Int), .int .i64 life, .int .i64 renew, .int .i64 expire, .int .i64 flags] 61
  have hF0 := hF _ (hD.grown G0)
  clear hF hfi
  go_enter Tryz.func76, Tryz.ntmps76
  go_wp2_with fail
  refine hF0.mono ?_
  rintro e w1 ⟨rfl, hg1⟩
  have hB1 := hB0.grown hg1 (by simp)
  have G1 := gb_trans G0 hg1
  have f0 := hB1.cell 0
  have f1 := hB1.cell 1
  have f2 := hB1.cell 2
  have f3 := hB1.cell 3
  have f4 := hB1.cell 4
  have f5 := hB1.cell 5
  have f6 := hB1.cell 6
  simp only [List.getElem?_toArray, List.getElem?_cons_zero, List.getElem?_cons_succ] at f0 f1 f2 f3 f4 f5 f6
  clear hF0 hg1
  go_wp2_with fail
  refine (hrp _).mono ?_
  rintro e w2 ⟨rfl, hg2⟩
  have hB2 := hB1.grown hg2 (by simp)
  have G2 := gb_trans G1 hg2
  have hD2 := hD.grown G2
  clear f0 f1 f2 f3 f4 f5 f6 hrp hg2 hB1
  have f0 := hB2.cell 0
  have f2 := hB2.cell 2
  have c1 := hD2.blk.cell 1
  simp only [List.getElem?_toArray, List.getElem?_cons_zero, List.getElem?_cons_succ] at f0 f2 c1
  have hbk := hD2.book
  rw [hm.out] at hbk
  have hc : ∀ j, j < 10 → w2.cell? ⟨g0, i * 10 + j, none⟩ = (es[i]).cells[j]? := fun j hj => by
    rw [hbk.cellAt (i * 10 + j) (by omega), reCells_get es i j him' hj]
  obtain ⟨x, hx⟩ : ∃ x, x = es[i] := ⟨_, rfl⟩
  have HX := hid hx
  rw [← hx] at hc
  clear hx
  have d0 : w2.cell? ⟨g0, i * 10, none⟩ = some (.int .i64 x.k) := hc 0 (by omega)
  have d1 : w2.cell? ⟨g0, i * 10 + 1, none⟩ = some (.string ⟨x.name.toArray⟩) := hc 1 (by omega)
  have d2 : w2.cell? ⟨g0, i * 10 + 2, none⟩ = some (.int .u64 (x.akey.toNat : Int)) := hc 2 (by omega)
  have d3 : w2.cell? ⟨g0, i * 10 + 3, none⟩ = some (.int .i64 x.life) := hc 3 (by omega)
  have d4 : w2.cell? ⟨g0, i * 10 + 4, none⟩ = some (.int .i64 x.renew) := hc 4 (by omega)
  have d5 : w2.cell? ⟨g0, i * 10 + 5, none⟩ = some (.int .i64 x.expire) := hc 5 (by omega)
  have d6 : w2.cell? ⟨g0, i * 10 + 6, none⟩ = some (.int .i64 x.flags) := hc 6 (by omega)
  have d7 : w2.cell? ⟨g0, i * 10 + 7, none⟩ = some (.int .i64 x.number) := hc 7 (by omega)
  have d8 : w2.cell? ⟨g0, i * 10 + 8, none⟩ = some (.int .u64 (x.key.toNat : Int)) := hc 8 (by omega)
  have d9 : w2.cell? ⟨g0, i * 10 + 9, none⟩ = some (.int .u64 (x.before.toNat : Int)) := hc 9 (by omega)
  have hiI : (i : Int) < (m : Int) := by omega
  have hi0 : (0 : Int) ≤ (i : Int) := by omega
  have hin : ¬ (i : Int) < 0 := by omega
  have Ka := World.grownBy_alloc w2 (.cells x.arr 230) none
  have c1a := Ka.cell c1 (by simp)
  have f0a := Ka.cell f0 (by simp)
  have Gx := gb_trans G2 Ka
  have hpb := hD.blk.lt
  have hg0lt := (hD.book.lt g0 rfl).2
  have hs2 := G2.size
  have hDx := hD.grown Gx
  have hbkx := hDx.book
  rw [hm.out] at hbkx
  have hcatx := own_cat hbkx
  have hcap := own_cap hbkx
  have HLe : Hid ((reCells es).length = m * 10) := by show _ = _; rw [reCells_length, hm.out]
  have hto := fun w => srow_to (P := Tryz.prog) 221 230 ie 10 Tryz.underlying221 hie he1 (some ⟨g0, 0, none⟩) m cb i (i : Int) rfl (by omega) w
  obtain ⟨af, hfrom, hcatf, hncf⟩ := srow_from (P := Tryz.prog) 221 230 ie 10 Tryz.underlying221 hie he1 (some ⟨g0, 0, none⟩) m cb (i + 1) ((i : Int) + 1) (by omega) (by omega) hcap.1 HLe.out
  have hsrc1 : CAt (w2.alloc (.cells x.arr 230)) (some ⟨g0, 0, none⟩) (reCells (es.take i)) := by
    rw [← reCells_take es i (by omega)]
    exact hcatx.take _
  have hl1 : (reCells (es.take i)).length = i * 10 := by rw [reCells_length, List.length_take]; congr 1; omega
  have hx1 : (some (⟨g0, 0, none⟩ : Addr)) = none → cb = 0 ∧ i = 0 := fun h => by cases h
  have hx2 : 0 + i ≤ maxLen := by unfold maxLen; omega
  have hx3 : (0 + i) * 88 ≤ 140737488355328 := by omega
  clear hc
  go_wp2_with (at_builtin; refine wpList_append_any _ rfl _ _ 221 rfl (w.heap.size + 1) 230 ie _ 10 88 Tryz.underlying221 hie he0 he1 he2 rfl (by decide) (.slice none 0 0) 0 [] rfl (World.ownsRow_nil _ _ _ _) (some ⟨g0, 0, none⟩) i cb (reCells (es.take i)) rfl hl1 hsrc1 hx1 (reCells_one _) hx2 hx3 ?b1 ?_)
  case b1 => have := hB2.lt; simp; omega
  intro v3 w3 hown3 hg3
  have hg3' : (w2.alloc (.cells x.arr 230)).grownBy w3 none := by simpa [Value.ownBlock] using hg3
  have G3 := gb_trans Gx hg3'
  have hown3' : w3.ownsRow (w.heap.size + 1) 230 10 v3 i (reCells (es.take i)) := by simpa using hown3
  obtain ⟨a3, k3, rfl⟩ := own_shape hown3'
  have hD3 := hD.grown G3
  have c13 := hD3.blk.cell 1
  simp only [List.getElem?_toArray, List.getElem?_cons_zero, List.getElem?_cons_succ] at c13
  have hbk3 := hD3.book
  rw [hm.out] at hbk3
  have hsrc3 := hcatf w3 (own_cat hbk3)
  rw [reCells_drop es (i + 1) (by omega)] at hsrc3
  have hl3 : (reCells (es.drop (i + 1))).length = (m - (i + 1)) * 10 := by rw [reCells_length, List.length_drop, hm.out]
  have hz1' : af = none → cb - (i + 1) = 0 ∧ m - (i + 1) = 0 := fun h => ⟨hncf (fun h => by cases h) h, by have := hncf (fun h => by cases h) h; omega⟩
  have hz2' : i + (m - (i + 1)) ≤ maxLen := by unfold maxLen; omega
  have hz3' : (i + (m - (i + 1))) * 88 ≤ 140737488355328 := by omega
  have hs3 : w.heap.size + 1 ≤ w3.heap.size := by have h1 := hg3'.size; have h2 := hB2.lt; simp at h1; omega
  have hne3 : ∀ g, g < w.heap.size + 1 → some g ≠ (Value.slice a3 i k3).ownBlock := fun g hg e => by have := (hown3'.lt g e.symm).1; omega
  clear hown3 hg3 hsrc1 hx1 hto hcatx hbkx hcatf
  go_wp2_with (at_builtin; refine wpList_append_any _ rfl _ _ 221 rfl (w.heap.size + 1) 230 ie _ 10 88 Tryz.underlying221 hie he0 he1 he2 rfl (by decide) (.slice a3 i k3) i (reCells (es.take i)) rfl hown3' af (m - (i + 1)) (cb - (i + 1)) (reCells (es.drop (i + 1))) rfl hl3 hsrc3 hz1' (reCells_one _) hz2' hz3' hs3 ?_)
  intro v4 w4 hown4 hg4
  obtain ⟨a4, k4, rfl⟩ := own_shape hown4
  have hB4 := hD3.blk.grown hg4 (hne3 _ (by omega))
  have c14 := hB4.cell 1
  have c14f := hB4.frozen 1
  simp only [List.getElem?_toArray, List.getElem?_cons_zero, List.getElem?_cons_succ] at c14
  have keep4 : ∀ g, g < w.heap.size → w4.heap[g]? = w.heap[g]? := fun g hg => by
    rw [hg4.block g (by omega) (hne3 g (by omega)), G3.block g hg (by simp)]
  have hs4 := hg4.size
  have hlen : (es.take i ++ es.drop (i + 1)).length = i + (m - (i + 1)) := by simp [hm.out]; omega
  have hrow : w4.ownsRow (w.heap.size + 1) 230 10 (.slice a4 (i + (m - (i + 1))) k4) (i + (m - (i + 1))) (reCells (es.take i ++ es.drop (i + 1))) := by
    rw [reCells_append]
    exact hown4
  have GB : w.grownBy (w4.setCell ⟨pb, 1, none⟩ (.slice a4 (i + (m - (i + 1))) k4)) (some pb) :=
    ⟨hg4.os.trans G3.os, hg4.tape.trans G3.tape, hg4.output.trans G3.output, by rw [World.size_setCell]; omega, fun g hg hr => (Below.heap_setCell w4 _ _ g (by show g ≠ pb; intro e; exact hr (by rw [e]))).trans (keep4 g hg)⟩
  have RD : RDesk (w4.setCell ⟨pb, 1, none⟩ (.slice a4 (i + (m - (i + 1))) k4)) base pb skew (.slice a4 (i + (m - (i + 1))) k4) pv dv (es.take i ++ es.drop (i + 1)) ds := by
    refine ⟨by simpa using hB4.set 1 (.slice a4 (i + (m - (i + 1))) k4), ?_, hD.draws.kept GB (.inr hD.dne), hD.here, fun h => by have := (hrow.lt _ h).1; omega, hD.dne, ?_⟩
    · rw [hlen]
      exact own_down (ownsRow_setCell_below hrow (by show pb < w.heap.size + 1; omega) _) (by omega)
    · cases hx : (Value.slice a4 (i + (m - (i + 1))) k4).ownBlock with
      | none => exact .inl rfl
      | some g =>
        refine .inr (fun e => ?_)
        have h1 := (hrow.lt g hx).1
        have h2 := (hD.draws.lt g e.symm).2
        omega
  have NA : NewAt w.heap.size (.slice a4 (i + (m - (i + 1))) k4) := fun g h => by have := (hrow.lt g h).1; omega
  have HR := hid (And.intro RD GB)
  clear hD hD2 hD3 hDx hrow hB4 keep4 RD GB hown4 hown3' hg4 hsrc3 hbk3
  go_wp2
  go_ret
  exact ⟨rfl, _, HR.out.1, HR.out.2, NA⟩

set_option maxHeartbeats 2000000 in
theorem radmin_wrong (base pb : Nat) (skew : Int) (g0 cb : Nat) (pv dv : Value) (es : List RE) (ds : List UInt8) (m i : Nat) (a : Adm) (w : World) (hD : RDesk w base pb skew (.slice (some ⟨g0, 0, none⟩) m cb) pv dv es ds) (hm : Hid (es.length = m)) (hml : m ≤ 20) (hak : a.kind = 4) (hfi : findE es a.name = (i : Int)) (him : i < m) (him' : i < es.length) (hpol : a.pol = false) :
    Calls Tryz.prog 76 #[.pointer (some ⟨pb, 0, none⟩), .agg a.cells] w fun r w' => r = .returned (.int .i64 1) ∧ w.grownBy w' none := by
  have hrp := fun w => rpolicy_any a w
  have hF := fun w hx => rfind_any base pb skew (.slice (some ⟨g0, 0, none⟩) m cb) pv dv es ds a.name m ⟨a.name.toArray⟩ w hx hm (by omega) (hid rfl)
  rw [hfi] at hF
  rw [hpol] at hrp
  clear hpol
  obtain ⟨ak, an, key, life, renew, expire, flags⟩ := a
  obtain rfl : ak = 4 := hak
  simp only [Adm.cells] at hrp hF ⊢
  have G0 : w.grownBy (w.alloc (.cells #[.int .i64 4, .string ⟨an.toArray⟩, .int .u64 (key.toNat : Int), .int .i64 life, .int .i64 renew, .int .i64 expire, .int .i64 flags] 61)) none := World.grownBy_alloc w _ none
  have hB0 := Blk.new w #[.int .i64 4, .string ⟨an.toArray⟩, .int .u64 (key.toNat : Int), .int .i64 life, .int .i64 renew, .int .i64 expire, .int .i64 flags] 61
  have hF0 := hF _ (hD.grown G0)
  clear hF hfi
  go_enter Tryz.func76, Tryz.ntmps76
  go_wp2_with fail
  refine hF0.mono ?_
  rintro e w1 ⟨rfl, hg1⟩
  have hB1 := hB0.grown hg1 (by simp)
  have G1 := gb_trans G0 hg1
  have f0 := hB1.cell 0
  have f1 := hB1.cell 1
  have f2 := hB1.cell 2
  have f3 := hB1.cell 3
  have f4 := hB1.cell 4
  have f5 := hB1.cell 5
  have f6 := hB1.cell 6
  simp only [List.getElem?_toArray, List.getElem?_cons_zero, List.getElem?_cons_succ] at f0 f1 f2 f3 f4 f5 f6
  clear hF0 hg1
  go_wp2_with fail
  refine (hrp _).mono ?_
  rintro e w2 ⟨rfl, hg2⟩
  have hB2 := hB1.grown hg2 (by simp)
  have G2 := gb_trans G1 hg2
  have hD2 := hD.grown G2
  clear f0 f1 f2 f3 f4 f5 f6 hrp hg2 hB1
  have f0 := hB2.cell 0
  have f1 := hB2.cell 1
  have f2 := hB2.cell 2
  have f3 := hB2.cell 3
  have f4 := hB2.cell 4
  have f5 := hB2.cell 5
  have f6 := hB2.cell 6
  have c1 := hD2.blk.cell 1
  simp only [List.getElem?_toArray, List.getElem?_cons_zero, List.getElem?_cons_succ] at f0 f1 f2 f3 f4 f5 f6 c1
  have hbk := hD2.book
  rw [hm.out] at hbk
  have hc : ∀ j, j < 10 → w2.cell? ⟨g0, i * 10 + j, none⟩ = (es[i]).cells[j]? := fun j hj => by
    rw [hbk.cellAt (i * 10 + j) (by omega), reCells_get es i j him' hj]
  obtain ⟨x, hx⟩ : ∃ x, x = es[i] := ⟨_, rfl⟩
  have HX := hid hx
  rw [← hx] at hc
  clear hx
  have d0 : w2.cell? ⟨g0, i * 10, none⟩ = some (.int .i64 x.k) := hc 0 (by omega)
  have d1 : w2.cell? ⟨g0, i * 10 + 1, none⟩ = some (.string ⟨x.name.toArray⟩) := hc 1 (by omega)
  have d2 : w2.cell? ⟨g0, i * 10 + 2, none⟩ = some (.int .u64 (x.akey.toNat : Int)) := hc 2 (by omega)
  have d3 : w2.cell? ⟨g0, i * 10 + 3, none⟩ = some (.int .i64 x.life) := hc 3 (by omega)
  have d4 : w2.cell? ⟨g0, i * 10 + 4, none⟩ = some (.int .i64 x.renew) := hc 4 (by omega)
  have d5 : w2.cell? ⟨g0, i * 10 + 5, none⟩ = some (.int .i64 x.expire) := hc 5 (by omega)
  have d6 : w2.cell? ⟨g0, i * 10 + 6, none⟩ = some (.int .i64 x.flags) := hc 6 (by omega)
  have d7 : w2.cell? ⟨g0, i * 10 + 7, none⟩ = some (.int .i64 x.number) := hc 7 (by omega)
  have d8 : w2.cell? ⟨g0, i * 10 + 8, none⟩ = some (.int .u64 (x.key.toNat : Int)) := hc 8 (by omega)
  have d9 : w2.cell? ⟨g0, i * 10 + 9, none⟩ = some (.int .u64 (x.before.toNat : Int)) := hc 9 (by omega)
  have hiI : (i : Int) < (m : Int) := by omega
  have hi0 : (0 : Int) ≤ (i : Int) := by omega
  have hin : ¬ (i : Int) < 0 := by omega
  have Ka := World.grownBy_alloc w2 (.cells x.arr 230) none
  have f0a := Ka.cell f0 (by simp)
  have Gx := gb_trans G2 Ka
  clear hc
  go_wp2
  go_ret
  exact ⟨rfl, Gx⟩
end Go.Proofs.YtbanfbpfapjfcaaGreatDoor
namespace Go.Proofs.YtbanfbpfapjfcaaGreatDoor
open Go.RowKit
set_option maxRecDepth 100000

set_option maxHeartbeats 1000000 in
theorem sameState_any (ss : List (List UInt8)) (us : List Int) (n : Nat) (a1 a2 b1 b2 : Option Addr) (ca1 ca2 cb1 cb2 : Nat) (r l : Int) (w : World) (hs : Hid (ss.length = n)) (hu : Hid (us.length = n)) (hl : n ≤ 1000000)
    (h1 : CAt w a1 (ss.map fun l => .string ⟨l.toArray⟩)) (h2 : CAt w b1 (ss.map fun l => .string ⟨l.toArray⟩)) (h3 : CAt w a2 (us.map fun x => .int .i64 x)) (h4 : CAt w b2 (us.map fun x => .int .i64 x)) :
    Calls Tryz.prog 81 #[.agg #[.slice a1 n ca1, .slice a2 n ca2, .int .i64 r, .int .i64 l], .agg #[.slice b1 n cb1, .slice b2 n cb2, .int .i64 r, .int .i64 l]] w fun e w' => e = .returned (.bool true) ∧ w.grownBy w' none := by
  have G0 : w.grownBy ((w.alloc (.cells #[.slice a1 n ca1, .slice a2 n ca2, .int .i64 r, .int .i64 l] 53)).alloc (.cells #[.slice b1 n cb1, .slice b2 n cb2, .int .i64 r, .int .i64 l] 53)) none := gb_alloc (World.grownBy_alloc w _ none) _
  have hA := (Blk.new w #[.slice a1 n ca1, .slice a2 n ca2, .int .i64 r, .int .i64 l] 53).alloc (.cells #[.slice b1 n cb1, .slice b2 n cb2, .int .i64 r, .int .i64 l] 53)
  have hB := Blk.new (w.alloc (.cells #[.slice a1 n ca1, .slice a2 n ca2, .int .i64 r, .int .i64 l] 53)) #[.slice b1 n cb1, .slice b2 n cb2, .int .i64 r, .int .i64 l] 53
  rw [World.size_alloc] at hB
  have hS := sameStrings_any ss n a1 b1 ca1 cb1 _ hs hl (h1.below G0) (h2.below G0)
  go_enter Tryz.func81, Tryz.ntmps81
  go_wp2_with fail
  refine hS.mono ?_
  rintro e w1 ⟨rfl, hg1⟩
  have G1 := gb_trans G0 hg1
  have hA1 := hA.grown hg1 (by simp)
  have hB1 := hB.grown hg1 (by simp)
  have x1 := hA1.cell 1
  have y1 := hB1.cell 1
  simp only [List.getElem?_toArray, List.getElem?_cons_zero, List.getElem?_cons_succ] at x1 y1
  have hI := sameInts_any us n a2 b2 ca2 cb2 w1 hu hl (h3.below G1) (h4.below G1)
  clear hS hg1 hA hB
  go_wp2_with fail
  refine hI.mono ?_
  rintro e w2 ⟨rfl, hg2⟩
  have G2 := gb_trans G1 hg2
  have hA2 := hA1.grown hg2 (by simp)
  have hB2 := hB1.grown hg2 (by simp)
  have x2 := hA2.cell 2
  have y2 := hB2.cell 2
  have x3 := hA2.cell 3
  have y3 := hB2.cell 3
  simp only [List.getElem?_toArray, List.getElem?_cons_zero, List.getElem?_cons_succ] at x2 y2 x3 y3
  clear hI hg2 hA1 hB1 h1 h2 h3 h4
  go_wp2
  go_ret
  exact ⟨rfl, G2⟩
end Go.Proofs.YtbanfbpfapjfcaaGreatDoor
namespace Go.Proofs.YtbanfbpfapjfcaaGreatDoor
open Go.RowKit
set_option maxRecDepth 100000

def RE.be (e : RE) : BE := ⟨e.name, e.number, e.key, e.before, e.life, e.renew, e.expire, e.flags⟩

theorem be_at (es : List RE) (l : List UInt8) : BE.at? (es.map RE.be) l = es.findIdx? (fun e => e.name == l) := by
  rw [BE.at?, List.findIdx?_map]
  rfl
theorem be_ins (es : List RE) (l : List UInt8) : BE.ins (es.map RE.be) l = insAt es l := by
  induction es with
  | nil => rfl
  | cons e es ih => simp only [List.map_cons, BE.ins, insAt, ih]; rfl

end Go.Proofs.YtbanfbpfapjfcaaGreatDoor
namespace Go.Proofs.YtbanfbpfapjfcaaGreatDoor
open Go.RowKit
set_option maxRecDepth 100000

def PF.cells (p : PF) : List Value := [.string ⟨p.client.toArray⟩, .int .i64 p.time, .int .i64 p.count]
def rpfCells (l : List PF) : List Value := (l.map PF.cells).flatten

/-- What lies where, of the document's desk. -/
structure RG where
  bv : Value
  pv : Value
  dv : Value
  es : List RE
/-- The blocks of the desk at yb. -/
def RG.foot (g : RG) (yb b : Nat) : Prop := b = yb ∨ g.bv.ownBlock = some b ∨ g.pv.ownBlock = some b ∨ g.dv.ownBlock = some b
/-- The document's desk lies at yb, and is the model's. -/
structure RD (w : World) (base yb : Nat) (M : DM) (g : RG) : Prop where
  desk : RDesk w base yb M.skew g.bv g.pv g.dv g.es M.draws
  book : g.es.map RE.be = M.book
  proofs : w.ownsRow base 374 3 g.pv M.proofs.length (rpfCells M.proofs)
  pne : g.pv.ownBlock ≠ some yb
  pb : g.pv.ownBlock = none ∨ g.pv.ownBlock ≠ g.bv.ownBlock
  pd : g.pv.ownBlock = none ∨ g.pv.ownBlock ≠ g.dv.ownBlock
theorem RDesk.keep {w w' : World} {base pb : Nat} {skew : Int} {bv pv dv : Value} {es : List RE} {ds : List UInt8} (h : RDesk w base pb skew bv pv dv es ds) (k : ∀ b, b = pb ∨ bv.ownBlock = some b ∨ dv.ownBlock = some b → w'.heap[b]? = w.heap[b]?) : RDesk w' base pb skew bv pv dv es ds :=
  ⟨h.blk.kept (k _ (.inl rfl)), own_keep h.book (fun b hb => k b (.inr (.inl hb))), own_keep h.draws (fun b hb => k b (.inr (.inr hb))), h.here, h.bne, h.dne, h.apart⟩
theorem RD.keep {w w' : World} {base yb : Nat} {M : DM} {g : RG} (h : RD w base yb M g) (k : ∀ b, g.foot yb b → w'.heap[b]? = w.heap[b]?) : RD w' base yb M g :=
  ⟨h.desk.keep (fun b hb => k b (by rcases hb with e | e | e; exact .inl e; exact .inr (.inl e); exact .inr (.inr (.inr e)))), h.book, own_keep h.proofs (fun b hb => k b (.inr (.inr (.inl hb)))), h.pne, h.pb, h.pd⟩
theorem RD.lt {w : World} {base yb : Nat} {M : DM} {g : RG} (h : RD w base yb M g) (b : Nat) (hb : g.foot yb b) : base ≤ b ∧ b < w.heap.size := by
  rcases hb with e | e | e | e
  · subst e; exact ⟨h.desk.here, h.desk.blk.lt⟩
  · exact h.desk.book.lt b e
  · exact h.proofs.lt b e
  · exact h.desk.draws.lt b e
theorem RD.down {w : World} {base base' yb : Nat} {M : DM} {g : RG} (h : RD w base yb M g) (hb : base' ≤ base) : RD w base' yb M g :=
  ⟨⟨h.desk.blk, own_base h.desk.book hb, own_base h.desk.draws hb, Nat.le_trans hb h.desk.here, h.desk.bne, h.desk.dne, h.desk.apart⟩, h.book, own_base h.proofs hb, h.pne, h.pb, h.pd⟩

theorem adm_err (es : List RE) (a : Adm) : (admB (es.map RE.be) a).2 = admErr es a := by
  unfold admB admErr
  rw [be_at]
  have hl : (es.map RE.be).length = es.length := List.length_map _
  rw [hl]
  unfold findE
  cases h : es.findIdx? (fun e => e.name == a.name) with
  | none =>
    by_cases k1 : a.kind = 1
    · simp only [k1, if_true]
      repeat' split
      all_goals simp_all
    · simp only [k1, if_false]
      split <;> simp
  | some i =>
    have hi := (List.findIdx?_eq_some_iff_getElem.1 h).1
    by_cases k1 : a.kind = 1
    · simp only [k1, if_true]
      repeat' split
      all_goals simp_all
      all_goals omega
    · simp only [k1, if_false]
      have hx : (es.map RE.be)[i]? = some (es[i].be) := by simp [hi]
      by_cases k2 : a.kind = 2
      · simp [k2]
      · by_cases k3 : a.kind = 3
        · simp [k3, hx]
        · by_cases k4 : a.kind = 4
          · simp only [k4, hx]
            by_cases hp : a.pol = false
            · simp [hp]
            · simp [hp]
          · simp [k2, k3, k4]
theorem adm_same (es : List BE) (a : Adm) (h : (admB es a).2 ≠ 0) : (admB es a).1 = es := by
  unfold admB at h ⊢
  repeat' split
  all_goals simp_all
theorem findE_at (es : List RE) (l : List UInt8) (i : Nat) (h : es.findIdx? (fun e => e.name == l) = some i) : findE es l = (i : Int) := by rw [findE, h]
theorem findE_no (es : List RE) (l : List UInt8) (h : es.findIdx? (fun e => e.name == l) = none) : findE es l = -1 := by rw [findE, h]

/-- What Admin comes to. -/
def RDAfter (base yb : Nat) (M : DM) (g : RG) (a : Adm) (w w' : World) : Prop :=
  ∃ g', RD w' base yb { M with book := (admB M.book a).1 } g' ∧ Frm w w' (g.foot yb) ∧ ∀ b, g'.foot yb b → g.foot yb b ∨ w.heap.size ≤ b

theorem RDAfter.new {base yb : Nat} {M : DM} {g : RG} {a : Adm} {w w' : World} (hD : RD w base yb M g) {bv' : Value} {es' : List RE} (h1 : RDesk w' base yb M.skew bv' g.pv g.dv es' M.draws) (h2 : es'.map RE.be = (admB M.book a).1) (h3 : w.grownBy w' (some yb)) (h4 : NewAt w.heap.size bv') : RDAfter base yb M g a w w' := by
  refine ⟨⟨bv', g.pv, g.dv, es'⟩, ⟨h1, h2, own_keep hD.proofs (fun b hb => h3.block b (hD.proofs.lt b hb).2 (fun e => hD.pne (by rw [hb, e]))), hD.pne, ?_, hD.pd⟩, ⟨h3.os, h3.tape, h3.output, h3.size, fun b hb hx => h3.block b hb (fun e => hx (.inl (by injection e)))⟩, ?_⟩
  · cases hp : g.pv.ownBlock with
    | none => exact .inl rfl
    | some p =>
      refine .inr (fun e => ?_)
      have := h4 p e.symm
      have := (hD.proofs.lt p hp).2
      omega
  · rintro b (e | e | e | e)
    · exact .inl (.inl e)
    · exact .inr (h4 b e)
    · exact .inl (.inr (.inr (.inl e)))
    · exact .inl (.inr (.inr (.inr e)))
theorem RDAfter.inPlace {base yb : Nat} {M : DM} {g : RG} {a : Adm} {w w' : World} (hD : RD w base yb M g) {g0 : Nat} {es' : List RE} (h1 : RDesk w' base yb M.skew g.bv g.pv g.dv es' M.draws) (h2 : es'.map RE.be = (admB M.book a).1) (h3 : Frm w w' fun b => b = g0) (h4 : g.bv.ownBlock = some g0) : RDAfter base yb M g a w w' := by
  refine ⟨⟨g.bv, g.pv, g.dv, es'⟩, ⟨h1, h2, own_keep hD.proofs (fun b hb => h3.block b (hD.proofs.lt b hb).2 (fun e => ?_)), hD.pne, hD.pb, hD.pd⟩, h3.mono (fun b _ e => .inr (.inl (by rw [h4, e]))), fun b hb => .inl hb⟩
  rcases hD.pb with h | h
  · rw [h] at hb; cases hb
  · exact h (by rw [hb, h4, e])
theorem RDAfter.same {base yb : Nat} {M : DM} {g : RG} {a : Adm} {w w' : World} (hD : RD w base yb M g) (h2 : (admB M.book a).1 = M.book) (h3 : w.grownBy w' none) : RDAfter base yb M g a w w' := by
  refine ⟨g, ?_, Frm.of_none h3 _, fun b hb => .inl hb⟩
  rw [h2]
  exact hD.keep (fun b hb => h3.block b (hD.lt b hb).2 (by simp))

theorem rAdmin_any (n base yb : Nat) (M : DM) (g : RG) (a : Adm) (w : World) (hD : RD w base yb M g) (hok : BookOk n M.book) (hn : n < 4611686018427387904) (hna : a.name.length ≤ 9223372036854775807) (hbase : base ≤ w.heap.size) :
    Calls Tryz.prog 76 #[.pointer (some ⟨yb, 0, none⟩), .agg a.cells] w fun r w' => r = .returned (.int .i64 (admB M.book a).2) ∧ RDAfter base yb M g a w w' := by
  obtain ⟨bv, pv, dv, es⟩ := g
  have hb : es.map RE.be = M.book := hD.book
  have hde : RDesk w base yb M.skew bv pv dv es M.draws := hD.desk
  have hlen : es.length ≤ 20 := by rw [← List.length_map (f := RE.be), hb]; exact hok.len
  have herr := adm_err es a
  rw [hb] at herr
  obtain ⟨ab, cb, hbv⟩ := own_shape hde.book
  by_cases hz : admErr es a = 0
  · by_cases k1 : a.kind = 1
    · have hx := hz
      rw [admErr, if_pos k1] at hx
      have q1 : isNameL a.name = true := by cases h : isNameL a.name <;> simp_all
      have q2 : a.pol = true := by cases h : a.pol <;> simp_all
      have q3 : findE es a.name = -1 := by
        rcases findE_bounds es a.name with h | h
        · rw [q1, q2] at hx
          by_cases h5 : 0 ≤ findE es a.name
          · simp [h5] at hx
          · omega
        · exact h
      have q4 : es.length < 20 := by
        rw [q1, q2, q3] at hx
        by_cases h5 : 20 ≤ es.length
        · simp [h5] at hx
        · omega
      have q5 : es.findIdx? (fun e => e.name == a.name) = none := by
        cases h : es.findIdx? (fun e => e.name == a.name) with
        | none => rfl
        | some i => rw [findE_at es a.name i h] at q3; omega
      have hres : (admB M.book a) = ((addE es (newE a)).map RE.be, 0) := by
        rw [← hb, admB, if_pos k1, be_at, q5, q1, q2, List.length_map, be_ins]
        simp only [Bool.true_eq_false, if_false, Option.isSome_none, Bool.false_eq_true, if_neg (show ¬ 20 ≤ es.length by omega)]
        rw [addE]
        simp [newE, BE.new, RE.be, List.map_take, List.map_drop]
      refine (radmin_add base yb M.skew bv pv dv es M.draws es.length a w hde (hid rfl) q4 hna ⟨k1, q1, q2, q3⟩ hbase).mono ?_
      rintro r w' ⟨rfl, bv', r1, r2, r3⟩
      exact ⟨by rw [hres], RDAfter.new hD r1 (by rw [hres]) r2 r3⟩
    · have hx := hz
      rw [admErr, if_neg k1] at hx
      have q1 : a.kind = 2 ∨ a.kind = 3 ∨ a.kind = 4 := by
        by_cases h : a.kind = 2 ∨ a.kind = 3 ∨ a.kind = 4
        · exact h
        · rw [if_neg h] at hx; omega
      rw [if_pos q1] at hx
      cases h : es.findIdx? (fun e => e.name == a.name) with
      | none => rw [findE_no es _ h] at hx; simp at hx
      | some i =>
        have hf := findE_at es a.name i h
        obtain ⟨hi, hin, _⟩ := List.findIdx?_eq_some_iff_getElem.1 h
        obtain ⟨g0, hab⟩ : ∃ g0, ab = some ⟨g0, 0, none⟩ := by
          rcases hde.book.2 with ⟨_, h2⟩ | ⟨g, cap, cur, h, _⟩
          · omega
          · rw [hbv] at h; simp at h; exact ⟨g, h.1⟩
        subst hab
        subst hbv
        have hmem : es[i].be ∈ M.book := by rw [← hb]; exact List.mem_map_of_mem (List.getElem_mem hi)
        have hnum := hok.num _ hmem
        have hnum2 : 1 ≤ es[i].number ∧ es[i].number ≤ (n : Int) := hnum
        have hget : (es.map RE.be)[i]? = some es[i].be := by simp [hi]
        have hall : admB M.book a = if a.kind = 2 then ((es.map RE.be).take i ++ (es.map RE.be).drop (i + 1), 0) else if a.kind = 3 then ((es.map RE.be).set i (es[i].be.rekeyed a.key), 0) else if a.pol = false then (es.map RE.be, 1) else ((es.map RE.be).set i (es[i].be.repol a), 0) := by
          rw [← hb, admB, if_neg k1, if_pos q1, be_at, h]
          simp only [hget]
        by_cases k2 : a.kind = 2
        · have hres : admB M.book a = ((es.take i ++ es.drop (i + 1)).map RE.be, 0) := by
            rw [hall, if_pos k2]
            simp [List.map_take, List.map_drop]
          refine (radmin_del base yb M.skew g0 cb pv dv es M.draws es.length i a w hde (hid rfl) hlen k2 hf hi hi hbase).mono ?_
          rintro r w' ⟨rfl, bv', r1, r2, r3⟩
          exact ⟨by rw [hres], RDAfter.new hD r1 (by rw [hres]) r2 r3⟩
        · by_cases k3 : a.kind = 3
          · have hres : admB M.book a = ((es.set i (es[i].rekeyed a.key)).map RE.be, 0) := by
              rw [hall, if_neg k2, if_pos k3]
              simp [List.map_set, RE.rekeyed, BE.rekeyed, RE.be]
            refine (radmin_rekey base yb M.skew g0 cb pv dv es M.draws es.length i a w hde (hid rfl) hlen k3 hf hi hi (by omega) (by omega)).mono ?_
            rintro r w' ⟨rfl, r1, r2⟩
            exact ⟨by rw [hres], RDAfter.inPlace hD r1 (by rw [hres]) r2 rfl⟩
          · have k4 : a.kind = 4 := by omega
            have hp : a.pol = true := by
              rw [hf] at hx
              cases h : a.pol with
              | true => rfl
              | false => simp [h, k4] at hx; omega
            have hres : admB M.book a = ((es.set i (es[i].repol a)).map RE.be, 0) := by
              rw [hall, if_neg k2, if_neg k3, hp]
              have hnm : es[i].name = a.name := by simpa using hin
              simp [List.map_set, RE.repol, BE.repol, RE.be, hnm]
            refine (radmin_repol base yb M.skew g0 cb pv dv es M.draws es.length i a w hde (hid rfl) hlen k4 hf hi hi hp).mono ?_
            rintro r w' ⟨rfl, r1, r2⟩
            exact ⟨by rw [hres], RDAfter.inPlace hD r1 (by rw [hres]) r2 rfl⟩
  · have hsame := adm_same M.book a (by rw [herr]; exact hz)
    by_cases k4 : a.kind = 4 ∧ 0 ≤ findE es a.name
    · have hx := hz
      cases h : es.findIdx? (fun e => e.name == a.name) with
      | none => have := findE_no es _ h; omega
      | some i =>
        have hf := findE_at es a.name i h
        obtain ⟨hi, hin, _⟩ := List.findIdx?_eq_some_iff_getElem.1 h
        obtain ⟨g0, hab⟩ : ∃ g0, ab = some ⟨g0, 0, none⟩ := by
          rcases hde.book.2 with ⟨_, h2⟩ | ⟨g, cap, cur, h, _⟩
          · omega
          · rw [hbv] at h; simp at h; exact ⟨g, h.1⟩
        subst hab
        subst hbv
        have hv : admErr es a = if a.pol = false then 1 else 0 := by
          rw [admErr, if_neg (by omega), if_pos (by omega), if_neg (by omega)]
          simp [k4.1]
        have hp : a.pol = false := by
          cases h : a.pol with
          | false => rfl
          | true => rw [hv, h] at hz; simp at hz
        have h1 : (admB M.book a).2 = 1 := by rw [herr, hv, hp]; rfl
        refine (radmin_wrong base yb M.skew g0 cb pv dv es M.draws es.length i a w hde (hid rfl) hlen k4.1 hf hi hi hp).mono ?_
        rintro r w' ⟨rfl, r1⟩
        exact ⟨by rw [h1], RDAfter.same hD hsame r1⟩
    · refine (radmin_err base yb M.skew bv pv dv es M.draws es.length a w hde (hid rfl) (by omega) hna (hid hz) (hid (fun h => ?_))).mono ?_
      · by_cases h2 : 0 ≤ findE es a.name
        · exact absurd ⟨h, h2⟩ k4
        · omega
      · rintro r w' ⟨rfl, r1⟩
        exact ⟨by rw [herr], RDAfter.same hD hsame r1⟩
end Go.Proofs.YtbanfbpfapjfcaaGreatDoor
