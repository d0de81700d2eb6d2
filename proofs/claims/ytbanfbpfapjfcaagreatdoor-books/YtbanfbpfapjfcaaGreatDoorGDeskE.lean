/-
  Contract of the document's add. Conditions: in each statement.
  Contract of the document's Admin where it refuses, and where it adds. Conditions: in each statement.
  Contract of the document's Admin where it adds. Conditions: in the statement.
  Contract of the law's pick; a row of one's own, one of whose cells is set. Conditions: in each statement.
-/
import Derived.Test.YtbanfbpfapjfcaaGreatDoorGDeskB
import Derived.Test.YtbanfbpfapjfcaaGreatDoorGRows2
import Derived.Deep.CutBlock
namespace Go.Proofs.YtbanfbpfapjfcaaGreatDoor
open Go.RowKit
set_option maxRecDepth 100000

abbrev RE.arr (e : RE) : Array Value := #[.int .i64 e.k, .string ⟨e.name.toArray⟩, .int .u64 (e.akey.toNat : Int), .int .i64 e.life, .int .i64 e.renew, .int .i64 e.expire, .int .i64 e.flags, .int .i64 e.number, .int .u64 (e.key.toNat : Int), .int .u64 (e.before.toNat : Int)]
theorem Tryz.infoRE : (Tryz.prog.info? 230).map (fun i => (i.zero, i.size, i.bytes)) = some (some (.agg #[.int .i64 0, .string ⟨#[]⟩, .int .u64 0, .int .i64 0, .int .i64 0, .int .i64 0, .int .i64 0, .int .i64 0, .int .u64 0, .int .u64 0]), 10, 88) := by kernel_rfl
/-- Where an entry is put. -/
def insAt : List RE → List UInt8 → Nat
  | [], _ => 0
  | x :: es, l => if Op.bytesLess x.name l = true then insAt es l + 1 else 0
def addE (es : List RE) (e : RE) : List RE := es.take (insAt es e.name) ++ [e] ++ es.drop (insAt es e.name)
theorem insAt_le (es : List RE) (l : List UInt8) : insAt es l ≤ es.length := by
  induction es with
  | nil => exact Nat.le_refl _
  | cons x es ih => simp only [insAt, List.length_cons]; split <;> omega
theorem insAt_stop {l : List UInt8} : ∀ {es : List RE} {k : Nat} (hk : k < es.length), (∀ j (hj : j < es.length), j < k → Op.bytesLess es[j].name l = true) → Op.bytesLess es[k].name l = false → insAt es l = k := by
  intro es
  induction es with
  | nil => intro k hk; simp at hk
  | cons x es ih =>
    intro k hk hb h
    cases k with
    | zero =>
      have h0 : Op.bytesLess x.name l = false := h
      rw [insAt, if_neg (by rw [h0]; simp)]
    | succ k =>
      have h0 : Op.bytesLess x.name l = true := hb 0 (by simp) (by omega)
      have := ih (k := k) (by simpa using hk) (fun j hj hjk => hb (j + 1) (by simpa using hj) (by omega)) h
      rw [insAt, if_pos h0, this]
theorem insAt_all {l : List UInt8} : ∀ {es : List RE}, (∀ j (hj : j < es.length), Op.bytesLess es[j].name l = true) → insAt es l = es.length := by
  intro es
  induction es with
  | nil => intro _; rfl
  | cons x es ih =>
    intro hb
    have h0 : Op.bytesLess x.name l = true := hb 0 (by simp)
    rw [insAt, if_pos h0, ih (fun j hj => hb (j + 1) (by simpa using hj)), List.length_cons]
theorem reCells_length (l : List RE) : (reCells l).length = l.length * 10 := by
  induction l with
  | nil => rfl
  | cons x l ih => simp only [reCells, List.map_cons, List.flatten_cons, List.length_append, List.length_cons] at *; rw [ih]; show 10 + _ = _; omega
theorem reCells_append (a b : List RE) : reCells (a ++ b) = reCells a ++ reCells b := by simp [reCells]
theorem reCells_take (l : List RE) (k : Nat) (h : k ≤ l.length) : (reCells l).take (k * 10) = reCells (l.take k) := by
  have : reCells l = reCells (l.take k) ++ reCells (l.drop k) := by rw [← reCells_append, List.take_append_drop]
  rw [this, List.take_append_of_le_length (by rw [reCells_length, List.length_take]; omega), List.take_of_length_le (by rw [reCells_length, List.length_take]; omega)]
theorem reCells_drop (l : List RE) (k : Nat) (h : k ≤ l.length) : (reCells l).drop (k * 10) = reCells (l.drop k) := by
  have : reCells l = reCells (l.take k) ++ reCells (l.drop k) := by rw [← reCells_append, List.take_append_drop]
  rw [this, List.drop_append_of_le_length (by rw [reCells_length, List.length_take]; omega), List.drop_of_length_le (by rw [reCells_length, List.length_take]; omega), List.nil_append]
theorem reCells_one (l : List RE) : ∀ u ∈ reCells l, u.oneCell' = true := by
  intro u hu
  simp only [reCells, List.mem_flatten, List.mem_map] at hu
  obtain ⟨_, ⟨x, _, rfl⟩, hu⟩ := hu
  simp only [RE.cells, List.mem_cons, List.not_mem_nil, or_false] at hu
  rcases hu with rfl | rfl | rfl | rfl | rfl | rfl | rfl | rfl | rfl | rfl <;> rfl
theorem CAt.take {w : World} {ao : Option Addr} {cs : List Value} (h : CAt w ao cs) (k : Nat) : CAt w ao (cs.take k) := fun j u hu => h j u (by
  have hj := (List.getElem?_eq_some_iff.1 hu).1
  rw [List.length_take] at hj
  rw [List.getElem?_take_of_lt (by omega)] at hu
  exact hu)

/-- The row lies in new memory. -/
def NewAt (n : Nat) (v : Value) : Prop := ∀ g, v.ownBlock = some g → n ≤ g

set_option maxHeartbeats 4000000 in
theorem radd_any (base pb : Nat) (skew : Int) (bv pv dv : Value) (es : List RE) (ds : List UInt8) (m : Nat) (e : RE) (w : World) (hD : RDesk w base pb skew bv pv dv es ds) (hm : Hid (es.length = m)) (hml : m ≤ 1000) (hbase : base ≤ w.heap.size) :
    Calls Tryz.prog 111 #[.pointer (some ⟨pb, 0, none⟩), .agg e.arr] w fun r w' => r = .returned (.tuple #[]) ∧ ∃ bv', RDesk w' base pb skew bv' pv dv (addE es e) ds ∧ w.grownBy w' (some pb) ∧ NewAt w.heap.size bv' := by
  obtain ⟨ie, hie, he0, he1, he2⟩ := info_parts Tryz.infoRE
  obtain ⟨ab, cb, hbv⟩ := own_shape hD.book
  rw [hm.out] at hbv
  subst hbv
  have G0 : w.grownBy (w.alloc (.cells e.arr 230)) none := World.grownBy_alloc w _ none
  have c1 := (hD.grown G0).blk.cell 1
  simp only [List.getElem?_toArray, List.getElem?_cons_zero, List.getElem?_cons_succ] at c1
  obtain ⟨at0, hat0⟩ : ∃ k, k = insAt es e.name := ⟨_, rfl⟩
  have hatm : at0 ≤ m := by rw [hat0, ← hm.out]; exact insAt_le _ _
  go_enter Tryz.func111, Tryz.ntmps111
  go_upto_block 0 with fail
  go_cut [4] (fun i wx => i = .int .i64 at0 ∧ ∃ q, wx = (w.alloc (.cells e.arr 230)).drewN q)
  case first =>
    go_wp2_with fail
    go_loopw [4] (fun i wr => ∃ (k q : Nat), k ≤ m ∧ i = .int .i64 k ∧ Hid (∀ j (hj : j < es.length), j < k → Op.bytesLess es[j].name e.name = true) ∧ wr = (w.alloc (.cells e.arr 230)).drewN q) (fun i _ => m - (intOf i).toNat)
    case atStart => exact ⟨0, 0, Nat.zero_le _, rfl, hid (fun j _ hj => by omega), rfl⟩
    case round =>
      obtain ⟨k, q, hk, rfl, HL, rfl⟩ := hrel
      by_cases hlt : k < m
      · have hlt' : k < es.length := by rw [hm.out]; exact hlt
        have hkI : (k : Int) < (m : Int) := by omega
        have hk0 : (0 : Int) ≤ (k : Int) := by omega
        obtain ⟨g0, hab⟩ : ∃ g0, ab = some ⟨g0, 0, none⟩ := by
          rcases hD.book.2 with ⟨h, h2⟩ | ⟨g, cap, cur, h, _⟩
          · omega
          · simp at h; exact ⟨g, h.1⟩
        subst hab
        have hcell : (w.alloc (.cells e.arr 230)).cell? ⟨g0, k * 10 + 1, none⟩ = some (.string ⟨es[k].name.toArray⟩) := by
          have hbk := (hD.grown G0).book
          rw [hm.out] at hbk
          rw [hbk.cellAt (k * 10 + 1) (by omega), reCells_get es k 1 hlt' (by omega)]
          rfl
        cases hls : Op.bytesLess es[k].name e.name with
        | true =>
          have HL2 : Hid (∀ j (hj : j < es.length), j < k + 1 → Op.bytesLess es[j].name e.name = true) := by
            intro j hj hj2
            by_cases hjk : j < k
            · exact HL.out j hj hjk
            · have : j = k := by omega
              subst this
              exact hls
          clear hD
          go_wp2_with fail
          go_quiet (fail)
          go_wp2
          go_roundw
          case rel => exact ⟨k + 1, _, by omega, by go_num, HL2, rfl⟩
          case measure => simp [intOf]; omega
        | false =>
          have hke : at0 = k := by rw [hat0]; exact insAt_stop hlt' (fun j hj hjk => HL.out j hj hjk) hls
          subst hke
          clear hD hat0
          go_wp2_with fail
          go_quiet (fail)
          go_wp2
          go_meet
          case rel => exact ⟨rfl, q + nq, by rw [World.drewN_drewN]⟩
      · have hkm : k = m := by omega
        subst hkm
        have hkI : ¬ (k : Int) < (k : Int) := by omega
        have hke : at0 = k := by rw [hat0, insAt_all (fun j hj => HL.out j hj (by rw [← hm.out]; exact hj)), hm.out]
        subst hke
        clear hD hat0
        go_wp2_with fail
        go_quiet (fail)
        go_wp2
        go_meet
        case rel => exact ⟨rfl, q + nq, by rw [World.drewN_drewN]⟩
  case rest =>
    obtain ⟨rfl, q, rfl⟩ := hcut
    have HAt : Hid (at0 = insAt es e.name) := hat0
    clear hat0 c1
    have Gq := gb_drewN G0 q
    have hDq := hD.grown Gq
    have hpb := hD.blk.lt
    have hbl := fun g h => (hD.book.lt g h).2
    have hbkq := hDq.book
    rw [hm.out] at hbkq
    have hcatq := own_cat hbkq
    have hcap := own_cap hbkq
    have HLe : Hid ((reCells es).length = m * 10) := by show _ = _; rw [reCells_length, hm.out]
    have hto := fun w => srow_to (P := Tryz.prog) 221 230 ie 10 Tryz.underlying221 hie he1 ab m cb at0 (at0 : Int) rfl (by omega) w
    obtain ⟨af, hfrom, hcatf, hncf⟩ := srow_from (P := Tryz.prog) 221 230 ie 10 Tryz.underlying221 hie he1 ab m cb at0 (at0 : Int) rfl hatm hcap.1 HLe.out
    have hsrc1 : CAt ((w.alloc (.cells e.arr 230)).drewN q) ab (reCells (es.take at0)) := by
      rw [← reCells_take es at0 (by rw [hm.out]; exact hatm)]
      exact hcatq.take _
    have hl1 : (reCells (es.take at0)).length = at0 * 10 := by rw [reCells_length, List.length_take, hm.out]; congr 1; omega
    have hEq := (Blk.new w e.arr 230).drewN q
    have c1q := hDq.blk.cell 1
    simp only [List.getElem?_toArray, List.getElem?_cons_zero, List.getElem?_cons_succ] at c1q
    have hx1 : ab = none → cb = 0 ∧ at0 = 0 := fun h => ⟨hcap.2 h, by have := hcap.2 h; omega⟩
    have hx2 : 0 + at0 ≤ maxLen := by unfold maxLen; omega
    have hx3 : (0 + at0) * 88 ≤ 140737488355328 := by omega
    go_wp2_with (at_builtin; refine wpList_append_any _ rfl _ _ 221 rfl (w.heap.size + 1) 230 ie _ 10 88 Tryz.underlying221 hie he0 he1 he2 rfl (by decide) (.slice none 0 0) 0 [] rfl (World.ownsRow_nil _ _ _ _) ab at0 cb (reCells (es.take at0)) rfl hl1 hsrc1 hx1 (reCells_one _) hx2 hx3 ?b1 ?_)
    case b1 => show _ ≤ (w.alloc _).heap.size; simp
    intro v1 w1 hown1 hg1
    have hg1' : ((w.alloc (.cells e.arr 230)).drewN q).grownBy w1 none := by simpa [Value.ownBlock] using hg1
    have G1 := gb_trans Gq hg1'
    have hown1' : w1.ownsRow (w.heap.size + 1) 230 10 v1 at0 (reCells (es.take at0)) := by simpa using hown1
    obtain ⟨a1, k1, rfl⟩ := own_shape hown1'
    have hs1 : w.heap.size + 1 ≤ w1.heap.size := by have := hg1'.size; have h2 : ((w.alloc (.cells e.arr 230)).drewN q).heap.size = w.heap.size + 1 := by show (w.alloc _).heap.size = _; simp
                                                    omega
    have hE1 := hEq.grown hg1' (by simp)
    have hD1 := hDq.grown hg1'
    have f0 := hE1.cell 0
    have f1 := hE1.cell 1
    have f2 := hE1.cell 2
    have f3 := hE1.cell 3
    have f4 := hE1.cell 4
    have f5 := hE1.cell 5
    have f6 := hE1.cell 6
    have f7 := hE1.cell 7
    have f8 := hE1.cell 8
    have f9 := hE1.cell 9
    simp only [RE.arr, List.getElem?_toArray, List.getElem?_cons_zero, List.getElem?_cons_succ] at f0 f1 f2 f3 f4 f5 f6 f7 f8 f9
    have hnews : CAt (w1.alloc (.cells e.arr 230)) (some ⟨w1.heap.size, 0, none⟩) e.cells := by
      intro j u hu
      refine ⟨w1.heap.size, 0, rfl, ?_⟩
      rw [Nat.zero_add, World.cell?_alloc_at (hn := rfl)]
      simpa [RE.cells] using hu
    have hy1 : (some (⟨w1.heap.size, 0, none⟩ : Addr)) = none → (1 : Nat) = 0 ∧ (1 : Nat) = 0 := fun h => by cases h
    have hy2 : at0 + 1 ≤ maxLen := by unfold maxLen; omega
    have hy3 : (at0 + 1) * 88 ≤ 140737488355328 := by omega
    have hone : ∀ u ∈ e.cells, u.oneCell' = true := fun u hu => reCells_one [e] u (by simpa [reCells] using hu)
    clear hown1 hg1 hsrc1 hx1 hto c1q hcatq hbkq
    go_wp2_with (at_builtin; refine wpList_append_any _ rfl _ _ 221 rfl (w.heap.size + 1) 230 ie _ 10 88 Tryz.underlying221 hie he0 he1 he2 rfl (by decide) (.slice a1 at0 k1) at0 (reCells (es.take at0)) rfl (hown1'.alloc _) (some ⟨w1.heap.size, 0, none⟩) 1 1 e.cells rfl rfl hnews hy1 hone hy2 hy3 ?b2 ?_)
    case b2 => simp; omega
    intro v2 w2 hown2 hg2
    have hne1 : ∀ g, g < w.heap.size + 1 → some g ≠ (Value.slice a1 at0 k1).ownBlock := fun g hg e => by have := (hown1'.lt g e.symm).1; omega
    have hB2 := (hD1.blk.alloc (.cells e.arr 230)).grown hg2 (hne1 _ (by omega))
    have c12 := hB2.cell 1
    simp only [List.getElem?_toArray, List.getElem?_cons_zero, List.getElem?_cons_succ] at c12
    have keep2 : ∀ g, g < w.heap.size → w2.heap[g]? = w.heap[g]? := fun g hg => by
      rw [hg2.block g (by simp; omega) (hne1 g (by omega)), Below.heap_alloc w1 _ g (by omega), G1.block g hg (by simp)]
    have hbk0 := hD.book
    rw [hm.out] at hbk0
    have hcat2 : CAt w2 ab (reCells es) := (own_cat hbk0).keep (fun b off h => keep2 b (by
      subst h
      rcases hbk0.2 with ⟨h, _⟩ | ⟨g, cap, cur, h, _⟩
      · simp at h
      · simp at h; exact hbl b (by rw [h.1.1]; simp [Value.ownBlock])))
    have hsrc3 := hcatf w2 hcat2
    rw [reCells_drop es at0 (by rw [hm.out]; exact hatm)] at hsrc3
    have hl3 : (reCells (es.drop at0)).length = (m - at0) * 10 := by rw [reCells_length, List.length_drop, hm.out]
    have hs2 : w.heap.size + 1 ≤ w2.heap.size := by have := hg2.size; simp at this; omega
    obtain ⟨a2, k2, rfl⟩ := own_shape hown2
    have hz1' : af = none → cb - at0 = 0 ∧ m - at0 = 0 := fun h => ⟨hncf hcap.2 h, by have := hncf hcap.2 h; omega⟩
    have hz2' : at0 + 1 + (m - at0) ≤ maxLen := by unfold maxLen; omega
    have hz3' : (at0 + 1 + (m - at0)) * 88 ≤ 140737488355328 := by omega
    have hne2 : ∀ g, g < w.heap.size + 1 → some g ≠ (Value.slice a2 (at0 + 1) k2).ownBlock := fun g hg e => by have := (hown2.lt g e.symm).1; omega
    clear f0 f1 f2 f3 f4 f5 f6 f7 f8 f9 hE1 hnews hone hcatf hcat2
    go_wp2_with (at_builtin; refine wpList_append_any _ rfl _ _ 221 rfl (w.heap.size + 1) 230 ie _ 10 88 Tryz.underlying221 hie he0 he1 he2 rfl (by decide) (.slice a2 (at0 + 1) k2) (at0 + 1) _ rfl hown2 af (m - at0) (cb - at0) (reCells (es.drop at0)) rfl hl3 hsrc3 hz1' (reCells_one _) hz2' hz3' hs2 ?_)
    intro v3 w3 hown3 hg3
    obtain ⟨a3, k3, rfl⟩ := own_shape hown3
    have hB3 := hB2.grown hg3 (hne2 _ (by omega))
    have c13 := hB3.cell 1
    have c13f := hB3.frozen 1
    simp only [List.getElem?_toArray, List.getElem?_cons_zero, List.getElem?_cons_succ] at c13
    have keep3 : ∀ g, g < w.heap.size → w3.heap[g]? = w.heap[g]? := fun g hg => by
      have := hg2.size
      simp at this
      rw [hg3.block g (by omega) (hne2 g (by omega)), keep2 g hg]
    have hs3 := hg3.size
    have HAE : Hid (addE es e = es.take at0 ++ [e] ++ es.drop at0) := by show _ = _; rw [addE, ← HAt.out]
    have hlen : (es.take at0 ++ [e] ++ es.drop at0).length = at0 + 1 + (m - at0) := by simp [hm.out]; omega
    have hrow : w3.ownsRow (w.heap.size + 1) 230 10 (.slice a3 (at0 + 1 + (m - at0)) k3) (at0 + 1 + (m - at0)) (reCells (es.take at0 ++ [e] ++ es.drop at0)) := by
      rw [reCells_append, reCells_append]
      have e1 : reCells [e] = e.cells := by simp [reCells]
      rw [e1, List.append_assoc]
      exact hown3
    have hos3 : w3.os = w.os := (hg3.os.trans hg2.os).trans (G1.os)
    have htp3 : w3.tape = w.tape := (hg3.tape.trans hg2.tape).trans (G1.tape)
    have hou3 : w3.output = w.output := (hg3.output.trans hg2.output).trans (G1.output)
    clear hg1' hg2 hg3 hown1' hown2 hown3 c12 hsrc3 keep2 hB2 hD1 hDq Gq G1 hEq hbk0
    have GB : w.grownBy (w3.setCell ⟨pb, 1, none⟩ (.slice a3 (at0 + 1 + (m - at0)) k3)) (some pb) :=
      ⟨hos3, htp3, hou3, by rw [World.size_setCell]; omega, fun g hg hr => (Below.heap_setCell w3 _ _ g (by show g ≠ pb; intro e; exact hr (by rw [e]))).trans (keep3 g hg)⟩
    have RD : RDesk (w3.setCell ⟨pb, 1, none⟩ (.slice a3 (at0 + 1 + (m - at0)) k3)) base pb skew (.slice a3 (at0 + 1 + (m - at0)) k3) pv dv (addE es e) ds := by
      refine ⟨by simpa using hB3.set 1 (.slice a3 (at0 + 1 + (m - at0)) k3), ?_, hD.draws.kept GB (.inr hD.dne), hD.here, fun h => by have := (hrow.lt _ h).1; omega, hD.dne, ?_⟩
      · rw [HAE.out, hlen]
        exact own_down (ownsRow_setCell_below hrow (by show pb < w.heap.size + 1; omega) _) (by omega)
      · cases hx : (Value.slice a3 (at0 + 1 + (m - at0)) k3).ownBlock with
        | none => exact .inl rfl
        | some g =>
          refine .inr (fun e => ?_)
          have h1 := (hrow.lt g hx).1
          have h2 := (hD.draws.lt g e.symm).2
          omega
    have NA : NewAt w.heap.size (.slice a3 (at0 + 1 + (m - at0)) k3) := fun g h => by have := (hrow.lt g h).1; omega
    clear hD hrow hB3 keep3 hbl
    go_wp2
    go_end0
    exact ⟨rfl, _, RD, GB, NA⟩
end Go.Proofs.YtbanfbpfapjfcaaGreatDoor
namespace Go.Proofs.YtbanfbpfapjfcaaGreatDoor
open Go.RowKit
set_option maxRecDepth 100000

/-- What Admin answers; 0: it is done. -/
def admErr (es : List RE) (a : Adm) : Int :=
  if a.kind = 1 then (if isNameL a.name = false then 4 else if a.pol = false then 1 else if 0 ≤ findE es a.name then 5 else if 20 ≤ es.length then 7 else 0)
  else if a.kind = 2 ∨ a.kind = 3 ∨ a.kind = 4 then (if findE es a.name < 0 then 6 else if a.kind = 4 ∧ a.pol = false then 1 else 0)
  else 1
/-- An entry as it is added. -/
def newE (a : Adm) : RE := ⟨a.kind, a.name, a.key, a.life, a.renew, a.expire, a.flags, 1, a.key, 0⟩
theorem findE_bounds (es : List RE) (l : List UInt8) : -1 ≤ findE es l ∧ findE es l < es.length ∨ (findE es l = -1) := by
  unfold findE
  split
  · rename_i i h
    have := (List.findIdx?_eq_some_iff_getElem.1 h).1
    left
    omega
  · exact .inr rfl

/-- It is refused. -/
def AdmBad (es : List RE) (a : Adm) (m : Nat) (fi : Int) (pl : Bool) : Prop := es.length = m ∧ admErr es a ≠ 0 ∧ (a.kind = 4 → findE es a.name < 0) ∧ fi = findE es a.name ∧ pl = a.pol
theorem AdmBad.err {es : List RE} {ak : Int} {an : List UInt8} {key : UInt64} {life renew expire flags : Int} {m : Nat} {fi : Int} {pl : Bool} (h : AdmBad es ⟨ak, an, key, life, renew, expire, flags⟩ m fi pl) :
    admErr es ⟨ak, an, key, life, renew, expire, flags⟩ = (if ak = 1 then (if isNameL an = false then 4 else if pl = false then 1 else if 0 ≤ fi then 5 else if 20 ≤ m then 7 else 0)
    else if ak = 2 ∨ ak = 3 ∨ ak = 4 then (if fi < 0 then 6 else if ak = 4 ∧ pl = false then 1 else 0) else 1) := by
  obtain ⟨rfl, _, _, rfl, rfl⟩ := h
  rfl

set_option maxHeartbeats 4000000 in
theorem radmin_err (base pb : Nat) (skew : Int) (bv pv dv : Value) (es : List RE) (ds : List UInt8) (m : Nat) (a : Adm) (w : World) (hD : RDesk w base pb skew bv pv dv es ds) (hm : Hid (es.length = m)) (hml : m ≤ 1000) (hna : a.name.length ≤ 9223372036854775807) (herr : Hid (admErr es a ≠ 0)) (hk : Hid (a.kind = 4 → findE es a.name < 0)) :
    Calls Tryz.prog 76 #[.pointer (some ⟨pb, 0, none⟩), .agg a.cells] w fun r w' => r = .returned (.int .i64 (admErr es a)) ∧ w.grownBy w' none := by
  obtain ⟨ab, cb, hbv⟩ := own_shape hD.book
  rw [hm.out] at hbv
  subst hbv
  obtain ⟨fi, hfi⟩ : ∃ fi, fi = findE es a.name := ⟨_, rfl⟩
  obtain ⟨pl, hpl⟩ : ∃ pl, pl = a.pol := ⟨_, rfl⟩
  have hbad : AdmBad es a m fi pl := ⟨hm.out, herr.out, hk.out, hfi, hpl⟩
  have hrp := fun w => rpolicy_any a w
  rw [← hpl] at hrp
  obtain ⟨ak, an, key, life, renew, expire, flags⟩ := a
  obtain ⟨T, hT⟩ : ∃ T : ByteArray, T = ⟨an.toArray⟩ := ⟨_, rfl⟩
  simp only [Adm.cells] at hrp ⊢
  simp only at hfi hna
  rw [← hT] at hrp ⊢
  have G0 : w.grownBy (w.alloc (.cells #[.int .i64 ak, .string T, .int .u64 (key.toNat : Int), .int .i64 life, .int .i64 renew, .int .i64 expire, .int .i64 flags] 61)) none := World.grownBy_alloc w _ none
  have hB0 := Blk.new w #[.int .i64 ak, .string T, .int .u64 (key.toNat : Int), .int .i64 life, .int .i64 renew, .int .i64 expire, .int .i64 flags] 61
  have hF := rfind_any base pb skew _ pv dv es ds an m T _ (hD.grown G0) hm hml (hid hT)
  rw [← hfi] at hF
  have hNm := fun w => risName_any an an.length T w (hid hT) (hid rfl) hna
  clear hfi hpl herr hk hT
  go_enter Tryz.func76, Tryz.ntmps76
  go_wp2_with fail
  refine hF.mono ?_
  rintro e w1 ⟨rfl, hg1⟩
  have hB1 := hB0.grown hg1 (by simp)
  have G1 := gb_trans G0 hg1
  have f0 := hB1.cell 0
  have f1 := hB1.cell 1
  have f2 := hB1.cell 2
  have f3 := hB1.cell 3
  have f4 := hB1.cell 4
  have f5 := hB1.cell 5
  have f6 := hB1.cell 6
  simp only [List.getElem?_toArray, List.getElem?_cons_zero, List.getElem?_cons_succ] at f0 f1 f2 f3 f4 f5 f6
  clear hF hg1
  go_wp2_with fail
  refine (hrp _).mono ?_
  rintro e w2 ⟨rfl, hg2⟩
  have hB2 := hB1.grown hg2 (by simp)
  have G2 := gb_trans G1 hg2
  have hD2 := hD.grown G2
  clear f0 f1 f2 f3 f4 f5 f6 hrp hg2 hB1
  have f0 := hB2.cell 0
  have f1 := hB2.cell 1
  have c1 := hD2.blk.cell 1
  simp only [List.getElem?_toArray, List.getElem?_cons_zero, List.getElem?_cons_succ] at f0 f1 c1
  by_cases k1 : ak = 1
  · have b1 : (ak == 1) = true := by rw [beq_iff_eq]; exact k1
    have hE1 := hbad.err
    rw [if_pos k1] at hE1
    have HE1 := hid hE1
    clear k1 hE1
    go_wp2_with fail
    refine (hNm _).mono ?_
    rintro e w3 ⟨rfl, rfl⟩
    clear hNm
    have hE1 := HE1.out
    clear HE1
    cases hin : isNameL an with
    | false =>
      rw [if_pos hin] at hE1
      have HE := hid hE1
      clear hE1 hin
      go_wp2
      go_ret
      exact ⟨ret_i64 (by rw [HE.out]), G2⟩
    | true =>
      rw [if_neg (by rw [hin]; simp)] at hE1
      cases pl with
      | false =>
        rw [if_pos rfl] at hE1
        have HE := hid hE1
        clear hE1 hin
        go_wp2
        go_ret
        exact ⟨ret_i64 (by rw [HE.out]), G2⟩
      | true =>
        rw [if_neg (by simp)] at hE1
        by_cases hf : 0 ≤ fi
        · rw [if_pos hf] at hE1
          have HE := hid hE1
          clear hE1 hin
          go_wp2
          go_ret
          exact ⟨ret_i64 (by rw [HE.out]), G2⟩
        · rw [if_neg hf] at hE1
          by_cases h20 : 20 ≤ m
          · have h20' : (20 : Int) ≤ (m : Int) := by omega
            rw [if_pos h20] at hE1
            have HE := hid hE1
            clear hE1 hin
            go_wp2
            go_ret
            exact ⟨ret_i64 (by rw [HE.out]), G2⟩
          · rw [if_neg h20] at hE1
            exact absurd hE1 hbad.2.1
  · have b1 : (ak == 1) = false := by rw [beq_eq_false_iff_ne]; exact k1
    have hE1 := hbad.err
    rw [if_neg k1] at hE1
    by_cases k2 : ak = 2 ∨ ak = 3 ∨ ak = 4
    · rw [if_pos k2] at hE1
      by_cases hf : fi < 0
      · rw [if_pos hf] at hE1
        have HE := hid hE1
        clear hE1 hNm
        rcases k2 with k2 | k2 | k2
        all_goals
          subst k2
          go_wp2
          go_ret
          exact ⟨ret_i64 (by rw [HE.out]), G2⟩
      · rw [if_neg hf] at hE1
        have h4 : ¬ ak = 4 := fun h => hf (by rw [hbad.2.2.2.1]; exact hbad.2.2.1 h)
        rw [if_neg (fun h => h4 h.1)] at hE1
        exact absurd hE1 hbad.2.1
    · rw [if_neg k2] at hE1
      have HE := hid hE1
      have b2 : (ak == 2) = false := by rw [beq_eq_false_iff_ne]; omega
      have b3 : (ak == 3) = false := by rw [beq_eq_false_iff_ne]; omega
      have b4 : (ak == 4) = false := by rw [beq_eq_false_iff_ne]; omega
      clear hE1 hNm
      go_wp2
      go_ret
      exact ⟨ret_i64 (by rw [HE.out]), G2⟩
end Go.Proofs.YtbanfbpfapjfcaaGreatDoor
namespace Go.Proofs.YtbanfbpfapjfcaaGreatDoor
open Go.RowKit
set_option maxRecDepth 100000

/-- It is added. -/
def AdmAdd (es : List RE) (a : Adm) : Prop := a.kind = 1 ∧ isNameL a.name = true ∧ a.pol = true ∧ findE es a.name = -1

set_option maxHeartbeats 2000000 in
theorem radmin_add (base pb : Nat) (skew : Int) (bv pv dv : Value) (es : List RE) (ds : List UInt8) (m : Nat) (a : Adm) (w : World) (hD : RDesk w base pb skew bv pv dv es ds) (hm : Hid (es.length = m)) (hml : m < 20) (hna : a.name.length ≤ 9223372036854775807) (hok : AdmAdd es a) (hbase : base ≤ w.heap.size) :
    Calls Tryz.prog 76 #[.pointer (some ⟨pb, 0, none⟩), .agg a.cells] w fun r w' => r = .returned (.int .i64 0) ∧ ∃ bv', RDesk w' base pb skew bv' pv dv (addE es (newE a)) ds ∧ w.grownBy w' (some pb) ∧ NewAt w.heap.size bv' := by
  obtain ⟨ab, cb, hbv⟩ := own_shape hD.book
  rw [hm.out] at hbv
  subst hbv
  have hrp := fun w => rpolicy_any a w
  rw [hok.2.2.1] at hrp
  have hF := fun w hx => rfind_any base pb skew (.slice ab m cb) pv dv es ds a.name m ⟨a.name.toArray⟩ w hx hm (by omega) (hid rfl)
  rw [hok.2.2.2] at hF
  have hNm := fun w => risName_any a.name a.name.length ⟨a.name.toArray⟩ w (hid rfl) (hid rfl) hna
  rw [hok.2.1] at hNm
  have hAd := fun w hx hb => radd_any base pb skew (.slice ab m cb) pv dv es ds m (newE a) w hx hm (by omega) hb
  obtain ⟨ak, an, key, life, renew, expire, flags⟩ := a
  obtain rfl : ak = 1 := hok.1
  simp only [Adm.cells, newE, RE.arr] at hrp hF hNm hAd ⊢
  have hmI : ¬ (20 : Int) ≤ (m : Int) := by omega
  have G0 : w.grownBy (w.alloc (.cells #[.int .i64 1, .string ⟨an.toArray⟩, .int .u64 (key.toNat : Int), .int .i64 life, .int .i64 renew, .int .i64 expire, .int .i64 flags] 61)) none := World.grownBy_alloc w _ none
  have hB0 := Blk.new w #[.int .i64 1, .string ⟨an.toArray⟩, .int .u64 (key.toNat : Int), .int .i64 life, .int .i64 renew, .int .i64 expire, .int .i64 flags] 61
  have hF0 := hF _ (hD.grown G0)
  clear hF hok
  go_enter Tryz.func76, Tryz.ntmps76
  go_wp2_with fail
  refine hF0.mono ?_
  rintro e w1 ⟨rfl, hg1⟩
  have hB1 := hB0.grown hg1 (by simp)
  have G1 := gb_trans G0 hg1
  have f0 := hB1.cell 0
  have f1 := hB1.cell 1
  have f2 := hB1.cell 2
  have f3 := hB1.cell 3
  have f4 := hB1.cell 4
  have f5 := hB1.cell 5
  have f6 := hB1.cell 6
  simp only [List.getElem?_toArray, List.getElem?_cons_zero, List.getElem?_cons_succ] at f0 f1 f2 f3 f4 f5 f6
  clear hF0 hg1
  go_wp2_with fail
  refine (hrp _).mono ?_
  rintro e w2 ⟨rfl, hg2⟩
  have hB2 := hB1.grown hg2 (by simp)
  have G2 := gb_trans G1 hg2
  have hD2 := hD.grown G2
  clear f0 f1 f2 f3 f4 f5 f6 hrp hg2 hB1
  have f0 := hB2.cell 0
  have f1 := hB2.cell 1
  have f2 := hB2.cell 2
  have f3 := hB2.cell 3
  have f4 := hB2.cell 4
  have f5 := hB2.cell 5
  have f6 := hB2.cell 6
  have c1 := hD2.blk.cell 1
  simp only [List.getElem?_toArray, List.getElem?_cons_zero, List.getElem?_cons_succ] at f0 f1 f2 f3 f4 f5 f6 c1
  go_wp2_with fail
  refine (hNm _).mono ?_
  rintro e w3 ⟨rfl, rfl⟩
  clear hNm
  have hs2 := G2.size
  have hA2 := hAd _ hD2 (by omega)
  clear hAd
  go_wp2_with fail
  refine hA2.mono ?_
  rintro e w4 ⟨rfl, bv', hD4, hg4, hn4⟩
  have hpb := hD.blk.lt
  have G4 : w.grownBy w4 (some pb) := gb_trans (gb_none G2) hg4
  clear hA2 hD hD2 c1 f0 f1 f2 f3 f4 f5 f6 hB2 hB0
  go_wp2
  go_ret
  exact ⟨rfl, bv', hD4, G4, fun g h => Nat.le_trans hs2 (hn4 g h)⟩
end Go.Proofs.YtbanfbpfapjfcaaGreatDoor
namespace Go.Proofs.YtbanfbpfapjfcaaGreatDoor
open Go.RowKit
set_option maxRecDepth 100000

/-- Which of n things a number speaks of. -/
def pickZ (c : Int) (n : Nat) : Nat := ((if c < 0 then -(c + 1) else c) % (n : Int)).toNat
theorem pickZ_lt (c : Int) {n : Nat} (h : 0 < n) : pickZ c n < n := by
  unfold pickZ
  have h0 : (0 : Int) < (n : Int) := by omega
  have h1 := Int.emod_nonneg (if c < 0 then -(c + 1) else c) (show (n : Int) ≠ 0 by omega)
  have h2 := Int.emod_lt_of_pos (if c < 0 then -(c + 1) else c) h0
  omega

set_option maxHeartbeats 400000 in
theorem pick_any (c : Int) (n : Nat) (w : World) (hc0 : -9223372036854775808 ≤ c) (hc1 : c ≤ 9223372036854775807) (hn : 0 < n) (hn2 : n ≤ 9223372036854775807) :
    Calls Tryz.prog 48 #[.int .i64 c, .int .i64 (n : Int)] w fun e w' => e = .returned (.int .i64 (pickZ c n : Int)) ∧ w = w' := by
  have hn0 : (0 : Int) < (n : Int) := by omega
  have hnz : ((n : Int) == 0) = false := by rw [beq_eq_false_iff_ne]; omega
  have hnz2 : ¬ (n : Int) = 0 := by omega
  by_cases h : c < 0
  · have HP : Hid ((pickZ c n : Int) = (-(c + 1)) % (n : Int)) := by
      show _ = _
      have := Int.emod_nonneg (-(c + 1)) hnz2
      rw [pickZ, if_pos h, Int.toNat_of_nonneg this]
    have ht : Hid (Int.tmod (-(c + 1)) (n : Int) = (-(c + 1)) % (n : Int)) := Int.tmod_eq_emod_of_nonneg (by omega)
    go_enter Tryz.func48, Tryz.ntmps48
    go_wp2
    go_ret
    exact ⟨ret_i64 (by rw [HP.out, ← ht.out, Int.neg_tmod]), rfl⟩
  · have HP : Hid ((pickZ c n : Int) = c % (n : Int)) := by
      show _ = _
      have := Int.emod_nonneg c hnz2
      rw [pickZ, if_neg h, Int.toNat_of_nonneg this]
    have ht : Hid (Int.tmod c (n : Int) = c % (n : Int)) := Int.tmod_eq_emod_of_nonneg (by omega)
    go_enter Tryz.func48, Tryz.ntmps48
    go_wp2
    go_ret
    exact ⟨ret_i64 (by rw [HP.out]), rfl⟩

set_option maxHeartbeats 1000000 in
theorem sameStrings_any (cs : List (List UInt8)) (n : Nat) (a b : Option Addr) (ca cb : Nat) (w : World) (hn : Hid (cs.length = n)) (hl : n ≤ 1000000) (ha : CAt w a (cs.map fun l => .string ⟨l.toArray⟩)) (hb : CAt w b (cs.map fun l => .string ⟨l.toArray⟩)) :
    Calls Tryz.prog 125 #[.slice a n ca, .slice b n cb] w fun e w' => e = .returned (.bool true) ∧ w.grownBy w' none := by
  go_enter Tryz.func125, Tryz.ntmps125
  go_wp2
  go_loopw [5] (fun i wr => ∃ k q : Nat, k ≤ n ∧ i = .int .i64 k ∧ wr = w.drewN q) (fun i _ => n - (intOf i).toNat)
  case atStart => exact ⟨0, 0, Nat.zero_le _, rfl, rfl⟩
  case round =>
    obtain ⟨k, q, hk, rfl, rfl⟩ := hrel
    by_cases hlt : k < n
    · have hlt' : k < cs.length := by rw [hn.out]; exact hlt
      have hkI : (k : Int) < (n : Int) := by omega
      have hk0 : (0 : Int) ≤ (k : Int) := by omega
      have hget : (cs.map fun l => Value.string ⟨l.toArray⟩)[k]? = some (.string ⟨cs[k].toArray⟩) := by simp [hlt']
      obtain ⟨b1, o1, rfl, e1⟩ := ha k _ hget
      obtain ⟨b2, o2, rfl, e2⟩ := hb k _ hget
      generalize (⟨cs[k].toArray⟩ : ByteArray) = T at e1 e2
      clear ha hb hget
      go_wp2_with fail
      go_quiet (fail)
      go_wp2
      go_roundw
      case rel => exact ⟨k + 1, q + nq, by omega, by go_num, rfl⟩
      case measure => simp [intOf]; omega
    · have hkI : ¬ (k : Int) < (n : Int) := by omega
      clear ha hb
      go_wp2
      go_ret
      exact ⟨rfl, gb_drewN (World.grownBy.refl _ _) q⟩

set_option maxHeartbeats 1000000 in
theorem sameInts_any (cs : List Int) (n : Nat) (a b : Option Addr) (ca cb : Nat) (w : World) (hn : Hid (cs.length = n)) (hl : n ≤ 1000000) (ha : CAt w a (cs.map fun x => .int .i64 x)) (hb : CAt w b (cs.map fun x => .int .i64 x)) :
    Calls Tryz.prog 126 #[.slice a n ca, .slice b n cb] w fun e w' => e = .returned (.bool true) ∧ w.grownBy w' none := by
  go_enter Tryz.func126, Tryz.ntmps126
  go_wp2
  go_loopw [5] (fun i wr => ∃ k q : Nat, k ≤ n ∧ i = .int .i64 k ∧ wr = w.drewN q) (fun i _ => n - (intOf i).toNat)
  case atStart => exact ⟨0, 0, Nat.zero_le _, rfl, rfl⟩
  case round =>
    obtain ⟨k, q, hk, rfl, rfl⟩ := hrel
    by_cases hlt : k < n
    · have hlt' : k < cs.length := by rw [hn.out]; exact hlt
      have hkI : (k : Int) < (n : Int) := by omega
      have hk0 : (0 : Int) ≤ (k : Int) := by omega
      have hget : (cs.map fun x => Value.int .i64 x)[k]? = some (.int .i64 cs[k]) := by simp [hlt']
      obtain ⟨b1, o1, rfl, e1⟩ := ha k _ hget
      obtain ⟨b2, o2, rfl, e2⟩ := hb k _ hget
      generalize cs[k] = T at e1 e2
      clear ha hb hget
      go_wp2_with fail
      go_quiet (fail)
      go_wp2
      go_roundw
      case rel => exact ⟨k + 1, q + nq, by omega, by go_num, rfl⟩
      case measure => simp [intOf]; omega
    · have hkI : ¬ (k : Int) < (n : Int) := by omega
      clear ha hb
      go_wp2
      go_ret
      exact ⟨rfl, gb_drewN (World.grownBy.refl _ _) q⟩
end Go.Proofs.YtbanfbpfapjfcaaGreatDoor
